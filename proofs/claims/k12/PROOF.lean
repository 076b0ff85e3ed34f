import PyProof.Rows.All
import Wide.All
import OpenK.AllK
import Wide.FinOn
import Lean
import PyProof.EqAt
import PyProof.EqKinds
import PyProof.TupleCall
import PyProof.ZipIter
import PyProof.NeData
import PyProof.P3Eq
import PyProof.EnumFor
import PyProof.EnumMake
import PyProof.Draws
import KE.KTryMore
import KE.KIsAll
import PyProof.ExcAttrAll.ValueError
import KE.KLam
import PyProof.Cells
import PySem.Challenge.RW_roundcuts_k12_whole_cuts_keep_whole_plac
set_option Elab.async false
set_option linter.all false
set_option maxRecDepth 100000
set_option maxHeartbeats 4000000
set_option exponentiation.threshold 3000
set_option bootstrap.genMatcherCode false
set_option genSizeOfSpec false
set_option genInjectivity false
abbrev xhp:=@Array.length_toList
abbrev xhq:=@Bool.and_eq_true
abbrev xhr:=@Bool.false_ne_true
abbrev xhs:=@Bool.true_and
abbrev xht:=@Classical.byContradiction
abbrev xhu:=@Int.add_zero
abbrev xhv:=@Int.dvd_coe_gcd
abbrev xhw:=@Int.emod_lt_of_pos
abbrev xhx:=@Int.emod_nonneg
abbrev xhy:=@Int.eq_of_mul_eq_mul_right
abbrev xhz:=@Int.fdiv_eq_ediv_of_nonneg
abbrev xhA:=@Int.fmod_eq_emod_of_nonneg
abbrev xhB:=@Int.gcd_dvd_left
abbrev xhC:=@Int.gcd_dvd_right
abbrev xhD:=@Int.gcd_pos_of_ne_zero_right
abbrev xhE:=@Int.le_of_lt
abbrev xhF:=@Int.le_of_mul_le_mul_left
abbrev xhG:=@Int.le_of_mul_le_mul_right
abbrev xhH:=@Int.le_refl
abbrev xhI:=@Int.lt_of_mul_lt_mul_right
abbrev xhJ:=@Int.lt_or_le
abbrev xhK:=@Int.lt_trichotomy
abbrev xhL:=@Int.mul_comm
abbrev xhM:=@Int.mul_dvd_mul_left
abbrev xhN:=@Int.mul_ediv_cancel'
abbrev xhO:=@Int.mul_eq_zero
abbrev xhP:=@Int.mul_le_mul_of_nonneg_left
abbrev xhQ:=@Int.mul_le_mul_of_nonneg_right
abbrev xhR:=@Int.mul_lt_mul_of_pos_right
abbrev xhS:=@Int.mul_neg
abbrev xhT:=@Int.mul_neg_of_neg_of_pos
abbrev xhU:=@Int.mul_neg_of_pos_of_neg
abbrev xhV:=@Int.mul_nonneg
abbrev xhW:=@Int.mul_one
abbrev xhX:=@Int.mul_pos
abbrev xhY:=@Int.mul_zero
abbrev xhZ:=@Int.natAbs_ediv_le_natAbs
abbrev xh0:=@Int.natAbs_mul
abbrev xh1:=@Int.zero_mul
abbrev xh2:=@List.Sublist.refl
abbrev xh3:=@List.Sublist.trans
abbrev xh4:=@List.all_eq_true
abbrev xh5:=@List.any_eq_true
abbrev xh6:=@List.append_assoc
abbrev xh7:=@List.append_nil
abbrev xh8:=@List.cons_append
abbrev xh9:=@List.drop_eq_getElem_cons
abbrev xh_:=@List.drop_length
abbrev xia:=@List.filter_cons_of_neg
abbrev xib:=@List.filter_cons_of_pos
abbrev xic:=@List.flatMap_append
abbrev xid:=@List.flatten_cons
abbrev xie:=@List.foldl_append
abbrev xif:=@List.foldl_cons
abbrev xig:=@List.getD_eq_getElem?_getD
abbrev xih:=@List.getElem?_append_left
abbrev xii:=@List.getElem?_eq_getElem
abbrev xij:=@List.getElem?_eq_none
abbrev xik:=@List.getElem?_eq_some_iff
abbrev xil:=@List.getElem?_map
abbrev xim:=@List.getElem?_replicate
abbrev xin:=@List.getElem?_set_ne
abbrev xio:=@List.getElem?_set_self
abbrev xip:=@List.getElem_mem
abbrev xiq:=@List.length_append
abbrev xir:=@List.length_cons
abbrev xis:=@List.length_drop
abbrev xit:=@List.length_map
abbrev xiu:=@List.length_nil
abbrev xiv:=@List.length_replicate
abbrev xiw:=@List.length_set
abbrev xix:=@List.length_singleton
abbrev xiy:=@List.length_take
abbrev xiz:=@List.length_zip
abbrev xiA:=@List.lookup_cons
abbrev xiB:=@List.map_append
abbrev xiC:=@List.map_congr_left
abbrev xiD:=@List.map_cons
abbrev xiE:=@List.map_map
abbrev xiF:=@List.map_nil
abbrev xiG:=@List.mem_append
abbrev xiH:=@List.mem_append_left
abbrev xiI:=@List.mem_append_right
abbrev xiJ:=@List.mem_cons
abbrev xiK:=@List.mem_cons_of_mem
abbrev xiL:=@List.mem_cons_self
abbrev xiM:=@List.mem_filter
abbrev xiN:=@List.mem_filterMap
abbrev xiO:=@List.mem_iff_getElem
abbrev xiP:=@List.mem_map
abbrev xiQ:=@List.mem_map_of_mem
abbrev xiR:=@List.mem_of_getElem?
abbrev xiS:=@List.mem_of_mem_take
abbrev xiT:=@List.mem_or_eq_of_mem_set
abbrev xiU:=@List.mem_range
abbrev xiV:=@List.mem_singleton
abbrev xiW:=@List.nil_append
abbrev xiX:=@List.nodup_append
abbrev xiY:=@List.nodup_cons
abbrev xiZ:=@List.not_mem_nil
abbrev xi0:=@List.of_mem_zip
abbrev xi1:=@List.replicate_succ
abbrev xi2:=@List.singleton_sublist
abbrev xi3:=@List.size_toArray
abbrev xi4:=@List.sublist_append_iff
abbrev xi5:=@List.sublist_append_right
abbrev xi6:=@List.sum_cons
abbrev xi7:=@List.take_append_drop
abbrev xi8:=@List.take_length
abbrev xi9:=@List.take_of_length_le
abbrev xi_:=@List.take_succ
abbrev xja:=@List.zip_cons_cons
abbrev xjb:=@Nat.le_add_right
abbrev xjc:=@Nat.le_of_lt
abbrev xjd:=@Nat.le_refl
abbrev xje:=@Nat.le_succ
abbrev xjf:=@Nat.le_trans
abbrev xjg:=@Nat.lt_irrefl
abbrev xjh:=@Nat.lt_of_le_of_lt
abbrev xji:=@Nat.lt_of_lt_of_le
abbrev xjj:=@Nat.lt_succ_of_lt
abbrev xjk:=@Nat.lt_succ_self
abbrev xjl:=@Nat.mul_le_mul_right
abbrev xjm:=@Nat.ne_of_gt
abbrev xjn:=@Nat.ne_of_lt
abbrev xjo:=@Nat.zero_le
abbrev xjp:=@Option.some.inj
abbrev xjq:=@congrArg
abbrev xjr:=@decide_eq_false
abbrev xjs:=@decide_eq_true
abbrev xjt:=@decide_eq_true_eq
abbrev xju:=@of_decide_eq_false
abbrev xjv:=@of_decide_eq_true
abbrev xjw:=@or_false
noncomputable section
namespace L2
open PySem PySem.Spec PyProof.Rows
abbrev Key:=Sum Int Str
def xd9:Key→Value→Bool
 | .inl k,v=>Value.isInt k v
 | .inr x,v=>Value.isStrOf x v
def xhb (w:World):Key→Int
 | .inl k=>hashInt k
 | .inr x=>hashStr w x
theorem zc:∀ {k:Key} {v:Value},xd9 k v=true→(∃i t,k=Sum.inl i∧v=Value.int i t)∨(∃x t,k=Sum.inr x∧v=Value.str x t)
 | .inl i,v,h=>by
  obtain⟨t,e⟩:=Value.isInt_shape (k:=i) (v:=v) h
  exact .inl ⟨i,t,rfl,e⟩
 | .inr x,v,h=>by
  obtain⟨t,e⟩:=Value.isStrOf_shape (x:=x) (v:=v) h
  exact .inr ⟨x,t,rfl,e⟩
theorem xec (a b:Int):decide ((Sum.inl a:Key)=Sum.inl b)=(a == b):=by
 by_cases e:a=b
 ·subst e;simp
 ·have h:¬(Sum.inl a:Key)=Sum.inl b:=fun q=>e (Sum.inl.inj q)
  rw[xjr h]
  exact(beq_eq_false_iff_ne.mpr e).symm
theorem xeO (a b:Str):decide ((Sum.inr a:Key)=Sum.inr b)=decide (a=b):=by
 by_cases e:a=b
 ·subst e;simp
 ·have h:¬(Sum.inr a:Key)=Sum.inr b:=fun q=>e (Sum.inr.inj q)
  rw[xjr h,xjr e]
theorem xfd (a:Int)(b:Str):decide ((Sum.inl a:Key)=Sum.inr b)=false:=xjr (fun q=>nomatch q)
theorem xeT (a:Str)(b:Int):decide ((Sum.inr a:Key)=Sum.inl b)=false:=xjr (fun q=>nomatch q)
def bJ (prog:Program)(w:World):PySem.KeyKind prog w Key where
 is:=xd9
 hash:=xhb w
 inj:=fun v a b ha hb=>by
  rcases zc ha with ⟨i,t,rfl,rfl⟩ | ⟨x,t,rfl,rfl⟩
  ·rcases zc hb with ⟨j,u,rfl,e⟩ | ⟨y,u,rfl,e⟩
   ·injection e with e1 _;rw[e1]
   ·exact nomatch e
  ·rcases zc hb with ⟨j,u,rfl,e⟩ | ⟨y,u,rfl,e⟩
   ·exact nomatch e
   ·injection e with e1 _;rw[e1]
 byValue:=fun k v h=>by
  rcases zc h with ⟨i,t,rfl,rfl⟩ | ⟨x,t,rfl,rfl⟩<;>rfl
 pyHash:=fun hv h=>by
  rcases zc hv with ⟨i,t,rfl,rfl⟩ | ⟨x,t,rfl,rfl⟩
  ·exact wpAny_pyHash_int h
  ·exact wpAny_pyHash_str h
 eqBool:=fun hu hv h=>by
  rcases zc hu with ⟨i,t,rfl,rfl⟩ | ⟨x,t,rfl,rfl⟩
  ·rcases zc hv with ⟨j,u,rfl,rfl⟩ | ⟨y,u,rfl,rfl⟩
   ·rw[xec] at h;exact wpAny_eqBool_int h
   ·rw[xfd] at h;exact SeqAt.EqAt.int_str i t y u _ _ _ _ h
  ·rcases zc hv with ⟨j,u,rfl,rfl⟩ | ⟨y,u,rfl,rfl⟩
   ·rw[xeT] at h;exact SeqAt.EqAt.str_int x t j u _ _ _ _ h
   ·rw[xeO] at h;exact wpAny_eqBool_str h
 «strs» := fun k x t v h=>by
  rcases zc h with ⟨i,u,rfl,e⟩ | ⟨y,u,rfl,e⟩
  ·exact nomatch e
  ·injection e with e1 _
   subst e1
   cases v<;>rfl
end L2
namespace L2
open PySem PySem.Spec PyProof.Rows
inductive V where
 | non | bl (b:Bool) | int (i:Int) | str (x:Str) | byt (b:Array UInt8) | flt (b:UInt64) | ref (a:Addr) | ty (n:String)
 deriving DecidableEq
def RelV:V→Value→Prop
 | .non,u=>u=Value.none
 | .bl b,u=>u=Value.bool b
 | .int i,u=>∃t,u=Value.int i t
 | .str x,u=>∃t,u=Value.str x t
 | .byt b,u=>∃t,u=Value.bytes b t
 | .flt b,u=>∃t,u=Value.float b t
 | .ref a,u=>u=Value.ref a
 | .ty n,u=>u=Value.type n
abbrev zh:List V→List Value→Prop:=Paired RelV
theorem zh.length {xs:List V}{us:List Value}(r:zh xs us):xs.length=us.length:=Paired.length r
theorem zh.get:∀ {xs:List V} {us:List Value} {i:Nat} {x:V},zh xs us→xs[i]? = some x→∃u,us[i]? = some u∧RelV x u
 | _,_,_,_,.nil,e=>by simp at e
 | _,_,0,_,.cons r _,e=>by simp at e;subst e;exact⟨_,rfl,r⟩
 | _,_,i+1,x,.cons _ t,e=>by
  obtain⟨u,h1,h2⟩:=zh.get (i:=i) (x:=x) t (by simpa using e)
  exact⟨u,by simpa using h1,h2⟩
theorem zh.set {x:V}{u:Value}(r:RelV x u):∀ {xs:List V} {us:List Value} (i:Nat),zh xs us→zh (xs.set i x) (us.set i u)
 | _,_,_,.nil=>.nil
 | _,_,0,.cons _ t=>.cons r t
 | _,_,i+1,.cons q t=>.cons q (zh.set r i t)
theorem zh.append:∀ {xs ys:List V} {us ws:List Value},zh xs us→zh ys ws→zh (xs++ys) (us++ws)
 | _,_,_,_,.nil,s=>s
 | _,_,_,_,.cons r t,s=>.cons r (zh.append t s)
theorem zh.take:∀ {xs:List V} {us:List Value} (n:Nat),zh xs us→zh (xs.take n) (us.take n)
 | _,_,0,_=>.nil
 | _,_,_+1,.nil=>.nil
 | _,_,n+1,.cons r t=>.cons r (zh.take n t)
theorem zh.drop:∀ {xs:List V} {us:List Value} (n:Nat),zh xs us→zh (xs.drop n) (us.drop n)
 | _,_,0,r=>r
 | _,_,_+1,.nil=>.nil
 | _,_,n+1,.cons _ t=>zh.drop n t
def xfz:Option V→Option Value→Prop
 | some v,some u=>RelV v u
 | none,none=>True
 | _,_=>False
def KV {κ:Type}:List (κ×V)→List (κ×Value)→Prop:=Paired fun(p:κ×V) (q:κ×Value)=>p.1=q.1∧RelV p.2 q.2
def kV:Key→V
 | .inl i=>.int i
 | .inr x=>.str x
inductive HO where
  | lst (xs:List V)
  | tup (xs:List V)
  | dK (kvs:List (Key×V)) | dT (kvs:List (List Key×V))
  | set (S:Int→Bool) (n:Nat)
  | ins (C dx:Addr) (fs:List (Str×V))
  | own (x:Addr)
  | xd (fs:List (Str×V))
  | met (f x:Addr)
  | rng (lo hi:Int)
  | frz (o:Obj) (u:HO)
  | tbl (ps:Array Value)
 | tb (q:Str)
  | ext (φ:Heap→Prop)
abbrev Hp:=Addr→Option HO
def upd (H:Hp)(a:Addr)(o:HO):Hp:=fun b=>if b=a then some o else H b
theorem yk {H:Hp}{a:Addr}{o:HO}:upd H a o a=some o:=by unfold upd;rw[if_pos rfl]
theorem xU {H:Hp}{a b:Addr}{o:HO}(h:b≠a):upd H a o b=H b:=by unfold upd;rw[if_neg h]
theorem xeU {H:Hp}{a b:Addr}{o u:HO}(h:H a=some o)(h':H b=some u)(d:o≠u):a≠b:=by
 intro e;subst e;rw[h] at h';exact d (xjp h')
theorem xE {H:Hp}{a b:Addr}{o:HO}(h:H a=some o)(h':H b=none):a≠b:=by
 intro e;subst e;rw[h] at h';cases h'
section
variable (P:Program) (w:World)
def vR (H:Hp)(h:Heap)(a:Addr):HO→Prop
 | .lst xs=>xs.length≤sizeLine∧∃(its:List Value) (n:Nat),zh xs its∧h.get? a=some { cls:=.type "list", data:=.seq its.toArray n }
 | .tup xs=>xs.length≤sizeLine∧∃its:List Value,zh xs its∧IsTup h a its.toArray
 | .dK kvs=>kvs.length≤sizeLine∧(a == sysModules)=false∧∃vs,KV kvs vs∧h.DictOf (bJ P w) a vs
 | .dT kvs=>kvs.length≤sizeLine∧(a == sysModules)=false∧∃xs:List (List Key×Addr×Value),
   Paired (fun(p:List Key×V) (q:List Key×Addr×Value)=>p.1=q.1∧H q.2.1=some (.tup (p.1.map kV))∧RelV p.2 q.2.2) kvs xs ∧
   ∃o es ep,h.get? a=some o∧o.ExactDict∧o.data=.dict es ep∧es.toList=xs.map (entryOfKey (tupleKind (bJ P w)))∧(xs.map (·.1)).Nodup
 | .set S n=>h.SetOf (intKind P w) a S n
 | .ins C dx fs=>H dx=some (.own a)∧fs.length≤1000∧dx≠a∧h.get? a=some (PySem.W.instObj C dx) ∧
   ∃mA,h.Ns1 dx mA∧(∀f,xfz (fs.lookup f) (mA f))∧PySem.Within mA (fs.map (·.1))
 | .own _=>∃o,h.get? a=some o
 | .xd fs=>∃mA,h.Ns1 a mA∧∀f,xfz (fs.lookup f) (mA f)
 | .rng lo hi=>∃t u v,h.get? a=some { cls:=.type "range", data:=.fields #[.int lo t,.int hi u,.int 1 v] }
 | .frz o u=>h.get? a=some o∧vR H h a u
 | .tbl ps=>h.get? a=some { cls:=.none,data:=.fields ps }
 | .tb q=>∃ps:Array Value,h.get? a=some { cls:=.none,data:=.fields ps }∧TriplesOk ps.toList∧∀pos cv,codeAmong pos ps.toList=some cv →
   ∃c oc vs t,cv=.ref c∧H c=some (.frz oc (.own c))∧oc.data=.fields vs∧vs[1]? = some (.str q t)
 | .met f x=>h.get? a=some (PySem.W.methodObj (.ref f) (.ref x))
 | .ext φ=>φ h∧(∃o,h.get? a=some o)∧∀h1 h2:Heap,φ h1→(∀o,h1.get? a=some o→h2.get? a=some o)→φ h2
def HOk (H:Hp)(h:Heap):Prop:=∀a o,H a=some o→vR P w H h a o
end
section
variable {P:Program} {w:World} {H H':Hp} {h h':Heap} {a:Addr} {o:HO}
theorem vR.lt (x:vR P w H h a o):a<h.objs.size:=by
 cases o with
 | lst xs=>obtain⟨_,_,_,_,e⟩:=x;exact Heap.lt_size e
 | tup xs=>obtain⟨_,_,_,p⟩:=x;exact p.lt
 | dK kvs=>obtain⟨_,_,_,_,o,_,_,e,_⟩:=x;exact Heap.lt_size e
 | dT kvs=>obtain⟨_,_,_,_,o,_,_,e,_⟩:=x;exact Heap.lt_size e
 | set S n=>obtain⟨o,_,_,_,e,_⟩:=x;exact Heap.lt_size e
 | ins C dx fs=>obtain⟨_,_,_,e,_⟩:=x;exact Heap.lt_size e
 | own y=>obtain⟨_,e⟩:=x;exact Heap.lt_size e
 | xd fs=>obtain⟨_,⟨_,_,_,e,_⟩,_⟩:=x;exact Heap.lt_size e
 | rng lo hi=>obtain⟨_,_,_,e⟩:=x;exact Heap.lt_size e
 | frz ob u=>obtain⟨e,_⟩:=x;exact Heap.lt_size e
 | tbl ps=>exact Heap.lt_size (show h.get? a=some _ from x)
 | tb q=>obtain⟨_,e,_⟩:=x;exact Heap.lt_size e
 | met f y=>exact Heap.lt_size (show h.get? a=some _ from x)
 | ext φ=>obtain⟨_,⟨_,e⟩,_⟩:=x;exact Heap.lt_size e
theorem Paired.mapP {α β:Type}{F G:α→β→Prop}:∀ {l₁:List α} {l₂:List β},Paired F l₁ l₂→(∀a b,F a b→G a b)→Paired G l₁ l₂
 | _,_,.nil,_=>.nil
 | _,_,.cons r t,f=>.cons (f _ _ r) (Paired.mapP t f)
theorem vR.stay (x:vR P w H h a o)(k:∀b u,(b=a∨H b=some (.own a))→h.get? b=some u→h'.get? b=some u)
  (ho:∀b,H b=some (.own a)→H' b=some (.own a)) (ht:∀b xs,H b=some (.tup xs)→H' b=some (.tup xs)) (hf:∀b o u,H b=some (.frz o u)→H' b=some (.frz o u)):vR P w H' h' a o:=by
 induction o with
 | lst xs=>obtain⟨z,its,n,r,e⟩:=x;exact⟨z,its,n,r,k _ _ (.inl rfl) e⟩
 | tup xs=>obtain⟨z,its,r,ob,e,c⟩:=x;exact⟨z,its,r,ob,k _ _ (.inl rfl) e,c⟩
 | dK kvs=>obtain⟨z,y,vs,r,ob,es,ep,e,c⟩:=x;exact⟨z,y,vs,r,ob,es,ep,k _ _ (.inl rfl) e,c⟩
 | dT kvs =>
  obtain⟨z,y,xs,r,ob,es,ep,e,c⟩:=x
  exact⟨z,y,xs,Paired.mapP r fun p q z=>⟨z.1,ht _ _ z.2.1,z.2.2⟩,ob,es,ep,k _ _ (.inl rfl) e,c⟩
 | set S n=>obtain⟨ob,es,ep,t,e,c⟩:=x;exact⟨ob,es,ep,t,k _ _ (.inl rfl) e,c⟩
 | ins C dx fs =>
  obtain⟨d,z,ne,e,mA,⟨od,es,ep,e2,c⟩,r⟩:=x
  exact⟨ho _ d,z,ne,k _ _ (.inl rfl) e,mA,⟨od,es,ep,k _ _ (.inr d) e2,c⟩,r⟩
 | own y=>obtain⟨ob,e⟩:=x;exact⟨ob,k _ _ (.inl rfl) e⟩
 | xd fs=>obtain⟨mA,⟨od,es,ep,e,c⟩,r⟩:=x;exact⟨mA,⟨od,es,ep,k _ _ (.inl rfl) e,c⟩,r⟩
 | rng lo hi=>obtain⟨t,u,v,e⟩:=x;exact⟨t,u,v,k _ _ (.inl rfl) e⟩
 | frz ob u ih=>obtain⟨e,q⟩:=x;exact⟨k _ _ (.inl rfl) e,ih q⟩
 | tbl ps =>
  have e:h.get? a=some { cls:=.none,data:=.fields ps }:=x
  show h'.get? a=some { cls:=.none,data:=.fields ps }
  exact k a _ (.inl rfl) e
 | tb q =>
  obtain⟨ps,e,z,y⟩:=x
  exact⟨ps,k _ _ (.inl rfl) e,z,fun pos cv e=>let ⟨c,oc,vs,t,e1,e2,e3⟩:=y pos cv e;⟨c,oc,vs,t,e1,hf _ _ _ e2,e3⟩⟩
 | met f y =>
  have e:h.get? a=some (PySem.W.methodObj (.ref f) (.ref y)):=x
  show h'.get? a=some (PySem.W.methodObj (.ref f) (.ref y))
  exact k a _ (.inl rfl) e
 | ext φ=>obtain⟨p,⟨o,e⟩,st⟩:=x;exact⟨st _ _ p fun o q=>k _ _ (.inl rfl) q,⟨o,k _ _ (.inl rfl) e⟩,st⟩
theorem HOk.lt (x:HOk P w H h)(e:H a=some o):a<h.objs.size:=(x a o e).lt
theorem HOk.fresh (x:HOk P w H h)(e:h.objs.size≤a):H a=none:=by
 cases q:H a with
 | none=>rfl
 | some u=>exact absurd (xji (x.lt q) e) (xjg _)
theorem HOk.kept (x:HOk P w H h)(k:∀b u,h.get? b=some u→h'.get? b=some u):HOk P w H h':=fun a o e =>
 (x a o e).stay (fun b u _ q=>k b u q) (fun _ q=>q) (fun _ _ q=>q) fun _ _ _ q=>q
theorem HOk.laid (x:HOk P w H h)(k:∀b u,h.get? b=some u→h'.get? b=some u)(hp:h.objs.size≤a)(new:vR P w (upd H a o) h' a o):HOk P w (upd H a o) h':=fun b u e=>by
 have hn:=x.fresh hp
 by_cases hb:b=a
 ·subst hb;rw[yk] at e;cases e;exact new
 ·rw[xU hb] at e
  exact(x b u e).stay (fun c v _ q=>k c v q) (fun c q=>by rw[xU (xE q hn)];exact q) (fun c xs q=>by rw[xU (xE q hn)];exact q) fun c o u q=>by rw[xU (xE q hn)];exact q
end
def Rd (H:Hp)(a:Addr)(u:HO):Prop:=H a=some u∨∃o,H a=some (.frz o u)
theorem Rd.ok {P:Program}{w:World}{H:Hp}{h:Heap}{a:Addr}{u:HO}(r:Rd H a u)(x:HOk P w H h):vR P w H h a u:=by
 rcases r with r | ⟨o,r⟩
 ·exact x a u r
 ·obtain⟨_,q⟩:=x a _ r
  exact q
def Mut:Option HO→Prop
 | some (.lst _)=>True
 | some (.dK _)=>True
 | some (.dT _)=>True
 | some (.set _ _)=>True
 | some (.ins _ _ _)=>True
 | some (.ext _)=>True
 | some (.tb _)=>True
 | _=>False
section
variable {P:Program} {w:World} {H:Hp} {h h':Heap} {x e:Addr} {o':HO}
theorem HOk.write (ok:HOk P w H h)(mu:Mut (H x))(he:e=x∨H e=some (.own x))(k:∀b u,b≠e→h.get? b=some u→h'.get? b=some u)(heo:∃u,h'.get? e=some u)
  (new:vR P w (upd H x o') h' x o'):HOk P w (upd H x o') h':=fun b u q=>by
 have nown:∀c y,H c=some (.own y)→c≠x:=fun c y r z=>by subst z;rw[r] at mu;exact mu
 have ntup:∀c xs,H c=some (.tup xs)→c≠x:=fun c xs r z=>by subst z;rw[r] at mu;exact mu
 have nfrz:∀c o u,H c=some (.frz o u)→c≠x:=fun c o u r z=>by subst z;rw[r] at mu;exact mu
 by_cases hb:b=x
 ·subst hb;rw[yk] at q;cases q;exact new
 ·rw[xU hb] at q
  by_cases hbe:b=e
  ·have q':H b=some (.own x):=by
    rcases he with z | z
    ·exact absurd (hbe.trans z) hb
    ·rw[hbe];exact z
   rw[q] at q';cases q'
   obtain⟨v,hv⟩:=heo
   exact⟨v,by rw[hbe];exact hv⟩
  ·refine(ok b u q).stay (fun c v hc r=>k c v ?_ r) (fun c r=>by rw[xU (nown c b r)];exact r) (fun c xs r=>by rw[xU (ntup c xs r)];exact r) fun c o u r=>by rw[xU (nfrz c o u r)];exact r
   rcases hc with rfl | hc
   ·exact hbe
   ·rintro rfl
    rcases he with z | z
    ·exact nown c b hc z
    ·rw[hc] at z;cases z;exact hb rfl
end
structure Un (fs ex:List Addr)(H H':Hp)(h h':Heap):Prop where
 keep:∀b o,h.get? b=some o→H b=none→b∉fs→b∉ex→h'.get? b=some o
 slot:∀b o,h.get? b=some o→H b=none→b∈fs→b∉ex→∃sl,h'.get? b=some { o with slots:=sl }
 free:∀b o,h.get? b=some o→H b=none→b∉ex→H' b=none
 there:∀b o,h.get? b=some o→b∉ex→∃o',h'.get? b=some o'
 tups:∀b xs,H b=some (.tup xs)→H' b=some (.tup xs)
 frzs:∀b o u,H b=some (.frz o u)→H' b=some (.frz o u)
 tbls:∀b ps,H b=some (.tbl ps)→∃more,H' b=some (.tbl (ps++more))
section
variable {fs fs' ex ex':List Addr} {H H1 H2:Hp} {h h1 h2 h':Heap} {a x e:Addr} {o:HO}
theorem Un.any (u:Un fs ex H H1 h h1){b:Addr}{ob:Obj}(q:h.get? b=some ob)(n:H b=none)(hx:b∉ex):∃sl,h1.get? b=some { ob with slots:=sl }:=by
 by_cases hb:b∈fs
 ·exact u.slot b ob q n hb hx
 ·exact⟨ob.slots,u.keep b ob q n hb hx⟩
theorem Un.kept (k:∀b u,h.get? b=some u→h'.get? b=some u):Un fs ex H H h h' :=
 ⟨fun b ob q _ _ _=>k b ob q,fun b ob q _ _ _=>⟨ob.slots,k b ob q⟩,fun _ _ _ n _=>n,fun b ob q _=>⟨ob,k b ob q⟩,fun _ _ q=>q,fun _ _ _ q=>q,fun _ ps q=>⟨#[],by rw[q];simp⟩⟩
theorem Un.refl:Un fs ex H H h h:=Un.kept fun _ _ q=>q
theorem Un.laid (k:∀b u,h.get? b=some u→h'.get? b=some u)(hp:h.objs.size≤a)(hn:H a=none):Un fs ex H (upd H a o) h h' where
 keep:=fun b u q _ _ _=>k b u q
 slot:=fun b u q _ _ _=>⟨u.slots,k b u q⟩
 free:=fun b u q n _=>by rw[xU (xjn (xji (Heap.lt_size q) hp))];exact n
 there:=fun b u q _=>⟨u,k b u q⟩
 tups:=fun b xs q=>by rw[xU (xE q hn)];exact q
 frzs:=fun b u xs q=>by rw[xU (xE q hn)];exact q
 tbls:=fun b ps q=>⟨#[],by rw[xU (xE q hn),q];simp⟩
theorem Un.write (mu:Mut (H x))(he:e=x∨H e=some (.own x))(k:∀b u,b≠e→h.get? b=some u→h'.get? b=some u)(heo:∃u,h'.get? e=some u):Un fs ex H (upd H x o) h h':=by
 have hx:∀b,H b=none→b≠x:=fun b n z=>by subst z;rw[n] at mu;exact mu
 have hb:∀b,H b=none→b≠e:=fun b n z=>by
  subst z
  rcases he with r | r
  ·exact hx b n r
  ·rw[n] at r;cases r
 have hm:∀b u,H b=some u→¬Mut (some u)→b≠x:=fun b u q nm z=>by subst z;rw[q] at mu;exact nm mu
 refine⟨fun b u q n _ _=>k b u (hb b n) q,fun b u q n _ _=>⟨u.slots,k b u (hb b n) q⟩,fun b u q n _=>by rw[xU (hx b n)];exact n,fun b u q _=>?_,
  fun b xs q=>by rw[xU (hm b _ q fun z=>z)];exact q,fun b u xs q=>by rw[xU (hm b _ q fun z=>z)];exact q,fun b ps q=>⟨#[],by rw[xU (hm b _ q fun z=>z),q];simp⟩⟩
 by_cases hbe:b=e
 ·subst hbe;exact heo
 ·exact⟨u,k b u hbe q⟩
end
def trk (h:Heap)(H:Hp):List Addr:=(List.range h.objs.size).filter fun a=>(H a).isSome
def xb0 (h:Heap)(H:Hp):Heap:=PySem.W.hideAll h (trk h H)
theorem xaH (h:Heap)(H:Hp):(xb0 h H).objs.size=h.objs.size:=PySem.W.hideAll_size _ _
theorem xbZ {h:Heap}{H:Hp}{b:Addr}{o:Obj}(e:h.get? b=some o)(n:H b=none):(xb0 h H).get? b=some o :=
 PySem.W.hideAll_get _ e fun hm=>by
  have q:(H b).isSome=true:=(xiM.mp hm).2
  rw[n] at q;simp at q
theorem xcW {h:Heap}{H:Hp}{b:Addr}{o:Obj}(e:(xb0 h H).get? b=some o):h.get? b=some o∧H b=none:=by
 have e':h.get? b=some o:=PySem.W.of_hideAll (trk h H) e
 refine⟨e',?_⟩
 cases q:H b with
 | none=>rfl
 | some x =>
  have hm:b∈trk h H:=xiM.mpr ⟨xiU.mpr (Heap.lt_size e'),by simp[q]⟩
  have z:(xb0 h H).get? b=none:=PySem.W.hideAll_none (trk h H) hm
  rw[z] at e;cases e
def xdc (g h:Heap)(L:Addr):List (Addr×Obj):=(List.range h.objs.size).filterMap fun a=>if a=L∨(g.get? a).isSome=true then none else(h.get? a).map fun o=>(a,o)
def rest (g h:Heap)(L d:Addr):List (Addr×Obj):=(xdc g h L).filter fun p=>decide (p.1≠d)
end L2
namespace L2
open PySem PySem.Spec PyProof.Rows
structure Mod (K:PySem.W.Frag)(mg:Str→Option Value)(base:Heap):Prop where
 kin:K.In base
 glob:base.Ns mainGlobals mg
 blt:∃mb,base.Ns builtinsNs mb∧∀x:Str,x ≠ "__name__" → mb x=bootBuiltins x
 nolimit:base.NoLimit
structure Cx where
 prog:Program
 w:World
 K:PySem.W.Frag
 mg:Str→Option Value
 base:Heap
 A:Around
 N:List Str
 s₀:Shared
 H₀:Hp
 env:Env
 outer:List Env
 stack:List Env
 ex:List Addr
 fn:Str→Bool
 calm:Bool
 pn:List (Addr×Obj)
 xe:Value→Shared→Prop
def frs (l:List Env):List Addr:=l.filterMap (·.frame)
abbrev Cx.fs (X:Cx):List Addr:=frs X.outer
def Vis (sc:Scope)(x:Str):Prop:=sc.names.lookup x=some .local∨sc.names.lookup x=some .cell∨sc.names.lookup x=some .free
def Loc (sc:Scope)(x:Str):Prop:=sc.names.lookup x=some .local∨sc.names.lookup x=some .cell
def Look (env:Env)(h:Heap)(m:Str→Option Value)(x:Str)(u:Value):Prop :=
 (env.kindOf x=some .local∧m x=some u)∨((env.kindOf x=some .cell∨env.kindOf x=some .free)∧∃c,env.cells.lookup x=some c∧h.IsCell c (some u))
structure Cx.Ok (X:Cx):Prop where
 mod:Mod X.K X.mg X.base
 kind:X.env.scope.kind=.function
 glob:X.env.globals=mainGlobals
 blt:X.env.builtins=builtinsNs
 above:X.s₀.heap.objs.size≤X.env.locals
 inj:∀x y c,X.env.cells.lookup x=some c→X.env.cells.lookup y=some c→x=y
 has:∀x,(X.env.kindOf x=some .cell∨X.env.kindOf x=some .free)→∃c,X.env.cells.lookup x=some c
 cab:∀x c,X.fn x=true→X.env.cells.lookup x=some c→X.s₀.heap.objs.size≤c
 hd:X.calm=true→X.A.handled=none
 frames:X.A.frames=some X.stack
 stk:X.stack=X.outer∨(X.stack=X.env::X.outer∧X.env.frame=some X.env.locals)
 exf:∀b∈X.ex,b≠X.env.locals∧∀x c,X.env.cells.lookup x=some c→c≠b
 bs:∀b o,X.base.get? b=some o→X.s₀.heap.get? b=some o∧X.H₀ b=none
 bsz:X.base.objs.size≤X.s₀.heap.objs.size
 noex:∀b o,X.base.get? b=some o→b∉X.ex
 exfs:∀b∈X.ex,b∉X.fs
 funs:X.s₀.heap.FunFrames X.base X.outer
 frf:∀b∈X.fs,X.H₀ b=none
structure Inv (X:Cx)(pins:List (Addr×Obj))(σ:List (Option V))(H:Hp)(s:Shared):Prop where
 ok:X.Ok
 os:s.os=X.s₀.os
 bare:AllBare s.gens
 base:Un X.fs X.ex X.H₀ H X.s₀.heap s.heap
 loc:∃m,s.heap.Ns X.env.locals m∧∀(i:Nat) (x:Str) (v:V),X.N[i]? = some x→σ[i]? = some (some v)→Vis X.env.scope x→∃u,RelV v u∧Look X.env s.heap m x u
 cell:∀x c,X.env.cells.lookup x=some c→∃v,s.heap.IsCell c v
 free:H X.env.locals=none
 freeC:∀x c,X.env.cells.lookup x=some c→H c=none
 pin:∀p∈X.pn++pins,s.heap.get? p.1=some p.2∧H p.1=none∧p.1≠X.env.locals∧p.1∉X.fs∧∀v,p.2.data≠.cell v
 hok:HOk X.prog X.w H s.heap
 len:σ.length=X.N.length
section
variable {X:Cx} {pins:List (Addr×Obj)} {σ:List (Option V)} {H H':Hp} {s:Shared} {h':Heap}
theorem Cx.Ok.nofr (ok:X.Ok){b:Addr}{o:Obj}(e:X.base.get? b=some o):b∉X.fs:=fun hb=>by
 have:=(ok.funs.mem hb).1
 rw[e] at this;cases this
theorem Inv.bs (I:Inv X pins σ H s):∀b o,X.base.get? b=some o→s.heap.get? b=some o∧H b=none:=fun b o e =>
 ⟨I.base.keep b o (I.ok.bs b o e).1 (I.ok.bs b o e).2 (I.ok.nofr e) (I.ok.noex b o e),I.base.free b o (I.ok.bs b o e).1 (I.ok.bs b o e).2 (I.ok.noex b o e)⟩
theorem Inv.bk (I:Inv X pins σ H s):∀b o,X.base.get? b=some o→s.heap.get? b=some o:=fun b o e=>(I.bs b o e).1
theorem Inv.mod (I:Inv X pins σ H s):Mod X.K X.mg X.base:=I.ok.mod
theorem Inv.kIn (I:Inv X pins σ H s):X.K.In s.heap:=I.ok.mod.kin.keeps I.bk
theorem Inv.fr (I:Inv X pins σ H s):∃m,Fr X.base X.env.locals s.heap m :=
 let ⟨m,hn,_⟩:=I.loc
 ⟨m,hn,I.bk,xjf I.ok.bsz I.ok.above⟩
theorem Inv.lt (I:Inv X pins σ H s):X.env.locals<s.heap.objs.size:=let ⟨_,hn,_⟩:=I.loc;hn.lt
theorem Inv.sz (I:Inv X pins σ H s):X.s₀.heap.objs.size≤s.heap.objs.size:=xjf I.ok.above (xjc I.lt)
theorem Inv.nofs (I:Inv X pins σ H s){a:Addr}(h:s.heap.objs.size≤a):a∉X.fs:=fun hb=>by
 obtain⟨_,o,ho,_⟩:=I.ok.funs.mem hb
 exact absurd (xji (Heap.lt_size ho) (xjf I.sz h)) (xjg _)
theorem Inv.cne (I:Inv X pins σ H s):∀x c,X.env.cells.lookup x=some c→c≠X.env.locals:=fun x c e z=>by
 obtain⟨v,o,ho,hd⟩:=I.cell x c e
 obtain⟨m,⟨o',es,ep,ho',hd',_⟩,_⟩:=I.loc
 rw[z,ho'] at ho;cases ho;rw[hd'] at hd;cases hd
theorem Inv.funs (I:Inv X pins σ H s):s.heap.FunFrames X.base X.outer:=by
 have all:∀(l:List Env),(∀b∈frs l,b∈X.fs)→X.s₀.heap.FunFrames X.base l→s.heap.FunFrames X.base l:=by
  intro l
  induction l with
  | nil=>intro _ _;trivial
  | cons env r ih =>
   intro hs hl
   obtain⟨hk,⟨L,o,hf,hn,ho,hd⟩,hr⟩:=hl
   have hL:L∈X.fs:=hs L (by unfold frs;rw[List.filterMap_cons,hf];exact xiL)
   obtain⟨sl,e⟩:=I.base.slot L o ho (I.ok.frf L hL) hL fun z=>I.ok.exfs L z hL
   exact⟨hk,⟨L,_,hf,hn,e,hd⟩,ih (fun b hb=>hs b (by unfold frs;rw[List.filterMap_cons,hf];exact xiK _ hb)) hr⟩
 exact all X.outer (fun _ hb=>hb) I.ok.funs
theorem Inv.stack (I:Inv X pins σ H s):s.heap.FunFrames X.base X.stack:=by
 rcases I.ok.stk with e | ⟨e,hf⟩
 ·rw[e];exact I.funs
 ·rw[e]
  obtain⟨m,hn,_⟩:=I.loc
  refine .cons (by rw[I.ok.kind];decide) hf hn ?_ I.funs
  exact Heap.get?_none_of_le (xjf I.ok.bsz I.ok.above)
theorem Inv.stkSub (I:Inv X pins σ H s):∀b∈frs X.stack,b∈X.env.locals::X.fs:=fun b hb=>by
 rcases I.ok.stk with e | ⟨e,hf⟩
 ·rw[e] at hb;exact xiK _ hb
 ·rw[e] at hb
  unfold frs at hb
  rw[List.filterMap_cons,hf] at hb
  exact hb
theorem Inv.stkFree (I:Inv X pins σ H s):∀b∈frs X.stack,H b=none:=fun b hb=>by
 rcases xiJ.mp (I.stkSub b hb) with e | hb
 ·rw[e];exact I.free
 ·obtain⟨_,o,ho,_⟩:=I.ok.funs.mem hb
  exact I.base.free b o ho (I.ok.frf b hb) fun z=>I.ok.exfs b z hb
theorem Inv.step {g':Array GenState}{t':Nat}{d':Drawn}{ch:List Addr}(I:Inv X pins σ H s)
  (hch:∀b∈ch,(b∈X.ex∨X.s₀.heap.objs.size≤b)∧b≠X.env.locals∧(∀x c,X.env.cells.lookup x=some c→c≠b)∧∀p∈X.pn++pins,p.1≠b)
  (keep:∀b o,b≠X.env.locals→b∉X.fs→b∉ch→s.heap.get? b=some o→H b=none→h'.get? b=some o)
  (slot:∀b o,b≠X.env.locals→b∈X.fs→b∉ch→s.heap.get? b=some o→H b=none→∃sl,h'.get? b=some { o with slots:=sl }) (free:∀b o,b∉ch→s.heap.get? b=some o→H b=none→H' b=none)
  (there:∀b o,b∉ch→s.heap.get? b=some o→∃o',h'.get? b=some o')
  (tups:∀b xs,H b=some (.tup xs)→H' b=some (.tup xs)) (frzs:∀b o u,H b=some (.frz o u)→H' b=some (.frz o u)) (tbls:∀b ps,H b=some (.tbl ps)→∃more,H' b=some (.tbl (ps++more)))
  (ns:∀m,s.heap.Ns X.env.locals m→h'.Ns X.env.locals m) (hok:HOk X.prog X.w H' h') (hg:AllBare g') :
  Inv X pins σ H' { s with heap:=h',gens:=g',drawn:=d',toks:=t' }:=by
 have neL:∀b o,X.s₀.heap.get? b=some o→b≠X.env.locals:=fun b o e=>xjn (xji (Heap.lt_size e) I.ok.above)
 have neC:∀b o,X.s₀.heap.get? b=some o→b∉X.ex→b∉ch:=fun b o e hx hb=>by
  rcases(hch b hb).1 with z | z
  ·exact hx z
  ·exact absurd (xji (Heap.lt_size e) z) (xjg _)
 have cellK:∀x c,X.env.cells.lookup x=some c→∀v,s.heap.IsCell c v→h'.IsCell c v:=fun x c e v ⟨o,ho,hd⟩=>by
  have nch:c∉ch:=fun z=>(hch c z).2.2.1 x c e rfl
  by_cases hc:c∈X.fs
  ·obtain⟨sl,q⟩:=slot c o (I.cne x c e) hc nch ho (I.freeC x c e)
   exact⟨_,q,hd⟩
  ·exact⟨o,keep c o (I.cne x c e) hc nch ho (I.freeC x c e),hd⟩
 refine⟨I.ok,I.os,hg,⟨fun b o e n hb hx=>?_,fun b o e n hb hx=>?_,fun b o e n hx=>?_,fun b o e hx=>?_,fun b xs e=>tups b xs (I.base.tups b xs e),fun b o xs e=>frzs b o xs (I.base.frzs b o xs e),fun b ps e=>?_⟩,?_,fun x c e=>?_,?_,fun x c e=>?_,fun p hp=>?_,hok,I.len⟩
 ·exact keep b o (neL b o e) hb (neC b o e hx) (I.base.keep b o e n hb hx) (I.base.free b o e n hx)
 ·obtain⟨sl,e1⟩:=I.base.slot b o e n hb hx
  obtain⟨sl',e2⟩:=slot b _ (neL b o e) hb (neC b o e hx) e1 (I.base.free b o e n hx)
  exact⟨sl',e2⟩
 ·obtain⟨o',e1⟩:=I.base.there b o e hx
  exact free b o' (neC b o e hx) e1 (I.base.free b o e n hx)
 ·obtain⟨o',e1⟩:=I.base.there b o e hx
  exact there b o' (neC b o e hx) e1
 ·obtain⟨m1,e1⟩:=I.base.tbls b ps e
  obtain⟨m2,e2⟩:=tbls b _ e1
  exact⟨m1++m2,by rw[e2,Array.append_assoc]⟩
 ·obtain⟨m,hn,hl⟩:=I.loc
  refine⟨m,ns m hn,fun i x v e1 e2 e3=>?_⟩
  obtain⟨u,r,l⟩:=hl i x v e1 e2 e3
  refine⟨u,r,?_⟩
  rcases l with l | ⟨k,c,e,z⟩
  ·exact .inl l
  ·exact .inr ⟨k,c,e,cellK x c e _ z⟩
 ·obtain⟨v,z⟩:=I.cell x c e
  exact⟨v,cellK x c e v z⟩
 ·obtain⟨m,⟨o,_,_,ho,_⟩,_⟩:=I.loc
  exact free _ o (fun z=>(hch _ z).2.1 rfl) ho I.free
 ·obtain⟨v,o,ho,hd⟩:=I.cell x c e
  exact free c o (fun z=>(hch c z).2.2.1 x c e rfl) ho (I.freeC x c e)
 ·obtain⟨e,n,ne,nf,d⟩:=I.pin p hp
  have nch:p.1∉ch:=fun z=>(hch p.1 z).2.2.2 p hp rfl
  exact⟨keep p.1 p.2 ne nf nch e n,free p.1 p.2 nch e n,ne,nf,d⟩
theorem Inv.un {t':Nat}(I:Inv X pins σ H s)(u:Un X.fs [] H H' s.heap h')(hok:HOk X.prog X.w H' h'):Inv X pins σ H' { s with heap:=h',toks:=t' }:=by
 obtain⟨m,⟨o,es,ep,ho,r⟩,_⟩:=id I.loc
 obtain⟨sl,hL⟩:=u.any ho I.free (by simp)
 exact I.step (g':=s.gens) (d':=s.drawn) (ch:=[]) (fun _ z=>nomatch z) (fun b o _ hb _ e n=>u.keep b o e n hb (by simp)) (fun b o _ hb _ e n=>u.slot b o e n hb (by simp)) (fun b o _ e n=>u.free b o e n (by simp)) (fun b o _ e=>u.there b o e (by simp)) u.tups u.frzs u.tbls (fun m' hm=>by
  obtain⟨o',es',ep',ho',r'⟩:=hm
  rw[ho] at ho';cases ho'
  exact⟨_,es',ep',hL,r'⟩) hok I.bare
theorem Inv.call {g':Array GenState}{t':Nat}{d':Drawn}{ch:List Addr}(I:Inv X pins σ H s)(u:Un (frs X.stack) ch H H' s.heap h')(hok:HOk X.prog X.w H' h')(hg:AllBare g')
  (hch:∀b∈ch,(b∈X.ex∨X.s₀.heap.objs.size≤b)∧b≠X.env.locals∧(∀x c,X.env.cells.lookup x=some c→c≠b)∧∀p∈X.pn++pins,p.1≠b) :
  Inv X pins σ H' { s with heap:=h',gens:=g',drawn:=d',toks:=t' }:=by
 obtain⟨m,⟨o,es,ep,ho,r⟩,_⟩:=id I.loc
 obtain⟨sl,hL⟩:=u.any ho I.free fun z=>(hch _ z).2.1 rfl
 exact I.step (ch:=ch) hch (fun b o hL hb hc e n=>u.keep b o e n (fun z=>(xiJ.mp (I.stkSub b z)).elim hL hb) hc) (fun b o _ _ hc e n=>u.any e n hc) (fun b o hc e n=>u.free b o e n hc) (fun b o hc e=>u.there b o e hc) u.tups u.frzs u.tbls (fun m' hm=>by
  obtain⟨o',es',ep',ho',r'⟩:=hm
  rw[ho] at ho';cases ho'
  exact⟨_,es',ep',hL,r'⟩) hok hg
theorem Inv.turned {t':Nat}{it:Addr}(I:Inv X pins σ H s)(k:∀b o,b≠it→s.heap.get? b=some o→h'.get? b=some o)(hn:H it=none)(hL:it≠X.env.locals)
  (h1:it∈X.ex∨X.s₀.heap.objs.size≤it) (h2:∀x c,X.env.cells.lookup x=some c→c≠it) (h3:∀p∈X.pn++pins,p.1≠it):Inv X pins σ H { s with heap:=h',toks:=t' }:=by
 have nit:∀b u,H b=some u→b≠it:=fun b u e z=>by rw[z,hn] at e;cases e
 refine I.step (g':=s.gens) (d':=s.drawn) (ch:=[it]) (fun b hb=>?_) (fun b o _ _ hc e _=>k b o (fun z=>hc (by simp[z])) e) (fun b o _ _ hc e _=>⟨o.slots,k b o (fun z=>hc (by simp[z])) e⟩) (fun _ _ _ _ n=>n)
  (fun b o hc e=>⟨o,k b o (fun z=>hc (by simp[z])) e⟩) (fun _ _ e=>e) (fun _ _ _ e=>e) (fun b ps e=>⟨#[],by rw[e];simp⟩) (fun m hm=>?_) (fun b u e=>?_) I.bare
 ·have e:b=it:=by simpa using hb
  subst e
  exact⟨h1,hL,h2,h3⟩
 ·obtain⟨o,es,ep,ho,r⟩:=hm
  exact⟨o,es,ep,k _ o (Ne.symm hL) ho,r⟩
 ·refine(I.hok b u e).stay (fun c v hc q=>k c v ?_ q) (fun _ q=>q) (fun _ _ q=>q) fun _ _ _ q=>q
  rcases hc with z | z
  ·rw[z];exact nit b u e
  ·exact nit c _ z
theorem Inv.tok (I:Inv X pins σ H s)(t:Nat):Inv X pins σ H { s with toks:=t }:=I.un (h':=s.heap) (t':=t) Un.refl I.hok
theorem Inv.kept {t':Nat}(I:Inv X pins σ H s)(k:∀b u,s.heap.get? b=some u→h'.get? b=some u):Inv X pins σ H { s with heap:=h',toks:=t' }:=I.un (Un.kept k) (I.hok.kept k)
theorem Inv.laid {a:Addr}{o:HO}{t':Nat}(I:Inv X pins σ H s)(k:∀b u,s.heap.get? b=some u→h'.get? b=some u)(hp:s.heap.objs.size≤a)(new:vR X.prog X.w (upd H a o) h' a o) :
  Inv X pins σ (upd H a o) { s with heap:=h',toks:=t' }:=I.un (Un.laid k hp (I.hok.fresh hp)) (I.hok.laid k hp new)
theorem Inv.write {x e:Addr}{o:HO}{t':Nat}(I:Inv X pins σ H s)(mu:Mut (H x))(he:e=x∨H e=some (.own x))(k:∀b u,b≠e→s.heap.get? b=some u→h'.get? b=some u)(heo:∃u,h'.get? e=some u)
  (new:vR X.prog X.w (upd H x o) h' x o):Inv X pins σ (upd H x o) { s with heap:=h',toks:=t' }:=I.un (Un.write mu he k heo) (I.hok.write mu he k heo new)
theorem Inv.weak {σ':List (Option V)}(I:Inv X pins σ H s)(hl:σ'.length=σ.length)(w:∀(i:Nat) v,σ'[i]? = some (some v)→σ[i]? = some (some v)):Inv X pins σ' H s :=
 ⟨I.ok,I.os,I.bare,I.base,let ⟨m,hn,hl'⟩:=I.loc;⟨m,hn,fun i x v e1 e2 e3=>hl' i x v e1 (w i v e2) e3⟩,I.cell,I.free,I.freeC,I.pin,I.hok,hl.trans I.len⟩
theorem Inv.pins_of {pins':List (Addr×Obj)}(I:Inv X pins σ H s)(h:∀p∈pins',s.heap.get? p.1=some p.2∧H p.1=none∧p.1≠X.env.locals∧p.1∉X.fs∧∀v,p.2.data≠.cell v):Inv X pins' σ H s :=
 ⟨I.ok,I.os,I.bare,I.base,I.loc,I.cell,I.free,I.freeC,fun p hp=>(xiG.mp hp).elim (fun z=>I.pin p (xiH _ z)) (h p),I.hok,I.len⟩
theorem bQ {N:List Str}(hN:N.Nodup){i j:Nat}{x:Str}(a:N[i]? = some x)(b:N[j]? = some x):i=j:=by
 obtain⟨h1,e1⟩:=xik.mp a
 obtain⟨h2,e2⟩:=xik.mp b
 exact(List.getElem_inj hN).mp (e1.trans e2.symm)
theorem jq {M:Model}{A:Around}{E:Value→Shared→Prop}{i:Nat}{x:Str}{v:V}{u:Value}{Q:Unit→Shared→Prop}(I:Inv X pins σ H s)(hN:X.N.Nodup)(hi:X.N[i]? = some x)(hx:Loc X.env.scope x)(r:RelV v u)
  (h:∀s',Inv X pins (σ.set i (some v)) H s'→(∃a,Heap.SameBut a s.heap s'.heap∧(a=X.env.locals∨X.env.cells.lookup x=some a))→Q () s') (hf:X.fn x=true∨X.env.scope.names.lookup x=some .local:=by first | exact .inl rfl | exact .inr rfl | assumption):wpAny M A (storeName X.env x u) Q E s:=by
 obtain⟨m,hn,hl⟩:=id I.loc
 have hcls:(X.env.scope.kind == .class || (X.env.scope.kind == .module&&X.env.locals != X.env.globals))=false:=by rw[I.ok.kind];rfl
 have hiσ:i<σ.length:=by rw[I.len];exact(xik.mp hi).1
 have cne:=I.cne
 have tracked:∀ {a:Addr} {h':Heap},(∃o,s.heap.get? a=some o∧H a=none)→Heap.SameBut a s.heap h'→HOk X.prog X.w H h':=fun {a h'} ha hs b ob e=>by
  obtain⟨_,_,hfree⟩:=ha
  refine(I.hok b ob e).stay (fun c w' hc q=>(hs.2 c ?_).trans q) (fun _ q=>q) (fun _ _ q=>q) fun _ _ _ q=>q
  rintro rfl
  rcases hc with rfl | hc
  ·rw[hfree] at e;cases e
  ·rw[hfree] at hc;cases hc
 rcases hx with hk | hk
 ·refine wpAny_storeName_local hk hn (fun h' hn' hs=>?_) hcls
  obtain⟨oL,_,_,hoL,_⟩:=id hn
  refine h _ ⟨I.ok,I.os,I.bare,⟨fun b o e n hb hx=>?_,fun b o e n hb hx=>?_,I.base.free,fun b o e hx=>?_,I.base.tups,I.base.frzs,I.base.tbls⟩,⟨_,hn',fun j y v' e1 e2 e3=>?_⟩,fun y c e=>?_,I.free,I.freeC,fun p hp=>?_,tracked ⟨oL,hoL,I.free⟩ hs,by simpa using I.len⟩ ⟨_,hs,.inl rfl⟩
  ·exact(hs.2 b (xjn (xji (Heap.lt_size e) I.ok.above))).trans (I.base.keep b o e n hb hx)
  ·obtain⟨sl,e1⟩:=I.base.slot b o e n hb hx
   exact⟨sl,(hs.2 b (xjn (xji (Heap.lt_size e) I.ok.above))).trans e1⟩
  ·obtain⟨o',e1⟩:=I.base.there b o e hx
   exact⟨o',(hs.2 b (xjn (xji (Heap.lt_size e) I.ok.above))).trans e1⟩
  ·by_cases hj:j=i
   ·subst hj
    rw[hi] at e1;cases e1
    rw[xio hiσ] at e2
    cases e2
    exact⟨u,r,.inl ⟨hk,by simp⟩⟩
   ·rw[xin (Ne.symm hj)] at e2
    obtain⟨u',r',q⟩:=hl j y v' e1 e2 e3
    refine⟨u',r',?_⟩
    rcases q with ⟨k,e⟩ | ⟨k,c,e,z⟩
    ·refine .inl ⟨k,?_⟩
     have:y≠x:=fun e=>hj (bQ hN e1 (e▸hi))
     simp[this,e]
    ·exact .inr ⟨k,c,e,z.sameBut hs (cne y c e)⟩
  ·obtain⟨w',z⟩:=I.cell y c e
   exact⟨w',z.sameBut hs (cne y c e)⟩
  ·obtain⟨e,n,ne,nf,d⟩:=I.pin p hp
   exact⟨(hs.2 p.1 ne).trans e,n,ne,nf,d⟩
 ·have hfn:X.fn x=true:=by
   rcases hf with z | z
   ·exact z
   ·rw[z] at hk;cases hk
  obtain⟨c,hc⟩:=I.ok.has x (.inl hk)
  obtain⟨w',z⟩:=I.cell x c hc
  refine wpAny_storeName_cell I.ok.kind hk hc z (fun h' hc' hs=>?_)
  obtain⟨oc,hoc,hocd⟩:=id z
  refine h { s with heap:=h' } ⟨I.ok,I.os,I.bare,⟨fun b o e n hb hx=>?_,fun b o e n hb hx=>?_,I.base.free,fun b o e hx=>?_,I.base.tups,I.base.frzs,I.base.tbls⟩,⟨m,hn.sameBut hs (Ne.symm (cne x c hc)),fun j y v' e1 e2 e3=>?_⟩,fun y c' e=>?_,I.free,I.freeC,fun p hp=>?_,tracked ⟨oc,hoc,I.freeC x c hc⟩ hs,by simpa using I.len⟩ ⟨c,hs,.inr hc⟩
  ·exact(hs.2 b (xjn (xji (Heap.lt_size e) (I.ok.cab x c hfn hc)))).trans (I.base.keep b o e n hb hx)
  ·obtain⟨sl,e1⟩:=I.base.slot b o e n hb hx
   exact⟨sl,(hs.2 b (xjn (xji (Heap.lt_size e) (I.ok.cab x c hfn hc)))).trans e1⟩
  ·obtain⟨o',e1⟩:=I.base.there b o e hx
   exact⟨o',(hs.2 b (xjn (xji (Heap.lt_size e) (I.ok.cab x c hfn hc)))).trans e1⟩
  ·by_cases hj:j=i
   ·subst hj
    rw[hi] at e1;cases e1
    rw[xio hiσ] at e2
    cases e2
    exact⟨u,r,.inr ⟨.inl hk,c,hc,hc'⟩⟩
   ·rw[xin (Ne.symm hj)] at e2
    obtain⟨u',r',q⟩:=hl j y v' e1 e2 e3
    refine⟨u',r',?_⟩
    rcases q with q | ⟨k,c',e,z'⟩
    ·exact .inl q
    ·refine .inr ⟨k,c',e,z'.sameBut hs ?_⟩
     rintro rfl
     exact hj (bQ hN e1 (I.ok.inj _ _ _ e hc▸hi))
  ·by_cases hcc:c'=c
   ·subst hcc;exact⟨_,hc'⟩
   ·obtain⟨w2,z2⟩:=I.cell y c' e
    exact⟨w2,z2.sameBut hs hcc⟩
  ·obtain⟨e,n,ne,nf,d⟩:=I.pin p hp
   refine⟨(hs.2 p.1 ?_).trans e,n,ne,nf,d⟩
   intro q
   rw[q,hoc] at e
   have q':oc=p.2:=xjp e
   exact d w' (by rw[←q'];exact hocd)
theorem gq {M:Model}{A:Around}{E:Value→Shared→Prop}{i:Nat}{x:Str}{v:V}{u:Value}{Q:Unit→Shared→Prop}(I:Inv X pins σ H s)(hN:X.N.Nodup)(hi:X.N[i]? = some x)(hx:Loc X.env.scope x)(r:RelV v u)
  (h:∀s',Inv X pins (σ.set i (some v)) H s'→Q () s') (hf:X.fn x=true∨X.env.scope.names.lookup x=some .local:=by first | exact .inl rfl | exact .inr rfl | assumption):wpAny M A (storeName X.env x u) Q E s :=
 jq I hN hi hx r (fun s' I' _=>h s' I') hf
theorem Inv.call' {s':Shared}{ch:List Addr}(I:Inv X pins σ H s)(ho:s'.os=s.os)(u:Un (frs X.stack) ch H H' s.heap s'.heap)(hok:HOk X.prog X.w H' s'.heap)(hg:AllBare s'.gens)
  (hch:∀b∈ch,(b∈X.ex∨X.s₀.heap.objs.size≤b)∧b≠X.env.locals∧(∀x c,X.env.cells.lookup x=some c→c≠b)∧∀p∈X.pn++pins,p.1≠b):Inv X pins σ H' s':=by
 obtain⟨h',g',d',t',o'⟩:=s'
 have e:o'=s.os:=ho
 subst e
 exact I.call (g':=g') (t':=t') (d':=d') u hok hg hch
end
abbrev XK:=Value→Option Addr→Hp→Prop
abbrev St:=List (Option V)
abbrev VK:=V→Hp→Prop
abbrev TE:=St→Hp→VK→Prop
abbrev TT:=St→Hp→(Bool→Hp→Prop)→Prop
abbrev TA:=St→Hp→(List V→Hp→Prop)→Prop
structure Ends where
 nx:St→Hp→Prop
 rt:VK
 bk:St→Hp→Prop:=fun _ _=>False
 ct:St→Hp→Prop:=fun _ _=>False
abbrev TS:=Ends→St→Hp→Prop
def EP (X:Cx)(pins:List (Addr×Obj))(σ:St)(Q:VK)(u:Value)(s':Shared):Prop:=∃v H',Inv X pins σ H' s'∧RelV v u∧Q v H'
def TP (X:Cx)(pins:List (Addr×Obj))(σ:St)(Q:Bool→Hp→Prop)(b:Bool)(s':Shared):Prop:=∃H',Inv X pins σ H' s'∧Q b H'
def AP (X:Cx)(pins:List (Addr×Obj))(σ:St)(Q:List V→Hp→Prop)(us:List Value)(s':Shared):Prop:=∃vs H',Inv X pins σ H' s'∧zh vs us∧Q vs H'
def SP (X:Cx)(pins:List (Addr×Obj))(D:Ends)(f:Flow)(s':Shared):Prop :=
 match f with
 | .next=>∃ σ' H',Inv X pins σ' H' s'∧D.nx σ' H'
 | .brk=>∃ σ' H',Inv X pins σ' H' s'∧D.bk σ' H'
 | .cont=>∃ σ' H',Inv X pins σ' H' s'∧D.ct σ' H'
 | .ret u=>∃v σ' H',Inv X pins σ' H' s'∧RelV v u∧D.rt v H'
def PE (X:Cx)(e:Expr)(t:TE):Prop :=
 ∀ ⦃pins:List (Addr×Obj)⦄ (s:Shared) (σ:St) (H:Hp) (Q:VK),Inv X pins σ H s→t σ H Q→wpAny (model X.prog X.w) X.A (eval e X.env) (EP X pins σ Q) X.xe s
def PT (X:Cx)(e:Expr)(t:TT):Prop :=
 ∀ ⦃pins:List (Addr×Obj)⦄ (s:Shared) (σ:St) (H:Hp) (Q:Bool→Hp→Prop),Inv X pins σ H s→t σ H Q→wpAny (model X.prog X.w) X.A (isTrue e X.env (eval e X.env)) (TP X pins σ Q) X.xe s
def PW (X:Cx)(e:Expr)(t:TT):Prop :=
 ∀ ⦃whole:Sem Value⦄ (pins:List (Addr×Obj)) (s:Shared) (σ:St) (H:Hp) (Q:Bool→Hp→Prop),Inv X pins σ H s→t σ H Q→wpAny (model X.prog X.w) X.A (isTrue e X.env whole) (TP X pins σ Q) X.xe s
theorem PW.pt {X:Cx}{e:Expr}{t:TT}(h:PW X e t):PT X e t:=@h _
def PA (X:Cx)(es:List Expr)(t:TA):Prop :=
 ∀ ⦃pos:Pos⦄ (pins:List (Addr×Obj)) (s:Shared) (σ:St) (H:Hp) (Q:List V→Hp→Prop),Inv X pins σ H s→t σ H Q→wpAny (model X.prog X.w) X.A (spliced (backTo pos (starEach es X.env))) (AP X pins σ Q) X.xe s
def PS (X:Cx)(st:Stmt)(t:TS):Prop :=
 ∀ ⦃pins:List (Addr×Obj)⦄ (s:Shared) (σ:St) (H:Hp) (D:Ends),Inv X pins σ H s→t D σ H→wpAny (model X.prog X.w) X.A (exec st X.env) (SP X pins D) X.xe s
def PSs (X:Cx)(st:List Stmt)(t:TS):Prop :=
 ∀ ⦃pins:List (Addr×Obj)⦄ (s:Shared) (σ:St) (H:Hp) (D:Ends),Inv X pins σ H s→t D σ H→wpAny (model X.prog X.w) X.A (execs st X.env) (SP X pins D) X.xe s
theorem thn {α:Type}{t:Sem α}{Q Q':α→Shared→Prop}{M:Model}{A:Around}{E:Value→Shared→Prop}{s:Shared}(h:wpAny M A t Q E s)(hQ:∀a s,Q a s→Q' a s):wpAny M A t Q' E s:=wpAny_mono h hQ fun _ _ x=>x
end L2
namespace L2
open PySem PySem.Spec PyProof.Rows
section
variable {X:Cx}
def tF (i:Nat):TE:=fun σ H Q=>∃v,σ[i]? = some (some v)∧Q v H
def tC (v:V):TE:=fun _ H Q=>Q v H
theorem xen {i:Nat}{x:Str}{pos:Pos}(hN:X.N[i]? = some x)(hv:Vis X.env.scope x)(hd:(x == ("__debug__" : Str))=false:=by decide)(hcd:(x == ("__classdict__" : Str))=false:=by decide):PE X (.Name x pos) (tF i):=by
 intro pins s σ H Q I h
 obtain⟨v,e,h⟩:=h
 obtain⟨m,hn,hl⟩:=I.loc
 obtain⟨u,r,l⟩:=hl i x v hN e hv
 have fin:EP X pins σ Q u s:=⟨v,H,I,r,h⟩
 rcases l with ⟨hk,hm⟩ | ⟨hk,c,hc,hcell⟩
 ·exact wpAny_Name (wpAny_loadName_local I.ok.kind hk hn hm fin) hd
 ·rcases hk with hk | hk
  ·exact wpAny_Name (wpAny_loadName_cell I.ok.kind hk hc hcell fin) hd
  ·exact wpAny_Name (wpAny_loadName_free I.ok.kind hk hc hcell fin hcd) hd
theorem xf {i j pos}:PE X (.Constant (.int i) j pos) (tC (.int i)):=fun _ _ _ H _ I h=>wpAny_Constant_int ⟨.int i,H,I.tok _,⟨_,rfl⟩,h⟩
theorem uF {b j pos}:PE X (.Constant (.bool b) j pos) (tC (.bl b)):=fun _ _ _ H _ I h=>Constant_bool ⟨.bl b,H,I,rfl,h⟩
theorem gY {j pos}:PE X (.Constant .none j pos) (tC .non):=fun _ _ _ H _ I h=>Constant_none ⟨.non,H,I,rfl,h⟩
def Gl (X:Cx)(x:Str):Prop:=X.env.kindOf x=some .globalImplicit
theorem lA {E:Value→Shared→Prop}{pins:List (Addr×Obj)}{s:Shared}{σ:St}{H:Hp}{x:Str}{u:Value}{pos:Pos}{Q:Value→Shared→Prop}(I:Inv X pins σ H s)(hg:Gl X x)(hm:X.mg x=some u)(h:Q u s)
  (hd:(x == ("__debug__" : Str))=false:=by decide):wpAny (model X.prog X.w) X.A (eval (.Name x pos) X.env) Q E s :=
 Calls.Name_function_global I.ok.kind hg (Calls.loadGlobal_global (by rw[I.ok.glob];exact I.mod.glob.keeps I.bk) hm h) hd
theorem fv {E:Value→Shared→Prop}{pins:List (Addr×Obj)}{s:Shared}{σ:St}{H:Hp}{x:Str}{u:Value}{pos:Pos}{Q:Value→Shared→Prop}(I:Inv X pins σ H s)(hg:Gl X x)(hm:X.mg x=none)(hv:bootBuiltins x=some u)(h:Q u s)
  (hn:x ≠ "__name__" := by decide) (hd:(x == ("__debug__" : Str))=false:=by decide):wpAny (model X.prog X.w) X.A (eval (.Name x pos) X.env) Q E s:=by
 obtain⟨mb,h1,h2⟩:=I.mod.blt
 exact Calls.Name_function_global I.ok.kind hg (Calls.loadGlobal_builtin (by rw[I.ok.glob];exact I.mod.glob.keeps I.bk) hm (by rw[I.ok.blt];exact h1.keeps I.bk) ((h2 x hn).trans hv) h) hd
theorem qx {x:Str}{v:V}{u:Value}{pos:Pos}(hg:Gl X x)(hm:X.mg x=some u)(r:RelV v u)(hd:(x == ("__debug__" : Str))=false:=by decide):PE X (.Name x pos) (tC v) :=
 fun _ _ _ H _ I h=>lA I hg hm ⟨v,H,I,r,h⟩ hd
theorem qv {x:Str}{v:V}{u:Value}{pos:Pos}(hg:Gl X x)(hm:X.mg x=none)(hv:bootBuiltins x=some u)(r:RelV v u)(hn:x ≠ "__name__" := by decide)(hd:(x == ("__debug__" : Str))=false:=by decide):PE X (.Name x pos) (tC v) :=
 fun _ _ _ H _ I h=>fv I hg hm hv ⟨v,H,I,r,h⟩ hn hd
variable {a b:Expr} {ta tb:TE} {pos:Pos}
def PC (X:Cx)(op:CmpOp)(a b:Expr)(t:TE):Prop :=
 ∀(pins:List (Addr×Obj)) (s:Shared) (σ:St) (H:Hp) (Q:VK),Inv X pins σ H s→t σ H Q →
  wpAny (model X.prog X.w) X.A (eval a X.env) (fun v s₁=>wpAny (model X.prog X.w) X.A (eval b X.env) (fun u s₂=>wpAny (model X.prog X.w) X.A (compareOp op v u) (EP X pins σ Q) X.xe s₂) X.xe s₁) X.xe s
theorem xbD (b:Expr){op:CmpOp}(h:op≠.In)(h2:op≠.NotIn):behindInMarks op b=false:=by
 have e1:(op == CmpOp.In)=false:=by cases op<;>first | rfl | exact absurd rfl h
 have e2:(op == CmpOp.NotIn)=false:=by cases op<;>first | rfl | exact absurd rfl h2
 cases b<;>simp[behindInMarks,e1,e2]
def xgk (ta:TE):TE:=fun σ H Q=>ta σ H fun x H1=>Q (.bl (decide (x=.non))) H1
def xfa (ta:TE):TE:=fun σ H Q=>ta σ H fun x H1=>Q (.bl (!decide (x=.non))) H1
theorem RelV.none_iff {x:V}{v:Value}(r:RelV x v):(v == Value.none)=decide (x=.non):=by
 cases x with
 | non=>cases r;rfl
 | bl _=>cases r;rfl
 | int _=>obtain⟨t,rfl⟩:=r;rfl
 | str _=>obtain⟨t,rfl⟩:=r;rfl
 | byt _=>obtain⟨t,rfl⟩:=r;rfl
 | flt _=>obtain⟨t,rfl⟩:=r;rfl
 | ref _=>cases r;rfl
 | ty _=>cases r;rfl
theorem dW {j pos'}(ha:PE X a ta):PC X .Is a (.Constant .none j pos') (xgk ta):=by
 intro pins s σ H Q I h
 refine thn (@ha pins s σ H _ I h) fun v s1 ⟨x,H1,I1,r1,q1⟩=>?_
 exact Constant_none (is_none_gen ⟨.bl _,H1,I1,by rw[r1.none_iff];rfl,q1⟩)
theorem rq {j pos'}(ha:PE X a ta):PC X .IsNot a (.Constant .none j pos') (xfa ta):=by
 intro pins s σ H Q I h
 refine thn (@ha pins s σ H _ I h) fun v s1 ⟨x,H1,I1,r1,q1⟩=>?_
 exact Constant_none (isnot_none_gen ⟨.bl _,H1,I1,by rw[r1.none_iff];rfl,q1⟩)
def tB (t:TE):TT:=fun σ H Q=>t σ H fun x H1=>∃c,x=.bl c∧Q c H1
theorem kh {op:CmpOp}{t:TE}(h:PC X op a b t)(h1:behindInMarks op b=false:=by first | exact xbD _ (by decide) (by decide) | rfl):PT X (.Compare a [op] [b] pos) (tB t):=by
 intro pins s σ H Q I hw
 refine wpAny_isTrue_Compare1 (thn (@h pins s σ H _ I hw) fun v s1 h1=>thn h1 fun u s2 h2=>thn h2 fun c s3 ⟨x,H1,I1,r1,q1⟩=>?_) h1
 obtain⟨d,rfl,q⟩:=q1
 cases r1
 exact wpAny_truthy_bool ⟨H1,I1,q⟩
theorem zP {e:Expr}{t:TE}(h:PE X e t)(he:∀whole,isTrue e X.env whole=(do let v ←whole;standAt e.pos;holding [v] (truthy v)):=by intro _;rfl):PT X e (tB t):=by
 intro pins s σ H Q I hw
 refine isTrue_plain (thn (@h pins s σ H _ I hw) fun v s1 ⟨x,H1,I1,r1,q1⟩=>?_) (he _)
 obtain⟨d,rfl,q⟩:=q1
 cases r1
 exact wpAny_truthy_bool ⟨H1,I1,q⟩
variable {tA tB':TT} {rest:List Expr}
def xgR (t u:TT):TT:=fun σ H Q=>t σ H fun c H1=>if c=true then u σ H1 Q else Q false H1
def tOr (t u:TT):TT:=fun σ H Q=>t σ H fun c H1=>if c=true then Q true H1 else u σ H1 Q
def xgj (t:TT):TT:=fun σ H Q=>t σ H fun c H1=>Q (!c) H1
theorem g9 (ha:PT X a tA):PW X (.BoolOp .And [a] pos) tA:=by
 intro wh pins s σ H Q I h
 refine isTrue_and (thn (@ha pins s σ H Q I h) fun c s1 e=>?_)
 cases c with
 | true=>exact isTrue_and_nil e
 | false=>exact e
theorem wR (ha:PT X a tA):PW X (.BoolOp .Or [a] pos) tA:=by
 intro wh pins s σ H Q I h
 refine isTrue_or (thn (@ha pins s σ H Q I h) fun c s1 e=>?_)
 cases c with
 | false=>exact isTrue_or_nil e
 | true=>exact e
theorem rO (ha:PT X a tA)(hb:PW X (.BoolOp .And (b::rest) pos) tB'):PW X (.BoolOp .And (a::b::rest) pos) (xgR tA tB'):=by
 intro wh pins s σ H Q I h
 refine isTrue_and (thn (@ha pins s σ H _ I h) fun c s1 ⟨H1,I1,q1⟩=>?_)
 cases c with
 | true=>exact @hb wh pins s1 σ H1 Q I1 q1
 | false=>exact⟨H1,I1,q1⟩
theorem uI (ha:PT X a tA)(hb:PW X (.BoolOp .Or (b::rest) pos) tB'):PW X (.BoolOp .Or (a::b::rest) pos) (tOr tA tB'):=by
 intro wh pins s σ H Q I h
 refine isTrue_or (thn (@ha pins s σ H _ I h) fun c s1 ⟨H1,I1,q1⟩=>?_)
 cases c with
 | true=>exact⟨H1,I1,q1⟩
 | false=>exact @hb wh pins s1 σ H1 Q I1 q1
theorem wm (ha:PT X a tA):PT X (.UnaryOp .Not a pos) (xgj tA):=by
 intro pins s σ H Q I h
 exact isTrue_not (@ha pins s σ H (fun c H1=>Q (!c) H1) I h)
def xfg (ta tb:TE):TE:=fun σ H Q=>ta σ H fun x H1=>∃c,x=.bl c∧if c=true then tb σ H1 Q else Q (.bl false) H1
def xgm (ta tb:TE):TE:=fun σ H Q=>ta σ H fun x H1=>∃c,x=.bl c∧if c=true then Q (.bl true) H1 else tb σ H1 Q
def xe2 (ta:TE):TE:=fun σ H Q=>ta σ H fun x H1=>∃c,x=.bl c∧Q (.bl (!c)) H1
theorem fc {op}{t:TE}(h:PE X a t):PE X (.BoolOp op [a] pos) t:=fun pins s σ H Q I hw=>BoolOp_one (@h pins s σ H Q I hw)
theorem fZ (ha:PE X a ta)(hb:PE X (.BoolOp .And (b::rest) pos) tb):PE X (.BoolOp .And (a::b::rest) pos) (xfg ta tb):=by
 intro pins s σ H Q I h
 refine BoolOp_and (thn (@ha pins s σ H _ I h) fun v s1 ⟨x,H1,I1,r1,q1⟩=>?_)
 obtain⟨c,rfl,q1⟩:=q1
 cases r1
 refine wpAny_truthy_bool ?_
 cases c with
 | true=>exact @hb pins s1 σ H1 Q I1 q1
 | false=>exact⟨.bl false,H1,I1,rfl,q1⟩
theorem xcS (ha:PE X a ta)(hb:PE X (.BoolOp .Or (b::rest) pos) tb):PE X (.BoolOp .Or (a::b::rest) pos) (xgm ta tb):=by
 intro pins s σ H Q I h
 refine BoolOp_or (thn (@ha pins s σ H _ I h) fun v s1 ⟨x,H1,I1,r1,q1⟩=>?_)
 obtain⟨c,rfl,q1⟩:=q1
 cases r1
 refine wpAny_truthy_bool ?_
 cases c with
 | false=>exact @hb pins s1 σ H1 Q I1 q1
 | true=>exact⟨.bl true,H1,I1,rfl,q1⟩
theorem xeG (ha:PE X a ta):PE X (.UnaryOp .Not a pos) (xe2 ta):=by
 intro pins s σ H Q I h
 refine UnaryOp_ (thn (@ha pins s σ H _ I h) fun v s1 ⟨x,H1,I1,r1,q1⟩=>?_)
 obtain⟨c,rfl,q1⟩:=q1
 cases r1
 exact not_of (wpAny_truthy_bool ⟨.bl (!c),H1,I1,rfl,q1⟩)
end
end L2
namespace L2
open PySem PySem.Spec PyProof.Rows
def SqL (K:PySem.W.Frag)(H:Hp)(a:Addr)(xs:List V):Prop :=
 Rd H a (.lst xs) ∨
  ∃(o:Obj) (its:Array Value) (n:Nat),K.lookup a=some o∧o.cls=.type "list" ∧ o.dict=none∧o.data=.seq its n∧its.size≤sizeLine∧zh xs its.toList
def SqT (K:PySem.W.Frag)(H:Hp)(a:Addr)(xs:List V):Prop :=
 Rd H a (.tup xs) ∨
  ∃(o:Obj) (its:Array Value) (n:Nat),K.lookup a=some o∧o.cls=.type "tuple" ∧ o.data=.seq its n∧its.size≤sizeLine∧zh xs its.toList
def xha:Value→Option V
 | .none=>some .non
 | .bool b=>some (.bl b)
 | .int i _=>some (.int i)
 | .str x _=>some (.str x)
 | .bytes b _=>some (.byt b)
 | .float b _=>some (.flt b)
 | .ref a=>some (.ref a)
 | .type n=>some (.ty n)
 | _=>none
theorem RelV.abs {x:V}{u:Value}(r:RelV x u):xha u=some x:=by
 cases x with
 | non=>cases r;rfl
 | bl _=>cases r;rfl
 | int _=>obtain⟨t,rfl⟩:=r;rfl
 | str _=>obtain⟨t,rfl⟩:=r;rfl
 | byt _=>obtain⟨t,rfl⟩:=r;rfl
 | flt _=>obtain⟨t,rfl⟩:=r;rfl
 | ref _=>cases r;rfl
 | ty _=>cases r;rfl
theorem RelV.inj {x y:V}{u:Value}(r:RelV x u)(q:RelV y u):x=y:=xjp (r.abs.symm.trans q.abs)
theorem zh.inj:∀ {xs ys:List V} {us:List Value},zh xs us→zh ys us→xs=ys
 | _,_,_,.nil,.nil=>rfl
 | _,_,_,.cons r t,.cons r' t'=>by rw[r.inj r',zh.inj t t']
section
variable {X:Cx} {pins:List (Addr×Obj)} {σ:St} {H:Hp} {s:Shared} {a:Addr} {xs ys:List V}
theorem SqL.of {K:PySem.W.Frag}(h:H a=some (.lst xs)):SqL K H a xs:=.inl (.inl h)
theorem SqT.of {K:PySem.W.Frag}(h:H a=some (.tup xs)):SqT K H a xs:=.inl (.inl h)
theorem Inv.list (I:Inv X pins σ H s)(h:SqL X.K H a xs):∃its:List Value,zh xs its∧PlainL s.heap a its.toArray∧xs.length≤sizeLine:=by
 rcases h with h | ⟨o,its,n,hk,hc,hd,hs,hz,r⟩
 ·obtain⟨z,its,n,r,e⟩:=h.ok I.hok
  exact⟨its,r,⟨_,n,e,rfl,rfl,rfl⟩,z⟩
 ·refine⟨its.toList,r,⟨o,n,I.kIn a o hk,hc,hd,by simpa using hs⟩,?_⟩
  have e:=r.length
  simp only[xhp] at e
  omega
theorem Inv.tuple (I:Inv X pins σ H s)(h:SqT X.K H a xs):∃its:List Value,zh xs its∧IsTup s.heap a its.toArray∧xs.length≤sizeLine:=by
 rcases h with h | ⟨o,its,n,hk,hc,hs,hz,r⟩
 ·obtain⟨z,its,r,p⟩:=h.ok I.hok
  exact⟨its,r,p,z⟩
 ·refine⟨its.toList,r,⟨o,I.kIn a o hk,hc,n,by simpa using hs⟩,?_⟩
  have e:=r.length
  simp only[xhp] at e
  omega
theorem Inv.list_inj (I:Inv X pins σ H s)(h:SqL X.K H a xs)(h':SqL X.K H a ys):xs=ys:=by
 obtain⟨its,r,⟨o,n,e,_,_,d⟩,_⟩:=I.list h
 obtain⟨its',r',⟨o',n',e',_,_,d'⟩,_⟩:=I.list h'
 rw[e] at e';cases e'
 rw[d] at d'
 injection d' with d1 _
 have:its=its':=by simpa using xjq Array.toList d1
 subst this
 exact r.inj r'
theorem Inv.tuple_inj (I:Inv X pins σ H s)(h:SqT X.K H a xs)(h':SqT X.K H a ys):xs=ys:=by
 obtain⟨its,r,⟨o,e,_,n,d⟩,_⟩:=I.tuple h
 obtain⟨its',r',⟨o',e',_,n',d'⟩,_⟩:=I.tuple h'
 rw[e] at e';cases e'
 rw[d] at d'
 injection d' with d1 _
 have:its=its':=by simpa using xjq Array.toList d1
 subst this
 exact r.inj r'
end
abbrev Cx.wish (X:Cx)(E:Value→Shared→Prop):Cx:={ X with xe:=E }
abbrev Cx.nox (X:Cx):Cx:=X.wish fun _ _=>False
theorem Cx.Ok.wish {X:Cx}(ok:X.Ok)(E:Value→Shared→Prop):(X.wish E).Ok :=
 ⟨ok.mod,ok.kind,ok.glob,ok.blt,ok.above,ok.inj,ok.has,ok.cab,ok.hd,ok.frames,ok.stk,ok.exf,ok.bs,ok.bsz,ok.noex,ok.exfs,ok.funs,ok.frf⟩
theorem Cx.Ok.unwish {X:Cx}{E:Value→Shared→Prop}(ok:(X.wish E).Ok):X.Ok :=
 ⟨ok.mod,ok.kind,ok.glob,ok.blt,ok.above,ok.inj,ok.has,ok.cab,ok.hd,ok.frames,ok.stk,ok.exf,ok.bs,ok.bsz,ok.noex,ok.exfs,ok.funs,ok.frf⟩
section
variable {X:Cx} {pins:List (Addr×Obj)} {σ:St} {H:Hp} {s:Shared} {E:Value→Shared→Prop}
theorem Inv.wish (I:Inv X pins σ H s)(E:Value→Shared→Prop):Inv (X.wish E) pins σ H s:=⟨I.ok.wish E,I.os,I.bare,I.base,I.loc,I.cell,I.free,I.freeC,I.pin,I.hok,I.len⟩
theorem Inv.unwish (I:Inv (X.wish E) pins σ H s):Inv X pins σ H s:=⟨I.ok.unwish,I.os,I.bare,I.base,I.loc,I.cell,I.free,I.freeC,I.pin,I.hok,I.len⟩
theorem SP.unwish {D:Ends}{f:Flow}{s':Shared}(h:SP (X.wish E) pins D f s'):SP X pins D f s':=by
 cases f with
 | next=>obtain⟨σ',H',I,q⟩:=h;exact⟨σ',H',I.unwish,q⟩
 | brk=>obtain⟨σ',H',I,q⟩:=h;exact⟨σ',H',I.unwish,q⟩
 | cont=>obtain⟨σ',H',I,q⟩:=h;exact⟨σ',H',I.unwish,q⟩
 | ret u=>obtain⟨v,σ',H',I,r,q⟩:=h;exact⟨v,σ',H',I.unwish,r,q⟩
theorem PSs.nox {st:List Stmt}{t:TS}(h:PSs X.nox st t):PSs X st t:=fun pins s σ H D I hw =>
 wpAny_mono (@h pins s σ H D (I.wish _) hw) (fun _ _ q=>q.unwish) fun _ _ z=>False.elim z
end
section
variable {X:Cx} {st:Stmt} {rest:List Stmt} {t u:TS} {e:Expr} {te:TE} {pos:Pos}
def xd6:TS:=fun D σ H=>D.nx σ H
def xfl (t u:TS):TS:=fun D σ H=>t { D with nx:=u D } σ H
theorem xT:PSs X [] xd6:=fun _ _ σ H _ I h=>wpAny_execs_nil ⟨σ,H,I,h⟩
theorem xc (h1:PS X st t)(h2:PSs X rest u):PSs X (st::rest) (xfl t u):=by
 intro pins s σ H D I h
 refine wpAny_execs_cons (thn (@h1 pins s σ H { D with nx:=u D } I h) fun f s1 q=>?_)
 cases f with
 | next =>
  obtain⟨σ',H',I',q⟩:=q
  exact @h2 pins s1 σ' H' D I' q
 | ret v=>exact q
 | brk=>exact q
 | cont=>exact q
theorem xh (h1:PS X st t):PSs X [st] t:=by
 intro pins s σ H D I h
 refine wpAny_execs_cons (thn (@h1 pins s σ H D I h) fun f s1 q=>?_)
 cases f with
 | next=>exact wpAny_execs_nil q
 | ret v=>exact q
 | brk=>exact q
 | cont=>exact q
theorem Inv.quiet {pins:List (Addr×Obj)}{σ:St}{H:Hp}{s:Shared}(I:Inv X pins σ H s):interactive X.env=false:=by simp[interactive,I.ok.kind]
def xc6 (te:TE):TS:=fun D σ H=>te σ H fun _ H1=>D.nx σ H1
theorem u6 (he:PE X e te)(hs:swapsWith e none pos.line X.env=pure false:=by rfl):PS X (.Expr e pos) (xc6 te):=by
 intro pins s σ H D I h
 exact wpAny_Expr_any (thn (@he pins s σ H _ I h) fun v s1 ⟨x,H1,I1,r1,q1⟩=>⟨σ,H1,I1,q1⟩) I.quiet hs
def xeZ (te:TE):TS:=fun D σ H=>te σ H D.rt
theorem xF (he:PE X e te):PS X (.Return (some e) pos) (xeZ te):=by
 intro pins s σ H D I h
 exact wpAny_Return_some (thn (@he pins s σ H _ I h) fun v s1 ⟨x,H1,I1,r1,q1⟩=>⟨x,σ,H1,I1,r1,q1⟩)
def xgS (c:TT)(t u:TS):TS:=fun D σ H=>c σ H fun b H1=>if b=true then t D σ H1 else u D σ H1
theorem yJ {c:Expr}{a b:List Stmt}{tc:TT}(hc:PT X c tc)(ha:PSs X a t)(hb:PSs X b u):PS X (.If c a b pos) (xgS tc t u):=by
 intro pins s σ H D I h
 refine wpAny_If (thn (@hc pins s σ H _ I h) fun d s1 ⟨H1,I1,q1⟩=>?_)
 cases d with
 | true=>exact @ha pins s1 σ H1 D I1 q1
 | false=>exact @hb pins s1 σ H1 D I1 q1
def xcm:TS:=fun _ _ _=>False
theorem ji:PS X st xcm:=fun _ _ _ _ _ _ h=>h.elim
end
abbrev TG:=V→St→Hp→(St→Hp→Prop)→Prop
abbrev TGs:=List V→St→Hp→(St→Hp→Prop)→Prop
def PG (X:Cx)(target:Expr)(t:TG):Prop :=
 ∀(pins:List (Addr×Obj)) (s:Shared) (σ:St) (H:Hp) (v:V) (u:Value) (Q:St→Hp→Prop),Inv X pins σ H s→RelV v u→t v σ H Q →
  wpAny (model X.prog X.w) X.A (assign target X.env u) (fun _ s'=>∃ σ' H',Inv X pins σ' H' s'∧Q σ' H') X.xe s
def PGs (X:Cx)(ts:List Expr)(t:TGs):Prop :=
 ∀(pins:List (Addr×Obj)) (s:Shared) (σ:St) (H:Hp) (vs:List V) (us:List Value) (Q:St→Hp→Prop),Inv X pins σ H s→zh vs us→t vs σ H Q →
  wpAny (model X.prog X.w) X.A (assignInOrder ((assignEach ts X.env).map (·.2)) us) (fun _ s'=>∃ σ' H',Inv X pins σ' H' s'∧Q σ' H') X.xe s
abbrev xgb:=V→V→V→Hp→(Hp→Prop)→Prop
def xgY (X:Cx)(t:xgb):Prop :=
 ∀(pins:List (Addr×Obj)) (s:Shared) (σ:St) (H:Hp) (o i v:V) (ov iv u:Value) (Q:Hp→Prop),Inv X pins σ H s→RelV o ov→RelV i iv→RelV v u→t o i v H Q →
  wpAny (model X.prog X.w) X.A (setItem ov iv u) (fun _ s'=>∃H',Inv X pins σ H' s'∧Q H') X.xe s
section
variable {X:Cx} {pos:Pos}
def jt (i:Nat):TG:=fun v σ H Q=>Q (σ.set i (some v)) H
theorem xY {i:Nat}{x:Str}(hN:X.N.Nodup)(hi:X.N[i]? = some x)(hx:Loc X.env.scope x)(hf:X.fn x=true∨X.env.scope.names.lookup x=some .local:=by first | exact .inl rfl | exact .inr rfl | assumption):PG X (.Name x pos) (jt i):=by
 intro pins s σ H v u Q I r h
 exact wpAny_assign_Name (gq I hN hi hx r (fun s' I'=>⟨_,H,I',h⟩) hf)
def xfo:TGs:=fun vs σ H Q=>vs=[]∧Q σ H
def xbc (t:TG)(u:TGs):TGs:=fun vs σ H Q=>∃v r,vs=v::r∧t v σ H fun σ' H'=>u r σ' H' Q
theorem yo:PGs X [] xfo:=by
 intro pins s σ H vs us Q I r h
 obtain⟨e,h⟩:=h
 subst e
 cases r
 exact assignInOrder_nil ⟨σ,H,I,h⟩
theorem xr {e:Expr}{es:List Expr}{t:TG}{u:TGs}(h1:PG X e t)(h2:PGs X es u)
  (hs:(assignEach (e::es) X.env).map (·.2)=assign e X.env::(assignEach es X.env).map (·.2):=by rfl):PGs X (e::es) (xbc t u):=by
 intro pins s σ H vs us Q I r h
 obtain⟨v,vr,e1,h⟩:=h
 subst e1
 cases r with
 | cons r rr =>
  rw[hs]
  refine assignInOrder_cons (thn (@h1 pins s σ H _ _ _ I r h) fun _ s1 ⟨σ1,H1,I1,q1⟩=>?_)
  exact @h2 pins s1 σ1 H1 _ _ Q I1 rr q1
def xeb (K:PySem.W.Frag)(n:Nat)(t:TGs):TG:=fun v σ H Q=>∃a xs,v=.ref a∧SqT K H a xs∧xs.length=n∧t xs σ H Q
theorem xeQ {es:List Expr}{k:Nat}{t:TGs}{n:Nat}(hc:X.calm=true)(h:PGs X es t)
  (hn:(assignEach es X.env).length=n:=by rfl) (hst:(assignEach es X.env).findIdx? (·.1)=none:=by rfl):PG X (.Tuple es k pos) (xeb X.K n t):=by
 intro pins s σ H v u Q I r hw
 obtain⟨a,xs,e1,hq,hl,hw⟩:=hw
 subst e1
 cases r
 obtain⟨its,rv,ht,hz⟩:=I.tuple hq
 refine assign_Tuple_tuple (I.ok.hd hc) ht (by simp[hn,←hl,rv.length]) hst fun h' hx=>?_
 have I1:Inv X pins σ H { s with heap:=h' }:=I.kept (t':=s.toks) fun b o e=>hx b o (xjn (Heap.lt_size e)) e
 exact @h pins _ σ H xs _ Q I1 (by simpa using rv) hw
def xgQ (to ti:TE)(t:xgb):TG:=fun v σ H Q=>to σ H fun o H1=>ti σ H1 fun i H2=>t o i v H2 fun H3=>Q σ H3
theorem j3 {o i:Expr}{to ti:TE}{t:xgb}(ho:PE X o to)(hi:PE X i ti)(hs:xgY X t)
  (ha:∀v,assign (.Subscript o i pos) X.env v=(do
   let ov ←holding [v] (eval o X.env)
   let iv ←holding [v,ov] (eval i X.env)
   standAt pos
   holding [v,ov,iv] (setItem ov iv v)
   release [v,ov,iv] []):=by intro _;rfl):PG X (.Subscript o i pos) (xgQ to ti t):=by
 intro pins s σ H v u Q I r h
 rw[ha]
 refine wpAny_bind (wpAny_holding (thn (@ho pins s σ H _ I h) fun ov s1 ⟨x,H1,I1,r1,q1⟩=>?_))
 refine wpAny_bind (wpAny_holding (thn (@hi pins s1 σ H1 _ I1 q1) fun iv s2 ⟨y,H2,I2,r2,q2⟩=>?_))
 refine wpAny_bind (wpAny_standAt (wpAny_bind (wpAny_holding (thn (@hs pins s2 σ H2 x y v ov iv u _ I2 r1 r2 r q2) fun _ s3 ⟨H3,I3,q3⟩=>?_))))
 exact wpAny_release ⟨σ,H3,I3,q3⟩
def xa0 (te:TE)(g:TG):TS:=fun D σ H=>te σ H fun x H1=>g x σ H1 D.nx
theorem zC {tg e:Expr}{te:TE}{g:TG}(he:PE X e te)(hg:PG X tg g)(hs:swapsWithSole [tg] e pos.line X.env=pure false:=by rfl)(hw:swappedStores [tg] e X.env=pure none:=by rfl)
  (h1:(assignEach [tg] X.env).map (·.2)=[assign tg X.env]:=by rfl):PS X (.Assign [tg] e pos) (xa0 te g):=by
 intro pins s σ H D I h
 refine wpAny_Assign_stores (thn (@he pins s σ H _ I h) fun v s1 ⟨x,H1,I1,r1,q1⟩=>?_) hs hw
 rw[h1]
 exact thn (@hg pins s1 σ H1 x v _ I1 r1 q1) fun _ s2 q=>q
theorem j8 {i:Nat}{x:Str}{e:Expr}{te:TE}{pos':Pos}(hN:X.N.Nodup)(hi:X.N[i]? = some x)(hx:Loc X.env.scope x)(he:PE X e te)(hs:swapsWith e (some (.Name x pos')) pos.line X.env=pure false:=by rfl)(hf:X.fn x=true∨X.env.scope.names.lookup x=some .local:=by first | exact .inl rfl | exact .inr rfl | assumption) :
  PS X (.Assign [.Name x pos'] e pos) (xa0 te (jt i)):=by
 intro pins s σ H D I h
 refine wpAny_Assign_Name (thn (@he pins s σ H _ I h) fun v s1 ⟨y,H1,I1,r1,q1⟩=>?_) hs
 exact gq I1 hN hi hx r1 (fun s2 I2=>⟨_,H1,I2,q1⟩) hf
def xgO (i j:Nat)(ta:TA):TS:=fun D σ H=>ta σ H fun vs H1=>∃v w,vs=[v,w]∧D.nx ((σ.set i (some v)).set j (some w)) H1
theorem sN {i j:Nat}{x y:Str}{a b:Expr}{ta:TA}{px py pt:Pos}{kt k2 pt2}(hc:X.calm=true)(hN:X.N.Nodup)(hi:X.N[i]? = some x)(hj:X.N[j]? = some y)(hij:i≠j)
  (hx:X.env.scope.names.lookup x=some .local) (hy:X.env.scope.names.lookup y=some .local) (ha:PA X [a,b] ta)
  (hw:swappedStores [.Tuple [.Name x px,.Name y py] kt pt] (.Tuple [a,b] k2 pt2) X.env=pure (some [x,y]))
  (hs:swapsWithSole [.Tuple [.Name x px,.Name y py] kt pt] (.Tuple [a,b] k2 pt2) pos.line X.env=pure false:=by rfl) :
  PS X (.Assign [.Tuple [.Name x px,.Name y py] kt pt] (.Tuple [a,b] k2 pt2) pos) (xgO i j ta):=by
 intro pins s σ H D I h
 rw[exec_Assign_arm]
 refine wpAny_bind (wpAny_standAt ?_)
 rw[hs]
 refine wpAny_bind (wpAny_pure ?_)
 rw[if_neg (by decide)]
 refine wpAny_bind (Tuple_ (thn (@ha _ pins s σ H _ I h) fun us s1 ⟨vs,H1,I1,r1,q1⟩=>?_))
 obtain⟨v,w,e1,q1⟩:=q1
 subst e1
 obtain⟨u1,u2,rfl,rv,rw'⟩:∃u1 u2,us=[u1,u2]∧RelV v u1∧RelV w u2:=by
  cases r1 with
  | cons p q =>
   cases q with
   | cons p' q' =>
    cases q'
    exact⟨_,_,rfl,p,p'⟩
 refine wpAny_newObj_type ?_ (by show 2≤sizeLine;decide)
 have I2:Inv X pins σ H1 { s1 with heap:=s1.heap.push { cls:=.type "tuple", data:=.seq [u1,u2].toArray } }:=I1.kept (t':=s1.toks) fun b o e=>Heap.get?_push_of_some _ e
 rw[hw]
 refine wpAny_bind (wpAny_pure ?_)
 show wpAny (model X.prog X.w) X.A (do rule "assign.swapped-stores"; let items ←unpackItems (.ref s1.heap.objs.size) 2 none;assignInOrder [fun v=>bindName X.env y v,fun v=>bindName X.env x v] items.reverse;pure Flow.next) _ _ _
 refine wpAny_bind (wpAny_rule (wpAny_bind (unpackItems_tuple (items := #[u1,u2]) (I.ok.hd hc) (IsTup.new s1.heap _) fun h' hx'=>?_)))
 have I3:=I2.kept (h':=h') (t':=s1.toks) fun b o e=>hx' b o (xjn (Heap.lt_size e)) e
 show wpAny _ _ (assignInOrder [fun v=>bindName X.env y v,fun v=>bindName X.env x v] [u2,u1] >>= fun _=>pure Flow.next) _ _ _
 refine wpAny_bind (assignInOrder_cons (wpAny_bindName (gq I3 hN hj (.inl hy) rw' (fun s2 I4=>?_) (.inr hy))))
 refine assignInOrder_cons (wpAny_bindName (gq I4 hN hi (.inl hx) rv (fun s3 I5=>assignInOrder_nil (wpAny_pure ?_)) (.inr hx)))
 rw[List.set_comm _ _ (Ne.symm hij)] at I5
 exact⟨_,H1,I5,q1⟩
end
section
variable {X:Cx} {pos:Pos}
def xcK (c:TT)(tb:TS):TS:=fun D σ H=>∃W:Nat→St→Hp→Prop,(∃m,W m σ H)∧∀m σ H,W m σ H →
 c σ H fun b H1=>if b=true then ∃N:St→Hp→Prop,(∀ σ' H',N σ' H'→∃m',m' < m∧W m' σ' H')∧tb { D with nx:=N,ct:=N,bk:=D.nx } σ H1 else D.nx σ H1
theorem cG {c:Expr}{body:List Stmt}{tc:TT}{tb:TS}(hp:PassesOwn (model X.prog X.w) X.A X.env X.xe)(hc:PT X c tc)(hb:PSs X body tb):PS X (.While c body [] pos) (xcK tc tb):=by
 intro pins s σ H D I h
 obtain⟨W,⟨m0,w0⟩,turn⟩:=h
 refine wpAny_While (codeAny_whileLoop (fun n s'=>∃ σ' H',Inv X pins σ' H' s'∧W n σ' H') ?_ m0 ⟨σ,H,I,w0⟩)
 rintro n s1 ⟨σ1,H1,I1,w1⟩
 refine wpAny_passesOwn hp (thn (@hc pins s1 σ1 H1 _ I1 (turn n σ1 H1 w1)) fun b s2 ⟨H2,I2,q2⟩=>?_)
 cases b with
 | true =>
  obtain⟨N,hN,q2⟩:=q2
  rw[if_pos rfl]
  refine wpAny_passesOwn hp (thn (@hb pins s2 σ1 H2 _ I2 q2) fun f s3 q3=>?_)
  cases f with
  | next =>
   obtain⟨σ3,H3,I3,n3⟩:=q3
   obtain⟨m',hm,w3⟩:=hN σ3 H3 n3
   exact⟨m',hm,σ3,H3,I3,w3⟩
  | cont =>
   obtain⟨σ3,H3,I3,n3⟩:=q3
   obtain⟨m',hm,w3⟩:=hN σ3 H3 n3
   exact⟨m',hm,σ3,H3,I3,w3⟩
  | brk=>exact q3
  | ret v=>exact q3
 | false =>
  rw[if_neg xhr]
  exact wpAny_execs_nil ⟨σ1,H2,I2,q2⟩
end
structure It where
 go:Nat→Hp→Prop
 yld:Nat→Hp→V→Hp→Prop
 stop:Nat→Hp→Prop
def dD (X:Cx)(pins:List (Addr×Obj))(H:Hp)(b:Addr):Prop :=
 H b=none∧b≠X.env.locals∧b∉X.fs∧(b∈X.ex∨X.s₀.heap.objs.size≤b)∧(∀x c,X.env.cells.lookup x=some c→c≠b)∧∀p∈X.pn++pins,p.1≠b
theorem Inv.fpOk {X:Cx}{pins:List (Addr×Obj)}{σ:St}{H H':Hp}{s:Shared}{b:Addr}(I:Inv X pins σ H s)(hb:s.heap.objs.size≤b)(hn:H' b=none):dD X pins H' b:=by
 refine⟨hn,xjm (xji I.lt hb),I.nofs hb,.inr (xjf I.sz hb),fun x c e z=>?_,fun p hp z=>?_⟩
 ·obtain⟨v,q⟩:=I.cell x c e
  exact absurd (xji q.lt (by rw[z];exact hb)) (xjg _)
 ·exact absurd (xji (Heap.lt_size (I.pin p hp).1) (by rw[z];exact hb)) (xjg _)
structure Turn (P:Program)(w:World)(K:PySem.W.Frag)(tg:Expr)(J:It)(fp:List Addr)(it:Addr)(tn:Nat→Heap→Prop):Prop where
 mem:it∈fp
 obj:∀i h,tn i h→∀b∈fp,∃o,h.get? b=some o∧∀v,o.data≠.cell v
 keep:∀i h h',tn i h→(∀b∈fp,∀o,h.get? b=some o→h'.get? b=some o)→tn i h'
 item:∀(X:Cx),X.prog=P→X.w=w→X.K=K→X.calm=true→∀(i:Nat) (pins:List (Addr×Obj)) (s:Shared) (σ:St) (H:Hp) (E:Value→Shared→Prop),Inv X pins σ H s→(∀b∈fp,dD X pins H b)→tn i s.heap→J.go i H →
  wpAny (model P w) X.A (pyNext (.ref it)) (fun r s1=>∃u,r=some u ∧
   wpAny (model P w) X.A (letOwnedTupleGo tg (.ref it) u) (fun _ s2=>∃x H',Inv X pins σ H' s2∧RelV x u∧J.yld i H x H'∧tn (i+1) s2.heap∧∀b∈fp,H' b=none) E s1) E s
 done:∀(X:Cx),X.prog=P→X.w=w→X.K=K→X.calm=true→∀(i:Nat) (pins:List (Addr×Obj)) (s:Shared) (σ:St) (H:Hp) (E:Value→Shared→Prop),Inv X pins σ H s→(∀b∈fp,dD X pins H b)→tn i s.heap→J.stop i H →
  wpAny (model P w) X.A (pyNext (.ref it)) (fun r s1=>r=none∧Inv X pins σ H s1) E s
 self:∀(A:Around) (i:Nat) (s:Shared) (Q:Value→Shared→Prop) (E:Value→Shared→Prop),tn i s.heap→Q (.ref it) s→wpAny (model P w) A (pyIter (.ref it)) Q E s
abbrev TI:=St→Hp→(It→Hp→Prop)→Prop
def PIE (X:Cx)(pins:List (Addr×Obj))(σ:St)(tg:Expr)(R:It→Hp→Prop)(itv:Value)(s2:Shared):Prop :=
 ∃(it:Addr) (fp:List Addr) (tn:Nat→Heap→Prop) (J:It) (H':Hp),itv=.ref it∧Inv X pins σ H' s2∧Turn X.prog X.w X.K tg J fp it tn∧tn 0 s2.heap∧(∀b∈fp,dD X pins H' b)∧R J H'
def PI (X:Cx)(tg iter:Expr)(wi:TI):Prop :=
 ∀(pins:List (Addr×Obj)) (s:Shared) (σ:St) (H:Hp) (R:It→Hp→Prop),Inv X pins σ H s→wi σ H R →
  wpAny (model X.prog X.w) X.A (eval iter X.env) (fun v s1=>wpAny (model X.prog X.w) X.A (pyIter v) (PIE X pins σ tg R) X.xe s1) X.xe s
theorem xdm {M:Model}{A:Around}{E:Value→Shared→Prop}{s:Shared}{tg:Expr}{it:Addr}{u:Value}{o:Obj}{n:String}{vs:Array Value}{Q:Unit→Shared→Prop}(ho:s.heap.get? it=some o)(hc:o.cls=.type n)(hd:o.data=.fields vs)
  (hn:["enumerate", "zip", "dict_itemiterator", "dict_reverseitemiterator", "odict_iterator", "itertools.zip_longest", "itertools.pairwise"].contains n=false) (hQ:Q () s):wpAny M A (letOwnedTupleGo tg (.ref it) u) Q E s:=by
 unfold letOwnedTupleGo
 cases tg<;>first
  | exact wpAny_pure hQ
  | (cases u<;>first
    | exact wpAny_pure hQ
    | (refine wpAny_bind (wpAny_load ho ?_)
       rw[hc,hd]
       show wpAny M A (if (["enumerate", "zip", "dict_itemiterator", "dict_reverseitemiterator", "odict_iterator", "itertools.zip_longest", "itertools.pairwise"].contains n&&vs[0]? == some (rawInt _))=true then _ else _) Q E s
       rw[if_neg (by intro h;rw[hn,Bool.false_and] at h;cases h)]
       exact wpAny_pure hQ))
def Itl (K:PySem.W.Frag)(a:Addr):It :=
 ⟨fun i H=>∃xs x,SqL K H a xs∧xs[i]? = some x,fun i H x H'=>H'=H∧∀xs,SqL K H a xs→xs[i]? = some x,fun i H=>∃xs,SqL K H a xs∧xs.length≤i⟩
def Itt (K:PySem.W.Frag)(a:Addr):It :=
 ⟨fun i H=>∃xs x,SqT K H a xs∧xs[i]? = some x,fun i H x H'=>H'=H∧∀xs,SqT K H a xs→xs[i]? = some x,fun i H=>∃xs,SqT K H a xs∧xs.length≤i⟩
def Itr (lo:Int)(n:Nat):It:=⟨fun i _=>i<n,fun i H x H'=>H'=H∧x=.int (lo+i),fun i _=>n≤i⟩
theorem lW {P:Program}{w:World}{K:PySem.W.Frag}{tg:Expr}(a it:Addr):Turn P w K tg (Itl K a) [it] it (fun i h=>h.IsListIter it a i) where
 mem:=by simp
 obj:=fun i h st b hb=>by
  have e:b=it:=by simpa using hb
  subst e
  obtain⟨o,e,c,d⟩:=st
  exact⟨o,e,fun v z=>by rw[d] at z;cases z⟩
 keep:=fun i h h' st k=>st.at fun o e=>k it (by simp) o e
 item:=by
  intro X hP hw hK hc i pins s σ H E I hf st hg
  subst hP hw hK
  obtain⟨xs,x,hq,hx⟩:=hg
  obtain⟨its,rv,p,hz⟩:=I.list hq
  obtain⟨u,hu,ru⟩:=rv.get hx
  obtain⟨f0,f1,f2,f3,f4,f5⟩:=hf it (by simp)
  refine wpAny_pyNext_list_item st p.isList (x:=u) (by simpa using hu) fun h' st' sb=>?_
  have I1:Inv X pins σ H { s with heap:=h' }:=I.turned (t':=s.toks) (fun b o hb e=>(sb.2 b hb).trans e) f0 f1 f3 f4 f5
  obtain⟨o,e,c,d⟩:=id st'
  exact⟨u,rfl,xdm (s:={ s with heap:=h' }) e c d (by decide) ⟨x,H,I1,ru,⟨rfl,fun ys hy=>by rw[I.list_inj hy hq];exact hx⟩,st',fun b hb=>(hf b hb).1⟩⟩
 done:=by
  intro X hP hw hK hc i pins s σ H E I hf st hg
  subst hP hw hK
  obtain⟨xs,hq,hx⟩:=hg
  obtain⟨its,rv,p,hz⟩:=I.list hq
  obtain⟨f0,f1,f2,f3,f4,f5⟩:=hf it (by simp)
  have hl:=rv.length
  exact wpAny_pyNext_list_end (I.ok.hd hc) st p.isList (by simp;omega) fun h' eb=>⟨rfl,I.turned (t':=s.toks) (fun b o hb e=>eb b o hb e) f0 f1 f3 f4 f5⟩
 self:=fun _ _ _ _ _ st h=>wpAny_pyIter_listiter st h
theorem pI {P:Program}{w:World}{K:PySem.W.Frag}{tg:Expr}(a it:Addr):Turn P w K tg (Itt K a) [it] it (fun i h=>h.IsTupleIter it a i) where
 mem:=by simp
 obj:=fun i h st b hb=>by
  have e:b=it:=by simpa using hb
  subst e
  obtain⟨o,e,c,d⟩:=st
  exact⟨o,e,fun v z=>by rw[d] at z;cases z⟩
 keep:=fun i h h' st k=>st.at fun o e=>k it (by simp) o e
 item:=by
  intro X hP hw hK hc i pins s σ H E I hf st hg
  subst hP hw hK
  obtain⟨xs,x,hq,hx⟩:=hg
  obtain⟨its,rv,p,hz⟩:=I.tuple hq
  obtain⟨u,hu,ru⟩:=rv.get hx
  obtain⟨f0,f1,f2,f3,f4,f5⟩:=hf it (by simp)
  refine wpAny_pyNext_tuple_item st (show s.heap.IsTuple a its.toArray from p) (x:=u) (by simpa using hu) fun h' st' sb=>?_
  have I1:Inv X pins σ H { s with heap:=h' }:=I.turned (t':=s.toks) (fun b o hb e=>(sb.2 b hb).trans e) f0 f1 f3 f4 f5
  obtain⟨o,e,c,d⟩:=id st'
  exact⟨u,rfl,xdm (s:={ s with heap:=h' }) e c d (by decide) ⟨x,H,I1,ru,⟨rfl,fun ys hy=>by rw[I.tuple_inj hy hq];exact hx⟩,st',fun b hb=>(hf b hb).1⟩⟩
 done:=by
  intro X hP hw hK hc i pins s σ H E I hf st hg
  subst hP hw hK
  obtain⟨xs,hq,hx⟩:=hg
  obtain⟨its,rv,p,hz⟩:=I.tuple hq
  obtain⟨f0,f1,f2,f3,f4,f5⟩:=hf it (by simp)
  have hl:=rv.length
  exact wpAny_pyNext_tuple_end (I.ok.hd hc) st (show s.heap.IsTuple a its.toArray from p) (by simp;omega) fun h' eb=>⟨rfl,I.turned (t':=s.toks) (fun b o hb e=>eb b o hb e) f0 f1 f3 f4 f5⟩
 self:=fun _ _ _ _ _ st h=>wpAny_pyIter_tupleiter st h
theorem pM {P:Program}{w:World}{K:PySem.W.Frag}{tg:Expr}(it:Addr)(lo:Int)(n:Nat):Turn P w K tg (Itr lo n) [it] it (fun i h=>IsRangeIter h it (lo+(i:Nat)*1) ((n:Int)-(i:Nat)) 1) where
 mem:=by simp
 obj:=fun i h st b hb=>by
  have e:b=it:=by simpa using hb
  subst e
  exact⟨_,st,fun v z=>by
   have z':Data.fields _=Data.cell v:=z
   cases z'⟩
 keep:=fun i h h' st k=>k it (by simp) _ st
 item:=by
  intro X hP hw hK hc i pins s σ H E I hf st hg
  subst hP hw hK
  obtain⟨f0,f1,f2,f3,f4,f5⟩:=hf it (by simp)
  have W:=Walks.range (prog:=X.prog) (w:=X.w) (I.ok.hd hc) it lo 1 n
  refine W.item i s _ _ hg st fun v h' tk hv st' kk=>?_
  obtain⟨t,rfl⟩:=hv
  have I1:Inv X pins σ H { s with heap:=h',toks:=tk }:=I.turned (fun b o hb e=>kk b o (by simpa using hb) e) f0 f1 f3 f4 f5
  refine⟨_,rfl,xdm (s:={ s with heap:=h',toks:=tk }) (n := "range_iterator") st' rfl rfl (by decide) ⟨.int (lo+i),H,I1,⟨t,?_⟩,⟨rfl,rfl⟩,st',fun b hb=>(hf b hb).1⟩⟩
  rw[xhW]
 done:=by
  intro X hP hw hK hc i pins s σ H E I hf st hg
  subst hP hw hK
  obtain⟨f0,f1,f2,f3,f4,f5⟩:=hf it (by simp)
  exact wpAny_pyNext_range_end (I.ok.hd hc) st (by have:n≤i:=hg;omega) fun h' eb=>⟨rfl,I.turned (t':=s.toks) (fun b o hb e=>eb b o hb e) f0 f1 f3 f4 f5⟩
 self:=fun _ _ _ _ _ st h=>wpAny_pyIter_rangeiter st h
end L2
namespace L2
open PySem PySem.Spec PyProof.Rows
section
variable {X:Cx} {tg:Expr}
def xfH (K:PySem.W.Frag)(tl:TE):TI:=fun σ H R=>tl σ H fun x H1=>∃a,x=.ref a∧(∃xs,SqL K H1 a xs)∧R (Itl K a) H1
theorem bT {pins:List (Addr×Obj)}{σ:St}{H:Hp}{s:Shared}{R:It→Hp→Prop}{E:Value→Shared→Prop}{lo hi:Int}{t u v:Tok}{tk:Nat}(I:Inv X pins σ H s)(h1:-(2 ^ 62)≤lo)(h2:lo<2 ^ 62)(h3:-(2 ^ 62)≤hi)(h4:hi<2 ^ 62)
  (q:R (Itr lo (hi-lo).toNat) H):wpAny (model X.prog X.w) X.A (pyIter (.ref s.heap.objs.size)) (PIE X pins σ tg R) E { s with heap:=s.heap.push { cls:=.type "range", data:=.fields #[.int lo t,.int hi u,.int 1 v] },toks:=tk }:=by
 refine wpAny_pyIter_range (IsRange.new ..) (small_one h1 h2 h3 h4) ?_
 have I1:Inv X pins σ H { s with heap:=s.heap.push { cls:=.type "range", data:=.fields #[.int lo t,.int hi u,.int 1 v] },toks:=tk }:=I.kept fun b o e=>Heap.get?_push_of_some _ e
 refine⟨(s.heap.push { cls:=.type "range", data:=.fields #[.int lo t,.int hi u,.int 1 v] }).objs.size,[(s.heap.push { cls:=.type "range", data:=.fields #[.int lo t,.int hi u,.int 1 v] }).objs.size],_,_,H,rfl,
  I1.kept (t':=tk) fun b o e=>Heap.get?_push_of_some _ e,pM _ lo (hi-lo).toNat,?_,fun b hb=>?_,q⟩
 ·have e1:lo+((0:Nat):Int)*1=lo:=by simp
  have e2:(((hi-lo).toNat:Nat):Int)-((0:Nat):Int)=Builtin.Range.rangeSize lo hi 1:=by rw[rangeSize_one];split<;>omega
  show IsRangeIter _ _ (lo+((0:Nat):Int)*1) ((((hi-lo).toNat:Nat):Int)-((0:Nat):Int)) 1
  rw[e1,e2]
  exact Heap.get?_push_size _ rfl
 ·have e:b=(s.heap.push { cls:=.type "range", data:=.fields #[.int lo t,.int hi u,.int 1 v] }).objs.size:=by simpa using hb
  subst e
  exact I1.fpOk (xjd _) (I1.hok.fresh (xjd _))
def xeR (ta:TA):TI:=fun σ H R=>ta σ H fun vs H1=>∃j:Int,vs=[.int j]∧-(2 ^ 62)≤j∧j<2 ^ 62∧R (Itr 0 j.toNat) H1
def xeH (ta:TA):TI:=fun σ H R=>ta σ H fun vs H1=>∃i j:Int,vs=[.int i,.int j]∧(-(2 ^ 62)≤i∧i<2 ^ 62∧-(2 ^ 62)≤j∧j<2 ^ 62)∧R (Itr i (j-i).toNat) H1
theorem qj {a:Expr}{ta:TA}{p pos:Pos}(hg:Gl X "range")(hm:X.mg "range" = none)(ha:PA X [a] ta)(hs:starEach [a] X.env=[(false,eval a X.env)]:=by rfl):PI X tg (.Call (.Name "range" p) [a] [] pos) (xeR ta):=by
 intro pins s σ H R I h
 refine Call_ (fv I hg hm boot_range (PyProof.Rows.callWith_type1 (thn (@ha pos pins s σ H _ I h) fun us s1 ⟨vs,H1,I1,r1,q1⟩=>?_) hs rfl))
 obtain⟨j,e,q1,q2,q⟩:=q1
 subst e
 cases r1 with
 | cons r rr =>
  cases rr
  obtain⟨t,rfl⟩:=r
  exact call_range_1 (bT I1 (by omega) (by omega) q1 q2 (by simpa using q))
theorem mw {a b:Expr}{ta:TA}{p pos:Pos}(hg:Gl X "range")(hm:X.mg "range" = none)(ha:PA X [a,b] ta)(hs:starEach [a,b] X.env=[(false,eval a X.env),(false,eval b X.env)]:=by rfl)(hs2:starEach [b] X.env=[(false,eval b X.env)]:=by rfl) :
  PI X tg (.Call (.Name "range" p) [a,b] [] pos) (xeH ta):=by
 intro pins s σ H R I h
 refine Call_ (fv I hg hm boot_range (PyProof.Rows.callWith_type1 (thn (@ha pos pins s σ H _ I h) fun us s1 ⟨vs,H1,I1,r1,q1⟩=>?_) (by rw[hs,hs2]) (by rw[hs2];rfl)))
 obtain⟨i,j,e,⟨q1,q2,q3,q4⟩,q⟩:=q1
 subst e
 cases r1 with
 | cons r rr =>
  cases rr with
  | cons r' rr =>
   cases rr
   obtain⟨t,rfl⟩:=r
   obtain⟨t',rfl⟩:=r'
   exact call_range_2 (bT I1 q1 q2 q3 q4 q)
def xgo (wi:TI)(g:TG)(tb:TS):TS:=fun D σ H=>wi σ H fun J H1=>∃W:Nat→Nat→St→Hp→Prop,(∃m,W 0 m σ H1)∧∀i m σ H,W i m σ H →
 (J.stop i H∧D.nx σ H)∨(J.go i H∧∃N:St→Hp→Prop,(∀ σ' H',N σ' H'→∃m',m' < m∧W (i+1) m' σ' H')∧∀x H',J.yld i H x H'→g x σ H' fun σ2 H2=>tb { D with nx:=N,ct:=N,bk:=D.nx } σ2 H2)
def uP (fp:List Addr)(h:Heap):List (Addr×Obj):=fp.filterMap fun b=>(h.get? b).map fun o=>(b,o)
theorem zi {fp:List Addr}{h:Heap}{b:Addr}{o:Obj}(hb:b∈fp)(e:h.get? b=some o):(b,o)∈uP fp h:=xiN.mpr ⟨b,hb,by rw[e];rfl⟩
theorem jm {fp:List Addr}{h:Heap}{p:Addr×Obj}(hp:p∈uP fp h):p.1∈fp∧h.get? p.1=some p.2:=by
 obtain⟨b,hb,e⟩:=xiN.mp hp
 cases q:h.get? b with
 | none=>rw[q] at e;cases e
 | some o =>
  rw[q] at e
  have e':(b,o)=p:=xjp e
  subst e'
  exact⟨hb,q⟩
theorem Inv.pinned {pins:List (Addr×Obj)}{σ:St}{H:Hp}{s:Shared}{fp:List Addr}(I:Inv X pins σ H s)(hf:∀b∈fp,dD X pins H b)(ho:∀b∈fp,∃o,s.heap.get? b=some o∧∀v,o.data≠.cell v):Inv X (pins++uP fp s.heap) σ H s :=
 I.pins_of fun p hp=>(xiG.mp hp).elim (fun z=>I.pin p (xiI _ z)) fun z=>by
  obtain⟨hb,e⟩:=jm z
  obtain⟨f0,f1,f2,_⟩:=hf p.1 hb
  obtain⟨o,e',d⟩:=ho p.1 hb
  rw[e] at e';cases e'
  exact⟨e,f0,f1,f2,d⟩
theorem Inv.unpinned {pins pl:List (Addr×Obj)}{σ:St}{H:Hp}{s:Shared}(I:Inv X (pins++pl) σ H s):Inv X pins σ H s:=I.pins_of fun p hp=>I.pin p (xiI _ (xiH _ hp))
theorem zM {iter:Expr}{body:List Stmt}{wi:TI}{g:TG}{tb:TS}{pos:Pos}(hp:PassesOwn (model X.prog X.w) X.A X.env X.xe)(hc:X.calm=true)(hi:PI X tg iter wi)(hg:PG X tg g)(hb:PSs X body tb)
  (hs:∀x,foldedSetIterable iter X.env x=pure x:=by intro _;rfl):PS X (.For tg iter body [] pos) (xgo wi g tb):=by
 intro pins s σ H D I h
 refine wpAny_For (thn (@hi pins s σ H _ I h) fun v s1 h1=>thn h1 fun itv s2 h2=>?_) hs
 obtain⟨it,fp,tn,J,H2,e,I2,T,st2,f2,W,⟨m0,w0⟩,turn⟩:=h2
 subst e
 have stat:∀ {H':Hp},(∀b∈fp,H' b=none)→∀b∈fp,dD X pins H' b:=fun hn b hb=>⟨hn b hb,(f2 b hb).2⟩
 refine codeAny_forLoop_any (fun n s'=>∃i σ' H',Inv X pins σ' H' s'∧tn i s'.heap∧(∀b∈fp,H' b=none)∧W i n σ' H') ?_ m0 ⟨0,σ,H2,I2,st2,fun b hb=>(f2 b hb).1,w0⟩
 rintro n s3 ⟨i,σ3,H3,I3,st3,fr3,w3⟩
 rcases turn i n σ3 H3 w3 with ⟨stop,qn⟩ | ⟨go,N,hN,step⟩
 ·refine wpAny_passesOwn hp (thn (T.done X rfl rfl rfl hc i pins s3 σ3 H3 X.xe I3 (stat fr3) st3 stop) fun r s4 ⟨hr,I4⟩=>?_)
  subst hr
  exact wpAny_execs_nil ⟨σ3,H3,I4,qn⟩
 ·refine wpAny_passesOwn hp (thn (T.item X rfl rfl rfl hc i pins s3 σ3 H3 X.xe I3 (stat fr3) st3 go) fun r s4 ⟨u,hr,h4⟩=>?_)
  subst hr
  refine wpAny_passesOwn hp (thn h4 fun _ s5 ⟨x,H5,I5,r5,y5,st5,fr5⟩=>?_)
  have I5':=I5.pinned (stat fr5) (T.obj _ _ st5)
  refine wpAny_passesOwn hp (thn (hg _ s5 σ3 H5 x u _ I5' r5 (step x H5 y5)) fun _ s6 ⟨σ6,H6,I6,q6⟩=>?_)
  refine wpAny_passesOwn hp (thn (@hb _ s6 σ6 H6 _ I6 q6) fun f s7 q7=>?_)
  have again:∀ {σ7:St} {H7:Hp},Inv X (pins++uP fp s5.heap) σ7 H7 s7→N σ7 H7→∃m,m<n∧∃i σ' H',Inv X pins σ' H' s7∧tn i s7.heap∧(∀b∈fp,H' b=none)∧W i m σ' H':=fun {σ7 H7} I7 n7=>by
   obtain⟨m',hm,w7⟩:=hN σ7 H7 n7
   refine⟨m',hm,i+1,σ7,H7,I7.unpinned,T.keep _ _ _ st5 fun b hb o e=>(I7.pin (b,o) (xiI _ (xiI _ (zi hb e)))).1,fun b hb=>?_,w7⟩
   obtain⟨o,e,d⟩:=T.obj _ _ st5 b hb
   exact(I7.pin (b,o) (xiI _ (xiI _ (zi hb e)))).2.1
  cases f with
  | next=>obtain⟨σ7,H7,I7,n7⟩:=q7;exact again I7 n7
  | cont=>obtain⟨σ7,H7,I7,n7⟩:=q7;exact again I7 n7
  | brk=>obtain⟨σ7,H7,I7,q7⟩:=q7;exact⟨σ7,H7,I7.unpinned,q7⟩
  | ret v=>obtain⟨x7,σ7,H7,I7,r7,q7⟩:=q7;exact⟨x7,σ7,H7,I7.unpinned,r7,q7⟩
end
end L2
namespace L2
open PySem PySem.Spec PyProof.Rows
abbrev R2:=V→V→Hp→VK→Prop
def OpR (X:Cx)(f:Value→Value→Sem Value)(r:R2):Prop :=
 ∀(pins:List (Addr×Obj)) (s:Shared) (σ:St) (H:Hp) (x y:V) (v u:Value) (Q:VK),Inv X pins σ H s→RelV x v→RelV y u→r x y H Q →
  wpAny (model X.prog X.w) X.A (f v u) (EP X pins σ Q) X.xe s
def UnR (X:Cx)(f:Value→Sem Value)(r:V→Hp→VK→Prop):Prop :=
 ∀(pins:List (Addr×Obj)) (s:Shared) (σ:St) (H:Hp) (x:V) (v:Value) (Q:VK),Inv X pins σ H s→RelV x v→r x H Q →
  wpAny (model X.prog X.w) X.A (f v) (EP X pins σ Q) X.xe s
def qY (X:Cx)(f:Value)(r:List V→Hp→VK→Prop):Prop :=
 ∀(pins:List (Addr×Obj)) (s:Shared) (σ:St) (H:Hp) (xs:List V) (us:List Value) (Q:VK),Inv X pins σ H s→zh xs us→r xs H Q →
  wpAny (model X.prog X.w) X.A (call f us) (EP X pins σ Q) X.xe s
def xhe (X:Cx)(r:V→Hp→(Bool→Hp→Prop)→Prop):Prop :=
 ∀(pins:List (Addr×Obj)) (s:Shared) (σ:St) (H:Hp) (x:V) (v:Value) (Q:Bool→Hp→Prop),Inv X pins σ H s→RelV x v→r x H Q →
  wpAny (model X.prog X.w) X.A (truthy v) (TP X pins σ Q) X.xe s
def tOp (r:R2)(ta tb:TE):TE:=fun σ H Q=>ta σ H fun x H1=>tb σ H1 fun y H2=>r x y H2 Q
def tUn (r:V→Hp→VK→Prop)(ta:TE):TE:=fun σ H Q=>ta σ H fun x H1=>r x H1 Q
def rI (C:Int→Int→Prop)(g:Int→Int→V):R2:=fun x y H Q=>∃i j,x=.int i∧y=.int j∧C i j∧Q (g i j) H
def rI0 (g:Int→Int→V):R2:=fun x y H Q=>∃i j,x=.int i∧y=.int j∧Q (g i j) H
def rU (g:Int→V):V→Hp→VK→Prop:=fun x H Q=>∃i,x=.int i∧Q (g i) H
section
variable {X:Cx} {a b c:Expr} {ta tb tc:TE} {pos:Pos}
theorem xfY (ha:PE X a ta)(hb:PE X b tb){pins:List (Addr×Obj)}{s:Shared}{σ:St}{H:Hp}{R:V→V→Hp→Prop}(I:Inv X pins σ H s)
  (h:ta σ H fun x H1=>tb σ H1 fun y H2=>R x y H2) {Q:Value→Shared→Prop} {f:Value→Value→Sem Value}
  (hf:∀v u s2 x y H2,Inv X pins σ H2 s2→RelV x v→RelV y u→R x y H2→wpAny (model X.prog X.w) X.A (f v u) Q X.xe s2) :
  wpAny (model X.prog X.w) X.A (eval a X.env) (fun v s₁=>wpAny (model X.prog X.w) X.A (eval b X.env) (fun u s₂=>wpAny (model X.prog X.w) X.A (f v u) Q X.xe s₂) X.xe s₁) X.xe s:=by
 refine thn (@ha pins s σ H _ I h) fun v s1 ⟨x,H1,I1,r1,q1⟩=>?_
 refine thn (@hb pins s1 σ H1 _ I1 q1) fun u s2 ⟨y,H2,I2,r2,q2⟩=>?_
 exact hf v u s2 x y H2 I2 r1 r2 q2
theorem xD {op:Operator}{r:R2}(ho:OpR X (binaryOp op) r)(ha:PE X a ta)(hb:PE X b tb):PE X (.BinOp a op b pos) (tOp r ta tb):=by
 intro pins s σ H Q I h
 exact wpAny_BinOp (xfY ha hb I h fun v u s2 x y H2 I2 rx ry q=>@ho pins s2 σ H2 x y v u Q I2 rx ry q)
theorem qD {op:UnaryOp}{r:V→Hp→VK→Prop}(ho:UnR X (unaryOp op) r)(ha:PE X a ta):PE X (.UnaryOp op a pos) (tUn r ta):=by
 intro pins s σ H Q I h
 exact UnaryOp_ (thn (@ha pins s σ H _ I h) fun v s1 ⟨x,H1,I1,r1,q1⟩=>@ho pins s1 σ H1 x v Q I1 r1 q1)
theorem opI {f:Value→Value→Sem Value}{C:Int→Int→Prop}{g:Int→Int→Int}
  (rule:∀(i j:Int) (t u:Tok) (s:Shared) (Q:Value→Shared→Prop) (E:Value→Shared→Prop),C i j→Q (.int (g i j) s.toks) { s with toks:=s.toks+1 }→wpAny (model X.prog X.w) X.A (f (.int i t) (.int j u)) Q E s) :
  OpR X f (rI C fun i j=>.int (g i j)):=by
 intro pins s σ H x y v u Q I rx ry h
 obtain⟨i,j,rfl,rfl,hc,q⟩:=h
 obtain⟨t,rfl⟩:=rx
 obtain⟨t',rfl⟩:=ry
 exact rule i j t t' s _ _ hc ⟨.int (g i j),H,I.tok _,⟨_,rfl⟩,q⟩
theorem xgh {f:Value→Value→Sem Value}{g:Int→Int→Int}
  (rule:∀(i j:Int) (t u:Tok) (s:Shared) (Q:Value→Shared→Prop) (E:Value→Shared→Prop),Q (.int (g i j) s.toks) { s with toks:=s.toks+1 }→wpAny (model X.prog X.w) X.A (f (.int i t) (.int j u)) Q E s) :
  OpR X f (rI0 fun i j=>.int (g i j)):=by
 intro pins s σ H x y v u Q I rx ry h
 obtain⟨i,j,rfl,rfl,q⟩:=h
 obtain⟨t,rfl⟩:=rx
 obtain⟨t',rfl⟩:=ry
 exact rule i j t t' s _ _ ⟨.int (g i j),H,I.tok _,⟨_,rfl⟩,q⟩
theorem xfq {f:Value→Value→Sem Value}{g:Int→Int→Bool}
  (rule:∀(i j:Int) (t u:Tok) (s:Shared) (Q:Value→Shared→Prop) (E:Value→Shared→Prop),Q (.bool (g i j)) s→wpAny (model X.prog X.w) X.A (f (.int i t) (.int j u)) Q E s) :
  OpR X f (rI0 fun i j=>.bl (g i j)):=by
 intro pins s σ H x y v u Q I rx ry h
 obtain⟨i,j,rfl,rfl,q⟩:=h
 obtain⟨t,rfl⟩:=rx
 obtain⟨t',rfl⟩:=ry
 exact rule i j t t' s _ _ ⟨.bl (g i j),H,I,rfl,q⟩
def xgy (i j:Int):Prop:=0≤j∧j≤1000000∧i.natAbs<2 ^ 64
def xfm (i j:Int):Prop:=(-(2 ^ 64)<i∧i<2 ^ 64)∨(-(2 ^ 64)<j∧j<2 ^ 64)
theorem xfm.ok {i j:Int}(h:xfm i j):IntMulOk i j:=by
 rcases h with ⟨h1,h2⟩ | ⟨h1,h2⟩
 ·exact .of_left (intBits_le_64 h1 h2)
 ·exact .of_right (intBits_le_64 h1 h2)
theorem zd:OpR X (binaryOp .Add) (rI0 fun i j=>.int (i+j)):=xgh fun _ _ _ _ _ _ _ q=>add_int q
theorem w5:OpR X (binaryOp .Sub) (rI0 fun i j=>.int (i-j)):=xgh fun _ _ _ _ _ _ _ q=>sub_int q
theorem mF:OpR X (binaryOp .Mult) (rI xfm fun i j=>.int (i*j)):=opI fun _ _ _ _ _ _ _ hc q=>mul_int q hc.ok
theorem si:OpR X (binaryOp .Mod) (rI (fun _ j=>0<j) fun i j=>.int (i % j)):=opI fun i j _ _ _ _ _ hc q=>by
 have h1:(0:Int)<j:=hc
 exact mod_int' (by omega) (by rw[xhA i (by omega)];exact q)
theorem nZ:OpR X (binaryOp .Mod) (rI (fun _ j=>j≠0) fun i j=>.int (i.fmod j)):=opI fun _ _ _ _ _ _ _ hc q=>mod_int' hc q
theorem xco:OpR X (binaryOp .Pow) (rI xgy fun i j=>.int (i ^ j.toNat)):=opI fun _ _ _ _ _ _ _ hc q=>pow_int_small hc.1 hc.2.1 hc.2.2 q
theorem unI {f:Value→Sem Value}{g:Int→Int}
  (rule:∀(i:Int) (t:Tok) (s:Shared) (Q:Value→Shared→Prop) (E:Value→Shared→Prop),Q (.int (g i) s.toks) { s with toks:=s.toks+1 }→wpAny (model X.prog X.w) X.A (f (.int i t)) Q E s) :
  UnR X f (rU fun i=>.int (g i)):=by
 intro pins s σ H x v Q I rx h
 obtain⟨i,rfl,q⟩:=h
 obtain⟨t,rfl⟩:=rx
 exact rule i t s _ _ ⟨.int (g i),H,I.tok _,⟨_,rfl⟩,q⟩
theorem wQ:UnR X (unaryOp .USub) (rU fun i=>.int (-i)):=unI fun _ _ _ _ _ q=>neg_int q
end
section
variable {X:Cx} {a b c:Expr} {ta tb tc:TE} {pos:Pos}
theorem xez {pins:List (Addr×Obj)}{σ:St}{H:Hp}{s:Shared}{Q:VK}{k k':Bool}(I:Inv X pins σ H s)(q:Q (.bl k) H)(e:k=k'):EP X pins σ Q (.bool k') s:=by
 subst e
 exact⟨.bl k,H,I,rfl,q⟩
theorem xe7:OpR X (compareOp .Lt) (rI0 fun i j=>.bl (decide (i<j))):=xfq fun _ _ _ _ _ _ _ q=>lt_int q
theorem dO:OpR X (compareOp .LtE) (rI0 fun i j=>.bl (decide (i≤j))):=xfq fun _ _ _ _ _ _ _ q=>le_int q
theorem nI:OpR X (compareOp .Gt) (rI0 fun i j=>.bl (decide (j<i))):=xfq fun _ _ _ _ _ _ _ q=>gt_int q
theorem xde:OpR X (compareOp .GtE) (rI0 fun i j=>.bl (decide (j≤i))):=xfq fun _ _ _ _ _ _ _ q=>ge_int q
theorem OpR.or {f:Value→Value→Sem Value}{r r':R2}(h:OpR X f r)(h':OpR X f r'):OpR X f (fun x y H Q=>r x y H Q∨r' x y H Q):=by
 intro pins s σ H x y v u Q I rx ry q
 rcases q with q | q
 ·exact @h pins s σ H x y v u Q I rx ry q
 ·exact @h' pins s σ H x y v u Q I rx ry q
theorem xR (b:Expr){op:CmpOp}(h:op≠.In:=by decide)(h2:op≠.NotIn:=by decide):behindInMarks op b=false:=by
 have e1:(op == CmpOp.In)=false:=by cases op<;>first | rfl | exact absurd rfl h
 have e2:(op == CmpOp.NotIn)=false:=by cases op<;>first | rfl | exact absurd rfl h2
 cases b<;>simp[behindInMarks,e1,e2]
theorem zj {op:CmpOp}{r:R2}(ho:OpR X (compareOp op) r)(ha:PE X a ta)(hb:PE X b tb)(hm:behindInMarks op b=false):PE X (.Compare a [op] [b] pos) (tOp r ta tb):=by
 intro pins s σ H Q I h
 exact wpAny_Compare1 (xfY ha hb I h fun v u s2 x y H2 I2 rx ry q=>@ho pins s2 σ H2 x y v u Q I2 rx ry q) hm
def xdX (t:TE):TT:=fun σ H Q=>t σ H fun x H'=>∃k,x=.bl k∧Q k H'
theorem xQ {op:CmpOp}{r:R2}(ho:OpR X (compareOp op) r)(ha:PE X a ta)(hb:PE X b tb)(hm:behindInMarks op b=false):PT X (.Compare a [op] [b] pos) (xdX (tOp r ta tb)):=by
 intro pins s σ H Q I h
 refine wpAny_isTrue_Compare1 (thn (@ha pins s σ H _ I h) fun v s1 ⟨x,H1,I1,r1,q1⟩=>thn (@hb pins s1 σ H1 _ I1 q1) fun u s2 ⟨y,H2,I2,r2,q2⟩ =>
  thn (@ho pins s2 σ H2 x y v u _ I2 r1 r2 q2) fun c s3 ⟨z,H3,I3,r3,k,e,q3⟩=>?_) hm
 subst e
 cases r3
 exact wpAny_truthy_bool ⟨H3,I3,q3⟩
def xb7 (r r':R2)(ta tb tc:TE):TE:=fun σ H Q=>ta σ H fun x H1=>tb σ H1 fun y H2=>r x y H2 fun z H3=>∃k,z=.bl k ∧
 (if k=true then tc σ H3 fun w' H4=>r' y w' H4 Q else Q (.bl false) H3)
theorem xbx {op op':CmpOp}{r r':R2}(ho:OpR X (compareOp op) r)(ho':OpR X (compareOp op') r')(ha:PE X a ta)(hb:PE X b tb)(hc:PE X c tc)
  (hm:lastMarks [op,op'] [b,c]=false:=by with_unfolding_all rfl):PT X (.Compare a [op,op'] [b,c] pos) (xdX (xb7 r r' ta tb tc)):=by
 intro pins s σ H Q I h
 refine isTrue_chain (thn (@ha pins s σ H _ I h) fun v s1 ⟨x,H1,I1,r1,q1⟩=>test_link (thn (@hb pins s1 σ H1 _ I1 q1) fun u s2 ⟨y,H2,I2,r2,q2⟩ =>
  thn (@ho pins s2 σ H2 x y v u _ I2 r1 r2 q2) fun d s3 ⟨z,H3,I3,r3,k,e,q3⟩=>?_)) hm
 subst e
 cases r3
 refine wpAny_truthy_bool ?_
 cases k with
 | false =>
  obtain⟨k',e',q'⟩:=q3
  cases e'
  exact ite_ff ⟨H3,I3,q'⟩
 | true =>
  refine ite_tt (test_last (thn (@hc pins s3 σ H3 _ I3 q3) fun w' s4 ⟨z',H4,I4,r4,q4⟩=>thn (@ho' pins s4 σ H4 y z' u w' _ I4 r2 r4 q4) fun d' s5 ⟨z2,H5,I5,r5,k2,e2,q5⟩=>?_))
  subst e2
  cases r5
  exact wpAny_truthy_bool ⟨H5,I5,q5⟩
def xfi (K:PySem.W.Frag)(x:V)(H:Hp)(k:Bool):Prop :=
 match x with
 | .non=>k=false
 | .bl b=>k=b
 | .int i=>k=(i != 0)
 | .str y=>y.length≤sizeLine∧k=((y.length:Int) != 0)
 | .byt y=>y.size≤sizeLine∧k=((y.size:Int) != 0)
 | .ref p=>(∃xs,SqL K H p xs∧k = !xs.isEmpty)∨(∃xs,SqT K H p xs∧k = !xs.isEmpty)∨∃kvs,H p=some (.dK kvs)∧k = !kvs.isEmpty
 | _=>False
theorem pY {κ:Type}{kvs:List (κ×V)}{vs:List (κ×Value)}(r:KV kvs vs):(!vs.isEmpty) = !kvs.isEmpty:=by
 cases r<;>rfl
theorem sC {xs:List V}{its:List Value}(r:zh xs its):(!its.toArray.isEmpty) = !xs.isEmpty:=by
 cases r<;>simp
theorem sy:(sizeLine:Nat)<2 ^ 63:=by rw[sizeLine_eq];decide
theorem xed:xhe X (fun x H Q=>∃k,xfi X.K x H k∧Q k H):=by
 intro pins s σ H x v Q I rx h
 obtain⟨k,e,q⟩:=h
 have hl:=sy
 have hs:sizeLine=16777216:=sizeLine_eq
 cases x with
 | non =>
  cases rx
  have e':k=false:=e
  subst e'
  exact truthy_none ⟨H,I,q⟩
 | bl b =>
  cases rx
  have e':k=b:=e
  subst e'
  exact wpAny_truthy_bool ⟨H,I,q⟩
 | int i =>
  obtain⟨t,rfl⟩:=rx
  have e':k=(i != 0):=e
  subst e'
  exact PySem.P.truthy_int ⟨H,I,q⟩
 | str y =>
  obtain⟨t,rfl⟩:=rx
  obtain⟨hy,e'⟩:y.length≤sizeLine∧k=((y.length:Int) != 0):=e
  subst e'
  exact PySem.P.truthy_str (by omega) ⟨H,I.tok _,q⟩
 | byt y =>
  obtain⟨t,rfl⟩:=rx
  obtain⟨hy,e'⟩:y.size≤sizeLine∧k=((y.size:Int) != 0):=e
  subst e'
  exact PySem.W.truthy_bytes (by omega) ⟨H,I.tok _,q⟩
 | ref p =>
  cases rx
  have e':(∃xs,SqL X.K H p xs∧k = !xs.isEmpty)∨(∃xs,SqT X.K H p xs∧k = !xs.isEmpty)∨∃kvs,H p=some (.dK kvs)∧k = !kvs.isEmpty:=e
  rcases e' with ⟨xs,hx,e'⟩ | ⟨xs,hx,e'⟩ | ⟨kvs,hx,e'⟩
  ·subst e'
   obtain⟨its,r,pl,hz⟩:=I.list hx
   have hlen:=r.length
   exact wpAny_truthy_list pl.isList (by simp only[xi3];omega) ⟨H,I.tok _,by rw[sC r];exact q⟩
  ·subst e'
   obtain⟨its,r,pl,hz⟩:=I.tuple hx
   have hlen:=r.length
   exact truthy_tuple pl (by simp only[xi3];omega) ⟨H,I.tok _,by rw[sC r];exact q⟩
  ·subst e'
   obtain⟨hz,hS,vs,r,m⟩:kvs.length≤sizeLine∧(p == sysModules)=false∧∃vs,KV kvs vs∧s.heap.DictOf (bJ X.prog X.w) p vs:=I.hok p _ hx
   have hlen:kvs.length=vs.length:=Paired.length r
   exact wpAny_truthy_dict hS m (by omega) ⟨H,I.tok _,by rw[pY r];exact q⟩
 | _=>exact(show False from e).elim
theorem xbr (ha:PE X a ta)(he:∀whole,isTrue a X.env whole=(do let v ←whole;standAt a.pos;holding [v] (truthy v))) :
  PT X a (fun σ H Q=>ta σ H fun x H'=>∃k,xfi X.K x H' k∧Q k H'):=by
 intro pins s σ H Q I h
 exact isTrue_plain (thn (@ha pins s σ H _ I h) fun v s1 ⟨x,H1,I1,r1,q1⟩=>xed pins s1 σ H1 x v Q I1 r1 q1) (he _)
theorem vals1 {x:V}{us:List Value}(r:zh [x] us):∃u,us=[u]∧RelV x u:=by
 cases r with
 | cons r1 r2=>cases r2;exact⟨_,rfl,r1⟩
theorem vals2 {x y:V}{us:List Value}(r:zh [x,y] us):∃u w',us=[u,w']∧RelV x u∧RelV y w':=by
 cases r with
 | cons r1 r2 =>
  cases r2 with
  | cons r3 r4=>cases r4;exact⟨_,_,rfl,r1,r3⟩
theorem zI:qY X (.builtin "abs") (fun xs H Q=>∃i,xs=[.int i]∧Q (.int (if i<0 then -i else i)) H):=by
 intro pins s σ H xs us Q I r h
 obtain⟨i,rfl,q⟩:=h
 obtain⟨u,rfl,t,rfl⟩:=vals1 r
 exact call_abs_int fun u tk=>⟨.int (if i<0 then -i else i),H,I.tok _,⟨_,rfl⟩,q⟩
theorem gS (hc:X.calm=true):qY X (.builtin "max") (fun xs H Q=>∃i j,xs=[.int i,.int j]∧Q (.int (if j>i then j else i)) H):=by
 intro pins s σ H xs us Q I r h
 obtain⟨i,j,rfl,q⟩:=h
 obtain⟨u,w',rfl,⟨t,rfl⟩,⟨t',rfl⟩⟩:=vals2 r
 refine max_two_ints (I.ok.hd hc) fun h' tk k=>⟨_,H,I.kept k,?_,q⟩
 by_cases hj:j>i
 ·rw[if_pos hj,if_pos hj];exact⟨_,rfl⟩
 ·rw[if_neg hj,if_neg hj];exact⟨_,rfl⟩
theorem xaD (hc:X.calm=true):qY X (.builtin "min") (fun xs H Q=>∃i j,xs=[.int i,.int j]∧Q (.int (if j<i then j else i)) H):=by
 intro pins s σ H xs us Q I r h
 obtain⟨i,j,rfl,q⟩:=h
 obtain⟨u,w',rfl,⟨t,rfl⟩,⟨t',rfl⟩⟩:=vals2 r
 refine min_two_ints (I.ok.hd hc) fun h' tk k=>⟨_,H,I.kept k,?_,q⟩
 by_cases hj:j<i
 ·rw[if_pos hj,if_pos hj];exact⟨_,rfl⟩
 ·rw[if_neg hj,if_neg hj];exact⟨_,rfl⟩
end
end L2
namespace L2
open PySem PySem.Spec PyProof.Rows
structure xf5 (h:Heap)(x dx C:Addr)(mA:Str→Option Value):Prop where
 obj:h.get? x=some (PySem.W.instObj C dx)
 ns:h.Ns1 dx mA
 ne:dx≠x
theorem lb {h:Heap}{dx:Addr}{mA:Str→Option Value}(n:h.Ns1 dx mA):∃od,h.get? dx=some od∧∀name,PySem.W.lookIn name od=some (mA name):=by
 obtain⟨o,es,ep,ho,hd,hk,_,hm⟩:=n
 refine⟨o,ho,fun name=>?_⟩
 have e:=hm name
 unfold nsFind findBy at e
 rw[←Array.find?_toList] at e
 unfold PySem.W.lookIn
 rw[hd]
 dsimp only
 split
 ·rename_i y q
  rw[q] at e
  exact xjq some e
 ·rename_i q
  rw[q] at e
  have a:es.toList.any (·.refKey)=false:=by
   rw[List.any_eq_false]
   intro y hy
   obtain⟨z,t,hkey⟩:=hk y (Array.mem_toList_iff.mp hy)
   simp[DictEntry.refKey,hkey]
  have a':¬es.toList.any (·.refKey)=true:=by rw[a];exact xhr
  rw[if_neg a']
  exact xjq some e
theorem xf5.look {h:Heap}{x dx C:Addr}{mA:Str→Option Value}(I:xf5 h x dx C mA):∃od,PySem.W.InstAt h x (PySem.W.instObj C dx) C (some od)∧∀name,PySem.W.lookIn name od=some (mA name) :=
 let ⟨od,ho,hl⟩:=lb I.ns
 ⟨od,⟨I.obj,rfl,rfl,ho⟩,hl⟩
section
variable {prog:Program} {w:World} {A:Around} {E:Value→Shared→Prop} {s:Shared} {K:PySem.W.Frag} {x dx C f:Addr} {mA:Str→Option Value} {name:Str} {v:Value}
end
section
variable {P:Program} {w:World} {H H':Hp} {h h':Heap} {a C dx:Addr} {fs fs':List (Str×V)}
theorem xcP (hok:HOk P w H h)(e:H a=some (.ins C dx fs)):∃mA,xf5 h a dx C mA∧(∀f,xfz (fs.lookup f) (mA f))∧PySem.Within mA (fs.map (·.1))∧fs.length≤1000∧H dx=some (.own a):=by
 obtain⟨d,z,ne,ob,mA,n,r,q⟩:=(show vR P w H h a (.ins C dx fs) from hok a _ e)
 exact⟨mA,⟨ob,n,ne⟩,r,q,z,d⟩
end
structure Cls (K:PySem.W.Frag)(C:Addr):Prop where
 pg:PySem.W.plainGet K C Str.empty=true
 hd:PySem.W.hasDictIn K C=true
 po:PySem.W.plainOver K C=true
 sa:PySem.W.findIn K (.ref C) "__setattr__" = some (some (.builtin "object.__setattr__"))
theorem Cls.get {K:PySem.W.Frag}{C:Addr}(c:Cls K C)(f:Str):PySem.W.plainGet K C f=true:=c.pg
section
variable {X:Cx} {pins:List (Addr×Obj)} {σ:St} {H:Hp} {s:Shared} {a C dx:Addr} {fs:List (Str×V)} {f:Str} {v:V} {A:Around} {E:Value→Shared→Prop}
end
section
variable {X:Cx} {o e value:Expr} {f:Str} {pos pos' tpos:Pos} {ta tv:TE}
end
section
variable {X:Cx} {pins:List (Addr×Obj)} {σ:St} {H:Hp} {s:Shared} {A:Around} {E:Value→Shared→Prop} {Q:Value→Shared→Prop} {c:Value} {b:Bool}
inductive ox (K:PySem.W.Frag)(H:Hp):V→Value→Prop where
 | non:ox K H .non (.type "NoneType")
 | bl (x:Bool):ox K H (.bl x) (.type "bool")
 | int (i:Int):ox K H (.int i) (.type "int")
 | str (x:Str):ox K H (.str x) (.type "str")
 | flt (x:UInt64):ox K H (.flt x) (.type "float")
 | lst {a:Addr} {xs:List V} (e:H a=some (.lst xs)):ox K H (.ref a) (.type "list")
 | frz {a:Addr} {o:Obj} {xs:List V} (e:H a=some (.frz o (.lst xs))):ox K H (.ref a) (.type "list")
 | tup {a:Addr} {xs:List V} (e:H a=some (.tup xs)):ox K H (.ref a) (.type "tuple")
 | dK {a:Addr} {kvs:List (Key×V)} (e:H a=some (.dK kvs)):ox K H (.ref a) (.type "dict")
 | dT {a:Addr} {kvs:List (List Key×V)} (e:H a=some (.dT kvs)):ox K H (.ref a) (.type "dict")
 | ins {a C dx:Addr} {fs:List (Str×V)} (e:H a=some (.ins C dx fs)) (cl:Cls K C) (ha:PySem.W.findIn K (.ref C) "__class__" = some (some (.builtin "object.__class__")))
   (hn:PySem.W.specialIn K (.builtin "object.__class__") "__get__" = some (some (.builtin "getset_descriptor.__get__"))) (htk:PySem.W.takesIn K (.builtin "object.__class__")=some true)
   (hm:PySem.W.mroIn K C (.type "object")=some true):ox K H (.ref a) (.ref C)
theorem xae {x:V}{u t:Value}(I:Inv X pins σ H s)(rx:RelV x u)(ty:ox X.K H x t)(e:PySem.W.kitOne X.K t c=some b)(h:∀tk,Q (.bool b) { s with toks:=tk }) :
  wpAny (model X.prog X.w) A (call (.builtin "isinstance") [u,c]) Q E s:=by
 cases ty with
 | non=>cases (show u=Value.none from rx);exact PySem.W.kia_one PySem.W.kitx_none I.kIn True.intro e (fun z=>nomatch z) h
 | bl y=>cases (show u=Value.bool y from rx);exact PySem.W.kia_one PySem.W.kitx_bool I.kIn True.intro e (fun z=>nomatch z) h
 | int i=>obtain⟨t,q⟩:=(show ∃t,u=Value.int i t from rx);cases q;exact PySem.W.kia_one PySem.W.kitx_int I.kIn True.intro e (fun z=>nomatch z) h
 | str y=>obtain⟨t,q⟩:=(show ∃t,u=Value.str y t from rx);cases q;exact PySem.W.kia_one PySem.W.kitx_str I.kIn True.intro e (fun z=>nomatch z) h
 | flt y=>obtain⟨t,q⟩:=(show ∃t,u=Value.float y t from rx);cases q;exact PySem.W.kia_one PySem.W.kitx_float I.kIn True.intro e (fun z=>nomatch z) h
 | @lst a xs ea =>
  cases (show u=Value.ref a from rx)
  obtain⟨_,_,n,_,h1⟩:=(show vR X.prog X.w H s.heap a (.lst xs) from I.hok a _ ea)
  exact PySem.W.kia_one PySem.W.kitx_list I.kIn ⟨_,h1,rfl⟩ e (fun z=>nomatch z) h
 | @frz a ob xs ea =>
  cases (show u=Value.ref a from rx)
  obtain⟨_,_,_,n,_,h1⟩:=(show vR X.prog X.w H s.heap a (.frz ob (.lst xs)) from I.hok a _ ea)
  exact PySem.W.kia_one PySem.W.kitx_list I.kIn ⟨_,h1,rfl⟩ e (fun z=>nomatch z) h
 | @tup a xs ea =>
  cases (show u=Value.ref a from rx)
  obtain⟨_,_,_,p⟩:=(show vR X.prog X.w H s.heap a (.tup xs) from I.hok a _ ea)
  obtain⟨o,h1,h2,_⟩:=p
  exact PySem.W.kia_one PySem.W.kitx_tuple I.kIn ⟨o,h1,h2⟩ e (fun z=>nomatch z) h
 | @dK a kvs ea =>
  cases (show u=Value.ref a from rx)
  obtain⟨_,_,vs,_,p⟩:=(show vR X.prog X.w H s.heap a (.dK kvs) from I.hok a _ ea)
  obtain⟨o,es,ep,h1,h2,_⟩:=p
  exact PySem.W.kia_one PySem.W.kitx_dict I.kIn ⟨o,h1,h2.1⟩ e (fun z=>nomatch z) h
 | @dT a kvs ea =>
  cases (show u=Value.ref a from rx)
  obtain⟨_,_,xs,_,o,es,ep,h1,h2,_⟩:=(show vR X.prog X.w H s.heap a (.dT kvs) from I.hok a _ ea)
  exact PySem.W.kia_one PySem.W.kitx_dict I.kIn ⟨o,h1,h2.1⟩ e (fun z=>nomatch z) h
 | @ins a C dx fs ea cl ha hn htk hm =>
  cases (show u=Value.ref a from rx)
  obtain⟨mA,O,_⟩:=xcP I.hok ea
  obtain⟨od,J,_⟩:=O.look
  exact PySem.W.kia_one (PySem.W.kitx_own (cl.get _) cl.hd ha hn htk hm) I.kIn J e (fun z=>nomatch z) h
end
end L2
namespace L2
open PySem PySem.Spec PyProof.Rows
structure dj (k:Nat)(A:Around):Prop where
 hd:A.handled=none
 dp:A.depth+3*k+5<recursionLimit
 un:A.units+16*k+200<cLine
theorem dj.mono {j k:Nat}{A:Around}(r:dj k A)(h:j≤k):dj j A:=⟨r.hd,by have:=r.dp;omega,by have:=r.un;omega⟩
theorem dj.deeper {k:Nat}{A:Around}(r:dj (k+1) A)(env:Env):dj k (A.deeper env) :=
 ⟨r.hd,by have:=r.dp;show A.depth+1+3*k+5<_;omega,by have:=r.un;show A.units+3+16*k+200<_;omega⟩
theorem dj.depth {k:Nat}{A:Around}(r:dj k A):A.depth<recursionLimit:=by have:=r.dp;omega
theorem dj.units {k:Nat}{A:Around}(r:dj k A):A.units+64<cLine:=by have:=r.un;omega
def lS:TA:=fun _ H Q=>Q [] H
def q9 (ta:TE)(tr:TA):TA:=fun σ H Q=>ta σ H fun x H1=>tr σ H1 fun xs H2=>Q (x::xs) H2
section
variable {X:Cx} {e:Expr} {es:List Expr} {te:TE} {t:TA} {pos:Pos}
theorem vp:PA X [] lS:=fun _ _ _ _ H Q I h=>Calls.spliced_nil ⟨[],H,I,.nil,h⟩
theorem xZ (ha:PE X e te)(hr:PA X es t)(hs:starEach (e::es) X.env=(false,eval e X.env)::starEach es X.env:=by rfl):PA X (e::es) (q9 te t):=by
 intro pos pins s σ H Q I h
 rw[hs]
 show wpAny _ _ (spliced ((false,eval e X.env)::backTo pos (starEach es X.env))) _ _ s
 refine Calls.spliced_cons (thn (@ha pins s σ H _ I h) fun u s1 ⟨x,H1,I1,r1,q1⟩=>?_)
 exact thn (@hr pos pins s1 σ H1 _ I1 q1) fun us s2 ⟨xs,H2,I2,r2,q2⟩=>⟨x::xs,H2,I2,.cons r1 r2,q2⟩
def xgI (t:TA):TE:=fun σ H Q=>t σ H fun xs H1=>xs.length≤sizeLine∧∀p,H1 p=none→Q (.ref p) (upd H1 p (.tup xs))
def xfS (t:TA):TE:=fun σ H Q=>t σ H fun xs H1=>xs.length≤sizeLine∧∀p,H1 p=none→Q (.ref p) (upd H1 p (.lst xs))
theorem yc {x1}(h:PA X es t):PE X (.Tuple es x1 pos) (xgI t):=by
 intro pins s σ H Q I hq
 refine wpAny_Tuple_spliced (thn (@h pos pins s σ H _ I hq) fun us s1 ⟨xs,H1,I1,r,z,q⟩=>⟨by rw[←r.length];exact z,?_⟩)
 have hf:H1 s1.heap.objs.size=none:=I1.hok.fresh (xjd _)
 refine⟨.ref s1.heap.objs.size,upd H1 s1.heap.objs.size (.tup xs),I1.laid (t':=s1.toks) (fun b u e=>Heap.get?_push_of_some _ e) (xjd _) ?_,rfl,q _ hf⟩
 exact⟨z,us,r,⟨_,Heap.get?_push_size _ rfl,rfl,_,rfl⟩⟩
theorem zQ (h:PA X es t):PE X (.List es pos) (xfS t):=by
 intro pins s σ H Q I hq
 refine wpAny_List_spliced (thn (@h pos pins s σ H _ I hq) fun us s1 ⟨xs,H1,I1,r,z,q⟩=>⟨by rw[←r.length];exact z,?_⟩)
 have hf:H1 s1.heap.objs.size=none:=I1.hok.fresh (xjd _)
 refine⟨.ref s1.heap.objs.size,upd H1 s1.heap.objs.size (.lst xs),I1.laid (t':=s1.toks) (fun b u e=>Heap.get?_push_of_some _ e) (xjd _) ?_,rfl,q _ hf⟩
 exact⟨z,us,0,r,Heap.get?_push_size _ rfl⟩
end
abbrev Sp:=List V→Hp→VK→XK→Prop
abbrev CXT:=List Env→Hp→Shared→XK→Value→Shared→Prop
structure xfs (P:Program)(w:World)(K:PySem.W.Frag)(mg:Str→Option Value)(base:Heap)(A:Around)(outer:List Env)(s:Shared)(H:Hp):Prop where
 frames:A.frames=some outer
 mod:Mod K mg base
 bs:∀b o,base.get? b=some o→s.heap.get? b=some o∧H b=none
 bsz:base.objs.size≤s.heap.objs.size
 funs:s.heap.FunFrames base outer
 frf:∀b∈frs outer,H b=none
 hok:HOk P w H s.heap
 bare:AllBare s.gens
def CE (outer:List Env)(P:Program)(w:World)(H:Hp)(s:Shared)(Q:VK)(u:Value)(s':Shared):Prop :=
 ∃v H',s'.os=s.os∧AllBare s'.gens∧Un (frs outer) [] H H' s.heap s'.heap∧HOk P w H' s'.heap∧RelV v u∧Q v H'
def CR (CX:CXT)(outer:List Env)(P:Program)(w:World)(H:Hp)(s:Shared)(Q:VK)(E:XK)(r:Result)(s':Shared):Prop :=
 match r with
 | .ok (.ret u)=>CE outer P w H s Q u s'
 | .ok _=>False
 | .error e=>CX outer H s E e s'
structure rJ (P:Program)(w:World)(K:PySem.W.Frag)(mg:Str→Option Value)(base:Heap)(CX:CXT)(k:Nat)(f:Addr)(fd:FuncData)(ps:List Str)(sp:Sp):Prop where
 len:∀vs H Q E,sp vs H Q E→vs.length=ps.length
 run:∀(A:Around) (outer:List Env) (s:Shared) (H:Hp) (args:Args) (us:List Value) (vs:List V) (Q:VK) (E:XK),dj k A→xfs P w K mg base A outer s H→BindsTo s fd args (ps.zip us)→zh vs us→sp vs H Q E →
  codeAny (model P w) A (.call (.ref f) args) (CR CX outer P w H s Q E) s
theorem rJ.mono {P:Program}{w:World}{K:PySem.W.Frag}{mg:Str→Option Value}{base:Heap}{CX:CXT}{j k:Nat}{f:Addr}{fd:FuncData}{ps:List Str}{sp:Sp}(F:rJ P w K mg base CX j f fd ps sp)(h:j≤k) :
  rJ P w K mg base CX k f fd ps sp:=⟨F.len,fun A outer s H args us vs Q E hr=>F.run A outer s H args us vs Q E (hr.mono h)⟩
theorem rJ.imp {P:Program}{w:World}{K:PySem.W.Frag}{mg:Str→Option Value}{base:Heap}{CX:CXT}{k:Nat}{f:Addr}{fd:FuncData}{ps:List Str}{sp sp':Sp}(F:rJ P w K mg base CX k f fd ps sp)
  (h:∀vs H Q E,sp' vs H Q E→sp vs H Q E):rJ P w K mg base CX k f fd ps sp' :=
 ⟨fun vs H Q E q=>F.len vs H Q E (h _ _ _ _ q),fun A outer s H args us vs Q E hr he hb hv hs=>F.run A outer s H args us vs Q E hr he hb hv (h _ _ _ _ hs)⟩
section
variable {X:Cx} {pins:List (Addr×Obj)} {σ:St} {H:Hp} {s s':Shared}
theorem Inv.env0 (I:Inv X pins σ H s):xfs X.prog X.w X.K X.mg X.base X.A X.stack s H :=
 ⟨I.ok.frames,I.ok.mod,I.bs,xjf I.ok.bsz I.sz,I.stack,I.stkFree,I.hok,I.bare⟩
theorem Inv.after {Q:VK}{u:Value}(I:Inv X pins σ H s)(h:CE X.stack X.prog X.w H s Q u s'):EP X pins σ Q u s':=by
 obtain⟨v,H',os,bare,un,hok,r,q⟩:=h
 obtain⟨hh,g,d,t,os'⟩:=s'
 obtain rfl:os'=s.os:=os
 exact⟨v,H',I.call (h':=hh) (g':=g) (d':=d) (t':=t) (ch:=[]) un hok bare (fun b z=>absurd z (by simp)),r,q⟩
end
def xf_ (sp:Sp)(dvs:List V)(E:XK)(t:TA):TE:=fun σ H Q=>t σ H fun vs H1=>sp (vs++dvs) H1 Q E
def Binds (K:PySem.W.Frag)(fd:FuncData)(ps:List Str)(ds:List Value):Prop :=
 ∀(s:Shared) (us:List Value),K.In s.heap→(us++ds).length=ps.length→BindsTo s fd ⟨us,[]⟩ (ps.zip (us++ds))
theorem Binds.all {K:PySem.W.Frag}{fd:FuncData}{ps:List Str}(h:∀us:List Value,us.length=ps.length→bindArgs fd ⟨us,[]⟩=pure (ps.zip us)):Binds K fd ps []:=fun s us _ hl=>by
 rw[xh7] at hl ⊢
 exact .of_eq (h us hl)
def lR (CX:CXT)(X:Cx)(E:XK):Prop:=∀(pins:List (Addr×Obj)) (σ:St) (H:Hp) (s:Shared) (e:Value) (s':Shared),Inv X pins σ H s→CX X.stack H s E e s'→X.xe e s'
section
variable {X:Cx} {CX:CXT} {k:Nat} {f C:Addr} {fd:FuncData} {ps:List Str} {sp:Sp} {dvs:List V} {ds:List Value} {E:XK} {x m:Str} {p pos apos:Pos} {e o:Expr} {es:List Expr} {ta:TE} {t:TA}
theorem xep {pins:List (Addr×Obj)}{σ:St}{H:Hp}{s:Shared}{Q:VK}{us:List Value}{vs:List V}(F:rJ X.prog X.w X.K X.mg X.base CX k f fd ps sp)(hr:dj k X.A)(hb:Binds X.K fd ps ds)(hd:zh dvs ds)(hx:lR CX X E)
  (I:Inv X pins σ H s) (r:zh vs us) (h:sp (vs++dvs) H Q E):wpAny (model X.prog X.w) X.A (call (.ref f) us) (EP X pins σ Q) X.xe s:=by
 have r2:zh (vs++dvs) (us++ds):=r.append hd
 have hl:(us++ds).length=ps.length:=by rw[←r2.length];exact F.len _ _ _ _ h
 refine wpAny_call (codeAny_mono (F.run X.A X.stack s H ⟨us,[]⟩ (us++ds) (vs++dvs) Q E hr I.env0 (hb s us I.kIn hl) r2 h) fun r s' hq=>?_)
 cases r with
 | error e=>exact hx pins σ H s e s' I hq
 | ok fl =>
  cases fl with
  | ret u=>exact I.after hq
  | next=>exact False.elim hq
  | brk=>exact False.elim hq
  | cont=>exact False.elim hq
theorem xdS (F:rJ X.prog X.w X.K X.mg X.base CX k f fd ps sp)(hr:dj k X.A)(hg:Gl X x)(hm:X.mg x=some (.ref f))(hk:PySem.W.keepIn X.K (.ref f)=true)(hb:Binds X.K fd ps ds)(hd:zh dvs ds)(hx:lR CX X E)
  (ha:PA X (e::es) t) (hdb:(x == ("__debug__" : Str))=false:=by decide) (he:starEach (e::es) X.env=(false,eval e X.env)::starEach es X.env:=by rfl) (hpl:(backTo pos (starEach es X.env)).any (·.1)=false:=by rfl) :
  PE X (.Call (.Name x p) (e::es) [] pos) (xf_ sp dvs E t):=by
 intro pins s σ H Q I h
 refine wpAny_Call_Name_kw (lA I hg hm ?_ hdb)
 refine PySem.W.callWith_K (h₀:=X.base) I.ok.mod.kin hk (thn (@ha pos pins s σ H _ I h) fun us s1 ⟨vs,H1,I1,r,q⟩=>⟨I1.kIn,?_⟩) he hpl
 exact xep F hr hb hd hx I1 r q
end
section
variable {X:Cx} {CX:CXT} {k:Nat} {f C:Addr} {fd:FuncData} {ps ks:List Str} {sp:Sp} {E:XK} {x m:Str} {p pos apos kpos:Pos} {e o:Expr} {es:List Expr} {kws:List Keyword} {te ta:TE} {t tk:TA} {nm:Option Str}
variable {g:List Value→List Value→List Value} {gV:List V→List V→List V}
end
structure xC (N P:List Str)(sc:Scope):Prop where
 kind:sc.kind=.function
 co:sc.isCoroutine=false
 gen:sc.isGenerator=false
 nd:N.Nodup
 pre:N.take P.length=P
 par:∀x∈P,sc.names.lookup x=some .local∨sc.names.lookup x=some .cell
 nofree:∀y∈sc.names,y.2≠.free
theorem mB {kindOf:Str→Option NameKind}{x:Str}:∀ {binds:List (Str×Value)} {m:Str→Option Value},(∀v,(x,v)∉binds)→bindL kindOf binds m x=m x
 | [],_,_=>rfl
 | (n,v)::r,m,h=>by
  unfold bindL
  rw[mB fun w hw=>h w (xiK _ hw)]
  split
  ·have:x≠n:=by rintro rfl;exact h v xiL
   simp[this]
  ·rfl
theorem tM {kindOf:Str→Option NameKind}{x:Str}:∀ {binds:List (Str×Value)} {m:Str→Option Value},(∀v,(x,v)∉binds)→bindC kindOf binds m x=m x
 | [],_,_=>rfl
 | (n,v)::r,m,h=>by
  unfold bindC
  rw[tM fun w hw=>h w (xiK _ hw)]
  split
  ·rfl
  ·have:x≠n:=by rintro rfl;exact h v xiL
   simp[this]
theorem mf {kindOf:Str→Option NameKind}{x:Str}{v:Value}:∀ {P:List Str} {vs:List Value} {i:Nat} {m:Str→Option Value},P.Nodup→P[i]? = some x→vs[i]? = some v→kindOf x=some .local →
  bindL kindOf (P.zip vs) m x=some v
 | [],_,_,_,_,h,_,_=>by simp at h
 | _::_,[],_,_,_,_,h,_=>by simp at h
 | p::P,w::vs,0,m,nd,h1,h2,hk=>by
  simp at h1 h2;subst h1;subst h2
  show bindL kindOf ((p,w)::P.zip vs) m p=_
  unfold bindL
  rw[mB fun v hv=>(xiY.mp nd).1 (xi0 hv).1,if_pos hk]
  simp
 | p::P,w::vs,i+1,m,nd,h1,h2,hk=>by
  show bindL kindOf ((p,w)::P.zip vs) m x=_
  unfold bindL
  exact mf (i:=i) (xiY.mp nd).2 (by simpa using h1) (by simpa using h2) hk
theorem my {kindOf:Str→Option NameKind}{x:Str}{v:Value}:∀ {P:List Str} {vs:List Value} {i:Nat} {m:Str→Option Value},P.Nodup→P[i]? = some x→vs[i]? = some v→kindOf x≠some .local →
  bindC kindOf (P.zip vs) m x=some v
 | [],_,_,_,_,h,_,_=>by simp at h
 | _::_,[],_,_,_,_,h,_=>by simp at h
 | p::P,w::vs,0,m,nd,h1,h2,hk=>by
  simp at h1 h2;subst h1;subst h2
  show bindC kindOf ((p,w)::P.zip vs) m p=_
  unfold bindC
  rw[tM fun v hv=>(xiY.mp nd).1 (xi0 hv).1,if_neg hk]
  simp
 | p::P,w::vs,i+1,m,nd,h1,h2,hk=>by
  show bindC kindOf ((p,w)::P.zip vs) m x=_
  unfold bindC
  exact my (i:=i) (xiY.mp nd).2 (by simpa using h1) (by simpa using h2) hk
def start (N:List Str)(vs:List V):St:=vs.map some++List.replicate (N.length-vs.length) none
def xa1 (CX:CXT)(P:Program)(w:World)(K:PySem.W.Frag)(mg:Str→Option Value)(base:Heap)(N:List Str)(qual:Str)(scope:Scope)(f:Addr)(cd:Value)(A:Around)(outer:List Env)(s:Shared)(H:Hp)(E:XK):Cx where
 prog:=P
 w:=w
 K:=K
 mg:=mg
 base:=base
 A:=A.deeper (envOfC qual scope s.heap.objs.size f cd)
 N:=N
 s₀:=s
 H₀:=H
 env:=envOfC qual scope s.heap.objs.size f cd
 outer:=outer
 stack:=envOfC qual scope s.heap.objs.size f cd::outer
 ex:=[]
 calm:=true
 fn:=fun _=>true
 pn:=[]
 xe:=fun e s'=>wpAny (model P w) (A.deeper (envOfC qual scope s.heap.objs.size f cd)) (leaving (envOfC qual scope s.heap.objs.size f cd) e) (fun _ s''=>CX outer H s E e s'') (fun e' s''=>CX outer H s E e' s'') s'
theorem cN {sc:Scope}{n:Nat}{x:Str}(h:sc.names.lookup x=some .cell):∃c,(cellsFrom n sc.names []).lookup x=some c:=by
 have q:=PySem.W.cellsFrom_some sc.names n [] (.inl h)
 exact Option.isSome_iff_exists.mp q
theorem xaX {CX:CXT}{P:Program}{w:World}{K:PySem.W.Frag}{mg:Str→Option Value}{base:Heap}{N ps:List Str}{qual:Str}{scope:Scope}{f:Addr}{cd:Value}{A:Around}{outer:List Env}{s s1:Shared}{H:Hp}{E:XK}{us:List Value}{vs:List V}
  (S:xC N ps scope) (hd:A.handled=none) (e0:xfs P w K mg base A outer s H) (hl:vs.length=ps.length) (r:zh vs us)
  (x:InCallC s s.heap.objs.size (bindL (envOfC qual scope s.heap.objs.size f cd).kindOf (ps.zip us) fun _=>none) (cellsFrom (s.heap.objs.size+1) scope.names []) (bindC (envOfC qual scope s.heap.objs.size f cd).kindOf (ps.zip us) fun _=>none) s1) :
  Inv (xa1 CX P w K mg base N qual scope f cd A outer s H E) [] (start N vs) H s1:=by
 have hpl:ps.length≤N.length:=by have:=xjq List.length S.pre;rw[xiy] at this;omega
 obtain⟨h1,tk,rfl,hk⟩:=x.done
 have noA:∀b:Addr,b∉(xa1 CX P w K mg base N qual scope f cd A outer s H E).ex:=fun b z=>absurd (show b∈([]:List Addr) from z) (by simp)
 refine⟨⟨e0.mod,S.kind,rfl,rfl,xjd _,fun y z c h1 h2=>?_,fun y hy=>?_,fun y c _ h=>?_,fun _=>hd,Around.frames_deeper e0.frames,.inr ⟨rfl,rfl⟩,fun b z=>absurd z (noA b),e0.bs,e0.bsz,fun b _ _=>noA b,fun b z=>absurd z (noA b),e0.funs,e0.frf⟩,
  rfl,e0.bare,Un.kept hk,⟨_,x.toInCall.ns,fun i y v h1 h2 h3=>?_⟩,fun y c h=>⟨_,x.cell y c h⟩,e0.hok.fresh (xjd _),fun y c h=>?_,fun p hp=>absurd (show p∈([]:List (Addr×Obj)) from hp) (by simp),e0.hok.kept hk,?_⟩
 ·exact name_of_addr x.apart (PySem.mem_of_lookup h1) (PySem.mem_of_lookup h2)
 ·have hy:scope.names.lookup y=some .cell∨scope.names.lookup y=some .free:=hy
  rcases hy with hy | hy
  ·exact cN hy
  ·exact absurd rfl (S.nofree _ (PySem.mem_of_lookup hy))
 ·exact xjc (x.above y c (PySem.mem_of_lookup h))
 ·have hi:i<vs.length:=by
   unfold start at h2
   by_cases hi:i<vs.length
   ·exact hi
   ·rw[List.getElem?_append_right (by simpa using hi)] at h2
    rw[xim] at h2
    split at h2<;>cases h2
  have ha:vs[i]? = some v:=by
   unfold start at h2
   rw[xih (by simpa using hi),xil] at h2
   cases e:vs[i]? with
   | none=>rw[e] at h2;cases h2
   | some a=>rw[e] at h2;cases h2;rfl
  obtain⟨u,hu,rv⟩:=r.get ha
  have hp:ps[i]? = some y:=by
   rw[←S.pre,List.getElem?_take_of_lt (by omega)];exact h1
  have ndP:ps.Nodup:=by rw[←S.pre];exact S.nd.sublist (List.take_sublist _ _)
  refine⟨u,rv,?_⟩
  rcases S.par y (xiR hp) with k | k
  ·exact .inl ⟨k,mf ndP hp hu k⟩
  ·obtain⟨c,e⟩:=cN (n:=s.heap.objs.size+1) k
   refine .inr ⟨.inl k,c,e,?_⟩
   have q:=x.cell y c e
   rw[my ndP hp hu (by show scope.names.lookup y≠_;rw[k];decide)] at q
   exact q
 ·exact e0.hok.fresh (xjc (x.above y c (PySem.mem_of_lookup h)))
 ·unfold start
  show _=N.length
  rw[xiq,xit,xiv]
  omega
theorem xfw {CX:CXT}{P:Program}{w:World}{K:PySem.W.Frag}{mg:Str→Option Value}{base:Heap}{k:Nat}{f:Addr}{name qual:Str}{params:Arguments}{body:List Stmt}{scope:Scope}{dV kV doc pm cdv ct oc:Value}{an od:Option Addr}
  {osl:Array (Option Value)} {N ps:List Str} {sp:Sp} (lk:K.lookup f=some ⟨oc,od,.func (PySem.W.fnOf name qual params body scope dV kV doc pm an cdv ct),osl⟩) (hcd:PySem.W.codeIn K cdv qual=true) (S:xC N ps scope)
  (len:∀vs H Q E,sp vs H Q E→vs.length=ps.length)
  (hbody:∀(A:Around) (outer:List Env) (s:Shared) (H:Hp) (vs:List V) (Q:VK) (E:XK),dj k (A.deeper (envOfC qual scope s.heap.objs.size f cdv))→sp vs H Q E →
   ∃t,PSs (xa1 CX P w K mg base N qual scope f cdv A outer s H E) body t∧t { nx:=fun _ H'=>Q .non H',rt:=Q } (start N vs) H) :
  rJ P w K mg base CX (k+1) f (PySem.W.fnOf name qual params body scope dV kV doc pm an cdv ct) ps sp:=by
 refine⟨len,fun A outer s H args us vs Q E hr e0 hb r hsp=>?_⟩
 have hl:=len _ _ _ _ hsp
 have KX:K.In s.heap:=e0.mod.kin.keeps fun b o e=>(e0.bs b o e).1
 have lim:s.heap.NoLimit:=e0.mod.nolimit.keeps fun b o e=>(e0.bs b o e).1
 have hkind:∀y∈ps.zip us,scope.names.lookup y.1=some .local∨(scope.names.lookup y.1=some .cell∧((cellsFrom (s.heap.objs.size+1) scope.names []).lookup y.1).isSome=true):=fun⟨n,v⟩ hy=>by
  rcases S.par n (xi0 hy).1 with q | q
  ·exact .inl q
  ·exact .inr ⟨q,PySem.W.cellsFrom_some _ _ _ (.inl q)⟩
 refine codeAny_call_function hr.depth (KX _ _ lk) rfl S.co S.gen rfl (PySem.W.codeRec_of KX hcd) (hb _ _ _ _ ?_)
 refine wpAny_newFunctionEnv_cells S.kind hkind fun env he s1 x=>?_
 subst he
 refine⟨lim.keeps x.toInCall.keep,codeAny_func ?_⟩
 obtain⟨t,ht,hq⟩:=hbody A outer s H vs Q E (hr.deeper _) hsp
 have I:Inv (xa1 CX P w K mg base N qual scope f cdv A outer s H E) [] (start N vs) H s1:=xaX S hr.hd e0 hl r x
 refine wpAny_mono (@ht [] s1 (start N vs) H _ I hq) (fun fl s' hs=>?_) fun e s' hs=>hs
 have fin:∀ {σ':St} {H':Hp} {v:V} {u:Value},Inv (xa1 CX P w K mg base N qual scope f cdv A outer s H E) [] σ' H' s'→RelV v u→Q v H'→CE outer P w H s Q u s' :=
  fun {σ' H' v u} J rv q=>⟨v,H',J.os,J.bare,J.base,J.hok,rv,q⟩
 cases fl with
 | ret u =>
  obtain⟨v,σ',H',J,rv,q⟩:=hs
  exact fin J rv q
 | next =>
  obtain⟨σ',H',J,q⟩:=hs
  exact fin (v:=V.non) (u:=Value.none) J rfl q
 | brk =>
  obtain⟨_,_,_,q⟩:=hs
  exact False.elim q
 | cont =>
  obtain⟨_,_,_,q⟩:=hs
  exact False.elim q
end L2
namespace L2
open PySem PySem.Spec PyProof.Rows
section
variable {X:Cx} {x:Str} {p pos:Pos} {e:Expr} {es:List Expr} {t:TA} {id T:String} {r:List V→Hp→VK→Prop}
def tCB (r:List V→Hp→VK→Prop)(t:TA):TE:=fun σ H Q=>t σ H fun vs H1=>r vs H1 Q
theorem xO (hc:qY X (.builtin id) r)(hg:Gl X x)(hm:X.mg x=none)(hv:bootBuiltins x=some (.builtin id))(ha:PA X (e::es) t)(hn:x ≠ "__name__" := by decide)(hdb:(x == ("__debug__" : Str))=false:=by decide)
  (he:starEach (e::es) X.env=(false,eval e X.env)::starEach es X.env:=by rfl) (hpl:(backTo pos (starEach es X.env)).any (·.1)=false:=by rfl):PE X (.Call (.Name x p) (e::es) [] pos) (tCB r t):=by
 intro pins s σ H Q I h
 refine wpAny_Call_Name_kw (fv I hg hm hv ?_ hn hdb)
 exact PyProof.Rows.callWith_builtin1 (thn (@ha pos pins s σ H _ I h) fun us s1 ⟨vs,H1,I1,r1,q1⟩=>@hc pins s1 σ H1 vs us Q I1 r1 q1) he hpl
theorem wc (hc:qY X (.type T) r)(hg:Gl X x)(hm:X.mg x=none)(hv:bootBuiltins x=some (.type T))(ha:PA X (e::es) t)(hn:x ≠ "__name__" := by decide)(hdb:(x == ("__debug__" : Str))=false:=by decide)
  (he:starEach (e::es) X.env=(false,eval e X.env)::starEach es X.env:=by rfl) (hpl:(backTo pos (starEach es X.env)).any (·.1)=false:=by rfl):PE X (.Call (.Name x p) (e::es) [] pos) (tCB r t):=by
 intro pins s σ H Q I h
 refine wpAny_Call_Name_kw (fv I hg hm hv ?_ hn hdb)
 exact PyProof.Rows.callWith_type1 (thn (@ha pos pins s σ H _ I h) fun us s1 ⟨vs,H1,I1,r1,q1⟩=>@hc pins s1 σ H1 vs us Q I1 r1 q1) he hpl
end
end L2
namespace HT
open PySem PyProof.Rows
def lexLt:List Int→List Int→Bool
 | [],[]=>false
 | [],_::_=>true
 | _::_,[]=>false
 | x::xs,y::ys=>if x=y then lexLt xs ys else decide (x<y)
theorem pG (x y:Int)(xs ys:List Int):lexLt (x::xs) (y::ys)=if x=y then lexLt xs ys else decide (x<y):=rfl
theorem rf:lexLt [] []=false:=rfl
theorem dA (y:Int)(ys:List Int):lexLt [] (y::ys)=true:=rfl
theorem dB (x:Int)(xs:List Int):lexLt (x::xs) []=false:=rfl
theorem xbG (A:Around)(s:Shared)(a:Int)(t:Tok)(c:Int)(u:Tok):∃e,SeqAt.EqAt A s (.int a t) (.int c u) e∧(e=true↔a=c) :=
 ⟨(a == c),SeqAt.EqAt.int_int a t c u,by simp⟩
theorem xbz (A:Around)(s:Shared)(a:Int)(t:Tok)(c:Int)(u:Tok)(prog:Program)(w:World)(E:Value→Shared→Prop)(Q:Value→Shared→Prop)(h:Q (.bool (decide (a<c))) s) :
  wpAny (model prog w) A (richCompare .Lt (.int a t) (.int c u)) Q E s :=
 (PyProof.Rows.lt_int h:wpAny (model prog w) A (compareOp .Lt (.int a t) (.int c u)) Q E s)
section
open PySem.SeqAt
open PySem.AutoSeq1 (wpAny_loadPart')
open PySem.MeetsSeq PySem.MeetsSeq2 PySem.MeetsSeq3
theorem aM (l b:Addr)(items items2:Array Value)(n n2:Nat)(dd dd2:Option Addr)(sl sl2:Array (Option Value))(ns ms:List Int)(hi:IntsAre items.toList ns)(hj:IntsAre items2.toList ms) :
  Meets (Builtin.«tuple.__lt__» ⟨[.ref l,.ref b],[]⟩)
   (fun _ R s=>s.heap.get? l=some { cls:=.type "tuple", dict:=dd,data:=.seq items n,slots:=sl }∧s.heap.get? b=some { cls:=.type "tuple", dict:=dd2,data:=.seq items2 n2,slots:=sl2 } ∧
    R (.ok (.ret (.bool (lexLt ns ms)))) s) :=
 .of_wp fun prog w A R s h=>by
  obtain⟨hp,g,d,tk,os⟩:=s;obtain⟨hl,hb,h⟩:=h
  have f2:=AutoSeq1.sub_tuple_tuple
  have z1:items.size=ns.length:=by rw[←hi.length];simp
  have z2:items2.size=ms.length:=by rw[←hj.length];simp
  wp_walk using wpAny_loadPart' hl,wpAny_loadPart' hb,wpAny_forIn_list _ (fun rest b s'=>b.1=none∧s'=⟨hp,g,d,tk,os⟩∧∃(vs ws:List Value) (ns' ms':List Int),rest=vs.zip ws ∧
   IntsAre vs ns'∧IntsAre ws ms'∧ns'.length+items2.size=ms'.length+items.size∧R (.ok (.ret (.bool (lexLt ns' ms')))) ⟨hp,g,d,tk,os⟩) _
  case turn =>
   rintro⟨y,x⟩ rest b s' ⟨hb',rfl,vs,ws,ns',ms',hz,hvi,hwi,hlen,hR⟩
   cases hvi with
   | nil=>rw[List.zip_nil_left] at hz;cases hz
   | cons a t hvi' =>
    cases hwi with
    | nil=>rw[List.zip_nil_right] at hz;cases hz
    | cons c u hwi' =>
     rw[xja] at hz
     injection hz with hyx hrest
     injection hyx with hy hx
     subst hy hx
     rw[pG] at hR
     simp only[xir] at hlen
     obtain⟨e,he,hiff⟩:=xbG A.in1 ⟨hp,g,d,tk,os⟩ a t c u
     refine wpAny_bind (he prog w _ _ ?_)
     cases e with
     | true =>
      rw[if_pos (hiff.mp rfl)] at hR
      wp_walk
      exact⟨rfl,rfl,_,_,_,_,hrest,hvi',hwi',by omega,hR⟩
     | false =>
      rw[if_neg (fun q=>absurd (hiff.mpr q) xhr)] at hR
      have hri:=xbz A.in1 ⟨hp,g,d,tk,os⟩ a t c u prog w
      wp_walk using hri
      exact⟨_,rfl,by simpa using hR⟩
  case fin =>
   rintro⟨b1,b2⟩ s' ⟨hb',rfl,vs,ws,ns',ms',hz,hvi,hwi,hlen,hR⟩
   simp only at hb'
   subst hb'
   have hv:lexLt ns' ms'=decide (items.size<items2.size):=by
    cases hvi with
    | nil =>
     cases hwi with
     | nil =>
      simp only[xiu] at hlen
      rw[rf]
      exact(xjr (by omega)).symm
     | cons c u hw =>
      simp only[xiu,xir] at hlen
      rw[dA]
      exact(xjs (by omega)).symm
    | cons a t hv =>
     cases hwi with
     | nil =>
      simp only[xiu,xir] at hlen
      rw[dB]
      exact(xjr (by omega)).symm
     | cons c u hw =>
      rw[xja] at hz
      cases hz
   rw[hv] at hR
   wp_walk
   exact⟨_,rfl,by simpa [Builtin.Tuple.tupleCompareSizes] using hR⟩
  case h =>
   exact⟨rfl,rfl,items.toList,items2.toList,ns,ms,rfl,hi,hj,by omega,h⟩
end
section
variable {prog:Program} {w:World} {A:Around} {E:Value→Shared→Prop} {s:Shared}
theorem pV {l b:Addr}{items items2:Array Value}{ns ms:List Int}{Q:Value→Shared→Prop}(hl:IsTup s.heap l items)(hb:IsTup s.heap b items2)(hi:IntsAre items.toList ns)(hj:IntsAre items2.toList ms)
  (hu:A.units<cLine) (h:Q (.bool (lexLt ns ms)) s):wpAny (model prog w) A (compareOp .Lt (.ref l) (.ref b)) Q E s:=by
 obtain⟨⟨cls,dd,data,sl⟩,ho,hc,n,hd⟩:=id hl
 obtain⟨⟨cls2,dd2,data2,sl2⟩,ho2,hc2,n2,hd2⟩:=id hb
 simp only at hc hd hc2 hd2
 subst hc hd hc2 hd2
 exact richCompare_meets_room (op:=.Lt) ⟨_,ho,rfl⟩ ⟨_,ho2,rfl⟩ PySem.F.slot_tuple_lt PySem.F.entry_tuple_lt (PySem.F.args_tuple_lt_2 _ _) (aM l b items items2 n n2 dd dd2 sl sl2 ns ms hi hj)
  ⟨ho,ho2,show Value.bool (lexLt ns ms)≠Value.notImplemented∧Q (.bool (lexLt ns ms)) s from⟨(fun x=>nomatch x),h⟩⟩ hu
def sIx (n d:Nat):Option Int→Nat
 | none=>d
 | some v=>if v<0 then(v+(n:Int)).toNat else min v.toNat n
theorem cY (n d:Nat):sIx n d none=d:=rfl
theorem oN (n d k:Nat):sIx n d (some (k:Int))=min k n:=by
 show(if (k:Int)<0 then((k:Int)+(n:Int)).toNat else min (k:Int).toNat n)=min k n
 rw[if_neg (by omega),Int.toNat_natCast]
end
end HT
namespace L2
open PySem PySem.Spec PyProof.Rows
abbrev TO:=St→Hp→(Option Int→Hp→Prop)→Prop
def PO (X:Cx)(e:Option Expr)(t:TO):Prop :=
 ∀(pins:List (Addr×Obj)) (s:Shared) (σ:St) (H:Hp) (Q:Option Int→Hp→Prop),Inv X pins σ H s→t σ H Q →
  wpAny (model X.prog X.w) X.A (evalPart e X.env) (fun u s'=>∃o H',Inv X pins σ H' s'∧IsPart u o∧Q o H') X.xe s
def xaK:TO:=fun _ H Q=>Q none H
def xew (t:TE):TO:=fun σ H Q=>t σ H fun x H1=>∃i,x=.int i∧Q (some i) H1
theorem intsAre_of {ns:List Int}:∀ {us:List Value},zh (ns.map V.int) us→IntsAre us ns:=by
 induction ns with
 | nil=>intro us r;rw[xiF] at r;cases r;exact .nil
 | cons n ns ih =>
  intro us r
  rw[xiD] at r
  cases r with
  | cons r1 r2 =>
   obtain⟨t,e⟩:=r1
   subst e
   exact .cons n t (ih r2)
section
variable {X:Cx} {e:Expr} {te:TE} {lo hi:Option Expr} {tl th:TO} {pos p2:Pos}
theorem sR:PO X none xaK:=by
 intro pins s σ H Q I h
 rw[evalPart_none]
 exact wpAny_pure ⟨none,H,I,.none,h⟩
theorem sQ (h:PE X e te):PO X (some e) (xew te):=by
 intro pins s σ H Q I hw
 rw[evalPart_some]
 refine thn (@h pins s σ H _ I hw) fun u s1 ⟨x,H1,I1,r1,q1⟩=>?_
 obtain⟨i,rfl,q⟩:=q1
 obtain⟨t,rfl⟩:=r1
 exact⟨some i,H1,I1,.int i t,q⟩
def SlR (X:Cx)(r:V→Option Int→Option Int→Hp→VK→Prop):Prop :=
 ∀(pins:List (Addr×Obj)) (s:Shared) (σ:St) (H:Hp) (x:V) (v vl vu:Value) (lo hi:Option Int) (sl:Addr) (Q:VK),Inv X pins σ H s→RelV x v→s.heap.IsSliceOf sl vl vu .none→IsPart vl lo→IsPart vu hi→r x lo hi H Q →
  ∃T id,typeLookup (.type T) "__getitem__" = pure (some (.builtin id))∧s.TypeIs v T∧wpAny (model X.prog X.w) X.A (getItem v (.ref sl)) (EP X pins σ Q) X.xe s
def tSl (r:V→Option Int→Option Int→Hp→VK→Prop)(te:TE)(tl th:TO):TE:=fun σ H Q=>te σ H fun x H1=>tl σ H1 fun l H2=>th σ H2 fun u H3=>r x l u H3 Q
theorem gD {r:V→Option Int→Option Int→Hp→VK→Prop}(hr:SlR X r)(he:PE X e te)(hl:PO X lo tl)(hu:PO X hi th):PE X (.Subscript e (.Slice lo hi none p2) pos) (tSl r te tl th):=by
 intro pins s σ H Q I h
 refine Subscript_ (thn (@he pins s σ H _ I h) fun v s1 ⟨x,H1,I1,r1,q1⟩=>?_)
 refine wpAny_Slice (thn (@hl pins s1 σ H1 _ I1 q1) fun vl s2 ⟨l,H2,I2,pl,q2⟩=>thn (@hu pins s2 σ H2 _ I2 q2) fun vu s3 ⟨u,H3,I3,pu,q3⟩=>?_)
 rw[evalPart_none]
 refine wpAny_pure ?_
 have I4:Inv X pins σ H3 { s3 with heap:=s3.heap.push { cls:=.type "slice", data:=.fields #[vl,vu,.none] } }:=I3.kept (t':=s3.toks) fun b ob q=>Heap.get?_push_of_some _ q
 obtain⟨T,id,hT,ht,hg⟩:=hr pins { s3 with heap:=s3.heap.push { cls:=.type "slice", data:=.fields #[vl,vu,.none] } } σ H3 x v vl vu l u s3.heap.objs.size Q I4 r1 (Heap.IsSliceOf.new ..) pl pu q3
 show wpAny (model X.prog X.w) X.A (subscriptTail e (.Slice lo hi none p2) v (.ref s3.heap.objs.size)) (EP X pins σ Q) X.xe { s3 with heap:=s3.heap.push { cls:=.type "slice", data:=.fields #[vl,vu,.none] } }
 exact tail_any (ops:=[.ref s3.heap.objs.size,v]) ht hT hg (by with_unfolding_all rfl)
def xd3 (xs:List V)(lo hi:Option Int):List V:=(xs.drop (HT.sIx xs.length 0 lo)).take (HT.sIx xs.length xs.length hi-HT.sIx xs.length 0 lo)
theorem nV (xs:List V)(lo hi:Option Int):(xd3 xs lo hi).length≤xs.length:=by
 unfold xd3
 rw[xiy,xis]
 omega
def xgL (K:PySem.W.Frag):R2:=fun x y H Q=>∃a b ns ms,x=.ref a∧y=.ref b∧SqT K H a (ns.map V.int)∧SqT K H b (ms.map V.int)∧Q (.bl (HT.lexLt ns ms)) H
theorem xeK (hu:X.A.units<cLine):OpR X (compareOp .Lt) (xgL X.K):=by
 intro pins s σ H x y v u Q I rx ry h
 obtain⟨a,b,ns,ms,rfl,rfl,ha,hb,q⟩:=h
 cases rx
 cases ry
 obtain⟨its,r1,p1,_⟩:=I.tuple ha
 obtain⟨its2,r2,p2,_⟩:=I.tuple hb
 have i1:IntsAre its.toArray.toList ns:=intsAre_of r1
 have i2:IntsAre its2.toArray.toList ms:=intsAre_of r2
 exact HT.pV p1 p2 i1 i2 hu ⟨.bl (HT.lexLt ns ms),H,I,rfl,q⟩
end
end L2
namespace L2
open PySem PySem.Spec PyProof.Rows
def ixN (n:Nat)(i:Int):Option Nat:=if 0≤i then(if i<n then some i.toNat else none) else if -(n:Int)≤i then some (i+n).toNat else none
def atI {α:Type}(xs:List α)(i:Int):Option α:=(ixN xs.length i).bind fun j=>xs[j]?
theorem oW {n:Nat}{i:Int}{j:Nat}(h:ixN n i=some j):seqIndex? i n=some j∧j<n∧-(n:Int)≤i∧i<n:=by
 unfold ixN at h
 by_cases h0:0≤i
 ·rw[if_pos h0] at h
  by_cases h1:i<n
  ·rw[if_pos h1] at h
   have e:i.toNat=j:=xjp h
   exact⟨by rw[seqIndex_of h0 h1,e],by omega,by omega,h1⟩
  ·rw[if_neg h1] at h;cases h
 ·rw[if_neg h0] at h
  by_cases h1:-(n:Int)≤i
  ·rw[if_pos h1] at h
   have e:(i+n).toNat=j:=xjp h
   exact⟨by rw[seqIndex_neg (by omega) h1,e],by omega,h1,by omega⟩
  ·rw[if_neg h1] at h;cases h
theorem nR {α:Type}{xs:List α}{i:Int}{v:α}(h:atI xs i=some v):∃j,seqIndex? i xs.length=some j∧xs[j]? = some v∧j<xs.length∧-(xs.length:Int)≤i∧i<xs.length:=by
 unfold atI at h
 cases e:ixN xs.length i with
 | none=>rw[e] at h;cases h
 | some j =>
  rw[e] at h
  obtain⟨h1,h2,h3,h4⟩:=oW e
  exact⟨j,h1,h,h2,h3,h4⟩
theorem xdd {α:Type}{xs:List α}{j:Nat}{v:α}(h:xs[j]? = some v):atI xs (j:Int)=some v:=by
 have hj:j<xs.length:=(xik.mp h).1
 have e:ixN xs.length (j:Int)=some j:=by
  unfold ixN
  rw[if_pos (by omega),if_pos (by omega)];simp
 unfold atI;rw[e];exact h
theorem xbH {α:Type}(xs:List α)(v:α):atI (xs++[v]) (-1)=some v:=by
 have hl:(xs++[v]).length=xs.length+1:=by simp
 have e:ixN (xs++[v]).length (-1)=some xs.length:=by
  unfold ixN
  rw[hl,if_neg (by decide),if_pos (by omega)]
  congr 1
  omega
 unfold atI
 rw[e]
 show(xs++[v])[xs.length]? = some v
 simp
def xdu (b:Expr):Prop:=∀o i,subscripted b false o i=operate [o,i] (getItem o i)
def IxR (X:Cx)(r:R2):Prop :=
 ∀(value slice:Expr) (pins:List (Addr×Obj)) (s:Shared) (σ:St) (H:Hp) (x y:V) (v u:Value) (Q:VK),Inv X pins σ H s→RelV x v→RelV y u→r x y H Q →
  subscripted slice false v u=operate [v,u] (getItem v u)→wpAny (model X.prog X.w) X.A (subscriptTail value slice v u) (EP X pins σ Q) X.xe s
def MtR (X:Cx)(id:String)(r:V→List V→Hp→VK→Prop):Prop :=
 ∀(pins:List (Addr×Obj)) (s:Shared) (σ:St) (H:Hp) (x:V) (xs:List V) (v:Value) (us:List Value) (Q:VK),Inv X pins σ H s→RelV x v→zh xs us→r x xs H Q →
  wpAny (model X.prog X.w) X.A (call (.builtin id) (v::us)) (EP X pins σ Q) X.xe s
section
variable {X:Cx} {a b:Expr} {ta tb:TE} {pos:Pos}
theorem IxR.or {r r':R2}(h:IxR X r)(h':IxR X r'):IxR X (fun x y H Q=>r x y H Q∨r' x y H Q):=by
 intro value slice pins s σ H x y v u Q I rx ry q hs
 rcases q with q | q
 ·exact h value slice pins s σ H x y v u Q I rx ry q hs
 ·exact h' value slice pins s σ H x y v u Q I rx ry q hs
theorem yT {r:R2}(hr:IxR X r)(ha:PE X a ta)(hb:PE X b tb)(hs:xdu b):PE X (.Subscript a b pos) (tOp r ta tb):=by
 intro pins s σ H Q I h
 exact Subscript_ (xfY ha hb I h fun v u s2 x y H2 I2 rx ry q=>hr a @b pins s2 σ H2 x y v u Q I2 rx ry q (hs _ _))
def xfP (K:PySem.W.Frag):R2:=fun x y H Q=>∃p xs i v,x=.ref p∧y=.int i∧SqL K H p xs∧atI xs i=some v∧Q v H
def xgH (K:PySem.W.Frag):R2:=fun x y H Q=>∃p xs i v,x=.ref p∧y=.int i∧SqT K H p xs∧atI xs i=some v∧Q v H
def xgB:R2:=fun x y H Q=>∃z i c,x=.str z∧y=.int i∧z.length≤sizeLine∧atI z.cps.toList i=some c∧Q (.str ⟨#[c]⟩) H
theorem l_:IxR X (xfP X.K):=by
 intro value slice pins s σ H x y v u Q I rx ry h hs
 obtain⟨p,xs,i,z,rfl,rfl,hq,he,q⟩:=h
 cases rx
 obtain⟨t,rfl⟩:=ry
 obtain⟨its,r,pl,hz⟩:=I.list hq
 obtain⟨j,h1,h2,h3,h4,h5⟩:=nR he
 obtain⟨w,ew,rw'⟩:=r.get h2
 have hl:=r.length
 have hn:=sy
 have fin:EP X pins σ Q w s:=⟨z,H,I,rw',q⟩
 by_cases h0:0≤i
 ·have hj:i.toNat=j:=by
   rw[seqIndex_of h0 h5] at h1
   exact xjp h1
  exact item_listR pl.isList h0 (by omega) (by rw[hj];simpa using ew) fin hs
 ·have hj:(i+(its.toArray.size:Int)).toNat=j:=by
   rw[seqIndex_neg (by omega) h4] at h1
   rw[xi3,←hl]
   exact xjp h1
  exact subscriptTail_builtinR (x:=w) pl.isList.typeIs slot_list_getitem.lookup
   (wpAny_getItem_list_neg (Q:=fun r s'=>r=w∧EP X pins σ Q r s') pl.isList (by omega) (by rw[xi3]<;>omega) (by omega) (by rw[hj];simpa using ew) ⟨rfl,fin⟩) hs
theorem xe_:IxR X (xgH X.K):=by
 intro value slice pins s σ H x y v u Q I rx ry h hs
 obtain⟨p,xs,i,z,rfl,rfl,hq,he,q⟩:=h
 cases rx
 obtain⟨t,rfl⟩:=ry
 obtain⟨its,r,pl,hz⟩:=I.tuple hq
 obtain⟨j,h1,h2,h3,h4,h5⟩:=nR he
 obtain⟨w,ew,rw'⟩:=r.get h2
 have hl:=r.length
 have hn:=sy
 have fin:EP X pins σ Q w s:=⟨z,H,I,rw',q⟩
 exact subscriptTail_builtinR (x:=w) pl.typeIs slot_tuple_getitem.lookup
  (getItem_tuple (j:=j) (Q:=fun r s'=>r=w∧EP X pins σ Q r s') pl (by omega) (by omega) (by rw[xi3,←hl];exact h1) (by simpa using ew) ⟨rfl,fin⟩) hs
theorem xeF:IxR X xgB:=by
 intro value slice pins s σ H x y v u Q I rx ry h hs
 obtain⟨z,i,c,rfl,rfl,hz,he,q⟩:=h
 obtain⟨t,rfl⟩:=rx
 obtain⟨t',rfl⟩:=ry
 obtain⟨j,h1,h2,h3,h4,h5⟩:=nR he
 have hl:z.cps.toList.length=z.length:=by simp[Str.length]
 rw[hl] at h1 h4 h5
 have hn:=sy
 exact tail_any (typeIs_str s z t) slot_str_getitem.lookup (getItem_str (c:=c) (by
  have e1:decide (i < -(2 ^ 63:Int))=false:=xjr (by omega)
  have e2:decide (i≥2 ^ 63)=false:=xjr (by omega)
  rw[e1,e2,Bool.or_false]) (by rw[h1];simpa using h2) ⟨.str ⟨#[c]⟩,H,I.tok _,⟨_,rfl⟩,q⟩) hs
def rIx (K:PySem.W.Frag):R2:=fun x y H Q=>xfP K x y H Q∨xgH K x y H Q∨xgB x y H Q
theorem xeu:IxR X (rIx X.K):=l_.or (xe_.or xeF)
theorem pH (its:List Value)(n j:Nat)(u:Value):Obj.mapSeq (·.setIfInBounds j u) { cls:=.type "list", data:=.seq its.toArray n }={ cls:=.type "list", data:=.seq (its.set j u).toArray n }:=by
 simp[Obj.mapSeq]
theorem Inv.lst {pins:List (Addr×Obj)}{σ:St}{H:Hp}{s:Shared}{p:Addr}{xs:List V}(I:Inv X pins σ H s)(h:H p=some (.lst xs)) :
  ∃(its:List Value) (n:Nat),zh xs its∧s.heap.get? p=some { cls:=.type "list", data:=.seq its.toArray n }∧xs.length≤sizeLine:=by
 obtain⟨z,its,n,r,e⟩:=I.hok p _ h
 exact⟨its,n,r,e,z⟩
theorem Inv.lstUpd {pins:List (Addr×Obj)}{σ:St}{H:Hp}{s:Shared}{p:Addr}{xs ys:List V}{its its':List Value}{n n':Nat}{f:Obj→Obj}(I:Inv X pins σ H s)(h:H p=some (.lst xs))
  (ho:s.heap.get? p=some { cls:=.type "list", data:=.seq its.toArray n }) (hf:f { cls:=.type "list", data:=.seq its.toArray n }={ cls:=.type "list", data:=.seq its'.toArray n' }) (r:zh ys its') (hz:ys.length≤sizeLine) (t:Nat) :
  Inv X pins σ (upd H p (.lst ys)) { s with heap:=s.heap.update p f,toks:=t }:=by
 have e:(s.heap.update p f).get? p=some { cls:=.type "list", data:=.seq its'.toArray n' }:=by
  rw[Heap.get?_update_self f ho (by rw[hf]<;>rfl),hf]
 refine I.write (x:=p) (e:=p) (by rw[h];trivial) (.inl rfl) (fun b u hb q=>(Heap.get?_update_other _ _ (Ne.symm hb)).trans q) ⟨_,e⟩ ?_
 exact⟨hz,its',n',r,e⟩
def xfc:V→V→V→Hp→(Hp→Prop)→Prop:=fun o i v H Q=>∃p xs k j,o=.ref p∧i=.int k∧H p=some (.lst xs)∧ixN xs.length k=some j∧Q (upd H p (.lst (xs.set j v)))
theorem set_list:xgY X xfc:=by
 intro pins s σ H o i v ov iv u Q I ro ri rv h
 obtain⟨p,xs,k,j,rfl,rfl,hp,hj,q⟩:=h
 cases ro
 obtain⟨t,rfl⟩:=ri
 obtain⟨its,n,r,ho,hz⟩:=I.lst hp
 obtain⟨h1,h2,h3,h4⟩:=oW hj
 have hl:=r.length
 have hn:=sy
 have I':Inv X pins σ (upd H p (.lst (xs.set j v))) { s with heap:=s.heap.update p (Obj.mapSeq (·.setIfInBounds j u)) } :=
  I.lstUpd hp ho (pH its n j u) (r.set rv j) (by rw[xiw];exact hz) s.toks
 by_cases h0:0≤k
 ·have hk:k.toNat=j:=by
   rw[seqIndex_of h0 h4] at h1
   exact xjp h1
  exact PySem.W.ki_setAt ho h0 (by omega) (by rw[xi3,←hl];exact h4) (by rw[hk];exact⟨_,I',q⟩)
 ·have hk:(k+(its.toArray.size:Int)).toNat=j:=by
   rw[seqIndex_neg (by omega) h3] at h1
   rw[xi3,←hl]
   exact xjp h1
  exact PySem.W.ki_setBack ho (by omega) (by rw[xi3,←hl];exact h3) (by omega) (by rw[hk];exact⟨_,I',q⟩)
theorem tI (lo hi:Option Int)(n:Nat):(sliceBounds lo hi none n).1=((HT.sIx n 0 lo:Nat):Int)∧(sliceBounds lo hi none n).2.1=((HT.sIx n n hi:Nat):Int)∧(sliceBounds lo hi none n).2.2=1:=by
 refine⟨?_,?_,rfl⟩
 ·cases lo with
  | none=>simp[sliceBounds,HT.sIx]
  | some i =>
   simp only[sliceBounds,HT.sIx,Option.getD_none,show(1:Int)>0 by decide,if_true]
   by_cases h:i<0
   ·simp only[h,if_true]<;>omega
   ·simp only[h,if_false]<;>omega
 ·cases hi with
  | none=>simp[sliceBounds,HT.sIx]
  | some i =>
   simp only[sliceBounds,HT.sIx,Option.getD_none,show(1:Int)>0 by decide,if_true]
   by_cases h:i<0
   ·simp only[h,if_true]<;>omega
   ·simp only[h,if_false]<;>omega
theorem aK (its:List Value)(lo hi:Option Int):slicePick its.toArray lo hi none=((its.drop (HT.sIx its.length 0 lo)).take (HT.sIx its.length its.length hi-HT.sIx its.length 0 lo)).toArray:=by
 obtain⟨h1,h2,h3⟩:=tI lo hi its.toArray.size
 unfold slicePick
 rw[h1,h2,h3]
 simp only[sliceRange_one,pick_run,xi3]<;>rfl
def xfh (K:PySem.W.Frag):V→Option Int→Option Int→Hp→VK→Prop:=fun x lo hi H Q=>∃a xs,x=.ref a∧SqL K H a xs∧∀p,H p=none→Q (.ref p) (upd H p (.lst (xd3 xs lo hi)))
theorem xdG:SlR X (xfh X.K):=by
 intro pins s σ H x v vl vu lo hi sl Q I rx hs pl pu h
 obtain⟨a,xs,rfl,hx,q⟩:=h
 cases rx
 obtain⟨its,r,ht,hz⟩:=I.list hx
 have hlen:=r.length
 refine⟨"list", _,slot_list_getitem.lookup,ht.isList.typeIs,?_⟩
 refine wpAny_getItem_list_slice ht.isList hs pl pu .none (by simp) ?_ (by rw[xi3]<;>omega)
 rw[aK,←hlen]
 refine⟨.ref s.heap.objs.size,_,I.laid (t':=s.toks) (o:=.lst (xd3 xs lo hi)) (fun b ob q=>Heap.get?_push_of_some _ q) (xjd _) ?_,rfl,q _ (I.hok.fresh (xjd _))⟩
 exact⟨xjf (nV xs lo hi) hz,_,0,(r.drop (HT.sIx xs.length 0 lo)).take (HT.sIx xs.length xs.length hi-HT.sIx xs.length 0 lo),Heap.get?_push_size _ rfl⟩
theorem tO:qY X (.builtin "len") (fun xs H Q=>∃p ys,xs=[.ref p]∧(SqL X.K H p ys∨SqT X.K H p ys)∧Q (.int ys.length) H):=by
 intro pins s σ H xs us Q I r h
 obtain⟨p,ys,rfl,hq,q⟩:=h
 obtain⟨u,rfl,rx⟩:=vals1 r
 cases rx
 have hn:=sy
 rcases hq with hq | hq
 ·obtain⟨its,r',pl,hz⟩:=I.list hq
  have hlen:=r'.length
  exact Calls.call_len_list pl.isList (by simp only[xi3]<;>omega) ⟨.int ys.length,H,I.tok _,⟨s.toks+1,by rw[xi3,hlen]⟩,q⟩
 ·obtain⟨its,r',pl,hz⟩:=I.tuple hq
  have hlen:=r'.length
  exact len_tuple pl (by simp only[xi3]<;>omega) ⟨.int ys.length,H,I.tok _,⟨s.toks+1,by rw[xi3,hlen]⟩,q⟩
theorem aW:qY X (.type "tuple") (fun xs H Q=>∃p ys,xs=[.ref p]∧((SqL X.K H p ys∧∀l,H l=none→Q (.ref l) (upd H l (.tup ys)))∨(SqT X.K H p ys∧Q (.ref p) H))):=by
 intro pins s σ H xs us Q I r h
 obtain⟨p,ys,rfl,h⟩:=h
 obtain⟨u,rfl,rx⟩:=vals1 r
 cases rx
 rcases h with ⟨hq,q⟩ | ⟨hq,q⟩
 ·obtain⟨its,r',pl,hz⟩:=I.list hq
  have hlen:=r'.length
  refine call_tuple_list pl.isList (fun h' kp=>?_) (by simp only[xi3]<;>omega)
  have I1:Inv X pins σ H { s with heap:=h' }:=I.kept (t':=s.toks) kp
  have I2:Inv X pins σ (upd H h'.objs.size (.tup ys)) { s with heap:=h'.push { cls:=.type "tuple", data:=.seq its.toArray } } :=
   I1.laid (t':=s.toks) (fun b o e=>Heap.get?_push_of_some _ e) (xjd _) (show vR X.prog X.w _ _ _ (.tup ys) from⟨hz,its,r',IsTup.new _ _⟩)
  exact⟨.ref h'.objs.size,_,I2,rfl,q _ (I1.hok.fresh (xjd _))⟩
 ·obtain⟨its,r',pl,hz⟩:=I.tuple hq
  exact call_tuple_same pl ⟨.ref p,H,I,rfl,q⟩
def tyV (K:PySem.W.Frag)(T:String)(x:V)(H:Hp):Prop:=match x with
 | .str _=>T = "str"
 | .int _=>T = "int"
 | .ref p=>(T = "list" ∧ ∃xs,SqL K H p xs)∨(T = "tuple" ∧ ∃o,K.lookup p=some o∧o.cls=.type "tuple" ∧ o.dict=none) ∨
   (T = "dict" ∧ ((∃kvs,H p=some (.dK kvs))∨∃kvs,H p=some (.dT kvs)))∨(T = "set" ∧ ∃S n,H p=some (.set S n))
 | _=>False
theorem xej {pins:List (Addr×Obj)}{σ:St}{H:Hp}{s:Shared}{T:String}{x:V}{v:Value}(I:Inv X pins σ H s)(r:RelV x v)(ty:tyV X.K T x H) :
  s.TypeIs v T∧∀a,v=.ref a→∃ob,s.heap.get? a=some ob∧ob.dict=none:=by
 cases x with
 | str z =>
  obtain⟨t,rfl⟩:=r
  cases (show T = "str" from ty)
  exact⟨typeIs_str s z t,fun _ e=>nomatch e⟩
 | int i =>
  obtain⟨t,rfl⟩:=r
  cases (show T = "int" from ty)
  exact⟨typeIs_int s i t,fun _ e=>nomatch e⟩
 | ref p =>
  cases r
  rcases ty with ⟨rfl,xs,hq⟩ | ⟨rfl,o,hk,hc,hd⟩ | ⟨rfl,hk⟩ | ⟨rfl,S,n,hk⟩
  ·obtain⟨its,_,pl,_⟩:=I.list hq
   refine⟨pl.isList.typeIs,fun a e=>?_⟩
   cases e
   obtain⟨o,n,e,c,hd,_⟩:=pl
   exact⟨o,e,hd⟩
  ·refine⟨⟨o,I.kIn p o hk,hc⟩,fun a e=>?_⟩
   cases e
   exact⟨o,I.kIn _ o hk,hd⟩
  ·have z:∃o,s.heap.get? p=some o∧o.ExactDict:=by
    rcases hk with ⟨kvs,hk⟩ | ⟨kvs,hk⟩
    ·obtain⟨_,_,_,_,o,_,_,e,ex,_⟩:=I.hok p _ hk
     exact⟨o,e,ex⟩
    ·obtain⟨_,_,_,_,o,_,_,e,ex,_⟩:=I.hok p _ hk
     exact⟨o,e,ex⟩
   obtain⟨o,e,ex⟩:=z
   refine⟨⟨o,e,ex.1⟩,fun a e2=>?_⟩
   cases e2
   exact⟨o,e,ex.2.1⟩
  ·obtain⟨o,_,_,_,e,ex,_⟩:=I.hok p _ hk
   refine⟨⟨o,e,ex.1⟩,fun a e2=>?_⟩
   cases e2
   exact⟨o,e,ex.2.1⟩
 | _=>exact False.elim ty
def tBM (K:PySem.W.Frag)(T:String)(r:V→List V→Hp→VK→Prop)(to:TE)(t:TA):TE:=fun σ H Q=>to σ H fun x H1=>tyV K T x H1∧t σ H1 fun xs H2=>r x xs H2 Q
variable {o e:Expr} {es:List Expr} {to:TE} {t:TA} {name:Str} {apos cpos:Pos} {T id:String} {r:V→List V→Hp→VK→Prop}
theorem nJ (pa:PlainAttrs T)(slot:Slot T name id)(hty:typeOf (.builtin id)=pure (.type "method_descriptor"))(hm:MtR X id r)(ho:PE X o to)(ha:PA X (e::es) t)
  (hbase:attributeBase o name X.env (eval o X.env)=eval o X.env:=by rfl)
  (hfew:((backTo cpos (starEach (e::es) X.env)).all (fun x=>!x.1)&&(backToKw cpos (keywordEach [] X.env)).all (fun x=>x.1.isSome)
   && decide ((e::es).length+([]:List Keyword).length+(if ([]:List Keyword).isEmpty then 0 else 1)<30))=true:=by rfl)
  (hline:(apos.endLine == cpos.line)=true:=by rfl) (hs:starEach (e::es) X.env=(false,eval e X.env)::starEach es X.env:=by rfl) (hplain:(backTo cpos (starEach es X.env)).any (·.1)=false:=by rfl) :
  PE X (.Call (.Attribute o name apos) (e::es) [] cpos) (tBM X.K T r to t):=by
 intro pins s σ H Q I h
 refine wpAny_Call_method_late hbase hfew hline rfl (thn (@ho pins s σ H _ I h) fun v s1 ⟨x,H1,I1,r1,ty,q1⟩=>?_)
 obtain⟨h1,h2⟩:=xej I1 r1 ty
 refine⟨T,id,pa,slot,hty,h1,h2,?_⟩
 have hA:=@ha cpos pins s1 σ H1 _ I1 q1
 rw[hs] at hA ⊢
 refine Calls.callWith_builtin (by show(false || (backTo cpos (starEach es X.env)).any (·.1))=false;rw[hplain]<;>rfl) (Calls.evalArgs_plain ?_)
 exact thn hA fun us s2 ⟨vs,H2,I2,r2,q2⟩=>@hm pins s2 σ H2 x vs v us Q I2 r1 r2 q2
end
end L2
namespace L2
open PySem PySem.Spec PyProof.Rows
def MtM (X:Cx)(id:String)(r:V→List V→Hp→VK→Prop):Prop :=
 ∀(pins:List (Addr×Obj)) (s:Shared) (σ:St) (H:Hp) (x:V) (xs:List V) (v:Value) (us:List Value) (Q:VK),Inv X pins σ H s→RelV x v→zh xs us→r x xs H Q →
  wpAny (model X.prog X.w) X.A (call (.builtin id) (v::us)) (EP X pins σ Q) X.xe s
theorem zh.one:∀ {x:V} {us:List Value},zh [x] us→∃u,us=[u]∧RelV x u
 | _,_,.cons r .nil=>⟨_,rfl,r⟩
theorem zh.rep {xs:List V}{us:List Value}(h:zh xs us):∀k:Nat,zh (List.replicate k xs).flatten (List.replicate k us).flatten
 | 0=>.nil
 | k+1=>by
  rw[xi1,xi1,xid,xid]
  exact zh.append h (zh.rep h k)
theorem foldl_rep (its:List Value):∀(k:Nat) (acc:List Value),
  List.foldl (fun x1 x2=>x1++x2) acc.toArray (List.replicate k its.toArray)=(acc++(List.replicate k its).flatten).toArray
 | 0,acc=>by simp
 | k+1,acc=>by
  have e:acc.toArray++its.toArray=(acc++its).toArray:=by simp
  have e2:(acc++its)++(List.replicate k its).flatten=acc++(List.replicate (k+1) its).flatten:=by
   rw[xi1,xid,xh6]
  rw[←e2,←foldl_rep its k (acc++its),←e,xi1,xif]
section
variable {X:Cx} {pins:List (Addr×Obj)} {σ:St} {H:Hp} {s:Shared} {l b:Addr} {xs ys zs:List V}
theorem Inv.lset {its its':List Value}{n:Nat}{f:Array Value→Array Value}{t':Nat}(I:Inv X pins σ H s)(hH:H l=some (.lst xs))
  (e:s.heap.get? l=some { cls:=.type "list", data:=.seq its.toArray n }) (hf:f its.toArray=its'.toArray) (hv:zh ys its') (hz:ys.length≤sizeLine) :
  Inv X pins σ (upd H l (.lst ys)) { s with heap:=s.heap.update l (Obj.mapSeq f),toks:=t' }:=by
 have q:=PySem.IsL.update e f
 rw[hf] at q
 refine I.write (x:=l) (e:=l) (by rw[hH];exact trivial) (.inl rfl) (fun b' u hb hu=>(Heap.get?_update_other s.heap (Obj.mapSeq f) (Ne.symm hb)).trans hu) ⟨_,q⟩ ?_
 exact⟨hz,its',_,hv,q⟩
theorem Inv.lnew {its:List Value}{t':Nat}(I:Inv X pins σ H s)(hv:zh ys its)(hz:ys.length≤sizeLine) :
  Inv X pins σ (upd H s.heap.objs.size (.lst ys)) { s with heap:=s.heap.push { cls:=.type "list", data:=.seq its.toArray },toks:=t' } :=
 I.laid (fun _ _ q=>Heap.get?_push_of_some _ q) (xjd _) ⟨hz,its,0,hv,Heap.get?_push_size _ rfl⟩
theorem Inv.fresh (I:Inv X pins σ H s):H s.heap.objs.size=none:=I.hok.fresh (xjd _)
theorem Inv.lstM (I:Inv X pins σ H s)(hH:H l=some (.lst xs)):xs.length≤sizeLine∧∃(its:List Value) (n:Nat),zh xs its∧xs.length=its.length∧s.heap.get? l=some { cls:=.type "list", data:=.seq its.toArray n }:=by
 obtain⟨z,its,n,r,e⟩:=I.hok l _ hH
 exact⟨z,its,n,r,r.length,e⟩
theorem xbs {n:Nat}(h:n≤sizeLine):Builtin.List.listTooLong n=false:=by
 unfold Builtin.List.listTooLong
 exact xjr (by omega)
end
section
variable {X:Cx}
def o7:V→List V→Hp→VK→Prop:=fun x vs H Q=>∃l xs y,x=.ref l∧vs=[y]∧H l=some (.lst xs)∧xs.length<sizeLine∧Q .non (upd H l (.lst (xs++[y])))
theorem uo:MtM X "list.append" o7:=by
 intro pins s σ H x vs v us Q I rx rv h
 obtain⟨l,xs,y,rfl,rfl,hH,hz,q⟩:=h
 cases rx
 obtain⟨u,rfl,ru⟩:=rv.one
 obtain⟨z,its,n,r,hl,e⟩:=I.lstM hH
 refine call_meets F.slot_list_append ⟨_,e,rfl⟩ F.entry_list_append (F.args_list_append_2 _ _) (PySem.list_append l its.toArray n u (by rw[xi3];omega)) ⟨e,?_⟩
 refine⟨.non,_,I.lset (its':=its++[u]) hH e (by simp) (r.append (.cons ru .nil)) ?_,rfl,q⟩
 rw[xiq,xix]
 omega
def xgU:R2:=fun x y H Q=>∃l b xs zs,x=.ref l∧y=.ref b∧H l=some (.lst xs)∧H b=some (.lst zs)∧xs.length+zs.length≤sizeLine∧∀p,H p=none→Q (.ref p) (upd H p (.lst (xs++zs)))
theorem xcL:OpR X (binaryOp .Add) xgU:=by
 intro pins s σ H x y v u Q I rx ry h
 obtain⟨l,b,xs,zs,rfl,rfl,hH,hB,hz,q⟩:=h
 cases rx
 cases ry
 obtain⟨z,its,n,r,hl,e⟩:=I.lstM hH
 obtain⟨z2,its2,n2,r2,hl2,e2⟩:=I.lstM hB
 refine PySem.P.add_list e e2 ?_ (by rw[xi3,xi3];omega)
 have ea:its.toArray++its2.toArray=(its++its2).toArray:=by simp
 rw[ea]
 exact⟨.ref _,_,I.lnew (t':=s.toks) (r.append r2) (by rw[xiq];omega),rfl,q _ I.fresh⟩
def xgZ:R2:=fun x y H Q=>∃l k xs,x=.ref l∧y=.int k∧H l=some (.lst xs)∧-(2 ^ 63)≤k∧k<2 ^ 63∧xs.length*k.toNat≤sizeLine ∧
 ∀p,H p=none→Q (.ref p) (upd H p (.lst (List.replicate k.toNat xs).flatten))
theorem len_rep {α:Type}(xs:List α)(k:Nat):(List.replicate k xs).flatten.length=k*xs.length:=by
 induction k with
 | zero=>simp
 | succ k ih=>rw[xi1,xid,xiq,ih,Nat.succ_mul,Nat.add_comm]
theorem xcD:OpR X (binaryOp .Mult) xgZ:=by
 intro pins s σ H x y v u Q I rx ry h
 obtain⟨l,k,xs,rfl,rfl,hH,h1,h2,hz,q⟩:=h
 cases rx
 obtain⟨t,rfl⟩:=ry
 obtain⟨z,its,n,r,hl,e⟩:=I.lstM hH
 have hlen:its.toArray.size*k.toNat≤sizeLine:=by rw[xi3,←hl];exact hz
 have hcap:¬its.toArray.size*k.toNat>(2 ^ 63-1) / 8:=by
  have:(sizeLine:Nat)≤(2 ^ 63-1) / 8:=by decide
  omega
 have hfit:¬(!Builtin.List.listFitsIndex k)=true:=by
  rw[fitsIndex_both h1 h2]
  exact xhr
 have hlong:¬Builtin.List.listTooLong (its.toArray.size*k.toNat)=true:=by
  rw[xbs hlen]
  exact xhr
 have hnew:List.foldl (fun x1 x2=>x1++x2) #[] (List.replicate (if its.toArray.isEmpty=true then 0 else k.toNat) its.toArray)=(List.replicate k.toNat its).flatten.toArray:=by
  have f0:∀m:Nat,List.foldl (fun x1 x2=>x1++x2) #[] (List.replicate m its.toArray)=(List.replicate m its).flatten.toArray:=fun m=>by
   have:=foldl_rep its m []
   rw[xiW] at this
   exact this
  rw[f0]
  cases its with
  | nil=>simp
  | cons a r'=>rw[if_neg (by simp)]
 refine wpAny_binaryOp_repeat_ref (T := "list") (U := "int") (by decide) ⟨_,e,rfl⟩ (fun s'=>typeIs_int s' k t) noFill_list_mul F.fills_int_mul F.slot_int_rmul repeat_list F.slot_int_index.lookup
  (call_meets F.slot_int_rmul (typeIs_int s k t) F.entry_int_rmul (F.args_int_rmul_2 _ _) (int___rmul___int_list k t l its.toArray n)
   ⟨e,rfl,⟨_,e,rfl⟩,call_meets F.slot_list_mul ⟨_,e,rfl⟩ F.entry_list_mul (F.args_list_mul_2 _ _) (AutoListH.list___mul___list_int_3 l its.toArray n k t hfit hcap hlong) ⟨e,?_⟩⟩)
 rw[hnew]
 exact⟨.ref _,_,I.lnew (t':=s.toks) (r.rep k.toNat) (by rw[len_rep,Nat.mul_comm];exact hz),rfl,q _ I.fresh⟩
end
section
variable {prog:Program} {w:World} {A:Around} {E:Value→Shared→Prop} {s:Shared}
end
section
variable {X:Cx}
end
end L2
namespace Att
open PySem PySem.W PySem.Calls PyProof.Rows
theorem gK {P:Params}{h:Heap}:∀(ns:List Int) (vs:List Value),WellAll P h vs (ns.map WData.int)→IntsAre vs ns:=by
 intro ns
 induction ns with
 | nil =>
  intro vs w
  rw[xiF] at w
  cases w
  exact .nil
 | cons n ns ih =>
  intro vs w
  rw[xiD] at w
  cases w with
  | cons a b =>
   cases a
   exact .cons _ _ (ih _ b)
theorem xag {l:OpenLaw}{n:Nat}(hn:l.most=some n){P:Params}{h:Heap}{args:List WData}{vals:List Value}
  (hpre:l.row.toRowW.claim.pre args=true) (hwl:WellAll P h vals args) :
  ∃a vs ns,vals=[Value.ref a]∧args=[WData.list (ns.map WData.int)]∧h.get? a=some { cls:=.type "list", data:=.seq vs.toArray }∧IntsAre vs ns∧ns.length≤n:=by
 have hsh:WShape.hasAll [] args [.list .int]=true:=(pre_splitW hpre).1
 have hc:l.pre.holds [] { args:=args }=true:=(pre_splitW hpre).2
 obtain⟨d,r,rfl,h1,h2⟩:=hasAllW_cons hsh
 obtain rfl:=hasAllW_nil h2
 obtain⟨xs,rfl,h3⟩:=hasW_list h1
 obtain⟨ns,rfl⟩:=items_int h3
 have hlen:ns.length≤n:=by
  unfold OpenLaw.pre at hc
  have h4:(WTm.not (.lt (.lit (.int (n:Int))) (.len (.arg 0)))).holds [] { args:=[.list (ns.map .int)] }=true:=by
   have h4:=(holds_andW hc).1
   rw[hn] at h4
   exact h4
  have h5:=condW_of h4 (w_not (w_lt w_lit (w_len_list (w_arg rfl))))
  rw[xit] at h5
  refine Nat.le_of_not_lt fun q=>?_
  have q':(n:Int)<((ns.length:Nat):Int):=by omega
  first
   | (rw[xjs q'] at h5;exact absurd h5 (by decide))
   | (simp at h5;omega)
 cases hwl with
 | cons w1 w2 =>
  cases w2
  cases w1 with
  | list ho hall=>exact⟨_,_,ns,rfl,rfl,ho,gK ns _ hall,hlen⟩
theorem o6 (l:OpenLaw)(args:List WData):l.row.toRowW.claim.post args (.bool true) args=true :=
 postW_of (r:=l.row.toRowW) (X:=(true == true))
  (show WShape.has [] (.bool true) .bool=true by first | rfl | decide | simp[WShape.has,WShape.arms,WShape.armsAll])
  (show(WTm.eq .res (.lit (.bool true))).value [] { args:=args,res:=some (.bool true),after:=args }=some (.bool (true == true)) from w_eq_bool (w_res rfl) w_lit) rfl
theorem nG {l:OpenLaw}{n:Nat}{q:Program}{loose:List Str}{XP:(Str→Option Value)→Heap→Prop}{YP:World→Heap→Prop}{d:DefRec}
  (hn:l.most=some n) (hdf:d.params.defaults=[])
  (call:∀(w:World) (s₀ s₁:Shared) (mg mb:Str→Option Value) (fa:Addr) (o:Obj) (pm cd doc:Value) (a:Addr) (vs:List Value) (ns:List Int),
   Ground q loose [] XP w s₀ mg mb s₁.heap→YP w s₁.heap →
   s₁.heap.get? fa=some o→o.data=.func (docDef d.name d.params d.body d.scope pm cd doc)→s₁.heap.CodeRec cd d.name→mg d.name=some (.ref fa) →
   s₁.heap.get? a=some { cls:=.type "list", data:=.seq vs.toArray }→IntsAre vs ns→ns.length≤n→s₁.gens = #[] →
   codeAny (model l.prog w) callerA (.call (.ref fa) ⟨[.ref a],[]⟩) (fun r s'=>r=.ok (.ret (.bool true))∧OldK s₁.heap s'.heap∧s'.os=s₁.os∧AllBare s'.gens) s₁) :
  WalkO q loose XP YP l.row.toRowW d [] (fun f vs=>PySem.call f vs):=by
 intro w s₀ s₁ mg mb G Y fa o pm cd doc dV kV ho hd hcd hD hmg hg args vals as hpre hlay hrd hwl hlo
 obtain rfl:dV=.none:=Dflts.none hD hdf
 obtain rfl:kV=.none:=Dflts.noKw hD
 obtain⟨a,vs,ns,rfl,rfl,hobj,hints,hlen⟩:=xag hn hpre hwl
 refine enter_call (codeAny_mono (call w s₀ s₁ mg mb fa o pm cd doc a vs ns G Y ho (fd_plain hd) hcd hmg hobj hints hlen hg) fun r s' hq=>?_)
 obtain⟨rfl,h2,h3,h4⟩:=hq
 exact⟨.inl ⟨.bool true,.bool true,[],rfl,fun _=>rfl,.bool true,o6 l _,fun _=>⟨List.Pairwise.nil,fun _ hm=>(nomatch hm)⟩⟩,h2,h3,h4⟩
section
variable {prog:Program} {w:World} {A:Around} {E:Value→Shared→Prop} {s:Shared} {K:Frag}
def ledger (h:Heap)(L d:Addr):List (Addr×Obj):=(List.range h.objs.size).filterMap fun a=>if a=L∨a=d then none else(h.get? a).map fun o=>(a,o)
end
end Att
namespace L2
open PySem PySem.Spec PyProof.Rows
theorem tL:∀ {vs:List Value} {ns:List Int},IntsAre vs ns→zh (ns.map V.int) vs
 | _,_,.nil=>.nil
 | _,_,.cons n t h=>.cons ⟨t,rfl⟩ (tL h)
def xf7 (H:Hp):Prop:=∀b,H b=none∨∃o xs,H b=some (.frz o (.lst xs))
theorem xbn {P:Program}{w:World}{K:PySem.W.Frag}{mg mb:Str→Option Value}{CX:CXT}{k:Nat}{fa a:Addr}{fd:FuncData}{x:Str}{sp:Sp}{s₁:Shared}{vs:List Value}{ns:List Int}
  (KX:K.In s₁.heap) (hns:s₁.heap.Ns mainGlobals mg) (hb:s₁.heap.Ns builtinsNs mb) (hbb:∀x:Str,x ≠ "__name__" → mb x=bootBuiltins x) (hlim:s₁.heap.NoLimit) (hg:s₁.gens = #[])
  (ha:s₁.heap.get? a=some { cls:=.type "list", data:=.seq vs.toArray }) (hi:IntsAre vs ns) (hl:ns.length≤sizeLine) (hr:dj k callerA)
  (F:∀base:Heap,K.In base→base.Ns mainGlobals mg→rJ P w K mg base CX k fa fd [x] sp) (hbind:∀(s:Shared) (u:Value),BindsTo s fd ⟨[u],[]⟩ [(x,u)])
  (hsp:∀H:Hp,xf7 H→SqL K H a (ns.map V.int)→sp [.ref a] H (fun v _=>v=.bl true) fun _ _ _=>False)
  (hCX:∀H e s',CX [] H s₁ (fun _ _ _=>False) e s'→False) :
  codeAny (model P w) callerA (.call (.ref fa) ⟨[.ref a],[]⟩) (fun r s'=>r=.ok (.ret (.bool true))∧OldK s₁.heap s'.heap∧s'.os=s₁.os∧AllBare s'.gens) s₁:=by
 have rv:=tL hi
 have lenV:=hi.length
 have core:∀H:Hp,xf7 H→SqL K H a (ns.map V.int)→HOk P w H s₁.heap→(∀b,H b≠none→b=a)→(H a≠none→K.lookup a=none) →
   codeAny (model P w) callerA (.call (.ref fa) ⟨[.ref a],[]⟩) (fun r s'=>r=.ok (.ret (.bool true))∧OldK s₁.heap s'.heap∧s'.os=s₁.os∧AllBare s'.gens) s₁:=by
  intro H hO hS hok hA hK
  have base_of:∀ {b:Addr} {o:Obj},s₁.heap.get? b=some o→H b=none→(xb0 s₁.heap H).get? b=some o:=fun e n=>xbZ e n
  have noA:∀ {b:Addr} {o:Obj} {es:Array DictEntry} {ep:Nat},s₁.heap.get? b=some o→o.data=.dict es ep→H b=none:=fun {b o es ep} e d=>by
   cases q:H b with
   | none=>rfl
   | some u =>
    have e':b=a:=hA b (by rw[q];simp)
    subst e'
    rw[ha] at e;cases e
    have d':Data.seq vs.toArray _=Data.dict es ep:=d
    cases d'
  have nsK:∀ {b:Addr} {m:Str→Option Value},s₁.heap.Ns b m→(xb0 s₁.heap H).Ns b m:=fun {b m} ⟨o,es,ep,e,d,r⟩=>⟨o,es,ep,base_of e (noA e d),d,r⟩
  have hKb:K.In (xb0 s₁.heap H):=fun b o e=>base_of (KX b o e) (by
   cases q:H b with
   | none=>rfl
   | some u =>
    have e':b=a:=hA b (by rw[q];simp)
    subst e'
    rw[hK (by rw[q];simp)] at e;cases e)
  have hM:Mod K mg (xb0 s₁.heap H):=⟨hKb,nsK hns,⟨mb,nsK hb,hbb⟩,let ⟨mc,h1,h2⟩:=hlim;⟨mc,nsK h1,h2⟩⟩
  have e0:xfs P w K mg (xb0 s₁.heap H) callerA [] s₁ H:=⟨rfl,hM,fun b o e=>xcW e,Nat.le_of_eq (xaH _ _),trivial,fun b hb=>absurd (show b∈([]:List Addr) from hb) (by simp),hok,.of_eq hg⟩
  refine codeAny_mono ((F _ hKb (nsK hns)).run callerA [] s₁ H ⟨[.ref a],[]⟩ [.ref a] [.ref a] _ _ hr e0 (hbind s₁ (.ref a)) (.cons rfl .nil) (hsp H hO hS)) fun r s' h=>?_
  cases r with
  | error e=>exact(hCX H e s' h).elim
  | ok fl =>
   cases fl with
   | next=>exact False.elim h
   | brk=>exact False.elim h
   | cont=>exact False.elim h
   | ret u =>
    obtain⟨v,H',os,bare,un,hok',r',q⟩:=h
    have q':v=.bl true:=q
    subst q'
    obtain rfl:u=Value.bool true:=r'
    refine⟨rfl,OldK.of_keep fun b o e=>?_,os,bare⟩
    cases q:H b with
    | none=>exact un.keep b o e q (by intro z;exact absurd (show b∈([]:List Addr) from z) (by simp)) (by simp)
    | some u =>
     rcases hO b with z | ⟨ob,xs,z⟩
     ·rw[q] at z;cases z
     ·have z2:=un.frzs b ob _ z
      obtain⟨e1,_⟩:=hok b _ z
      obtain⟨e2,_⟩:=hok' b _ z2
      rw[e] at e1;cases e1
      exact e2
 cases hk:K.lookup a with
 | some o =>
  have e:=KX a o hk
  rw[ha] at e
  cases e
  refine core (fun _=>none) (fun _=>.inl rfl) (.inr ⟨_,vs.toArray,_,hk,rfl,rfl,rfl,by rw[xi3,lenV];exact hl,by simpa using rv⟩) (fun b u z=>by have z':(none:Option HO)=some u:=z;cases z') (fun b z=>absurd rfl z) fun z=>absurd rfl z
 | none =>
  refine core (fun b=>if b=a then some (.frz { cls:=.type "list", data:=.seq vs.toArray } (.lst (ns.map V.int))) else none) (fun b=>?_) (.inl (.inr ⟨{ cls:=.type "list", data:=.seq vs.toArray },if_pos rfl⟩)) (fun b u z=>?_) (fun b z=>?_) fun _=>hk
  ·by_cases hb:b=a
   ·exact .inr ⟨_,_,if_pos hb⟩
   ·exact .inl (if_neg hb)
  ·by_cases hb:b=a
   ·have z':=(if_pos hb).symm.trans z
    cases z'
    subst hb
    exact⟨ha,by rw[xit];exact hl,vs,_,rv,ha⟩
   ·have z':=(if_neg hb).symm.trans z
    cases z'
  ·by_cases hb:b=a
   ·exact hb
   ·exact absurd (if_neg hb) z
end L2
namespace L2
open PySem PySem.Spec PyProof.Rows
abbrev KOf {K:PySem.W.Frag}{h:Heap}(_:K.In h):PySem.W.Frag:=K
theorem xc2 {l:PySem.W.OpenLaw}{n k:Nat}{q:Program}{loose:List Str}{XP:(Str→Option Value)→Heap→Prop}{YP:World→Heap→Prop}{d:DefRec}{K:Params→PySem.W.Frag}{CX:World→CXT}{sp:World→Sp}{x:Str}
  (hn:l.most=some n) (hn2:n≤sizeLine) (hdf:d.params.defaults=[]) (hr:dj k callerA)
  (hY:∀(w:World) (h:Heap),YP w h→(K w.params).In h)
  (F:∀(w:World) (mg:Str→Option Value) (fa:Addr) (h:Heap),(K w.params).In h→h.Ns mainGlobals mg→mg d.name=some (.ref fa) →
   ∃fd:FuncData,(∀(s:Shared) (u:Value),BindsTo s fd ⟨[u],[]⟩ [(x,u)]) ∧
    ∀base:Heap,(K w.params).In base→base.Ns mainGlobals mg→rJ l.prog w (K w.params) mg base (CX w) k fa fd [x] (sp w))
  (hsp:∀(w:World) (H:Hp) (a:Addr) (ns:List Int),ns.length≤n→xf7 H→SqL (K w.params) H a (ns.map V.int)→sp w [.ref a] H (fun v _=>v=.bl true) fun _ _ _=>False)
  (hCX:∀(w:World) (H:Hp) (s:Shared) (e:Value) (s':Shared),CX w [] H s (fun _ _ _=>False) e s'→False) :
  PySem.W.WalkO q loose XP YP l.row.toRowW d [] (fun f vs=>PySem.call f vs):=by
 refine Att.nG hn hdf fun w s₀ s₁ mg mb fa o pm cd doc a vs ns G Y ho hd hcd hmg hobj hints hlen hg=>?_
 have KX:=hY w _ Y
 obtain⟨fd,hb,hF⟩:=F w mg fa _ KX G.T.g hmg
 exact xbn KX G.T.g G.T.b G.T.builtins G.T.nolimit hg hobj hints (xjf hlen hn2) hr hF hb (fun H hO hS=>hsp w H a ns hlen hO hS) fun H e s'=>hCX w H s₁ e s'
end L2
namespace L2
open PySem PySem.Spec PyProof.Rows
def wY (s:Stmt):Arguments:=match s with
 | .FunctionDef _ a _ _ _ _ _ _ _ _=>a
 | _=>{ posonlyargs:=[],args:=[],vararg:=none,kwonlyargs:=[],kw_defaults:=[],kwarg:=none,defaults:=[] }
def zp (s:Stmt):List Stmt:=match s with
 | .FunctionDef _ _ b _ _ _ _ _ _ _=>b
 | _=>[]
def xg (s:Stmt):Scope:=match s with
 | .FunctionDef _ _ _ _ _ _ sc _ _ _=>sc
 | _=>{ kind:=.function,names:=[],isGenerator:=false,isCoroutine:=false }
abbrev CX0:CXT:=fun _ _ _ _ _ _=>False
abbrev E0:XK:=fun _ _ _=>False
theorem xf3 {X:Cx}:lR CX0 X E0:=fun _ _ _ _ _ _ _ h=>h.elim
structure Fun (K:PySem.W.Frag)(x qual:Str)(st:Stmt)(f:Addr)(fd:FuncData):Prop where
 ex:∃(oc:Value) (od:Option Addr) (kV doc pm:Value) (an:Option Addr) (cdv ct:Value) (osl:Array (Option Value)),
  fd=PySem.W.fnOf x qual (wY st) (zp st) (xg st) .none kV doc pm an cdv ct∧K.lookup f=some ⟨oc,od,.func fd,osl⟩∧PySem.W.codeIn K cdv qual=true
 kp:PySem.W.keepIn K (.ref f)=true
section
variable {P:Program} {w:World} {K:PySem.W.Frag} {mg:Str→Option Value} {base:Heap}
theorem Fun.ok {x qual:Str}{st:Stmt}{f:Addr}{fd:FuncData}{N ps:List Str}{k:Nat}{sp:Sp}(F:Fun K x qual st f fd)(S:xC N ps (xg st))(len:∀vs H Q E,sp vs H Q E→vs.length=ps.length)
  (hbody:∀(cdv:Value) (A:Around) (outer:List Env) (s:Shared) (H:Hp) (vs:List V) (Q:VK) (E:XK),dj k (A.deeper (envOfC qual (xg st) s.heap.objs.size f cdv))→sp vs H Q E →
   ∃t,PSs (xa1 CX0 P w K mg base N qual (xg st) f cdv A outer s H E).nox (zp st) t∧t { nx:=fun _ H'=>Q .non H',rt:=Q } (start N vs) H):rJ P w K mg base CX0 (k+1) f fd ps sp:=by
 obtain⟨oc,od,kV,doc,pm,an,cdv,ct,osl,rfl,lk,hcd⟩:=F.ex
 refine xfw lk hcd S len fun A outer s H vs Q E hr hsp=>?_
 obtain⟨t,h,q⟩:=hbody cdv A outer s H vs Q E hr hsp
 exact⟨t,h.nox,q⟩
theorem Fun.binds {x qual:Str}{st:Stmt}{f:Addr}{fd:FuncData}{ps:List Str}(F:Fun K x qual st f fd)
  (h:∀(kV doc pm:Value) (an:Option Addr) (cdv ct:Value) (us:List Value),us.length=ps.length→bindArgs (PySem.W.fnOf x qual (wY st) (zp st) (xg st) .none kV doc pm an cdv ct) ⟨us,[]⟩=pure (ps.zip us)):Binds K fd ps []:=by
 obtain⟨oc,od,kV,doc,pm,an,cdv,ct,osl,rfl,lk,hcd⟩:=F.ex
 exact .all (h kV doc pm an cdv ct)
theorem xcr {x qual:Str}{st:Stmt}{f:Addr}{oc:Value}{od an:Option Addr}{osl:Array (Option Value)}{kV doc pm cdv ct:Value}(l:K.lookup f=some ⟨oc,od,.func (PySem.W.fnOf x qual (wY st) (zp st) (xg st) .none kV doc pm an cdv ct),osl⟩)
  (c:PySem.W.codeIn K cdv qual=true) (k:PySem.W.keepIn K (.ref f)=true):Fun K x qual st f (PySem.W.fnOf x qual (wY st) (zp st) (xg st) .none kV doc pm an cdv ct):=⟨⟨oc,od,kV,doc,pm,an,cdv,ct,osl,rfl,l,c⟩,k⟩
end
theorem ls {n:Nat}(h:n≤1000):n<sizeLine:=xjh h (by decide)
section
variable {X:Cx}
theorem pv (i:Nat){x:Str}{pos:Pos}(hN:X.N[i]? = some x:=by rfl)(hv:Vis X.env.scope x:=by first | exact Or.inl rfl | exact Or.inr (Or.inl rfl) | exact Or.inr (Or.inr rfl))(hd:(x == ("__debug__" : Str))=false:=by decide)
  (hcd:(x == ("__classdict__" : Str))=false:=by decide):PE X (.Name x pos) (tF i):=xen hN hv hd hcd
end
theorem ou {A B:Prop}(h:B):if false=true then A else B:=by
 rw[if_neg xhr]
 exact h
theorem oH {A B:Prop}(h:A):if true=true then A else B:=by
 rw[if_pos rfl]
 exact h
theorem xgu {c A B:Prop}[Decidable c](h1:c→A)(h2:¬c→B):if c then A else B:=by
 by_cases h:c
 ·rw[if_pos h]
  exact h1 h
 ·rw[if_neg h]
  exact h2 h
end L2
namespace L2
open PySem PySem.Spec PyProof.Rows
def jr (env:Env):List (Str×NameKind)→List (Str×Addr)→List (Str×Addr)
 | [],cs=>cs
 | (n,k)::r,cs=>if k == NameKind.free then(match env.cells.lookup n with | some a=>jr env r ((n,a)::cs) | none=>jr env r cs) else jr env r cs
theorem nY {env:Env}:∀(l:List (Str×NameKind)) (cs:List (Str×Addr)),(∀y∈l,y.2=NameKind.free→∃c,env.cells.lookup y.1=some c) →
  (forIn l cs (fun(x:Str×NameKind) (r:List (Str×Addr))=>(if (x.2 == NameKind.free)=true then(do let a ←cellOf env x.1;pure (ForInStep.yield ((x.1,a)::r))) else pure (ForInStep.yield r):Sem (ForInStep (List (Str×Addr))))))=pure (jr env l cs)
 | [],cs,_=>rfl
 | (n,k)::r,cs,h=>by
  rw[List.forIn_cons]
  have hr:∀y∈r,y.2=NameKind.free→∃c,env.cells.lookup y.1=some c:=fun y hy=>h y (xiK _ hy)
  by_cases hk:k=NameKind.free
  ·subst hk
   obtain⟨c,hc⟩:=h (n,.free) xiL rfl
   have hc':env.cells.lookup n=some c:=hc
   have e1:cellOf env n=pure c:=by unfold cellOf;rw[hc']
   have e2:jr env ((n,.free)::r) cs=jr env r ((n,c)::cs):=by
    show(if (NameKind.free == NameKind.free)=true then _ else _)=_
    rw[if_pos (show(NameKind.free == NameKind.free)=true from rfl),hc']
   rw[e2,if_pos (show((NameKind.free == NameKind.free)=true) from rfl),e1,pure_bind,pure_bind]
   exact nY r _ hr
  ·have hb:(k == NameKind.free)=false:=by simpa using hk
   have e2:jr env ((n,k)::r) cs=jr env r cs:=by
    show(if (k == NameKind.free)=true then _ else _)=_
    rw[hb];rfl
   rw[e2,if_neg (by rw[hb];exact xhr),pure_bind]
   exact nY r _ hr
theorem aA {sc:Scope}{env:Env}(h:∀y∈sc.names,y.2=NameKind.free→∃c,env.cells.lookup y.1=some c):closureFor sc env=pure (jr env sc.names []):=by
 have q:=nY (env:=env) sc.names [] h
 unfold closureFor
 show(do let r ←forIn sc.names [] (fun(x:Str×NameKind) (r:List (Str×Addr))=>_);pure r)=_
 rw[show(forIn sc.names ([]:List (Str×Addr)) (fun(x:Str×NameKind) (r:List (Str×Addr))=>match x with
   | (name,kind)=>if (kind == NameKind.free)=true then(do let a ←cellOf env name;pure (ForInStep.yield ((name,a)::r))) else pure (ForInStep.yield r)):Sem (List (Str×Addr)))=pure (jr env sc.names []) from q]
 rfl
theorem uc {env:Env}{x:Str}{c:Addr}:∀(l:List (Str×NameKind)) (cs:List (Str×Addr)),(jr env l cs).lookup x=some c→(∀c,cs.lookup x=some c→env.cells.lookup x=some c)→env.cells.lookup x=some c
 | [],cs,h,hc=>hc c h
 | (n,k)::r,cs,h,hc=>by
  unfold jr at h
  split at h
  ·split at h
   ·rename_i a ha
    refine uc r _ h fun c' h'=>?_
    rw[xiA] at h'
    by_cases e:x == n
    ·rw[e] at h'
     have:x=n:=by simpa using e
     rw[this,ha];exact h'
    ·have e':(x == n)=false:=by simpa using e
     rw[e'] at h'
     exact hc c' h'
   ·exact uc r _ h hc
  ·exact uc r _ h hc
theorem k9 {env:Env}{x:Str}{c:Addr}(he:env.cells.lookup x=some c):∀(l:List (Str×NameKind)) (cs:List (Str×Addr)),cs.lookup x=some c→(jr env l cs).lookup x=some c
 | [],cs,h=>h
 | (n,k)::r,cs,h=>by
  unfold jr
  split
  ·split
   ·rename_i a ha
    refine k9 he r _ ?_
    rw[xiA]
    by_cases e:x == n
    ·rw[e]
     have e':x=n:=by simpa using e
     rw[e',ha] at he
     exact he
    ·have e':(x == n)=false:=by simpa using e
     rw[e']
     exact h
   ·exact k9 he r _ h
  ·exact k9 he r _ h
theorem qQ {env:Env}{x:Str}{c:Addr}(he:env.cells.lookup x=some c):∀(l:List (Str×NameKind)) (cs:List (Str×Addr)),(x,NameKind.free)∈l→(jr env l cs).lookup x=some c
 | (n,k)::r,cs,h=>by
  rcases xiJ.mp h with e | e
  ·have e1:n=x:=xjq (·.1) e.symm
   have e2:k=.free:=xjq (·.2) e.symm
   subst e1 e2
   unfold jr
   rw[if_pos (show(NameKind.free == NameKind.free)=true from rfl),he]
   exact k9 he r _ (by rw[xiA];simp)
  ·unfold jr
   split
   ·split
    ·exact qQ he r _ e
    ·exact qQ he r _ e
   ·exact qQ he r _ e
def yf (X:Cx)(sc:Scope)(N:List Str)(C:Addr)(s:Shared)(H:Hp)(ex:List Addr):Cx :=
 { X with N:=N,s₀:=s,H₀:=H,env:=compEnvC sc (jr X.env sc.names []) C X.env,outer:=X.stack,stack:=X.stack,ex:=ex,fn:=fun _=>false,pn:=[],xe:=fun _ _=>False }
def xaL (XN:List Str)(xs sc:Scope)(N:List Str)(tau:List (Option Nat)):Bool :=
 decide (sc.kind=.function)&&sc.names.all (fun y=>decide (y.2≠.cell))&&sc.names.all (fun y=>decide (y.2≠.local) || decide (sc.names.lookup y.1=some .local))&&decide N.Nodup&&decide (tau.length=N.length) &&
 (tau.zip N).all (fun p=>match p.1 with | none=>true | some j=>decide (XN[j]? = some p.2)&&decide (sc.names.lookup p.2=some .free)) &&
 sc.names.all (fun y=>decide (y.2≠.free) || decide (xs.names.lookup y.1=some .cell) || decide (xs.names.lookup y.1=some .free))&&decide (xs.kind=.function)
structure vd (X:Cx)(sc:Scope)(N:List Str)(tau:List (Option Nat)):Prop where
 kind:sc.kind=.function
 nocell:∀y∈sc.names,y.2≠.cell
 loc:∀y∈sc.names,y.2=.local→sc.names.lookup y.1=some .local
 nd:N.Nodup
 len:tau.length=N.length
 out:∀(i j:Nat) (x:Str),tau[i]? = some (some j)→N[i]? = some x→X.N[j]? = some x∧sc.names.lookup x=some .free
 fr:∀y∈sc.names,y.2=.free→X.env.scope.names.lookup y.1=some .cell∨X.env.scope.names.lookup y.1=some .free
 okind:X.env.scope.kind=.function
theorem zip_get {α β:Type}:∀ {l:List α} {k:List β} {i:Nat} {a:α} {b:β},l[i]? = some a→k[i]? = some b→(a,b)∈l.zip k
 | [],_,_,_,_,h,_=>by simp at h
 | _::_,[],_,_,_,_,h=>by simp at h
 | x::l,y::k,0,a,b,h1,h2=>by simp at h1 h2;subst h1;subst h2;simp
 | x::l,y::k,i+1,a,b,h1,h2=>by
  have:=zip_get (l:=l) (k:=k) (i:=i) (by simpa using h1) (by simpa using h2)
  rw[xja]
  exact xiK _ this
theorem yi {X:Cx}{sc:Scope}{N XN:List Str}{xs:Scope}{tau:List (Option Nat)}(h:xaL XN xs sc N tau=true)(h1:X.N=XN)(h2:X.env.scope=xs):vd X sc N tau:=by
 subst h1 h2
 unfold xaL at h
 simp only[xhq,xh4,xjt,Bool.or_eq_true] at h
 obtain⟨⟨⟨⟨⟨⟨⟨k,c⟩,l⟩,nd⟩,len⟩,out⟩,fr⟩,ok⟩:=h
 refine⟨k,c,fun y hy e=>(l y hy).resolve_left (fun z=>z e),nd,len,fun i j x e1 e2=>?_,fun y hy e=>?_,ok⟩
 ·have:=out _ (zip_get e1 e2)
  simpa using this
 ·rcases fr y hy with (z | z) | z
  ·exact absurd e z
  ·exact .inl z
  ·exact .inr z
def q8 (tau:List (Option Nat))(σ:St):St:=tau.map fun o=>match o with | some j=>(σ[j]?).getD none | none=>none
theorem qo {sc:Scope}{env:Env}:∀ {l:List (Str×NameKind)} {x:Str} {k:NameKind},
  (l.map fun(n,k)=>if (k == NameKind.free&&env.scope.kind == .function&&env.kindOf n == some .cell) then(n,NameKind.cell) else(n,k)).lookup x=some k→((∀y∈l,y.2≠NameKind.cell)→k≠.local→(x,NameKind.free)∈l∨l.lookup x=some k∧k≠.cell)
 | [],x,k,h=>by simp at h
 | (n,k')::r,x,k,h=>by
  intro nc nl
  have ih:=@qo sc env r x k
  have h:List.lookup x ((if (k' == NameKind.free&&env.scope.kind == .function&&env.kindOf n == some .cell)=true then(n,NameKind.cell) else(n,k'))::(r.map _))=some k:=h
  by_cases hx:x=n
  ·subst hx
   by_cases hc:(k' == NameKind.free&&env.scope.kind == .function&&env.kindOf x == some .cell)=true
   ·left
    have:k'=.free:=by
     simp only[xhq] at hc
     simpa using hc.1.1
    subst this
    exact xiL
   ·rw[if_neg hc,xiA] at h
    simp at h
    subst h
    right
    exact⟨by rw[xiA];simp,nc (x,k') xiL⟩
  ·have e:(x == n)=false:=by simpa using hx
   have h':List.lookup x (r.map fun(n,k)=>if (k == NameKind.free&&env.scope.kind == .function&&env.kindOf n == some .cell) then(n,NameKind.cell) else(n,k))=some k:=by
    split at h
    ·rw[xiA,e] at h;exact h
    ·rw[xiA,e] at h;exact h
   rcases ih h' (fun y hy=>nc y (xiK _ hy)) nl with z | ⟨z,w⟩
   ·exact .inl (xiK _ z)
   ·exact .inr ⟨by rw[xiA,e];exact z,w⟩
section
variable {X:Cx} {sc:Scope} {N:List Str} {tau:List (Option Nat)} {pins:List (Addr×Obj)} {σ:St} {H:Hp} {s:Shared}
theorem vd.cells (k:vd X sc N tau)(ok:X.Ok):∀y∈sc.names,y.2=NameKind.free→∃c,X.env.cells.lookup y.1=some c:=fun y hy e=>ok.has y.1 (k.fr y hy e)
theorem vd.vis (k:vd X sc N tau){x:Str}(h:(relabel sc X.env).names.lookup x=some .cell∨(relabel sc X.env).names.lookup x=some .free):(x,NameKind.free)∈sc.names:=by
 rcases h with h | h
 ·rcases qo (sc:=sc) (env:=X.env) (l:=sc.names) h k.nocell (by decide) with z | ⟨_,z⟩
  ·exact z
  ·exact absurd rfl z
 ·rcases qo (sc:=sc) (env:=X.env) (l:=sc.names) h k.nocell (by decide) with z | ⟨z,_⟩
  ·exact z
  ·exact PySem.mem_of_lookup z
theorem be (k:vd X sc N tau)(I:Inv X pins σ H s){fp:List Addr}(hf:∀b∈fp,dD X pins H b)(hob:∀b∈fp,∃o,s.heap.get? b=some o) :
  (yf X sc N (s.heap.objs.size+1) s H fp).Ok where
 mod:=I.ok.mod
 kind:=k.kind
 glob:=I.ok.glob
 blt:=I.ok.blt
 above:=xje _
 inj:=fun x y c h1 h2=>I.ok.inj x y c (uc _ _ h1 fun _ z=>by simp at z) (uc _ _ h2 fun _ z=>by simp at z)
 has:=fun x h=>by
  have m:=k.vis h
  obtain⟨c,e⟩:=k.cells I.ok _ m rfl
  exact⟨c,qQ e _ _ m⟩
 cab:=fun x c h=>by cases h
 hd:=I.ok.hd
 frames:=I.ok.frames
 stk:=.inl rfl
 exf:=fun b hb=>⟨fun z=>by
  obtain⟨o,e⟩:=hob b hb
  have l:=Heap.lt_size e
  have z':b=s.heap.objs.size+1:=z
  rw[z'] at l
  exact xjg _ (Nat.lt_of_succ_lt l),fun x c h=>(hf b hb).2.2.2.2.1 x c (uc _ _ h fun _ z=>by simp at z)⟩
 bs:=I.bs
 bsz:=xjf I.ok.bsz I.sz
 noex:=fun b o e hb=>by
  rcases(hf b hb).2.2.2.1 with z | z
  ·exact I.ok.noex b o e z
  ·exact absurd (xji (Heap.lt_size (I.ok.bs b o e).1) z) (xjg _)
 exfs:=fun b hb z=>by
  rcases xiJ.mp (I.stkSub b z) with e | e
  ·exact(hf b hb).2.1 e
  ·exact(hf b hb).2.2.1 e
 funs:=I.stack
 frf:=I.stkFree
theorem vB {i:Nat}{v:V}(h:(q8 tau σ)[i]? = some (some v)):∃j,tau[i]? = some (some j)∧σ[j]? = some (some v):=by
 unfold q8 at h
 rw[xil] at h
 cases e:tau[i]? with
 | none=>rw[e] at h;cases h
 | some o =>
  rw[e] at h
  cases o with
  | none=>cases h
  | some j =>
   have h':(σ[j]?).getD none=some v:=by simpa using h
   refine⟨j,rfl,?_⟩
   cases q:σ[j]? with
   | none=>rw[q] at h';cases h'
   | some o'=>rw[q] at h';exact xjq some h'
theorem cJ (k:vd X sc N tau)(I:Inv X pins σ H s){fp:List Addr}(hf:∀b∈fp,dD X pins H b)(hob:∀b∈fp,∃o,s.heap.get? b=some o){h1:Heap}{t':Nat}
  (kp:∀b o,s.heap.get? b=some o→h1.get? b=some o) (hn:h1.Ns (s.heap.objs.size+1) (fun _=>none)) (hD:h1.get? s.heap.objs.size=some { cls:=.type "list", data:=.seq #[] 0 }) :
  Inv (yf X sc N (s.heap.objs.size+1) s H fp) [(s.heap.objs.size,{ cls:=.type "list", data:=.seq #[] 0 })] (q8 tau σ) H { s with heap:=h1,toks:=t' } where
 ok:=be k I hf hob
 os:=rfl
 bare:=I.bare
 base:=Un.kept kp
 loc:=⟨_,hn,fun i x v e1 e2 e3=>by
  obtain⟨j,t1,t2⟩:=vB e2
  obtain⟨o1,o2⟩:=k.out i j x t1 e1
  have m:(x,NameKind.free)∈sc.names:=PySem.mem_of_lookup o2
  have hk:=k.fr _ m rfl
  obtain⟨mm,hn',hl⟩:=I.loc
  obtain⟨u,r,l⟩:=hl j x v o1 t2 (hk.elim (fun z=>.inr (.inl z)) fun z=>.inr (.inr z))
  refine⟨u,r,.inr ⟨?_,?_⟩⟩
  ·rcases e3 with z | z | z
   ·exfalso
    have:∀ {l:List (Str×NameKind)},l.lookup x=some .free→(l.map fun(n,k)=>if (k == NameKind.free&&X.env.scope.kind == .function&&X.env.kindOf n == some .cell) then(n,NameKind.cell) else(n,k)).lookup x≠some .local:=by
     intro l
     induction l with
     | nil=>intro h;simp at h
     | cons y r ih =>
      obtain⟨n,k'⟩:=y
      intro h q
      have q:List.lookup x ((if (k' == NameKind.free&&X.env.scope.kind == .function&&X.env.kindOf n == some .cell)=true then(n,NameKind.cell) else(n,k'))::(r.map _))=some .local:=q
      by_cases hx:x=n
      ·subst hx
       rw[xiA] at h
       simp at h
       subst h
       split at q
       ·rw[xiA] at q;simp at q
       ·rw[xiA] at q;simp at q
      ·have e:(x == n)=false:=by simpa using hx
       rw[xiA,e] at h
       refine ih h ?_
       split at q
       ·rw[xiA,e] at q;exact q
       ·rw[xiA,e] at q;exact q
    exact this o2 z
   ·exact .inl z
   ·exact .inr z
  ·rcases l with ⟨z,_⟩ | ⟨_,c,ec,hc⟩
   ·exfalso
    have z:X.env.scope.names.lookup x=some .local:=z
    rcases hk with q | q<;>rw[z] at q<;>cases q
   ·obtain⟨o,ho,hd⟩:=hc
    exact⟨c,qQ ec _ _ m,o,kp c o ho,hd⟩⟩
 cell:=fun x c h=>by
  obtain⟨v,o,ho,hd⟩:=I.cell x c (uc _ _ h fun _ z=>by simp at z)
  exact⟨v,o,kp c o ho,hd⟩
 free:=I.hok.fresh (xje _)
 freeC:=fun x c h=>I.freeC x c (uc _ _ h fun _ z=>by simp at z)
 pin:=fun p hp=>by
  have e:p=(s.heap.objs.size,{ cls:=.type "list", data:=.seq #[] 0 }):=by simpa [yf] using hp
  subst e
  refine⟨hD,I.hok.fresh (xjd _),xjn (xjk _),fun z=>?_,fun v=>by simp⟩
  rcases xiJ.mp (I.stkSub _ z) with e | e
  ·exact absurd (e▸I.lt) (xjg _)
  ·exact I.nofs (xjd _) e
 hok:=I.hok.kept kp
 len:=by
  show(q8 tau σ).length=N.length
  unfold q8
  rw[xit]
  exact k.len
end
end L2
namespace L2
open PySem PySem.Spec PyProof.Rows
theorem j0 {prog:Program}{w:World}{A:Around}{R:Result→Shared→Prop}{s:Shared}{elt target iter:Expr}{ifs:List Expr}{scope:Scope}{pos:Pos}{it acc:Value}{env:Env}(I:Nat→Shared→Prop)
  (turn:∀n s,I n s→wpAny (model prog w) A (pyNext it) (fun r s₁=>match r with
   | none=>R (.ok .next) s₁
   | some v=>wpAny (model prog w) A (letOwnedTupleGo target it v) (fun _ s₀=>wpAny (model prog w) A (assign target env v) (fun _ s₂ =>
     wpAny (model prog w) A (forIn ifs true fun c r=>if r=true then do let ok ←isTrue c env (eval c env);pure (ForInStep.yield ok) else pure (ForInStep.yield r)) (fun ok s₃ =>
      if ok=true then wpAny (model prog w) A (eval elt env) (fun x s₄ =>
       wpAny (model prog w) A (call (.builtin "list.append") [acc,x]) (fun _ s₅=>∃m,m<n∧I m s₅) (notedBy (model prog w) A env fun e s'=>R (.error e) s') s₄) (notedBy (model prog w) A env fun e s'=>R (.error e) s') s₃
      else ∃m,m<n∧I m s₃) (notedBy (model prog w) A env fun e s'=>R (.error e) s') s₂) (notedBy (model prog w) A env fun e s'=>R (.error e) s') s₀) (notedBy (model prog w) A env fun e s'=>R (.error e) s') s₁) (notedBy (model prog w) A env fun e s'=>R (.error e) s') s)
  (n:Nat) (h:I n s) :
  codeAny (model prog w) A (.compLoop (.ListComp elt [⟨target,iter,ifs,0⟩] scope pos) 0 it acc env) R s:=by
 refine codeAny_loop rfl I (fun n s hI=>?_) n h
 show wpAny _ A ((compTurn (.ListComp elt [⟨target,iter,ifs,0⟩] scope pos) 0 it acc env).onRaise (fun x=>do noteFrame x env;theTreesLotGoes x)) _ _ s
 refine wpAny_noted ?_
 rw[compTurn_list]
 refine wpAny_bind (wpAny_standAt (wpAny_bind (wpAny_mono (turn n s hI) (fun r s₁ h₁=>?_) fun _ _ h'=>h')))
 cases r with
 | none=>exact wpAny_pure h₁
 | some v =>
  refine wpAny_bind (wpAny_mono h₁ (fun _ s₀ h₀=>?_) fun _ _ h'=>h')
  refine wpAny_bind (wpAny_mono h₀ (fun _ s₂ h₂=>wpAny_bind (wpAny_mono h₂ (fun ok s₃ h₃=>?_) fun _ _ h'=>h')) fun _ _ h'=>h')
  cases ok with
  | false=>exact wpAny_pure ⟨rfl,h₃⟩
  | true =>
   exact wpAny_bind (wpAny_bind (wpAny_mono h₃ (fun x s₄ h₄=>wpAny_bind (wpAny_mono h₄ (fun _ s₅ h₅=>wpAny_pure (wpAny_pure ⟨rfl,h₅⟩)) fun _ _ h'=>h')) fun _ _ h'=>h'))
def PIf (Y:Cx)(ifs:List Expr)(t:TT):Prop :=
 ∀(pins:List (Addr×Obj)) (s:Shared) (σ:St) (H:Hp) (Q:Bool→Hp→Prop),Inv Y pins σ H s→t σ H Q →
  wpAny (model Y.prog Y.w) Y.A (forIn ifs true fun c r=>if r=true then do let ok ←isTrue c Y.env (eval c Y.env);pure (ForInStep.yield ok) else pure (ForInStep.yield r)) (TP Y pins σ Q) Y.xe s
def xe6:TT:=fun _ H Q=>Q true H
theorem yR {Y:Cx}:PIf Y [] xe6:=fun pins s σ H Q I h=>wpAny_tests_nil ⟨H,I,h⟩
theorem aV {Y:Cx}{c:Expr}{t:TT}(h:PT Y c t):PIf Y [c] t:=fun pins s σ H Q I q=>wpAny_tests_one (@h pins s σ H Q I q)
def Agree (tau:List (Option Nat))(σ σ2:St):Prop:=∀i j:Nat,tau[i]? = some (some j)→σ2[i]? = σ[i]?
def GA (tau:List (Option Nat))(g:TG):Prop:=∀x σ H Q,g x σ H Q→g x σ H (fun σ2 H2=>Q σ2 H2∧Agree tau σ σ2)
def GAs (tau:List (Option Nat))(t:TGs):Prop:=∀xs σ H Q,t xs σ H Q→t xs σ H (fun σ2 H2=>Q σ2 H2∧Agree tau σ σ2)
theorem zm {tau:List (Option Nat)}{i:Nat}(h:tau[i]? = some none):GA tau (jt i):=fun x σ H Q q=>⟨q,fun k j e=>by
 rw[xin]
 rintro rfl
 rw[h] at e;cases e⟩
theorem qr {tau:List (Option Nat)}:GAs tau xfo:=fun xs σ H Q q=>⟨q.1,q.2,fun _ _ _=>rfl⟩
theorem wN {K:PySem.W.Frag}{n:Nat}{t:TGs}{tau:List (Option Nat)}(h:GAs tau t):GA tau (xeb K n t):=fun x σ H Q q=>by
 obtain⟨a,xs,e,sq,l,r⟩:=q
 exact⟨a,xs,e,sq,l,h _ _ _ _ r⟩
theorem yO {tau:List (Option Nat)}{i:Nat}{u:TGs}(h:tau[i]? = some none)(hu:GAs tau u):GAs tau (xbc (jt i) u):=fun xs σ H Q q=>by
 obtain⟨v,r,e,q⟩:=q
 refine⟨v,r,e,?_⟩
 have q':u r (σ.set i (some v)) H Q:=q
 show u r (σ.set i (some v)) H _
 have:=hu _ _ _ _ q'
 have e2:(fun σ2 H2=>Q σ2 H2∧Agree tau (σ.set i (some v)) σ2)=(fun σ2 H2=>Q σ2 H2∧Agree tau σ σ2):=by
  funext σ2 H2
  have:Agree tau (σ.set i (some v)) σ2↔Agree tau σ σ2:=by
   have key:∀(k j:Nat),tau[k]? = some (some j)→(σ.set i (some v))[k]? = σ[k]?:=fun k j e=>by
    rw[xin]
    rintro rfl
    rw[h] at e;cases e
   constructor
   ·intro z k j e;rw[z k j e,key k j e]
   ·intro z k j e;rw[z k j e,key k j e]
  exact propext (and_congr_right fun _=>this)
 rw[←e2]
 exact this
def xbi (wi:TI)(tau:List (Option Nat))(g:TG)(tc:TT)(te:TE):TE:=fun σ H Q=>wi σ H fun J H1 =>
 ∃W:Nat→Nat→List V→Hp→Prop,(∃m,W 0 m [] H1)∧∀i m ys H,W i m ys H →
  (J.stop i H∧∀p,H p=none→Q (.ref p) (upd H p (.lst ys))) ∨
  (J.go i H∧ys.length<sizeLine∧∀x H',J.yld i H x H'→g x (q8 tau σ) H' fun σ2 H2=>tc σ2 H2 fun b H3=>if b=true then te σ2 H3 fun y H4=>∃m',m' < m∧W (i+1) m' (ys++[y]) H4 else ∃m',m' < m∧W (i+1) m' ys H3)
section
variable {X:Cx} {sc:Scope} {N:List Str} {tau:List (Option Nat)} {pins:List (Addr×Obj)} {σ:St} {H:Hp} {s:Shared}
theorem aL (k:vd X sc N tau)(I:Inv X pins σ H s){fp:List Addr}(hf:∀b∈fp,dD X pins H b){σ':St}{H':Hp}{s':Shared}{its:List Value}{n:Nat}{ys:List V}
  (J:Inv (yf X sc N (s.heap.objs.size+1) s H fp) [(s.heap.objs.size,{ cls:=.type "list", data:=.seq its.toArray n })] σ' H' s') (rv:zh ys its) (hz:ys.length≤sizeLine) :
  Inv X pins σ (upd H' s.heap.objs.size (.lst ys)) s'∧H' s.heap.objs.size=none∧(upd H' s.heap.objs.size (.lst ys)) (s.heap.objs.size+1)=none:=by
 obtain⟨pD,nD,_,_,_⟩:=J.pin (s.heap.objs.size,{ cls:=.type "list", data:=.seq its.toArray n }) (by simp[yf])
 have nC:H' (s.heap.objs.size+1)=none:=J.free
 have B:Un (frs X.stack) fp H H' s.heap s'.heap:=J.base
 have ltD:∀b o,s.heap.get? b=some o→b≠s.heap.objs.size:=fun b o e=>xjn (Heap.lt_size e)
 refine⟨I.call' (ch:=fp) J.os ⟨B.keep,B.slot,fun b o e n hx=>?_,B.there,fun b xs e=>?_,fun b o u e=>?_,fun b ps e=>?_⟩ (fun b u e=>?_) J.bare (fun b hb=>?_),nD,?_⟩
 ·rw[xU (ltD b o e)];exact B.free b o e n hx
 ·have q:=B.tups b xs e
  rw[xU (xE q nD)];exact q
 ·have q:=B.frzs b o u e
  rw[xU (xE q nD)];exact q
 ·obtain⟨more,q⟩:=B.tbls b ps e
  exact⟨more,by rw[xU (xE q nD)];exact q⟩
 ·by_cases hb:b=s.heap.objs.size
  ·subst hb
   rw[yk] at e
   cases e
   exact⟨hz,its,n,rv,pD⟩
  ·rw[xU hb] at e
   exact(J.hok b u e).stay (fun c v _ q=>q) (fun c q=>by rw[xU (xE q nD)];exact q) (fun c xs q=>by rw[xU (xE q nD)];exact q) fun c o u q=>by rw[xU (xE q nD)];exact q
 ·obtain⟨_,f1,_,f3,f4,f5⟩:=hf b hb
  exact⟨f3,f1,f4,f5⟩
 ·rw[xU (xjm (xjk _))];exact nC
theorem kZ (I0:Inv X pins σ H s){σ':St}{H':Hp}{s':Shared}{h':Heap}(I:Inv X pins σ' H' s')(hC:H' (s.heap.objs.size+1)=none)(hs:Heap.SameBut (s.heap.objs.size+1) s'.heap h') :
  Inv X pins σ' H' { s' with heap:=h' }:=by
 have lt:∀b o,s.heap.get? b=some o→b≠s.heap.objs.size+1:=fun b o e=>xjn (xjj (Heap.lt_size e))
 refine I.turned (t':=s'.toks) (it:=s.heap.objs.size+1) (fun b o hb e=>(hs.2 b hb).trans e) hC ?_ (.inr (xjf I0.sz (xje _))) (fun x c e=>?_) (fun p hp=>?_)
 ·exact xjm (xjj I0.lt)
 ·obtain⟨v,o,ho,_⟩:=I0.cell x c e
  exact lt c o ho
 ·exact lt _ _ (I0.pin p hp).1
theorem sI {elt tg iter:Expr}{ifs:List Expr}{g:TG}{tc:TT}{te:TE}{pos:Pos}(k:vd X sc N tau)(hc:X.calm=true)(I:Inv X pins σ H s){it:Addr}{fp:List Addr}{tn:Nat→Heap→Prop}{J:It}
  (T:Turn X.prog X.w X.K tg J fp it tn) (st0:tn 0 s.heap) (hf:∀b∈fp,dD X pins H b) (hga:GA tau g)
  (hg:∀C s H ex,PG (yf X sc N C s H ex) tg g) (ht:∀C s H ex,PIf (yf X sc N C s H ex) ifs tc) (he:∀C s H ex,PE (yf X sc N C s H ex) elt te)
  {W:Nat→Nat→List V→Hp→Prop} {Z:List V→Hp→Prop} (w0:∃m,W 0 m [] H) (turn:∀i m ys H,W i m ys H →
   (J.stop i H∧Z ys H) ∨
   (J.go i H∧ys.length<sizeLine∧∀x H',J.yld i H x H'→g x (q8 tau σ) H' fun σ2 H2=>tc σ2 H2 fun b H3=>if b=true then te σ2 H3 fun y H4=>∃m',m' < m∧W (i+1) m' (ys++[y]) H4 else ∃m',m' < m∧W (i+1) m' ys H3))
  {E:Value→Shared→Prop} {RR:Value→Addr→Result→Shared→Prop}
  (fin:∀ σ' H' s' ys its n,Inv (yf X sc N (s.heap.objs.size+1) s H fp) [(s.heap.objs.size,{ cls:=.type "list", data:=.seq its.toArray n })] σ' H' s'→zh ys its→ys.length≤sizeLine→Z ys H'→RR (.ref s.heap.objs.size) (s.heap.objs.size+1) (.ok .next) s') :
  wpAny (model X.prog X.w) X.A (newList []) (fun acc s₃=>wpAny (model X.prog X.w) X.A (newFunctionEnv sc X.env.globals (jr X.env sc.names []) [] X.env.qual none .none (some X.env)) (fun cenv s₄ =>
   codeAny (model X.prog X.w) X.A (.compStart (.ListComp elt [⟨tg,iter,ifs,0⟩] sc pos) 0 (.ref it) acc { cenv with scope:=relabel sc X.env }) (RR acc cenv.locals) s₄) E s₃) E s:=by
 have hob:∀b∈fp,∃o,s.heap.get? b=some o:=fun b hb=>let ⟨o,e,_⟩:=T.obj _ _ st0 b hb;⟨o,e⟩
 refine wpAny_newObj_type (wpAny_newFunctionEnv k.nocell (by intro y hy;simp at hy) (fun h₁ hns₁ hsb₁=>?_) k.kind)
 dsimp only at hns₁ hsb₁ ⊢
 generalize hH2:s.heap.push { cls:=.type "list", dict:=none,data:=.seq ([]:List Value).toArray }=H2 at hns₁ hsb₁ ⊢
 have hC:H2.objs.size=s.heap.objs.size+1:=by rw[←hH2,Heap.size_push]
 have old:∀b o,s.heap.get? b=some o→h₁.get? b=some o:=fun b o e=>hsb₁.extBut b o (by rw[hC];exact xjn (xjj (Heap.lt_size e))) (Heap.get?_push_of_some _ (hH2▸Heap.get?_push_of_some _ e))
 have hacc:h₁.get? s.heap.objs.size=some { cls:=.type "list", data:=.seq #[] 0 }:=hsb₁.extBut _ _ (by rw[hC];exact xjn (xjk _)) (Heap.get?_push_of_some _ (hH2▸Heap.get?_push_size _ rfl))
 rw[hC] at hns₁ ⊢
 have I1:Inv (yf X sc N (s.heap.objs.size+1) s H fp) [(s.heap.objs.size,{ cls:=.type "list", data:=.seq #[] 0 })] (q8 tau σ) H { s with heap:=h₁,toks:=s.toks+([]:List (Str×Value)).length } :=
  cJ k I hf hob old hns₁ hacc
 have st1:tn 0 h₁:=T.keep _ _ _ st0 fun b _ o e=>old b o e
 have ltD:∀b∈fp,b≠s.heap.objs.size:=fun b hb=>by
  obtain⟨o,e⟩:=hob b hb
  exact xjn (Heap.lt_size e)
 have ltC:∀b∈fp,b≠s.heap.objs.size+1:=fun b hb=>by
  obtain⟨o,e⟩:=hob b hb
  exact xjn (xjj (Heap.lt_size e))
 have stat:∀ {H':Hp} {its:List Value} {n:Nat},(∀b∈fp,H' b=none)→∀b∈fp,dD (yf X sc N (s.heap.objs.size+1) s H fp) [(s.heap.objs.size,{ cls:=.type "list", data:=.seq its.toArray n })] H' b:=fun {H' its n} hn b hb=>by
  have cx:=be (N:=N) k I hf hob
  refine⟨hn b hb,ltC b hb,cx.exfs b hb,.inl hb,(cx.exf b hb).2,fun p hp=>?_⟩
  have e:p=(s.heap.objs.size,{ cls:=.type "list", data:=.seq its.toArray n }):=by simpa [yf] using hp
  subst e
  exact Ne.symm (ltD b hb)
 obtain⟨m0,w0⟩:=w0
 have loop:codeAny (model X.prog X.w) X.A (.compLoop (.ListComp elt [⟨tg,iter,ifs,0⟩] sc pos) 0 (.ref it) (.ref s.heap.objs.size) (compEnvC sc (jr X.env sc.names []) (s.heap.objs.size+1) X.env)) (RR (.ref s.heap.objs.size) (s.heap.objs.size+1)) { s with heap:=h₁,toks:=s.toks+([]:List (Str×Value)).length }:=by
  refine j0 (fun m s'=>∃i ys H' its n,Inv (yf X sc N (s.heap.objs.size+1) s H fp) [(s.heap.objs.size,{ cls:=.type "list", data:=.seq its.toArray n })] (q8 tau σ) H' s'∧zh ys its∧ys.length≤sizeLine∧tn i s'.heap∧(∀b∈fp,H' b=none)∧W i m ys H') ?_ m0
   ⟨0,[],H,[],0,I1,.nil,xjo _,st1,fun b hb=>(hf b hb).1,w0⟩
  rintro m s3 ⟨i,ys,H3,its,n,I3,rv,hz,st3,fr3,w3⟩
  rcases turn i m ys H3 w3 with ⟨stop,z⟩ | ⟨go,hlt,step⟩
  ·refine wpAny_mono (T.done (yf X sc N (s.heap.objs.size+1) s H fp) rfl rfl rfl hc i _ s3 _ H3 (fun _ _=>False) I3 (stat fr3) st3 stop) (fun r s4 ⟨hr,I4⟩=>?_) fun _ _ f=>f.elim
   subst hr
   exact fin _ _ _ _ _ _ I4 rv hz z
  ·refine wpAny_mono (T.item (yf X sc N (s.heap.objs.size+1) s H fp) rfl rfl rfl hc i _ s3 _ H3 (fun _ _=>False) I3 (stat fr3) st3 go) (fun r s4 ⟨u,hr,h4⟩=>?_) fun _ _ f=>f.elim
   subst hr
   refine wpAny_mono h4 (fun _ s5 ⟨x,H5,I5,r5,y5,st5,fr5⟩=>?_) fun _ _ f=>f.elim
   have I5':=I5.pinned (stat fr5) (T.obj _ _ st5)
   refine wpAny_mono (hg _ _ _ _ _ s5 _ H5 x u _ I5' r5 (hga _ _ _ _ (step x H5 y5))) (fun _ s6 ⟨σ6,H6,I6,q6,ag⟩=>?_) fun _ _ f=>f.elim
   refine wpAny_mono (ht _ _ _ _ _ s6 σ6 H6 _ I6 q6) (fun b s7 ⟨H7,I7,q7⟩=>?_) fun _ _ f=>f.elim
   have back:∀ {H8:Hp} {s8:Shared},Inv (yf X sc N (s.heap.objs.size+1) s H fp) ([(s.heap.objs.size,{ cls:=.type "list", data:=.seq its.toArray n })]++uP fp s5.heap) σ6 H8 s8 →
     Inv (yf X sc N (s.heap.objs.size+1) s H fp) [(s.heap.objs.size,{ cls:=.type "list", data:=.seq its.toArray n })] (q8 tau σ) H8 s8∧tn (i+1) s8.heap∧∀b∈fp,H8 b=none:=fun {H8 s8} I8=>by
    refine⟨I8.unpinned.weak (I1.len.trans I8.len.symm) fun j v e=>?_,T.keep _ _ _ st5 fun b hb o e=>(I8.pin (b,o) (xiI _ (xiI _ (zi hb e)))).1,fun b hb=>?_⟩
    ·obtain⟨j',t1,_⟩:=vB e
     rw[ag j j' t1];exact e
    ·obtain⟨o,e,d⟩:=T.obj _ _ st5 b hb
     exact(I8.pin (b,o) (xiI _ (xiI _ (zi hb e)))).2.1
   cases b with
   | false =>
    obtain⟨m',hm,w7⟩:=q7
    obtain⟨I8,st8,fr8⟩:=back I7
    rw[if_neg xhr]
    exact⟨m',hm,i+1,ys,H7,its,n,I8,rv,hz,st8,fr8,w7⟩
   | true =>
    rw[if_pos rfl]
    refine wpAny_mono (he _ _ _ _ s7 σ6 H7 _ I7 q7) (fun y s8 ⟨yv,H8,I8,r8,m',hm,w8⟩=>?_) fun _ _ f=>f.elim
    obtain⟨I9,st9,fr9⟩:=back I8
    obtain⟨pD,nD,dL,dF,dC⟩:=I9.pin (s.heap.objs.size,{ cls:=.type "list", data:=.seq its.toArray n }) (by simp[yf])
    refine call_meets F.slot_list_append ⟨_,pD,rfl⟩ F.entry_list_append (F.args_list_append_2 _ _) (PySem.list_append s.heap.objs.size its.toArray n y (by rw[xi3,←rv.length];exact hz)) ⟨pD,?_⟩
    have q:=PySem.IsL.update pD (fun x=>x.push y)
    obtain⟨n',q'⟩:∃n',(s8.heap.update s.heap.objs.size (Obj.mapSeq fun x=>x.push y)).get? s.heap.objs.size=some { cls:=.type "list", data:=.seq (its++[y]).toArray n' }:=⟨_,by
     rw[show(its++[y]).toArray=its.toArray.push y by simp];exact q⟩
    have kp:∀b o,b≠s.heap.objs.size→s8.heap.get? b=some o→(s8.heap.update s.heap.objs.size (Obj.mapSeq fun x=>x.push y)).get? b=some o:=fun b o hb e=>(Heap.get?_update_other s8.heap _ (Ne.symm hb)).trans e
    have I10:Inv (yf X sc N (s.heap.objs.size+1) s H fp) [] (q8 tau σ) H8 s8:=I9.pins_of fun p hp=>absurd hp (by simp)
    have I11:Inv (yf X sc N (s.heap.objs.size+1) s H fp) [] (q8 tau σ) H8 { s8 with heap:=s8.heap.update s.heap.objs.size (Obj.mapSeq fun x=>x.push y),toks:=s8.toks } :=
     I10.turned (it:=s.heap.objs.size) (t':=s8.toks) kp nD dL (.inr (xjd _)) (fun x c e z=>by
      obtain⟨v,o,ho,hd⟩:=I10.cell x c e
      rw[z,pD] at ho
      cases ho
      cases hd) (fun p hp=>absurd hp (by simp[yf]))
    refine⟨m',hm,i+1,ys++[yv],H8,its++[y],n',I11.pins_of fun p hp=>?_,rv.append (.cons r8 .nil),?_,T.keep _ _ _ st9 fun b hb o e=>kp b o (ltD b hb) e,fr9,w8⟩
    ·have e:p=(s.heap.objs.size,{ cls:=.type "list", data:=.seq (its++[y]).toArray n' }):=by simpa using hp
     subst e
     exact⟨q',nD,dL,dF,fun v=>by simp⟩
    ·rw[xiq,xix];exact hlt
 exact codeAny_compStart_list loop (T.self _ 0 _ _ _ st1 loop)
theorem zL {elt tg iter:Expr}{ifs:List Expr}{wi:TI}{g:TG}{tc:TT}{te:TE}{pos:Pos}(k:vd X sc N tau)(hc:X.calm=true)(hga:GA tau g)(hi:PI X tg iter wi)
  (hg:∀C s H ex,PG (yf X sc N C s H ex) tg g) (ht:∀C s H ex,PIf (yf X sc N C s H ex) ifs tc) (he:∀C s H ex,PE (yf X sc N C s H ex) elt te)
  (hs:∀x,foldedSetIterable iter X.env x=pure x:=by intro _;rfl):PE X (.ListComp elt [⟨tg,iter,ifs,0⟩] sc pos) (xbi wi tau g tc te):=by
 intro pins s σ H Q I h
 rw[eval_ListComp]
 refine wpAny_comprehension_free (use:=none) rfl hs (aA (k.cells I.ok)) k.kind k.loc ?_
 refine thn (@hi pins s σ H _ I h) fun v s1 h1=>thn h1 fun itv s2 h2=>?_
 obtain⟨it,fp,tn,J,H2,e,I2,T,st2,f2,W,w0,turn⟩:=h2
 subst e
 refine sI (RR:=fun acc C=>compPost (model X.prog X.w) X.A X.xe none (EP X pins σ Q) acc C) (W:=W) (Z:=fun ys H'=>∀p,H' p=none→Q (.ref p) (upd H' p (.lst ys))) k hc I2 T st2 f2 hga hg ht he w0 turn ?_
 intro σ' H' s' ys its n J' rv hz z
 obtain⟨I',hD,hC⟩:=aL k I2 f2 J' rv hz
 obtain⟨m,hn,_⟩:=J'.loc
 exact⟨m,hn,fun h' hs'=>⟨.ref _,_,kZ I2 I' hC hs',rfl,z _ hD⟩⟩
theorem wu {elt tg iter:Expr}{ifs:List Expr}{wi:TI}{g:TG}{tc:TT}{te:TE}{pos spos py:Pos}{i:Nat}{x:Str}(hN:X.N.Nodup)(hi':X.N[i]? = some x)(hx:Loc X.env.scope x)(k:vd X sc N tau)(hc:X.calm=true)(hga:GA tau g)(hi:PI X tg iter wi)
  (hg:∀C s H ex,PG (yf X sc N C s H ex) tg g) (ht:∀C s H ex,PIf (yf X sc N C s H ex) ifs tc) (he:∀C s H ex,PE (yf X sc N C s H ex) elt te)
  (hsw:swapsWith (.ListComp elt [⟨tg,iter,ifs,0⟩] sc pos) (some (.Name x py)) spos.line X.env=pure true:=by rfl)
  (hs:∀x,foldedSetIterable iter X.env x=pure x:=by intro _;rfl) (hf:X.fn x=true∨X.env.scope.names.lookup x=some .local:=by first | exact .inl rfl | exact .inr rfl | assumption) :
  PS X (.Assign [.Name x py] (.ListComp elt [⟨tg,iter,ifs,0⟩] sc pos) spos) (xa0 (xbi wi tau g tc te) (jt i)):=by
 intro pins s σ H D I h
 rw[exec_Assign_Name_used _ _ _ _ hsw]
 refine wpAny_bind (wpAny_standAt (wpAny_bind ?_))
 show wpAny _ X.A (do let _ ←comprehension (.ListComp elt [⟨tg,iter,ifs,0⟩] sc pos) sc X.env _ (newList []) false (eval iter X.env) (some (assign (.Name x py) X.env))) _ _ s
 refine wpAny_bind (wpAny_mono (wpAny_comprehension_free (use:=some (assign (.Name x py) X.env)) (Q:=fun _ s'=>SP X pins D .next s') rfl hs (aA (k.cells I.ok)) k.kind k.loc ?_) (fun _ s' q=>wpAny_pure (wpAny_pure q)) fun _ _ e=>e)
 refine thn (@hi pins s σ H _ I h) fun v s1 h1=>thn h1 fun itv s2 h2=>?_
 obtain⟨it,fp,tn,J,H2,e,I2,T,st2,f2,W,w0,turn⟩:=h2
 subst e
 refine sI (RR:=fun acc C=>compPost (model X.prog X.w) X.A X.xe (some (assign (.Name x py) X.env)) (fun _ s'=>SP X pins D .next s') acc C) (W:=W) (Z:=fun ys H'=>∀p,H' p=none→D.nx (σ.set i (some (.ref p))) (upd H' p (.lst ys))) k hc I2 T st2 f2 hga hg ht he w0 turn ?_
 intro σ' H' s' ys its n J' rv hz z
 obtain⟨I',hD,hC⟩:=aL k I2 f2 J' rv hz
 obtain⟨m,hn,_⟩:=J'.loc
 have hn:s'.heap.Ns (s2.heap.objs.size+1) m:=hn
 refine wpAny_assign_Name (jq (v:=.ref s2.heap.objs.size) I' hN hi' hx rfl (fun s'' I'' ⟨a,sb,ha⟩=>?_) hf)
 refine⟨m,hn.sameBut sb ?_,fun h' hs'=>⟨_,_,kZ I2 I'' hC hs',z _ hD⟩⟩
 rcases ha with ha | ha
 ·rw[ha];exact xjm (xjj I2.lt)
 ·obtain⟨v,o,ho,_⟩:=I2.cell x a ha
  exact xjm (xjj (Heap.lt_size ho))
end
end L2
namespace L2
open PySem PySem.Spec PyProof.Rows
structure Own (P:Program)(w:World)(K:PySem.W.Frag)(mg:Str→Option Value)(base:Heap)(k:Nat)(x:Str)(ps:List Str)(sp:Sp):Prop where
 ex:∃(f:Addr) (fd:FuncData),rJ P w K mg base CX0 k f fd ps sp∧Binds K fd ps []∧PySem.W.keepIn K (.ref f)=true∧mg x=some (.ref f)
theorem Own.mono {P:Program}{w:World}{K:PySem.W.Frag}{mg:Str→Option Value}{base:Heap}{j k:Nat}{x:Str}{ps:List Str}{sp:Sp}(h:Own P w K mg base j x ps sp)(hjk:j≤k):Own P w K mg base k x ps sp:=by
 obtain⟨f,fd,F,b,kp,m⟩:=h.ex
 exact⟨f,fd,F.mono hjk,b,kp,m⟩
theorem Own.imp {P:Program}{w:World}{K:PySem.W.Frag}{mg:Str→Option Value}{base:Heap}{k:Nat}{x:Str}{ps:List Str}{sp sp':Sp}(h:Own P w K mg base k x ps sp)(q:∀vs H Q E,sp' vs H Q E→sp vs H Q E):Own P w K mg base k x ps sp':=by
 obtain⟨f,fd,F,b,kp,m⟩:=h.ex
 exact⟨f,fd,F.imp q,b,kp,m⟩
def xeo (sp:Sp)(t:TA):TE:=fun σ H Q=>t σ H fun vs H1=>sp vs H1 Q E0
theorem xm {X:Cx}{k j:Nat}{x:Str}{ps:List Str}{sp:Sp}{p pos:Pos}{e:Expr}{es:List Expr}{t:TA}(h:Own X.prog X.w X.K X.mg X.base j x ps sp)(hr:dj k X.A)(ha:PA X (e::es) t)(hjk:j≤k:=by decide)(hg:Gl X x:=by rfl)
  (hdb:(x == ("__debug__" : Str))=false:=by decide) (he:starEach (e::es) X.env=(false,eval e X.env)::starEach es X.env:=by rfl) (hpl:(backTo pos (starEach es X.env)).any (·.1)=false:=by rfl) :
  PE X (.Call (.Name x p) (e::es) [] pos) (xeo sp t):=by
 obtain⟨f,fd,F,b,kp,m⟩:=(h.mono hjk).ex
 intro pins s σ H Q I q
 refine xdS (E:=E0) F hr hg m kp b .nil xf3 ha hdb he hpl s σ H Q I ?_
 have e:(fun(vs:List V) (H1:Hp)=>sp (vs++[]) H1 Q E0)=fun vs H1=>sp vs H1 Q E0:=by
  funext vs H1;rw[xh7]
 show t σ H fun vs H1=>sp (vs++[]) H1 Q E0
 rw[e];exact q
theorem mz {P:Program}{w:World}{K:PySem.W.Frag}{mg:Str→Option Value}{base:Heap}{k:Nat}{x qual:Str}{st:Stmt}{f:Addr}{fd:FuncData}{N ps:List Str}{sp:Sp}(F:Fun K x qual st f fd)(S:xC N ps (xg st))(mgx:mg x=some (.ref f))(b:Binds K fd ps [])
  (len:∀vs H Q E,sp vs H Q E→vs.length=ps.length)
  (body:∀(cdv:Value) (A:Around) (outer:List Env) (s:Shared) (H:Hp) (vs:List V) (Q:VK) (E:XK),dj k (A.deeper (envOfC qual (xg st) s.heap.objs.size f cdv))→sp vs H Q E →
   ∃t,PSs (xa1 CX0 P w K mg base N qual (xg st) f cdv A outer s H E).nox (zp st) t∧t { nx:=fun _ H'=>Q .non H',rt:=Q } (start N vs) H):Own P w K mg base (k+1) x ps sp :=
 ⟨f,fd,F.ok S len body,b,F.kp,mgx⟩
section
variable {X:Cx}
def xeg (i j:Int):Prop:=0<j∧j.natAbs.log2<9000
theorem bU:OpR X (binaryOp .FloorDiv) (rI xeg fun i j=>.int (i / j)):=opI fun i j _ _ _ _ _ hc q=>by
 refine floordiv_int (by have:=hc.1;omega) ?_ (.inl (PyProof.noPylong_of_log2 hc.2))
 rw[xhz i (by have:=hc.1;omega)]
 exact q
theorem fe {i j:Int}(h0:0<j)(h:j<2 ^ 128):xeg i j:=by
 refine⟨h0,?_⟩
 have:j.natAbs<2 ^ 128:=by omega
 have:=Nat.log2_lt (n:=j.natAbs) (k:=128) (by omega)
 have h':j.natAbs.log2<128:=this.mpr (by omega)
 omega
theorem rY:OpR X (compareOp .IsNot) (fun x y H Q=>∃c d,x=.bl c∧y=.bl d∧Q (.bl (!(c == d))) H):=by
 intro pins s σ H x y v u Q I rx ry h
 obtain⟨c,d,rfl,rfl,q⟩:=h
 cases rx;cases ry
 exact isnot_bool (xez I q rfl)
def xcU (n c:String):Bool:=n == c || (n == "bool" && c == "int")
def nL:List String:=["NoneType", "bool", "int", "str", "list", "tuple", "dict"]
def jH:List String:=["bool", "int", "str", "list", "tuple", "dict"]
theorem xaZ {K:PySem.W.Frag}{n c:String}(hn:n∈nL)(hc:c∈jH):PySem.W.kitOne K (.type n) (.type c)=some (xcU n c):=by
 simp only[nL,jH,xiJ,xiZ,xjw] at hn hc
 rcases hn with rfl | rfl | rfl | rfl | rfl | rfl | rfl<;>rcases hc with rfl | rfl | rfl | rfl | rfl | rfl<;>kernel_rfl
def tyN (H:Hp):V→Option String
 | .non=>some "NoneType"
 | .bl _=>some "bool"
 | .int _=>some "int"
 | .str _=>some "str"
 | .ref a=>match H a with
  | some (.lst _)=>some "list"
  | some (.frz _ (.lst _))=>some "list"
  | some (.tup _)=>some "tuple"
  | some (.dK _)=>some "dict"
  | _=>none
 | _=>none
theorem xek {K:PySem.W.Frag}{H:Hp}{x:V}{n:String}(h:tyN H x=some n):ox K H x (.type n)∧n∈nL:=by
 cases x with
 | non=>cases h;exact⟨.non,by decide⟩
 | bl b=>cases h;exact⟨.bl b,by decide⟩
 | int i=>cases h;exact⟨.int i,by decide⟩
 | str y=>cases h;exact⟨.str y,by decide⟩
 | ref a =>
  have h:(match H a with
   | some (.lst _)=>some "list"
   | some (.frz _ (.lst _))=>some "list"
   | some (.tup _)=>some "tuple"
   | some (.dK _)=>some "dict"
   | _=>none)=some n:=h
  split at h
  ·rename_i xs e;cases h;exact⟨.lst e,by decide⟩
  ·rename_i o xs e;cases h;exact⟨.frz e,by decide⟩
  ·rename_i xs e;cases h;exact⟨.tup e,by decide⟩
  ·rename_i xs e;cases h;exact⟨.dK e,by decide⟩
  ·cases h
 | _=>cases h
def xgt (xs:List V)(H:Hp)(Q:VK):Prop:=∃x c n,xs=[x,.ty c]∧tyN H x=some n∧c∈jH∧Q (.bl (xcU n c)) H
theorem uJ:qY X (.builtin "isinstance") xgt:=by
 intro pins s σ H xs us Q I r h
 obtain⟨x,c,n,rfl,ty,hc,q⟩:=h
 obtain⟨u,w',rfl,rx,ry⟩:=vals2 r
 cases ry
 obtain⟨t1,t2⟩:=xek (K:=X.K) ty
 exact xae I rx t1 (xaZ t2 hc) fun tk=>⟨.bl _,H,I.tok tk,rfl,q⟩
theorem dS:∀ {bs:List Bool} {us:List Value},zh (bs.map V.bl) us→us=bs.map Value.bool
 | [],_,.nil=>rfl
 | c::cs,_,.cons r t=>by
  cases r
  rw[dS t];rfl
def xdT (K:PySem.W.Frag)(xs:List V)(H:Hp)(Q:VK):Prop:=∃(p:Addr) (ns:List Int),xs=[.ref p]∧SqL K H p (ns.map V.int)∧ns≠[]∧∀M,M∈ns→(∀a∈ns,a≤M)→Q (.int M) H
theorem xaf (hc:X.calm=true):qY X (.builtin "max") (xdT X.K):=by
 intro pins s σ H xs us Q I r h
 obtain⟨p,ns,rfl,hl,hne,q⟩:=h
 obtain⟨u,rfl,ru⟩:=vals1 r
 cases ru
 obtain⟨its,rv,pl,hz⟩:=I.list hl
 obtain⟨m,F⟩:=I.fr
 have hi:=intsAre_of rv
 obtain⟨xs',e⟩:=hi.allInts.items
 have hns:ns=xs'.toList.map (·.1):=by rw[←hi.numsOf,←nums_intItems,←e]
 have hsz:0<xs'.size:=by
  have h3:0<ns.length:=List.length_pos_iff.mpr hne
  rw[hns,xit,xhp] at h3;exact h3
 have hl':=pl.isList
 rw[e] at hl'
 refine max_intList (I.ok.hd hc) hl' hsz fun v h' tk hv hk=>?_
 obtain⟨t,rfl⟩:=intItems_at hv
 obtain⟨h1,h2⟩:=argBest_gt (numAt xs') (xs'.size-1)
 refine⟨.int _,H,I.kept hk,⟨t,rfl⟩,q _ ?_ fun a ha=>?_⟩
 ·rw[hns,numAt_eq];exact getD_mem (by rw[xit,xhp];omega)
 ·rw[hns] at ha
  obtain⟨j,hj,rfl⟩:=mem_getD ha
  rw[xit,xhp] at hj
  rw[←numAt_eq];exact h2 j (by omega)
def xdq (K:PySem.W.Frag)(xs:List V)(H:Hp)(Q:VK):Prop:=∃(p:Addr) (bs:List Bool),xs=[.ref p]∧SqL K H p (bs.map V.bl)∧Q (.bl (bs.all id)) H
theorem rB {bs:List Bool}:(List.range bs.length).all (fun i=>(bs[i]?).getD false)=bs.all id:=by
 rw[Bool.eq_iff_iff]
 simp only[xh4,xiU,id]
 constructor
 ·intro h b hb
  obtain⟨i,hi,rfl⟩:=xiO.mp hb
  have:=h i hi
  rw[xii hi] at this
  exact this
 ·intro h i hi
  rw[xii hi]
  exact h _ (xip hi)
theorem lF (hc:X.calm=true):qY X (.builtin "all") (xdq X.K):=by
 intro pins s σ H xs us Q I r h
 obtain⟨p,bs,rfl,hl,q⟩:=h
 obtain⟨u,rfl,ru⟩:=vals1 r
 cases ru
 obtain⟨its,rv,pl,hz⟩:=I.list hl
 have e:=dS rv
 subst e
 have hl':=pl.isList
 refine call_all_walk (wpAny_pyIter_list hl' ?_)
 have hlt:p<s.heap.objs.size:=by obtain⟨o,ho,_⟩:=id hl';exact Heap.lt_size ho
 have hne:p≠s.heap.objs.size:=xjn hlt
 refine⟨_,_,_,_,_,_,fun i=>(bs[i]?).getD false,rfl,Walks.list (A:=X.A.in1) (I.ok.hd hc) _ p hne (bs.map Value.bool).toArray,⟨⟨_,Heap.get?_push_size _ rfl,rfl,rfl⟩,hl'.at fun o e=>Heap.get?_push_of_some _ e⟩,?_,fun h' tk hk=>?_⟩
 ·intro i v s' Q' E' hP hq
  have hP':(bs.map Value.bool)[i]? = some v:=by simpa using hP
  rw[xil] at hP'
  cases eb:bs[i]? with
  | none=>rw[eb] at hP';cases hP'
  | some b =>
   rw[eb] at hP'
   cases hP'
   simp only[eb,Option.getD_some] at hq
   exact wpAny_truthy_bool hq
 ·have hk':=old_kept (l:=p) hk
  refine⟨.bl (bs.all id),H,I.kept hk',?_,q⟩
  show Value.bool _=Value.bool _
  have:(bs.map Value.bool).toArray.size=bs.length:=by simp
  rw[this,rB]
end
end L2
namespace L2
open PySem PySem.Spec PyProof.Rows
structure Blt (mg:Str→Option Value)(ns:List Str):Prop where
 all:∀x∈ns,mg x=none
theorem Blt.get {mg:Str→Option Value}{ns:List Str}(B:Blt mg ns)(x:Str)(h:x∈ns:=by decide +kernel):mg x=none:=B.all x h
theorem vh:bootBuiltins "len" = some (.builtin "len"):=by decide +kernel
theorem cE:bootBuiltins "max" = some (.builtin "max"):=by decide +kernel
theorem xcv:bootBuiltins "min" = some (.builtin "min"):=by decide +kernel
theorem vW:bootBuiltins "abs" = some (.builtin "abs"):=by decide +kernel
theorem rQ:bootBuiltins "all" = some (.builtin "all"):=by decide +kernel
theorem yW:bootBuiltins "isinstance" = some (.builtin "isinstance"):=by decide +kernel
theorem y3:bootBuiltins "tuple" = some (.type "tuple"):=by decide +kernel
theorem xer:bootBuiltins "int" = some (.type "int"):=by decide +kernel
theorem xcO:bootBuiltins "bool" = some (.type "bool"):=by decide +kernel
theorem xeX:bootBuiltins "zip" = some (.type "zip"):=by decide +kernel
def xfL (n:Int)(b:Bool):Prop:=0≤n∧(b=false→n<2147483647)
def oF (p:Addr)(H:Hp):Prop:=∃(n:Int) (b:Bool),H p=some (.lst [.int n,.bl b])∧xfL n b
structure SB (p:Addr)(H H':Hp):Prop where
 keep:∀(b:Addr) (o:HO),b≠p→H b=some o→H' b=some o
 st:oF p H'
def xcb (K:PySem.W.Frag):Sp:=fun vs H Q _=>∃(a:Addr) (ns:List Int) (k:Int),vs=[.ref a,.int k]∧SqL K H a (ns.map V.int)∧ns.length≤63∧0≤k∧∀n:Int,Q (.int n) H
def bK (K:PySem.W.Frag):Sp:=fun vs H Q _=>∃(a:Addr) (ns:List Int) (k:Int),vs=[.ref a,.int k]∧SqL K H a (ns.map V.int)∧ns.length≤63∧0≤k ∧
 ∀(p:Addr) (n:Int) (b:Bool),H p=none→xfL n b→Q (.ref p) (upd H p (.lst [.int n,.bl b]))
def xb_:Sp:=fun vs H Q _=>∃(p:Addr) (many:Int),vs=[.ref p,.int many]∧oF p H∧0<many∧many<2 ^ 128∧∀(r:Int) (H':Hp),0≤r→r<many→SB p H H'→Q (.int r) H'
theorem xbQ {ns:List Int}{k:Int}(h0:0≤k)(h:k<(ns.length:Int)):∃v:Int,atI (ns.map V.int) k=some (.int v):=by
 have hk:k.toNat<ns.length:=by omega
 have ek:k=((k.toNat:Nat):Int):=by omega
 have q:atI (ns.map V.int) ((k.toNat:Nat):Int)=some (.int ns[k.toNat]):=xdd (by rw[xil,xii hk]<;>rfl)
 rw[←ek] at q
 exact⟨_,q⟩
end L2
namespace L2
open PySem PySem.Spec PyProof.Rows
section
variable {X:Cx}
theorem uL (K:PySem.W.Frag)(e:X.K=K:=by rfl):IxR X (xfP K):=e▸l_
theorem gz (K:PySem.W.Frag)(e:X.K=K:=by rfl):SlR X (xfh K):=e▸xdG
theorem oy (K:PySem.W.Frag)(hc:X.calm=true)(e:X.K=K:=by rfl):qY X (.builtin "max") (xdT K):=e▸xaf hc
theorem vf (K:PySem.W.Frag)(hc:X.calm=true)(e:X.K=K:=by rfl):qY X (.builtin "all") (xdq K):=e▸lF hc
def xcV (K:PySem.W.Frag)(xs:List V)(H:Hp)(Q:VK):Prop:=∃p ys,xs=[.ref p]∧(SqL K H p ys∨SqT K H p ys)∧Q (.int ys.length) H
theorem yZ (K:PySem.W.Frag)(e:X.K=K:=by rfl):qY X (.builtin "len") (xcV K):=e▸tO
def xdJ (K:PySem.W.Frag)(xs:List V)(H:Hp)(Q:VK):Prop:=∃p ys,xs=[.ref p]∧((SqL K H p ys∧∀l,H l=none→Q (.ref l) (upd H l (.tup ys)))∨(SqT K H p ys∧Q (.ref p) H))
theorem y4 (K:PySem.W.Frag)(e:X.K=K:=by rfl):qY X (.type "tuple") (xdJ K):=e▸aW
theorem yr (K:PySem.W.Frag){pos:Pos}{es:List Expr}{k:Nat}{t:TGs}{n:Nat}(hc:X.calm=true)(h:PGs X es t)
  (hn:(assignEach es X.env).length=n:=by rfl) (hst:(assignEach es X.env).findIdx? (·.1)=none:=by rfl) (e:X.K=K:=by rfl):PG X (.Tuple es k pos) (xeb K n t):=by
 subst e
 exact xeQ hc h hn hst
end
theorem sL {α β:Type}{F:α→β→Prop}:∀ {l:List α} {k:List β} {i:Nat} {b:β},Paired F l k→k[i]? = some b→∃a,l[i]? = some a∧F a b
 | _,_,_,_,.nil,h=>by simp at h
 | _,_,0,_,.cons r _,h=>by simp at h;subst h;exact⟨_,rfl,r⟩
 | _,_,i+1,b,.cons _ t,h=>by
  obtain⟨a,e,f⟩:=sL (i:=i) t (by simpa using h)
  exact⟨a,by simpa using e,f⟩
theorem pP {α β:Type}{F:α→β→Prop}{l:List α}{k:List β}(h:Paired F l k):l.length=k.length:=Paired.length h
theorem fF {α β:Type}{F:α→β→Prop}{a:α}{b:β}{l:List α}{k:List β}(h:Paired F l k)(r:F a b):Paired F (l++[a]) (k++[b]):=Paired.snoc h r
theorem sA {α β:Type}{F:α→β→Prop}:∀ {l l':List α} {k k':List β},Paired F l k→Paired F l' k'→Paired F (l++l') (k++k')
 | _,_,_,_,.nil,s=>s
 | _,_,_,_,.cons r t,s=>.cons r (sA t s)
theorem gF {α β:Type}{F:α→β→Prop}:∀(n:Nat) {l:List α} {k:List β},Paired F l k→Paired F (l.drop n) (k.drop n)
 | 0,_,_,h=>h
 | _+1,_,_,.nil=>.nil
 | n+1,_,_,.cons _ t=>gF n t
theorem gP {α β:Type}{F:α→β→Prop}:∀(n:Nat) {l:List α} {k:List β},Paired F l k→Paired F (l.take n) (k.take n)
 | 0,_,_,_=>.nil
 | _+1,_,_,.nil=>.nil
 | n+1,_,_,.cons r t=>.cons r (gP n t)
theorem take_succ {α:Type}{l:List α}{i:Nat}{a:α}(h:l[i]? = some a):l.take (i+1)=l.take i++[a]:=by
 rw[xi_,h];rfl
theorem sz {n:Nat}(h:n≤1000):n≤sizeLine:=xjc (ls h)
end L2
namespace L2
open PySem PySem.Spec PyProof.Rows
open Builtin.SmallTypes (nextOf)
structure Drw (it a:Addr)(vs:List Value)(tn:Nat→Heap→Prop)(src:Heap→Prop):Prop where
 mv:∀i h h',tn i h→(∀o,h.get? it=some o→h'.get? it=some o)→tn i h'
 smv:∀h h',src h→(∀o,h.get? a=some o→h'.get? a=some o)→src h'
 ob:∀i h,tn i h→∃o,h.get? it=some o∧∀v,o.data≠.cell v
 item:∀(prog:Program) (w:World) (A:Around) (E:Value→Shared→Prop) (i:Nat) (x:Value) (s:Shared) (Q:Value→Shared→Prop),tn i s.heap→src s.heap→vs[i]? = some x →
  (∀h',tn (i+1) h'→Heap.SameBut it s.heap h'→Q x { s with heap:=h' })→wpAny (model prog w) A (nextOf (.ref it)) Q E s
 fin:∀(prog:Program) (w:World) (A:Around) (E:Value→Shared→Prop) (i:Nat) (s:Shared) (Q:Value→Shared→Prop),A.handled=none→tn i s.heap→src s.heap→vs[i]? = none →
  (∀h' e,Heap.ExtBut it s.heap h'→(∃o,h'.get? e=some o∧o.cls=.type "StopIteration")→E (.ref e) { s with heap:=h' })→wpAny (model prog w) A (nextOf (.ref it)) Q E s
theorem xbK (it a:Addr)(vs:List Value):Drw it a vs (fun i h=>h.IsListIter it a i) (fun h=>h.IsList a vs.toArray) where
 mv:=fun i h h' t k=>t.at k
 smv:=fun h h' t k=>t.at k
 ob:=fun i h t=>let ⟨o,e,_,d⟩:=t;⟨o,e,fun v z=>by rw[d] at z;cases z⟩
 item:=fun prog w A E i x s Q t l e h=>wpAny_nextOf_list_item t l (by simpa using e) h
 fin:=fun prog w A E i s Q hh t l e h=>wpAny_nextOf_list_end hh t l (by simpa using e) h
section
variable {prog:Program} {w:World} {A:Around} {E:Value→Shared→Prop} {s:Shared}
theorem t8 {it a:Addr}{i:Nat}{vs:List Value}{x:Value}{Q:Value→Shared→Prop}(T:s.heap.IsTupleIter it a i)(S:s.heap.IsTuple a vs.toArray)(e:vs[i]? = some x)
  (h:∀h',h'.IsTupleIter it a (i+1)→Heap.SameBut it s.heap h'→Q x { s with heap:=h' }):wpAny (model prog w) A (nextOf (.ref it)) Q E s:=by
 obtain⟨ob,hob,hcl,hdt⟩:=id T
 obtain⟨os,hos,_,nn,hsq⟩:=id S
 have e':vs.toArray[i]? = some x:=by simpa using e
 unfold nextOf
 refine wpAny_bind (wpAny_callSpecial?_slot (name:=Str.ofString "__next__") T.typeIs F.slot_tuple_iterator_next (wpAny_call_entry F.slot_tuple_iterator_next T.typeIs F.entry_tuple_iterator_next (wpAny_bind (m:=field (.ref it) 0) (wpAny_field hob hdt (x:=.ref a) rfl ?_)) (F.args_tuple_iterator_next_1 _)))
 refine wpAny_bind (m:=field (.ref it) 1) (wpAny_field hob hdt (x:=.int i 0) rfl (wpAny_bind (m:=seqItems? (.ref a)) (wpAny_seqItems hos hsq ?_)))
 simp only[Int.toNat_natCast,e']
 refine wpAny_bind (wpAny_setField hob hdt (by simp) (wpAny_pure ⟨x,rfl,wpAny_pure (h _ ⟨_,Heap.get?_update_self _ hob (Obj.isFreed_of_fields (Obj.data_mapFields hdt _)),(Obj.cls_mapFields ..).trans hcl,?_⟩ (Heap.SameBut.update ..))⟩))
 rw[Obj.data_mapFields hdt]
 simp[rawInt]
theorem nq {it a:Addr}{i:Nat}{vs:List Value}{Q:Value→Shared→Prop}(hn:A.handled=none)(T:s.heap.IsTupleIter it a i)(S:s.heap.IsTuple a vs.toArray)(e:vs[i]? = none)
  (h:∀h' x,Heap.ExtBut it s.heap h'→(∃o,h'.get? x=some o∧o.cls=.type "StopIteration")→E (.ref x) { s with heap:=h' }):wpAny (model prog w) A (nextOf (.ref it)) Q E s:=by
 obtain⟨ob,hob,hcl,hdt⟩:=id T
 obtain⟨os,hos,_,nn,hsq⟩:=id S
 have e':vs.toArray[i]? = none:=by simpa using e
 unfold nextOf
 refine wpAny_bind (wpAny_callSpecial?_slot (name:=Str.ofString "__next__") T.typeIs F.slot_tuple_iterator_next (wpAny_call_entry F.slot_tuple_iterator_next T.typeIs F.entry_tuple_iterator_next (wpAny_bind (m:=field (.ref it) 0) (wpAny_field hob hdt (x:=.ref a) rfl ?_)) (F.args_tuple_iterator_next_1 _)))
 refine wpAny_bind (m:=field (.ref it) 1) (wpAny_field hob hdt (x:=.int i 0) rfl (wpAny_bind (m:=seqItems? (.ref a)) (wpAny_seqItems hos hsq ?_)))
 simp only[Int.toNat_natCast,e']
 refine wpAny_bind (wpAny_rule (wpAny_bind (wpAny_setField hob hdt (by simp) (wpAny_bind ?_))))
 simp only[newExc,newTuple]
 refine wpAny_bind (wpAny_newObj_type (wpAny_bind (m:=firstArgMember _ _) (wpAny_of_eq (a:=Value.none) (by first | rfl | (simp only[firstArgMember];rfl)) (wpAny_newObj_type ?_ (by size_fits)))) (by size_fits))
 simp only[raiseNew]
 refine wpAny_bind (wpAny_handled ?_)
 first | rw[show A.in1.handled=none from hn] | rw[hn]
 exact wpAny_bind (wpAny_pure (wpAny_throw (h _ _ (((Heap.SameBut.update ..).extBut.push _).push _) ⟨_,Heap.get?_push_size _ rfl,rfl⟩)))
end
theorem xc3 (it a:Addr)(vs:List Value):Drw it a vs (fun i h=>h.IsTupleIter it a i) (fun h=>h.IsTuple a vs.toArray) where
 mv:=fun i h h' t k=>t.at k
 smv:=fun h h' t k=>let ⟨o,e,r⟩:=t;⟨o,k o e,r⟩
 ob:=fun i h t=>let ⟨o,e,_,d⟩:=t;⟨o,e,fun v z=>by rw[d] at z;cases z⟩
 item:=fun prog w A E i x s Q t l e h=>t8 t l e h
 fin:=fun prog w A E i s Q hh t l e h=>nq hh t l e h
structure ZA (z ti to i1 i2 a1 a2:Addr):Prop where
 a:ti≠z∧to≠z∧i1≠z∧i2≠z∧ti≠to∧ti≠i1∧ti≠i2∧to≠i1∧to≠i2∧i1≠i2
 b:a1≠z∧a1≠to∧a1≠i1∧a1≠i2∧a2≠z∧a2≠to∧a2≠i1∧a2≠i2
section
variable {prog:Program} {w:World} {A:Around} {E:Value→Shared→Prop} {s:Shared} {z ti to i1 i2 a1 a2:Addr} {vs us:List Value} {t1 t2:Nat→Heap→Prop} {s1 s2:Heap→Prop}
theorem lO {k:Nat}{x y p q:Value}{Q:Value→Shared→Prop}(D:ZA z ti to i1 i2 a1 a2)(W1:Drw i1 a1 vs t1 s1)(W2:Drw i2 a2 us t2 s2)(Z:IsZip s.heap z ti to .none)(TI:IsPair s.heap ti (.ref i1) (.ref i2))(TO:IsPair s.heap to p q)
  (b1:t1 k s.heap) (b2:t2 k s.heap) (c1:s1 s.heap) (c2:s2 s.heap) (ex:vs[k]? = some x) (ey:us[k]? = some y)
  (h:∀h',IsZip h' z ti to (rawInt s.heap.objs.size)→IsPair h' to x y→t1 (k+1) h'→t2 (k+1) h'→IsPair h' s.heap.objs.size x y →
   (∀c o,c≠z→c≠to→c≠i1→c≠i2→s.heap.get? c=some o→h'.get? c=some o)→Q (.ref s.heap.objs.size) { s with heap:=h' }) :
  wpAny (model prog w) A (Builtin.«zip.__next__» ⟨[.ref z],[]⟩) (fun fin s'=>∃v,fin=.done (.ret v)∧Q v s') E s:=by
 obtain⟨⟨d1,d2,d3,d4,d5,d6,d7,d8,d9,d10⟩,e1,e2,e3,e4,e5,e6,e7,e8⟩:=D
 refine wpAny_bind (m:=field (.ref z) 2) (wpAny_field Z rfl (x:=.bool false) rfl (wpAny_bind (m:=field (.ref z) 3) (wpAny_field Z rfl (x:=.ref ti) rfl (wpAny_bind (wpAny_seqItems TI rfl ?_)))))
 refine wpAny_bind (m:=Builtin.SmallTypes.ownedTupleIsFree (.ref z)) ?_
 unfold Builtin.SmallTypes.ownedTupleIsFree
 refine wpAny_bind (wpAny_field Z rfl (x:=.none) rfl (wpAny_pure ?_))
 simp only[if_true]
 refine wpAny_bind (wpAny_rule (wpAny_bind (wpAny_field Z rfl (x:=.ref to) rfl (wpAny_bind (wpAny_setField_rec Z (by simp) fun g1 Z1 S1=>wpAny_bind ?_)))))
 replace Z1:IsZip g1 z ti to .ellipsis:=Z1
 simp only[List.zipIdx_cons,List.zipIdx_nil,List.forIn_cons,List.forIn_nil]
 refine wpAny_bind (wpAny_bind (wpAny_onRaise (wpAny_bind (m:=nextOf (.ref i1)) ?_)))
 refine W1.item _ _ _ _ k x _ _ (W1.mv _ _ _ b1 fun o=>S1.extBut _ o d3) (W1.smv _ _ c1 fun o=>S1.extBut _ o e1) ex fun g2 b12 S2=>wpAny_pure ?_
 have TO2:IsPair g2 to p q:=S2.extBut _ _ d8 (S1.extBut _ _ d2 TO)
 refine wpAny_bind (wpAny_seqItems TO2 rfl (wpAny_bind (wpAny_updateSeq_pair TO2 fun g3 TO3 S3=>wpAny_bind (wpAny_letGo (wpAny_pure ?_)))))
 replace TO3:IsPair g3 to x q:=TO3
 refine wpAny_bind (wpAny_bind (wpAny_onRaise (wpAny_bind (m:=nextOf (.ref i2)) ?_)))
 have k3:∀c o,c≠z→c≠to→c≠i1→s.heap.get? c=some o→g3.get? c=some o:=fun c o n1 n2 n3 g=>S3.extBut _ _ n2 (S2.extBut _ _ n3 (S1.extBut _ _ n1 g))
 refine W2.item _ _ _ _ k y _ _ (W2.mv _ _ _ b2 fun o=>k3 _ o d4 (Ne.symm d9) (Ne.symm d10)) (W2.smv _ _ c2 fun o=>k3 _ o e5 e6 e7) ey fun g4 b24 S4=>wpAny_pure ?_
 have TO4:IsPair g4 to x q:=S4.extBut _ _ d9 TO3
 refine wpAny_bind (wpAny_seqItems TO4 rfl (wpAny_bind (wpAny_updateSeq_pair TO4 fun g5 TO5 S5=>wpAny_bind (wpAny_letGo (wpAny_pure (wpAny_pure ?_))))))
 replace TO5:IsPair g5 to x y:=TO5
 refine wpAny_bind (wpAny_seqItems TO5 rfl (wpAny_bind (wpAny_newTuple (wpAny_bind (m:=Builtin.SmallTypes.ownedTupleHandOut (.ref z) (.ref g5.objs.size)) ?_))))
 have sz5:g5.objs.size=s.heap.objs.size:=by rw[S5.1,S4.1,S3.1,S2.1,S1.1]
 have k5:∀c o,c≠to→c≠i2→g3.get? c=some o→g5.get? c=some o:=fun c o n1 n2 g=>S5.extBut _ _ n1 (S4.extBut _ _ n2 g)
 have Z5:IsZip g5 z ti to .ellipsis:=k5 _ _ (Ne.symm d2) (Ne.symm d4) (S3.extBut _ _ (Ne.symm d2) (S2.extBut _ _ (Ne.symm d3) Z1))
 have b15:t1 (k+1) g5:=W1.mv _ _ _ b12 fun o g=>k5 _ o (Ne.symm d8) d10 (S3.extBut _ o (Ne.symm d8) g)
 have b25:t2 (k+1) g5:=W2.mv _ _ _ b24 fun o g=>S5.extBut _ o (Ne.symm d9) g
 have zlt:z<g5.objs.size:=Heap.lt_size Z5
 unfold Builtin.SmallTypes.ownedTupleHandOut
 refine wpAny_bind (wpAny_setField_rec (show IsZip (g5.push { cls:=.type "tuple", data:=.seq #[x,y] }) z ti to .ellipsis from Heap.get?_push_of_some _ Z5) (by simp) fun g7 Z7 S7=>wpAny_setField_rec (show IsZip g7 z ti to (rawInt g5.objs.size) from Z7) (by simp) fun g8 Z8 S8=>?_)
 replace Z8:IsZip g8 z ti to (rawInt g5.objs.size):=Z8
 have up8:∀c o,c≠z→g5.get? c=some o→g8.get? c=some o:=fun c o n g=>S8.extBut _ _ n (S7.extBut _ _ n (Heap.get?_push_of_some _ g))
 have T8:IsPair g8 g5.objs.size x y:=S8.extBut _ _ (xjm zlt) (S7.extBut _ _ (xjm zlt) (Heap.get?_push_size _ rfl))
 refine wpAny_pure ⟨_,rfl,?_⟩
 show Q (.ref g5.objs.size) _
 rw[sz5] at Z8 T8 ⊢
 exact h g8 Z8 (up8 _ _ d2 TO5) (W1.mv _ _ _ b15 fun o g=>up8 _ o d3 g) (W2.mv _ _ _ b25 fun o g=>up8 _ o d4 g) T8 fun c o n1 n2 n3 n4 g=>up8 c o n1 (k5 c o n2 n4 (k3 c o n1 n2 n3 g))
theorem xbA {k:Nat}{p q:Value}{Q:Fin→Shared→Prop}(hn:A.handled=none)(D:ZA z ti to i1 i2 a1 a2)(W1:Drw i1 a1 vs t1 s1)(W2:Drw i2 a2 us t2 s2)(Z:IsZip s.heap z ti to .none)(TI:IsPair s.heap ti (.ref i1) (.ref i2))(TO:IsPair s.heap to p q)
  (b1:t1 k s.heap) (b2:t2 k s.heap) (c1:s1 s.heap) (c2:s2 s.heap) (end':vs[k]? = none∨us[k]? = none)
  (h:∀h' e,(∀c o,c≠z→c≠to→c≠i1→c≠i2→s.heap.get? c=some o→h'.get? c=some o)→(∃o,h'.get? e=some o∧o.cls=.type "StopIteration")→E (.ref e) { s with heap:=h' }) :
  wpAny (model prog w) A (Builtin.«zip.__next__» ⟨[.ref z],[]⟩) Q E s:=by
 obtain⟨⟨d1,d2,d3,d4,d5,d6,d7,d8,d9,d10⟩,e1,e2,e3,e4,e5,e6,e7,e8⟩:=D
 refine wpAny_bind (m:=field (.ref z) 2) (wpAny_field Z rfl (x:=.bool false) rfl (wpAny_bind (m:=field (.ref z) 3) (wpAny_field Z rfl (x:=.ref ti) rfl (wpAny_bind (wpAny_seqItems TI rfl ?_)))))
 refine wpAny_bind (m:=Builtin.SmallTypes.ownedTupleIsFree (.ref z)) ?_
 unfold Builtin.SmallTypes.ownedTupleIsFree
 refine wpAny_bind (wpAny_field Z rfl (x:=.none) rfl (wpAny_pure ?_))
 simp only[if_true]
 refine wpAny_bind (wpAny_rule (wpAny_bind (wpAny_field Z rfl (x:=.ref to) rfl (wpAny_bind (wpAny_setField_rec Z (by simp) fun g1 Z1 S1=>wpAny_bind ?_)))))
 replace Z1:IsZip g1 z ti to .ellipsis:=Z1
 simp only[List.zipIdx_cons,List.zipIdx_nil,List.forIn_cons,List.forIn_nil]
 refine wpAny_bind (wpAny_bind (wpAny_onRaise (wpAny_bind (m:=nextOf (.ref i1)) ?_)))
 have b1':=W1.mv _ _ _ b1 fun o=>S1.extBut _ o d3
 have c1':=W1.smv _ _ c1 fun o=>S1.extBut _ o e1
 cases ex:vs[k]? with
 | none =>
  refine W1.fin _ _ _ _ k _ _ hn b1' c1' ex fun g2 e S2 he=>?_
  obtain⟨oe,hoe,hce⟩:=he
  have Z2:IsZip g2 z ti to .ellipsis:=S2 _ _ (Ne.symm d3) Z1
  have ne:e≠z:=fun y=>by subst y;rw[Z2] at hoe;cases hoe;simp at hce
  exact wpAny_setField_rec Z2 (by simp) fun g3 _ S3=>h g3 e (fun c o n1 _ n3 _ g=>S3.extBut _ _ n1 (S2 _ _ n3 (S1.extBut _ _ n1 g))) ⟨oe,S3.extBut _ _ ne hoe,hce⟩
 | some x =>
  have ey:us[k]? = none:=end'.resolve_left (by rw[ex];exact fun z=>nomatch z)
  refine W1.item _ _ _ _ k x _ _ b1' c1' ex fun g2 b12 S2=>wpAny_pure ?_
  have TO2:IsPair g2 to p q:=S2.extBut _ _ d8 (S1.extBut _ _ d2 TO)
  refine wpAny_bind (wpAny_seqItems TO2 rfl (wpAny_bind (wpAny_updateSeq_pair TO2 fun g3 TO3 S3=>wpAny_bind (wpAny_letGo (wpAny_pure ?_)))))
  refine wpAny_bind (wpAny_bind (wpAny_onRaise (wpAny_bind (m:=nextOf (.ref i2)) ?_)))
  have k3:∀c o,c≠z→c≠to→c≠i1→s.heap.get? c=some o→g3.get? c=some o:=fun c o n1 n2 n3 g=>S3.extBut _ _ n2 (S2.extBut _ _ n3 (S1.extBut _ _ n1 g))
  refine W2.fin _ _ _ _ k _ _ hn (W2.mv _ _ _ b2 fun o=>k3 _ o d4 (Ne.symm d9) (Ne.symm d10)) (W2.smv _ _ c2 fun o=>k3 _ o e5 e6 e7) ey fun g4 e S4 he=>?_
  obtain⟨oe,hoe,hce⟩:=he
  have Z4:IsZip g4 z ti to .ellipsis:=S4 _ _ (Ne.symm d4) (S3.extBut _ _ (Ne.symm d2) (S2.extBut _ _ (Ne.symm d3) Z1))
  have ne:e≠z:=fun y=>by subst y;rw[Z4] at hoe;cases hoe;simp at hce
  exact wpAny_setField_rec Z4 (by simp) fun g5 _ S5=>h g5 e (fun c o n1 n2 n3 n4 g=>S5.extBut _ _ n1 (S4 _ _ n4 (k3 c o n1 n2 n3 g))) ⟨oe,S5.extBut _ _ ne hoe,hce⟩
end
end L2
namespace L2
open PySem PySem.Spec PyProof.Rows
section
variable {prog:Program} {w:World} {A:Around} {E:Value→Shared→Prop} {s:Shared}
end
theorem xeP {n a1 a2:Addr}(h1:a1<n)(h2:a2<n):ZA (n+4) (n+2) (n+3) n (n+1) a1 a2:=by
 have up:∀(x k:Nat),x<n→x≠n+k:=fun x k h=>xjn (xji h (xjb n k))
 have ad:∀j k:Nat,j≠k→n+j≠n+k:=fun j k h e=>h (Nat.add_left_cancel e)
 have a0:∀k:Nat,0≠k→n≠n+k:=fun k h e=>h (Nat.add_left_cancel (n:=n) (by simpa using e))
 exact⟨⟨ad _ _ (by decide),ad _ _ (by decide),a0 _ (by decide),ad _ _ (by decide),ad _ _ (by decide),fun e=>a0 2 (by decide) e.symm,ad _ _ (by decide),fun e=>a0 3 (by decide) e.symm,ad _ _ (by decide),a0 _ (by decide)⟩,
  up _ _ h1,up _ _ h1,xjn h1,up _ _ h1,up _ _ h2,up _ _ h2,xjn h2,up _ _ h2⟩
def Sq2 (K:PySem.W.Frag)(b:Bool)(H:Hp)(a:Addr)(xs:List V):Prop:=if b=true then SqT K H a xs else SqL K H a xs
def oG (b:Bool)(a:Addr)(vs:List Value)(h:Heap):Prop:=if b=true then h.IsTuple a vs.toArray else h.IsList a vs.toArray
def Tn2 (b:Bool)(it a:Addr)(i:Nat)(h:Heap):Prop:=if b=true then h.IsTupleIter it a i else h.IsListIter it a i
theorem rE (b:Bool)(it a:Addr)(vs:List Value):Drw it a vs (Tn2 b it a) (oG b a vs):=by
 cases b with
 | true=>exact xc3 it a vs
 | false=>exact xbK it a vs
theorem Inv.sq2 {X:Cx}{pins:List (Addr×Obj)}{σ:St}{H:Hp}{s:Shared}{b:Bool}{a:Addr}{xs:List V}(I:Inv X pins σ H s)(h:Sq2 X.K b H a xs):∃vs:List Value,zh xs vs∧oG b a vs s.heap:=by
 cases b with
 | true=>obtain⟨vs,r,p,_⟩:=I.tuple (show SqT X.K H a xs from h);exact⟨vs,r,p⟩
 | false=>obtain⟨vs,r,p,_⟩:=I.list (show SqL X.K H a xs from h);exact⟨vs,r,p.isList⟩
section
variable {P:Program} {w:World} {K:PySem.W.Frag} {z ti to i1 i2 a1 a2:Addr} {b:Bool} {xs ys:List V}
end
section
variable {X:Cx}
end
end L2
namespace L2
open PySem PySem.Spec PyProof.Rows
end L2
namespace L2
open PySem PySem.Spec PyProof.Rows
inductive Tr where
 | non | bl (b:Bool) | int (i:Int) | str (x:Str) | emp | tup (xs:List Tr) | lst (xs:List Tr)
mutual
def Rep (F:Addr→Prop)(H:Hp):Tr→V→Prop
 | .non,v=>v=.non
 | .bl b,v=>v=.bl b
 | .int i,v=>v=.int i
 | .str x,v=>v=.str x
 | .emp,v=>∃a,v=.ref a∧¬F a∧H a=some (.dK [])
 | .tup ts,v=>∃a ws,v=.ref a∧¬F a∧H a=some (.tup ws)∧zF F H ts ws
 | .lst ts,v=>∃a ws,v=.ref a∧¬F a∧H a=some (.lst ws)∧zF F H ts ws
def zF (F:Addr→Prop)(H:Hp):List Tr→List V→Prop
 | [],ws=>ws=[]
 | t::ts,ws=>∃w r,ws=w::r∧Rep F H t w∧zF F H ts r
end
theorem ug {F:Addr→Prop}{H:Hp}:∀ {ts:List Tr} {ws:List V},zF F H ts ws↔Paired (Rep F H) ts ws
 | [],ws=>by
  constructor
  ·intro h;cases (show ws=[] from h);exact .nil
  ·intro h;cases h;rfl
 | t::ts,ws=>by
  constructor
  ·rintro⟨w,r,rfl,h1,h2⟩;exact .cons h1 (ug.mp h2)
  ·intro h
   cases h with
   | cons h1 h2=>exact⟨_,_,rfl,h1,ug.mpr h2⟩
theorem zF.len {F:Addr→Prop}{H:Hp}{ts:List Tr}{ws:List V}(h:zF F H ts ws):ts.length=ws.length:=pP (ug.mp h)
theorem zF.app {F:Addr→Prop}{H:Hp}{ts ts':List Tr}{ws ws':List V}(h:zF F H ts ws)(h':zF F H ts' ws'):zF F H (ts++ts') (ws++ws'):=ug.mpr (sA (ug.mp h) (ug.mp h'))
theorem zF.get {F:Addr→Prop}{H:Hp}{ts:List Tr}{ws:List V}{i:Nat}{w:V}(h:zF F H ts ws)(e:ws[i]? = some w):∃t,ts[i]? = some t∧Rep F H t w:=sL (ug.mp h) e
theorem zF.getT {F:Addr→Prop}{H:Hp}:∀ {ts:List Tr} {ws:List V} {i:Nat} {t:Tr},zF F H ts ws→ts[i]? = some t→∃w,ws[i]? = some w∧Rep F H t w:=fun {ts ws i t} h e=>by
 have hl:=h.len
 have hi:i<ws.length:=by have:=(xik.mp e).1;omega
 obtain⟨t',e',r⟩:=h.get (xii hi)
 rw[e] at e';cases e'
 exact⟨_,xii hi,r⟩
mutual
theorem yL {F F':Addr→Prop}{H H':Hp}(m:∀a o,H a=some o→¬F a→H' a=some o∧¬F' a):∀(t:Tr) (v:V),Rep F H t v→Rep F' H' t v
 | .non,v,h=>h
 | .bl b,v,h=>h
 | .int i,v,h=>h
 | .str x,v,h=>h
 | .emp,v,h=>by
  obtain⟨a,e,n,k⟩:=h
  exact⟨a,e,(m a _ k n).2,(m a _ k n).1⟩
 | .tup ts,v,h=>by
  obtain⟨a,ws,e,n,k,r⟩:=h
  exact⟨a,ws,e,(m a _ k n).2,(m a _ k n).1,yu m ts ws r⟩
 | .lst ts,v,h=>by
  obtain⟨a,ws,e,n,k,r⟩:=h
  exact⟨a,ws,e,(m a _ k n).2,(m a _ k n).1,yu m ts ws r⟩
theorem yu {F F':Addr→Prop}{H H':Hp}(m:∀a o,H a=some o→¬F a→H' a=some o∧¬F' a):∀(ts:List Tr) (ws:List V),zF F H ts ws→zF F' H' ts ws
 | [],ws,h=>h
 | t::ts,ws,h=>by
  obtain⟨w,r,e,h1,h2⟩:=h
  exact⟨w,r,e,yL m t w h1,yu m ts r h2⟩
end
def oq:Tr→Option V
 | .non=>some .non | .bl b=>some (.bl b) | .int i=>some (.int i) | .str x=>some (.str x) | _=>none
theorem vy {F:Addr→Prop}{H:Hp}{t:Tr}{v:V}(h:oq t=some v):Rep F H t v:=by
 cases t with
 | non=>cases h;rfl
 | bl b=>cases h;rfl
 | int i=>cases h;rfl
 | str x=>cases h;rfl
 | _=>cases h
inductive TV where
 | un | fz (t:Tr) | ow (ts:List Tr) | st | sc (ns:List Int) | ob (a:Addr)
abbrev TSt:=List TV
def nth:TSt→Nat→TV
 | [],_=>.un
 | x::_,0=>x
 | _::r,n+1=>nth r n
theorem k6:∀ {τ:TSt} {i:Nat} (h:i<τ.length),nth τ i=τ[i]
 | [],_,h=>absurd h (by simp)
 | _::_,0,_=>rfl
 | _::r,i+1,h=>k6 (τ:=r) (by simpa using h)
theorem uE:∀ {τ:TSt} {i:Nat} (h:τ.length≤i),nth τ i=.un
 | [],_,_=>rfl
 | _::_,0,h=>absurd h (by simp)
 | _::r,i+1,h=>uE (τ:=r) (by simpa using h)
theorem zO:∀ {τ:TSt} {i:Nat} {x:TV} (h:i<τ.length),nth (τ.set i x) i=x
 | [],_,_,h=>absurd h (by simp)
 | _::_,0,_,_=>rfl
 | _::r,i+1,x,h=>zO (τ:=r) (by simpa using h)
theorem zg:∀ {τ:TSt} {i j:Nat} {x:TV} (h:j≠i),nth (τ.set i x) j=nth τ j
 | [],_,_,_,_=>rfl
 | _::_,0,0,_,h=>absurd rfl h
 | _::_,0,_+1,_,_=>rfl
 | _::_,_+1,0,_,_=>rfl
 | _::r,i+1,j+1,x,h=>zg (τ:=r) (fun e=>h (by rw[e]))
structure FB where
 F0:Addr→Prop
 S0:Addr→Prop
 H0:Hp
 G0:List (Tr×V)
abbrev Phi:=Nat→Option Addr
def Av (B:FB)(φ:Phi)(a:Addr):Prop:=B.F0 a∨∃i,φ i=some a
def SA (B:FB)(φ:Phi)(τ:TSt)(a:Addr):Prop:=B.S0 a∨∃i,φ i=some a∧nth τ i=.st
def Wk (B:FB)(φ:Phi)(τ:TSt)(a:Addr):Prop:=B.F0 a∨SA B φ τ a
def AvB:Bool→FB→Phi→TSt→Addr→Prop
 | true,B,φ,_=>Av B φ
 | false,B,φ,τ=>Wk B φ τ
def tabOf (K:PySem.W.Frag)(x:Str):Option Addr:=match PySem.W.nsIn K mainGlobals x with
 | some (some (.ref f))=>(match K.lookup f with
  | some ⟨_,_,.func fd,_⟩=>(match fd.code with
   | .ref c=>(match K.lookup c with
    | some ⟨_,_,.fields vs,_⟩=>(match vs.toList.getD 11 Value.none with
     | Value.ref P=>(match K.lookup P with
      | none=>some P
      | some _=>none)
     | _=>none)
    | _=>none)
   | _=>none)
  | _=>none)
 | _=>none
def xgf (K:PySem.W.Frag):Option (Addr×Str):=match K.lookup 4 with
 | none=>none
 | some _=>match tabOf K "law" with
  | some P=>some (P, "law.<locals>.<lambda>")
  | none=>match tabOf K "_law_sides_right" with
   | some P=>some (P, "_law_sides_right.<locals>.<lambda>")
   | none=>none
def xcF (K:PySem.W.Frag)(H:Hp):Prop:=∀P q,xgf K=some (P,q)→H P=some (.tb q)
theorem xcF.none {K:PySem.W.Frag}{H:Hp}(h:xgf K=Option.none):xcF K H:=fun P q e=>by rw[h] at e;cases e
def xbt (K:PySem.W.Frag)(H:Hp)(a:Addr)(ns:List Int):Prop:=((∃o,H a=some (.frz o (.lst (ns.map V.int))))∨∀H',SqL K H' a (ns.map V.int))∧xcF K H
def Ent (K:PySem.W.Frag)(B:FB)(φ:Phi)(H:Hp)(i:Nat)(o:Option (Option V)):TV→Prop
 | .un=>True
 | .fz t=>∃v,o=some (some v)∧Rep (Av B φ) H t v
 | .ow ts=>∃a ws,o=some (some (.ref a))∧φ i=some a∧B.H0 a=none∧H a=some (.lst ws)∧zF (Av B φ) H ts ws
 | .st=>∃p,o=some (some (.ref p))∧φ i=some p∧(B.S0 p∨B.H0 p=none)
 | .sc ns=>∃a,o=some (some (.ref a))∧ns.length≤63∧xbt K H a ns
 | .ob a=>o=some (some (.ref a))
structure RS (K:PySem.W.Frag)(B:FB)(φ:Phi)(σ:St)(τ:TSt)(H:Hp):Prop where
 f0:∀a,B.F0 a→B.H0 a≠none
 s0:∀a,B.S0 a→B.F0 a
 ext:∀a o,B.H0 a=some o→¬B.S0 a→H a=some o
 sst:∀a,SA B φ τ a→oF a H
 inj:∀i j a ts,nth τ i=.ow ts→φ i=some a→φ j=some a→i=j
 ow:∀i a,φ i=some a→H a≠none
 len:σ.length=τ.length
 ent:∀i,Ent K B φ H i (σ[i]?) (nth τ i)
 gh:∀p∈B.G0,Rep (Av B φ) H p.1 p.2
structure HX (B:FB)(φ:Phi)(τ:TSt)(H H':Hp):Prop where
 keep:∀a o,H a=some o→¬SA B φ τ a→H' a=some o
 st:∀a,SA B φ τ a→oF a H'
section
variable {K:PySem.W.Frag} {B:FB} {φ:Phi} {σ:St} {τ:TSt} {H H' H'':Hp}
theorem oF.ne_none {p:Addr}(h:oF p H):H p≠none:=by
 obtain⟨n,b,e,_⟩:=h
 rw[e];exact fun z=>nomatch z
theorem RS.sAv (R:RS K B φ σ τ H){a:Addr}(h:SA B φ τ a):Av B φ a:=by
 rcases h with h | ⟨i,h,_⟩
 ·exact .inl (R.s0 a h)
 ·exact .inr ⟨i,h⟩
theorem RS.wAv (R:RS K B φ σ τ H){a:Addr}(h:Wk B φ τ a):Av B φ a:=by
 rcases h with h | h
 ·exact .inl h
 ·exact R.sAv h
theorem RS.sB (R:RS K B φ σ τ H){b:Bool}{a:Addr}(h:SA B φ τ a):AvB b B φ τ a:=by
 cases b with
 | true=>exact R.sAv h
 | false=>exact .inr h
theorem RS.dom (R:RS K B φ σ τ H){a:Addr}(h:Av B φ a):H a≠none:=by
 rcases h with h | ⟨i,h⟩
 ·by_cases s:B.S0 a
  ·exact(R.sst a (.inl s)).ne_none
  ·cases e:B.H0 a with
   | none=>exact absurd e (R.f0 a h)
   | some o=>rw[R.ext a o e s];exact fun z=>nomatch z
 ·exact R.ow i a h
theorem RS.domB (R:RS K B φ σ τ H){b:Bool}{a:Addr}(h:AvB b B φ τ a):H a≠none:=by
 cases b with
 | true=>exact R.dom h
 | false=>exact R.dom (R.wAv h)
theorem HX.refl (R:RS K B φ σ τ H):HX B φ τ H H:=⟨fun _ _ h _=>h,R.sst⟩
theorem HX.trans (h:HX B φ τ H H')(h':HX B φ τ H' H''):HX B φ τ H H'':=⟨fun a o e n=>h'.keep a o (h.keep a o e n) n,h'.st⟩
theorem HX.none (h:HX B φ τ H H'){a:Addr}(e:H' a=none):H a=none:=by
 cases q:H a with
 | none=>rfl
 | some o =>
  by_cases s:SA B φ τ a
  ·exact absurd e (h.st a s).ne_none
  ·rw[h.keep a o q s] at e;cases e
theorem HX.new (R:RS K B φ σ τ H){p:Addr}(hp:H p=Option.none)(o:HO):HX B φ τ H (upd H p o) :=
 ⟨fun a u e _=>by rw[xU (xE e hp)];exact e,fun a s=>by
  obtain⟨n,b,e,z⟩:=R.sst a s
  exact⟨n,b,by rw[xU (xE e hp)];exact e,z⟩⟩
theorem HX.rep (h:HX B φ τ H H'){F:Addr→Prop}(hF:∀a,SA B φ τ a→F a){t:Tr}{v:V}(r:Rep F H t v):Rep F H' t v:=yL (fun a o e n=>⟨h.keep a o e (fun s=>n (hF a s)),n⟩) t v r
theorem HX.repL (h:HX B φ τ H H'){F:Addr→Prop}(hF:∀a,SA B φ τ a→F a){t:List Tr}{v:List V}(r:zF F H t v):zF F H' t v:=yu (fun a o e n=>⟨h.keep a o e (fun s=>n (hF a s)),n⟩) t v r
theorem aE (R:RS K B φ σ τ H){a:Addr}{o:Obj}{u:HO}(e:H a=some (.frz o u)):¬SA B φ τ a:=fun s=>by
 obtain⟨n,b,q,_⟩:=R.sst a s
 rw[e] at q;cases q
theorem xdI (R:RS K B φ σ τ H){a:Addr}{q:Str}(e:H a=some (.tb q)):¬SA B φ τ a:=fun s=>by
 obtain⟨n,b,y,_⟩:=R.sst a s
 rw[e] at y;cases y
theorem xcF.hx (t:xcF K H)(R:RS K B φ σ τ H)(h:HX B φ τ H H'):xcF K H':=fun P q e=>h.keep P _ (t P q e) (xdI R (t P q e))
theorem RS.hx (R:RS K B φ σ τ H)(h:HX B φ τ H H'):RS K B φ σ τ H' where
 f0:=R.f0
 s0:=R.s0
 ext:=fun a o e n=>by
  by_cases s:SA B φ τ a
  ·have q:=R.ext a o e n
   rcases s with s | ⟨i,s,hi⟩
   ·exact absurd s n
   ·have en:=R.ent i
    rw[hi] at en
    obtain⟨p,_,e2,e3⟩:=en
    rw[s] at e2;cases e2
    rcases e3 with z | z
    ·exact absurd z n
    ·rw[z] at e;cases e
  ·exact h.keep a o (R.ext a o e n) s
 sst:=h.st
 inj:=R.inj
 ow:=fun i a e z=>R.ow i a e (h.none z)
 len:=R.len
 ent:=fun i=>by
  have en:=R.ent i
  revert en
  cases hi:nth τ i with
  | un=>exact fun _=>trivial
  | fz t=>exact fun⟨v,e,r⟩=>⟨v,e,h.rep (fun a s=>R.sAv s) r⟩
  | ow ts =>
   intro ⟨a,ws,e1,e2,e3,e4,r⟩
   refine⟨a,ws,e1,e2,e3,?_,h.repL (fun a s=>R.sAv s) r⟩
   by_cases s:SA B φ τ a
   ·rcases s with s | ⟨j,s,hj⟩
    ·exact absurd e3 (R.f0 a (R.s0 a s))
    ·have:=R.inj i j a ts hi e2 s
     subst this
     rw[hi] at hj;cases hj
   ·exact h.keep a _ e4 s
  | st=>exact fun z=>z
  | ob a=>exact fun z=>z
  | sc ns =>
   intro ⟨a,e,l,q,tb⟩
   refine⟨a,e,l,?_,tb.hx R h⟩
   rcases q with ⟨o,q⟩ | q
   ·exact .inl ⟨o,h.keep a _ q (aE R q)⟩
   ·exact .inr q
 gh:=fun p hp=>h.rep (fun a s=>R.sAv s) (R.gh p hp)
end
end L2
namespace L2
open PySem PySem.Spec PyProof.Rows
abbrev DE:=TSt→(Tr→Prop)→Prop
abbrev DT:=TSt→(Bool→Prop)→Prop
abbrev DA:=TSt→(List Tr→Prop)→Prop
structure fj where
 nx:TSt→Prop
 rt:Tr→Prop
 bk:TSt→Prop:=fun _=>False
 ct:TSt→Prop:=fun _=>False
abbrev DS:=fj→TSt→Prop
abbrev DG:=Tr→TSt→(TSt→Prop)→Prop
abbrev DGs:=List Tr→TSt→(TSt→Prop)→Prop
def OkE (K:PySem.W.Frag)(b:Bool)(te:TE)(d:DE):Prop:=∀(B:FB) (φ:Phi) (σ:St) (τ:TSt) (H:Hp) (Q:VK) (KK:Tr→Prop),RS K B φ σ τ H→d τ KK →
 (∀t v H',HX B φ τ H H'→KK t→Rep (AvB b B φ τ) H' t v→Q v H')→te σ H Q
def OkF (K:PySem.W.Frag)(te:TE)(d:DE):Prop:=∀(B:FB) (φ:Phi) (σ:St) (τ:TSt) (H:Hp) (Q:VK) (KK:Tr→Prop),RS K B φ σ τ H→d τ KK →
 (∀ts a ws H',HX B φ τ H H'→KK (.lst ts)→H a=none→H' a=some (.lst ws)→zF (fun c=>Av B φ c∨c=a) H' ts ws→Q (.ref a) H')→te σ H Q
def OkT (K:PySem.W.Frag)(t:TT)(d:DT):Prop:=∀(B:FB) (φ:Phi) (σ:St) (τ:TSt) (H:Hp) (Q:Bool→Hp→Prop) (KK:Bool→Prop),RS K B φ σ τ H→d τ KK →
 (∀b H',HX B φ τ H H'→KK b→Q b H')→t σ H Q
def OkA (K:PySem.W.Frag)(b:Bool)(n:Nat)(ta:TA)(d:DA):Prop:=∀(B:FB) (φ:Phi) (σ:St) (τ:TSt) (H:Hp) (Q:List V→Hp→Prop) (KK:List Tr→Prop),RS K B φ σ τ H→d τ KK →
 (∀ts vs H',HX B φ τ H H'→KK ts→ts.length=n→zF (AvB b B φ τ) H' ts vs→Q vs H')→ta σ H Q
def HXA (B:FB)(φ:Phi)(H H':Hp):Prop:=∀a o,H a=some o→¬Av B φ a→H' a=some o
def OkG (K:PySem.W.Frag)(g:TG)(d:DG):Prop:=∀(B:FB) (φ:Phi) (σ:St) (τ:TSt) (H:Hp) (t:Tr) (v:V) (Q:St→Hp→Prop) (KK:TSt→Prop),RS K B φ σ τ H→Rep (Av B φ) H t v→d t τ KK →
 (∀ φ' σ' τ' H',RS K B φ' σ' τ' H'→(∀a,Av B φ' a→Av B φ a)→HXA B φ H H'→KK τ'→Q σ' H')→g v σ H Q
def xfp (K:PySem.W.Frag)(g:TGs)(d:DGs):Prop:=∀(B:FB) (φ:Phi) (σ:St) (τ:TSt) (H:Hp) (t:List Tr) (v:List V) (Q:St→Hp→Prop) (KK:TSt→Prop),RS K B φ σ τ H→zF (Av B φ) H t v→d t τ KK →
 (∀ φ' σ' τ' H',RS K B φ' σ' τ' H'→(∀a,Av B φ' a→Av B φ a)→HXA B φ H H'→KK τ'→Q σ' H')→g v σ H Q
def FrL (F:Addr→Prop)(H H':Hp)(t:Tr)(v:V):Prop:=∃a ts ws,v=.ref a∧t=.lst ts∧H a=none∧H' a=some (.lst ws)∧zF (fun c=>F c∨c=a) H' ts ws
structure xgJ (B:FB)(H:Hp):Prop where
 ext:∀a o,B.H0 a=some o→¬B.S0 a→H a=some o
 st:∀a,B.S0 a→oF a H
structure EOk (K:PySem.W.Frag)(B:FB)(fr:Bool)(E:Ends)(G:fj):Prop where
 nx:∀ φ σ τ H,RS K B φ σ τ H→G.nx τ→E.nx σ H
 bk:∀ φ σ τ H,RS K B φ σ τ H→G.bk τ→E.bk σ H
 ct:∀ φ σ τ H,RS K B φ σ τ H→G.ct τ→E.ct σ H
 rt:∀t v H,Rep B.F0 H t v→xgJ B H→G.rt t→(fr=true→FrL B.F0 B.H0 H t v)→E.rt v H
def OkS (K:PySem.W.Frag)(fr:Bool)(T:TS)(D:DS):Prop:=∀(B:FB) (φ:Phi) (σ:St) (τ:TSt) (H:Hp) (E:Ends) (G:fj),RS K B φ σ τ H→D G τ→EOk K B fr E G→T E σ H
section
variable {K:PySem.W.Frag} {B:FB} {φ:Phi} {σ:St} {τ:TSt} {H H' H'':Hp}
theorem RS.extB (R:RS K B φ σ τ H):xgJ B H:=⟨R.ext,fun a s=>R.sst a (.inl s)⟩
theorem xgG {b:Bool}{t:Tr}{v:V}(R:RS K B φ σ τ H)(h:Rep (AvB b B φ τ) H' t v):Rep (Wk B φ τ) H' t v:=by
 cases b with
 | true=>exact yL (fun a o e n=>⟨e,fun w=>n (R.wAv w)⟩) t v h
 | false=>exact h
theorem xfC {b:Bool}{t:List Tr}{v:List V}(R:RS K B φ σ τ H)(h:zF (AvB b B φ τ) H' t v):zF (Wk B φ τ) H' t v:=by
 cases b with
 | true=>exact yu (fun a o e n=>⟨e,fun w=>n (R.wAv w)⟩) t v h
 | false=>exact h
theorem OkF.e {te:TE}{d:DE}(h:OkF K te d):OkE K true te d:=fun B φ σ τ H Q KK R hd q=>h B φ σ τ H Q KK R hd fun ts a ws H' x k e e' r=>q _ _ H' x k ⟨a,ws,rfl,fun z=>R.dom z e,e',yu (fun c o e n=>⟨e,fun z=>n (.inl z)⟩) _ _ r⟩
def xdZ (i:Nat):DE:=fun τ KK=>match nth τ i with | .fz t=>KK t | _=>False
def xeW (i:Nat):DE:=fun τ KK=>match nth τ i with | .fz t=>KK t | .ow ts=>KK (.lst ts) | _=>False
def dC (t:Tr):DE:=fun _ KK=>KK t
theorem xa {i:Nat}:OkE K true (tF i) (xdZ i):=fun B φ σ τ H Q KK R hd q=>by
 have en:=R.ent i
 unfold xdZ at hd
 revert en hd
 cases nth τ i with
 | fz t=>exact fun k ⟨v,e,r⟩=>⟨v,e,q t v H (HX.refl R) k r⟩
 | _=>exact fun z _=>z.elim
theorem cD (R:RS K B φ σ τ H){i:Nat}{a:Addr}{ts:List Tr}(hi:nth τ i=.ow ts)(e2:φ i=some a)(e3:B.H0 a=none):¬Wk B φ τ a:=fun z=>by
 rcases z with z | z | ⟨j,z,hj⟩
 ·exact R.f0 a z e3
 ·exact R.f0 a (R.s0 a z) e3
 ·have:=R.inj i j a ts hi e2 z
  subst this
  rw[hi] at hj;cases hj
theorem lM {i:Nat}:OkE K false (tF i) (xeW i):=fun B φ σ τ H Q KK R hd q=>by
 have en:=R.ent i
 unfold xeW at hd
 revert en hd
 cases hi:nth τ i with
 | fz t=>exact fun k ⟨v,e,r⟩=>⟨v,e,q t v H (HX.refl R) k (xgG (b:=true) R r)⟩
 | ow ts =>
  intro k ⟨a,ws,e1,e2,e3,e4,r⟩
  exact⟨_,e1,q _ _ H (HX.refl R) k ⟨a,ws,rfl,cD R hi e2 e3,e4,xfC (b:=true) R r⟩⟩
 | _=>exact fun z _=>z.elim
theorem xa2 {t:Tr}{v:V}(h:oq t=some v:=by rfl):OkE K true (tC v) (dC t):=fun B φ σ τ H Q KK R hd q=>q t v H (HX.refl R) hd (vy h)
def d2 (f:Tr→Tr→(Tr→Prop)→Prop)(da db:DE):DE:=fun τ KK=>da τ fun x=>db τ fun y=>f x y KK
def OpS (r:R2)(f:Tr→Tr→(Tr→Prop)→Prop):Prop:=∀(F G:Addr→Prop) (H:Hp) (x y:V) (t u:Tr) (KK:Tr→Prop) (Q:VK),Rep F H t x→Rep G H u y→f t u KK→(∀w v,oq w=some v→KK w→Q v H)→r x y H Q
theorem xi {b c:Bool}{r:R2}{f:Tr→Tr→(Tr→Prop)→Prop}{ta tb:TE}{da db:DE}(hr:OpS r f)(ha:OkE K b ta da)(hb:OkE K c tb db):OkE K true (tOp r ta tb) (d2 f da db):=fun B φ σ τ H Q KK R hd q =>
 ha B φ σ τ H _ _ R hd fun t v H1 x1 k1 r1=>hb B φ σ τ H1 _ _ (R.hx x1) k1 fun u w H2 x2 k2 r2 =>
  hr _ _ H2 v w t u KK Q (x2.rep (fun a s=>R.sB s) r1) r2 k2 fun z v' e k=>q z v' H2 (x1.trans x2) k (vy e)
def fI (C:Int→Int→Prop)(g:Int→Int→Tr)(x y:Tr)(KK:Tr→Prop):Prop:=match x,y with | .int i,.int j=>C i j∧KK (g i j) | _,_=>False
def fI0 (g:Int→Int→Tr)(x y:Tr)(KK:Tr→Prop):Prop:=match x,y with | .int i,.int j=>KK (g i j) | _,_=>False
theorem xdQ {C:Int→Int→Prop}{g:Int→Int→V}{g':Int→Int→Tr}(h:∀i j,oq (g' i j)=some (g i j)):OpS (rI C g) (fI C g'):=by
 intro F G H x y t u KK Q r1 r2 hf q
 unfold fI at hf
 split at hf
 ·rename_i i j
  cases (show x=.int i from r1);cases (show y=.int j from r2)
  exact⟨i,j,rfl,rfl,hf.1,q _ _ (h i j) hf.2⟩
 ·exact hf.elim
theorem mh {g:Int→Int→V}{g':Int→Int→Tr}(h:∀i j,oq (g' i j)=some (g i j)):OpS (rI0 g) (fI0 g'):=by
 intro F G H x y t u KK Q r1 r2 hf q
 unfold fI0 at hf
 split at hf
 ·rename_i i j
  cases (show x=.int i from r1);cases (show y=.int j from r2)
  exact⟨i,j,rfl,rfl,q _ _ (h i j) hf⟩
 ·exact hf.elim
abbrev xg1:=fI0 fun i j=>.int (i+j)
abbrev xhj:=fI0 fun i j=>.int (i-j)
abbrev fLe:=fI0 fun i j=>.bl (decide (i≤j))
abbrev fGt:=fI0 fun i j=>.bl (decide (j<i))
abbrev fGe:=fI0 fun i j=>.bl (decide (j≤i))
theorem zH:OpS (rI0 fun i j=>.int (i+j)) xg1:=mh fun _ _=>rfl
theorem uy:OpS (rI0 fun i j=>.int (i-j)) xhj:=mh fun _ _=>rfl
theorem dm:OpS (rI0 fun i j=>.bl (decide (i≤j))) fLe:=mh fun _ _=>rfl
theorem bF:OpS (rI0 fun i j=>.bl (decide (j<i))) fGt:=mh fun _ _=>rfl
theorem xel:OpS (rI0 fun i j=>.bl (decide (j≤i))) fGe:=mh fun _ _=>rfl
def Bd (i:Int):Prop:=i.natAbs<2 ^ 2000
theorem xas {i:Int}(h1:-(10 ^ 100)≤i)(h2:i≤10 ^ 100):Bd i:=by
 have:i.natAbs≤10 ^ 100:=by omega
 exact xjh this (by decide +kernel)
theorem log2_lt_of {n k:Nat}(h:n<2 ^ k)(hk:0<k):n.log2<k:=by
 by_cases h0:n=0
 ·subst h0;simpa using hk
 ·exact(Nat.log2_lt h0).mpr h
theorem Bd.bits {i:Int}(h:Bd i):Builtin.Int.intBits i≤2000:=by
 unfold Builtin.Int.intBits
 split
 ·exact xjo _
 ·have:=log2_lt_of h (by decide)
  omega
def CM (i j:Int):Prop:=Bd i∧Bd j
theorem CM.ok {i j:Int}(h:CM i j):IntMulOk i j:=PyProof.Rows.mulOk_of_bits h.1.bits h.2.bits (by decide)
section
variable {X:Cx}
theorem xM:OpR X (binaryOp .Mult) (rI CM fun i j=>.int (i*j)):=opI fun _ _ _ _ _ _ _ hc q=>mul_int q hc.ok
def CDv (_i j:Int):Prop:=j≠0∧Bd j
theorem zq:OpR X (binaryOp .FloorDiv) (rI CDv fun i j=>.int (i.fdiv j)):=opI fun i j _ _ _ _ _ hc q =>
 floordiv_int hc.1 q (.inl (PyProof.noPylong_of_log2 (Nat.lt_trans (log2_lt_of hc.2 (by decide)) (by decide))))
end
abbrev xg3:=fI CM fun i j=>.int (i*j)
abbrev xg9:=fI CDv fun i j=>.int (i.fdiv j)
abbrev xg0:=fI (fun _ j=>j≠0) fun i j=>.int (i.fmod j)
theorem yb:OpS (rI CM fun i j=>.int (i*j)) xg3:=xdQ fun _ _=>rfl
theorem wV:OpS (rI CDv fun i j=>.int (i.fdiv j)) xg9:=xdQ fun _ _=>rfl
theorem xau:OpS (rI (fun _ j=>j≠0) fun i j=>.int (i.fmod j)) xg0:=xdQ fun _ _=>rfl
def d1 (f:Tr→(Tr→Prop)→Prop)(da:DE):DE:=fun τ KK=>da τ fun x=>f x KK
def xhi (x:Tr)(KK:Tr→Prop):Prop:=match x with | .int i=>KK (.int (-i)) | _=>False
theorem wM {b:Bool}{ta:TE}{da:DE}(ha:OkE K b ta da):OkE K true (tUn (rU fun i=>.int (-i)) ta) (d1 xhi da):=fun B φ σ τ H Q KK R hd q =>
 ha B φ σ τ H _ _ R hd fun t v H1 x1 k1 r1=>by
  cases t with
  | int i=>cases (show v=.int i from r1);exact⟨i,rfl,q _ _ H1 x1 k1 rfl⟩
  | _=>exact k1.elim
def xai:Tr→Bool
 | .non=>true
 | _=>false
theorem mJ {F:Addr→Prop}{t:Tr}{v:V}(r:Rep F H t v):decide (v=.non)=xai t:=by
 cases t with
 | non=>cases (show v=.non from r);rfl
 | bl b=>cases (show v=.bl b from r);rfl
 | int b=>cases (show v=.int b from r);rfl
 | str b=>cases (show v=.str b from r);rfl
 | emp=>obtain⟨a,e,_⟩:=r;subst e;rfl
 | tup ts=>obtain⟨a,ws,e,_⟩:=r;subst e;rfl
 | lst ts=>obtain⟨a,ws,e,_⟩:=r;subst e;rfl
theorem sH {b:Bool}{ta:TE}{da:DE}(ha:OkE K b ta da):OkE K true (xgk ta) (d1 (fun x KK=>KK (.bl (xai x))) da):=fun B φ σ τ H Q KK R hd q =>
 ha B φ σ τ H _ _ R hd fun t v H1 x1 k1 r1=>by
  show Q (.bl (decide (v=.non))) H1
  rw[mJ r1];exact q _ _ H1 x1 k1 rfl
theorem rj {b:Bool}{ta:TE}{da:DE}(ha:OkE K b ta da):OkE K true (xfa ta) (d1 (fun x KK=>KK (.bl (!xai x))) da):=fun B φ σ τ H Q KK R hd q =>
 ha B φ σ τ H _ _ R hd fun t v H1 x1 k1 r1=>by
  show Q (.bl (!decide (v=.non))) H1
  rw[mJ r1];exact q _ _ H1 x1 k1 rfl
def fB (x:Tr)(KK:Bool→Prop):Prop:=match x with | .bl b=>KK b | _=>False
def xgP (d:DE):DT:=fun τ KK=>d τ fun x=>fB x KK
theorem yQ {b:Bool}{ta:TE}{da:DE}(ha:OkE K b ta da):OkT K (tB ta) (xgP da):=fun B φ σ τ H Q KK R hd q =>
 ha B φ σ τ H _ _ R hd fun t v H1 x1 k1 r1=>by
  cases t with
  | bl i=>cases (show v=.bl i from r1);exact⟨i,rfl,q _ H1 x1 k1⟩
  | _=>exact k1.elim
theorem xG {b:Bool}{ta:TE}{da:DE}(ha:OkE K b ta da):OkT K (xdX ta) (xgP da):=yQ ha
def xg4 (a b:DT):DT:=fun τ KK=>a τ fun c=>if c=true then b τ KK else KK false
def dOr (a b:DT):DT:=fun τ KK=>a τ fun c=>if c=true then KK true else b τ KK
def xhg (a:DT):DT:=fun τ KK=>a τ fun c=>KK (!c)
theorem fH {ta tb:TT}{da db:DT}(ha:OkT K ta da)(hb:OkT K tb db):OkT K (xgR ta tb) (xg4 da db):=fun B φ σ τ H Q KK R hd q =>
 ha B φ σ τ H _ _ R hd fun c H1 x1 k1=>by
  cases c with
  | true=>exact oH (hb B φ σ τ H1 _ _ (R.hx x1) k1 fun d H2 x2 k2=>q d H2 (x1.trans x2) k2)
  | false=>exact ou (q false H1 x1 k1)
theorem zB {ta tb:TT}{da db:DT}(ha:OkT K ta da)(hb:OkT K tb db):OkT K (tOr ta tb) (dOr da db):=fun B φ σ τ H Q KK R hd q =>
 ha B φ σ τ H _ _ R hd fun c H1 x1 k1=>by
  cases c with
  | false=>exact ou (hb B φ σ τ H1 _ _ (R.hx x1) k1 fun d H2 x2 k2=>q d H2 (x1.trans x2) k2)
  | true=>exact oH (q true H1 x1 k1)
theorem zo {ta:TT}{da:DT}(ha:OkT K ta da):OkT K (xgj ta) (xhg da):=fun B φ σ τ H Q KK R hd q =>
 ha B φ σ τ H _ _ R hd fun c H1 x1 k1=>q (!c) H1 x1 k1
def xfR (a b:DE):DE:=fun τ KK=>a τ fun x=>fB x fun c=>if c=true then b τ KK else KK (.bl false)
def xg_ (a b:DE):DE:=fun τ KK=>a τ fun x=>fB x fun c=>if c=true then KK (.bl true) else b τ KK
def xfU (a:DE):DE:=fun τ KK=>a τ fun x=>fB x fun c=>KK (.bl (!c))
theorem kQ {b c:Bool}{ta tb:TE}{da db:DE}(ha:OkE K b ta da)(hb:OkE K c tb db):OkE K c (xfg ta tb) (xfR da db):=fun B φ σ τ H Q KK R hd q =>
 ha B φ σ τ H _ _ R hd fun t v H1 x1 k1 r1=>by
  cases t with
  | bl i =>
   cases (show v=.bl i from r1)
   refine⟨i,rfl,?_⟩
   cases i with
   | true=>exact oH (hb B φ σ τ H1 _ _ (R.hx x1) k1 fun d w H2 x2 k2 r2=>q d w H2 (x1.trans x2) k2 r2)
   | false=>exact ou (q _ _ H1 x1 k1 (vy rfl))
  | _=>exact k1.elim
theorem lX {b c:Bool}{ta tb:TE}{da db:DE}(ha:OkE K b ta da)(hb:OkE K c tb db):OkE K c (xgm ta tb) (xg_ da db):=fun B φ σ τ H Q KK R hd q =>
 ha B φ σ τ H _ _ R hd fun t v H1 x1 k1 r1=>by
  cases t with
  | bl i =>
   cases (show v=.bl i from r1)
   refine⟨i,rfl,?_⟩
   cases i with
   | false=>exact ou (hb B φ σ τ H1 _ _ (R.hx x1) k1 fun d w H2 x2 k2 r2=>q d w H2 (x1.trans x2) k2 r2)
   | true=>exact oH (q _ _ H1 x1 k1 (vy rfl))
  | _=>exact k1.elim
theorem xdK {b:Bool}{ta:TE}{da:DE}(ha:OkE K b ta da):OkE K true (xe2 ta) (xfU da):=fun B φ σ τ H Q KK R hd q =>
 ha B φ σ τ H _ _ R hd fun t v H1 x1 k1 r1=>by
  cases t with
  | bl i=>cases (show v=.bl i from r1);exact⟨i,rfl,q _ _ H1 x1 k1 rfl⟩
  | _=>exact k1.elim
def xeB (f f':Tr→Tr→(Tr→Prop)→Prop)(da db dc:DE):DE:=fun τ KK=>da τ fun x=>db τ fun y=>f x y fun z=>fB z fun k=>if k=true then dc τ fun w=>f' y w KK else KK (.bl false)
theorem xbB {b1 b2 b3:Bool}{r r':R2}{f f':Tr→Tr→(Tr→Prop)→Prop}{ta tb tc:TE}{da db dc:DE}(hr:OpS r f)(hr':OpS r' f')(ha:OkE K b1 ta da)(hb:OkE K b2 tb db)(hc:OkE K b3 tc dc) :
  OkE K true (xb7 r r' ta tb tc) (xeB f f' da db dc):=fun B φ σ τ H Q KK R hd q =>
 ha B φ σ τ H _ _ R hd fun t v H1 x1 k1 r1=>hb B φ σ τ H1 _ _ (R.hx x1) k1 fun u w H2 x2 k2 r2 =>
  hr _ _ H2 v w t u _ _ (x2.rep (fun a s=>R.sB s) r1) r2 k2 fun z v' e k=>by
   cases z with
   | bl i =>
    cases e
    refine⟨i,rfl,?_⟩
    cases i with
    | true=>exact oH (hc B φ σ τ H2 _ _ (R.hx (x1.trans x2)) k fun w3 v3 H3 x3 k3 r3=>hr' _ _ H3 w v3 u w3 KK Q (x3.rep (fun a s=>R.sB s) r2) r3 k3 fun z' v'' e' k'=>q z' v'' H3 ((x1.trans x2).trans x3) k' (vy e'))
    | false=>exact ou (q _ _ H2 (x1.trans x2) k (vy rfl))
   | _=>exact k.elim
def xeA:DA:=fun _ KK=>KK []
def pE (a:DE)(r:DA):DA:=fun τ KK=>a τ fun x=>r τ fun xs=>KK (x::xs)
theorem va {b:Bool}:OkA K b 0 lS xeA:=fun B φ σ τ H Q KK R hd q=>q [] [] H (HX.refl R) hd rfl rfl
theorem xV {b:Bool}{n:Nat}{te:TE}{ta:TA}{de:DE}{da:DA}(he:OkE K b te de)(ha:OkA K b n ta da):OkA K b (n+1) (q9 te ta) (pE de da):=fun B φ σ τ H Q KK R hd q =>
 he B φ σ τ H _ _ R hd fun t v H1 x1 k1 r1=>ha B φ σ τ H1 _ _ (R.hx x1) k1 fun ts vs H2 x2 k2 l2 r2=>q (t::ts) (v::vs) H2 (x1.trans x2) k2 (by rw[xir,l2]) ⟨v,vs,rfl,x2.rep (fun a s=>R.sB s) r1,r2⟩
def xhf (a:DA):DE:=fun τ KK=>a τ fun xs=>KK (.tup xs)
def xfD (a:DA):DE:=fun τ KK=>a τ fun xs=>KK (.lst xs)
theorem rz {F:Addr→Prop}{p:Addr}{o:HO}{t:Tr}{v:V}(hp:H p=none)(r:Rep F H t v):Rep F (upd H p o) t v:=yL (fun a u e n=>⟨by rw[xU (xE e hp)];exact e,n⟩) t v r
theorem k8 {F:Addr→Prop}{p:Addr}{o:HO}{t:List Tr}{v:List V}(hp:H p=none)(r:zF F H t v):zF F (upd H p o) t v:=yu (fun a u e n=>⟨by rw[xU (xE e hp)];exact e,n⟩) t v r
theorem qX {F:Addr→Prop}{p:Addr}{o:HO}{t:List Tr}{v:List V}(hp:H p=none)(r:zF F H t v):zF (fun c=>F c∨c=p) (upd H p o) t v:=yu (fun a u e n=>⟨by rw[xU (xE e hp)];exact e,fun z=>z.elim n (xE e hp)⟩) t v r
theorem yd {b:Bool}{n:Nat}{ta:TA}{da:DA}(ha:OkA K b n ta da)(hn:n≤sizeLine:=by decide):OkE K b (xgI ta) (xhf da):=fun B φ σ τ H Q KK R hd q =>
 ha B φ σ τ H _ _ R hd fun ts vs H1 x1 k1 l1 r1=>⟨by rw[←r1.len,l1];exact hn,fun p hp =>
  q _ _ _ (x1.trans (HX.new (R.hx x1) hp _)) k1 ⟨p,vs,rfl,fun z=>(R.hx x1).domB z hp,yk,k8 hp r1⟩⟩
theorem jx {n:Nat}{ta:TA}{da:DA}(ha:OkA K true n ta da)(hn:n≤sizeLine:=by decide):OkF K (xfS ta) (xfD da):=fun B φ σ τ H Q KK R hd q =>
 ha B φ σ τ H _ _ R hd fun ts vs H1 x1 k1 l1 r1=>⟨by rw[←r1.len,l1];exact hn,fun p hp =>
  q ts p vs _ (x1.trans (HX.new (R.hx x1) hp _)) k1 (x1.none hp) yk (qX hp r1)⟩
theorem vZ {b:Bool}{n:Nat}{ta:TA}{da:DA}(ha:OkA K b n ta da)(hn:n≤sizeLine:=by decide):OkE K b (xfS ta) (xfD da):=fun B φ σ τ H Q KK R hd q =>
 ha B φ σ τ H _ _ R hd fun ts vs H1 x1 k1 l1 r1=>⟨by rw[←r1.len,l1];exact hn,fun p hp =>
  q _ _ _ (x1.trans (HX.new (R.hx x1) hp _)) k1 ⟨p,vs,rfl,fun z=>(R.hx x1).domB z hp,yk,k8 hp r1⟩⟩
end
end L2
namespace L2
open PySem PySem.Spec PyProof.Rows
def getT {α:Type}:List α→Nat→Option α
 | [],_=>none
 | x::_,0=>some x
 | _::r,n+1=>getT r n
theorem ai {α:Type}:∀(l:List α) (n:Nat),getT l n=l[n]?
 | [],_=>by simp[getT]
 | _::_,0=>by simp[getT]
 | _::r,n+1=>by simp[getT,ai r n]
def atT {α:Type}(ts:List α):Int→Option α
 | .ofNat n=>getT ts n
 | .negSucc n=>if n<ts.length then getT ts (ts.length-1-n) else none
theorem xb5 {α:Type}(ts:List α)(i:Int):atT ts i=atI ts i:=by
 unfold atI ixN
 cases i with
 | ofNat n =>
  show getT ts n=_
  rw[ai]
  have h0:(0:Int)≤Int.ofNat n:=Int.natCast_nonneg n
  rw[if_pos h0]
  by_cases h:(Int.ofNat n)<(ts.length:Int)
  ·rw[if_pos h];rfl
  ·rw[if_neg h]
   have:ts.length≤n:=by
    have h':¬((n:Int)<(ts.length:Int)):=h
    omega
   rw[xij this];rfl
 | negSucc n =>
  show(if n<ts.length then getT ts (ts.length-1-n) else none)=_
  have h0:¬(0:Int)≤Int.negSucc n:=by omega
  rw[if_neg h0]
  by_cases h:n<ts.length
  ·rw[if_pos h,ai,if_pos (by omega)]
   show ts[ts.length-1-n]? = ts[(Int.negSucc n+(ts.length:Int)).toNat]?
   congr 1
   omega
  ·rw[if_neg h,if_neg (by omega)];rfl
section
variable {K:PySem.W.Frag} {B:FB} {φ:Phi} {σ:St} {τ:TSt} {H H' H'':Hp}
theorem zF.at {F:Addr→Prop}{ts:List Tr}{ws:List V}{i:Int}{t:Tr}(r:zF F H ts ws)(h:atT ts i=some t):∃w,atI ws i=some w∧Rep F H t w:=by
 rw[xb5] at h
 unfold atI at h ⊢
 rw[←r.len]
 cases e:ixN ts.length i with
 | none=>rw[e] at h;cases h
 | some j =>
  rw[e] at h
  exact r.getT h
def sU (o:Option Tr)(KK:Tr→Prop):Prop:=match o with | some t=>KK t | none=>False
def fIx (x y:Tr)(KK:Tr→Prop):Prop:=match x,y with | .tup ts,.int i=>sU (atT ts i) KK | .lst ts,.int i=>sU (atT ts i) KK | _,_=>False
theorem zE {b c:Bool}{ta tb:TE}{da db:DE}(ha:OkE K b ta da)(hb:OkE K c tb db):OkE K b (tOp (rIx K) ta tb) (d2 fIx da db):=fun B φ σ τ H Q KK R hd q =>
 ha B φ σ τ H _ _ R hd fun t v H1 x1 k1 r1=>hb B φ σ τ H1 _ _ (R.hx x1) k1 fun u w H2 x2 k2 r2=>by
  have r1':=x2.rep (fun a s=>R.sB s) r1
  unfold fIx at k2
  split at k2
  ·rename_i ts i
   obtain⟨a,ws,e,n,ha',rl⟩:=r1'
   cases (show w=.int i from r2)
   subst e
   cases e:atT ts i with
   | none=>rw[e] at k2;exact k2.elim
   | some z =>
    rw[e] at k2
    obtain⟨y,e1,e2⟩:=rl.at e
    exact .inr (.inl ⟨a,ws,i,y,rfl,rfl,SqT.of ha',e1,q z y H2 (x1.trans x2) k2 e2⟩)
  ·rename_i ts i
   obtain⟨a,ws,e,n,ha',rl⟩:=r1'
   cases (show w=.int i from r2)
   subst e
   cases e:atT ts i with
   | none=>rw[e] at k2;exact k2.elim
   | some z =>
    rw[e] at k2
    obtain⟨y,e1,e2⟩:=rl.at e
    exact .inl ⟨a,ws,i,y,rfl,rfl,SqL.of ha',e1,q z y H2 (x1.trans x2) k2 e2⟩
  ·exact k2.elim
def xg6 (ts:List Tr)(y:Tr)(KK:Tr→Prop):Prop:=match y with | .int k=>sU (atT ts k) KK | _=>False
def xgv (i:Nat)(db:DE):DE:=fun τ KK=>match nth τ i with | .ow ts=>db τ fun y=>xg6 ts y KK | _=>False
theorem gx {i:Nat}{a:Addr}{ts:List Tr}(R:RS K B φ σ τ H)(x:HX B φ τ H H')(hi:nth τ i=.ow ts)(e1:σ[i]? = some (some (.ref a))):∃ws,H' a=some (.lst ws)∧zF (Av B φ) H' ts ws∧φ i=some a∧B.H0 a=none:=by
 have en2:=(R.hx x).ent i
 rw[hi] at en2
 obtain⟨a',ws',e1',e2,e3,e4',r'⟩:=en2
 rw[e1] at e1';cases e1'
 exact⟨ws',e4',r',e2,e3⟩
theorem c6 {c:Bool}{i:Nat}{tb:TE}{db:DE}(hb:OkE K c tb db):OkE K true (tOp (rIx K) (tF i) tb) (xgv i db):=fun B φ σ τ H Q KK R hd q=>by
 have en:=R.ent i
 unfold xgv at hd
 revert en hd
 cases hi:nth τ i with
 | ow ts =>
  intro hd ⟨a,ws,e1,e2,e3,e4,r⟩
  refine⟨_,e1,hb B φ σ τ H _ _ R hd fun u w H2 x2 k2 r2=>?_⟩
  obtain⟨ws',e4',r',_⟩:=gx R x2 hi e1
  cases u with
  | int k =>
   cases (show w=.int k from r2)
   have k2:sU (atT ts k) KK:=k2
   cases e:atT ts k with
   | none=>rw[e] at k2;exact k2.elim
   | some z =>
    rw[e] at k2
    obtain⟨y,f1,f2⟩:=r'.at e
    exact .inl ⟨a,ws',k,y,rfl,rfl,SqL.of e4',f1,q z y H2 x2 k2 f2⟩
  | _=>exact k2.elim
 | _=>exact fun z _=>z.elim
abbrev DO:=TSt→(Option Int→Prop)→Prop
def OkO (K:PySem.W.Frag)(t:TO)(d:DO):Prop:=∀(B:FB) (φ:Phi) (σ:St) (τ:TSt) (H:Hp) (Q:Option Int→Hp→Prop) (KK:Option Int→Prop),RS K B φ σ τ H→d τ KK→(∀o H',HX B φ τ H H'→KK o→Q o H')→t σ H Q
def xc5:DO:=fun _ KK=>KK none
def xfT (d:DE):DO:=fun τ KK=>d τ fun x=>match x with | .int i=>KK (some i) | _=>False
theorem gA:OkO K xaK xc5:=fun B φ σ τ H Q KK R hd q=>q none H (HX.refl R) hd
theorem gm {b:Bool}{te:TE}{d:DE}(h:OkE K b te d):OkO K (xew te) (xfT d):=fun B φ σ τ H Q KK R hd q =>
 h B φ σ τ H _ _ R hd fun t v H1 x1 k1 r1=>by
  cases t with
  | int i=>cases (show v=.int i from r1);exact⟨i,rfl,q _ H1 x1 k1⟩
  | _=>exact k1.elim
def mN {α:Type}(xs:List α)(lo hi:Option Int):List α:=(xs.drop (HT.sIx xs.length 0 lo)).take (HT.sIx xs.length xs.length hi-HT.sIx xs.length 0 lo)
theorem zF.cut {F:Addr→Prop}{ts:List Tr}{ws:List V}(r:zF F H ts ws)(lo hi:Option Int):zF F H (mN ts lo hi) (xd3 ws lo hi):=by
 unfold mN xd3
 rw[←r.len]
 exact ug.mpr (gP _ (gF _ (ug.mp r)))
def xho (d:DE)(dl dh:DO):DE:=fun τ KK=>d τ fun x=>dl τ fun lo=>dh τ fun hi=>match x with | .lst ts=>KK (.lst (mN ts lo hi)) | _=>False
theorem xcs {b:Bool}{te:TE}{tl th:TO}{d:DE}{dl dh:DO}(h:OkE K b te d)(hl:OkO K tl dl)(hh:OkO K th dh):OkE K b (tSl (xfh K) te tl th) (xho d dl dh):=fun B φ σ τ H Q KK R hd q =>
 h B φ σ τ H _ _ R hd fun t v H1 x1 k1 r1=>hl B φ σ τ H1 _ _ (R.hx x1) k1 fun lo H2 x2 k2=>hh B φ σ τ H2 _ _ (R.hx (x1.trans x2)) k2 fun hi H3 x3 k3=>by
  have r3:=(x2.trans x3).rep (fun a s=>R.sB s) r1
  have x:=(x1.trans x2).trans x3
  cases t with
  | lst ts =>
   obtain⟨a,ws,e,n,ha,rl⟩:=r3
   exact⟨a,ws,e,SqL.of ha,fun p hp=>q _ _ _ (x.trans (HX.new (R.hx x) hp _)) k3 ⟨p,_,rfl,fun z=>(R.hx x).domB z hp,yk,k8 hp (rl.cut lo hi)⟩⟩
  | _=>exact k3.elim
def xgN (i:Nat)(dl dh:DO):DE:=fun τ KK=>match nth τ i with | .ow ts=>dl τ fun lo=>dh τ fun hi=>KK (.lst (mN ts lo hi)) | _=>False
theorem oP {i:Nat}{tl th:TO}{dl dh:DO}(hl:OkO K tl dl)(hh:OkO K th dh):OkF K (tSl (xfh K) (tF i) tl th) (xgN i dl dh):=fun B φ σ τ H Q KK R hd q=>by
 have en:=R.ent i
 unfold xgN at hd
 revert en hd
 cases hi:nth τ i with
 | ow ts =>
  intro hd ⟨a,ws,e1,e2,e3,e4,r⟩
  refine⟨_,e1,hl B φ σ τ H _ _ R hd fun lo H2 x2 k2=>hh B φ σ τ H2 _ _ (R.hx x2) k2 fun hi' H3 x3 k3=>?_⟩
  have x:=x2.trans x3
  obtain⟨ws',e4',r',_⟩:=gx R x hi e1
  exact⟨a,ws',rfl,SqL.of e4',fun p hp=>q _ _ _ _ (x.trans (HX.new (R.hx x) hp _)) k3 (x.none hp) yk (qX hp (r'.cut lo hi'))⟩
 | _=>exact fun z _=>z.elim
def xgC (x y:Tr)(KK:Tr→Prop):Prop:=match x,y with | .lst ts,.lst us=>ts.length+us.length≤sizeLine∧KK (.lst (ts++us)) | _,_=>False
theorem xaN {ta tb:TE}{da db:DE}(ha:OkE K true ta da)(hb:OkE K true tb db):OkF K (tOp xgU ta tb) (d2 xgC da db):=fun B φ σ τ H Q KK R hd q =>
 ha B φ σ τ H _ _ R hd fun t v H1 x1 k1 r1=>hb B φ σ τ H1 _ _ (R.hx x1) k1 fun u w H2 x2 k2 r2=>by
  have r1':=x2.rep (F:=Av B φ) (fun a s=>R.sAv s) r1
  have x:=x1.trans x2
  unfold xgC at k2
  split at k2
  ·rename_i ts us
   obtain⟨a,ws,e,n,ha',rl⟩:=r1'
   obtain⟨a2,ws2,e2,n2,ha2,rl2⟩:=r2
   exact⟨a,a2,ws,ws2,e,e2,ha',ha2,by rw[←rl.len,←rl2.len];exact k2.1,fun p hp=>q _ _ _ _ (x.trans (HX.new (R.hx x) hp _)) k2.2 (x.none hp) yk (qX hp (rl.app rl2))⟩
  ·exact k2.elim
def xgr (x y:Tr)(KK:Tr→Prop):Prop:=match x,y with | .lst ts,.int k=>(0≤k∧k<2 ^ 63)∧ts.length*k.toNat≤sizeLine∧KK (.lst (List.replicate k.toNat ts).flatten) | _,_=>False
theorem r9 {F:Addr→Prop}{ts:List Tr}{ws:List V}(r:zF F H ts ws):∀n:Nat,zF F H (List.replicate n ts).flatten (List.replicate n ws).flatten
 | 0=>rfl
 | n+1=>by
  rw[xi1,xi1,xid,xid]
  exact r.app (r9 r n)
theorem xaB {c:Bool}{ta tb:TE}{da db:DE}(ha:OkE K true ta da)(hb:OkE K c tb db):OkF K (tOp xgZ ta tb) (d2 xgr da db):=fun B φ σ τ H Q KK R hd q =>
 ha B φ σ τ H _ _ R hd fun t v H1 x1 k1 r1=>hb B φ σ τ H1 _ _ (R.hx x1) k1 fun u w H2 x2 k2 r2=>by
  have r1':=x2.rep (F:=Av B φ) (fun a s=>R.sAv s) r1
  have x:=x1.trans x2
  unfold xgr at k2
  split at k2
  ·rename_i ts k
   obtain⟨a,ws,e,n,ha',rl⟩:=r1'
   exact⟨a,k,ws,e,r2,ha',by have:=k2.1.1;omega,k2.1.2,by rw[←rl.len];exact k2.2.1,fun p hp=>q _ _ _ _ (x.trans (HX.new (R.hx x) hp _)) k2.2.2 (x.none hp) yk (qX hp (r9 rl _))⟩
  ·exact k2.elim
def dCB (f:List Tr→(Tr→Prop)→Prop)(da:DA):DE:=fun τ KK=>da τ fun xs=>f xs KK
def CbS (r:List V→Hp→VK→Prop)(f:List Tr→(Tr→Prop)→Prop):Prop:=∀(F:Addr→Prop) (H:Hp) (vs:List V) (ts:List Tr) (KK:Tr→Prop) (Q:VK),zF F H ts vs→f ts KK→(∀w v,oq w=some v→KK w→Q v H)→r vs H Q
theorem yF {b:Bool}{n:Nat}{r:List V→Hp→VK→Prop}{f:List Tr→(Tr→Prop)→Prop}{ta:TA}{da:DA}(hr:CbS r f)(ha:OkA K b n ta da):OkE K true (tCB r ta) (dCB f da):=fun B φ σ τ H Q KK R hd q =>
 ha B φ σ τ H _ _ R hd fun ts vs H1 x1 k1 l1 r1=>hr _ H1 vs ts KK Q r1 k1 fun w v e k=>q w v H1 x1 k (vy e)
theorem jB {F:Addr→Prop}{t:Tr}{vs:List V}(h:zF F H [t] vs):∃v,vs=[v]∧Rep F H t v:=by
 obtain⟨w,r,e,h1,h2⟩:=h
 cases (show r=[] from h2)
 exact⟨w,e,h1⟩
theorem oS {F:Addr→Prop}{t u:Tr}{vs:List V}(h:zF F H [t,u] vs):∃v w,vs=[v,w]∧Rep F H t v∧Rep F H u w:=by
 obtain⟨w,r,e,h1,h2⟩:=h
 obtain⟨w',e',h3⟩:=jB h2
 subst e'
 exact⟨w,w',e,h1,h3⟩
def xgM (xs:List Tr)(KK:Tr→Prop):Prop:=match xs with | [.tup ts]=>KK (.int ts.length) | [.lst ts]=>KK (.int ts.length) | _=>False
theorem qF:CbS (xcV K) xgM:=by
 intro F H vs ts KK Q r hf q
 unfold xgM at hf
 split at hf
 ·rename_i ts
  obtain⟨v,rfl,a,ws,e,n,ha,rl⟩:=jB r
  exact⟨a,ws,by rw[e],.inr (SqT.of ha),by rw[←rl.len];exact q _ _ rfl hf⟩
 ·rename_i ts
  obtain⟨v,rfl,a,ws,e,n,ha,rl⟩:=jB r
  exact⟨a,ws,by rw[e],.inl (SqL.of ha),by rw[←rl.len];exact q _ _ rfl hf⟩
 ·exact hf.elim
def xgn (xs:List Tr)(KK:Tr→Prop):Prop:=match xs with | [.int i]=>KK (.int (if i<0 then -i else i)) | _=>False
theorem vX:CbS (fun xs H Q=>∃i,xs=[.int i]∧Q (.int (if i<0 then -i else i)) H) xgn:=by
 intro F H vs ts KK Q r hf q
 unfold xgn at hf
 split at hf
 ·rename_i i
  obtain⟨v,rfl,e⟩:=jB r
  cases (show v=.int i from e)
  exact⟨i,rfl,q _ _ rfl hf⟩
 ·exact hf.elim
def xes (xs:List Tr)(KK:Tr→Prop):Prop:=match xs with | [.int i,.int j]=>KK (.int (if j>i then j else i)) | _=>False
theorem nA:CbS (fun xs H Q=>∃i j,xs=[.int i,.int j]∧Q (.int (if j>i then j else i)) H) xes:=by
 intro F H vs ts KK Q r hf q
 unfold xes at hf
 split at hf
 ·rename_i i j
  obtain⟨v,w,rfl,e,e'⟩:=oS r
  cases (show v=.int i from e);cases (show w=.int j from e')
  exact⟨i,j,rfl,q _ _ rfl hf⟩
 ·exact hf.elim
def xei (xs:List Tr)(KK:Tr→Prop):Prop:=match xs with | [.int i,.int j]=>KK (.int (if j<i then j else i)) | _=>False
theorem xdw:CbS (fun xs H Q=>∃i j,xs=[.int i,.int j]∧Q (.int (if j<i then j else i)) H) xei:=by
 intro F H vs ts KK Q r hf q
 unfold xei at hf
 split at hf
 ·rename_i i j
  obtain⟨v,w,rfl,e,e'⟩:=oS r
  cases (show v=.int i from e);cases (show w=.int j from e')
  exact⟨i,j,rfl,q _ _ rfl hf⟩
 ·exact hf.elim
theorem ql {F:Addr→Prop}:∀ {ns:List Int} {ws:List V},zF F H (ns.map Tr.int) ws→ws=ns.map V.int
 | [],_,h=>h
 | n::ns,_,⟨w,r,e,h1,h2⟩=>by
  cases (show w=.int n from h1)
  rw[e,ql h2];rfl
theorem cW {F:Addr→Prop}:∀ {ns:List Bool} {ws:List V},zF F H (ns.map Tr.bl) ws→ws=ns.map V.bl
 | [],_,h=>h
 | n::ns,_,⟨w,r,e,h1,h2⟩=>by
  cases (show w=.bl n from h1)
  rw[e,cW h2];rfl
def xfX (xs:List Tr)(KK:Tr→Prop):Prop:=∃ns:List Int,xs=[.lst (ns.map Tr.int)]∧ns≠[]∧∀M,M∈ns→(∀a∈ns,a≤M)→KK (.int M)
theorem xcM:CbS (xdT K) xfX:=by
 intro F H vs ts KK Q r hf q
 obtain⟨ns,rfl,h0,h1⟩:=hf
 obtain⟨v,rfl,a,ws,e,n,ha,rl⟩:=jB r
 rw[ql rl] at ha
 exact⟨a,ns,by rw[e],SqL.of ha,h0,fun M h2 h3=>q _ _ rfl (h1 M h2 h3)⟩
def xf1 (xs:List Tr)(KK:Tr→Prop):Prop:=∃bs:List Bool,xs=[.lst (bs.map Tr.bl)]∧KK (.bl (bs.all id))
theorem fX:CbS (xdq K) xf1:=by
 intro F H vs ts KK Q r hf q
 obtain⟨ns,rfl,h1⟩:=hf
 obtain⟨v,rfl,a,ws,e,n,ha,rl⟩:=jB r
 rw[cW rl] at ha
 exact⟨a,ns,by rw[e],SqL.of ha,q _ _ rfl h1⟩
def tyT:Tr→String
 | .non => "NoneType" | .bl _ => "bool" | .int _ => "int" | .str _ => "str" | .emp => "dict" | .tup _ => "tuple" | .lst _ => "list"
theorem xe0 {F:Addr→Prop}{t:Tr}{v:V}(r:Rep F H t v):tyN H v=some (tyT t):=by
 cases t with
 | non=>cases (show v=.non from r);rfl
 | bl b=>cases (show v=.bl b from r);rfl
 | int b=>cases (show v=.int b from r);rfl
 | str b=>cases (show v=.str b from r);rfl
 | emp=>obtain⟨a,e,_,h⟩:=r;subst e;simp only[tyN,h,tyT]
 | tup ts=>obtain⟨a,ws,e,_,h,_⟩:=r;subst e;simp only[tyN,h,tyT]
 | lst ts=>obtain⟨a,ws,e,_,h,_⟩:=r;subst e;simp only[tyN,h,tyT]
def xgp (c:String)(t:Tr):Bool:=match c,t with
 | "int", .int _=>true | "int", .bl _=>true | "bool", .bl _=>true | "str", .str _=>true | "tuple", .tup _=>true | "list", .lst _=>true | "dict", .emp=>true | _,_=>false
theorem xda {c:String}(h:c∈jH)(t:Tr):xcU (tyT t) c=xgp c t:=by
 simp only[jH,xiJ,xiZ,xjw] at h
 rcases h with rfl | rfl | rfl | rfl | rfl | rfl<;>cases t<;>rfl
def xhl (c:String)(d:DE):DE:=fun τ KK=>d τ fun x=>KK (.bl (xgp c x))
theorem j9 {b:Bool}{c:String}{te:TE}{d:DE}(h:OkE K b te d)(hc:c∈jH:=by decide):OkE K true (tCB xgt (q9 te (q9 (tC (.ty c)) lS))) (xhl c d):=fun B φ σ τ H Q KK R hd q =>
 h B φ σ τ H _ _ R hd fun t v H1 x1 k1 r1=>⟨v,c,tyT t,rfl,xe0 r1,hc,by rw[xda hc];exact q _ _ H1 x1 k1 rfl⟩
def xcA (xs:List Tr)(KK:Tr→Prop):Prop:=match xs with | [.tup ts]=>KK (.tup ts) | [.lst ts]=>KK (.tup ts) | _=>False
theorem qM {b:Bool}{n:Nat}{ta:TA}{da:DA}(ha:OkA K b n ta da):OkE K b (tCB (xdJ K) ta) (dCB xcA da):=fun B φ σ τ H Q KK R hd q =>
 ha B φ σ τ H _ _ R hd fun ts vs H1 x1 k1 l1 r1=>by
  unfold xcA at k1
  split at k1
  ·rename_i ts
   obtain⟨v,rfl,r⟩:=jB r1
   obtain⟨a,ws,e,n,ha,rl⟩:=id r
   exact⟨a,ws,by rw[e],.inr ⟨SqT.of ha,by rw[←e];exact q _ _ H1 x1 k1 r⟩⟩
  ·rename_i ts
   obtain⟨v,rfl,a,ws,e,n,ha,rl⟩:=jB r1
   exact⟨a,ws,by rw[e],.inl ⟨SqL.of ha,fun p hp=>q _ _ _ (x1.trans (HX.new (R.hx x1) hp _)) k1 ⟨p,_,rfl,fun z=>(R.hx x1).domB z hp,yk,k8 hp rl⟩⟩⟩
  ·exact k1.elim
def xd7 (i:Nat):DE:=fun τ KK=>match nth τ i with | .ow ts=>KK (.tup ts) | _=>False
theorem bH {i:Nat}:OkE K true (tCB (xdJ K) (q9 (tF i) lS)) (xd7 i):=fun B φ σ τ H Q KK R hd q=>by
 have en:=R.ent i
 unfold xd7 at hd
 revert en hd
 cases hi:nth τ i with
 | ow ts =>
  intro hd ⟨a,ws,e1,e2,e3,e4,r⟩
  exact⟨_,e1,a,ws,rfl,.inl ⟨SqL.of e4,fun p hp=>q _ _ _ (HX.new R hp _) hd ⟨p,_,rfl,fun z=>R.dom z hp,yk,k8 hp r⟩⟩⟩
 | _=>exact fun z _=>z.elim
def xcG (i:Nat):DE:=fun τ KK=>match nth τ i with | .sc ns=>ns.length≤63→KK (.int ns.length) | _=>False
theorem xbm {i:Nat}:OkE K true (tCB (xcV K) (q9 (tF i) lS)) (xcG i):=fun B φ σ τ H Q KK R hd q=>by
 have en:=R.ent i
 unfold xcG at hd
 revert en hd
 cases hi:nth τ i with
 | sc ns =>
  intro hd ⟨a,e,l,so,_⟩
  have sq:SqL K H a (ns.map V.int):=by
   rcases so with ⟨o,h⟩ | h
   ·exact .inl (.inr ⟨o,h⟩)
   ·exact h H
  refine⟨_,e,a,_,rfl,.inl sq,?_⟩
  rw[xit]
  exact q _ _ H (HX.refl R) (hd l) rfl
 | _=>exact fun z _=>z.elim
def xeV (x y:Tr)(KK:Tr→Prop):Prop:=match x,y with | .bl c,.bl d=>KK (.bl (!(c == d))) | _,_=>False
theorem xaz:OpS (fun x y H Q=>∃c d,x=.bl c∧y=.bl d∧Q (.bl (!(c == d))) H) xeV:=by
 intro F G H x y t u KK Q r1 r2 hf q
 unfold xeV at hf
 split at hf
 ·rename_i c d
  cases (show x=.bl c from r1);cases (show y=.bl d from r2)
  exact⟨c,d,rfl,rfl,q _ _ rfl hf⟩
 ·exact hf.elim
end
end L2
namespace L2
open PySem PySem.Spec PyProof.Rows
abbrev TSp:=List Tr→(Tr→Prop)→Prop
def spT (n:Nat)(st fr:Bool)(sp:TSp):Sp:=fun vs H Q _=>∃(F S:Addr→Prop) (ts:List Tr) (KK:Tr→Prop) (us:List V),
 (match st with | true=>∃p,vs=.ref p::us∧S p | false=>vs=us)∧(∀a,F a→H a≠none)∧(∀a,S a→F a)∧(∀a,S a→oF a H)∧zF F H ts us∧ts.length=n∧sp ts KK ∧
 ∀t v H',KK t→(∀a o,H a=some o→¬S a→H' a=some o)→(∀a,S a→oF a H')→Rep F H' t v→(fr=true→FrL F H H' t v)→Q v H'
def xdo (sp:TSp)(da:DA):DE:=fun τ KK=>da τ fun ts=>sp ts KK
def xcq (i:Nat)(sp:TSp)(da:DA):DE:=fun τ KK=>match nth τ i with | .st=>da τ fun ts=>sp ts KK | _=>False
section
variable {K:PySem.W.Frag} {B:FB} {φ:Phi} {σ:St} {τ:TSt} {H H' H'':Hp}
theorem xy {b fr:Bool}{n:Nat}{sp:TSp}{ta:TA}{da:DA}(ha:OkA K b n ta da):OkE K b (xeo (spT n false fr sp) ta) (xdo sp da):=fun B φ σ τ H Q KK R hd q =>
 ha B φ σ τ H _ _ R hd fun ts vs H1 x1 k1 l1 r1=>⟨AvB b B φ τ,SA B φ τ,ts,KK,vs,rfl,fun a z=>(R.hx x1).domB z,fun a z=>R.sB z,x1.st,r1,l1,k1,fun t v H' k e s r _=>q t v H' (x1.trans ⟨e,s⟩) k r⟩
theorem xaR {n:Nat}{sp:TSp}{ta:TA}{da:DA}(ha:OkA K true n ta da):OkF K (xeo (spT n false true sp) ta) (xdo sp da):=fun B φ σ τ H Q KK R hd q =>
 ha B φ σ τ H _ _ R hd fun ts vs H1 x1 k1 l1 r1=>⟨Av B φ,SA B φ τ,ts,KK,vs,rfl,fun a z=>(R.hx x1).dom z,fun a z=>R.sAv z,x1.st,r1,l1,k1,fun t v H' k e s r f=>by
  obtain⟨a,ts',ws,rfl,rfl,h1,h2,h3⟩:=f rfl
  exact q ts' a ws H' (x1.trans ⟨e,s⟩) k (x1.none h1) h2 h3⟩
theorem yy {b fr:Bool}{n i:Nat}{sp:TSp}{ta:TA}{da:DA}(ha:OkA K b n ta da):OkE K b (xeo (spT n true fr sp) (q9 (tF i) ta)) (xcq i sp da):=fun B φ σ τ H Q KK R hd q=>by
 have en:=R.ent i
 unfold xcq at hd
 revert en hd
 cases hi:nth τ i with
 | st =>
  intro hd ⟨p,e1,e2,e3⟩
  exact⟨_,e1,ha B φ σ τ H _ _ R hd fun ts vs H1 x1 k1 l1 r1=>⟨AvB b B φ τ,SA B φ τ,ts,KK,vs,⟨p,rfl,.inr ⟨i,e2,hi⟩⟩,fun a z=>(R.hx x1).domB z,fun a z=>R.sB z,x1.st,r1,l1,k1,fun t v H' k e s r _=>q t v H' (x1.trans ⟨e,s⟩) k r⟩⟩
 | _=>exact fun z _=>z.elim
def Phi.del (φ:Phi)(i:Nat):Phi:=fun j=>if j=i then none else φ j
def Phi.put (φ:Phi)(i:Nat)(a:Addr):Phi:=fun j=>if j=i then some a else φ j
theorem k7 {i j:Nat}{a:Addr}(h:φ.del i j=some a):j≠i∧φ j=some a:=by
 unfold Phi.del at h
 by_cases e:j=i
 ·rw[if_pos e] at h;cases h
 ·rw[if_neg e] at h;exact⟨e,h⟩
theorem xeq {i j:Nat}(h:j≠i):φ.del i j=φ j:=if_neg h
theorem vN {i j:Nat}{a c:Addr}(h:φ.put i a j=some c):(j=i∧c=a)∨(j≠i∧φ j=some c):=by
 unfold Phi.put at h
 by_cases e:j=i
 ·rw[if_pos e] at h;cases h;exact .inl ⟨e,rfl⟩
 ·rw[if_neg e] at h;exact .inr ⟨e,h⟩
theorem bP {i:Nat}{a:Addr}:φ.put i a i=some a:=if_pos rfl
theorem xeS {i j:Nat}{a:Addr}(h:j≠i):φ.put i a j=φ j:=if_neg h
theorem rL {i:Nat}{a:Addr}(h:Av B (φ.del i) a):Av B φ a:=by
 rcases h with h | ⟨j,h⟩
 ·exact .inl h
 ·exact .inr ⟨j,(k7 h).2⟩
theorem az {φ':Phi}{i:Nat}{o:Option (Option V)}{x:TV}(h:Ent K B φ H i o x)(hφ:φ' i=φ i)(hr:∀t v,Rep (Av B φ) H t v→Rep (Av B φ') H' t v)(hrl:∀t v,zF (Av B φ) H t v→zF (Av B φ') H' t v)
  (hl:∀a ws ts,x=.ow ts→φ i=some a→H a=some (.lst ws)→H' a=some (.lst ws)) (hs:∀a ns,xbt K H a ns→xbt K H' a ns):Ent K B φ' H' i o x:=by
 cases x with
 | un=>trivial
 | fz t=>obtain⟨v,e,r⟩:=h;exact⟨v,e,hr t v r⟩
 | ow ts=>obtain⟨a,ws,e1,e2,e3,e4,r⟩:=h;exact⟨a,ws,e1,hφ.trans e2,e3,hl a ws ts rfl e2 e4,hrl _ _ r⟩
 | st=>obtain⟨p,e1,e2,e3⟩:=h;exact⟨p,e1,hφ.trans e2,e3⟩
 | sc ns=>obtain⟨a,e,l,q⟩:=h;exact⟨a,e,l,hs a ns q⟩
 | ob a=>exact h
theorem RS.setFz {i:Nat}{t:Tr}{v:V}(R:RS K B φ σ τ H)(r:Rep (Av B φ) H t v):RS K B (φ.del i) (σ.set i (some v)) (τ.set i (.fz t)) H where
 f0:=R.f0
 s0:=R.s0
 ext:=R.ext
 sst:=fun a s=>by
  rcases s with s | ⟨j,s,hj⟩
  ·exact R.sst a (.inl s)
  ·obtain⟨hne,s'⟩:=k7 s
   rw[zg hne] at hj
   exact R.sst a (.inr ⟨j,s',hj⟩)
 inj:=fun j k a ts hj e1 e2=>by
  obtain⟨hne,e1⟩:=k7 e1
  rw[zg hne] at hj
  exact R.inj j k a ts hj e1 (k7 e2).2
 ow:=fun j a e=>R.ow j a (k7 e).2
 len:=by rw[xiw,xiw];exact R.len
 ent:=fun j=>by
  have mono:∀t v,Rep (Av B φ) H t v→Rep (Av B (φ.del i)) H t v:=fun t v=>yL (fun a o e n=>⟨e,fun z=>n (rL z)⟩) t v
  by_cases e:j=i
  ·subst e
   by_cases hl:j<τ.length
   ·rw[zO hl]
    exact⟨v,by rw[xio (by rw[R.len];exact hl)],mono _ _ r⟩
   ·rw[uE (by rw[xiw];omega)];trivial
  ·rw[zg e,xin (Ne.symm e)]
   exact az (R.ent j) (xeq e) mono (fun t v=>yu (fun a o e n=>⟨e,fun z=>n (rL z)⟩) t v) (fun _ _ _ _ _ z=>z) fun _ _ z=>z
 gh:=fun p hp=>yL (fun a o e n=>⟨e,fun z=>n (rL z)⟩) _ _ (R.gh p hp)
theorem RS.setNew {i:Nat}{x:TV}{a:Addr}(R:RS K B φ σ τ H)(hx:HX B φ τ H H')(ha:H a=none)(ha':H' a≠none)(hst:x=.st→oF a H')
  (hen:Ent K B (φ.put i a) H' i (some (some (.ref a))) x):RS K B (φ.put i a) (σ.set i (some (.ref a))) (τ.set i x) H':=by
 have R':=R.hx hx
 have nav:∀c,c≠a→Av B (φ.put i a) c→Av B φ c:=fun c hc z=>by
  rcases z with z | ⟨j,z⟩
  ·exact .inl z
  ·rcases vN z with ⟨_,e⟩ | ⟨_,e⟩
   ·exact absurd e hc
   ·exact .inr ⟨j,e⟩
 have mv:∀c o,H c=some o→¬Av B φ c→H' c=some o∧¬Av B (φ.put i a) c:=fun c o e n=>⟨hx.keep c o e fun s=>n (R.sAv s),fun z=>n (nav c (xE e ha) z)⟩
 refine⟨R.f0,R.s0,R'.ext,fun c s=>?_,fun j k c ts hj e1 e2=>?_,fun j c e=>?_,?_,fun j=>?_,fun p hp=>yL mv _ _ (R.gh p hp)⟩
 ·rcases s with s | ⟨j,s,hj⟩
  ·exact R'.sst c (.inl s)
  ·rcases vN s with ⟨rfl,rfl⟩ | ⟨hne,s'⟩
   ·by_cases hl:j<τ.length
    ·rw[zO hl] at hj
     exact hst hj
    ·rw[uE (by rw[xiw];omega)] at hj;cases hj
   ·rw[zg hne] at hj
    exact R'.sst c (.inr ⟨j,s',hj⟩)
 ·have key:∀j:Nat,φ j=some a→False:=fun j e=>R.ow j a e ha
  rcases vN e1 with ⟨z1,z2⟩ | ⟨n1,f1⟩
  ·rcases vN e2 with ⟨z3,_⟩ | ⟨n2,f2⟩
   ·rw[z1,z3]
   ·exact(key k (by rw[←z2];exact f2)).elim
  ·rcases vN e2 with ⟨z3,z4⟩ | ⟨n2,f2⟩
   ·exact(key j (by rw[←z4];exact f1)).elim
   ·rw[zg n1] at hj
    exact R.inj j k c ts hj f1 f2
 ·rcases vN e with ⟨_,rfl⟩ | ⟨_,e⟩
  ·exact ha'
  ·exact R'.ow j c e
 ·rw[xiw,xiw];exact R.len
 ·by_cases e:j=i
  ·subst e
   by_cases hl:j<τ.length
   ·rw[zO hl,xio (by rw[R.len];exact hl)]
    exact hen
   ·rw[uE (by rw[xiw];omega)];trivial
  ·rw[zg e,xin (Ne.symm e)]
   refine az (R.ent j) (xeS e) (fun t v=>yL mv t v) (fun t v=>yu mv t v) (fun c ws ts hj e1 e2=>?_) fun c ns z=>?_
   ·refine hx.keep c _ e2 fun s=>?_
    rcases s with s | ⟨k,s,hk⟩
    ·have en:=R.ent j
     rw[hj] at en
     obtain⟨a',ws',_,q2,q3,_⟩:=en
     rw[e1] at q2;cases q2
     exact R.f0 c (R.s0 c s) q3
    ·have:=R.inj j k c ts hj e1 s
     subst this
     rw[hj] at hk;cases hk
   ·refine⟨?_,z.2.hx R hx⟩
    rcases z.1 with ⟨o,z⟩ | z
    ·exact .inl ⟨o,hx.keep c _ z (aE R z)⟩
    ·exact .inr z
theorem RS.wrOw {i:Nat}{ts ts':List Tr}{a:Addr}{ws':List V}(R:RS K B φ σ τ H)(hi:nth τ i=.ow ts)(e1:σ[i]? = some (some (.ref a)))(r:zF (Av B φ) H ts' ws'):RS K B φ σ (τ.set i (.ow ts')) (upd H a (.lst ws')):=by
 have en:=R.ent i
 rw[hi] at en
 obtain⟨a',ws,e1',e2,e3,e4,_⟩:=en
 rw[e1] at e1';cases e1'
 have hl:i<τ.length:=by
  by_cases h:i<τ.length
  ·exact h
  ·rw[uE (by omega)] at hi;cases hi
 have mv:∀c o,H c=some o→¬Av B φ c→(upd H a (.lst ws')) c=some o∧¬Av B φ c:=fun c o e n=>⟨by rw[xU (fun z=>n (by rw[z];exact .inr ⟨i,e2⟩))];exact e,n⟩
 have nsa:∀c,SA B φ (τ.set i (.ow ts')) c→SA B φ τ c∧c≠a:=fun c s=>by
  rcases s with s | ⟨j,s,hj⟩
  ·exact⟨.inl s,fun z=>R.f0 a (R.s0 a (z▸s)) e3⟩
  ·by_cases e:j=i
   ·subst e
    rw[zO hl] at hj;cases hj
   ·rw[zg e] at hj
    exact⟨.inr ⟨j,s,hj⟩,fun z=>e (R.inj i j a ts hi e2 (z▸s)).symm⟩
 refine⟨R.f0,R.s0,fun c o e n=>?_,fun c s=>?_,fun j k c us hj f1 f2=>?_,fun j c e=>?_,by rw[xiw];exact R.len,fun j=>?_,fun p hp=>yL mv _ _ (R.gh p hp)⟩
 ·rw[xU (xE e e3)];exact R.ext c o e n
 ·obtain⟨s',hne⟩:=nsa c s
  obtain⟨n,b,q,z⟩:=R.sst c s'
  exact⟨n,b,by rw[xU hne];exact q,z⟩
 ·by_cases e:j=i
  ·subst e;exact R.inj j k c ts hi f1 f2
  ·rw[zg e] at hj
   exact R.inj j k c us hj f1 f2
 ·by_cases z:c=a
  ·rw[z,yk];exact fun z=>nomatch z
  ·rw[xU z];exact R.ow j c e
 ·by_cases e:j=i
  ·subst e
   rw[zO hl]
   exact⟨a,ws',e1,e2,e3,yk,yu mv _ _ r⟩
  ·rw[zg e]
   refine az (R.ent j) rfl (fun t v=>yL mv t v) (fun t v=>yu mv t v) (fun c us vs hj f1 f2=>?_) fun c ns z=>?_
   ·rw[xU (fun(z:c=a)=>e (R.inj i j a ts hi e2 (by rw[←z];exact f1)).symm)];exact f2
   ·refine⟨?_,fun P q h=>by rw[xU (xeU (z.2 P q h) e4 (fun q=>nomatch q))];exact z.2 P q h⟩
    rcases z.1 with ⟨o,z⟩ | z
    ·exact .inl ⟨o,by rw[xU (xeU z e4 (fun q=>nomatch q))];exact z⟩
    ·exact .inr z
def OkN (K:PySem.W.Frag)(g:TG)(d:DG):Prop:=∀(B:FB) (φ:Phi) (σ:St) (τ:TSt) (H:Hp) (F:Addr→Prop) (t:Tr) (v:V) (Q:St→Hp→Prop) (KK:TSt→Prop),RS K B φ σ τ H→(∀a,Av B φ a→F a)→Rep F H t v→d t τ KK →
 (∀ φ' σ' τ',RS K B φ' σ' τ' H→(∀a,Av B φ' a→Av B φ a)→KK τ'→Q σ' H)→g v σ H Q
def xd_ (K:PySem.W.Frag)(g:TGs)(d:DGs):Prop:=∀(B:FB) (φ:Phi) (σ:St) (τ:TSt) (H:Hp) (F:Addr→Prop) (t:List Tr) (v:List V) (Q:St→Hp→Prop) (KK:TSt→Prop),RS K B φ σ τ H→(∀a,Av B φ a→F a)→zF F H t v→d t τ KK →
 (∀ φ' σ' τ',RS K B φ' σ' τ' H→(∀a,Av B φ' a→Av B φ a)→KK τ'→Q σ' H)→g v σ H Q
def eName (i:Nat):DG:=fun t τ KK=>KK (τ.set i (.fz t))
def xfk:DGs:=fun ts τ KK=>match ts with | []=>KK τ | _=>False
def xaQ (d:DG)(r:DGs):DGs:=fun ts τ KK=>match ts with | t::us=>d t τ fun τ'=>r us τ' KK | []=>False
def xgD (n:Nat)(d:DGs):DG:=fun t τ KK=>match t with | .tup ts=>ts.length=n∧d ts τ KK | _=>False
theorem xk {i:Nat}:OkN K (jt i) (eName i):=fun B φ σ τ H F t v Q KK R hF r hd q =>
 q (φ.del i) _ _ (R.setFz (yL (fun a o e n=>⟨e,fun z=>n (hF a z)⟩) _ _ r)) (fun a z=>rL z) hd
theorem ye:xd_ K xfo xfk:=fun B φ σ τ H F t v Q KK R hF r hd q=>by
 cases t with
 | nil=>exact⟨r,q φ σ τ R (fun _ z=>z) hd⟩
 | cons _ _=>exact hd.elim
theorem xl {g:TG}{gs:TGs}{d:DG}{ds:DGs}(h:OkN K g d)(hs:xd_ K gs ds):xd_ K (xbc g gs) (xaQ d ds):=fun B φ σ τ H F t v Q KK R hF r hd q=>by
 cases t with
 | nil=>exact hd.elim
 | cons t ts =>
  obtain⟨w,r',e,h1,h2⟩:=r
  exact⟨w,r',e,h B φ σ τ H F t w _ _ R hF h1 hd fun φ' σ' τ' R' ha k=>hs B φ' σ' τ' H F ts r' Q KK R' (fun a z=>hF a (ha a z)) h2 k fun φ2 σ2 τ2 R2 ha2 k2=>q φ2 σ2 τ2 R2 (fun a z=>ha a (ha2 a z)) k2⟩
theorem yw {n:Nat}{gs:TGs}{ds:DGs}(h:xd_ K gs ds):OkN K (xeb K n gs) (xgD n ds):=fun B φ σ τ H F t v Q KK R hF r hd q=>by
 cases t with
 | tup ts =>
  obtain⟨a,ws,e,n,ha,rl⟩:=r
  exact⟨a,ws,e,SqT.of ha,by rw[←rl.len];exact hd.1,h B φ σ τ H F ts ws Q KK R hF rl hd.2 q⟩
 | _=>exact hd.elim
theorem OkN.g {g:TG}{d:DG}(h:OkN K g d):OkG K g d:=fun B φ σ τ H t v Q KK R r hd q=>h B φ σ τ H (Av B φ) t v Q KK R (fun _ z=>z) r hd fun φ' σ' τ' R' ha k=>q φ' σ' τ' H R' ha (fun _ _ e _=>e) k
def xdU (ts:List Tr)(t:Tr):Int→Option (List Tr)
 | .ofNat n=>if n<ts.length then some (ts.set n t) else none
 | .negSucc n=>if n<ts.length then some (ts.set (ts.length-1-n) t) else none
def xfn (i:Nat)(di:DE):DG:=fun t τ KK=>match nth τ i with
 | .ow ts=>di τ fun y=>match y with | .int k=>(match xdU ts t k with | some us=>KK (τ.set i (.ow us)) | none=>False) | _=>False
 | _=>False
theorem xdA {ts us:List Tr}{t:Tr}{k:Int}(h:xdU ts t k=some us):∃j,ixN ts.length k=some j∧us=ts.set j t:=by
 unfold ixN
 cases k with
 | ofNat n =>
  have h:(if n<ts.length then some (ts.set n t) else none)=some us:=h
  by_cases hn:n<ts.length
  ·rw[if_pos hn] at h;cases h
   refine⟨n,?_,rfl⟩
   have h0:(0:Int)≤Int.ofNat n:=Int.natCast_nonneg n
   have h1:Int.ofNat n<(ts.length:Int):=Int.ofNat_lt.mpr hn
   rw[if_pos h0,if_pos h1];rfl
  ·rw[if_neg hn] at h;cases h
 | negSucc n =>
  have h:(if n<ts.length then some (ts.set (ts.length-1-n) t) else none)=some us:=h
  by_cases hn:n<ts.length
  ·rw[if_pos hn] at h;cases h
   refine⟨ts.length-1-n,?_,rfl⟩
   rw[if_neg (by omega),if_pos (by omega)]
   congr 1;omega
  ·rw[if_neg hn] at h;cases h
theorem c7 {F:Addr→Prop}{t:Tr}{v:V}(r:Rep F H t v):∀ {ts:List Tr} {ws:List V} (j:Nat),zF F H ts ws→zF F H (ts.set j t) (ws.set j v)
 | [],_,_,h=>by cases (show _=[] from h);exact rfl
 | _::_,_,0,⟨w,r',e,h1,h2⟩=>⟨v,r',by rw[e];rfl,r,h2⟩
 | _::ts,_,j+1,⟨w,r',e,h1,h2⟩=>⟨w,r'.set j v,by rw[e];rfl,h1,c7 r j h2⟩
theorem jP {b:Bool}{i:Nat}{ti:TE}{di:DE}(h:OkE K b ti di):OkG K (xgQ (tF i) ti xfc) (xfn i di):=fun B φ σ τ H t v Q KK R r hd q=>by
 have en:=R.ent i
 unfold xfn at hd
 revert en hd
 cases hi:nth τ i with
 | ow ts =>
  intro hd ⟨a,ws,e1,e2,e3,e4,r0⟩
  refine⟨_,e1,h B φ σ τ H _ _ R hd fun u w H1 x1 k1 r1=>?_⟩
  obtain⟨ws',f4,f5,_⟩:=gx R x1 hi e1
  cases u with
  | int k =>
   cases (show w=.int k from r1)
   cases e:xdU ts t k with
   | none=>simp only[e] at k1
   | some us =>
    simp only[e] at k1
    obtain⟨j,hj,rfl⟩:=xdA e
    refine⟨a,ws',k,j,rfl,rfl,f4,by rw[←f5.len];exact hj,?_⟩
    exact q φ σ _ _ ((R.hx x1).wrOw hi e1 (c7 (x1.rep (fun a s=>R.sAv s) r) j f5)) (fun _ z=>z) (fun c o e n=>by rw[xU (fun z=>n (by rw[z];exact .inr ⟨i,e2⟩))];exact x1.keep c o e fun s=>n (R.sAv s)) k1
  | _=>exact k1.elim
 | _=>exact fun z _=>z.elim
theorem xa6:xfp K xfo xfk:=fun B φ σ τ H t v Q KK R r hd q=>by
 cases t with
 | nil=>exact⟨r,q φ σ τ H R (fun _ z=>z) (fun _ _ e _=>e) hd⟩
 | cons _ _=>exact hd.elim
theorem tY {g:TG}{gs:TGs}{d:DG}{ds:DGs}(h:OkG K g d)(hs:xfp K gs ds):xfp K (xbc g gs) (xaQ d ds):=fun B φ σ τ H t v Q KK R r hd q=>by
 cases t with
 | nil=>exact hd.elim
 | cons t ts =>
  obtain⟨w,r',e,h1,h2⟩:=r
  exact⟨w,r',e,h B φ σ τ H t w _ _ R h1 hd fun φ' σ' τ' H' R' ha hx k=>hs B φ' σ' τ' H' ts r' Q KK R' (yu (fun a o e n=>⟨hx a o e n,fun z=>n (ha a z)⟩) _ _ h2) k fun φ2 σ2 τ2 H2 R2 ha2 hx2 k2 =>
   q φ2 σ2 τ2 H2 R2 (fun a z=>ha a (ha2 a z)) (fun a o e n=>hx2 a o (hx a o e n) fun z=>n (ha a z)) k2⟩
theorem xdy {n:Nat}{gs:TGs}{ds:DGs}(h:xfp K gs ds):OkG K (xeb K n gs) (xgD n ds):=fun B φ σ τ H t v Q KK R r hd q=>by
 cases t with
 | tup ts =>
  obtain⟨a,ws,e,n,ha,rl⟩:=r
  exact⟨a,ws,e,SqT.of ha,by rw[←rl.len];exact hd.1,h B φ σ τ H ts ws Q KK R rl hd.2 q⟩
 | _=>exact hd.elim
def xdR:DS:=fun G τ=>G.nx τ
def xeD (a b:DS):DS:=fun G τ=>a { G with nx:=b G } τ
def xe1:DS:=fun _ _=>False
def xfZ (d:DE):DS:=fun G τ=>d τ G.rt
def sIf (c:DT)(a b:DS):DS:=fun G τ=>c τ fun k=>if k=true then a G τ else b G τ
def xgW (i:Nat)(d:DE):DS:=fun G τ=>d τ fun t=>G.nx (τ.set i (.fz t))
def xfV (i:Nat)(d:DE):DS:=fun G τ=>d τ fun t=>match t with | .lst ts=>G.nx (τ.set i (.ow ts)) | _=>False
def xhn (d:DE)(g:DG):DS:=fun G τ=>d τ fun t=>g t τ G.nx
def xg7 (i j:Nat)(d:DA):DS:=fun G τ=>d τ fun ts=>match ts with | [t,u]=>G.nx ((τ.set i (.fz t)).set j (.fz u)) | _=>False
def xf6 (d:DE):DS:=fun G τ=>d τ fun _=>G.nx τ
def xgK (i:Nat)(d:DE):DS:=fun G τ=>match nth τ i with | .ow ts=>d τ fun t=>ts.length<sizeLine∧G.nx (τ.set i (.ow (ts++[t]))) | _=>False
variable {fr:Bool}
theorem xI:OkS K fr xd6 xdR:=fun B φ σ τ H E G R hd e=>e.nx φ σ τ H R hd
theorem qq:OkS K fr xcm xe1:=fun B φ σ τ H E G R hd e=>hd.elim
theorem xj {a b:TS}{da db:DS}(ha:OkS K fr a da)(hb:OkS K fr b db):OkS K fr (xfl a b) (xeD da db):=fun B φ σ τ H E G R hd e =>
 ha B φ σ τ H _ _ R hd ⟨fun φ' σ' τ' H' R' k=>hb B φ' σ' τ' H' E G R' k e,e.bk,e.ct,e.rt⟩
theorem xx {b:Bool}{te:TE}{d:DE}(h:OkE K b te d):OkS K false (xeZ te) (xfZ d):=fun B φ σ τ H E G R hd e =>
 h B φ σ τ H _ _ R hd fun t v H1 x1 k1 r1=>e.rt t v H1 (yL (fun a o e n=>⟨e,fun z=>n (.inl z)⟩) _ _ (xgG R r1)) (R.hx x1).extB k1 fun z=>nomatch z
theorem gC {te:TE}{d:DE}(h:OkF K te d):OkS K fr (xeZ te) (xfZ d):=fun B φ σ τ H E G R hd e =>
 h B φ σ τ H _ _ R hd fun ts a ws H1 x1 k1 h1 h2 h3=>by
  have z0:B.H0 a=none:=by
   cases q:B.H0 a with
   | none=>rfl
   | some o =>
    by_cases s:B.S0 a
    ·exact absurd h1 (R.sst a (.inl s)).ne_none
    ·rw[R.ext a o q s] at h1;cases h1
  have na:¬B.F0 a:=fun z=>R.dom (.inl z) h1
  have rr:zF (fun c=>B.F0 c∨c=a) H1 ts ws:=yu (fun c o e n=>⟨e,fun z=>n (z.elim (fun z=>.inl (.inl z)) .inr)⟩) _ _ h3
  exact e.rt (.lst ts) _ H1 ⟨a,ws,rfl,na,h2,yu (fun c o e n=>⟨e,fun z=>n (.inl z)⟩) _ _ rr⟩ (R.hx x1).extB k1 fun _=>⟨a,ts,ws,rfl,rfl,z0,h2,rr⟩
def xex (i:Nat):DS:=fun G τ=>match nth τ i with | .ow ts=>G.rt (.lst ts) | _=>False
theorem sV {i:Nat}:OkS K fr (xeZ (tF i)) (xex i):=fun B φ σ τ H E G R hd e=>by
 have en:=R.ent i
 unfold xex at hd
 revert en hd
 cases hi:nth τ i with
 | ow ts =>
  intro hd ⟨a,ws,e1,e2,e3,e4,r⟩
  have na:¬B.F0 a:=fun z=>R.f0 a z e3
  have rr:zF (fun c=>B.F0 c∨c=a) H ts ws:=yu (fun c o e n=>⟨e,fun z=>n (z.elim .inl fun z=>.inr ⟨i,by rw[z];exact e2⟩)⟩) _ _ r
  exact⟨_,e1,e.rt (.lst ts) _ H ⟨a,ws,rfl,na,e4,yu (fun c o e n=>⟨e,fun z=>n (.inl z)⟩) _ _ rr⟩ R.extB hd fun _=>⟨a,ts,ws,rfl,rfl,e3,e4,rr⟩⟩
 | _=>exact fun z _=>z.elim
theorem yh {c:TT}{a b:TS}{dc:DT}{da db:DS}(hc:OkT K c dc)(ha:OkS K fr a da)(hb:OkS K fr b db):OkS K fr (xgS c a b) (sIf dc da db):=fun B φ σ τ H E G R hd e =>
 hc B φ σ τ H _ _ R hd fun k H1 x1 k1=>by
  cases k with
  | true=>exact oH (ha B φ σ τ H1 E G (R.hx x1) k1 e)
  | false=>exact ou (hb B φ σ τ H1 E G (R.hx x1) k1 e)
theorem xN {i:Nat}{te:TE}{d:DE}(h:OkE K true te d):OkS K fr (xa0 te (jt i)) (xgW i d):=fun B φ σ τ H E G R hd e =>
 h B φ σ τ H _ _ R hd fun t v H1 x1 k1 r1=>e.nx _ _ _ H1 ((R.hx x1).setFz r1) k1
theorem wI {i:Nat}{te:TE}{d:DE}(h:OkF K te d):OkS K fr (xa0 te (jt i)) (xfV i d):=fun B φ σ τ H E G R hd e =>
 h B φ σ τ H _ _ R hd fun ts a ws H1 x1 k1 h1 h2 h3=>by
  have z0:B.H0 a=none:=by
   cases q:B.H0 a with
   | none=>rfl
   | some o =>
    by_cases s:B.S0 a
    ·exact absurd h1 (R.sst a (.inl s)).ne_none
    ·rw[R.ext a o q s] at h1;cases h1
  refine e.nx _ _ _ H1 (R.setNew (x:=.ow ts) x1 h1 (by rw[h2];exact fun z=>nomatch z) (fun z=>nomatch z) ⟨a,ws,rfl,bP,z0,h2,yu (fun c o e n=>⟨e,fun z=>n ?_⟩) _ _ h3⟩) k1
  rcases z with z | ⟨j,z⟩
  ·exact .inl (.inl z)
  ·rcases vN z with ⟨_,z⟩ | ⟨_,z⟩
   ·exact .inr z
   ·exact .inl (.inr ⟨j,z⟩)
theorem y_ {te:TE}{g:TG}{d:DE}{dg:DG}(h:OkE K true te d)(hg:OkG K g dg):OkS K fr (xa0 te g) (xhn d dg):=fun B φ σ τ H E G R hd e =>
 h B φ σ τ H _ _ R hd fun t v H1 x1 k1 r1=>hg B φ σ τ H1 t v _ _ (R.hx x1) r1 k1 fun φ' σ' τ' H' R' _ _ k=>e.nx φ' σ' τ' H' R' k
theorem jw {i j:Nat}{ta:TA}{da:DA}{n:Nat}(h:OkA K true n ta da):OkS K fr (xgO i j ta) (xg7 i j da):=fun B φ σ τ H E G R hd e =>
 h B φ σ τ H _ _ R hd fun ts vs H1 x1 k1 l1 r1=>by
  cases ts with
  | nil=>exact k1.elim
  | cons t ts =>
   cases ts with
   | nil=>exact k1.elim
   | cons u ts =>
    cases ts with
    | cons _ _=>exact k1.elim
    | nil =>
     obtain⟨v,w,rfl,h1,h2⟩:=oS r1
     exact⟨v,w,rfl,e.nx _ _ _ H1 (((R.hx x1).setFz h1).setFz (yL (fun a o e n=>⟨e,fun z=>n (rL z)⟩) _ _ h2)) k1⟩
theorem aF {b:Bool}{te:TE}{d:DE}(h:OkE K b te d):OkS K fr (xc6 te) (xf6 d):=fun B φ σ τ H E G R hd e =>
 h B φ σ τ H _ _ R hd fun t v H1 x1 k1 r1=>e.nx φ σ τ H1 (R.hx x1) k1
theorem ku {i:Nat}{te:TE}{d:DE}(h:OkE K true te d):OkS K fr (xc6 (tBM K "list" o7 (tF i) (q9 te lS))) (xgK i d):=fun B φ σ τ H E G R hd e=>by
 have en:=R.ent i
 unfold xgK at hd
 revert en hd
 cases hi:nth τ i with
 | ow ts =>
  intro hd ⟨a,ws,e1,e2,e3,e4,r⟩
  refine⟨_,e1,.inl ⟨rfl,_,SqL.of e4⟩,h B φ σ τ H _ _ R hd fun t v H1 x1 k1 r1=>?_⟩
  obtain⟨ws',f4,f5,_⟩:=gx R x1 hi e1
  exact⟨a,ws',v,rfl,rfl,f4,by rw[←f5.len];exact k1.1,e.nx φ σ _ _ ((R.hx x1).wrOw hi e1 (f5.app (show zF _ _ [t] [v] from⟨v,[],rfl,r1,rfl⟩))) k1.2⟩
 | _=>exact fun z _=>z.elim
end
end L2
namespace L2
open PySem PySem.Spec PyProof.Rows
abbrev DI:=TSt→(List Tr→Prop)→Prop
def xa5 (H H':Hp):Prop:=H'=H∨∃q o,H q=none∧H'=upd H q o
structure ItC (F S:Addr→Prop)(J:It)(ts:List Tr)(Src:Hp→Prop):Prop where
 stab:∀H H',Src H→(∀a o,H a=some o→¬S a→H' a=some o)→Src H'
 go:∀i H,Src H→i<ts.length→J.go i H
 stop:∀H,Src H→J.stop ts.length H
 yld:∀i H x H',Src H→(∀a,F a→H a≠none)→i<ts.length→J.yld i H x H'→xa5 H H'∧∃t,ts[i]? = some t∧Rep F H' t x
structure ItL (J:It)(ts:List Tr)(G:List (Tr×V)):Prop where
 go:∀F H i,(∀p∈G,Rep F H p.1 p.2)→i<ts.length→J.go i H
 stop:∀F H,(∀p∈G,Rep F H p.1 p.2)→J.stop ts.length H
 yld:∀F i H x H',(∀p∈G,Rep F H p.1 p.2)→(∀a,F a→H a≠none)→i<ts.length→J.yld i H x H'→xa5 H H'∧∃t,ts[i]? = some t∧Rep F H' t x
theorem ItL.c {J:It}{ts:List Tr}{G:List (Tr×V)}(h:ItL J ts G){F S:Addr→Prop}(hS:∀a,S a→F a):ItC F S J ts (fun H=>∀p∈G,Rep F H p.1 p.2) where
 stab:=fun H H' s k p hp=>yL (fun a o e n=>⟨k a o e fun z=>n (hS a z),n⟩) _ _ (s p hp)
 go:=fun i H s hi=>h.go F H i s hi
 stop:=fun H s=>h.stop F H s
 yld:=fun i H x H' s d hi y=>h.yld F i H x H' s d hi y
def OkI (K:PySem.W.Frag)(b:Bool)(wi:TI)(d:DI):Prop:=∀(B:FB) (φ:Phi) (σ:St) (τ:TSt) (H:Hp) (R:It→Hp→Prop) (KK:List Tr→Prop),RS K B φ σ τ H→d τ KK →
 (∀J ts G H',HX B φ τ H H'→KK ts→ItL J ts G→(∀p∈G,Rep (AvB b B φ τ) H' p.1 p.2)→R J H')→wi σ H R
def xee (K:PySem.W.Frag)(wi:TI)(d:DI):Prop:=∀(B:FB) (φ:Phi) (σ:St) (τ:TSt) (H:Hp) (R:It→Hp→Prop) (KK:List Tr→Prop),RS K B φ σ τ H→d τ KK →
 (∀J ts Src H',HX B φ τ H H'→KK ts→ItC (Av B φ) (SA B φ τ) J ts Src→Src H'→R J H')→wi σ H R
section
variable {K:PySem.W.Frag} {B:FB} {φ:Phi} {σ:St} {τ:TSt} {H H' H'':Hp} {fr:Bool}
theorem OkI.c {wi:TI}{d:DI}(h:OkI K true wi d):xee K wi d:=fun B φ σ τ H R KK Rs hd q=>h B φ σ τ H R KK Rs hd fun J ts G H' x k i s=>q J ts _ H' x k (i.c fun a z=>Rs.sAv z) s
def xhh (d:DE):DI:=fun τ KK=>d τ fun x=>match x with | .tup ts=>KK ts | .lst ts=>KK ts | _=>False
theorem xbR {a:Addr}{ts:List Tr}:ItL (Itl K a) ts [(.lst ts,.ref a)] where
 go:=fun F H i s hi=>by
  obtain⟨a',ws,e,n,h,r⟩:=s _ xiL
  cases e
  obtain⟨w,e1,_⟩:=r.getT (xii hi)
  exact⟨ws,w,SqL.of h,e1⟩
 stop:=fun F H s=>by
  obtain⟨a',ws,e,n,h,r⟩:=s _ xiL
  cases e
  exact⟨ws,SqL.of h,by rw[←r.len];exact xjd _⟩
 yld:=fun F i H x H' s d hi y=>by
  obtain⟨a',ws,e,n,h,r⟩:=s _ xiL
  cases e
  obtain⟨rfl,y⟩:=y
  obtain⟨t,e1,e2⟩:=r.get (y ws (SqL.of h))
  exact⟨.inl rfl,t,e1,e2⟩
theorem xc8 {a:Addr}{ts:List Tr}:ItL (Itt K a) ts [(.tup ts,.ref a)] where
 go:=fun F H i s hi=>by
  obtain⟨a',ws,e,n,h,r⟩:=s _ xiL
  cases e
  obtain⟨w,e1,_⟩:=r.getT (xii hi)
  exact⟨ws,w,SqT.of h,e1⟩
 stop:=fun F H s=>by
  obtain⟨a',ws,e,n,h,r⟩:=s _ xiL
  cases e
  exact⟨ws,SqT.of h,by rw[←r.len];exact xjd _⟩
 yld:=fun F i H x H' s d hi y=>by
  obtain⟨a',ws,e,n,h,r⟩:=s _ xiL
  cases e
  obtain⟨rfl,y⟩:=y
  obtain⟨t,e1,e2⟩:=r.get (y ws (SqT.of h))
  exact⟨.inl rfl,t,e1,e2⟩
def xfG (i:Nat):DI:=fun τ KK=>match nth τ i with | .ow ts=>KK ts | _=>False
theorem xb2 {i:Nat}:xee K (xfH K (tF i)) (xfG i):=fun B φ σ τ H R KK Rs hd q=>by
 have en:=Rs.ent i
 unfold xfG at hd
 revert en hd
 cases hi:nth τ i with
 | ow ts =>
  intro hd ⟨a,ws,e1,e2,e3,e4,r⟩
  refine⟨_,e1,a,rfl,⟨ws,SqL.of e4⟩,q _ ts (fun H=>H a=some (.lst ws)∧zF (Av B φ) H ts ws) H (HX.refl Rs) hd ⟨?_,?_,?_,?_⟩ ⟨e4,r⟩⟩
  ·intro H1 H2 ⟨s1,s2⟩ k
   exact⟨k a _ s1 fun z=>cD Rs hi e2 e3 (.inr z),yu (fun c o e n=>⟨k c o e fun z=>n (Rs.sAv z),n⟩) _ _ s2⟩
  ·intro j H1 ⟨s1,s2⟩ hj
   obtain⟨w,f1,_⟩:=s2.getT (xii hj)
   exact⟨ws,w,SqL.of s1,f1⟩
  ·intro H1 ⟨s1,s2⟩
   exact⟨ws,SqL.of s1,by rw[←s2.len];exact xjd _⟩
  ·intro j H1 x H2 ⟨s1,s2⟩ _ hj ⟨f,y⟩
   subst f
   obtain⟨t,g1,g2⟩:=s2.get (y ws (SqL.of s1))
   exact⟨.inl rfl,t,g1,g2⟩
 | _=>exact fun z _=>z.elim
def xbX (lo:Int)(n:Nat):List Tr:=(List.range n).map fun(k:Nat)=>Tr.int (lo+k)
theorem ui (lo:Int)(n:Nat):(xbX lo n).length=n:=by unfold xbX;rw[xit,List.length_range]
theorem kW {lo:Int}{n i:Nat}(h:i<n):(xbX lo n)[i]? = some (.int (lo+i)):=by unfold xbX;rw[xil,List.getElem?_range h];rfl
theorem mq {lo:Int}{n:Nat}:ItL (Itr lo n) (xbX lo n) [] where
 go:=fun F H i s hi=>by rw[ui] at hi;exact hi
 stop:=fun F H s=>by rw[ui];exact xjd _
 yld:=fun F i H x H' s d hi y=>by
  rw[ui] at hi
  obtain⟨rfl,rfl⟩:=y
  exact⟨.inl rfl,_,kW hi,rfl⟩
def xc0 (d:DA):DI:=fun τ KK=>d τ fun xs=>match xs with | [.int j]=>(-(2 ^ 62)≤j∧j<2 ^ 62)∧KK (xbX 0 j.toNat) | _=>False
def xdg (d:DA):DI:=fun τ KK=>d τ fun xs=>match xs with | [.int i,.int j]=>(-(2 ^ 62)≤i∧i<2 ^ 62∧-(2 ^ 62)≤j∧j<2 ^ 62)∧KK (xbX i (j-i).toNat) | _=>False
theorem vn {b:Bool}{n:Nat}{ta:TA}{da:DA}(h:OkA K b n ta da):OkI K true (xeR ta) (xc0 da):=fun B φ σ τ H R KK Rs hd q =>
 h B φ σ τ H _ _ Rs hd fun ts vs H1 x1 k1 l1 r1=>by
  split at k1
  ·rename_i j
   obtain⟨v,rfl,e⟩:=jB r1
   exact⟨j,by rw[show v=.int j from e],k1.1.1,k1.1.2,q _ _ [] H1 x1 k1.2 mq fun p hp=>absurd hp (by simp)⟩
  ·exact k1.elim
theorem sM {b:Bool}{n:Nat}{ta:TA}{da:DA}(h:OkA K b n ta da):OkI K true (xeH ta) (xdg da):=fun B φ σ τ H R KK Rs hd q =>
 h B φ σ τ H _ _ Rs hd fun ts vs H1 x1 k1 l1 r1=>by
  split at k1
  ·rename_i i j
   obtain⟨v,w,rfl,e,e'⟩:=oS r1
   exact⟨i,j,by rw[show v=.int i from e,show w=.int j from e'],k1.1,q _ _ [] H1 x1 k1.2 mq fun p hp=>absurd hp (by simp)⟩
  ·exact k1.elim
def xcl (dg:DG)(body:DS)(G:fj):List Tr→TSt→Prop
 | [],τ=>G.nx τ
 | x::xs,τ=>dg x τ fun τ'=>body { G with nx:=xcl dg body G xs,ct:=xcl dg body G xs,bk:=G.nx } τ'
def xeE (di:DI)(dg:DG)(body:DS):DS:=fun G τ=>di τ fun xs=>xcl dg body G xs τ
def FB.more (B:FB)(G:List (Tr×V)):FB:={ B with G0:=G++B.G0 }
theorem RS.more (R:RS K B φ σ τ H){G:List (Tr×V)}(h:∀p∈G,Rep (Av B φ) H p.1 p.2):RS K (B.more G) φ σ τ H :=
 ⟨R.f0,R.s0,R.ext,R.sst,R.inj,R.ow,R.len,R.ent,fun p hp=>(xiG.mp hp).elim (h p) (R.gh p)⟩
theorem RS.less {G:List (Tr×V)}(R:RS K (B.more G) φ σ τ H):RS K B φ σ τ H∧∀p∈G,Rep (Av B φ) H p.1 p.2 :=
 ⟨⟨R.f0,R.s0,R.ext,R.sst,R.inj,R.ow,R.len,R.ent,fun p hp=>R.gh p (xiI _ hp)⟩,fun p hp=>R.gh p (xiH _ hp)⟩
theorem xa5.hx (R:RS K B φ σ τ H)(g:xa5 H H'):HX B φ τ H H':=by
 rcases g with rfl | ⟨q,o,e,rfl⟩
 ·exact HX.refl R
 ·exact HX.new R e o
theorem yY {wi:TI}{g:TG}{tb:TS}{di:DI}{dg:DG}{db:DS}(hi:OkI K true wi di)(hg:OkG K g dg)(hb:OkS K fr tb db):OkS K fr (xgo wi g tb) (xeE di dg db):=fun B φ σ τ H E G R hd e =>
 hi B φ σ τ H _ _ R hd fun J ts Gh H1 x1 k1 it gh=>by
  let W:Nat→St→Hp→Prop:=fun i σ' H'=>i≤ts.length∧∃ φ' τ',RS K (B.more Gh) φ' σ' τ' H'∧xcl dg db G (ts.drop i) τ'
  refine⟨fun i m σ' H'=>m=ts.length-i∧W i σ' H',⟨_,rfl,xjo _,φ,τ,(R.hx x1).more gh,k1⟩,?_⟩
  rintro i m σ' H' ⟨rfl,hle,φ',τ',R',f⟩
  obtain⟨R0,g0⟩:=R'.less
  by_cases hlt:i<ts.length
  ·refine .inr ⟨it.go _ H' i g0 hlt,W (i+1),fun σ2 H2 w=>⟨_,by omega,rfl,w⟩,fun x H2 y=>?_⟩
   obtain⟨gr,t,ht,rt⟩:=it.yld _ i H' x H2 g0 (fun a z=>R0.dom z) hlt y
   have hx:=gr.hx R'
   have R2:=R'.hx hx
   have ed:ts.drop i=t::ts.drop (i+1):=by
    rw[xh9 hlt]
    rw[xii hlt] at ht
    cases ht;rfl
   rw[ed] at f
   refine hg (B.more Gh) φ' σ' τ' H2 t x _ _ R2 rt f fun φ3 σ3 τ3 H3 R3 _ _ k3=>?_
   exact hb (B.more Gh) φ3 σ3 τ3 H3 _ _ R3 k3 ⟨fun φ4 σ4 τ4 H4 R4 k4=>⟨hlt,φ4,τ4,R4,k4⟩,fun φ4 σ4 τ4 H4 R4 k4=>e.nx φ4 σ4 τ4 H4 R4.less.1 k4,fun φ4 σ4 τ4 H4 R4 k4=>⟨hlt,φ4,τ4,R4,k4⟩,fun t v H r x k f=>e.rt t v H r ⟨x.ext,x.st⟩ k f⟩
  ·have ei:i=ts.length:=by omega
   subst ei
   rw[xh_] at f
   exact .inl ⟨it.stop _ H' g0,e.nx φ' σ' τ' H' R0 f⟩
def xdb (c:DT)(body:DS)(G:fj):Nat→TSt→Prop
 | 0,_=>False
 | n+1,τ=>c τ fun b=>if b=true then body { G with nx:=xdb c body G n,ct:=xdb c body G n,bk:=G.nx } τ else G.nx τ
def xb9 (c:DT)(body:DS):DS:=fun G τ=>∃n,xdb c body G n τ
theorem rM {c:TT}{tb:TS}{dc:DT}{db:DS}(hc:OkT K c dc)(hb:OkS K fr tb db):OkS K fr (xcK c tb) (xb9 dc db):=fun B φ σ τ H E G R hd e=>by
 obtain⟨n,hd⟩:=hd
 refine⟨fun m σ' H'=>∃ φ' τ',RS K B φ' σ' τ' H'∧xdb dc db G m τ',⟨n,φ,τ,R,hd⟩,?_⟩
 rintro m σ' H' ⟨φ',τ',R',f⟩
 cases m with
 | zero=>exact f.elim
 | succ m =>
  refine hc B φ' σ' τ' H' _ _ R' f fun b H1 x1 k1=>?_
  cases b with
  | true =>
   refine oH ⟨fun σ2 H2=>∃ φ2 τ2,RS K B φ2 σ2 τ2 H2∧xdb dc db G m τ2,fun σ2 H2 w=>⟨m,by omega,w⟩,?_⟩
   exact hb B φ' σ' τ' H1 _ _ (R'.hx x1) k1 ⟨fun φ4 σ4 τ4 H4 R4 k4=>⟨φ4,τ4,R4,k4⟩,fun φ4 σ4 τ4 H4 R4 k4=>e.nx φ4 σ4 τ4 H4 R4 k4,fun φ4 σ4 τ4 H4 R4 k4=>⟨φ4,τ4,R4,k4⟩,e.rt⟩
  | false=>exact ou (e.nx φ' σ' τ' H1 (R'.hx x1) k1)
def tj (dg:DG)(dc:DT)(de:DE)(τi:TSt)(KK:List Tr→Prop):List Tr→List Tr→Prop
 | [],acc=>KK acc
 | x::xs,acc=>dg x τi fun τ2=>dc τ2 fun b=>if b=true then de τ2 fun y=>tj dg dc de τi KK xs (acc++[y]) else tj dg dc de τi KK xs acc
def xgA:TV→TV
 | .ow _=>.un
 | x=>x
def kL (tau:List (Option Nat))(τ:TSt):TSt:=tau.map fun o=>match o with | some j=>xgA (nth τ j) | none=>.un
def xgd (tau:List (Option Nat))(di:DI)(dg:DG)(dc:DT)(de:DE):DE:=fun τ KK=>di τ fun xs=>xs.length<sizeLine∧tj dg dc de (kL tau τ) (fun ys=>KK (.lst ys)) xs []
def mY:DT:=fun _ KK=>KK true
theorem yz:OkT K xe6 mY:=fun B φ σ τ H Q KK R hd q=>q true H (HX.refl R) hd
def FB.inner (B:FB)(φ:Phi)(τ:TSt)(H:Hp):FB:=⟨Av B φ,SA B φ τ,H,[]⟩
def rT (tau:List (Option Nat))(φ:Phi)(τ:TSt):Phi:=fun i=>match tau[i]? with | some (some j)=>(match nth τ j with | .st=>φ j | _=>none) | _=>none
theorem tD {tau:List (Option Nat)}:∀ {i:Nat},nth (kL tau τ) i=match tau[i]? with | some (some j)=>xgA (nth τ j) | _=>.un:=by
 intro i
 by_cases h:i<tau.length
 ·have h':i<(kL tau τ).length:=by unfold kL;rw[xit];exact h
  rw[k6 h',xii h]
  simp only[kL,List.getElem_map]
  cases tau[i]<;>rfl
 ·rw[uE (by unfold kL;rw[xit];omega),xij (by omega)]
theorem rG {tau:List (Option Nat)}{i j:Nat}{v:V}(h:tau[i]? = some (some j))(e:σ[j]? = some (some v)):(q8 tau σ)[i]? = some (some v):=by
 unfold q8
 rw[xil,h]
 simp only[Option.map_some,e,Option.getD_some]
theorem RS.inner {tau:List (Option Nat)}(R:RS K B φ σ τ H):RS K (B.inner φ τ H) (rT tau φ τ) (q8 tau σ) (kL tau τ) H:=by
 have hphi:∀i a,rT tau φ τ i=some a→∃j,tau[i]? = some (some j)∧nth τ j=.st∧φ j=some a:=fun i a e=>by
  unfold rT at e
  split at e
  ·rename_i j hj
   split at e
   ·rename_i hs;exact⟨j,hj,hs,e⟩
   ·cases e
  ·cases e
 have hav:∀a,Av (B.inner φ τ H) (rT tau φ τ) a→Av B φ a:=fun a z=>by
  rcases z with z | ⟨i,z⟩
  ·exact z
  ·obtain⟨j,_,_,e⟩:=hphi i a z
   exact .inr ⟨j,e⟩
 refine⟨fun a z=>R.dom z,fun a z=>R.sAv z,fun a o e _=>e,fun a s=>?_,fun i j a ts hi e1 _=>?_,fun i a e=>?_,?_,fun i=>?_,fun p hp=>absurd hp (by simp[FB.inner])⟩
 ·rcases s with s | ⟨i,s,_⟩
  ·exact R.sst a s
  ·obtain⟨j,_,hs,e⟩:=hphi i a s
   exact R.sst a (.inr ⟨j,e,hs⟩)
 ·exfalso
  rw[tD] at hi
  split at hi
  ·rename_i j hj
   revert hi
   cases nth τ j<;>intro hi<;>cases hi
  ·cases hi
 ·obtain⟨j,_,_,e⟩:=hphi i a e
  exact R.ow j a e
 ·unfold q8 kL;rw[xit,xit]
 ·rw[tD]
  split
  ·rename_i j hj
   have en:=R.ent j
   cases hn:nth τ j with
   | un=>trivial
   | ow ts=>trivial
   | fz t =>
    rw[hn] at en
    obtain⟨v,e,r⟩:=en
    exact⟨v,rG hj e,yL (fun a o e n=>⟨e,fun z=>n (hav a z)⟩) _ _ r⟩
   | st =>
    rw[hn] at en
    obtain⟨p,e1,e2,e3⟩:=en
    refine⟨p,rG hj e1,?_,.inl (.inr ⟨j,e2,hn⟩)⟩
    unfold rT
    simp only[hj,hn];exact e2
   | sc ns =>
    rw[hn] at en
    obtain⟨a,e,l,q⟩:=en
    exact⟨a,rG hj e,l,q⟩
   | ob a =>
    rw[hn] at en
    exact rG hj en
  ·trivial
theorem yq {wi:TI}{tau:List (Option Nat)}{g:TG}{tc:TT}{te:TE}{di:DI}{dg:DG}{dc:DT}{de:DE}{b:Bool}(hi:xee K wi di)(hg:OkN K g dg)(hc:OkT K tc dc)(he:OkE K b te de) :
  OkF K (xbi wi tau g tc te) (xgd tau di dg dc de):=fun B φ σ τ H Q KK R hd q =>
 hi B φ σ τ H _ _ R hd fun J ts Src H1 x1 k1 it s1=>by
  refine⟨fun i m ys H'=>m=ts.length-i∧i≤ts.length∧ys.length≤i∧HX B φ τ H H'∧Src H'∧∃acc,zF (Av B φ) H' acc ys∧tj dg dc de (kL tau τ) (fun ys=>KK (.lst ys)) (ts.drop i) acc,⟨_,rfl,xjo _,xjo _,x1,s1,[],rfl,k1.2⟩,?_⟩
  rintro i m ys H' ⟨rfl,hle,hys,x,s,acc,ra,f⟩
  have R':=R.hx x
  by_cases hlt:i<ts.length
  ·refine .inr ⟨it.go i H' s hlt,by have:=k1.1;omega,fun v H2 y=>?_⟩
   obtain⟨gr,t,ht,rt⟩:=it.yld i H' v H2 s (fun a z=>R'.dom z) hlt y
   have hx:=gr.hx R'
   have R2:=R'.hx hx
   have ed:ts.drop i=t::ts.drop (i+1):=by
    rw[xh9 hlt]
    rw[xii hlt] at ht
    cases ht;rfl
   rw[ed] at f
   refine hg (B.inner φ τ H2) _ _ _ H2 (Av B φ) t v _ _ R2.inner (fun a z=>?_) rt f fun φ3 σ3 τ3 R3 ha k3=>?_
   ·rcases z with z | ⟨j,z⟩
    ·exact z
    ·unfold rT at z
     split at z
     ·split at z
      ·exact .inr ⟨_,z⟩
      ·cases z
     ·cases z
   have hsa:∀a,SA (B.inner φ τ H2) φ3 τ3 a→SA B φ τ a:=fun a z=>by
    rcases z with z | ⟨j,z,hj⟩
    ·exact z
    ·have en:=R3.ent j
     rw[hj] at en
     obtain⟨p,e1,e2,e3⟩:=en
     rw[z] at e2;cases e2
     rcases e3 with e3 | e3
     ·exact e3
     ·exact absurd e3 (R3.sst a (.inr ⟨j,z,hj⟩)).ne_none
   have hxo:∀ {H3 H4:Hp},HX (B.inner φ τ H2) φ3 τ3 H3 H4→HX B φ τ H3 H4:=fun {H3 H4} h=>⟨fun a o e n=>h.keep a o e fun z=>n (hsa a z),fun a z=>h.st a (.inl z)⟩
   refine hc _ φ3 σ3 τ3 H2 _ _ R3 k3 fun c H3 x3 k4=>?_
   have x23:=hxo x3
   have s3:=it.stab _ _ (it.stab _ _ s fun a o e n=>hx.keep a o e n) fun a o e n=>x23.keep a o e n
   cases c with
   | false =>
    refine ou ⟨_,by omega,rfl,hlt,by omega,(x.trans hx).trans x23,s3,acc,(hx.trans x23).repL (fun a z=>R.sAv z) ra,?_⟩
    simpa using k4
   | true =>
    refine oH (he _ φ3 σ3 τ3 H3 _ _ (R3.hx x3) k4 fun u w H4 x4 k5 r5=>?_)
    have x34:=hxo x4
    refine⟨_,by omega,rfl,hlt,by rw[xiq,xix];omega,((x.trans hx).trans x23).trans x34,it.stab _ _ s3 fun a o e n=>x34.keep a o e n,acc++[u],(((hx.trans x23).trans x34).repL (fun a z=>R.sAv z) ra).app (show zF _ _ [u] [w] from⟨w,[],rfl,?_,rfl⟩),k5⟩
    refine yL (fun a o e n=>⟨e,fun z=>n ?_⟩) _ _ r5
    cases b with
    | true=>exact .inl z
    | false=>exact .inl z
  ·have ei:i=ts.length:=by omega
   subst ei
   rw[xh_] at f
   refine .inl ⟨it.stop H' s,fun p hp=>q acc p ys _ (x.trans (HX.new R' hp _)) f (x.none hp) yk (qX hp ra)⟩
end
end L2
namespace L2
open PySem PySem.Spec PyProof.Rows
def startT (N:List Str):Bool→List Tr→TSt
 | true,ts=>.st::(ts.map TV.fz++List.replicate (N.length-(ts.length+1)) .un)
 | false,ts=>ts.map TV.fz++List.replicate (N.length-ts.length) .un
theorem jK {ts:List Tr}{n i:Nat}{x:TV}(h:nth (ts.map TV.fz++List.replicate n .un) i=x):x=.un∨∃t,ts[i]? = some t∧x=.fz t:=by
 by_cases hi:i<ts.length
 ·right
  rw[k6 (by simp;omega),List.getElem_append_left (by simpa using hi),List.getElem_map] at h
  exact⟨_,xii hi,h.symm⟩
 ·left
  by_cases h2:i<ts.length+n
  ·rw[k6 (by simp;omega),List.getElem_append_right (by simp;omega),List.getElem_replicate] at h
   exact h.symm
  ·rw[uE (by simp;omega)] at h
   exact h.symm
theorem je {N:List Str}{vs:List V}{i:Nat}{v:V}(h:vs[i]? = some v):(start N vs)[i]? = some (some v):=by
 unfold start
 have hi:=(xik.mp h).1
 rw[xih (by simpa using hi),xil,h];rfl
theorem fw {N:List Str}{vs:List V}(h:vs.length≤N.length):(start N vs).length=N.length:=by
 unfold start;rw[xiq,xit,xiv];omega
section
variable {P:Program} {w:World} {K:PySem.W.Frag} {mg:Str→Option Value} {base:Heap} {k n:Nat} {x qual:Str} {st:Stmt} {f:Addr} {fd:FuncData} {N ps:List Str} {fr:Bool} {sp:TSp}
theorem xar {F S:Addr→Prop}{H:Hp}{ts:List Tr}{us:List V}(hF:∀a,F a→H a≠none)(hS:∀a,S a→F a)(hst:∀a,S a→oF a H)(r:zF F H ts us)(hl:ts.length≤N.length) :
  RS K ⟨F,S,H,[]⟩ (fun _=>none) (start N us) (startT N false ts) H where
 f0:=hF
 s0:=hS
 ext:=fun a o e _=>e
 sst:=fun a s=>by
  rcases s with s | ⟨i,s,_⟩
  ·exact hst a s
  ·cases s
 inj:=fun i j a us _ e=>by cases e
 ow:=fun i a e=>by cases e
 len:=by
  have:=r.len
  rw[fw (by omega)]
  simp[startT];omega
 ent:=fun i=>by
  rcases jK (ts:=ts) (n:=N.length-ts.length) (i:=i) rfl with e | ⟨t,h,e⟩
  ·show Ent K _ _ H i _ (nth (ts.map TV.fz++List.replicate (N.length-ts.length) .un) i)
   rw[e];trivial
  ·show Ent K _ _ H i _ (nth (ts.map TV.fz++List.replicate (N.length-ts.length) .un) i)
   rw[e]
   obtain⟨v,e1,e2⟩:=r.getT h
   exact⟨v,je e1,yL (fun a o e n=>⟨e,fun z=>n (z.elim id fun⟨_,z⟩=>nomatch z)⟩) _ _ e2⟩
 gh:=fun p hp=>absurd hp (by simp)
theorem oZ {F S:Addr→Prop}{H:Hp}{ts:List Tr}{us:List V}{p:Addr}(hp:S p)(hF:∀a,F a→H a≠none)(hS:∀a,S a→F a)(hst:∀a,S a→oF a H)(r:zF F H ts us)(hl:ts.length+1≤N.length) :
  RS K ⟨F,S,H,[]⟩ (fun i=>if i=0 then some p else none) (start N (.ref p::us)) (startT N true ts) H where
 f0:=hF
 s0:=hS
 ext:=fun a o e _=>e
 sst:=fun a s=>by
  rcases s with s | ⟨i,s,_⟩
  ·exact hst a s
  ·have s:(if i=0 then some p else none)=some a:=s
   by_cases e:i=0
   ·rw[if_pos e] at s;cases s;exact hst _ hp
   ·rw[if_neg e] at s;cases s
 inj:=fun i j a us hi e=>by
  exfalso
  by_cases e0:i=0
  ·subst e0;cases hi
  ·rw[if_neg e0] at e;cases e
 ow:=fun i a e=>by
  by_cases e0:i=0
  ·rw[if_pos e0] at e;cases e;exact(hst _ hp).ne_none
  ·rw[if_neg e0] at e;cases e
 len:=by
  have:=r.len
  rw[fw (by rw[xir];omega)]
  simp[startT];omega
 ent:=fun i=>by
  cases i with
  | zero=>exact⟨p,je (by rfl),if_pos rfl,.inl hp⟩
  | succ i =>
   show Ent K _ _ H (i+1) _ (nth (ts.map TV.fz++List.replicate (N.length-(ts.length+1)) .un) i)
   rcases jK (ts:=ts) (n:=N.length-(ts.length+1)) (i:=i) rfl with e | ⟨t,h,e⟩
   ·rw[e];trivial
   ·rw[e]
    obtain⟨v,e1,e2⟩:=r.getT h
    refine⟨v,je (by rw[List.getElem?_cons_succ];exact e1),yL (fun a o e n=>⟨e,fun z=>n ?_⟩) _ _ e2⟩
    rcases z with z | ⟨j,z⟩
    ·exact z
    ·have z:(if j=0 then some p else none)=some a:=z
     by_cases e0:j=0
     ·rw[if_pos e0] at z;cases z;exact hS _ hp
     ·rw[if_neg e0] at z;cases z
 gh:=fun p hp=>absurd hp (by simp)
theorem xB (F:Fun K x qual st f fd)(S:xC N ps (xg st))(mgx:mg x=some (.ref f))(b:Binds K fd ps [])(hn:ps.length=n)
  (body:∀(cdv:Value) (A:Around) (outer:List Env) (s:Shared) (H:Hp) (E:XK),dj k (A.deeper (envOfC qual (xg st) s.heap.objs.size f cdv)) →
   ∃T D,PSs (xa1 CX0 P w K mg base N qual (xg st) f cdv A outer s H E).nox (zp st) T∧OkS K fr T D∧∀ts KK,ts.length=n→sp ts KK→D { nx:=fun _=>fr=false∧KK .non,rt:=KK } (startT N false ts)) :
  Own P w K mg base (k+1) x ps (spT n false fr sp):=by
 have hpl:ps.length≤N.length:=by have:=xjq List.length S.pre;rw[xiy] at this;omega
 refine mz F S mgx b (fun vs H Q E h=>?_) (fun cdv A outer s H vs Q E hr h=>?_)
 ·obtain⟨F',S',ts,KK,us,e,_,_,_,r,l,_⟩:=h
  cases (show vs=us from e)
  rw[←r.len,l,hn]
 ·obtain⟨F',S',ts,KK,us,e,hF,hS,hst,r,l,hsp,q⟩:=h
  cases (show vs=us from e)
  obtain⟨T,D,ht,hd,h⟩:=body cdv A outer s H E hr
  refine⟨T,ht,hd _ _ _ _ H _ _ (xar hF hS hst r (by omega)) (h ts KK l hsp) ⟨fun φ σ τ H1 R k=>?_,fun _ _ _ _ _ z=>z.elim,fun _ _ _ _ _ z=>z.elim,fun t v H1 r1 x k fl=>?_⟩⟩
  ·obtain⟨k1,k2⟩:=k
   exact q .non .non H1 k2 R.ext (fun a z=>R.sst a (.inl z)) rfl fun z=>by rw[k1] at z;cases z
  ·exact q t v H1 k x.ext x.st r1 fl
theorem tQ (F:Fun K x qual st f fd)(S:xC N ps (xg st))(mgx:mg x=some (.ref f))(b:Binds K fd ps [])(hn:ps.length=n+1)
  (body:∀(cdv:Value) (A:Around) (outer:List Env) (s:Shared) (H:Hp) (E:XK),dj k (A.deeper (envOfC qual (xg st) s.heap.objs.size f cdv)) →
   ∃T D,PSs (xa1 CX0 P w K mg base N qual (xg st) f cdv A outer s H E).nox (zp st) T∧OkS K fr T D∧∀ts KK,ts.length=n→sp ts KK→D { nx:=fun _=>fr=false∧KK .non,rt:=KK } (startT N true ts)) :
  Own P w K mg base (k+1) x ps (spT n true fr sp):=by
 have hpl:ps.length≤N.length:=by have:=xjq List.length S.pre;rw[xiy] at this;omega
 refine mz F S mgx b (fun vs H Q E h=>?_) (fun cdv A outer s H vs Q E hr h=>?_)
 ·obtain⟨F',S',ts,KK,us,⟨p,e,_⟩,_,_,_,r,l,_⟩:=h
  rw[e,xir,←r.len,l,hn]
 ·obtain⟨F',S',ts,KK,us,⟨p,e,hp⟩,hF,hS,hst,r,l,hsp,q⟩:=h
  subst e
  obtain⟨T,D,ht,hd,h⟩:=body cdv A outer s H E hr
  refine⟨T,ht,hd _ _ _ _ H _ _ (oZ hp hF hS hst r (by omega)) (h ts KK l hsp) ⟨fun φ σ τ H1 R k=>?_,fun _ _ _ _ _ z=>z.elim,fun _ _ _ _ _ z=>z.elim,fun t v H1 r1 x k fl=>?_⟩⟩
  ·obtain⟨k1,k2⟩:=k
   exact q .non .non H1 k2 R.ext (fun a z=>R.sst a (.inl z)) rfl fun z=>by rw[k1] at z;cases z
  ·exact q t v H1 k x.ext x.st r1 fl
def xfK (H:Hp):Prop:=∀b,(H b=none∨∃o xs,H b=some (.frz o (.lst xs)))∨∃q,H b=some (.tb q)
def p7 (K:PySem.W.Frag):Sp:=fun vs H Q _=>∃(a:Addr) (ns:List Int),vs=[.ref a]∧(xfK H∧xcF K H)∧SqL K H a (ns.map V.int)∧ns.length≤63∧∀H',Q (.bl true) H'
theorem xba (F:Fun K x qual st f fd)(S:xC N ps (xg st))(hn:ps.length=1)
  (body:∀(cdv:Value) (A:Around) (outer:List Env) (s:Shared) (H:Hp) (E:XK),dj k (A.deeper (envOfC qual (xg st) s.heap.objs.size f cdv)) →
   ∃T D,PSs (xa1 CX0 P w K mg base N qual (xg st) f cdv A outer s H E).nox (zp st) T∧OkS K false T D∧∀ns:List Int,ns.length≤63→D { nx:=fun _=>False,rt:=fun t=>t=.bl true } (.sc ns::List.replicate (N.length-1) .un)) :
  rJ P w K mg base CX0 (k+1) f fd ps (p7 K):=by
 have hpl:ps.length≤N.length:=by have:=xjq List.length S.pre;rw[xiy] at this;omega
 refine F.ok S (fun vs H Q E h=>?_) (fun cdv A outer s H vs Q E hr h=>?_)
 ·obtain⟨a,ns,rfl,_⟩:=h
  exact hn.symm
 ·obtain⟨a,ns,rfl,⟨hO,hT⟩,hS,hl,q⟩:=h
  obtain⟨T,D,ht,hd,h⟩:=body cdv A outer s H E hr
  have so:xbt K H a ns:=by
   refine⟨?_,hT⟩
   rcases hS with (z | ⟨o,z⟩) | z
   ·exfalso
    rcases hO a with (y | ⟨o,xs,y⟩) | ⟨_,y⟩
    ·rw[y] at z;cases z
    ·rw[y] at z;cases z
    ·rw[y] at z;cases z
   ·exact .inl ⟨o,z⟩
   ·exact .inr fun _=>.inr z
  have R:RS K ⟨fun _=>False,fun _=>False,H,[]⟩ (fun _=>none) (start N [.ref a]) (.sc ns::List.replicate (N.length-1) .un) H:=by
   refine⟨fun _ z=>z.elim,fun _ z=>z,fun _ _ e _=>e,fun a s=>?_,fun i j a us _ e=>(by cases e),fun i a e=>(by cases e),?_,fun i=>?_,fun p hp=>absurd hp (by simp)⟩
   ·rcases s with s | ⟨i,s,_⟩
    ·exact s.elim
    ·cases s
   ·rw[fw (by simp;omega)]
    simp;omega
   ·cases i with
    | zero=>exact⟨a,je rfl,hl,so⟩
    | succ i =>
     show Ent K _ _ H (i+1) _ (nth (List.replicate (N.length-1) .un) i)
     rcases jK (ts:=[]) (n:=N.length-1) (i:=i) rfl with e | ⟨t,h,e⟩
     ·rw[xiF,xiW] at e
      rw[e];trivial
     ·simp at h
  refine⟨T,ht,hd _ _ _ _ H _ _ R (h ns hl) ⟨fun _ _ _ _ _ z=>z.elim,fun _ _ _ _ _ z=>z.elim,fun _ _ _ _ _ z=>z.elim,fun t v H1 r1 x k fl=>?_⟩⟩
  cases (show t=.bl true from k)
  cases (show v=.bl true from r1)
  exact q H1
end
section
variable {K:PySem.W.Frag} {fr:Bool}
def xb6 (j i:Nat)(d:DE):DS:=fun G τ=>match nth τ i with | .sc _=>d τ (fun t=>match t with | .int k=>0≤k∧G.nx (τ.set j .st) | _=>False) | _=>False
theorem xaY {b:Bool}{j i:Nat}{te:TE}{d:DE}(h:OkE K b te d):OkS K fr (xa0 (xeo (bK K) (q9 (tF i) (q9 te lS))) (jt j)) (xb6 j i d):=fun B φ σ τ H E G R hd e=>by
 have en:=R.ent i
 unfold xb6 at hd
 revert en hd
 cases hi:nth τ i with
 | sc ns =>
  intro hd ⟨a,e1,hl,so,_⟩
  refine⟨_,e1,h B φ σ τ H _ _ R hd fun t v H1 x1 k1 r1=>?_⟩
  cases t with
  | int k =>
   cases (show v=.int k from r1)
   have sq:SqL K H1 a (ns.map V.int):=by
    rcases so with ⟨o,q⟩ | q
    ·exact .inl (.inr ⟨o,x1.keep a _ q (aE R q)⟩)
    ·exact q H1
   refine⟨a,ns,k,rfl,sq,hl,k1.1,fun p n b hp hok=>?_⟩
   have x2:=x1.trans (HX.new (R.hx x1) hp (.lst [.int n,.bl b]))
   have z0:B.H0 p=none:=by
    cases q:B.H0 p with
    | none=>rfl
    | some o =>
     by_cases s:B.S0 p
     ·exact absurd hp ((R.hx x1).sst p (.inl s)).ne_none
     ·rw[(R.hx x1).ext p o q s] at hp;cases hp
   refine e.nx _ _ _ _ (R.setNew (x:=.st) x2 (x1.none hp) (by rw[yk];exact fun z=>nomatch z) (fun _=>⟨n,b,yk,hok⟩) ⟨p,rfl,bP,.inr z0⟩) k1.2
  | _=>exact k1.elim
 | _=>exact fun z _=>z.elim
def xbj:TSp:=fun ts KK=>match ts with | [.int many]=>(0<many∧many<2 ^ 128)∧∀r,0≤r→r<many→KK (.int r) | _=>False
theorem lY {P:Program}{w:World}{mg:Str→Option Value}{base:Heap}{k:Nat}{x:Str}{ps:List Str}(h:Own P w K mg base k x ps xb_):Own P w K mg base k x ps (spT 1 true false xbj):=h.imp fun vs H Q E q=>by
 obtain⟨F,S,ts,KK,us,⟨p,e,hp⟩,hF,hS,hst,r,l,hsp,q⟩:=q
 unfold xbj at hsp
 split at hsp
 ·rename_i many
  obtain⟨v,rfl,r1⟩:=jB r
  cases (show v=.int many from r1)
  refine⟨p,many,e,hst p hp,hsp.1.1,hsp.1.2,fun r H' h0 h1 sb=>q (.int r) (.int r) H' (hsp.2 r h0 h1) (fun a o e n=>sb.keep a o (fun z=>n (by rw[z];exact hp)) e) (fun a s=>?_) rfl (fun z=>nomatch z)⟩
  by_cases ea:a=p
  ·rw[ea];exact sb.st
  ·obtain⟨n,b,e1,z⟩:=hst a s
   exact⟨n,b,sb.keep a _ ea e1,z⟩
 ·exact hsp.elim
end
end L2
namespace L2
open PySem PySem.Spec PyProof.Rows
mutual
def j5:Tr→PyData
 | .non=>.none | .bl b=>.bool b | .int i=>.int i | .str x=>.str x | .emp=>.dict [] | .tup ts=>.tuple (vj ts) | .lst ts=>.list (vj ts)
def vj:List Tr→List PyData
 | []=>[]
 | t::ts=>j5 t::vj ts
end
def teq (t u:Tr):Bool:=PyData.eqv (j5 t) (j5 u)
def pln (t:Tr):Bool:=(j5 t).canLay0
def dep (t:Tr):Nat:=(j5 t).depth
section
variable {X:Cx} {pins:List (Addr×Obj)} {σ:St} {H:Hp} {s:Shared}
mutual
theorem vo (I:Inv X pins σ H s){F:Addr→Prop}:∀(t:Tr) (x:V) (a:Value),Rep F H t x→RelV x a→pln t=true→∃as,Reads s.heap a (j5 t) as
 | .non,x,a,r,e,_=>by cases (show x=.non from r);cases e;exact⟨_,.none⟩
 | .bl b,x,a,r,e,_=>by cases (show x=.bl b from r);cases e;exact⟨_,.bool b⟩
 | .int i,x,a,r,e,_=>by cases (show x=.int i from r);obtain⟨t,rfl⟩:=e;exact⟨_,.int i t⟩
 | .str i,x,a,r,e,_=>by cases (show x=.str i from r);obtain⟨t,rfl⟩:=e;exact⟨_,.str i t⟩
 | .emp,x,a,r,e,h=>by cases h
 | .tup ts,x,a,r,e,h=>by
  obtain⟨p,ws,rfl,_,hp,rl⟩:=r
  cases e
  obtain⟨its,rv,⟨o,ho,hc,n,hd⟩,_⟩:=I.tuple (SqT.of hp)
  obtain⟨as,ra⟩:=vc I ts ws its rl rv h
  exact⟨_,.tuple ho hc hd (by simpa using ra)⟩
 | .lst ts,x,a,r,e,h=>by
  obtain⟨p,ws,rfl,_,hp,rl⟩:=r
  cases e
  obtain⟨its,rv,pl,_⟩:=I.list (SqL.of hp)
  obtain⟨o,ho,hc,n,hd⟩:=pl.isList
  obtain⟨as,ra⟩:=vc I ts ws its rl rv h
  exact⟨_,.list ho hc hd (by simpa using ra)⟩
theorem vc (I:Inv X pins σ H s){F:Addr→Prop}:∀(ts:List Tr) (ws:List V) (us:List Value),zF F H ts ws→zh ws us→PyData.canLayAll0 (vj ts)=true→∃as,ReadsAll s.heap us (vj ts) as
 | [],ws,us,r,v,_=>by cases (show ws=[] from r);cases v;exact⟨_,.nil⟩
 | t::ts,ws,us,r,v,h=>by
  obtain⟨w,r',rfl,h1,h2⟩:=r
  cases v with
  | cons v1 v2 =>
   have h':pln t=true∧PyData.canLayAll0 (vj ts)=true:=by
    have:(pln t&&PyData.canLayAll0 (vj ts))=true:=h
    simpa using this
   obtain⟨as,ra⟩:=vo I t w _ h1 v1 h'.1
   obtain⟨bs,rb⟩:=vc I ts r' _ h2 v2 h'.2
   exact⟨_,.cons ra rb⟩
end
end
def xd5 (t u:Tr):Prop:=pln t=true∧pln u=true∧min (dep t) (dep u)≤64
def xgT:R2:=fun x y H Q=>∃F G t u,Rep F H t x∧Rep G H u y∧xd5 t u∧Q (.bl (teq t u)) H
def xgz:R2:=fun x y H Q=>∃F G t u,Rep F H t x∧Rep G H u y∧xd5 t u∧Q (.bl (!teq t u)) H
section
variable {X:Cx}
theorem wj (hu:X.A.units+64<cLine):OpR X (compareOp .Eq) xgT:=by
 intro pins s σ H x y v u Q I rx ry h
 obtain⟨F,G,t,t',r1,r2,⟨p1,p2,p3⟩,q⟩:=h
 obtain⟨as,ra⟩:=vo I t x v r1 rx p1
 obtain⟨bs,rb⟩:=vo I t' y u r2 ry p2
 exact SeqAt.rcAt_reads ra rb p1 p2 (xjh (Nat.add_le_add_left p3 _) hu) X.prog X.w _ _ ⟨.bl _,H,I,rfl,q⟩
theorem zY (hu:X.A.units+64<cLine):OpR X (compareOp .NotEq) xgz:=by
 intro pins s σ H x y v u Q I rx ry h
 obtain⟨F,G,t,t',r1,r2,⟨p1,p2,p3⟩,q⟩:=h
 obtain⟨as,ra⟩:=vo I t x v r1 rx p1
 obtain⟨bs,rb⟩:=vo I t' y u r2 ry p2
 exact SeqAt.rcNeAt_reads ra rb p1 p2 (xjh (Nat.add_le_add_left p3 _) hu) X.prog X.w _ _ ⟨.bl _,H,I,rfl,q⟩
def xgl (neg:Bool):R2:=fun x y H Q=>∃F G t ts,Rep F H t x∧(Rep G H (.lst ts) y∨Rep G H (.tup ts) y)∧pln t=true∧PyData.canLayAll0 (vj ts)=true∧dep t≤60∧Q (.bl (if neg then !(ts.any fun u=>teq u t) else ts.any fun u=>teq u t)) H
theorem fO {h:Heap}{d0:PyData}(e:Value→Bool)(he:∀y d as,Reads h y d as→d.canLay0=true→e y=PyData.eqv d d0):∀(ts:List Tr) (us:List Value) (as:List Addr),ReadsAll h us (vj ts) as→PyData.canLayAll0 (vj ts)=true→us.any e=ts.any fun u=>PyData.eqv (j5 u) d0
 | [],us,as,r,_=>by cases r;rfl
 | t::ts,us,as,r,hl=>by
  have h':(j5 t).canLay0=true∧PyData.canLayAll0 (vj ts)=true:=by
   have:((j5 t).canLay0&&PyData.canLayAll0 (vj ts))=true:=hl
   simpa using this
  generalize hg:vj (t::ts)=ds at r
  cases r with
  | nil=>cases hg
  | cons r1 r2 =>
   have e1:j5 t=_:=(List.cons.inj hg).1
   have e2:vj ts=_:=(List.cons.inj hg).2
   subst e1 e2
   rw[List.any_cons,List.any_cons,he _ _ _ r1 h'.1,fO e he ts _ _ r2 h'.2]
theorem tW {h:Heap}{y:Value}:∀(ds:List PyData) (us:List Value) (as:List Addr),ReadsAll h us ds as→PyData.canLayAll0 ds=true→y∈us→∃d as,Reads h y d as∧d.canLay0=true
 | [],us,as,r,_,hm=>by cases r;exact absurd hm (by simp)
 | d::ds,us,as,r,hl,hm=>by
  have h':d.canLay0=true∧PyData.canLayAll0 ds=true:=by
   have:(d.canLay0&&PyData.canLayAll0 ds)=true:=hl
   simpa using this
  cases r with
  | cons r1 r2 =>
   rcases xiJ.mp hm with rfl | hm
   ·exact⟨d,_,r1,h'.1⟩
   ·exact tW ds _ _ r2 h'.2 hm
open Classical in
def eBy (h:Heap)(d0:PyData)(y:Value):Bool:=if ∃d as,Reads h y d as∧d.canLay0=true∧PyData.eqv d d0=true then true else false
theorem lI {h:Heap}{d0:PyData}(y:Value)(d:PyData)(as:List Addr)(r:Reads h y d as)(hl:d.canLay0=true):eBy h d0 y=PyData.eqv d d0:=by
 unfold eBy
 cases hq:PyData.eqv d d0 with
 | true=>rw[if_pos ⟨d,as,r,hl,hq⟩]
 | false =>
  rw[if_neg]
  rintro⟨d',as',r',hl',hq'⟩
  have:=SeqAt.Reads.unique d d' y as as' hl r r'
  subst this
  rw[hq] at hq';cases hq'
theorem xdv (hu:X.A.units+64<cLine):OpR X (compareOp .NotIn) (xgl true):=by
 intro pins s σ H x y v u Q I rx ry h
 obtain⟨F,G,t,ts,r1,r2,p1,p2,p3,q⟩:=h
 obtain⟨as,ra⟩:=vo I t x v r1 rx p1
 have room:∀d:PyData,X.A.in1.units+min d.depth (j5 t).depth<cLine:=fun d=>by
  have h1:min d.depth (j5 t).depth≤60:=xjf (Nat.min_le_right _ _) p3
  show X.A.units+1+_<_
  omega
 have eqa:∀(ds:List PyData) (us:List Value) (bs:List Addr),ReadsAll s.heap us ds bs→PyData.canLayAll0 ds=true→∀z∈us,SeqAt.EqAt X.A.in1 s z v (eBy s.heap (j5 t) z):=fun ds us bs rb hl z hz=>by
  obtain⟨d,cs,rd,hd⟩:=tW ds us bs rb hl hz
  rw[lI z d cs rd hd]
  exact SeqAt.eqAt_reads d (j5 t) _ s z v _ _ rd ra hd p1 (room d)
 rcases r2 with r2 | r2
 ·obtain⟨p,ws,rfl,_,hp,rl⟩:=r2
  cases ry
  obtain⟨its,rv,pl,_⟩:=I.list (SqL.of hp)
  obtain⟨bs,rb⟩:=vc I ts ws its rl rv p2
  refine SeqAt.notIn_listAt (eBy s.heap (j5 t)) pl.isList (fun z hz=>eqa _ _ _ rb p2 z (by simpa using hz)) ⟨.bl _,H,I,?_,q⟩
  show Value.bool _=Value.bool _
  rw[if_pos rfl,show(ts.any fun u=>teq u t)=its.toArray.any (eBy s.heap (j5 t)) from by
   rw[show(its.toArray.any (eBy s.heap (j5 t)))=its.any (eBy s.heap (j5 t)) by simp]
   exact(fO (eBy s.heap (j5 t)) (fun y d as r hl=>lI y d as r hl) ts its bs rb p2).symm]
 ·obtain⟨p,ws,rfl,_,hp,rl⟩:=r2
  cases ry
  obtain⟨its,rv,pl,_⟩:=I.tuple (SqT.of hp)
  obtain⟨bs,rb⟩:=vc I ts ws its rl rv p2
  refine SeqAt.notIn_tupleAt (eBy s.heap (j5 t)) pl (fun z hz=>eqa _ _ _ rb p2 z (by simpa using hz)) ⟨.bl _,H,I,?_,q⟩
  show Value.bool _=Value.bool _
  rw[if_pos rfl,show(ts.any fun u=>teq u t)=its.toArray.any (eBy s.heap (j5 t)) from by
   rw[show(its.toArray.any (eBy s.heap (j5 t)))=its.any (eBy s.heap (j5 t)) by simp]
   exact(fO (eBy s.heap (j5 t)) (fun y d as r hl=>lI y d as r hl) ts its bs rb p2).symm]
end
def xff (neg:Bool)(x y:Tr)(KK:Tr→Prop):Prop:=match x,y with
 | .int i,.int j=>KK (.bl (if neg then !decide (i=j) else decide (i=j)))
 | x,y=>xd5 x y∧KK (.bl (if neg then !teq x y else teq x y))
theorem xbE (i j:Int):xd5 (.int i) (.int j):=⟨rfl,rfl,by show min 0 0≤64;decide⟩
theorem xaG {neg:Bool}{x y:Tr}{KK:Tr→Prop}(h:xff neg x y KK):xd5 x y∧KK (.bl (if neg then !teq x y else teq x y)):=by
 unfold xff at h
 split at h
 ·exact⟨xbE _ _,h⟩
 ·exact h
theorem os_eq:OpS xgT (xff false):=fun F G H x y t u KK Q r1 r2 hf q=>by
 obtain⟨h1,h2⟩:=xaG hf
 exact⟨F,G,t,u,r1,r2,h1,q _ _ rfl h2⟩
theorem vO:OpS xgz (xff true):=fun F G H x y t u KK Q r1 r2 hf q=>by
 obtain⟨h1,h2⟩:=xaG hf
 exact⟨F,G,t,u,r1,r2,h1,q _ _ rfl h2⟩
def fIn (neg:Bool)(x y:Tr)(KK:Tr→Prop):Prop:=match y with
 | .lst ts=>(pln x=true∧PyData.canLayAll0 (vj ts)=true∧dep x≤60)∧KK (.bl (if neg then !(ts.any fun u=>teq u x) else ts.any fun u=>teq u x))
 | .tup ts=>(pln x=true∧PyData.canLayAll0 (vj ts)=true∧dep x≤60)∧KK (.bl (if neg then !(ts.any fun u=>teq u x) else ts.any fun u=>teq u x))
 | _=>False
theorem xf4 {neg:Bool}:OpS (xgl neg) (fIn neg):=fun F G H x y t u KK Q r1 r2 hf q=>by
 unfold fIn at hf
 split at hf
 ·exact⟨F,G,t,_,r1,.inl r2,hf.1.1,hf.1.2.1,hf.1.2.2,q _ _ rfl hf.2⟩
 ·exact⟨F,G,t,_,r1,.inr r2,hf.1.1,hf.1.2.1,hf.1.2.2,q _ _ rfl hf.2⟩
 ·exact hf.elim
end L2
namespace L2
open PySem PySem.Spec PyProof.Rows
def xge (K:PySem.W.Frag)(tl:TE):TI:=fun σ H R=>tl σ H fun x H1=>∃a,x=.ref a∧(((∃xs,SqL K H1 a xs)∧R (Itl K a) H1)∨((∃xs,SqT K H1 a xs)∧R (Itt K a) H1))
section
variable {X:Cx}
theorem yN (K:PySem.W.Frag){tg l:Expr}{tl:TE}(hl:PE X l tl)(e:X.K=K:=by rfl):PI X tg l (xge K tl):=by
 subst e
 intro pins s σ H R I h
 refine thn (@hl pins s σ H _ I h) fun v s1 ⟨x,H1,I1,r1,q1⟩=>?_
 obtain⟨a,e,q⟩:=q1
 subst e
 cases r1
 rcases q with ⟨⟨xs,hq⟩,q⟩ | ⟨⟨xs,hq⟩,q⟩
 ·obtain⟨its,rv,p,hz⟩:=I1.list hq
  refine wpAny_pyIter_list p.isList ?_
  refine⟨s1.heap.objs.size,[s1.heap.objs.size],_,_,H1,rfl,I1.kept (t':=s1.toks) fun b o e=>Heap.get?_push_of_some _ e,lW a _,⟨_,Heap.get?_push_size _ rfl,rfl,rfl⟩,fun b hb=>?_,q⟩
  have e:b=s1.heap.objs.size:=by simpa using hb
  subst e
  exact I1.fpOk (xjd _) (I1.hok.fresh (xjd _))
 ·obtain⟨its,rv,p,hz⟩:=I1.tuple hq
  refine wpAny_pyIter_tuple (show s1.heap.IsTuple a its.toArray from p) ?_
  refine⟨s1.heap.objs.size,[s1.heap.objs.size],_,_,H1,rfl,I1.kept (t':=s1.toks) fun b o e=>Heap.get?_push_of_some _ e,pI a _,⟨_,Heap.get?_push_size _ rfl,rfl,rfl⟩,fun b hb=>?_,q⟩
  have e:b=s1.heap.objs.size:=by simpa using hb
  subst e
  exact I1.fpOk (xjd _) (I1.hok.fresh (xjd _))
end
section
variable {K:PySem.W.Frag}
theorem yt {b:Bool}{te:TE}{d:DE}(h:OkE K b te d):OkI K b (xge K te) (xhh d):=fun B φ σ τ H R KK Rs hd q =>
 h B φ σ τ H _ _ Rs hd fun t v H1 x1 k1 r1=>by
  cases t with
  | lst ts =>
   obtain⟨a,ws,e,n,ha,rl⟩:=id r1
   subst e
   exact⟨a,rfl,.inl ⟨⟨ws,SqL.of ha⟩,q _ ts _ H1 x1 k1 xbR fun p hp=>by
    cases xiV.mp hp
    exact r1⟩⟩
  | tup ts =>
   obtain⟨a,ws,e,n,ha,rl⟩:=id r1
   subst e
   exact⟨a,rfl,.inr ⟨⟨ws,SqT.of ha⟩,q _ ts _ H1 x1 k1 xc8 fun p hp=>by
    cases xiV.mp hp
    exact r1⟩⟩
  | _=>exact k1.elim
theorem lQ {i:Nat}:xee K (xge K (tF i)) (xfG i):=fun B φ σ τ H R KK Rs hd q=>by
 obtain⟨v,e,a,ea,s,r⟩:=xb2 (i:=i) B φ σ τ H R KK Rs hd q
 exact⟨v,e,a,ea,.inl ⟨s,r⟩⟩
end
def Ite (K:PySem.W.Frag)(b:Bool)(a:Addr):It :=
 ⟨fun i H=>∃xs x,Sq2 K b H a xs∧xs[i]? = some x,
  fun i H v H'=>∃x q,(∀xs,Sq2 K b H a xs→xs[i]? = some x)∧v=.ref q∧H q=none∧H'=upd H q (.tup [.int i,x]),
  fun i H=>∃xs,Sq2 K b H a xs∧xs.length≤i⟩
theorem Inv.sq2_inj {X:Cx}{pins:List (Addr×Obj)}{σ:St}{H:Hp}{s:Shared}{b:Bool}{a:Addr}{xs ys:List V}(I:Inv X pins σ H s)(h:Sq2 X.K b H a xs)(h':Sq2 X.K b H a ys):xs=ys:=by
 cases b with
 | true=>exact I.tuple_inj (show SqT X.K H a xs from h) h'
 | false=>exact I.list_inj (show SqL X.K H a xs from h) h'
theorem xbU {prog:Program}{w:World}{A:Around}{it a:Addr}{vs:List Value}{tn:Nat→Heap→Prop}{src:Heap→Prop}(D:Drw it a vs tn src)(hne:a≠it)(hh:A.handled=none) :
  Draws prog w A it [it,a] vs.length (fun i x=>vs[i]? = some x) (fun i h=>tn i h∧src h) where
 live:=fun i h st=>let ⟨o,e,_⟩:=D.ob i h st.1;⟨o,e⟩
 frame:=fun i h h' st k=>⟨D.mv _ _ _ st.1 (k it (by simp)),D.smv _ _ st.2 (k a (by simp))⟩
 item:=fun i s Q E hi st hQ=>D.item prog w A E i vs[i] s Q st.1 st.2 (xii hi) fun h' t' sb=>hQ _ h' s.toks (xii hi) ⟨t',D.smv _ _ st.2 fun o e=>sb.extBut _ o hne e⟩ sb
 done:=fun s Q E st hE=>D.fin prog w A E vs.length s Q hh st.1 st.2 (xij (xjd _)) hE
section
variable {P:Program} {w:World} {K:PySem.W.Frag} {e it a:Addr} {b:Bool}
def ESt (b:Bool)(e it a:Addr)(i:Nat)(h:Heap):Prop:=(∃old,IsEnum h e it i old)∧Tn2 b it a i h
theorem l6 {elts:List Expr}{kk:Nat}{pp:Pos}(hei:e≠it)(hea:a≠e)(hia:a≠it):Turn P w K (.Tuple elts kk pp) (Ite K b a) [e,it] e (ESt b e it a) where
 mem:=by simp
 obj:=fun i h st c hc=>by
  obtain⟨⟨old,s1⟩,s2⟩:=st
  simp only[xiJ,xiZ,xjw] at hc
  rcases hc with z | z<;>subst z
  ·exact⟨_,s1,fun v=>by simp⟩
  ·exact(rE b _ a []).ob _ _ s2
 keep:=fun i h h' st k=>by
  obtain⟨⟨old,s1⟩,s2⟩:=st
  exact⟨⟨old,k _ (by simp) _ s1⟩,(rE b it a []).mv _ _ _ s2 fun o e=>k _ (by simp) o e⟩
 item:=by
  intro X hP hw hK hc i pins s σ H E I hf st hg
  subst hP hw hK
  obtain⟨⟨old,s1⟩,s2⟩:=st
  obtain⟨xs,x,sq1,hx⟩:=hg
  obtain⟨vs,rv,c1⟩:=I.sq2 sq1
  obtain⟨xv,ex,rx⟩:=rv.get hx
  have hi:i<vs.length:=(xik.mp ex).1
  have fr:H s.heap.objs.size=none:=I.hok.fresh (xjd _)
  have D:=xbU (prog:=X.prog) (w:=X.w) (A:=X.A.in1) (rE b it a vs) hia (show X.A.in1.handled=none from I.ok.hd hc)
  refine wpAny_pyNext_enum_itemD D s1 ⟨s2,c1⟩ hi hei (by simp[hei,Ne.symm hea]) fun xv' g tk hP ho st' hT hsz kp=>⟨_,rfl,?_⟩
  rw[ex] at hP;cases hP
  refine wpAny_letOwnedTupleGo_enum ho fun g2 he2 S2=>?_
  have lte:e<s.heap.objs.size:=Heap.lt_size s1
  have kp2:∀c o,c∉[e,it]→s.heap.get? c=some o→g2.get? c=some o:=fun c o hc e=>by
   simp only[xiJ,xiZ,xjw,not_or] at hc
   exact S2.extBut _ _ hc.1 (kp c o hc.1 hc.2 e)
  have T2:=S2.extBut _ _ (xjm lte) hT
  have st2:ESt b e it a (i+1) g2:=⟨⟨_,by simpa using he2⟩,(rE b it a vs).mv _ _ _ st'.1 fun o q=>S2.extBut _ o (Ne.symm hei) q⟩
  have nfp:∀c u,H c=some u→c∉[e,it]:=fun c u q hm=>by rw[(hf c hm).1] at q;cases q
  have nT:∀c o,s.heap.get? c=some o→c≠s.heap.objs.size:=fun c o e=>xjn (Heap.lt_size e)
  refine⟨.ref s.heap.objs.size,upd H s.heap.objs.size (.tup [.int i,x]),?_,rfl,⟨x,_,fun xs' h'=>by rw[←I.sq2_inj sq1 h'];exact hx,rfl,fr,rfl⟩,st2,fun c hm=>?_⟩
  ·show Inv X pins σ (upd H s.heap.objs.size (.tup [.int i,x])) { s with heap:=g2,gens:=s.gens,drawn:=s.drawn,toks:=tk+1 }
   refine Inv.step (s:=s) (g':=s.gens) (d':=s.drawn) (t':=tk+1) (ch:=[e,it]) I (fun c hm=>?_) (fun c o _ _ hm e _=>kp2 c o hm e) (fun c o _ _ hm e _=>⟨o.slots,kp2 c o hm e⟩) (fun c o hm e n=>by rw[xU (nT c o e)];exact n) (fun c o hm e=>⟨o,kp2 c o hm e⟩)
    (fun c zs e=>by rw[xU (xE e fr)];exact e) (fun c o u e=>by rw[xU (xE e fr)];exact e) (fun c ps e=>⟨#[],by rw[xU (xE e fr),e];simp⟩) (fun m hm=>?_) (fun c u e=>?_) I.bare
   ·obtain⟨_,f1,_,f3,f4,f5⟩:=hf c hm
    exact⟨f3,f1,f4,f5⟩
   ·obtain⟨o,es,ep,ho,r⟩:=hm
    exact⟨o,es,ep,kp2 _ o (fun z'=>(hf _ z').2.1 rfl) ho,r⟩
   ·by_cases hc':c=s.heap.objs.size
    ·subst hc'
     rw[yk] at e
     cases e
     exact⟨by show 2≤sizeLine;decide,[.int i tk,xv],.cons ⟨_,rfl⟩ (.cons rx .nil),_,T2,rfl,0,rfl⟩
    ·rw[xU hc'] at e
     refine(I.hok c u e).stay (fun c' v hcc q'=>kp2 c' v ?_ q') (fun c' q'=>by rw[xU (xE q' fr)];exact q') (fun c' zs q'=>by rw[xU (xE q' fr)];exact q') fun c' o u q'=>by rw[xU (xE q' fr)];exact q'
     rcases hcc with rfl | hcc
     ·exact nfp _ _ e
     ·exact nfp _ _ hcc
  ·rw[xU]
   ·exact(hf c hm).1
   ·simp only[xiJ,xiZ,xjw] at hm
    rcases hm with z | z<;>subst z
    ·exact nT _ _ s1
    ·obtain⟨o,e,_⟩:=(rE b _ a []).ob _ _ s2;exact nT _ _ e
 done:=by
  intro X hP hw hK hc i pins s σ H E I hf st hg
  subst hP hw hK
  obtain⟨⟨old,s1⟩,s2⟩:=st
  obtain⟨xs,sq1,hend⟩:=hg
  obtain⟨vs,rv,c1⟩:=I.sq2 sq1
  have hT:s.TypeIs (.ref e) "enumerate" := ⟨_,s1,rfl⟩
  unfold pyNext
  refine wpAny_bind (wpAny_attempt (wpAny_callSpecial?_slot (name:=Str.ofString "__next__") hT F.slot_enumerate_next (wpAny_call_entry F.slot_enumerate_next hT F.entry_enumerate_next ?_ (F.args_enumerate_next_1 _))))
  show wpAny _ _ (field (.ref e) 2 >>= _) _ _ _
  refine wpAny_bind (wpAny_field s1 rfl (x:=.ref it) rfl ?_)
  refine wpAny_bind ((rE b it a vs).fin _ _ _ _ i s _ (I.ok.hd hc) s2 c1 (xij (by rw[←rv.length];exact hend)) fun g x kp hx'=>?_)
  obtain⟨o,ho,hcl⟩:=hx'
  refine wpAny_bind (wpAny_isInstance (T := "StopIteration") (b:=true) ⟨o,ho,hcl⟩ isSubtype_stop (wpAny_pure ⟨rfl,?_⟩))
  have kp2:∀c o,c∉[e,it]→s.heap.get? c=some o→g.get? c=some o:=fun c o hc q=>by
   simp only[xiJ,xiZ,xjw,not_or] at hc
   exact kp c o hc.2 q
  have nfp:∀c u,H c=some u→c∉[e,it]:=fun c u q hm=>by rw[(hf c hm).1] at q;cases q
  refine Inv.step (s:=s) (g':=s.gens) (d':=s.drawn) (t':=s.toks) (ch:=[e,it]) I (fun c hm=>?_) (fun c o _ _ hm e _=>kp2 c o hm e) (fun c o _ _ hm e _=>⟨o.slots,kp2 c o hm e⟩) (fun c o hm e n=>n) (fun c o hm e=>⟨o,kp2 c o hm e⟩)
   (fun c zs e=>e) (fun c o u e=>e) (fun c ps e=>⟨#[],by rw[e];simp⟩) (fun m hm=>?_) (fun c u e=>?_) I.bare
  ·obtain⟨_,f1,_,f3,f4,f5⟩:=hf c hm
   exact⟨f3,f1,f4,f5⟩
  ·obtain⟨o,es,ep,ho,r⟩:=hm
   exact⟨o,es,ep,kp2 _ o (fun z'=>(hf _ z').2.1 rfl) ho,r⟩
  ·refine(I.hok c u e).stay (fun c' v hcc q'=>kp2 c' v ?_ q') (fun _ q'=>q') (fun _ _ q'=>q') fun _ _ _ q'=>q'
   rcases hcc with rfl | hcc
   ·exact nfp _ _ e
   ·exact nfp _ _ hcc
 self:=fun A i s Q E st h=>by
  obtain⟨⟨old,s1⟩,_⟩:=st
  exact wpAny_pyIter_enum s1 h
end
open AutoSeq1 (wpAny_loadPart') in
theorem q_ (l:Addr)(items:Array Value)(n:Nat)(dct:Option Addr)(sl:Array (Option Value)) :
  Meets (Builtin.«enumerate.__new__» ⟨[.type "enumerate", .ref l],[]⟩) (fun _ R s=>s.heap.get? l=some { cls:=.type "tuple", dict:=dct,data:=.seq items n,slots:=sl } ∧
   R (.ok (.ret (.ref (s.heap.push { cls:=.type "tuple_iterator", data:=.fields #[.ref l,.int 0 0] }).objs.size)))
    { s with heap:=(s.heap.push { cls:=.type "tuple_iterator", data:=.fields #[.ref l,.int 0 0] }).push { cls:=.type "enumerate", data:=.fields #[.none,.bool false,.ref s.heap.objs.size,rawInt 0,.none,.none] } }) :=
 .of_wp fun prog w A R s h=>by
  obtain⟨hp,g,d,tk,os⟩:=s;obtain⟨hl,h⟩:=h
  have hsub:=sub_enumerate
  have hL:Heap.IsTuple (Shared.heap ⟨hp,g,d,tk,os⟩) l items:=⟨_,hl,rfl,n,rfl⟩
  wp_walk using wpAny_loadPart' hl
  refine wpAny_stack_any fun st=>wpAny_pure ?_
  split
  ·rename_i c _ _ _ _ _
   cases (c == Value.type "enumerate")
   ·wp_walk using wpAny_loadPart' hl,wpAny_pyIter_tuple hL
    exact⟨_,rfl,h⟩
   ·wp_walk using wpAny_loadPart' hl,wpAny_pyIter_tuple hL
    exact⟨_,rfl,h⟩
  ·wp_walk using wpAny_loadPart' hl,wpAny_pyIter_tuple hL
   exact⟨_,rfl,h⟩
section
variable {prog:Program} {w:World} {A:Around} {E:Value→Shared→Prop} {s:Shared}
theorem qZ {l:Addr}{items:Array Value}{Q:Value→Shared→Prop}(hL:s.heap.IsTuple l items)
  (h:∀h',IsEnum h' (s.heap.objs.size+1) s.heap.objs.size 0 .none→h'.IsTupleIter s.heap.objs.size l 0→h'.objs.size=s.heap.objs.size+2 →
   (∀b o,s.heap.get? b=some o→h'.get? b=some o)→Q (.ref (s.heap.objs.size+1)) { s with heap:=h' }) :
  wpAny (model prog w) A (call (.type "enumerate") [.ref l]) Q E s:=by
 obtain⟨⟨c,dct,dt,sl⟩,hl,hc,n,hd⟩:=hL
 replace hc:c=.type "tuple" := hc
 replace hd:dt=.seq items n:=hd
 subst hc hd
 refine callType_new F.called_enumerate (by decide) (F.typeCall_enumerate_1 _) (F.newCall_enumerate_1 _) (fun obj=>F.args_object_init_2 obj _) F.entry_enumerate_new
  (q_ l items n dct sl) ⟨hl,?_⟩
 have hz:(s.heap.push { cls:=.type "tuple_iterator", data:=.fields #[.ref l,.int 0 0] }).objs.size=s.heap.objs.size+1:=Heap.size_push ..
 show _∧_
 rw[hz]
 have he:IsEnum ((s.heap.push { cls:=.type "tuple_iterator", data:=.fields #[.ref l,.int 0 0] }).push
   { cls:=.type "enumerate", data:=.fields #[.none,.bool false,.ref s.heap.objs.size,rawInt 0,.none,.none] }) (s.heap.objs.size+1) s.heap.objs.size 0 .none:=by
  have:=Heap.get?_push_size (s.heap.push { cls:=.type "tuple_iterator", data:=.fields #[.ref l,.int 0 0] })
   (o:={ cls:=.type "enumerate", data:=.fields #[.none,.bool false,.ref s.heap.objs.size,rawInt 0,.none,.none] }) rfl
  rw[hz] at this;exact this
 refine⟨⟨_,he,rfl⟩,h _ he ⟨_,Heap.get?_push_of_some _ (Heap.get?_push_size _ rfl),rfl,rfl⟩ (by rw[Heap.size_push,hz]) fun b o x=>Heap.get?_push_of_some _ (Heap.get?_push_of_some _ x)⟩
end
theorem tS:bootBuiltins "enumerate" = some (.type "enumerate"):=by decide +kernel
def xeI (K:PySem.W.Frag)(ta:TA):TI:=fun σ H R=>ta σ H fun vs H1=>∃(b:Bool) (a:Addr) (xs:List V),vs=[.ref a]∧Sq2 K b H1 a xs∧R (Ite K b a) H1
section
variable {X:Cx}
theorem m_ (K:PySem.W.Frag){elts:List Expr}{kk:Nat}{pp:Pos}{a:Expr}{ta:TA}{p pos:Pos}(hg:Gl X "enumerate")(hm:X.mg "enumerate" = none)(ha:PA X [a] ta)(hs:starEach [a] X.env=[(false,eval a X.env)]:=by rfl)(eK:X.K=K:=by rfl) :
  PI X (.Tuple elts kk pp) (.Call (.Name "enumerate" p) [a] [] pos) (xeI K ta):=by
 subst eK
 intro pins s σ H R I h
 refine Call_ (fv I hg hm tS (PyProof.Rows.callWith_type1 (thn (@ha pos pins s σ H _ I h) fun us s1 ⟨vs,H1,I1,r1,q1⟩=>?_) (by rw[hs];rfl) (by rfl)))
 obtain⟨bb,a1,xs,e,sq1,q⟩:=q1
 subst e
 obtain⟨u1,rfl,ru⟩:=vals1 r1
 obtain rfl:u1=Value.ref a1:=ru
 obtain⟨vs,rv,c1⟩:=I1.sq2 sq1
 have mk:∀g,ESt bb (s1.heap.objs.size+1) s1.heap.objs.size a1 0 g→a1<s1.heap.objs.size→(∀c o,s1.heap.get? c=some o→g.get? c=some o) →
   wpAny (model X.prog X.w) X.A (pyIter (.ref (s1.heap.objs.size+1))) (PIE X pins σ (.Tuple elts kk pp) R) X.xe { s1 with heap:=g }:=fun g st la kp=>by
  obtain⟨⟨old,he⟩,st2⟩:=st
  refine wpAny_pyIter_enum he ⟨_,[s1.heap.objs.size+1,s1.heap.objs.size],ESt bb (s1.heap.objs.size+1) s1.heap.objs.size a1,_,H1,rfl,I1.kept (t':=s1.toks) kp,
   l6 (Nat.succ_ne_self _) (xjn (xjj la)) (xjn la),⟨⟨old,he⟩,st2⟩,fun b hb=>?_,q⟩
  simp only[xiJ,xiZ,xjw] at hb
  rcases hb with rfl | rfl
  ·exact I1.fpOk (xje _) (I1.hok.fresh (xje _))
  ·exact I1.fpOk (xjd _) (I1.hok.fresh (xjd _))
 cases bb with
 | true =>
  have c1:s1.heap.IsTuple a1 vs.toArray:=c1
  refine qZ c1 ?_
  intro g z1 z2 _ kp
  refine mk g ⟨⟨_,z1⟩,z2⟩ ?_ kp
  obtain⟨o,e,_⟩:=c1;exact Heap.lt_size e
 | false =>
  have c1:s1.heap.IsList a1 vs.toArray:=c1
  refine call_enumerate_list c1 ?_
  intro g z1 z2 _ kp
  refine mk g ⟨⟨_,z1⟩,z2⟩ ?_ kp
  obtain⟨o,e,_⟩:=c1;exact Heap.lt_size e
end
def pR:Nat→List Tr→List Tr
 | _,[]=>[]
 | k,t::ts=>.tup [.int k,t]::pR (k+1) ts
def qB (ts:List Tr):List Tr:=pR 0 ts
theorem uq:∀(k:Nat) (ts:List Tr),(pR k ts).length=ts.length
 | _,[]=>rfl
 | k,_::ts=>by show(pR (k+1) ts).length+1=_;rw[uq];rfl
theorem kY:∀ {k:Nat} {ts:List Tr} {i:Nat} {t:Tr},ts[i]? = some t→(pR k ts)[i]? = some (.tup [.int ((k+i:Nat):Int),t])
 | _,[],_,_,h=>by simp at h
 | k,x::ts,0,t,h=>by simp at h;subst h;rfl
 | k,x::ts,i+1,t,h=>by
  show(pR (k+1) ts)[i]? = _
  rw[kY (k:=k+1) (ts:=ts) (i:=i) (by simpa using h)]
  rw[show k+1+i=k+(i+1) by omega]
section
variable {K:PySem.W.Frag}
theorem lj {a:Addr}{ts:List Tr}:ItL (Ite K false a) (qB ts) [(.lst ts,.ref a)] where
 go:=fun F H i s hi=>by
  obtain⟨a',ws,e,n,h,r⟩:=s _ xiL
  cases e
  rw[show(qB ts).length=ts.length from uq 0 ts] at hi
  obtain⟨w,e1,_⟩:=r.getT (xii hi)
  exact⟨ws,w,SqL.of h,e1⟩
 stop:=fun F H s=>by
  obtain⟨a',ws,e,n,h,r⟩:=s _ xiL
  cases e
  exact⟨ws,SqL.of h,by rw[show(qB ts).length=ts.length from uq 0 ts,←r.len];exact xjd _⟩
 yld:=fun F i H x H' s d hi y=>by
  obtain⟨a',ws,e,n,h,r⟩:=s _ xiL
  cases e
  obtain⟨v,q,hv,rfl,hq,rfl⟩:=y
  obtain⟨t,e1,e2⟩:=r.get (hv ws (SqL.of h))
  refine⟨.inr ⟨q,_,hq,rfl⟩,.tup [.int i,t],?_,q,_,rfl,fun z=>d q z hq,yk,⟨_,_,rfl,rfl,_,_,rfl,rz hq e2,rfl⟩⟩
  have:=kY (k:=0) e1
  rw[Nat.zero_add] at this
  exact this
theorem oY {a:Addr}{ts:List Tr}:ItL (Ite K true a) (qB ts) [(.tup ts,.ref a)] where
 go:=fun F H i s hi=>by
  obtain⟨a',ws,e,n,h,r⟩:=s _ xiL
  cases e
  rw[show(qB ts).length=ts.length from uq 0 ts] at hi
  obtain⟨w,e1,_⟩:=r.getT (xii hi)
  exact⟨ws,w,SqT.of h,e1⟩
 stop:=fun F H s=>by
  obtain⟨a',ws,e,n,h,r⟩:=s _ xiL
  cases e
  exact⟨ws,SqT.of h,by rw[show(qB ts).length=ts.length from uq 0 ts,←r.len];exact xjd _⟩
 yld:=fun F i H x H' s d hi y=>by
  obtain⟨a',ws,e,n,h,r⟩:=s _ xiL
  cases e
  obtain⟨v,q,hv,rfl,hq,rfl⟩:=y
  obtain⟨t,e1,e2⟩:=r.get (hv ws (SqT.of h))
  refine⟨.inr ⟨q,_,hq,rfl⟩,.tup [.int i,t],?_,q,_,rfl,fun z=>d q z hq,yk,⟨_,_,rfl,rfl,_,_,rfl,rz hq e2,rfl⟩⟩
  have:=kY (k:=0) e1
  rw[Nat.zero_add] at this
  exact this
def xey (d:DA):DI:=fun τ KK=>d τ fun xs=>match xs with | [.tup ts]=>KK (qB ts) | [.lst ts]=>KK (qB ts) | _=>False
theorem sT {b:Bool}{n:Nat}{ta:TA}{da:DA}(h:OkA K b n ta da):OkI K b (xeI K ta) (xey da):=fun B φ σ τ H R KK Rs hd q =>
 h B φ σ τ H _ _ Rs hd fun ts vs H1 x1 k1 l1 r1=>by
  split at k1
  ·rename_i us
   obtain⟨v,rfl,r⟩:=jB r1
   obtain⟨a,ws,e,n,ha,rl⟩:=id r
   subst e
   exact⟨true,a,ws,rfl,SqT.of ha,q _ _ _ H1 x1 k1 oY fun p hp=>by
    cases xiV.mp hp
    exact r⟩
  ·rename_i us
   obtain⟨v,rfl,r⟩:=jB r1
   obtain⟨a,ws,e,n,ha,rl⟩:=id r
   subst e
   exact⟨false,a,ws,rfl,SqL.of ha,q _ _ _ H1 x1 k1 lj fun p hp=>by
    cases xiV.mp hp
    exact r⟩
  ·exact k1.elim
end
end L2
namespace L2
open PySem PySem.Spec PyProof.Rows
section
variable {X:Cx}
end
section
variable {X:Cx}
def xgq (K:PySem.W.Frag):R2:=fun x y H Q=>(rI0 fun i j=>.bl (decide (i<j))) x y H Q∨xgL K x y H Q
theorem jb (K:PySem.W.Frag)(hu:X.A.units+64<cLine)(e:X.K=K:=by rfl):OpR X (compareOp .Lt) (xgq K):=by subst e;exact xe7.or (xeK (xjh (xjb _ _) hu))
end
section
variable {prog:Program} {w:World} {A:Around} {E:Value→Shared→Prop} {s:Shared}
end
section
variable {X:Cx}
end
section
variable {K:PySem.W.Frag} {fr:Bool}
def xgi (x y:Tr)(KK:Tr→Prop):Prop:=match x,y with
 | .int i,.int j=>KK (.bl (decide (i<j)))
 | x,y=>∃ns ms:List Int,x=.tup (ns.map Tr.int)∧y=.tup (ms.map Tr.int)∧KK (.bl (HT.lexLt ns ms))
theorem kX:OpS (xgq K) xgi:=fun F G H x y t u KK Q r1 r2 hf q=>by
 unfold xgi at hf
 split at hf
 ·rename_i i j
  cases (show x=.int i from r1);cases (show y=.int j from r2)
  exact .inl ⟨i,j,rfl,rfl,q _ _ rfl hf⟩
 ·obtain⟨ns,ms,rfl,rfl,k⟩:=hf
  obtain⟨a,ws,e,n,ha,rl⟩:=r1
  obtain⟨a2,ws2,e2,n2,ha2,rl2⟩:=r2
  rw[ql rl] at ha
  rw[ql rl2] at ha2
  exact .inr ⟨a,a2,ns,ms,e,e2,SqT.of ha,SqT.of ha2,q _ _ rfl k⟩
end
end L2
namespace L2
open PySem PySem.Spec PyProof.Rows
def xdB (b:Bool):String:=if b then "tuple_iterator" else "list_iterator"
abbrev za1 (b:Bool)(h:Heap)(a:Addr):Heap:=h.push { cls:=.type (xdB b),data:=.fields #[.ref a,.int 0 0] }
abbrev za2 (b c:Bool)(h:Heap)(a d:Addr):Heap:=(za1 b h a).push { cls:=.type (xdB c),data:=.fields #[.ref d,.int 0 0] }
abbrev za3 (b c:Bool)(h:Heap)(a d:Addr):Heap:=(za2 b c h a d).push { cls:=.type "tuple", data:=.seq #[.ref h.objs.size,.ref (za1 b h a).objs.size] }
abbrev za4 (b c:Bool)(h:Heap)(a d:Addr):Heap:=(za3 b c h a d).push { cls:=.type "tuple", data:=.seq #[.none,.none] }
abbrev za5 (b c:Bool)(h:Heap)(a d:Addr):Heap:=(za4 b c h a d).push { cls:=.type "zip", data:=.fields #[.none,.bool false,.bool false,.ref (za2 b c h a d).objs.size,.ref (za3 b c h a d).objs.size] }
theorem fJ {prog:Program}{w:World}{A:Around}{E:Value→Shared→Prop}{s:Shared}{b:Bool}{a:Addr}{vs:List Value}{Q:Value→Shared→Prop}(h:oG b a vs s.heap)(q:Q (.ref s.heap.objs.size) { s with heap:=za1 b s.heap a }):wpAny (model prog w) A (pyIter (.ref a)) Q E s:=by
 cases b with
 | true=>exact wpAny_pyIter_tuple (show s.heap.IsTuple a vs.toArray from h) q
 | false=>exact wpAny_pyIter_list (show s.heap.IsList a vs.toArray from h) q
theorem oK {b:Bool}{a:Addr}{vs:List Value}{h:Heap}(s:oG b a vs h)(o:Obj):oG b a vs (h.push o):=(rE b 0 a vs).smv _ _ s fun o' e=>Heap.get?_push_of_some _ e
theorem xaF (b c:Bool)(a d:Addr)(xs ys:List Value):Meets (Builtin.«zip.__new__» ⟨[.type "zip", .ref a,.ref d],[]⟩) (fun _ R s=>oG b a xs s.heap∧oG c d ys s.heap∧R (.ok (.ret (.ref (za4 b c s.heap a d).objs.size))) { s with heap:=za5 b c s.heap a d }) :=
 .of_wp fun prog w A R s h=>by
  obtain⟨hp,g,dd,tk,os⟩:=s
  obtain⟨ha,hb,h⟩:=h
  have hsub:=sub_zip
  have A1:oG b a xs (Shared.heap ⟨hp,g,dd,tk,os⟩):=ha
  have B1:oG c d ys (Shared.heap ⟨hp.push { cls:=.type (xdB b),data:=.fields #[.ref a,.int 0 0] },g,dd,tk,os⟩):=oK hb _
  wp_walk using fJ A1,fJ B1
  exact⟨_,rfl,h⟩
section
variable {prog:Program} {w:World} {A:Around} {E:Value→Shared→Prop} {s:Shared}
theorem xaA {b c:Bool}{a d:Addr}{xs ys:List Value}{Q:Value→Shared→Prop}(ha:oG b a xs s.heap)(hb:oG c d ys s.heap)
  (h:∀g,IsZip g (s.heap.objs.size+4) (s.heap.objs.size+2) (s.heap.objs.size+3) .none→IsPair g (s.heap.objs.size+2) (.ref s.heap.objs.size) (.ref (s.heap.objs.size+1))→IsPair g (s.heap.objs.size+3) .none .none →
   Tn2 b s.heap.objs.size a 0 g→Tn2 c (s.heap.objs.size+1) d 0 g→(∀c o,s.heap.get? c=some o→g.get? c=some o)→Q (.ref (s.heap.objs.size+4)) { s with heap:=g }) :
  wpAny (model prog w) A (call (.type "zip") [.ref a,.ref d]) Q E s:=by
 refine callType_new F.called_zip (by decide) (F.typeCall_zip_2 _ _) (F.newCall_zip_2 _ _) (fun obj=>F.args_object_init_3 obj _ _) F.entry_zip_new (xaF b c a d xs ys) ⟨ha,hb,?_⟩
 have n1:(za1 b s.heap a).objs.size=s.heap.objs.size+1:=Heap.size_push ..
 have n2:(za2 b c s.heap a d).objs.size=s.heap.objs.size+2:=by rw[Heap.size_push,n1]
 have n3:(za3 b c s.heap a d).objs.size=s.heap.objs.size+3:=by rw[Heap.size_push,n2]
 have n4:(za4 b c s.heap a d).objs.size=s.heap.objs.size+4:=by rw[Heap.size_push,n3]
 have o5:(za5 b c s.heap a d).get? (za4 b c s.heap a d).objs.size=some _:=Heap.get?_push_size _ rfl
 have o4:(za5 b c s.heap a d).get? (za3 b c s.heap a d).objs.size=some _:=Heap.get?_push_of_some _ (Heap.get?_push_size _ rfl)
 have o3:(za5 b c s.heap a d).get? (za2 b c s.heap a d).objs.size=some _:=Heap.get?_push_of_some _ (Heap.get?_push_of_some _ (Heap.get?_push_size _ rfl))
 have o2:(za5 b c s.heap a d).get? (za1 b s.heap a).objs.size=some _:=Heap.get?_push_of_some _ (Heap.get?_push_of_some _ (Heap.get?_push_of_some _ (Heap.get?_push_size _ rfl)))
 have o1:(za5 b c s.heap a d).get? s.heap.objs.size=some _:=Heap.get?_push_of_some _ (Heap.get?_push_of_some _ (Heap.get?_push_of_some _ (Heap.get?_push_of_some _ (Heap.get?_push_size _ rfl))))
 show _∧_
 rw[n2,n3,n4] at o5
 rw[n1,n2] at o3
 rw[n3] at o4
 rw[n1] at o2
 rw[n4]
 refine⟨⟨_,o5,rfl⟩,h _ o5 o3 o4 ?_ ?_ fun c o g=>Heap.get?_push_of_some _ (Heap.get?_push_of_some _ (Heap.get?_push_of_some _ (Heap.get?_push_of_some _ (Heap.get?_push_of_some _ g))))⟩
 ·cases b with
  | true=>exact⟨_,o1,rfl,rfl⟩
  | false=>exact⟨_,o1,rfl,rfl⟩
 ·cases c with
  | true=>exact⟨_,o2,rfl,rfl⟩
  | false=>exact⟨_,o2,rfl,rfl⟩
end
def xf8 (K:PySem.W.Frag)(b c:Bool)(a1 a2:Addr):It :=
 ⟨fun i H=>∃xs ys x y,Sq2 K b H a1 xs∧Sq2 K c H a2 ys∧xs[i]? = some x∧ys[i]? = some y,
  fun i H v H'=>∃x y q,(∀xs,Sq2 K b H a1 xs→xs[i]? = some x)∧(∀ys,Sq2 K c H a2 ys→ys[i]? = some y)∧v=.ref q∧H q=none∧H'=upd H q (.tup [x,y]),
  fun i H=>∃xs ys,Sq2 K b H a1 xs∧Sq2 K c H a2 ys∧(xs.length≤i∨ys.length≤i)⟩
section
variable {P:Program} {w:World} {K:PySem.W.Frag} {z ti to i1 i2 a1 a2:Addr} {b c':Bool}
def ZS2 (b c:Bool)(z ti to i1 i2 a1 a2:Addr)(i:Nat)(h:Heap):Prop:=IsZip h z ti to .none∧IsPair h ti (.ref i1) (.ref i2)∧(∃p q,IsPair h to p q)∧Tn2 b i1 a1 i h∧Tn2 c i2 a2 i h
theorem lL {elts:List Expr}{kk:Nat}{pp:Pos}(D:ZA z ti to i1 i2 a1 a2):Turn P w K (.Tuple elts kk pp) (xf8 K b c' a1 a2) [z,ti,to,i1,i2] z (ZS2 b c' z ti to i1 i2 a1 a2) where
 mem:=by simp
 obj:=fun i h st c hc=>by
  obtain⟨s1,s2,⟨p,q,s3⟩,s4,s5⟩:=st
  simp only[xiJ,xiZ,xjw] at hc
  rcases hc with e | e | e | e | e<;>subst e
  ·exact⟨_,s1,fun v=>by simp⟩
  ·exact⟨_,s2,fun v=>by simp⟩
  ·exact⟨_,s3,fun v=>by simp⟩
  ·exact(rE b _ a1 []).ob _ _ s4
  ·exact(rE c' _ a2 []).ob _ _ s5
 keep:=fun i h h' st k=>by
  obtain⟨s1,s2,⟨p,q,s3⟩,s4,s5⟩:=st
  exact⟨k _ (by simp) _ s1,k _ (by simp) _ s2,⟨p,q,k _ (by simp) _ s3⟩,(rE b i1 a1 []).mv _ _ _ s4 fun o e=>k _ (by simp) o e,(rE c' i2 a2 []).mv _ _ _ s5 fun o e=>k _ (by simp) o e⟩
 item:=by
  intro X hP hw hK hc i pins s σ H E I hf st hg
  subst hP hw hK
  obtain⟨Z,TI,⟨p,q,TO⟩,b1,b2⟩:=st
  obtain⟨xs,ys,x,y,sq1,sq2,hx,hy⟩:=hg
  obtain⟨vs,rv,c1⟩:=I.sq2 sq1
  obtain⟨us,ru,c2⟩:=I.sq2 sq2
  obtain⟨xv,ex,rx⟩:=rv.get hx
  obtain⟨yv,ey,ry⟩:=ru.get hy
  have hT:s.TypeIs (.ref z) "zip" := ⟨_,Z,rfl⟩
  have fr:H s.heap.objs.size=none:=I.hok.fresh (xjd _)
  unfold pyNext
  refine wpAny_bind (wpAny_attempt (wpAny_callSpecial?_slot (name:=Str.ofString "__next__") hT F.slot_zip_next (wpAny_call_entry F.slot_zip_next hT F.entry_zip_next (lO D (rE b i1 a1 vs) (rE c' i2 a2 us) Z TI TO b1 b2 c1 c2 ex ey fun g Z' TO' b1' b2' T' kp=>?_) (F.args_zip_next_1 _))))
  refine wpAny_pure ⟨_,rfl,wpAny_letOwnedTupleGo_zip Z' fun g2 Z2 S2=>?_⟩
  obtain⟨⟨d1,d2,d3,d4,d5,d6,d7,d8,d9,d10⟩,_⟩:=D
  have ltz:z<s.heap.objs.size:=Heap.lt_size Z
  have kp2:∀c o,c∉[z,ti,to,i1,i2]→s.heap.get? c=some o→g2.get? c=some o:=fun c o hc e=>by
   simp only[xiJ,xiZ,xjw,not_or] at hc
   exact S2.extBut _ _ hc.1 (kp c o hc.1 hc.2.2.1 hc.2.2.2.1 hc.2.2.2.2 e)
  have TI2:IsPair g2 ti (.ref i1) (.ref i2):=S2.extBut _ _ d1 (kp _ _ d1 d5 d6 d7 TI)
  have T2:IsPair g2 s.heap.objs.size xv yv:=S2.extBut _ _ (xjm ltz) T'
  have st2:ZS2 b c' z ti to i1 i2 a1 a2 (i+1) g2:=⟨Z2,TI2,⟨_,_,S2.extBut _ _ d2 TO'⟩,(rE b i1 a1 vs).mv _ _ _ b1' fun o=>S2.extBut _ o d3,(rE c' i2 a2 us).mv _ _ _ b2' fun o=>S2.extBut _ o d4⟩
  have nfp:∀c u,H c=some u→c∉[z,ti,to,i1,i2]:=fun c u e hm=>by rw[(hf c hm).1] at e;cases e
  have nT:∀c o,s.heap.get? c=some o→c≠s.heap.objs.size:=fun c o e=>xjn (Heap.lt_size e)
  refine⟨.ref s.heap.objs.size,upd H s.heap.objs.size (.tup [x,y]),?_,rfl,⟨x,y,_,fun xs' h'=>by rw[←I.sq2_inj sq1 h'];exact hx,fun ys' h'=>by rw[←I.sq2_inj sq2 h'];exact hy,rfl,fr,rfl⟩,st2,fun c hm=>?_⟩
  ·show Inv X pins σ (upd H s.heap.objs.size (.tup [x,y])) { s with heap:=g2,gens:=s.gens,drawn:=s.drawn,toks:=s.toks }
   refine Inv.step (s:=s) (g':=s.gens) (d':=s.drawn) (t':=s.toks) (ch:=[z,ti,to,i1,i2]) I (fun c hm=>?_) (fun c o _ _ hm e _=>kp2 c o hm e) (fun c o _ _ hm e _=>⟨o.slots,kp2 c o hm e⟩) (fun c o hm e n=>by rw[xU (nT c o e)];exact n) (fun c o hm e=>⟨o,kp2 c o hm e⟩)
    (fun c zs e=>by rw[xU (xE e fr)];exact e) (fun c o u e=>by rw[xU (xE e fr)];exact e) (fun c ps e=>⟨#[],by rw[xU (xE e fr),e];simp⟩) (fun m hm=>?_) (fun c u e=>?_) I.bare
   ·obtain⟨_,f1,_,f3,f4,f5⟩:=hf c hm
    exact⟨f3,f1,f4,f5⟩
   ·obtain⟨o,es,ep,ho,r⟩:=hm
    exact⟨o,es,ep,kp2 _ o (fun z'=>(hf _ z').2.1 rfl) ho,r⟩
   ·by_cases hc':c=s.heap.objs.size
    ·subst hc'
     rw[yk] at e
     cases e
     exact⟨by show 2≤sizeLine;decide,[xv,yv],.cons rx (.cons ry .nil),_,T2,rfl,0,rfl⟩
    ·rw[xU hc'] at e
     refine(I.hok c u e).stay (fun c' v hcc q'=>kp2 c' v ?_ q') (fun c' q'=>by rw[xU (xE q' fr)];exact q') (fun c' zs q'=>by rw[xU (xE q' fr)];exact q') fun c' o u q'=>by rw[xU (xE q' fr)];exact q'
     rcases hcc with rfl | hcc
     ·exact nfp _ _ e
     ·exact nfp _ _ hcc
  ·rw[xU]
   ·exact(hf c hm).1
   ·simp only[xiJ,xiZ,xjw] at hm
    rcases hm with e | e | e | e | e<;>subst e
    ·exact nT _ _ Z
    ·exact nT _ _ TI
    ·exact nT _ _ TO
    ·obtain⟨o,e,_⟩:=(rE b _ a1 []).ob _ _ b1;exact nT _ _ e
    ·obtain⟨o,e,_⟩:=(rE c' _ a2 []).ob _ _ b2;exact nT _ _ e
 done:=by
  intro X hP hw hK hc i pins s σ H E I hf st hg
  subst hP hw hK
  obtain⟨Z,TI,⟨p,q,TO⟩,b1,b2⟩:=st
  obtain⟨xs,ys,sq1,sq2,hend⟩:=hg
  obtain⟨vs,rv,c1⟩:=I.sq2 sq1
  obtain⟨us,ru,c2⟩:=I.sq2 sq2
  have hT:s.TypeIs (.ref z) "zip" := ⟨_,Z,rfl⟩
  have he:vs[i]? = none∨us[i]? = none:=hend.imp (fun h=>List.getElem?_eq_none_iff.mpr (by rw[←rv.length];exact h)) (fun h=>List.getElem?_eq_none_iff.mpr (by rw[←ru.length];exact h))
  unfold pyNext
  refine wpAny_bind (wpAny_attempt (wpAny_callSpecial?_slot (name:=Str.ofString "__next__") hT F.slot_zip_next (wpAny_call_entry F.slot_zip_next hT F.entry_zip_next (xbA (I.ok.hd hc) D (rE b i1 a1 vs) (rE c' i2 a2 us) Z TI TO b1 b2 c1 c2 he fun g e kp ho=>?_) (F.args_zip_next_1 _))))
  obtain⟨o,ho,hcl⟩:=ho
  refine wpAny_bind (wpAny_isInstance (T := "StopIteration") (b:=true) ⟨o,ho,hcl⟩ isSubtype_stop (wpAny_pure ⟨rfl,?_⟩))
  have kp2:∀c o,c∉[z,ti,to,i1,i2]→s.heap.get? c=some o→g.get? c=some o:=fun c o hc e=>by
   simp only[xiJ,xiZ,xjw,not_or] at hc
   exact kp c o hc.1 hc.2.2.1 hc.2.2.2.1 hc.2.2.2.2 e
  have nfp:∀c u,H c=some u→c∉[z,ti,to,i1,i2]:=fun c u e hm=>by rw[(hf c hm).1] at e;cases e
  refine Inv.step (s:=s) (g':=s.gens) (d':=s.drawn) (t':=s.toks) (ch:=[z,ti,to,i1,i2]) I (fun c hm=>?_) (fun c o _ _ hm e _=>kp2 c o hm e) (fun c o _ _ hm e _=>⟨o.slots,kp2 c o hm e⟩) (fun c o hm e n=>n) (fun c o hm e=>⟨o,kp2 c o hm e⟩)
   (fun c zs e=>e) (fun c o u e=>e) (fun c ps e=>⟨#[],by rw[e];simp⟩) (fun m hm=>?_) (fun c u e=>?_) I.bare
  ·obtain⟨_,f1,_,f3,f4,f5⟩:=hf c hm
   exact⟨f3,f1,f4,f5⟩
  ·obtain⟨o,es,ep,ho,r⟩:=hm
   exact⟨o,es,ep,kp2 _ o (fun z'=>(hf _ z').2.1 rfl) ho,r⟩
  ·refine(I.hok c u e).stay (fun c' v hcc q'=>kp2 c' v ?_ q') (fun _ q'=>q') (fun _ _ q'=>q') fun _ _ _ q'=>q'
   rcases hcc with rfl | hcc
   ·exact nfp _ _ e
   ·exact nfp _ _ hcc
 self:=fun A i s Q E st h=>wpAny_pyIter_zip st.1 h
end
def xe9 (K:PySem.W.Frag)(ta:TA):TI:=fun σ H R=>ta σ H fun vs H1=>∃(b c:Bool) (a1 a2:Addr) (xs ys:List V),vs=[.ref a1,.ref a2]∧Sq2 K b H1 a1 xs∧Sq2 K c H1 a2 ys∧R (xf8 K b c a1 a2) H1
section
variable {X:Cx}
theorem fL (K:PySem.W.Frag){elts:List Expr}{kk:Nat}{pp:Pos}{a b:Expr}{ta:TA}{p pos:Pos}(hg:Gl X "zip")(hm:X.mg "zip" = none)(ha:PA X [a,b] ta)(hs:starEach [a,b] X.env=[(false,eval a X.env),(false,eval b X.env)]:=by rfl)(hs2:starEach [b] X.env=[(false,eval b X.env)]:=by rfl)(eK:X.K=K:=by rfl) :
  PI X (.Tuple elts kk pp) (.Call (.Name "zip" p) [a,b] [] pos) (xe9 K ta):=by
 subst eK
 intro pins s σ H R I h
 refine Call_ (fv I hg hm xeX (PyProof.Rows.callWith_type1 (thn (@ha pos pins s σ H _ I h) fun us s1 ⟨vs,H1,I1,r1,q1⟩=>?_) (by rw[hs,hs2]) (by rw[hs2];rfl)))
 obtain⟨bb,cc,a1,a2,xs,ys,e,sq1,sq2,q⟩:=q1
 subst e
 obtain⟨u1,u2,rfl,e1,e2⟩:=vals2 r1
 obtain rfl:u1=Value.ref a1:=e1
 obtain rfl:u2=Value.ref a2:=e2
 obtain⟨vs,rv,c1⟩:=I1.sq2 sq1
 obtain⟨us,ru,c2⟩:=I1.sq2 sq2
 have fp:∀k:Nat,dD X pins H1 (s1.heap.objs.size+k):=fun k=>I1.fpOk (xjb _ _) (I1.hok.fresh (xjb _ _))
 have lt:∀(b:Bool) (a:Addr) (vs:List Value),oG b a vs s1.heap→a<s1.heap.objs.size:=fun b a vs h=>by
  cases b with
  | true=>obtain⟨o,e,_⟩:=(show s1.heap.IsTuple a vs.toArray from h);exact Heap.lt_size e
  | false=>obtain⟨o,e,_⟩:=(show s1.heap.IsList a vs.toArray from h);exact Heap.lt_size e
 refine xaA c1 c2 ?_
 intro g z1 z2 z3 z4 z5 kp
 have st:ZS2 bb cc (s1.heap.objs.size+4) (s1.heap.objs.size+2) (s1.heap.objs.size+3) s1.heap.objs.size (s1.heap.objs.size+1) a1 a2 0 g:=⟨z1,z2,⟨_,_,z3⟩,z4,z5⟩
 refine wpAny_pyIter_zip st.1 ⟨_,_,_,_,H1,rfl,I1.kept (t':=s1.toks) kp,lL (xeP (lt _ _ _ c1) (lt _ _ _ c2)),st,fun c hc=>?_,q⟩
 simp only[xiJ,xiZ,xjw] at hc
 rcases hc with e | e | e | e | e<;>subst e
 ·exact fp 4
 ·exact fp 2
 ·exact fp 3
 ·exact fp 0
 ·exact fp 1
end
def bR:List Tr→List Tr→List Tr
 | t::ts,u::us=>.tup [t,u]::bR ts us
 | _,_=>[]
theorem sZ:∀(ts us:List Tr),(bR ts us).length=min ts.length us.length
 | [],_=>by simp[bR]
 | _::_,[]=>by simp[bR]
 | _::ts,_::us=>by simp only[bR,xir,sZ ts us];omega
theorem cF:∀ {ts us:List Tr} {i:Nat} {t u:Tr},ts[i]? = some t→us[i]? = some u→(bR ts us)[i]? = some (.tup [t,u])
 | [],_,_,_,_,h,_=>by simp at h
 | _::_,[],_,_,_,_,h=>by simp at h
 | _::_,_::_,0,_,_,h,h'=>by simp at h h';subst h h';rfl
 | _::ts,_::us,i+1,t,u,h,h'=>by
  show(bR ts us)[i]? = _
  exact cF (by simpa using h) (by simpa using h')
def sqT (b:Bool)(ts:List Tr):Tr:=if b then .tup ts else .lst ts
section
variable {K:PySem.W.Frag}
theorem qw {F:Addr→Prop}{H:Hp}{b:Bool}{ts:List Tr}{a:Addr}(h:Rep F H (sqT b ts) (.ref a)):∃ws,Sq2 K b H a ws∧zF F H ts ws:=by
 cases b with
 | true =>
  obtain⟨a',ws,e,n,h,r⟩:=(show Rep F H (.tup ts) (.ref a) from h)
  cases e
  exact⟨ws,SqT.of h,r⟩
 | false =>
  obtain⟨a',ws,e,n,h,r⟩:=(show Rep F H (.lst ts) (.ref a) from h)
  cases e
  exact⟨ws,SqL.of h,r⟩
theorem xby {b c:Bool}{a1 a2:Addr}{ts us:List Tr}:ItL (xf8 K b c a1 a2) (bR ts us) [(sqT b ts,.ref a1),(sqT c us,.ref a2)] where
 go:=fun F H i s hi=>by
  obtain⟨ws,h1,r1⟩:=qw (K:=K) (s _ xiL)
  obtain⟨ws2,h2,r2⟩:=qw (K:=K) (s _ (xiK _ xiL))
  rw[sZ] at hi
  obtain⟨w,e1,_⟩:=r1.getT (xii (i:=i) (by omega))
  obtain⟨w2,e2,_⟩:=r2.getT (xii (i:=i) (by omega))
  exact⟨ws,ws2,w,w2,h1,h2,e1,e2⟩
 stop:=fun F H s=>by
  obtain⟨ws,h1,r1⟩:=qw (K:=K) (s _ xiL)
  obtain⟨ws2,h2,r2⟩:=qw (K:=K) (s _ (xiK _ xiL))
  refine⟨ws,ws2,h1,h2,?_⟩
  rw[sZ,←r1.len,←r2.len];omega
 yld:=fun F i H x H' s d hi y=>by
  obtain⟨ws,h1,r1⟩:=qw (K:=K) (s _ xiL)
  obtain⟨ws2,h2,r2⟩:=qw (K:=K) (s _ (xiK _ xiL))
  obtain⟨v,v2,q,hv,hv2,rfl,hq,rfl⟩:=y
  obtain⟨t,e1,g1⟩:=r1.get (hv ws h1)
  obtain⟨u,e2,g2⟩:=r2.get (hv2 ws2 h2)
  exact⟨.inr ⟨q,_,hq,rfl⟩,.tup [t,u],cF e1 e2,q,_,rfl,fun z=>d q z hq,yk,⟨_,_,rfl,rz hq g1,_,_,rfl,rz hq g2,rfl⟩⟩
def xgg:Tr→Option (Bool×List Tr)
 | .tup ts=>some (true,ts)
 | .lst ts=>some (false,ts)
 | _=>none
def xfN (d:DA):DI:=fun τ KK=>d τ fun xs=>match xs with
 | [x,y]=>(match xgg x,xgg y with | some p,some q=>KK (bR p.2 q.2) | _,_=>False)
 | _=>False
theorem mC {x:Tr}{p:Bool×List Tr}(h:xgg x=some p):x=sqT p.1 p.2:=by
 cases x with
 | tup ts=>cases h;rfl
 | lst ts=>cases h;rfl
 | _=>cases h
theorem lz {F:Addr→Prop}{H:Hp}{b:Bool}{ts:List Tr}{v:V}(h:Rep F H (sqT b ts) v):∃a,v=.ref a:=by
 cases b with
 | true=>obtain⟨a,ws,e,_⟩:=(show Rep F H (.tup ts) v from h);exact⟨a,e⟩
 | false=>obtain⟨a,ws,e,_⟩:=(show Rep F H (.lst ts) v from h);exact⟨a,e⟩
theorem jg {b:Bool}{n:Nat}{ta:TA}{da:DA}(h:OkA K b n ta da):OkI K b (xe9 K ta) (xfN da):=fun B φ σ τ H R KK Rs hd q =>
 h B φ σ τ H _ _ Rs hd fun ts vs H1 x1 k1 l1 r1=>by
  split at k1
  ·rename_i x y
   split at k1
   ·rename_i p p' e1 e2
    obtain⟨v,w,rfl,g1,g2⟩:=oS r1
    rw[mC e1] at g1
    rw[mC e2] at g2
    obtain⟨a1,rfl⟩:=lz g1
    obtain⟨a2,rfl⟩:=lz g2
    obtain⟨ws,s1,_⟩:=qw (K:=K) g1
    obtain⟨ws2,s2,_⟩:=qw (K:=K) g2
    refine⟨p.1,p'.1,a1,a2,ws,ws2,rfl,s1,s2,q _ _ _ H1 x1 k1 xby fun z hz=>?_⟩
    simp only[xiJ,xiZ,xjw] at hz
    rcases hz with rfl | rfl
    ·exact g1
    ·exact g2
   ·exact k1.elim
  ·exact k1.elim
end
end L2
namespace L2
open PySem PySem.Spec PyProof.Rows
theorem yg {X:Cx}(K:PySem.W.Frag)(e:X.K=K:=by rfl):IxR X (rIx K):=e▸xeu
end L2
namespace L2
open PySem PySem.Spec PyProof.Rows
theorem pB {dg:DG}{body:DS}{G:fj}(W:List Tr→TSt→Prop)(h0:∀ τ,W [] τ→G.nx τ)
  (h1:∀x xs τ (N:TSt→Prop),W (x::xs) τ→(∀ τ',W xs τ'→N τ')→dg x τ fun τ'=>body { G with nx:=N,ct:=N,bk:=G.nx } τ'):∀xs τ,W xs τ→xcl dg body G xs τ
 | [],τ,w=>h0 τ w
 | x::xs,τ,w=>h1 x xs τ (xcl dg body G xs) w (pB W h0 h1 xs)
theorem ud {dg:DG}{body:DS}{G:fj}{all:List Tr}{τ:TSt}(W:Nat→TSt→Prop)(w0:W 0 τ)
  (h1:∀i x τ (N:TSt→Prop),all[i]? = some x→W i τ→(∀ τ',W (i+1) τ'→N τ')→dg x τ fun τ'=>body { G with nx:=N,ct:=N,bk:=G.nx } τ')
  (h0:∀ τ,W all.length τ→G.nx τ):xcl dg body G all τ:=by
 refine pB (fun xs τ=>∃i,xs=all.drop i∧i≤all.length∧W i τ) (fun τ ⟨i,e,hi,w⟩=>h0 τ ?_) (fun x xs τ N ⟨i,e,hi,w⟩ hN=>?_) all τ ⟨0,rfl,xjo _,w0⟩
 ·have:all.length≤i:=by
   have:=xjq List.length e
   rw[xis] at this
   simp at this
   omega
  have:i=all.length:=by omega
  rw[←this];exact w
 ·have hlt:i<all.length:=by
   have:=xjq List.length e
   rw[xis] at this
   simp at this
   omega
  rw[xh9 hlt] at e
  injection e with e1 e2
  exact h1 i x τ N (by rw[e1];exact xii hlt) w fun τ' w'=>hN τ' ⟨i+1,e2,hlt,w'⟩
theorem pA {c:DT}{body:DS}{G:fj}(W:Nat→TSt→Prop)
  (h:∀n τ (N:TSt→Prop),W n τ→(∀m τ',m<n→W m τ'→N τ')→c τ fun b=>if b=true then body { G with nx:=N,ct:=N,bk:=G.nx } τ else G.nx τ):∀k n τ,n<k→W n τ→xdb c body G k τ
 | 0,_,_,hk,_=>absurd hk (by omega)
 | k+1,n,τ,hk,w=>h n τ (xdb c body G k) w fun m τ' hm w'=>pA W h k m τ' (by omega) w'
theorem t7 {c:DT}{body:DS}{G:fj}{τ:TSt}(W:Nat→TSt→Prop)(n:Nat)(w0:W n τ)
  (h:∀n τ (N:TSt→Prop),W n τ→(∀m τ',m<n→W m τ'→N τ')→c τ fun b=>if b=true then body { G with nx:=N,ct:=N,bk:=G.nx } τ else G.nx τ):xb9 c body G τ :=
 ⟨n+1,pA W h (n+1) n τ (xjk n) w0⟩
theorem qU {dg:DG}{dc:DT}{de:DE}{τi:TSt}{KK:List Tr→Prop}(W:List Tr→List Tr→Prop)(h0:∀acc,W [] acc→KK acc)
  (h1:∀x xs acc (N:List Tr→Prop),W (x::xs) acc→(∀acc',W xs acc'→N acc')→dg x τi fun τ2=>dc τ2 fun b=>if b=true then de τ2 fun y=>N (acc++[y]) else N acc):∀xs acc,W xs acc→tj dg dc de τi KK xs acc
 | [],acc,w=>h0 acc w
 | x::xs,acc,w=>h1 x xs acc (tj dg dc de τi KK xs) w (qU W h0 h1 xs)
theorem vv {dg:DG}{de:DE}{τi:TSt}{KK:List Tr→Prop}{xs:List Tr}(g:Tr→Tr)(h1:∀x∈xs,∀N:Tr→Prop,N (g x)→dg x τi fun τ2=>de τ2 N)(h0:KK (xs.map g)):tj dg mY de τi KK xs []:=by
 refine qU (fun ys acc=>∃zs,xs=zs++ys∧acc=zs.map g) (fun acc ⟨zs,e,e2⟩=>?_) (fun x ys acc N ⟨zs,e,e2⟩ hN=>?_) xs [] ⟨[],rfl,rfl⟩
 ·rw[xh7] at e
  subst e e2
  exact h0
 ·subst e2
  have hx:x∈xs:=by rw[e];simp
  exact h1 x hx (fun y=>N (zs.map g++[y])) (hN _ ⟨zs++[x],by rw[e];simp,by simp⟩)
theorem xbF {dg:DG}{de:DE}{τi:TSt}{KK:List Tr→Prop}{xs:List Tr}(R:Tr→Tr→Prop)(h1:∀x∈xs,∀N:Tr→Prop,(∀y,R x y→N y)→dg x τi fun τ2=>de τ2 N)
  (h0:∀ys,Paired R xs ys→KK ys):tj dg mY de τi KK xs []:=by
 refine qU (fun ys acc=>∃zs,xs=zs++ys∧Paired R zs acc) (fun acc ⟨zs,e,e2⟩=>?_) (fun x ys acc N ⟨zs,e,e2⟩ hN=>?_) xs [] ⟨[],rfl,.nil⟩
 ·rw[xh7] at e
  subst e
  exact h0 acc e2
 ·have hx:x∈xs:=by rw[e];simp
  exact h1 x hx (fun y=>N (acc++[y])) fun y hy=>hN _ ⟨zs++[x],by rw[e];simp,fF e2 hy⟩
theorem wx {α:Type}{f:α→Tr}{l:List α}{i:Nat}{t:Tr}(h:(l.map f)[i]? = some t):∃x,l[i]? = some x∧t=f x:=by
 rw[xil] at h
 cases e:l[i]? with
 | none=>rw[e] at h;cases h
 | some x=>rw[e] at h;cases h;exact⟨x,rfl,rfl⟩
theorem fE {α:Type}(ts:List α)(n:Nat):atT ts (n:Int)=ts[n]?:=ai ts n
theorem bZ {α:Type}(ts:List α)(t:α):atT (ts++[t]) (-1)=some t:=by
 rw[xb5];exact xbH ts t
theorem sqz {n:Nat}(h:n≤1000000):n<sizeLine:=xjh h (by decide)
theorem xft {n:Nat}(h:n≤1000000):n≤sizeLine:=xjc (sqz h)
theorem zJ {a b:Int}(h:0≤b):a.fdiv b=a / b:=xhz a h
theorem xa4 {a b:Int}(h:0≤b):a.fmod b=a % b:=xhA a h
end L2
namespace L2
open PySem PySem.Spec PyProof.Rows
section
variable {prog:Program} {w:World} {A:Around} {E:Value→Shared→Prop} {s:Shared}
theorem tu {it t:Addr}{items:Array Value}(hne:t≠it):∀(n i:Nat) (s:Shared) (Q:List Value→Shared→Prop),s.heap.IsListIter it t i→s.heap.IsList t items→i+n≤items.size →
  (∀h',h'.IsListIter it t (i+n)→Heap.SameBut it s.heap h'→Q ((items.toList.drop i).take n) { s with heap:=h' })→wpAny (model prog w) A (draw (.ref it) n) Q E s
 | 0,i,s,Q,hit,_,_,hQ=>by
  show wpAny _ _ (pure []) Q E s
  exact wpAny_pure (by simpa using hQ s.heap hit (Heap.SameBut.refl ..))
 | n+1,i,s,Q,hit,ht,hle,hQ=>by
  have hlt:i<items.size:=by omega
  show wpAny _ _ (pyNext (.ref it) >>= _) Q E s
  refine wpAny_bind (wpAny_pyNext_list_item hit ht (x:=items[i]) (by simp[hlt]) fun h₁ hit₁ hs₁=>?_)
  refine wpAny_bind (wpAny_holding (tu hne n (i+1) _ _ hit₁ (ht.extBut hs₁.extBut hne) (by omega) fun h₂ hit₂ hs₂=>wpAny_pure ?_))
  have hd:items.toList.drop i=items[i]::items.toList.drop (i+1):=by simp[xh9,hlt]
  have:=hQ h₂ (by rw[show i+(n+1)=i+1+n by omega];exact hit₂) (hs₁.trans hs₂)
  rw[hd,List.take_succ_cons] at this
  exact this
theorem h9 {t:Addr}{items:Array Value}{Q:List Value→Shared→Prop}(hh:A.handled=none)(ht:s.heap.IsList t items)
  (hQ:∀h',Heap.ExtBut s.heap.objs.size s.heap h'→Q items.toList { s with heap:=h' }):wpAny (model prog w) A (unpackItems (.ref t) items.size none) Q E s:=by
 have hlt:t≠s.heap.objs.size:=by obtain⟨o,ho,_⟩:=ht;exact xjn (Heap.lt_size ho)
 unfold unpackItems
 refine wpAny_bind ?_
 ·unfold notIterableAtAll
  refine wpAny_bind (wpAny_specialOf ht.typeIs slot_list_iter.lookup ?_)
  refine wpAny_pure ?_
  simp only[Bool.false_eq_true,if_false]
  refine wpAny_bind (wpAny_holding (wpAny_pyIter_list ht ?_))
  refine wpAny_bind (wpAny_holding (tu hlt items.size 0 _ _ ⟨_,Heap.get?_push_size _ rfl,rfl,rfl⟩ (ht.push _) (by omega) fun h₁ hit₁ hs₁=>?_))
  have hall:List.take items.size (List.drop 0 items.toList)=items.toList:=by
   rw[List.drop_zero];exact xi9 (by simp)
  rw[hall]
  rw[if_neg (by simp)]
  have ht₁:h₁.IsList t items:=(ht.push _).extBut hs₁.extBut hlt
  refine wpAny_bind (wpAny_holding (wpAny_pyNext_list_end hh hit₁ ht₁ (by simp) fun h₂ he₂=>?_))
  simp only[Option.isSome_none,Bool.false_eq_true,if_false]
  refine wpAny_pure (hQ h₂ fun b o hb e=>he₂ b o hb (hs₁.extBut b o hb (Heap.get?_push_of_some _ e)))
theorem mX {t:Addr}{items:Array Value}{targets:List (Bool×(Value→Sem Unit))}{Q:Unit→Shared→Prop}(hh:A.handled=none)(ht:s.heap.IsList t items)
  (hn:targets.length=items.size) (hstar:targets.findIdx? (·.1)=none)
  (h:∀h',Heap.ExtBut s.heap.objs.size s.heap h'→wpAny (model prog w) A (assignInOrder (targets.map (·.2)) items.toList) Q E { s with heap:=h' }) :
  wpAny (model prog w) A (unpack (.ref t) targets) Q E s:=by
 unfold unpack
 rw[hn,hstar]
 exact wpAny_bind (wpAny_holding (h9 hh ht h))
theorem jO {env:Env}{elts:List Expr}{x1}{pos:Pos}{t:Addr}{items:Array Value}{Q:Unit→Shared→Prop}(hh:A.handled=none)(ht:s.heap.IsList t items)
  (hn:(assignEach elts env).length=items.size) (hstar:(assignEach elts env).findIdx? (·.1)=none)
  (h:∀h',Heap.ExtBut s.heap.objs.size s.heap h'→wpAny (model prog w) A (assignInOrder ((assignEach elts env).map (·.2)) items.toList) Q E { s with heap:=h' }) :
  wpAny (model prog w) A (assign (.Tuple elts x1 pos) env (.ref t)) Q E s:=by
 rw[assign_Tuple]
 exact wpAny_bind (wpAny_standAt (mX hh ht hn hstar h))
end
def xgx (K:PySem.W.Frag)(n:Nat)(t:TGs):TG:=fun v σ H Q=>∃a xs,v=.ref a∧SqL K H a xs∧xs.length=n∧t xs σ H Q
section
variable {X:Cx}
theorem xc4 (K:PySem.W.Frag){pos:Pos}{es:List Expr}{k:Nat}{t:TGs}{n:Nat}(hc:X.calm=true)(h:PGs X es t)
  (hn:(assignEach es X.env).length=n:=by rfl) (hst:(assignEach es X.env).findIdx? (·.1)=none:=by rfl) (e:X.K=K:=by rfl):PG X (.Tuple es k pos) (xgx K n t):=by
 subst e
 intro pins s σ H v u Q I r hw
 obtain⟨a,xs,e1,hq,hl,hw⟩:=hw
 subst e1
 cases r
 obtain⟨its,rv,⟨o,m,ho,hcl,hd,hs⟩,hz⟩:=I.list hq
 refine jO (I.ok.hd hc) (items:=its.toArray) ⟨o,ho,hcl,m,hs⟩ (by simp[hn,←hl,rv.length]) hst fun h' hx=>?_
 have I1:Inv X pins σ H { s with heap:=h' }:=I.kept (t':=s.toks) fun b o e=>hx b o (xjn (Heap.lt_size e)) e
 exact @h pins _ σ H xs _ Q I1 (by simpa using rv) hw
end
section
variable {K:PySem.W.Frag}
def xg8 (n:Nat)(d:DGs):DG:=fun t τ KK=>match t with | .lst ts=>ts.length=n∧d ts τ KK | _=>False
theorem xdP {n:Nat}{gs:TGs}{ds:DGs}(h:xd_ K gs ds):OkN K (xgx K n gs) (xg8 n ds):=fun B φ σ τ H F t v Q KK R hF r hd q=>by
 cases t with
 | lst ts =>
  obtain⟨a,ws,e,n,ha,rl⟩:=r
  exact⟨a,ws,e,SqL.of ha,by rw[←rl.len];exact hd.1,h B φ σ τ H F ts ws Q KK R hF rl hd.2 q⟩
 | _=>exact hd.elim
end
theorem x_ {b:Bool}{A B:Prop}(h1:b=true→A)(h0:b=false→B):if b=true then A else B:=by
 cases b with
 | true=>exact oH (h1 rfl)
 | false=>exact ou (h0 rfl)
end L2
namespace Pol
abbrev R3:=Int×Int×Int
def val (r p:R3):Int:=r.1*p.1+r.2.1*p.2.1-r.2.2*p.2.2
def det (u v w:R3):Int:=u.1*(v.2.1*w.2.2-v.2.2*w.2.1)-u.2.1*(v.1*w.2.2-v.2.2*w.1)+u.2.2*(v.1*w.2.1-v.2.1*w.1)
def add (u v:R3):R3:=(u.1+v.1,u.2.1+v.2.1,u.2.2+v.2.2)
def mul (k:Int)(u:R3):R3:=(k*u.1,k*u.2.1,k*u.2.2)
theorem ext3 {u v:R3}(h1:u.1=v.1)(h2:u.2.1=v.2.1)(h3:u.2.2=v.2.2):u=v:=Prod.ext h1 (Prod.ext h2 h3)
theorem val_add (r p q:R3):val r (add p q)=val r p+val r q:=by simp only[val,add];grind
theorem val_mul (r p:R3)(k:Int):val r (mul k p)=k*val r p:=by simp only[val,mul];grind
theorem wy (u v w:R3):det u v w=det v w u:=by simp only[det];grind
theorem cA (u v w:R3):det u w v = - det u v w:=by simp only[det];grind
theorem vK (u v:R3):det u v v=0:=by simp only[det];grind
theorem qm (u v:R3):det u u v=0:=by simp only[det];grind
theorem qf (u v:R3):det u v u=0:=by simp only[det];grind
theorem rF (u v p q:R3):det u v (add p q)=det u v p+det u v q:=by simp only[det,add];grind
theorem vF (u v p:R3)(k:Int):det u v (mul k p)=k*det u v p:=by simp only[det,mul];grind
theorem four (r a b c d:R3):det b c d*val r a+det a b d*val r c=det a c d*val r b+det a b c*val r d:=by simp only[det,val];grind
theorem xcg (u v w p:R3):mul (det u v w) p=add (mul (det p v w) u) (add (mul (det u p w) v) (mul (det u v p) w)):=by
 apply ext3<;>simp only[det,mul,add]<;>grind
theorem xbJ (r u w z p:R3)(hu:val r u=0)(hw:val r w=0):val r p*det u w z=val r z*det u w p:=by
 have h:=xjq (val r) (xcg u w z p)
 rw[val_mul,val_add,val_add,val_mul,val_mul,val_mul,hu,hw] at h
 rw[xhL (val r p)]
 rw[h];grind
theorem pp {a b:Int}(h:0<a)(k:0<b):0<a*b:=xhX h k
theorem pz {a b:Int}(h:0≤a)(k:0≤b):0≤a*b:=xhV h k
theorem pn {a b:Int}(h:0≤a)(k:b≤0):a*b≤0:=Int.mul_nonpos_of_nonneg_of_nonpos h k
theorem np {a b:Int}(h:a≤0)(k:0≤b):a*b≤0:=Int.mul_nonpos_of_nonpos_of_nonneg h k
theorem nn {a b:Int}(h:a≤0)(k:b≤0):0≤a*b:=Int.mul_nonneg_of_nonpos_of_nonpos h k
theorem we {a b:Int}(h:0<a)(k:0<a*b):0<b:=by
 rcases xhJ 0 b with z | z
 ·exact z
 ·have:=pn (xhE h) z;omega
theorem zw {a b:Int}(h:0<a)(k:0≤a*b):0≤b:=by
 rcases xhJ b 0 with z | z
 ·have:=xhU h z;omega
 ·exact z
theorem rS {a b:Int}(h:0<a)(k:a*b≤0):b≤0:=by
 rcases xhJ 0 b with z | z
 ·have:=pp h z;omega
 ·exact z
theorem dU {a b:Int}(h:0<a)(k:a*b=0):b=0:=(xhO.mp k).resolve_left (by omega)
inductive Cn (l:List R3):R3→Prop
 | zero:Cn l (0,0,0)
 | mem {v}:v∈l→Cn l v
 | add {p q}:Cn l p→Cn l q→Cn l (add p q)
theorem Cn.nsmul {l:List R3}{p:R3}(h:Cn l p):∀k:Nat,Cn l (mul k p)
 | 0=>by
  have:mul ((0:Nat):Int) p=(0,0,0):=by apply ext3<;>simp[mul]
  rw[this];exact .zero
 | k+1=>by
  have:mul ((k+1:Nat):Int) p=Pol.add (mul k p) p:=by apply ext3<;>simp only[mul,Pol.add]<;>grind
  rw[this];exact(h.nsmul k).add h
theorem Cn.smul {l:List R3}{p:R3}(h:Cn l p){k:Int}(hk:0≤k):Cn l (mul k p):=by
 have:=h.nsmul k.toNat
 rwa [Int.toNat_of_nonneg hk] at this
theorem Cn.mono {l l':List R3}{p:R3}(h:Cn l p)(hl:∀v∈l,Cn l' v):Cn l' p:=by
 induction h with
 | zero=>exact .zero
 | mem m=>exact hl _ m
 | add _ _ h1 h2=>exact h1.add h2
theorem Cn.lin {l:List R3}{p:R3}(h:Cn l p)(g:R3→Int)(g0:g (0,0,0)=0)(ga:∀p q,g (Pol.add p q)=g p+g q)(hl:∀v∈l,0≤g v):0≤g p:=by
 induction h with
 | zero=>omega
 | mem m=>exact hl _ m
 | add _ _ h1 h2=>rw[ga];omega
theorem Cn.valGe {l:List R3}{p:R3}(h:Cn l p)(r:R3)(hl:∀v∈l,0≤Pol.val r v):0≤Pol.val r p :=
 h.lin (Pol.val r) (by simp[Pol.val]) (val_add r) hl
theorem Cn.det {l:List R3}{p:R3}(h:Cn l p)(u v:R3)(hl:∀w∈l,0≤Pol.det u v w):0≤Pol.det u v p :=
 h.lin (Pol.det u v) (by simp[Pol.det]) (rF u v) hl
theorem Cn.bot {l:List R3}{p:R3}(h:Cn l p)(hl:∀v∈l,0<v.2.2):p=(0,0,0)∨0<p.2.2:=by
 induction h with
 | zero=>exact .inl rfl
 | mem m=>exact .inr (hl _ m)
 | @add p q _ _ h1 h2 =>
  rcases h1 with rfl | h1
  ·have:Pol.add (0,0,0) q=q:=by apply ext3<;>simp[Pol.add]
   rw[this];exact h2
  ·right
   show 0<p.2.2+q.2.2
   rcases h2 with rfl | h2
   ·simpa using h1
   ·omega
theorem Cn.zeros {l:List R3}{p:R3}(h:Cn l p)(r:R3)(hl:∀v∈l,0≤Pol.val r v)(h0:Pol.val r p≤0):Cn (l.filter fun v=>Pol.val r v=0) p:=by
 induction h with
 | zero=>exact .zero
 | @mem v m=>exact .mem (xiM.mpr ⟨m,by have:=hl v m;simp;omega⟩)
 | @add p q hp hq h1 h2 =>
  rw[val_add] at h0
  have a:=hp.valGe r hl
  have b:=hq.valGe r hl
  exact(h1 (by omega)).add (h2 (by omega))
theorem Cn.pair {u v p:R3}(h:Cn [u,v] p):∃a b:Int,0≤a∧0≤b∧p=Pol.add (mul a u) (mul b v):=by
 induction h with
 | zero=>exact⟨0,0,by omega,by omega,by apply ext3<;>simp[Pol.add,mul]⟩
 | mem m =>
  simp only[xiJ,xiZ,xjw] at m
  rcases m with rfl | rfl
  ·exact⟨1,0,by omega,by omega,by apply ext3<;>simp[Pol.add,mul]⟩
  ·exact⟨0,1,by omega,by omega,by apply ext3<;>simp[Pol.add,mul]⟩
 | add _ _ h1 h2 =>
  obtain⟨a,b,a0,b0,rfl⟩:=h1
  obtain⟨c,d,c0,d0,rfl⟩:=h2
  exact⟨a+c,b+d,by omega,by omega,by apply ext3<;>simp only[Pol.add,mul]<;>grind⟩
def InC (l:List R3)(p:R3):Prop:=∃m:Int,0<m∧Cn l (mul m p)
structure Ccw (l:List R3):Prop where
 tri:∀u v w:R3,List.Sublist [u,v,w] l→0<det u v w
 nd:l.Nodup
theorem xck {u v w:R3}{l1 l2:List R3}(h:[u,v,w]=l1++l2):(l1=[]∧l2=[u,v,w])∨(l1=[u]∧l2=[v,w])∨(l1=[u,v]∧l2=[w])∨(l1=[u,v,w]∧l2=[]):=by
 cases l1 with
 | nil=>exact .inl ⟨rfl,h.symm⟩
 | cons a t =>
  injection h with h1 h2
  subst h1
  cases t with
  | nil=>exact .inr (.inl ⟨rfl,h2.symm⟩)
  | cons b t =>
   injection h2 with h1 h2
   subst h1
   cases t with
   | nil=>exact .inr (.inr (.inl ⟨rfl,h2.symm⟩))
   | cons c t =>
    injection h2 with h1 h2
    subst h1
    have:=List.append_eq_nil_iff.mp h2.symm
    rw[this.1,this.2]
    exact .inr (.inr (.inr ⟨rfl,rfl⟩))
theorem Ccw.rot {a b:List R3}(h:Ccw (a++b)):Ccw (b++a):=by
 refine⟨fun u v w s=>?_,?_⟩
 ·obtain⟨l1,l2,e,s1,s2⟩:=xi4.mp s
  have s3:=List.Sublist.append s2 s1
  rcases xck e with ⟨rfl,rfl⟩ | ⟨rfl,rfl⟩ | ⟨rfl,rfl⟩ | ⟨rfl,rfl⟩
  ·exact h.tri _ _ _ (by simpa using s3)
  ·have:=h.tri _ _ _ (show List.Sublist [v,w,u] (a++b) by simpa using s3)
   rw[wy];exact this
  ·have:=h.tri _ _ _ (show List.Sublist [w,u,v] (a++b) by simpa using s3)
   rw[←wy];exact this
  ·exact h.tri _ _ _ (by simpa using s3)
 ·have:=h.nd
  rw[xiX] at this ⊢
  exact⟨this.2.1,this.1,fun x hx y hy e=>this.2.2 y hy x hx e.symm⟩
theorem Ccw.alt {l:List R3}(h:Ccw l)(r:R3){a b c d:R3}(s:List.Sublist [a,b,c,d] l):¬(0<val r a∧val r b≤0∧0<val r c∧val r d≤0)∧¬(val r a≤0∧0<val r b∧val r c≤0∧0<val r d):=by
 have h1:=h.tri b c d (xh3 (List.Sublist.cons _ (xh2 _)) s)
 have h2:=h.tri a b d (xh3 (by simp) s)
 have h3:=h.tri a c d (xh3 (by simp) s)
 have h4:=h.tri a b c (xh3 (by simp) s)
 have e:=four r a b c d
 constructor
 ·rintro⟨x1,x2,x3,x4⟩
  have:=pp h1 x1
  have:=pp h2 x3
  have:=pn (xhE h3) x2
  have:=pn (xhE h4) x4
  omega
 ·rintro⟨x1,x2,x3,x4⟩
  have:=pn (xhE h1) x1
  have:=pn (xhE h2) x3
  have:=pp h3 x2
  have:=pp h4 x4
  omega
theorem nS (f:R3→Bool):∀l:List R3,l=l.takeWhile f++l.dropWhile f:=fun l=>(List.takeWhile_append_dropWhile (p:=f) (l:=l)).symm
theorem oO {f:R3→Bool}{x:R3}:∀ {l:List R3},x∈l.takeWhile f→f x=true:=fun {l} h=>by
 induction l with
 | nil=>simp at h
 | cons a t ih =>
  rw[List.takeWhile_cons] at h
  split at h
  ·rcases xiJ.mp h with rfl | h
   ·assumption
   ·exact ih h
  ·simp at h
theorem nt {f:R3→Bool}{x:R3}{t:List R3}:∀ {l:List R3},l.dropWhile f=x::t→f x=false:=fun {l} h=>by
 induction l with
 | nil=>simp at h
 | cons a l ih =>
  rw[List.dropWhile_cons] at h
  split at h
  ·exact ih h
  ·rename_i hn
   injection h with h1 h2
   subst h1
   simpa using hn
theorem Ccw.parts {l:List R3}(h:Ccw l)(r:R3):∃a b P Q,l=a++b∧b++a=P++Q∧(∀v∈P,0<val r v)∧∀v∈Q,val r v≤0:=by
 have e1:=nS (fun v=>decide (val r v≤0)) l
 have m1:∀v∈l.takeWhile fun v=>decide (val r v≤0),val r v≤0:=fun v hv=>xjv (oO hv)
 revert e1 m1
 generalize l.takeWhile (fun v=>decide (val r v≤0))=N1
 cases hd:l.dropWhile (fun v=>decide (val r v≤0)) with
 | nil =>
  intro e1 m1
  rw[xh7] at e1
  exact⟨[],l,[],l,rfl,by simp,fun v hv=>absurd hv (by simp),fun v hv=>m1 v (e1▸hv)⟩
 | cons p R =>
  intro e1 m1
  have hp:0<val r p:=by
   have:=nt hd
   have:=xju this
   omega
  have e2:=nS (fun v=>decide (0<val r v)) R
  have m2:∀v∈R.takeWhile fun v=>decide (0<val r v),0<val r v:=fun v hv=>xjv (oO hv)
  revert e2 m2
  generalize R.takeWhile (fun v=>decide (0<val r v))=P1
  cases hd2:R.dropWhile (fun v=>decide (0<val r v)) with
  | nil =>
   intro e2 m2
   rw[xh7] at e2
   subst e2
   refine⟨N1,p::R,p::R,N1,e1,rfl,fun v hv=>?_,m1⟩
   rcases xiJ.mp hv with rfl | hv
   ·exact hp
   ·exact m2 v hv
  | cons q S =>
   intro e2 m2
   have hq:val r q≤0:=by
    have:=nt hd2
    have:=xju this
    omega
   have mp:∀v∈p::P1,0<val r v:=fun v hv=>by
    rcases xiJ.mp hv with rfl | hv
    ·exact hp
    ·exact m2 v hv
   cases N1 with
   | cons n0 N =>
    refine⟨n0::N,p::R,p::P1,q::S++(n0::N),e1,by rw[e2];simp,mp,fun v hv=>?_⟩
    rcases xiG.mp hv with hv | hv
    ·rcases xiJ.mp hv with rfl | hv
     ·exact hq
     ·rcases xhJ 0 (val r v) with z | z
      ·exfalso
       have s:List.Sublist [n0,p,q,v] l:=by
        rw[e1,e2]
        have s1:List.Sublist [v] S:=xi2.mpr hv
        have s2:List.Sublist [q,v] (q::S):=s1.cons_cons q
        have s3:List.Sublist [q,v] (P1++q::S):=s2.trans (xi5 _ _)
        have s4:List.Sublist [p,q,v] (p::(P1++q::S)):=s3.cons_cons p
        have s5:List.Sublist [n0] (n0::N):=xi2.mpr xiL
        exact s5.append s4
       exact(h.alt r s).2 ⟨m1 n0 xiL,hp,hq,z⟩
      ·exact z
    ·exact m1 v hv
   | nil =>
    have e3:=nS (fun v=>decide (val r v≤0)) S
    have m3:∀v∈S.takeWhile fun v=>decide (val r v≤0),val r v≤0:=fun v hv=>xjv (oO hv)
    have hd3:∀v∈S.dropWhile (fun v=>decide (val r v≤0)),0<val r v:=fun v hv=>by
     cases hc:S.dropWhile (fun v=>decide (val r v≤0)) with
     | nil=>rw[hc] at hv;simp at hv
     | cons p2 S2 =>
      have hp2:0<val r p2:=by
       have:=nt hc
       have:=xju this
       omega
      rw[hc] at hv
      rcases xiJ.mp hv with rfl | hv
      ·exact hp2
      ·rcases xhJ 0 (val r v) with z | z
       ·exact z
       ·exfalso
        have s:List.Sublist [p,q,p2,v] l:=by
         rw[e1,xiW,e2,e3,hc]
         have s1:List.Sublist [v] S2:=xi2.mpr hv
         have s2:List.Sublist [p2,v] (p2::S2):=s1.cons_cons p2
         have s3:=s2.trans (xi5 (S.takeWhile fun v=>decide (val r v≤0)) _)
         have s4:=s3.cons_cons q
         have s5:=s4.trans (xi5 P1 _)
         exact s5.cons_cons p
        exact(h.alt r s).1 ⟨hp,hq,hp2,z⟩
    refine⟨p::P1++q::S.takeWhile (fun v=>decide (val r v≤0)),S.dropWhile (fun v=>decide (val r v≤0)),S.dropWhile (fun v=>decide (val r v≤0))++p::P1,q::S.takeWhile (fun v=>decide (val r v≤0)),?_,?_,fun v hv=>?_,fun v hv=>?_⟩
    ·rw[e1,xiW,e2]
     conv=>lhs;rw[e3]
     simp
    ·simp
    ·rcases xiG.mp hv with hv | hv
     ·exact hd3 v hv
     ·exact mp v hv
    ·rcases xiJ.mp hv with rfl | hv
     ·exact hq
     ·exact m3 v hv
end Pol
namespace Pol
def xu:R3→List R3→R3
 | p,[]=>p
 | _,x::xs=>xu x xs
theorem uX (u v w:R3):det u v w=det w u v:=by simp only[det];grind
theorem xbe (u v w:R3):det u v w = - det v u w:=by simp only[det];grind
theorem fg (p q:R3):∀(xs ys:List R3),xu p (xs++q::ys)=xu q ys
 | [],_=>rfl
 | x::xs,ys=>fg x q xs ys
theorem d_ (p q:R3)(xs:List R3):xu p (xs++[q])=q:=fg p q xs []
theorem yx (p:R3):∀(xs:List R3),xu p xs∈p::xs
 | []=>by simp[xu]
 | x::xs=>xiK _ (yx x xs)
theorem gR (p:R3):∀(xs:List R3),∃ys,p::xs=ys++[xu p xs]
 | []=>⟨[],rfl⟩
 | x::xs=>by
  obtain⟨ys,e⟩:=gR x xs
  exact⟨p::ys,xjq (p::·) e⟩
def chain:R3→List R3→List (R3×R3)
 | _,[]=>[]
 | p,x::xs=>(p,x)::chain x xs
theorem kT (p:R3):∀(xs ys:List R3),chain p (xs++ys)=chain p xs++chain (xu p xs) ys
 | [],_=>rfl
 | x::xs,ys=>by
  show(p,x)::chain x (xs++ys)=(p,x)::(chain x xs++chain (xu x xs) ys)
  rw[kT x xs ys]
def cyc:List R3→List (R3×R3)
 | []=>[]
 | x::xs=>chain (xu x xs) (x::xs)
theorem jv {x y:R3}{xs ys:List R3}:cyc ((x::xs)++(y::ys))=chain (xu y ys) (x::xs)++chain (xu x xs) (y::ys):=by
 show chain (xu x (xs++y::ys)) ((x::xs)++(y::ys))=_
 rw[fg,kT];rfl
theorem xav (a b:List R3):∃c d,cyc (a++b)=c++d∧cyc (b++a)=d++c:=by
 cases a with
 | nil=>exact⟨[],cyc b,by simp,by simp⟩
 | cons x xs =>
  cases b with
  | nil=>exact⟨[],cyc (x::xs),by simp,by simp⟩
  | cons y ys=>exact⟨_,_,jv,jv⟩
theorem nF {a b:List R3}{p:R3×R3}(h:p∈cyc (b++a)):p∈cyc (a++b):=by
 obtain⟨c,d,e1,e2⟩:=xav a b
 rw[e2] at h
 rw[e1]
 exact xiG.mpr ((xiG.mp h).symm)
theorem jl {x y:R3}:∀ {p:R3} {l:List R3},(x,y)∈chain p l→∃s t,p::l=s++x::y::t
 | _,[],h=>by simp[chain] at h
 | p,z::l,h=>by
  rcases xiJ.mp h with e | h
  ·injection e with e1 e2
   subst e1 e2
   exact⟨[],l,rfl⟩
  ·obtain⟨s,t,e⟩:=jl h
   exact⟨p::s,t,by rw[e];rfl⟩
theorem Ccw.edge {l:List R3}(h:Ccw l){u v w:R3}(he:(u,v)∈cyc l)(hw:w∈l):0≤det u v w:=by
 cases l with
 | nil=>simp at hw
 | cons x xs =>
  have he:(u,v)∈(xu x xs,x)::chain x xs:=he
  rcases xiJ.mp he with e | he
  ·injection e with e1 e2
   subst e1 e2
   obtain⟨ys,e⟩:=gR v xs
   generalize xu v xs=L at e ⊢
   cases ys with
   | nil =>
    injection e with e1 e2
    rw[←e1,qm];exact xhH _
   | cons y ys =>
    injection e with e1 e2
    subst e1
    have e2:xs=ys++[L]:=e2
    rw[e2] at hw
    rcases xiJ.mp hw with rfl | hw
    ·rw[vK];exact xhH _
    ·rcases xiG.mp hw with hw | hw
     ·have:=h.tri v w L (by
       rw[e2]
       exact((xi2.mpr hw).append (xh2 [L])).cons_cons v)
      rw[uX] at this;exact xhE this
     ·have:w=L:=by simpa using hw
      rw[this,qf];exact xhH _
  ·obtain⟨s,t,e⟩:=jl he
   rw[e] at hw
   rcases xiG.mp hw with hw | hw
   ·have:=h.tri w u v (by
     rw[e]
     exact(xi2.mpr hw).append ((xh2 [u,v]).trans (by simp)))
    rw[wy] at this;omega
   ·rcases xiJ.mp hw with rfl | hw
    ·rw[qf];exact xhH _
    ·rcases xiJ.mp hw with rfl | hw
     ·rw[vK];exact xhH _
     ·have:=h.tri u v w (by
       rw[e]
       exact((((xi2.mpr hw).cons_cons v).cons_cons u)).trans (xi5 s _))
      omega
theorem fan (x:R3)(p:R3):∀(y:R3) (ys:List R3),(∀u v,(u,v)∈chain y ys→0<det x u v∧0≤det u v p)→0≤det x y p→det x (xu y ys) p≤0→ys≠[]→∃u v,(u,v)∈chain y ys∧0≤det x u p∧det x v p≤0
 | y,[],_,_,_,h=>absurd rfl h
 | y,z::ys,hc,h0,h1,_=>by
  rcases xhJ 0 (det x z p) with c | c
  ·cases ys with
   | nil=>exact absurd h1 (by show ¬det x z p≤0;omega)
   | cons a ys =>
    obtain⟨u,v,m,h2,h3⟩:=fan x p z (a::ys) (fun u v m=>hc u v (xiK _ m)) (xhE c) h1 (by simp)
    exact⟨u,v,xiK _ m,h2,h3⟩
  ·exact⟨y,z,xiL,h0,c⟩
theorem Ccw.incone {l:List R3}(h:Ccw l)(h3:3≤l.length){p:R3}(hp:∀u v,(u,v)∈cyc l→0≤det u v p):InC l p:=by
 match l,h,h3,hp with
 | x::y::z::t,h,_,hp =>
  have he:∀u v,(u,v)∈chain y (z::t)→0<det x u v∧0≤det u v p:=fun u v m=>by
   obtain⟨s,s2,e⟩:=jl m
   refine⟨h.tri x u v ?_,hp u v (xiK _ (xiK _ m))⟩
   rw[e]
   exact(((xh2 [u,v]).trans (show List.Sublist [u,v] (u::v::s2) by simp)).trans (xi5 s _)).cons_cons x
  have h0:0≤det x y p:=hp x y (xiK _ xiL)
  have h1:0≤det (xu x (y::z::t)) x p:=hp _ _ xiL
  have h1':det x (xu y (z::t)) p≤0:=by
   have e:det x (xu y (z::t)) p = - det (xu x (y::z::t)) x p:=xbe _ _ _
   omega
  obtain⟨u,v,m,h2,h3⟩:=fan x p y (z::t) he h0 h1' (by simp)
  obtain⟨d1,d2⟩:=he u v m
  have mem:∀w,w=u∨w=v→w∈x::y::z::t:=fun w hw=>by
   obtain⟨s,s2,e⟩:=jl m
   have:w∈y::z::t:=by
    rw[e]
    rcases hw with rfl | rfl<;>simp
   exact xiK _ this
  refine⟨det x u v,d1,?_⟩
  rw[xcg x u v p]
  have c1:0≤det p u v:=by rw[wy];exact d2
  have c2:0≤det x p v:=by rw[cA];omega
  exact((Cn.mem xiL).smul c1).add (((Cn.mem (mem u (.inl rfl))).smul c2).add ((Cn.mem (mem v (.inr rfl))).smul h2))
end Pol
namespace Pol
def turn (r s:R3):Int:=r.1*s.2.1-r.2.1*s.1
def vi (w:R3):Nat:=Int.gcd (Int.gcd w.1 w.2.1:Int) w.2.2
def red (w:R3):R3:=(w.1 / vi w,w.2.1 / vi w,w.2.2 / vi w)
theorem cq (w:R3):(vi w:Int) ∣ w.1∧(vi w:Int) ∣ w.2.1∧(vi w:Int) ∣ w.2.2:=by
 have h1:(vi w:Int) ∣ (Int.gcd w.1 w.2.1:Int):=xhB ..
 exact⟨Int.dvd_trans h1 (xhB ..),Int.dvd_trans h1 (xhC ..),xhC ..⟩
theorem xbV {d:Int}{w:R3}(h1:d ∣ w.1)(h2:d ∣ w.2.1)(h3:d ∣ w.2.2):d ∣ (vi w:Int):=xhv (xhv h1 h2) h3
theorem qN {w:R3}(h:0<w.2.2):0<(vi w:Int):=by
 have:=xhD (Int.gcd w.1 w.2.1:Int) (show w.2.2≠0 by omega)
 unfold vi;omega
theorem aB {w:R3}:mul (vi w) (red w)=w:=by
 obtain⟨h1,h2,h3⟩:=cq w
 exact ext3 (xhN h1) (xhN h2) (xhN h3)
theorem lD {w:R3}(h:0<w.2.2):0<(red w).2.2:=by
 have e:(vi w:Int)*(red w).2.2=w.2.2:=xjq (·.2.2) (aB (w:=w))
 exact we (qN h) (by rw[e];exact h)
theorem xbb {w:R3}(h:0<w.2.2):vi (red w)=1:=by
 obtain⟨h1,h2,h3⟩:=cq (red w)
 have g:=qN h
 have d:(vi w:Int)*(vi (red w):Int) ∣ (vi w:Int):=by
  have e:=aB (w:=w)
  refine xbV ?_ ?_ ?_
  ·conv=>rhs;rw[←e]
   exact xhM _ h1
  ·conv=>rhs;rw[←e]
   exact xhM _ h2
  ·conv=>rhs;rw[←e]
   exact xhM _ h3
 have d2:(vi (red w):Int) ∣ 1:=by
  have:(vi w:Int)*(vi (red w):Int) ∣ (vi w:Int)*1:=by rw[xhW];exact d
  exact Int.dvd_of_mul_dvd_mul_left (by omega) this
 have:=Int.le_of_dvd (by decide) d2
 have p:=qN (lD h)
 omega
theorem j1 {v s t:R3}(hg:vi v=1)(hz:0<v.2.2)(hs:val s v=0)(ht:val t v=0)(hn:turn s t≠0) :
  v.2.2≤(turn s t).natAbs∧v.1.natAbs≤(s.2.2*t.2.1-t.2.2*s.2.1).natAbs∧v.2.1.natAbs≤(t.2.2*s.1-s.2.2*t.1).natAbs:=by
 have e1:turn s t*v.1=v.2.2*(s.2.2*t.2.1-t.2.2*s.2.1):=by
  have:turn s t*v.1=v.2.2*(s.2.2*t.2.1-t.2.2*s.2.1)+t.2.1*val s v-s.2.1*val t v:=by simp only[turn,val];grind
  rw[hs,ht] at this;rw[this];grind
 have e2:turn s t*v.2.1=v.2.2*(t.2.2*s.1-s.2.2*t.1):=by
  have:turn s t*v.2.1=v.2.2*(t.2.2*s.1-s.2.2*t.1)+s.1*val t v-t.1*val s v:=by simp only[turn,val];grind
  rw[hs,ht] at this;rw[this];grind
 have dv:v.2.2 ∣ turn s t:=by
  have h1:v.2.2 ∣ turn s t*v.1:=⟨_,e1⟩
  have h2:v.2.2 ∣ turn s t*v.2.1:=⟨_,e2⟩
  have h3:v.2.2 ∣ turn s t*v.2.2:=Int.dvd_mul_left ..
  have g12:v.2.2 ∣ turn s t*(Int.gcd v.1 v.2.1:Int):=by
   have:=xhv h1 h2
   rw[Int.gcd_mul_left] at this
   have h4:((turn s t).natAbs*Int.gcd v.1 v.2.1:Nat)=((turn s t*(Int.gcd v.1 v.2.1:Int)).natAbs:Nat):=by rw[xh0];rfl
   rw[h4] at this
   exact Int.dvd_natAbs.mp this
  have g3:=xhv g12 h3
  rw[Int.gcd_mul_left] at g3
  have hg':Int.gcd (Int.gcd v.1 v.2.1:Int) v.2.2=1:=hg
  rw[hg',Nat.mul_one] at g3
  exact Int.dvd_natAbs.mp g3
 have zl:v.2.2≤(turn s t).natAbs:=by
  have h:=Int.le_of_dvd (show(0:Int)<((turn s t).natAbs:Int) by omega) (Int.dvd_natAbs.mpr dv)
  exact h
 refine⟨zl,?_,?_⟩
 ·have h:=xjq Int.natAbs e1
  rw[xh0,xh0] at h
  rcases Nat.lt_or_ge (s.2.2*t.2.1-t.2.2*s.2.1).natAbs v.1.natAbs with c | c
  ·exfalso
   have h1:v.2.2.natAbs≤(turn s t).natAbs:=by omega
   have h2:0<v.2.2.natAbs:=by omega
   have h3:v.2.2.natAbs*(s.2.2*t.2.1-t.2.2*s.2.1).natAbs<v.2.2.natAbs*v.1.natAbs:=Nat.mul_lt_mul_of_pos_left c h2
   have h4:v.2.2.natAbs*v.1.natAbs≤(turn s t).natAbs*v.1.natAbs:=xjl _ h1
   omega
  ·exact c
 ·have h:=xjq Int.natAbs e2
  rw[xh0,xh0] at h
  rcases Nat.lt_or_ge (t.2.2*s.1-s.2.2*t.1).natAbs v.2.1.natAbs with c | c
  ·exfalso
   have h1:v.2.2.natAbs≤(turn s t).natAbs:=by omega
   have h2:0<v.2.2.natAbs:=by omega
   have h3:v.2.2.natAbs*(t.2.2*s.1-s.2.2*t.1).natAbs<v.2.2.natAbs*v.2.1.natAbs:=Nat.mul_lt_mul_of_pos_left c h2
   have h4:v.2.2.natAbs*v.2.1.natAbs≤(turn s t).natAbs*v.2.1.natAbs:=xjl _ h1
   omega
  ·exact c
def abs (i:Int):Int:=if i<0 then -i else i
def cw (r u v:R3):R3:=add (mul (abs (val r v)) u) (mul (abs (val r u)) v)
def xA (r u v:R3):R3:=red (cw r u v)
theorem xab (r u v:R3):cw r u v=cw r v u:=by apply ext3<;>simp only[cw,add]<;>omega
structure Bt (u v x:R3)(a b g:Int):Prop where
 pa:0<a
 pb:0<b
 pg:0<g
 e:mul g x=add (mul a u) (mul b v)
theorem qP {r u v:R3}(hu:0<u.2.2)(hv:0<v.2.2)(h:val r u*val r v<0):Bt u v (xA r u v) (abs (val r v)) (abs (val r u)) (vi (cw r u v))∧val r (xA r u v)=0∧0<(xA r u v).2.2∧vi (xA r u v)=1:=by
 have sg:(val r u<0∧0<val r v)∨(0<val r u∧val r v<0):=by
  rcases xhK (val r u) 0 with c | c | c
  ·rcases xhJ 0 (val r v) with d | d
   ·exact .inl ⟨c,d⟩
   ·have:=nn (xhE c) d;omega
  ·rw[c] at h;simp at h
  ·rcases xhJ (val r v) 0 with d | d
   ·exact .inr ⟨c,d⟩
   ·have:=pz (xhE c) d;omega
 have p1:0<abs (val r v):=by unfold abs;split<;>omega
 have p2:0<abs (val r u):=by unfold abs;split<;>omega
 have hz:0<(cw r u v).2.2:=by
  show 0<abs (val r v)*u.2.2+abs (val r u)*v.2.2
  have:=pp p1 hu
  have:=pp p2 hv
  omega
 have v0:val r (cw r u v)=0:=by
  unfold cw
  rw[val_add,val_mul,val_mul]
  rcases sg with ⟨c,d⟩ | ⟨c,d⟩
  ·have e1:abs (val r v)=val r v:=by unfold abs;rw[if_neg (by omega)]
   have e2:abs (val r u) = - val r u:=by unfold abs;rw[if_pos c]
   rw[e1,e2];grind
  ·have e1:abs (val r v) = - val r v:=by unfold abs;rw[if_pos d]
   have e2:abs (val r u)=val r u:=by unfold abs;rw[if_neg (by omega)]
   rw[e1,e2];grind
 refine⟨⟨p1,p2,qN hz,aB⟩,?_,lD hz,xbb hz⟩
 have:=xjq (val r) (aB (w:=cw r u v))
 rw[val_mul,v0] at this
 exact dU (qN hz) this
theorem Bt.val {u v x:R3}{a b g:Int}(h:Bt u v x a b g)(r:R3):g*Pol.val r x=a*Pol.val r u+b*Pol.val r v:=by
 have:=xjq (Pol.val r) h.e
 rwa [val_mul,val_add,val_mul,val_mul] at this
theorem Bt.det {u v x:R3}{a b g:Int}(h:Bt u v x a b g)(p q:R3):g*Pol.det p q x=a*Pol.det p q u+b*Pol.det p q v:=by
 have:=xjq (Pol.det p q) h.e
 rwa [vF,rF,vF,vF] at this
theorem Bt.kept {u v x:R3}{a b g:Int}(h:Bt u v x a b g){r:R3}(hu:Pol.val r u≤0)(hv:Pol.val r v≤0):Pol.val r x≤0:=by
 have:=h.val r
 have:=pn (xhE h.pa) hu
 have:=pn (xhE h.pb) hv
 exact rS h.pg (by omega)
theorem Bt.tight {u v x:R3}{a b g:Int}(h:Bt u v x a b g){r:R3}(hu:Pol.val r u=0)(hv:Pol.val r v=0):Pol.val r x=0:=by
 have:=h.val r
 rw[hu,hv] at this
 exact dU h.pg (by omega)
theorem unlike {r s u v:R3}(hs:s.1≠0∨s.2.1≠0)(hu:0<u.2.2)(hv:0<v.2.2)(su:val s u=0)(sv:val s v=0)(h:val r u*val r v<0):turn s r≠0:=by
 intro z
 have e:s.1*(val r u*v.2.2-val r v*u.2.2)=r.1*(val s u*v.2.2-val s v*u.2.2)+turn s r*(u.2.1*v.2.2-v.2.1*u.2.2):=by simp only[val,turn];grind
 have e':s.2.1*(val r u*v.2.2-val r v*u.2.2)=r.2.1*(val s u*v.2.2-val s v*u.2.2)-turn s r*(u.1*v.2.2-v.1*u.2.2):=by simp only[val,turn];grind
 rw[z,su,sv] at e e'
 have k:val r u*v.2.2-val r v*u.2.2=0:=by
  rcases hs with c | c
  ·have e:s.1*(val r u*v.2.2-val r v*u.2.2)=0:=by rw[e];grind
   exact(xhO.mp e).resolve_left c
  ·have e':s.2.1*(val r u*v.2.2-val r v*u.2.2)=0:=by rw[e'];grind
   exact(xhO.mp e').resolve_left c
 rcases xhK (val r u) 0 with c | c | c
 ·have d:0<val r v:=by
   rcases xhJ 0 (val r v) with d | d
   ·exact d
   ·have:=nn (xhE c) d;omega
  have:=xhT c hv
  have:=pp d hu
  omega
 ·rw[c] at h;simp at h
 ·have d:val r v<0:=by
   rcases xhJ (val r v) 0 with d | d
   ·exact d
   ·have:=pz (xhE c) d;omega
  have:=xhT d hu
  have:=pp c hv
  omega
end Pol
namespace Pol
def seg (r:R3)(p:R3×R3):List R3:=(if val r p.1*val r p.2<0 then[xA r p.1 p.2] else[])++(if val r p.2≤0 then[p.2] else[])
def nO (r:R3)(l:List R3):List R3:=(cyc l).flatMap (seg r)
theorem bW (r:R3)(a b:List R3):∃c d,nO r (a++b)=c++d∧nO r (b++a)=d++c:=by
 obtain⟨c,d,e1,e2⟩:=xav a b
 exact⟨c.flatMap (seg r),d.flatMap (seg r),by unfold nO;rw[e1,xic],by unfold nO;rw[e2,xic]⟩
theorem fb {r:R3}:∀ {p:R3} {P:List R3},0<val r p→(∀v∈P,0<val r v)→(chain p P).flatMap (seg r)=[]
 | p,[],_,_=>rfl
 | p,x::P,hp,h=>by
  have hx:=h x xiL
  show seg r (p,x)++(chain x P).flatMap (seg r)=[]
  rw[fb hx fun v hv=>h v (xiK _ hv),xh7]
  unfold seg
  rw[if_neg (show ¬val r p*val r x<0 by have:=pp hp hx;omega),if_neg (show ¬val r x≤0 by omega)];rfl
theorem ft {r:R3}:∀ {p:R3} {Q:List R3},val r p≤0→(∀v∈Q,val r v≤0)→(chain p Q).flatMap (seg r)=Q
 | p,[],_,_=>rfl
 | p,x::Q,hp,h=>by
  have hx:=h x xiL
  show seg r (p,x)++(chain x Q).flatMap (seg r)=x::Q
  rw[ft hx fun v hv=>h v (xiK _ hv)]
  unfold seg
  rw[if_neg (show ¬val r p*val r x<0 by have:=nn hp hx;omega),if_pos (show val r (p,x).2≤0 from hx)];rfl
def bef (r p q:R3):List R3:=if val r q<0 then[xA r p q] else[]
theorem xeJ {r p q:R3}(hp:0<val r p)(hq:val r q≤0):seg r (p,q)=bef r p q++[q]:=by
 unfold seg bef
 rw[if_pos (show val r (p,q).2≤0 from hq)]
 by_cases c:val r q<0
 ·rw[if_pos c,if_pos (show val r (p,q).1*val r (p,q).2<0 from xhU hp c)]
 ·rw[if_neg c,if_neg (show ¬val r (p,q).1*val r (p,q).2<0 from by
   have e:val r q=0:=by omega
   show ¬val r p*val r q<0
   rw[e];simp)]
theorem xcT {r p q:R3}(hp:0<val r p)(hq:val r q≤0):seg r (q,p)=bef r p q:=by
 unfold seg bef
 rw[if_neg (show ¬val r (q,p).2≤0 from by show ¬val r p≤0;omega),xh7]
 by_cases c:val r q<0
 ·rw[if_pos c,if_pos (show val r (q,p).1*val r (q,p).2<0 from xhT c hp)]
  unfold xA;rw[xab]
 ·rw[if_neg c,if_neg (show ¬val r (q,p).1*val r (q,p).2<0 from by
   have e:val r q=0:=by omega
   show ¬val r q*val r p<0
   rw[e];simp)]
theorem sr {r p1 q1:R3}{P Q:List R3}(hP:∀v∈p1::P,0<val r v)(hQ:∀v∈q1::Q,val r v≤0) :
  nO r ((p1::P)++(q1::Q))=bef r p1 (xu q1 Q)++(bef r (xu p1 P) q1++q1::Q):=by
 unfold nO
 rw[jv,xic]
 have h1:=hP p1 xiL
 have h2:=hQ q1 xiL
 have h3:=hQ _ (yx q1 Q)
 have h4:=hP _ (yx p1 P)
 have e1:(chain (xu q1 Q) (p1::P)).flatMap (seg r)=bef r p1 (xu q1 Q):=by
  show seg r (xu q1 Q,p1)++(chain p1 P).flatMap (seg r)=_
  rw[fb h1 fun v hv=>hP v (xiK _ hv),xh7,xcT h1 h3]
 have e2:(chain (xu p1 P) (q1::Q)).flatMap (seg r)=bef r (xu p1 P) q1++q1::Q:=by
  show seg r (xu p1 P,q1)++(chain q1 Q).flatMap (seg r)=_
  rw[ft h2 fun v hv=>hQ v (xiK _ hv),xeJ h4 h2,xh6];rfl
 rw[e1,e2]
structure Good (Ls l:List R3):Prop where
 ccw:Ccw l
 bot:∀v∈l,0<v.2.2
 prim:∀v∈l,vi v=1
 kept:∀v∈l,∀s∈Ls,val s v≤0
 edge:∀u v,(u,v)∈cyc l→u≠v→∃s∈Ls,val s u=0∧val s v=0
 two:∀v∈l,∃s∈Ls,∃t∈Ls,val s v=0∧val t v=0∧turn s t≠0
 all:∀p:R3,0<p.2.2→(∀s∈Ls,val s p≤0)→InC l p
theorem Good.rot {Ls a b:List R3}(h:Good Ls (a++b)):Good Ls (b++a) where
 ccw:=h.ccw.rot
 bot:=fun v hv=>h.bot v (by simpa [or_comm] using hv)
 prim:=fun v hv=>h.prim v (by simpa [or_comm] using hv)
 kept:=fun v hv=>h.kept v (by simpa [or_comm] using hv)
 edge:=fun u v e=>h.edge u v (nF e)
 two:=fun v hv=>h.two v (by simpa [or_comm] using hv)
 all:=fun p h0 h1=>by
  obtain⟨m,hm,c⟩:=h.all p h0 h1
  exact⟨m,hm,c.mono fun v hv=>.mem (by simpa [or_comm] using hv)⟩
theorem xbW {a b:R3}:∀ {l:List R3},List.Sublist [a,b] l→3≤l.length→∃c,List.Sublist [c,a,b] l∨List.Sublist [a,c,b] l∨List.Sublist [a,b,c] l
 | [],_,h=>absurd h (by simp)
 | x::l,s,h=>by
  cases s with
  | cons _ s =>
   exact⟨x,.inl (s.cons_cons x)⟩
  | cons_cons _ s =>
   have hl:2≤l.length:=by simpa using h
   have hb:b∈l:=xi2.mp s
   obtain⟨s1,s2,e⟩:=List.append_of_mem hb
   cases s1 with
   | cons c s1 =>
    refine⟨c,.inr (.inl ?_)⟩
    rw[e]
    have:List.Sublist [c,b] (c::s1++b::s2):=(xi2.mpr xiL).append (xi2.mpr xiL)
    exact this.cons_cons a
   | nil =>
    cases s2 with
    | nil=>rw[e] at hl;simp at hl
    | cons c s2 =>
     refine⟨c,.inr (.inr ?_)⟩
     rw[e]
     simp
theorem j2 {l:List R3}(h:∀u v w:R3,List.Sublist [u,v,w] l→0<det u v w)(h3:3≤l.length):l.Nodup:=by
 refine List.pairwise_iff_forall_sublist.mpr fun {a b} s e=>?_
 subst e
 obtain⟨c,s | s | s⟩:=xbW s h3
 ·have:=h _ _ _ s;rw[vK] at this;omega
 ·have:=h _ _ _ s;rw[qf] at this;omega
 ·have:=h _ _ _ s;rw[qm] at this;omega
end Pol
namespace Pol
theorem mH {p:R3}{P:List R3}(h:P≠[]):List.Sublist [p,xu p P] (p::P):=by
 cases P with
 | nil=>exact absurd rfl h
 | cons y ys=>exact(xi2.mpr (show xu p (y::ys)∈y::ys from yx y ys)).cons_cons p
structure Bw (u v x:R3)(a b g:Int):Prop where
 pa:0≤a
 pb:0<b
 pg:0<g
 e:mul g x=add (mul a u) (mul b v)
theorem Bt.w {u v x:R3}{a b g:Int}(h:Bt u v x a b g):Bw u v x a b g:=⟨xhE h.pa,h.pb,h.pg,h.e⟩
theorem Bw.self (u v:R3):Bw u v v 0 1 1:=⟨by omega,by omega,by omega,by apply ext3<;>simp[mul,add]⟩
theorem Bw.det {u v x:R3}{a b g:Int}(h:Bw u v x a b g)(p q:R3):g*Pol.det p q x=a*Pol.det p q u+b*Pol.det p q v:=by
 have:=xjq (Pol.det p q) h.e
 rwa [vF,rF,vF,vF] at this
section
variable {Ls P Q:List R3} {r p1 q1:R3}
structure xci (Ls:List R3)(r p1 q1:R3)(P Q:List R3):Prop where
 good:Good Ls ((p1::P)++(q1::Q))
 hP:∀v∈p1::P,0<val r v
 hQ:∀v∈q1::Q,val r v≤0
 three:P≠[]∨Q≠[]
 dir:∀s∈Ls,s.1≠0∨s.2.1≠0
namespace xci
variable (S:xci Ls r p1 q1 P Q)
include S
theorem q1le:val r q1≤0:=S.hQ q1 xiL
theorem qmle:val r (xu q1 Q)≤0:=S.hQ _ (yx q1 Q)
theorem p1gt:0<val r p1:=S.hP p1 xiL
theorem pkgt:0<val r (xu p1 P):=S.hP _ (yx p1 P)
theorem botQ {v:R3}(h:v∈q1::Q):0<v.2.2:=S.good.bot v (xiI _ h)
theorem botP {v:R3}(h:v∈p1::P):0<v.2.2:=S.good.bot v (xiH _ h)
theorem pqq {p x y:R3}(hp:p∈p1::P)(s:List.Sublist [x,y] (q1::Q)):0<det p x y:=S.good.ccw.tri p x y ((xi2.mpr hp).append s)
theorem ppq {p p' x:R3}(hp:List.Sublist [p,p'] (p1::P))(hx:x∈q1::Q):0<det p p' x:=S.good.ccw.tri p p' x (hp.append (xi2.mpr hx))
theorem qqq {x y z:R3}(s:List.Sublist [x,y,z] (q1::Q)):0<det x y z:=S.good.ccw.tri x y z (s.trans (xi5 _ _))
theorem q1xy {x y:R3}(s:List.Sublist [x,y] (q1::Q)):0≤det q1 x y:=by
 cases s with
 | cons _ s=>exact xhE (S.qqq (s.cons_cons q1))
 | cons_cons _ s=>rw[qm];exact xhH _
theorem xyqm {x y:R3}(s:List.Sublist [x,y] (q1::Q)):0≤det x y (xu q1 Q):=by
 obtain⟨ys,e⟩:=gR q1 Q
 have s':=s
 rw[e] at s'
 obtain⟨l1,l2,e2,s1,s2⟩:=xi4.mp s'
 cases l2 with
 | nil =>
  rw[xh7] at e2
  subst e2
  have:=S.qqq (x:=x) (y:=y) (z:=xu q1 Q) (by rw[e];exact s1.append (xh2 [xu q1 Q]))
  omega
 | cons b l2 =>
  have hb:b=xu q1 Q∧l2=[]:=by
   cases s2 with
   | cons _ s2=>cases s2
   | cons_cons _ s2=>cases s2;exact⟨rfl,rfl⟩
  obtain⟨hb,rfl⟩:=hb
  have:y=b:=by
   cases l1 with
   | nil=>cases e2
   | cons c l1 =>
    cases l1 with
    | nil=>injection e2 with _ e2;injection e2
    | cons d l1 =>
     injection e2 with _ e2
     injection e2 with _ e2
     simp at e2
  rw[this,hb,vK];exact xhH _
theorem nd:((p1::P)++(q1::Q)).Nodup:=S.good.ccw.nd
theorem p1pkx {x:R3}(hx:x∈q1::Q):0≤det p1 (xu p1 P) x∧(P≠[]→0<det p1 (xu p1 P) x):=by
 by_cases h:P=[]
 ·subst h
  exact⟨by show 0≤det p1 p1 x;rw[qm];exact xhH _,fun z=>absurd rfl z⟩
 ·have:=S.ppq (mH h) hx
  exact⟨by omega,fun _=>this⟩
theorem pq1x {p x:R3}(hp:p∈p1::P)(hx:x∈q1::Q):0≤det p q1 x∧(x≠q1→0<det p q1 x):=by
 rcases xiJ.mp hx with rfl | hx
 ·exact⟨by rw[vK];exact xhH _,fun z=>absurd rfl z⟩
 ·have:=S.pqq hp ((xi2.mpr hx).cons_cons q1)
  exact⟨by omega,fun _=>this⟩
theorem pxqm {p x:R3}(hp:p∈p1::P)(hx:x∈q1::Q):0≤det p x (xu q1 Q)∧(x≠xu q1 Q→0<det p x (xu q1 Q)):=by
 obtain⟨ys,e⟩:=gR q1 Q
 rw[e] at hx
 rcases xiG.mp hx with hx | hx
 ·have:=S.pqq (x:=x) (y:=xu q1 Q) hp (by rw[e];exact(xi2.mpr hx).append (xh2 [xu q1 Q]))
  exact⟨by omega,fun _=>this⟩
 ·have:x=xu q1 Q:=by simpa using hx
  rw[this]
  exact⟨by rw[vK];exact xhH _,fun z=>absurd rfl z⟩
theorem q1xqm {x:R3}(hx:x∈q1::Q):0≤det q1 x (xu q1 Q):=by
 rcases xiJ.mp hx with rfl | hx
 ·rw[qm];exact xhH _
 ·exact S.xyqm ((xi2.mpr hx).cons_cons q1)
theorem q1ne (h:Q≠[]):q1≠xu q1 Q:=by
 have s:=mH (p:=q1) h
 have nd:=(xiX.mp S.nd).2.1
 exact List.pairwise_iff_forall_sublist.mp nd s
def w1 (r p1 q1:R3)(P:List R3):R3:=if val r q1<0 then xA r (xu p1 P) q1 else q1
def u1 (r p1 q1:R3)(Q:List R3):R3:=if val r (xu q1 Q)<0 then xA r p1 (xu q1 Q) else xu q1 Q
theorem X1 (h:val r q1<0):Bt (xu p1 P) q1 (xA r (xu p1 P) q1) (abs (val r q1)) (abs (val r (xu p1 P))) (vi (cw r (xu p1 P) q1))∧val r (xA r (xu p1 P) q1)=0∧0<(xA r (xu p1 P) q1).2.2∧vi (xA r (xu p1 P) q1)=1 :=
 qP (S.botP (yx p1 P)) (S.botQ xiL) (xhU S.pkgt h)
theorem X2 (h:val r (xu q1 Q)<0):Bt p1 (xu q1 Q) (xA r p1 (xu q1 Q)) (abs (val r (xu q1 Q))) (abs (val r p1)) (vi (cw r p1 (xu q1 Q)))∧val r (xA r p1 (xu q1 Q))=0∧0<(xA r p1 (xu q1 Q)).2.2∧vi (xA r p1 (xu q1 Q))=1 :=
 qP (S.botP xiL) (S.botQ (yx q1 Q)) (xhU S.p1gt h)
theorem w1b:∃a b g,Bw (xu p1 P) q1 (w1 r p1 q1 P) a b g∧(val r q1<0→0<a)∧val r (w1 r p1 q1 P)=0:=by
 unfold w1
 by_cases h:val r q1<0
 ·rw[if_pos h]
  obtain⟨b,z,_⟩:=S.X1 h
  exact⟨_,_,_,b.w,fun _=>b.pa,z⟩
 ·rw[if_neg h]
  exact⟨_,_,_,Bw.self _ _,fun z=>absurd z h,by have:=S.q1le;omega⟩
theorem u1b:∃a b g,Bw p1 (xu q1 Q) (u1 r p1 q1 Q) a b g∧(val r (xu q1 Q)<0→0<a)∧val r (u1 r p1 q1 Q)=0:=by
 unfold u1
 by_cases h:val r (xu q1 Q)<0
 ·rw[if_pos h]
  obtain⟨b,z,_⟩:=S.X2 h
  exact⟨_,_,_,b.w,fun _=>b.pa,z⟩
 ·rw[if_neg h]
  exact⟨_,_,_,Bw.self _ _,fun z=>absurd z h,by have:=S.qmle;omega⟩
theorem close {p:R3}(hc:val r q1<0∨Q≠[])(hp:val r p≤0):0≤det (u1 r p1 q1 Q) (w1 r p1 q1 P) p:=by
 obtain⟨a,b,g,bw,ha,hw⟩:=S.w1b
 obtain⟨c,d,g',bu,hcc,hu⟩:=S.u1b
 have e1:=bu.det p1 (w1 r p1 q1 P)
 rw[qf,xhY,Int.zero_add] at e1
 have e2:=bw.det (xu q1 Q) p1
 have d1:det (xu q1 Q) p1 (xu p1 P)=det p1 (xu p1 P) (xu q1 Q):=wy _ _ _
 have d2:det (xu q1 Q) p1 q1=det p1 q1 (xu q1 Q):=wy _ _ _
 rw[d1,d2] at e2
 obtain⟨f1,f2⟩:=S.p1pkx (yx q1 Q)
 obtain⟨f3,f4⟩:=S.pq1x (p:=p1) xiL (yx q1 Q)
 have k1:0<det (xu q1 Q) p1 (w1 r p1 q1 P):=by
  refine we bw.pg ?_
  rw[e2]
  have n1:=pz bw.pa f1
  have n2:=pz (xhE bw.pb) f3
  by_cases hq:Q=[]
  ·have hp':P≠[]:=S.three.resolve_right (fun z=>z hq)
   have h0:val r q1<0:=hc.resolve_right (fun z=>z hq)
   have:=pp (ha h0) (f2 hp')
   omega
  ·have:=pp bw.pb (f4 (Ne.symm (S.q1ne hq)))
   omega
 have d3:det p1 (w1 r p1 q1 P) (xu q1 Q)=det (xu q1 Q) p1 (w1 r p1 q1 P):=uX _ _ _
 rw[d3] at e1
 have k2:0<det p1 (w1 r p1 q1 P) (u1 r p1 q1 Q):=by
  refine we bu.pg ?_
  rw[e1];exact pp bu.pb k1
 have e3:=xbJ r (u1 r p1 q1 Q) (w1 r p1 q1 P) p1 p hu hw
 have d4:det (u1 r p1 q1 Q) (w1 r p1 q1 P) p1 = - det p1 (w1 r p1 q1 P) (u1 r p1 q1 Q):=by
  rw[uX,cA]
 rw[d4] at e3
 refine zw S.p1gt ?_
 rw[←e3]
 exact nn hp (by omega)
def left (r p1 q1:R3)(P Q:List R3):List R3:=bef r (xu p1 P) q1++(q1::Q)++bef r p1 (xu q1 Q)
theorem mem_left {v:R3}(h:v∈left r p1 q1 P Q):(v∈q1::Q)∨(val r q1<0∧v=xA r (xu p1 P) q1)∨(val r (xu q1 Q)<0∧v=xA r p1 (xu q1 Q)):=by
 unfold left bef at h
 rcases xiG.mp h with h | h
 ·rcases xiG.mp h with h | h
  ·split at h
   ·exact .inr (.inl ⟨by assumption,by simpa using h⟩)
   ·simp at h
  ·exact .inl h
 ·split at h
  ·exact .inr (.inr ⟨by assumption,by simpa using h⟩)
  ·simp at h
theorem sub_bef {p q:R3}{l:List R3}(h:List.Sublist l (bef r p q)):l=[]∨(val r q<0∧l=[xA r p q]):=by
 unfold bef at h
 split at h
 ·cases h with
  | cons _ h=>cases h;exact .inl rfl
  | cons_cons _ h=>cases h;exact .inr ⟨by assumption,rfl⟩
 ·cases h;exact .inl rfl
theorem tri {u v w:R3}(s:List.Sublist [u,v,w] (left r p1 q1 P Q)):0<det u v w:=by
 unfold left at s
 rw[xh6] at s
 obtain⟨l1,l2,e,s1,s2⟩:=xi4.mp s
 obtain⟨l3,l4,e2,s3,s4⟩:=xi4.mp s2
 have b1:=S.sub_bef s1
 have b4:=S.sub_bef s4
 subst e2
 rcases b1 with rfl | ⟨h1,rfl⟩
 ·rcases b4 with rfl | ⟨h4,rfl⟩
  ·have:[u,v,w]=l3:=by simpa using e
   subst this
   exact S.qqq s3
  ·-- q q X2
   obtain⟨bt,_⟩:=S.X2 h4
   have:l3=[u,v]∧w=xA r p1 (xu q1 Q):=by
    rcases xck (show[u,v,w]=l3++[xA r p1 (xu q1 Q)] from e) with ⟨_,z⟩ | ⟨_,z⟩ | ⟨z1,z⟩ | ⟨_,z⟩
    ·cases z
    ·cases z
    ·cases z;exact⟨z1,rfl⟩
    ·cases z
   obtain⟨rfl,rfl⟩:=this
   have e3:=bt.det u v
   have k1:0<det u v p1:=by rw[uX];exact S.pqq xiL s3
   have k2:=S.xyqm s3
   have:=pp bt.pa k1
   have:=pz (xhE bt.pb) k2
   exact we bt.pg (by omega)
 ·obtain⟨bt,_⟩:=S.X1 h1
  rcases b4 with rfl | ⟨h4,rfl⟩
  ·have:u=xA r (xu p1 P) q1∧l3=[v,w]:=by
    injection e with e1 e2
    exact⟨e1,by simpa using e2.symm⟩
   obtain⟨rfl,rfl⟩:=this
   have e3:=bt.det v w
   have k1:0<det v w (xu p1 P):=by rw[uX];exact S.pqq (yx p1 P) s3
   have k2:0≤det v w q1:=by rw[uX];exact S.q1xy s3
   have:=pp bt.pa k1
   have:=pz (xhE bt.pb) k2
   rw[wy]
   exact we bt.pg (by omega)
  ·obtain⟨bu,_⟩:=S.X2 h4
   have:u=xA r (xu p1 P) q1∧l3=[v]∧w=xA r p1 (xu q1 Q):=by
    injection e with e1 e
    have e:[v,w]=l3++[xA r p1 (xu q1 Q)]:=e
    cases l3 with
    | nil=>cases e
    | cons a l3 =>
     injection e with e2 e
     cases l3 with
     | nil=>injection e with e3 _;exact⟨e1,by rw[e2],e3⟩
     | cons b l3=>injection e with _ e;simp at e
   obtain⟨rfl,rfl,rfl⟩:=this
   have hv:v∈q1::Q:=xi2.mp s3
   have e3:=bu.det (xA r (xu p1 P) q1) v
   have e4:=bt.det v p1
   have e5:=bt.det v (xu q1 Q)
   have r1:det v p1 (xu p1 P)=det p1 (xu p1 P) v:=wy _ _ _
   have r2:det v p1 q1=det p1 q1 v:=wy _ _ _
   have r3:det v (xu q1 Q) (xu p1 P)=det (xu p1 P) v (xu q1 Q):=uX _ _ _
   have r4:det v (xu q1 Q) q1=det q1 v (xu q1 Q):=uX _ _ _
   rw[r1,r2] at e4
   rw[r3,r4] at e5
   obtain⟨f1,f2⟩:=S.p1pkx hv
   obtain⟨f3,f4⟩:=S.pq1x (p:=p1) xiL hv
   obtain⟨f5,f6⟩:=S.pxqm (p:=xu p1 P) (yx p1 P) hv
   have f7:=S.q1xqm hv
   have n1:=pz (xhE bt.pa) f1
   have n2:=pz (xhE bt.pb) f3
   have n3:=pz (xhE bt.pa) f5
   have n4:=pz (xhE bt.pb) f7
   have g1:0≤det v p1 (xA r (xu p1 P) q1):=zw bt.pg (by omega)
   have g2:0≤det v (xu q1 Q) (xA r (xu p1 P) q1):=zw bt.pg (by omega)
   have some:0<det v p1 (xA r (xu p1 P) q1)∨0<det v (xu q1 Q) (xA r (xu p1 P) q1):=by
    by_cases hq:Q=[]
    ·have hp':P≠[]:=S.three.resolve_right (fun z=>z hq)
     left
     have:=pp bt.pa (f2 hp')
     exact we bt.pg (by omega)
    ·by_cases hv1:v=q1
     ·right
      have:=pp bt.pa (f6 (by rw[hv1];exact S.q1ne hq))
      exact we bt.pg (by omega)
     ·left
      have:=pp bt.pb (f4 hv1)
      exact we bt.pg (by omega)
   have m1:det (xA r (xu p1 P) q1) v p1=det v p1 (xA r (xu p1 P) q1):=wy _ _ _
   have m2:det (xA r (xu p1 P) q1) v (xu q1 Q)=det v (xu q1 Q) (xA r (xu p1 P) q1):=wy _ _ _
   rw[m1,m2] at e3
   refine we bu.pg ?_
   rw[e3]
   have t1:=pz (xhE bu.pa) g1
   have t2:=pz (xhE bu.pb) g2
   rcases some with z | z
   ·have:=pp bu.pa z;omega
   ·have:=pp bu.pb z;omega
end xci
end
end Pol
namespace Pol
section
variable {Ls P Q:List R3} {r p1 q1:R3}
namespace xci
variable (S:xci Ls r p1 q1 P Q)
include S
theorem pairs {u v:R3}(h:(u,v)∈cyc (left r p1 q1 P Q)):(u=u1 r p1 q1 Q∧v=w1 r p1 q1 P)∨(val r q1<0∧u=xA r (xu p1 P) q1∧v=q1)∨(val r (xu q1 Q)<0∧u=xu q1 Q∧v=xA r p1 (xu q1 Q))∨(u,v)∈chain q1 Q:=by
 unfold left bef at h
 unfold u1 w1
 by_cases h1:val r q1<0
 ·by_cases h2:val r (xu q1 Q)<0
  ·simp only[if_pos h1,if_pos h2,xh8,xiW] at h ⊢
   have e:cyc (xA r (xu p1 P) q1::q1::(Q++[xA r p1 (xu q1 Q)]))=(xA r p1 (xu q1 Q),xA r (xu p1 P) q1)::(xA r (xu p1 P) q1,q1)::(chain q1 Q++[(xu q1 Q,xA r p1 (xu q1 Q))]):=by
    show(xu q1 (Q++[_]),_)::(_,q1)::chain q1 (Q++[_])=_
    rw[d_,kT];rfl
   rw[e] at h
   rcases xiJ.mp h with h | h
   ·injection h with a b;exact .inl ⟨a,b⟩
   ·rcases xiJ.mp h with h | h
    ·injection h with a b;exact .inr (.inl ⟨h1,a,b⟩)
    ·rcases xiG.mp h with h | h
     ·exact .inr (.inr (.inr h))
     ·have h:=xiV.mp h
      injection h with a b;exact .inr (.inr (.inl ⟨h2,a,b⟩))
  ·simp only[if_pos h1,if_neg h2,xh8,xiW,xh7] at h ⊢
   have e:cyc (xA r (xu p1 P) q1::q1::Q)=(xu q1 Q,xA r (xu p1 P) q1)::(xA r (xu p1 P) q1,q1)::chain q1 Q:=rfl
   rw[e] at h
   rcases xiJ.mp h with h | h
   ·injection h with a b;exact .inl ⟨a,b⟩
   ·rcases xiJ.mp h with h | h
    ·injection h with a b;exact .inr (.inl ⟨h1,a,b⟩)
    ·exact .inr (.inr (.inr h))
 ·by_cases h2:val r (xu q1 Q)<0
  ·simp only[if_neg h1,if_pos h2,xh8,xiW] at h ⊢
   have e:cyc (q1::(Q++[xA r p1 (xu q1 Q)]))=(xA r p1 (xu q1 Q),q1)::(chain q1 Q++[(xu q1 Q,xA r p1 (xu q1 Q))]):=by
    show(xu q1 (Q++[_]),_)::chain q1 (Q++[_])=_
    rw[d_,kT];rfl
   rw[e] at h
   rcases xiJ.mp h with h | h
   ·injection h with a b;exact .inl ⟨a,b⟩
   ·rcases xiG.mp h with h | h
    ·exact .inr (.inr (.inr h))
    ·have h:=xiV.mp h
     injection h with a b;exact .inr (.inr (.inl ⟨h2,a,b⟩))
  ·simp only[if_neg h1,if_neg h2,xh8,xiW,xh7] at h ⊢
   have e:cyc (q1::Q)=(xu q1 Q,q1)::chain q1 Q:=rfl
   rw[e] at h
   rcases xiJ.mp h with h | h
   ·injection h with a b;exact .inl ⟨a,b⟩
   ·exact .inr (.inr (.inr h))
theorem old1:(xu p1 P,q1)∈cyc ((p1::P)++(q1::Q)):=by
 rw[jv];exact xiI _ xiL
theorem old2:(xu q1 Q,p1)∈cyc ((p1::P)++(q1::Q)):=by
 rw[jv];exact xiH _ xiL
theorem old3 {u v:R3}(h:(u,v)∈chain q1 Q):(u,v)∈cyc ((p1::P)++(q1::Q)):=by
 rw[jv];exact xiI _ (xiK _ h)
theorem pk_ne:xu p1 P≠q1:=fun e=>by have:=S.pkgt;have:=S.q1le;rw[e] at *;omega
theorem p1_ne:xu q1 Q≠p1:=fun e=>by have:=S.p1gt;have:=S.qmle;rw[e] at *;omega
theorem len_left:(val r q1<0∨val r (xu q1 Q)<0∨2≤Q.length)→3≤(left r p1 q1 P Q).length:=by
 intro h
 unfold left bef
 by_cases hq:Q=[]
 ·subst hq
  have h':val r q1<0:=by
   rcases h with h | h | h
   ·exact h
   ·exact h
   ·simp at h
  rw[if_pos h',if_pos (show val r (xu q1 [])<0 from h')];simp
 ·have l1:1≤Q.length:=by
   cases Q with
   | nil=>exact absurd rfl hq
   | cons _ _=>simp
  rcases h with h | h | h
  ·rw[if_pos h];simp;omega
  ·rw[if_pos h];simp;omega
  ·simp;omega
theorem small (h:¬(val r q1<0∨val r (xu q1 Q)<0∨2≤Q.length)):left r p1 q1 P Q=q1::Q∧∀v∈q1::Q,val r v=0:=by
 have h1:¬val r q1<0:=fun z=>h (.inl z)
 have h2:¬val r (xu q1 Q)<0:=fun z=>h (.inr (.inl z))
 have h3:¬2≤Q.length:=fun z=>h (.inr (.inr z))
 refine⟨by unfold left bef;rw[if_neg h1,if_neg h2];simp,fun v hv=>?_⟩
 have a:=S.q1le
 have b:=S.qmle
 rcases xiJ.mp hv with rfl | hv
 ·omega
 ·match Q,hv,h3,b,h2 with
  | [x],hv,_,b,h2 =>
   have:v=x:=by simpa using hv
   subst this
   have b:val r v≤0:=b
   have h2:¬val r v<0:=h2
   omega
  | _::_::_,_,h3,_,_=>exact absurd (by simp) h3
theorem good_left:Good (Ls++[r]) (left r p1 q1 P Q):=by
 have keptOld:∀s∈Ls,∀v∈(p1::P)++(q1::Q),val s v≤0:=fun s hs v hv=>S.good.kept v hv s hs
 have mP:∀ {v},v∈p1::P→v∈(p1::P)++(q1::Q):=fun h=>xiH _ h
 have mQ:∀ {v},v∈q1::Q→v∈(p1::P)++(q1::Q):=fun h=>xiI _ h
 refine⟨⟨fun u v w s=>S.tri s,?_⟩,fun v hv=>?_,fun v hv=>?_,fun v hv s hs=>?_,fun u v he hne=>?_,fun v hv=>?_,fun p h0 hp=>?_⟩
 ·by_cases c:val r q1<0∨val r (xu q1 Q)<0∨2≤Q.length
  ·exact j2 (fun u v w s=>S.tri s) (S.len_left c)
  ·rw[(S.small c).1];exact(xiX.mp S.nd).2.1
 ·rcases S.mem_left hv with hv | ⟨h,rfl⟩ | ⟨h,rfl⟩
  ·exact S.botQ hv
  ·exact(S.X1 h).2.2.1
  ·exact(S.X2 h).2.2.1
 ·rcases S.mem_left hv with hv | ⟨h,rfl⟩ | ⟨h,rfl⟩
  ·exact S.good.prim v (mQ hv)
  ·exact(S.X1 h).2.2.2
  ·exact(S.X2 h).2.2.2
 ·rcases xiG.mp hs with hs | hs
  ·rcases S.mem_left hv with hv | ⟨h,rfl⟩ | ⟨h,rfl⟩
   ·exact keptOld s hs v (mQ hv)
   ·exact(S.X1 h).1.kept (keptOld s hs _ (mP (yx p1 P))) (keptOld s hs _ (mQ xiL))
   ·exact(S.X2 h).1.kept (keptOld s hs _ (mP xiL)) (keptOld s hs _ (mQ (yx q1 Q)))
  ·have:s=r:=by simpa using hs
   subst this
   rcases S.mem_left hv with hv | ⟨h,rfl⟩ | ⟨h,rfl⟩
   ·exact S.hQ v hv
   ·rw[(S.X1 h).2.1];exact xhH _
   ·rw[(S.X2 h).2.1];exact xhH _
 ·rcases S.pairs he with ⟨rfl,rfl⟩ | ⟨h,rfl,rfl⟩ | ⟨h,rfl,rfl⟩ | h
  ·obtain⟨_,_,_,_,_,e1⟩:=S.w1b
   obtain⟨_,_,_,_,_,e2⟩:=S.u1b
   exact⟨r,by simp,e2,e1⟩
  ·obtain⟨s,hs,a,b⟩:=S.good.edge _ _ S.old1 S.pk_ne
   exact⟨s,xiH _ hs,(S.X1 h).1.tight a b,b⟩
  ·obtain⟨s,hs,a,b⟩:=S.good.edge _ _ S.old2 S.p1_ne
   exact⟨s,xiH _ hs,a,(S.X2 h).1.tight b a⟩
  ·obtain⟨s,hs,a,b⟩:=S.good.edge _ _ (S.old3 h) hne
   exact⟨s,xiH _ hs,a,b⟩
 ·rcases S.mem_left hv with hv | ⟨h,rfl⟩ | ⟨h,rfl⟩
  ·obtain⟨s,hs,t,ht,a,b,c⟩:=S.good.two v (mQ hv)
   exact⟨s,xiH _ hs,t,xiH _ ht,a,b,c⟩
  ·obtain⟨s,hs,a,b⟩:=S.good.edge _ _ S.old1 S.pk_ne
   exact⟨s,xiH _ hs,r,by simp,(S.X1 h).1.tight a b,(S.X1 h).2.1,unlike (S.dir s hs) (S.botP (yx p1 P)) (S.botQ xiL) a b (xhU S.pkgt h)⟩
  ·obtain⟨s,hs,a,b⟩:=S.good.edge _ _ S.old2 S.p1_ne
   exact⟨s,xiH _ hs,r,by simp,(S.X2 h).1.tight b a,(S.X2 h).2.1,unlike (S.dir s hs) (S.botP xiL) (S.botQ (yx q1 Q)) b a (xhU S.p1gt h)⟩
 ·have hpL:∀s∈Ls,val s p≤0:=fun s hs=>hp s (xiH _ hs)
  have hpr:val r p≤0:=hp r (by simp)
  obtain⟨m,hm,cn⟩:=S.good.all p h0 hpL
  by_cases c:val r q1<0∨val r (xu q1 Q)<0∨2≤Q.length
  ·have he:∀u v,(u,v)∈cyc ((p1::P)++(q1::Q))→0≤det u v p:=fun u v h=>by
    have:=cn.det u v fun w hw=>S.good.ccw.edge h hw
    rw[vF] at this
    exact zw hm this
   refine Ccw.incone ⟨fun u v w s=>S.tri s,j2 (fun u v w s=>S.tri s) (S.len_left c)⟩ (S.len_left c) fun u v hm'=>?_
   rcases S.pairs hm' with ⟨e1,e2⟩ | ⟨h,e1,e2⟩ | ⟨h,e1,e2⟩ | h
   ·rw[e1,e2]
    refine S.close ?_ hpr
    rcases c with c | c | c
    ·exact .inl c
    ·by_cases hq:Q=[]
     ·subst hq;exact .inl c
     ·exact .inr hq
    ·right;intro z;subst z;simp at c
   ·rw[e1,e2]
    have bt:=(S.X1 h).1
    have e:=bt.det q1 p
    have r1:det q1 p (xu p1 P)=det (xu p1 P) q1 p:=uX _ _ _
    rw[r1,qf,xhY,xhu] at e
    have k:=pz (xhE bt.pa) (he _ _ S.old1)
    rw[wy]
    exact zw bt.pg (by omega)
   ·rw[e1,e2]
    have bt:=(S.X2 h).1
    have e:=bt.det p (xu q1 Q)
    have r1:det p (xu q1 Q) p1=det (xu q1 Q) p1 p:=wy _ _ _
    rw[r1,vK,xhY,xhu] at e
    have k:=pz (xhE bt.pa) (he _ _ S.old2)
    rw[uX]
    exact zw bt.pg (by omega)
   ·exact he u v (S.old3 h)
  ·obtain⟨e,z⟩:=S.small c
   refine⟨m,hm,?_⟩
   have ge:∀v∈(p1::P)++(q1::Q),0≤val r v:=fun v hv=>by
    rcases xiG.mp hv with hv | hv
    ·have:=S.hP v hv;omega
    ·have:=z v hv;omega
   have:=cn.zeros r ge (by rw[val_mul];exact pn (xhE hm) hpr)
   rw[e]
   refine this.mono fun v hv=>?_
   obtain⟨hv,hv0⟩:=xiM.mp hv
   have hv0:val r v=0:=by simpa using hv0
   rcases xiG.mp hv with hv | hv
   ·have:=S.hP v hv;omega
   ·exact .mem hv
end xci
end
end Pol
namespace Pol
def yn (r:R3)(left:List R3)(p:R3×R3):List R3 :=
 let l1:=if val r p.1*val r p.2<0 then(if xA r p.1 p.2∈left then left else left++[xA r p.1 p.2]) else left
 if val r p.2≤0 then l1++[p.2] else l1
def yP (l:List R3)(r:R3):List R3:=(cyc l).foldl (yn r) []
theorem xbT {r:R3}{acc:List R3}{p:R3×R3}(h:(acc++seg r p).Nodup):yn r acc p=acc++seg r p:=by
 unfold yn seg at *
 by_cases c:val r p.1*val r p.2<0
 ·rw[if_pos c] at h ⊢
  have hn:xA r p.1 p.2∉acc:=fun z=>by
   have:=(xiX.mp h).2.2 _ z _ (xiH _ (xiV.mpr rfl))
   exact this rfl
  simp only[if_neg hn]
  split<;>simp
 ·rw[if_neg c] at h ⊢
  simp only
  split<;>simp
theorem cS {r:R3}:∀ {ps:List (R3×R3)} {acc:List R3},(acc++ps.flatMap (seg r)).Nodup→ps.foldl (yn r) acc=acc++ps.flatMap (seg r)
 | [],acc,_=>by simp
 | p::ps,acc,h=>by
  have h':(acc++(seg r p++ps.flatMap (seg r))).Nodup:=h
  rw[←xh6] at h'
  rw[xif,xbT (xiX.mp h').1,cS h',xh6];rfl
theorem mo {r:R3}{l:List R3}(h:(nO r l).Nodup):yP l r=nO r l:=by
 unfold yP
 rw[cS (by simpa [nO] using h)];rfl
theorem qi {r:R3}{l:List R3}(h:∀v∈l,val r v≤0):nO r l=l:=by
 cases l with
 | nil=>rfl
 | cons x xs=>exact ft (h _ (yx x xs)) h
theorem qG {r:R3}{l:List R3}(h:∀v∈l,0<val r v):nO r l=[]:=by
 cases l with
 | nil=>rfl
 | cons x xs=>exact fb (h _ (yx x xs)) h
theorem jn {Ls l:List R3}{r:R3}(g:Good Ls l)(h:∀v∈l,val r v≤0):Good (Ls++[r]) l where
 ccw:=g.ccw
 bot:=g.bot
 prim:=g.prim
 kept:=fun v hv s hs=>by
  rcases xiG.mp hs with hs | hs
  ·exact g.kept v hv s hs
  ·have:s=r:=by simpa using hs
   subst this
   exact h v hv
 edge:=fun u v he hn=>by
  obtain⟨s,hs,a⟩:=g.edge u v he hn
  exact⟨s,xiH _ hs,a⟩
 two:=fun v hv=>by
  obtain⟨s,hs,t,ht,a⟩:=g.two v hv
  exact⟨s,xiH _ hs,t,xiH _ ht,a⟩
 all:=fun p h0 hp=>g.all p h0 fun s hs=>hp s (xiH _ hs)
theorem vm {Ls l l':List R3}{r:R3}(g:Good Ls l)(h:∀v∈l,0≤val r v)(hs:List.Sublist l' l)(hl:l'.length≤1)(h0:∀v∈l',val r v=0)(h1:∀v∈l,val r v=0→v∈l'):Good (Ls++[r]) l' where
 ccw:=⟨fun u v w s=>by
  have:=s.length_le
  simp at this
  omega,g.ccw.nd.sublist hs⟩
 bot:=fun v hv=>g.bot v (hs.subset hv)
 prim:=fun v hv=>g.prim v (hs.subset hv)
 kept:=fun v hv s hs'=>by
  rcases xiG.mp hs' with h' | h'
  ·exact g.kept v (hs.subset hv) s h'
  ·have:s=r:=by simpa using h'
   subst this
   rw[h0 v hv];exact xhH _
 edge:=fun u v he hn=>by
  exfalso
  match l',hl,he with
  | [x],_,he =>
   have:(u,v)=(x,x):=by simpa [cyc,chain,xu] using he
   injection this with a b
   exact hn (by rw[a,b])
  | [],_,he=>simp[cyc] at he
  | _::_::_,hl,_=>simp at hl
 two:=fun v hv=>by
  obtain⟨s,hs',t,ht,a⟩:=g.two v (hs.subset hv)
  exact⟨s,xiH _ hs',t,xiH _ ht,a⟩
 all:=fun p hz hp=>by
  obtain⟨m,hm,c⟩:=g.all p hz fun s hs=>hp s (xiH _ hs)
  refine⟨m,hm,(c.zeros r h ?_).mono fun v hv=>?_⟩
  ·rw[val_mul];exact pn (xhE hm) (hp r (by simp))
  ·obtain⟨a,b⟩:=xiM.mp hv
   exact .mem (h1 v a (by simpa using b))
theorem hV {Ls:List R3}{r u v x:R3}(g:Good Ls [u,v])(dir:∀s∈Ls,s.1≠0∨s.2.1≠0)(hu:0<val r u)(hv:val r v<0)(hx:x=xA r u v):Good (Ls++[r]) [x,v]:=by
 subst hx
 have bu:=g.bot u (by simp)
 have bv:=g.bot v (by simp)
 obtain⟨bt,x0,xb,xp⟩:=qP (r:=r) bu bv (xhU hu hv)
 have ne:u≠v:=fun e=>by rw[e] at hu;omega
 obtain⟨s,hs,su,sv⟩:=g.edge u v (by simp[cyc,chain,xu]) ne
 have nx:xA r u v≠v:=fun e=>by rw[e] at x0;omega
 have sx:=bt.tight su sv
 refine⟨⟨fun a b c h=>by have:=h.length_le;simp at this,by simp[nx]⟩,fun w hw=>?_,fun w hw=>?_,fun w hw t ht=>?_,fun a b he hn=>?_,fun w hw=>?_,fun p hz hp=>?_⟩
 ·simp only[xiJ,xiZ,xjw] at hw
  rcases hw with rfl | rfl
  ·exact xb
  ·exact bv
 ·simp only[xiJ,xiZ,xjw] at hw
  rcases hw with rfl | rfl
  ·exact xp
  ·exact g.prim w (by simp)
 ·simp only[xiJ,xiZ,xjw] at hw
  rcases xiG.mp ht with ht | ht
  ·rcases hw with rfl | rfl
   ·exact bt.kept (g.kept u (by simp) t ht) (g.kept v (by simp) t ht)
   ·exact g.kept w (by simp) t ht
  ·have:t=r:=by simpa using ht
   subst this
   rcases hw with rfl | rfl
   ·rw[x0];exact xhH _
   ·exact xhE hv
 ·have he:(a,b)=(v,xA r u v)∨(a,b)=(xA r u v,v):=by simpa [cyc,chain,xu] using he
  rcases he with e | e<;>injection e with e1 e2<;>subst e1 e2
  ·exact⟨s,xiH _ hs,sv,sx⟩
  ·exact⟨s,xiH _ hs,sx,sv⟩
 ·simp only[xiJ,xiZ,xjw] at hw
  rcases hw with rfl | rfl
  ·exact⟨s,xiH _ hs,r,by simp,sx,x0,unlike (dir s hs) bu bv su sv (xhU hu hv)⟩
  ·obtain⟨s,hs',t,ht,a⟩:=g.two w (by simp)
   exact⟨s,xiH _ hs',t,xiH _ ht,a⟩
 ·obtain⟨m,hm,c⟩:=g.all p hz fun s hs=>hp s (xiH _ hs)
  obtain⟨a,b,a0,b0,e⟩:=c.pair
  have hr:val r (mul m p)≤0:=by rw[val_mul];exact pn (xhE hm) (hp r (by simp))
  rw[e,val_add,val_mul,val_mul] at hr
  have av:abs (val r v) = - val r v:=by unfold abs;rw[if_pos hv]
  have au:abs (val r u)=val r u:=by unfold abs;rw[if_neg (by omega)]
  refine⟨(- val r v)*m,pp (by omega) hm,?_⟩
  have e2:mul ((- val r v)*m) p=add (mul (a*(vi (cw r u v):Int)) (xA r u v)) (mul (b*(- val r v)-a*val r u) v):=by
   have e3:mul ((- val r v)*m) p=mul (- val r v) (mul m p):=by apply ext3<;>simp only[mul]<;>grind
   have e4:mul (a*(vi (cw r u v):Int)) (xA r u v)=mul a (mul (vi (cw r u v)) (xA r u v)):=by apply ext3<;>simp only[mul]<;>grind
   rw[e3,e,e4,bt.e,av,au]
   apply ext3<;>simp only[mul,add]<;>grind
  rw[e2]
  have k:0≤b*(- val r v)-a*val r u:=by
   have:b*(- val r v)-a*val r u = - (a*val r u+b*val r v):=by grind
   omega
  exact((Cn.mem (by simp)).smul (pz a0 (xhE bt.pg))).add ((Cn.mem (by simp)).smul k)
theorem Good.sw {Ls:List R3}{u v:R3}(g:Good Ls [u,v]):Good Ls [v,u]:=Good.rot (a:=[u]) (b:=[v]) g
theorem cR {Ls l:List R3}{r:R3}(g:Good Ls l)(dir:∀s∈Ls,s.1≠0∨s.2.1≠0):Good (Ls++[r]) (yP l r):=by
 match l,g with
 | [],g =>
  show Good (Ls++[r]) []
  exact jn g fun v hv=>by simp at hv
 | [v],g =>
  by_cases h:val r v≤0
  ·have hk:∀w∈[v],val r w≤0:=fun w hw=>by rw[xiV.mp hw];exact h
   rw[mo (by rw[qi hk];simp),qi hk]
   exact jn g hk
  ·have hk:∀w∈[v],0<val r w:=fun w hw=>by rw[xiV.mp hw];omega
   rw[mo (by rw[qG hk];simp),qG hk]
   exact vm g (fun w hw=>xhE (hk w hw)) (List.nil_sublist _) (by simp) (fun w hw=>by simp at hw) fun w hw h0=>by have:=hk w hw;omega
 | [u,v],g =>
  have ne:u≠v:=by
   have:=g.ccw.nd
   simp at this
   exact this
  have cy:cyc [u,v]=[(v,u),(u,v)]:=rfl
  unfold yP
  rw[cy]
  simp only[xif,List.foldl_nil]
  by_cases c:val r u*val r v<0
  ·have c':val r v*val r u<0:=by rw[xhL];exact c
   have ex:xA r v u=xA r u v:=by unfold xA;rw[xab]
   have hu0:val r u≠0:=fun z=>by rw[z] at c;simp at c
   have hv0:val r v≠0:=fun z=>by rw[z] at c;simp at c
   by_cases hu:val r u≤0
   ·have hv:0<val r v:=by
     rcases xhJ 0 (val r v) with z | z
     ·exact z
     ·have:=nn hu z;omega
    have e1:yn r [] (v,u)=[xA r v u,u]:=by
     unfold yn
     simp only[if_pos c',if_pos hu]
     simp
    have e2:yn r [xA r v u,u] (u,v)=[xA r v u,u]:=by
     unfold yn
     simp only[if_pos c,if_neg (show ¬val r v≤0 by omega)]
     rw[if_pos (by rw[←ex];simp)]
    rw[e1,e2]
    exact hV g.sw dir hv (by omega) rfl
   ·have hv:val r v<0:=by
     rcases xhJ (val r v) 0 with z | z
     ·exact z
     ·have:=pz (by omega:0≤val r u) z;omega
    have e1:yn r [] (v,u)=[xA r v u]:=by
     unfold yn
     simp only[if_pos c',if_neg hu]
     simp
    have e2:yn r [xA r v u] (u,v)=[xA r v u,v]:=by
     unfold yn
     simp only[if_pos c,if_pos (show val r v≤0 by omega)]
     rw[if_pos (by rw[←ex];simp)];rfl
    rw[e1,e2]
    exact hV g dir (by omega) hv ex
  ·have c':¬val r v*val r u<0:=by rw[xhL];exact c
   have e1:yn r [] (v,u)=if val r u≤0 then[u] else[]:=by
    unfold yn
    simp only[if_neg c']
    split<;>simp
   have e2:∀l,yn r l (u,v)=if val r v≤0 then l++[v] else l:=fun l=>by
    unfold yn
    simp only[if_neg c]
   rw[e1,e2]
   by_cases hu:val r u≤0
   ·rw[if_pos hu]
    by_cases hv:val r v≤0
    ·rw[if_pos hv]
     show Good (Ls++[r]) [u,v]
     exact jn g fun w hw=>by
      simp only[xiJ,xiZ,xjw] at hw
      rcases hw with rfl | rfl<;>assumption
    ·rw[if_neg hv]
     have hu0:val r u=0:=by
      rcases xhJ (val r u) 0 with z | z
      ·have:=xhT z (show 0<val r v by omega);omega
      ·omega
     exact vm g (fun w hw=>by
      simp only[xiJ,xiZ,xjw] at hw
      rcases hw with rfl | rfl<;>omega) (by simp) (by simp) (fun w hw=>by rw[xiV.mp hw];exact hu0) fun w hw h0=>by
       simp only[xiJ,xiZ,xjw] at hw
       rcases hw with rfl | rfl
       ·simp
       ·omega
   ·rw[if_neg hu]
    by_cases hv:val r v≤0
    ·rw[if_pos hv]
     have hv0:val r v=0:=by
      rcases xhJ (val r v) 0 with z | z
      ·have:=xhU (show 0<val r u by omega) z;omega
      ·omega
     exact vm g (fun w hw=>by
      simp only[xiJ,xiZ,xjw] at hw
      rcases hw with rfl | rfl<;>omega) (by simp) (by simp) (fun w hw=>by
       have:w=v:=by simpa using hw
       rw[this];exact hv0) fun w hw h0=>by
       simp only[xiJ,xiZ,xjw] at hw
       rcases hw with rfl | rfl
       ·omega
       ·simp
    ·rw[if_neg hv]
     exact vm g (fun w hw=>by
      simp only[xiJ,xiZ,xjw] at hw
      rcases hw with rfl | rfl<;>omega) (by simp) (by simp) (fun w hw=>by simp at hw) fun w hw h0=>by
       simp only[xiJ,xiZ,xjw] at hw
       rcases hw with rfl | rfl<;>omega
 | x::y::z::t,g =>
  obtain⟨a,b,P,Q,e1,e2,hP,hQ⟩:=g.ccw.parts r
  have e0:x::y::z::t=a++b:=e1
  rw[e0] at g ⊢
  have gr:Good Ls (b++a):=g.rot
  have mem:∀v,v∈a++b→v∈P++Q:=fun v hv=>by rw[←e2];simpa [or_comm] using hv
  have hlen:(P++Q).length=t.length+3:=by
   rw[←e2,xiq,Nat.add_comm,←xiq,←e0];simp
  cases P with
  | nil =>
   have hk:∀v∈a++b,val r v≤0:=fun v hv=>hQ v (by simpa using mem v hv)
   rw[mo (by rw[qi hk];exact g.ccw.nd),qi hk]
   exact jn g hk
  | cons p1 P =>
   cases Q with
   | nil =>
    have hk:∀v∈a++b,0<val r v:=fun v hv=>hP v (by simpa using mem v hv)
    rw[mo (by rw[qG hk];simp),qG hk]
    exact vm g (fun w hw=>xhE (hk w hw)) (List.nil_sublist _) (by simp) (fun w hw=>by simp at hw) fun w hw h0=>by have:=hk w hw;omega
   | cons q1 Q =>
    have S:xci Ls r p1 q1 P Q:=⟨by rw[←e2];exact gr,hP,hQ,by
     rcases Classical.em (P=[]) with h | h
     ·right
      intro h'
      subst h h'
      simp at hlen
     ·exact .inl h,dir⟩
    have gl:=S.good_left
    unfold xci.left at gl
    have g2:=Good.rot (a:=bef r (xu p1 P) q1++q1::Q) (b:=bef r p1 (xu q1 Q)) gl
    rw[←sr hP hQ,←e2] at g2
    obtain⟨c,d,f1,f2⟩:=bW r a b
    rw[f2] at g2
    have g3:=g2.rot
    rw[←f1] at g3
    rw[mo g3.ccw.nd]
    exact g3
end Pol
namespace Pol
def FAR:Int:=60001
def box:List R3:=[(-FAR,-FAR,1),(FAR,-FAR,1),(FAR,FAR,1),(-FAR,FAR,1)]
def xaI:List R3:=[(-1,0,FAR),(1,0,FAR),(0,-1,FAR),(0,1,FAR)]
theorem xhc {a b c d u v w:R3}(s:List.Sublist [u,v,w] [a,b,c,d]):(u=a∧v=b∧w=c)∨(u=a∧v=b∧w=d)∨(u=a∧v=c∧w=d)∨(u=b∧v=c∧w=d):=by
 have full:∀ {x y z u v w:R3},List.Sublist [u,v,w] [x,y,z]→u=x∧v=y∧w=z:=fun {x y z u v w} s=>by
  have:=s.eq_of_length (by simp)
  injection this with h1 h2
  injection h2 with h2 h3
  injection h3 with h3 _
  exact⟨h1,h2,h3⟩
 cases s with
 | cons _ s=>exact .inr (.inr (.inr (full s)))
 | cons_cons _ s =>
  have two:∀ {x y z v w:R3},List.Sublist [v,w] [x,y,z]→(v=x∧w=y)∨(v=x∧w=z)∨(v=y∧w=z):=fun {x y z v w} s=>by
   cases s with
   | cons _ s =>
    have:=s.eq_of_length (by simp)
    injection this with h1 h2
    injection h2 with h2 _
    exact .inr (.inr ⟨h1,h2⟩)
   | cons_cons _ s =>
    have:w∈[y,z]:=xi2.mp s
    simp only[xiJ,xiZ,xjw] at this
    rcases this with rfl | rfl
    ·exact .inl ⟨rfl,rfl⟩
    ·exact .inr (.inl ⟨rfl,rfl⟩)
  rcases two s with ⟨h1,h2⟩ | ⟨h1,h2⟩ | ⟨h1,h2⟩
  ·exact .inl ⟨rfl,h1,h2⟩
  ·exact .inr (.inl ⟨rfl,h1,h2⟩)
  ·exact .inr (.inr (.inl ⟨rfl,h1,h2⟩))
theorem o8:Ccw box:=by
 refine⟨fun u v w s=>?_,by decide⟩
 rcases xhc s with ⟨rfl,rfl,rfl⟩ | ⟨rfl,rfl,rfl⟩ | ⟨rfl,rfl,rfl⟩ | ⟨rfl,rfl,rfl⟩<;>decide
theorem cC:Good xaI box:=by
 refine⟨o8,by decide,by decide,by decide,fun u v h _=>?_,by decide,fun p hz hp=>?_⟩
 ·have h:(u,v)∈[((-FAR,FAR,1),(-FAR,-FAR,1)),((-FAR,-FAR,1),(FAR,-FAR,1)),((FAR,-FAR,1),(FAR,FAR,1)),((FAR,FAR,1),(-FAR,FAR,1))]:=h
  simp only[xiJ,xiZ,xjw] at h
  rcases h with h | h | h | h<;>injection h with h1 h2<;>subst h1 h2
  ·exact⟨(-1,0,FAR),by decide,by decide,by decide⟩
  ·exact⟨(0,-1,FAR),by decide,by decide,by decide⟩
  ·exact⟨(1,0,FAR),by decide,by decide,by decide⟩
  ·exact⟨(0,1,FAR),by decide,by decide,by decide⟩
 ·have h1:=hp (-1,0,FAR) (by decide)
  have h2:=hp (1,0,FAR) (by decide)
  have h3:=hp (0,-1,FAR) (by decide)
  have h4:=hp (0,1,FAR) (by decide)
  simp only[val,FAR] at h1 h2 h3 h4
  refine o8.incone (by decide) fun u v h=>?_
  have h:(u,v)∈[((-FAR,FAR,1),(-FAR,-FAR,1)),((-FAR,-FAR,1),(FAR,-FAR,1)),((FAR,-FAR,1),(FAR,FAR,1)),((FAR,FAR,1),(-FAR,FAR,1))]:=h
  simp only[xiJ,xiZ,xjw] at h
  rcases h with h | h | h | h<;>injection h with h5 h6<;>subst h5 h6<;>simp only[det,FAR]<;>omega
def pieces (rows:List R3):List R3:=rows.foldl yP box
theorem mE:∀(rows Ls l:List R3),Good Ls l→(∀s∈Ls,s.1≠0∨s.2.1≠0)→(∀s∈rows,s.1≠0∨s.2.1≠0)→Good (Ls++rows) (rows.foldl yP l)
 | [],Ls,l,g,_,_=>by simpa using g
 | r::rows,Ls,l,g,d1,d2=>by
  rw[xif]
  have:=mE rows (Ls++[r]) (yP l r) (cR g d1) (fun s hs=>by
   rcases xiG.mp hs with h | h
   ·exact d1 s h
   ·rw[xiV.mp h];exact d2 r xiL) (fun s hs=>d2 s (xiK _ hs))
  rwa [xh6] at this
theorem wq {rows:List R3}(d:∀s∈rows,s.1≠0∨s.2.1≠0):Good (xaI++rows) (pieces rows):=mE rows xaI box cC (by decide) d
def GR (rows:List R3):Prop:=∀u v:Int,(u≠0∨v≠0)→∃r∈rows,0<r.1*u+r.2.1*v
theorem best {rows:List R3}(f g:R3→Int)(h:∃r∈rows,0<g r):∃i∈rows,0<g i∧∀r∈rows,0<g r→f r*g i≤f i*g r:=by
 induction rows with
 | nil=>obtain⟨r,hr,_⟩:=h;simp at hr
 | cons x rows ih =>
  by_cases hx:0<g x
  ·by_cases hr:∃r∈rows,0<g r
   ·obtain⟨i,hi,gi,hb⟩:=ih hr
    rcases xhJ (f i*g x) (f x*g i) with c | c
    ·refine⟨x,xiL,hx,fun r hr gr=>?_⟩
     rcases xiJ.mp hr with rfl | hr
     ·exact xhH _
     ·have h1:=hb r hr gr
      have h2:(f r*g i)*g x≤(f i*g r)*g x:=xhQ h1 (xhE hx)
      have h3:(f i*g x)*g r≤(f x*g i)*g r:=xhQ (xhE c) (xhE gr)
      have h4:g i*(f r*g x)≤g i*(f x*g r):=by
       have e1:g i*(f r*g x)=(f r*g i)*g x:=by grind
       have e2:(f i*g r)*g x=(f i*g x)*g r:=by grind
       have e3:(f x*g i)*g r=g i*(f x*g r):=by grind
       omega
      exact xhF h4 gi
    ·refine⟨i,xiK _ hi,gi,fun r hr gr=>?_⟩
     rcases xiJ.mp hr with rfl | hr
     ·exact c
     ·exact hb r hr gr
   ·refine⟨x,xiL,hx,fun r hr' gr=>?_⟩
    rcases xiJ.mp hr' with rfl | h'
    ·exact xhH _
    ·exact absurd ⟨r,h',gr⟩ hr
  ·obtain⟨r,hr,gr⟩:=h
   rcases xiJ.mp hr with rfl | hr
   ·exact absurd gr hx
   ·obtain⟨i,hi,gi,hb⟩:=ih ⟨r,hr,gr⟩
    refine⟨i,xiK _ hi,gi,fun r hr gr=>?_⟩
    rcases xiJ.mp hr with rfl | hr
    ·exact absurd gr hx
    ·exact hb r hr gr
def mO (r:R3):Prop:=((-30≤r.1∧r.1≤30)∧(-30≤r.2.1∧r.2.1≤30))∧(-1000≤r.2.2∧r.2.2≤1000)
structure IsC (rows:List R3)(p:R3):Prop where
 kept:∀r∈rows,val r p≤0
 two:∃s∈rows,∃t∈rows,val s p=0∧val t p=0∧turn s t≠0
def xds (p q:R3):Prop:=p.1*q.2.2=q.1*p.2.2∧p.2.1*q.2.2=q.2.1*p.2.2
theorem xfB {s t p q:R3}(hn:turn s t≠0)(p1:val s p=0)(p2:val t p=0)(q1:val s q=0)(q2:val t q=0):xds p q:=by
 have e1:turn s t*(p.1*q.2.2-q.1*p.2.2)=(t.2.1*val s p-s.2.1*val t p)*q.2.2-(t.2.1*val s q-s.2.1*val t q)*p.2.2:=by simp only[turn,val];grind
 have e2:turn s t*(p.2.1*q.2.2-q.2.1*p.2.2)=(s.1*val t p-t.1*val s p)*q.2.2-(s.1*val t q-t.1*val s q)*p.2.2:=by simp only[turn,val];grind
 rw[p1,p2,q1,q2] at e1 e2
 have e1:turn s t*(p.1*q.2.2-q.1*p.2.2)=0:=by rw[e1];grind
 have e2:turn s t*(p.2.1*q.2.2-q.2.1*p.2.2)=0:=by rw[e2];grind
 have:=(xhO.mp e1).resolve_left hn
 have:=(xhO.mp e2).resolve_left hn
 exact⟨by omega,by omega⟩
section
variable {rows more:List R3}
structure xdj (rows more:List R3):Prop where
 box:∀ {p:R3},0<p.2.2→(∀r∈more,val r p≤0)→∀s∈xaI,val s p<0
 fr:∀r∈rows,mO r
 sub:∀r∈rows,r∈more
 dir:∀r∈more,r.1≠0∨r.2.1≠0
theorem xdj.corner (F:xdj rows more){v:R3}(hv:v∈pieces more):0<v.2.2∧vi v=1∧IsC more v:=by
 have g:=wq F.dir
 have hz:=g.bot v hv
 have hk:∀r∈more,val r v≤0:=fun r hr=>g.kept v hv r (xiI _ hr)
 have nb:=F.box hz hk
 obtain⟨s,hs,t,ht,a,b,c⟩:=g.two v hv
 have in':∀x∈xaI++more,val x v=0→x∈more:=fun x hx h0=>by
  rcases xiG.mp hx with h | h
  ·have:=nb x h;omega
  ·exact h
 exact⟨hz,g.prim v hv,hk,s,in' s hs a,t,in' t ht b,a,b,c⟩
theorem xdj.incone (F:xdj rows more){p:R3}(hz:0<p.2.2)(hp:∀r∈more,val r p≤0):InC (pieces more) p:=by
 have g:=wq F.dir
 refine g.all p hz fun s hs=>?_
 rcases xiG.mp hs with h | h
 ·exact xhE (F.box hz hp s h)
 ·exact hp s h
theorem val_neg (r p:R3):val (- r.1,- r.2.1,- r.2.2) p = - val r p:=by simp only[val];grind
theorem xdj.found (F:xdj rows more){p:R3}(hz:0<p.2.2)(hp:IsC more p):∃v∈pieces more,xds v p:=by
 obtain⟨m,hm,c⟩:=F.incone hz hp.kept
 obtain⟨s,hs,t,ht,a,b,hn⟩:=hp.two
 have g:=wq F.dir
 have kept:∀v∈pieces more,∀r∈more,val r v≤0:=fun v hv r hr=>g.kept v hv r (xiI _ hr)
 have c1:=c.zeros (- s.1,- s.2.1,- s.2.2) (fun v hv=>by rw[val_neg];have:=kept v hv s hs;omega) (by rw[val_neg,val_mul,a];simp)
 have c2:=c1.zeros (- t.1,- t.2.1,- t.2.2) (fun v hv=>by rw[val_neg];have:=kept v (xiM.mp hv).1 t ht;omega) (by rw[val_neg,val_mul,b];simp)
 cases e:((pieces more).filter fun v=>val (- s.1,- s.2.1,- s.2.2) v=0).filter (fun v=>val (- t.1,- t.2.1,- t.2.2) v=0) with
 | nil =>
  rw[e] at c2
  exfalso
  rcases c2.bot (fun v hv=>by simp at hv) with h | h
  ·have:m*p.2.2=0:=xjq (·.2.2) h
   have:=pp hm hz
   omega
  ·have:∀q:R3,Cn [] q→q=(0,0,0):=fun q hq=>by
    induction hq with
    | zero=>rfl
    | mem h=>simp at h
    | add _ _ h1 h2=>rw[h1,h2];rfl
   rw[this _ c2] at h
   simp at h
 | cons v r =>
  have hv:v∈((pieces more).filter fun v=>val (- s.1,- s.2.1,- s.2.2) v=0).filter (fun v=>val (- t.1,- t.2.1,- t.2.2) v=0):=by rw[e];exact xiL
  obtain⟨h1,h2⟩:=xiM.mp hv
  obtain⟨h3,h4⟩:=xiM.mp h1
  have h2:val (- t.1,- t.2.1,- t.2.2) v=0:=by simpa using h2
  have h4:val (- s.1,- s.2.1,- s.2.2) v=0:=by simpa using h4
  rw[val_neg] at h2 h4
  exact⟨v,h3,xfB hn (by omega) (by omega) a b⟩
end
end Pol
namespace Pol
def dot (r s:R3):Int:=r.1*s.1+r.2.1*s.2.1
def oJ (sg:Int)(last:Option R3)(x:R3):Bool:=match last with | none=>true | some l=>decide (0<sg*turn l x)
def zS (r:R3)(sg:Int)(last:Option R3)(x:R3):Option R3 :=
 if 0<sg*turn r x∧oJ sg last x=true then some x else last
def far (r:R3)(sg:Int)(rs:List R3):Option R3:=rs.foldl (zS r sg) none
def back (r:R3)(rs:List R3):Bool:=rs.any fun x=>decide (turn r x=0)&&decide (dot r x<0)
def wX:List R3→Bool
 | []=>false
 | r::rs=>match far r 1 (r::rs),far r (-1) (r::rs) with
  | some l,some k=>decide (0<turn l k) || back r (r::rs)
  | _,_=>false
theorem xb8 {a b:Int}(h:0<a)(k:a*b≤0):b≤0:=by
 rcases xhJ 0 b with z | z
 ·have:=pp h z;omega
 ·exact z
theorem plk (r l k z:R3):turn r l*turn k z-turn r k*turn l z+turn r z*turn l k=0:=by
 obtain⟨a,b,_⟩:=r;obtain⟨c,d,_⟩:=l;obtain⟨e,f,_⟩:=k;obtain⟨g,h,_⟩:=z
 simp only[turn];grind
theorem xf0 (r l z:R3):z.1*turn r l=r.1*turn z l+l.1*turn r z:=by
 obtain⟨a,b,_⟩:=r;obtain⟨c,d,_⟩:=l;obtain⟨g,h,_⟩:=z
 simp only[turn];grind
theorem xfW (r l z:R3):z.2.1*turn r l=r.2.1*turn z l+l.2.1*turn r z:=by
 obtain⟨a,b,_⟩:=r;obtain⟨c,d,_⟩:=l;obtain⟨g,h,_⟩:=z
 simp only[turn];grind
theorem xd0 (r l:R3):turn l r = - turn r l:=by
 obtain⟨a,b,_⟩:=r;obtain⟨c,d,_⟩:=l
 simp only[turn];grind
theorem proj (r x z:R3):dot r r*turn x z=dot r x*turn r z-turn r x*dot r z:=by
 obtain⟨a,b,_⟩:=r;obtain⟨c,d,_⟩:=x;obtain⟨g,h,_⟩:=z
 simp only[turn,dot];grind
theorem sq {a:Int}(h:a≠0):0<a*a:=by
 rcases xhJ 0 a with z | z
 ·exact pp z z
 ·have:0<(-a)*(-a):=pp (by omega) (by omega)
  rwa [Int.neg_mul_neg] at this
theorem sq0 (a:Int):0≤a*a:=by
 rcases xhJ 0 a with z | z
 ·exact pz (by omega) (by omega)
 ·exact nn z z
theorem mL {r:R3}(h:r.1≠0∨r.2.1≠0):0<dot r r:=by
 unfold dot
 have h1:=sq0 r.1
 have h2:=sq0 r.2.1
 rcases h with h | h
 ·have:=sq h;omega
 ·have:=sq h;omega
theorem xdN {r l z:R3}(h:turn r l≠0)(h1:turn r z=0)(h2:turn l z=0):z.1=0∧z.2.1=0:=by
 have b1:=xf0 r l z
 have b2:=xfW r l z
 have a1:=xd0 l z
 rw[h2] at a1
 rw[a1,h1] at b1 b2
 simp only[xhY,Int.neg_zero,xhu] at b1 b2
 exact⟨(xhO.mp b1).resolve_right h,(xhO.mp b2).resolve_right h⟩
structure tP (r:R3)(s:Int)(rs:List R3)(l:R3):Prop where
 mem:l∈rs
 left:0<s*turn r l
 all:∀x∈rs,0<s*turn r x→s*turn l x≤0
theorem xhk (s:Int)(r l k z:R3):(s*turn r l)*(s*turn k z)=(s*turn r k)*(s*turn l z)-(s*turn r z)*(s*turn l k):=by
 have:=plk r l k z
 grind
def xgw (r:R3)(s:Int)(done:List R3):Option R3→Prop
 | none=>∀x∈done,s*turn r x≤0
 | some l=>tP r s done l
theorem xaT {r:R3}{s:Int}:∀(rs done:List R3) (o:Option R3),xgw r s done o→xgw r s (done++rs) (rs.foldl (zS r s) o)
 | [],done,o,h=>by simpa using h
 | y::rs,done,o,h=>by
  rw[xif]
  have ih:=xaT (r:=r) (s:=s) rs (done++[y]) (zS r s o y) (by
   unfold zS
   by_cases c:0<s*turn r y∧oJ s o y=true
   ·rw[if_pos c]
    obtain⟨c1,c2⟩:=c
    refine⟨by simp,c1,fun x hx hp=>?_⟩
    rcases xiG.mp hx with hx | hx
    ·cases o with
     | none=>exact absurd (show s*turn r x≤0 from h x hx) (by omega)
     | some l =>
      have h:tP r s done l:=h
      have c2:0<s*turn l y:=xjv c2
      have hl:s*turn l x≤0:=h.all x hx hp
      have e:=xhk s r l y x
      have p1:=pn (xhE c1) hl
      have p2:=pp hp c2
      exact xb8 h.left (by rw[e];omega)
    ·have:x=y:=by simpa using hx
     subst this
     have:turn x x=0:=by unfold turn;grind
     rw[this];simp
   ·rw[if_neg c]
    cases o with
    | none =>
     intro x hx
     rcases xiG.mp hx with hx | hx
     ·exact h x hx
     ·have:x=y:=by simpa using hx
      subst this
      have c':¬0<s*turn r x:=fun z=>c ⟨z,rfl⟩
      omega
    | some l =>
     have h:tP r s done l:=h
     refine⟨xiH _ h.mem,h.left,fun x hx hp=>?_⟩
     rcases xiG.mp hx with hx | hx
     ·exact h.all x hx hp
     ·have:x=y:=by simpa using hx
      subst this
      have c':¬0<s*turn l x:=fun z=>c ⟨hp,xjs z⟩
      omega)
  rwa [xh6] at ih
theorem cH {r:R3}{s:Int}{rs:List R3}(h:far r s rs=none):∀x∈rs,s*turn r x≤0:=by
 have:=xaT (r:=r) (s:=s) rs [] none (fun x hx=>by simp at hx)
 unfold far at h
 rw[h] at this
 intro x hx
 exact this x (by simpa using hx)
theorem qR {r l:R3}{s:Int}{rs:List R3}(h:far r s rs=some l):tP r s rs l:=by
 have:=xaT (r:=r) (s:=s) rs [] none (fun x hx=>by simp at hx)
 unfold far at h
 rw[h,xiW] at this
 exact this
theorem xad {r l k:R3}{rs:List R3}(hr:r∈rs)(r0:r.1≠0∨r.2.1≠0)(hl:tP r 1 rs l)(hk:tP r (-1) rs k)(h:0<turn l k∨back r rs=true){z:R3}(hz:∀x∈rs,turn x z≤0):z.1=0∧z.2.1=0:=by
 have l1:0<turn r l:=by have:=hl.left;omega
 have k1:turn r k<0:=by have:=hk.left;omega
 have zr:=hz r hr
 have zl:=hz l hl.mem
 have zk:=hz k hk.mem
 have e:=plk r l k z
 have p1:=pn (xhE l1) zk
 have p2:=nn (xhE k1) zl
 have hz0:turn r z=0:=by
  rcases h with h | h
  ·have p3:=np zr (xhE h)
   have p4:turn r z*turn l k=0:=by omega
   exact(xhO.mp p4).resolve_right (by omega)
  ·unfold back at h
   rw[xh5] at h
   obtain⟨b,hb,c⟩:=h
   simp only[xhq,xjt] at c
   have q:=proj r b z
   rw[c.1] at q
   simp only[xh1,Int.sub_zero] at q
   have q1:=pn (xhE (mL r0)) (hz b hb)
   have q2:=nn (xhE c.2) zr
   have q3:dot r b*turn r z=0:=by omega
   exact(xhO.mp q3).resolve_left (by have:=c.2;omega)
 rw[hz0] at e
 simp only[xh1,xhu] at e
 have p5:turn r k*turn l z=0:=by omega
 exact xdN (by omega) hz0 ((xhO.mp p5).resolve_left (by omega))
theorem xbg {r l k:R3}{rs:List R3}(r0:∀x∈rs,x.1≠0∨x.2.1≠0)(hr:r∈rs)(hl:tP r 1 rs l)(hk:tP r (-1) rs k)(h:¬0<turn l k)(hb:back r rs=false):∀x∈rs,turn l x≤0:=by
 intro x hx
 have l1:0<turn r l:=by have:=hl.left;omega
 have k1:turn r k<0:=by have:=hk.left;omega
 rcases xhK (turn r x) 0 with c | c | c
 ·have kx:0≤turn k x:=by have:=hk.all x hx (by omega);omega
  have e:=plk r l k x
  have p1:=pz (xhE l1) kx
  have p2:=nn (xhE c) (by omega:turn l k≤0)
  have p3:0≤turn r k*turn l x:=by omega
  rcases xhJ 0 (turn l x) with z | z
  ·have p4:turn r k*turn l x<0:=xhT k1 z
   omega
  ·exact z
 ·have q:=proj r x l
  rw[c] at q
  simp only[xh1,Int.sub_zero] at q
  have d0:0≤dot r x:=by
   rcases xhJ (dot r x) 0 with z | z
   ·exfalso
    have:back r rs=true:=by
     unfold back
     rw[xh5]
     exact⟨x,hx,by rw[xjs c,xjs z];rfl⟩
    rw[this] at hb;cases hb
   ·exact z
  have q1:=pz d0 (xhE l1)
  have q2:=mL (r0 r hr)
  have a:=xd0 x l
  rw[a]
  have:0≤turn x l:=by
   rcases xhJ (turn x l) 0 with z | z
   ·have:=xhU q2 z
    omega
   ·exact z
  omega
 ·have:=hl.all x hx (by omega)
  omega
def RA (rs:List R3):Prop:=∀z∈rs,∀s:Int,(s=1∨s = -1)→∃x∈rs,0<s*turn z x
theorem xfQ {rs:List R3}(r0:∀x∈rs,x.1≠0∨x.2.1≠0)(h:GR rs):RA rs:=fun z hz s hs=>by
 have key:∀x:R3,x.1*(s * -z.2.1)+x.2.1*(s*z.1)=s*turn z x:=fun x=>by unfold turn;grind
 obtain⟨x,hx,p⟩:=h (s * -z.2.1) (s*z.1) (by have:=r0 z hz;rcases hs with e | e<;>subst e<;>omega)
 exact⟨x,hx,by rw[key x] at p;exact p⟩
theorem xbk {rs:List R3}(r0:∀x∈rs,x.1≠0∨x.2.1≠0)(ne:rs≠[])(h:RA rs):wX rs=true:=by
 have no:∀z:R3,z∈rs→∀s:Int,(s=1∨s = -1)→(∀x∈rs,s*turn z x≤0)→False:=fun z hz s hs hx=>by
  obtain⟨x,hxm,p⟩:=h z hz s hs
  have:=hx x hxm
  omega
 cases rs with
 | nil=>exact absurd rfl ne
 | cons r t =>
  have hr:r∈r::t:=xiL
  have e:wX (r::t)=match far r 1 (r::t),far r (-1) (r::t) with
   | some l,some k=>decide (0<turn l k) || back r (r::t)
   | _,_=>false:=rfl
  rw[e]
  cases e1:far r 1 (r::t) with
  | none=>exact(no r hr 1 (.inl rfl) (cH e1)).elim
  | some l =>
   cases e2:far r (-1) (r::t) with
   | none=>exact(no r hr (-1) (.inr rfl) (cH e2)).elim
   | some k =>
    show(decide (0<turn l k) || back r (r::t))=true
    have hl:=qR e1
    have hk:=qR e2
    rcases Classical.em ((decide (0<turn l k) || back r (r::t))=true) with q | q
    ·exact q
    ·exfalso
     simp only[Bool.or_eq_true,xjt,not_or,Bool.not_eq_true] at q
     exact no l hl.mem 1 (.inl rfl) (fun x hx=>by have:=xbg r0 hr hl hk q.1 q.2 x hx;omega)
theorem xa7 {rs:List R3}(r0:∀x∈rs,x.1≠0∨x.2.1≠0)(h:wX rs=true):GR rs:=by
 cases rs with
 | nil=>cases h
 | cons r t =>
  have hr:r∈r::t:=xiL
  have e:wX (r::t)=match far r 1 (r::t),far r (-1) (r::t) with
   | some l,some k=>decide (0<turn l k) || back r (r::t)
   | _,_=>false:=rfl
  rw[e] at h
  cases e1:far r 1 (r::t) with
  | none=>rw[e1] at h;cases h
  | some l =>
   cases e2:far r (-1) (r::t) with
   | none=>rw[e1,e2] at h;cases h
   | some k =>
    rw[e1,e2] at h
    have c:(decide (0<turn l k) || back r (r::t))=true:=h
    have hl:=qR e1
    have hk:=qR e2
    have c':0<turn l k∨back r (r::t)=true:=by simpa using c
    intro u v uv
    rcases Classical.em (∃x∈r::t,0<x.1*u+x.2.1*v) with q | q
    ·exact q
    ·exfalso
     have key:∀x:R3,turn x (-v,u,0)=x.1*u+x.2.1*v:=fun x=>by simp only[turn];grind
     have z:=xad hr (r0 r hr) hl hk c' (z:=(-v,u,0)) (fun x hx=>by
      rw[key x]
      rcases xhJ 0 (x.1*u+x.2.1*v) with w | w
      ·exact absurd ⟨x,hx,w⟩ q
      ·exact w)
     simp only at z
     omega
theorem xgc {rs:List R3}(h:GR rs):rs≠[]:=fun e=>by
 obtain⟨r,hr,_⟩:=h 1 0 (.inl (by decide))
 rw[e] at hr;simp at hr
end Pol
namespace Pol
theorem cL (r:R3)(acc:List R3)(p:R3×R3):(yn r acc p).length≤acc.length+(seg r p).length:=by
 unfold yn seg
 by_cases c:val r p.1*val r p.2<0
 ·by_cases m:xA r p.1 p.2∈acc
  ·simp only[if_pos c,if_pos m]
   split<;>simp<;>omega
  ·simp only[if_pos c,if_neg m]
   split<;>simp<;>omega
 ·simp only[if_neg c]
  split<;>simp
theorem cT (r:R3):∀(ps:List (R3×R3)) (acc:List R3),(ps.foldl (yn r) acc).length≤acc.length+(ps.flatMap (seg r)).length
 | [],acc=>by simp
 | p::ps,acc=>by
  rw[xif,List.flatMap_cons,xiq]
  have:=cT r ps (yn r acc p)
  have:=cL r acc p
  omega
theorem l7 (r p q:R3):(bef r p q).length≤1:=by unfold bef;split<;>simp
theorem xa8 {l:List R3}(h:Ccw l)(r:R3):(nO r l).length≤l.length+2:=by
 obtain⟨a,b,P,Q,e1,e2,hP,hQ⟩:=h.parts r
 obtain⟨c,d,f1,f2⟩:=bW r a b
 have el:(nO r l).length=(nO r (P++Q)).length:=by
  rw[e1,f1,←e2,f2,xiq,xiq];omega
 have ll:l.length=(P++Q).length:=by rw[e1,←e2,xiq,xiq];omega
 rw[el,ll]
 cases P with
 | nil =>
  rw[xiW,qi hQ];omega
 | cons p P =>
  cases Q with
  | nil=>rw[xh7,qG hP];simp
  | cons q Q =>
   rw[sr hP hQ]
   simp only[xiq,xir]
   have:=l7 r p (xu q Q)
   have:=l7 r (xu p P) q
   omega
theorem xdi {l:List R3}(h:Ccw l)(r:R3):(yP l r).length≤l.length+2:=by
 have:=cT r (cyc l) []
 have:=xa8 h r
 unfold yP nO at *
 simp at *
 omega
theorem j6:∀(rows Ls l:List R3),Good Ls l→(∀s∈Ls,s.1≠0∨s.2.1≠0)→(∀s∈rows,s.1≠0∨s.2.1≠0)→(rows.foldl yP l).length≤l.length+2*rows.length
 | [],Ls,l,_,_,_=>by simp
 | r::rows,Ls,l,g,d,d'=>by
  rw[xif]
  have h1:=xdi g.ccw r
  have dr:=d' r xiL
  have h2:=j6 rows (Ls++[r]) (yP l r) (cR g d) (fun s hs=>by
   rcases xiG.mp hs with h | h
   ·exact d s h
   ·rw[xiV.mp h];exact dr) (fun s hs=>d' s (xiK _ hs))
  rw[xir];omega
theorem sf {rows:List R3}(d:∀s∈rows,s.1≠0∨s.2.1≠0):(pieces rows).length≤4+2*rows.length:=j6 rows xaI box cC (by decide) d
theorem t5 (p:R3):∀l:List R3,(chain p l).length=l.length
 | []=>rfl
 | x::l=>by show(chain x l).length+1=_;rw[t5 x l];rfl
theorem xc1:∀l:List R3,(cyc l).length=l.length
 | []=>rfl
 | x::l=>t5 _ _
theorem c9 (p:R3):∀(l:List R3) (i:Nat) (v:R3),l[i]? = some v→∃u,(p::l)[i]? = some u∧(chain p l)[i]? = some (u,v)
 | [],i,v,h=>by simp at h
 | x::l,0,v,h=>by simp at h;subst h;exact⟨p,rfl,rfl⟩
 | x::l,i+1,v,h=>by
  have h':l[i]? = some v:=by simpa using h
  obtain⟨u,e1,e2⟩:=c9 x l i v h'
  exact⟨u,by simpa using e1,by show(chain x l)[i]? = _;exact e2⟩
theorem xd8 {l:List R3}{i:Nat}{v:R3}(h:l[i]? = some v):∃u,u∈l∧(cyc l)[i]? = some (u,v)∧((i=0∧∃ys,l=ys++[u])∨(0<i∧l[i-1]? = some u)):=by
 cases l with
 | nil=>simp at h
 | cons x l =>
  obtain⟨u,e1,e2⟩:=c9 (xu x l) (x::l) i v h
  cases i with
  | zero =>
   have:xu x l=u:=by simpa using e1
   subst this
   obtain⟨ys,e⟩:=gR x l
   exact⟨_,yx x l,e2,.inl ⟨rfl,ys,e⟩⟩
  | succ i =>
   have e1:(x::l)[i]? = some u:=by simpa using e1
   exact⟨u,xiR e1,e2,.inr ⟨by omega,by simpa using e1⟩⟩
theorem um {α β:Type}(f:β→α→β)(b:β){l:List α}{i:Nat}{x:α}(h:l[i]? = some x):(l.take (i+1)).foldl f b=f ((l.take i).foldl f b) x:=by
 have hi:=(xik.mp h).1
 rw[xi_,h,xie];rfl
end Pol
namespace Pol
def Ah (p q:R3):Prop:=p.1*q.2.2<q.1*p.2.2∨p.1*q.2.2=q.1*p.2.2∧p.2.1*q.2.2<q.2.1*p.2.2
theorem a_ {a x b y c z:Int}(hx:0<x)(hy:0<y)(hz:0<z)(h1:a*y<b*x)(h2:b*z≤c*y):a*z<c*x:=by
 have e1:a*y*z<b*x*z:=xhR h1 hz
 have e2:b*z*x≤c*y*x:=xhQ h2 (by omega)
 have:a*z*y<c*x*y:=by
  have e3:a*z*y=a*y*z:=by grind
  have e4:c*x*y=c*y*x:=by grind
  have e5:b*x*z=b*z*x:=by grind
  omega
 exact xhI this (by omega)
theorem xbl {a x b y c z:Int}(hx:0<x)(hy:0<y)(hz:0<z)(h1:a*y≤b*x)(h2:b*z<c*y):a*z<c*x:=by
 have e1:a*y*z≤b*x*z:=xhQ h1 (by omega)
 have e2:b*z*x<c*y*x:=xhR h2 hx
 have:a*z*y<c*x*y:=by
  have e3:a*z*y=a*y*z:=by grind
  have e4:c*x*y=c*y*x:=by grind
  have e5:b*x*z=b*z*x:=by grind
  omega
 exact xhI this (by omega)
theorem xbO {a x b y c z:Int}(hy:0<y)(h1:a*y=b*x)(h2:b*z=c*y):a*z=c*x:=by
 have:a*z*y=c*x*y:=by grind
 exact xhy (by omega) this
theorem Ah.irrefl (p:R3):¬Ah p p:=by rintro(h | h)<;>omega
theorem Ah.trans {p q w:R3}(hp:0<p.2.2)(hq:0<q.2.2)(hw:0<w.2.2)(h1:Ah p q)(h2:Ah q w):Ah p w:=by
 rcases h1 with a | ⟨a,b⟩
 ·rcases h2 with c | ⟨c,d⟩
  ·exact .inl (a_ hp hq hw a (by omega))
  ·exact .inl (a_ hp hq hw a (by omega))
 ·rcases h2 with c | ⟨c,d⟩
  ·exact .inl (xbl hp hq hw (by omega) c)
  ·exact .inr ⟨xbO hq a c,a_ hp hq hw b (by omega)⟩
def t4 (l:List R3):Prop:=∀h t,l=h::t→∀v∈l,¬Ah v h
def wW (s t:R3):R3:=if turn s t<0 then(-(s.2.2*t.2.1-s.2.1*t.2.2),-(s.1*t.2.2-s.2.2*t.1),-turn s t) else(s.2.2*t.2.1-s.2.1*t.2.2,s.1*t.2.2-s.2.2*t.1,turn s t)
theorem pK {s t:R3}(h:turn s t≠0):0<(wW s t).2.2∧val s (wW s t)=0∧val t (wW s t)=0:=by
 unfold wW
 split
 ·refine⟨by simp only;omega,?_,?_⟩<;>simp only[val,turn]<;>grind
 ·refine⟨by simp only;omega,?_,?_⟩<;>simp only[val,turn]<;>grind
end Pol
namespace L2
open PySem PySem.Spec PyProof.Rows
def Bk (k:Nat)(i:Int):Prop:=i.natAbs<2 ^ k
theorem Bk.mono {k m:Nat}{i:Int}(h:Bk k i)(hk:k≤m):Bk m i:=xji h (Nat.pow_le_pow_right (by decide) hk)
theorem Bk.mul {k m:Nat}{i j:Int}(h:Bk k i)(h':Bk m j):Bk (k+m) (i*j):=by
 unfold Bk at *
 rw[xh0,Nat.pow_add]
 exact Nat.mul_lt_mul'' h h'
theorem Bk.add {k:Nat}{i j:Int}(h:Bk k i)(h':Bk k j):Bk (k+1) (i+j):=by
 unfold Bk at *
 rw[Nat.pow_succ]
 have:=Int.natAbs_add_le i j
 omega
theorem Bk.neg {k:Nat}{i:Int}(h:Bk k i):Bk k (-i):=by unfold Bk at *;rw[Int.natAbs_neg];exact h
theorem Bk.sub {k:Nat}{i j:Int}(h:Bk k i)(h':Bk k j):Bk (k+1) (i-j):=by rw[Int.sub_eq_add_neg];exact h.add h'.neg
theorem Bk.bd {k:Nat}{i:Int}(h:Bk k i)(hk:k≤2000:=by decide):Bd i:=h.mono hk
theorem Bk.abs {k:Nat}{i:Int}(h:Bk k i):Bk k (if i<0 then -i else i):=by split;exact h.neg;exact h
theorem Bk.le {k:Nat}{i j:Int}(h:Bk k i)(hl:j.natAbs≤i.natAbs):Bk k j:=xjh hl h
def B3k (k:Nat)(r:Pol.R3):Prop:=(Bk k r.1∧Bk k r.2.1)∧Bk k r.2.2
theorem B3k.mono {k m:Nat}{r:Pol.R3}(h:B3k k r)(hk:k≤m):B3k m r:=⟨⟨h.1.1.mono hk,h.1.2.mono hk⟩,h.2.mono hk⟩
def B3 (r:Pol.R3):Prop:=(Bd r.1∧Bd r.2.1)∧Bd r.2.2
theorem B3k.b3 {k:Nat}{r:Pol.R3}(h:B3k k r)(hk:k≤2000:=by decide):B3 r:=h.mono hk
theorem B3k.val {k m:Nat}{r p:Pol.R3}(h:B3k k r)(h':B3k m p):Bk (k+m+2) (Pol.val r p) :=
 ((h.1.1.mul h'.1.1).add (h.1.2.mul h'.1.2)).sub ((h.2.mul h'.2).mono (xje _))
def xd4:Tr→Bool
 | .int _=>true
 | _=>false
def frT (n d:Int):Tr:=.tup [.int n,.int d]
def rR (t b:Int):Int:=t / (Int.gcd t b:Int)
def sJ (t b:Int):Int:=b / (Int.gcd t b:Int)
def trR (r:Pol.R3):Tr:=.tup [.int r.1,.int r.2.1,.int r.2.2]
def sk (v:Pol.R3):Tr:=.tup [frT (rR v.1 v.2.2) (sJ v.1 v.2.2),frT (rR v.2.1 v.2.2) (sJ v.2.1 v.2.2)]
theorem oR (p:Pol.R3):pln (trR p)=true:=rfl
theorem fY (p q:Pol.R3):teq (trR p) (trR q)=decide (p=q):=by
 have e:teq (trR p) (trR q)=(decide (p.1=q.1)&&(decide (p.2.1=q.2.1)&&(decide (p.2.2=q.2.2)&&true))):=rfl
 rw[e]
 by_cases h:p=q
 ·subst h;simp
 ·rw[xjr h]
  by_cases h1:p.1=q.1
  ·by_cases h2:p.2.1=q.2.1
   ·by_cases h3:p.2.2=q.2.2
    ·exact absurd (Pol.ext3 h1 h2 h3) h
    ·simp[h3]
   ·simp[h2]
  ·simp[h1]
theorem qH {α:Type}(f:α→Tr)(h:∀x,pln (f x)=true):∀l:List α,PyData.canLayAll0 (vj (l.map f))=true
 | []=>rfl
 | x::l=>by
  show((j5 (f x)).canLay0&&PyData.canLayAll0 (vj (l.map f)))=true
  rw[qH f h l,show(j5 (f x)).canLay0=true from h x];rfl
theorem lP (l:List Pol.R3)(c:Pol.R3):((l.map trR).any fun u=>teq u (trR c))=decide (c∈l):=by
 rw[Bool.eq_iff_iff,xh5,xjt]
 constructor
 ·rintro⟨u,hu,h⟩
  obtain⟨x,hx,rfl⟩:=xiP.mp hu
  rw[fY,xjt] at h
  subst h;exact hx
 ·intro h
  exact⟨trR c,xiQ h,by rw[fY];simp⟩
theorem xbh {x y:Int}(hx:0≤x)(hy:0≤y):Int.gcd y (x % y)=Int.gcd x y:=by
 obtain⟨n,rfl⟩:=Int.eq_ofNat_of_zero_le hy
 obtain⟨m,rfl⟩:=Int.eq_ofNat_of_zero_le hx
 show Nat.gcd n (((m % n:Nat):Int)).natAbs=Nat.gcd m n
 rw[Int.natAbs_natCast,Nat.gcd_comm m n,Nat.gcd_rec n m,Nat.gcd_comm]
theorem xax {t b:Int}(hb:b≠0)(h:Bd b):Bd (Int.gcd t b:Int):=by
 unfold Bd
 refine xjh ?_ h
 have:=Int.gcd_le_natAbs_right (a:=t) hb
 omega
def lZ:TSp:=fun ts KK=>∃t,ts=[t]∧KK (.bl (xd4 t))
def fN:TSp:=fun ts KK=>∃t,ts=[t]∧∃us,(t=.tup us∨t=.lst us)∧us.length<sizeLine∧KK (.bl (us.all xd4))
def xcX:TSp:=fun ts KK=>∃a b:Int,ts=[.int a,.int b]∧KK (.int (Int.gcd a b))
def xdY:TSp:=fun ts KK=>∃t b:Int,ts=[.int t,.int b]∧b≠0∧Bd b∧KK (frT (rR t b) (sJ t b))
def ni:TSp:=fun ts KK=>∃r p:Pol.R3,ts=[trR r,trR p]∧B3 r∧B3 p∧KK (.int (Pol.val r p))
def cZ:TSp:=fun ts KK=>∃r u v:Pol.R3,ts=[trR r,trR u,trR v]∧(B3k 100 r∧B3k 800 u∧B3k 800 v)∧(0<u.2.2∧0<v.2.2)∧Pol.val r u*Pol.val r v<0∧KK (trR (Pol.xA r u v))
def ahead (p q:Pol.R3):Bool:=decide (p.1*q.2.2<q.1*p.2.2∨p.1*q.2.2=q.1*p.2.2∧p.2.1*q.2.2<q.2.1*p.2.2)
def xcj:TSp:=fun ts KK=>∃p q:Pol.R3,ts=[trR p,trR q]∧B3 p∧B3 q∧KK (.bl (ahead p q))
def gU:TSp:=fun ts KK=>∃(l:List Pol.R3) (r:Pol.R3),ts=[.lst (l.map trR),trR r]∧B3k 100 r∧(∀v∈l,B3k 800 v∧0<v.2.2)∧l.length≤100000∧KK (.lst ((Pol.yP l r).map trR))
def yj (l:List Pol.R3)(s i:Nat):Nat:=if ahead (l.getD i (0,0,0)) (l.getD s (0,0,0))=true then i else s
def vQ (l:List Pol.R3):Nat:=(List.range l.length).foldl (yj l) 0
def yp (l:List Pol.R3):List Pol.R3:=l.drop (vQ l)++l.take (vQ l)
def sG:TSp:=fun ts KK=>∃l:List Pol.R3,ts=[.lst (l.map trR)]∧(∀v∈l,B3 v)∧l.length≤100000∧KK (.lst ((yp l).map trR))
structure v9 (rows:List Pol.R3):Prop where
 dir:∀r∈rows,r.1≠0∨r.2.1≠0
 sm:∀r∈rows,B3k 100 r
 len:rows.length≤10000
def pC:TSp:=fun ts KK=>∃(t:Tr) (r0 rows:List Pol.R3),ts=[.lst ((Pol.pieces r0).map trR),t]∧(t=.tup (rows.map trR)∨t=.lst (rows.map trR))∧v9 (r0++rows)∧KK (.lst ((Pol.pieces (r0++rows)).map trR))
def dX:TSp:=fun ts KK=>∃(t:Tr) (rows:List Pol.R3),ts=[t]∧(t=.tup (rows.map trR)∨t=.lst (rows.map trR))∧v9 rows∧KK (.lst ((Pol.pieces rows).map trR))
def tK:TSp:=fun ts KK=>∃l:List Pol.R3,ts=[.lst (l.map trR)]∧(∀v∈l,B3k 800 v∧0<v.2.2)∧l.length≤100000∧KK (.lst ((yp l).map sk))
def qg:TSp:=fun ts KK=>∃(t:Tr) (rows:List Pol.R3),ts=[t]∧(t=.tup (rows.map trR)∨t=.lst (rows.map trR))∧v9 rows∧KK (.lst ((yp (Pol.pieces rows)).map sk))
def gg:Tr→Option Pol.R3
 | .tup [.int a,.int b,.int c]=>some (a,b,c)
 | _=>none
def fh (t:Tr):Bool:=match gg t with | some r=>decide (r.1≠0∨r.2.1≠0) | none=>false
def xaO:TSp:=fun ts KK=>∃t,ts=[t]∧KK (.bl (fh t))
def bz:TSp:=fun ts KK=>∃(a b c d:Int) (x y:List Tr),ts=[.tup (.int a::.int b::x),.tup (.int c::.int d::y)]∧((Bd a∧Bd b)∧Bd c∧Bd d)∧KK (.int (a*d-b*c))
def xfJ:Option Pol.R3→Tr
 | some r=>trR r
 | none=>.non
def mM:TSp:=fun ts KK=>∃(r:Pol.R3) (rows:List Pol.R3) (s:Int),ts=[trR r,.tup (rows.map trR),.int s]∧(s=1∨s = -1)∧B3k 900 r∧(∀x∈rows,B3k 900 x)∧KK (xfJ (Pol.far r s rows))
def xe3:TSp:=fun ts KK=>∃(r:Pol.R3) (rows:List Pol.R3),ts=[trR r,.tup (rows.map trR)]∧B3k 900 r∧(∀x∈rows,B3k 900 x)∧KK (.bl (Pol.back r rows))
def cK:TSp:=fun ts KK=>∃rows:List Pol.R3,ts=[.tup (rows.map trR)]∧(∀x∈rows,B3k 900 x)∧KK (.bl (Pol.wX rows))
instance (r:Pol.R3):Decidable (Pol.mO r):=by unfold Pol.mO;infer_instance
def zf (t:Tr):Bool:=match gg t with | some r=>decide ((r.1≠0∨r.2.1≠0)∧Pol.mO r) | none=>false
def fR:TSp:=fun ts KK=>∃t,ts=[t]∧KK (.bl (zf t))
def nearF (n d:Int):Bool:=decide (-(12*d)≤n∧n≤12*d)
def xap:TSp:=fun ts KK=>∃fs:List (Int×Int),ts=[.tup (fs.map fun f=>frT f.1 f.2)]∧fs.length≤1000∧(∀f∈fs,Bd f.2)∧KK (.bl (fs.all fun f=>nearF f.1 f.2))
def sY (v:Pol.R3):Bool:=nearF (rR v.1 v.2.2) (sJ v.1 v.2.2)&&nearF (rR v.2.1 v.2.2) (sJ v.2.1 v.2.2)
def rowsOf:List Tr→Option (List Pol.R3)
 | []=>some []
 | t::ts=>match gg t,rowsOf ts with | some r,some rs=>some (r::rs) | _,_=>none
def xn (rows:List Pol.R3):Bool:=decide (3≤rows.length∧rows.length≤8)&&(rows.all fun r=>decide ((r.1≠0∨r.2.1≠0)∧Pol.mO r))&&Pol.wX rows&&(Pol.pieces rows).all sY
def isField:Tr→Bool
 | .tup us=>match rowsOf us with | some rows=>xn rows | none=>false
 | _=>false
def cj:TSp:=fun ts KK=>∃t,ts=[t]∧KK (.bl (isField t))
end L2
namespace L2
open PySem PySem.Spec PyProof.Rows
theorem bM {α:Type}(ts:List α)(s:Nat):mN ts (some (s:Int)) none=ts.drop s:=by
 unfold mN
 rw[HT.oN,HT.cY]
 by_cases h:s≤ts.length
 ·rw[Nat.min_eq_left h,xi9 (by rw[xis];omega)]
 ·rw[Nat.min_eq_right (by omega),List.drop_eq_nil_of_le (xjd _),List.drop_eq_nil_of_le (by omega)];simp
theorem xcc {α:Type}(ts:List α)(s:Nat):mN ts none (some (s:Int))=ts.take s:=by
 unfold mN
 rw[HT.oN,HT.cY,List.drop_zero,Nat.sub_zero]
 by_cases h:s≤ts.length
 ·rw[Nat.min_eq_left h]
 ·rw[Nat.min_eq_right (by omega),xi9 (xjd _),xi9 (by omega)]
theorem aT {α:Type}{f:α→Tr}{l:List α}{i:Nat}{x:Tr}(h:(qB (l.map f))[i]? = some x):∃v,l[i]? = some v∧x=.tup [.int i,f v]:=by
 have hi:i<l.length:=by
  have:=(xik.mp h).1
  unfold qB at this
  rw[uq,xit] at this
  exact this
 have e:(l.map f)[i]? = some (f l[i]):=by rw[xil,xii hi];rfl
 unfold qB at h
 rw[kY e] at h
 refine⟨l[i],xii hi,?_⟩
 have:=xjp h
 rw[←this];simp
theorem jf {α:Type}(f:α→Tr)(l:List α):(qB (l.map f)).length=l.length:=by unfold qB;rw[uq,xit]
theorem p8 {l:List Pol.R3}{i:Nat}{v:Pol.R3}(h:l[i]? = some v):∃u,u∈l∧(Pol.cyc l)[i]? = some (u,v)∧atT (l.map trR) ((i:Int)-1)=some (trR u):=by
 obtain⟨u,hu,hc,hw⟩:=Pol.xd8 h
 refine⟨u,hu,hc,?_⟩
 rcases hw with ⟨rfl,ys,e⟩ | ⟨h0,e⟩
 ·rw[e,xiB]
  exact bZ (ys.map trR) (trR u)
 ·rw[show((i:Int)-1)=((i-1:Nat):Int) by omega,fE,xil,e];rfl
theorem oz {Ls l:List Pol.R3}(g:Pol.Good Ls l){k:Nat}(hs:∀s∈Ls,B3k k s):∀v∈l,B3k (2*k+1) v:=fun v hv=>by
 obtain⟨s,hs1,t,ht1,e1,e2,hn⟩:=g.two v hv
 have z:=g.bot v hv
 obtain⟨b1,b2,b3⟩:=Pol.j1 (g.prim v hv) z e1 e2 hn
 have S:=hs s hs1
 have T:=hs t ht1
 have m:∀ {x y z w:Int},Bk k x→Bk k y→Bk k z→Bk k w→Bk (2*k+1) (x*y-z*w):=fun h1 h2 h3 h4=>((h1.mul h2).sub (h3.mul h4)).mono (by omega)
 refine⟨⟨(m S.2 T.1.2 T.2 S.1.2).le b2,(m T.2 S.1.1 S.2 T.1.1).le b3⟩,?_⟩
 have:=m S.1.1 T.1.2 S.1.2 T.1.1
 refine this.le ?_
 unfold Pol.turn at b1
 omega
theorem oU:∀s∈Pol.xaI,B3k 100 s:=fun s hs=>by
 have h:s∈Pol.xaI:=hs
 simp only[Pol.xaI,xiJ,xiZ,xjw] at h
 unfold B3k Bk
 rcases h with rfl | rfl | rfl | rfl<;>simp only[Pol.FAR]<;>decide
theorem v9.good {rows:List Pol.R3}(h:v9 rows)(i:Nat):Pol.Good (Pol.xaI++rows.take i) ((rows.take i).foldl Pol.yP Pol.box):=Pol.wq (rows:=rows.take i) fun s hs=>h.dir s (xiS hs)
theorem v9.small {rows:List Pol.R3}(h:v9 rows)(i:Nat):∀v∈(rows.take i).foldl Pol.yP Pol.box,B3k 800 v∧0<v.2.2:=fun v hv=>by
 have g:=h.good i
 refine⟨(oz g (k:=100) (fun s hs=>?_) v hv).mono (by decide),g.bot v hv⟩
 rcases xiG.mp hs with z | z
 ·exact oU s z
 ·exact h.sm s (xiS z)
theorem v9.plen {rows:List Pol.R3}(h:v9 rows)(i:Nat):((rows.take i).foldl Pol.yP Pol.box).length≤100000:=by
 have:=Pol.sf (rows:=rows.take i) fun s hs=>h.dir s (xiS hs)
 unfold Pol.pieces at this
 have l:(rows.take i).length≤rows.length:=by rw[xiy];omega
 have:=h.len
 omega
theorem ue {l:List Pol.R3}{v:Pol.R3}(h:v∈yp l):v∈l:=by
 unfold yp at h
 rcases xiG.mp h with h | h
 ·exact List.mem_of_mem_drop h
 ·exact xiS h
theorem aS (p:Pol.R3→Bool)(l:List Pol.R3):(yp l).all p=l.all p:=by
 unfold yp
 rw[List.all_append,Bool.and_comm,←List.all_append,xi7]
theorem vS (l:List Pol.R3):(yp l).length=l.length:=by
 unfold yp
 rw[xiq,xis,xiy];omega
theorem xe4 (a b c d:Int):HT.lexLt [a,b] [c,d]=decide (a<c∨a=c∧b<d):=by
 simp only[HT.lexLt]
 by_cases h:a<c
 ·simp[h];omega
 ·by_cases h2:a=c
  ·subst h2;simp;omega
  ·simp[h,h2]
theorem lJ {α:Type}{l:List α}{n:Nat}(e:l.length=n)(h:n≤1000000:=by decide):l.length<sizeLine:=sqz (by omega)
theorem xdl {i z:Int}(hz:0<z)(h:Bd z):Bd (sJ i z):=by
 unfold sJ
 have g:(0:Int)<(Int.gcd i z:Int):=by have:=xhD i (show z≠0 by omega);omega
 have h1:=Int.ediv_le_self (Int.gcd i z:Int) (show 0≤z by omega)
 have h2:=Int.ediv_nonneg (show 0≤z by omega) (show 0≤(Int.gcd i z:Int) by omega)
 unfold Bd at *
 omega
theorem qK {t:Tr}{r:Pol.R3}(h:gg t=some r):t=trR r:=by
 unfold gg at h
 split at h
 ·cases h;rfl
 ·cases h
theorem jV (rows:List Pol.R3):rowsOf (rows.map trR)=some rows:=by
 induction rows with
 | nil=>rfl
 | cons r rows ih =>
  show(match gg (trR r),rowsOf (rows.map trR) with | some r,some rs=>some (r::rs) | _,_=>none)=_
  rw[ih];rfl
theorem vP:∀ {us:List Tr} {rows:List Pol.R3},rowsOf us=some rows→us=rows.map trR
 | [],rows,h=>by cases h;rfl
 | t::us,rows,h=>by
  unfold rowsOf at h
  cases e1:gg t with
  | none=>rw[e1] at h;cases h
  | some r =>
   cases e2:rowsOf us with
   | none=>rw[e1,e2] at h;cases h
   | some rs =>
    rw[e1,e2] at h
    cases h
    rw[qK e1,vP e2];rfl
theorem n6 {us:List Tr}(h:us.all zf=true):∃rows:List Pol.R3,us=rows.map trR∧∀r∈rows,(r.1≠0∨r.2.1≠0)∧Pol.mO r:=by
 induction us with
 | nil=>exact⟨[],rfl,fun r hr=>by simp at hr⟩
 | cons t us ih =>
  rw[List.all_cons,xhq] at h
  obtain⟨rows,e,hr⟩:=ih h.2
  have ht:=h.1
  unfold zf at ht
  cases e1:gg t with
  | none=>rw[e1] at ht;cases ht
  | some r =>
   rw[e1] at ht
   have ht:=xjv ht
   refine⟨r::rows,by rw[qK e1,e];rfl,fun x hx=>?_⟩
   rcases xiJ.mp hx with z | z
   ·rw[z];exact ht
   ·exact hr x z
theorem dQ {r:Pol.R3}(h:Pol.mO r):B3k 100 r:=by
 obtain⟨⟨⟨a,b⟩,c,d⟩,e,f⟩:=h
 refine⟨⟨?_,?_⟩,?_⟩<;>unfold Bk<;>omega
theorem dG (rows:List Pol.R3):(rows.map trR).all zf=rows.all fun r=>decide ((r.1≠0∨r.2.1≠0)∧Pol.mO r):=by
 rw[List.all_map];rfl
theorem og {us:List Tr}(h:us.all zf=false):isField (.tup us)=false:=by
 show(match rowsOf us with | some rows=>xn rows | none=>false)=false
 cases e:rowsOf us with
 | none=>rfl
 | some rows =>
  rw[vP e,dG] at h
  show xn rows=false
  unfold xn
  rw[h];simp
end L2
namespace Fra
def gd (a b:Int):Int:=(Int.gcd a b:Int)
def low (n d:Int):Int×Int:=(n / gd n d,d / gd n d)
theorem tR (a b:Int):0≤gd a b:=Int.natCast_nonneg _
theorem mr {a b:Int}(h:a≠0∨b≠0):0<gd a b:=by
 unfold gd
 have:0<Int.gcd a b:=by
  rcases h with h | h
  ·exact Int.gcd_pos_of_ne_zero_left _ h
  ·exact xhD _ h
 omega
theorem fi (a b:Int):gd a b ∣ a:=xhB ..
theorem ja (a b:Int):gd a b ∣ b:=xhC ..
theorem xc7 (a:Int):gd a 0=if a<0 then -a else a:=by
 unfold gd
 rw[Int.gcd_zero_right]
 split<;>omega
theorem xbI {a b c d:Int}(h:∀k:Int,(k ∣ a∧k ∣ b)↔(k ∣ c∧k ∣ d)):gd a b=gd c d:=by
 have e1:gd a b ∣ gd c d:=xhv ((h _).mp ⟨fi a b,ja a b⟩).1 ((h _).mp ⟨fi a b,ja a b⟩).2
 have e2:gd c d ∣ gd a b:=xhv ((h _).mpr ⟨fi c d,ja c d⟩).1 ((h _).mpr ⟨fi c d,ja c d⟩).2
 exact Int.dvd_antisymm (tR _ _) (tR _ _) e1 e2
theorem xdp (a b q:Int):gd b (a-b*q)=gd a b:=by
 refine xbI fun k=>⟨fun⟨h1,h2⟩=>⟨?_,h1⟩,fun⟨h1,h2⟩=>⟨h2,?_⟩⟩
 ·have:=Int.dvd_add h2 (Int.dvd_mul_of_dvd_left (c:=q) h1)
  rwa [Int.sub_add_cancel] at this
 ·exact Int.dvd_sub h1 (Int.dvd_mul_of_dvd_left h2)
theorem xdW (a b:Int):gd b (a.fmod b)=gd a b:=by
 rw[Int.fmod_def];exact xdp a b _
theorem oh {a b:Int}(h:b≠0):(a.fmod b).natAbs<b.natAbs:=by
 by_cases hb:0<b
 ·have h1:=Int.fmod_nonneg_of_pos a hb
  have h2:=Int.fmod_lt_of_pos a hb
  omega
 ·have hn:0 < -b:=by omega
  have e:a.fmod b = - ((-a).fmod (-b)):=by rw[Int.neg_fmod_neg];omega
  have h1:=Int.fmod_nonneg_of_pos (-a) hn
  have h2:=Int.fmod_lt_of_pos (-a) hn
  omega
theorem xay (n d:Int):(low n d).1*gd n d=n:=Int.ediv_mul_cancel (fi n d)
theorem bI (n d:Int):(low n d).2*gd n d=d:=Int.ediv_mul_cancel (ja n d)
theorem ux (n d:Int):(low n d).1*d=n*(low n d).2:=by
 have h1:=xay n d
 have h2:=bI n d
 grind
theorem wG {n d:Int}(h:0<d):0<(low n d).2:=by
 have h2:=bI n d
 have g:=mr (a:=n) (b:=d) (.inr (by omega))
 generalize gd n d=k at *
 generalize (low n d).2=m at *
 by_cases hm:0<m
 ·exact hm
 ·have:m*k≤0:=Int.mul_nonpos_of_nonpos_of_nonneg (by omega) (by omega)
  omega
theorem aO {n d:Int}(h:0<d):Int.gcd (low n d).1 (low n d).2=1:=by
 have g:=mr (a:=n) (b:=d) (.inr (by omega))
 unfold low gd at *
 exact Int.gcd_ediv_gcd_ediv_gcd (by omega)
theorem xaW {b a d:Int}(h:b ∣ a*d)(g:Int.gcd b a=1):b ∣ d:=by
 have h':b.natAbs ∣ a.natAbs*d.natAbs:=by rw[←xh0];exact Int.natAbs_dvd_natAbs.mpr h
 exact Int.natAbs_dvd_natAbs.mp (Nat.Coprime.dvd_of_dvd_mul_left (show Nat.Coprime b.natAbs a.natAbs from g) h')
theorem dZ {a b c d:Int}(h1:Int.gcd a b=1)(h2:Int.gcd c d=1)(hb:0<b)(hd:0<d)(e:a*d=c*b):a=c∧b=d:=by
 have k1:b ∣ d:=by
  have:b ∣ a*d:=⟨c,by rw[e,xhL]⟩
  exact xaW this (by rw[Int.gcd_comm];exact h1)
 have k2:d ∣ b:=by
  have:d ∣ c*b:=⟨a,by rw[←e,xhL]⟩
  exact xaW this (by rw[Int.gcd_comm];exact h2)
 have ebd:b=d:=Int.dvd_antisymm (by omega) (by omega) k1 k2
 subst ebd
 exact⟨xhy (by omega) e,rfl⟩
theorem pL {n d n' d':Int}(h:0<d)(h':0<d')(e:n*d'=n'*d):low n d=low n' d':=by
 have c1:=aO (n:=n) h
 have c2:=aO (n:=n') h'
 have p1:=wG (n:=n) h
 have p2:=wG (n:=n') h'
 have x1:=ux n d
 have x2:=ux n' d'
 have key:(low n d).1*(low n' d').2=(low n' d').1*(low n d).2:=by
  generalize (low n d).1=a at *
  generalize (low n d).2=b at *
  generalize (low n' d').1=c at *
  generalize (low n' d').2=f at *
  have:(a*f)*(d*d')=(c*b)*(d*d'):=by grind
  exact xhy (by have:=xhX h h';omega) this
 obtain⟨u,v⟩:=dZ c1 c2 p1 p2 key
 exact Prod.ext u v
theorem xcN {a b x0 x1 y0 y1:Int}(hx:0<x1)(hy:0<y1) :
  low ((low (a*x0) x1).1*(low (b*y0) y1).2+(low (b*y0) y1).1*(low (a*x0) x1).2) ((low (a*x0) x1).2*(low (b*y0) y1).2)=low (a*x0*y1+b*y0*x1) (x1*y1):=by
 have p1:=wG (n:=a*x0) hx
 have p2:=wG (n:=b*y0) hy
 have e1:=ux (a*x0) x1
 have e2:=ux (b*y0) y1
 refine pL (xhX p1 p2) (xhX hx hy) ?_
 generalize (low (a*x0) x1).1=p at *
 generalize (low (a*x0) x1).2=q at *
 generalize (low (b*y0) y1).1=r at *
 generalize (low (b*y0) y1).2=t at *
 grind
end Fra
namespace L2
open PySem PySem.Spec PyProof.Rows
abbrev F2:=Int×Int
abbrev P2:=F2×F2
def fT (f:F2):Tr:=frT f.1 f.2
def pT (p:P2):Tr:=.tup [fT p.1,fT p.2]
def lfr (t b:Int):F2:=if b<0 then Fra.low (-t) (-b) else Fra.low t b
theorem uU {t b:Int}(h:0<b):lfr t b=Fra.low t b:=by unfold lfr;rw[if_neg (by omega)]
theorem xc9 {t b:Int}(h:b<0):lfr t b=Fra.low (-t) (-b):=by unfold lfr;rw[if_pos h]
def plc (v:Pol.R3):P2:=(Fra.low v.1 v.2.2,Fra.low v.2.1 v.2.2)
def vY (r:Pol.R3)(p:P2):F2:=lfr (r.1*p.1.1*p.2.2+r.2.1*p.2.1*p.1.2) (p.1.2*p.2.2)
def tJ (f g:F2):Bool:=decide (f.1*g.2<g.1*f.2)
def xa3 (f g:F2):F2:=lfr (f.1*g.1) (f.2*g.2)
def aQ (f g:F2):F2:=lfr (f.1*g.2+g.1*f.2) (f.2*g.2)
def xeM (r:Pol.R3)(p:P2):Bool:=decide ((vY r p).1≤r.2.2*(vY r p).2)
structure Fk (k:Nat)(f:F2):Prop where
 top:Bk k f.1
 bot:Bk k f.2
 pos:0<f.2
theorem Fk.mono {k m:Nat}{f:F2}(h:Fk k f)(hk:k≤m):Fk m f:=⟨h.top.mono hk,h.bot.mono hk,h.pos⟩
theorem me {k:Nat}{t b:Int}(h:0<b)(ht:Bk k t)(hb:Bk k b):Fk k (Fra.low t b):=by
 have g:=Fra.mr (a:=t) (b:=b) (.inr (by omega))
 refine⟨ht.le ?_,hb.le ?_,Fra.wG h⟩
 ·have e:=Fra.xay t b
  generalize (Fra.low t b).1=x at *
  generalize Fra.gd t b=y at *
  rw[←e,xh0]
  exact Nat.le_mul_of_pos_right _ (by omega)
 ·have e:=Fra.bI t b
  generalize (Fra.low t b).2=x at *
  generalize Fra.gd t b=y at *
  have:b.natAbs=x.natAbs*y.natAbs:=by rw[←xh0,e]
  rw[this]
  exact Nat.le_mul_of_pos_right _ (by omega)
theorem sD {k:Nat}{t b:Int}(h:b≠0)(ht:Bk k t)(hb:Bk k b):Fk k (lfr t b):=by
 unfold lfr
 split
 ·exact me (by omega) ht.neg hb.neg
 ·exact me (by omega) ht hb
structure Sd (f:F2)(N D:Int):Prop where
 pf:0<f.2
 pd:0<D
 e:f.1*D=N*f.2
theorem sj {t b:Int}(h:0<b):Sd (Fra.low t b) t b:=⟨Fra.wG h,h,Fra.ux t b⟩
theorem ly {f:F2}(h:0<f.2):Sd f f.1 f.2:=⟨h,h,rfl⟩
theorem Sd.lfr {f:F2}{t b N D:Int}(hb:0<b)(hD:0<D)(e:t*D=N*b)(hf:f=L2.lfr t b):Sd f N D:=by
 subst hf
 rw[uU hb]
 refine⟨Fra.wG hb,hD,?_⟩
 have h:=Fra.ux t b
 generalize (Fra.low t b).1=x at *
 generalize (Fra.low t b).2=y at *
 have:(x*D)*b=(N*y)*b:=by grind
 exact xhy (by omega) this
theorem qI {a b k:Int}(hk:0<k):a*k≤b*k↔a≤b:=⟨fun h=>xhG h hk,fun h=>xhQ h (by omega)⟩
theorem jU {a b k:Int}(hk:0<k):a*k<b*k↔a<b:=⟨fun h=>xhI h (by omega),fun h=>xhR h hk⟩
theorem dY {a b k:Int}(hk:0<k):a*k=b*k↔a=b:=⟨fun h=>xhy (by omega) h,fun h=>by rw[h]⟩
theorem hU {a k:Int}(hk:0<k):a*k<0↔a<0:=by
 have:=jU (a:=a) (b:=0) hk
 rwa [xh1] at this
theorem Sd.le {f:F2}{N D:Int}(h:Sd f N D)(c:Int):f.1≤c*f.2↔N≤c*D:=by
 have e:=h.e
 rw[←qI h.pd,e,show c*f.2*D=(c*D)*f.2 by grind,qI h.pf]
theorem Sd.neg {f:F2}{N D:Int}(h:Sd f N D):f.1<0↔N<0:=by
 have e:=h.e
 rw[←hU h.pd,e,hU h.pf]
theorem Sd.lt {f g:F2}{N D M E:Int}(h:Sd f N D)(h':Sd g M E):f.1*g.2<g.1*f.2↔N*E<M*D:=by
 have e:=h.e;have e':=h'.e
 rw[←jU (Pol.pp h.pd h'.pd),show f.1*g.2*(D*E)=(N*E)*(f.2*g.2) by grind,show g.1*f.2*(D*E)=(M*D)*(f.2*g.2) by grind,jU (Pol.pp h.pf h'.pf)]
theorem Sd.eq {f g:F2}{N D M E:Int}(h:Sd f N D)(h':Sd g M E):f.1*g.2=g.1*f.2↔N*E=M*D:=by
 have e:=h.e;have e':=h'.e
 rw[←dY (Pol.pp h.pd h'.pd),show f.1*g.2*(D*E)=(N*E)*(f.2*g.2) by grind,show g.1*f.2*(D*E)=(M*D)*(f.2*g.2) by grind,dY (Pol.pp h.pf h'.pf)]
section
variable {p q v w:Pol.R3}
theorem sdx (h:0<v.2.2):Sd (plc v).1 v.1 v.2.2:=sj h
theorem sdy (h:0<v.2.2):Sd (plc v).2 v.2.1 v.2.2:=sj h
theorem m6 (r:Pol.R3)(h:0<v.2.2):Sd (vY r (plc v)) (r.1*v.1+r.2.1*v.2.1) v.2.2:=by
 have a:=sdx h;have b:=sdy h
 refine Sd.lfr (Pol.pp a.pf b.pf) h ?_ rfl
 have:=a.e;have:=b.e
 grind
theorem xeC {k:Nat}(h:0<v.2.2)(hb:B3k k v):Fk k (plc v).1∧Fk k (plc v).2:=⟨me h hb.1.1 hb.2,me h hb.1.2 hb.2⟩
end
theorem xfe (p:P2):pln (pT p)=true:=rfl
end L2
namespace L2
open PySem PySem.Spec PyProof.Rows
theorem uO {α:Type}{dg:DG}{dc:DT}{de:DE}{τi:TSt}{KK:List Tr→Prop}{f:α→Tr}{l:List α}(p:α→Bool)(g:α→Tr)
  (h1:∀a∈l,∀(N:Tr→Prop) (M:Prop),(p a=true→N (g a))→(p a=false→M)→dg (f a) τi fun τ2=>dc τ2 fun b=>if b=true then de τ2 N else M) (h0:KK ((l.filter p).map g)):tj dg dc de τi KK (l.map f) []:=by
 refine qU (fun ys acc=>∃zs us,l=zs++us∧ys=us.map f∧acc=(zs.filter p).map g) (fun acc ⟨zs,us,e,ey,e2⟩=>?_) (fun x ys acc N ⟨zs,us,e,ey,e2⟩ hN=>?_) _ [] ⟨[],l,rfl,rfl,rfl⟩
 ·cases us with
  | nil=>rw[xh7] at e;subst e e2;exact h0
  | cons u us=>cases ey
 ·cases us with
  | nil=>cases ey
  | cons u us =>
   injection ey with ex ey
   subst ex ey e2
   have hu:u∈l:=by rw[e];simp
   refine h1 u hu (fun y=>N ((zs.filter p).map g++[y])) (N ((zs.filter p).map g)) (fun hp=>hN _ ⟨zs++[u],us,by rw[e];simp,rfl,?_⟩) (fun hp=>hN _ ⟨zs++[u],us,by rw[e];simp,rfl,?_⟩)
   ·rw[List.filter_append,xib hp];simp
   ·rw[List.filter_append,xia (by rw[hp];exact xhr)];simp
theorem wO {α:Type}{dg:DG}{de:DE}{τi:TSt}{KK:List Tr→Prop}{f:α→Tr}{l:List α}(g:α→Tr)(h1:∀a∈l,∀N:Tr→Prop,N (g a)→dg (f a) τi fun τ2=>de τ2 N)(h0:KK (l.map g)):tj dg mY de τi KK (l.map f) []:=by
 refine qU (fun ys acc=>∃zs us,l=zs++us∧ys=us.map f∧acc=zs.map g) (fun acc ⟨zs,us,e,ey,e2⟩=>?_) (fun x ys acc N ⟨zs,us,e,ey,e2⟩ hN=>?_) _ [] ⟨[],l,rfl,rfl,rfl⟩
 ·cases us with
  | nil=>rw[xh7] at e;subst e e2;exact h0
  | cons u us=>cases ey
 ·cases us with
  | nil=>cases ey
  | cons u us =>
   injection ey with ex ey
   subst ex ey e2
   exact h1 u (by rw[e];simp) (fun y=>N (zs.map g++[y])) (hN _ ⟨zs++[u],us,by rw[e];simp,rfl,by simp⟩)
theorem xdn (xs:List Tr):teq (.lst xs) (.lst [])=xs.isEmpty:=by cases xs<;>rfl
theorem ay {xs:List Tr}(h:PyData.canLayAll0 (vj xs)=true):xd5 (.lst xs) (.lst []):=⟨h,rfl,xjf (Nat.min_le_right _ _) (by decide)⟩
theorem xc_ {neg:Bool}{xs:List Tr}{KK:Tr→Prop}(h:PyData.canLayAll0 (vj xs)=true)(k:KK (.bl (if neg then !xs.isEmpty else xs.isEmpty))):xff neg (.lst xs) (.lst []) KK:=⟨ay h,by rw[xdn];exact k⟩
theorem filter_empty {α:Type}(p:α→Bool)(l:List α):(l.filter p).isEmpty=l.all fun x=>!p x:=by
 induction l with
 | nil=>rfl
 | cons x l ih =>
  by_cases h:p x=true
  ·rw[xib h,List.all_cons,h];rfl
  ·rw[xia h,ih,List.all_cons]
   have:p x=false:=by simpa using h
   rw[this];rfl
def o_:TSp:=fun ts KK=>∃t b:Int,ts=[.int t,.int b]∧b≠0∧Bd b∧KK (fT (lfr t b))
def xcQ:TSp:=fun ts KK=>∃(r:Pol.R3) (p:P2),ts=[trR r,pT p]∧B3k 200 r∧Fk 600 p.1∧Fk 600 p.2∧KK (.bl (xeM r p))
def xcz:TSp:=fun ts KK=>∃f g:F2,ts=[fT f,fT g]∧Fk 900 f∧Fk 900 g∧KK (fT (aQ f g))
def xaj:TSp:=fun ts KK=>∃f g:F2,ts=[fT f,fT g]∧Fk 900 f∧Fk 900 g∧KK (fT (xa3 f g))
def Pk (k:Nat)(p:P2):Prop:=Fk k p.1∧Fk k p.2
structure xfE (l:List Pol.R3):Prop where
 ccw:Pol.Ccw l
 pos:∀v∈l,0<v.2.2
 prim:∀v∈l,Pol.vi v=1
 sm:∀v∈l,B3k 190 v
 least:Pol.t4 l
 len:l.length≤900
structure uH (rows:List Pol.R3):Prop where
 fine:Pol.xdj rows rows
 len:rows.length≤8
def zR (rows:List Pol.R3):List Pol.R3:=yp (Pol.pieces rows)
theorem xac {t b:Int}(h:b≠0):0<(lfr t b).2:=by
 unfold lfr
 split
 ·exact Fra.wG (by omega)
 ·exact Fra.wG (by omega)
theorem md (p q:Pol.R3):ahead p q=true↔Pol.Ah p q:=by unfold ahead Pol.Ah;exact decide_eq_true_iff
theorem aC (l:List Pol.R3)(hl:l≠[]):∀n,n≤l.length→(List.range n).foldl (yj l) 0<l.length
 | 0,_=>by simp;exact List.length_pos_iff.mpr hl
 | n+1,h=>by
  rw[List.range_succ,xie]
  have ih:=aC l hl n (by omega)
  generalize (List.range n).foldl (yj l) 0=m at ih ⊢
  show yj l m n<_
  unfold yj
  split<;>omega
theorem cM (l:List Pol.R3)(hp:∀v∈l,0<v.2.2)(hl:l≠[]):∀n,n≤l.length→∀j,j<n→¬Pol.Ah (l.getD j (0,0,0)) (l.getD ((List.range n).foldl (yj l) 0) (0,0,0))
 | 0,_=>fun j hj=>by omega
 | n+1,h=>fun j hj=>by
  rw[List.range_succ,xie]
  have ih:=cM l hp hl n (by omega)
  have s:=aC l hl n (by omega)
  have g:∀i,i<l.length→0<(l.getD i (0,0,0)).2.2:=fun i hi=>by
   rw[xig,xii hi];exact hp _ (xip hi)
  generalize (List.range n).foldl (yj l) 0=m at ih s ⊢
  show ¬Pol.Ah _ (l.getD (yj l m n) (0,0,0))
  by_cases c:ahead (l.getD n (0,0,0)) (l.getD m (0,0,0))=true
  ·have e:yj l m n=n:=by unfold yj;rw[if_pos c]
   rw[e]
   have c:=(md _ _).mp c
   by_cases hjn:j=n
   ·rw[hjn];exact Pol.Ah.irrefl _
   ·intro z
    exact ih j (by omega) (z.trans (g j (by omega)) (g n (by omega)) (g m s) c)
  ·have e:yj l m n=m:=by unfold yj;rw[if_neg c]
   rw[e]
   by_cases hjn:j=n
   ·rw[hjn];exact fun z=>c ((md _ _).mpr z)
   ·exact ih j (by omega)
theorem dy {l:List Pol.R3}(hp:∀v∈l,0<v.2.2):Pol.t4 (yp l):=by
 intro h t e v hv
 have hl:l≠[]:=fun z=>by rw[z] at e;unfold yp at e;simp at e
 have s:=aC l hl l.length (xjd _)
 have ok:=cM l hp hl l.length (xjd _)
 have hh:h=l.getD (vQ l) (0,0,0):=by
  unfold yp at e
  rw[xh9 (show vQ l<l.length from s),xh8] at e
  injection e with e1 e2
  rw[←e1,xig,xii (show vQ l<l.length from s)];rfl
 have hv:=ue hv
 obtain⟨j,hj,rfl⟩:=xiO.mp hv
 have:=ok j hj
 rw[hh]
 rw[xig,xii hj] at this
 exact this
theorem jX {l:List Pol.R3}{v:Pol.R3}:v∈yp l↔v∈l:=by
 unfold yp
 rw[xiG,Or.comm,←xiG,xi7]
theorem aG {l:List Pol.R3}(h:Pol.Ccw l):Pol.Ccw (yp l):=by
 unfold yp
 apply Pol.Ccw.rot
 rw[xi7];exact h
theorem uH.rows {rows:List Pol.R3}(h:uH rows):v9 rows:=⟨h.fine.dir,fun r hr=>dQ (h.fine.fr r hr),by have:=h.len;omega⟩
theorem uK {r:Pol.R3}(h:Pol.mO r):B3k 10 r:=by
 obtain⟨⟨⟨a,b⟩,c,d⟩,e,f⟩:=h
 refine⟨⟨?_,?_⟩,?_⟩<;>unfold Bk<;>omega
theorem uH.corner {rows:List Pol.R3}(h:uH rows){v:Pol.R3}(hv:v∈zR rows):(0<v.2.2∧Pol.vi v=1∧Pol.IsC rows v)∧B3k 21 v:=by
 have hv:v∈Pol.pieces rows:=ue hv
 have c:=h.fine.corner hv
 refine⟨c,?_⟩
 obtain⟨hz,g,⟨_,s,hs,t,ht,e1,e2,hn⟩⟩:=c
 obtain⟨b1,b2,b3⟩:=Pol.j1 g hz e1 e2 hn
 have S:=uK (h.fine.fr s hs)
 have T:=uK (h.fine.fr t ht)
 have m:∀ {x y z w:Int},Bk 10 x→Bk 10 y→Bk 10 z→Bk 10 w→Bk 21 (x*y-z*w):=fun h1 h2 h3 h4=>(h1.mul h2).sub (h3.mul h4)
 refine⟨⟨(m S.2 T.1.2 T.2 S.1.2).le b2,(m T.2 S.1.1 S.2 T.1.1).le b3⟩,?_⟩
 refine(m S.1.1 T.1.2 S.1.2 T.1.1).le ?_
 unfold Pol.turn at b1
 omega
theorem uH.ring {rows:List Pol.R3}(h:uH rows):xfE (zR rows) where
 ccw:=aG (Pol.wq h.fine.dir).ccw
 pos:=fun v hv=>(h.corner hv).1.1
 prim:=fun v hv=>(h.corner hv).1.2.1
 sm:=fun v hv=>(h.corner hv).2.mono (by decide)
 least:=dy (Pol.wq h.fine.dir).bot
 len:=by
  unfold zR
  rw[vS]
  have:=Pol.sf h.fine.dir
  have:=h.len
  omega
end L2
namespace L2
open PySem PySem.Spec PyProof.Rows
theorem xbp {r:Pol.R3}{p:P2}(hx:Fk 600 p.1)(hy:Fk 600 p.2)(hr:B3k 200 r):Bd (vY r p).2:=by
 unfold vY
 have:=sD (k:=1500) (t:=r.1*p.1.1*p.2.2+r.2.1*p.2.1*p.1.2) (b:=p.1.2*p.2.2) (by have:=Pol.pp hx.pos hy.pos;omega)
  (((hr.1.1.mul hx.top |>.mul hy.bot).add (hr.1.2.mul hy.top |>.mul hx.bot)).mono (by decide)) ((hx.bot.mul hy.bot).mono (by decide))
 exact this.bot.bd
end L2
namespace L2
open PySem PySem.Spec PyProof.Rows
theorem xK {A B:DS}{G:fj}{τ:TSt}(P:TSt→Prop)(hB:∀ τ',P τ'→B G τ')(hA:∀N:TSt→Prop,(∀ τ',P τ'→N τ')→A { G with nx:=N } τ):xeD A B G τ:=hA (B G) hB
theorem zU {di:DI}{dg:DG}{body:DS}{G:fj}{τ:TSt}(all:List Tr)(W:Nat→TSt→Prop)(hd:∀KK:List Tr→Prop,KK all→di τ KK)(w0:W 0 τ)
  (h1:∀i x τ (N:TSt→Prop),all[i]? = some x→W i τ→(∀ τ',W (i+1) τ'→N τ')→dg x τ fun τ'=>body { G with nx:=N,ct:=N,bk:=G.nx } τ')
  (h0:∀ τ,W all.length τ→G.nx τ):xeE di dg body G τ:=hd _ (ud W w0 h1 h0)
abbrev TV9:=TV×TV×TV×TV×TV×TV×TV×TV×TV
theorem cO {α β:Type}(f:α→β)(l:List α)(x:α):(l++[x]).map f=l.map f++[f x]:=by rw[xiB];rfl
theorem w_ {i:Int}(h:-1000000≤i∧i≤1000000):Bd i:=xas (by omega) (by omega)
theorem za {i j:Int}(h:-1000000≤i∧i≤1000000)(h':-1000000≤j∧j≤1000000):CM i j:=⟨w_ h,w_ h'⟩
theorem tk {m:Int}(h:0<m∧m<1000000):0<m∧m<2 ^ 128:=⟨h.1,by omega⟩
structure LF0 (rows:List Pol.R3):Prop where
 l3:3≤rows.length
 l8:rows.length≤8
 sm:∀r∈rows,((-14≤r.1∧r.1≤14)∧(-14≤r.2.1∧r.2.1≤14))∧(-100≤r.2.2∧r.2.2≤100)
 dir:∀r∈rows,r.1≠0∨r.2.1≠0
 gr:Pol.GR rows
 near:∀p:Pol.R3,0<p.2.2→(∀r∈rows,Pol.val r p≤0)→(-(9*p.2.2)≤p.1∧p.1≤9*p.2.2)∧(-(9*p.2.2)≤p.2.1∧p.2.1≤9*p.2.2)
structure LF (rows:List Pol.R3):Prop where
 l3:3≤rows.length
 l8:rows.length≤8
 sm:∀r∈rows,((-14≤r.1∧r.1≤14)∧(-14≤r.2.1∧r.2.1≤14))∧(-200≤r.2.2∧r.2.2≤200)
 dir:∀r∈rows,r.1≠0∨r.2.1≠0
 gr:Pol.GR rows
 near:∀p:Pol.R3,0<p.2.2→(∀r∈rows,Pol.val r p≤0)→(-(12*p.2.2)≤p.1∧p.1≤12*p.2.2)∧(-(12*p.2.2)≤p.2.1∧p.2.1≤12*p.2.2)
def o9:TSp:=fun ts KK=>ts=[]∧∀rows,LF rows→KK (.tup (rows.map trR))
def aP (u v:Int)(r:Pol.R3):Pol.R3:=(r.1,r.2.1,r.2.2+r.1*u+r.2.1*v)
theorem cX {a b m n:Int}(h1:-m≤a)(h2:a≤m)(h3:-n≤b)(h4:b≤n)(hm:0≤m)(hn:0≤n):-(m*n)≤a*b∧a*b≤m*n:=by
 have key:(a*b).natAbs≤(m*n).natAbs:=by
  rw[xh0,xh0]
  exact Nat.mul_le_mul (by omega) (by omega)
 have:=Pol.pz hm hn
 omega
theorem LF0.moved {rows:List Pol.R3}(h:LF0 rows){u v:Int}(hu:-3≤u∧u≤3)(hv:-3≤v∧v≤3):LF (rows.map (aP u v)) where
 l3:=by rw[xit];exact h.l3
 l8:=by rw[xit];exact h.l8
 sm:=fun r hr=>by
  obtain⟨s,hs,rfl⟩:=xiP.mp hr
  obtain⟨⟨⟨a1,a2⟩,b1,b2⟩,c1,c2⟩:=h.sm s hs
  have x:=cX a1 a2 hu.1 hu.2 (by decide) (by decide)
  have y:=cX b1 b2 hv.1 hv.2 (by decide) (by decide)
  simp only[aP]
  omega
 dir:=fun r hr=>by
  obtain⟨s,hs,rfl⟩:=xiP.mp hr
  exact h.dir s hs
 gr:=fun x y hn=>by
  obtain⟨r,hr,p⟩:=h.gr x y hn
  exact⟨aP u v r,xiQ hr,p⟩
 near:=fun p hz hk=>by
  have:=h.near (p.1-u*p.2.2,p.2.1-v*p.2.2,p.2.2) hz fun r hr=>by
   have:=hk _ (xiQ hr)
   have e:Pol.val r (p.1-u*p.2.2,p.2.1-v*p.2.2,p.2.2)=Pol.val (aP u v r) p:=by simp only[Pol.val,aP];grind
   rw[e];exact this
  simp only at this
  have x:=xhQ hu.1 (show 0≤p.2.2 by omega)
  have x':=xhQ hu.2 (show 0≤p.2.2 by omega)
  have y:=xhQ hv.1 (show 0≤p.2.2 by omega)
  have y':=xhQ hv.2 (show 0≤p.2.2 by omega)
  omega
theorem LF.rot {rows:List Pol.R3}(h:LF rows)(n:Nat):LF (rows.drop n++rows.take n):=by
 have mem:∀r,r∈rows.drop n++rows.take n↔r∈rows:=fun r=>by rw[xiG,Or.comm,←xiG,xi7]
 have len:(rows.drop n++rows.take n).length=rows.length:=by rw[xiq,xis,xiy];omega
 exact⟨by rw[len];exact h.l3,by rw[len];exact h.l8,fun r hr=>h.sm r ((mem r).mp hr),fun r hr=>h.dir r ((mem r).mp hr),
  fun u v hn=>let ⟨r,hr,p⟩:=h.gr u v hn;⟨r,(mem r).mpr hr,p⟩,fun p hz hk=>h.near p hz fun r hr=>hk r ((mem r).mpr hr)⟩
theorem LF.frow {rows:List Pol.R3}(h:LF rows):∀r∈rows,Pol.mO r:=fun r hr=>by have:=h.sm r hr;unfold Pol.mO;omega
theorem LF.fine {rows:List Pol.R3}(h:LF rows):uH rows:=⟨⟨fun {p} hz hp s hs=>by
 have:=h.near p hz hp
 simp only[Pol.xaI,xiJ,xiZ,xjw] at hs
 rcases hs with rfl | rfl | rfl | rfl<;>simp only[Pol.val,Pol.FAR]<;>omega,h.frow,fun _ h=>h,h.dir⟩,h.l8⟩
theorem tV {n d:Int}(hd:0<d):nearF (rR n d) (sJ n d)=true↔-(12*d)≤n∧n≤12*d:=by
 have s:=sj (t:=n) (b:=d) hd
 unfold nearF
 rw[decide_eq_true_iff]
 have h1:=s.le 12
 have h2:-(12*sJ n d)≤rR n d↔-(12*d)≤n:=by
  have e:=s.e
  have p:=s.pf
  show -(12*(Fra.low n d).2)≤(Fra.low n d).1↔_
  rw[←qI hd,e,show -(12*(Fra.low n d).2)*d=(-(12*d))*(Fra.low n d).2 by grind,qI p]
 have h3:rR n d≤12*sJ n d↔n≤12*d:=h1
 rw[h2,h3]
theorem xaU {v:Pol.R3}(hz:0<v.2.2):sY v=true↔(-(12*v.2.2)≤v.1∧v.1≤12*v.2.2)∧(-(12*v.2.2)≤v.2.1∧v.2.1≤12*v.2.2):=by
 unfold sY
 rw[xhq,tV hz,tV hz]
theorem LF.field {rows:List Pol.R3}(h:LF rows):isField (.tup (rows.map trR))=true:=by
 show(match rowsOf (rows.map trR) with | some rows=>xn rows | none=>false)=true
 rw[jV]
 show xn rows=true
 unfold xn
 rw[xjs ⟨h.l3,h.l8⟩,Pol.xbk h.dir (Pol.xgc h.gr) (Pol.xfQ h.dir h.gr)]
 have e1:(rows.all fun r=>decide ((r.1≠0∨r.2.1≠0)∧Pol.mO r))=true:=by
  rw[xh4];intro r hr;exact xjs ⟨h.dir r hr,h.frow r hr⟩
 have e2:(Pol.pieces rows).all sY=true:=by
  rw[xh4]
  intro v hv
  obtain⟨hz,_,hc⟩:=h.fine.fine.corner hv
  exact(xaU hz).mpr (h.near v hz hc.kept)
 rw[e1,e2];rfl
structure xfv (b1 c1 b2 c2 b3 c3 b4 c4:Int):Prop where
 h1:(1≤b1∧b1≤3)∧0≤c1∧c1≤5*b1
 h2:(1≤b2∧b2≤3)∧0≤c2∧c2≤5*b2
 h3:(1≤b3∧b3≤3)∧0≤c3∧c3≤5*b3
 h4:(1≤b4∧b4≤3)∧0≤c4∧c4≤5*b4
theorem xfr {b c x z:Int}(hb:1≤b)(hc:c≤5*b)(hz:0<z)(h:b*x≤c*z):x≤5*z:=by
 have h1:c*z≤5*b*z:=xhQ hc (by omega)
 have h2:b*x≤b*(5*z):=by
  have:b*(5*z)=5*b*z:=by grind
  omega
 exact xhF h2 (by omega)
def Extra (r:Pol.R3):Prop:=(((-6≤r.1∧r.1≤6)∧(-6≤r.2.1∧r.2.1≤6))∧(-40≤r.2.2∧r.2.2≤40))∧(r.1≠0∨r.2.1≠0)
theorem xfv.lf {b1 c1 b2 c2 b3 c3 b4 c4:Int}(B:xfv b1 c1 b2 c2 b3 c3 b4 c4){ex:List Pol.R3}(hx:∀r∈ex,Extra r)(hl:ex.length≤4):LF0 ([(-b1,0,c1),(b2,0,c2),(0,-b3,c3),(0,b4,c4)]++ex):=by
 obtain⟨h1,h2,h3,h4⟩:=B
 have four:∀r∈([(-b1,0,c1),(b2,0,c2),(0,-b3,c3),(0,b4,c4)]++ex:List Pol.R3),r=(-b1,0,c1)∨r=(b2,0,c2)∨r=(0,-b3,c3)∨r=(0,b4,c4)∨Extra r:=fun r hr=>by
  rcases xiG.mp hr with h | h
  ·simp only[xiJ,xiZ,xjw] at h
   rcases h with h | h | h | h
   ·exact .inl h
   ·exact .inr (.inl h)
   ·exact .inr (.inr (.inl h))
   ·exact .inr (.inr (.inr (.inl h)))
  ·exact .inr (.inr (.inr (.inr (hx r h))))
 have m1:(-b1,0,c1)∈([(-b1,0,c1),(b2,0,c2),(0,-b3,c3),(0,b4,c4)]++ex:List Pol.R3):=xiH _ xiL
 have m2:(b2,0,c2)∈([(-b1,0,c1),(b2,0,c2),(0,-b3,c3),(0,b4,c4)]++ex:List Pol.R3):=xiH _ (xiK _ xiL)
 have m3:(0,-b3,c3)∈([(-b1,0,c1),(b2,0,c2),(0,-b3,c3),(0,b4,c4)]++ex:List Pol.R3):=xiH _ (xiK _ (xiK _ xiL))
 have m4:(0,b4,c4)∈([(-b1,0,c1),(b2,0,c2),(0,-b3,c3),(0,b4,c4)]++ex:List Pol.R3):=xiH _ (xiK _ (xiK _ (xiK _ xiL)))
 refine⟨by simp,by simp;omega,fun r hr=>?_,fun r hr=>?_,fun u v hn=>?_,fun p hz hk=>?_⟩
 ·rcases four r hr with h | h | h | h | h
  ·subst h;simp only;omega
  ·subst h;simp only;omega
  ·subst h;simp only;omega
  ·subst h;simp only;omega
  ·unfold Extra at h;omega
 ·rcases four r hr with h | h | h | h | h
  ·subst h;exact .inl (by simp only;omega)
  ·subst h;exact .inl (by simp only;omega)
  ·subst h;exact .inr (by simp only;omega)
  ·subst h;exact .inr (by simp only;omega)
  ·exact h.2
 ·rcases xhK u 0 with c | c | c
  ·refine⟨_,m1,?_⟩
   simp only
   have:=xhX (show 0<b1 by omega) (show 0 < -u by omega)
   grind
  ·rcases xhK v 0 with d | d | d
   ·refine⟨_,m3,?_⟩
    simp only
    have:=xhX (show 0<b3 by omega) (show 0 < -v by omega)
    grind
   ·omega
   ·refine⟨_,m4,?_⟩
    simp only
    have:=xhX (show 0<b4 by omega) d
    grind
  ·refine⟨_,m2,?_⟩
   simp only
   have:=xhX (show 0<b2 by omega) c
   grind
 ·have k1:=hk _ m1
  have k2:=hk _ m2
  have k3:=hk _ m3
  have k4:=hk _ m4
  simp only[Pol.val] at k1 k2 k3 k4
  have e1:=xfr (x:=-p.1) h1.1.1 h1.2.2 hz (by grind)
  have e2:=xfr (x:=p.1) h2.1.1 h2.2.2 hz (by grind)
  have e3:=xfr (x:=-p.2.1) h3.1.1 h3.2.2 hz (by grind)
  have e4:=xfr (x:=p.2.1) h4.1.1 h4.2.2 hz (by grind)
  omega
def qt (rows:List Pol.R3):Prop:=∃b1 c1 b2 c2 b3 c3 b4 c4,rows=[(-b1,0,c1),(b2,0,c2),(0,-b3,c3),(0,b4,c4)]∧xfv b1 c1 b2 c2 b3 c3 b4 c4
theorem qt.last {rows ex:List Pol.R3}(h:qt rows)(hx:∀r∈ex,Extra r):∃ini l,rows++ex=ini++[l]∧Extra (0-l.1,0-l.2.1,0-l.2.2):=by
 obtain⟨b1,c1,b2,c2,b3,c3,b4,c4,rfl,B⟩:=h
 rcases List.eq_nil_or_concat ex with rfl | ⟨ini,l,rfl⟩
 ·refine⟨[(-b1,0,c1),(b2,0,c2),(0,-b3,c3)],(0,b4,c4),by simp,?_⟩
  have:=B.h4
  unfold Extra
  simp only
  omega
 ·rw[List.concat_eq_append] at hx ⊢
  refine⟨_++ini,l,by rw[xh6],?_⟩
  have:=hx l (by simp)
  unfold Extra at *
  simp only
  omega
theorem qt.len {rows:List Pol.R3}(h:qt rows):rows.length=4:=by
 obtain⟨b1,c1,b2,c2,b3,c3,b4,c4,rfl,B⟩:=h
 rfl
theorem qt.lf {rows ex:List Pol.R3}(h:qt rows)(hx:∀r∈ex,Extra r)(hl:ex.length≤4):LF0 (rows++ex):=by
 obtain⟨b1,c1,b2,c2,b3,c3,b4,c4,rfl,B⟩:=h
 exact B.lf hx hl
def oX:List (Int×Int):=[(-1,0),(1,0),(0,-1),(0,1)]
def dT (d:Int×Int):Tr:=.tup [.int d.1,.int d.2]
def p_ (i:Nat)(rows:List Pol.R3):Prop:=rows.length=i∧∀(j:Nat) (r:Pol.R3) (d:Int×Int),rows[j]? = some r→oX[j]? = some d→∃b c:Int,((1≤b∧b≤3)∧0≤c∧c≤5*b)∧r=(d.1*b,d.2*b,c)
theorem p_.step {i:Nat}{rows:List Pol.R3}(h:p_ i rows){d:Int×Int}(hd:oX[i]? = some d){b c:Int}(hb:(1≤b∧b≤3)∧0≤c∧c≤5*b):p_ (i+1) (rows++[(d.1*b,d.2*b,c)]):=by
 refine⟨by rw[xiq,h.1];rfl,fun j r d' hr hd'=>?_⟩
 by_cases hj:j<i
 ·rw[xih (by rw[h.1];exact hj)] at hr
  exact h.2 j r d' hr hd'
 ·have hl:=(xik.mp hr).1
  rw[xiq,h.1,xix] at hl
  have:j=i:=by omega
  subst this
  rw[List.getElem?_append_right (by rw[h.1];exact xjd _),h.1,Nat.sub_self] at hr
  rw[hd] at hd'
  cases hr;cases hd'
  exact⟨b,c,hb,rfl⟩
theorem p_.box {rows:List Pol.R3}(h:p_ 4 rows):qt rows:=by
 obtain⟨hl,h⟩:=h
 rcases rows with _ | ⟨r1,_ | ⟨r2,_ | ⟨r3,_ | ⟨r4,_ | ⟨r5,rs⟩⟩⟩⟩⟩
 ·cases hl
 ·cases hl
 ·cases hl
 ·cases hl
 ·obtain⟨b1,c1,g1,e1⟩:=h 0 r1 (-1,0) rfl rfl
  obtain⟨b2,c2,g2,e2⟩:=h 1 r2 (1,0) rfl rfl
  obtain⟨b3,c3,g3,e3⟩:=h 2 r3 (0,-1) rfl rfl
  obtain⟨b4,c4,g4,e4⟩:=h 3 r4 (0,1) rfl rfl
  subst e1 e2 e3 e4
  refine⟨b1,c1,b2,c2,b3,c3,b4,c4,?_,g1,g2,g3,g4⟩
  simp only[List.cons.injEq,Prod.mk.injEq,and_true]
  omega
 ·cases hl
theorem nK {i:Nat}{d:Int×Int}(h:oX[i]? = some d):(-1≤d.1∧d.1≤1)∧(-1≤d.2∧d.2≤1):=by
 have:=xiR h
 simp only[oX,xiJ,xiZ,xjw] at this
 rcases this with rfl | rfl | rfl | rfl<;>decide
def Drawn (d:Int×Int)(y:Tr):Prop:=∃c:Int,(0≤c∧c<8)∧y=.tup [.int d.1,.int d.2,.int c]
theorem xce {d1 d2 d3:Int×Int}{ys:List Tr}(h:Paired Drawn [d1,d2,d3] ys):∃c1 c2 c3:Int,((0≤c1∧c1≤7)∧(0≤c2∧c2≤7)∧(0≤c3∧c3≤7))∧ys=[(d1.1,d1.2,c1),(d2.1,d2.2,c2),(d3.1,d3.2,c3)].map trR:=by
 cases h with
 | cons h1 h =>
  cases h with
  | cons h2 h =>
   cases h with
   | cons h3 h =>
    cases h
    obtain⟨c1,g1,rfl⟩:=h1
    obtain⟨c2,g2,rfl⟩:=h2
    obtain⟨c3,g3,rfl⟩:=h3
    exact⟨c1,c2,c3,by omega,rfl⟩
theorem tX {α:Type}{dg:DG}{de:DE}{τi:TSt}{KK:List Tr→Prop}{f:α→Tr}{l:List α}(R:α→Tr→Prop)(h1:∀a∈l,∀N:Tr→Prop,(∀y,R a y→N y)→dg (f a) τi fun τ2=>de τ2 N)
  (h0:∀ys,Paired R l ys→KK ys):tj dg mY de τi KK (l.map f) []:=by
 refine qU (fun ys acc=>∃zs us,l=zs++us∧ys=us.map f∧Paired R zs acc) (fun acc ⟨zs,us,e,ey,e2⟩=>?_) (fun x ys acc N ⟨zs,us,e,ey,e2⟩ hN=>?_) _ [] ⟨[],l,rfl,rfl,.nil⟩
 ·cases us with
  | nil=>rw[xh7] at e;subst e;exact h0 acc e2
  | cons u us=>cases ey
 ·cases us with
  | nil=>cases ey
  | cons u us =>
   injection ey with ex ey
   subst ex ey
   exact h1 u (by rw[e];simp) (fun y=>N (acc++[y])) fun y hy=>hN _ ⟨zs++[u],us,by rw[e];simp,rfl,fF e2 hy⟩
theorem xbv {k:Int}(h1:1≤k)(h7:k≤7):LF0 [(-1,0,0),(1,-2*k,0),(1,2*k,2*k)]:=by
 refine⟨by simp,by simp,fun r hr=>?_,fun r hr=>?_,fun u v hn=>?_,fun p hz hk=>?_⟩
 ·simp only[xiJ,xiZ,xjw] at hr
  rcases hr with rfl | rfl | rfl<;>simp only<;>omega
 ·simp only[xiJ,xiZ,xjw] at hr
  rcases hr with rfl | rfl | rfl<;>simp only<;>omega
 ·rcases xhJ u 0 with c | c
  ·exact⟨_,xiL,by simp only;omega⟩
  ·rcases xhK v 0 with d | d | d
   ·refine⟨(1,-2*k,0),by simp,?_⟩
    simp only
    have:=xhX (show 0<k by omega) (show 0 < -v by omega)
    grind
   ·refine⟨(1,2*k,2*k),by simp,?_⟩
    simp only
    subst d
    omega
   ·refine⟨(1,2*k,2*k),by simp,?_⟩
    simp only
    have:=xhX (show 0<k by omega) d
    grind
 ·have k1:=hk (-1,0,0) (by simp)
  have k2:=hk (1,-2*k,0) (by simp)
  have k3:=hk (1,2*k,2*k) (by simp)
  simp only[Pol.val] at k1 k2 k3
  have e2:p.1≤2*(k*p.2.1):=by grind
  have e3:p.1+2*(k*p.2.1)≤2*(k*p.2.2):=by grind
  have kz:k*p.2.2≤7*p.2.2:=xhQ h7 (by omega)
  have y0:0≤p.2.1:=Pol.zw (show 0<k by omega) (by omega)
  have y1:p.2.1≤p.2.2:=by
   have:k*p.2.1≤k*p.2.2:=by omega
   exact xhF this (by omega)
  omega
theorem xd1 {c:Int}(h:0≤c∧c≤7):-100≤c∧c≤100:=by omega
theorem xcZ {c1 c2 c3:Int}(h1:0≤c1∧c1≤7)(h2:0≤c2∧c2≤7)(h3:0≤c3∧c3≤7):LF0 [(-2,1,c1),(1,-3,c2),(2,3,c3)]:=by
 refine⟨by simp,by simp,fun r hr=>?_,fun r hr=>?_,fun u v hn=>?_,fun p hz hk=>?_⟩
 ·simp only[xiJ,xiZ,xjw] at hr
  rcases hr with rfl | rfl | rfl
  ·exact⟨by simp only;decide,xd1 h1⟩
  ·exact⟨by simp only;decide,xd1 h2⟩
  ·exact⟨by simp only;decide,xd1 h3⟩
 ·simp only[xiJ,xiZ,xjw] at hr
  rcases hr with rfl | rfl | rfl<;>exact .inl (by simp only;decide)
 ·rcases xhJ 0 (-2*u+1*v) with c | c
  ·exact⟨(-2,1,c1),by simp,c⟩
  ·rcases xhJ 0 (1*u+-3*v) with d | d
   ·exact⟨(1,-3,c2),by simp,d⟩
   ·exact⟨(2,3,c3),by simp,by simp only;omega⟩
 ·have k1:=hk (-2,1,c1) (by simp)
  have k2:=hk (1,-3,c2) (by simp)
  have k3:=hk (2,3,c3) (by simp)
  simp only[Pol.val] at k1 k2 k3
  have z1:c1*p.2.2≤7*p.2.2:=xhQ h1.2 (by omega)
  have z2:c2*p.2.2≤7*p.2.2:=xhQ h2.2 (by omega)
  have z3:c3*p.2.2≤7*p.2.2:=xhQ h3.2 (by omega)
  omega
theorem xdF {c1 c2 c3:Int}(h1:0≤c1∧c1≤7)(h2:0≤c2∧c2≤7)(h3:0≤c3∧c3≤7):LF0 [(-3,-2,c1),(3,-1,c2),(1,4,c3)]:=by
 refine⟨by simp,by simp,fun r hr=>?_,fun r hr=>?_,fun u v hn=>?_,fun p hz hk=>?_⟩
 ·simp only[xiJ,xiZ,xjw] at hr
  rcases hr with rfl | rfl | rfl
  ·exact⟨by simp only;decide,xd1 h1⟩
  ·exact⟨by simp only;decide,xd1 h2⟩
  ·exact⟨by simp only;decide,xd1 h3⟩
 ·simp only[xiJ,xiZ,xjw] at hr
  rcases hr with rfl | rfl | rfl<;>exact .inl (by simp only;decide)
 ·rcases xhJ 0 (-3*u+-2*v) with c | c
  ·exact⟨(-3,-2,c1),by simp,c⟩
  ·rcases xhJ 0 (3*u+-1*v) with d | d
   ·exact⟨(3,-1,c2),by simp,d⟩
   ·exact⟨(1,4,c3),by simp,by simp only;omega⟩
 ·have k1:=hk (-3,-2,c1) (by simp)
  have k2:=hk (3,-1,c2) (by simp)
  have k3:=hk (1,4,c3) (by simp)
  simp only[Pol.val] at k1 k2 k3
  have z1:c1*p.2.2≤7*p.2.2:=xhQ h1.2 (by omega)
  have z2:c2*p.2.2≤7*p.2.2:=xhQ h2.2 (by omega)
  have z3:c3*p.2.2≤7*p.2.2:=xhQ h3.2 (by omega)
  omega
end L2
namespace L2
open PySem PySem.Spec PyProof.Rows
theorem j7 {rows:List Pol.R3}:isField (.tup (rows.map trR))=xn rows:=by
 show(match rowsOf (rows.map trR) with | some rows=>xn rows | none=>false)=_
 rw[jV]
end L2
namespace L2
open PySem PySem.Spec PyProof.Rows
def DD (K:PySem.W.Frag)(x:Str)(st:Stmt):Prop:=∃f fd,PySem.W.nsIn K mainGlobals x=some (some (.ref f))∧Fun K x x st f fd
theorem dd {K:PySem.W.Frag}{x:Str}{st:Stmt}{f:Addr}{oc:Value}{od an:Option Addr}{sl:Array (Option Value)}{kV dc pm cd ct:Value}(a:PySem.W.nsIn K mainGlobals x=some (some (.ref f)))
  (l:K.lookup f=some ⟨oc,od,.func (PySem.W.fnOf x x (wY st) (zp st) (xg st) .none kV dc pm an cd ct),sl⟩) (c:PySem.W.codeIn K cd x=true) (k:PySem.W.keepIn K (.ref f)=true):DD K x st:=⟨f,_,a,xcr l c k⟩
theorem wo {K:PySem.W.Frag}{x qual p1:Str}{st:Stmt}{f:Addr}{fd:FuncData}(F:Fun K x qual st f fd)(h:∀(kV doc pm:Value) (an:Option Addr) (cdv ct u1:Value),bindArgs (PySem.W.fnOf x qual (wY st) (zp st) (xg st) .none kV doc pm an cdv ct) ⟨[u1],[]⟩=pure [(p1,u1)]):Binds K fd [p1] [] :=
 F.binds fun a b c d e g us hl=>match us,hl with | [u1],_=>h a b c d e g u1
theorem yA {K:PySem.W.Frag}{x qual p1 p2:Str}{st:Stmt}{f:Addr}{fd:FuncData}(F:Fun K x qual st f fd)(h:∀(kV doc pm:Value) (an:Option Addr) (cdv ct u1 u2:Value),bindArgs (PySem.W.fnOf x qual (wY st) (zp st) (xg st) .none kV doc pm an cdv ct) ⟨[u1,u2],[]⟩=pure [(p1,u1),(p2,u2)]):Binds K fd [p1,p2] [] :=
 F.binds fun a b c d e g us hl=>match us,hl with | [u1,u2],_=>h a b c d e g u1 u2
theorem j_ {K:PySem.W.Frag}{x qual p1 p2 p3:Str}{st:Stmt}{f:Addr}{fd:FuncData}(F:Fun K x qual st f fd)(h:∀(kV doc pm:Value) (an:Option Addr) (cdv ct u1 u2 u3:Value),bindArgs (PySem.W.fnOf x qual (wY st) (zp st) (xg st) .none kV doc pm an cdv ct) ⟨[u1,u2,u3],[]⟩=pure [(p1,u1),(p2,u2),(p3,u3)]):Binds K fd [p1,p2,p3] [] :=
 F.binds fun a b c d e g us hl=>match us,hl with | [u1,u2,u3],_=>h a b c d e g u1 u2 u3
def oV (w:Int)(f:F2):F2:=Fra.low (w*f.1) f.2
def xe5:TSp:=fun ts KK=>∃f g:F2,ts=[fT f,fT g]∧Fk 900 f∧Fk 900 g∧KK (fT (aQ f g))
def xcH:TSp:=fun ts KK=>∃(w:Int) (f:F2),ts=[.int w,fT f]∧Bk 900 w∧Fk 900 f∧KK (fT (oV w f))
def lU:TSp:=fun ts KK=>∃(a b:Int) (x:List Tr) (p:P2),ts=[.tup (.int a::.int b::x),pT p]∧Bk 200 a∧Bk 200 b∧Pk 600 p∧KK (fT (vY (a,b,0) p))
def gW (r:Pol.R3)(p:P2):Bool:=decide ((vY r p).1=r.2.2*(vY r p).2)
def bY:TSp:=fun ts KK=>∃(r:Pol.R3) (p:P2),ts=[trR r,pT p]∧B3k 200 r∧Pk 600 p∧KK (.bl (gW r p))
def qW:TSp:=fun ts KK=>∃t,ts=[t]∧isField t=true∧KK .non
def gB:TSp:=fun ts KK=>∃rows:List Pol.R3,ts=[.tup (rows.map trR)]∧xn rows=true∧uH rows∧KK (.lst ((zR rows).map sk))
def rH (rows:List Pol.R3)(p:P2):List Nat:=(List.range rows.length).filter fun i=>gW (rows.getD i (0,0,0)) p
def mR (n:Nat):Tr:=.int n
def sE:TSp:=fun ts KK=>∃(rows:List Pol.R3) (p:P2),ts=[.tup (rows.map trR),pT p]∧rows.length≤1000∧(∀r∈rows,B3k 200 r)∧Pk 600 p∧KK (.tup ((rH rows p).map mR))
def brk (v:Pol.R3):Bool := !decide ((plc v).1.2=1) || !decide ((plc v).2.2=1)
theorem rK {rows:List Pol.R3}(h:xn rows=true):(3≤rows.length∧rows.length≤8)∧(∀r∈rows,(r.1≠0∨r.2.1≠0)∧Pol.mO r)∧Pol.wX rows=true∧∀v∈Pol.pieces rows,sY v=true:=by
 unfold xn at h
 simp only[xhq,xjt,xh4] at h
 exact⟨h.1.1.1,h.1.1.2,h.1.2,h.2⟩
theorem kE {rows:List Pol.R3}(h:xn rows=true):isField (.tup (rows.map trR))=true:=by rw[j7];exact h
theorem LF.isf {rows:List Pol.R3}(h:LF rows):xn rows=true:=by rw[←j7];exact h.field
theorem cQ {t b:Int}(h:0<b):frT (rR t b) (sJ t b)=fT (lfr t b):=by rw[uU h];rfl
theorem Fk.timW {k m:Nat}{w:Int}{f:F2}(hw:Bk k w)(h:Fk m f):Fk (k+m) (oV w f):=me h.pos (hw.mul h.top) (h.bot.mono (by omega))
theorem xb1 {a b:Int}{p:P2}(hx:0<p.1.2)(hy:0<p.2.2):aQ (oV a p.1) (oV b p.2)=vY (a,b,0) p:=by
 unfold aQ oV vY
 rw[uU (Pol.pp (Fra.wG hx) (Fra.wG hy)),uU (Pol.pp hx hy)]
 exact Fra.xcN hx hy
theorem xdh {r:Pol.R3}{p:P2}(hr:B3k 200 r)(hp:Pk 600 p):Fk 1500 (vY r p):=by
 unfold vY
 exact sD (k:=1500) (by have:=Pol.pp hp.1.pos hp.2.pos;omega) (((hr.1.1.mul hp.1.top |>.mul hp.2.bot).add (hr.1.2.mul hp.2.top |>.mul hp.1.bot)).mono (by decide)) ((hp.1.bot.mul hp.2.bot).mono (by decide))
theorem xaM {α:Type}(f:α→Tr)(l:List α)(d:α):qB (l.map f)=(List.range l.length).map fun i=>.tup [.int (i:Nat),f (l.getD i d)]:=by
 apply List.ext_getElem?
 intro i
 by_cases h:i<l.length
 ·have e1:i<(qB (l.map f)).length:=by rw[jf];exact h
  obtain⟨v,hv,e⟩:=aT (xii e1)
  rw[xii e1,e,xil,List.getElem?_range h]
  simp[xig,hv]
 ·rw[xij (by rw[jf];omega),xij (by simp;omega)]
theorem getD_mem {α:Type}{l:List α}{i:Nat}(d:α)(h:i<l.length):l.getD i d∈l:=by
 rw[xig,xii h];exact xip h
theorem cB {rows:List Pol.R3}(h:uH rows):(zR rows).length≤900:=h.ring.len
end L2
namespace L2
open PySem PySem.Spec PyProof.Rows
def xef:Option F2→Tr
 | some f=>fT f
 | none=>.non
def kb (a b:Int)(best:Option F2)(p:P2):Option F2:=match best with
 | none=>some (vY (a,b,0) p)
 | some f=>if tJ f (vY (a,b,0) p)=true then some (vY (a,b,0) p) else some f
def kj (a b:Int)(ps:List P2):Option F2:=ps.foldl (kb a b) none
def lH:TSp:=fun ts KK=>∃f g:F2,ts=[fT f,fT g]∧Fk 1900 f∧Fk 1900 g∧KK (.bl (tJ f g))
def rV:TSp:=fun ts KK=>∃(rows:List Pol.R3) (a b:Int),ts=[.tup (rows.map trR),.int a,.int b]∧xn rows=true∧uH rows∧Bk 100 a∧Bk 100 b∧KK (xef (kj a b ((zR rows).map plc)))
def xcE:TSp:=fun ts KK=>∃(a b:Int) (x:List Tr) (p:P2),ts=[.tup (.int a::.int b::x),pT p]∧Bk 200 a∧Bk 200 b∧Fk 600 p.1∧Fk 600 p.2∧KK (fT (vY (a,b,0) p))
theorem ny (a b:Int){ps:List P2}{i:Nat}{p:P2}(h:ps[i]? = some p):kj a b (ps.take (i+1))=kb a b (kj a b (ps.take i)) p:=Pol.um (kb a b) none h
theorem xcI {a b:Int}{f:F2}{p:P2}(d:tJ f (vY (a,b,0) p)=true):kb a b (some f) p=some (vY (a,b,0) p):=by
 show(if tJ f (vY (a,b,0) p)=true then some (vY (a,b,0) p) else some f)=_
 rw[if_pos d]
theorem xeh {a b:Int}{f:F2}{p:P2}(d:tJ f (vY (a,b,0) p)=false):kb a b (some f) p=some f:=by
 show(if tJ f (vY (a,b,0) p)=true then some (vY (a,b,0) p) else some f)=_
 rw[if_neg (by rw[d];exact xhr)]
theorem uH.pk2 {rows:List Pol.R3}(h:uH rows){v:Pol.R3}(hv:v∈zR rows):Pk 100 (plc v):=by
 have:=h.corner hv
 have:=xeC this.1.1 this.2
 exact⟨this.1.mono (by decide),this.2.mono (by decide)⟩
theorem uH.pk {rows:List Pol.R3}(h:uH rows){v:Pol.R3}(hv:v∈zR rows):Pk 600 (plc v):=⟨(h.pk2 hv).1.mono (by decide),(h.pk2 hv).2.mono (by decide)⟩
theorem uH.pkm {rows:List Pol.R3}(h:uH rows){p:P2}(hp:p∈(zR rows).map plc):Pk 100 p:=by
 obtain⟨v,hv,rfl⟩:=xiP.mp hp
 exact h.pk2 hv
theorem cU {a b c:Int}{p:P2}(ha:Bk 100 a)(hb:Bk 100 b)(hp:Pk 100 p):Fk 1000 (vY (a,b,c) p):=by
 unfold vY
 exact sD (k:=1000) (by have:=Pol.pp hp.1.pos hp.2.pos;omega) (((ha.mul hp.1.top |>.mul hp.2.bot).add (hb.mul hp.2.top |>.mul hp.1.bot)).mono (by decide)) ((hp.1.bot.mul hp.2.bot).mono (by decide))
theorem gJ {a b:Int}{best:Option F2}{p:P2}{f:F2}(h:kb a b best p=some f):best=some f∨f=vY (a,b,0) p:=by
 unfold kb at h
 cases best with
 | none=>exact .inr (xjp h).symm
 | some g =>
  simp only at h
  split at h
  ·exact .inr (xjp h).symm
  ·exact .inl h
theorem qT {a b:Int}{f:F2}(ps:List P2):∀best,ps.foldl (kb a b) best=some f→best=some f∨∃p∈ps,f=vY (a,b,0) p:=by
 induction ps with
 | nil=>exact fun best h=>.inl h
 | cons p ps ih =>
  intro best h
  rcases ih _ h with q | ⟨p',hp,e⟩
  ·rcases gJ q with q | q
   ·exact .inl q
   ·exact .inr ⟨p,xiL,q⟩
  ·exact .inr ⟨p',xiK _ hp,e⟩
theorem rW {a b:Int}(ha:Bk 100 a)(hb:Bk 100 b){ps:List P2}(hp:∀p∈ps,Pk 100 p):∀f,kj a b ps=some f→Fk 1000 f:=fun f h=>by
 rcases qT ps none h with q | ⟨p,hm,rfl⟩
 ·cases q
 ·exact cU ha hb (hp p hm)
theorem bV {a b c:Int}{p:P2}(h:0<p.1.2∧0<p.2.2):0<(vY (a,b,c) p).2:=xac (by have:=Pol.pp h.1 h.2;show p.1.2*p.2.2≠0;omega)
theorem uH.pos {rows:List Pol.R3}(h:uH rows):∀p∈(zR rows).map plc,0<p.1.2∧0<p.2.2:=fun p hp=>⟨(h.pkm hp).1.pos,(h.pkm hp).2.pos⟩
end L2
namespace L2
open PySem PySem.Spec PyProof.Rows
section
variable {P:Program} {w:World} {K:PySem.W.Frag} {mg:Str→Option Value} {base:Heap} {N:List Str} {qual:Str} {scope:Scope} {f:Addr} {cd:Value} {A:Around} {outer:List Env} {s:Shared} {H H':Hp} {E:XK}
end
end L2
namespace L2
open PySem PySem.Spec PySem.Calls PyProof.Rows
section
variable {prog:Program} {w:World} {A:Around} {E:Value→Shared→Prop} {s:Shared} {K:PySem.W.Frag} {ea C:Addr}
end
end L2
namespace L2
open PySem PySem.Spec PySem.Calls PyProof.Rows
section
variable {P:Program} {w:World}
variable {X:Cx} {pins:List (Addr×Obj)} {σ:St} {H H':Hp} {s s':Shared} {ea C:Addr}
end
end L2
namespace L2
open PySem PySem.Spec PySem.Calls PyProof.Rows
section
variable {X:Cx} {pins:List (Addr×Obj)} {σ:St} {H H':Hp} {s s':Shared} {ea C:Addr}
end
end L2
namespace L2
open PySem PySem.Spec PySem.Calls PyProof.Rows
end L2
namespace L2
open PySem PySem.Spec PySem.Calls PyProof.Rows
section
variable {X:Cx} {pins:List (Addr×Obj)} {σ:St} {H:Hp} {s:Shared} {c P:Addr} {params:Arguments} {body:Expr} {scope:Scope} {pos:Pos} {clos:List (Str×Addr)} {E:Value→Shared→Prop} {Q:Value→Shared→Prop} {q:Str}
end
end L2
namespace L2
open PySem PySem.Spec PySem.Calls PyProof.Rows
section
variable {X:Cx} {pins:List (Addr×Obj)} {σ:St} {H:Hp} {s:Shared}
end
end L2
namespace L2
open PySem PySem.Spec PyProof.Rows
section
variable {K:PySem.W.Frag} {B:FB} {φ:Phi} {σ:St} {τ:TSt} {H H' H'':Hp} {EX:Hp→Prop}
end
section
variable {P:Program} {w:World} {K:PySem.W.Frag} {mg:Str→Option Value} {base:Heap} {k n:Nat} {x qual:Str} {st:Stmt} {f:Addr} {fd:FuncData} {N ps:List Str} {C:Addr} {R:List Tr→Prop}
end
section
variable {K:PySem.W.Frag}
theorem xgF {T:TS}{D:DS}{H:Hp}{g:V}{ea:Addr}{j:Int}{Q:VK}(hd:OkS K true T D)(h:D { nx:=fun _=>False,rt:=fun t=>t=.lst [.int j] } [.un,.ob ea,.un,.un])
  (q:∀H2 a,(∀b o,H b=some o→H2 b=some o)→H a=none→H2 a=some (.lst [.int j])→Q (.ref a) H2):T { nx:=fun _ H'=>Q .non H',rt:=Q } [some g,some (.ref ea),none,none] H:=by
 refine hd ⟨fun _=>False,fun _=>False,H,[]⟩ (fun _=>none) _ _ H _ _ ⟨fun _ z=>z.elim,fun _ z=>z.elim,fun a o e _=>e,fun a z=>?_,fun i j a ts _ z=>(nomatch z),fun i a z=>(nomatch z),rfl,fun i=>?_,fun p z=>absurd z (by simp)⟩ h ⟨fun _ _ _ _ _ z=>z.elim,fun _ _ _ _ _ z=>z.elim,fun _ _ _ _ _ z=>z.elim,fun t v H2 r x e fl=>?_⟩
 ·rcases z with z | ⟨i,z,_⟩
  ·exact z.elim
  ·cases z
 ·match i with
  | 0=>trivial
  | 1=>rfl
  | 2=>trivial
  | 3=>trivial
  | n+4=>trivial
 ·obtain⟨a,ts,ws,rfl,rfl,h1,h2,h3⟩:=fl rfl
  cases e
  obtain⟨v,vs,rfl,e1,e2⟩:=h3
  cases e1;cases e2
  exact q H2 a (fun b o e=>x.ext b o e fun z=>z) h1 h2
end
section
variable {X:Cx} {ea C D:Addr}
end
end L2
namespace L2
open PySem PySem.Spec PyProof.Rows
section
variable {P:Program} {w:World} {K:PySem.W.Frag} {mg:Str→Option Value} {base:Heap} {k:Nat} {x qual:Str} {st:Stmt} {f:Addr} {fd:FuncData} {N ps:List Str}
end
end L2
namespace L2
open PySem
def drT (a b:Int):Tr:=.tup [.int a,.int b]
def kl:Tr→Bool
 | .tup [.int a,.int b]=>!decide (a=0) || !decide (b=0)
 | _=>false
theorem ff {t:Tr}(h:kl t=true):∃x y:Int,t=drT x y:=by
 unfold kl at h
 split at h
 ·exact⟨_,_,rfl⟩
 ·cases h
def xfj (t:Tr):Prop:=∀us,t=.tup us→us.length<sizeLine
def tn (a b c d:Int):Int:=a*d-b*c
def L24 (i:Int):Prop:=-(10 ^ 24)≤i∧i≤10 ^ 24
theorem L24.bd {i:Int}(h:L24 i):Bd i:=xas (by unfold L24 at h;omega) (by unfold L24 at h;omega)
def L4 (a b c d:Int):Prop:=(L24 a∧L24 b)∧L24 c∧L24 d
theorem bN {a b:Int}{m n:Nat}(h1:-(m:Int)≤a∧a≤m)(h2:-(n:Int)≤b∧b≤n):-((m*n:Nat):Int)≤a*b∧a*b≤((m*n:Nat):Int):=by
 have h:=xh0 a b
 have h3:a.natAbs≤m:=by omega
 have h4:b.natAbs≤n:=by omega
 have h5:=Nat.mul_le_mul h3 h4
 omega
theorem xfA {a b c d:Int}(h:L4 a b c d):Bd (tn a b c d):=by
 obtain⟨⟨h1,h2⟩,h3,h4⟩:=h
 have x:=bN (m:=10 ^ 24) (n:=10 ^ 24) h1 h4
 have y:=bN (m:=10 ^ 24) (n:=10 ^ 24) h2 h3
 unfold tn
 refine xas ?_ ?_<;>omega
def xcy:TSp:=fun ts KK=>∃t,ts=[t]∧xfj t∧KK (.bl (kl t))
def mI:TSp:=fun ts KK=>∃a b c d:Int,ts=[drT a b,drT c d]∧L4 a b c d∧0<tn a b c d∧KK (.int (tn a b c d))
def xam (n d:Int):Tr:=frT (rR n d) (sJ n d)
def ka (a b c d:Int):Tr→Tr
 | .tup [.int x,.int y]=>if x=0∧y=0 then .non else if tn x y c d<0∨tn a b x y<0 then .non else .tup [xam (tn x y c d) (tn a b c d),xam (tn a b x y) (tn a b c d)]
 | _=>.non
theorem xal {n d:Int}(h:0<d):xam n d=fT (lfr n d):=by rw[uU h];rfl
def xg5:Tr→Prop
 | .tup [.int x,.int y]=>L24 x∧L24 y
 | _=>True
def xch:TSp:=fun ts KK=>∃(a b c d:Int) (t:Tr),ts=[drT a b,drT c d,t]∧L4 a b c d∧xfj t∧xg5 t∧0<tn a b c d∧KK (ka a b c d t)
theorem xbL {us:List Tr}(h:us.length≤100000):xfj (.tup us):=fun vs e=>by cases e;exact sqz (by omega)
theorem xbN (x y:Int):xfj (drT x y):=xbL (by simp)
end L2
namespace L2
open PySem
end L2
namespace L2
open PySem PySem.Spec PyProof.Rows
section
variable {X:Cx} {pos:Pos}
end
section
variable {K:PySem.W.Frag} {fr:Bool}
end
end L2
namespace L2
open PySem
def m9:Tr→Bool
 | .tup [.int a,.int b]=>decide (1≤b)&&decide (Int.gcd a b=1)
 | _=>false
def wtT:Tr→Bool
 | .tup [.int a,.int b]=>(decide (1≤b)&&decide (Int.gcd a b=1))&&decide (0≤a)
 | _=>false
def xfu (n:Nat):Tr→Bool
 | .tup us=>decide (us.length=n)&&us.all wtT
 | _=>false
structure Wt (w:F2):Prop where
 pos:0<w.2
 cop:Int.gcd w.1 w.2=1
 nn:0≤w.1
 sm:Fk 40 w
theorem Wt.wtT {w:F2}(h:Wt w):wtT (fT w)=true:=by
 show((decide (1≤w.2)&&decide (Int.gcd w.1 w.2=1))&&decide (0≤w.1))=true
 rw[xjs (show 1≤w.2 from h.pos),xjs h.cop,xjs h.nn];rfl
theorem xdM {ws:List F2}(h:∀w∈ws,Wt w):xfu ws.length (.tup (ws.map fT))=true:=by
 show(decide ((ws.map fT).length=ws.length)&&(ws.map fT).all L2.wtT)=true
 rw[xjs (xit _),xhs,xh4]
 intro u hu
 obtain⟨w,hw,rfl⟩:=xiP.mp hu
 exact(h w hw).wtT
def Cop (f:F2):Prop:=0<f.2∧Int.gcd f.1 f.2=1
theorem aD {t b:Int}(h:0<b):Cop (lfr t b):=by rw[uU h];exact⟨Fra.wG h,Fra.aO h⟩
theorem Sd.low {f:F2}{N D:Int}(h:Sd f N D)(c:Cop f):L2.lfr N D=f:=by
 rw[uU h.pd]
 have:=Fra.dZ (Fra.aO h.pd) c.2 (Fra.wG h.pd) c.1 (by
  have e:=h.e
  have l:=Fra.ux N D
  generalize (Fra.low N D).1=x at *
  generalize (Fra.low N D).2=y at *
  have hD:=h.pd
  have:(x*f.2)*D=(f.1*y)*D:=by grind
  exact xhy (by omega) this)
 exact Prod.ext this.1 this.2
theorem Sd.plusD {f g:F2}{N M D:Int}(h:Sd f N D)(h':Sd g M D):Sd (aQ f g) (N+M) D:=by
 refine Sd.lfr (Pol.pp h.pf h'.pf) h.pd ?_ rfl
 have:=h.e;have:=h'.e
 grind
def hZ (k:Pol.R3→Int)(f:F2)(x:Pol.R3×F2):F2:=aQ f (xa3 x.2 (k x.1,1))
def wsum (k:Pol.R3→Int)(l:List (Pol.R3×F2)):F2:=l.foldl (hZ k) (0,1)
theorem jo (k:Pol.R3→Int)(l:List (Pol.R3×F2))(h:∀x∈l,0<x.2.2):Cop (wsum k l):=by
 unfold wsum
 have go:∀(l:List (Pol.R3×F2)) (f:F2),Cop f→(∀x∈l,0<x.2.2)→Cop (l.foldl (hZ k) f):=fun l=>by
  induction l with
  | nil=>exact fun f c _=>c
  | cons x l ih =>
   intro f c h
   refine ih _ ?_ fun y hy=>h y (xiK _ hy)
   have hx:=h x xiL
   have:0<(xa3 x.2 (k x.1,1)).2:=xac (by show x.2.2*1≠0;omega)
   exact aD (Pol.pp c.1 this)
 exact go l (0,1) ⟨by decide,by decide⟩ h
theorem lV {w:F2}{r q D:Int}(hw:0<w.2)(hD:0<D)(e:w.2*q=D):Sd (xa3 w (r,1)) (q*w.1*r) D:=by
 refine Sd.lfr (by show 0<w.2*1;omega) hD ?_ rfl
 show w.1*r*D=q*w.1*r*(w.2*1)
 rw[←e];grind
theorem Fk.plus2 {k m:Nat}{f g:F2}(h:Fk k f)(h':Fk m g):Fk (k+m+1) (aQ f g):=by
 unfold aQ
 refine sD (by have:=Pol.pp h.pos h'.pos;omega) ?_ ?_
 ·exact(h.top.mul h'.bot).add ((h'.top.mul h.bot).mono (by omega))
 ·exact(h.bot.mul h'.bot).mono (by omega)
theorem Fk.timI {k m:Nat}{f:F2}{r:Int}(h:Fk k f)(hr:Bk m r):Fk (k+m) (xa3 f (r,1)):=by
 unfold xa3
 refine sD (by have:=h.pos;show f.2*1≠0;omega) (h.top.mul hr) ?_
 show Bk (k+m) (f.2*1)
 rw[xhW]
 exact h.bot.mono (by omega)
theorem m7 (k:Pol.R3→Int):∀(l:List (Pol.R3×F2)),(∀x∈l,Fk 40 x.2∧Bk 10 (k x.1))→Fk (1+51*l.length) (wsum k l):=by
 have go:∀(l:List (Pol.R3×F2)) (f:F2) (n:Nat),Fk n f→(∀x∈l,Fk 40 x.2∧Bk 10 (k x.1))→Fk (n+51*l.length) (l.foldl (hZ k) f):=fun l=>by
  induction l with
  | nil=>exact fun f n c _=>c
  | cons x l ih =>
   intro f n c h
   have hx:=h x xiL
   have:=ih (hZ k f x) (n+51) (c.plus2 (hx.1.timI hx.2)) fun y hy=>h y (xiK _ hy)
   rw[xir]
   exact this.mono (by omega)
 exact fun l h=>go l (0,1) 1 ⟨by unfold Bk;decide,by unfold Bk;decide,by decide⟩ h
theorem wsum_snoc (k:Pol.R3→Int)(l:List (Pol.R3×F2))(x:Pol.R3×F2):wsum k (l++[x])=hZ k (wsum k l) x:=by unfold wsum;rw[xie];rfl
def k0 (r:Pol.R3):Int:=r.1
def k1 (r:Pol.R3):Int:=r.2.1
def k2 (r:Pol.R3):Int:=r.2.2
def xfy (l:List (Pol.R3×F2)):Tr:=.tup [fT (wsum k0 l),fT (wsum k1 l),fT (wsum k2 l)]
structure WS (rows:List Pol.R3)(ws:List F2):Prop where
 len:rows.length=ws.length
 l100:rows.length≤8
 sm:∀r∈rows,B3k 10 r
 wt:∀w∈ws,Wt w
theorem WS.zip {rows:List Pol.R3}{ws:List F2}(h:WS rows ws){x:Pol.R3×F2}(hx:x∈rows.zip ws):B3k 10 x.1∧Wt x.2:=by
 obtain⟨a,b⟩:=x
 have:=xi0 hx
 exact⟨h.sm a this.1,h.wt b this.2⟩
def gI:TSp:=fun ts KK=>∃t,ts=[t]∧KK (.bl (m9 t))
def g6:TSp:=fun ts KK=>∃(rs:List Tr) (t:Tr),ts=[.tup rs,t]∧rs.length≤1000∧KK (.bl (xfu rs.length t))
def rZ:TSp:=fun ts KK=>∃(rows:List Pol.R3) (ws:List F2),ts=[.tup (rows.map trR),.tup (ws.map fT)]∧WS rows ws ∧
 ∀a b c D:Int,Sd (wsum k0 (rows.zip ws)) a D→Sd (wsum k1 (rows.zip ws)) b D→Sd (wsum k2 (rows.zip ws)) c D→Bd D→KK (.tup [.lst [.int a,.int b,.int c],.int D])
def lr:TSp:=fun ts KK=>∃(rows:List Pol.R3) (ws:List F2),ts=[.tup (rows.map trR),.tup (ws.map fT)]∧WS rows ws∧KK (xfy (rows.zip ws))
def xb3:TSp:=fun ts KK=>∃(rows:List Pol.R3) (ws:List F2),ts=[.tup (rows.map trR),.tup (ws.map fT)]∧xn rows=true∧WS rows ws∧KK (xfy (rows.zip ws))
def v5 (a b:F2):Prop:=a.2=1∧b.2=1∧¬(a.1=0∧b.1=0)
def oT:TSp:=fun ts KK=>∃a b c:F2,ts=[.tup [fT a,fT b,fT c]]∧(0<c.2∧Bd c.2)∧v5 a b∧KK (trR (a.1,b.1,c.1.fdiv c.2))
def xcx:TSp:=fun ts KK=>∃(rows:List Pol.R3) (ws:List F2),ts=[.tup (rows.map trR),.tup (ws.map fT)]∧xn rows=true∧WS rows ws∧v5 (wsum k0 (rows.zip ws)) (wsum k1 (rows.zip ws)) ∧
 KK (trR ((wsum k0 (rows.zip ws)).1,(wsum k1 (rows.zip ws)).1,(wsum k2 (rows.zip ws)).1.fdiv (wsum k2 (rows.zip ws)).2))
def rm:TSp:=fun ts KK=>∃(rows:List Pol.R3) (ws:List F2),ts=[.tup (rows.map trR),.tup (ws.map fT)]∧WS rows ws∧KK (xfy (rows.zip ws))
def tw:TSp:=fun ts KK=>∃rows:List Pol.R3,ts=[.tup (rows.map trR)]∧LF rows∧∀ws:List F2,ws.length=rows.length→(∀w∈ws,Wt w)→KK (.tup (ws.map fT))
theorem gj {α β:Type}(f:α→Tr)(g:β→Tr):∀(l:List α) (m:List β),bR (l.map f) (m.map g)=(l.zip m).map fun x=>.tup [f x.1,g x.2]
 | [],_=>rfl
 | _::_,[]=>rfl
 | x::l,y::m=>by show Tr.tup [f x,g y]::bR (l.map f) (m.map g)=_;rw[gj f g l m];rfl
theorem c_ {t b:Int}(ht:0≤t∧t≤1000000)(hb:1≤b∧b≤1000000):Wt (lfr t b):=by
 have c:=aD (t:=t) (b:=b) (by omega)
 have s:Sd (lfr t b) t b:=by rw[uU (by omega)];exact sj (by omega)
 refine⟨c.1,c.2,?_,sD (by omega) (by unfold Bk;omega) (by unfold Bk;omega)⟩
 refine Int.not_lt.mp fun z=>?_
 have:=s.neg.mp z
 omega
theorem xcn {t:Int}(ht:0≤t∧t≤1000000):Wt (t,1):=⟨by show(0:Int)<1;decide,by show Int.gcd t 1=1;simp,ht.1,⟨by unfold Bk;simp only;omega,by show Bk 40 1;unfold Bk;decide,by show(0:Int)<1;decide⟩⟩
theorem Cop.lfr {f:F2}(c:Cop f):L2.lfr f.1 f.2=f:=Sd.low (ly c.1) c
def rwT (x:Pol.R3×F2):Tr:=.tup [trR x.1,fT x.2]
def dJ (x:Pol.R3×F2):Bool := !decide (x.2.1=0)
theorem oC {k:Pol.R3→Int}{f:F2}{x:Pol.R3×F2}(c:Cop f)(h:Wt x.2)(hz:x.2.1=0):hZ k f x=f:=by
 have e:x.2=(0,1):=by
  have g:=h.cop
  rw[hz,Int.gcd_zero_left] at g
  have p:=h.pos
  exact Prod.ext hz (by show x.2.2=1;omega)
 unfold hZ
 rw[e]
 have e2:xa3 (0,1) (k x.1,1)=(0,1):=by
  unfold xa3
  show L2.lfr (0*k x.1) (1*1)=(0,1)
  rw[xh1];decide
 rw[e2]
 unfold aQ
 show L2.lfr (f.1*1+0*f.2) (f.2*1)=f
 rw[xhW,xh1,xhu,xhW]
 exact c.lfr
theorem gN (k:Pol.R3→Int)(l:List (Pol.R3×F2))(h:∀x∈l,Wt x.2):wsum k (l.filter dJ)=wsum k l:=by
 have go:∀(l:List (Pol.R3×F2)) (f:F2),Cop f→(∀x∈l,Wt x.2)→(l.filter dJ).foldl (hZ k) f=l.foldl (hZ k) f:=fun l=>by
  induction l with
  | nil=>exact fun f c _=>rfl
  | cons x l ih =>
   intro f c h
   have hx:=h x xiL
   have hl:=fun y hy=>h y (xiK x hy)
   have c':Cop (hZ k f x):=aD (Pol.pp c.1 (xac (by have:=hx.pos;show x.2.2*1≠0;omega)))
   by_cases z:x.2.1=0
   ·rw[xia (by simp[dJ,z]),ih f c hl,xif,oC c hx z]
   ·rw[xib (by simp[dJ,z]),xif,xif,ih _ c' hl]
 exact go l (0,1) ⟨by decide,by decide⟩ h
theorem xbP {D w:Int}(hD:0<D)(hw:0<w):0<D / (Int.gcd D w:Nat)*w∧D ∣ D / (Int.gcd D w:Nat)*w∧w ∣ D / (Int.gcd D w:Nat)*w∧(D / (Int.gcd D w:Nat)*w).natAbs≤(D*w).natAbs:=by
 have g0:(0:Int)<(Int.gcd D w:Nat):=by have:=xhD D (show w≠0 by omega);omega
 have dl:=xhB D w
 have dr:=xhC D w
 generalize ((Int.gcd D w:Nat):Int)=g at *
 obtain⟨q,rfl⟩:=dl
 obtain⟨p,rfl⟩:=dr
 rw[Int.mul_ediv_cancel_left q (show g≠0 by omega)]
 have q0:0<q:=Int.pos_of_mul_pos_right hD g0
 refine⟨Pol.pp q0 hw,⟨p,by grind⟩,Int.dvd_mul_left ..,?_⟩
 rw[xh0,xh0 (g*q)]
 refine xjl _ ?_
 have:1*q≤g*q:=xhQ (by omega) (by omega)
 omega
theorem ar {α:Type}(x:α):∀n:Nat,(List.replicate n [x]).flatten=List.replicate n x
 | 0=>rfl
 | n+1=>by rw[xi1,xid,ar x n];rfl
theorem fP {P:F2→Prop}:∀ {xs ys:List Tr},Paired (fun _ y=>∃w,y=fT w∧P w) xs ys→∃ws:List F2,ys=ws.map fT∧(∀w∈ws,P w)∧ws.length=xs.length
 | _,_,.nil=>⟨[],rfl,fun _ h=>(nomatch h),rfl⟩
 | _,_,.cons ⟨w,e,hw⟩ r=>by
  obtain⟨ws,e2,h,l⟩:=fP r
  exact⟨w::ws,by rw[e,e2];rfl,fun v hv=>by rcases xiJ.mp hv with rfl | hv;exact hw;exact h v hv,by simp[l]⟩
theorem xbY {α:Type}{f:α→Tr}{n:Nat}{l:List α}{w:α}(hn:n<l.length):xdU (l.map f) (f w) (n:Int)=some ((l.set n w).map f):=by
 show(if n<(l.map f).length then some ((l.map f).set n (f w)) else none)=_
 rw[if_pos (by rw[xit];exact hn),List.map_set]
theorem gy {α:Type}{f:α→Tr}{i n:Nat}{di:DE}{τ:TSt}{KK:TSt→Prop}{l:List α}{w:α}(h:nth τ i=.ow (l.map f))(hn:n<l.length)(hd:∀KK':Tr→Prop,KK' (.int n)→di τ KK')(k:KK (τ.set i (.ow ((l.set n w).map f)))):xfn i di (f w) τ KK:=by
 unfold xfn
 rw[h]
 refine hd _ ?_
 have e:xdU (l.map f) (f w) (n:Int)=some ((l.set n w).map f):=by
  show(if n<(l.map f).length then some ((l.map f).set n (f w)) else none)=_
  rw[if_pos (by rw[xit];exact hn),List.map_set]
 show match xdU (l.map f) (f w) (n:Int) with | some us=>KK (τ.set i (.ow us)) | none=>False
 rw[e]
 exact k
instance (a b:F2):Decidable (v5 a b):=by unfold v5;infer_instance
def uD (l:List (Pol.R3×F2)):Tr:=trR ((wsum k0 l).1,(wsum k1 l).1,(wsum k2 l).1.fdiv (wsum k2 l).2)
def xem:TSp:=fun ts KK=>∃(rows:List Pol.R3) (ws:List F2),ts=[.tup (rows.map trR),.tup (ws.map fT)]∧WS rows ws∧KK (if v5 (wsum k0 (rows.zip ws)) (wsum k1 (rows.zip ws)) then uD (rows.zip ws) else .non)
theorem WS.bot {rows:List Pol.R3}{ws:List F2}(H:WS rows ws):0<(wsum k2 (rows.zip ws)).2∧Bd (wsum k2 (rows.zip ws)).2:=by
 have f:=m7 k2 (rows.zip ws) fun x hx=>⟨(H.zip hx).2.sm,(H.zip hx).1.2⟩
 have:(rows.zip ws).length≤8:=by rw[xiz];have:=H.l100;omega
 exact⟨f.pos,(f.bot.mono (show 1+51*(rows.zip ws).length≤500 by omega)).bd⟩
def wsT (ws:List F2):Tr:=.tup (ws.map fT)
def GW (n:Nat)(ws:List F2):Prop:=ws.length=n∧∀w∈ws,Wt w
theorem LF.ws {rows:List Pol.R3}{ws:List F2}(hF:LF rows)(h:GW rows.length ws):WS rows ws:=⟨h.1.symm,hF.l8,fun r hr=>by
 have:=hF.sm r hr
 exact⟨⟨by unfold Bk;omega,by unfold Bk;omega⟩,by unfold Bk;omega⟩,h.2⟩
end L2
namespace Trn
abbrev D2:=Int×Int
def cr (p q:D2):Int:=p.1*q.2-p.2*q.1
def sc (m:Int)(p:D2):D2:=(m*p.1,m*p.2)
def ad (p q:D2):D2:=(p.1+q.1,p.2+q.2)
def sb (p q:D2):D2:=(p.1-q.1,p.2-q.2)
theorem gO (p:D2):cr p p=0:=by unfold cr;grind
theorem rk (p q:D2):cr q p = - cr p q:=by unfold cr;grind
def InC (u v x:D2):Prop:=0≤cr u x∧0≤cr x v
end Trn
namespace Trn
def Bx (n:Int)(p:D2):Prop:=(-n≤p.1∧p.1≤n)∧-n≤p.2∧p.2≤n
theorem nh (f l x:D2):x.1*cr f l=cr x l*f.1+cr f x*l.1∧x.2*cr f l=cr x l*f.2+cr f x*l.2:=by
 unfold cr;constructor<;>grind
end Trn
namespace Trn
def gd (p:D2):Int:=(Int.gcd p.1 p.2:Nat)
theorem mr {p:D2}(h:p≠(0,0)):0<gd p:=by
 unfold gd
 have:0<Int.gcd p.1 p.2:=Int.gcd_pos_iff.mpr (by
  by_cases c:p.1=0
  ·exact .inr fun z=>h (Prod.ext c z)
  ·exact .inl c)
 omega
end Trn
namespace L2
open PySem Trn
def drD (p:D2):Tr:=drT p.1 p.2
theorem xfx {n:Int}{u v:D2}(hn:n≤1000000)(hu:Bx n u)(hv:Bx n v):L4 u.1 u.2 v.1 v.2:=by
 unfold Bx at hu hv;unfold L4 L24;omega
theorem xfF {n:Int}{u:D2}(hn:n≤1000000)(hu:Bx n u):Bd u.1∧Bd u.2:=⟨w_ (by unfold Bx at hu;omega),w_ (by unfold Bx at hu;omega)⟩
theorem _root_.Trn.Bx.mono {n m:Int}{u:D2}(h:Bx n u)(hm:n≤m):Bx m u:=by unfold Bx at *;omega
end L2
namespace L2
open PySem Trn
def uG (rows:List Pol.R3)(i:Nat):Pol.R3:=rows.getD i (0,0,0)
def xJ (rows:List Pol.R3)(i:Nat):D2:=((uG rows i).1,(uG rows i).2.1)
theorem aU {rows:List Pol.R3}{i:Nat}(h:i<rows.length):rows[i]? = some (uG rows i):=by
 unfold uG
 rw[xig,xii h];rfl
theorem aq {rows:List Pol.R3}{i:Nat}(h:i<rows.length):uG rows i∈rows:=xiR (aU h)
def zy (rows:List Pol.R3)(n:Nat)(acc:Option Nat)(o:Nat):Option Nat :=
 if 0<cr (xJ rows n) (xJ rows o) then(match acc with | none=>some o | some m=>if 0<cr (xJ rows o) (xJ rows m) then some o else some m) else acc
def nN (rows:List Pol.R3)(nums:List Nat)(n:Nat):Option Nat:=nums.foldl (zy rows n) none
theorem af {rows:List Pol.R3}{n:Nat}:∀(nums:List Nat) (acc:Option Nat),(∀m,acc=some m→0<cr (xJ rows n) (xJ rows m)) →
  (∀m,nums.foldl (zy rows n) acc=some m→0<cr (xJ rows n) (xJ rows m)∧(m∈nums∨acc=some m))∧((acc≠none∨∃o∈nums,0<cr (xJ rows n) (xJ rows o))→nums.foldl (zy rows n) acc≠none)
 | [],acc,h=>⟨fun m e=>⟨h m e,.inr e⟩,fun z=>z.elim id fun⟨o,ho,_⟩=>absurd ho (by simp)⟩
 | o::nums,acc,h=>by
  have h':∀m,zy rows n acc o=some m→0<cr (xJ rows n) (xJ rows m)∧(m=o∨acc=some m):=fun m e=>by
   unfold zy at e
   split at e
   ·rename_i c
    cases acc with
    | none=>cases e;exact⟨c,.inl rfl⟩
    | some k =>
     dsimp only at e
     split at e
     ·cases e;exact⟨c,.inl rfl⟩
     ·cases e;exact⟨h _ rfl,.inr rfl⟩
   ·exact⟨h m e,.inr e⟩
  obtain⟨g1,g2⟩:=af nums (zy rows n acc o) fun m e=>(h' m e).1
  refine⟨fun m e=>?_,fun z=>g2 ?_⟩
  ·obtain⟨p,q⟩:=g1 m e
   refine⟨p,?_⟩
   rcases q with q | q
   ·exact .inl (xiK _ q)
   ·rcases(h' m q).2 with r | r
    ·exact .inl (by rw[r];exact xiL)
    ·exact .inr r
  ·have keep:acc≠none→zy rows n acc o≠none:=fun a=>by
    unfold zy
    split
    ·cases acc with
     | none=>exact absurd rfl a
     | some k=>dsimp only;split<;>exact fun z=>nomatch z
    ·exact a
   rcases z with z | ⟨o',ho,c⟩
   ·exact .inl (keep z)
   ·rcases xiJ.mp ho with rfl | ho
    ·left
     unfold zy
     rw[if_pos c]
     cases acc with
     | none=>exact fun z=>nomatch z
     | some k=>dsimp only;split<;>exact fun z=>nomatch z
    ·exact .inr ⟨o',ho,c⟩
def uN (rows:List Pol.R3)(nums:List Nat):List (Nat×Nat):=nums.filterMap fun n=>(nN rows nums n).map fun m=>(n,m)
theorem sP {rows:List Pol.R3}{nums:List Nat}{ij:Nat×Nat}(h:ij∈uN rows nums):ij.1∈nums∧ij.2∈nums∧0<cr (xJ rows ij.1) (xJ rows ij.2):=by
 obtain⟨n,hn,e⟩:=xiN.mp h
 cases q:nN rows nums n with
 | none=>rw[q] at e;cases e
 | some m =>
  rw[q] at e;cases e
  obtain⟨p,r⟩:=(af (rows:=rows) (n:=n) nums none (fun m e=>nomatch e)).1 m q
  exact⟨hn,r.resolve_right (fun z=>nomatch z),p⟩
def xcf (n i j:Nat)(p q:Int):List Int:=((List.replicate n (0:Int)).set i p).set j q
def wtw (n i j:Nat)(p q T:Int):List F2:=(xcf n i j p q).map fun m=>lfr m T
def lin (k:Pol.R3→Int)(rows:List Pol.R3)(ns:List Int):Int:=((rows.zip ns).map fun x=>x.2*k x.1).sum
theorem c5 (k:Pol.R3→Int):∀(rows:List Pol.R3) (n:Nat),lin k rows (List.replicate n 0)=0
 | [],n=>by simp[lin]
 | r::rows,0=>by simp[lin]
 | r::rows,n+1=>by
  have:=c5 k rows n
  unfold lin at *
  simp only[xi1,xja,xiD,xi6]
  omega
theorem bB (k:Pol.R3→Int):∀(rows:List Pol.R3) (ns:List Int) (i:Nat) (p:Int),i<ns.length→i<rows.length→lin k rows (ns.set i p)=lin k rows ns+(p-ns.getD i 0)*k (uG rows i)
 | [],_,_,_,_,h=>by simp at h
 | _::_,[],_,_,h,_=>by simp at h
 | r::rows,m::ns,0,p,_,_=>by
  simp only[lin,List.set_cons_zero,xja,xiD,xi6,uG,List.getD_cons_zero]
  rw[Int.sub_mul];omega
 | r::rows,m::ns,i+1,p,h1,h2=>by
  have:=bB k rows ns i p (by simpa using h1) (by simpa using h2)
  simp only[lin,List.set_cons_succ,xja,xiD,xi6,uG,List.getD_cons_succ] at *
  omega
theorem xdL (k:Pol.R3→Int){rows:List Pol.R3}{i j:Nat}(p q:Int)(hi:i<rows.length)(hj:j<rows.length)(ne:i≠j):lin k rows (xcf rows.length i j p q)=p*k (uG rows i)+q*k (uG rows j):=by
 unfold xcf
 rw[bB k rows _ j q (by simp;omega) hj,bB k rows _ i p (by simp;omega) hi,c5]
 have e1:(List.replicate rows.length (0:Int)).getD i 0=0:=by rw[xig,xim,if_pos hi];rfl
 have e2:((List.replicate rows.length (0:Int)).set i p).getD j 0=0:=by
  rw[xig,xin ne,xim,if_pos hj];rfl
 rw[e1,e2,Int.sub_zero,Int.sub_zero]
 omega
theorem cP {m T:Int}(hT:0<T):Sd (lfr m T) m T:=by rw[uU hT];exact sj hT
theorem xcY {w:F2}{r n D:Int}(h:Sd w n D):Sd (xa3 w (r,1)) (n*r) D:=by
 refine Sd.lfr (by have:=h.pf;show 0<w.2*1;omega) h.pd ?_ rfl
 have:=h.e
 show w.1*r*D=n*r*(w.2*1)
 grind
theorem wZ (k:Pol.R3→Int){T:Int}(hT:0<T)(rows:List Pol.R3)(ns:List Int):Sd (wsum k (rows.zip (ns.map fun m=>lfr m T))) (lin k rows ns) T:=by
 have go:∀(rows:List Pol.R3) (ns:List Int) (f:F2) (N:Int),Sd f N T→Sd ((rows.zip (ns.map fun m=>lfr m T)).foldl (hZ k) f) (N+lin k rows ns) T:=fun rows=>by
  induction rows with
  | nil=>intro ns f N h;simpa [lin] using h
  | cons r rows ih =>
   intro ns f N h
   cases ns with
   | nil=>simpa [lin] using h
   | cons m ns =>
    have:=ih ns (hZ k f (r,lfr m T)) (N+m*k r) (h.plusD (xcY (cP hT)))
    rw[xiD,xja,xif]
    have e:N+lin k (r::rows) (m::ns)=N+m*k r+lin k rows ns:=by
     simp only[lin,xja,xiD,xi6];omega
    rw[e];exact this
 have:=go rows ns (0,1) 0 ⟨by decide,hT,by show(0:Int)*T=0*1;omega⟩
 rw[Int.zero_add] at this
 exact this
theorem Sd.floor {f:F2}{N D:Int}(h:Sd f N D):f.1 / f.2=N / D:=by
 have e:=h.e
 have a:f.1 / f.2=(f.1*D) / (f.2*D):=(Int.mul_ediv_mul_of_pos_left f.1 f.2 h.pd).symm
 rw[a,e,xhL f.2 D]
 exact Int.mul_ediv_mul_of_pos_left N D h.pf
theorem aJ (n:Int):Cop (n,1):=⟨by show(0:Int)<1;decide,by show Int.gcd n 1=1;simp⟩
end L2
namespace L2
open PySem PySem.Spec PyProof.Rows
open Builtin.SmallTypes (nextOf)
section
variable {prog:Program} {w:World} {A:Around} {E:Value→Shared→Prop} {s:Shared} {z ti to i1 i2 i3 a1 a2 a3:Addr} {vs us ws:List Value} {t1 t2 t3:Nat→Heap→Prop} {s1 s2 s3:Heap→Prop}
end
end L2
namespace L2
open PySem PySem.Spec PyProof.Rows
section
variable {prog:Program} {w:World} {A:Around} {E:Value→Shared→Prop} {s:Shared}
end
section
variable {P:Program} {w:World} {K:PySem.W.Frag} {z ti to i1 i2 i3 a1 a2 a3:Addr} {b c' e':Bool}
end
section
variable {X:Cx}
end
section
variable {K:PySem.W.Frag}
end
end L2
namespace L2
open PySem PySem.Spec PyProof.Rows
open Builtin.SmallTypes (nextOf)
section
variable {prog:Program} {w:World} {A:Around} {E:Value→Shared→Prop} {s:Shared} {z ti to i1 i2 a1 a2:Addr} {vs us:List Value} {t1 t2:Nat→Heap→Prop} {s1 s2:Heap→Prop}
end
section
variable {P:Program} {w:World} {K:PySem.W.Frag} {z ti to i1 i2 a1 a2:Addr} {b c':Bool}
end
section
variable {X:Cx}
end
end L2
namespace L2
open PySem Trn
theorem n_ {u v x:D2}(nz:x≠(0,0))(c:InC u v x):ka u.1 u.2 v.1 v.2 (drD x)=.tup [xam (cr x v) (cr u v),xam (cr u x) (cr u v)]:=by
 have e1:ka u.1 u.2 v.1 v.2 (drD x)=if x.1=0∧x.2=0 then .non else if tn x.1 x.2 v.1 v.2<0∨tn u.1 u.2 x.1 x.2<0 then .non else .tup [xam (tn x.1 x.2 v.1 v.2) (tn u.1 u.2 v.1 v.2),xam (tn u.1 u.2 x.1 x.2) (tn u.1 u.2 v.1 v.2)]:=rfl
 rw[e1,if_neg (fun z=>nz (Prod.ext z.1 z.2)),if_neg]
 ·rfl
 ·have a:tn x.1 x.2 v.1 v.2=cr x v:=rfl
  have b:tn u.1 u.2 x.1 x.2=cr u x:=rfl
  rw[a,b]
  have:=c.1;have:=c.2
  omega
theorem xev {n:Int}{u:D2}(hn:n≤1000000)(hu:Bx n u):L24 u.1∧L24 u.2:=by unfold Bx at hu;unfold L24;omega
end L2
namespace L2
open PySem PySem.Spec PySem.Calls PyProof.Rows
section
variable {X:Cx} {pins:List (Addr×Obj)} {σ:St} {H H':Hp} {s s':Shared} {ea C:Addr}
theorem xdr {e:Expr}{te:TE}{rp tp0:Pos}{h₀:ExceptHandler}{hs:List ExceptHandler}(he:PE X e te)(hx0:∀v s,¬X.xe v s):PS X (.Try [.Return (some e) rp] (h₀::hs) [] [] tp0) (xeZ te):=by
 intro pins s σ H D I q
 refine wpAny_Try_except ?_
 refine wpAny_mono ((xh (xF he)) s σ H D I q) (fun f s1 h1=>?_) fun v s z=>(hx0 v s z).elim
 cases f with
 | next=>exact wpAny_execs_nil h1
 | brk=>exact h1
 | cont=>exact h1
 | ret u=>exact h1
end
end L2
namespace L2
open PySem PySem.Spec PyProof.Rows
section
variable {X:Cx} {a b:Expr} {rest:List Expr} {ta tb:TE} {pos:Pos}
def xgE (K:PySem.W.Frag)(ta:TE):TT:=fun σ H Q=>ta σ H fun x H'=>∃k,xfi K x H' k∧Q k H'
theorem xeL (K:PySem.W.Frag)(ha:PE X a ta)(he:∀whole,isTrue a X.env whole=(do let v ←whole;standAt a.pos;holding [v] (truthy v)):=by exact fun _=>rfl)(e:X.K=K:=by rfl):PT X a (xgE K ta):=by
 subst e
 exact xbr ha he
end
def trT:Tr→Option Bool
 | .non=>some false
 | .bl b=>some b
 | .int i=>some (i != 0)
 | .tup ts=>some (!ts.isEmpty)
 | .lst ts=>some (!ts.isEmpty)
 | .emp=>some false
 | .str _=>none
section
variable {K:PySem.W.Frag} {fr:Bool}
theorem sO {F:Addr→Prop}{H:Hp}{ts:List Tr}{ws:List V}(h:zF F H ts ws):(!ts.isEmpty) = !ws.isEmpty:=by
 have:=h.len
 cases ts<;>cases ws<;>simp_all
theorem xdO {F:Addr→Prop}{H:Hp}{t:Tr}{v:V}{k:Bool}(r:Rep F H t v)(h:trT t=some k):xfi K v H k:=by
 cases t with
 | non=>cases (show v=.non from r);cases h;rfl
 | bl b=>cases (show v=.bl b from r);cases h;rfl
 | int i=>cases (show v=.int i from r);cases h;rfl
 | str x=>cases h
 | emp=>obtain⟨p,e,_,hp⟩:=r;subst e;cases h;exact .inr (.inr ⟨[],hp,rfl⟩)
 | tup ts=>obtain⟨p,ws,e,_,hp,rl⟩:=r;subst e;cases h;exact .inr (.inl ⟨ws,SqT.of hp,sO rl⟩)
 | lst ts=>obtain⟨p,ws,e,_,hp,rl⟩:=r;subst e;cases h;exact .inl ⟨ws,SqL.of hp,sO rl⟩
def xhd (d:DE):DT:=fun τ KK=>d τ fun x=>match trT x with | some k=>KK k | none=>False
theorem xdH {b:Bool}{te:TE}{d:DE}(h:OkE K b te d):OkT K (xgE K te) (xhd d):=fun B φ σ τ H Q KK R hd q =>
 h B φ σ τ H _ _ R hd fun t v H1 x1 k1 r1=>by
  split at k1
  ·rename_i k e
   exact⟨k,xdO r1 e,q _ H1 x1 k1⟩
  ·exact k1.elim
end
section
variable {P:Program} {w:World} {K:PySem.W.Frag} {mg:Str→Option Value} {base:Heap} {k n:Nat} {x qual:Str} {st:Stmt} {f:Addr} {fd:FuncData} {N ps:List Str} {fr:Bool} {sp:TSp}
end
end L2
namespace L2
open PySem
theorem rK.ws {rows:List Pol.R3}{ws:List F2}(hf:xn rows=true)(h:GW rows.length ws):WS rows ws:=⟨h.1.symm,(rK hf).1.2,fun r hr=>uK ((rK hf).2.1 r hr).2,h.2⟩
end L2
namespace Pol
def sw (p:R3):R3:=(p.2.1,p.1,p.2.2)
end Pol
namespace L2
open PySem PySem.Spec PyProof.Rows
structure PSd (p:P2)(v:Pol.R3):Prop where
 x:Sd p.1 v.1 v.2.2
 y:Sd p.2 v.2.1 v.2.2
theorem xdC {v:Pol.R3}(h:0<v.2.2):PSd (plc v) v:=⟨sdx h,sdy h⟩
theorem PSd.val {p:P2}{v:Pol.R3}(h:PSd p v)(r:Pol.R3):Sd (vY r p) (r.1*v.1+r.2.1*v.2.1) v.2.2:=by
 refine Sd.lfr (Pol.pp h.x.pf h.y.pf) h.x.pd ?_ rfl
 have:=h.x.e;have:=h.y.e
 grind
theorem tN {f g h:F2}(pf:0<f.2)(pg:0<g.2)(ph:0<h.2)(h1:f.1*g.2≤g.1*f.2)(h2:g.1*h.2≤h.1*g.2):f.1*h.2≤h.1*f.2:=by
 have e1:(f.1*g.2)*h.2≤(g.1*f.2)*h.2:=xhQ h1 (by omega)
 have e2:(g.1*h.2)*f.2≤(h.1*g.2)*f.2:=xhQ h2 (by omega)
 have e3:(f.1*h.2)*g.2≤(h.1*f.2)*g.2:=by
  have:(f.1*g.2)*h.2=(f.1*h.2)*g.2:=by grind
  have:(g.1*f.2)*h.2=(g.1*h.2)*f.2:=by grind
  have:(h.1*g.2)*f.2=(h.1*f.2)*g.2:=by grind
  omega
 exact xhG e3 pg
theorem xah {a b:Int}{best:Option F2}{p:P2}:∃h,kb a b best p=some h∧(vY (a,b,0) p).1*h.2≤h.1*(vY (a,b,0) p).2∧∀g,best=some g→g.1*h.2≤h.1*g.2:=by
 cases best with
 | none=>exact⟨_,rfl,xhH _,fun g z=>nomatch z⟩
 | some f =>
  cases d:tJ f (vY (a,b,0) p) with
  | true =>
   refine⟨_,xcI d,xhH _,fun g z=>?_⟩
   cases z
   have:=xjv d
   omega
  | false =>
   refine⟨_,xeh d,?_,fun g z=>?_⟩
   ·have:=xju d
    omega
   ·cases z;exact xhH _
theorem l9 {a b:Int}(ps:List P2)(hp:∀p∈ps,0<p.1.2∧0<p.2.2):∀(best:Option F2) (f:F2),(∀g,best=some g→0<g.2)→ps.foldl (kb a b) best=some f→(∀g,best=some g→g.1*f.2≤f.1*g.2)∧∀p∈ps,(vY (a,b,0) p).1*f.2≤f.1*(vY (a,b,0) p).2:=by
 induction ps with
 | nil =>
  intro best f hb h
  refine⟨fun g hg=>?_,fun p hp=>by simp at hp⟩
  have h:best=some f:=h
  rw[h] at hg;cases hg;exact xhH _
 | cons p ps ih =>
  intro best f hb h
  obtain⟨s,hs,h1,h2⟩:=xah (a:=a) (b:=b) (best:=best) (p:=p)
  rw[xif,hs] at h
  have pp:=bV (a:=a) (b:=b) (c:=0) (hp p xiL)
  have sp:0<s.2:=by
   rcases gJ hs with q | q
   ·exact hb s q
   ·rw[q];exact pp
  have fp:0<f.2:=by
   rcases qT ps (some s) h with q | ⟨p',hm,e⟩
   ·cases q;exact sp
   ·rw[e];exact bV (hp p' (xiK _ hm))
  obtain⟨k1,k2⟩:=ih (fun q hq=>hp q (xiK _ hq)) (some s) f (fun g hg=>by cases hg;exact sp) h
  have k1:=k1 s rfl
  refine⟨fun g hg=>tN (hb g hg) sp fp (h2 g hg) k1,fun q hq=>?_⟩
  rcases xiJ.mp hq with e | hq
  ·rw[e];exact tN pp sp fp h1 k1
  ·exact k2 q hq
theorem pX {r v:Pol.R3}(h:0<v.2.2):gW r (plc v)=true↔Pol.val r v=0:=by
 unfold gW
 rw[xjt]
 have s:=(xdC h).val r
 have e:=s.eq (ly (f:=(r.2.2,1)) (by show(0:Int)<1;decide))
 simp only[xhW] at e
 rw[e]
 unfold Pol.val
 omega
section
variable {rows:List Pol.R3} (FR:uH rows) {r v:Pol.R3} (hr:r∈rows) (hv:v∈zR rows) (ht:gW r (plc v)=true)
include FR hr
include hv ht
end
end L2
namespace L2
open PySem Trn
abbrev SX:=(Nat×Nat)×D2
def dR (rows:List Pol.R3)(x:SX):List F2:=wtw rows.length x.1.1 x.1.2 (cr x.2 (xJ rows x.1.2)) (cr (xJ rows x.1.1) x.2) (cr (xJ rows x.1.1) (xJ rows x.1.2))
def xd2 (rows:List Pol.R3)(x:SX):Pol.R3:=((wsum k0 (rows.zip (dR rows x))).1,(wsum k1 (rows.zip (dR rows x))).1,(wsum k2 (rows.zip (dR rows x))).1.fdiv (wsum k2 (rows.zip (dR rows x))).2)
def xgX (rows:List Pol.R3)(x:SX):Tr:=.tup [wsT (dR rows x),trR (xd2 rows x)]
structure ua (rows:List Pol.R3)(x:SX):Prop where
 i1:x.1.1<rows.length
 i2:x.1.2<rows.length
 pos:0<cr (xJ rows x.1.1) (xJ rows x.1.2)
 inc:InC (xJ rows x.1.1) (xJ rows x.1.2) x.2
 nz:x.2≠(0,0)
 bx:Bx 1000 x.2
theorem kR {rows:List Pol.R3}(hf:xn rows=true){i:Nat}(h:i<rows.length):Bx 30 (xJ rows i):=by
 obtain⟨⟨a,b⟩,_⟩:=((rK hf).2.1 _ (aq h)).2
 exact⟨a,b⟩
theorem ua.ne {rows:List Pol.R3}{x:SX}(G:ua rows x):x.1.1≠x.1.2:=fun e=>by
 have:=G.pos
 rw[e,gO] at this
 omega
theorem xbu {n i j:Nat}{p q m:Int}(h:m∈xcf n i j p q):m=0∨m=p∨m=q:=by
 unfold xcf at h
 rcases xiT h with h | h
 ·rcases xiT h with h | h
  ·exact .inl (List.mem_replicate.mp h).2
  ·exact .inr (.inl h)
 ·exact .inr (.inr h)
theorem rg {u v:D2}(hu:Bx 30 u)(hv:Bx 1000 v):-60000≤cr u v∧cr u v≤60000:=by
 have go:∀ {a b:Int},(-30≤a∧a≤30)→(-1000≤b∧b≤1000)→-30000≤a*b∧a*b≤30000:=fun {a b} ha hb=>by
  have h1:(a*b).natAbs≤30*1000:=by
   rw[xh0]
   exact Nat.mul_le_mul (by omega) (by omega)
  omega
 have:=go hu.1 hv.2
 have:=go hu.2 hv.1
 unfold cr
 omega
theorem ua.sm {rows:List Pol.R3}{x:SX}(hf:xn rows=true)(G:ua rows x):(cr x.2 (xJ rows x.1.2)≤60000∧cr (xJ rows x.1.1) x.2≤60000)∧cr (xJ rows x.1.1) (xJ rows x.1.2)≤60000:=by
 have a:=rg (kR hf G.i2) G.bx
 have b:=rg (kR hf G.i1) G.bx
 have c:=rg (kR hf G.i1) ((kR hf G.i2).mono (by decide))
 rw[rk] at a
 omega
theorem ua.gw {rows:List Pol.R3}{x:SX}(hf:xn rows=true)(G:ua rows x):GW rows.length (dR rows x):=by
 refine⟨by simp[dR,wtw,xcf],fun w hw=>?_⟩
 obtain⟨m,hm,rfl⟩:=xiP.mp hw
 have S:=G.sm hf
 have p:=G.pos
 have i:=G.inc
 refine c_ ?_ (by omega)
 unfold InC at i
 rcases xbu hm with rfl | rfl | rfl<;>omega
theorem ua.lin {rows:List Pol.R3}{x:SX}(G:ua rows x)(k:Pol.R3→Int):Sd (wsum k (rows.zip (dR rows x))) (cr x.2 (xJ rows x.1.2)*k (uG rows x.1.1)+cr (xJ rows x.1.1) x.2*k (uG rows x.1.2)) (cr (xJ rows x.1.1) (xJ rows x.1.2)):=by
 have:=wZ k G.pos rows (xcf rows.length x.1.1 x.1.2 (cr x.2 (xJ rows x.1.2)) (cr (xJ rows x.1.1) x.2))
 rw[xdL k _ _ G.i1 G.i2 G.ne] at this
 exact this
theorem cI {f:F2}{n T:Int}(h:Sd f (n*T) T)(c:Cop f):f=(n,1):=by
 have a:=h.low c
 have b:=(⟨Int.zero_lt_one,h.pd,by show n*T=n*T*1;omega⟩:Sd (n,1) (n*T) T).low (aJ n)
 rw[←a,b]
theorem ua.pos2 {rows:List Pol.R3}{x:SX}(hf:xn rows=true)(G:ua rows x):∀y∈rows.zip (dR rows x),0<y.2.2:=fun y hy=>((G.gw hf).2 _ (xi0 hy).2).pos
theorem ua.a {rows:List Pol.R3}{x:SX}(hf:xn rows=true)(G:ua rows x):wsum k0 (rows.zip (dR rows x))=(x.2.1,1):=by
 refine cI (T:=cr (xJ rows x.1.1) (xJ rows x.1.2)) ?_ (jo _ _ (G.pos2 hf))
 have:=G.lin k0
 have e:=(nh (xJ rows x.1.1) (xJ rows x.1.2) x.2).1
 rw[e];exact this
theorem ua.b {rows:List Pol.R3}{x:SX}(hf:xn rows=true)(G:ua rows x):wsum k1 (rows.zip (dR rows x))=(x.2.2,1):=by
 refine cI (T:=cr (xJ rows x.1.1) (xJ rows x.1.2)) ?_ (jo _ _ (G.pos2 hf))
 have:=G.lin k1
 have e:=(nh (xJ rows x.1.1) (xJ rows x.1.2) x.2).2
 rw[e];exact this
theorem ua.cut {rows:List Pol.R3}{x:SX}(hf:xn rows=true)(G:ua rows x):v5 (wsum k0 (rows.zip (dR rows x))) (wsum k1 (rows.zip (dR rows x))):=by
 rw[G.a hf,G.b hf]
 exact⟨rfl,rfl,fun z=>G.nz (Prod.ext z.1 z.2)⟩
theorem gk {rows:List Pol.R3}{v:Pol.R3}(hz:0<v.2.2){i:Nat}:i∈rH rows (plc v)↔i<rows.length∧Pol.val (uG rows i) v=0:=by
 unfold rH
 rw[xiM,xiU]
 exact and_congr_right fun _=>pX hz
theorem bG {rows:List Pol.R3}{p:P2}{i:Nat}(h:i∈rH rows p):i<rows.length:=xiU.mp (xiM.mp h).1
theorem sF {rows:List Pol.R3}{i:Nat}(h:i<rows.length):atT (rows.map trR) (i:Int)=some (trR (uG rows i)):=by rw[fE,xil,aU h];rfl
theorem rK.bd {rows:List Pol.R3}(hf:xn rows=true){i:Nat}(h:i<rows.length):Bd (uG rows i).1∧Bd (uG rows i).2.1:=xfF (n:=30) (by decide) (kR hf h)
theorem bX {rows:List Pol.R3}{p:P2}:(rH rows p).length≤rows.length:=by
 have:=List.length_filter_le (fun i=>gW (rows.getD i (0,0,0)) p) (List.range rows.length)
 rw[List.length_range] at this
 exact this
theorem oa {rows:List Pol.R3}{nums:List Nat}:(uN rows nums).length≤nums.length:=List.length_filterMap_le _ _
theorem mT {rows:List Pol.R3}{nums:List Nat}{i n:Nat}(h:nums[i]? = some n)(F:Nat→Option (Nat×Nat)):(nums.take (i+1)).filterMap F=(nums.take i).filterMap F++(F n).toList:=by
 rw[xi_,h,List.filterMap_append]
 cases e:F n<;>simp[e]
theorem rK.b200 {rows:List Pol.R3}(hf:xn rows=true):∀r∈rows,B3k 200 r:=fun r hr=>(uK ((rK hf).2.1 r hr).2).mono (by decide)
theorem xbw {T:Int}(h:0<T):lfr 0 T=(0,1):=(⟨Int.zero_lt_one,h,by show(0:Int)*T=0*1;omega⟩:Sd (0,1) 0 T).low (aJ 0)
theorem xeN {n i j:Nat}{p q T:Int}(h:0<T):wtw n i j p q T=((List.replicate n ((0:Int),(1:Int))).set i (lfr p T)).set j (lfr q T):=by
 unfold wtw xcf
 rw[List.map_set,List.map_set,List.map_replicate,xbw h]
theorem lp {d:DG}{r:DGs}{t:Tr}{us:List Tr}{τ:TSt}{KK:TSt→Prop}(h:d t τ fun τ'=>r us τ' KK):xaQ d r (t::us) τ KK:=h
def kC (ij:Nat×Nat):Tr:=.tup [mR ij.1,mR ij.2]
def optN:Option Nat→Tr
 | none=>.non
 | some m=>mR m
def rN:TSp:=fun ts KK=>∃(rows:List Pol.R3) (nums:List Nat) (n:Nat),ts=[.tup (rows.map trR),.tup (nums.map mR),mR n]∧xn rows=true∧(∀m∈nums,m<rows.length)∧n<rows.length∧KK (optN (nN rows nums n))
def fu:TSp:=fun ts KK=>∃(rows:List Pol.R3) (nums:List Nat),ts=[.tup (rows.map trR),.tup (nums.map mR)]∧xn rows=true∧(∀m∈nums,m<rows.length)∧nums.length≤1000∧KK (.lst ((uN rows nums).map kC))
def bS:TSp:=fun ts KK=>∃(rows:List Pol.R3) (p:P2),ts=[.tup (rows.map trR),pT p]∧xn rows=true∧Pk 600 p∧KK (.lst ((uN rows (rH rows p)).map kC))
def xcJ:TSp:=fun ts KK=>∃(a b:Int) (x:List Tr),ts=[.tup (.int a::.int b::x)]∧KK (drT a b)
def pe:TSp:=fun ts KK=>∃(rows:List Pol.R3) (ws:List F2),ts=[.tup (rows.map trR),wsT ws]∧WS rows ws∧v5 (wsum k0 (rows.zip ws)) (wsum k1 (rows.zip ws))∧KK (.tup [wsT ws,uD (rows.zip ws)])
end L2
namespace Pol
theorem tZ {d:R3}:∀l:List R3,l≠[]→(∀r∈l,0<turn r d)→∃i∈l,∀r∈l,turn i r≤0
 | [],h,_=>absurd rfl h
 | x::l,_,h=>by
  by_cases e:l=[]
  ·subst e
   exact⟨x,xiL,fun r hr=>by rw[xiV.mp hr];simp only[turn];grind⟩
  obtain⟨i,hi,hm⟩:=tZ l e fun r hr=>h r (xiK _ hr)
  have self:turn x x≤0:=by simp only[turn];grind
  by_cases c:turn i x≤0
  ·exact⟨i,xiK _ hi,fun r hr=>(xiJ.mp hr).elim (fun z=>by rw[z];exact c) (hm r)⟩
  ·refine⟨x,xiL,fun r hr=>(xiJ.mp hr).elim (fun z=>by rw[z];exact self) fun hr=>?_⟩
   have p:=plk i x r d
   have hx:=h x xiL
   have hi':=h i (xiK _ hi)
   have hr':=h r (xiK _ hr)
   have a:0≤turn i x*turn r d:=pz (by omega) (by omega)
   have b:0≤-turn i r*turn x d:=pz (by have:=hm r hr;omega) (by omega)
   rw[Int.neg_mul] at b
   exact xb8 hi' (by omega)
theorem oj {rows:List R3}(gr:GR rows){d:R3}(d0:d.1≠0∨d.2.1≠0)(hd:∀r∈rows,turn r d≠0)(r0:∀r∈rows,r.1≠0∨r.2.1≠0):∃i∈rows,∃j∈rows,0<turn i j∧0<turn i d∧0<turn d j:=by
 obtain⟨x,hx,px⟩:=gr d.2.1 (-d.1) (by omega)
 have ex:0<turn x d:=by simp only[turn];rw[xhS] at px;omega
 obtain⟨i,hi,hm⟩:=tZ (d:=d) (rows.filter fun r=>decide (0<turn r d)) (fun z=>by have:x∈rows.filter fun r=>decide (0<turn r d):=xiM.mpr ⟨hx,xjs ex⟩;rw[z] at this;simp at this) fun r hr=>xjv (xiM.mp hr).2
 obtain⟨hi,pi⟩:=xiM.mp hi
 have pi:=xjv pi
 obtain⟨j,hj,pj⟩:=gr (-i.2.1) i.1 (by have:=r0 i hi;omega)
 have ej:0<turn i j:=by simp only[turn];rw[xhS,xhL j.1,xhL j.2.1] at pj;omega
 refine⟨i,hi,j,hj,ej,pi,?_⟩
 have n:=hd j hj
 have a:=xd0 d j
 rcases xhJ 0 (turn j d) with c | c
 ·have:=hm j (xiM.mpr ⟨hj,xjs c⟩)
  omega
 ·omega
theorem xcd {α:Type}(N T:α→Int):∀l:List α,l≠[]→(∀x∈l,0<T x)→∃m∈l,∀x∈l,N m*T x≤N x*T m
 | [],h,_=>absurd rfl h
 | x::l,_,h=>by
  by_cases e:l=[]
  ·subst e
   exact⟨x,xiL,fun r hr=>by rw[xiV.mp hr];exact xhH _⟩
  obtain⟨m,hm,hl⟩:=xcd N T l e fun r hr=>h r (xiK _ hr)
  by_cases c:N m*T x≤N x*T m
  ·exact⟨m,xiK _ hm,fun r hr=>(xiJ.mp hr).elim (fun z=>by rw[z];exact c) (hl r)⟩
  ·refine⟨x,xiL,fun r hr=>(xiJ.mp hr).elim (fun z=>by rw[z];exact xhH _) fun hr=>?_⟩
   have tx:=h x xiL
   have tm:=h m (xiK _ hm)
   have tr:=h r (xiK _ hr)
   have a:=hl r hr
   have b:N x*T m*T r≤N m*T x*T r:=xhQ (by omega) (by omega)
   have c':N m*T r*T x≤N r*T m*T x:=xhQ a (by omega)
   refine xhG (a:=T m) ?_ tm
   have e1:N x*T m*T r=N x*T r*T m:=by grind
   have e2:N m*T x*T r=N m*T r*T x:=by grind
   have e3:N r*T m*T x=N r*T x*T m:=by grind
   omega
def dN (d i j:R3):Int:=turn d j*i.2.2+turn i d*j.2.2
theorem g_ {i j:R3}(h:0<turn i j):wW i j=(i.2.2*j.2.1-i.2.1*j.2.2,i.1*j.2.2-i.2.2*j.1,turn i j):=by
 unfold wW
 rw[if_neg (by omega)]
theorem xg2 {d i j k:R3}(h:0<turn i j):dN d i j*turn k j-dN d k j*turn i j=turn d j*val k (wW i j):=by
 rw[g_ h]
 simp only[dN,turn,val]
 grind
theorem xhm {d i j k:R3}(h:0<turn i j):dN d i j*turn i k-dN d i k*turn i j=turn i d*val k (wW i j):=by
 rw[g_ h]
 simp only[dN,turn,val]
 grind
theorem xdV {i j k w:R3}(h:0<turn i j):turn i j*val k w=turn k j*val i w+turn i k*val j w+w.2.2*val k (wW i j):=by
 rw[g_ h]
 simp only[turn,val]
 grind
theorem bA {rows:List R3}(gr:GR rows){d:R3}(d0:d.1≠0∨d.2.1≠0)(hd:∀r∈rows,turn r d≠0)(r0:∀r∈rows,r.1≠0∨r.2.1≠0){w:R3}(hw:0<w.2.2)(kw:∀r∈rows,val r w≤0):∃i∈rows,∃j∈rows,(0<turn i j∧0<turn i d∧0<turn d j)∧∀r∈rows,val r (wW i j)≤0:=by
 obtain⟨i,hi,j,hj,hp⟩:=oj gr d0 hd r0
 let P:=(rows.flatMap fun i=>rows.map fun j=>(i,j)).filter fun p=>decide (0<turn p.1 p.2∧0<turn p.1 d∧0<turn d p.2)
 have mP:∀p:R3×R3,p∈P↔(p.1∈rows∧p.2∈rows)∧(0<turn p.1 p.2∧0<turn p.1 d∧0<turn d p.2):=fun p=>by
  show p∈List.filter _ _↔_
  rw[xiM,xjt,List.mem_flatMap]
  refine and_congr_left fun _=>⟨fun⟨a,ha,hm⟩=>?_,fun⟨a,b⟩=>⟨p.1,a,xiP.mpr ⟨p.2,b,rfl⟩⟩⟩
  obtain⟨b,hb,rfl⟩:=xiP.mp hm
  exact⟨ha,hb⟩
 obtain⟨m,hm,hmin⟩:=xcd (fun p:R3×R3=>dN d p.1 p.2) (fun p=>turn p.1 p.2) P (fun z=>by have:=(mP (i,j)).mpr ⟨⟨hi,hj⟩,hp⟩;rw[z] at this;simp at this) fun x hx=>((mP x).mp hx).2.1
 obtain⟨⟨mi,mj⟩,t1,t2,t3⟩:=(mP m).mp hm
 obtain⟨i,j⟩:=m
 refine⟨i,mi,j,mj,⟨t1,t2,t3⟩,fun k hk=>?_⟩
 simp only at *
 refine xht fun no=>?_
 have no:0<val k (wW i j):=by omega
 have id:turn k d*turn i j=turn k j*turn i d-turn i k*turn d j:=by simp only[turn];grind
 have nd:=hd k hk
 have ad:=xd0 d k
 have byJ:0<turn k j→0<turn k d→False:=fun a b=>by
  have:=hmin (k,j) ((mP _).mpr ⟨⟨hk,mj⟩,a,b,t3⟩)
  have e:=xg2 (d:=d) (k:=k) t1
  have:=pp t3 no
  simp only at *
  omega
 have byI:0<turn i k→turn k d<0→False:=fun a b=>by
  have:=hmin (i,k) ((mP _).mpr ⟨⟨mi,hk⟩,a,t2,show 0<turn d k by omega⟩)
  have e:=xhm (d:=d) (k:=k) t1
  have:=pp t2 no
  simp only at *
  omega
 by_cases t:0<turn k j
 ·rcases xhJ 0 (turn k d) with c | c
  ·exact byJ t c
  ·by_cases s:0<turn i k
   ·exact byI s (by omega)
   ·have a:=pp t t2
    have b:0≤-turn i k*turn d j:=pz (by omega) (by omega)
    rw[Int.neg_mul] at b
    have:turn k d*turn i j≤0:=by
     have:=pz (a:=-turn k d) (b:=turn i j) (by omega) (by omega)
     rw[Int.neg_mul] at this
     omega
    omega
 ·by_cases s:0<turn i k
  ·refine byI s ?_
   rcases xhJ (turn k d) 0 with c | c
   ·exact c
   ·have a:=pp s t3
    have b:0≤-turn k j*turn i d:=pz (by omega) (by omega)
    rw[Int.neg_mul] at b
    have:=pz (a:=turn k d) (b:=turn i j) (by omega) (by omega)
    omega
  ·have e:=xdV (k:=k) (w:=w) t1
   have a:0≤turn k j*val i w:=nn (by omega) (kw i mi)
   have b:0≤turn i k*val j w:=nn (by omega) (kw j mj)
   have c:=pp hw no
   have:=kw k hk
   have:turn i j*val k w≤0:=by
    have:=pz (a:=turn i j) (b:=-val k w) (by omega) (by omega)
    rw[xhS] at this
    omega
   omega
theorem xcC (f:R3→Int):∀l:List R3,∃M:Int,0<M∧∀r∈l,f r<M∧-M<f r
 | []=>⟨1,by decide,fun r h=>by simp at h⟩
 | x::l=>by
  obtain⟨M,h0,h⟩:=xcC f l
  refine⟨M+(f x).natAbs,by omega,fun r hr=>?_⟩
  rcases xiJ.mp hr with rfl | hr
  ·omega
  ·have:=h r hr;omega
theorem oi {rows:List R3}(gr:GR rows){d:R3}(d0:d.1≠0∨d.2.1≠0)(r0:∀r∈rows,r.1≠0∨r.2.1≠0){w:R3}(hw:0<w.2.2)(kw:∀r∈rows,val r w≤0):∃i∈rows,∃j∈rows,(0<turn i j∧0≤turn i d∧0≤turn d j)∧∀r∈rows,val r (wW i j)≤0:=by
 obtain⟨M,h0,hM⟩:=xcC (fun r=>dot r d) rows
 have tr:∀r:R3,turn r (M*d.1-d.2.1,M*d.2.1+d.1,0)=M*turn r d+dot r d:=fun r=>by simp only[turn,dot];grind
 have step:∀r∈rows,(0<M*turn r d+dot r d→0≤turn r d)∧(M*turn r d+dot r d<0→turn r d≤0):=fun r hr=>by
  have b:=hM r hr
  refine⟨fun z=>?_,fun z=>?_⟩
  ·rcases xhJ (turn r d) 0 with c | c
   ·have:M*turn r d≤M*(-1):=xhP (by omega) (by omega)
    omega
   ·exact c
  ·rcases xhJ 0 (turn r d) with c | c
   ·have:M*1≤M*turn r d:=xhP (by omega) (by omega)
    omega
   ·exact c
 have nz:∀r∈rows,turn r (M*d.1-d.2.1,M*d.2.1+d.1,0)≠0:=fun r hr z=>by
  rw[tr] at z
  have b:=hM r hr
  have t0:turn r d=0:=by
   rcases xhK (turn r d) 0 with c | c | c
   ·have:M*turn r d≤M*(-1):=xhP (by omega) (by omega)
    omega
   ·exact c
   ·have:M*1≤M*turn r d:=xhP (by omega) (by omega)
    omega
  rw[t0,xhY,Int.zero_add] at z
  have e:dot r r*dot d d=dot r d*dot r d+turn r d*turn r d:=by simp only[turn,dot];grind
  rw[z,t0] at e
  have:=pp (mL (r0 r hr)) (mL d0)
  omega
 have d1:(M*d.1-d.2.1≠0∨M*d.2.1+d.1≠0):=by
  refine xht fun no=>?_
  have e1:M*d.1=d.2.1:=by omega
  have e2:M*d.2.1 = -d.1:=by omega
  have:=mL d0
  have z:dot d d=0:=by
   have:dot d d=d.1*d.1+(M*d.1)*(M*d.1):=by unfold dot;rw[e1]
   have q:M*(M*d.1) = -d.1:=by rw[e1];exact e2
   have:(M*M+1)*d.1=0:=by grind
   rcases xhO.mp this with y | y
   ·have:=sq0 M;omega
   ·unfold dot;rw[←e1,y];simp
  omega
 obtain⟨i,hi,j,hj,⟨t1,t2,t3⟩,k⟩:=bA (d:=(M*d.1-d.2.1,M*d.2.1+d.1,0)) gr d1 nz r0 hw kw
 refine⟨i,hi,j,hj,⟨t1,(step i hi).1 (by rw[←tr];exact t2),?_⟩,k⟩
 have a:=xd0 j (M*d.1-d.2.1,M*d.2.1+d.1,0)
 rw[a,tr] at t3
 have:=(step j hj).2 (by omega)
 have:=xd0 j d
 omega
end Pol
namespace L2
open PySem PySem.Spec PyProof.Rows
abbrev two (elt t1 i1:Expr)(f1:List Expr)(t2 i2:Expr)(f2:List Expr)(sc:Scope)(pos:Pos):Expr:=.ListComp elt [⟨t1,i1,f1,0⟩,⟨t2,i2,f2,0⟩] sc pos
theorem s_ (elt t1 i1:Expr)(f1:List Expr)(t2 i2:Expr)(f2:List Expr)(sc:Scope)(pos:Pos)(it acc:Value)(env:Env) :
  compTurn (two elt t1 i1 f1 t2 i2 f2 sc pos) 0 it acc env=(do
   standAt i1.pos
   match ←pyNext it with
   | none=>pure (.done .next)
   | some v =>
    letOwnedTupleGo t1 it v
    assign t1 env v
    let mut ok:=true
    for c in f1 do
     if ok then ok ←isTrue c env (eval c env)
    if ok then
     let x ←eval i2 env
     standAt i2.pos
     let x ←foldedSetIterable i2 env x
     let _ ←runOwn (.compStart (two elt t1 i1 f1 t2 i2 f2 sc pos) 1 (←holding [x] (pyIter x)) acc env) env
    again (.compLoop (two elt t1 i1 f1 t2 i2 f2 sc pos) 0 it acc env)):=by rfl
theorem ae (elt t1 i1:Expr)(f1:List Expr)(t2 i2:Expr)(f2:List Expr)(sc:Scope)(pos:Pos)(it acc:Value)(env:Env) :
  compTurn (two elt t1 i1 f1 t2 i2 f2 sc pos) 1 it acc env=(do
   standAt i2.pos
   match ←pyNext it with
   | none=>pure (.done .next)
   | some v =>
    letOwnedTupleGo t2 it v
    assign t2 env v
    let mut ok:=true
    for c in f2 do
     if ok then ok ←isTrue c env (eval c env)
    if ok then
     (do let _ ←call (.builtin "list.append") [acc,←eval elt env])
    again (.compLoop (two elt t1 i1 f1 t2 i2 f2 sc pos) 1 it acc env)):=by rfl
section
variable {prog:Program} {w:World} {A:Around} {R:Result→Shared→Prop} {s:Shared} {elt t1 i1 t2 i2:Expr} {f1 f2:List Expr} {sc:Scope} {pos:Pos} {it acc:Value} {env:Env}
theorem lN (I:Nat→Shared→Prop)
  (turn:∀n s,I n s→wpAny (model prog w) A (pyNext it) (fun r s₁=>match r with
   | none=>R (.ok .next) s₁
   | some v=>wpAny (model prog w) A (letOwnedTupleGo t2 it v) (fun _ s₀=>wpAny (model prog w) A (assign t2 env v) (fun _ s₂ =>
     wpAny (model prog w) A (forIn f2 true fun c r=>if r=true then do let ok ←isTrue c env (eval c env);pure (ForInStep.yield ok) else pure (ForInStep.yield r)) (fun ok s₃ =>
      if ok=true then wpAny (model prog w) A (eval elt env) (fun x s₄ =>
       wpAny (model prog w) A (call (.builtin "list.append") [acc,x]) (fun _ s₅=>∃m,m<n∧I m s₅) (fun _ _=>False) s₄) (fun _ _=>False) s₃
      else ∃m,m<n∧I m s₃) (fun _ _=>False) s₂) (fun _ _=>False) s₀) (fun _ _=>False) s₁) (fun _ _=>False) s)
  (n:Nat) (h:I n s) :
  codeAny (model prog w) A (.compLoop (two elt t1 i1 f1 t2 i2 f2 sc pos) 1 it acc env) R s:=by
 refine codeAny_loop rfl I (fun n s hI=>?_) n h
 show wpAny _ A ((compTurn (two elt t1 i1 f1 t2 i2 f2 sc pos) 1 it acc env).onRaise (fun x=>do noteFrame x env;theTreesLotGoes x)) _ _ s
 refine wpAny_noted ?_
 rw[ae]
 refine wpAny_bind (wpAny_standAt (wpAny_bind (wpAny_mono (turn n s hI) (fun r s₁ h₁=>?_) fun _ _ h'=>h'.elim)))
 cases r with
 | none=>exact wpAny_pure h₁
 | some v =>
  refine wpAny_bind (wpAny_mono h₁ (fun _ s₀ h₀=>?_) fun _ _ h'=>h'.elim)
  refine wpAny_bind (wpAny_mono h₀ (fun _ s₂ h₂=>wpAny_bind (wpAny_mono h₂ (fun ok s₃ h₃=>?_) fun _ _ h'=>h'.elim)) fun _ _ h'=>h'.elim)
  cases ok with
  | false=>exact wpAny_pure ⟨rfl,h₃⟩
  | true =>
   exact wpAny_bind (wpAny_bind (wpAny_mono h₃ (fun x s₄ h₄=>wpAny_bind (wpAny_mono h₄ (fun _ s₅ h₅=>wpAny_pure (wpAny_pure ⟨rfl,h₅⟩)) fun _ _ h'=>h'.elim)) fun _ _ h'=>h'.elim))
theorem xaC (hs:∀x,foldedSetIterable i2 env x=pure x)(I:Nat→Shared→Prop)
  (turn:∀n s,I n s→wpAny (model prog w) A (pyNext it) (fun r s₁=>match r with
   | none=>R (.ok .next) s₁
   | some v=>wpAny (model prog w) A (letOwnedTupleGo t1 it v) (fun _ s₀=>wpAny (model prog w) A (assign t1 env v) (fun _ s₂ =>
     wpAny (model prog w) A (forIn f1 true fun c r=>if r=true then do let ok ←isTrue c env (eval c env);pure (ForInStep.yield ok) else pure (ForInStep.yield r)) (fun ok s₃ =>
      if ok=true then wpAny (model prog w) A (eval i2 env) (fun x s₄=>wpAny (model prog w) A (pyIter x) (fun it2 s₅ =>
       codeAny (model prog w) A (.compStart (two elt t1 i1 f1 t2 i2 f2 sc pos) 1 it2 acc env) (fun r s'=>match r with | .ok _=>∃m,m<n∧I m s' | .error _=>False) s₅) (fun _ _=>False) s₄) (fun _ _=>False) s₃
      else ∃m,m<n∧I m s₃) (fun _ _=>False) s₂) (fun _ _=>False) s₀) (fun _ _=>False) s₁) (fun _ _=>False) s)
  (n:Nat) (h:I n s) :
  codeAny (model prog w) A (.compLoop (two elt t1 i1 f1 t2 i2 f2 sc pos) 0 it acc env) R s:=by
 refine codeAny_loop rfl I (fun n s hI=>?_) n h
 show wpAny _ A ((compTurn (two elt t1 i1 f1 t2 i2 f2 sc pos) 0 it acc env).onRaise (fun x=>do noteFrame x env;theTreesLotGoes x)) _ _ s
 refine wpAny_noted ?_
 rw[s_]
 refine wpAny_bind (wpAny_standAt (wpAny_bind (wpAny_mono (turn n s hI) (fun r s₁ h₁=>?_) fun _ _ h'=>h'.elim)))
 cases r with
 | none=>exact wpAny_pure h₁
 | some v =>
  refine wpAny_bind (wpAny_mono h₁ (fun _ s₀ h₀=>?_) fun _ _ h'=>h'.elim)
  refine wpAny_bind (wpAny_mono h₀ (fun _ s₂ h₂=>wpAny_bind (wpAny_mono h₂ (fun ok s₃ h₃=>?_) fun _ _ h'=>h'.elim)) fun _ _ h'=>h'.elim)
  cases ok with
  | false=>exact wpAny_pure ⟨rfl,h₃⟩
  | true =>
   refine wpAny_bind (wpAny_mono h₃ (fun x s₄ h₄=>wpAny_bind (wpAny_standAt (wpAny_bind (wpAny_of_eq (hs x) (wpAny_bind (wpAny_holding (wpAny_mono h₄ (fun it2 s₅ h₅=>?_) fun _ _ h'=>h'.elim))))))) fun _ _ h'=>h'.elim)
   refine wpAny_bind (wpAny_runOwn (codeAny_mono h₅ fun r s' hr=>?_))
   cases r with
   | ok f=>exact wpAny_pure ⟨rfl,hr⟩
   | error e=>exact hr.elim
theorem pF (h0:codeAny (model prog w) A (.compLoop (two elt t1 i1 f1 t2 i2 f2 sc pos) 1 it acc env) R s)
  (h:wpAny (model prog w) A (pyIter it) (fun it' s'=>codeAny (model prog w) A (.compLoop (two elt t1 i1 f1 t2 i2 f2 sc pos) 1 it' acc env) R s')
   (notedBy (model prog w) A env fun x s'=>R (.error x) s') s) :
  codeAny (model prog w) A (.compStart (two elt t1 i1 f1 t2 i2 f2 sc pos) 1 it acc env) R s:=by
 refine codeAny_of_tree ?_
 show wpAny _ _ ((compStart (two elt t1 i1 f1 t2 i2 f2 sc pos) 1 it acc env).onRaise (fun x=>do noteFrame x env;standAt theWindowsPlace)) _ _ s
 refine wpAny_notedAt ?_
 unfold compStart
 show wpAny _ _ (ask >>= _) _ _ s
 refine wpAny_bind (wpAny_askSetting (wpAny_ite ?_))
 split
 ·first
   | exact wpAny_bind (wpAny_pure (wpAny_pure (And.intro rfl h0)))
   | exact wpAny_pure (And.intro rfl h0)
 ·first
   | exact wpAny_bind (wpAny_rule (wpAny_bind (wpAny_standAt (wpAny_bind (wpAny_mono h (fun it' s' h'=>wpAny_pure (And.intro rfl h')) fun _ _ x=>x)))))
   | (refine wpAny_bind (wpAny_rule ?_);show wpAny _ _ (standAt i2.pos >>= _) _ _ s;exact wpAny_bind (wpAny_standAt (wpAny_bind (wpAny_mono h (fun it' s' h'=>wpAny_pure (And.intro rfl h')) fun _ _ x=>x))))
end
abbrev lo (its:List Value)(n:Nat):Obj:={ cls:=.type "list", data:=.seq its.toArray n }
theorem lC {Y:Cx}{D:Addr}{its:List Value}{n:Nat}{pl:List (Addr×Obj)}{σ:St}{H:Hp}{s:Shared}{y:Value}{E:Value→Shared→Prop}(I:Inv Y ((D,lo its n)::pl) σ H s)(h1:D∈Y.ex∨Y.s₀.heap.objs.size≤D)(h2:∀p∈Y.pn++pl,p.1≠D)(hz:its.length≤sizeLine)
  {Q:Shared→Prop} (q:∀s' n',Inv Y ((D,lo (its++[y]) n')::pl) σ H s'→(∀b o,b≠D→s.heap.get? b=some o→s'.heap.get? b=some o)→Q s'):wpAny (model Y.prog Y.w) Y.A (call (.builtin "list.append") [.ref D,y]) (fun _ s'=>Q s') E s:=by
 obtain⟨pD,nD,dL,dF,dC⟩:=I.pin (D,lo its n) (by simp)
 refine call_meets F.slot_list_append ⟨_,pD,rfl⟩ F.entry_list_append (F.args_list_append_2 _ _) (PySem.list_append D its.toArray n y (by rw[xi3];exact hz)) ⟨pD,?_⟩
 have q0:=PySem.IsL.update pD (fun x=>x.push y)
 obtain⟨n',q'⟩:∃n',(s.heap.update D (Obj.mapSeq fun x=>x.push y)).get? D=some (lo (its++[y]) n'):=⟨_,by
  rw[show(lo (its++[y]) _)=({ cls:=.type "list", data:=.seq (its.toArray.push y) _ }:Obj) by simp[lo];rfl];exact q0⟩
 have kp:∀b o,b≠D→s.heap.get? b=some o→(s.heap.update D (Obj.mapSeq fun x=>x.push y)).get? b=some o:=fun b o hb e=>(Heap.get?_update_other s.heap _ (Ne.symm hb)).trans e
 have I10:Inv Y pl σ H s:=I.pins_of fun p hp=>I.pin p (by simp only[xiG,xiJ];exact .inr (.inr hp))
 have I11:Inv Y pl σ H { s with heap:=s.heap.update D (Obj.mapSeq fun x=>x.push y),toks:=s.toks } :=
  I10.turned (it:=D) (t':=s.toks) kp nD dL h1 (fun x c e z=>by
   obtain⟨v,o,ho,hd⟩:=I10.cell x c e
   rw[z,pD] at ho
   cases ho
   cases hd) h2
 refine q _ n' (I11.pins_of fun p hp=>?_) kp
 rcases xiJ.mp hp with rfl | hp
 ·exact⟨q',nD,dL,dF,fun v=>by simp⟩
 ·exact I11.pin p (xiI _ hp)
def tIn (wi:TI)(tid:List (Option Nat))(g:TG)(tc:TT)(te:TE)(Z:List V→Hp→Prop)(ys:List V)(σ:St)(H:Hp):Prop:=wi σ H fun J H1 =>
 ∃W:Nat→Nat→List V→Hp→Prop,(∃m,W 0 m ys H1)∧∀i m ys' H',W i m ys' H' →
  (J.stop i H'∧Z ys' H') ∨
  (J.go i H'∧ys'.length<sizeLine∧∀x H2,J.yld i H' x H2→g x (q8 tid σ) H2 fun σ3 H3=>tc σ3 H3 fun b H4=>if b=true then te σ3 H4 fun y H5=>∃m',m' < m∧W (i+1) m' (ys'++[y]) H5 else ∃m',m' < m∧W (i+1) m' ys' H4)
def xcB (tau tid:List (Option Nat)):Bool:=decide (tid.length=tau.length)&&((List.range tid.length).all fun j=>match tid.getD j none with | some j'=>decide (j'=j) | none=>true)&&((List.range tau.length).all fun j=>match tau.getD j none with | some _=>decide (tid.getD j none=some j) | none=>true)
structure oA (tau tid:List (Option Nat)):Prop where
 len:tid.length=tau.length
 id:∀j j':Nat,tid[j]? = some (some j')→j'=j
 out:∀j j':Nat,tau[j]? = some (some j')→tid[j]? = some (some j)
theorem xe8 {tau tid:List (Option Nat)}(h:xcB tau tid=true):oA tau tid:=by
 unfold xcB at h
 simp only[xhq,xjt,xh4,xiU] at h
 obtain⟨⟨a,b⟩,c⟩:=h
 refine⟨a,fun j j' e=>?_,fun j j' e=>?_⟩
 ·have:=b j (xik.mp e).1
  rw[xig,e] at this
  exact xjv this
 ·have l:=(xik.mp e).1
  have:=c j l
  rw[xig,e] at this
  have:=xjv this
  rw[xig,xii (by omega)] at this
  rw[xii (by omega)]
  exact xjq some this
theorem oA.agree {tau tid:List (Option Nat)}(h:oA tau tid){σ:St}(l:σ.length=tau.length):Agree tau σ (q8 tid σ):=fun i j e=>by
 have a:=h.out i j e
 unfold q8
 rw[xil,a]
 have:=(xik.mp e).1
 rw[Option.map_some,xii (show i<σ.length by omega)]
 simp only[xii (show i<σ.length by omega),Option.getD_some]
theorem Agree.trans {tau:List (Option Nat)}{a b c:St}(h:Agree tau a b)(h':Agree tau b c):Agree tau a c:=fun i j e=>(h' i j e).trans (h i j e)
theorem om {Y:Cx}{elt t1 i1 t2 i2:Expr}{f1 f2:List Expr}{sc:Scope}{pos:Pos}{wi:TI}{g:TG}{tc:TT}{te:TE}{tau tid:List (Option Nat)}(hid:oA tau tid)(hl:Y.N.length=tau.length)(hc:Y.calm=true)(hx:Y.xe=fun _ _=>False){D:Addr}{pl:List (Addr×Obj)}(hi:PI Y t2 i2 wi)(hg:PG Y t2 g)(ht:PIf Y f2 tc)(he:PE Y elt te)(hga:GA tid g)
  {its:List Value} {n:Nat} {ys:List V} {σ:St} {H:Hp} {s:Shared} (I:Inv Y ((D,lo its n)::pl) σ H s) (rv:zh ys its) (hz:ys.length≤sizeLine) (h1:D∈Y.ex∨Y.s₀.heap.objs.size≤D) (h2:∀p∈Y.pn++pl,p.1≠D) {Z:List V→Hp→Prop} (h:tIn wi tid g tc te Z ys σ H) {R:Shared→Prop}
  (fin:∀ σ' H' s' ys' its' n',Inv Y ((D,lo its' n')::pl) σ' H' s'→zh ys' its'→ys'.length≤sizeLine→Agree tau σ σ'→Z ys' H'→R s') :
  wpAny (model Y.prog Y.w) Y.A (eval i2 Y.env) (fun x s₄=>wpAny (model Y.prog Y.w) Y.A (pyIter x) (fun it2 s₅ =>
   codeAny (model Y.prog Y.w) Y.A (.compStart (two elt t1 i1 f1 t2 i2 f2 sc pos) 1 it2 (.ref D) Y.env) (fun r s'=>match r with | .ok _=>R s' | .error _=>False) s₅) (fun _ _=>False) s₄) (fun _ _=>False) s:=by
 have il:(q8 tid σ).length=σ.length:=by unfold q8;rw[xit,hid.len,I.len,hl]
 have go:=@hi ((D,lo its n)::pl) s σ H _ I h
 rw[hx] at go
 refine thn go fun v s1 h1'=>thn h1' fun itv s2 h2'=>?_
 obtain⟨it,fp,tn,J,H2,e,I2,T,st2,fo,W,⟨m0,w0⟩,turn⟩:=h2'
 subst e
 have fD:∀b∈fp,b≠D:=fun b hb=>Ne.symm ((fo b hb).2.2.2.2.2 (D,lo its n) (by simp))
 have stat:∀ {H':Hp} {its':List Value} {n':Nat},(∀b∈fp,H' b=none)→∀b∈fp,dD Y ((D,lo its' n')::pl) H' b:=fun {H' its' n'} hn b hb=>by
  obtain⟨_,a1,a2,a3,a4,a5⟩:=fo b hb
  refine⟨hn b hb,a1,a2,a3,a4,fun p hp=>?_⟩
  rcases xiG.mp hp with hp | hp
  ·exact a5 p (xiH _ hp)
  ·rcases xiJ.mp hp with rfl | hp
   ·exact Ne.symm (fD b hb)
   ·exact a5 p (xiI _ (xiK _ hp))
 have loop:codeAny (model Y.prog Y.w) Y.A (.compLoop (two elt t1 i1 f1 t2 i2 f2 sc pos) 1 (.ref it) (.ref D) Y.env) (fun r s'=>match r with | .ok _=>R s' | .error _=>False) s2:=by
  refine lN (fun m s'=>∃i ys' H' its' n',Inv Y ((D,lo its' n')::pl) (q8 tid σ) H' s'∧zh ys' its'∧ys'.length≤sizeLine∧tn i s'.heap∧(∀b∈fp,H' b=none)∧W i m ys' H') ?_ m0
   ⟨0,ys,H2,its,n,I2.weak il fun j v e=>?_,rv,hz,st2,fun b hb=>(fo b hb).1,w0⟩
  rotate_left
  ·obtain⟨j',t1,e'⟩:=vB e
   rw[hid.id j j' t1] at e';exact e'
  rintro m s3 ⟨i,ys3,H3,its3,n3,I3,rv3,hz3,st3,fr3,w3⟩
  rcases turn i m ys3 H3 w3 with ⟨stop,z⟩ | ⟨go,hlt,step⟩
  ·refine wpAny_mono (T.done Y rfl rfl rfl hc i _ s3 _ H3 (fun _ _=>False) I3 (stat fr3) st3 stop) (fun r s4 ⟨hr,I4⟩=>?_) fun _ _ f=>f.elim
   subst hr
   exact fin _ _ _ _ _ _ I4 rv3 hz3 (hid.agree (I.len.trans hl)) z
  ·refine wpAny_mono (T.item Y rfl rfl rfl hc i _ s3 _ H3 (fun _ _=>False) I3 (stat fr3) st3 go) (fun r s4 ⟨u,hr,h4⟩=>?_) fun _ _ f=>f.elim
   subst hr
   refine wpAny_mono h4 (fun _ s5 ⟨x,H5,I5,r5,y5,st5,fr5⟩=>?_) fun _ _ f=>f.elim
   have I5':=I5.pinned (stat fr5) (T.obj _ _ st5)
   have g5:=hg _ s5 _ H5 x u _ I5' r5 (hga _ _ _ _ (step x H5 y5))
   rw[hx] at g5
   refine wpAny_mono g5 (fun _ s6 ⟨σ6,H6,I6,q6,ag⟩=>?_) fun _ _ f=>f.elim
   have t6:=ht _ s6 σ6 H6 _ I6 q6
   rw[hx] at t6
   refine wpAny_mono t6 (fun b s7 ⟨H7,I7,q7⟩=>?_) fun _ _ f=>f.elim
   have back:∀ {H8:Hp} {s8:Shared} {its8:List Value} {n8:Nat},Inv Y ((D,lo its8 n8)::(pl++uP fp s5.heap)) σ6 H8 s8→Inv Y ((D,lo its8 n8)::pl) (q8 tid σ) H8 s8∧tn (i+1) s8.heap∧∀b∈fp,H8 b=none:=fun {H8 s8 its8 n8} I8=>by
    have I8':Inv Y (((D,lo its8 n8)::pl)++uP fp s5.heap) σ6 H8 s8:=I8
    refine⟨I8'.unpinned.weak (il.trans (I.len.trans I8.len.symm)) fun j v e=>by obtain⟨j',t1,_⟩:=vB e;rw[ag j j' t1];exact e,T.keep _ _ _ st5 fun b hb o e=>(I8'.pin (b,o) (xiI _ (xiI _ (zi hb e)))).1,fun b hb=>?_⟩
    obtain⟨o,e,d⟩:=T.obj _ _ st5 b hb
    exact(I8'.pin (b,o) (xiI _ (xiI _ (zi hb e)))).2.1
   cases b with
   | false =>
    obtain⟨m',hm,w7⟩:=q7
    obtain⟨I8,st8,fr8⟩:=back I7
    rw[if_neg xhr]
    exact⟨m',hm,i+1,ys3,H7,its3,n3,I8,rv3,hz3,st8,fr8,w7⟩
   | true =>
    rw[if_pos rfl]
    have e7:=@he _ s7 σ6 H7 _ I7 q7
    rw[hx] at e7
    refine wpAny_mono e7 (fun y s8 ⟨yv,H8,I8,r8,m',hm,w8⟩=>?_) fun _ _ f=>f.elim
    refine lC (pl:=pl++uP fp s5.heap) I8 h1 (fun p hp=>?_) (by rw[←rv3.length];exact hz3) fun s9 n9 I9 _=>?_
    ·rw[←xh6] at hp
     rcases xiG.mp hp with hp | hp
     ·exact h2 p hp
     ·exact fD _ (jm hp).1
    ·obtain⟨I10,st10,fr10⟩:=back I9
     exact⟨m',hm,i+1,ys3++[yv],H8,its3++[y],n9,I10,rv3.append (.cons r8 .nil),by rw[xiq,xix];exact hlt,st10,fr10,w8⟩
 exact pF loop (T.self _ 0 _ _ _ st2 loop)
def xca (wi:TI)(tau:List (Option Nat))(g:TG)(tc:TT)(wi2:TI)(tid:List (Option Nat))(g2:TG)(tc2:TT)(te:TE):TE:=fun σ H Q=>wi σ H fun J H1 =>
 ∃W:Nat→Nat→List V→Hp→Prop,(∃m,W 0 m [] H1)∧∀i m ys H,W i m ys H →
  (J.stop i H∧∀p,H p=none→Q (.ref p) (upd H p (.lst ys))) ∨
  (J.go i H∧∀x H',J.yld i H x H'→g x (q8 tau σ) H' fun σ2 H2=>tc σ2 H2 fun b H3=>if b=true then tIn wi2 tid g2 tc2 te (fun ys' H4=>∃m',m' < m∧W (i+1) m' ys' H4) ys σ2 H3 else ∃m',m' < m∧W (i+1) m' ys H3)
section
variable {X:Cx} {sc:Scope} {N:List Str} {tau tid:List (Option Nat)} {pins:List (Addr×Obj)} {σ:St} {H:Hp} {s:Shared}
theorem nj {elt tg iter tg2 iter2:Expr}{ifs ifs2:List Expr}{g g2:TG}{tc tc2:TT}{wi2:TI}{te:TE}{pos:Pos}(k:vd X sc N tau)(hc:X.calm=true)(I:Inv X pins σ H s){it:Addr}{fp:List Addr}{tn:Nat→Heap→Prop}{J:It}
  (T:Turn X.prog X.w X.K tg J fp it tn) (st0:tn 0 s.heap) (hf:∀b∈fp,dD X pins H b) (hga:GA tau g) (hid:oA tau tid) (hga2:GA tid g2)
  (hg:∀C s H ex,PG (yf X sc N C s H ex) tg g) (ht:∀C s H ex,PIf (yf X sc N C s H ex) ifs tc) (hi2:∀C s H ex,PI (yf X sc N C s H ex) tg2 iter2 wi2) (hg2:∀C s H ex,PG (yf X sc N C s H ex) tg2 g2) (ht2:∀C s H ex,PIf (yf X sc N C s H ex) ifs2 tc2) (he:∀C s H ex,PE (yf X sc N C s H ex) elt te)
  (hs2:∀C x,foldedSetIterable iter2 (compEnvC sc (jr X.env sc.names []) C X.env) x=pure x)
  {W:Nat→Nat→List V→Hp→Prop} {Z:List V→Hp→Prop} (w0:∃m,W 0 m [] H) (turn:∀i m ys H,W i m ys H →
   (J.stop i H∧Z ys H) ∨
   (J.go i H∧∀x H',J.yld i H x H'→g x (q8 tau σ) H' fun σ2 H2=>tc σ2 H2 fun b H3=>if b=true then tIn wi2 tid g2 tc2 te (fun ys' H4=>∃m',m' < m∧W (i+1) m' ys' H4) ys σ2 H3 else ∃m',m' < m∧W (i+1) m' ys H3))
  {E:Value→Shared→Prop} {RR:Value→Addr→Result→Shared→Prop}
  (fin:∀ σ' H' s' ys its n,Inv (yf X sc N (s.heap.objs.size+1) s H fp) [(s.heap.objs.size,{ cls:=.type "list", data:=.seq its.toArray n })] σ' H' s'→zh ys its→ys.length≤sizeLine→Z ys H'→RR (.ref s.heap.objs.size) (s.heap.objs.size+1) (.ok .next) s') :
  wpAny (model X.prog X.w) X.A (newList []) (fun acc s₃=>wpAny (model X.prog X.w) X.A (newFunctionEnv sc X.env.globals (jr X.env sc.names []) [] X.env.qual none .none (some X.env)) (fun cenv s₄ =>
   codeAny (model X.prog X.w) X.A (.compStart (two elt tg iter ifs tg2 iter2 ifs2 sc pos) 0 (.ref it) acc { cenv with scope:=relabel sc X.env }) (RR acc cenv.locals) s₄) E s₃) E s:=by
 have hob:∀b∈fp,∃o,s.heap.get? b=some o:=fun b hb=>let ⟨o,e,_⟩:=T.obj _ _ st0 b hb;⟨o,e⟩
 refine wpAny_newObj_type (wpAny_newFunctionEnv k.nocell (by intro y hy;simp at hy) (fun h₁ hns₁ hsb₁=>?_) k.kind)
 dsimp only at hns₁ hsb₁ ⊢
 generalize hH2:s.heap.push { cls:=.type "list", dict:=none,data:=.seq ([]:List Value).toArray }=H2 at hns₁ hsb₁ ⊢
 have hC:H2.objs.size=s.heap.objs.size+1:=by rw[←hH2,Heap.size_push]
 have old:∀b o,s.heap.get? b=some o→h₁.get? b=some o:=fun b o e=>hsb₁.extBut b o (by rw[hC];exact xjn (xjj (Heap.lt_size e))) (Heap.get?_push_of_some _ (hH2▸Heap.get?_push_of_some _ e))
 have hacc:h₁.get? s.heap.objs.size=some { cls:=.type "list", data:=.seq #[] 0 }:=hsb₁.extBut _ _ (by rw[hC];exact xjn (xjk _)) (Heap.get?_push_of_some _ (hH2▸Heap.get?_push_size _ rfl))
 rw[hC] at hns₁ ⊢
 have I1:Inv (yf X sc N (s.heap.objs.size+1) s H fp) [(s.heap.objs.size,{ cls:=.type "list", data:=.seq #[] 0 })] (q8 tau σ) H { s with heap:=h₁,toks:=s.toks+([]:List (Str×Value)).length } :=
  cJ k I hf hob old hns₁ hacc
 have st1:tn 0 h₁:=T.keep _ _ _ st0 fun b _ o e=>old b o e
 have ltD:∀b∈fp,b≠s.heap.objs.size:=fun b hb=>by
  obtain⟨o,e⟩:=hob b hb
  exact xjn (Heap.lt_size e)
 have ltC:∀b∈fp,b≠s.heap.objs.size+1:=fun b hb=>by
  obtain⟨o,e⟩:=hob b hb
  exact xjn (xjj (Heap.lt_size e))
 have stat:∀ {H':Hp} {its:List Value} {n:Nat},(∀b∈fp,H' b=none)→∀b∈fp,dD (yf X sc N (s.heap.objs.size+1) s H fp) [(s.heap.objs.size,lo its n)] H' b:=fun {H' its n} hn b hb=>by
  have cx:=be (N:=N) k I hf hob
  refine⟨hn b hb,ltC b hb,cx.exfs b hb,.inl hb,(cx.exf b hb).2,fun p hp=>?_⟩
  have e:p=(s.heap.objs.size,lo its n):=by simpa [yf] using hp
  subst e
  exact Ne.symm (ltD b hb)
 obtain⟨m0,w0⟩:=w0
 have loop:codeAny (model X.prog X.w) X.A (.compLoop (two elt tg iter ifs tg2 iter2 ifs2 sc pos) 0 (.ref it) (.ref s.heap.objs.size) (compEnvC sc (jr X.env sc.names []) (s.heap.objs.size+1) X.env)) (RR (.ref s.heap.objs.size) (s.heap.objs.size+1)) { s with heap:=h₁,toks:=s.toks+([]:List (Str×Value)).length }:=by
  refine xaC (hs2 _) (fun m s'=>∃i ys H' its n,Inv (yf X sc N (s.heap.objs.size+1) s H fp) [(s.heap.objs.size,lo its n)] (q8 tau σ) H' s'∧zh ys its∧ys.length≤sizeLine∧tn i s'.heap∧(∀b∈fp,H' b=none)∧W i m ys H') ?_ m0
   ⟨0,[],H,[],0,I1,.nil,xjo _,st1,fun b hb=>(hf b hb).1,w0⟩
  rintro m s3 ⟨i,ys,H3,its,n,I3,rv,hz,st3,fr3,w3⟩
  rcases turn i m ys H3 w3 with ⟨stop,z⟩ | ⟨go,step⟩
  ·refine wpAny_mono (T.done (yf X sc N (s.heap.objs.size+1) s H fp) rfl rfl rfl hc i _ s3 _ H3 (fun _ _=>False) I3 (stat fr3) st3 stop) (fun r s4 ⟨hr,I4⟩=>?_) fun _ _ f=>f.elim
   subst hr
   exact fin _ _ _ _ _ _ I4 rv hz z
  ·refine wpAny_mono (T.item (yf X sc N (s.heap.objs.size+1) s H fp) rfl rfl rfl hc i _ s3 _ H3 (fun _ _=>False) I3 (stat fr3) st3 go) (fun r s4 ⟨u,hr,h4⟩=>?_) fun _ _ f=>f.elim
   subst hr
   refine wpAny_mono h4 (fun _ s5 ⟨x,H5,I5,r5,y5,st5,fr5⟩=>?_) fun _ _ f=>f.elim
   have I5':=I5.pinned (stat fr5) (T.obj _ _ st5)
   refine wpAny_mono (hg _ _ _ _ _ s5 _ H5 x u _ I5' r5 (hga _ _ _ _ (step x H5 y5))) (fun _ s6 ⟨σ6,H6,I6,q6,ag⟩=>?_) fun _ _ f=>f.elim
   refine wpAny_mono (ht _ _ _ _ _ s6 σ6 H6 _ I6 q6) (fun b s7 ⟨H7,I7,q7⟩=>?_) fun _ _ f=>f.elim
   have back:∀ {σ8:St} {H8:Hp} {s8:Shared} {its8:List Value} {n8:Nat},Agree tau (q8 tau σ) σ8→Inv (yf X sc N (s.heap.objs.size+1) s H fp) ([(s.heap.objs.size,lo its8 n8)]++uP fp s5.heap) σ8 H8 s8 →
     Inv (yf X sc N (s.heap.objs.size+1) s H fp) [(s.heap.objs.size,lo its8 n8)] (q8 tau σ) H8 s8∧tn (i+1) s8.heap∧∀b∈fp,H8 b=none:=fun {σ8 H8 s8 its8 n8} ag I8=>by
    refine⟨I8.unpinned.weak (I1.len.trans I8.len.symm) fun j v e=>?_,T.keep _ _ _ st5 fun b hb o e=>(I8.pin (b,o) (xiI _ (xiI _ (zi hb e)))).1,fun b hb=>?_⟩
    ·obtain⟨j',t1,_⟩:=vB e
     rw[ag j j' t1];exact e
    ·obtain⟨o,e,d⟩:=T.obj _ _ st5 b hb
     exact(I8.pin (b,o) (xiI _ (xiI _ (zi hb e)))).2.1
   cases b with
   | false =>
    obtain⟨m',hm,w7⟩:=q7
    obtain⟨I8,st8,fr8⟩:=back ag I7
    rw[if_neg xhr]
    exact⟨m',hm,i+1,ys,H7,its,n,I8,rv,hz,st8,fr8,w7⟩
   | true =>
    rw[if_pos rfl]
    refine om (Y:=yf X sc N (s.heap.objs.size+1) s H fp) (D:=s.heap.objs.size) (pl:=uP fp s5.heap) hid k.len.symm hc rfl (hi2 _ _ _ _) (hg2 _ _ _ _) (ht2 _ _ _ _) (he _ _ _ _) hga2 I7 rv hz (.inr (xjd _)) (fun p hp=>?_) q7 fun σ8 H8 s8 ys8 its8 n8 I8 rv8 hz8 ag8 z=>?_
    ·have hp:p∈uP fp s5.heap:=by simpa [yf] using hp
     exact ltD _ (jm hp).1
    ·obtain⟨m',hm,w8⟩:=z
     obtain⟨I9,st9,fr9⟩:=back (ag.trans ag8) I8
     exact⟨m',hm,i+1,ys8,H8,its8,n8,I9,rv8,hz8,st9,fr9,w8⟩
 exact codeAny_compStart_list loop (T.self _ 0 _ _ _ st1 loop)
theorem nU {elt tg iter tg2 iter2:Expr}{ifs ifs2:List Expr}{wi wi2:TI}{g g2:TG}{tc tc2:TT}{te:TE}{pos spos py:Pos}{i:Nat}{x:Str}(hN:X.N.Nodup)(hi':X.N[i]? = some x)(hx:Loc X.env.scope x)(k:vd X sc N tau)(hc:X.calm=true)(hga:GA tau g)(hid:oA tau tid)(hga2:GA tid g2)(hi:PI X tg iter wi)
  (hg:∀C s H ex,PG (yf X sc N C s H ex) tg g) (ht:∀C s H ex,PIf (yf X sc N C s H ex) ifs tc) (hi2:∀C s H ex,PI (yf X sc N C s H ex) tg2 iter2 wi2) (hg2:∀C s H ex,PG (yf X sc N C s H ex) tg2 g2) (ht2:∀C s H ex,PIf (yf X sc N C s H ex) ifs2 tc2) (he:∀C s H ex,PE (yf X sc N C s H ex) elt te)
  (hsw:swapsWith (two elt tg iter ifs tg2 iter2 ifs2 sc pos) (some (.Name x py)) spos.line X.env=pure true:=by rfl)
  (hs:∀x,foldedSetIterable iter X.env x=pure x:=by intro _;rfl) (hs2:∀C x,foldedSetIterable iter2 (compEnvC sc (jr X.env sc.names []) C X.env) x=pure x:=by intro _ _;rfl) (hf:X.fn x=true∨X.env.scope.names.lookup x=some .local:=by first | exact .inl rfl | exact .inr rfl | assumption) :
  PS X (.Assign [.Name x py] (two elt tg iter ifs tg2 iter2 ifs2 sc pos) spos) (xa0 (xca wi tau g tc wi2 tid g2 tc2 te) (jt i)):=by
 intro pins s σ H D I h
 rw[exec_Assign_Name_used _ _ _ _ hsw]
 refine wpAny_bind (wpAny_standAt (wpAny_bind ?_))
 show wpAny _ X.A (do let _ ←comprehension (two elt tg iter ifs tg2 iter2 ifs2 sc pos) sc X.env _ (newList []) false (eval iter X.env) (some (assign (.Name x py) X.env))) _ _ s
 refine wpAny_bind (wpAny_mono (wpAny_comprehension_free (use:=some (assign (.Name x py) X.env)) (Q:=fun _ s'=>SP X pins D .next s') rfl hs (aA (k.cells I.ok)) k.kind k.loc ?_) (fun _ s' q=>wpAny_pure (wpAny_pure q)) fun _ _ e=>e)
 refine thn (@hi pins s σ H _ I h) fun v s1 h1=>thn h1 fun itv s2 h2=>?_
 obtain⟨it,fp,tn,J,H2,e,I2,T,st2,f2,W,w0,turn⟩:=h2
 subst e
 refine nj (RR:=fun acc C=>compPost (model X.prog X.w) X.A X.xe (some (assign (.Name x py) X.env)) (fun _ s'=>SP X pins D .next s') acc C) (W:=W) (Z:=fun ys H'=>∀p,H' p=none→D.nx (σ.set i (some (.ref p))) (upd H' p (.lst ys))) k hc I2 T st2 f2 hga hid hga2 hg ht hi2 hg2 ht2 he hs2 w0 turn ?_
 intro σ' H' s' ys its n J' rv hz z
 obtain⟨I',hD,hC⟩:=aL k I2 f2 J' rv hz
 obtain⟨m,hn,_⟩:=J'.loc
 have hn:s'.heap.Ns (s2.heap.objs.size+1) m:=hn
 refine wpAny_assign_Name (jq (v:=.ref s2.heap.objs.size) I' hN hi' hx rfl (fun s'' I'' ⟨a,sb,ha⟩=>?_) hf)
 refine⟨m,hn.sameBut sb ?_,fun h' hs'=>⟨_,_,kZ I2 I'' hC hs',z _ hD⟩⟩
 rcases ha with ha | ha
 ·rw[ha];exact xjm (xjj I2.lt)
 ·obtain⟨v,o,ho,_⟩:=I2.cell x a ha
  exact xjm (xjj (Heap.lt_size ho))
end
end L2
namespace L2
open PySem PySem.Spec PyProof.Rows
def xaV (dg:DG)(dc:DT)(di:DI)(tid:List (Option Nat))(dg2:DG)(dc2:DT)(de:DE)(τi:TSt)(KK:List Tr→Prop):List Tr→List Tr→Prop
 | [],acc=>KK acc
 | x::xs,acc=>dg x τi fun τ2=>dc τ2 fun b=>if b=true then di τ2 fun ys=>acc.length+ys.length<sizeLine∧tj dg2 dc2 de (kL tid τ2) (fun acc'=>xaV dg dc di tid dg2 dc2 de τi KK xs acc') ys acc else xaV dg dc di tid dg2 dc2 de τi KK xs acc
def xea (tau:List (Option Nat))(di:DI)(dg:DG)(dc:DT)(di2:DI)(tid:List (Option Nat))(dg2:DG)(dc2:DT)(de:DE):DE:=fun τ KK=>di τ fun xs=>xaV dg dc di2 tid dg2 dc2 de (kL tau τ) (fun ys=>KK (.lst ys)) xs []
section
variable {K:PySem.W.Frag} {B:FB} {φ:Phi} {σ:St} {τ:TSt} {H H' H'':Hp} {fr:Bool}
theorem pq {tau:List (Option Nat)}{i:Nat}{a:Addr}(z:rT tau φ τ i=some a):Av B φ a:=by
 unfold rT at z
 split at z
 ·split at z
  ·exact .inr ⟨_,z⟩
  ·cases z
 ·cases z
theorem b_ {φ3:Phi}{σ3:St}{τ3:TSt}{H2:Hp}(R3:RS K (B.inner φ τ H2) φ3 σ3 τ3 H2):∀a,SA (B.inner φ τ H2) φ3 τ3 a→SA B φ τ a:=fun a z=>by
 rcases z with z | ⟨j,z,hj⟩
 ·exact z
 ·have en:=R3.ent j
  rw[hj] at en
  obtain⟨p,e1,e2,e3⟩:=en
  rw[z] at e2;cases e2
  rcases e3 with e3 | e3
  ·exact e3
  ·exact absurd e3 (R3.sst a (.inr ⟨j,z,hj⟩)).ne_none
theorem gE {φ3:Phi}{τ3:TSt}{H2 H3 H4:Hp}(hsa:∀a,SA (B.inner φ τ H2) φ3 τ3 a→SA B φ τ a)(h:HX (B.inner φ τ H2) φ3 τ3 H3 H4):HX B φ τ H3 H4:=⟨fun a o e n=>h.keep a o e fun z=>n (hsa a z),fun a z=>h.st a (.inl z)⟩
theorem cg {ts:List Tr}{i:Nat}{t:Tr}(hlt:i<ts.length)(ht:ts[i]? = some t):ts.drop i=t::ts.drop (i+1):=by
 rw[xh9 hlt]
 rw[xii hlt] at ht
 cases ht;rfl
theorem xf2 {wi:TI}{tid:List (Option Nat)}{g:TG}{tc:TT}{te:TE}{di:DI}{dg:DG}{dc:DT}{de:DE}{b:Bool}(hi:OkI K true wi di)(hg:OkN K g dg)(hc:OkT K tc dc)(he:OkE K b te de){F:Addr→Prop}(R:RS K B φ σ τ H)(hF:∀a,F a→B.F0 a)(hS:∀a,SA B φ τ a→F a){Z:List V→Hp→Prop}{KZ:List Tr→Prop}{acc:List Tr}{ys:List V}(ra:zF F H acc ys)(hd:di τ fun xs=>acc.length+xs.length<sizeLine∧tj dg dc de (kL tid τ) KZ xs acc)
  (fin:∀acc' ys' H',HX B φ τ H H'→zF F H' acc' ys'→KZ acc'→Z ys' H'):tIn wi tid g tc te Z ys σ H :=
 hi.c B φ σ τ H _ _ R hd fun J ts Src H1 x1 k1 it s1=>by
  refine⟨fun i m ys' H'=>m=ts.length-i∧i≤ts.length∧ys'.length≤acc.length+i∧HX B φ τ H H'∧Src H'∧∃acc',zF F H' acc' ys'∧tj dg dc de (kL tid τ) KZ (ts.drop i) acc',⟨_,rfl,xjo _,by rw[←ra.len];omega,x1,s1,acc,x1.repL hS ra,k1.2⟩,?_⟩
  rintro i m ys' H' ⟨rfl,hle,hys,x,s,acc',ra',f⟩
  have R':=R.hx x
  by_cases hlt:i<ts.length
  ·refine .inr ⟨it.go i H' s hlt,by have:=k1.1;omega,fun v H2 y=>?_⟩
   obtain⟨gr,t,ht,rt⟩:=it.yld i H' v H2 s (fun a z=>R'.dom z) hlt y
   have hx:=gr.hx R'
   have R2:=R'.hx hx
   rw[cg hlt ht] at f
   refine hg (B.inner φ τ H2) _ _ _ H2 (Av B φ) t v _ _ R2.inner (fun a z=>z.elim id fun⟨j,z⟩=>pq z) rt f fun φ3 σ3 τ3 R3 ha k3=>?_
   have hsa:=b_ R3
   refine hc _ φ3 σ3 τ3 H2 _ _ R3 k3 fun c H3 x3 k4=>?_
   have x23:=gE hsa x3
   have s3:=it.stab _ _ (it.stab _ _ s fun a o e n=>hx.keep a o e n) fun a o e n=>x23.keep a o e n
   cases c with
   | false =>
    refine ou ⟨_,by omega,rfl,hlt,by omega,(x.trans hx).trans x23,s3,acc',(hx.trans x23).repL hS ra',?_⟩
    simpa using k4
   | true =>
    refine oH (he _ φ3 σ3 τ3 H3 _ _ (R3.hx x3) k4 fun u w H4 x4 k5 r5=>?_)
    have x34:=gE hsa x4
    refine⟨_,by omega,rfl,hlt,by rw[xiq,xix];omega,((x.trans hx).trans x23).trans x34,it.stab _ _ s3 fun a o e n=>x34.keep a o e n,acc'++[u],(((hx.trans x23).trans x34).repL hS ra').app (show zF _ _ [u] [w] from⟨w,[],rfl,?_,rfl⟩),k5⟩
    refine yL (fun a o e n=>⟨e,fun z=>n ?_⟩) _ _ r5
    cases b with
    | true=>exact .inl (.inl (hF a z))
    | false=>exact .inl (.inl (hF a z))
  ·have ei:i=ts.length:=by omega
   subst ei
   rw[xh_] at f
   exact .inl ⟨it.stop H' s,fin acc' ys' H' x ra' f⟩
theorem lq {wi wi2:TI}{tau tid:List (Option Nat)}{g g2:TG}{tc tc2:TT}{te:TE}{di di2:DI}{dg dg2:DG}{dc dc2:DT}{de:DE}{b:Bool}(hi:xee K wi di)(hg:OkN K g dg)(hc:OkT K tc dc)(hi2:OkI K true wi2 di2)(hg2:OkN K g2 dg2)(hc2:OkT K tc2 dc2)(he:OkE K b te de) :
  OkF K (xca wi tau g tc wi2 tid g2 tc2 te) (xea tau di dg dc di2 tid dg2 dc2 de):=fun B φ σ τ H Q KK R hd q =>
 hi B φ σ τ H _ _ R hd fun J ts Src H1 x1 k1 it s1=>by
  refine⟨fun i m ys H'=>m=ts.length-i∧i≤ts.length∧HX B φ τ H H'∧Src H'∧∃acc,zF (Av B φ) H' acc ys∧xaV dg dc di2 tid dg2 dc2 de (kL tau τ) (fun ys=>KK (.lst ys)) (ts.drop i) acc,⟨_,rfl,xjo _,x1,s1,[],rfl,k1⟩,?_⟩
  rintro i m ys H' ⟨rfl,hle,x,s,acc,ra,f⟩
  have R':=R.hx x
  by_cases hlt:i<ts.length
  ·refine .inr ⟨it.go i H' s hlt,fun v H2 y=>?_⟩
   obtain⟨gr,t,ht,rt⟩:=it.yld i H' v H2 s (fun a z=>R'.dom z) hlt y
   have hx:=gr.hx R'
   have R2:=R'.hx hx
   rw[cg hlt ht] at f
   refine hg (B.inner φ τ H2) _ _ _ H2 (Av B φ) t v _ _ R2.inner (fun a z=>z.elim id fun⟨j,z⟩=>pq z) rt f fun φ3 σ3 τ3 R3 ha k3=>?_
   have hsa:=b_ R3
   refine hc _ φ3 σ3 τ3 H2 _ _ R3 k3 fun c H3 x3 k4=>?_
   have x23:=gE hsa x3
   have s3:=it.stab _ _ (it.stab _ _ s fun a o e n=>hx.keep a o e n) fun a o e n=>x23.keep a o e n
   cases c with
   | false =>
    refine ou ⟨_,by omega,rfl,hlt,(x.trans hx).trans x23,s3,acc,(hx.trans x23).repL (fun a z=>R.sAv z) ra,?_⟩
    simpa using k4
   | true =>
    refine oH (xf2 hi2 hg2 hc2 he (R3.hx x3) (F:=Av B φ) (fun a z=>z) (fun a z=>R.sAv (hsa a z)) ((hx.trans x23).repL (fun a z=>R.sAv z) ra) k4 fun acc' ys' H4 x4 ra4 k5=>?_)
    have x34:=gE hsa x4
    exact⟨_,by omega,rfl,hlt,((x.trans hx).trans x23).trans x34,it.stab _ _ s3 fun a o e n=>x34.keep a o e n,acc',ra4,k5⟩
  ·have ei:i=ts.length:=by omega
   subst ei
   rw[xh_] at f
   refine .inl ⟨it.stop H' s,fun p hp=>q acc p ys _ (x.trans (HX.new R' hp _)) f (x.none hp) yk (qX hp ra)⟩
end
theorem tz {dg dg2:DG}{dc dc2:DT}{di:DI}{tid:List (Option Nat)}{de:DE}{τi:TSt}{KK:List Tr→Prop}(G:Nat→List Tr→Prop):∀(xs:List Tr) (i:Nat) (acc:List Tr),(∀j x acc,xs[j]? = some x→G (i+j) acc→∀N:List Tr→Prop,(∀acc',G (i+j+1) acc'→N acc')→dg x τi fun τ2=>dc τ2 fun b=>if b=true then di τ2 fun ys=>acc.length+ys.length<sizeLine∧tj dg2 dc2 de (kL tid τ2) N ys acc else N acc)→G i acc→(∀acc,G (i+xs.length) acc→KK acc)→xaV dg dc di tid dg2 dc2 de τi KK xs acc
 | [],i,acc,_,g,k=>k acc g
 | x::xs,i,acc,h,g,k=>h 0 x acc rfl g _ fun acc' g'=>tz G xs (i+1) acc' (fun j y a e g N hN=>h (j+1) y a (by simpa using e) (by rw[show i+(j+1)=i+1+j by omega];exact g) N fun a' g'=>hN a' (by rw[show i+1+j+1=i+(j+1)+1 by omega];exact g')) g' fun a g=>k a (by rw[xir,show i+(xs.length+1)=i+1+xs.length by omega];exact g)
theorem r6 {dg:DG}{de:DE}{τi:TSt}{KK:List Tr→Prop}(g:Tr→Tr):∀(xs acc:List Tr),(∀x∈xs,∀N:Tr→Prop,N (g x)→dg x τi fun τ2=>de τ2 N)→KK (acc++xs.map g)→tj dg mY de τi KK xs acc
 | [],acc,_,k=>by rw[xiF,xh7] at k;exact k
 | x::xs,acc,h,k=>h x xiL (fun y=>tj dg mY de τi KK xs (acc++[y])) (r6 g xs (acc++[g x]) (fun y hy=>h y (xiK _ hy)) (by rw[xh6];exact k))
end L2
namespace L2
open PySem Trn
theorem xcw (n o m p:D2):cr n m*cr o p=cr n o*cr m p+cr n p*cr o m:=by unfold cr;grind
theorem xat {rows:List Pol.R3}{n:Nat}:∀(nums:List Nat) (acc:Option Nat) (P:Nat→Prop),(∀m,acc=some m→0<cr (xJ rows n) (xJ rows m)∧∀o,P o→0<cr (xJ rows n) (xJ rows o)→0≤cr (xJ rows m) (xJ rows o))→(acc=none→∀o,P o→¬0<cr (xJ rows n) (xJ rows o)) →
  ∀m,nums.foldl (zy rows n) acc=some m→∀o,(P o∨o∈nums)→0<cr (xJ rows n) (xJ rows o)→0≤cr (xJ rows m) (xJ rows o)
 | [],acc,P,h,h0,m,e,o,ho,c=>(h m e).2 o (ho.resolve_right (by simp)) c
 | x::nums,acc,P,h,h0,m,e,o,ho,c=>by
  refine xat nums (zy rows n acc x) (fun o=>P o∨o=x) (fun m e=>?_) (fun e o ho c=>?_) m e o (ho.elim (fun z=>.inl (.inl z)) fun z=>(xiJ.mp z).elim (fun z=>.inl (.inr z)) .inr) c
  ·unfold zy at e
   split at e
   ·rename_i cx
    cases acc with
    | none =>
     cases e
     exact⟨cx,fun o ho c=>ho.elim (fun z=>absurd c (h0 rfl o z)) fun z=>by rw[z,gO];exact xhH _⟩
    | some k =>
     obtain⟨k1,k2⟩:=h k rfl
     dsimp only at e
     split at e
     ·rename_i cm
      cases e
      refine⟨cx,fun o ho c=>ho.elim (fun z=>?_) fun z=>by rw[z,gO];exact xhH _⟩
      have id:=xcw (xJ rows n) (xJ rows x) (xJ rows k) (xJ rows o)
      have a:=Pol.pz (xhE cx) (k2 o z c)
      have b:=Pol.pz (xhE c) (xhE cm)
      rcases xhJ (cr (xJ rows x) (xJ rows o)) 0 with y | y
      ·have:=Pol.pp k1 (show 0 < -cr (xJ rows x) (xJ rows o) by omega)
       rw[xhS] at this
       omega
      ·exact y
     ·rename_i cm
      cases e
      refine⟨k1,fun o ho c=>ho.elim (fun z=>k2 o z c) fun z=>?_⟩
      rw[z,rk];omega
   ·rename_i cx
    obtain⟨k1,k2⟩:=h m e
    exact⟨k1,fun o ho c=>ho.elim (fun z=>k2 o z c) fun z=>by rw[z] at c;exact absurd c cx⟩
  ·unfold zy at e
   split at e
   ·cases acc with
    | none=>cases e
    | some k=>dsimp only at e;split at e<;>cases e
   ·rename_i cx
    rcases ho with z | z
    ·exact h0 e o z c
    ·rw[z] at c;exact cx c
theorem oM {rows:List Pol.R3}{nums:List Nat}{n m o:Nat}(e:nN rows nums n=some m)(ho:o∈nums)(c:0<cr (xJ rows n) (xJ rows o)):0≤cr (xJ rows m) (xJ rows o) :=
 xat nums none (fun _=>False) (fun _ z=>nomatch z) (fun _ _ z=>z.elim) m e o (.inr ho) c
theorem filter_lt {α:Type}{p q:α→Bool}(imp:∀o,p o=true→q o=true){n:α}:∀ {l:List α},n∈l→q n=true→p n=false→(l.filter p).length<(l.filter q).length
 | x::l,h,hq,hp=>by
  have le:∀l:List α,(l.filter p).length≤(l.filter q).length:=fun l=>by
   induction l with
   | nil=>simp
   | cons y l ih =>
    simp only[List.filter_cons]
    by_cases e:p y=true
    ·rw[if_pos e,if_pos (imp y e),xir,xir];omega
    ·rw[if_neg e];split
     ·rw[xir];omega
     ·exact ih
  simp only[List.filter_cons]
  rcases xiJ.mp h with e | h
  ·subst e
   rw[hp,hq]
   have:=le l
   simp;omega
  ·have:=filter_lt imp h hq hp
   by_cases e:p x=true
   ·rw[if_pos e,if_pos (imp x e),xir,xir];omega
   ·rw[if_neg e];split
    ·rw[xir];omega
    ·exact this
theorem adj {rows:List Pol.R3}{nums:List Nat}{d:D2}:∀(k:Nat) (a m:Nat),a∈nums→m∈nums→0<cr (xJ rows a) (xJ rows m)→InC (xJ rows a) (xJ rows m) d→(nums.filter fun o=>decide (0<cr (xJ rows a) (xJ rows o)∧0≤cr (xJ rows o) (xJ rows m))).length≤k→∃ij∈uN rows nums,InC (xJ rows ij.1) (xJ rows ij.2) d:=fun k=>by
 induction k with
 | zero =>
  intro a m ha hm c _ l
  have:m∈nums.filter fun o=>decide (0<cr (xJ rows a) (xJ rows o)∧0≤cr (xJ rows o) (xJ rows m)):=xiM.mpr ⟨hm,xjs ⟨c,by rw[gO];exact xhH _⟩⟩
  have:=List.length_pos_of_mem this
  omega
 | succ k ih =>
  intro a m ha hm c hd l
  have ex:=(af (rows:=rows) (n:=a) nums none (fun m e=>nomatch e)).2 (.inr ⟨m,hm,c⟩)
  cases q:nN rows nums a with
  | none=>exact absurd q ex
  | some n =>
   obtain⟨p,r⟩:=(af (rows:=rows) (n:=a) nums none (fun m e=>nomatch e)).1 n q
   have hn:n∈nums:=r.resolve_right (fun z=>nomatch z)
   have nm:=oM q hm c
   have sd:(a,n)∈uN rows nums:=xiN.mpr ⟨a,ha,by rw[q];rfl⟩
   by_cases z:0≤cr d (xJ rows n)
   ·exact⟨_,sd,hd.1,z⟩
   ·have dn:0<cr (xJ rows n) d:=by rw[rk];omega
    have nm':0<cr (xJ rows n) (xJ rows m):=by
     have id:=xcw (xJ rows a) d (xJ rows n) (xJ rows m)
     rw[rk (xJ rows n) d] at id
     have t1:=Pol.pz hd.1 nm
     have t2:=Pol.pp c dn
     have h2:=hd.2
     rcases xhJ 0 (cr (xJ rows n) (xJ rows m)) with y | y
     ·exact y
     ·have y0:cr (xJ rows n) (xJ rows m)=0:=by omega
      rw[y0,xhY,Int.zero_add,xhS] at id
      have:=Pol.pz (xhE p) h2
      omega
    refine ih n m hn hm nm' ⟨by omega,hd.2⟩ ?_
    have sub:((nums.filter fun o=>decide (0<cr (xJ rows n) (xJ rows o)∧0≤cr (xJ rows o) (xJ rows m))).length)<(nums.filter fun o=>decide (0<cr (xJ rows a) (xJ rows o)∧0≤cr (xJ rows o) (xJ rows m))).length:=by
     have imp:∀o,(0<cr (xJ rows n) (xJ rows o)∧0≤cr (xJ rows o) (xJ rows m))→(0<cr (xJ rows a) (xJ rows o)∧0≤cr (xJ rows o) (xJ rows m)):=fun o ⟨o1,o2⟩=>by
      refine⟨?_,o2⟩
      have id:cr (xJ rows a) (xJ rows o)*cr (xJ rows n) (xJ rows m)=cr (xJ rows o) (xJ rows m)*cr (xJ rows a) (xJ rows n)+cr (xJ rows n) (xJ rows o)*cr (xJ rows a) (xJ rows m):=by unfold cr;grind
      have t1:=Pol.pz o2 (xhE p)
      have t2:=Pol.pp o1 c
      rcases xhJ 0 (cr (xJ rows a) (xJ rows o)) with y | y
      ·exact y
      ·have:=Pol.pz (a:=-cr (xJ rows a) (xJ rows o)) (b:=cr (xJ rows n) (xJ rows m)) (by omega) (by omega)
       rw[Int.neg_mul] at this
       omega
     exact filter_lt (fun o h=>xjs (imp o (xjv h))) hn (xjs ⟨p,xhE nm'⟩) (xjr fun z=>by have:=z.1;rw[gO] at this;omega)
    omega
theorem bO {r v p:Pol.R3}(hp:0<p.2.2)(s:Pol.xds v p)(h:Pol.val r p=0):Pol.val r v=0:=by
 have e:Pol.val r v*p.2.2=Pol.val r p*v.2.2:=by
  have:=s.1;have:=s.2
  simp only[Pol.val];grind
 rw[h,xh1] at e
 exact(xhO.mp e).resolve_right (by omega)
theorem xet {rows:List Pol.R3}{r:Pol.R3}(h:r∈rows):∃i,i<rows.length∧uG rows i=r:=by
 obtain⟨i,hi,rfl⟩:=xiO.mp h
 refine⟨i,hi,?_⟩
 have:=aU hi
 rw[xii hi] at this
 exact(xjp this).symm
theorem xfb {rows:List Pol.R3}(hf:xn rows=true)(FR:uH rows){w:Pol.R3}(hw:w∈zR rows){d:D2}(nz:d≠(0,0)):∃v∈zR rows,∃ij∈uN rows (rH rows (plc v)),InC (xJ rows ij.1) (xJ rows ij.2) d:=by
 obtain⟨_,dir,gr,_⟩:=rK hf
 have r0:∀r∈rows,r.1≠0∨r.2.1≠0:=fun r hr=>(dir r hr).1
 obtain⟨⟨hz,_,C⟩,_⟩:=FR.corner hw
 obtain⟨i,hi,j,hj,⟨t1,t2,t3⟩,k⟩:=Pol.oi (d:=(d.1,d.2,0)) (Pol.xa7 r0 gr) (by
  refine xht fun no=>nz ?_
  exact Prod.ext (by simp only at no;show d.1=0;omega) (by simp only at no;show d.2=0;omega)) r0 hz C.kept
 obtain⟨z,e1,e2⟩:=Pol.pK (show Pol.turn i j≠0 by omega)
 obtain⟨v,hv,sm⟩:=FR.fine.found z ⟨k,i,hi,j,hj,e1,e2,by omega⟩
 have hv:v∈zR rows:=jX.mpr hv
 obtain⟨⟨vz,_,_⟩,_⟩:=FR.corner hv
 obtain⟨a,ha,ea⟩:=xet hi
 obtain⟨b,hb,eb⟩:=xet hj
 have ma:a∈rH rows (plc v):=(gk vz).mpr ⟨ha,by rw[ea];exact bO z sm e1⟩
 have mb:b∈rH rows (plc v):=(gk vz).mpr ⟨hb,by rw[eb];exact bO z sm e2⟩
 refine⟨v,hv,?_⟩
 refine adj _ a b ma mb ?_ ⟨?_,?_⟩ (xjd _)
 ·unfold xJ;rw[ea,eb];exact t1
 ·unfold xJ;rw[ea];exact t2
 ·unfold xJ;rw[eb];exact t3
theorem ua.dual {rows:List Pol.R3}{x:SX}(u:Pol.R3):cr (xJ rows x.1.1) (xJ rows x.1.2)*(x.2.1*u.1+x.2.2*u.2.1)-(cr x.2 (xJ rows x.1.2)*k2 (uG rows x.1.1)+cr (xJ rows x.1.1) x.2*k2 (uG rows x.1.2))*u.2.2=cr x.2 (xJ rows x.1.2)*Pol.val (uG rows x.1.1) u+cr (xJ rows x.1.1) x.2*Pol.val (uG rows x.1.2) u:=by
 have e1:=nh (xJ rows x.1.1) (xJ rows x.1.2) x.2
 have ea:=e1.1;have eb:=e1.2
 generalize cr x.2 (xJ rows x.1.2)=p at *
 generalize cr (xJ rows x.1.1) x.2=q at *
 generalize cr (xJ rows x.1.1) (xJ rows x.1.2)=T at *
 have d1:(xJ rows x.1.1)=((uG rows x.1.1).1,(uG rows x.1.1).2.1):=rfl
 have d2:(xJ rows x.1.2)=((uG rows x.1.2).1,(uG rows x.1.2).2.1):=rfl
 rw[d1,d2] at ea eb
 simp only[Pol.val,k2] at *
 grind
theorem xdx {rows:List Pol.R3}{x:SX}(hf:xn rows=true)(G:ua rows x):xd2 rows x=(x.2.1,x.2.2,(cr x.2 (xJ rows x.1.2)*k2 (uG rows x.1.1)+cr (xJ rows x.1.1) x.2*k2 (uG rows x.1.2)) / cr (xJ rows x.1.1) (xJ rows x.1.2)):=by
 have S:=G.lin k2
 unfold xd2
 rw[G.a hf,G.b hf,xhz _ (by have:=S.pf;omega),S.floor]
theorem nB {rows:List Pol.R3}(hf:xn rows=true)(FR:uH rows){v:Pol.R3}(hv:v∈zR rows){x:SX}(hx:x.1∈uN rows (rH rows (plc v)))(G:ua rows x){f:F2}(e:kj x.2.1 x.2.2 ((zR rows).map plc)=some f):xd2 rows x=(x.2.1,x.2.2,f.1.fdiv f.2):=by
 obtain⟨⟨vz,_,_⟩,_⟩:=FR.corner hv
 obtain⟨m1,m2,_⟩:=sP hx
 have D:=fun u=>ua.dual (rows:=rows) (x:=x) u
 have inc:=G.inc
 have pT:=G.pos
 rw[xdx hf G]
 rcases qT _ none e with z | ⟨p,hp,ef⟩
 ·cases z
 obtain⟨u,hu,rfl⟩:=xiP.mp hp
 obtain⟨⟨uz,_,Cu⟩,_⟩:=FR.corner hu
 have Su:Sd f (x.2.1*u.1+x.2.2*u.2.1) u.2.2:=by rw[ef];exact m6 (x.2.1,x.2.2,0) uz
 have Sv:Sd (vY (x.2.1,x.2.2,0) (plc v)) (x.2.1*v.1+x.2.2*v.2.1) v.2.2:=m6 (x.2.1,x.2.2,0) vz
 have ge:=(l9 _ FR.pos none f (fun g z=>nomatch z) e).2 (plc v) (xiQ hv)
 have lt:=Su.lt Sv
 have Dv:=D v
 have Du:=D u
 rw[((gk vz).mp m1).2,((gk vz).mp m2).2,xhY,xhY] at Dv
 have n1:0≤cr x.2 (xJ rows x.1.2) * -Pol.val (uG rows x.1.1) u:=Pol.pz inc.2 (by have:=Cu.kept _ (aq G.i1);omega)
 have n2:0≤cr (xJ rows x.1.1) x.2 * -Pol.val (uG rows x.1.2) u:=Pol.pz inc.1 (by have:=Cu.kept _ (aq G.i2);omega)
 rw[xhS] at n1 n2
 have S:Sd f (cr x.2 (xJ rows x.1.2)*k2 (uG rows x.1.1)+cr (xJ rows x.1.1) x.2*k2 (uG rows x.1.2)) (cr (xJ rows x.1.1) (xJ rows x.1.2)):=by
  generalize cr x.2 (xJ rows x.1.2)*k2 (uG rows x.1.1)+cr (xJ rows x.1.1) x.2*k2 (uG rows x.1.2)=N at *
  generalize cr (xJ rows x.1.1) (xJ rows x.1.2)=T at *
  generalize x.2.1*u.1+x.2.2*u.2.1=U at *
  generalize x.2.1*v.1+x.2.2*v.2.1=V at *
  refine⟨Su.pf,pT,?_⟩
  have ge':V*u.2.2≤U*v.2.2:=by
   have:¬(U*v.2.2<V*u.2.2):=fun z=>by have:=lt.mpr z;omega
   omega
  have a1:T*(V*u.2.2)≤T*(U*v.2.2):=xhP ge' (by omega)
  have a2:T*U≤N*u.2.2:=by omega
  have a3:T*U*v.2.2≤N*u.2.2*v.2.2:=xhQ a2 (by omega)
  have a4:T*V=N*v.2.2:=by omega
  have a5:T*V*u.2.2=N*v.2.2*u.2.2:=by rw[a4]
  have a6:T*U*v.2.2=N*u.2.2*v.2.2:=by
   have:T*(V*u.2.2)=T*V*u.2.2:=by grind
   have:T*(U*v.2.2)=T*U*v.2.2:=by grind
   have:N*v.2.2*u.2.2=N*u.2.2*v.2.2:=by grind
   omega
  have a7:T*U=N*u.2.2:=xhy (by omega) a6
  have eu:=Su.e
  refine xhy (a:=u.2.2) (by omega) ?_
  have:f.1*T*u.2.2=T*U*f.2:=by grind
  rw[this,a7]
  grind
 rw[xhz _ (by have:=S.pf;omega),S.floor]
def zT (rows:List Pol.R3):List (Nat×Nat):=(zR rows).flatMap fun v=>uN rows (rH rows (plc v))
def wtO (rows:List Pol.R3)(ij:Nat×Nat)(d:D2):Tr:=if 0≤cr (xJ rows ij.1) d∧0≤cr d (xJ rows ij.2) then wsT (dR rows (ij,d)) else .non
def xcp (rows:List Pol.R3)(ij:Nat×Nat):Prop:=ij.1<rows.length∧ij.2<rows.length∧0<cr (xJ rows ij.1) (xJ rows ij.2)
def xgV (d:D2):Prop:=Bx 1000 d∧d≠(0,0)
def xct:TSp:=fun ts KK=>∃(rows:List Pol.R3) (ij:Nat×Nat) (d:D2),ts=[.tup (rows.map trR),kC ij,drD d]∧xn rows=true∧xcp rows ij∧xgV d∧KK (wtO rows ij d)
def l5:TSp:=fun ts KK=>∃(rows:List Pol.R3) (d:D2),ts=[.tup (rows.map trR),.int d.1,.int d.2]∧xn rows=true∧uH rows∧zR rows≠[]∧xgV d∧∀(v:Pol.R3) (x:SX),v∈zR rows→x.1∈uN rows (rH rows (plc v))→ua rows x→x.2=d→KK (xgX rows x)
theorem j4 {rows:List Pol.R3}{ij:Nat×Nat}(h:ij∈zT rows):xcp rows ij∧∃v∈zR rows,ij∈uN rows (rH rows (plc v)):=by
 obtain⟨v,hv,hm⟩:=List.mem_flatMap.mp h
 obtain⟨a,b,c⟩:=sP hm
 exact⟨⟨bG a,bG b,c⟩,v,hv,hm⟩
theorem gv {rows:List Pol.R3}(hf:xn rows=true):∀l:List Pol.R3,(l.flatMap fun v=>uN rows (rH rows (plc v))).length≤8*l.length
 | []=>by simp
 | v::l=>by
  have:=gv hf l
  have a:=oa (rows:=rows) (nums:=rH rows (plc v))
  have b:=bX (rows:=rows) (p:=plc v)
  have:=(rK hf).1.2
  rw[List.flatMap_cons,xiq,xir]
  omega
theorem mS {u v x:D2}(h:¬(0≤cr u x∧0≤cr x v)):ka u.1 u.2 v.1 v.2 (drD x)=.non:=by
 have e1:ka u.1 u.2 v.1 v.2 (drD x)=if x.1=0∧x.2=0 then .non else if tn x.1 x.2 v.1 v.2<0∨tn u.1 u.2 x.1 x.2<0 then .non else .tup [xam (tn x.1 x.2 v.1 v.2) (tn u.1 u.2 v.1 v.2),xam (tn u.1 u.2 x.1 x.2) (tn u.1 u.2 v.1 v.2)]:=rfl
 rw[e1]
 split
 ·rfl
 ·rw[if_pos]
  have a:tn x.1 x.2 v.1 v.2=cr x v:=rfl
  have b:tn u.1 u.2 x.1 x.2=cr u x:=rfl
  rw[a,b]
  omega
theorem lB {rows:List Pol.R3}{ij:Nat×Nat}{d:D2}(h:0≤cr (xJ rows ij.1) d∧0≤cr d (xJ rows ij.2)):wtO rows ij d=wsT (dR rows (ij,d)):=if_pos h
theorem xcu {rows:List Pol.R3}{ij:Nat×Nat}{d:D2}(h:¬(0≤cr (xJ rows ij.1) d∧0≤cr d (xJ rows ij.2))):wtO rows ij d=.non:=if_neg h
end L2
namespace L2
open PySem PySem.Spec PyProof.Rows
section
variable {X:Cx} {e:Expr} {te:TE}
end
end L2
namespace L2
open PySem PySem.Spec PyProof.Rows
theorem yK:∀(names:List (Str×NameKind)) (n:Nat) (acc:List (Str×Addr)),cellsFrom n names acc=cellsFrom n names []++acc
 | [],n,acc=>rfl
 | (x,k)::r,n,acc=>by
  unfold cellsFrom
  split
  ·rw[yK r (n+1) ((x,n)::acc),yK r (n+1) [(x,n)],xh6];rfl
  ·exact yK r n acc
theorem uk {α:Type}:∀(l k:List (Str×α)) (x:Str),(l++k).lookup x=(l.lookup x).or (k.lookup x)
 | [],k,x=>rfl
 | (y,v)::l,k,x=>by
  rw[xh8,xiA,xiA]
  cases h:x == y with
  | true=>rfl
  | false=>exact uk l k x
theorem ub:∀(names:List (Str×NameKind)) (n:Nat) {x:Str} {c:Addr},(x,c)∈cellsFrom n names []→(x,NameKind.cell)∈names∧n≤c
 | [],n,x,c,h=>by simp[cellsFrom] at h
 | (y,k)::r,n,x,c,h=>by
  unfold cellsFrom at h
  split at h
  ·rename_i hk
   have hk:k=.cell:=by simpa using hk
   rw[yK] at h
   rcases xiG.mp h with h | h
   ·obtain⟨a,b⟩:=ub r (n+1) h
    exact⟨xiK _ a,by omega⟩
   ·have e:=xiV.mp h
    cases e
    exact⟨by rw[hk];exact xiL,xjd _⟩
  ·obtain⟨a,b⟩:=ub r n h
   exact⟨xiK _ a,b⟩
theorem uh:∀(names:List (Str×NameKind)) (n:Nat) {x:Str},(x,NameKind.cell)∈names→∃c,(cellsFrom n names []).lookup x=some c
 | [],n,x,h=>by simp at h
 | (y,k)::r,n,x,h=>by
  unfold cellsFrom
  rcases xiJ.mp h with e | h
  ·injection e with e1 e2
   subst e1 e2
   rw[if_pos (show(NameKind.cell == NameKind.cell)=true from rfl),yK,uk]
   cases q:(cellsFrom (n+1) r []).lookup x with
   | some c=>exact⟨c,rfl⟩
   | none=>exact⟨n,by simp⟩
  ·split
   ·rw[yK,uk]
    obtain⟨c,hc⟩:=uh r (n+1) h
    exact⟨c,by rw[hc];rfl⟩
   ·exact uh r n h
theorem gG (g:Str→NameKind→NameKind):∀(l:List (Str×NameKind)) (x:Str),(l.map fun y=>(y.1,g y.1 y.2)).lookup x=(l.lookup x).map (g x)
 | [],x=>rfl
 | (n,k)::l,x=>by
  rw[xiD,xiA,xiA]
  cases h:x == n with
  | true =>
   have e:x=n:=by simpa using h
   rw[e]
   rfl
  | false=>exact gG g l x
theorem ki (sc:Scope)(env:Env)(x:Str):(relabel sc env).names.lookup x=(sc.names.lookup x).map fun k=>if (k == NameKind.free&&env.scope.kind == .function&&env.kindOf x == some .cell)=true then NameKind.cell else k:=by
 have e:(relabel sc env).names=sc.names.map fun y=>(y.1,if (y.2 == NameKind.free&&env.scope.kind == .function&&env.kindOf y.1 == some .cell)=true then NameKind.cell else y.2):=by
  unfold relabel
  apply xiC
  rintro⟨n,k⟩ _
  dsimp only
  split<;>rfl
 rw[e,gG (fun n k=>if (k == NameKind.free&&env.scope.kind == .function&&env.kindOf n == some .cell)=true then NameKind.cell else k)]
def xcR (X:Cx)(sc:Scope)(C:Addr):List (Str×Addr):=cellsFrom (C+1) sc.names (jr X.env sc.names [])
def uB (X:Cx)(sc:Scope)(N:List Str)(C:Addr)(s:Shared)(H:Hp)(ex:List Addr):Cx :=
 { X with N:=N,s₀:=s,H₀:=H,env:=compEnvC sc (xcR X sc C) C X.env,outer:=X.stack,stack:=X.stack,ex:=ex,fn:=fun x=>decide (sc.names.lookup x=some .cell),pn:=[],xe:=fun _ _=>False }
def xaa (XN:List Str)(xs sc:Scope)(N:List Str)(tau:List (Option Nat)):Bool :=
 decide (sc.kind=.function)&&decide ((sc.names.map (·.1)).Nodup)&&decide N.Nodup&&decide (tau.length=N.length) &&
 (tau.zip N).all (fun p=>match p.1 with | none=>true | some j=>decide (XN[j]? = some p.2)&&decide (sc.names.lookup p.2=some .free)) &&
 sc.names.all (fun y=>decide (y.2≠.free) || decide (xs.names.lookup y.1=some .cell) || decide (xs.names.lookup y.1=some .free))&&decide (xs.kind=.function)
structure w4 (X:Cx)(sc:Scope)(N:List Str)(tau:List (Option Nat)):Prop where
 kind:sc.kind=.function
 uniq:(sc.names.map (·.1)).Nodup
 nd:N.Nodup
 len:tau.length=N.length
 out:∀(i j:Nat) (x:Str),tau[i]? = some (some j)→N[i]? = some x→X.N[j]? = some x∧sc.names.lookup x=some .free
 fr:∀y∈sc.names,y.2=.free→X.env.scope.names.lookup y.1=some .cell∨X.env.scope.names.lookup y.1=some .free
 okind:X.env.scope.kind=.function
theorem t_ {X:Cx}{sc:Scope}{N XN:List Str}{xs:Scope}{tau:List (Option Nat)}(h:xaa XN xs sc N tau=true)(h1:X.N=XN)(h2:X.env.scope=xs):w4 X sc N tau:=by
 subst h1 h2
 unfold xaa at h
 simp only[xhq,xh4,xjt,Bool.or_eq_true] at h
 obtain⟨⟨⟨⟨⟨⟨k,u⟩,nd⟩,len⟩,out⟩,fr⟩,ok⟩:=h
 refine⟨k,u,nd,len,fun i j x e1 e2=>?_,fun y hy e=>?_,ok⟩
 ·have:=out _ (zip_get e1 e2)
  simpa using this
 ·rcases fr y hy with (z | z) | z
  ·exact absurd e z
  ·exact .inl z
  ·exact .inr z
theorem fV {l:List (Str×NameKind)}(h:(l.map (·.1)).Nodup){x:Str}{k:NameKind}(hm:(x,k)∈l):l.lookup x=some k:=by
 induction l with
 | nil=>simp at hm
 | cons y r ih =>
  obtain⟨n,k'⟩:=y
  rw[xiD,xiY] at h
  rw[xiA]
  rcases xiJ.mp hm with e | hm
  ·cases e;simp
  ·have:x≠n:=fun e=>h.1 (by rw[←e];exact xiP.mpr ⟨_,hm,rfl⟩)
   rw[show(x == n)=false by simpa using this]
   exact ih h.2 hm
section
variable {X:Cx} {sc:Scope} {N:List Str} {tau:List (Option Nat)} {pins:List (Addr×Obj)} {σ:St} {H:Hp} {s:Shared}
theorem w4.loc (k:w4 X sc N tau):∀y∈sc.names,y.2=.local→sc.names.lookup y.1=some .local:=fun y hy e=>fV k.uniq (by rw[←e];exact hy)
theorem w4.cells (k:w4 X sc N tau)(ok:X.Ok):∀y∈sc.names,y.2=NameKind.free→∃c,X.env.cells.lookup y.1=some c:=fun y hy e=>ok.has y.1 (k.fr y hy e)
theorem w4.cs (k:w4 X sc N tau){C:Addr}{x:Str}{c:Addr}(h:(xcR X sc C).lookup x=some c):(sc.names.lookup x=some .cell∧(x,c)∈cellsFrom (C+1) sc.names []∧C+1≤c)∨(sc.names.lookup x≠some .cell∧X.env.cells.lookup x=some c):=by
 unfold xcR at h
 rw[yK,uk] at h
 cases q:(cellsFrom (C+1) sc.names []).lookup x with
 | some c' =>
  rw[q] at h
  cases (show some c'=some c from h)
  have m:=PySem.mem_of_lookup q
  obtain⟨a,b⟩:=ub _ _ m
  exact .inl ⟨fV k.uniq a,m,b⟩
 | none =>
  rw[q] at h
  refine .inr ⟨fun z=>?_,uc _ _ (show(jr X.env sc.names []).lookup x=some c from h) fun _ z=>by simp at z⟩
  obtain⟨c',hc⟩:=uh sc.names (C+1) (PySem.mem_of_lookup z)
  rw[hc] at q;cases q
theorem w4.own (k:w4 X sc N tau){C:Addr}{x:Str}(h:sc.names.lookup x=some .cell):∃c,(xcR X sc C).lookup x=some c:=by
 obtain⟨c,hc⟩:=uh sc.names (C+1) (PySem.mem_of_lookup h)
 exact⟨c,by unfold xcR;rw[yK,uk,hc];rfl⟩
theorem w4.seen (k:w4 X sc N tau){C:Addr}{x:Str}{c:Addr}(h:sc.names.lookup x=some .free)(hc:X.env.cells.lookup x=some c):(xcR X sc C).lookup x=some c:=by
 unfold xcR
 rw[yK,uk]
 cases q:(cellsFrom (C+1) sc.names []).lookup x with
 | some c' =>
  obtain⟨a,_⟩:=ub _ _ (PySem.mem_of_lookup q)
  rw[fV k.uniq a] at h;cases h
 | none=>exact qQ hc _ _ (PySem.mem_of_lookup h)
theorem xaw (k:w4 X sc N tau)(I:Inv X pins σ H s){fp:List Addr}(hf:∀b∈fp,dD X pins H b)(hob:∀b∈fp,∃o,s.heap.get? b=some o)(ap:(cellsFrom (s.heap.objs.size+1+1) sc.names []).Pairwise fun x y=>x.2≠y.2) :
  (uB X sc N (s.heap.objs.size+1) s H fp).Ok where
 mod:=I.ok.mod
 kind:=k.kind
 glob:=I.ok.glob
 blt:=I.ok.blt
 above:=xje _
 inj:=fun x y c h1 h2=>by
  have old:∀ {x:Str} {c:Addr},X.env.cells.lookup x=some c→c<s.heap.objs.size:=fun {x c} e=>let ⟨v,q⟩:=I.cell x c e;q.lt
  rcases k.cs h1 with ⟨_,a1,b1⟩ | ⟨_,a1⟩<;>rcases k.cs h2 with ⟨_,a2,b2⟩ | ⟨_,a2⟩
  ·exact name_of_addr ap a1 a2
  ·exact absurd (xji (old a2) (xjf (xjb _ 2) b1)) (xjg _)
  ·exact absurd (xji (old a1) (xjf (xjb _ 2) b2)) (xjg _)
  ·exact I.ok.inj x y c a1 a2
 has:=fun x h=>by
  have e:=ki sc X.env x
  have h:(relabel sc X.env).names.lookup x=some .cell∨(relabel sc X.env).names.lookup x=some .free:=h
  cases q:sc.names.lookup x with
  | none=>rw[e,q] at h;simp at h
  | some kd =>
   cases kd with
   | cell=>exact k.own q
   | free =>
    obtain⟨c,hc⟩:=k.cells I.ok _ (PySem.mem_of_lookup q) rfl
    exact⟨c,k.seen q hc⟩
   | _=>rw[e,q] at h;simp at h
 cab:=fun x c h hc=>by
  have h:=xjv h
  rcases k.cs hc with ⟨_,_,b⟩ | ⟨n,_⟩
  ·exact xjf (xjb _ 2) b
  ·exact absurd h n
 hd:=I.ok.hd
 frames:=I.ok.frames
 stk:=.inl rfl
 exf:=fun b hb=>by
  obtain⟨o,e⟩:=hob b hb
  have l:=Heap.lt_size e
  refine⟨fun z=>?_,fun x c h z=>?_⟩
  ·have z':b=s.heap.objs.size+1:=z
   rw[z'] at l
   exact xjg _ (Nat.lt_of_succ_lt l)
  ·rcases k.cs h with ⟨_,_,q⟩ | ⟨_,q⟩
   ·rw[z] at q
    exact absurd (xji l (xjf (xjb _ 2) q)) (xjg _)
   ·exact(hf b hb).2.2.2.2.1 x c q z
 bs:=I.bs
 bsz:=xjf I.ok.bsz I.sz
 noex:=fun b o e hb=>by
  rcases(hf b hb).2.2.2.1 with z | z
  ·exact I.ok.noex b o e z
  ·exact absurd (xji (Heap.lt_size (I.ok.bs b o e).1) z) (xjg _)
 exfs:=fun b hb z=>by
  rcases xiJ.mp (I.stkSub b z) with e | e
  ·exact(hf b hb).2.1 e
  ·exact(hf b hb).2.2.1 e
 funs:=I.stack
 frf:=I.stkFree
theorem xa_ (k:w4 X sc N tau)(I:Inv X pins σ H s){fp:List Addr}(hf:∀b∈fp,dD X pins H b)(hob:∀b∈fp,∃o,s.heap.get? b=some o){h1:Heap}{t':Nat}
  (kp:∀b o,s.heap.get? b=some o→h1.get? b=some o) (hn:h1.Ns (s.heap.objs.size+1) (fun _=>none)) (hD:h1.get? s.heap.objs.size=some { cls:=.type "list", data:=.seq #[] 0 })
  (ck:CellsOk h1 (s.heap.objs.size+1+1) (cellsFrom (s.heap.objs.size+1+1) sc.names [])) :
  Inv (uB X sc N (s.heap.objs.size+1) s H fp) [(s.heap.objs.size,lo [] 0)] (q8 tau σ) H { s with heap:=h1,toks:=t' } where
 ok:=xaw k I hf hob ck.apart
 os:=rfl
 bare:=I.bare
 base:=Un.kept kp
 loc:=⟨_,hn,fun i x v e1 e2 e3=>by
  obtain⟨j,t1,t2⟩:=vB e2
  obtain⟨o1,o2⟩:=k.out i j x t1 e1
  have m:(x,NameKind.free)∈sc.names:=PySem.mem_of_lookup o2
  have hk:=k.fr _ m rfl
  obtain⟨mm,hn',hl⟩:=I.loc
  obtain⟨u,r,l⟩:=hl j x v o1 t2 (hk.elim (fun z=>.inr (.inl z)) fun z=>.inr (.inr z))
  have e:=ki sc X.env x
  rw[o2] at e
  refine⟨u,r,.inr ⟨?_,?_⟩⟩
  ·show(relabel sc X.env).names.lookup x=some .cell∨(relabel sc X.env).names.lookup x=some .free
   rw[e]
   simp only[Option.map_some]
   split
   ·exact .inl rfl
   ·exact .inr rfl
  ·rcases l with ⟨z,_⟩ | ⟨_,c,ec,hc⟩
   ·exfalso
    have z:X.env.scope.names.lookup x=some .local:=z
    rcases hk with q | q<;>rw[z] at q<;>cases q
   ·obtain⟨o,ho,hd⟩:=hc
    exact⟨c,k.seen o2 ec,o,kp c o ho,hd⟩⟩
 cell:=fun x c h=>by
  rcases k.cs h with ⟨_,a,_⟩ | ⟨_,a⟩
  ·exact⟨_,(ck.empty x c a).1⟩
  ·obtain⟨v,o,ho,hd⟩:=I.cell x c a
   exact⟨v,o,kp c o ho,hd⟩
 free:=I.hok.fresh (xje _)
 freeC:=fun x c h=>by
  rcases k.cs h with ⟨_,_,b⟩ | ⟨_,a⟩
  ·exact I.hok.fresh (xjf (xjb _ 2) b)
  ·exact I.freeC x c a
 pin:=fun p hp=>by
  have e:p=(s.heap.objs.size,lo [] 0):=by simpa [uB] using hp
  subst e
  refine⟨hD,I.hok.fresh (xjd _),xjn (xjk _),fun z=>?_,fun v=>by simp⟩
  rcases xiJ.mp (I.stkSub _ z) with e | e
  ·exact absurd (e▸I.lt) (xjg _)
  ·exact I.nofs (xjd _) e
 hok:=I.hok.kept kp
 len:=by
  show(q8 tau σ).length=N.length
  unfold q8
  rw[xit]
  exact k.len
end
theorem xbo {Y:Cx}{elt tg iter:Expr}{ifs:List Expr}{sc:Scope}{pos:Pos}{g:TG}{tc:TT}{te:TE}{tau:List (Option Nat)}(hc:Y.calm=true)(hx:Y.xe=fun _ _=>False){D:Addr}{pl:List (Addr×Obj)}(hg:PG Y tg g)(ht:PIf Y ifs tc)(he:PE Y elt te)(hga:GA tau g)
  {it:Addr} {fp:List Addr} {tn:Nat→Heap→Prop} {J:It} (T:Turn Y.prog Y.w Y.K tg J fp it tn) {its:List Value} {n:Nat} {ys:List V} {σ0:St} {H:Hp} {s:Shared} (I:Inv Y ((D,lo its n)::pl) σ0 H s) (hτ:∀(i:Nat) (v:V),σ0[i]? = some (some v)→∃j,tau[i]? = some (some j)) (rv:zh ys its) (hz:ys.length≤sizeLine) (h1:D∈Y.ex∨Y.s₀.heap.objs.size≤D) (h2:∀p∈Y.pn++pl,p.1≠D)
  (st0:tn 0 s.heap) (fo:∀b∈fp,dD Y ((D,lo its n)::pl) H b) {W:Nat→Nat→List V→Hp→Prop} {Z:List V→Hp→Prop} (w0:∃m,W 0 m ys H) (turn:∀i m ys H,W i m ys H →
   (J.stop i H∧Z ys H) ∨
   (J.go i H∧ys.length<sizeLine∧∀x H',J.yld i H x H'→g x σ0 H' fun σ2 H2=>tc σ2 H2 fun b H3=>if b=true then te σ2 H3 fun y H4=>∃m',m' < m∧W (i+1) m' (ys++[y]) H4 else ∃m',m' < m∧W (i+1) m' ys H3))
  {R:Result→Shared→Prop} (fin:∀H' s' ys' its' n',Inv Y ((D,lo its' n')::pl) σ0 H' s'→zh ys' its'→ys'.length≤sizeLine→Z ys' H'→R (.ok .next) s') :
  codeAny (model Y.prog Y.w) Y.A (.compStart (.ListComp elt [⟨tg,iter,ifs,0⟩] sc pos) 0 (.ref it) (.ref D) Y.env) R s:=by
 obtain⟨m0,w0⟩:=w0
 have fD:∀b∈fp,b≠D:=fun b hb=>Ne.symm ((fo b hb).2.2.2.2.2 (D,lo its n) (by simp))
 have stat:∀ {H':Hp} {its':List Value} {n':Nat},(∀b∈fp,H' b=none)→∀b∈fp,dD Y ((D,lo its' n')::pl) H' b:=fun {H' its' n'} hn b hb=>by
  obtain⟨_,a1,a2,a3,a4,a5⟩:=fo b hb
  refine⟨hn b hb,a1,a2,a3,a4,fun p hp=>?_⟩
  rcases xiG.mp hp with hp | hp
  ·exact a5 p (xiH _ hp)
  ·rcases xiJ.mp hp with rfl | hp
   ·exact Ne.symm (fD b hb)
   ·exact a5 p (xiI _ (xiK _ hp))
 have loop:codeAny (model Y.prog Y.w) Y.A (.compLoop (.ListComp elt [⟨tg,iter,ifs,0⟩] sc pos) 0 (.ref it) (.ref D) Y.env) R s:=by
  refine j0 (fun m s'=>∃i ys' H' its' n',Inv Y ((D,lo its' n')::pl) σ0 H' s'∧zh ys' its'∧ys'.length≤sizeLine∧tn i s'.heap∧(∀b∈fp,H' b=none)∧W i m ys' H') ?_ m0
   ⟨0,ys,H,its,n,I,rv,hz,st0,fun b hb=>(fo b hb).1,w0⟩
  rintro m s3 ⟨i,ys3,H3,its3,n3,I3,rv3,hz3,st3,fr3,w3⟩
  rcases turn i m ys3 H3 w3 with ⟨stop,z⟩ | ⟨go,hlt,step⟩
  ·refine wpAny_mono (T.done Y rfl rfl rfl hc i _ s3 _ H3 (fun _ _=>False) I3 (stat fr3) st3 stop) (fun r s4 ⟨hr,I4⟩=>?_) fun _ _ f=>f.elim
   subst hr
   exact fin _ _ _ _ _ I4 rv3 hz3 z
  ·refine wpAny_mono (T.item Y rfl rfl rfl hc i _ s3 _ H3 (fun _ _=>False) I3 (stat fr3) st3 go) (fun r s4 ⟨u,hr,h4⟩=>?_) fun _ _ f=>f.elim
   subst hr
   refine wpAny_mono h4 (fun _ s5 ⟨x,H5,I5,r5,y5,st5,fr5⟩=>?_) fun _ _ f=>f.elim
   have I5':=I5.pinned (stat fr5) (T.obj _ _ st5)
   have g5:=hg _ s5 _ H5 x u _ I5' r5 (hga _ _ _ _ (step x H5 y5))
   rw[hx] at g5
   refine wpAny_mono g5 (fun _ s6 ⟨σ6,H6,I6,q6,ag⟩=>?_) fun _ _ f=>f.elim
   have t6:=ht _ s6 σ6 H6 _ I6 q6
   rw[hx] at t6
   refine wpAny_mono t6 (fun b s7 ⟨H7,I7,q7⟩=>?_) fun _ _ f=>f.elim
   have back:∀ {H8:Hp} {s8:Shared} {its8:List Value} {n8:Nat},Inv Y ((D,lo its8 n8)::(pl++uP fp s5.heap)) σ6 H8 s8→Inv Y ((D,lo its8 n8)::pl) σ0 H8 s8∧tn (i+1) s8.heap∧∀b∈fp,H8 b=none:=fun {H8 s8 its8 n8} I8=>by
    have I8':Inv Y (((D,lo its8 n8)::pl)++uP fp s5.heap) σ6 H8 s8:=I8
    refine⟨I8'.unpinned.weak (I.len.trans I8.len.symm) fun j v e=>?_,T.keep _ _ _ st5 fun b hb o e=>(I8'.pin (b,o) (xiI _ (xiI _ (zi hb e)))).1,fun b hb=>?_⟩
    ·obtain⟨j',t1⟩:=hτ j v e
     rw[ag j j' t1];exact e
    ·obtain⟨o,e,d⟩:=T.obj _ _ st5 b hb
     exact(I8'.pin (b,o) (xiI _ (xiI _ (zi hb e)))).2.1
   cases b with
   | false =>
    obtain⟨m',hm,w7⟩:=q7
    obtain⟨I8,st8,fr8⟩:=back I7
    rw[if_neg xhr]
    exact⟨m',hm,i+1,ys3,H7,its3,n3,I8,rv3,hz3,st8,fr8,w7⟩
   | true =>
    rw[if_pos rfl]
    have e7:=@he _ s7 σ6 H7 _ I7 q7
    rw[hx] at e7
    refine wpAny_mono e7 (fun y s8 ⟨yv,H8,I8,r8,m',hm,w8⟩=>?_) fun _ _ f=>f.elim
    refine lC (pl:=pl++uP fp s5.heap) I8 h1 (fun p hp=>?_) (by rw[←rv3.length];exact hz3) fun s9 n9 I9 _=>?_
    ·rw[←xh6] at hp
     rcases xiG.mp hp with hp | hp
     ·exact h2 p hp
     ·exact fD _ (jm hp).1
    ·obtain⟨I10,st10,fr10⟩:=back I9
     exact⟨m',hm,i+1,ys3++[yv],H8,its3++[y],n9,I10,rv3.append (.cons r8 .nil),by rw[xiq,xix];exact hlt,st10,fr10,w8⟩
 exact codeAny_compStart_list loop (T.self _ 0 _ _ _ st0 loop)
section
variable {X:Cx} {sc:Scope} {N:List Str} {tau:List (Option Nat)} {pins:List (Addr×Obj)} {σ:St} {H:Hp} {s:Shared}
theorem xa9 (k:w4 X sc N tau)(I:Inv X pins σ H s){fp:List Addr}(hf:∀b∈fp,dD X pins H b){σ':St}{H':Hp}{s':Shared}{its:List Value}{n:Nat}{ys:List V}
  (J:Inv (uB X sc N (s.heap.objs.size+1) s H fp) [(s.heap.objs.size,lo its n)] σ' H' s') (rv:zh ys its) (hz:ys.length≤sizeLine) :
  Inv X pins σ (upd H' s.heap.objs.size (.lst ys)) s'∧H' s.heap.objs.size=none∧(upd H' s.heap.objs.size (.lst ys)) (s.heap.objs.size+1)=none:=by
 obtain⟨pD,nD,_,_,_⟩:=J.pin (s.heap.objs.size,lo its n) (by simp[uB])
 have nC:H' (s.heap.objs.size+1)=none:=J.free
 have B:Un (frs X.stack) fp H H' s.heap s'.heap:=J.base
 have ltD:∀b o,s.heap.get? b=some o→b≠s.heap.objs.size:=fun b o e=>xjn (Heap.lt_size e)
 refine⟨I.call' (ch:=fp) J.os ⟨B.keep,B.slot,fun b o e n hx=>?_,B.there,fun b xs e=>?_,fun b o u e=>?_,fun b ps e=>?_⟩ (fun b u e=>?_) J.bare (fun b hb=>?_),nD,?_⟩
 ·rw[xU (ltD b o e)];exact B.free b o e n hx
 ·have q:=B.tups b xs e
  rw[xU (xE q nD)];exact q
 ·have q:=B.frzs b o u e
  rw[xU (xE q nD)];exact q
 ·obtain⟨more,q⟩:=B.tbls b ps e
  exact⟨more,by rw[xU (xE q nD)];exact q⟩
 ·by_cases hb:b=s.heap.objs.size
  ·subst hb
   rw[yk] at e
   cases e
   exact⟨hz,its,n,rv,pD⟩
  ·rw[xU hb] at e
   exact(J.hok b u e).stay (fun c v _ q=>q) (fun c q=>by rw[xU (xE q nD)];exact q) (fun c xs q=>by rw[xU (xE q nD)];exact q) fun c o u q=>by rw[xU (xE q nD)];exact q
 ·obtain⟨_,f1,_,f3,f4,f5⟩:=hf b hb
  exact⟨f3,f1,f4,f5⟩
 ·rw[xU (xjm (xjk _))];exact nC
theorem pN {elt tg iter:Expr}{ifs:List Expr}{g:TG}{tc:TT}{te:TE}{pos:Pos}(k:w4 X sc N tau)(hc:X.calm=true)(I:Inv X pins σ H s){it:Addr}{fp:List Addr}{tn:Nat→Heap→Prop}{J:It}
  (T:Turn X.prog X.w X.K tg J fp it tn) (st0:tn 0 s.heap) (hf:∀b∈fp,dD X pins H b) (hga:GA tau g)
  (hg:∀C s H ex,PG (uB X sc N C s H ex) tg g) (ht:∀C s H ex,PIf (uB X sc N C s H ex) ifs tc) (he:∀C s H ex,PE (uB X sc N C s H ex) elt te)
  {W:Nat→Nat→List V→Hp→Prop} {Z:List V→Hp→Prop} (w0:∃m,W 0 m [] H) (turn:∀i m ys H,W i m ys H →
   (J.stop i H∧Z ys H) ∨
   (J.go i H∧ys.length<sizeLine∧∀x H',J.yld i H x H'→g x (q8 tau σ) H' fun σ2 H2=>tc σ2 H2 fun b H3=>if b=true then te σ2 H3 fun y H4=>∃m',m' < m∧W (i+1) m' (ys++[y]) H4 else ∃m',m' < m∧W (i+1) m' ys H3))
  {E:Value→Shared→Prop} {RR:Value→Addr→Result→Shared→Prop}
  (fin:∀ σ' H' s' ys its n,Inv (uB X sc N (s.heap.objs.size+1) s H fp) [(s.heap.objs.size,lo its n)] σ' H' s'→zh ys its→ys.length≤sizeLine→Z ys H'→RR (.ref s.heap.objs.size) (s.heap.objs.size+1) (.ok .next) s') :
  wpAny (model X.prog X.w) X.A (newList []) (fun acc s₃=>wpAny (model X.prog X.w) X.A (newFunctionEnv sc X.env.globals (jr X.env sc.names []) [] X.env.qual none .none (some X.env)) (fun cenv s₄ =>
   codeAny (model X.prog X.w) X.A (.compStart (.ListComp elt [⟨tg,iter,ifs,0⟩] sc pos) 0 (.ref it) acc { cenv with scope:=relabel sc X.env }) (RR acc cenv.locals) s₄) E s₃) E s:=by
 have hob:∀b∈fp,∃o,s.heap.get? b=some o:=fun b hb=>let ⟨o,e,_⟩:=T.obj _ _ st0 b hb;⟨o,e⟩
 refine wpAny_newObj_type ?_
 simp only[newFunctionEnv,Option.isSome_some,if_true]
 refine wpAny_bind (wpAny_alloc ?_)
 refine wpAny_bind (wpAny_layCells _ (fun name kind cells=>by cases hkc:kind == NameKind.cell<;>simp[hkc]) _ _ _ _ ?_)
 rw[List.forIn_nil]
 refine wpAny_bind (wpAny_pure (wpAny_pure ?_))
 have e1:(s.heap.push { cls:=.type "list", dict:=none,data:=.seq ([]:List Value).toArray }).objs.size=s.heap.objs.size+1:=Heap.size_push ..
 have e2:((s.heap.push { cls:=.type "list", dict:=none,data:=.seq ([]:List Value).toArray }).push { cls:=.type "dict", data:=.dict #[] }).objs.size=s.heap.objs.size+1+1:=by rw[Heap.size_push,e1]
 dsimp only
 rw[e1,e2]
 generalize hh:(s.heap.push { cls:=.type "list", dict:=none,data:=.seq ([]:List Value).toArray })=hA at e1 e2 ⊢
 have oldA:∀b o,s.heap.get? b=some o→hA.get? b=some o:=fun b o e=>hh▸Heap.get?_push_of_some _ e
 have ck:=cellsFrom_ok sc.names (hA.push { cls:=.type "dict", data:=.dict #[] }) (s.heap.objs.size+1+1) [] ⟨fun _ _ hm=>(nomatch hm),List.Pairwise.nil⟩ (by rw[e2];exact xjd _)
 rw[e2] at ck
 have old:∀b o,s.heap.get? b=some o→(pushCells (hA.push { cls:=.type "dict", data:=.dict #[] }) sc.names).get? b=some o:=fun b o e=>pushCells_keeps _ _ b o (Heap.get?_push_of_some _ (oldA b o e))
 have hns:(pushCells (hA.push { cls:=.type "dict", data:=.dict #[] }) sc.names).Ns (s.heap.objs.size+1) (fun _=>none):=by
  have:=(Heap.Ns.new hA (.type "dict")).keeps (pushCells_keeps sc.names _)
  rw[e1] at this;exact this
 have hacc:(pushCells (hA.push { cls:=.type "dict", data:=.dict #[] }) sc.names).get? s.heap.objs.size=some (lo [] 0):=pushCells_keeps _ _ _ _ (Heap.get?_push_of_some _ (hh▸Heap.get?_push_size _ rfl))
 have I1:=xa_ (t':=s.toks) k I hf hob old hns hacc ck
 have ltD:∀b∈fp,b≠s.heap.objs.size:=fun b hb=>by
  obtain⟨o,e⟩:=hob b hb
  exact xjn (Heap.lt_size e)
 have cx:=xaw (N:=N) k I hf hob ck.apart
 refine xbo (Y:=uB X sc N (s.heap.objs.size+1) s H fp) (D:=s.heap.objs.size) (pl:=[]) (tau:=tau) hc rfl (hg _ _ _ _) (ht _ _ _ _) (he _ _ _ _) hga T I1 (fun i v e=>let ⟨j,a,_⟩:=vB e;⟨j,a⟩) .nil (xjo _) (.inr (xjd _)) (fun p hp=>by simp[uB] at hp) (T.keep _ _ _ st0 fun b _ o e=>old b o e) (fun b hb=>?_) w0 turn fun H' s' ys' its' n' J' rv' hz' z=>fin _ _ _ _ _ _ J' rv' hz' z
 refine⟨(hf b hb).1,(cx.exf b hb).1,cx.exfs b hb,.inl hb,(cx.exf b hb).2,fun p hp=>?_⟩
 have e:p=(s.heap.objs.size,lo [] 0):=by simpa [uB] using hp
 subst e
 exact Ne.symm (ltD b hb)
theorem fK {elt tg iter:Expr}{ifs:List Expr}{wi:TI}{g:TG}{tc:TT}{te:TE}{pos spos py:Pos}{i:Nat}{x:Str}(hN:X.N.Nodup)(hi':X.N[i]? = some x)(hx:Loc X.env.scope x)(k:w4 X sc N tau)(hc:X.calm=true)(hga:GA tau g)(hi:PI X tg iter wi)
  (hg:∀C s H ex,PG (uB X sc N C s H ex) tg g) (ht:∀C s H ex,PIf (uB X sc N C s H ex) ifs tc) (he:∀C s H ex,PE (uB X sc N C s H ex) elt te)
  (hsw:swapsWith (.ListComp elt [⟨tg,iter,ifs,0⟩] sc pos) (some (.Name x py)) spos.line X.env=pure true:=by rfl)
  (hs:∀x,foldedSetIterable iter X.env x=pure x:=by intro _;rfl) (hf:X.fn x=true∨X.env.scope.names.lookup x=some .local:=by first | exact .inl rfl | exact .inr rfl | assumption) :
  PS X (.Assign [.Name x py] (.ListComp elt [⟨tg,iter,ifs,0⟩] sc pos) spos) (xa0 (xbi wi tau g tc te) (jt i)):=by
 intro pins s σ H D I h
 rw[exec_Assign_Name_used _ _ _ _ hsw]
 refine wpAny_bind (wpAny_standAt (wpAny_bind ?_))
 show wpAny _ X.A (do let _ ←comprehension (.ListComp elt [⟨tg,iter,ifs,0⟩] sc pos) sc X.env _ (newList []) false (eval iter X.env) (some (assign (.Name x py) X.env))) _ _ s
 refine wpAny_bind (wpAny_mono (wpAny_comprehension_free (use:=some (assign (.Name x py) X.env)) (Q:=fun _ s'=>SP X pins D .next s') rfl hs (aA (k.cells I.ok)) k.kind k.loc ?_) (fun _ s' q=>wpAny_pure (wpAny_pure q)) fun _ _ e=>e)
 refine thn (@hi pins s σ H _ I h) fun v s1 h1=>thn h1 fun itv s2 h2=>?_
 obtain⟨it,fp,tn,J,H2,e,I2,T,st2,f2,W,w0,turn⟩:=h2
 subst e
 refine pN (RR:=fun acc C=>compPost (model X.prog X.w) X.A X.xe (some (assign (.Name x py) X.env)) (fun _ s'=>SP X pins D .next s') acc C) (W:=W) (Z:=fun ys H'=>∀p,H' p=none→D.nx (σ.set i (some (.ref p))) (upd H' p (.lst ys))) k hc I2 T st2 f2 hga hg ht he w0 turn ?_
 intro σ' H' s' ys its n J' rv hz z
 obtain⟨I',hD,hC⟩:=xa9 k I2 f2 J' rv hz
 obtain⟨m,hn,_⟩:=J'.loc
 have hn:s'.heap.Ns (s2.heap.objs.size+1) m:=hn
 refine wpAny_assign_Name (jq (v:=.ref s2.heap.objs.size) I' hN hi' hx rfl (fun s'' I'' ⟨a,sb,ha⟩=>?_) hf)
 refine⟨m,hn.sameBut sb ?_,fun h' hs'=>⟨_,_,kZ I2 I'' hC hs',z _ hD⟩⟩
 rcases ha with ha | ha
 ·rw[ha];exact xjm (xjj I2.lt)
 ·obtain⟨v,o,ho,_⟩:=I2.cell x a ha
  exact xjm (xjj (Heap.lt_size ho))
end
end L2
namespace L2
open PySem PySem.Spec PyProof.Rows
section
variable {K:PySem.W.Frag} {fr:Bool} {H:Hp}
end
end L2
namespace L2
open PySem Trn
def wp (p:D2):P2:=((p.1,1),(p.2,1))
def wpT (p:D2):Tr:=pT (wp p)
end L2
namespace L2
open PySem PySem.Spec PyProof.Rows
theorem xfI {l:List Int}{j:Nat}(h:j<l.length):l.getD j 0∈l:=by
 rw[xig,xii h]
 exact xip _
section
variable {X:Cx}
def xdD (K:PySem.W.Frag)(xs:List V)(H:Hp)(Q:VK):Prop:=∃(p:Addr) (ns:List Int),xs=[.ref p]∧SqL K H p (ns.map V.int)∧ns≠[]∧∀M,M∈ns→(∀a∈ns,M≤a)→Q (.int M) H
theorem lT (hc:X.calm=true):qY X (.builtin "min") (xdD X.K):=by
 intro pins s σ H xs us Q I r h
 obtain⟨p,ns,rfl,hl,hne,q⟩:=h
 obtain⟨u,rfl,ru⟩:=vals1 r
 cases ru
 obtain⟨its,rv,pl,hz⟩:=I.list hl
 obtain⟨m,F⟩:=I.fr
 have hi:=intsAre_of rv
 obtain⟨xs',e⟩:=hi.allInts.items
 have hns:ns=xs'.toList.map (·.1):=by rw[←hi.numsOf,←nums_intItems,←e]
 have hsz:0<xs'.size:=by
  have h3:0<ns.length:=List.length_pos_iff.mpr hne
  rw[hns,xit,xhp] at h3;exact h3
 have hl':=pl.isList
 rw[e] at hl'
 refine min_intList (I.ok.hd hc) hl' hsz fun v h' tk hv hk=>?_
 obtain⟨t,rfl⟩:=intItems_at hv
 obtain⟨h1,h2⟩:=argBest_lt (numAt xs') (xs'.size-1)
 refine⟨.int _,H,I.kept hk,⟨t,rfl⟩,q _ ?_ fun a ha=>?_⟩
 ·rw[hns,numAt_eq];exact xfI (by rw[xit,xhp];omega)
 ·rw[hns] at ha
  obtain⟨j,hj,rfl⟩:=mem_getD ha
  rw[xit,xhp] at hj
  rw[←numAt_eq];exact h2 j (by omega)
theorem oB (K:PySem.W.Frag)(hc:X.calm=true)(e:X.K=K:=by rfl):qY X (.builtin "min") (xdD K):=e▸lT hc
end
section
variable {K:PySem.W.Frag}
def xfM (xs:List Tr)(KK:Tr→Prop):Prop:=∃ns:List Int,xs=[.lst (ns.map Tr.int)]∧ns≠[]∧∀M,M∈ns→(∀a∈ns,M≤a)→KK (.int M)
theorem xdt:CbS (xdD K) xfM:=by
 intro F H vs ts KK Q r hf q
 obtain⟨ns,rfl,h0,h1⟩:=hf
 obtain⟨v,rfl,a,ws,e,n,ha,rl⟩:=jB r
 rw[ql rl] at ha
 exact⟨a,ns,by rw[e],SqL.of ha,h0,fun M h2 h3=>q _ _ rfl (h1 M h2 h3)⟩
end
end L2
namespace L2
open PySem Trn
theorem wL (k:Pol.R3→Int)(r:Pol.R3)(rows:List Pol.R3)(n:Int)(ns:List Int):lin k (r::rows) (n::ns)=n*k r+lin k rows ns:=by
 simp only[lin,xja,xiD,xi6]
theorem jk:∀ {ws:List F2},(∀w∈ws,Wt w)→∃(T:Int) (ns:List Int),0<T∧ws=ns.map (fun m=>lfr m T)∧(∀n∈ns,0≤n∧n≤2 ^ 40*T)
 | [],_=>⟨1,[],by decide,rfl,fun _ h=>by simp at h⟩
 | w::ws,h=>by
  obtain⟨T,ns,hT,e,b⟩:=jk (ws:=ws) fun x hx=>h x (xiK _ hx)
  have W:=h w xiL
  have wp:=W.pos
  have hT2:0<T*w.2:=Pol.pp hT wp
  have le:∀x:Int,0≤x→x≤x*w.2:=fun x hx=>by
   have:=xhP (show(1:Int)≤w.2 by omega) hx
   rw[xhW] at this;exact this
  refine⟨T*w.2,(w.1*T)::ns.map (· * w.2),hT2,?_,fun n hn=>?_⟩
  ·have e1:lfr (w.1*T) (T*w.2)=w:=Sd.low ⟨wp,hT2,by grind⟩ ⟨wp,W.cop⟩
   rw[xiD,e1,xiE]
   congr 1
   rw[e]
   refine xiC fun m _=>?_
   have S:=cP (m:=m) hT
   have se:=S.e
   exact(Sd.low (N:=m*w.2) (D:=T*w.2) ⟨S.pf,hT2,by grind⟩ (aD hT)).symm
  ·rcases xiJ.mp hn with rfl | hn
   ·have wn:=W.nn
    have wt:w.1<2 ^ 40:=by have:=W.sm.top;unfold Bk at this;omega
    refine⟨xhV wn (by omega),?_⟩
    have a1:w.1*T≤2 ^ 40*T:=xhQ (by omega) (by omega)
    have a2:=le T (by omega)
    have a3:(2:Int) ^ 40*T≤2 ^ 40*(T*w.2):=xhP a2 (by decide)
    omega
   ·obtain⟨m,hm,rfl⟩:=xiP.mp hn
    obtain⟨b1,b2⟩:=b m hm
    refine⟨xhV b1 (by omega),?_⟩
    have:=xhQ b2 (show 0≤w.2 by omega)
    rw[Int.mul_assoc] at this
    exact this
theorem cV {u:Pol.R3}:∀(rows:List Pol.R3) (ns:List Int),(∀r∈rows,Pol.val r u≤0)→(∀n∈ns,0≤n)→lin k0 rows ns*u.1+lin k1 rows ns*u.2.1≤lin k2 rows ns*u.2.2
 | [],_,_,_=>by simp[lin]
 | _::_,[],_,_=>by simp[lin]
 | r::rows,n::ns,h,hn=>by
  have ih:=cV rows ns (fun x hx=>h x (xiK _ hx)) (fun x hx=>hn x (xiK _ hx))
  have hv:=h r xiL
  have h0:=hn n xiL
  have p:0≤n * -Pol.val r u:=xhV h0 (by omega)
  rw[wL,wL,wL]
  simp only[Pol.val,k0,k1,k2] at *
  grind
theorem k_ (k:Pol.R3→Int)(T:Int):∀(rows:List Pol.R3) (ns:List Int),lin k rows ns=lin k rows (ns.map (· % T))+T*lin k rows (ns.map (· / T))
 | [],_=>by simp[lin]
 | _::_,[]=>by simp[lin]
 | r::rows,n::ns=>by
  have ih:=k_ k T rows ns
  have e:=Int.emod_def n T
  rw[xiD,xiD,wL,wL,wL,ih]
  generalize n % T=x at *
  generalize n / T=y at *
  grind
theorem fU {k:Pol.R3→Int}{c:Int}(hc:0≤c):∀(rows:List Pol.R3) (ns:List Int),(∀r∈rows,(k r).natAbs<2 ^ 10)→(∀n∈ns,0≤n∧n≤c)→-(rows.length*(1024*c))≤lin k rows ns∧lin k rows ns≤rows.length*(1024*c)
 | [],_,_,_=>by simp[lin]
 | r::rows,[],_,_=>by
  have:0≤((r::rows).length:Int)*(1024*c):=xhV (by omega) (by omega)
  simp only[lin,List.zip_nil_right,xiF,List.sum_nil]
  omega
 | r::rows,n::ns,h,hn=>by
  have ih:=fU hc rows ns (fun x hx=>h x (xiK _ hx)) (fun x hx=>hn x (xiK _ hx))
  have hk:=h r xiL
  have hk:-1024≤k r∧k r≤1024:=by omega
  obtain⟨n0,n1⟩:=hn n xiL
  have a1:n*k r≤n*1024:=xhP hk.2 n0
  have a2:n*(-1024)≤n*k r:=xhP hk.1 n0
  rw[wL,xir,show((rows.length+1:Nat):Int)*(1024*c)=rows.length*(1024*c)+1024*c by rw[Int.natCast_add,Int.add_mul];omega]
  omega
theorem p6 {N D M E:Int}(hD:0<D)(hE:0<E)(h:N*E≤M*D):N / D≤M / E:=by
 rw[Int.le_ediv_iff_mul_le hE]
 have a:=Int.ediv_mul_le N (show D≠0 by omega)
 have b:N / D*D*E≤N*E:=xhQ a (by omega)
 have c:N / D*E*D≤M*D:=by
  have:N / D*D*E=N / D*E*D:=by grind
  omega
 exact xhG c hD
section
variable {rows:List Pol.R3} {ws:List F2}
theorem lK (H:WS rows ws)(hc:v5 (wsum k0 (rows.zip ws)) (wsum k1 (rows.zip ws))){u:Pol.R3}(hk:∀r∈rows,Pol.val r u≤0):((wsum k0 (rows.zip ws)).1*u.1+(wsum k1 (rows.zip ws)).1*u.2.1)*(wsum k2 (rows.zip ws)).2≤(wsum k2 (rows.zip ws)).1*u.2.2:=by
 obtain⟨T,ns,hT,rfl,b⟩:=jk H.wt
 have s0:=(wZ k0 hT rows ns).e
 have s1:=(wZ k1 hT rows ns).e
 have S2:=wZ k2 hT rows ns
 have s2:=S2.e
 have p2:=S2.pf
 have L:=cV rows ns hk fun n hn=>(b n hn).1
 rw[hc.1,xhW] at s0
 rw[hc.2.1,xhW] at s1
 generalize (wsum k0 (rows.zip (ns.map fun m=>lfr m T))).1=A at *
 generalize (wsum k1 (rows.zip (ns.map fun m=>lfr m T))).1=B at *
 generalize (wsum k2 (rows.zip (ns.map fun m=>lfr m T))).1=C at *
 generalize (wsum k2 (rows.zip (ns.map fun m=>lfr m T))).2=D at *
 rw[←s0,←s1] at L
 have L2:=xhQ L (show 0≤D by omega)
 refine xhG (a:=T) ?_ hT
 have e1:(A*u.1+B*u.2.1)*D*T=(A*T*u.1+B*T*u.2.1)*D:=by grind
 have e2:C*u.2.2*T=lin k2 rows ns*u.2.2*D:=by
  have:C*u.2.2*T=C*T*u.2.2:=by grind
  rw[this,s2];grind
 rw[e1,e2]
 exact L2
theorem xak (H:WS rows ws)(hc:v5 (wsum k0 (rows.zip ws)) (wsum k1 (rows.zip ws))){u:Pol.R3}(hu:0<u.2.2)(hk:∀r∈rows,Pol.val r u≤0):((wsum k0 (rows.zip ws)).1*u.1+(wsum k1 (rows.zip ws)).1*u.2.1) / u.2.2≤(wsum k2 (rows.zip ws)).1.fdiv (wsum k2 (rows.zip ws)).2:=by
 have p:=H.bot.1
 rw[xhz _ (by omega)]
 exact p6 hu p (lK H hc hk)
theorem lg (H:WS rows ws)(hc:v5 (wsum k0 (rows.zip ws)) (wsum k1 (rows.zip ws))):Bk 100 (wsum k0 (rows.zip ws)).1∧Bk 100 (wsum k1 (rows.zip ws)).1:=by
 obtain⟨T,ns,hT,rfl,b⟩:=jk H.wt
 have s0:=(wZ k0 hT rows ns).e
 have s1:=(wZ k1 hT rows ns).e
 rw[hc.1,xhW] at s0
 rw[hc.2.1,xhW] at s1
 have c0:0≤(2:Int) ^ 40*T:=xhV (by decide) (by omega)
 have l8:=H.l100
 have fin:∀ {A L:Int},A*T=L→-((rows.length:Int)*(1024*(2 ^ 40*T)))≤L∧L≤(rows.length:Int)*(1024*(2 ^ 40*T))→Bk 100 A:=fun {A L} e h=>by
  have le:(rows.length:Int)*(1024*(2 ^ 40*T))≤(2 ^ 60)*T:=by
   have:=xhQ (show(rows.length:Int)≤8 by omega) (show 0≤1024*(2 ^ 40*T) by omega)
   omega
  have a1:A≤2 ^ 60:=xhG (a:=T) (by omega) hT
  have a2:-(2 ^ 60)≤A:=xhG (a:=T) (by omega) hT
  unfold Bk
  have:A.natAbs≤2 ^ 60:=by omega
  exact xjh this (by decide)
 exact⟨fin s0 (fU c0 rows ns (fun r hr=>(H.sm r hr).1.1) b),fin s1 (fU c0 rows ns (fun r hr=>(H.sm r hr).1.2) b)⟩
def flo (ws:List F2):List Int:=ws.map fun w=>w.1.fdiv w.2
def u_ (ws:List F2):List F2:=ws.map fun w=>(w.1.fmod w.2,w.2)
theorem Wt.rest {w:F2}(h:Wt w):Wt (w.1.fmod w.2,w.2):=by
 have p:=h.pos
 rw[xhA _ (by omega)]
 have n0:=xhx w.1 (show w.2≠0 by omega)
 have n1:=xhw w.1 p
 have sb:=h.sm.bot
 refine⟨p,?_,n0,⟨?_,sb,p⟩⟩
 ·show Int.gcd (w.1 % w.2) w.2=1
  rw[Int.emod_def,xhL,Int.gcd_sub_mul_right_left]
  exact h.cop
 ·unfold Bk at *
  show(w.1 % w.2).natAbs<_
  omega
theorem oQ (H:WS rows ws):WS rows (u_ ws):=⟨by unfold u_;rw[xit];exact H.len,H.l100,H.sm,fun w hw=>by
 obtain⟨x,hx,rfl⟩:=xiP.mp hw
 exact(H.wt x hx).rest⟩
theorem xbS (H:WS rows ws)(hc:v5 (wsum k0 (rows.zip ws)) (wsum k1 (rows.zip ws))) :
  wsum k0 (rows.zip (u_ ws))=((wsum k0 (rows.zip ws)).1-lin k0 rows (flo ws),1)∧wsum k1 (rows.zip (u_ ws))=((wsum k1 (rows.zip ws)).1-lin k1 rows (flo ws),1) ∧
  (wsum k2 (rows.zip (u_ ws))).1.fdiv (wsum k2 (rows.zip (u_ ws))).2=(wsum k2 (rows.zip ws)).1.fdiv (wsum k2 (rows.zip ws)).2-lin k2 rows (flo ws):=by
 have WR:=oQ H
 have rb:=WR.bot.1
 have hb:=H.bot.1
 have cz:∀x∈rows.zip (u_ ws),0<x.2.2:=fun x hx=>(WR.zip hx).2.pos
 have C0:=jo k0 _ cz
 have C1:=jo k1 _ cz
 obtain⟨T,ns,hT,e,b⟩:=jk H.wt
 have Wn:∀n∈ns,Wt (lfr n T):=fun n hn=>H.wt _ (by rw[e];exact xiQ (f:=fun m=>lfr m T) hn)
 have ef:flo ws=ns.map (· / T):=by
  unfold flo
  rw[e,xiE]
  refine xiC fun n hn=>?_
  have S:=cP (m:=n) hT
  have:=S.pf
  show(lfr n T).1.fdiv (lfr n T).2=n / T
  rw[xhz _ (by omega),S.floor]
 have er:u_ ws=(ns.map (· % T)).map fun m=>lfr m T:=by
  unfold u_
  rw[e,xiE,xiE]
  refine xiC fun n hn=>?_
  have S:=cP (m:=n) hT
  have p:=S.pf
  have se:=S.e
  have fl:=S.floor
  have W:=(Wn n hn).rest
  show((lfr n T).1.fmod (lfr n T).2,(lfr n T).2)=lfr (n % T) T
  refine(Sd.low (f:=((lfr n T).1.fmod (lfr n T).2,(lfr n T).2)) ⟨p,hT,?_⟩ ⟨p,W.cop⟩).symm
  show(lfr n T).1.fmod (lfr n T).2*T=n % T*(lfr n T).2
  rw[xhA _ (by omega),Int.emod_def,Int.emod_def,fl]
  generalize (lfr n T).1=x at *
  generalize (lfr n T).2=y at *
  generalize n / T=z at *
  grind
 have S0:=wZ k0 hT rows ns
 have S1:=wZ k1 hT rows ns
 have S2:=wZ k2 hT rows ns
 rw[←e] at S0 S1 S2
 have R0:=wZ k0 hT rows (ns.map (· % T))
 have R1:=wZ k1 hT rows (ns.map (· % T))
 have R2:=wZ k2 hT rows (ns.map (· % T))
 rw[←er] at R0 R1 R2
 have l0:=k_ k0 T rows ns
 have l1:=k_ k1 T rows ns
 have l2:=k_ k2 T rows ns
 rw[←ef] at l0 l1 l2
 have s0:=S0.e
 have s1:=S1.e
 rw[hc.1,xhW] at s0
 rw[hc.2.1,xhW] at s1
 refine⟨?_,?_,?_⟩
 ·rw[←R0.low C0]
  refine Sd.low ⟨by show(0:Int)<1;decide,hT,?_⟩ (aJ _)
  show((wsum k0 (rows.zip ws)).1-lin k0 rows (flo ws))*T=_*1
  grind
 ·rw[←R1.low C1]
  refine Sd.low ⟨by show(0:Int)<1;decide,hT,?_⟩ (aJ _)
  show((wsum k1 (rows.zip ws)).1-lin k1 rows (flo ws))*T=_*1
  grind
 ·rw[xhz _ (by omega),xhz _ (by omega),S2.floor,R2.floor,l2,Int.add_mul_ediv_left _ _ (by omega)]
  omega
def xdE (f:Pol.R3)(x:Int×Pol.R3):Pol.R3:=(f.1+x.1*x.2.1,f.2.1+x.1*x.2.2.1,f.2.2+x.1*x.2.2.2)
theorem cp:∀(rows:List Pol.R3) (qs:List Int) (f:Pol.R3),(qs.zip rows).foldl xdE f=(f.1+lin k0 rows qs,f.2.1+lin k1 rows qs,f.2.2+lin k2 rows qs)
 | [],[],f=>by simp[lin]
 | [],_::_,f=>by simp[lin]
 | _::_,[],f=>by simp[lin]
 | r::rows,q::qs,f=>by
  rw[xja,xif,cp rows qs,wL,wL,wL]
  unfold xdE k0 k1 k2
  simp only[Prod.mk.injEq]
  omega
end
def pQ (l:List (Pol.R3×F2)):Pol.R3:=((wsum k0 l).1,(wsum k1 l).1,(wsum k2 l).1.fdiv (wsum k2 l).2)
def tG:TSp:=fun ts KK=>∃(rows:List Pol.R3) (ws:List F2),ts=[.tup (rows.map trR),.tup [wsT ws,uD (rows.zip ws)]]∧xn rows=true∧WS rows ws∧v5 (wsum k0 (rows.zip ws)) (wsum k1 (rows.zip ws))∧KK (.bl true)
def xaJ:TSp:=fun ts KK=>∃(rows:List Pol.R3) (ws:List F2),ts=[.tup (rows.map trR),wsT ws,uD (rows.zip ws)]∧WS rows ws∧v5 (wsum k0 (rows.zip ws)) (wsum k1 (rows.zip ws))∧KK (.bl true)
def pW (rows:List Pol.R3)(p:D2):Prop:=∀r∈rows,r.1*p.1+r.2.1*p.2≤r.2.2
def xgs:TSp:=fun ts KK=>∃rows:List Pol.R3,ts=[.tup (rows.map trR),.lst ((zR rows).map sk)]∧LF rows∧∀ps:List D2,(∀p∈ps,Bx 1000 p∧pW rows p)→ps.length≤2000→KK (.lst (ps.map wpT))
def l3T (r:Pol.R3):Tr:=.lst [.int r.1,.int r.2.1,.int r.2.2]
theorem pZ {l:List (Pol.R3×F2)}(h:v5 (wsum k0 l) (wsum k1 l)):fh (uD l)=true:=by
 show decide _=true
 refine xjs ?_
 have:=h.2.2
 simp only
 omega
theorem LF.floors {rows:List Pol.R3}(h:LF rows){v:Pol.R3}(hv:v∈zR rows):(-12≤(plc v).1.1.fdiv (plc v).1.2∧(plc v).1.1.fdiv (plc v).1.2≤12)∧(-12≤(plc v).2.1.fdiv (plc v).2.2∧(plc v).2.1.fdiv (plc v).2.2≤12):=by
 obtain⟨⟨vz,_,C⟩,_⟩:=h.fine.corner hv
 have nr:=h.near v vz C.kept
 have go:∀ {t:Int},-(12*v.2.2)≤t∧t≤12*v.2.2→-12≤(Fra.low t v.2.2).1.fdiv (Fra.low t v.2.2).2∧(Fra.low t v.2.2).1.fdiv (Fra.low t v.2.2).2≤12:=fun {t} hn=>by
  have S:=sj (t:=t) vz
  have:=S.pf
  rw[xhz _ (by omega),S.floor]
  constructor
  ·rw[Int.le_ediv_iff_mul_le vz];omega
  ·have a:=Int.ediv_mul_le t (show v.2.2≠0 by omega)
   exact xhG (a:=v.2.2) (by omega) vz
 exact⟨go nr.1,go nr.2⟩
end L2
namespace L2
open PySem
theorem xo {X:Cx}(K:PySem.W.Frag)(i:Nat){x:Str}{n:Int}{j p q r}(e:X.K=K:=by rfl)(hN:X.N[i]? = some x:=by rfl)(hv:Vis X.env.scope x:=by first | exact Or.inl rfl | exact Or.inr (Or.inl rfl) | exact Or.inr (Or.inr rfl))(hd:(x == ("__debug__" : Str))=false:=by decide)
  (hcd:(x == ("__classdict__" : Str))=false:=by decide):PE X (.Subscript (.Name x p) (.Constant (.int n) j q) r) (tOp (rIx K) (tF i) (tC (.int n))):=yT (yg K e) (pv i hN hv hd hcd) xf (fun _ _=>rfl)
theorem xq {K:PySem.W.Frag}{i:Nat}{n:Int}:OkE K true (tOp (rIx K) (tF i) (tC (.int n))) (d2 fIx (xdZ i) (dC (Tr.int n))):=zE xa (xa2 (t:=Tr.int _))
theorem yX {X:Cx}{e te}(a:PE X e te)(h:starEach [e] X.env=(false,eval e X.env)::starEach [] X.env:=by rfl):PA X [e] (q9 te lS):=xZ a vp h
theorem xW {X:Cx}{e te f tf}(a:PE X e te)(b:PE X f tf)(h:starEach [f] X.env=(false,eval f X.env)::starEach [] X.env:=by rfl)(g:starEach [e,f] X.env=(false,eval e X.env)::starEach [f] X.env:=by rfl):PA X [e,f] (q9 te (q9 tf lS)):=xZ a (xZ b vp h) g
theorem xS {K:PySem.W.Frag}{b:Bool}{te:TE}{de:DE}(h:OkE K b te de):OkA K b 1 (q9 te lS) (pE de xeA):=xV h va
theorem xw {K:PySem.W.Frag}{b:Bool}{te tf:TE}{de df:DE}(h:OkE K b te de)(g:OkE K b tf df):OkA K b 2 (q9 te (q9 tf lS)) (pE de (pE df xeA)):=xV h (xV g va)
theorem xt {K:PySem.W.Frag}{i:Int}:OkE K true (tC (.int i)) (dC (.int i)):=xa2
theorem ve {K:PySem.W.Frag}{i:Bool}:OkE K true (tC (.bl i)) (dC (.bl i)):=xa2
theorem ym {N P:List Str}{sc:Scope}(h:sc.kind=.function∧sc.isCoroutine=false∧sc.isGenerator=false∧N.Nodup∧N.take P.length=P∧(∀x∈P,sc.names.lookup x=some .local∨sc.names.lookup x=some .cell)∧∀y∈sc.names,y.2≠.free:=by decide +kernel):xC N P sc:=⟨h.1,h.2.1,h.2.2.1,h.2.2.2.1,h.2.2.2.2.1,h.2.2.2.2.2.1,h.2.2.2.2.2.2⟩
theorem yB {X:Cx}(i:Nat){x:Str}{pos:Pos}(hN:X.N.Nodup)(hi:X.N[i]? = some x:=by rfl)(hx:X.env.scope.names.lookup x=some .local:=by rfl):PG X (.Name x pos) (jt i):=xY hN hi (.inl hx) (.inr hx)
theorem yC {X:Cx}(i:Nat){x:Str}{e:Expr}{te:TE}{pos pos':Pos}(hN:X.N.Nodup)(he:PE X e te)(hi:X.N[i]? = some x:=by rfl)(hx:X.env.scope.names.lookup x=some .local:=by rfl)(hs:swapsWith e (some (.Name x pos')) pos.line X.env=pure false:=by rfl):PS X (.Assign [.Name x pos'] e pos) (xa0 te (jt i)):=j8 hN hi (.inl hx) he hs (.inr hx)
end L2
namespace K12
open PySem L2 Trn
def top (i:Nat):Stmt:=PySem.Challenge.pw_roundcuts_k12_whole_cuts_keep_whole_plac.main.body.getD i (.Pass ⟨0,0,0,0⟩)
abbrev jY:Stmt:=top 8
abbrev vG:Stmt:=top 9
abbrev vL:Stmt:=top 10
abbrev wa:Stmt:=top 11
abbrev sS:Stmt:=top 12
abbrev lx:Stmt:=top 13
abbrev bj:Stmt:=top 14
abbrev f_:Stmt:=top 15
abbrev u4:Stmt:=top 18
abbrev qE:Stmt:=top 19
abbrev jQ:Stmt:=top 20
abbrev vx:Stmt:=top 21
abbrev kM:Stmt:=top 22
abbrev rh:Stmt:=top 23
abbrev zZ:Stmt:=top 24
abbrev qa:Stmt:=top 25
abbrev jI:Stmt:=top 26
abbrev aw:Stmt:=top 28
abbrev nu:Stmt:=top 29
abbrev jA:Stmt:=top 30
abbrev fC:Stmt:=top 31
abbrev jC:Stmt:=top 32
abbrev jF:Stmt:=top 33
abbrev vq:Stmt:=top 34
abbrev vg:Stmt:=top 36
abbrev uS:Stmt:=top 37
abbrev jd:Stmt:=top 38
abbrev v8:Stmt:=top 39
abbrev fW:Stmt:=top 41
abbrev wg:Stmt:=top 42
abbrev jN:Stmt:=top 43
abbrev nE:Stmt:=top 45
abbrev kF:Stmt:=top 46
abbrev uQ:Stmt:=top 47
abbrev jJ:Stmt:=top 49
abbrev vH:Stmt:=top 50
abbrev wk:Stmt:=top 51
abbrev vb:Stmt:=top 52
abbrev wC:Stmt:=top 53
abbrev aY:Stmt:=top 55
abbrev uj:Stmt:=top 56
abbrev gu:Stmt:=top 57
abbrev uC:Stmt:=top 58
abbrev ak:Stmt:=top 59
abbrev ao:Stmt:=top 60
abbrev jy:Stmt:=top 61
abbrev jW:Stmt:=top 62
abbrev zA:Stmt:=top 63
abbrev u5:Stmt:=top 65
abbrev qc:Stmt:=top 66
abbrev kB:Stmt:=top 67
abbrev wU:Stmt:=top 68
abbrev uZ:Stmt:=top 69
abbrev js:Stmt:=top 70
abbrev wH:Stmt:=top 71
abbrev kH:Stmt:=top 72
abbrev qp:Stmt:=top 73
abbrev vM:Stmt:=top 74
abbrev jL:Stmt:=top 75
abbrev qk:Stmt:=top 76
abbrev qh:Stmt:=top 77
abbrev yM:Stmt:=top 78
abbrev yE:Stmt:=top 79
abbrev dM:Stmt:=top 80
theorem nH:xC ["thing"] ["thing"] (xg jY):=ym
theorem mK:xC ["things"] ["things"] (xg vG):=ym
theorem uW:xC ["thing", "top", "bottom"] ["thing"] (xg vL):=ym
theorem zK:xC ["one", "other"] ["one", "other"] (xg wa):=ym
theorem tU:xC ["top", "bottom", "shared"] ["top", "bottom"] (xg sS):=ym
theorem xdz:xC ["one", "other"] ["one", "other"] (xg lx):=ym
theorem xbf:xC ["whole", "fraction"] ["whole", "fraction"] (xg bj):=ym
theorem pO:xC ["one", "other"] ["one", "other"] (xg f_):=ym
theorem fq:xC ["rows"] ["rows"] (xg u4):=ym
theorem ax:xC ["rows"] ["rows"] (xg qE):=ym
theorem kO:xC ["piece", "rows", "row"] ["piece", "rows"] (xg jQ):=ym
theorem tE:xC ["piece"] ["piece"] (xg vx):=ym
theorem zN:xC ["piece", "row", "left", "at", "corner", "before", "crossing"] ["piece", "row"] (xg kM):=ym
theorem uu:xC ["row", "corner", "a", "b", "c", "x", "y", "bottom"] ["row", "corner"] (xg rh):=ym
theorem yI:xC ["row", "one", "other", "one_off", "other_off", "x", "y", "bottom", "shared"] ["row", "one", "other"] (xg zZ):=ym
theorem zV:xC ["piece", "start", "at", "corner"] ["piece"] (xg qa):=ym
theorem mZ:xC ["one", "other"] ["one", "other"] (xg jI):=ym
theorem lE:xC ["thing"] ["thing"] (xg aw):=ym
theorem xbM:xC ["row", "place"] ["row", "place"] (xg nu):=ym
theorem kN:xC ["row", "place", "top", "bottom"] ["row", "place"] (xg jA):=ym
theorem p9:xC ["one", "other"] ["one", "other"] (xg fC):=ym
theorem vA:xC ["rows", "first", "left", "right"] ["rows"] (xg jC):=ym
theorem vC:xC ["first", "rows", "sign", "last", "row"] ["first", "rows", "sign"] (xg jF):=ym
theorem kg:xC ["first", "rows", "row"] ["first", "rows"] (xg vq):=ym
theorem mU:xC ["thing"] ["thing"] (xg vg):=ym
theorem zW:xC ["thing", "a", "b", "c"] ["thing"] (xg uS):=ym
theorem pJ:xC ["place"] ["place"] (xg jd):=ym
theorem aj:xC ["thing"] ["thing"] (xg v8):=ym
theorem oE:xC ["field"] ["field"] (xg fW):=ym
theorem h8:xC ["rows", "place"] ["rows", "place"] (xg wg):=ym
theorem uw:xC ["field", "a", "b", "best", "place", "here"] ["field", "a", "b"] (xg jN):=ym
theorem aH:xC ["one", "other", "thing", "turn", "of_one", "of_other"] ["one", "other", "thing"] (xg nE):=ym
theorem hJ:xC ["one", "other", "turn"] ["one", "other"] (xg kF):=ym
theorem gZ:xC ["thing"] ["thing"] (xg uQ):=ym
theorem bh:xC ["field", "place"] ["field", "place"] (xg jJ):=ym
theorem wK:xC ["rows", "numbers", "pairs", "number", "beside"] ["rows", "numbers"] (xg vH):=ym
theorem zb:xC ["rows", "numbers", "number", "nearest", "other"] ["rows", "numbers", "number"] (xg wk):=ym
theorem fm:xC ["row"] ["row"] (xg vb):=ym
theorem yU:xC ["field", "pair", "direction", "one", "other", "shares", "weights"] ["field", "pair", "direction"] (xg wC):=ym
theorem xaP:xC ["field", "weights"] ["field", "weights"] (xg aY):=ym
theorem dz:xC ["field", "thing"] ["field", "thing"] (xg uj):=ym
theorem gM:xC ["rows", "weights", "tops", "bottom"] ["rows", "weights"] (xg gu):=ym
theorem yD:xC ["rows", "weights", "used", "bottom", "row", "weight", "tops", "many"] ["rows", "weights"] (xg uC):=ym
theorem lh:xC ["field", "weights"] ["field", "weights"] (xg ak):=ym
theorem kU:xC ["totals", "a", "b", "c"] ["totals"] (xg ao):=ym
theorem nk:xC ["field", "thing"] ["field", "thing"] (xg jy):=ym
theorem bL:xC ["field", "weights"] ["field", "weights"] (xg jW):=ym
theorem zD:xC ["field", "a", "b", "places", "pairs", "towards", "fitting"] ["field", "a", "b"] (xg zA):=ym
theorem gH:xC ["_law_script", "_law_k"] ["_law_script", "_law_k"] (xg u5):=ym
theorem jh:xC ["_law_script", "_law_k", "_law_cell"] ["_law_script", "_law_k"] (xg qc):=ym
theorem uM:xC ["_law_state_here", "_law_many", "_law_found", "_law_stirred"] ["_law_state_here", "_law_many"] (xg kB):=ym
theorem xX:xC ["_law_state_here", "_law_way", "_law_rows", "_law_a", "_law_b", "_law_by", "_law_turn", "_law_near", "_law_k", "_law_some", "_law_u", "_law_v"] ["_law_state_here"] (xg wU):=ym
theorem v_:xC ["_law_one", "_law_other"] ["_law_one", "_law_other"] (xg uZ):=ym
theorem kI:xC ["_law_top", "_law_bottom", "_law_by"] ["_law_top", "_law_bottom"] (xg js):=ym
theorem y2:xC ["_law_state_here", "_law_rows", "_law_many", "_law_found", "_law_way", "_law_one", "_law_other", "_law_by"] ["_law_state_here", "_law_rows"] (xg wH):=ym
theorem mG:xC ["_law_one", "_law_other"] ["_law_one", "_law_other"] (xg kH):=ym
theorem aR:xC ["_law_one", "_law_other"] ["_law_one", "_law_other"] (xg qp):=ym
theorem zG:xC ["_law_rows", "_law_weights_here", "_law_found", "_law_row", "_law_weight", "_law_at"] ["_law_rows", "_law_weights_here"] (xg vM):=ym
theorem vE:xC ["_law_rows", "_law_weights_here", "_law_a", "_law_b", "_law_c"] ["_law_rows", "_law_weights_here"] (xg jL):=ym
theorem vD:xC ["_law_row", "_law_place", "_law_x", "_law_y"] ["_law_row", "_law_place"] (xg qk):=ym
theorem jc:xC ["_law_row", "_law_place", "_law_here"] ["_law_row", "_law_place"] (xg qh):=ym
theorem yG:xC ["_law_rows", "_law_places", "_law_lows", "_law_highs", "_law_found", "_law_x", "_law_y"] ["_law_rows", "_law_places"] (xg yM):=ym
theorem ya:xC ["_law_field_here", "_law_weights_here", "_law_row", "_law_many", "_law_below", "_law_a", "_law_b", "_law_c", "_law_found", "_law_times_so", "_law_other"] ["_law_field_here", "_law_weights_here", "_law_row"] (xg yE):=ym
theorem vV:xC ["_law_script", "_law_k", "_law_state_here", "_law_field_here", "_law_places", "_law_turn", "_law_weights_here", "_law_row", "_law_x", "_law_y", "_law_most", "_law_told"] ["_law_script"] (xg dM):=ym
abbrev bn:List Str:=["len", "range", "max", "min", "abs", "isinstance", "tuple", "list", "int", "bool", "str", "dict", "all", "zip", "enumerate", "ValueError"]
section
variable {P:Program} {w:World} {K:PySem.W.Frag} {mg:Str→Option Value} {base:Heap} {f:Addr} {fd:FuncData}
theorem fS (B:Blt mg bn)(F:Fun K "_law_cell_at" "_law_cell_at" u5 f fd)(m:mg "_law_cell_at" = some (.ref f))(b:Binds K fd ["_law_script", "_law_k"] []):Own P w K mg base 1 "_law_cell_at" ["_law_script", "_law_k"] (xcb K):=by
 refine mz F gH m b (fun vs H Q E h=>?_) (fun cdv A outer s H vs Q E hr h=>?_)
 ·obtain⟨a,ns,k,rfl,_⟩:=h
  rfl
 obtain⟨a,ns,k,rfl,hS,h63,h0,q⟩:=h
 refine⟨_,(xc (yJ (xQ xe7 (pv 1) (xO (yZ K) rfl (B.get "len") vh (xZ (pv 0) vp)) (xR _)) (xh (xF (yT (uL K) (pv 0) (pv 1) (fun _ _=>rfl)))) xT)
  (xh (xF xf))),?_⟩
 refine⟨_,rfl,_,rfl,a,_,rfl,.inl hS,_,_,rfl,rfl,_,rfl,?_⟩
 have hl:(ns.map V.int).length=ns.length:=xit _
 refine xgu (fun c=>?_) (fun c=>?_)
 ·have c':=xjv c
  rw[hl] at c'
  obtain⟨v,hv⟩:=xbQ h0 c'
  exact⟨_,rfl,_,rfl,a,_,_,_,rfl,rfl,hS,hv,q v⟩
 ·exact q 0
theorem rn (F:Fun K "_law_state" "_law_state" qc f fd)(m:mg "_law_state" = some (.ref f))(b:Binds K fd ["_law_script", "_law_k"] [])(uR:Own P w K mg base 1 "_law_cell_at" ["_law_script", "_law_k"] (xcb K)) :
  Own P w K mg base 2 "_law_state" ["_law_script", "_law_k"] (bK K):=by
 refine mz F jh m b (fun vs H Q E h=>?_) (fun cdv A outer s H vs Q E hr h=>?_)
 ·obtain⟨a,ns,k,rfl,_⟩:=h
  rfl
 obtain⟨a,ns,k,rfl,hS,h63,h0,q⟩:=h
 refine⟨_,(xc (j8 (i:=2) jh.nd rfl (Or.inl rfl) (xm uR hr (xZ (pv 0) (xZ (pv 1) vp))))
  (xc (yJ (xQ xde (pv 2) (xD xco xf xf) (xR _)) (xh (xF (zQ (xZ (xD w5 (pv 2) (xD xco xf xf)) (xZ uF vp))))) xT)
  (xh (xF (zQ (xZ (xD si (pv 2) xf) (xZ uF vp))))))),?_⟩
 refine⟨_,rfl,_,rfl,a,ns,k,rfl,hS,h63,h0,fun n=>?_⟩
 have pw:xgy 10 18:=⟨by decide,by decide,by decide⟩
 refine⟨_,rfl,_,_,rfl,rfl,pw,_,_,rfl,rfl,_,rfl,?_⟩
 refine xgu (fun c=>?_) (fun c=>?_)
 ·have c':n≥10 ^ (18:Int).toNat:=xjv c
  refine⟨_,rfl,_,_,rfl,rfl,pw,_,_,rfl,rfl,(by show 2≤sizeLine;decide),fun p hp=>q p _ _ hp ⟨?_,fun z=>by cases z⟩⟩
  show 0≤n-10 ^ (18:Int).toNat
  omega
 ·refine⟨_,rfl,_,_,rfl,rfl,(by show(0:Int)<2147483647;decide),(by show 2≤sizeLine;decide),fun p hp=>q p _ _ hp ⟨?_,fun _=>?_⟩⟩
  ·show 0≤n % 2147483647
   omega
  ·show n % 2147483647<2147483647
   omega
theorem rX (F:Fun K "_law_take" "_law_take" kB f fd)(m:mg "_law_take" = some (.ref f))(b:Binds K fd ["_law_state_here", "_law_many"] []):Own P w K mg base 1 "_law_take" ["_law_state_here", "_law_many"] xb_:=by
 refine mz F uM m b (fun vs H Q E h=>?_) (fun cdv A outer s H vs Q E hr h=>?_)
 ·obtain⟨p,k,rfl,_⟩:=h
  rfl
 obtain⟨p,many,rfl,⟨n,bb,hp,hn,hb⟩,h0,h1,q⟩:=h
 refine⟨_,(xc (yJ (zP (yT (uL K) (pv 0) xf (fun _ _=>rfl))) (xc (j8 (i:=2) uM.nd rfl (Or.inl rfl) (xD si (yT (uL K) (pv 0) xf (fun _ _=>rfl)) (pv 1)))
  (xc (zC (xD bU (yT (uL K) (pv 0) xf (fun _ _=>rfl)) (pv 1)) (j3 (pv 0) xf set_list))
  (xh (xF (pv 2))))) xT)
  (xc (zC (xD si (xD zd (xD mF (yT (uL K) (pv 0) xf (fun _ _=>rfl)) xf) xf) xf) (j3 (pv 0) xf set_list))
  (xc (j8 (i:=3) uM.nd rfl (Or.inl rfl) (xD si (xD zd (xD zd (xD mF (yT (uL K) (pv 0) xf (fun _ _=>rfl)) (yT (uL K) (pv 0) xf (fun _ _=>rfl))) (xD mF xf (yT (uL K) (pv 0) xf (fun _ _=>rfl)))) xf) xf))
  (xc (j8 (i:=3) uM.nd rfl (Or.inl rfl) (xD si (xD zd (xD mF (pv 3) (pv 3)) (xD mF xf (pv 3))) xf))
  (xh (xF (xD si (xD bU (pv 3) xf) (pv 1)))))))),?_⟩
 refine⟨_,rfl,p,_,_,_,rfl,rfl,SqL.of hp,rfl,bb,rfl,?_⟩
 have fin:∀(r n':Int),0≤r→r<many→xfL n' bb→Q (.int r) (upd H p (.lst [.int n',.bl bb])):=fun r n' h2 h3 h4=>q r _ h2 h3 ⟨fun b o hb k=>by rw[xU hb];exact k,n',bb,yk,h4⟩
 cases bb with
 | true =>
  refine oH ?_
  refine⟨_,rfl,p,_,_,_,rfl,rfl,SqL.of hp,rfl,_,rfl,_,_,rfl,rfl,h0,?_⟩
  refine⟨_,rfl,p,_,_,_,rfl,rfl,SqL.of hp,rfl,_,rfl,_,_,rfl,rfl,fe h0 h1,?_⟩
  refine⟨_,rfl,p,_,_,0,rfl,rfl,hp,rfl,?_⟩
  refine⟨_,rfl,?_⟩
  exact fin _ _ (xhx _ (by omega)) (xhw _ h0) ⟨Int.ediv_nonneg hn (by omega),fun z=>by cases z⟩
 | false =>
  refine ou ?_
  have hb':=hb rfl
  have cm:∀(i j:Int),0≤i→i<2147483700→xfm i j:=fun i j a b=>.inl ⟨by omega,by omega⟩
  refine⟨_,rfl,p,_,_,_,rfl,rfl,SqL.of hp,rfl,_,_,rfl,rfl,cm _ _ hn (by omega),_,_,rfl,rfl,_,_,rfl,rfl,(by show(0:Int)<2147483647;decide),?_⟩
  refine⟨_,rfl,p,_,_,0,rfl,rfl,hp,rfl,?_⟩
  have hz:∃z:Int,(n*48271+29) % 2147483647=z∧0≤z∧z<2147483647:=⟨_,rfl,by omega,by omega⟩
  obtain⟨z,ez,z0,z1⟩:=hz
  have hp':(upd H p (.lst [.int z,.bl false])) p=some (.lst [.int z,.bl false]):=yk
  show xfl _ _ _ _ (upd H p (.lst [.int ((n*48271+29) % 2147483647),.bl false]))
  rw[ez]
  refine⟨_,rfl,p,_,_,_,rfl,rfl,SqL.of hp',rfl,_,rfl,p,_,_,_,rfl,rfl,SqL.of hp',rfl,_,_,rfl,rfl,cm _ _ z0 (by omega),?_⟩
  refine⟨_,rfl,p,_,_,_,rfl,rfl,SqL.of hp',rfl,_,_,rfl,rfl,.inl ⟨by decide,by decide⟩,_,_,rfl,rfl,_,_,rfl,rfl,_,_,rfl,rfl,(by show(0:Int)<2147483629;decide),?_⟩
  have hy:∃y:Int,(z*z+39373*z+7) % 2147483629=y∧0≤y∧y<2147483629:=⟨_,rfl,xhx _ (by decide),xhw _ (by decide)⟩
  obtain⟨y,ey,y0,y1⟩:=hy
  show xfl _ _ _ [_,_,_,some (.int ((z*z+39373*z+7) % 2147483629))] _
  rw[ey]
  refine⟨_,rfl,_,rfl,_,_,rfl,rfl,cm _ _ y0 (by omega),_,rfl,_,_,rfl,rfl,.inl ⟨by decide,by decide⟩,_,_,rfl,rfl,_,_,rfl,rfl,(by show(0:Int)<2147483587;decide),?_⟩
  refine⟨_,rfl,_,_,rfl,rfl,fe (by decide) (by decide),_,rfl,_,_,rfl,rfl,h0,?_⟩
  exact fin _ _ (xhx _ (by omega)) (xhw _ h0) ⟨z0,fun _=>z1⟩
end
end K12
namespace K12
open PySem L2 Trn
section
variable {P:Program} {w:World} {K:PySem.W.Frag} {mg:Str→Option Value} {base:Heap} {f:Addr} {fd:FuncData}
theorem nW (B:Blt mg bn)(F:Fun K "is_whole" "is_whole" jY f fd)(m:mg "is_whole" = some (.ref f))(b:Binds K fd ["thing"] [])  :
  Own P w K mg base 1 "is_whole" ["thing"] (spT 1 false false lZ):=by
 refine xB F nH m b rfl (fun _ _ _ _ _ _ hr=>⟨_,_,
  (xh (xF (fZ (xO uJ rfl (B.get "isinstance") yW (xW (pv 0) (qv (v:=V.ty "int") rfl (B.get "int") xer rfl))) (fc (xeG (xO uJ rfl (B.get "isinstance") yW (xW (pv 0) (qv (v:=V.ty "bool") rfl (B.get "bool") xcO rfl)))))))),
  (xx (kQ (j9 xa) (xdK (j9 xa)))),fun ts KK hl h=>?_⟩)
 obtain⟨t,rfl,k⟩:=h
 cases t<;>exact k
theorem r_ (B:Blt mg bn)(F:Fun K "are_whole" "are_whole" vG f fd)(m:mg "are_whole" = some (.ref f))(b:Binds K fd ["things"] [])(wB:Own P w K mg base 1 "is_whole" ["thing"] (spT 1 false false lZ)) :
  Own P w K mg base 2 "are_whole" ["things"] (spT 1 false false fN):=by
 refine xB F mK m b rfl (fun _ _ _ _ _ _ hr=>⟨_,_,
  (xh (xF (xO (vf K rfl) rfl (B.get "all") rQ (yX (zL (yi (N:=["thing"]) (tau:=[none]) (XN:=["things"]) (xs:=xg vG) (by decide +kernel) rfl rfl) rfl (zm rfl) (yN K (pv 0)) (fun _ _ _ _=>(xY (i:=0) (show(["thing"]:List Str).Nodup by decide +kernel) rfl (Or.inl rfl))) (fun _ _ _ _=>yR) (fun _ _ _ _=>(xm wB hr (yX (pv 0))))))))),
  (xx (yF fX (xS (OkF.e (yq (yt xa).c xk yz (xy (xS xa))))))),fun ts KK hl h=>?_⟩)
 obtain⟨t,rfl,us,hs,hz,k⟩:=h
 rcases hs with rfl | rfl
 ·refine⟨hz,vv (fun x=>.bl (xd4 x)) (fun x _ N hN=>⟨x,rfl,hN⟩) ⟨us.map xd4,by rw[xiE];rfl,?_⟩⟩
  simpa using k
 ·refine⟨hz,vv (fun x=>.bl (xd4 x)) (fun x _ N hN=>⟨x,rfl,hN⟩) ⟨us.map xd4,by rw[xiE];rfl,?_⟩⟩
  simpa using k
theorem kG (B:Blt mg bn)(F:Fun K "greatest_divisor" "greatest_divisor" wa f fd)(m:mg "greatest_divisor" = some (.ref f))(b:Binds K fd ["one", "other"] [])  :
  Own P w K mg base 1 "greatest_divisor" ["one", "other"] (spT 2 false false xcX):=by
 refine xB F zK m b rfl (fun _ _ _ _ _ _ hr=>⟨_,_,
  (xc (sN (i:=0) (j:=1) rfl zK.nd rfl rfl (by decide) rfl rfl (xW (xO zI rfl (B.get "abs") vW (yX (pv 0))) (xO zI rfl (B.get "abs") vW (yX (pv 1)))) (by rfl))
  (xc (cG PassesOwn.never (xQ (zY hr.units) (pv 1) xf (xR _)) (xh (sN (i:=0) (j:=1) rfl zK.nd rfl rfl (by decide) rfl rfl (xW (pv 1) (xD nZ (pv 0) (pv 1))) (by rfl))))
  (xh (xF (pv 0))))),
  (xj (jw (xw (yF vX (xS xa)) (yF vX (xS xa))))
  (xj (rM (xG (xi vO xa xt)) (jw (xw xa (xi xau xa xa))))
  (xx xa))),fun ts KK hl h=>?_⟩)
 obtain⟨a,c,rfl,k⟩:=h
 refine t7 (fun n τ=>∃x y:Int,τ=[.fz (.int x),.fz (.int y)]∧0≤x∧0≤y∧n=y.toNat∧Int.gcd x y=Int.gcd a c) c.natAbs ⟨_,_,rfl,by split<;>omega,by split<;>omega,by split<;>omega,?_⟩ ?_
 ·have e1:(if a<0 then -a else a)=(a.natAbs:Int):=by split<;>omega
  have e2:(if c<0 then -c else c)=(c.natAbs:Int):=by split<;>omega
  rw[e1,e2];simp[Int.gcd]
 ·rintro n τ N ⟨x,y,rfl,hx,hy,rfl,hg⟩ hN
  refine x_ (b := !decide (y=0)) (fun c0=>?_) (fun c0=>?_)
  ·have c0:y≠0:=by simpa using c0
   have e:x.fmod y=x % y:=xa4 hy
   have l:=xhw x (show 0<y by omega)
   have l0:=xhx x c0
   refine⟨c0,hN (x % y).toNat _ (by omega) ⟨_,_,rfl,hy,by rw[e];exact l0,by rw[e],?_⟩⟩
   rw[e,←hg,xbh hx hy]
  ·have c0:y=0:=by simpa using c0
   subst c0
   have:(Int.gcd a c:Int)=x:=by rw[←hg];simp[Int.gcd];omega
   exact this▸k
theorem xan (B:Blt mg bn)(F:Fun K "lowest" "lowest" sS f fd)(m:mg "lowest" = some (.ref f))(b:Binds K fd ["top", "bottom"] [])(xP:Own P w K mg base 1 "greatest_divisor" ["one", "other"] (spT 2 false false xcX)) :
  Own P w K mg base 2 "lowest" ["top", "bottom"] (spT 2 false false xdY):=by
 refine xB F tU m b rfl (fun _ _ _ _ _ _ hr=>⟨_,_,
  (xc (yC 2 tU.nd (xm xP hr (xW (pv 0) (pv 1))))
  (xh (xF (yc (xW (xD zq (pv 0) (pv 2)) (xD zq (pv 1) (pv 2))))))),
  (xj (xN (xy (xw xa xa)))
  (xx (yd (b:=true) (xw (xi wV xa xa) (xi wV xa xa))))),fun ts KK hl h=>?_⟩)
 obtain⟨t,bo,rfl,hb,bd,k⟩:=h
 have gp:(0:Int)<(Int.gcd t bo:Int):=by have:=xhD t hb;omega
 have gb:=xax (t:=t) hb bd
 refine⟨t,bo,rfl,⟨by omega,gb⟩,⟨by omega,gb⟩,?_⟩
 show KK (.tup [.int (t.fdiv (Int.gcd t bo)),.int (bo.fdiv (Int.gcd t bo))])
 rw[zJ (by omega),zJ (by omega)]
 exact k
theorem xdk (B:Blt mg bn)(F:Fun K "plus" "plus" lx f fd)(m:mg "plus" = some (.ref f))(b:Binds K fd ["one", "other"] [])(yV:Own P w K mg base 2 "lowest" ["top", "bottom"] (spT 2 false false xdY)) :
  Own P w K mg base 3 "plus" ["one", "other"] (spT 2 false false xe5):=by
 refine xB F xdz m b rfl (fun _ _ _ _ _ _ hr=>⟨_,_,
  (xh (xF (xm yV hr (xW (xD zd (xD xM (xo K 0) (xo K 1)) (xD xM (xo K 1) (xo K 0))) (xD xM (xo K 0) (xo K 1)))))),
  (xx (xy (xw (xi zH (xi yb xq xq) (xi yb xq xq)) (xi yb xq xq)))),fun ts KK hl h=>?_⟩)
 obtain⟨f,g,rfl,hf,hg,k⟩:=h
 have z:=Pol.pp hf.pos hg.pos
 refine⟨⟨hf.top.bd,hg.bot.bd⟩,⟨hg.top.bd,hf.bot.bd⟩,⟨hf.bot.bd,hg.bot.bd⟩,_,_,rfl,by omega,(hf.bot.mul hg.bot).bd,?_⟩
 rw[cQ z]
 exact k
theorem xbd (B:Blt mg bn)(F:Fun K "times" "times" bj f fd)(m:mg "times" = some (.ref f))(b:Binds K fd ["whole", "fraction"] [])(yV:Own P w K mg base 2 "lowest" ["top", "bottom"] (spT 2 false false xdY)) :
  Own P w K mg base 3 "times" ["whole", "fraction"] (spT 2 false false xcH):=by
 refine xB F xbf m b rfl (fun _ _ _ _ _ _ hr=>⟨_,_,
  (xh (xF (xm yV hr (xW (xD xM (pv 0) (xo K 1)) (xo K 1))))),
  (xx (xy (xw (xi yb xa xq) xq))),fun ts KK hl h=>?_⟩)
 obtain⟨w,f,rfl,hw,hf,k⟩:=h
 exact⟨⟨hw.bd,hf.top.bd⟩,_,_,rfl,by have:=hf.pos;omega,hf.bot.bd,k⟩
theorem oD (B:Blt mg bn)(F:Fun K "is_less" "is_less" f_ f fd)(m:mg "is_less" = some (.ref f))(b:Binds K fd ["one", "other"] [])  :
  Own P w K mg base 1 "is_less" ["one", "other"] (spT 2 false false lH):=by
 refine xB F pO m b rfl (fun _ _ _ _ _ _ hr=>⟨_,_,
  (xh (xF (zj (jb K hr.units) (xD xM (xo K 0) (xo K 1)) (xD xM (xo K 1) (xo K 0)) (xR _)))),
  (xx (xi kX (xi yb xq xq) (xi yb xq xq))),fun ts KK hl h=>?_⟩)
 obtain⟨f,g,rfl,hf,hg,k⟩:=h
 exact⟨⟨hf.top.bd,hg.bot.bd⟩,⟨hg.top.bd,hf.bot.bd⟩,k⟩
theorem fG (B:Blt mg bn)(F:Fun K "corners_left" "corners_left" u4 f fd)(m:mg "corners_left" = some (.ref f))(b:Binds K fd ["rows"] [])(ko:Own P w K mg base 3 "places_of" ["piece"] (spT 1 false true tK))(qy:Own P w K mg base 5 "piece_left" ["rows"] (spT 1 false false dX)) :
  Own P w K mg base 6 "corners_left" ["rows"] (spT 1 false true qg):=by
 refine xB F fq m b rfl (fun _ _ _ _ _ _ hr=>⟨_,_,
  (xh (xF (xm ko hr (yX (xm qy hr (yX (pv 0))))))),
  (gC (xaR (xS (xy (xS xa))))),fun ts KK hl h=>?_⟩)
 obtain⟨t,rows,rfl,ht,hr,k⟩:=h
 have sm:=hr.small rows.length
 have pl:=hr.plen rows.length
 rw[xi9 (xjd _)] at sm pl
 exact⟨t,rows,rfl,ht,hr,_,rfl,sm,pl,k⟩
theorem rD (B:Blt mg bn)(F:Fun K "piece_left" "piece_left" qE f fd)(m:mg "piece_left" = some (.ref f))(b:Binds K fd ["rows"] []){t_FAR:Tok}(du:mg "FAR" = some (.int 60001 t_FAR))(jM:Own P w K mg base 4 "cut_down" ["piece", "rows"] (spT 2 false false pC)) :
  Own P w K mg base 5 "piece_left" ["rows"] (spT 1 false false dX):=by
 refine xB F ax m b rfl (fun _ _ _ _ _ _ hr=>⟨_,_,
  (xh (xF (xm jM hr (xW (zQ (xZ (yc (xZ (qD wQ (qx (v:=V.int 60001) rfl du ⟨_,rfl⟩)) (xW (qD wQ (qx (v:=V.int 60001) rfl du ⟨_,rfl⟩)) xf))) (xZ (yc (xZ (qx (v:=V.int 60001) rfl du ⟨_,rfl⟩) (xW (qD wQ (qx (v:=V.int 60001) rfl du ⟨_,rfl⟩)) xf))) (xW (yc (xZ (qx (v:=V.int 60001) rfl du ⟨_,rfl⟩) (xW (qx (v:=V.int 60001) rfl du ⟨_,rfl⟩) xf))) (yc (xZ (qD wQ (qx (v:=V.int 60001) rfl du ⟨_,rfl⟩)) (xW (qx (v:=V.int 60001) rfl du ⟨_,rfl⟩) xf))))))) (pv 0))))),
  (xx (xy (xw (vZ (b:=true) (xV (yd (b:=true) (xV (wM xt) (xw (wM xt) xt))) (xV (yd (b:=true) (xV xt (xw (wM xt) xt))) (xw (yd (b:=true) (xV xt (xw xt xt))) (yd (b:=true) (xV (wM xt) (xw xt xt))))))) xa))),fun ts KK hl h=>?_⟩)
 obtain⟨t,rows,rfl,ht,hr,k⟩:=h
 exact⟨t,[],rows,rfl,ht,hr,k⟩
theorem n5 (B:Blt mg bn)(F:Fun K "cut_down" "cut_down" jQ f fd)(m:mg "cut_down" = some (.ref f))(b:Binds K fd ["piece", "rows"] [])(kA:Own P w K mg base 3 "cut_piece" ["piece", "row"] (spT 2 false false gU)) :
  Own P w K mg base 4 "cut_down" ["piece", "rows"] (spT 2 false false pC):=by
 refine xB F kO m b rfl (fun _ _ _ _ _ _ hr=>⟨_,_,
  (xc (zM PassesOwn.never rfl (yN K (pv 1)) (yB 2 kO.nd) (xh (yC 0 kO.nd (xm kA hr (xW (pv 0) (pv 2))))))
  (xh (xF (pv 0)))),
  (xj (yY (yt xa) xk.g (xN (xy (xw xa xa))))
  (xx xa)),fun ts KK hl h=>?_⟩)
 obtain⟨t,r0,rows,rfl,ht,hr,k⟩:=h
 have tk:∀i,((r0++rows).take (r0.length+i)).foldl Pol.yP Pol.box=(rows.take i).foldl Pol.yP (Pol.pieces r0):=fun i=>by rw[List.take_append,xi9 (by omega),show r0.length+i-r0.length=i by omega,xie];rfl
 have main:xcl (eName 2) (xgW 0 (xdo gU (pE (xdZ 0) (pE (xdZ 2) xeA)))) { nx:=xfZ (xdZ 0) { nx:=fun x=>false=false∧KK Tr.non,rt:=KK },rt:=KK } (rows.map trR) [.fz (.lst ((Pol.pieces r0).map trR)),.fz t,.un]:=by
  refine ud (fun i τ=>∃x2,τ=[.fz (.lst (((rows.take i).foldl Pol.yP (Pol.pieces r0)).map trR)),.fz t,x2]) ⟨_,rfl⟩ ?_ ?_
  ·rintro i x τ N hx ⟨x2,rfl⟩ hN
   obtain⟨r,hri,rfl⟩:=wx hx
   rw[Pol.um _ _ hri] at hN
   have sm:=hr.small (r0.length+i)
   have pl:=hr.plen (r0.length+i)
   rw[tk] at sm pl
   exact⟨_,r,rfl,hr.sm r (xiI _ (xiR hri)),sm,pl,hN _ ⟨_,rfl⟩⟩
  ·rintro τ ⟨x2,rfl⟩
   rw[xit,xi9 (xjd _)]
   unfold Pol.pieces at k ⊢
   rw[xie] at k
   exact k
 rcases ht with rfl | rfl<;>exact main
theorem tH (B:Blt mg bn)(F:Fun K "places_of" "places_of" vx f fd)(m:mg "places_of" = some (.ref f))(b:Binds K fd ["piece"] [])(yV:Own P w K mg base 2 "lowest" ["top", "bottom"] (spT 2 false false xdY))(qd:Own P w K mg base 2 "from_least" ["piece"] (spT 1 false true sG)) :
  Own P w K mg base 3 "places_of" ["piece"] (spT 1 false true tK):=by
 refine xB F tE m b rfl (fun _ _ _ _ _ _ hr=>⟨_,_,
  (xh (xF (zL (yi (N:=["x", "y", "bottom"]) (tau:=[none,none,none]) (XN:=["piece"]) (xs:=xg vx) (by decide +kernel) rfl rfl) rfl (wN (yO rfl (yO rfl (yO rfl qr)))) (yN K (xm qd hr (yX (pv 0)))) (fun _ _ _ _=>(yr K (n:=3) rfl (xr (xY (i:=0) (show(["x", "y", "bottom"]:List Str).Nodup by decide +kernel) rfl (Or.inl rfl)) (xr (xY (i:=1) (show(["x", "y", "bottom"]:List Str).Nodup by decide +kernel) rfl (Or.inl rfl)) (xr (xY (i:=2) (show(["x", "y", "bottom"]:List Str).Nodup by decide +kernel) rfl (Or.inl rfl)) yo))))) (fun _ _ _ _=>yR) (fun _ _ _ _=>(yc (xW (xm yV hr (xW (pv 0) (pv 2))) (xm yV hr (xW (pv 1) (pv 2))))))))),
  (gC (yq (yt (xy (xS xa))).c (yw (xl xk (xl xk (xl xk ye)))) yz (yd (b:=true) (xw (xy (xw xa xa)) (xy (xw xa xa)))))),fun ts KK hl h=>?_⟩)
 obtain⟨l,rfl,sm,pl,k⟩:=h
 refine⟨l,rfl,fun v hv=>(sm v hv).1.b3,pl,?_,?_⟩
 ·rw[xit,vS];exact sqz (by omega)
 ·refine vv (fun x=>match gg x with | some v=>sk v | none=>.non) (fun x hx N hN=>?_) ?_
  ·obtain⟨v,hv,rfl⟩:=xiP.mp hx
   have hb:=sm v (ue hv)
   exact⟨rfl,_,_,rfl,by omega,hb.1.2.bd,_,_,rfl,by omega,hb.1.2.bd,hN⟩
  ·rw[xiE];exact k
theorem mD (B:Blt mg bn)(F:Fun K "cut_piece" "cut_piece" kM f fd)(m:mg "cut_piece" = some (.ref f))(b:Binds K fd ["piece", "row"] [])(uA:Own P w K mg base 2 "where_crossed" ["row", "one", "other"] (spT 3 false false cZ))(uf:Own P w K mg base 1 "beyond" ["row", "corner"] (spT 2 false false ni)) :
  Own P w K mg base 3 "cut_piece" ["piece", "row"] (spT 2 false false gU):=by
 refine xB F zN m b rfl (fun _ _ _ _ _ _ hr=>⟨_,_,
  (xc (yC 2 zN.nd (zQ vp))
  (xc (zM PassesOwn.never rfl (m_ K rfl (B.get "enumerate") (yX (pv 0))) (yr K (n:=2) rfl (xr (yB 3 zN.nd) (xr (yB 4 zN.nd) yo))) (xc (yC 5 zN.nd (yT (yg K) (pv 0) (xD w5 (pv 3) xf) (fun _ _=>rfl)))
  (xc (yJ (xQ (jb K hr.units) (xD xM (xm uf hr (xW (pv 1) (pv 5))) (xm uf hr (xW (pv 1) (pv 4)))) xf (xR _)) (xc (yC 6 zN.nd (xm uA hr (xZ (pv 1) (xW (pv 5) (pv 4)))))
  (xh (yJ (xQ (xdv hr.units) (pv 6) (pv 2) (by with_unfolding_all rfl)) (xh (u6 (nJ PySem.F.plainAttrs_list PySem.F.slot_list_append PySem.F.type_list_append uo (pv 2) (yX (pv 6))))) xT))) xT)
  (xh (yJ (xQ dO (xm uf hr (xW (pv 1) (pv 4))) xf (xR _)) (xh (u6 (nJ PySem.F.plainAttrs_list PySem.F.slot_list_append PySem.F.type_list_append uo (pv 2) (yX (pv 4))))) xT)))))
  (xh (xF (pv 2))))),
  (xj (wI (jx va))
  (xj (yY (sT (xS xa)) (yw (xl xk (xl xk ye))).g (xj (xN (zE xa (xi uy xa xt)))
  (xj (yh (xG (xi kX (xi yb (xy (xw xa xa)) (xy (xw xa xa))) xt)) (xj (xN (xy (xV xa (xw xa xa))))
  (yh (xG (xi xf4 xa lM)) (ku xa) xI)) xI)
  (yh (xG (xi dm (xy (xw xa xa)) xt)) (ku xa) xI))))
  sV)),fun ts KK hl h=>?_⟩)
 obtain⟨l,r,rfl,hr,hl',hz,k⟩:=h
 refine ud (all:=qB (l.map trR)) (fun i τ=>∃x3 x4 x5 x6,τ=[.fz (.lst (l.map trR)),.fz (trR r),.ow ((((Pol.cyc l).take i).foldl (Pol.yn r) []).map trR),x3,x4,x5,x6]∧(((Pol.cyc l).take i).foldl (Pol.yn r) []).length≤2*i)
  ⟨_,_,_,_,rfl,xjd _⟩ ?_ ?_
 ·rintro i x τ N hx ⟨x3,x4,x5,x6,rfl,hlen⟩ hN
  obtain⟨v,hv,rfl⟩:=aT hx
  obtain⟨u,hu,hc,ha⟩:=p8 hv
  have hvm:=xiR hv
  have hi:=(xik.mp hv).1
  have fold:=Pol.um (Pol.yn r) [] hc
  generalize hacc:((Pol.cyc l).take i).foldl (Pol.yn r) []=acc at fold hlen ⊢
  have leaf:∀(ts:List Tr) (y6:TV),ts=(Pol.yn r acc (u,v)).map trR→N [.fz (.lst (l.map trR)),.fz (trR r),.ow ts,.fz (.int i),.fz (trR v),.fz (trR u),y6]:=fun ts y6 e=>by
   rw[fold] at hN
   refine hN _ ⟨_,_,_,y6,by rw[e],?_⟩
   ·have:=Pol.cL r acc (u,v)
    have s2:(Pol.seg r (u,v)).length≤2:=by unfold Pol.seg;split<;>split<;>simp
    omega
  have bu:=hl' u hu
  have bv:=hl' v hvm
  have len0:∀n:Nat,n≤acc.length+1→n<sizeLine:=fun n hn=>sqz (by omega)
  refine⟨rfl,?_⟩
  show sU (atT (l.map trR) ((i:Int)-1)) _
  rw[ha]
  refine⟨r,u,rfl,hr.b3,bu.1.b3,r,v,rfl,hr.b3,bv.1.b3,⟨(hr.val bu.1).bd,(hr.val bv.1).bd⟩,?_⟩
  refine x_ (b:=decide (Pol.val r u*Pol.val r v<0)) (fun c=>?_) (fun c=>?_)
  ·have c:=xjv c
   refine⟨r,u,v,rfl,⟨hr,bu.1,bv.1⟩,⟨bu.2,bv.2⟩,c,⟨oR _,qH trR oR acc,(by show(1:Nat)≤60;decide)⟩,?_⟩
   refine x_ (b := !((acc.map trR).any fun t=>teq t (trR (Pol.xA r u v)))) (fun d=>?_) (fun d=>?_)
   ·rw[lP] at d
    have d:Pol.xA r u v∉acc:=by simpa using d
    refine⟨len0 _ (by simp),r,v,rfl,hr.b3,bv.1.b3,?_⟩
    refine x_ (b:=decide (Pol.val r v≤0)) (fun e=>?_) (fun e=>?_)
    ·have e:=xjv e
     exact⟨len0 _ (by simp),leaf _ _ (by simp[Pol.yn,c,d,e])⟩
    ·have e:=xju e
     exact leaf _ _ (by simp[Pol.yn,c,d,e])
   ·rw[lP] at d
    have d:Pol.xA r u v∈acc:=by simpa using d
    refine⟨r,v,rfl,hr.b3,bv.1.b3,?_⟩
    refine x_ (b:=decide (Pol.val r v≤0)) (fun e=>?_) (fun e=>?_)
    ·have e:=xjv e
     exact⟨len0 _ (by simp),leaf _ _ (by simp[Pol.yn,c,d,e])⟩
    ·have e:=xju e
     exact leaf _ _ (by simp[Pol.yn,c,d,e])
  ·have c:=xju c
   refine⟨r,v,rfl,hr.b3,bv.1.b3,?_⟩
   refine x_ (b:=decide (Pol.val r v≤0)) (fun e=>?_) (fun e=>?_)
   ·have e:=xjv e
    exact⟨len0 _ (by simp),leaf _ _ (by simp[Pol.yn,c,e])⟩
   ·have e:=xju e
    exact leaf _ _ (by simp[Pol.yn,c,e])
 ·rintro τ ⟨x3,x4,x5,x6,rfl,hlen⟩
  rw[jf,xi9 (by rw[Pol.xc1];exact xjd _)]
  exact k
theorem xaS (B:Blt mg bn)(F:Fun K "beyond" "beyond" rh f fd)(m:mg "beyond" = some (.ref f))(b:Binds K fd ["row", "corner"] [])  :
  Own P w K mg base 1 "beyond" ["row", "corner"] (spT 2 false false ni):=by
 refine xB F uu m b rfl (fun _ _ _ _ _ _ hr=>⟨_,_,
  (xc (zC (pv 0) (yr K (n:=3) rfl (xr (yB 2 uu.nd) (xr (yB 3 uu.nd) (xr (yB 4 uu.nd) yo)))))
  (xc (zC (pv 1) (yr K (n:=3) rfl (xr (yB 5 uu.nd) (xr (yB 6 uu.nd) (xr (yB 7 uu.nd) yo)))))
  (xh (xF (xD w5 (xD zd (xD xM (pv 2) (pv 5)) (xD xM (pv 3) (pv 6))) (xD xM (pv 4) (pv 7))))))),
  (xj (y_ xa (yw (xl xk (xl xk (xl xk ye)))).g)
  (xj (y_ xa (yw (xl xk (xl xk (xl xk ye)))).g)
  (xx (xi uy (xi zH (xi yb xa xa) (xi yb xa xa)) (xi yb xa xa))))),fun ts KK hl h=>?_⟩)
 obtain⟨r,p,rfl,hr,hp,k⟩:=h
 exact⟨rfl,rfl,⟨hr.1.1,hp.1.1⟩,⟨hr.1.2,hp.1.2⟩,⟨hr.2,hp.2⟩,k⟩
theorem gc (B:Blt mg bn)(F:Fun K "where_crossed" "where_crossed" zZ f fd)(m:mg "where_crossed" = some (.ref f))(b:Binds K fd ["row", "one", "other"] [])(xP:Own P w K mg base 1 "greatest_divisor" ["one", "other"] (spT 2 false false xcX))(uf:Own P w K mg base 1 "beyond" ["row", "corner"] (spT 2 false false ni)) :
  Own P w K mg base 2 "where_crossed" ["row", "one", "other"] (spT 3 false false cZ):=by
 refine xB F yI m b rfl (fun _ _ _ _ _ _ hr=>⟨_,_,
  (xc (zC (yc (xW (xO zI rfl (B.get "abs") vW (yX (xm uf hr (xW (pv 0) (pv 1))))) (xO zI rfl (B.get "abs") vW (yX (xm uf hr (xW (pv 0) (pv 2))))))) (yr K (n:=2) rfl (xr (xY (i:=3) yI.nd rfl (Or.inr rfl)) (xr (xY (i:=4) yI.nd rfl (Or.inr rfl)) yo))))
  (xc (zC (zL (yi (N:=["here", "there", "other_off", "one_off"]) (tau:=[none,none,some 4,some 3]) (XN:=["row", "one", "other", "one_off", "other_off", "x", "y", "bottom", "shared"]) (xs:=xg zZ) (by decide +kernel) rfl rfl) rfl (wN (yO rfl (yO rfl qr))) (fL K rfl (B.get "zip") (xW (pv 1) (pv 2))) (fun _ _ _ _=>(yr K (n:=2) rfl (xr (xY (i:=0) (show(["here", "there", "other_off", "one_off"]:List Str).Nodup by decide +kernel) rfl (Or.inl rfl)) (xr (xY (i:=1) (show(["here", "there", "other_off", "one_off"]:List Str).Nodup by decide +kernel) rfl (Or.inl rfl)) yo)))) (fun _ _ _ _=>yR) (fun _ _ _ _=>(xD zd (xD xM (pv 2) (pv 0)) (xD xM (pv 3) (pv 1))))) (xc4 K (n:=3) rfl (xr (yB 5 yI.nd) (xr (yB 6 yI.nd) (xr (yB 7 yI.nd) yo)))))
  (xc (yC 8 yI.nd (xm xP hr (xW (xm xP hr (xW (pv 5) (pv 6))) (pv 7))))
  (xh (xF (yc (xZ (xD zq (pv 5) (pv 8)) (xW (xD zq (pv 6) (pv 8)) (xD zq (pv 7) (pv 8)))))))))),
  (xj (y_ (yd (b:=true) (xw (yF vX (xS (xy (xw xa xa)))) (yF vX (xS (xy (xw xa xa)))))) (yw (xl xk (xl xk ye))).g)
  (xj (y_ (OkF.e (yq (jg (xw xa xa)).c (yw (xl xk (xl xk ye))) yz (xi zH (xi yb xa xa) (xi yb xa xa)))) (xdP (xl xk (xl xk (xl xk ye)))).g)
  (xj (xN (xy (xw (xy (xw xa xa)) xa)))
  (xx (yd (b:=true) (xV (xi wV xa xa) (xw (xi wV xa xa) (xi wV xa xa)))))))),fun ts KK hl h=>?_⟩)
 obtain⟨r,u,v,rfl,⟨hr,hu,hv⟩,⟨zu,zv⟩,hn,k⟩:=h
 have au:Bk 1000 (Pol.abs (Pol.val r u)):=((hr.val hu).mono (by decide)).abs
 have av:Bk 1000 (Pol.abs (Pol.val r v)):=((hr.val hv).mono (by decide)).abs
 have cu:∀ {i},Bk 800 i→CM (Pol.abs (Pol.val r v)) i:=fun h=>⟨av.bd,h.bd⟩
 have cv:∀ {i},Bk 800 i→CM (Pol.abs (Pol.val r u)) i:=fun h=>⟨au.bd,h.bd⟩
 obtain⟨b,_,_,_⟩:=Pol.qP zu zv hn
 have wz:0<(Pol.cw r u v).2.2:=by
  have h1:=Pol.pp b.pa zu
  have h2:=Pol.pp b.pb zv
  show 0<Pol.abs (Pol.val r v)*u.2.2+Pol.abs (Pol.val r u)*v.2.2
  omega
 have wb:Bd (Pol.cw r u v).2.2:=((av.mul hu.2).add (au.mul hv.2)).bd
 have gp:=Pol.qN wz
 have gb:Bd (Pol.vi (Pol.cw r u v):Int):=xax (by omega) wb
 refine⟨r,u,rfl,hr.b3,hu.b3,r,v,rfl,hr.b3,hv.b3,rfl,sqz (show(3:Nat)≤1000000 by decide),rfl,cu hu.1.1,cv hv.1.1,rfl,cu hu.1.2,cv hv.1.2,rfl,cu hu.2,cv hv.2,rfl,_,_,rfl,_,_,rfl,⟨?_,gb⟩,⟨?_,gb⟩,⟨?_,gb⟩,?_⟩
 ·show(Pol.vi (Pol.cw r u v):Int)≠0;omega
 ·show(Pol.vi (Pol.cw r u v):Int)≠0;omega
 ·show(Pol.vi (Pol.cw r u v):Int)≠0;omega
 show KK (.tup [.int ((Pol.cw r u v).1.fdiv (Pol.vi (Pol.cw r u v))),.int ((Pol.cw r u v).2.1.fdiv (Pol.vi (Pol.cw r u v))),.int ((Pol.cw r u v).2.2.fdiv (Pol.vi (Pol.cw r u v)))])
 rw[zJ (by omega),zJ (by omega),zJ (by omega)]
 exact k
theorem aa (B:Blt mg bn)(F:Fun K "from_least" "from_least" qa f fd)(m:mg "from_least" = some (.ref f))(b:Binds K fd ["piece"] [])(ju:Own P w K mg base 1 "is_ahead" ["one", "other"] (spT 2 false false xcj)) :
  Own P w K mg base 2 "from_least" ["piece"] (spT 1 false true sG):=by
 refine xB F zV m b rfl (fun _ _ _ _ _ _ hr=>⟨_,_,
  (xc (yC 1 zV.nd xf)
  (xc (zM PassesOwn.never rfl (m_ K rfl (B.get "enumerate") (yX (pv 0))) (yr K (n:=2) rfl (xr (yB 2 zV.nd) (xr (yB 3 zV.nd) yo))) (xh (yJ (zP (xm ju hr (xW (pv 3) (yT (yg K) (pv 0) (pv 1) (fun _ _=>rfl))))) (xh (yC 1 zV.nd (pv 2))) xT)))
  (xh (xF (xD xcL (gD (gz K) (pv 0) (sQ (pv 1)) sR) (gD (gz K) (pv 0) sR (sQ (pv 1)))))))),
  (xj (xN xt)
  (xj (yY (sT (xS xa)) (yw (xl xk (xl xk ye))).g (yh (yQ (xy (xw xa (zE xa xa)))) (xN xa) xI))
  (gC (xaN (xcs xa (gm xa) gA) (xcs xa gA (gm xa)))))),fun ts KK hl h=>?_⟩)
 obtain⟨l,rfl,hl',hz,k⟩:=h
 refine ud (all:=qB (l.map trR)) (fun i τ=>∃x2 x3,τ=[.fz (.lst (l.map trR)),.fz (.int ((List.range i).foldl (yj l) 0:Nat)),x2,x3]∧((List.range i).foldl (yj l) 0<l.length∨l=[]))
  ⟨_,_,rfl,?_⟩ ?_ ?_
 ·cases l with
  | nil=>exact .inr rfl
  | cons a t=>exact .inl (by simp)
 ·rintro i x τ N hx ⟨x2,x3,rfl,hlen⟩ hN
  obtain⟨v,hv,rfl⟩:=aT hx
  have hvm:=xiR hv
  have hi:=(xik.mp hv).1
  have fold:(List.range (i+1)).foldl (yj l) 0=yj l ((List.range i).foldl (yj l) 0) i:=by rw[List.range_succ,xie];rfl
  generalize hs:(List.range i).foldl (yj l) 0=s at fold hlen ⊢
  have hs':s<l.length:=hlen.resolve_right (fun z=>by rw[z] at hi;simp at hi)
  have eu:atT (l.map trR) (s:Int)=some (trR l[s]):=by rw[fE,xil,xii hs'];rfl
  refine⟨rfl,?_⟩
  show sU (atT (l.map trR) (s:Int)) _
  rw[eu]
  have ev:l.getD i (0,0,0)=v:=by rw[xig,hv];rfl
  have es:l.getD s (0,0,0)=l[s]:=by rw[xig,xii hs'];rfl
  refine⟨v,l[s],rfl,hl' _ hvm,hl' _ (xip hs'),?_⟩
  refine x_ (b:=ahead v l[s]) (fun c=>?_) (fun c=>?_)
  ·have f2:yj l s i=i:=by unfold yj;rw[ev,es,if_pos c]
   rw[fold,f2] at hN
   exact hN _ ⟨_,_,rfl,.inl hi⟩
  ·have c':¬ahead v l[s]=true:=by rw[c];exact xhr
   have f2:yj l s i=s:=by unfold yj;rw[ev,es,if_neg c']
   rw[fold,f2] at hN
   exact hN _ ⟨_,_,rfl,.inl hs'⟩
 ·rintro τ ⟨x2,x3,rfl,hlen⟩
  rw[jf]
  show(mN (l.map trR) (some ((vQ l:Nat):Int)) none).length+(mN (l.map trR) none (some ((vQ l:Nat):Int))).length≤sizeLine∧KK (.lst (mN (l.map trR) (some ((vQ l:Nat):Int)) none++mN (l.map trR) none (some ((vQ l:Nat):Int))))
  rw[bM,xcc]
  refine⟨xft (by simp;omega),?_⟩
  unfold yp at k
  rw[xiB,List.map_drop,List.map_take] at k
  exact k
theorem nM (B:Blt mg bn)(F:Fun K "is_ahead" "is_ahead" jI f fd)(m:mg "is_ahead" = some (.ref f))(b:Binds K fd ["one", "other"] [])  :
  Own P w K mg base 1 "is_ahead" ["one", "other"] (spT 2 false false xcj):=by
 refine xB F mZ m b rfl (fun _ _ _ _ _ _ hr=>⟨_,_,
  (xh (xF (zj (jb K hr.units) (yc (xW (xD xM (xo K 0) (xo K 1)) (xD xM (xo K 0) (xo K 1)))) (yc (xW (xD xM (xo K 1) (xo K 0)) (xD xM (xo K 1) (xo K 0)))) (xR _)))),
  (xx (xi kX (yd (b:=true) (xw (xi yb xq xq) (xi yb xq xq))) (yd (b:=true) (xw (xi yb xq xq) (xi yb xq xq))))),fun ts KK hl h=>?_⟩)
 obtain⟨p,q,rfl,hp,hq,k⟩:=h
 refine⟨⟨hp.1.1,hq.2⟩,⟨hp.1.2,hq.2⟩,⟨hq.1.1,hp.2⟩,⟨hq.1.2,hp.2⟩,[p.1*q.2.2,p.2.1*q.2.2],[q.1*p.2.2,q.2.1*p.2.2],rfl,rfl,?_⟩
 rw[xe4]
 exact k
theorem xao (B:Blt mg bn)(F:Fun K "is_row" "is_row" aw f fd)(m:mg "is_row" = some (.ref f))(b:Binds K fd ["thing"] [])(wD:Own P w K mg base 2 "are_whole" ["things"] (spT 1 false false fN)) :
  Own P w K mg base 3 "is_row" ["thing"] (spT 1 false false xaO):=by
 refine xB F lE m b rfl (fun _ _ _ _ _ _ hr=>⟨_,_,
  (xc (yJ (PW.pt (uI (wm (zP (xO uJ rfl (B.get "isinstance") yW (xW (pv 0) (qv (v:=V.ty "tuple") rfl (B.get "tuple") y3 rfl))))) (uI (xQ (zY hr.units) (xO (yZ K) rfl (B.get "len") vh (yX (pv 0))) xf (xR _)) (wR (wm (zP (xm wD hr (yX (pv 0))))))))) (xh (xF uF)) xT)
  (xh (xF (xcS (zj (zY hr.units) (xo K 0) xf (xR _)) (fc (zj (zY hr.units) (xo K 0) xf (xR _))))))),
  (xj (yh (zB (zo (yQ (j9 xa))) (zB (xG (xi vO (yF qF (xS xa)) xt)) (zo (yQ (xy (xS xa)))))) (xx ve) xI)
  (xx (lX (xi vO xq xt) (xi vO xq xt)))),fun ts KK hl h=>?_⟩)
 obtain⟨t,rfl,k⟩:=h
 cases t with
 | tup us =>
  refine x_ (b := !decide ((us.length:Int)=3)) (fun c=>?_) (fun c=>?_)
  ·have c:¬(us.length:Int)=3:=by simpa using c
   have e:fh (.tup us)=false:=by
    unfold fh
    cases e:gg (.tup us) with
    | none=>rfl
    | some r =>
     have:=qK e
     unfold trR at this
     injection this with this
     rw[this] at c
     exact absurd rfl c
   rw[e] at k
   exact k
  ·have c:us.length=3:=by simp at c;omega
   obtain⟨x,y,z,rfl⟩:∃x y z,us=[x,y,z]:=by
    match us,c with
    | [x,y,z],_=>exact⟨x,y,z,rfl⟩
   refine⟨_,rfl,_,.inl rfl,lJ c,?_⟩
   cases x with
   | int a =>
    cases y with
    | int b =>
     cases z with
     | int d =>
      show if (!decide (a=0))=true then KK (.bl true) else KK (.bl (!decide (b=0)))
      by_cases ha:a=0<;>by_cases hb:b=0<;>simp[ha,hb,fh,gg] at k ⊢<;>exact k
     | _=>exact k
    | _=>exact k
   | _=>exact k
 | _=>exact k
theorem xbC (B:Blt mg bn)(F:Fun K "value" "value" nu f fd)(m:mg "value" = some (.ref f))(b:Binds K fd ["row", "place"] [])(lu:Own P w K mg base 3 "plus" ["one", "other"] (spT 2 false false xe5))(rA:Own P w K mg base 3 "times" ["whole", "fraction"] (spT 2 false false xcH)) :
  Own P w K mg base 4 "value" ["row", "place"] (spT 2 false false lU):=by
 refine xB F xbM m b rfl (fun _ _ _ _ _ _ hr=>⟨_,_,
  (xh (xF (xm lu hr (xW (xm rA hr (xW (xo K 0) (xo K 1))) (xm rA hr (xW (xo K 0) (xo K 1))))))),
  (xx (xy (xw (xy (xw xq xq)) (xy (xw xq xq))))),fun ts KK hl h=>?_⟩)
 obtain⟨a,c,x,p,rfl,ha,hc,hp,k⟩:=h
 have h1:=(Fk.timW ha hp.1).mono (show 800≤900 by decide)
 have h2:=(Fk.timW hc hp.2).mono (show 800≤900 by decide)
 refine⟨a,p.1,rfl,ha.mono (by decide),hp.1.mono (by decide),c,p.2,rfl,hc.mono (by decide),hp.2.mono (by decide),_,_,rfl,h1,h2,?_⟩
 rw[xb1 hp.1.pos hp.2.pos]
 exact k
theorem nv (B:Blt mg bn)(F:Fun K "is_tight" "is_tight" jA f fd)(m:mg "is_tight" = some (.ref f))(b:Binds K fd ["row", "place"] [])(jR:Own P w K mg base 4 "value" ["row", "place"] (spT 2 false false lU)) :
  Own P w K mg base 5 "is_tight" ["row", "place"] (spT 2 false false bY):=by
 refine xB F kN m b rfl (fun _ _ _ _ _ _ hr=>⟨_,_,
  (xc (zC (xm jR hr (xW (pv 0) (pv 1))) (yr K (n:=2) rfl (xr (yB 2 kN.nd) (xr (yB 3 kN.nd) yo))))
  (xh (xF (zj (wj hr.units) (pv 2) (xD xM (xo K 0) (pv 3)) (xR _))))),
  (xj (y_ (xy (xw xa xa)) (yw (xl xk (xl xk ye))).g)
  (xx (xi os_eq xa (xi yb xq xa)))),fun ts KK hl h=>?_⟩)
 obtain⟨r,p,rfl,hr,hp,k⟩:=h
 refine⟨r.1,r.2.1,[.int r.2.2],p,rfl,hr.1.1,hr.1.2,hp,rfl,⟨hr.2.bd,(xdh hr hp).bot.bd⟩,k⟩
theorem ot (B:Blt mg bn)(F:Fun K "turn_to" "turn_to" fC f fd)(m:mg "turn_to" = some (.ref f))(b:Binds K fd ["one", "other"] [])  :
  Own P w K mg base 1 "turn_to" ["one", "other"] (spT 2 false false bz):=by
 refine xB F p9 m b rfl (fun _ _ _ _ _ _ hr=>⟨_,_,
  (xh (xF (xD w5 (xD xM (xo K 0) (xo K 1)) (xD xM (xo K 0) (xo K 1))))),
  (xx (xi uy (xi yb xq xq) (xi yb xq xq))),fun ts KK hl h=>?_⟩)
 obtain⟨a,b,c,d,x,y,rfl,hb,k⟩:=h
 exact⟨⟨hb.1.1,hb.2.2⟩,⟨hb.1.2,hb.2.1⟩,k⟩
theorem bC (B:Blt mg bn)(F:Fun K "go_round" "go_round" jC f fd)(m:mg "go_round" = some (.ref f))(b:Binds K fd ["rows"] [])(qL:Own P w K mg base 2 "furthest" ["first", "rows", "sign"] (spT 3 false false mM))(vI:Own P w K mg base 2 "points_back" ["first", "rows"] (spT 2 false false xe3))(yl:Own P w K mg base 1 "turn_to" ["one", "other"] (spT 2 false false bz)) :
  Own P w K mg base 3 "go_round" ["rows"] (spT 1 false false cK):=by
 refine xB F vA m b rfl (fun _ _ _ _ _ _ hr=>⟨_,_,
  (xc (yJ (xQ (wj hr.units) (xO (yZ K) rfl (B.get "len") vh (yX (pv 0))) xf (xR _)) (xh (xF uF)) xT)
  (xc (yC 1 vA.nd (xo K 0))
  (xc (yC 2 vA.nd (xm qL hr (xZ (pv 1) (xW (pv 0) xf))))
  (xc (yC 3 vA.nd (xm qL hr (xZ (pv 1) (xW (pv 0) (qD wQ xf)))))
  (xc (yJ (PW.pt (uI (kh (dW (pv 2))) (wR (kh (dW (pv 3)))))) (xh (xF uF)) xT)
  (xh (xF (xcS (zj nI (xm yl hr (xW (pv 2) (pv 3))) xf (xR _)) (fc (xm vI hr (xW (pv 1) (pv 0)))))))))))),
  (xj (yh (xG (xi os_eq (yF qF (xS xa)) xt)) (xx ve) xI)
  (xj (xN xq)
  (xj (xN (xy (xV xa (xw xa xt))))
  (xj (xN (xy (xV xa (xw xa (wM xt)))))
  (xj (yh (zB (yQ (sH xa)) (yQ (sH xa))) (xx ve) xI)
  (xx (lX (xi bF (xy (xw xa xa)) xt) (xy (xw xa xa))))))))),fun ts KK hl h=>?_⟩)
 obtain⟨rows,rfl,hx,k⟩:=h
 cases rows with
 | nil=>exact k
 | cons r t =>
  have hr:=hx r xiL
  refine⟨r,r::t,1,rfl,.inl rfl,hr,hx,r,r::t,-1,rfl,.inr rfl,hr,hx,?_⟩
  have e:Pol.wX (r::t)=match Pol.far r 1 (r::t),Pol.far r (-1) (r::t) with
   | some l,some k=>decide (0<Pol.turn l k) || Pol.back r (r::t)
   | _,_=>false:=rfl
  rw[e] at k
  cases e1:Pol.far r 1 (r::t) with
  | none=>rw[e1] at k;exact k
  | some l =>
   cases e2:Pol.far r (-1) (r::t) with
   | none=>rw[e1,e2] at k;exact k
   | some q =>
    rw[e1,e2] at k
    have hl2:=hx l (Pol.qR e1).mem
    have hq2:=hx q (Pol.qR e2).mem
    refine⟨l.1,l.2.1,q.1,q.2.1,_,_,rfl,⟨⟨hl2.1.1.bd,hl2.1.2.bd⟩,hq2.1.1.bd,hq2.1.2.bd⟩,?_⟩
    have k:KK (.bl (decide (0<Pol.turn l q) || Pol.back r (r::t))):=k
    refine x_ (b:=decide (0<Pol.turn l q)) (fun c=>?_) (fun c=>?_)
    ·rw[c] at k;exact k
    ·rw[c,Bool.false_or] at k
     exact⟨r,r::t,rfl,hr,hx,k⟩
theorem bf (B:Blt mg bn)(F:Fun K "furthest" "furthest" jF f fd)(m:mg "furthest" = some (.ref f))(b:Binds K fd ["first", "rows", "sign"] [])(yl:Own P w K mg base 1 "turn_to" ["one", "other"] (spT 2 false false bz)) :
  Own P w K mg base 2 "furthest" ["first", "rows", "sign"] (spT 3 false false mM):=by
 refine xB F vC m b rfl (fun _ _ _ _ _ _ hr=>⟨_,_,
  (xc (yC 3 vC.nd gY)
  (xc (zM PassesOwn.never rfl (yN K (pv 1)) (yB 4 vC.nd) (xh (yJ (PW.pt (rO (xQ nI (xD xM (pv 2) (xm yl hr (xW (pv 0) (pv 4)))) xf (xR _)) (g9 (PW.pt (uI (kh (dW (pv 3))) (wR (xQ nI (xD xM (pv 2) (xm yl hr (xW (pv 3) (pv 4)))) xf (xR _)))))))) (xh (yC 3 vC.nd (pv 4))) xT)))
  (xh (xF (pv 3))))),
  (xj (xN (xa2 (t:=Tr.non)))
  (xj (yY (yt xa) xk.g (yh (fH (xG (xi bF (xi yb xa (xy (xw xa xa))) xt)) (zB (yQ (sH xa)) (xG (xi bF (xi yb xa (xy (xw xa xa))) xt)))) (xN xa) xI))
  (xx xa))),fun ts KK hl h=>?_⟩)
 obtain⟨r,rows,s,rfl,hs,hr,hx,k⟩:=h
 have tb:∀ {p q:Pol.R3},B3k 900 p→B3k 900 q→Bk 1801 (Pol.turn p q):=fun hp hq=>(hp.1.1.mul hq.1.2).sub (hp.1.2.mul hq.1.1)
 have sb:Bd s:=by rcases hs with rfl | rfl<;>exact xas (by decide) (by decide)
 refine ud (all:=rows.map trR) (fun i τ=>∃x4,τ=[.fz (trR r),.fz (.tup (rows.map trR)),.fz (.int s),.fz (xfJ ((rows.take i).foldl (Pol.zS r s) none)),x4]∧∀y,(rows.take i).foldl (Pol.zS r s) none=some y→B3k 900 y) ⟨_,rfl,fun y hy=>by cases hy⟩ ?_ ?_
 ·rintro i x τ N hxi ⟨x4,rfl,hb⟩ hN
  obtain⟨y,hyi,rfl⟩:=wx hxi
  have hy:=hx y (xiR hyi)
  have fold:=Pol.um (Pol.zS r s) none hyi
  generalize hacc:(rows.take i).foldl (Pol.zS r s) none=acc at fold hb ⊢
  have leaf:∀o:Option Pol.R3,o=Pol.zS r s acc y→N [.fz (trR r),.fz (.tup (rows.map trR)),.fz (.int s),.fz (xfJ o),.fz (trR y)]:=fun o e=>by
   rw[fold] at hN
   refine hN _ ⟨_,by rw[e],?_⟩
   ·unfold Pol.zS
    split
    ·intro z hz;cases hz;exact hy
    ·exact hb
  refine⟨r.1,r.2.1,y.1,y.2.1,_,_,rfl,⟨⟨hr.1.1.bd,hr.1.2.bd⟩,hy.1.1.bd,hy.1.2.bd⟩,⟨sb,(tb hr hy).bd⟩,?_⟩
  refine x_ (b:=decide (0<s*Pol.turn r y)) (fun c=>?_) (fun c=>?_)
  ·have c:=xjv c
   cases acc with
   | none=>exact leaf (some y) (by unfold Pol.zS;rw[if_pos ⟨c,rfl⟩])
   | some z =>
    have hz:=hb z rfl
    refine⟨z.1,z.2.1,y.1,y.2.1,_,_,rfl,⟨⟨hz.1.1.bd,hz.1.2.bd⟩,hy.1.1.bd,hy.1.2.bd⟩,⟨sb,(tb hz hy).bd⟩,?_⟩
    refine x_ (b:=decide (0<s*Pol.turn z y)) (fun d=>?_) (fun d=>?_)
    ·exact leaf (some y) (by unfold Pol.zS;rw[if_pos ⟨c,d⟩])
    ·refine leaf (some z) ?_
     unfold Pol.zS
     rw[if_neg (fun w=>by have w2:decide (0<s*Pol.turn z y)=true:=w.2;rw[d] at w2;cases w2)]
  ·have c:=xju c
   exact leaf acc (by unfold Pol.zS;rw[if_neg fun w=>c w.1])
 ·rintro τ ⟨x4,rfl,_⟩
  rw[xit,xi9 (xjd _)]
  exact k
theorem dw (B:Blt mg bn)(F:Fun K "points_back" "points_back" vq f fd)(m:mg "points_back" = some (.ref f))(b:Binds K fd ["first", "rows"] [])(yl:Own P w K mg base 1 "turn_to" ["one", "other"] (spT 2 false false bz)) :
  Own P w K mg base 2 "points_back" ["first", "rows"] (spT 2 false false xe3):=by
 refine xB F kg m b rfl (fun _ _ _ _ _ _ hr=>⟨_,_,
  (xc (zM PassesOwn.never rfl (yN K (pv 1)) (yB 2 kg.nd) (xh (yJ (PW.pt (rO (xQ (wj hr.units) (xm yl hr (xW (pv 0) (pv 2))) xf (xR _)) (g9 (xQ (jb K hr.units) (xD zd (xD xM (xo K 0) (xo K 2)) (xD xM (xo K 0) (xo K 2))) xf (xR _))))) (xh (xF uF)) xT)))
  (xh (xF uF))),
  (xj (yY (yt xa) xk.g (yh (fH (xG (xi os_eq (xy (xw xa xa)) xt)) (xG (xi kX (xi zH (xi yb xq xq) (xi yb xq xq)) xt))) (xx ve) xI))
  (xx ve)),fun ts KK hl h=>?_⟩)
 obtain⟨r,rows,rfl,hr,hx,k⟩:=h
 refine ud (all:=rows.map trR) (fun i τ=>∃x2,τ=[.fz (trR r),.fz (.tup (rows.map trR)),x2]∧∀y∈rows.take i,¬(Pol.turn r y=0∧Pol.dot r y<0)) ⟨_,rfl,fun y hy=>by simp at hy⟩ ?_ ?_
 ·rintro i x τ N hxi ⟨x2,rfl,hb⟩ hN
  obtain⟨y,hyi,rfl⟩:=wx hxi
  have hym:=xiR hyi
  have hy:=hx y hym
  have leaf:¬(Pol.turn r y=0∧Pol.dot r y<0)→N [.fz (trR r),.fz (.tup (rows.map trR)),.fz (trR y)]:=fun c=>hN _ ⟨_,rfl,fun z hz=>by
   rw[xi_,hyi] at hz
   rcases xiG.mp hz with q | q
   ·exact hb z q
   ·have:z=y:=by simpa using q
    rw[this];exact c⟩
  refine⟨r.1,r.2.1,y.1,y.2.1,_,_,rfl,⟨⟨hr.1.1.bd,hr.1.2.bd⟩,hy.1.1.bd,hy.1.2.bd⟩,?_⟩
  refine x_ (b:=decide (Pol.turn r y=0)) (fun c=>?_) (fun c=>?_)
  ·have c:=xjv c
   refine⟨⟨hr.1.1.bd,hy.1.1.bd⟩,⟨hr.1.2.bd,hy.1.2.bd⟩,?_⟩
   refine x_ (b:=decide (Pol.dot r y<0)) (fun d=>?_) (fun d=>?_)
   ·have d:=xjv d
    have:Pol.back r rows=true:=by unfold Pol.back;rw[xh5];exact⟨y,hym,by simp[c,d]⟩
    rw[this] at k
    exact k
   ·have d:=xju d
    exact leaf fun w=>d w.2
  ·have c:=xju c
   exact leaf fun w=>c w.1
 ·rintro τ ⟨x2,rfl,hb⟩
  rw[xit,xi9 (xjd _)] at hb
  have:Pol.back r rows=false:=by
   unfold Pol.back
   rw[List.any_eq_false]
   intro y hy w
   simp at w
   exact hb y hy w
  rw[this] at k
  exact k
theorem nX (B:Blt mg bn)(F:Fun K "is_field" "is_field" vg f fd)(m:mg "is_field" = some (.ref f))(b:Binds K fd ["thing"] [])(jT:Own P w K mg base 3 "go_round" ["rows"] (spT 1 false false cK))(gL:Own P w K mg base 1 "is_near" ["place"] (spT 1 false false xap))(ze:Own P w K mg base 6 "corners_left" ["rows"] (spT 1 false true qg))(u9:Own P w K mg base 4 "is_field_row" ["thing"] (spT 1 false false fR)) :
  Own P w K mg base 7 "is_field" ["thing"] (spT 1 false false cj):=by
 refine xB F mU m b rfl (fun _ _ _ _ _ _ hr=>⟨_,_,
  (xc (yJ (PW.pt (uI (wm (zP (xO uJ rfl (B.get "isinstance") yW (xW (pv 0) (qv (v:=V.ty "tuple") rfl (B.get "tuple") y3 rfl))))) (wR (wm (xbx dO dO xf (xO (yZ K) rfl (B.get "len") vh (yX (pv 0))) xf))))) (xh (xF uF)) xT)
  (xc (yJ (PW.pt (uI (wm (zP (xO (vf K rfl) rfl (B.get "all") rQ (yX (zL (yi (N:=["row"]) (tau:=[none]) (XN:=["thing"]) (xs:=xg vg) (by decide +kernel) rfl rfl) rfl (zm rfl) (yN K (pv 0)) (fun _ _ _ _=>(xY (i:=0) (show(["row"]:List Str).Nodup by decide +kernel) rfl (Or.inl rfl))) (fun _ _ _ _=>yR) (fun _ _ _ _=>(xm u9 hr (yX (pv 0))))))))) (wR (wm (zP (xm jT hr (yX (pv 0)))))))) (xh (xF uF)) xT)
  (xh (xF (xO (vf K rfl) rfl (B.get "all") rQ (yX (zL (yi (N:=["place"]) (tau:=[none]) (XN:=["thing"]) (xs:=xg vg) (by decide +kernel) rfl rfl) rfl (zm rfl) (yN K (xm ze hr (yX (pv 0)))) (fun _ _ _ _=>(xY (i:=0) (show(["place"]:List Str).Nodup by decide +kernel) rfl (Or.inl rfl))) (fun _ _ _ _=>yR) (fun _ _ _ _=>(xm gL hr (yX (pv 0))))))))))),
  (xj (yh (zB (zo (yQ (j9 xa))) (zo (xG (xbB dm dm xt (yF qF (xS xa)) xt)))) (xx ve) xI)
  (xj (yh (zB (zo (yQ (yF fX (xS (OkF.e (yq (yt xa).c xk yz (xy (xS xa)))))))) (zo (yQ (xy (xS xa))))) (xx ve) xI)
  (xx (yF fX (xS (OkF.e (yq (yt (xy (xS xa))).c xk yz (xy (xS xa))))))))),fun ts KK hl h=>?_⟩)
 obtain⟨t,rfl,k⟩:=h
 cases t with
 | tup us =>
  refine x_ (b:=decide ((3:Int)≤us.length)) (fun c1=>?_) (fun c1=>?_)
  ·have c1:=xjv c1
   refine x_ (b := !decide ((us.length:Int)≤8)) (fun c2=>?_) (fun c2=>?_)
   ·have c2:8<us.length:=by simp at c2;omega
    have e:isField (.tup us)=false:=by
     show(match rowsOf us with | some rows=>xn rows | none=>false)=false
     cases e:rowsOf us with
     | none=>rfl
     | some rows =>
      show xn rows=false
      unfold xn
      rw[vP e,xit] at c2
      rw[xjr (by omega)];rfl
    rw[e] at k
    exact k
   ·have c2:us.length≤8:=by simp at c2;omega
    refine⟨sqz (by omega),vv (fun x=>.bl (zf x)) (fun x _ N hN=>⟨x,rfl,hN⟩) ⟨us.map zf,by rw[xiE];rfl,?_⟩⟩
    rw[List.all_map]
    show if (!us.all zf)=true then _ else _
    refine x_ (fun c=>?_) (fun c=>?_)
    ·rw[og (by simpa using c)] at k
     exact k
    ·have c:us.all zf=true:=by simpa using c
     obtain⟨rows,rfl,hrows⟩:=n6 c
     rw[xit] at c1 c2
     have ea:(rows.all fun r=>decide ((r.1≠0∨r.2.1≠0)∧Pol.mO r))=true:=by
      rw[xh4];intro r hr;exact xjs (hrows r hr)
     have ef:isField (.tup (rows.map trR))=(Pol.wX rows&&(Pol.pieces rows).all sY):=by
      show(match rowsOf (rows.map trR) with | some rows=>xn rows | none=>false)=_
      rw[jV]
      show xn rows=_
      unfold xn
      rw[ea,xjs (by omega)];simp
     rw[ef] at k
     have ok:v9 rows:=⟨fun r hr=>(hrows r hr).1,fun r hr=>dQ (hrows r hr).2,by omega⟩
     refine⟨rows,rfl,fun r hr=>(ok.sm r hr).mono (by decide),?_⟩
     refine x_ (b := !Pol.wX rows) (fun d=>?_) (fun d=>?_)
     ·have d:Pol.wX rows=false:=by simpa using d
      rw[d] at k
      exact k
     ·have d:Pol.wX rows=true:=by simpa using d
      rw[d,xhs] at k
      have sm:=ok.small rows.length
      have pl:=ok.plen rows.length
      rw[xi9 (xjd _)] at sm pl
      refine⟨_,rows,rfl,.inl rfl,ok,?_,?_⟩
      ·rw[xit,vS];exact sqz (by have:(Pol.pieces rows).length≤100000:=pl;omega)
      ·refine vv (fun x=>match x with | .tup [.tup [.int n,.int d],.tup [.int n2,.int d2]]=>.bl (nearF n d&&nearF n2 d2) | _=>.non) (fun x hx N hN=>?_) ?_
       ·obtain⟨v,hv,rfl⟩:=xiP.mp hx
        have hb:=sm v (ue hv)
        have ld:∀i,Bd (sJ i v.2.2):=fun i=>xdl hb.2 hb.1.2.bd
        refine⟨[(rR v.1 v.2.2,sJ v.1 v.2.2),(rR v.2.1 v.2.2,sJ v.2.1 v.2.2)],rfl,(show(2:Nat)≤1000 by decide),fun f hf=>?_,?_⟩
        ·simp only[xiJ,xiZ,xjw] at hf
         rcases hf with rfl | rfl<;>exact ld _
        ·have e:([(rR v.1 v.2.2,sJ v.1 v.2.2),(rR v.2.1 v.2.2,sJ v.2.1 v.2.2)].all fun f=>nearF f.1 f.2)=(nearF (rR v.1 v.2.2) (sJ v.1 v.2.2)&&nearF (rR v.2.1 v.2.2) (sJ v.2.1 v.2.2)):=by simp
         rw[e];exact hN
       ·refine⟨(yp (Pol.pieces rows)).map sY,by rw[xiE,xiE];rfl,?_⟩
        rw[List.all_map]
        have e:=aS sY (Pol.pieces rows)
        show KK (.bl ((yp (Pol.pieces rows)).all sY))
        rw[e];exact k
  ·have c1:us.length<3:=by have:=xju c1;omega
   have e:isField (.tup us)=false:=by
    show(match rowsOf us with | some rows=>xn rows | none=>false)=false
    cases e:rowsOf us with
    | none=>rfl
    | some rows =>
     show xn rows=false
     unfold xn
     rw[vP e,xit] at c1
     rw[xjr (by omega)];rfl
   rw[e] at k
   exact k
 | _=>exact k
theorem gT (B:Blt mg bn)(F:Fun K "is_field_row" "is_field_row" uS f fd)(m:mg "is_field_row" = some (.ref f))(b:Binds K fd ["thing"] [])(qJ:Own P w K mg base 3 "is_row" ["thing"] (spT 1 false false xaO)) :
  Own P w K mg base 4 "is_field_row" ["thing"] (spT 1 false false fR):=by
 refine xB F zW m b rfl (fun _ _ _ _ _ _ hr=>⟨_,_,
  (xc (yJ (wm (zP (xm qJ hr (yX (pv 0))))) (xh (xF uF)) xT)
  (xc (zC (pv 0) (yr K (n:=3) rfl (xr (yB 1 zW.nd) (xr (yB 2 zW.nd) (xr (yB 3 zW.nd) yo)))))
  (xh (xF (fZ (zj dO (xO zI rfl (B.get "abs") vW (yX (pv 1))) xf (xR _)) (fZ (zj dO (xO zI rfl (B.get "abs") vW (yX (pv 2))) xf (xR _)) (fc (zj dO (xO zI rfl (B.get "abs") vW (yX (pv 3))) xf (xR _))))))))),
  (xj (yh (zo (yQ (xy (xS xa)))) (xx ve) xI)
  (xj (y_ xa (yw (xl xk (xl xk (xl xk ye)))).g)
  (xx (kQ (xi dm (yF vX (xS xa)) xt) (kQ (xi dm (yF vX (xS xa)) xt) (xi dm (yF vX (xS xa)) xt)))))),fun ts KK hl h=>?_⟩)
 obtain⟨t,rfl,k⟩:=h
 refine⟨t,rfl,?_⟩
 unfold fh
 unfold zf at k
 cases e:gg t with
 | none=>rw[e] at k;exact k
 | some r =>
  rw[e] at k
  cases qK e
  have k:KK (.bl (decide ((r.1≠0∨r.2.1≠0)∧Pol.mO r))):=k
  refine x_ (b := !decide (r.1≠0∨r.2.1≠0)) (fun c=>?_) (fun c=>?_)
  ·have c:¬(r.1≠0∨r.2.1≠0):=by simpa using c
   rw[xjr fun w=>c w.1] at k
   exact k
  ·have c:r.1≠0∨r.2.1≠0:=by simp at c;omega
   refine⟨rfl,?_⟩
   have ab:∀i m:Int,(if i<0 then -i else i)≤m↔-m≤i∧i≤m:=fun i m=>by split<;>omega
   refine x_ (b:=decide ((if r.1<0 then -r.1 else r.1)≤30)) (fun d=>?_) (fun d=>?_)
   ·have d:=(ab _ _).mp (xjv d)
    refine x_ (b:=decide ((if r.2.1<0 then -r.2.1 else r.2.1)≤30)) (fun d2=>?_) (fun d2=>?_)
    ·have d2:=(ab _ _).mp (xjv d2)
     show KK (.bl (decide ((if r.2.2<0 then -r.2.2 else r.2.2)≤1000)))
     have e3:decide ((r.1≠0∨r.2.1≠0)∧Pol.mO r)=decide ((if r.2.2<0 then -r.2.2 else r.2.2)≤1000):=by
      rw[decide_eq_decide,ab]
      exact⟨fun w=>w.2.2,fun w=>⟨c,⟨d,d2⟩,w⟩⟩
     rw[←e3];exact k
    ·have d2:=fun w=>xju d2 ((ab _ _).mpr w)
     rw[xjr fun w=>d2 w.2.1.2] at k
     exact k
   ·have d:=fun w=>xju d ((ab _ _).mpr w)
    rw[xjr fun w=>d w.2.1.1] at k
    exact k
theorem pU (B:Blt mg bn)(F:Fun K "is_near" "is_near" jd f fd)(m:mg "is_near" = some (.ref f))(b:Binds K fd ["place"] [])  :
  Own P w K mg base 1 "is_near" ["place"] (spT 1 false false xap):=by
 refine xB F pJ m b rfl (fun _ _ _ _ _ _ hr=>⟨_,_,
  (xh (xF (xO (vf K rfl) rfl (B.get "all") rQ (yX (zL (yi (N:=["top", "bottom"]) (tau:=[none,none]) (XN:=["place"]) (xs:=xg jd) (by decide +kernel) rfl rfl) rfl (wN (yO rfl (yO rfl qr))) (yN K (pv 0)) (fun _ _ _ _=>(yr K (n:=2) rfl (xr (xY (i:=0) (show(["top", "bottom"]:List Str).Nodup by decide +kernel) rfl (Or.inl rfl)) (xr (xY (i:=1) (show(["top", "bottom"]:List Str).Nodup by decide +kernel) rfl (Or.inl rfl)) yo)))) (fun _ _ _ _=>yR) (fun _ _ _ _=>(zj dO (xO zI rfl (B.get "abs") vW (yX (pv 0))) (xD xM xf (pv 1)) (xR _)))))))),
  (xx (yF fX (xS (OkF.e (yq (yt xa).c (yw (xl xk (xl xk ye))) yz (xi dm (yF vX (xS xa)) (xi yb xt xa))))))),fun ts KK hl h=>?_⟩)
 obtain⟨fs,rfl,hz,hb,k⟩:=h
 refine⟨by rw[xit];exact sqz (by omega),?_⟩
 have ab:∀i m:Int,decide ((if i<0 then -i else i)≤12*m)=nearF i m:=fun i m=>by
  unfold nearF
  rw[decide_eq_decide];split<;>omega
 refine vv (fun x=>match x with | .tup [.int n,.int d]=>.bl (nearF n d) | _=>.non) (fun x hx N hN=>?_) ?_
 ·obtain⟨f,hf,rfl⟩:=xiP.mp hx
  refine⟨rfl,⟨xas (by decide) (by decide),hb f hf⟩,?_⟩
  show N (.bl (decide ((if f.1<0 then -f.1 else f.1)≤12*f.2)))
  rw[ab];exact hN
 ·refine⟨fs.map fun f=>nearF f.1 f.2,by rw[xiE,xiE];rfl,?_⟩
  rw[List.all_map];exact k
theorem rC (B:Blt mg bn)(F:Fun K "need_field" "need_field" v8 f fd)(m:mg "need_field" = some (.ref f))(b:Binds K fd ["thing"] [])(jz:Own P w K mg base 7 "is_field" ["thing"] (spT 1 false false cj)) :
  Own P w K mg base 8 "need_field" ["thing"] (spT 1 false false qW):=by
 refine xB F aj m b rfl (fun _ _ _ _ _ _ hr=>⟨_,_,
  (xh (yJ (wm (zP (xm jz hr (yX (pv 0))))) (xh ji) xT)),
  (yh (zo (yQ (xy (xS xa)))) qq xI),fun ts KK hl h=>?_⟩)
 obtain⟨t,rfl,hf,k⟩:=h
 refine⟨t,rfl,?_⟩
 rw[hf]
 exact⟨rfl,k⟩
theorem pS (B:Blt mg bn)(F:Fun K "corners" "corners" fW f fd)(m:mg "corners" = some (.ref f))(b:Binds K fd ["field"] [])(yS:Own P w K mg base 8 "need_field" ["thing"] (spT 1 false false qW))(ze:Own P w K mg base 6 "corners_left" ["rows"] (spT 1 false true qg)) :
  Own P w K mg base 9 "corners" ["field"] (spT 1 false true gB):=by
 refine xB F oE m b rfl (fun _ _ _ _ _ _ hr=>⟨_,_,
  (xc (u6 (xm yS hr (yX (pv 0))))
  (xh (xF (xm ze hr (yX (pv 0)))))),
  (xj (aF (xy (xS xa)))
  (gC (xaR (xS xa)))),fun ts KK hl h=>?_⟩)
 obtain⟨rows,rfl,hf,FR,k⟩:=h
 exact⟨_,rfl,kE hf,_,rows,rfl,.inl rfl,FR.rows,k⟩
theorem h_ (B:Blt mg bn)(F:Fun K "tight_numbers" "tight_numbers" wg f fd)(m:mg "tight_numbers" = some (.ref f))(b:Binds K fd ["rows", "place"] [])(jD:Own P w K mg base 5 "is_tight" ["row", "place"] (spT 2 false false bY)) :
  Own P w K mg base 6 "tight_numbers" ["rows", "place"] (spT 2 false false sE):=by
 refine xB F h8 m b rfl (fun _ _ _ _ _ _ hr=>⟨_,_,
  (xh (xF (wc (y4 K) rfl (B.get "tuple") y3 (yX (zL (yi (N:=["number", "row", "place"]) (tau:=[none,none,some 1]) (XN:=["rows", "place"]) (xs:=xg wg) (by decide +kernel) rfl rfl) rfl (wN (yO rfl (yO rfl qr))) (m_ K rfl (B.get "enumerate") (yX (pv 0))) (fun _ _ _ _=>(yr K (n:=2) rfl (xr (xY (i:=0) (show(["number", "row", "place"]:List Str).Nodup by decide +kernel) rfl (Or.inl rfl)) (xr (xY (i:=1) (show(["number", "row", "place"]:List Str).Nodup by decide +kernel) rfl (Or.inl rfl)) yo)))) (fun _ _ _ _=>(aV (zP (xm jD hr (xW (pv 1) (pv 2)))))) (fun _ _ _ _=>(pv 0))))))),
  (xx (qM (xS (OkF.e (yq (sT (xS xa)).c (yw (xl xk (xl xk ye))) (yQ (xy (xw xa xa))) xa))))),fun ts KK hl h=>?_⟩)
 obtain⟨rows,p,rfl,hl',hr,hp,k⟩:=h
 refine⟨by rw[jf];exact sqz (by omega),?_⟩
 rw[xaM trR rows (0,0,0)]
 refine uO (fun i=>gW (rows.getD i (0,0,0)) p) mR (fun i hi N M h1 h0=>?_) ?_
 ·exact⟨rfl,_,_,rfl,hr _ (getD_mem _ (xiU.mp hi)),hp,x_ h1 h0⟩
 ·exact k
theorem mW (B:Blt mg bn)(F:Fun K "greatest" "greatest" jN f fd)(m:mg "greatest" = some (.ref f))(b:Binds K fd ["field", "a", "b"] [])(wd:Own P w K mg base 9 "corners" ["field"] (spT 1 false true gB))(jR:Own P w K mg base 4 "value" ["row", "place"] (spT 2 false false lU))(fM:Own P w K mg base 1 "is_less" ["one", "other"] (spT 2 false false lH)) :
  Own P w K mg base 10 "greatest" ["field", "a", "b"] (spT 3 false false rV):=by
 refine xB F uw m b rfl (fun _ _ _ _ _ _ hr=>⟨_,_,
  (xc (yC 3 uw.nd gY)
  (xc (zM PassesOwn.never rfl (yN K (xm wd hr (yX (pv 0)))) (yB 4 uw.nd) (xc (yC 5 uw.nd (xm jR hr (xW (yc (xZ (pv 1) (xW (pv 2) xf))) (pv 4))))
  (xh (yJ (PW.pt (uI (kh (dW (pv 3))) (wR (zP (xm fM hr (xW (pv 3) (pv 5))))))) (xh (yC 3 uw.nd (pv 5))) xT))))
  (xh (xF (pv 3))))),
  (xj (xN (xa2 (t:=Tr.non)))
  (xj (yY (yt (xy (xS xa))) xk.g (xj (xN (xy (xw (yd (b:=true) (xV xa (xw xa xt))) xa)))
  (yh (zB (yQ (sH xa)) (yQ (xy (xw xa xa)))) (xN xa) xI)))
  (xx xa))),fun ts KK hl h=>?_⟩)
 obtain⟨rows,a,c,rfl,hf,FR,ha,hc,k⟩:=h
 refine xK (fun τ=>τ=[.fz (.tup (rows.map trR)),.fz (.int a),.fz (.int c),.fz .non,.un,.un]) ?_ (fun N hN=>hN _ rfl)
 rintro _ rfl
 refine xK (fun τ=>∃x4 x5:TV,τ=[.fz (.tup (rows.map trR)),.fz (.int a),.fz (.int c),.fz (xef (kj a c ((zR rows).map plc))),x4,x5]) ?_ (fun N hN=>?_)
 ·rintro _ ⟨x4,x5,rfl⟩
  exact k
 refine zU ((zR rows).map sk) (fun i τ=>∃x4 x5:TV,τ=[.fz (.tup (rows.map trR)),.fz (.int a),.fz (.int c),.fz (xef (kj a c (((zR rows).map plc).take i))),x4,x5]) (fun KK h=>⟨rows,rfl,hf,FR,h⟩) ⟨_,_,rfl⟩ ?_ (fun τ ⟨x4,x5,e⟩=>hN _ ⟨x4,x5,by rw[e,xit,xi9 (by rw[xit];exact xjd _)]⟩)
 rintro i x τ N2 hx ⟨x4,x5,rfl⟩ hN2
 obtain⟨v,hv,rfl⟩:=wx hx
 have hvm:=xiR hv
 have fold:=ny a c (show((zR rows).map plc)[i]? = some (plc v) by rw[xil,hv];rfl)
 have fk:=rW (a:=a) (b:=c) ha hc (ps:=((zR rows).map plc).take i) (fun p hp=>FR.pkm (xiS hp))
 have vk:Fk 1000 (vY (a,c,0) (plc v)):=cU ha hc (FR.pk2 hvm)
 refine⟨a,c,[.int 0],plc v,rfl,ha.mono (by decide),hc.mono (by decide),FR.pk hvm,?_⟩
 cases e:kj a c (((zR rows).map plc).take i) with
 | none =>
  rw[e] at fold
  exact hN2 _ ⟨_,_,by rw[fold];rfl⟩
 | some f =>
  rw[e] at fold
  refine⟨f,_,rfl,(fk f e).mono (by decide),vk.mono (by decide),?_⟩
  refine x_ (b:=tJ f (vY (a,c,0) (plc v))) (fun d=>hN2 _ ⟨_,_,by rw[fold,xcI d];rfl⟩) (fun d=>hN2 _ ⟨_,_,by rw[fold,xeh d];rfl⟩)
end
end K12
namespace K12
open PySem L2 Trn
section
variable {P:Program} {w:World} {K:PySem.W.Frag} {mg:Str→Option Value} {base:Heap} {f:Addr} {fd:FuncData}
theorem xbq (B:Blt mg bn)(F:Fun K "parts" "parts" nE f fd)(m:mg "parts" = some (.ref f))(b:Binds K fd ["one", "other", "thing"] [])(kD:Own P w K mg base 2 "need_turn" ["one", "other"] (spT 2 false false mI))(uY:Own P w K mg base 3 "is_direction" ["thing"] (spT 1 false false xcy))(yl:Own P w K mg base 1 "turn_to" ["one", "other"] (spT 2 false false bz))(yV:Own P w K mg base 2 "lowest" ["top", "bottom"] (spT 2 false false xdY)) :
  Own P w K mg base 4 "parts" ["one", "other", "thing"] (spT 3 false false xch):=by
 refine xB F aH m b rfl (fun _ _ _ _ _ _ hr=>⟨_,_,
  (xc (yC 3 aH.nd (xm kD hr (xW (pv 0) (pv 1))))
  (xc (yJ (wm (zP (xm uY hr (yX (pv 2))))) (xh (xF gY)) xT)
  (xc (sN (i:=4) (j:=5) rfl aH.nd rfl rfl (by decide) rfl rfl (xW (xm yl hr (xW (pv 2) (pv 1))) (xm yl hr (xW (pv 0) (pv 2)))) (by rfl))
  (xc (yJ (PW.pt (uI (xQ (jb K hr.units) (pv 4) xf (xR _)) (wR (xQ (jb K hr.units) (pv 5) xf (xR _))))) (xh (xF gY)) xT)
  (xh (xF (yc (xW (xm yV hr (xW (pv 4) (pv 3))) (xm yV hr (xW (pv 5) (pv 3))))))))))),
  (xj (xN (xy (xw xa xa)))
  (xj (yh (zo (yQ (xy (xS xa)))) (xx (xa2 (t:=Tr.non))) xI)
  (xj (jw (xw (xy (xw xa xa)) (xy (xw xa xa))))
  (xj (yh (zB (xG (xi kX xa xt)) (xG (xi kX xa xt))) (xx (xa2 (t:=Tr.non))) xI)
  (xx (yd (b:=true) (xw (xy (xw xa xa)) (xy (xw xa xa))))))))),fun ts KK hl h=>?_⟩)
 obtain⟨a,b',c,d,t,rfl,hl2,hs,hd,hp,k⟩:=h
 refine⟨a,b',c,d,rfl,hl2,hp,?_⟩
 refine⟨t,rfl,hs,?_⟩
 have no:kl t=false→ka a b' c d t=.non:=fun e=>by
  unfold ka
  split
  ·rename_i x y
   have:x=0∧y=0:=by simp[kl] at e;omega
   rw[if_pos this]
  ·rfl
 refine x_ (b := !kl t) (fun e=>?_) (fun e=>?_)
 ·rw[no (by simpa using e)] at k
  exact k
 have e:kl t=true:=by simpa using e
 obtain⟨x,y,rfl⟩:=ff e
 have nz:¬(x=0∧y=0):=fun z=>by simp[kl,drT,z.1,z.2] at e
 obtain⟨hx,hy⟩:L24 x∧L24 y:=hd
 refine⟨x,y,c,d,[],[],rfl,⟨⟨hx.bd,hy.bd⟩,hl2.2.1.bd,hl2.2.2.bd⟩,a,b',x,y,[],[],rfl,⟨⟨hl2.1.1.bd,hl2.1.2.bd⟩,hx.bd,hy.bd⟩,?_⟩
 have kk:KK (if tn x y c d<0∨tn a b' x y<0 then .non else .tup [xam (tn x y c d) (tn a b' c d),xam (tn a b' x y) (tn a b' c d)]):=by
  have e1:ka a b' c d (drT x y)=_:=(if_neg nz)
  rw[e1] at k;exact k
 refine x_ (b:=decide (tn x y c d<0)) (fun e1=>?_) (fun e1=>?_)
 ·rw[if_pos (.inl (xjv e1))] at kk
  exact kk
 refine x_ (b:=decide (tn a b' x y<0)) (fun e2=>?_) (fun e2=>?_)
 ·rw[if_pos (.inr (xjv e2))] at kk
  exact kk
 rw[if_neg (by have:=xju e1;have:=xju e2;omega)] at kk
 have hb:=xfA hl2
 exact⟨_,_,rfl,by omega,hb,_,_,rfl,by omega,hb,kk⟩
theorem rP (B:Blt mg bn)(F:Fun K "need_turn" "need_turn" kF f fd)(m:mg "need_turn" = some (.ref f))(b:Binds K fd ["one", "other"] [])(yl:Own P w K mg base 1 "turn_to" ["one", "other"] (spT 2 false false bz)) :
  Own P w K mg base 2 "need_turn" ["one", "other"] (spT 2 false false mI):=by
 refine xB F hJ m b rfl (fun _ _ _ _ _ _ hr=>⟨_,_,
  (xc (yC 2 hJ.nd (xm yl hr (xW (pv 0) (pv 1))))
  (xc (yJ (xQ dO (pv 2) xf (xR _)) (xh ji) xT)
  (xh (xF (pv 2))))),
  (xj (xN (xy (xw xa xa)))
  (xj (yh (xG (xi dm xa xt)) qq xI)
  (xx xa))),fun ts KK hl h=>?_⟩)
 obtain⟨a,b',c,d,rfl,hl2,hp,k⟩:=h
 refine⟨a,b',c,d,[],[],rfl,⟨⟨hl2.1.1.bd,hl2.1.2.bd⟩,hl2.2.1.bd,hl2.2.2.bd⟩,?_⟩
 exact x_ (b:=decide (tn a b' c d≤0)) (fun e=>by have:=xjv e;omega) (fun _=>k)
theorem gX (B:Blt mg bn)(F:Fun K "is_direction" "is_direction" uQ f fd)(m:mg "is_direction" = some (.ref f))(b:Binds K fd ["thing"] [])(wD:Own P w K mg base 2 "are_whole" ["things"] (spT 1 false false fN)) :
  Own P w K mg base 3 "is_direction" ["thing"] (spT 1 false false xcy):=by
 refine xB F gZ m b rfl (fun _ _ _ _ _ _ hr=>⟨_,_,
  (xc (yJ (PW.pt (uI (wm (zP (xO uJ rfl (B.get "isinstance") yW (xW (pv 0) (qv (v:=V.ty "tuple") rfl (B.get "tuple") y3 rfl))))) (uI (xQ (zY hr.units) (xO (yZ K) rfl (B.get "len") vh (yX (pv 0))) xf (xR _)) (wR (wm (zP (xm wD hr (yX (pv 0))))))))) (xh (xF uF)) xT)
  (xh (xF (xcS (zj (zY hr.units) (xo K 0) xf (xR _)) (fc (zj (zY hr.units) (xo K 0) xf (xR _))))))),
  (xj (yh (zB (zo (yQ (j9 xa))) (zB (xG (xi vO (yF qF (xS xa)) xt)) (zo (yQ (xy (xS xa)))))) (xx ve) xI)
  (xx (lX (xi vO xq xt) (xi vO xq xt)))),fun ts KK hl h=>?_⟩)
 obtain⟨t,rfl,hs,k⟩:=h
 cases t with
 | tup us =>
  refine x_ (b := !decide ((us.length:Int)=2)) (fun c=>?_) (fun c=>?_)
  ·have c:¬(us.length:Int)=2:=by simpa using c
   have e:kl (.tup us)=false:=by
    refine Bool.eq_false_iff.mpr fun h=>?_
    obtain⟨x,y,z⟩:=ff h
    injection z with z
    rw[z] at c
    exact c rfl
   rw[e] at k
   exact k
  ·have c:us.length=2:=by simp at c;omega
   obtain⟨x,y,rfl⟩:∃x y,us=[x,y]:=by
    match us,c with
    | [x,y],_=>exact⟨x,y,rfl⟩
   refine⟨_,rfl,_,.inl rfl,hs _ rfl,?_⟩
   cases x with
   | int a =>
    cases y with
    | int b =>
     show if (!decide (a=0))=true then KK (.bl true) else KK (.bl (!decide (b=0)))
     by_cases ha:a=0<;>by_cases hb:b=0<;>simp[ha,hb,kl] at k ⊢<;>exact k
    | _=>exact k
   | _=>exact k
 | _=>exact k
end
end K12
namespace K12
open PySem L2 Trn
section
variable {P:Program} {w:World} {K:PySem.W.Frag} {mg:Str→Option Value} {base:Heap} {f:Addr} {fd:FuncData}
theorem dq (B:Blt mg bn)(F:Fun K "is_fraction" "is_fraction" vL f fd)(m:mg "is_fraction" = some (.ref f))(b:Binds K fd ["thing"] [])(wB:Own P w K mg base 1 "is_whole" ["thing"] (spT 1 false false lZ))(xP:Own P w K mg base 1 "greatest_divisor" ["one", "other"] (spT 2 false false xcX)) :
  Own P w K mg base 2 "is_fraction" ["thing"] (spT 1 false false gI):=by
 refine xB F uW m b rfl (fun _ _ _ _ _ _ hr=>⟨_,_,
  (xc (yJ (PW.pt (uI (wm (zP (xO uJ rfl (B.get "isinstance") yW (xW (pv 0) (qv (v:=V.ty "tuple") rfl (B.get "tuple") y3 rfl))))) (wR (xQ (zY hr.units) (xO (yZ K) rfl (B.get "len") vh (yX (pv 0))) xf (xR _))))) (xh (xF uF)) xT)
  (xc (zC (pv 0) (yr K (n:=2) rfl (xr (yB 1 uW.nd) (xr (yB 2 uW.nd) yo))))
  (xh (xF (fZ (xm wB hr (yX (pv 1))) (fZ (xm wB hr (yX (pv 2))) (fZ (zj xde (pv 2) xf (xR _)) (fc (zj (wj hr.units) (xm xP hr (xW (pv 1) (pv 2))) xf (xR _)))))))))),
  (xj (yh (zB (zo (yQ (j9 xa))) (xG (xi vO (yF qF (xS xa)) xt))) (xx ve) xI)
  (xj (y_ xa (yw (xl xk (xl xk ye))).g)
  (xx (kQ (xy (xS xa)) (kQ (xy (xS xa)) (kQ (xi xel xa xt) (xi os_eq (xy (xw xa xa)) xt))))))),fun ts KK hl h=>?_⟩)
 obtain⟨t,rfl,k⟩:=h
 cases t with
 | tup us =>
  refine x_ (b := !decide ((us.length:Int)=2)) (fun c=>?_) (fun c=>?_)
  ·have c:¬(us.length:Int)=2:=by simpa using c
   have e:m9 (.tup us)=false:=by
    unfold m9
    split
    ·rename_i z;injection z with z;rw[z] at c;exact absurd rfl c
    ·rfl
   rw[e] at k
   exact k
  ·have c:us.length=2:=by simp at c;omega
   obtain⟨x,y,rfl⟩:∃x y,us=[x,y]:=by
    match us,c with
    | [x,y],_=>exact⟨x,y,rfl⟩
   refine⟨rfl,x,rfl,?_⟩
   cases x with
   | int a =>
    refine⟨y,rfl,?_⟩
    cases y with
    | int b =>
     have e:m9 (.tup [.int a,.int b])=(decide (1≤b)&&decide (Int.gcd a b=1)):=rfl
     rw[e] at k
     refine x_ (b:=decide (1≤b)) (fun c1=>?_) (fun c1=>?_)
     ·refine⟨a,b,rfl,?_⟩
      rw[c1,xhs] at k
      have e2:decide (((Int.gcd a b:Nat):Int)=1)=decide (Int.gcd a b=1):=by rw[decide_eq_decide];omega
      show KK (.bl (decide (((Int.gcd a b:Nat):Int)=1)))
      rw[e2];exact k
     ·rw[c1,Bool.false_and] at k;exact k
    | _=>exact k
   | _=>exact k
 | _=>exact k
theorem xaE (B:Blt mg bn)(F:Fun K "sum_by" "sum_by" aY f fd)(m:mg "sum_by" = some (.ref f))(b:Binds K fd ["field", "weights"] [])(yS:Own P w K mg base 8 "need_field" ["thing"] (spT 1 false false qW))(qS:Own P w K mg base 3 "sum_of" ["rows", "weights"] (spT 2 false false lr))(vJ:Own P w K mg base 3 "are_weights" ["field", "thing"] (spT 2 false false g6)) :
  Own P w K mg base 9 "sum_by" ["field", "weights"] (spT 2 false false xb3):=by
 refine xB F xaP m b rfl (fun _ _ _ _ _ _ hr=>⟨_,_,
  (xc (u6 (xm yS hr (yX (pv 0))))
  (xc (yJ (wm (zP (xm vJ hr (xW (pv 0) (pv 1))))) (xh ji) xT)
  (xh (xF (xm qS hr (xW (pv 0) (pv 1))))))),
  (xj (aF (xy (xS xa)))
  (xj (yh (zo (yQ (xy (xw xa xa)))) qq xI)
  (xx (xy (xw xa xa))))),fun ts KK hl h=>?_⟩)
 obtain⟨rows,ws,rfl,hf,H0,k⟩:=h
 refine⟨_,rfl,kE hf,?_⟩
 have ln:(rows.map trR).length=ws.length:=by rw[xit];exact H0.len
 refine⟨rows.map trR,_,rfl,by rw[xit];have:=H0.l100;omega,?_⟩
 rw[ln,xdM H0.wt]
 exact⟨rows,ws,rfl,H0,k⟩
theorem dI (B:Blt mg bn)(F:Fun K "are_weights" "are_weights" uj f fd)(m:mg "are_weights" = some (.ref f))(b:Binds K fd ["field", "thing"] [])(vt:Own P w K mg base 2 "is_fraction" ["thing"] (spT 1 false false gI)) :
  Own P w K mg base 3 "are_weights" ["field", "thing"] (spT 2 false false g6):=by
 refine xB F dz m b rfl (fun _ _ _ _ _ _ hr=>⟨_,_,
  (xc (yJ (PW.pt (uI (wm (zP (xO uJ rfl (B.get "isinstance") yW (xW (pv 1) (qv (v:=V.ty "tuple") rfl (B.get "tuple") y3 rfl))))) (wR (xQ (zY hr.units) (xO (yZ K) rfl (B.get "len") vh (yX (pv 1))) (xO (yZ K) rfl (B.get "len") vh (yX (pv 0))) (xR _))))) (xh (xF uF)) xT)
  (xh (xF (xO (vf K rfl) rfl (B.get "all") rQ (yX (zL (yi (N:=["weight"]) (tau:=[none]) (XN:=["field", "thing"]) (xs:=xg uj) (by decide +kernel) rfl rfl) rfl (zm rfl) (yN K (pv 1)) (fun _ _ _ _=>(xY (i:=0) (show(["weight"]:List Str).Nodup by decide +kernel) rfl (Or.inl rfl))) (fun _ _ _ _=>yR) (fun _ _ _ _=>(fZ (xm vt hr (yX (pv 0))) (fc (zj xde (xo K 0) xf (xR _))))))))))),
  (xj (yh (zB (zo (yQ (j9 xa))) (xG (xi vO (yF qF (xS xa)) (yF qF (xS xa))))) (xx ve) xI)
  (xx (yF fX (xS (OkF.e (yq (yt xa).c xk yz (kQ (xy (xS xa)) (xi xel xq xt)))))))),fun ts KK hl h=>?_⟩)
 obtain⟨rs,t,rfl,hl2,k⟩:=h
 cases t with
 | tup us =>
  refine x_ (b := !decide ((us.length:Int)=(rs.length:Int))) (fun c=>?_) (fun c=>?_)
  ·have c:¬(us.length:Int)=(rs.length:Int):=by simpa using c
   have e:xfu rs.length (.tup us)=false:=by
    show(decide (us.length=rs.length)&&us.all wtT)=false
    rw[xjr (by omega),Bool.false_and]
   rw[e] at k
   exact k
  ·have c:(us.length:Int)=(rs.length:Int):=by simpa using c
   have e:xfu rs.length (.tup us)=us.all wtT:=by
    show(decide (us.length=rs.length)&&us.all wtT)=us.all wtT
    rw[xjs (by omega),xhs]
   rw[e] at k
   refine⟨sqz (by omega),vv (fun u=>.bl (wtT u)) (fun u hu N hN=>?_) ⟨us.map wtT,by rw[xiE];rfl,?_⟩⟩
   ·refine⟨u,rfl,?_⟩
    have no:m9 u=false→N (.bl false):=fun z=>by
     have:wtT u=false:=by
      unfold wtT
      split
      ·rename_i a b
       have z:(decide (1≤b)&&decide (Int.gcd a b=1))=false:=z
       rw[z,Bool.false_and]
      ·rfl
     rw[this] at hN;exact hN
    refine x_ (b:=m9 u) (fun c=>?_) no
    unfold m9 at c
    split at c
    ·rename_i a b
     have e:wtT (.tup [.int a,.int b])=((decide (1≤b)&&decide (Int.gcd a b=1))&&decide (0≤a)):=rfl
     rw[e,c,xhs] at hN
     exact hN
    ·cases c
   ·simpa using k
 | _=>exact k
theorem lG (B:Blt mg bn)(F:Fun K "sum_of" "sum_of" gu f fd)(m:mg "sum_of" = some (.ref f))(b:Binds K fd ["rows", "weights"] [])(kK:Own P w K mg base 2 "whole_sum" ["rows", "weights"] (spT 2 false false rZ))(yV:Own P w K mg base 2 "lowest" ["top", "bottom"] (spT 2 false false xdY)) :
  Own P w K mg base 3 "sum_of" ["rows", "weights"] (spT 2 false false lr):=by
 refine xB F gM m b rfl (fun _ _ _ _ _ _ hr=>⟨_,_,
  (xc (zC (xm kK hr (xW (pv 0) (pv 1))) (yr K (n:=2) rfl (xr (yB 2 gM.nd) (xr (xY (i:=3) gM.nd rfl (Or.inr rfl)) yo))))
  (xh (xF (wc (y4 K) rfl (B.get "tuple") y3 (yX (zL (yi (N:=["top", "bottom"]) (tau:=[none,some 3]) (XN:=["rows", "weights", "tops", "bottom"]) (xs:=xg gu) (by decide +kernel) rfl rfl) rfl (zm rfl) (yN K (pv 2)) (fun _ _ _ _=>(xY (i:=0) (show(["top", "bottom"]:List Str).Nodup by decide +kernel) rfl (Or.inl rfl))) (fun _ _ _ _=>yR) (fun _ _ _ _=>(xm yV hr (xW (pv 0) (pv 1)))))))))),
  (xj (y_ (xy (xw xa xa)) (yw (xl xk (xl xk ye))).g)
  (xx (qM (xS (OkF.e (yq (yt xa).c xk yz (xy (xw xa xa)))))))),fun ts KK hl h=>?_⟩)
 obtain⟨rows,ws,rfl,H0,k⟩:=h
 refine⟨rows,ws,rfl,H0,fun a b' c D ha hb hc hD=>?_⟩
 refine⟨rfl,sqz (by show 3≤1000000;decide),?_⟩
 have hz:∀x∈rows.zip ws,0<x.2.2:=fun x hx=>(H0.zip hx).2.pos
 have nz:D≠0:=by have:=ha.pd;omega
 refine⟨_,_,rfl,nz,hD,_,_,rfl,nz,hD,_,_,rfl,nz,hD,?_⟩
 have e:∀ {k:Pol.R3→Int} {n:Int},Sd (wsum k (rows.zip ws)) n D→frT (rR n D) (sJ n D)=fT (wsum k (rows.zip ws)):=fun {k n} h=>by
  rw[cQ h.pd,h.low (jo k _ hz)]
 rw[e ha,e hb,e hc]
 exact k
theorem tT (B:Blt mg bn)(F:Fun K "whole_sum" "whole_sum" uC f fd)(m:mg "whole_sum" = some (.ref f))(b:Binds K fd ["rows", "weights"] [])(xP:Own P w K mg base 1 "greatest_divisor" ["one", "other"] (spT 2 false false xcX)) :
  Own P w K mg base 2 "whole_sum" ["rows", "weights"] (spT 2 false false rZ):=by
 refine xB F yD m b rfl (fun _ _ _ _ _ _ hr=>⟨_,_,
  (xc (wu (i:=2) yD.nd rfl (Or.inl rfl) (yi (N:=["row", "weight"]) (tau:=[none,none]) (XN:=["rows", "weights", "used", "bottom", "row", "weight", "tops", "many"]) (xs:=xg uC) (by decide +kernel) rfl rfl) rfl (wN (yO rfl (yO rfl qr))) (fL K rfl (B.get "zip") (xW (pv 0) (pv 1))) (fun _ _ _ _=>(yr K (n:=2) rfl (xr (xY (i:=0) (show(["row", "weight"]:List Str).Nodup by decide +kernel) rfl (Or.inl rfl)) (xr (xY (i:=1) (show(["row", "weight"]:List Str).Nodup by decide +kernel) rfl (Or.inl rfl)) yo)))) (fun _ _ _ _=>(aV (xQ (zY hr.units) (xo K 1) xf (xR _)))) (fun _ _ _ _=>(yc (xW (pv 0) (pv 1)))))
  (xc (yC 3 yD.nd xf)
  (xc (zM PassesOwn.never rfl (yN K (pv 2)) (yr K (n:=2) rfl (xr (yB 4 yD.nd) (xr (yB 5 yD.nd) yo))) (xh (yC 3 yD.nd (xD xM (xD zq (pv 3) (xm xP hr (xW (pv 3) (xo K 5)))) (xo K 5)))))
  (xc (yC 6 yD.nd (zQ (xZ xf (xW xf xf))))
  (xc (zM PassesOwn.never rfl (yN K (pv 2)) (yr K (n:=2) rfl (xr (yB 4 yD.nd) (xr (yB 5 yD.nd) yo))) (xc (j8 (i:=7) yD.nd rfl (Or.inr rfl) (xD xM (xD zq (pv 3) (xo K 5)) (xo K 5)))
  (xh (wu (i:=6) yD.nd rfl (Or.inl rfl) (yi (N:=["top", "number", "many"]) (tau:=[none,none,some 7]) (XN:=["rows", "weights", "used", "bottom", "row", "weight", "tops", "many"]) (xs:=xg uC) (by decide +kernel) rfl rfl) rfl (wN (yO rfl (yO rfl qr))) (fL K rfl (B.get "zip") (xW (pv 6) (pv 4))) (fun _ _ _ _=>(yr K (n:=2) rfl (xr (xY (i:=0) (show(["top", "number", "many"]:List Str).Nodup by decide +kernel) rfl (Or.inl rfl)) (xr (xY (i:=1) (show(["top", "number", "many"]:List Str).Nodup by decide +kernel) rfl (Or.inl rfl)) yo)))) (fun _ _ _ _=>yR) (fun _ _ _ _=>(xD zd (pv 0) (xD xM (pv 2) (pv 1))))))))
  (xh (xF (yc (xW (pv 6) (pv 3)))))))))),
  (xj (xN (OkF.e (yq (jg (xw xa xa)).c (yw (xl xk (xl xk ye))) (xG (xi vO xq xt)) (yd (b:=true) (xw xa xa)))))
  (xj (xN xt)
  (xj (yY (yt xa) (yw (xl xk (xl xk ye))).g (xN (xi yb (xi wV xa (xy (xw xa xq))) xq)))
  (xj (xN (vZ (b:=true) (xV xt (xw xt xt))))
  (xj (yY (yt xa) (yw (xl xk (xl xk ye))).g (xj (xN (xi yb (xi wV xa xq) xq))
  (xN (OkF.e (yq (jg (xw xa xa)).c (yw (xl xk (xl xk ye))) yz (xi zH xa (xi yb xa xa)))))))
  (xx (yd (b:=true) (xw xa xa)))))))),fun ts KK hl h=>?_⟩)
 obtain⟨rows,ws,rfl,H0,k⟩:=h
 have hl8:=H0.l100
 have hlen:=H0.len
 have zl:(rows.zip ws).length=rows.length:=by rw[xiz];omega
 have hz:=fun x hx=>H0.zip (x:=x) hx
 have hu:∀x∈(rows.zip ws).filter dJ,B3k 10 x.1∧Wt x.2:=fun x hx=>hz x (xiM.mp hx).1
 have ul:((rows.zip ws).filter dJ).length≤8:=by have:=List.length_filter_le dJ (rows.zip ws);omega
 refine xK (fun τ=>τ=[.fz (.tup (rows.map trR)),.fz (.tup (ws.map fT)),.fz (.lst (((rows.zip ws).filter dJ).map rwT)),.un,.un,.un,.un,.un]) ?_ (fun N hN=>?_)
 rotate_left
 ·show(bR (rows.map trR) (ws.map fT)).length<sizeLine∧_
  rw[gj]
  refine⟨by rw[xit];exact sqz (by omega),uO dJ rwT (fun x hx N M h1 h0=>?_) (hN _ rfl)⟩
  exact⟨rfl,x_ (b := !decide (x.2.1=0)) h1 h0⟩
 rintro _ rfl
 rw[←gN k0 _ fun x hx=>(hz x hx).2,←gN k1 _ fun x hx=>(hz x hx).2,←gN k2 _ fun x hx=>(hz x hx).2] at k
 generalize (rows.zip ws).filter dJ=U at hu ul k
 refine xK (fun τ=>τ=[.fz (.tup (rows.map trR)),.fz (.tup (ws.map fT)),.fz (.lst (U.map rwT)),.fz (.int 1),.un,.un,.un,.un]) ?_ (fun N hN=>hN _ rfl)
 rintro _ rfl
 refine xK (fun τ=>∃(D:Int) (x4 x5:TV),(0<D∧Bk 330 D∧∀x∈U,x.2.2 ∣ D)∧τ=[.fz (.tup (rows.map trR)),.fz (.tup (ws.map fT)),.fz (.lst (U.map rwT)),.fz (.int D),x4,x5,.un,.un]) ?_ (fun N hN=>?_)
 rotate_left
 ·refine zU (U.map rwT) (fun i τ=>∃(D:Int) (x4 x5:TV),(0<D∧Bk (1+40*i) D∧∀x∈U.take i,x.2.2 ∣ D)∧τ=[.fz (.tup (rows.map trR)),.fz (.tup (ws.map fT)),.fz (.lst (U.map rwT)),.fz (.int D),x4,x5,.un,.un]) (fun KK h=>h) ⟨1,_,_,⟨by decide,by unfold Bk;decide,fun x hx=>by simp at hx⟩,rfl⟩ ?_ (fun τ h=>?_)
  rotate_left
  ·obtain⟨D,x4,x5,⟨d1,d2,d3⟩,rfl⟩:=h
   rw[xit] at d2 d3
   rw[xi8] at d3
   exact hN _ ⟨D,_,_,⟨d1,d2.mono (by omega),d3⟩,rfl⟩
  rintro i x τ N2 hx ⟨D,x4,x5,⟨d1,d2,d3⟩,rfl⟩ hN2
  obtain⟨y,hy,rfl⟩:=wx hx
  have il:i<U.length:=(xik.mp hy).1
  obtain⟨hr,hw⟩:=hu y (xiR hy)
  have bD:Bk 330 D:=d2.mono (by omega)
  obtain⟨s1,s2,s3,s4⟩:=xbP d1 hw.pos
  have g0:(0:Int)<(Int.gcd D y.2.2:Nat):=by have:=xhD D (show y.2.2≠0 by have:=hw.pos;omega);omega
  have bg:Bd (Int.gcd D y.2.2:Nat):=by
   have:=Int.gcd_le_natAbs_left y.2.2 (show D≠0 by omega)
   exact(bD.le (by omega)).bd
  have bq:Bk 330 (D.fdiv (Int.gcd D y.2.2:Nat)):=by
   rw[zJ (by omega)]
   exact bD.le (xhZ _ _)
  refine⟨rfl,D,y.2.2,rfl,⟨by omega,bg⟩,⟨bq.bd,hw.sm.bot.bd⟩,?_⟩
  have e:D.fdiv (Int.gcd D y.2.2:Nat)*y.2.2=D / (Int.gcd D y.2.2:Nat)*y.2.2:=by rw[zJ (by omega)]
  refine hN2 _ ⟨D / (Int.gcd D y.2.2:Nat)*y.2.2,.fz (trR y.1),.fz (fT y.2),⟨s1,?_,fun z hz'=>?_⟩,by rw[←e];rfl⟩
  ·exact((d2.mul hw.sm.bot).le s4).mono (by omega)
  ·rw[xi_,hy] at hz'
   rcases xiG.mp hz' with h | h
   ·exact Int.dvd_trans (d3 z h) s2
   ·simp at h;rw[h];exact s3
 rintro _ ⟨D,x4,x5,⟨d1,d2,d3⟩,rfl⟩
 refine xK (fun τ=>τ=[.fz (.tup (rows.map trR)),.fz (.tup (ws.map fT)),.fz (.lst (U.map rwT)),.fz (.int D),x4,x5,.fz (.lst [.int 0,.int 0,.int 0]),.un]) ?_ (fun N hN=>hN _ rfl)
 rintro _ rfl
 refine xK (fun τ=>∃(a b c:Int) (x4 x5 x7:TV),(Sd (wsum k0 U) a D∧Sd (wsum k1 U) b D∧Sd (wsum k2 U) c D)∧τ=[.fz (.tup (rows.map trR)),.fz (.tup (ws.map fT)),.fz (.lst (U.map rwT)),.fz (.int D),x4,x5,.fz (.lst [.int a,.int b,.int c]),x7]) ?_ (fun N hN=>?_)
 ·rintro _ ⟨a,b',c,x4,x5,x7,⟨h1,h2,h3⟩,rfl⟩
  exact k a b' c D h1 h2 h3 d2.bd
 have z0:∀k:Pol.R3→Int,Sd (wsum k []) 0 D:=fun k=>⟨by show(0:Int)<1;decide,d1,by show(0:Int)*D=0*1;omega⟩
 refine zU (U.map rwT) (fun i τ=>∃(a b c:Int) (x4 x5 x7:TV),(Sd (wsum k0 (U.take i)) a D∧Sd (wsum k1 (U.take i)) b D∧Sd (wsum k2 (U.take i)) c D)∧τ=[.fz (.tup (rows.map trR)),.fz (.tup (ws.map fT)),.fz (.lst (U.map rwT)),.fz (.int D),x4,x5,.fz (.lst [.int a,.int b,.int c]),x7]) (fun KK h=>h) ⟨0,0,0,_,_,_,⟨z0 _,z0 _,z0 _⟩,rfl⟩ ?_ (fun τ h=>?_)
 rotate_left
 ·obtain⟨a,b',c,x4,x5,x7,hs,rfl⟩:=h
  rw[xit,xi8] at hs
  exact hN _ ⟨a,b',c,_,_,_,hs,rfl⟩
 rintro i x τ N2 hx ⟨a,b',c,x4,x5,x7,⟨h1,h2,h3⟩,rfl⟩ hN2
 obtain⟨y,hy,rfl⟩:=wx hx
 obtain⟨hr,hw⟩:=hu y (xiR hy)
 have dv:=d3 y (xiR hy)
 have qe:y.2.2*D.fdiv y.2.2=D:=by rw[zJ (xhE hw.pos)];exact xhN dv
 have bq:Bk 330 (D.fdiv y.2.2):=by
  rw[zJ (xhE hw.pos)]
  exact d2.le (xhZ _ _)
 have bm:=bq.mul hw.sm.top
 have tk1:U.take (i+1)=U.take i++[y]:=by rw[xi_,hy];rfl
 refine⟨rfl,⟨by have:=hw.pos;show y.2.2≠0;omega,hw.sm.bot.bd⟩,⟨bq.bd,hw.sm.top.bd⟩,sqz (by show 3≤1000000;decide),?_⟩
 refine⟨rfl,⟨bm.bd,hr.1.1.bd⟩,rfl,⟨bm.bd,hr.1.2.bd⟩,rfl,⟨bm.bd,hr.2.bd⟩,?_⟩
 refine hN2 _ ⟨_,_,_,_,_,_,⟨?_,?_,?_⟩,rfl⟩
 ·rw[tk1,wsum_snoc];exact h1.plusD (lV hw.pos d1 qe)
 ·rw[tk1,wsum_snoc];exact h2.plusD (lV hw.pos d1 qe)
 ·rw[tk1,wsum_snoc];exact h3.plusD (lV hw.pos d1 qe)
theorem xaq (B:Blt mg bn)(F:Fun K "cut_by" "cut_by" ak f fd)(m:mg "cut_by" = some (.ref f))(b:Binds K fd ["field", "weights"] [])(qV:Own P w K mg base 1 "cut_of" ["totals"] (spT 1 false false oT))(aZ:Own P w K mg base 9 "sum_by" ["field", "weights"] (spT 2 false false xb3)) :
  Own P w K mg base 10 "cut_by" ["field", "weights"] (spT 2 false false xcx):=by
 refine xB F lh m b rfl (fun _ _ _ _ _ _ hr=>⟨_,_,
  (xh (xF (xm qV hr (yX (xm aZ hr (xW (pv 0) (pv 1))))))),
  (xx (xy (xS (xy (xw xa xa))))),fun ts KK hl h=>?_⟩)
 obtain⟨rows,ws,rfl,hf,H0,hc,k⟩:=h
 refine⟨rows,ws,rfl,hf,H0,_,_,_,rfl,?_,hc,k⟩
 have f:=m7 k2 (rows.zip ws) fun x hx=>⟨(H0.zip hx).2.sm,(H0.zip hx).1.2⟩
 have:(rows.zip ws).length≤8:=by rw[xiz];have:=H0.l100;omega
 exact⟨f.pos,(f.bot.mono (show 1+51*(rows.zip ws).length≤500 by omega)).bd⟩
theorem oI (B:Blt mg bn)(F:Fun K "cut_of" "cut_of" ao f fd)(m:mg "cut_of" = some (.ref f))(b:Binds K fd ["totals"] [])  :
  Own P w K mg base 1 "cut_of" ["totals"] (spT 1 false false oT):=by
 refine xB F kU m b rfl (fun _ _ _ _ _ _ hr=>⟨_,_,
  (xc (zC (pv 0) (yr K (n:=3) rfl (xr (yB 1 kU.nd) (xr (yB 2 kU.nd) (xr (yB 3 kU.nd) yo)))))
  (xc (yJ (PW.pt (uI (xQ (zY hr.units) (xo K 1) xf (xR _)) (uI (xQ (zY hr.units) (xo K 2) xf (xR _)) (wR (PW.pt (rO (xQ (wj hr.units) (xo K 1) xf (xR _)) (g9 (xQ (wj hr.units) (xo K 2) xf (xR _))))))))) (xh ji) xT)
  (xh (xF (yc (xZ (xo K 1) (xW (xo K 2) (xD zq (xo K 3) (xo K 3))))))))),
  (xj (y_ xa (yw (xl xk (xl xk (xl xk ye)))).g)
  (xj (yh (zB (xG (xi vO xq xt)) (zB (xG (xi vO xq xt)) (fH (xG (xi os_eq xq xt)) (xG (xi os_eq xq xt))))) qq xI)
  (xx (yd (b:=true) (xV xq (xw xq (xi wV xq xq))))))),fun ts KK hl h=>?_⟩)
 obtain⟨a,b',c,rfl,hc,⟨h1,h2,h3⟩,k⟩:=h
 refine⟨rfl,?_⟩
 have cn:c.2≠0:=by omega
 refine x_ (b := !decide (a.2=1)) (fun z=>?_) (fun _=>?_)
 ·simp[h1] at z
 refine x_ (b := !decide (b'.2=1)) (fun z=>?_) (fun _=>?_)
 ·simp[h2] at z
 refine x_ (b:=decide (a.1=0)) (fun z=>?_) (fun _=>?_)
 ·have z:=xjv z
  refine x_ (b:=decide (b'.1=0)) (fun z2=>?_) (fun _=>?_)
  ·exact absurd ⟨z,xjv z2⟩ h3
  ·exact⟨⟨cn,hc.2⟩,k⟩
 ·exact⟨⟨cn,hc.2⟩,k⟩
theorem mV (B:Blt mg bn)(F:Fun K "is_paper" "is_paper" jy f fd)(m:mg "is_paper" = some (.ref f))(b:Binds K fd ["field", "thing"] [])(yS:Own P w K mg base 8 "need_field" ["thing"] (spT 1 false false qW))(qJ:Own P w K mg base 3 "is_row" ["thing"] (spT 1 false false xaO))(sW:Own P w K mg base 10 "cut_by" ["field", "weights"] (spT 2 false false xcx)) :
  Own P w K mg base 11 "is_paper" ["field", "thing"] (spT 2 false false tG):=by
 refine xB F nk m b rfl (fun _ _ _ _ _ _ hr=>⟨_,_,
  (xc (u6 (xm yS hr (yX (pv 0))))
  (xc (yJ (PW.pt (uI (wm (zP (xO uJ rfl (B.get "isinstance") yW (xW (pv 1) (qv (v:=V.ty "tuple") rfl (B.get "tuple") y3 rfl))))) (uI (xQ (zY hr.units) (xO (yZ K) rfl (B.get "len") vh (yX (pv 1))) xf (xR _)) (wR (wm (zP (xm qJ hr (yX (xo K 1))))))))) (xh (xF uF)) xT)
  (xh (xdr (zj (wj hr.units) (xm sW hr (xW (pv 0) (xo K 1))) (xo K 1) (xR _)) (fun _ _ z=>z))))),
  (xj (aF (xy (xS xa)))
  (xj (yh (zB (zo (yQ (j9 xa))) (zB (xG (xi vO (yF qF (xS xa)) xt)) (zo (yQ (xy (xS xq)))))) (xx ve) xI)
  (xx (xi os_eq (xy (xw xa xq)) xq)))),fun ts KK hl h=>?_⟩)
 obtain⟨rows,ws,rfl,hf,H0,hc,k⟩:=h
 have hr':fh (uD (rows.zip ws))=true:=pZ hc
 refine⟨_,rfl,kE hf,?_⟩
 refine⟨uD (rows.zip ws),rfl,?_⟩
 rw[hr']
 refine⟨rows,ws,rfl,hf,H0,hc,⟨rfl,rfl,by show min 1 1≤64;decide⟩,?_⟩
 have e:teq (uD (rows.zip ws)) (uD (rows.zip ws))=true:=(fY _ _).trans (xjs rfl)
 show KK (.bl (teq (uD (rows.zip ws)) (uD (rows.zip ws))))
 rw[e]
 exact k
end
end K12
namespace K12
open PySem L2 Trn
section
variable {P:Program} {w:World} {K:PySem.W.Frag} {mg:Str→Option Value} {base:Heap} {f:Addr} {fd:FuncData}
theorem bE (B:Blt mg bn)(F:Fun K "sides_at" "sides_at" jJ f fd)(m:mg "sides_at" = some (.ref f))(b:Binds K fd ["field", "place"] [])(vU:Own P w K mg base 3 "sides_among" ["rows", "numbers"] (spT 2 false true fu))(ur:Own P w K mg base 6 "tight_numbers" ["rows", "place"] (spT 2 false false sE)) :
  Own P w K mg base 7 "sides_at" ["field", "place"] (spT 2 false false bS):=by
 refine xB F bh m b rfl (fun _ _ _ _ _ _ hr=>⟨_,_,
  (xh (xF (xm vU hr (xW (pv 0) (xm ur hr (xW (pv 0) (pv 1))))))),
  (xx (xy (xw xa (xy (xw xa xa))))),fun ts KK hl h=>?_⟩)
 obtain⟨rows,p,rfl,hf,hp,k⟩:=h
 have l8:=(rK hf).1.2
 have:=bX (rows:=rows) (p:=p)
 exact⟨rows,p,rfl,by omega,rK.b200 hf,hp,rows,rH rows p,rfl,hf,fun m hm=>bG hm,by omega,k⟩
theorem dE (B:Blt mg bn)(F:Fun K "sides_among" "sides_among" vH f fd)(m:mg "sides_among" = some (.ref f))(b:Binds K fd ["rows", "numbers"] [])(z_:Own P w K mg base 2 "next_to_the_left" ["rows", "numbers", "number"] (spT 3 false false rN)) :
  Own P w K mg base 3 "sides_among" ["rows", "numbers"] (spT 2 false true fu):=by
 refine xB F wK m b rfl (fun _ _ _ _ _ _ hr=>⟨_,_,
  (xc (yC 2 wK.nd (zQ vp))
  (xc (zM PassesOwn.never rfl (yN K (pv 1)) (yB 3 wK.nd) (xc (yC 4 wK.nd (xm z_ hr (xZ (pv 0) (xW (pv 1) (pv 3)))))
  (xh (yJ (kh (rq (pv 4))) (xh (u6 (nJ PySem.F.plainAttrs_list PySem.F.slot_list_append PySem.F.type_list_append uo (pv 2) (yX (yc (xW (pv 3) (pv 4))))))) xT))))
  (xh (xF (pv 2))))),
  (xj (wI (jx va))
  (xj (yY (yt xa) xk.g (xj (xN (xy (xV xa (xw xa xa))))
  (yh (yQ (rj xa)) (ku (yd (b:=true) (xw xa xa))) xI)))
  sV)),fun ts KK hl h=>?_⟩)
 obtain⟨rows,nums,rfl,hf,hm,hl',k⟩:=h
 refine ud (all:=nums.map mR) (fun i τ=>∃x3 x4,τ=[.fz (.tup (rows.map trR)),.fz (.tup (nums.map mR)),.ow (((nums.take i).filterMap fun n=>(nN rows nums n).map fun m=>(n,m)).map kC),x3,x4]) ⟨_,_,rfl⟩ ?_ ?_
 ·rintro i x τ N hxi ⟨x3,x4,rfl⟩ hN
  obtain⟨n,hyi,rfl⟩:=wx hxi
  have hn:=hm n (xiR hyi)
  rw[mT (rows:=rows) hyi] at hN
  refine⟨rows,nums,n,rfl,hf,hm,hn,?_⟩
  cases q:nN rows nums n with
  | none =>
   rw[q] at hN
   exact hN _ ⟨_,_,by rw[show(Option.map (fun m=>(n,m)) none).toList=([]:List (Nat×Nat)) from rfl,xh7];rfl⟩
  | some m =>
   rw[q] at hN
   refine⟨by rw[xit];exact sqz (xjf (List.length_filterMap_le _ _) (by rw[xiy];omega)),hN _ ⟨_,_,by rw[xiB];rfl⟩⟩
 ·rintro τ ⟨x3,x4,rfl⟩
  rw[xit,xi9 (xjd _)]
  exact k
theorem kP (B:Blt mg bn)(F:Fun K "next_to_the_left" "next_to_the_left" wk f fd)(m:mg "next_to_the_left" = some (.ref f))(b:Binds K fd ["rows", "numbers", "number"] [])(yl:Own P w K mg base 1 "turn_to" ["one", "other"] (spT 2 false false bz)) :
  Own P w K mg base 2 "next_to_the_left" ["rows", "numbers", "number"] (spT 3 false false rN):=by
 refine xB F zb m b rfl (fun _ _ _ _ _ _ hr=>⟨_,_,
  (xc (yC 3 zb.nd gY)
  (xc (zM PassesOwn.never rfl (yN K (pv 1)) (yB 4 zb.nd) (xh (yJ (xQ nI (xm yl hr (xW (yT (yg K) (pv 0) (pv 2) (fun _ _=>rfl)) (yT (yg K) (pv 0) (pv 4) (fun _ _=>rfl)))) xf (xR _)) (xh (yJ (PW.pt (uI (kh (dW (pv 3))) (wR (xQ nI (xm yl hr (xW (yT (yg K) (pv 0) (pv 4) (fun _ _=>rfl)) (yT (yg K) (pv 0) (pv 3) (fun _ _=>rfl)))) xf (xR _))))) (xh (yC 3 zb.nd (pv 4))) xT)) xT)))
  (xh (xF (pv 3))))),
  (xj (xN (xa2 (t:=Tr.non)))
  (xj (yY (yt xa) xk.g (yh (xG (xi bF (xy (xw (zE xa xa) (zE xa xa))) xt)) (yh (zB (yQ (sH xa)) (xG (xi bF (xy (xw (zE xa xa) (zE xa xa))) xt))) (xN xa) xI) xI))
  (xx xa))),fun ts KK hl h=>?_⟩)
 obtain⟨rows,nums,n,rfl,hf,hm,hn,k⟩:=h
 refine ud (all:=nums.map mR) (fun i τ=>∃x4,τ=[.fz (.tup (rows.map trR)),.fz (.tup (nums.map mR)),.fz (mR n),.fz (optN ((nums.take i).foldl (zy rows n) none)),x4]∧∀y,(nums.take i).foldl (zy rows n) none=some y→y<rows.length) ⟨_,rfl,fun y hy=>by cases hy⟩ ?_ ?_
 ·rintro i x τ N hxi ⟨x4,rfl,hb⟩ hN
  obtain⟨o,hyi,rfl⟩:=wx hxi
  have ho:=hm o (xiR hyi)
  have fold:=Pol.um (zy rows n) none hyi
  generalize hacc:(nums.take i).foldl (zy rows n) none=acc at fold hb ⊢
  have leaf:∀oo:Option Nat,oo=zy rows n acc o→N [.fz (.tup (rows.map trR)),.fz (.tup (nums.map mR)),.fz (mR n),.fz (optN oo),.fz (mR o)]:=fun oo e=>by
   rw[fold] at hN
   refine hN _ ⟨_,by rw[e],?_⟩
   ·unfold zy
    split
    ·split
     ·intro z hz;cases hz;exact ho
     ·split
      ·intro z hz;cases hz;exact ho
      ·intro z hz;cases hz;exact hb _ rfl
    ·exact hb
  show sU (atT (rows.map trR) (n:Int)) _
  rw[sF hn]
  show sU (atT (rows.map trR) (o:Int)) _
  rw[sF ho]
  refine⟨(uG rows n).1,(uG rows n).2.1,(uG rows o).1,(uG rows o).2.1,_,_,rfl,⟨rK.bd hf hn,rK.bd hf ho⟩,?_⟩
  refine x_ (b:=decide (0<cr (xJ rows n) (xJ rows o))) (fun c=>?_) (fun c=>?_)
  ·have c:=xjv c
   cases acc with
   | none=>exact leaf (some o) (by unfold zy;rw[if_pos c])
   | some z =>
    have hz:=hb z rfl
    show sU (atT (rows.map trR) (o:Int)) _
    rw[sF ho]
    show sU (atT (rows.map trR) (z:Int)) _
    rw[sF hz]
    refine⟨(uG rows o).1,(uG rows o).2.1,(uG rows z).1,(uG rows z).2.1,_,_,rfl,⟨rK.bd hf ho,rK.bd hf hz⟩,?_⟩
    refine x_ (b:=decide (0<cr (xJ rows o) (xJ rows z))) (fun d=>?_) (fun d=>?_)
    ·exact leaf (some o) (by unfold zy;rw[if_pos c];exact(if_pos (xjv d)).symm)
    ·exact leaf (some z) (by unfold zy;rw[if_pos c];exact(if_neg (xju d)).symm)
  ·have c:=xju c
   exact leaf acc (by unfold zy;rw[if_neg c])
 ·rintro τ ⟨x4,rfl,_⟩
  rw[xit,xi9 (xjd _)]
  exact k
theorem fQ (B:Blt mg bn)(F:Fun K "direction_of" "direction_of" vb f fd)(m:mg "direction_of" = some (.ref f))(b:Binds K fd ["row"] [])  :
  Own P w K mg base 1 "direction_of" ["row"] (spT 1 false false xcJ):=by
 refine xB F fm m b rfl (fun _ _ _ _ _ _ hr=>⟨_,_,
  (xh (xF (yc (xW (xo K 0) (xo K 0))))),
  (xx (yd (b:=true) (xw xq xq))),fun ts KK hl h=>?_⟩)
 obtain⟨a,b',x,rfl,k⟩:=h
 exact k
theorem kS (B:Blt mg bn)(F:Fun K "weights_towards" "weights_towards" wC f fd)(m:mg "weights_towards" = some (.ref f))(b:Binds K fd ["field", "pair", "direction"] [])(nQ:Own P w K mg base 4 "parts" ["one", "other", "thing"] (spT 3 false false xch))(wJ:Own P w K mg base 1 "direction_of" ["row"] (spT 1 false false xcJ)) :
  Own P w K mg base 5 "weights_towards" ["field", "pair", "direction"] (spT 3 false false xct):=by
 refine xB F yU m b rfl (fun _ _ _ _ _ _ hr=>⟨_,_,
  (xc (zC (pv 1) (yr K (n:=2) rfl (xr (yB 3 yU.nd) (xr (yB 4 yU.nd) yo))))
  (xc (yC 5 yU.nd (xm nQ hr (xZ (xm wJ hr (yX (yT (yg K) (pv 0) (pv 3) (fun _ _=>rfl)))) (xW (xm wJ hr (yX (yT (yg K) (pv 0) (pv 4) (fun _ _=>rfl)))) (pv 2)))))
  (xc (yJ (kh (dW (pv 5))) (xh (xF gY)) xT)
  (xc (yC 6 yU.nd (xD xcD (zQ (yX (yc (xW xf xf)))) (xO (yZ K) rfl (B.get "len") vh (yX (pv 0)))))
  (xc (zC (pv 5) (yr K (n:=2) rfl (xr (j3 (pv 6) (pv 3) set_list) (xr (j3 (pv 6) (pv 4) set_list) yo))))
  (xh (xF (wc (y4 K) rfl (B.get "tuple") y3 (yX (pv 6)))))))))),
  (xj (y_ xa (yw (xl xk (xl xk ye))).g)
  (xj (xN (xy (xV (xy (xS (zE xa xa))) (xw (xy (xS (zE xa xa))) xa))))
  (xj (yh (yQ (sH xa)) (xx (xa2 (t:=Tr.non))) xI)
  (xj (wI (xaB (vZ (b:=true) (xS (yd (b:=true) (xw xt xt)))) (yF qF (xS xa))))
  (xj (y_ xa (xdy (tY (jP xa) (tY (jP xa) xa6))))
  (xx bH)))))),fun ts KK hl h=>?_⟩)
 obtain⟨rows,⟨i,j⟩,d,rfl,hf,⟨i1,i2,pos⟩,⟨bx,nz⟩,k⟩:=h
 have i1:i<rows.length:=i1
 have i2:j<rows.length:=i2
 have l8:=(rK hf).1.2
 have ml:(rows.map trR).length=rows.length:=xit _
 refine xK (fun τ=>τ=[.fz (.tup (rows.map trR)),.fz (kC (i,j)),.fz (drD d),.fz (.int (i:Nat)),.fz (.int (j:Nat)),.un,.un]) ?_ (fun N hN=>⟨rfl,hN _ rfl⟩)
 rintro _ rfl
 refine xK (fun τ=>τ=[.fz (.tup (rows.map trR)),.fz (kC (i,j)),.fz (drD d),.fz (.int (i:Nat)),.fz (.int (j:Nat)),.fz (ka (xJ rows i).1 (xJ rows i).2 (xJ rows j).1 (xJ rows j).2 (drD d)),.un]) ?_ (fun N hN=>?_)
 rotate_left
 ·show sU (atT (rows.map trR) (i:Int)) _
  rw[sF i1]
  refine⟨(uG rows i).1,(uG rows i).2.1,_,rfl,?_⟩
  show sU (atT (rows.map trR) (j:Int)) _
  rw[sF i2]
  refine⟨(uG rows j).1,(uG rows j).2.1,_,rfl,?_⟩
  refine⟨_,_,_,_,_,rfl,xfx (n:=30) (u:=xJ rows i) (v:=xJ rows j) (by decide) (kR hf i1) (kR hf i2),?_,?_,pos,?_⟩
  ·exact xbN _ _
  ·exact xev (by decide) bx
  exact hN _ rfl
 rintro _ rfl
 by_cases c:0≤cr (xJ rows i) d∧0≤cr d (xJ rows j)
 rotate_left
 ·rw[xcu (ij:=(i,j)) c] at k
  rw[mS c]
  exact k
 have G:ua rows ((i,j),d):=⟨i1,i2,pos,c,nz,bx⟩
 rw[lB (ij:=(i,j)) c] at k
 have e:ka (xJ rows i).1 (xJ rows i).2 (xJ rows j).1 (xJ rows j).2 (drD d)=.tup [fT (lfr (cr d (xJ rows j)) (cr (xJ rows i) (xJ rows j))),fT (lfr (cr (xJ rows i) d) (cr (xJ rows i) (xJ rows j)))]:=by
  rw[n_ nz c,xal pos,xal pos]
 rw[e]
 refine xK (fun τ=>τ=[.fz (.tup (rows.map trR)),.fz (kC (i,j)),.fz (drD d),.fz (.int (i:Nat)),.fz (.int (j:Nat)),.fz (.tup [fT (lfr (cr d (xJ rows j)) (cr (xJ rows i) (xJ rows j))),fT (lfr (cr (xJ rows i) d) (cr (xJ rows i) (xJ rows j)))]),.un]) ?_ (fun N hN=>hN _ rfl)
 rintro _ rfl
 refine xK (fun τ=>τ=[.fz (.tup (rows.map trR)),.fz (kC (i,j)),.fz (drD d),.fz (.int (i:Nat)),.fz (.int (j:Nat)),.fz (.tup [fT (lfr (cr d (xJ rows j)) (cr (xJ rows i) (xJ rows j))),fT (lfr (cr (xJ rows i) d) (cr (xJ rows i) (xJ rows j)))]),.ow ((List.replicate rows.length ((0:Int),(1:Int))).map fT)]) ?_ (fun N hN=>⟨⟨by omega,by rw[ml];omega⟩,xft (by simp;omega),hN _ (by
  show([.fz (.tup (rows.map trR)),.fz (kC (i,j)),.fz (drD d),.fz (.int (i:Nat)),.fz (.int (j:Nat)),.fz (.tup [fT (lfr (cr d (xJ rows j)) (cr (xJ rows i) (xJ rows j))),fT (lfr (cr (xJ rows i) d) (cr (xJ rows i) (xJ rows j)))]),.ow (List.replicate (rows.map trR).length [fT (0,1)]).flatten]:TSt)=_
  rw[ar,List.map_replicate,ml])⟩)
 rintro _ rfl
 refine xK (fun τ=>τ=[.fz (.tup (rows.map trR)),.fz (kC (i,j)),.fz (drD d),.fz (.int (i:Nat)),.fz (.int (j:Nat)),.fz (.tup [fT (lfr (cr d (xJ rows j)) (cr (xJ rows i) (xJ rows j))),fT (lfr (cr (xJ rows i) d) (cr (xJ rows i) (xJ rows j)))]),.ow ((dR rows ((i,j),d)).map fT)]) ?_ (fun N hN=>?_)
 ·rintro _ rfl
  exact k
 refine⟨rfl,?_⟩
 refine lp ?_
 refine gy (f:=fT) (n:=i) (l:=List.replicate rows.length ((0:Int),(1:Int))) rfl (by rw[xiv];exact i1) (fun _ h=>h) ?_
 refine lp ?_
 refine gy (f:=fT) (n:=j) (l:=(List.replicate rows.length ((0:Int),(1:Int))).set i (lfr (cr d (xJ rows j)) (cr (xJ rows i) (xJ rows j)))) rfl (by rw[xiw,xiv];exact i2) (fun _ h=>h) ?_
 refine hN _ ?_
 show _=([.fz (.tup (rows.map trR)),.fz (kC (i,j)),.fz (drD d),.fz (.int (i:Nat)),.fz (.int (j:Nat)),.fz (.tup [fT (lfr (cr d (xJ rows j)) (cr (xJ rows i) (xJ rows j))),fT (lfr (cr (xJ rows i) d) (cr (xJ rows i) (xJ rows j)))]),.ow ((wtw rows.length i j (cr d (xJ rows j)) (cr (xJ rows i) d) (cr (xJ rows i) (xJ rows j))).map fT)]:TSt)
 rw[xeN G.pos]
 rfl
theorem ng (B:Blt mg bn)(F:Fun K "paper_of" "paper_of" jW f fd)(m:mg "paper_of" = some (.ref f))(b:Binds K fd ["field", "weights"] [])(qV:Own P w K mg base 1 "cut_of" ["totals"] (spT 1 false false oT))(qS:Own P w K mg base 3 "sum_of" ["rows", "weights"] (spT 2 false false lr)) :
  Own P w K mg base 4 "paper_of" ["field", "weights"] (spT 2 false false pe):=by
 refine xB F bL m b rfl (fun _ _ _ _ _ _ hr=>⟨_,_,
  (xh (xF (yc (xW (pv 1) (xm qV hr (yX (xm qS hr (xW (pv 0) (pv 1))))))))),
  (xx (yd (b:=true) (xw xa (xy (xS (xy (xw xa xa))))))),fun ts KK hl h=>?_⟩)
 obtain⟨rows,ws,rfl,H0,hc,k⟩:=h
 have hb:=H0.bot
 exact⟨rows,ws,rfl,H0,_,_,_,rfl,hb,hc,k⟩
theorem dP (B:Blt mg bn)(F:Fun K "cut_towards" "cut_towards" zA f fd)(m:mg "cut_towards" = some (.ref f))(b:Binds K fd ["field", "a", "b"] [])(wd:Own P w K mg base 9 "corners" ["field"] (spT 1 false true gB))(jE:Own P w K mg base 4 "paper_of" ["field", "weights"] (spT 2 false false pe))(wA:Own P w K mg base 5 "weights_towards" ["field", "pair", "direction"] (spT 3 false false xct))(jG:Own P w K mg base 7 "sides_at" ["field", "place"] (spT 2 false false bS)) :
  Own P w K mg base 10 "cut_towards" ["field", "a", "b"] (spT 3 false false l5):=by
 refine xB F zD m b rfl (fun _ _ _ _ _ _ hr=>⟨_,_,
  (xc (yC 3 zD.nd (xm wd hr (yX (pv 0))))
  (xc (yJ (wm (xeL K (pv 3))) (xh ji) xT)
  (xc (nU (i:=4) zD.nd rfl (Or.inl rfl) (yi (N:=["place", "pair", "field"]) (tau:=[none,none,some 0]) (XN:=["field", "a", "b", "places", "pairs", "towards", "fitting"]) (xs:=xg zA) (by decide +kernel) rfl rfl) rfl (zm rfl) (xe8 (tid:=[some 0,none,some 2]) (by decide +kernel)) (zm rfl) (yN K (pv 3)) (fun _ _ _ _=>(xY (i:=0) (show(["place", "pair", "field"]:List Str).Nodup by decide +kernel) rfl (Or.inl rfl))) (fun _ _ _ _=>yR) (fun _ _ _ _=>(yN K (xm jG hr (xW (pv 2) (pv 0))))) (fun _ _ _ _=>(xY (i:=1) (show(["place", "pair", "field"]:List Str).Nodup by decide +kernel) rfl (Or.inl rfl))) (fun _ _ _ _=>yR) (fun _ _ _ _=>(pv 1)))
  (xc (wu (i:=5) zD.nd rfl (Or.inl rfl) (yi (N:=["pair", "field", "a", "b"]) (tau:=[none,some 0,some 1,some 2]) (XN:=["field", "a", "b", "places", "pairs", "towards", "fitting"]) (xs:=xg zA) (by decide +kernel) rfl rfl) rfl (zm rfl) (yN K (pv 4)) (fun _ _ _ _=>(xY (i:=0) (show(["pair", "field", "a", "b"]:List Str).Nodup by decide +kernel) rfl (Or.inl rfl))) (fun _ _ _ _=>yR) (fun _ _ _ _=>(xm wA hr (xZ (pv 1) (xW (pv 0) (yc (xW (pv 2) (pv 3))))))))
  (xc (wu (i:=6) zD.nd rfl (Or.inl rfl) (yi (N:=["weights"]) (tau:=[none]) (XN:=["field", "a", "b", "places", "pairs", "towards", "fitting"]) (xs:=xg zA) (by decide +kernel) rfl rfl) rfl (zm rfl) (yN K (pv 5)) (fun _ _ _ _=>(xY (i:=0) (show(["weights"]:List Str).Nodup by decide +kernel) rfl (Or.inl rfl))) (fun _ _ _ _=>(aV (kh (rq (pv 0))))) (fun _ _ _ _=>(pv 0)))
  (xh (xF (xm jE hr (xW (pv 0) (xo K 6)))))))))),
  (xj (xN (xy (xS xa)))
  (xj (yh (zo (xdH xa)) qq xI)
  (xj (xN (OkF.e (lq (yt xa).c xk yz (yt (xy (xw xa xa))) xk yz xa)))
  (xj (xN (OkF.e (yq (yt xa).c xk yz (xy (xV xa (xw xa (yd (b:=true) (xw xa xa))))))))
  (xj (xN (OkF.e (yq (yt xa).c xk (yQ (rj xa)) xa)))
  (xx (xy (xw xa xq)))))))),fun ts KK hl h=>?_⟩)
 obtain⟨rows,d,rfl,hf,FR,ne,⟨bx,nz⟩,k⟩:=h
 have cl:=cB FR
 have pl:=gv hf (zR rows)
 have pl:(zT rows).length≤8*(zR rows).length:=pl
 refine xK (fun τ=>τ=[.fz (.tup (rows.map trR)),.fz (.int d.1),.fz (.int d.2),.fz (.lst ((zR rows).map sk)),.un,.un,.un]) ?_ (fun N hN=>⟨rows,rfl,hf,FR,hN _ rfl⟩)
 rintro _ rfl
 refine xK (fun τ=>τ=[.fz (.tup (rows.map trR)),.fz (.int d.1),.fz (.int d.2),.fz (.lst ((zR rows).map sk)),.un,.un,.un]) ?_ (fun N hN=>?_)
 rotate_left
 ·cases e:zR rows with
  | nil=>exact absurd e ne
  | cons v vs=>rw[e] at hN;exact hN _ rfl
 rintro _ rfl
 refine xK (fun τ=>τ=[.fz (.tup (rows.map trR)),.fz (.int d.1),.fz (.int d.2),.fz (.lst ((zR rows).map sk)),.fz (.lst ((zT rows).map kC)),.un,.un]) ?_ (fun N hN=>?_)
 rotate_left
 ·refine tz (fun i acc=>acc=((((zR rows).take i).flatMap fun v=>uN rows (rH rows (plc v))).map kC)) _ 0 [] (fun j x acc hx hG N2 hN2=>?_) rfl (fun acc hG=>?_)
  ·rw[Nat.zero_add] at hG hN2
   obtain⟨v,hv,rfl⟩:=wx hx
   subst hG
   refine⟨rows,plc v,rfl,hf,FR.pk (xiR hv),?_,?_⟩
   ·have a:=gv hf ((zR rows).take j)
    have b:=gv hf [v]
    rw[List.flatMap_cons,List.flatMap_nil,xh7] at b
    rw[xiy] at a
    rw[xit,xit]
    simp only[xir,xiu] at b
    exact sqz (by omega)
   ·refine r6 id _ _ (fun x hx N h=>h) (hN2 _ ?_)
    rw[List.map_id,xi_,hv,xic,xiB]
    simp
  ·rw[Nat.zero_add,xit,xi9 (xjd _)] at hG
   subst hG
   exact hN _ rfl
 rintro _ rfl
 refine xK (fun τ=>τ=[.fz (.tup (rows.map trR)),.fz (.int d.1),.fz (.int d.2),.fz (.lst ((zR rows).map sk)),.fz (.lst ((zT rows).map kC)),.fz (.lst ((zT rows).map fun ij=>wtO rows ij d)),.un]) ?_ (fun N hN=>⟨by rw[xit];exact sqz (by omega),wO (fun ij=>wtO rows ij d) (fun ij hij N h=>⟨rows,ij,d,rfl,hf,(j4 hij).1,⟨bx,nz⟩,h⟩) (hN _ rfl)⟩)
 rintro _ rfl
 refine xK (fun τ=>τ=[.fz (.tup (rows.map trR)),.fz (.int d.1),.fz (.int d.2),.fz (.lst ((zR rows).map sk)),.fz (.lst ((zT rows).map kC)),.fz (.lst ((zT rows).map fun ij=>wtO rows ij d)),.fz (.lst (((zT rows).filter fun ij=>decide (0≤cr (xJ rows ij.1) d∧0≤cr d (xJ rows ij.2))).map fun ij=>wsT (dR rows (ij,d))))]) ?_ (fun N hN=>⟨by rw[xit];exact sqz (by omega),uO (fun ij=>decide (0≤cr (xJ rows ij.1) d∧0≤cr d (xJ rows ij.2))) (fun ij=>wsT (dR rows (ij,d))) (fun ij hij N M h1 h0=>?_) (hN _ rfl)⟩)
 rotate_left
 ·by_cases c:0≤cr (xJ rows ij.1) d∧0≤cr d (xJ rows ij.2)
  ·rw[lB c]
   exact h1 (xjs c)
  ·rw[xcu c]
   exact h0 (xjr c)
 rintro _ rfl
 cases e:(zT rows).filter fun ij=>decide (0≤cr (xJ rows ij.1) d∧0≤cr d (xJ rows ij.2)) with
 | nil =>
  cases e2:zR rows with
  | nil=>exact absurd e2 ne
  | cons w ws =>
   obtain⟨v,hv,ij,hij,c⟩:=xfb hf FR (w:=w) (by rw[e2];exact xiL) nz
   have:ij∈(zT rows).filter fun ij=>decide (0≤cr (xJ rows ij.1) d∧0≤cr d (xJ rows ij.2)):=xiM.mpr ⟨List.mem_flatMap.mpr ⟨v,hv,hij⟩,xjs c⟩
   rw[e] at this
   exact absurd this (by simp)
 | cons y ys =>
  have hy:y∈(zT rows).filter fun ij=>decide (0≤cr (xJ rows ij.1) d∧0≤cr d (xJ rows ij.2)):=by rw[e];exact xiL
  obtain⟨hy,c⟩:=xiM.mp hy
  have c:=xjv c
  obtain⟨⟨i1,i2,pos⟩,v,hv,hm⟩:=j4 hy
  have G:ua rows (y,d):=⟨i1,i2,pos,c,nz,bx⟩
  exact⟨rows,dR rows (y,d),rfl,rK.ws hf (G.gw hf),G.cut hf,k v (y,d) hv hm G rfl⟩
end
end K12
namespace K12
open PySem L2 Trn
section
variable {P:Program} {w:World} {K:PySem.W.Frag} {mg:Str→Option Value} {base:Heap} {f:Addr} {fd:FuncData}
theorem sX (B:Blt mg bn)(F:Fun K "_law_field" "_law_field" wU f fd)(m:mg "_law_field" = some (.ref f))(b:Binds K fd ["_law_state_here"] [])(xH:Own P w K mg base 1 "_law_take" ["_law_state_here", "_law_many"] (spT 1 true false xbj)) :
  Own P w K mg base 2 "_law_field" ["_law_state_here"] (spT 0 true false o9):=by
 refine tQ F xX m b rfl (fun _ _ _ _ _ _ hr=>⟨_,_,
  (xc (yC 1 xX.nd (xm xH hr (xW (pv 0) xf)))
  (xc (yC 2 xX.nd (zQ vp))
  (xc (yJ (xQ (jb K hr.units) (pv 1) xf (xR _)) (xc (zM PassesOwn.never rfl (yN K (zQ (xZ (yc (xW (qD wQ xf) xf)) (xZ (yc (xW xf xf)) (xW (yc (xW xf (qD wQ xf))) (yc (xW xf xf))))))) (yr K (n:=2) rfl (xr (yB 3 xX.nd) (xr (yB 4 xX.nd) yo))) (xc (yC 5 xX.nd (xD zd xf (xm xH hr (xW (pv 0) xf))))
  (xh (u6 (nJ PySem.F.plainAttrs_list PySem.F.slot_list_append PySem.F.type_list_append uo (pv 2) (yX (yc (xZ (xD xM (pv 3) (pv 5)) (xW (xD xM (pv 4) (pv 5)) (xD zd (xD xM (pv 5) (xm xH hr (xW (pv 0) xf))) (xm xH hr (xW (pv 0) (pv 5)))))))))))))
  (xc (zM PassesOwn.never rfl (qj rfl (B.get "range") (yX (xm xH hr (xW (pv 0) xf)))) (yB 6 xX.nd) (xc (sN (i:=3) (j:=4) rfl xX.nd rfl rfl (by decide) rfl rfl (xW (xD w5 (xm xH hr (xW (pv 0) xf)) xf) (xD w5 (xm xH hr (xW (pv 0) xf)) xf)) (by rfl))
  (xc (yJ (PW.pt (rO (xQ (wj hr.units) (pv 3) xf (xR _)) (g9 (xQ (wj hr.units) (pv 4) xf (xR _))))) (xh (yC 3 xX.nd xf)) xT)
  (xc (yC 7 xX.nd (xD zd (xD xM (pv 3) (xD w5 (xm xH hr (xW (pv 0) xf)) xf)) (xD xM (pv 4) (xD w5 (xm xH hr (xW (pv 0) xf)) xf))))
  (xh (u6 (nJ PySem.F.plainAttrs_list PySem.F.slot_list_append PySem.F.type_list_append uo (pv 2) (yX (yc (xZ (pv 3) (xW (pv 4) (xD w5 (xD zd (pv 7) (xm xH hr (xW (pv 0) xf))) xf))))))))))))
  (xh (yJ (xQ (wj hr.units) (xm xH hr (xW (pv 0) xf)) xf (xR _)) (xh (u6 (nJ PySem.F.plainAttrs_list PySem.F.slot_list_append PySem.F.type_list_append uo (pv 2) (yX (yc (xZ (xD w5 xf (yT (yg K) (yT (yg K) (pv 2) (qD wQ xf) (fun _ _=>rfl)) xf (fun _ _=>rfl))) (xW (xD w5 xf (yT (yg K) (yT (yg K) (pv 2) (qD wQ xf) (fun _ _=>rfl)) xf (fun _ _=>rfl))) (xD w5 xf (yT (yg K) (yT (yg K) (pv 2) (qD wQ xf) (fun _ _=>rfl)) xf (fun _ _=>rfl)))))))))) xT)))) xT)
  (xc (yJ (xQ (wj hr.units) (pv 1) xf (xR _)) (xc (yC 8 xX.nd (xD zd xf (xm xH hr (xW (pv 0) xf))))
  (xh (yC 2 xX.nd (zQ (xZ (yc (xZ (qD wQ xf) (xW xf xf))) (xW (yc (xZ xf (xW (xD xM (qD wQ xf) (pv 8)) xf))) (yc (xZ xf (xW (xD xM xf (pv 8)) (xD xM xf (pv 8))))))))))) xT)
  (xc (yJ (xQ (wj hr.units) (pv 1) xf (xR _)) (xc (yC 9 xX.nd (yT (yg K) (zQ (xW (zQ (xZ (yc (xW (qD wQ xf) xf)) (xW (yc (xW xf (qD wQ xf))) (yc (xW xf xf))))) (zQ (xZ (yc (xW (qD wQ xf) (qD wQ xf))) (xW (yc (xW xf (qD wQ xf))) (yc (xW xf xf))))))) (xm xH hr (xW (pv 0) xf)) (fun _ _=>rfl)))
  (xh (wu (i:=2) xX.nd rfl (Or.inl rfl) (yi (N:=["_law_a", "_law_b", "_law_state_here"]) (tau:=[none,none,some 0]) (XN:=["_law_state_here", "_law_way", "_law_rows", "_law_a", "_law_b", "_law_by", "_law_turn", "_law_near", "_law_k", "_law_some", "_law_u", "_law_v"]) (xs:=xg wU) (by decide +kernel) rfl rfl) rfl (wN (yO rfl (yO rfl qr))) (yN K (pv 9)) (fun _ _ _ _=>(yr K (n:=2) rfl (xr (xY (i:=0) (show(["_law_a", "_law_b", "_law_state_here"]:List Str).Nodup by decide +kernel) rfl (Or.inl rfl)) (xr (xY (i:=1) (show(["_law_a", "_law_b", "_law_state_here"]:List Str).Nodup by decide +kernel) rfl (Or.inl rfl)) yo)))) (fun _ _ _ _=>yR) (fun _ _ _ _=>(yc (xZ (pv 0) (xW (pv 1) (xm xH hr (xW (pv 2) xf))))))))) xT)
  (xc (zC (yc (xW (xD w5 (xm xH hr (xW (pv 0) xf)) xf) (xD w5 (xm xH hr (xW (pv 0) xf)) xf))) (yr K (n:=2) rfl (xr (xY (i:=10) xX.nd rfl (Or.inr rfl)) (xr (xY (i:=11) xX.nd rfl (Or.inr rfl)) yo))))
  (xc (wu (i:=2) xX.nd rfl (Or.inl rfl) (yi (N:=["_law_a", "_law_b", "_law_c", "_law_v", "_law_u"]) (tau:=[none,none,none,some 11,some 10]) (XN:=["_law_state_here", "_law_way", "_law_rows", "_law_a", "_law_b", "_law_by", "_law_turn", "_law_near", "_law_k", "_law_some", "_law_u", "_law_v"]) (xs:=xg wU) (by decide +kernel) rfl rfl) rfl (wN (yO rfl (yO rfl (yO rfl qr)))) (yN K (pv 2)) (fun _ _ _ _=>(yr K (n:=3) rfl (xr (xY (i:=0) (show(["_law_a", "_law_b", "_law_c", "_law_v", "_law_u"]:List Str).Nodup by decide +kernel) rfl (Or.inl rfl)) (xr (xY (i:=1) (show(["_law_a", "_law_b", "_law_c", "_law_v", "_law_u"]:List Str).Nodup by decide +kernel) rfl (Or.inl rfl)) (xr (xY (i:=2) (show(["_law_a", "_law_b", "_law_c", "_law_v", "_law_u"]:List Str).Nodup by decide +kernel) rfl (Or.inl rfl)) yo))))) (fun _ _ _ _=>yR) (fun _ _ _ _=>(yc (xZ (pv 0) (xW (pv 1) (xD zd (xD zd (pv 2) (xD xM (pv 0) (pv 4))) (xD xM (pv 1) (pv 3))))))))
  (xc (yC 6 xX.nd (xm xH hr (xW (pv 0) (xO (yZ K) rfl (B.get "len") vh (yX (pv 2))))))
  (xh (xF (wc (y4 K) rfl (B.get "tuple") y3 (yX (xD xcL (gD (gz K) (pv 2) (sQ (pv 6)) sR) (gD (gz K) (pv 2) sR (sQ (pv 6)))))))))))))))),
  (xj (xN (yy (xS xt)))
  (xj (wI (jx va))
  (xj (yh (xG (xi kX xa xt)) (xj (yY (yt (vZ (b:=true) (xV (yd (b:=true) (xw (wM xt) xt)) (xV (yd (b:=true) (xw xt xt)) (xw (yd (b:=true) (xw xt (wM xt))) (yd (b:=true) (xw xt xt))))))) (yw (xl xk (xl xk ye))).g (xj (xN (xi zH xt (yy (xS xt))))
  (ku (yd (b:=true) (xV (xi yb xa xa) (xw (xi yb xa xa) (xi zH (xi yb xa (yy (xS xt))) (yy (xS xa)))))))))
  (xj (yY (vn (xS (yy (xS xt)))) xk.g (xj (jw (xw (xi uy (yy (xS xt)) xt) (xi uy (yy (xS xt)) xt)))
  (xj (yh (fH (xG (xi os_eq xa xt)) (xG (xi os_eq xa xt))) (xN xt) xI)
  (xj (xN (xi zH (xi yb xa (xi uy (yy (xS xt)) xt)) (xi yb xa (xi uy (yy (xS xt)) xt))))
  (ku (yd (b:=true) (xV xa (xw xa (xi uy (xi zH xa (yy (xS xt))) xt)))))))))
  (yh (xG (xi os_eq (yy (xS xt)) xt)) (ku (yd (b:=true) (xV (xi uy xt (zE (c6 (wM xt)) xt)) (xw (xi uy xt (zE (c6 (wM xt)) xt)) (xi uy xt (zE (c6 (wM xt)) xt)))))) xI))) xI)
  (xj (yh (xG (xi os_eq xa xt)) (xj (xN (xi zH xt (yy (xS xt))))
  (wI (jx (xV (yd (b:=true) (xV (wM xt) (xw xt xt))) (xw (yd (b:=true) (xV xt (xw (xi yb (wM xt) xa) xt))) (yd (b:=true) (xV xt (xw (xi yb xt xa) (xi yb xt xa))))))))) xI)
  (xj (yh (xG (xi os_eq xa xt)) (xj (xN (zE (vZ (b:=true) (xw (vZ (b:=true) (xV (yd (b:=true) (xw (wM xt) xt)) (xw (yd (b:=true) (xw xt (wM xt))) (yd (b:=true) (xw xt xt))))) (vZ (b:=true) (xV (yd (b:=true) (xw (wM xt) (wM xt))) (xw (yd (b:=true) (xw xt (wM xt))) (yd (b:=true) (xw xt xt))))))) (yy (xS xt))))
  (wI (yq (yt xa).c (yw (xl xk (xl xk ye))) yz (yd (b:=true) (xV xa (xw xa (yy (xS xt)))))))) xI)
  (xj (y_ (yd (b:=true) (xw (xi uy (yy (xS xt)) xt) (xi uy (yy (xS xt)) xt))) (yw (xl xk (xl xk ye))).g)
  (xj (wI (yq lQ (yw (xl xk (xl xk (xl xk ye)))) yz (yd (b:=true) (xV xa (xw xa (xi zH (xi zH xa (xi yb xa xa)) (xi yb xa xa)))))))
  (xj (xN (yy (xS (yF qF (xS lM)))))
  (xx (qM (xS (OkF.e (xaN (OkF.e (oP (gm xa) gA)) (OkF.e (oP gA (gm xa)))))))))))))))),fun ts KK hl h=>?_⟩)
 obtain⟨rfl,k⟩:=h
 refine⟨tk (by decide),fun w w0 w6=>?_⟩
 dsimp only
 refine xK (fun τ=>τ=[.st,.fz (.int w),.ow [],.un,.un,.un,.un,.un,.un,.un,.un,.un]) ?_ (fun N hN=>hN _ rfl)
 rintro _ rfl
 refine xK (fun τ=>∃(rows:List Pol.R3) (x:TV9),τ=[.st,.fz (.int w),.ow (rows.map trR),x.1,x.2.1,x.2.2.1,x.2.2.2.1,x.2.2.2.2.1,x.2.2.2.2.2.1,x.2.2.2.2.2.2.1,x.2.2.2.2.2.2.2.1,x.2.2.2.2.2.2.2.2]∧(w<4→LF0 rows)) ?_ ?_
 rotate_left
 ·intro N hN
  refine x_ (b:=decide (w<4)) (fun c=>?_) (fun c=>hN _ ⟨[],⟨_,_,_,_,_,_,_,_,_⟩,rfl,fun z=>absurd z (xju c)⟩)
  refine xK (fun τ=>∃(rows:List Pol.R3) (x:TV9),τ=[.st,.fz (.int w),.ow (rows.map trR),x.1,x.2.1,x.2.2.1,x.2.2.2.1,x.2.2.2.2.1,x.2.2.2.2.2.1,x.2.2.2.2.2.2.1,x.2.2.2.2.2.2.2.1,x.2.2.2.2.2.2.2.2]∧qt rows) ?_ ?_
  rotate_left
  ·intro N hN
   refine zU (oX.map dT) (fun i τ=>∃(rows:List Pol.R3) (x:TV9),τ=[.st,.fz (.int w),.ow (rows.map trR),x.1,x.2.1,x.2.2.1,x.2.2.2.1,x.2.2.2.2.1,x.2.2.2.2.2.1,x.2.2.2.2.2.2.1,x.2.2.2.2.2.2.2.1,x.2.2.2.2.2.2.2.2]∧p_ i rows) (fun KK h=>h) ⟨[],⟨_,_,_,_,_,_,_,_,_⟩,rfl,rfl,fun j r d h=>by simp at h⟩ ?_ ?_
   ·rintro i it τ N2 hx ⟨rows,x,rfl,hu⟩ hN2
    obtain⟨d,hd,rfl⟩:=wx hx
    have ds:=nK hd
    have hi:=(xik.mp hd).1
    have hi:i<4:=hi
    refine⟨rfl,tk (by decide),fun r a1 a2=>⟨za (by omega) (by omega),za (by omega) (by omega),tk (by decide),fun s a3 a4=>⟨za (by omega) (by omega),tk (by omega),fun q a5 a6=>⟨by rw[xit,hu.1];exact sqz (by omega),?_⟩⟩⟩⟩
    have x1:=Pol.pz (show 0≤1+r by omega) a3
    have x2:(1+r)*s≤(1+r)*4:=xhP (by omega) (by omega)
    have st:=hu.step hd (b:=1+r) (c:=(1+r)*s+q) (by omega)
    have e:rows.map trR++[Tr.tup [.int (d.1*(1+r)),.int (d.2*(1+r)),.int ((1+r)*s+q)]]=(rows++[(d.1*(1+r),d.2*(1+r),(1+r)*s+q)]).map trR:=by rw[xiB];rfl
    show N2 [.st,.fz (.int w),.ow (rows.map trR++[Tr.tup [.int (d.1*(1+r)),.int (d.2*(1+r)),.int ((1+r)*s+q)]]),_,_,_,_,_,_,_,_,_]
    rw[e]
    exact hN2 _ ⟨_,⟨_,_,_,_,_,_,_,_,_⟩,rfl,st⟩
   ·rintro τ ⟨rows,x,rfl,hu⟩
    exact hN _ ⟨rows,⟨_,_,_,_,_,_,_,_,_⟩,rfl,hu.box⟩
  rintro _ ⟨four,x,rfl,hB⟩
  have fl:=hB.len
  refine xK (fun τ=>∃(ex:List Pol.R3) (x:TV9),τ=[.st,.fz (.int w),.ow ((four++ex).map trR),x.1,x.2.1,x.2.2.1,x.2.2.2.1,x.2.2.2.2.1,x.2.2.2.2.2.1,x.2.2.2.2.2.2.1,x.2.2.2.2.2.2.2.1,x.2.2.2.2.2.2.2.2]∧ex.length≤3∧∀r∈ex,Extra r) ?_ ?_
  rotate_left
  ·intro N hN
   refine⟨tk (by decide),fun n n0 n4=>⟨⟨by omega,by omega⟩,?_⟩⟩
   refine ud (fun i τ=>∃(ex:List Pol.R3) (x:TV9),τ=[.st,.fz (.int w),.ow ((four++ex).map trR),x.1,x.2.1,x.2.2.1,x.2.2.2.1,x.2.2.2.2.1,x.2.2.2.2.2.1,x.2.2.2.2.2.2.1,x.2.2.2.2.2.2.2.1,x.2.2.2.2.2.2.2.2]∧ex.length=i∧∀r∈ex,Extra r) ⟨[],⟨_,_,_,_,_,_,_,_,_⟩,by rw[xh7],rfl,fun r hr=>by simp at hr⟩ ?_ ?_
   ·rintro i it τ N2 hx ⟨ex,x,rfl,hl,he⟩ hN2
    have hi:i<n.toNat:=by have:=(xik.mp hx).1;rw[ui] at this;exact this
    show xeD _ _ _ ([.st,.fz (.int w),.ow ((four++ex).map trR),x.1,x.2.1,x.2.2.1,.fz it,x.2.2.2.2.1,x.2.2.2.2.2.1,x.2.2.2.2.2.2.1,x.2.2.2.2.2.2.2.1,x.2.2.2.2.2.2.2.2]:TSt)
    refine xK (fun τ=>∃a b:Int,τ=[.st,.fz (.int w),.ow ((four++ex).map trR),.fz (.int a),.fz (.int b),x.2.2.1,.fz it,x.2.2.2.2.1,x.2.2.2.2.2.1,x.2.2.2.2.2.2.1,x.2.2.2.2.2.2.2.1,x.2.2.2.2.2.2.2.2]∧((-6≤a∧a≤6)∧(-6≤b∧b≤6))) ?_ (fun N3 hN3=>⟨tk (by decide),fun a a0 a1=>⟨tk (by decide),fun b b0 b1=>hN3 _ ⟨a-6,b-6,rfl,by omega⟩⟩⟩)
    rintro _ ⟨a,b,rfl,hab⟩
    refine xK (fun τ=>∃a b:Int,τ=[.st,.fz (.int w),.ow ((four++ex).map trR),.fz (.int a),.fz (.int b),x.2.2.1,.fz it,x.2.2.2.2.1,x.2.2.2.2.2.1,x.2.2.2.2.2.2.1,x.2.2.2.2.2.2.2.1,x.2.2.2.2.2.2.2.2]∧((-6≤a∧a≤6)∧(-6≤b∧b≤6))∧(a≠0∨b≠0)) ?_ ?_
    rotate_left
    ·intro N3 hN3
     refine x_ (b:=decide (a=0)) (fun c=>?_) (fun c=>?_)
     ·refine x_ (b:=decide (b=0)) (fun d=>?_) (fun d=>?_)
      ·exact hN3 _ ⟨2,b,rfl,by omega,.inl (by decide)⟩
      ·exact hN3 _ ⟨a,b,rfl,by omega,.inr (xju d)⟩
     ·exact ou (hN3 _ ⟨a,b,rfl,by omega,.inl (xju c)⟩)
    rintro _ ⟨a,b,rfl,hab,hne⟩
    refine⟨tk (by decide),fun s s0 s5=>⟨za (by omega) (by omega),tk (by decide),fun q q0 q5=>⟨za (by omega) (by omega),tk (by decide),fun t t0 t9=>⟨by rw[xit,xiq];exact sqz (by omega),?_⟩⟩⟩⟩
    have m1:=cX hab.1.1 hab.1.2 (show -2≤s-2 by omega) (show s-2≤2 by omega) (by decide) (by decide)
    have m2:=cX hab.2.1 hab.2.2 (show -2≤q-2 by omega) (show q-2≤2 by omega) (by decide) (by decide)
    have e:(four++ex).map trR++[Tr.tup [.int a,.int b,.int (a*(s-2)+b*(q-2)+t-1)]]=(four++(ex++[(a,b,a*(s-2)+b*(q-2)+t-1)])).map trR:=by
     rw[←xh6,cO];rfl
    show N2 [.st,.fz (.int w),.ow ((four++ex).map trR++[Tr.tup [.int a,.int b,.int (a*(s-2)+b*(q-2)+t-1)]]),_,_,_,_,_,_,_,_,_]
    rw[e]
    refine hN2 _ ⟨ex++[(a,b,a*(s-2)+b*(q-2)+t-1)],⟨.fz (.int a),.fz (.int b),x.2.2.1,.fz it,.fz (.int (a*(s-2)+b*(q-2))),x.2.2.2.2.2.1,x.2.2.2.2.2.2.1,x.2.2.2.2.2.2.2.1,x.2.2.2.2.2.2.2.2⟩,rfl,by simp[hl],fun r hr=>?_⟩
    rcases xiG.mp hr with h | h
    ·exact he r h
    ·rw[xiV.mp h]
     unfold Extra
     simp only
     omega
   ·rintro τ ⟨ex,x,rfl,hl,he⟩
    rw[ui] at hl
    exact hN _ ⟨ex,⟨_,_,_,_,_,_,_,_,_⟩,rfl,by omega,he⟩
  rintro _ ⟨ex,x,rfl,hl,he⟩
  refine⟨tk (by decide),fun e e0 e8=>?_⟩
  refine x_ (b:=decide (e=0)) (fun c=>?_) (fun c=>?_)
  ·obtain⟨ini,l,el,hx⟩:=hB.last he
   have la:atT ((four++ex).map trR) (-1)=some (trR l):=by rw[el,xiB];exact bZ _ _
   show sU (atT ((four++ex).map trR) (-1)) _
   rw[la]
   show sU (atT ((four++ex).map trR) (-1)) _
   rw[la]
   show sU (atT ((four++ex).map trR) (-1)) _
   rw[la]
   have e:(four++ex).map trR++[Tr.tup [.int (0-l.1),.int (0-l.2.1),.int (0-l.2.2)]]=(four++(ex++[(0-l.1,0-l.2.1,0-l.2.2)])).map trR:=by
    rw[←xh6,cO];rfl
   refine⟨by rw[xit,xiq];exact sqz (by omega),?_⟩
   show N [.st,.fz (.int w),.ow ((four++ex).map trR++[Tr.tup [.int (0-l.1),.int (0-l.2.1),.int (0-l.2.2)]]),_,_,_,_,_,_,_,_,_]
   rw[e]
   refine hN _ ⟨_,⟨_,_,_,_,_,_,_,_,_⟩,rfl,fun _=>hB.lf (fun r hr=>?_) (by simp;omega)⟩
   rcases xiG.mp hr with h | h
   ·exact he r h
   ·rw[xiV.mp h];exact hx
  ·exact hN _ ⟨_,⟨_,_,_,_,_,_,_,_,_⟩,rfl,fun _=>hB.lf he (by omega)⟩
 rintro _ ⟨rows,x,rfl,h4⟩
 refine xK (fun τ=>∃(rows:List Pol.R3) (x:TV9),τ=[.st,.fz (.int w),.ow (rows.map trR),x.1,x.2.1,x.2.2.1,x.2.2.2.1,x.2.2.2.2.1,x.2.2.2.2.2.1,x.2.2.2.2.2.2.1,x.2.2.2.2.2.2.2.1,x.2.2.2.2.2.2.2.2]∧(w<5→LF0 rows)) ?_ ?_
 rotate_left
 ·intro N hN
  refine x_ (b:=decide (w=4)) (fun c=>?_) (fun c=>hN _ ⟨_,⟨_,_,_,_,_,_,_,_,_⟩,rfl,fun z=>h4 (by have:=xju c;omega)⟩)
  refine⟨tk (by decide),fun r a1 a2=>⟨za (by omega) (by omega),za (by omega) (by omega),za (by omega) (by omega),?_⟩⟩
  exact hN _ ⟨[(-1,0,0),(1,-2*(1+r),0),(1,2*(1+r),2*(1+r))],⟨x.1,x.2.1,x.2.2.1,x.2.2.2.1,x.2.2.2.2.1,.fz (.int (1+r)),x.2.2.2.2.2.2.1,x.2.2.2.2.2.2.2.1,x.2.2.2.2.2.2.2.2⟩,rfl,fun _=>xbv (by omega) (by omega)⟩
 rintro _ ⟨rows,x,rfl,h5⟩
 refine xK (fun τ=>∃(rows:List Pol.R3) (x:TV9),τ=[.st,.fz (.int w),.ow (rows.map trR),x.1,x.2.1,x.2.2.1,x.2.2.2.1,x.2.2.2.2.1,x.2.2.2.2.2.1,x.2.2.2.2.2.2.1,x.2.2.2.2.2.2.2.1,x.2.2.2.2.2.2.2.2]∧LF0 rows) ?_ ?_
 rotate_left
 ·intro N hN
  refine x_ (b:=decide (w=5)) (fun c=>?_) (fun c=>hN _ ⟨_,⟨_,_,_,_,_,_,_,_,_⟩,rfl,h5 (by have:=xju c;omega)⟩)
  refine⟨tk (by decide),fun e e0 e2=>?_⟩
  obtain rfl | rfl:e=0∨e=1:=by omega
  ·refine⟨sqz (show(3:Nat)≤1000000 by decide),tX (f:=dT) (l:=[(-2,1),(1,-3),(2,3)]) Drawn (fun d _ N2 h2=>?_) (fun ys hy=>?_)⟩
   ·exact⟨rfl,tk (by decide),fun c c0 c8=>h2 _ ⟨c,⟨c0,c8⟩,rfl⟩⟩
   ·obtain⟨d1,d2,d3,g,rfl⟩:=xce hy
    exact hN _ ⟨[(-2,1,d1),(1,-3,d2),(2,3,d3)],⟨x.1,x.2.1,x.2.2.1,x.2.2.2.1,x.2.2.2.2.1,x.2.2.2.2.2.1,.fz (.lst (([(-2,1),(1,-3),(2,3)]:List (Int×Int)).map dT)),x.2.2.2.2.2.2.2.1,x.2.2.2.2.2.2.2.2⟩,rfl,xcZ g.1 g.2.1 g.2.2⟩
  ·refine⟨sqz (show(3:Nat)≤1000000 by decide),tX (f:=dT) (l:=[(-3,-2),(3,-1),(1,4)]) Drawn (fun d _ N2 h2=>?_) (fun ys hy=>?_)⟩
   ·exact⟨rfl,tk (by decide),fun c c0 c8=>h2 _ ⟨c,⟨c0,c8⟩,rfl⟩⟩
   ·obtain⟨d1,d2,d3,g,rfl⟩:=xce hy
    exact hN _ ⟨[(-3,-2,d1),(3,-1,d2),(1,4,d3)],⟨x.1,x.2.1,x.2.2.1,x.2.2.2.1,x.2.2.2.2.1,x.2.2.2.2.2.1,.fz (.lst (([(-3,-2),(3,-1),(1,4)]:List (Int×Int)).map dT)),x.2.2.2.2.2.2.2.1,x.2.2.2.2.2.2.2.2⟩,rfl,xdF g.1 g.2.1 g.2.2⟩
 rintro _ ⟨rows,x,rfl,hF⟩
 have l3:=hF.l3
 have l8:=hF.l8
 refine⟨tk (by decide),fun u u0 u7=>⟨tk (by decide),fun v v0 v7=>⟨rfl,?_⟩⟩⟩
 refine⟨by rw[xit];exact sqz (by omega),wO (f:=trR) (fun r=>trR (aP (u-3) (v-3) r)) (fun r hr N hN=>?_) ?_⟩
 ·have:=hF.sm r hr
  exact⟨rfl,za (by omega) (by omega),za (by omega) (by omega),hN⟩
 have hM:=hF.moved (u:=u-3) (v:=v-3) (by omega) (by omega)
 have em:rows.map (fun r=>trR (aP (u-3) (v-3) r))=(rows.map (aP (u-3) (v-3))).map trR:=by rw[xiE];rfl
 rw[em]
 generalize rows.map (aP (u-3) (v-3))=mv at hM
 have m3:=hM.l3
 have m8:=hM.l8
 refine⟨tk (by rw[xit];omega),fun t t0 t1=>?_⟩
 obtain⟨n,rfl⟩:∃n:Nat,t=(n:Int):=⟨t.toNat,by omega⟩
 show(mN (mv.map trR) (some (n:Int)) none).length+(mN (mv.map trR) none (some (n:Int))).length≤sizeLine∧KK (.tup (mN (mv.map trR) (some (n:Int)) none++mN (mv.map trR) none (some (n:Int))))
 rw[bM,xcc]
 refine⟨xft (by simp;omega),?_⟩
 have:=k _ (hM.rot n)
 rw[xiB,List.map_drop,List.map_take] at this
 exact this
theorem fA (B:Blt mg bn)(F:Fun K "_law_divisor" "_law_divisor" uZ f fd)(m:mg "_law_divisor" = some (.ref f))(b:Binds K fd ["_law_one", "_law_other"] [])  :
  Own P w K mg base 1 "_law_divisor" ["_law_one", "_law_other"] (spT 2 false false xcX):=by
 refine xB F v_ m b rfl (fun _ _ _ _ _ _ hr=>⟨_,_,
  (xc (cG PassesOwn.never (xQ (zY hr.units) (pv 1) xf (xR _)) (xh (sN (i:=0) (j:=1) rfl v_.nd rfl rfl (by decide) rfl rfl (xW (pv 1) (xD nZ (pv 0) (pv 1))) (by rfl))))
  (xh (xF (xO zI rfl (B.get "abs") vW (yX (pv 0)))))),
  (xj (rM (xG (xi vO xa xt)) (jw (xw xa (xi xau xa xa))))
  (xx (yF vX (xS xa)))),fun ts KK hl h=>?_⟩)
 obtain⟨a,c,rfl,k⟩:=h
 refine t7 (fun n τ=>∃x y:Int,τ=[.fz (.int x),.fz (.int y)]∧n=y.natAbs∧Fra.gd x y=Fra.gd a c) c.natAbs ⟨_,_,rfl,rfl,rfl⟩ ?_
 rintro n τ N ⟨x,y,rfl,rfl,hg⟩ hN
 refine x_ (b := !decide (y=0)) (fun c0=>?_) (fun c0=>?_)
 ·have c0:y≠0:=by simpa using c0
  exact⟨c0,hN (x.fmod y).natAbs _ (Fra.oh c0) ⟨_,_,rfl,rfl,by rw[Fra.xdW];exact hg⟩⟩
 ·have c0:y=0:=by simpa using c0
  subst c0
  rw[Fra.xc7] at hg
  have k:KK (.int (Fra.gd a c)):=k
  rw[←hg] at k
  exact k
theorem nP (B:Blt mg bn)(F:Fun K "_law_low" "_law_low" js f fd)(m:mg "_law_low" = some (.ref f))(b:Binds K fd ["_law_top", "_law_bottom"] [])(uT:Own P w K mg base 1 "_law_divisor" ["_law_one", "_law_other"] (spT 2 false false xcX)) :
  Own P w K mg base 2 "_law_low" ["_law_top", "_law_bottom"] (spT 2 false false o_):=by
 refine xB F kI m b rfl (fun _ _ _ _ _ _ hr=>⟨_,_,
  (xc (yC 2 kI.nd (xm uT hr (xW (pv 0) (pv 1))))
  (xc (yJ (xQ (jb K hr.units) (pv 1) xf (xR _)) (xh (yC 2 kI.nd (xD w5 xf (pv 2)))) xT)
  (xh (xF (yc (xW (xD zq (pv 0) (pv 2)) (xD zq (pv 1) (pv 2)))))))),
  (xj (xN (xy (xw xa xa)))
  (xj (yh (xG (xi kX xa xt)) (xN (xi uy xt xa)) xI)
  (xx (yd (b:=true) (xw (xi wV xa xa) (xi wV xa xa)))))),fun ts KK hl h=>?_⟩)
 obtain⟨t,b,rfl,hb,bd,k⟩:=h
 refine⟨t,b,rfl,?_⟩
 have gp:=Fra.mr (a:=t) (b:=b) (.inr hb)
 have gb:Bd (Fra.gd t b):=xax hb bd
 refine x_ (b:=decide (b<0)) (fun c=>?_) (fun c=>?_)
 ·have c:=xjv c
  rw[xc9 c] at k
  have gn:Bd (0-Fra.gd t b):=by unfold Bd at *;omega
  have e1:∀x:Int,x.fdiv (0-Fra.gd t b)=(-x) / Fra.gd t b:=fun x=>by
   have h:=Int.neg_fdiv_neg (-x) (Fra.gd t b)
   rw[Int.neg_neg] at h
   rw[show 0-Fra.gd t b = -(Fra.gd t b) by omega,h,zJ (by omega)]
  have e2:Fra.low (-t) (-b)=((-t) / Fra.gd t b,(-b) / Fra.gd t b):=by
   unfold Fra.low
   rw[show Fra.gd (-t) (-b)=Fra.gd t b by unfold Fra.gd;simp]
  rw[e2,←e1,←e1] at k
  exact⟨⟨by show(0-Fra.gd t b)≠0;omega,gn⟩,⟨by show(0-Fra.gd t b)≠0;omega,gn⟩,k⟩
 ·have c:=xju c
  rw[uU (by omega)] at k
  refine⟨⟨by show Fra.gd t b≠0;omega,gb⟩,⟨by show Fra.gd t b≠0;omega,gb⟩,?_⟩
  show KK (.tup [.int (t.fdiv (Fra.gd t b)),.int (b.fdiv (Fra.gd t b))])
  rw[zJ (by omega),zJ (by omega)]
  exact k
theorem aX (B:Blt mg bn)(F:Fun K "_law_value" "_law_value" qk f fd)(m:mg "_law_value" = some (.ref f))(b:Binds K fd ["_law_row", "_law_place"] [])(yH:Own P w K mg base 2 "_law_low" ["_law_top", "_law_bottom"] (spT 2 false false o_)) :
  Own P w K mg base 3 "_law_value" ["_law_row", "_law_place"] (spT 2 false false xcE):=by
 refine xB F vD m b rfl (fun _ _ _ _ _ _ hr=>⟨_,_,
  (xc (zC (pv 1) (yr K (n:=2) rfl (xr (yB 2 vD.nd) (xr (yB 3 vD.nd) yo))))
  (xh (xF (xm yH hr (xW (xD zd (xD xM (xD xM (xo K 0) (xo K 2)) (xo K 3)) (xD xM (xD xM (xo K 0) (xo K 3)) (xo K 2))) (xD xM (xo K 2) (xo K 3))))))),
  (xj (y_ xa (yw (xl xk (xl xk ye))).g)
  (xx (xy (xw (xi zH (xi yb (xi yb xq xq) xq) (xi yb (xi yb xq xq) xq)) (xi yb xq xq))))),fun ts KK hl h=>?_⟩)
 obtain⟨a,c,x,p,rfl,ha,hc,hx,hy,k⟩:=h
 exact⟨rfl,⟨ha.bd,hx.top.bd⟩,⟨(ha.mul hx.top).bd,hy.bot.bd⟩,⟨hc.bd,hy.top.bd⟩,⟨(hc.mul hy.top).bd,hx.bot.bd⟩,⟨hx.bot.bd,hy.bot.bd⟩,_,_,rfl,by have:=Pol.pp hx.pos hy.pos;omega,(hx.bot.mul hy.bot).bd,k⟩
theorem aI (B:Blt mg bn)(F:Fun K "_law_keeps" "_law_keeps" qh f fd)(m:mg "_law_keeps" = some (.ref f))(b:Binds K fd ["_law_row", "_law_place"] [])(qC:Own P w K mg base 3 "_law_value" ["_law_row", "_law_place"] (spT 2 false false xcE)) :
  Own P w K mg base 4 "_law_keeps" ["_law_row", "_law_place"] (spT 2 false false xcQ):=by
 refine xB F jc m b rfl (fun _ _ _ _ _ _ hr=>⟨_,_,
  (xc (yC 2 jc.nd (xm qC hr (xW (pv 0) (pv 1))))
  (xh (xF (zj dO (xo K 2) (xD xM (xo K 0) (xo K 2)) (xR _))))),
  (xj (xN (xy (xw xa xa)))
  (xx (xi dm xq (xi yb xq xq)))),fun ts KK hl h=>?_⟩)
 obtain⟨r,p,rfl,hr,hx,hy,k⟩:=h
 exact⟨r.1,r.2.1,[.int r.2.2],p,rfl,hr.1.1,hr.1.2,hx,hy,⟨hr.2.bd,(show Bd (vY r p).2 from xbp hx hy hr)⟩,k⟩
end
end K12
namespace K12
open PySem L2 Trn
section
variable {P:Program} {w:World} {K:PySem.W.Frag} {mg:Str→Option Value} {base:Heap} {f:Addr} {fd:FuncData}
theorem td (B:Blt mg bn)(F:Fun K "_law_plus" "_law_plus" kH f fd)(m:mg "_law_plus" = some (.ref f))(b:Binds K fd ["_law_one", "_law_other"] [])(yH:Own P w K mg base 2 "_law_low" ["_law_top", "_law_bottom"] (spT 2 false false o_)) :
  Own P w K mg base 3 "_law_plus" ["_law_one", "_law_other"] (spT 2 false false xcz):=by
 refine xB F mG m b rfl (fun _ _ _ _ _ _ hr=>⟨_,_,
  (xh (xF (xm yH hr (xW (xD zd (xD xM (xo K 0) (xo K 1)) (xD xM (xo K 1) (xo K 0))) (xD xM (xo K 0) (xo K 1)))))),
  (xx (xy (xw (xi zH (xi yb xq xq) (xi yb xq xq)) (xi yb xq xq)))),fun ts KK hl h=>?_⟩)
 obtain⟨f,g,rfl,hf,hg,k⟩:=h
 exact⟨⟨hf.top.bd,hg.bot.bd⟩,⟨hg.top.bd,hf.bot.bd⟩,⟨hf.bot.bd,hg.bot.bd⟩,_,_,rfl,by have:=Pol.pp hf.pos hg.pos;omega,(hf.bot.mul hg.bot).bd,k⟩
theorem dH (B:Blt mg bn)(F:Fun K "_law_summed" "_law_summed" vM f fd)(m:mg "_law_summed" = some (.ref f))(b:Binds K fd ["_law_rows", "_law_weights_here"] [])(kJ:Own P w K mg base 3 "_law_plus" ["_law_one", "_law_other"] (spT 2 false false xcz))(qu:Own P w K mg base 3 "_law_times" ["_law_one", "_law_other"] (spT 2 false false xaj)) :
  Own P w K mg base 4 "_law_summed" ["_law_rows", "_law_weights_here"] (spT 2 false false rm):=by
 refine xB F zG m b rfl (fun _ _ _ _ _ _ hr=>⟨_,_,
  (xc (yC 2 zG.nd (zQ (xZ (yc (xW xf xf)) (xW (yc (xW xf xf)) (yc (xW xf xf))))))
  (xc (zM PassesOwn.never rfl (fL K rfl (B.get "zip") (xW (pv 0) (pv 1))) (yr K (n:=2) rfl (xr (yB 3 zG.nd) (xr (yB 4 zG.nd) yo))) (xh (zM PassesOwn.never rfl (qj rfl (B.get "range") (yX xf)) (yB 5 zG.nd) (xh (zC (xm kJ hr (xW (yT (yg K) (pv 2) (pv 5) (fun _ _=>rfl)) (xm qu hr (xW (pv 4) (yc (xW (yT (yg K) (pv 3) (pv 5) (fun _ _=>rfl)) xf)))))) (j3 (pv 2) (pv 5) set_list))))))
  (xh (xF (wc (y4 K) rfl (B.get "tuple") y3 (yX (pv 2))))))),
  (xj (wI (jx (xV (yd (b:=true) (xw xt xt)) (xw (yd (b:=true) (xw xt xt)) (yd (b:=true) (xw xt xt))))))
  (xj (yY (jg (xw xa xa)) (yw (xl xk (xl xk ye))).g (yY (vn (xS xt)) xk.g (y_ (xy (xw (c6 xa) (xy (xw xa (yd (b:=true) (xw (zE xa xa) xt)))))) (jP xa))))
  (xx bH))),fun ts KK hl h=>?_⟩)
 obtain⟨rows,ws,rfl,H0,k⟩:=h
 have hl8:=H0.l100
 have hlen:=H0.len
 have zl:(rows.zip ws).length=rows.length:=by rw[xiz];omega
 have hz:=fun x hx=>H0.zip (x:=x) hx
 refine xK (fun τ=>τ=[.fz (.tup (rows.map trR)),.fz (.tup (ws.map fT)),.ow [fT (0,1),fT (0,1),fT (0,1)],.un,.un,.un]) ?_ (fun N hN=>hN _ rfl)
 rintro _ rfl
 refine xK (fun τ=>∃x3 x4 x5:TV,τ=[.fz (.tup (rows.map trR)),.fz (.tup (ws.map fT)),.ow [fT (wsum k0 (rows.zip ws)),fT (wsum k1 (rows.zip ws)),fT (wsum k2 (rows.zip ws))],x3,x4,x5]) ?_ (fun N hN=>?_)
 ·rintro _ ⟨x3,x4,x5,rfl⟩
  exact k
 show xeE _ _ _ _ _
 have zt:bR (rows.map trR) (ws.map fT)=(rows.zip ws).map rwT:=gj trR fT rows ws
 refine zU ((rows.zip ws).map rwT) (fun i τ=>∃x3 x4 x5:TV,τ=[.fz (.tup (rows.map trR)),.fz (.tup (ws.map fT)),.ow [fT (wsum k0 ((rows.zip ws).take i)),fT (wsum k1 ((rows.zip ws).take i)),fT (wsum k2 ((rows.zip ws).take i))],x3,x4,x5]) (fun KK h=>by rw[←zt] at h;exact h) ⟨_,_,_,rfl⟩ ?_ (fun τ ⟨x3,x4,x5,e⟩=>hN _ ⟨x3,x4,x5,by rw[e,xit,xi8]⟩)
 rintro i x τ N2 hx ⟨x3,x4,x5,rfl⟩ hN2
 obtain⟨y,hy,rfl⟩:=wx hx
 have il:=(xik.mp hy).1
 obtain⟨hr,hw⟩:=hz y (xiR hy)
 have tk1:(rows.zip ws).take (i+1)=(rows.zip ws).take i++[y]:=by rw[xi_,hy];rfl
 have fk:∀(k:Pol.R3→Int),(∀r,B3k 10 r→Bk 10 (k r))→Fk 900 (wsum k ((rows.zip ws).take i)):=fun k hk =>
  (m7 k _ fun x hx=>⟨(hz x (xiS hx)).2.sm,hk _ (hz x (xiS hx)).1⟩).mono (by rw[xiy];omega)
 have f0:=fk k0 fun r h=>h.1.1
 have f1:=fk k1 fun r h=>h.1.2
 have f2:=fk k2 fun r h=>h.2
 rw[tk1,wsum_snoc,wsum_snoc,wsum_snoc] at hN2
 generalize wsum k0 ((rows.zip ws).take i)=A0 at f0 hN2
 generalize wsum k1 ((rows.zip ws).take i)=A1 at f1 hN2
 generalize wsum k2 ((rows.zip ws).take i)=A2 at f2 hN2
 refine⟨rfl,?_⟩
 have one9:∀ {n:Int},Bk 10 n→Fk 900 (n,1):=fun h=>⟨h.mono (by decide),by show Bk 900 1;unfold Bk;decide,by show(0:Int)<1;decide⟩
 have w9:Fk 900 y.2:=hw.sm.mono (by decide)
 have t9:∀ {n:Int},Bk 10 n→Fk 900 (xa3 y.2 (n,1)):=fun h=>(hw.sm.timI h).mono (by decide)
 refine⟨⟨by decide,by decide⟩,?_⟩
 refine⟨y.2,(y.1.1,1),rfl,w9,one9 hr.1.1,A0,_,rfl,f0,t9 hr.1.1,?_⟩
 refine⟨y.2,(y.1.2.1,1),rfl,w9,one9 hr.1.2,A1,_,rfl,f1,t9 hr.1.2,?_⟩
 refine⟨y.2,(y.1.2.2,1),rfl,w9,one9 hr.2,A2,_,rfl,f2,t9 hr.2,?_⟩
 exact hN2 _ ⟨_,_,_,rfl⟩
theorem ah (B:Blt mg bn)(F:Fun K "_law_times" "_law_times" qp f fd)(m:mg "_law_times" = some (.ref f))(b:Binds K fd ["_law_one", "_law_other"] [])(yH:Own P w K mg base 2 "_law_low" ["_law_top", "_law_bottom"] (spT 2 false false o_)) :
  Own P w K mg base 3 "_law_times" ["_law_one", "_law_other"] (spT 2 false false xaj):=by
 refine xB F aR m b rfl (fun _ _ _ _ _ _ hr=>⟨_,_,
  (xh (xF (xm yH hr (xW (xD xM (xo K 0) (xo K 1)) (xD xM (xo K 0) (xo K 1)))))),
  (xx (xy (xw (xi yb xq xq) (xi yb xq xq)))),fun ts KK hl h=>?_⟩)
 obtain⟨f,g,rfl,hf,hg,k⟩:=h
 exact⟨⟨hf.top.bd,hg.top.bd⟩,⟨hf.bot.bd,hg.bot.bd⟩,_,_,rfl,by have:=Pol.pp hf.pos hg.pos;omega,(hf.bot.mul hg.bot).bd,k⟩
theorem m5 (B:Blt mg bn)(F:Fun K "_law_cut" "_law_cut" jL f fd)(m:mg "_law_cut" = some (.ref f))(b:Binds K fd ["_law_rows", "_law_weights_here"] [])(zz:Own P w K mg base 4 "_law_summed" ["_law_rows", "_law_weights_here"] (spT 2 false false rm)) :
  Own P w K mg base 5 "_law_cut" ["_law_rows", "_law_weights_here"] (spT 2 false false xem):=by
 refine xB F vE m b rfl (fun _ _ _ _ _ _ hr=>⟨_,_,
  (xc (zC (xm zz hr (xW (pv 0) (pv 1))) (yr K (n:=3) rfl (xr (yB 2 vE.nd) (xr (yB 3 vE.nd) (xr (yB 4 vE.nd) yo)))))
  (xc (yJ (PW.pt (uI (xQ (zY hr.units) (xo K 2) xf (xR _)) (uI (xQ (zY hr.units) (xo K 3) xf (xR _)) (wR (PW.pt (rO (xQ (wj hr.units) (xo K 2) xf (xR _)) (g9 (xQ (wj hr.units) (xo K 3) xf (xR _))))))))) (xh (xF gY)) xT)
  (xh (xF (yc (xZ (xo K 2) (xW (xo K 3) (xD zq (xo K 4) (xo K 4))))))))),
  (xj (y_ (xy (xw xa xa)) (yw (xl xk (xl xk (xl xk ye)))).g)
  (xj (yh (zB (xG (xi vO xq xt)) (zB (xG (xi vO xq xt)) (fH (xG (xi os_eq xq xt)) (xG (xi os_eq xq xt))))) (xx (xa2 (t:=Tr.non))) xI)
  (xx (yd (b:=true) (xV xq (xw xq (xi wV xq xq))))))),fun ts KK hl h=>?_⟩)
 obtain⟨rows,ws,rfl,H0,k⟩:=h
 obtain⟨p0,pb⟩:=H0.bot
 refine⟨rows,ws,rfl,H0,?_⟩
 refine⟨rfl,?_⟩
 have cn:(wsum k2 (rows.zip ws)).2≠0:=by omega
 have ce:uD (rows.zip ws)=trR ((wsum k0 (rows.zip ws)).1,(wsum k1 (rows.zip ws)).1,(wsum k2 (rows.zip ws)).1.fdiv (wsum k2 (rows.zip ws)).2):=rfl
 rw[ce] at k
 generalize wsum k0 (rows.zip ws)=a at *
 generalize wsum k1 (rows.zip ws)=b' at *
 generalize wsum k2 (rows.zip ws)=c at *
 have no:¬v5 a b'→KK .non:=fun h=>by rw[if_neg h] at k;exact k
 have yes:v5 a b'→KK (trR (a.1,b'.1,c.1.fdiv c.2)):=fun h=>by rw[if_pos h] at k;exact k
 refine x_ (b := !decide (a.2=1)) (fun z=>no fun y=>?_) (fun z1=>?_)
 ·simp[y.1] at z
 have z1:a.2=1:=by simpa using z1
 refine x_ (b := !decide (b'.2=1)) (fun z=>no fun y=>?_) (fun z2=>?_)
 ·simp[y.2.1] at z
 have z2:b'.2=1:=by simpa using z2
 refine x_ (b:=decide (a.1=0)) (fun z=>?_) (fun z3=>?_)
 ·have z3:=xjv z
  refine x_ (b:=decide (b'.1=0)) (fun z4=>?_) (fun z4=>?_)
  ·exact no fun y=>y.2.2 ⟨z3,xjv z4⟩
  ·exact⟨⟨cn,pb⟩,yes ⟨z1,z2,fun y=>xju z4 y.2⟩⟩
 ·exact⟨⟨cn,pb⟩,yes ⟨z1,z2,fun y=>xju z3 y.1⟩⟩
theorem gQ (B:Blt mg bn)(F:Fun K "_law_weights" "_law_weights" wH f fd)(m:mg "_law_weights" = some (.ref f))(b:Binds K fd ["_law_state_here", "_law_rows"] [])(xH:Own P w K mg base 1 "_law_take" ["_law_state_here", "_law_many"] (spT 1 true false xbj))(yH:Own P w K mg base 2 "_law_low" ["_law_top", "_law_bottom"] (spT 2 false false o_)) :
  Own P w K mg base 3 "_law_weights" ["_law_state_here", "_law_rows"] (spT 1 true false tw):=by
 refine tQ F y2 m b rfl (fun _ _ _ _ _ _ hr=>⟨_,_,
  (xc (yC 2 y2.nd (xO (yZ K) rfl (B.get "len") vh (yX (pv 1))))
  (xc (yC 3 y2.nd (xD xcD (zQ (yX (yc (xW xf xf)))) (pv 2)))
  (xc (yC 4 y2.nd (xm xH hr (xW (pv 0) xf)))
  (xc (yJ (xQ (wj hr.units) (pv 4) xf (xR _)) (xh (xF (wc (y4 K) rfl (B.get "tuple") y3 (yX (zL (yi (N:=["_law_row", "_law_state_here"]) (tau:=[none,some 0]) (XN:=["_law_state_here", "_law_rows", "_law_many", "_law_found", "_law_way", "_law_one", "_law_other", "_law_by"]) (xs:=xg wH) (by decide +kernel) rfl rfl) rfl (zm rfl) (yN K (pv 1)) (fun _ _ _ _=>(xY (i:=0) (show(["_law_row", "_law_state_here"]:List Str).Nodup by decide +kernel) rfl (Or.inl rfl))) (fun _ _ _ _=>yR) (fun _ _ _ _=>(xm yH hr (xW (xm xH hr (xW (pv 1) xf)) (xD zd xf (xm xH hr (xW (pv 1) xf))))))))))) xT)
  (xc (sN (i:=5) (j:=6) rfl y2.nd rfl rfl (by decide) rfl rfl (xW (xm xH hr (xW (pv 0) (pv 2))) (xm xH hr (xW (pv 0) (pv 2)))) (by rfl))
  (xc (yC 7 y2.nd (xO (gS rfl) rfl (B.get "max") cE (xW xf (xO zI rfl (B.get "abs") vW (yX (xD w5 (xD xM (yT (yg K) (yT (yg K) (pv 1) (pv 5) (fun _ _=>rfl)) xf (fun _ _=>rfl)) (yT (yg K) (yT (yg K) (pv 1) (pv 6) (fun _ _=>rfl)) xf (fun _ _=>rfl))) (xD xM (yT (yg K) (yT (yg K) (pv 1) (pv 5) (fun _ _=>rfl)) xf (fun _ _=>rfl)) (yT (yg K) (yT (yg K) (pv 1) (pv 6) (fun _ _=>rfl)) xf (fun _ _=>rfl)))))))))
  (xc (zC (xm yH hr (xW (xm xH hr (xW (pv 0) (xD xM xf (pv 7)))) (pv 7))) (j3 (pv 3) (pv 5) set_list))
  (xc (zC (xm yH hr (xW (xm xH hr (xW (pv 0) (xD zd (pv 7) xf))) (pv 7))) (j3 (pv 3) (pv 6) set_list))
  (xc (yJ (xQ (wj hr.units) (pv 4) xf (xR _)) (xh (zC (yc (xW (xm xH hr (xW (pv 0) xf)) xf)) (j3 (pv 3) (xm xH hr (xW (pv 0) (pv 2))) set_list))) xT)
  (xh (xF (wc (y4 K) rfl (B.get "tuple") y3 (yX (pv 3)))))))))))))),
  (xj (xN (yF qF (xS xa)))
  (xj (wI (xaB (vZ (b:=true) (xS (yd (b:=true) (xw xt xt)))) xa))
  (xj (xN (yy (xS xt)))
  (xj (yh (xG (xi os_eq xa xt)) (xx (qM (xS (OkF.e (yq (yt xa).c xk yz (xy (xw (yy (xS xt)) (xi zH xt (yy (xS xt)))))))))) xI)
  (xj (jw (xw (yy (xS xa)) (yy (xS xa))))
  (xj (xN (yF nA (xw xt (yF vX (xS (xi uy (xi yb (zE (zE xa xa) xt) (zE (zE xa xa) xt)) (xi yb (zE (zE xa xa) xt) (zE (zE xa xa) xt))))))))
  (xj (y_ (xy (xw (yy (xS (xi yb xt xa))) xa)) (jP xa))
  (xj (y_ (xy (xw (yy (xS (xi zH xa xt))) xa)) (jP xa))
  (xj (yh (xG (xi os_eq xa xt)) (y_ (yd (b:=true) (xw (yy (xS xt)) xt)) (jP (yy (xS xa)))) xI)
  (xx bH)))))))))),fun ts KK hl h=>?_⟩)
 obtain⟨rows,rfl,hF,k⟩:=h
 have l3:=hF.l3
 have l8:=hF.l8
 have ml:(rows.map trR).length=rows.length:=xit _
 refine xK (fun τ=>τ=[.st,.fz (.tup (rows.map trR)),.fz (.int (rows.length:Nat)),.un,.un,.un,.un,.un]) ?_ (fun N hN=>hN _ (by rw[←ml];rfl))
 rintro _ rfl
 refine xK (fun τ=>τ=[.st,.fz (.tup (rows.map trR)),.fz (.int (rows.length:Nat)),.ow ((List.replicate rows.length ((0:Int),(1:Int))).map fT),.un,.un,.un,.un]) ?_ (fun N hN=>⟨⟨by omega,by omega⟩,xft (by simp;omega),hN _ (by
  show([.st,.fz (.tup (rows.map trR)),.fz (.int (rows.length:Nat)),.ow (List.replicate rows.length [fT (0,1)]).flatten,.un,.un,.un,.un]:TSt)=_
  rw[ar,List.map_replicate])⟩)
 rintro _ rfl
 refine xK (fun τ=>∃way:Int,τ=[.st,.fz (.tup (rows.map trR)),.fz (.int (rows.length:Nat)),.ow ((List.replicate rows.length ((0:Int),(1:Int))).map fT),.fz (.int way),.un,.un,.un]) ?_ (fun N hN=>⟨tk (by decide),fun r _ _=>hN _ ⟨r,rfl⟩⟩)
 rintro _ ⟨way,rfl⟩
 refine xK (fun τ=>τ=[.st,.fz (.tup (rows.map trR)),.fz (.int (rows.length:Nat)),.ow ((List.replicate rows.length ((0:Int),(1:Int))).map fT),.fz (.int way),.un,.un,.un]) ?_ (fun N hN=>?_)
 rotate_left
 ·refine x_ (b:=decide (way=0)) (fun c=>?_) (fun c=>hN _ rfl)
  refine⟨by rw[ml];exact sqz (by omega),xbF (fun _ y=>∃w,y=fT w∧Wt w) (fun x _ N h1=>?_) (fun ys hp=>?_)⟩
  ·refine⟨tk (by decide),fun p p0 p1=>⟨tk (by decide),fun q q0 q1=>⟨_,_,rfl,by omega,w_ (by omega),h1 _ ⟨_,rfl,c_ (by omega) (by omega)⟩⟩⟩⟩
  ·obtain⟨ws,rfl,hw,hl2⟩:=fP hp
   rw[ml] at hl2
   exact k ws hl2 hw
 rintro _ rfl
 refine xK (fun τ=>∃one other:Int,((0≤one∧one<rows.length)∧0≤other∧other<rows.length)∧τ=[.st,.fz (.tup (rows.map trR)),.fz (.int (rows.length:Nat)),.ow ((List.replicate rows.length ((0:Int),(1:Int))).map fT),.fz (.int way),.fz (.int one),.fz (.int other),.un]) ?_ (fun N hN=>⟨tk (by omega),fun p p0 p1=>⟨tk (by omega),fun q q0 q1=>hN _ ⟨p,q,⟨⟨p0,p1⟩,q0,q1⟩,rfl⟩⟩⟩)
 rintro _ ⟨one,other,⟨h1,h2⟩,rfl⟩
 obtain⟨n1,rfl⟩:∃n:Nat,one=(n:Int):=⟨one.toNat,by omega⟩
 obtain⟨n2,rfl⟩:∃n:Nat,other=(n:Int):=⟨other.toNat,by omega⟩
 have m1:n1<rows.length:=by omega
 have m2:n2<rows.length:=by omega
 have e1:atT (rows.map trR) (n1:Int)=some (trR rows[n1]):=by rw[fE,xil,xii m1];rfl
 have e2:atT (rows.map trR) (n2:Int)=some (trR rows[n2]):=by rw[fE,xil,xii m2];rfl
 have s1:=hF.sm rows[n1] (xip m1)
 have s2:=hF.sm rows[n2] (xip m2)
 generalize rows[n1]=r1 at e1 s1
 generalize rows[n2]=r2 at e2 s2
 refine xK (fun τ=>∃by':Int,(1≤by'∧by'≤1000)∧τ=[.st,.fz (.tup (rows.map trR)),.fz (.int (rows.length:Nat)),.ow ((List.replicate rows.length ((0:Int),(1:Int))).map fT),.fz (.int way),.fz (.int n1),.fz (.int n2),.fz (.int by')]) ?_ (fun N hN=>?_)
 rotate_left
 ·show sU (atT (rows.map trR) (n1:Int)) _
  rw[e1]
  show sU (atT (rows.map trR) (n2:Int)) _
  rw[e2]
  refine⟨za (by omega) (by omega),?_⟩
  show sU (atT (rows.map trR) (n1:Int)) _
  rw[e1]
  show sU (atT (rows.map trR) (n2:Int)) _
  rw[e2]
  refine⟨za (by omega) (by omega),hN _ ⟨_,?_,rfl⟩⟩
  have u1:=bN (a:=r1.1) (b:=r2.2.1) (m:=14) (n:=14) (by omega) (by omega)
  have u2:=bN (a:=r1.2.1) (b:=r2.1) (m:=14) (n:=14) (by omega) (by omega)
  split<;>split<;>omega
 rintro _ ⟨by',hb,rfl⟩
 have start:∀w∈List.replicate rows.length ((0:Int),(1:Int)),Wt w:=fun w hw=>by
  rw[(List.mem_replicate.mp hw).2];exact xcn (by decide)
 have sl:(List.replicate rows.length ((0:Int),(1:Int))).length=rows.length:=xiv
 generalize List.replicate rows.length ((0:Int),(1:Int))=l at start sl
 have mem:∀ {l:List F2} {n:Nat} {w:F2},(∀w∈l,Wt w)→Wt w→∀v∈l.set n w,Wt v:=fun {l n w} h hw v hv=>(xiT hv).elim (h v) fun e=>by rw[e];exact hw
 refine xK (fun τ=>∃l:List F2,(∀w∈l,Wt w)∧l.length=rows.length∧τ=[.st,.fz (.tup (rows.map trR)),.fz (.int (rows.length:Nat)),.ow (l.map fT),.fz (.int way),.fz (.int n1),.fz (.int n2),.fz (.int by')]) ?_ (fun N hN=>⟨za (by decide) (by omega),tk (by omega),fun q q0 q1=>⟨_,_,rfl,by omega,w_ (by omega),?_⟩⟩)
 rotate_left
 ·exact gy (f:=fT) (n:=n1) rfl (by omega) (fun _ h=>h) (hN _ ⟨_,mem start (c_ (by omega) (by omega)),by rw[xiw];exact sl,rfl⟩)
 clear start sl l
 rintro _ ⟨l,start,sl,rfl⟩
 refine xK (fun τ=>∃l:List F2,(∀w∈l,Wt w)∧l.length=rows.length∧τ=[.st,.fz (.tup (rows.map trR)),.fz (.int (rows.length:Nat)),.ow (l.map fT),.fz (.int way),.fz (.int n1),.fz (.int n2),.fz (.int by')]) ?_ (fun N hN=>⟨tk (by omega),fun q q0 q1=>⟨_,_,rfl,by omega,w_ (by omega),?_⟩⟩)
 rotate_left
 ·exact gy (f:=fT) (n:=n2) rfl (by omega) (fun _ h=>h) (hN _ ⟨_,mem start (c_ (by omega) (by omega)),by rw[xiw];exact sl,rfl⟩)
 clear start sl l
 rintro _ ⟨l,start,sl,rfl⟩
 refine xK (fun τ=>∃l:List F2,(∀w∈l,Wt w)∧l.length=rows.length∧τ=[.st,.fz (.tup (rows.map trR)),.fz (.int (rows.length:Nat)),.ow (l.map fT),.fz (.int way),.fz (.int n1),.fz (.int n2),.fz (.int by')]) ?_ (fun N hN=>?_)
 ·rintro _ ⟨l,start,sl,rfl⟩
  exact k l sl start
 ·refine x_ (b:=decide (way=1)) (fun c=>⟨tk (by decide),fun q q0 q1=>⟨tk (by omega),fun p p0 p1=>?_⟩⟩) (fun c=>hN _ ⟨l,start,sl,rfl⟩)
  obtain⟨m',rfl⟩:∃m:Nat,p=(m:Int):=⟨p.toNat,by omega⟩
  show match xdU (l.map fT) (fT (q,1)) (m':Int) with | some us=>N ([.st,.fz (.tup (rows.map trR)),.fz (.int (rows.length:Nat)),.ow us,.fz (.int way),.fz (.int n1),.fz (.int n2),.fz (.int by')]:TSt) | none=>False
  rw[xbY (by omega)]
  exact hN _ ⟨_,mem start (xcn (by omega)),by rw[xiw];exact sl,rfl⟩
end
end K12
namespace K12
open PySem L2 Trn
section
variable {P:Program} {w:World} {K:PySem.W.Frag} {mg:Str→Option Value} {base:Heap} {f:Addr} {fd:FuncData}
theorem jj (B:Blt mg bn)(F:Fun K "_law_whole_left" "_law_whole_left" yM f fd)(m:mg "_law_whole_left" = some (.ref f))(b:Binds K fd ["_law_rows", "_law_places"] [])  :
  Own P w K mg base 1 "_law_whole_left" ["_law_rows", "_law_places"] (spT 2 false false xgs):=by
 refine xB F yG m b rfl (fun _ _ _ _ _ _ hr=>⟨_,_,
  (xc (yJ (xQ (wj hr.units) (pv 1) (zQ vp) (xR _)) (xh (xF (zQ vp))) xT)
  (xc (fK (i:=2) yG.nd rfl (Or.inl rfl) (t_ (N:=["_law_at", "_law_places"]) (tau:=[none,some 1]) (XN:=["_law_rows", "_law_places", "_law_lows", "_law_highs", "_law_found", "_law_x", "_law_y"]) (xs:=xg yM) (by decide +kernel) rfl rfl) rfl (zm rfl) (yN K (yc (xW xf xf))) (fun _ _ _ _=>(xY (i:=0) (show(["_law_at", "_law_places"]:List Str).Nodup by decide +kernel) rfl (Or.inr rfl))) (fun _ _ _ _=>yR) (fun _ _ _ _=>(xO (oB K rfl) rfl (B.get "min") xcv (yX (zL (yi (N:=["_law_place", "_law_at"]) (tau:=[none,some 0]) (XN:=["_law_at", "_law_places"]) (xs:=_) (by kernel_rfl) rfl rfl) rfl (zm rfl) (yN K (pv 1)) (fun _ _ _ _=>(xY (i:=0) (show(["_law_place", "_law_at"]:List Str).Nodup by decide +kernel) rfl (Or.inl rfl))) (fun _ _ _ _=>yR) (fun _ _ _ _=>(xD zq (yT (yg K) (yT (yg K) (pv 0) (pv 1) (fun _ _=>rfl)) xf (fun _ _=>rfl)) (yT (yg K) (yT (yg K) (pv 0) (pv 1) (fun _ _=>rfl)) xf (fun _ _=>rfl)))))))))
  (xc (fK (i:=3) yG.nd rfl (Or.inl rfl) (t_ (N:=["_law_at", "_law_places"]) (tau:=[none,some 1]) (XN:=["_law_rows", "_law_places", "_law_lows", "_law_highs", "_law_found", "_law_x", "_law_y"]) (xs:=xg yM) (by decide +kernel) rfl rfl) rfl (zm rfl) (yN K (yc (xW xf xf))) (fun _ _ _ _=>(xY (i:=0) (show(["_law_at", "_law_places"]:List Str).Nodup by decide +kernel) rfl (Or.inr rfl))) (fun _ _ _ _=>yR) (fun _ _ _ _=>(xO (oy K rfl) rfl (B.get "max") cE (yX (zL (yi (N:=["_law_place", "_law_at"]) (tau:=[none,some 0]) (XN:=["_law_at", "_law_places"]) (xs:=_) (by kernel_rfl) rfl rfl) rfl (zm rfl) (yN K (pv 1)) (fun _ _ _ _=>(xY (i:=0) (show(["_law_place", "_law_at"]:List Str).Nodup by decide +kernel) rfl (Or.inl rfl))) (fun _ _ _ _=>yR) (fun _ _ _ _=>(xD zq (yT (yg K) (yT (yg K) (pv 0) (pv 1) (fun _ _=>rfl)) xf (fun _ _=>rfl)) (yT (yg K) (yT (yg K) (pv 0) (pv 1) (fun _ _=>rfl)) xf (fun _ _=>rfl)))))))))
  (xc (yC 4 yG.nd (zQ vp))
  (xc (zM PassesOwn.never rfl (mw rfl (B.get "range") (xW (xo K 2) (xD zd (xo K 3) xf))) (xY (i:=5) yG.nd rfl (Or.inr rfl)) (xh (zM PassesOwn.never rfl (mw rfl (B.get "range") (xW (xo K 2) (xD zd (xo K 3) xf))) (xY (i:=6) yG.nd rfl (Or.inr rfl)) (xh (yJ (xQ (wj hr.units) (zL (yi (N:=["_law_row", "_law_x", "_law_y"]) (tau:=[none,some 5,some 6]) (XN:=["_law_rows", "_law_places", "_law_lows", "_law_highs", "_law_found", "_law_x", "_law_y"]) (xs:=xg yM) (by decide +kernel) rfl rfl) rfl (zm rfl) (yN K (pv 0)) (fun _ _ _ _=>(xY (i:=0) (show(["_law_row", "_law_x", "_law_y"]:List Str).Nodup by decide +kernel) rfl (Or.inl rfl))) (fun _ _ _ _=>(aV (xQ nI (xD zd (xD xM (xo K 0) (pv 1)) (xD xM (xo K 0) (pv 2))) (xo K 0) (xR _)))) (fun _ _ _ _=>(pv 0))) (zQ vp) (xR _)) (xh (u6 (nJ PySem.F.plainAttrs_list PySem.F.slot_list_append PySem.F.type_list_append uo (pv 4) (yX (yc (xW (yc (xW (pv 5) xf)) (yc (xW (pv 6) xf)))))))) xT)))))
  (xh (xF (pv 4)))))))),
  (xj (yh (xG (xi os_eq xa (vZ (b:=true) va))) (xx (vZ (b:=true) va)) xI)
  (xj (xN (OkF.e (yq (yt (yd (b:=true) (xw xt xt))).c xk yz (yF xdt (xS (OkF.e (yq (yt xa).c xk yz (xi wV (zE (zE xa xa) xt) (zE (zE xa xa) xt)))))))))
  (xj (xN (OkF.e (yq (yt (yd (b:=true) (xw xt xt))).c xk yz (yF xcM (xS (OkF.e (yq (yt xa).c xk yz (xi wV (zE (zE xa xa) xt) (zE (zE xa xa) xt)))))))))
  (xj (wI (jx va))
  (xj (yY (sM (xw xq (xi zH xq xt))) xk.g (yY (sM (xw xq (xi zH xq xt))) xk.g (yh (xG (xi os_eq (OkF.e (yq (yt xa).c xk (xG (xi bF (xi zH (xi yb xq xa) (xi yb xq xa)) xq)) xa)) (vZ (b:=true) va))) (ku (yd (b:=true) (xw (yd (b:=true) (xw xa xt)) (yd (b:=true) (xw xa xt))))) xI)))
  sV))))),fun ts KK hl h=>?_⟩)
 obtain⟨rows,rfl,hF,k⟩:=h
 have cl:=cB hF.fine
 have l8:=hF.l8
 refine xK (fun τ=>zR rows≠[]∧τ=[.fz (.tup (rows.map trR)),.fz (.lst ((zR rows).map sk)),.un,.un,.un,.un,.un]) ?_ (fun N hN=>?_)
 rotate_left
 ·cases e:zR rows with
  | nil=>exact⟨ay rfl,k [] (by simp) (by simp)⟩
  | cons v vs=>exact⟨ay (qH sk (fun v=>xfe (plc v)) _),hN _ ⟨by rw[e];simp,by rw[e];rfl⟩⟩
 rintro _ ⟨ne,rfl⟩
 have fk:∀v∈zR rows,((plc v).1.2≠0∧Bd (plc v).1.2)∧((plc v).2.2≠0∧Bd (plc v).2.2):=fun v hv=>by
  have P:=hF.fine.pk2 hv
  have a:=P.1.pos
  have b:=P.2.pos
  exact⟨⟨by omega,P.1.bot.bd⟩,⟨by omega,P.2.bot.bd⟩⟩
 have fx:∀M∈(zR rows).map (fun v=>(plc v).1.1.fdiv (plc v).1.2),-12≤M∧M≤12:=fun M hM=>by
  obtain⟨v,hv,rfl⟩:=xiP.mp hM
  exact(hF.floors hv).1
 have fy:∀M∈(zR rows).map (fun v=>(plc v).2.1.fdiv (plc v).2.2),-12≤M∧M≤12:=fun M hM=>by
  obtain⟨v,hv,rfl⟩:=xiP.mp hM
  exact(hF.floors hv).2
 refine xK (fun τ=>∃a b:Int,((-12≤a∧a≤12)∧(-12≤b∧b≤12))∧τ=[.fz (.tup (rows.map trR)),.fz (.lst ((zR rows).map sk)),.fz (.lst [.int a,.int b]),.un,.un,.un,.un]) ?_ (fun N hN=>?_)
 rotate_left
 ·refine⟨sqz (by decide),?_⟩
  refine⟨by rw[xit];exact sqz (by omega),wO (fun v=>.int ((plc v).1.1.fdiv (plc v).1.2)) (fun v hv N h=>⟨(fk v hv).1,h⟩) ?_⟩
  refine⟨(zR rows).map (fun v=>(plc v).1.1.fdiv (plc v).1.2),by rw[xiE];rfl,by simpa using ne,fun a ha _=>?_⟩
  refine⟨by rw[xit];exact sqz (by omega),wO (fun v=>.int ((plc v).2.1.fdiv (plc v).2.2)) (fun v hv N h=>⟨(fk v hv).2,h⟩) ?_⟩
  refine⟨(zR rows).map (fun v=>(plc v).2.1.fdiv (plc v).2.2),by rw[xiE];rfl,by simpa using ne,fun b hb _=>?_⟩
  exact hN _ ⟨a,b,⟨fx a ha,fy b hb⟩,rfl⟩
 rintro _ ⟨a,b',⟨ba,bb⟩,rfl⟩
 refine xK (fun τ=>∃c d:Int,((-12≤c∧c≤12)∧(-12≤d∧d≤12))∧τ=[.fz (.tup (rows.map trR)),.fz (.lst ((zR rows).map sk)),.fz (.lst [.int a,.int b']),.fz (.lst [.int c,.int d]),.un,.un,.un]) ?_ (fun N hN=>?_)
 rotate_left
 ·refine⟨sqz (by decide),?_⟩
  refine⟨by rw[xit];exact sqz (by omega),wO (fun v=>.int ((plc v).1.1.fdiv (plc v).1.2)) (fun v hv N h=>⟨(fk v hv).1,h⟩) ?_⟩
  refine⟨(zR rows).map (fun v=>(plc v).1.1.fdiv (plc v).1.2),by rw[xiE];rfl,by simpa using ne,fun c hc _=>?_⟩
  refine⟨by rw[xit];exact sqz (by omega),wO (fun v=>.int ((plc v).2.1.fdiv (plc v).2.2)) (fun v hv N h=>⟨(fk v hv).2,h⟩) ?_⟩
  refine⟨(zR rows).map (fun v=>(plc v).2.1.fdiv (plc v).2.2),by rw[xiE];rfl,by simpa using ne,fun d hd _=>?_⟩
  exact hN _ ⟨c,d,⟨fx c hc,fy d hd⟩,rfl⟩
 rintro _ ⟨c,d,⟨bc,bd'⟩,rfl⟩
 refine xK (fun τ=>τ=[.fz (.tup (rows.map trR)),.fz (.lst ((zR rows).map sk)),.fz (.lst [.int a,.int b']),.fz (.lst [.int c,.int d]),.ow [],.un,.un]) ?_ (fun N hN=>hN _ rfl)
 rintro _ rfl
 refine xK (fun τ=>∃(ps:List D2) (x5 x6:TV),(∀p∈ps,Bx 1000 p∧pW rows p)∧ps.length≤2000∧τ=[.fz (.tup (rows.map trR)),.fz (.lst ((zR rows).map sk)),.fz (.lst [.int a,.int b']),.fz (.lst [.int c,.int d]),.ow (ps.map wpT),x5,x6]) ?_ (fun N hN=>?_)
 ·rintro _ ⟨ps,x5,x6,h1,h2,rfl⟩
  exact k ps h1 h2
 refine zU (xbX a (c+1-a).toNat) (fun i τ=>i≤25∧∃(ps:List D2) (x5 x6:TV),(∀p∈ps,Bx 1000 p∧pW rows p)∧ps.length≤25*i∧τ=[.fz (.tup (rows.map trR)),.fz (.lst ((zR rows).map sk)),.fz (.lst [.int a,.int b']),.fz (.lst [.int c,.int d]),.ow (ps.map wpT),x5,x6]) (fun KK h=>⟨⟨by omega,by omega,by omega,by omega⟩,h⟩) ⟨by decide,[],_,_,by simp,by simp,rfl⟩ ?_ (fun τ ⟨i25,ps,x5,x6,h1,h2,e⟩=>hN _ ⟨ps,x5,x6,h1,by omega,e⟩)
 rintro i x τ N2 hx ⟨_,ps,x5,x6,h1,h2,rfl⟩ hN2
 have hi:=(xik.mp hx).1
 rw[ui] at hi
 rw[kW hi] at hx
 cases hx
 have bx:-12≤a+(i:Int)∧a+(i:Int)≤12:=by omega
 have i24:i≤24:=by omega
 generalize a+(i:Int)=X at bx
 show xeE _ _ _ _ ([.fz (.tup (rows.map trR)),.fz (.lst ((zR rows).map sk)),.fz (.lst [.int a,.int b']),.fz (.lst [.int c,.int d]),.ow (ps.map wpT),.fz (.int X),x6]:TSt)
 refine zU (xbX b' (d+1-b').toNat) (fun j τ=>j≤25∧∃(ps:List D2) (x6:TV),(∀p∈ps,Bx 1000 p∧pW rows p)∧ps.length≤25*i+j∧τ=[.fz (.tup (rows.map trR)),.fz (.lst ((zR rows).map sk)),.fz (.lst [.int a,.int b']),.fz (.lst [.int c,.int d]),.ow (ps.map wpT),.fz (.int X),x6]) (fun KK h=>⟨⟨by omega,by omega,by omega,by omega⟩,h⟩) ⟨by decide,ps,_,h1,by omega,rfl⟩ ?_ (fun τ ⟨j25,ps,x6,h1,h2,e⟩=>hN2 _ ⟨by omega,ps,_,x6,h1,by omega,e⟩)
 clear h1 h2 ps
 rintro j y τ N3 hy ⟨_,ps,x6,h1,h2,rfl⟩ hN3
 have hj:=(xik.mp hy).1
 rw[ui] at hj
 rw[kW hj] at hy
 cases hy
 have by':-12≤b'+(j:Int)∧b'+(j:Int)≤12:=by omega
 have j24:j≤24:=by omega
 generalize b'+(j:Int)=Y at by'
 refine⟨by rw[xit];exact sqz (by omega),uO (fun r=>decide (r.1*X+r.2.1*Y>r.2.2)) trR (fun r hr N M h1 h0=>?_) ?_⟩
 ·have br:=hF.sm r hr
  exact⟨za (by omega) (by omega),za (by omega) (by omega),x_ h1 h0⟩
 dsimp only[xfD,xeA]
 refine xc_ (qH trR (fun r=>rfl) _) ?_
 rw[List.isEmpty_map,filter_empty]
 refine x_ (b:=rows.all fun r=>!decide (r.1*X+r.2.1*Y>r.2.2)) (fun c=>?_) (fun c=>?_)
 ·have kp:pW rows (X,Y):=fun r hr=>by
   have:=xh4.mp c r hr
   have:¬(r.1*X+r.2.1*Y>r.2.2):=by simpa using this
   show r.1*X+r.2.1*Y≤r.2.2
   omega
  refine⟨by rw[xit];exact sqz (by omega),hN3 _ ⟨by omega,ps++[(X,Y)],.fz (.int Y),fun p hp=>?_,by rw[xiq,xix];omega,?_⟩⟩
  ·rcases xiG.mp hp with z | z
   ·exact h1 p z
   ·rw[xiV.mp z];exact⟨by unfold Bx;simp only;omega,kp⟩
  ·rw[xiB];rfl
 ·exact hN3 _ ⟨by omega,ps,.fz (.int Y),h1,by omega,rfl⟩
theorem km (B:Blt mg bn)(F:Fun K "_law_parts_right" "_law_parts_right" yE f fd)(m:mg "_law_parts_right" = some (.ref f))(b:Binds K fd ["_law_field_here", "_law_weights_here", "_law_row"] [])(zz:Own P w K mg base 4 "_law_summed" ["_law_rows", "_law_weights_here"] (spT 2 false false rm)) :
  Own P w K mg base 5 "_law_parts_right" ["_law_field_here", "_law_weights_here", "_law_row"] (spT 3 false false xaJ):=by
 refine xB F ya m b rfl (fun _ _ _ _ _ _ hr=>⟨_,_,
  (xc (wu (i:=3) ya.nd rfl (Or.inl rfl) (yi (N:=["_law_one"]) (tau:=[none]) (XN:=["_law_field_here", "_law_weights_here", "_law_row", "_law_many", "_law_below", "_law_a", "_law_b", "_law_c", "_law_found", "_law_times_so", "_law_other"]) (xs:=xg yE) (by decide +kernel) rfl rfl) rfl (zm rfl) (yN K (pv 1)) (fun _ _ _ _=>(xY (i:=0) (show(["_law_one"]:List Str).Nodup by decide +kernel) rfl (Or.inl rfl))) (fun _ _ _ _=>yR) (fun _ _ _ _=>(xD zq (xo K 0) (xo K 0))))
  (xc (yC 4 ya.nd (wc (y4 K) rfl (B.get "tuple") y3 (yX (zL (yi (N:=["_law_one"]) (tau:=[none]) (XN:=["_law_field_here", "_law_weights_here", "_law_row", "_law_many", "_law_below", "_law_a", "_law_b", "_law_c", "_law_found", "_law_times_so", "_law_other"]) (xs:=xg yE) (by decide +kernel) rfl rfl) rfl (zm rfl) (yN K (pv 1)) (fun _ _ _ _=>(xY (i:=0) (show(["_law_one"]:List Str).Nodup by decide +kernel) rfl (Or.inl rfl))) (fun _ _ _ _=>yR) (fun _ _ _ _=>(yc (xW (xD nZ (xo K 0) (xo K 0)) (xo K 0))))))))
  (xc (zC (xm zz hr (xW (pv 0) (pv 4))) (yr K (n:=3) rfl (xr (yB 5 ya.nd) (xr (yB 6 ya.nd) (xr (yB 7 ya.nd) yo)))))
  (xc (j8 (i:=8) ya.nd rfl (Or.inr rfl) (zQ (xZ (xo K 5) (xW (xo K 6) (xD zq (xo K 7) (xo K 7))))))
  (xc (yJ (PW.pt (uI (xQ (zY hr.units) (xo K 5) xf (xR _)) (wR (xQ (zY hr.units) (xo K 6) xf (xR _))))) (xh (xF uF)) xT)
  (xc (zM PassesOwn.never rfl (fL K rfl (B.get "zip") (xW (pv 3) (pv 0))) (yr K (n:=2) rfl (xr (xY (i:=9) ya.nd rfl (Or.inr rfl)) (xr (xY (i:=10) ya.nd rfl (Or.inr rfl)) yo))) (xh (j8 (i:=8) ya.nd rfl (Or.inr rfl) (zL (yi (N:=["_law_at", "_law_found", "_law_times_so", "_law_other"]) (tau:=[none,some 8,some 9,some 10]) (XN:=["_law_field_here", "_law_weights_here", "_law_row", "_law_many", "_law_below", "_law_a", "_law_b", "_law_c", "_law_found", "_law_times_so", "_law_other"]) (xs:=xg yE) (by decide +kernel) rfl rfl) rfl (zm rfl) (qj rfl (B.get "range") (yX xf)) (fun _ _ _ _=>(xY (i:=0) (show(["_law_at", "_law_found", "_law_times_so", "_law_other"]:List Str).Nodup by decide +kernel) rfl (Or.inl rfl))) (fun _ _ _ _=>yR) (fun _ _ _ _=>(xD zd (yT (yg K) (pv 1) (pv 0) (fun _ _=>rfl)) (xD xM (pv 2) (yT (yg K) (pv 3) (pv 0) (fun _ _=>rfl)))))))))
  (xh (xF (zj (wj hr.units) (wc (y4 K) rfl (B.get "tuple") y3 (yX (pv 8))) (pv 2) (xR _)))))))))),
  (xj (xN (OkF.e (yq (yt xa).c xk yz (xi wV xq xq))))
  (xj (xN (qM (xS (OkF.e (yq (yt xa).c xk yz (yd (b:=true) (xw (xi xau xq xq) xq)))))))
  (xj (y_ (xy (xw xa xa)) (yw (xl xk (xl xk (xl xk ye)))).g)
  (xj (xN (vZ (b:=true) (xV xq (xw xq (xi wV xq xq)))))
  (xj (yh (zB (xG (xi vO xq xt)) (xG (xi vO xq xt))) (xx ve) xI)
  (xj (yY (jg (xw xa xa)) (yw (xl xk (xl xk ye))).g (xN (OkF.e (yq (vn (xS xt)).c xk yz (xi zH (zE xa xa) (xi yb xa (zE xa xa)))))))
  (xx (xi os_eq (qM (xS xa)) xa)))))))),fun ts KK hl h=>?_⟩)
 obtain⟨rows,ws,rfl,H0,hc,k⟩:=h
 have l8:=H0.l100
 have hlen:=H0.len
 have WR:=oQ H0
 obtain⟨e0,e1,e2⟩:=xbS H0 hc
 obtain⟨rp,rb⟩:=WR.bot
 have wl:(ws.map fT).length=rows.length:=by rw[xit];omega
 refine xK (fun τ=>τ=[.fz (.tup (rows.map trR)),.fz (wsT ws),.fz (uD (rows.zip ws)),.fz (.lst ((flo ws).map .int)),.un,.un,.un,.un,.un,.un,.un]) ?_ (fun N hN=>⟨by rw[wl];exact sqz (by omega),wO (fun w=>.int (w.1.fdiv w.2)) (fun w hw N h=>⟨⟨by have:=(H0.wt w hw).pos;show w.2≠0;omega,(H0.wt w hw).sm.bot.bd⟩,h⟩) (hN _ (by unfold flo;rw[xiE];rfl))⟩)
 rintro _ rfl
 refine xK (fun τ=>τ=[.fz (.tup (rows.map trR)),.fz (wsT ws),.fz (uD (rows.zip ws)),.fz (.lst ((flo ws).map .int)),.fz (wsT (u_ ws)),.un,.un,.un,.un,.un,.un]) ?_ (fun N hN=>⟨by rw[wl];exact sqz (by omega),wO (fun w=>fT (w.1.fmod w.2,w.2)) (fun w hw N h=>⟨by have:=(H0.wt w hw).pos;show w.2≠0;omega,h⟩) (hN _ (by unfold wsT u_;rw[xiE];rfl))⟩)
 rintro _ rfl
 refine xK (fun τ=>τ=[.fz (.tup (rows.map trR)),.fz (wsT ws),.fz (uD (rows.zip ws)),.fz (.lst ((flo ws).map .int)),.fz (wsT (u_ ws)),.fz (fT (wsum k0 (rows.zip (u_ ws)))),.fz (fT (wsum k1 (rows.zip (u_ ws)))),.fz (fT (wsum k2 (rows.zip (u_ ws)))),.un,.un,.un]) ?_ (fun N hN=>⟨rows,u_ ws,rfl,WR,rfl,hN _ rfl⟩)
 rintro _ rfl
 have cn:(wsum k2 (rows.zip (u_ ws))).2≠0:=by omega
 have fin:((flo ws).zip rows).foldl xdE ((wsum k0 (rows.zip ws)).1-lin k0 rows (flo ws),(wsum k1 (rows.zip ws)).1-lin k1 rows (flo ws),(wsum k2 (rows.zip (u_ ws))).1.fdiv (wsum k2 (rows.zip (u_ ws))).2)=pQ (rows.zip ws):=by
  rw[cp,e2]
  unfold pQ
  simp only[Prod.mk.injEq]
  omega
 rw[e0,e1]
 generalize (wsum k0 (rows.zip ws)).1-lin k0 rows (flo ws)=A at fin
 generalize (wsum k1 (rows.zip ws)).1-lin k1 rows (flo ws)=B' at fin
 generalize wsum k2 (rows.zip (u_ ws))=C at fin cn rb
 generalize (wsT (u_ ws))=x4
 refine xK (fun τ=>τ=[.fz (.tup (rows.map trR)),.fz (wsT ws),.fz (uD (rows.zip ws)),.fz (.lst ((flo ws).map .int)),.fz x4,.fz (fT (A,1)),.fz (fT (B',1)),.fz (fT C),.fz (.lst [.int A,.int B',.int (C.1.fdiv C.2)]),.un,.un]) ?_ (fun N hN=>⟨⟨cn,rb⟩,hN _ rfl⟩)
 rintro _ rfl
 refine xK (fun τ=>τ=[.fz (.tup (rows.map trR)),.fz (wsT ws),.fz (uD (rows.zip ws)),.fz (.lst ((flo ws).map .int)),.fz x4,.fz (fT (A,1)),.fz (fT (B',1)),.fz (fT C),.fz (.lst [.int A,.int B',.int (C.1.fdiv C.2)]),.un,.un]) ?_ (fun N hN=>hN _ rfl)
 rintro _ rfl
 have fl:(flo ws).length=rows.length:=by unfold flo;rw[xit];omega
 have qb:∀x∈(flo ws).zip rows,Bd x.1∧B3 x.2:=fun x hx=>by
  have m1:=(xi0 (show(x.1,x.2)∈(flo ws).zip rows from hx)).1
  have m2:=(xi0 (show(x.1,x.2)∈(flo ws).zip rows from hx)).2
  refine⟨?_,(H0.sm x.2 m2).b3⟩
  obtain⟨w',hw,e⟩:=xiP.mp m1
  have W:=H0.wt w' hw
  have wp:=W.pos
  rw[←e,xhz _ (by omega)]
  exact(W.sm.top.le (xhZ _ _)).bd
 have zt:bR ((flo ws).map .int) (rows.map trR)=((flo ws).zip rows).map (fun x:Int×Pol.R3=>.tup [.int x.1,trR x.2]):=gj .int trR _ _
 generalize (flo ws).zip rows=Z at fin qb zt
 refine xK (fun τ=>∃x9 x10:TV,τ=[.fz (.tup (rows.map trR)),.fz (wsT ws),.fz (uD (rows.zip ws)),.fz (.lst ((flo ws).map .int)),.fz x4,.fz (fT (A,1)),.fz (fT (B',1)),.fz (fT C),.fz (l3T (Z.foldl xdE (A,B',C.1.fdiv C.2))),x9,x10]) ?_ (fun N hN=>?_)
 ·rintro _ ⟨x9,x10,rfl⟩
  rw[fin]
  refine⟨⟨rfl,rfl,by show min 1 1≤64;decide⟩,?_⟩
  have e:teq (trR (pQ (rows.zip ws))) (trR (pQ (rows.zip ws)))=true:=(fY _ _).trans (xjs rfl)
  show KK (.bl (teq (trR (pQ (rows.zip ws))) (trR (pQ (rows.zip ws)))))
  rw[e]
  exact k
 show xeE _ _ _ _ _
 refine zU (Z.map (fun x:Int×Pol.R3=>.tup [.int x.1,trR x.2])) (fun i τ=>∃x9 x10:TV,τ=[.fz (.tup (rows.map trR)),.fz (wsT ws),.fz (uD (rows.zip ws)),.fz (.lst ((flo ws).map .int)),.fz x4,.fz (fT (A,1)),.fz (fT (B',1)),.fz (fT C),.fz (l3T ((Z.take i).foldl xdE (A,B',C.1.fdiv C.2))),x9,x10]) (fun KK h=>by rw[←zt] at h;exact h) ⟨_,_,rfl⟩ ?_ (fun τ ⟨x9,x10,e⟩=>hN _ ⟨x9,x10,by rw[e,xit,xi8]⟩)
 rintro i x τ N2 hx ⟨x9,x10,rfl⟩ hN2
 obtain⟨y,hy,rfl⟩:=wx hx
 obtain⟨b1,b2⟩:=qb y (xiR hy)
 rw[Pol.um xdE _ hy] at hN2
 generalize (Z.take i).foldl xdE (A,B',C.1.fdiv C.2)=S at hN2
 refine⟨rfl,?_⟩
 refine⟨⟨by decide,by decide⟩,sqz (by decide),?_⟩
 exact⟨⟨b1,b2.1.1⟩,⟨b1,b2.1.2⟩,⟨b1,b2.2⟩,hN2 _ ⟨_,_,rfl⟩⟩
end
end K12
namespace K12
open PySem L2 Trn
section
variable {P:Program} {w:World} {K:PySem.W.Frag} {mg:Str→Option Value} {base:Heap} {f:Addr} {fd:FuncData}
theorem xeY (B:Blt mg bn)(F:Fun K "law" "law" dM f fd)(qA:Own P w K mg base 2 "_law_state" ["_law_script", "_law_k"] (bK K))(qz:Own P w K mg base 2 "_law_field" ["_law_state_here"] (spT 0 true false o9))(wF:Own P w K mg base 1 "_law_whole_left" ["_law_rows", "_law_places"] (spT 2 false false xgs))(wd:Own P w K mg base 9 "corners" ["field"] (spT 1 false true gB))(uV:Own P w K mg base 3 "_law_weights" ["_law_state_here", "_law_rows"] (spT 1 true false tw))(jS:Own P w K mg base 5 "_law_cut" ["_law_rows", "_law_weights_here"] (spT 2 false false xem))(jZ:Own P w K mg base 10 "greatest" ["field", "a", "b"] (spT 3 false false rV))(qO:Own P w K mg base 11 "is_paper" ["field", "thing"] (spT 2 false false tG))(zX:Own P w K mg base 5 "_law_parts_right" ["_law_field_here", "_law_weights_here", "_law_row"] (spT 3 false false xaJ))(vT:Own P w K mg base 10 "cut_towards" ["field", "a", "b"] (spT 3 false false l5)) :
  rJ P w K mg base CX0 12 f fd ["_law_script"] (p7 K):=by
 refine xba F vV rfl (fun _ _ _ _ _ _ hr=>⟨_,_,
  (xc (zM PassesOwn.never rfl (qj rfl (B.get "range") (yX (xO (gS rfl) rfl (B.get "max") cE (xW xf (xO (xaD rfl) rfl (B.get "min") xcv (xW (xO (yZ K) rfl (B.get "len") vh (yX (pv 0))) xf)))))) (yB 1 vV.nd) (xc (yC 2 vV.nd (xm qA hr (xW (pv 0) (pv 1))))
  (xc (yC 3 vV.nd (xm qz hr (yX (pv 2))))
  (xc (yC 4 vV.nd (xm wF hr (xW (pv 3) (xm wd hr (yX (pv 3))))))
  (xh (zM PassesOwn.never rfl (qj rfl (B.get "range") (yX xf)) (yB 5 vV.nd) (xc (yC 6 vV.nd (xm uV hr (xW (pv 2) (pv 3))))
  (xc (yC 7 vV.nd (xm jS hr (xW (pv 3) (pv 6))))
  (xh (yJ (kh (rq (pv 7))) (xc (yJ (PW.pt (uI (xQ rY (xm qO hr (xW (pv 3) (yc (xW (pv 6) (pv 7))))) uF (xR _)) (wR (wm (zP (xm zX hr (xZ (pv 3) (xW (pv 6) (pv 7))))))))) (xh (xF uF)) xT)
  (xc (zM PassesOwn.never rfl (yN K (pv 4)) (yr K (n:=2) rfl (xr (yB 8 vV.nd) (xr (yB 9 vV.nd) yo))) (xh (yJ (xQ nI (xD zd (xD xM (xo K 7) (xo K 8)) (xD xM (xo K 7) (xo K 9))) (xo K 7) (xR _)) (xh (xF uF)) xT)))
  (xc (yC 10 vV.nd (xm jZ hr (xZ (pv 3) (xW (xo K 7) (xo K 7)))))
  (xh (yJ (kh (rq (pv 10))) (xc (yJ (xQ (jb K hr.units) (xo K 7) (xD zq (xo K 10) (xo K 10)) (xR _)) (xh (xF uF)) xT)
  (xh (yJ (xQ dO (xO (gS rfl) rfl (B.get "max") cE (xW (xO zI rfl (B.get "abs") vW (yX (xo K 7))) (xO zI rfl (B.get "abs") vW (yX (xo K 7))))) xf (xR _)) (xc (yC 11 vV.nd (xm vT hr (xZ (pv 3) (xW (xo K 7) (xo K 7)))))
  (xh (yJ (PW.pt (uI (xQ (zY hr.units) (xo K 11) (yc (xZ (xo K 7) (xW (xo K 7) (xD zq (xo K 10) (xo K 10))))) (xR _)) (wR (xQ rY (xm qO hr (xW (pv 3) (pv 11))) uF (xR _))))) (xh (xF uF)) xT))) xT))) xT))))) xT))))))))))
  (xh (xF uF))),
  (xj (yY (vn (xS (yF nA (xw xt (yF xdw (xw xbm xt)))))) xk.g (xj (xaY xa)
  (xj (xN (yy (b:=true) va))
  (xj (xN (xy (xw xa (xy (xS xa)))))
  (yY (vn (xS xt)) xk.g (xj (xN (yy (xS xa)))
  (xj (xN (xy (xw xa xa)))
  (yh (yQ (rj xa)) (xj (yh (zB (xG (xi xaz (xy (xw xa (yd (b:=true) (xw xa xa)))) ve)) (zo (yQ (xy (xV xa (xw xa xa)))))) (xx ve) xI)
  (xj (yY (yt xa) (yw (xl xk (xl xk ye))).g (yh (xG (xi bF (xi zH (xi yb xq xq) (xi yb xq xq)) xq)) (xx ve) xI))
  (xj (xN (xy (xV xa (xw xq xq))))
  (yh (yQ (rj xa)) (xj (yh (xG (xi kX xq (xi wV xq xq))) (xx ve) xI)
  (yh (xG (xi dm (yF nA (xw (yF vX (xS xq)) (yF vX (xS xq)))) xt)) (xj (xN (xy (xV xa (xw xq xq))))
  (yh (zB (xG (xi vO xq (yd (b:=true) (xV xq (xw xq (xi wV xq xq)))))) (xG (xi xaz (xy (xw xa xa)) ve))) (xx ve) xI)) xI)) xI)))) xI))))))))
  (xx ve)),fun ns hl=>?_⟩)
 refine xK (fun τ=>True) (fun τ _=>rfl) (fun N hN=>?_)
 refine zU _ (fun i τ=>∃(x1 x2 x3 x4 x5 x6 x7 x8 x9 x10 x11:TV),τ=[.sc ns,x1,x2,x3,x4,x5,x6,x7,x8,x9,x10,x11]) (fun KK h=>fun _=>⟨⟨by split<;>split<;>omega,by split<;>split<;>omega⟩,h⟩) ⟨_,_,_,_,_,_,_,_,_,_,_,rfl⟩ ?_ (fun τ _=>hN _ trivial)
 rintro i x τ N2 hx ⟨x1,x2,x3,x4,x5,x6,x7,x8,x9,x10,x11,rfl⟩ hN2
 have hi:=(xik.mp hx).1
 rw[ui] at hi
 rw[kW hi] at hx
 cases hx
 dsimp only[xdR,xaQ,eName,xfk]
 have hk:(0:Int)≤(0:Int)+i:=by omega
 generalize (0:Int)+i=kk at hk
 show xeD _ _ _ ([.sc ns,.fz (.int kk),x2,x3,x4,x5,x6,x7,x8,x9,x10,x11]:TSt)
 refine xK (fun τ=>τ=[.sc ns,.fz (.int kk),.st,x3,x4,x5,x6,x7,x8,x9,x10,x11]) ?_ (fun N hN=>⟨hk,hN _ rfl⟩)
 rintro _ rfl
 refine xK (fun τ=>∃rows,LF rows∧τ=[.sc ns,.fz (.int kk),.st,.fz (.tup (rows.map trR)),x4,x5,x6,x7,x8,x9,x10,x11]) ?_ (fun N hN=>⟨rfl,fun rows hF=>hN _ ⟨rows,hF,rfl⟩⟩)
 rintro _ ⟨rows,hF,rfl⟩
 have FR:=hF.fine
 have hf:=hF.isf
 refine xK (fun τ=>∃ps:List D2,(∀p∈ps,Bx 1000 p∧pW rows p)∧τ=[.sc ns,.fz (.int kk),.st,.fz (.tup (rows.map trR)),.fz (.lst (ps.map wpT)),x5,x6,x7,x8,x9,x10,x11]) ?_ (fun N hN=>⟨rows,rfl,hf,FR,rows,rfl,hF,fun ps hp hl=>hN _ ⟨ps,hp,rfl⟩⟩)
 rintro _ ⟨ps,hps,rfl⟩
 refine zU _ (fun i τ=>∃(y5 y6 y7 y8 y9 y10 y11:TV),τ=[.sc ns,.fz (.int kk),.st,.fz (.tup (rows.map trR)),.fz (.lst (ps.map wpT)),y5,y6,y7,y8,y9,y10,y11]) (fun KK h=>⟨⟨by decide,by decide⟩,h⟩) ⟨_,_,_,_,_,_,_,rfl⟩ ?_ (fun τ ⟨y5,y6,y7,y8,y9,y10,y11,e⟩=>hN2 _ ⟨_,_,_,_,_,_,_,_,_,_,_,e⟩)
 rintro j y τ N3 hy ⟨y5,y6,y7,y8,y9,y10,y11,rfl⟩ hN3
 have hj:=(xik.mp hy).1
 rw[ui] at hj
 rw[kW hj] at hy
 cases hy
 dsimp only[xdR,xaQ,eName,xfk]
 generalize (0:Int)+j=tt
 show xeD _ _ _ ([.sc ns,.fz (.int kk),.st,.fz (.tup (rows.map trR)),.fz (.lst (ps.map wpT)),.fz (.int tt),y6,y7,y8,y9,y10,y11]:TSt)
 refine xK (fun τ=>∃ws,GW rows.length ws∧τ=[.sc ns,.fz (.int kk),.st,.fz (.tup (rows.map trR)),.fz (.lst (ps.map wpT)),.fz (.int tt),.fz (wsT ws),y7,y8,y9,y10,y11]) ?_ (fun N hN=>⟨rows,rfl,hF,fun ws hl2 hw=>hN _ ⟨ws,⟨hl2,hw⟩,rfl⟩⟩)
 rintro _ ⟨ws,g,rfl⟩
 have hW:=hF.ws g
 refine xK (fun τ=>τ=[.sc ns,.fz (.int kk),.st,.fz (.tup (rows.map trR)),.fz (.lst (ps.map wpT)),.fz (.int tt),.fz (wsT ws),.fz (if v5 (wsum k0 (rows.zip ws)) (wsum k1 (rows.zip ws)) then uD (rows.zip ws) else .non),y8,y9,y10,y11]) ?_ (fun N hN=>⟨rows,ws,rfl,hW,hN _ rfl⟩)
 rintro _ rfl
 by_cases hc:v5 (wsum k0 (rows.zip ws)) (wsum k1 (rows.zip ws))
 rotate_left
 ·rw[if_neg hc]
  exact hN3 _ ⟨_,_,_,_,_,_,_,rfl⟩
 rw[if_pos hc]
 obtain⟨ba,bb⟩:=lg hW hc
 generalize hX:uD (rows.zip ws)=X
 refine x_ (b := !xai X) (fun _=>?_) (fun c=>by rw[←hX] at c;cases c)
 subst hX
 refine xK (fun τ=>τ=[.sc ns,.fz (.int kk),.st,.fz (.tup (rows.map trR)),.fz (.lst (ps.map wpT)),.fz (.int tt),.fz (wsT ws),.fz (uD (rows.zip ws)),y8,y9,y10,y11]) ?_ (fun N hN=>⟨rows,ws,rfl,hf,hW,hc,rows,ws,rfl,hW,hc,hN _ rfl⟩)
 rintro _ rfl
 have cf:=fun(u:Pol.R3) (hu:0<u.2.2) (hk:∀r∈rows,Pol.val r u≤0)=>xak hW hc hu hk
 have nz:((wsum k0 (rows.zip ws)).1,(wsum k1 (rows.zip ws)).1)≠((0:Int),(0:Int)):=fun z=>hc.2.2 ⟨xjq Prod.fst z,xjq Prod.snd z⟩
 have ce:uD (rows.zip ws)=trR ((wsum k0 (rows.zip ws)).1,(wsum k1 (rows.zip ws)).1,(wsum k2 (rows.zip ws)).1.fdiv (wsum k2 (rows.zip ws)).2):=rfl
 rw[ce]
 clear ce hc
 generalize (wsum k0 (rows.zip ws)).1=A at *
 generalize (wsum k1 (rows.zip ws)).1=B' at *
 generalize (wsum k2 (rows.zip ws)).1.fdiv (wsum k2 (rows.zip ws)).2=C at *
 refine xK (fun τ=>∃z8 z9:TV,τ=[.sc ns,.fz (.int kk),.st,.fz (.tup (rows.map trR)),.fz (.lst (ps.map wpT)),.fz (.int tt),.fz (wsT ws),.fz (trR (A,B',C)),z8,z9,y10,y11]) ?_ (fun N hN=>?_)
 rotate_left
 ·refine zU (ps.map wpT) (fun i τ=>∃z8 z9:TV,τ=[.sc ns,.fz (.int kk),.st,.fz (.tup (rows.map trR)),.fz (.lst (ps.map wpT)),.fz (.int tt),.fz (wsT ws),.fz (trR (A,B',C)),z8,z9,y10,y11]) (fun KK h=>h) ⟨_,_,rfl⟩ ?_ (fun τ h=>hN _ h)
  rintro i x τ N4 hx ⟨z8,z9,rfl⟩ hN4
  obtain⟨p,hp,rfl⟩:=wx hx
  obtain⟨bp,kp⟩:=hps p (xiR hp)
  unfold Bx at bp
  refine⟨rfl,⟨ba.bd,w_ (i:=p.1) (by omega)⟩,⟨bb.bd,w_ (i:=p.2) (by omega)⟩,?_⟩
  have le:=cf (p.1,p.2,1) (by show(0:Int)<1;decide) (fun r hr=>by have:=kp r hr;simp only[Pol.val];omega)
  have le:(A*p.1+B'*p.2) / 1≤C:=le
  rw[Int.ediv_one] at le
  exact x_ (b:=decide (A*p.1+B'*p.2>C)) (fun c=>by have:=xjv c;omega) (fun _=>hN4 _ ⟨_,_,rfl⟩)
 rintro _ ⟨z8,z9,rfl⟩
 refine xK (fun τ=>τ=[.sc ns,.fz (.int kk),.st,.fz (.tup (rows.map trR)),.fz (.lst (ps.map wpT)),.fz (.int tt),.fz (wsT ws),.fz (trR (A,B',C)),z8,z9,.fz (xef (kj A B' ((zR rows).map plc))),y11]) ?_ (fun N hN=>⟨rows,A,B',rfl,hf,FR,ba,bb,hN _ rfl⟩)
 rintro _ rfl
 cases ef:kj A B' ((zR rows).map plc) with
 | none=>exact hN3 _ ⟨_,_,_,_,_,_,_,rfl⟩
 | some f =>
  have fk:=rW ba bb (fun p hp=>FR.pkm hp) f ef
  have fp:=fk.pos
  have fl:f.1.fdiv f.2≤C:=by
   rcases qT _ none ef with z | ⟨p,hp,e⟩
   ·cases z
   obtain⟨u,hu,rfl⟩:=xiP.mp hp
   obtain⟨⟨uz,_,Cu⟩,_⟩:=FR.corner hu
   have Su:Sd f (A*u.1+B'*u.2.1) u.2.2:=by rw[e];exact m6 (A,B',0) uz
   rw[xhz _ (by omega),Su.floor]
   exact cf u uz Cu.kept
  generalize hX:xef (some f)=X
  refine x_ (b := !xai X) (fun _=>?_) (fun c=>by rw[←hX] at c;cases c)
  have hX:fT f=X:=hX
  subst hX
  refine xK (fun τ=>τ=[.sc ns,.fz (.int kk),.st,.fz (.tup (rows.map trR)),.fz (.lst (ps.map wpT)),.fz (.int tt),.fz (wsT ws),.fz (trR (A,B',C)),z8,z9,.fz (fT f),y11]) ?_ (fun N hN=>⟨⟨by show f.2≠0;omega,fk.bot.bd⟩,x_ (b:=decide (C<f.1.fdiv f.2)) (fun c=>by have:=xjv c;omega) (fun _=>hN _ rfl)⟩)
  rintro _ rfl
  have mx:(if (if B' < 0 then -B' else B')>(if A<0 then -A else A) then(if B' < 0 then -B' else B') else(if A<0 then -A else A))≤1000→Bx 1000 (A,B'):=fun h=>by unfold Bx;simp only;split at h<;>split at h<;>omega
  refine x_ (b:=decide ((if (if B' < 0 then -B' else B')>(if A<0 then -A else A) then(if B' < 0 then -B' else B') else(if A<0 then -A else A))≤1000)) (fun c=>?_) (fun _=>hN3 _ ⟨_,_,_,_,_,_,_,rfl⟩)
  have bx:=mx (xjv c)
  have ne:zR rows≠[]:=fun z=>by rw[z] at ef;cases ef
  refine xK (fun τ=>∃(v:Pol.R3) (x:SX),v∈zR rows∧x.1∈uN rows (rH rows (plc v))∧ua rows x∧x.2=(A,B')∧τ=[.sc ns,.fz (.int kk),.st,.fz (.tup (rows.map trR)),.fz (.lst (ps.map wpT)),.fz (.int tt),.fz (wsT ws),.fz (trR (A,B',C)),z8,z9,.fz (fT f),.fz (xgX rows x)]) ?_ (fun N hN=>⟨rows,(A,B'),rfl,hf,FR,ne,⟨bx,nz⟩,fun v x hv hx G e=>hN _ ⟨v,x,hv,hx,G,e,rfl⟩⟩)
  rintro _ ⟨v,x,hv,hx,G,ex,rfl⟩
  have gf:=nB hf FR hv hx G (f:=f) (by rw[ex];exact ef)
  rw[ex] at gf
  have WSx:=rK.ws hf (G.gw hf)
  refine⟨⟨by show f.2≠0;omega,fk.bot.bd⟩,⟨rfl,rfl,by show min 1 1≤64;decide⟩,?_⟩
  have e:teq (trR (xd2 rows x)) (trR (A,B',f.1.fdiv f.2))=true:=by
   rw[gf,fY];exact xjs rfl
  refine x_ (b := !teq (trR (xd2 rows x)) (trR (A,B',f.1.fdiv f.2))) (fun c=>by rw[e] at c;cases c) (fun _=>?_)
  exact⟨rows,dR rows x,rfl,hf,WSx,G.cut hf,hN3 _ ⟨_,_,_,_,_,_,_,rfl⟩⟩
end
end K12
namespace K12
open PySem L2 Trn
theorem all_mk {l:PySem.W.OpenLaw}{w:World}{K:PySem.W.Frag}{h:Heap}{mg:Str→Option Value}{fa:Addr}{fn:Addr}{od an:Option Addr}{sl:Array (Option Value)}{oc kV dc pm cd ct:Value}{tc1:Tok}(X:K.In h)(G:h.Ns mainGlobals mg)(hfa:mg "law" = some (.ref fa))
  (d1:DD K "is_whole" jY) (d2:DD K "greatest_divisor" wa) (d3:DD K "is_less" f_) (d4:DD K "beyond" rh) (d5:DD K "is_ahead" jI) (d6:DD K "turn_to" fC) (d7:DD K "is_near" jd) (d8:DD K "direction_of" vb) (d9:DD K "cut_of" ao) (d10:DD K "_law_cell_at" u5) (d11:DD K "_law_take" kB) (d12:DD K "_law_divisor" uZ) (d13:DD K "_law_whole_left" yM) (d14:DD K "are_whole" vG) (d15:DD K "is_fraction" vL) (d16:DD K "lowest" sS) (d17:DD K "where_crossed" zZ) (d18:DD K "from_least" qa) (d19:DD K "furthest" jF) (d20:DD K "points_back" vq) (d21:DD K "need_turn" kF) (d22:DD K "next_to_the_left" wk) (d23:DD K "whole_sum" uC) (d24:DD K "_law_state" qc) (d25:DD K "_law_field" wU) (d26:DD K "_law_low" js) (d27:DD K "plus" lx) (d28:DD K "times" bj) (d29:DD K "places_of" vx) (d30:DD K "cut_piece" kM) (d31:DD K "is_row" aw) (d32:DD K "go_round" jC) (d33:DD K "is_direction" uQ) (d34:DD K "sides_among" vH) (d35:DD K "are_weights" uj) (d36:DD K "sum_of" gu) (d37:DD K "_law_weights" wH) (d38:DD K "_law_plus" kH) (d39:DD K "_law_times" qp) (d40:DD K "_law_value" qk) (d41:DD K "cut_down" jQ) (d42:DD K "value" nu) (d43:DD K "is_field_row" uS) (d44:DD K "parts" nE) (d45:DD K "paper_of" jW) (d46:DD K "_law_summed" vM) (d47:DD K "_law_keeps" qh) (d48:DD K "piece_left" qE) (d49:DD K "is_tight" jA) (d50:DD K "weights_towards" wC) (d51:DD K "_law_cut" jL) (d52:DD K "_law_parts_right" yE) (d53:DD K "corners_left" u4) (d54:DD K "tight_numbers" wg) (d55:DD K "is_field" vg) (d56:DD K "sides_at" jJ) (d57:DD K "need_field" v8) (d58:DD K "corners" fW) (d59:DD K "sum_by" aY) (d60:DD K "greatest" jN) (d61:DD K "cut_by" ak) (d62:DD K "cut_towards" zA) (d63:DD K "is_paper" jy)
  (aN:PySem.W.nsIn K mainGlobals "law" = some (some (.ref fn))) (ln:K.lookup fn=some ⟨oc,od,.func (PySem.W.fnOf "law" "law" (wY dM) (zp dM) (xg dM) .none kV dc pm an cd ct),sl⟩) (cn:PySem.W.codeIn K cd "law" = true) (kn:PySem.W.keepIn K (.ref fn)=true)
  (z1:PySem.W.nsIn K mainGlobals "len" = some none)
  (z2:PySem.W.nsIn K mainGlobals "range" = some none)
  (z3:PySem.W.nsIn K mainGlobals "max" = some none)
  (z4:PySem.W.nsIn K mainGlobals "min" = some none)
  (z5:PySem.W.nsIn K mainGlobals "abs" = some none)
  (z6:PySem.W.nsIn K mainGlobals "isinstance" = some none)
  (z7:PySem.W.nsIn K mainGlobals "tuple" = some none)
  (z8:PySem.W.nsIn K mainGlobals "list" = some none)
  (z9:PySem.W.nsIn K mainGlobals "int" = some none)
  (z10:PySem.W.nsIn K mainGlobals "bool" = some none)
  (z11:PySem.W.nsIn K mainGlobals "str" = some none)
  (z12:PySem.W.nsIn K mainGlobals "dict" = some none)
  (z13:PySem.W.nsIn K mainGlobals "all" = some none)
  (z14:PySem.W.nsIn K mainGlobals "zip" = some none)
  (z15:PySem.W.nsIn K mainGlobals "enumerate" = some none)
  (z16:PySem.W.nsIn K mainGlobals "ValueError" = some none)
  (y1:PySem.W.nsIn K mainGlobals "FAR" = some (some (.int 60001 tc1))) :
  ∃fd:FuncData,(∀(s:Shared) (v:Value),BindsTo s fd ⟨[v],[]⟩ [("_law_script", v)])∧∀base:Heap,K.In base→base.Ns mainGlobals mg→rJ l.prog w K mg base CX0 12 fa fd ["_law_script"] (p7 K):=by
 have e:=hfa.symm.trans (PySem.W.mg_of X G aN)
 cases e
 obtain⟨f1,e1,a1,F1⟩:=d1
 obtain⟨f2,e2,a2,F2⟩:=d2
 obtain⟨f3,e3,a3,F3⟩:=d3
 obtain⟨f4,e4,a4,F4⟩:=d4
 obtain⟨f5,e5,a5,F5⟩:=d5
 obtain⟨f6,e6,a6,F6⟩:=d6
 obtain⟨f7,e7,a7,F7⟩:=d7
 obtain⟨f8,e8,a8,F8⟩:=d8
 obtain⟨f9,e9,a9,F9⟩:=d9
 obtain⟨f10,e10,a10,F10⟩:=d10
 obtain⟨f11,e11,a11,F11⟩:=d11
 obtain⟨f12,e12,a12,F12⟩:=d12
 obtain⟨f13,e13,a13,F13⟩:=d13
 obtain⟨f14,e14,a14,F14⟩:=d14
 obtain⟨f15,e15,a15,F15⟩:=d15
 obtain⟨f16,e16,a16,F16⟩:=d16
 obtain⟨f17,e17,a17,F17⟩:=d17
 obtain⟨f18,e18,a18,F18⟩:=d18
 obtain⟨f19,e19,a19,F19⟩:=d19
 obtain⟨f20,e20,a20,F20⟩:=d20
 obtain⟨f21,e21,a21,F21⟩:=d21
 obtain⟨f22,e22,a22,F22⟩:=d22
 obtain⟨f23,e23,a23,F23⟩:=d23
 obtain⟨f24,e24,a24,F24⟩:=d24
 obtain⟨f25,e25,a25,F25⟩:=d25
 obtain⟨f26,e26,a26,F26⟩:=d26
 obtain⟨f27,e27,a27,F27⟩:=d27
 obtain⟨f28,e28,a28,F28⟩:=d28
 obtain⟨f29,e29,a29,F29⟩:=d29
 obtain⟨f30,e30,a30,F30⟩:=d30
 obtain⟨f31,e31,a31,F31⟩:=d31
 obtain⟨f32,e32,a32,F32⟩:=d32
 obtain⟨f33,e33,a33,F33⟩:=d33
 obtain⟨f34,e34,a34,F34⟩:=d34
 obtain⟨f35,e35,a35,F35⟩:=d35
 obtain⟨f36,e36,a36,F36⟩:=d36
 obtain⟨f37,e37,a37,F37⟩:=d37
 obtain⟨f38,e38,a38,F38⟩:=d38
 obtain⟨f39,e39,a39,F39⟩:=d39
 obtain⟨f40,e40,a40,F40⟩:=d40
 obtain⟨f41,e41,a41,F41⟩:=d41
 obtain⟨f42,e42,a42,F42⟩:=d42
 obtain⟨f43,e43,a43,F43⟩:=d43
 obtain⟨f44,e44,a44,F44⟩:=d44
 obtain⟨f45,e45,a45,F45⟩:=d45
 obtain⟨f46,e46,a46,F46⟩:=d46
 obtain⟨f47,e47,a47,F47⟩:=d47
 obtain⟨f48,e48,a48,F48⟩:=d48
 obtain⟨f49,e49,a49,F49⟩:=d49
 obtain⟨f50,e50,a50,F50⟩:=d50
 obtain⟨f51,e51,a51,F51⟩:=d51
 obtain⟨f52,e52,a52,F52⟩:=d52
 obtain⟨f53,e53,a53,F53⟩:=d53
 obtain⟨f54,e54,a54,F54⟩:=d54
 obtain⟨f55,e55,a55,F55⟩:=d55
 obtain⟨f56,e56,a56,F56⟩:=d56
 obtain⟨f57,e57,a57,F57⟩:=d57
 obtain⟨f58,e58,a58,F58⟩:=d58
 obtain⟨f59,e59,a59,F59⟩:=d59
 obtain⟨f60,e60,a60,F60⟩:=d60
 obtain⟨f61,e61,a61,F61⟩:=d61
 obtain⟨f62,e62,a62,F62⟩:=d62
 obtain⟨f63,e63,a63,F63⟩:=d63
 have F64:=xcr (st:=dM) ln cn kn
 have b1:=wo (p1 := "thing") F1 fun _ _ _ _ _ _ _=>rfl
 have b2:=yA (p1 := "one") (p2 := "other") F2 fun _ _ _ _ _ _ _ _=>rfl
 have b3:=yA (p1 := "one") (p2 := "other") F3 fun _ _ _ _ _ _ _ _=>rfl
 have b4:=yA (p1 := "row") (p2 := "corner") F4 fun _ _ _ _ _ _ _ _=>rfl
 have b5:=yA (p1 := "one") (p2 := "other") F5 fun _ _ _ _ _ _ _ _=>rfl
 have b6:=yA (p1 := "one") (p2 := "other") F6 fun _ _ _ _ _ _ _ _=>rfl
 have b7:=wo (p1 := "place") F7 fun _ _ _ _ _ _ _=>rfl
 have b8:=wo (p1 := "row") F8 fun _ _ _ _ _ _ _=>rfl
 have b9:=wo (p1 := "totals") F9 fun _ _ _ _ _ _ _=>rfl
 have b10:=yA (p1 := "_law_script") (p2 := "_law_k") F10 fun _ _ _ _ _ _ _ _=>rfl
 have b11:=yA (p1 := "_law_state_here") (p2 := "_law_many") F11 fun _ _ _ _ _ _ _ _=>rfl
 have b12:=yA (p1 := "_law_one") (p2 := "_law_other") F12 fun _ _ _ _ _ _ _ _=>rfl
 have b13:=yA (p1 := "_law_rows") (p2 := "_law_places") F13 fun _ _ _ _ _ _ _ _=>rfl
 have b14:=wo (p1 := "things") F14 fun _ _ _ _ _ _ _=>rfl
 have b15:=wo (p1 := "thing") F15 fun _ _ _ _ _ _ _=>rfl
 have b16:=yA (p1 := "top") (p2 := "bottom") F16 fun _ _ _ _ _ _ _ _=>rfl
 have b17:=j_ (p1 := "row") (p2 := "one") (p3 := "other") F17 fun _ _ _ _ _ _ _ _ _=>rfl
 have b18:=wo (p1 := "piece") F18 fun _ _ _ _ _ _ _=>rfl
 have b19:=j_ (p1 := "first") (p2 := "rows") (p3 := "sign") F19 fun _ _ _ _ _ _ _ _ _=>rfl
 have b20:=yA (p1 := "first") (p2 := "rows") F20 fun _ _ _ _ _ _ _ _=>rfl
 have b21:=yA (p1 := "one") (p2 := "other") F21 fun _ _ _ _ _ _ _ _=>rfl
 have b22:=j_ (p1 := "rows") (p2 := "numbers") (p3 := "number") F22 fun _ _ _ _ _ _ _ _ _=>rfl
 have b23:=yA (p1 := "rows") (p2 := "weights") F23 fun _ _ _ _ _ _ _ _=>rfl
 have b24:=yA (p1 := "_law_script") (p2 := "_law_k") F24 fun _ _ _ _ _ _ _ _=>rfl
 have b25:=wo (p1 := "_law_state_here") F25 fun _ _ _ _ _ _ _=>rfl
 have b26:=yA (p1 := "_law_top") (p2 := "_law_bottom") F26 fun _ _ _ _ _ _ _ _=>rfl
 have b27:=yA (p1 := "one") (p2 := "other") F27 fun _ _ _ _ _ _ _ _=>rfl
 have b28:=yA (p1 := "whole") (p2 := "fraction") F28 fun _ _ _ _ _ _ _ _=>rfl
 have b29:=wo (p1 := "piece") F29 fun _ _ _ _ _ _ _=>rfl
 have b30:=yA (p1 := "piece") (p2 := "row") F30 fun _ _ _ _ _ _ _ _=>rfl
 have b31:=wo (p1 := "thing") F31 fun _ _ _ _ _ _ _=>rfl
 have b32:=wo (p1 := "rows") F32 fun _ _ _ _ _ _ _=>rfl
 have b33:=wo (p1 := "thing") F33 fun _ _ _ _ _ _ _=>rfl
 have b34:=yA (p1 := "rows") (p2 := "numbers") F34 fun _ _ _ _ _ _ _ _=>rfl
 have b35:=yA (p1 := "field") (p2 := "thing") F35 fun _ _ _ _ _ _ _ _=>rfl
 have b36:=yA (p1 := "rows") (p2 := "weights") F36 fun _ _ _ _ _ _ _ _=>rfl
 have b37:=yA (p1 := "_law_state_here") (p2 := "_law_rows") F37 fun _ _ _ _ _ _ _ _=>rfl
 have b38:=yA (p1 := "_law_one") (p2 := "_law_other") F38 fun _ _ _ _ _ _ _ _=>rfl
 have b39:=yA (p1 := "_law_one") (p2 := "_law_other") F39 fun _ _ _ _ _ _ _ _=>rfl
 have b40:=yA (p1 := "_law_row") (p2 := "_law_place") F40 fun _ _ _ _ _ _ _ _=>rfl
 have b41:=yA (p1 := "piece") (p2 := "rows") F41 fun _ _ _ _ _ _ _ _=>rfl
 have b42:=yA (p1 := "row") (p2 := "place") F42 fun _ _ _ _ _ _ _ _=>rfl
 have b43:=wo (p1 := "thing") F43 fun _ _ _ _ _ _ _=>rfl
 have b44:=j_ (p1 := "one") (p2 := "other") (p3 := "thing") F44 fun _ _ _ _ _ _ _ _ _=>rfl
 have b45:=yA (p1 := "field") (p2 := "weights") F45 fun _ _ _ _ _ _ _ _=>rfl
 have b46:=yA (p1 := "_law_rows") (p2 := "_law_weights_here") F46 fun _ _ _ _ _ _ _ _=>rfl
 have b47:=yA (p1 := "_law_row") (p2 := "_law_place") F47 fun _ _ _ _ _ _ _ _=>rfl
 have b48:=wo (p1 := "rows") F48 fun _ _ _ _ _ _ _=>rfl
 have b49:=yA (p1 := "row") (p2 := "place") F49 fun _ _ _ _ _ _ _ _=>rfl
 have b50:=j_ (p1 := "field") (p2 := "pair") (p3 := "direction") F50 fun _ _ _ _ _ _ _ _ _=>rfl
 have b51:=yA (p1 := "_law_rows") (p2 := "_law_weights_here") F51 fun _ _ _ _ _ _ _ _=>rfl
 have b52:=j_ (p1 := "_law_field_here") (p2 := "_law_weights_here") (p3 := "_law_row") F52 fun _ _ _ _ _ _ _ _ _=>rfl
 have b53:=wo (p1 := "rows") F53 fun _ _ _ _ _ _ _=>rfl
 have b54:=yA (p1 := "rows") (p2 := "place") F54 fun _ _ _ _ _ _ _ _=>rfl
 have b55:=wo (p1 := "thing") F55 fun _ _ _ _ _ _ _=>rfl
 have b56:=yA (p1 := "field") (p2 := "place") F56 fun _ _ _ _ _ _ _ _=>rfl
 have b57:=wo (p1 := "thing") F57 fun _ _ _ _ _ _ _=>rfl
 have b58:=wo (p1 := "field") F58 fun _ _ _ _ _ _ _=>rfl
 have b59:=yA (p1 := "field") (p2 := "weights") F59 fun _ _ _ _ _ _ _ _=>rfl
 have b60:=j_ (p1 := "field") (p2 := "a") (p3 := "b") F60 fun _ _ _ _ _ _ _ _ _=>rfl
 have b61:=yA (p1 := "field") (p2 := "weights") F61 fun _ _ _ _ _ _ _ _=>rfl
 have b62:=j_ (p1 := "field") (p2 := "a") (p3 := "b") F62 fun _ _ _ _ _ _ _ _ _=>rfl
 have b63:=yA (p1 := "field") (p2 := "thing") F63 fun _ _ _ _ _ _ _ _=>rfl
 have B:Blt mg bn:=⟨fun x hx=>by
  simp only[bn,xiJ,xiZ,xjw] at hx
  rcases hx with rfl | rfl | rfl | rfl | rfl | rfl | rfl | rfl | rfl | rfl | rfl | rfl | rfl | rfl | rfl | rfl
  ·exact PySem.W.mg_none_of X G z1
  ·exact PySem.W.mg_none_of X G z2
  ·exact PySem.W.mg_none_of X G z3
  ·exact PySem.W.mg_none_of X G z4
  ·exact PySem.W.mg_none_of X G z5
  ·exact PySem.W.mg_none_of X G z6
  ·exact PySem.W.mg_none_of X G z7
  ·exact PySem.W.mg_none_of X G z8
  ·exact PySem.W.mg_none_of X G z9
  ·exact PySem.W.mg_none_of X G z10
  ·exact PySem.W.mg_none_of X G z11
  ·exact PySem.W.mg_none_of X G z12
  ·exact PySem.W.mg_none_of X G z13
  ·exact PySem.W.mg_none_of X G z14
  ·exact PySem.W.mg_none_of X G z15
  ·exact PySem.W.mg_none_of X G z16⟩
 have du:=PySem.W.mg_of X G y1
 refine⟨PySem.W.fnOf "law" "law" (wY dM) (zp dM) (xg dM) .none kV dc pm an cd ct,fun s v=>.of_eq rfl,fun base XB _=>?_⟩
 have wB:=nW (P:=l.prog) (w:=w) (base:=base) B F1 (PySem.W.mg_of X G a1) b1
 have xP:=kG (P:=l.prog) (w:=w) (base:=base) B F2 (PySem.W.mg_of X G a2) b2
 have fM:=oD (P:=l.prog) (w:=w) (base:=base) B F3 (PySem.W.mg_of X G a3) b3
 have uf:=xaS (P:=l.prog) (w:=w) (base:=base) B F4 (PySem.W.mg_of X G a4) b4
 have ju:=nM (P:=l.prog) (w:=w) (base:=base) B F5 (PySem.W.mg_of X G a5) b5
 have yl:=ot (P:=l.prog) (w:=w) (base:=base) B F6 (PySem.W.mg_of X G a6) b6
 have gL:=pU (P:=l.prog) (w:=w) (base:=base) B F7 (PySem.W.mg_of X G a7) b7
 have wJ:=fQ (P:=l.prog) (w:=w) (base:=base) B F8 (PySem.W.mg_of X G a8) b8
 have qV:=oI (P:=l.prog) (w:=w) (base:=base) B F9 (PySem.W.mg_of X G a9) b9
 have uR:=fS (P:=l.prog) (w:=w) (base:=base) B F10 (PySem.W.mg_of X G a10) b10
 have xH:=lY (rX (P:=l.prog) (w:=w) (base:=base) F11 (PySem.W.mg_of X G a11) b11)
 have uT:=fA (P:=l.prog) (w:=w) (base:=base) B F12 (PySem.W.mg_of X G a12) b12
 have wF:=jj (P:=l.prog) (w:=w) (base:=base) B F13 (PySem.W.mg_of X G a13) b13
 have wD:=r_ (P:=l.prog) (w:=w) (base:=base) B F14 (PySem.W.mg_of X G a14) b14 wB
 have vt:=dq (P:=l.prog) (w:=w) (base:=base) B F15 (PySem.W.mg_of X G a15) b15 wB xP
 have yV:=xan (P:=l.prog) (w:=w) (base:=base) B F16 (PySem.W.mg_of X G a16) b16 xP
 have uA:=gc (P:=l.prog) (w:=w) (base:=base) B F17 (PySem.W.mg_of X G a17) b17 xP uf
 have qd:=aa (P:=l.prog) (w:=w) (base:=base) B F18 (PySem.W.mg_of X G a18) b18 ju
 have qL:=bf (P:=l.prog) (w:=w) (base:=base) B F19 (PySem.W.mg_of X G a19) b19 yl
 have vI:=dw (P:=l.prog) (w:=w) (base:=base) B F20 (PySem.W.mg_of X G a20) b20 yl
 have kD:=rP (P:=l.prog) (w:=w) (base:=base) B F21 (PySem.W.mg_of X G a21) b21 yl
 have z_:=kP (P:=l.prog) (w:=w) (base:=base) B F22 (PySem.W.mg_of X G a22) b22 yl
 have kK:=tT (P:=l.prog) (w:=w) (base:=base) B F23 (PySem.W.mg_of X G a23) b23 xP
 have qA:=rn (P:=l.prog) (w:=w) (base:=base) F24 (PySem.W.mg_of X G a24) b24 uR
 have qz:=sX (P:=l.prog) (w:=w) (base:=base) B F25 (PySem.W.mg_of X G a25) b25 xH
 have yH:=nP (P:=l.prog) (w:=w) (base:=base) B F26 (PySem.W.mg_of X G a26) b26 uT
 have lu:=xdk (P:=l.prog) (w:=w) (base:=base) B F27 (PySem.W.mg_of X G a27) b27 yV
 have rA:=xbd (P:=l.prog) (w:=w) (base:=base) B F28 (PySem.W.mg_of X G a28) b28 yV
 have ko:=tH (P:=l.prog) (w:=w) (base:=base) B F29 (PySem.W.mg_of X G a29) b29 yV qd
 have kA:=mD (P:=l.prog) (w:=w) (base:=base) B F30 (PySem.W.mg_of X G a30) b30 uA uf
 have qJ:=xao (P:=l.prog) (w:=w) (base:=base) B F31 (PySem.W.mg_of X G a31) b31 wD
 have jT:=bC (P:=l.prog) (w:=w) (base:=base) B F32 (PySem.W.mg_of X G a32) b32 qL vI yl
 have uY:=gX (P:=l.prog) (w:=w) (base:=base) B F33 (PySem.W.mg_of X G a33) b33 wD
 have vU:=dE (P:=l.prog) (w:=w) (base:=base) B F34 (PySem.W.mg_of X G a34) b34 z_
 have vJ:=dI (P:=l.prog) (w:=w) (base:=base) B F35 (PySem.W.mg_of X G a35) b35 vt
 have qS:=lG (P:=l.prog) (w:=w) (base:=base) B F36 (PySem.W.mg_of X G a36) b36 kK yV
 have uV:=gQ (P:=l.prog) (w:=w) (base:=base) B F37 (PySem.W.mg_of X G a37) b37 xH yH
 have kJ:=td (P:=l.prog) (w:=w) (base:=base) B F38 (PySem.W.mg_of X G a38) b38 yH
 have qu:=ah (P:=l.prog) (w:=w) (base:=base) B F39 (PySem.W.mg_of X G a39) b39 yH
 have qC:=aX (P:=l.prog) (w:=w) (base:=base) B F40 (PySem.W.mg_of X G a40) b40 yH
 have jM:=n5 (P:=l.prog) (w:=w) (base:=base) B F41 (PySem.W.mg_of X G a41) b41 kA
 have jR:=xbC (P:=l.prog) (w:=w) (base:=base) B F42 (PySem.W.mg_of X G a42) b42 lu rA
 have u9:=gT (P:=l.prog) (w:=w) (base:=base) B F43 (PySem.W.mg_of X G a43) b43 qJ
 have nQ:=xbq (P:=l.prog) (w:=w) (base:=base) B F44 (PySem.W.mg_of X G a44) b44 kD uY yl yV
 have jE:=ng (P:=l.prog) (w:=w) (base:=base) B F45 (PySem.W.mg_of X G a45) b45 qV qS
 have zz:=dH (P:=l.prog) (w:=w) (base:=base) B F46 (PySem.W.mg_of X G a46) b46 kJ qu
 have xb4:=aI (P:=l.prog) (w:=w) (base:=base) B F47 (PySem.W.mg_of X G a47) b47 qC
 have qy:=rD (P:=l.prog) (w:=w) (base:=base) B F48 (PySem.W.mg_of X G a48) b48 du jM
 have jD:=nv (P:=l.prog) (w:=w) (base:=base) B F49 (PySem.W.mg_of X G a49) b49 jR
 have wA:=kS (P:=l.prog) (w:=w) (base:=base) B F50 (PySem.W.mg_of X G a50) b50 nQ wJ
 have jS:=m5 (P:=l.prog) (w:=w) (base:=base) B F51 (PySem.W.mg_of X G a51) b51 zz
 have zX:=km (P:=l.prog) (w:=w) (base:=base) B F52 (PySem.W.mg_of X G a52) b52 zz
 have ze:=fG (P:=l.prog) (w:=w) (base:=base) B F53 (PySem.W.mg_of X G a53) b53 ko qy
 have ur:=h_ (P:=l.prog) (w:=w) (base:=base) B F54 (PySem.W.mg_of X G a54) b54 jD
 have jz:=nX (P:=l.prog) (w:=w) (base:=base) B F55 (PySem.W.mg_of X G a55) b55 jT gL ze u9
 have jG:=bE (P:=l.prog) (w:=w) (base:=base) B F56 (PySem.W.mg_of X G a56) b56 vU ur
 have yS:=rC (P:=l.prog) (w:=w) (base:=base) B F57 (PySem.W.mg_of X G a57) b57 jz
 have wd:=pS (P:=l.prog) (w:=w) (base:=base) B F58 (PySem.W.mg_of X G a58) b58 yS ze
 have aZ:=xaE (P:=l.prog) (w:=w) (base:=base) B F59 (PySem.W.mg_of X G a59) b59 yS qS vJ
 have jZ:=mW (P:=l.prog) (w:=w) (base:=base) B F60 (PySem.W.mg_of X G a60) b60 wd jR fM
 have sW:=xaq (P:=l.prog) (w:=w) (base:=base) B F61 (PySem.W.mg_of X G a61) b61 qV aZ
 have vT:=dP (P:=l.prog) (w:=w) (base:=base) B F62 (PySem.W.mg_of X G a62) b62 wd jE wA jG
 have qO:=mV (P:=l.prog) (w:=w) (base:=base) B F63 (PySem.W.mg_of X G a63) b63 yS qJ sW
 exact xeY B F64 qA qz wF wd uV jS jZ qO zX vT
theorem walk {l:PySem.W.OpenLaw}{q:Program}{loose:List Str}{XP:(Str→Option Value)→Heap→Prop}{YP:World→Heap→Prop}{d:DefRec}{K:Params→PySem.W.Frag}(hn:l.most=some 63)(hdf:d.params.defaults=[])
  (hY:∀(w:World) (h:Heap),YP w h→(K w.params).In h) (hT:∀P,xgf (K P)=none)
  (F:∀(w:World) (mg:Str→Option Value) (fa:Addr) (h:Heap),(K w.params).In h→h.Ns mainGlobals mg→mg d.name=some (.ref fa) →
   ∃fd:FuncData,(∀(s:Shared) (u:Value),BindsTo s fd ⟨[u],[]⟩ [("_law_script", u)])∧∀base:Heap,(K w.params).In base→base.Ns mainGlobals mg→rJ l.prog w (K w.params) mg base CX0 12 fa fd ["_law_script"] (p7 (K w.params))) :
  PySem.W.WalkO q loose XP YP l.row.toRowW d [] (fun f vs=>PySem.call f vs) :=
 L2.xc2 (n:=63) (k:=12) (x := "_law_script") (CX:=fun _=>CX0) (sp:=fun w=>p7 (K w.params)) hn (by decide) hdf ⟨rfl,by decide,by decide⟩ hY F (fun _ _ a ns hl hO hS=>⟨a,ns,rfl,⟨fun b=>.inl (hO b),xcF.none (hT _)⟩,hS,hl,fun _=>rfl⟩) fun _ _ _ _ _ z=>z
end K12
namespace K12
open PySem L2 Trn
def ke (k:Str)(t:Nat)(v:Value):Str×Nat×Value:=(k,t,v)
def kd (P:Params)(n:Nat)(l:List (Str×Nat×Value)):Obj:=⟨.type "dict", none,.dict ⟨l.map fun e=>⟨PyData.keyHash P e.1,.str e.1 e.2.1,e.2.2⟩⟩ n,#[]⟩
def kf (x:Str)(st:Stmt)(cd:Nat)(m:Str)(t:Nat):Obj:=⟨.type "function", none,.func (PySem.W.fnOf x x (wY st) (zp st) (xg st) .none .none .none (.str m t) none (.ref cd) .none),#[]⟩
def kp (x:Str)(st:Stmt):Obj:=⟨.none,none,.func { name:=x,qualname:=x,params:=wY st,body:=.stmts (zp st),scope:=xg st,globals:=0,closure:=[],defaults:=.none,kwdefaults:=.none },#[]⟩
def kc (x:Str)(a l n m c d:Nat)(u v:Value)(e t f:Nat):Obj:=⟨.type "code", none,.fields ⟨[.str x a,.str x (a+1),.str "/claim/cut.py" (a+2),.int l 0,.int n 0,.int 0 0,.int 0 0,.int m 0,.ref c,.bool true,.int 181 0,.ref d,.none,u,v,.ref e,.int t 0,.int l 0,.str "/claim/cut.py" f]⟩,#[]⟩
def k0:Obj:=⟨.none,none,.fields ⟨[]⟩,#[]⟩
def k1 (l:List Value):Obj:=⟨.type "tuple", none,.seq ⟨l⟩ 0,#[]⟩
def tp (p:Program)(i:Nat):Stmt:=p.main.body.getD i (.Pass ⟨0,0,0,0⟩)
def tq:List (Int×Nat):=[(2,20),(4,33),(6,45),(8,57),(10,69),(12,81),(15,93),(17,98),(19,105),(24,112),(29,119),(32,126),(34,133),(36,140),(40,147),(42,154),(44,161),(48,166),(50,173),(61,180),(65,185),(70,192),(76,199),(79,206),(83,213),(85,220),(88,227),(90,234),(99,241),(105,248),(111,253),(117,260),(122,265),(124,272),(128,279),(131,284),(133,291),(141,298),(149,305),(154,312),(159,319),(161,326),(168,333),(175,340),(177,347),(186,354),(191,359),(195,364),(198,369),(208,376),(210,383),(215,390),(223,397),(225,402),(234,409),(238,416),(243,423),(252,428),(277,435),(281,442),(286,447),(299,454),(301,461),(303,468),(309,475),(314,482),(317,489),(320,494),(331,499),(341,506)]
def tl (n:Nat):Obj:=⟨.none,none,.fields ⟨(tq.take n).flatMap fun x=>[.int x.1 0,.int 0 0,.ref x.2]⟩,#[]⟩
def kx (n:Str)(b a s m p q:Nat):Obj:=⟨.type "type", none,.cls { name:=n,bases:=[.ref b],mro:=[.ref a,.ref b,.type "ValueError", .type "Exception", .type "BaseException", .type "object"],ns:=s,qualname:=n,hasDict:=true,slotNames:=[],subclasses:=[],abstract:=false,hasDel:=false },⟨[some (.ref m),none,some (.str n p),some (.str n q),some (.builtin "ValueError.__new__"),some (.bool true)]⟩⟩
def ky (x:Str)(a b c:Nat)(l:Int)(d e:Nat)(i j:Int)(k:Nat):Obj:=⟨.type "code", none,.fields ⟨[.str x a,.str x b,.str "/claim/cut.py" c,.int l 0,.int 0 0,.int 0 0,.int 0 0,.int 0 0,.ref d,.bool false,.int 181 0,.ref e,.none,.none,.none,.none,.int i 0,.int j 0,.str "/claim/cut.py" k]⟩,#[]⟩
def kz (a b c:Nat)(x:Str)(d e:Nat):Obj:=⟨.type "frame", none,.plain,⟨[some (.ref a),some (.ref b),some (.ref c),none,some (.str x d),none,some (.ref e)]⟩⟩
def kv (x:String)(v:Value):Obj:=⟨.type "builtin_function_or_method", none,.fields ⟨[.builtin x,v]⟩,#[]⟩
def kq (a:Nat)(x:Str)(b c:Nat)(y:Str)(d e:Nat)(i:Int)(f g h:Nat):List (Str×Nat×Value):=ke "__module__" a (.str x b)::ke "__qualname__" c (.str y d)::ke "__firstlineno__" e (.int i f)::ke "__static_attributes__" g (.ref h)::[]
def kr (a:Nat)(x:Str)(b e:Nat)(i:Int)(f g h d:Nat):List (Str×Nat×Value):=ke "__module__" a (.str x b)::ke "__firstlineno__" e (.int i f)::ke "__static_attributes__" g (.ref h)::ke "__doc__" d .none::[]
def lw:Str := "law_roundcuts_k12_whole_cuts_keep_whole_plac"
def lw0:Str := "roundcuts.corners"
def lw1:Str := "roundcuts.errors"
def lw2:Str := "roundcuts.fields"
def lw3:Str := "roundcuts.fractions"
def lw4:Str := "roundcuts.pieces"
def lw5:Str := "roundcuts.rows"
def lw6:Str := "roundcuts.sides"
def lw7:Str := "roundcuts.sums"
def lw8:Str := "roundcuts.turns"
def mn:List (Str×Nat×Value):=ke "__name__" 165 (.str lw 709)::ke "__doc__" 166 .none::ke "__package__" 167 .none::ke "__loader__" 168 (.builtin "__main__.__loader__#opaque")::ke "__spec__" 169 .none::ke "__annotations__" 170 (.ref 6)::ke "__builtins__" 171 (.ref 4)::ke "__file__" 173 (.str "/claim/cut.py" 172)::ke "__cached__" 174 .none::ke "CutError" 206 (.ref 24)::ke "NoField" 222 (.ref 37)::ke "NoWeights" 238 (.ref 49)::ke "NoCut" 254 (.ref 61)::ke "Nothing" 270 (.ref 73)::ke "NoTurn" 286 (.ref 85)::ke "is_whole" 295 (.ref 94)::ke "are_whole" 301 (.ref 99)::ke "is_fraction" 310 (.ref 106)::ke "greatest_divisor" 318 (.ref 113)::ke "lowest" 327 (.ref 120)::ke "plus" 335 (.ref 127)::ke "times" 343 (.ref 134)::ke "is_less" 351 (.ref 141)::ke "FAR" 355 (.int 60001 354)::ke "corners_left" 362 (.ref 148)::ke "piece_left" 369 (.ref 155)::ke "cut_down" 378 (.ref 162)::ke "places_of" 384 (.ref 167)::ke "cut_piece" 397 (.ref 174)::ke "beyond" 411 (.ref 181)::ke "where_crossed" 417 (.ref 186)::ke "from_least" 427 (.ref 193)::ke "is_ahead" 435 (.ref 200)::ke "is_row" 444 (.ref 207)::ke "value" 452 (.ref 214)::ke "is_tight" 462 (.ref 221)::ke "turn_to" 470 (.ref 228)::ke "go_round" 480 (.ref 235)::ke "furthest" 491 (.ref 242)::ke "points_back" 500 (.ref 249)::ke "is_field" 508 (.ref 254)::ke "is_field_row" 518 (.ref 261)::ke "is_near" 524 (.ref 266)::ke "need_field" 531 (.ref 273)::ke "corners" 540 (.ref 280)::ke "tight_numbers" 546 (.ref 285)::ke "greatest" 558 (.ref 292)::ke "parts" 572 (.ref 299)::ke "need_turn" 581 (.ref 306)::ke "is_direction" 588 (.ref 313)::ke "sides_at" 598 (.ref 320)::ke "sides_among" 609 (.ref 327)::ke "next_to_the_left" 620 (.ref 334)::ke "direction_of" 627 (.ref 341)::ke "weights_towards" 640 (.ref 348)::ke "sum_by" 650 (.ref 355)::ke "are_weights" 656 (.ref 360)::ke "sum_of" 662 (.ref 365)::ke "whole_sum" 668 (.ref 370)::ke "cut_by" 676 (.ref 377)::ke "cut_of" 686 (.ref 384)::ke "is_paper" 694 (.ref 391)::ke "paper_of" 702 (.ref 398)::ke "cut_towards" 708 (.ref 403)::ke "_law_cell_at" 718 (.ref 410)::ke "_law_state" 727 (.ref 417)::ke "_law_take" 737 (.ref 424)::ke "_law_field" 743 (.ref 429)::ke "_law_divisor" 751 (.ref 436)::ke "_law_low" 760 (.ref 443)::ke "_law_weights" 766 (.ref 448)::ke "_law_plus" 774 (.ref 455)::ke "_law_times" 782 (.ref 462)::ke "_law_summed" 794 (.ref 469)::ke "_law_cut" 805 (.ref 476)::ke "_law_value" 815 (.ref 483)::ke "_law_keeps" 824 (.ref 490)::ke "_law_whole_left" 830 (.ref 495)::ke "_law_parts_right" 836 (.ref 500)::ke "law" 854 (.ref 507)::[]
def ob (p:Program)(P:Params):List Obj:=k1 [] ::
 tl 70 ::
 ky "<module>" 182 183 184 1 11 12 185 1 186 ::
 kz 13 3 3 "__main__" 164 0 ::
 k1 [(.type "ValueError")] ::
 kv "type.__prepare__" (.type "type") ::
 kd P 4 (kq 196 lw1 187 198 "CutError" 197 200 2 199 201 22) ::
 k1 [] ::
 k0 ::
 ky "CutError" 191 192 193 2 18 19 194 2 195 ::
 kz 20 3 17 lw1 187 0 ::
 k1 [] ::
 kd P 3 (ke "__module__" 196 (.str lw1 187)::ke "__firstlineno__" 200 (.int 2 199)::ke "__static_attributes__" 201 (.ref 22)::ke "__weakref__" 203 (.ref 25)::ke "__doc__" 204 .none::[]) ::
 ⟨(.type "type"),none,.cls { name := "CutError", bases:=[(.type "ValueError")],mro:=[(.ref 24),(.type "ValueError"),(.type "Exception"),(.type "BaseException"),(.type "object")],ns:=23,qualname := "CutError", hasDict:=true,slotNames:=[],subclasses:=[(.ref 37),(.ref 49),(.ref 61),(.ref 73),(.ref 85)],abstract:=false,hasDel:=false },⟨[some (.ref 15),none,some (.str "CutError" 189),some (.str "CutError" 197),some (.builtin "ValueError.__new__"),some (.bool true)]⟩⟩ ::
 ⟨(.type "getset_descriptor"),none,.fields ⟨[(.str "__weakref__" 202),(.ref 24),(.builtin "ExceptionGroup.__weakref__"),.none]⟩,#[]⟩ ::
 ⟨(.type "super"),none,.fields ⟨[(.ref 24),(.ref 24),(.ref 24)]⟩,#[]⟩ ::
 kv "object.__init_subclass__" (.ref 24) ::
 k1 [(.ref 24)] ::
 kv "type.__prepare__" (.type "type") ::
 kd P 4 (kq 214 lw1 187 216 "NoField" 215 218 4 217 219 35) ::
 k1 [] ::
 k0 ::
 ky "NoField" 209 210 211 4 31 32 212 4 213 ::
 kz 33 3 30 lw1 187 0 ::
 k1 [] ::
 kd P 2 (kr 214 lw1 187 218 4 217 219 35 220) ::
 kx "NoField" 24 37 36 28 207 215 ::
 ⟨(.type "super"),none,.fields ⟨[(.ref 37),(.ref 37),(.ref 37)]⟩,#[]⟩ ::
 kv "object.__init_subclass__" (.ref 37) ::
 k1 [(.ref 24)] ::
 kv "type.__prepare__" (.type "type") ::
 kd P 4 (kq 230 lw1 187 232 "NoWeights" 231 234 6 233 235 47) ::
 k1 [] ::
 k0 ::
 ky "NoWeights" 225 226 227 6 43 44 228 6 229 ::
 kz 45 3 42 lw1 187 0 ::
 k1 [] ::
 kd P 2 (kr 230 lw1 187 234 6 233 235 47 236) ::
 kx "NoWeights" 24 49 48 40 223 231 ::
 ⟨(.type "super"),none,.fields ⟨[(.ref 49),(.ref 49),(.ref 49)]⟩,#[]⟩ ::
 kv "object.__init_subclass__" (.ref 49) ::
 k1 [(.ref 24)] ::
 kv "type.__prepare__" (.type "type") ::
 kd P 4 (kq 246 lw1 187 248 "NoCut" 247 250 8 249 251 59) ::
 k1 [] ::
 k0 ::
 ky "NoCut" 241 242 243 8 55 56 244 8 245 ::
 kz 57 3 54 lw1 187 0 ::
 k1 [] ::
 kd P 2 (kr 246 lw1 187 250 8 249 251 59 252) ::
 kx "NoCut" 24 61 60 52 239 247 ::
 ⟨(.type "super"),none,.fields ⟨[(.ref 61),(.ref 61),(.ref 61)]⟩,#[]⟩ ::
 kv "object.__init_subclass__" (.ref 61) ::
 k1 [(.ref 24)] ::
 kv "type.__prepare__" (.type "type") ::
 kd P 4 (kq 262 lw1 187 264 "Nothing" 263 266 10 265 267 71) ::
 k1 [] ::
 k0 ::
 ky "Nothing" 257 258 259 10 67 68 260 10 261 ::
 kz 69 3 66 lw1 187 0 ::
 k1 [] ::
 kd P 2 (kr 262 lw1 187 266 10 265 267 71 268) ::
 kx "Nothing" 24 73 72 64 255 263 ::
 ⟨(.type "super"),none,.fields ⟨[(.ref 73),(.ref 73),(.ref 73)]⟩,#[]⟩ ::
 kv "object.__init_subclass__" (.ref 73) ::
 k1 [(.ref 24)] ::
 kv "type.__prepare__" (.type "type") ::
 kd P 4 (kq 278 lw1 187 280 "NoTurn" 279 282 12 281 283 83) ::
 k1 [] ::
 k0 ::
 ky "NoTurn" 273 274 275 12 79 80 276 12 277 ::
 kz 81 3 78 lw1 187 0 ::
 k1 [] ::
 kd P 2 (kr 278 lw1 187 282 12 281 283 83 284) ::
 kx "NoTurn" 24 85 84 76 271 279 ::
 ⟨(.type "super"),none,.fields ⟨[(.ref 85),(.ref 85),(.ref 85)]⟩,#[]⟩ ::
 kv "object.__init_subclass__" (.ref 85) ::
 k1 [] ::
 k0 ::
 k1 [(.str "thing" 292)] ::
 k1 [] ::
 kp "is_whole" (tp p 8) ::
 kc "is_whole" 289 15 1 3 88 89 (.ref 90) (.ref 91) 92 293 294 ::
 kf "is_whole" (tp p 8) 93 lw3 287 ::
 k1 [] ::
 k0 ::
 kp "are_whole" (tp p 9) ::
 kc "are_whole" 296 17 1 3 95 96 .none .none 97 299 300 ::
 kf "are_whole" (tp p 9) 98 lw3 287 ::
 k1 [] ::
 k0 ::
 k1 [(.str "thing" 305),(.str "top" 306),(.str "bottom" 307)] ::
 k1 [] ::
 kp "is_fraction" (tp p 10) ::
 kc "is_fraction" 302 19 1 3 100 101 (.ref 102) (.ref 103) 104 308 309 ::
 kf "is_fraction" (tp p 10) 105 lw3 287 ::
 k1 [] ::
 k0 ::
 k1 [(.str "one" 314),(.str "other" 315)] ::
 k1 [] ::
 kp "greatest_divisor" (tp p 11) ::
 kc "greatest_divisor" 311 24 2 3 107 108 (.ref 109) (.ref 110) 111 316 317 ::
 kf "greatest_divisor" (tp p 11) 112 lw3 287 ::
 k1 [] ::
 k0 ::
 k1 [(.str "top" 322),(.str "bottom" 323),(.str "shared" 324)] ::
 k1 [] ::
 kp "lowest" (tp p 12) ::
 kc "lowest" 319 29 2 3 114 115 (.ref 116) (.ref 117) 118 325 326 ::
 kf "lowest" (tp p 12) 119 lw3 287 ::
 k1 [] ::
 k0 ::
 k1 [(.str "one" 331),(.str "other" 332)] ::
 k1 [] ::
 kp "plus" (tp p 13) ::
 kc "plus" 328 32 2 3 121 122 (.ref 123) (.ref 124) 125 333 334 ::
 kf "plus" (tp p 13) 126 lw3 287 ::
 k1 [] ::
 k0 ::
 k1 [(.str "whole" 339),(.str "fraction" 340)] ::
 k1 [] ::
 kp "times" (tp p 14) ::
 kc "times" 336 34 2 3 128 129 (.ref 130) (.ref 131) 132 341 342 ::
 kf "times" (tp p 14) 133 lw3 287 ::
 k1 [] ::
 k0 ::
 k1 [(.str "one" 347),(.str "other" 348)] ::
 k1 [] ::
 kp "is_less" (tp p 15) ::
 kc "is_less" 344 36 2 3 135 136 (.ref 137) (.ref 138) 139 349 350 ::
 kf "is_less" (tp p 15) 140 lw3 287 ::
 k1 [] ::
 k0 ::
 k1 [(.str "rows" 359)] ::
 k1 [] ::
 kp "corners_left" (tp p 18) ::
 kc "corners_left" 356 40 1 3 142 143 (.ref 144) (.ref 145) 146 360 361 ::
 kf "corners_left" (tp p 18) 147 lw4 352 ::
 k1 [] ::
 k0 ::
 k1 [(.str "rows" 366)] ::
 k1 [] ::
 kp "piece_left" (tp p 19) ::
 kc "piece_left" 363 42 1 3 149 150 (.ref 151) (.ref 152) 153 367 368 ::
 kf "piece_left" (tp p 19) 154 lw4 352 ::
 k1 [] ::
 k0 ::
 k1 [(.str "piece" 373),(.str "rows" 374),(.str "row" 375)] ::
 k1 [] ::
 kp "cut_down" (tp p 20) ::
 kc "cut_down" 370 44 2 3 156 157 (.ref 158) (.ref 159) 160 376 377 ::
 kf "cut_down" (tp p 20) 161 lw4 352 ::
 k1 [] ::
 k0 ::
 kp "places_of" (tp p 21) ::
 kc "places_of" 379 48 1 3 163 164 .none .none 165 382 383 ::
 kf "places_of" (tp p 21) 166 lw4 352 ::
 k1 [] ::
 k0 ::
 k1 [(.str "piece" 388),(.str "row" 389),(.str "left" 390),(.str "at" 391),(.str "corner" 392),(.str "before" 393),(.str "crossing" 394)] ::
 k1 [] ::
 kp "cut_piece" (tp p 22) ::
 kc "cut_piece" 385 50 2 3 168 169 (.ref 170) (.ref 171) 172 395 396 ::
 kf "cut_piece" (tp p 22) 173 lw4 352 ::
 k1 [] ::
 k0 ::
 k1 [(.str "row" 401),(.str "corner" 402),(.str "a" 403),(.str "b" 404),(.str "c" 405),(.str "x" 406),(.str "y" 407),(.str "bottom" 408)] ::
 k1 [] ::
 kp "beyond" (tp p 23) ::
 kc "beyond" 398 61 2 3 175 176 (.ref 177) (.ref 178) 179 409 410 ::
 kf "beyond" (tp p 23) 180 lw4 352 ::
 k1 [] ::
 k0 ::
 kp "where_crossed" (tp p 24) ::
 kc "where_crossed" 412 65 3 3 182 183 .none .none 184 415 416 ::
 kf "where_crossed" (tp p 24) 185 lw4 352 ::
 k1 [] ::
 k0 ::
 k1 [(.str "piece" 421),(.str "start" 422),(.str "at" 423),(.str "corner" 424)] ::
 k1 [] ::
 kp "from_least" (tp p 25) ::
 kc "from_least" 418 70 1 3 187 188 (.ref 189) (.ref 190) 191 425 426 ::
 kf "from_least" (tp p 25) 192 lw4 352 ::
 k1 [] ::
 k0 ::
 k1 [(.str "one" 431),(.str "other" 432)] ::
 k1 [] ::
 kp "is_ahead" (tp p 26) ::
 kc "is_ahead" 428 76 2 3 194 195 (.ref 196) (.ref 197) 198 433 434 ::
 kf "is_ahead" (tp p 26) 199 lw4 352 ::
 k1 [] ::
 k0 ::
 k1 [(.str "thing" 441)] ::
 k1 [] ::
 kp "is_row" (tp p 28) ::
 kc "is_row" 438 79 1 3 201 202 (.ref 203) (.ref 204) 205 442 443 ::
 kf "is_row" (tp p 28) 206 lw5 436 ::
 k1 [] ::
 k0 ::
 k1 [(.str "row" 448),(.str "place" 449)] ::
 k1 [] ::
 kp "value" (tp p 29) ::
 kc "value" 445 83 2 3 208 209 (.ref 210) (.ref 211) 212 450 451 ::
 kf "value" (tp p 29) 213 lw5 436 ::
 k1 [] ::
 k0 ::
 k1 [(.str "row" 456),(.str "place" 457),(.str "top" 458),(.str "bottom" 459)] ::
 k1 [] ::
 kp "is_tight" (tp p 30) ::
 kc "is_tight" 453 85 2 3 215 216 (.ref 217) (.ref 218) 219 460 461 ::
 kf "is_tight" (tp p 30) 220 lw5 436 ::
 k1 [] ::
 k0 ::
 k1 [(.str "one" 466),(.str "other" 467)] ::
 k1 [] ::
 kp "turn_to" (tp p 31) ::
 kc "turn_to" 463 88 2 3 222 223 (.ref 224) (.ref 225) 226 468 469 ::
 kf "turn_to" (tp p 31) 227 lw5 436 ::
 k1 [] ::
 k0 ::
 k1 [(.str "rows" 474),(.str "first" 475),(.str "left" 476),(.str "right" 477)] ::
 k1 [] ::
 kp "go_round" (tp p 32) ::
 kc "go_round" 471 90 1 3 229 230 (.ref 231) (.ref 232) 233 478 479 ::
 kf "go_round" (tp p 32) 234 lw5 436 ::
 k1 [] ::
 k0 ::
 k1 [(.str "first" 484),(.str "rows" 485),(.str "sign" 486),(.str "last" 487),(.str "row" 488)] ::
 k1 [] ::
 kp "furthest" (tp p 33) ::
 kc "furthest" 481 99 3 3 236 237 (.ref 238) (.ref 239) 240 489 490 ::
 kf "furthest" (tp p 33) 241 lw5 436 ::
 k1 [] ::
 k0 ::
 k1 [(.str "first" 495),(.str "rows" 496),(.str "row" 497)] ::
 k1 [] ::
 kp "points_back" (tp p 34) ::
 kc "points_back" 492 105 2 3 243 244 (.ref 245) (.ref 246) 247 498 499 ::
 kf "points_back" (tp p 34) 248 lw5 436 ::
 k1 [] ::
 k0 ::
 kp "is_field" (tp p 36) ::
 kc "is_field" 503 111 1 3 250 251 .none .none 252 506 507 ::
 kf "is_field" (tp p 36) 253 lw2 501 ::
 k1 [] ::
 k0 ::
 k1 [(.str "thing" 512),(.str "a" 513),(.str "b" 514),(.str "c" 515)] ::
 k1 [] ::
 kp "is_field_row" (tp p 37) ::
 kc "is_field_row" 509 117 1 3 255 256 (.ref 257) (.ref 258) 259 516 517 ::
 kf "is_field_row" (tp p 37) 260 lw2 501 ::
 k1 [] ::
 k0 ::
 kp "is_near" (tp p 38) ::
 kc "is_near" 519 122 1 3 262 263 .none .none 264 522 523 ::
 kf "is_near" (tp p 38) 265 lw2 501 ::
 k1 [] ::
 k0 ::
 k1 [(.str "thing" 528)] ::
 k1 [] ::
 kp "need_field" (tp p 39) ::
 kc "need_field" 525 124 1 3 267 268 (.ref 269) (.ref 270) 271 529 530 ::
 kf "need_field" (tp p 39) 272 lw2 501 ::
 k1 [] ::
 k0 ::
 k1 [(.str "field" 537)] ::
 k1 [] ::
 kp "corners" (tp p 41) ::
 kc "corners" 534 128 1 3 274 275 (.ref 276) (.ref 277) 278 538 539 ::
 kf "corners" (tp p 41) 279 lw0 532 ::
 k1 [] ::
 k0 ::
 kp "tight_numbers" (tp p 42) ::
 kc "tight_numbers" 541 131 2 3 281 282 .none .none 283 544 545 ::
 kf "tight_numbers" (tp p 42) 284 lw0 532 ::
 k1 [] ::
 k0 ::
 k1 [(.str "field" 550),(.str "a" 551),(.str "b" 552),(.str "best" 553),(.str "place" 554),(.str "here" 555)] ::
 k1 [] ::
 kp "greatest" (tp p 43) ::
 kc "greatest" 547 133 3 3 286 287 (.ref 288) (.ref 289) 290 556 557 ::
 kf "greatest" (tp p 43) 291 lw0 532 ::
 k1 [] ::
 k0 ::
 k1 [(.str "one" 564),(.str "other" 565),(.str "thing" 566),(.str "turn" 567),(.str "of_one" 568),(.str "of_other" 569)] ::
 k1 [] ::
 kp "parts" (tp p 45) ::
 kc "parts" 561 141 3 3 293 294 (.ref 295) (.ref 296) 297 570 571 ::
 kf "parts" (tp p 45) 298 lw8 559 ::
 k1 [] ::
 k0 ::
 k1 [(.str "one" 576),(.str "other" 577),(.str "turn" 578)] ::
 k1 [] ::
 kp "need_turn" (tp p 46) ::
 kc "need_turn" 573 149 2 3 300 301 (.ref 302) (.ref 303) 304 579 580 ::
 kf "need_turn" (tp p 46) 305 lw8 559 ::
 k1 [] ::
 k0 ::
 k1 [(.str "thing" 585)] ::
 k1 [] ::
 kp "is_direction" (tp p 47) ::
 kc "is_direction" 582 154 1 3 307 308 (.ref 309) (.ref 310) 311 586 587 ::
 kf "is_direction" (tp p 47) 312 lw8 559 ::
 k1 [] ::
 k0 ::
 k1 [(.str "field" 594),(.str "place" 595)] ::
 k1 [] ::
 kp "sides_at" (tp p 49) ::
 kc "sides_at" 591 159 2 3 314 315 (.ref 316) (.ref 317) 318 596 597 ::
 kf "sides_at" (tp p 49) 319 lw6 589 ::
 k1 [] ::
 k0 ::
 k1 [(.str "rows" 602),(.str "numbers" 603),(.str "pairs" 604),(.str "number" 605),(.str "beside" 606)] ::
 k1 [] ::
 kp "sides_among" (tp p 50) ::
 kc "sides_among" 599 161 2 3 321 322 (.ref 323) (.ref 324) 325 607 608 ::
 kf "sides_among" (tp p 50) 326 lw6 589 ::
 k1 [] ::
 k0 ::
 k1 [(.str "rows" 613),(.str "numbers" 614),(.str "number" 615),(.str "nearest" 616),(.str "other" 617)] ::
 k1 [] ::
 kp "next_to_the_left" (tp p 51) ::
 kc "next_to_the_left" 610 168 3 3 328 329 (.ref 330) (.ref 331) 332 618 619 ::
 kf "next_to_the_left" (tp p 51) 333 lw6 589 ::
 k1 [] ::
 k0 ::
 k1 [(.str "row" 624)] ::
 k1 [] ::
 kp "direction_of" (tp p 52) ::
 kc "direction_of" 621 175 1 3 335 336 (.ref 337) (.ref 338) 339 625 626 ::
 kf "direction_of" (tp p 52) 340 lw6 589 ::
 k1 [] ::
 k0 ::
 k1 [(.str "field" 631),(.str "pair" 632),(.str "direction" 633),(.str "one" 634),(.str "other" 635),(.str "shares" 636),(.str "weights" 637)] ::
 k1 [] ::
 kp "weights_towards" (tp p 53) ::
 kc "weights_towards" 628 177 3 3 342 343 (.ref 344) (.ref 345) 346 638 639 ::
 kf "weights_towards" (tp p 53) 347 lw6 589 ::
 k1 [] ::
 k0 ::
 k1 [(.str "field" 646),(.str "weights" 647)] ::
 k1 [] ::
 kp "sum_by" (tp p 55) ::
 kc "sum_by" 643 186 2 3 349 350 (.ref 351) (.ref 352) 353 648 649 ::
 kf "sum_by" (tp p 55) 354 lw7 641 ::
 k1 [] ::
 k0 ::
 kp "are_weights" (tp p 56) ::
 kc "are_weights" 651 191 2 3 356 357 .none .none 358 654 655 ::
 kf "are_weights" (tp p 56) 359 lw7 641 ::
 k1 [] ::
 k0 ::
 kp "sum_of" (tp p 57) ::
 kc "sum_of" 657 195 2 3 361 362 .none .none 363 660 661 ::
 kf "sum_of" (tp p 57) 364 lw7 641 ::
 k1 [] ::
 k0 ::
 kp "whole_sum" (tp p 58) ::
 kc "whole_sum" 663 198 2 3 366 367 .none .none 368 666 667 ::
 kf "whole_sum" (tp p 58) 369 lw7 641 ::
 k1 [] ::
 k0 ::
 k1 [(.str "field" 672),(.str "weights" 673)] ::
 k1 [] ::
 kp "cut_by" (tp p 59) ::
 kc "cut_by" 669 208 2 3 371 372 (.ref 373) (.ref 374) 375 674 675 ::
 kf "cut_by" (tp p 59) 376 lw7 641 ::
 k1 [] ::
 k0 ::
 k1 [(.str "totals" 680),(.str "a" 681),(.str "b" 682),(.str "c" 683)] ::
 k1 [] ::
 kp "cut_of" (tp p 60) ::
 kc "cut_of" 677 210 1 3 378 379 (.ref 380) (.ref 381) 382 684 685 ::
 kf "cut_of" (tp p 60) 383 lw7 641 ::
 k1 [] ::
 k0 ::
 k1 [(.str "field" 690),(.str "thing" 691)] ::
 k1 [] ::
 kp "is_paper" (tp p 61) ::
 kc "is_paper" 687 215 2 3 385 386 (.ref 387) (.ref 388) 389 692 693 ::
 kf "is_paper" (tp p 61) 390 lw7 641 ::
 k1 [] ::
 k0 ::
 k1 [(.str "field" 698),(.str "weights" 699)] ::
 k1 [] ::
 kp "paper_of" (tp p 62) ::
 kc "paper_of" 695 223 2 3 392 393 (.ref 394) (.ref 395) 396 700 701 ::
 kf "paper_of" (tp p 62) 397 lw7 641 ::
 k1 [] ::
 k0 ::
 kp "cut_towards" (tp p 63) ::
 kc "cut_towards" 703 225 3 3 399 400 .none .none 401 706 707 ::
 kf "cut_towards" (tp p 63) 402 lw7 641 ::
 k1 [] ::
 k0 ::
 k1 [(.str "_law_script" 714),(.str "_law_k" 715)] ::
 k1 [] ::
 kp "_law_cell_at" (tp p 65) ::
 kc "_law_cell_at" 711 234 2 3 404 405 (.ref 406) (.ref 407) 408 716 717 ::
 kf "_law_cell_at" (tp p 65) 409 lw 709 ::
 k1 [] ::
 k0 ::
 k1 [(.str "_law_script" 722),(.str "_law_k" 723),(.str "_law_cell" 724)] ::
 k1 [] ::
 kp "_law_state" (tp p 66) ::
 kc "_law_state" 719 238 2 3 411 412 (.ref 413) (.ref 414) 415 725 726 ::
 kf "_law_state" (tp p 66) 416 lw 709 ::
 k1 [] ::
 k0 ::
 k1 [(.str "_law_state_here" 731),(.str "_law_many" 732),(.str "_law_found" 733),(.str "_law_stirred" 734)] ::
 k1 [] ::
 kp "_law_take" (tp p 67) ::
 kc "_law_take" 728 243 2 3 418 419 (.ref 420) (.ref 421) 422 735 736 ::
 kf "_law_take" (tp p 67) 423 lw 709 ::
 k1 [] ::
 k0 ::
 kp "_law_field" (tp p 68) ::
 kc "_law_field" 738 252 1 3 425 426 .none .none 427 741 742 ::
 kf "_law_field" (tp p 68) 428 lw 709 ::
 k1 [] ::
 k0 ::
 k1 [(.str "_law_one" 747),(.str "_law_other" 748)] ::
 k1 [] ::
 kp "_law_divisor" (tp p 69) ::
 kc "_law_divisor" 744 277 2 3 430 431 (.ref 432) (.ref 433) 434 749 750 ::
 kf "_law_divisor" (tp p 69) 435 lw 709 ::
 k1 [] ::
 k0 ::
 k1 [(.str "_law_top" 755),(.str "_law_bottom" 756),(.str "_law_by" 757)] ::
 k1 [] ::
 kp "_law_low" (tp p 70) ::
 kc "_law_low" 752 281 2 3 437 438 (.ref 439) (.ref 440) 441 758 759 ::
 kf "_law_low" (tp p 70) 442 lw 709 ::
 k1 [] ::
 k0 ::
 kp "_law_weights" (tp p 71) ::
 kc "_law_weights" 761 286 2 3 444 445 .none .none 446 764 765 ::
 kf "_law_weights" (tp p 71) 447 lw 709 ::
 k1 [] ::
 k0 ::
 k1 [(.str "_law_one" 770),(.str "_law_other" 771)] ::
 k1 [] ::
 kp "_law_plus" (tp p 72) ::
 kc "_law_plus" 767 299 2 3 449 450 (.ref 451) (.ref 452) 453 772 773 ::
 kf "_law_plus" (tp p 72) 454 lw 709 ::
 k1 [] ::
 k0 ::
 k1 [(.str "_law_one" 778),(.str "_law_other" 779)] ::
 k1 [] ::
 kp "_law_times" (tp p 73) ::
 kc "_law_times" 775 301 2 3 456 457 (.ref 458) (.ref 459) 460 780 781 ::
 kf "_law_times" (tp p 73) 461 lw 709 ::
 k1 [] ::
 k0 ::
 k1 [(.str "_law_rows" 786),(.str "_law_weights_here" 787),(.str "_law_found" 788),(.str "_law_row" 789),(.str "_law_weight" 790),(.str "_law_at" 791)] ::
 k1 [] ::
 kp "_law_summed" (tp p 74) ::
 kc "_law_summed" 783 303 2 3 463 464 (.ref 465) (.ref 466) 467 792 793 ::
 kf "_law_summed" (tp p 74) 468 lw 709 ::
 k1 [] ::
 k0 ::
 k1 [(.str "_law_rows" 798),(.str "_law_weights_here" 799),(.str "_law_a" 800),(.str "_law_b" 801),(.str "_law_c" 802)] ::
 k1 [] ::
 kp "_law_cut" (tp p 75) ::
 kc "_law_cut" 795 309 2 3 470 471 (.ref 472) (.ref 473) 474 803 804 ::
 kf "_law_cut" (tp p 75) 475 lw 709 ::
 k1 [] ::
 k0 ::
 k1 [(.str "_law_row" 809),(.str "_law_place" 810),(.str "_law_x" 811),(.str "_law_y" 812)] ::
 k1 [] ::
 kp "_law_value" (tp p 76) ::
 kc "_law_value" 806 314 2 3 477 478 (.ref 479) (.ref 480) 481 813 814 ::
 kf "_law_value" (tp p 76) 482 lw 709 ::
 k1 [] ::
 k0 ::
 k1 [(.str "_law_row" 819),(.str "_law_place" 820),(.str "_law_here" 821)] ::
 k1 [] ::
 kp "_law_keeps" (tp p 77) ::
 kc "_law_keeps" 816 317 2 3 484 485 (.ref 486) (.ref 487) 488 822 823 ::
 kf "_law_keeps" (tp p 77) 489 lw 709 ::
 k1 [] ::
 k0 ::
 kp "_law_whole_left" (tp p 78) ::
 kc "_law_whole_left" 825 320 2 3 491 492 .none .none 493 828 829 ::
 kf "_law_whole_left" (tp p 78) 494 lw 709 ::
 k1 [] ::
 k0 ::
 kp "_law_parts_right" (tp p 79) ::
 kc "_law_parts_right" 831 331 3 3 496 497 .none .none 498 834 835 ::
 kf "_law_parts_right" (tp p 79) 499 lw 709 ::
 k1 [] ::
 k0 ::
 k1 [(.str "_law_script" 840),(.str "_law_k" 841),(.str "_law_state_here" 842),(.str "_law_field_here" 843),(.str "_law_places" 844),(.str "_law_turn" 845),(.str "_law_weights_here" 846),(.str "_law_row" 847),(.str "_law_x" 848),(.str "_law_y" 849),(.str "_law_most" 850),(.str "_law_told" 851)] ::
 k1 [] ::
 kp "law" (tp p 80) ::
 kc "law" 837 341 1 3 501 502 (.ref 503) (.ref 504) 505 852 853 ::
 kf "law" (tp p 80) 506 lw 709::[]
def hp (p:Program)(P:Params)(n:Nat)(m:List (Str×Nat×Value))(e:Nat)(c:List (Nat×Obj)):List Obj:=c.foldl (fun l x=>l.set x.1 x.2) ((PySem.W.boot_heap P).objs.toList.set 3 (kd P e m)++(ob p P).take n)
def sh (p:Program)(w:World)(os:OsState)(n:Nat)(m:List (Str×Nat×Value))(e:Nat)(c:List (Nat×Obj))(k:Nat):Shared:=⟨⟨⟨hp p w.params n m e c⟩,{}⟩,⟨[]⟩,{},k,os⟩
def hf (p:Program)(P:Params):Heap:=⟨⟨hp p P 497 mn 80 []⟩,{}⟩
abbrev as:List Addr:=[3,93,94,98,99,105,106,112,113,119,120,126,127,133,134,140,141,147,148,154,155,161,162,166,167,173,174,180,181,185,186,192,193,199,200,206,207,213,214,220,221,227,228,234,235,241,242,248,249,253,254,260,261,265,266,272,273,279,280,284,285,291,292,298,299,305,306,312,313,319,320,326,327,333,334,340,341,347,348,354,355,359,360,364,365,369,370,376,377,383,384,390,391,397,398,402,403,409,410,416,417,423,424,428,429,435,436,442,443,447,448,454,455,461,462,468,469,475,476,482,483,489,490,494,495,499,500,506,507]
def Kp (p:Program)(P:Params):PySem.W.Frag:=as.map fun a=>(a,(hp p P 497 mn 80 []).getD a k0)
abbrev pg:Program:=PySem.Challenge.pw_roundcuts_k12_whole_cuts_keep_whole_plac
abbrev K (P:Params):PySem.W.Frag:=Kp pg P
theorem xga (p:Program)(P:Params):as=(Kp p P).map (·.1):=by unfold Kp;rw[xiE];exact(List.map_id _).symm
abbrev Hk (p:Program):PySem.W.Hook:=PySem.W.kHook (Kp p) as (xga p)
abbrev keep:List Nat:=[1,2,3,4,5,6,8,9,10,11,12,13,14,15,17,18,19,20,21,22,23,24,25,26,28,29,30,31,32,33,34,36,37,38,39,41,42,43,45,46,47,49,50,51,52,53,55,56,57,58,59,60,61,62,63,65,66,67,68,69,70,71,72,73,74,75,76,77,78,79,80]
abbrev vw:Program:=PySem.W.view pg keep
theorem dk {P:Params}{x:Str}{st:Stmt}{f cd t:Nat}{m:Str}(a:PySem.W.nsIn (K P) mainGlobals x=some (some (.ref f)))(l:(K P).lookup f=some (kf x st cd m t))(c:PySem.W.codeIn (K P) (.ref cd) x=true):DD (K P) x st :=
 dd a l c (by unfold PySem.W.keepIn;dsimp only;rw[l];rfl)
theorem dl {P:Params}{x:Str}{st:Stmt}(f cd:Nat)(m:Str)(t:Nat)(a:PySem.W.nsIn (K P) mainGlobals x=some (some (.ref f)):=by kernel_rfl)(l:(K P).lookup f=some (kf x st cd m t):=by kernel_rfl)(c:PySem.W.codeIn (K P) (.ref cd) x=true:=by kernel_rfl):DD (K P) x st:=dk a l c
end K12
set_option maxHeartbeats 0 in
lay_quick PySem.Challenge.pw_roundcuts_k12_whole_cuts_keep_whole_plac
namespace K12
open PySem L2 Trn PySem.W
abbrev tb:=PySem.W.Fast.tw14364793385576792824
abbrev p':=PySem.W.Fast.tw10291843458049266787
abbrev v':=view p' keep
abbrev im:=PySem.W.Fast.tw5923862056798008813 p'.main.body
abbrev ann:Option Value:=some (.ref 6)
abbrev q:Pos:=⟨0,0,0,0⟩
abbrev bd:=behindTheImports p'
abbrev env:Env:={ scope:=p'.main.scope,locals:=mainNs,globals:=mainNs,cells:=[],code:=(.ref 13),frame:=some 14 }
abbrev cb:Code:=.body bd env
theorem r0 (w:World)(os:OsState):topGo tb p' w 11 ann 12 ⟨boot_heap w.params,⟨[]⟩,boot_drawn,boot_toks,os⟩ (topStub p')=some ((sh p' w os 4 ((mn.take 9).set 0 (ke "__name__" 165 (.str "__main__" 164))) 9 [(12,k0)] 187),⟨denote tb cb,cb,⟨0,0,0,0⟩,[topFrame q]⟩):=by kernel_rfl
theorem r1 (w:World)(os:OsState):segRun tb p' w 11 ann 1 1 (sh p' w os 4 ((mn.take 9).set 0 (ke "__name__" 165 (.str "__main__" 164))) 9 [(12,k0)] 187) (blockOf bd env cb ⟨0,0,0,0⟩ [topFrame q])=some (.next,(sh p' w os 4 ((mn.take 9).set 0 (ke "__name__" 165 (.str "__main__" 164))) 9 [(12,k0)] 187),cb,⟨0,0,0,0⟩):=by kernel_rfl
theorem c0 (w:World)(os:OsState):segRun tb p' w 11 ann 1 626 (sh p' w os 4 ((mn.take 9).set 0 (ke "__name__" 165 (.str "__main__" 164))) 9 [(12,k0)] 187) (piecesOf ((bd.drop 0).take 4) env cb ⟨0,0,0,0⟩ [topFrame q])=some (.next,(sh p' w os 41 ((mn.take 12).set 0 (ke "__name__" 165 (.str lw1 187))) 12 [(12,tl 3),(24,⟨(.type "type"),none,.cls { name := "CutError", bases:=[(.type "ValueError")],mro:=[(.ref 24),(.type "ValueError"),(.type "Exception"),(.type "BaseException"),(.type "object")],ns:=23,qualname := "CutError", hasDict:=true,slotNames:=[],subclasses:=[(.ref 37),(.ref 49)],abstract:=false,hasDel:=false },⟨[some (.ref 15),none,some (.str "CutError" 189),some (.str "CutError" 197),some (.builtin "ValueError.__new__"),some (.bool true)]⟩⟩)] 239),cb,⟨6,0,7,8⟩):=by kernel_rfl
theorem c1 (w:World)(os:OsState):segRun tb p' w 11 ann 1 683 (sh p' w os 41 ((mn.take 12).set 0 (ke "__name__" 165 (.str lw1 187))) 12 [(12,tl 3),(24,⟨(.type "type"),none,.cls { name := "CutError", bases:=[(.type "ValueError")],mro:=[(.ref 24),(.type "ValueError"),(.type "Exception"),(.type "BaseException"),(.type "object")],ns:=23,qualname := "CutError", hasDict:=true,slotNames:=[],subclasses:=[(.ref 37),(.ref 49)],abstract:=false,hasDel:=false },⟨[some (.ref 15),none,some (.str "CutError" 189),some (.str "CutError" 197),some (.builtin "ValueError.__new__"),some (.bool true)]⟩⟩)] 239) (piecesOf ((bd.drop 4).take 5) env cb ⟨6,0,7,8⟩ [topFrame q])=some (.next,(sh p' w os 84 ((mn.take 16).set 0 (ke "__name__" 165 (.str lw3 287))) 16 [(12,tl 7)] 296),cb,⟨15,0,16,67⟩):=by kernel_rfl
theorem c2 (w:World)(os:OsState):segRun tb p' w 11 ann 1 721 (sh p' w os 84 ((mn.take 16).set 0 (ke "__name__" 165 (.str lw3 287))) 16 [(12,tl 7)] 296) (piecesOf ((bd.drop 9).take 25) env cb ⟨15,0,16,67⟩ [topFrame q])=some (.next,(sh p' w os 232 ((mn.take 39).set 0 (ke "__name__" 165 (.str lw5 436))) 39 [(12,tl 29)] 492),cb,⟨99,0,104,15⟩):=by kernel_rfl
theorem c3 (w:World)(os:OsState):segRun tb p' w 11 ann 1 697 (sh p' w os 232 ((mn.take 39).set 0 (ke "__name__" 165 (.str lw5 436))) 39 [(12,tl 29)] 492) (piecesOf ((bd.drop 34).take 26) env cb ⟨99,0,104,15⟩ [topFrame q])=some (.next,(sh p' w os 367 ((mn.take 60).set 0 (ke "__name__" 165 (.str lw7 641))) 60 [(12,tl 50)] 677),cb,⟨208,0,209,41⟩):=by kernel_rfl
theorem c4 (w:World)(os:OsState):segRun tb p' w 11 ann 1 637 (sh p' w os 367 ((mn.take 60).set 0 (ke "__name__" 165 (.str lw7 641))) 60 [(12,tl 50)] 677) (piecesOf ((bd.drop 60).take 21) env cb ⟨208,0,209,41⟩ [topFrame q])=some (.next,(sh p' w os 497 mn 80 [] 855),cb,⟨341,0,363,15⟩):=by kernel_rfl
theorem xf9:bd=(((bd.drop 0).take 4)++(((bd.drop 4).take 5)++(((bd.drop 9).take 25)++(((bd.drop 34).take 26)++(((bd.drop 60).take 21)++[]))))):=by kernel_rfl
theorem cl (w:World)(os:OsState):topRun tb p' w 11 ann 2 (sh p' w os 497 mn 80 [] 855) ⟨doneF .next,cb,⟨341,0,363,15⟩,[topFrame q]⟩=some (sh p' w os 497 mn 80 [] 855):=by kernel_rfl
theorem run (w:World)(os:OsState):topRun tb p' w 11 ann (12+(1+(626+(683+(721+(697+(637+2))))))) ⟨boot_heap w.params,⟨[]⟩,boot_drawn,boot_toks,os⟩ (topStub p')=some ⟨hf p' w.params,⟨[]⟩,{},855,os⟩ :=
 go_top (r0 w os) (piece_block (r1 w os) (xf9▸(piece_app (c0 w os) (piece_app (c1 w os) (piece_app (c2 w os) (piece_app (c3 w os) (piece_app (c4 w os) (piece_nil (cl w os)))))))))
theorem z0 (w:World):((boot_heap w.params).isNs mainGlobals&&(⟨[]⟩:Array GenState).size == 0,(boot_heap w.params).objs.size,(boot_heap w.params).nsMap mainGlobals "__annotations__")=(true,11,ann):=by kernel_rfl
theorem z1 (w:World)(os:OsState):(staticsOk im (boot_heap w.params) (hf p' w.params)&&namesBound p' (hf p' w.params)&&gensDone ⟨hf p' w.params,⟨[]⟩,{},855,os⟩&&laidKept (boot_heap w.params) (hf p' w.params))=true:=by kernel_rfl
abbrev zx (w:World)(os:OsState):=PySem.W.Fast.tw4187177175401517315 v' [] im (fun s=>xlAt v' [] s&&recOk [] s) true ⟨hf p' w.params,⟨[]⟩,{},855,os⟩
theorem z20 (w os):(zx w os).1=PyProof.Rows.expectedOf v':=by kernel_rfl
theorem z21 (w os):(zx w os).2.1=bltViewBooted:=by kernel_rfl
theorem z22 (w os):(zx w os).2.2.1=true:=by kernel_rfl
theorem z23 (w os):(zx w os).2.2.2.1=true:=by kernel_rfl
theorem z24 (w os):(zx w os).2.2.2.2.1=pinGoodD (PyProof.Rows.drecsOf v'):=by kernel_rfl
theorem z25 (w os):(zx w os).2.2.2.2.2.1=PyProof.Rows.plainGoodE v' (looseW v' []):=by kernel_rfl
theorem z26 (w os):(zx w os).2.2.2.2.2.2.1=PyProof.Rows.plainGoodD v' []:=by kernel_rfl
theorem z27 (w os):(zx w os).2.2.2.2.2.2.2.1=wideGood v':=by kernel_rfl
theorem z28 (w os):(zx w os).2.2.2.2.2.2.2.2=clsGoodW v' []:=by kernel_rfl
theorem z2 (w os):zx w os=openGood v' []:=Prod.ext (z20 w os) (Prod.ext (z21 w os) (Prod.ext (z22 w os) (Prod.ext (z23 w os) (Prod.ext (z24 w os) (Prod.ext (z25 w os) (Prod.ext (z26 w os) (Prod.ext (z27 w os) (z28 w os))))))))
theorem z3 (w:World)(os:OsState):Hook.obs (Hk p') ⟨hf p' w.params,⟨[]⟩,{},855,os⟩=Hook.val (Hk p') w:=by kernel_rfl
theorem xfO:LeftO p' v' [] (fun s=>xlAt v' [] s&&recOk [] s) (Hook.obs (Hk p')) (Hook.val (Hk p')) 6682:=by
 have h1:=run;have h2:=z1;have h3:=z2;unfold zx at h3
 rw[show tb=treeTable from PySem.W.Fast.te14364793385576792824.symm] at h1
 rw[show im=importedModules p'.main.body from congrFun PySem.W.Fast.te5923862056798008813.symm _] at h2 h3
 rw[show PySem.W.Fast.tw4187177175401517315=openSeen from PySem.W.Fast.te4187177175401517315.symm] at h3
 exact LeftO.of_pieces (boot_open rfl rfl fun _=>rfl) z0 h1 (by decide) fun w=>funext fun os=>by
  rw[h2 w os,h3 w os,z3 w os]
theorem xdf (p:Program)(h:p=p'):LeftO p (view p keep) [] (fun s=>xlAt (view p keep) [] s&&recOk [] s) (Hook.obs (Hk p)) (Hook.val (Hk p)) 6682:=by
 subst h;exact xfO
theorem left:LeftO pg vw [] (fun s=>xlAt vw [] s&&recOk [] s) (Hook.obs (Hk pg)) (Hook.val (Hk pg)) 6682:=xdf pg PySem.W.Fast.te10291843458049266787
end K12
namespace K12
open PySem L2 Trn
theorem there {l:PySem.W.OpenLaw}{w:World}{P:Params}{h:Heap}{mg:Str→Option Value}{fa:Addr}(X:(K P).In h)(G:h.Ns mainGlobals mg)(hfa:mg "law" = some (.ref fa)) :
  ∃fd:FuncData,(∀(s:Shared) (v:Value),BindsTo s fd ⟨[v],[]⟩ [("_law_script", v)])∧∀base:Heap,(K P).In base→base.Ns mainGlobals mg→rJ l.prog w (K P) mg base CX0 12 fa fd ["_law_script"] (p7 (K P)) :=
 all_mk X G hfa (dl 94 93 lw3 287)
  (dl 113 112 lw3 287)
  (dl 141 140 lw3 287)
  (dl 181 180 lw4 352)
  (dl 200 199 lw4 352)
  (dl 228 227 lw5 436)
  (dl 266 265 lw2 501)
  (dl 341 340 lw6 589)
  (dl 384 383 lw7 641)
  (dl 410 409 lw 709)
  (dl 424 423 lw 709)
  (dl 436 435 lw 709)
  (dl 495 494 lw 709)
  (dl 99 98 lw3 287)
  (dl 106 105 lw3 287)
  (dl 120 119 lw3 287)
  (dl 186 185 lw4 352)
  (dl 193 192 lw4 352)
  (dl 242 241 lw5 436)
  (dl 249 248 lw5 436)
  (dl 306 305 lw8 559)
  (dl 334 333 lw6 589)
  (dl 370 369 lw7 641)
  (dl 417 416 lw 709)
  (dl 429 428 lw 709)
  (dl 443 442 lw 709)
  (dl 127 126 lw3 287)
  (dl 134 133 lw3 287)
  (dl 167 166 lw4 352)
  (dl 174 173 lw4 352)
  (dl 207 206 lw5 436)
  (dl 235 234 lw5 436)
  (dl 313 312 lw8 559)
  (dl 327 326 lw6 589)
  (dl 360 359 lw7 641)
  (dl 365 364 lw7 641)
  (dl 448 447 lw 709)
  (dl 455 454 lw 709)
  (dl 462 461 lw 709)
  (dl 483 482 lw 709)
  (dl 162 161 lw4 352)
  (dl 214 213 lw5 436)
  (dl 261 260 lw2 501)
  (dl 299 298 lw8 559)
  (dl 398 397 lw7 641)
  (dl 469 468 lw 709)
  (dl 490 489 lw 709)
  (dl 155 154 lw4 352)
  (dl 221 220 lw5 436)
  (dl 348 347 lw6 589)
  (dl 476 475 lw 709)
  (dl 500 499 lw 709)
  (dl 148 147 lw4 352)
  (dl 285 284 lw0 532)
  (dl 254 253 lw2 501)
  (dl 320 319 lw6 589)
  (dl 273 272 lw2 501)
  (dl 280 279 lw0 532)
  (dl 355 354 lw7 641)
  (dl 292 291 lw0 532)
  (dl 377 376 lw7 641)
  (dl 403 402 lw7 641)
  (dl 391 390 lw7 641)
  (by kernel_rfl:PySem.W.nsIn (K P) mainGlobals "law" = some (some (.ref 507))) (by kernel_rfl:(K P).lookup 507=some (kf "law" dM 506 lw 709)) (by kernel_rfl:PySem.W.codeIn (K P) (.ref 506) "law" = true) (by kernel_rfl) (by kernel_rfl) (by kernel_rfl) (by kernel_rfl) (by kernel_rfl) (by kernel_rfl) (by kernel_rfl) (by kernel_rfl) (by kernel_rfl) (by kernel_rfl) (by kernel_rfl) (by kernel_rfl) (by kernel_rfl) (by kernel_rfl) (by kernel_rfl) (by kernel_rfl) (by kernel_rfl) ((by kernel_rfl:PySem.W.nsIn (K P) mainGlobals "FAR" = some (some (.int 60001 354))))
end K12
end
open PySem PySem.W PyProof.Rows
set_option maxRecDepth 100000 in
set_option maxHeartbeats 0 in
theorem PySem.Challenge.cw_roundcuts_k12_whole_cuts_keep_whole_plac_holds : PySem.Challenge.rw_roundcuts_k12_whole_cuts_keep_whole_plac.Holds := by
 w_on;o_law
 refine holds_open (q:=K12.vw) (XP:=XL K12.vw []) (YP:=Hook.says (K12.Hk _)) K12.left (Hook.of _) (Hook.keeps _) (fun s e=>xl_of s (Bool.and_eq_true_iff.mp e).1)
  XL.keeps rfl rfl rfl (fun s e=>recFacts_of (Bool.and_eq_true_iff.mp e).2) rfl (by assumption) (by decide +kernel) ⟨rfl,rfl,rfl,rfl,rfl,by decide +kernel⟩ ?hw ?hc
 case hw=>w_witness2
 exact K12.walk (l:=PySem.Challenge.rw_roundcuts_k12_whole_cuts_keep_whole_plac) rfl rfl (fun w h Y=>PySem.W.kIn_of Y) (fun P=>by kernel_rfl) (fun w mg fa h X G e=>K12.there X G e)
