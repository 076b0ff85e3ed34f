import PyProof.Rows.All
import Wide.All
import OpenK.AllK
import Wide.FinOn
import Lean
import PyProof.EqAt
import PyProof.EqKinds
import PyProof.TupleCall
import PyProof.ZipIter
import PyProof.NeData
import PyProof.P3Eq
import PyProof.EnumFor
import PyProof.EnumMake
import PyProof.Draws
import KE.KTryMore
import KE.KIsAll
import PyProof.ExcAttrAll.ValueError
import KE.KLam
import PyProof.Cells
import KE.KDictList
import PySem.Challenge.RW_roundcuts_k20_whole_rounds
set_option Elab.async false
set_option linter.all false
set_option maxRecDepth 100000
set_option maxHeartbeats 4000000
set_option exponentiation.threshold 3000
set_option bootstrap.genMatcherCode false
set_option genSizeOfSpec false
set_option genInjectivity false
abbrev xj3:=@Array.getElem?_eq_getElem
abbrev xj4:=@Array.length_toList
abbrev xj5:=@Bool.and_eq_true
abbrev xj6:=@Bool.eq_iff_iff
abbrev xj7:=@Bool.false_eq_true
abbrev xj8:=@Bool.false_ne_true
abbrev xj9:=@Classical.byContradiction
abbrev xj_:=@Int.add_zero
abbrev xka:=@Int.dvd_coe_gcd
abbrev xkb:=@Int.dvd_mul_right
abbrev xkc:=@Int.dvd_natAbs
abbrev xkd:=@Int.dvd_trans
abbrev xke:=@Int.emod_lt_of_pos
abbrev xkf:=@Int.emod_nonneg
abbrev xkg:=@Int.eq_ofNat_of_zero_le
abbrev xkh:=@Int.eq_of_mul_eq_mul_right
abbrev xki:=@Int.fdiv_eq_ediv_of_nonneg
abbrev xkj:=@Int.fmod_nonneg_of_pos
abbrev xkk:=@Int.gcd_dvd_left
abbrev xkl:=@Int.gcd_dvd_right
abbrev xkm:=@Int.gcd_mul_left
abbrev xkn:=@Int.gcd_pos_of_ne_zero_right
abbrev xko:=@Int.le_of_lt
abbrev xkp:=@Int.le_of_mul_le_mul_left
abbrev xkq:=@Int.le_of_mul_le_mul_right
abbrev xkr:=@Int.le_refl
abbrev xks:=@Int.lt_of_mul_lt_mul_right
abbrev xkt:=@Int.lt_or_le
abbrev xku:=@Int.lt_trichotomy
abbrev xkv:=@Int.mul_comm
abbrev xkw:=@Int.mul_dvd_mul_left
abbrev xkx:=@Int.mul_ediv_cancel'
abbrev xky:=@Int.mul_ediv_mul_of_pos_left
abbrev xkz:=@Int.mul_eq_zero
abbrev xkA:=@Int.mul_le_mul_of_nonneg_left
abbrev xkB:=@Int.mul_le_mul_of_nonneg_right
abbrev xkC:=@Int.mul_lt_mul_of_pos_right
abbrev xkD:=@Int.mul_neg
abbrev xkE:=@Int.mul_neg_of_neg_of_pos
abbrev xkF:=@Int.mul_neg_of_pos_of_neg
abbrev xkG:=@Int.mul_one
abbrev xkH:=@Int.mul_pos
abbrev xkI:=@Int.mul_zero
abbrev xkJ:=@Int.natAbs_mul
abbrev xkK:=@Int.neg_mul
abbrev xkL:=@Int.not_lt
abbrev xkM:=@Int.pos_of_mul_pos_right
abbrev xkN:=@Int.toNat_natCast
abbrev xkO:=@Int.zero_add
abbrev xkP:=@Int.zero_mul
abbrev xkQ:=@List.Sublist.refl
abbrev xkR:=@List.Sublist.trans
abbrev xkS:=@List.all_eq_true
abbrev xkT:=@List.all_map
abbrev xkU:=@List.any_cons
abbrev xkV:=@List.any_eq_true
abbrev xkW:=@List.append_assoc
abbrev xkX:=@List.append_nil
abbrev xkY:=@List.cons_append
abbrev xkZ:=@List.drop_eq_getElem_cons
abbrev xk0:=@List.drop_zero
abbrev xk1:=@List.ext_getElem?
abbrev xk2:=@List.filterMap_cons
abbrev xk3:=@List.filter_cons_of_neg
abbrev xk4:=@List.filter_cons_of_pos
abbrev xk5:=@List.filter_eq_nil_iff
abbrev xk6:=@List.find?_cons
abbrev xk7:=@List.flatten_cons
abbrev xk8:=@List.foldl_append
abbrev xk9:=@List.foldl_cons
abbrev xk_:=@List.getD_eq_getElem?_getD
abbrev xla:=@List.getElem?_append_left
abbrev xlb:=@List.getElem?_append_right
abbrev xlc:=@List.getElem?_eq_getElem
abbrev xld:=@List.getElem?_eq_none
abbrev xle:=@List.getElem?_eq_some_iff
abbrev xlf:=@List.getElem?_map
abbrev xlg:=@List.getElem?_range
abbrev xlh:=@List.getElem?_replicate
abbrev xli:=@List.getElem?_set_ne
abbrev xlj:=@List.getElem?_set_self
abbrev xlk:=@List.getElem_mem
abbrev xll:=@List.length_append
abbrev xlm:=@List.length_cons
abbrev xln:=@List.length_drop
abbrev xlo:=@List.length_eq_zero_iff
abbrev xlp:=@List.length_filter_le
abbrev xlq:=@List.length_map
abbrev xlr:=@List.length_nil
abbrev xls:=@List.length_pos_iff
abbrev xlt:=@List.length_range
abbrev xlu:=@List.length_replicate
abbrev xlv:=@List.length_reverse
abbrev xlw:=@List.length_set
abbrev xlx:=@List.length_singleton
abbrev xly:=@List.length_take
abbrev xlz:=@List.lookup_cons
abbrev xlA:=@List.map_append
abbrev xlB:=@List.map_cons
abbrev xlC:=@List.map_map
abbrev xlD:=@List.map_nil
abbrev xlE:=@List.map_replicate
abbrev xlF:=@List.mem_append
abbrev xlG:=@List.mem_append_left
abbrev xlH:=@List.mem_append_right
abbrev xlI:=@List.mem_cons
abbrev xlJ:=@List.mem_cons_of_mem
abbrev xlK:=@List.mem_cons_self
abbrev xlL:=@List.mem_filter
abbrev xlM:=@List.mem_filterMap
abbrev xlN:=@List.mem_iff_getElem
abbrev xlO:=@List.mem_map
abbrev xlP:=@List.mem_map_of_mem
abbrev xlQ:=@List.mem_of_getElem?
abbrev xlR:=@List.mem_of_mem_take
abbrev xlS:=@List.mem_or_eq_of_mem_set
abbrev xlT:=@List.mem_range
abbrev xlU:=@List.mem_singleton
abbrev xlV:=@List.nil_append
abbrev xlW:=@List.nodup_append
abbrev xlX:=@List.nodup_cons
abbrev xlY:=@List.not_mem_nil
abbrev xlZ:=@List.of_mem_zip
abbrev xl0:=@List.pairwise_iff_forall_sublist
abbrev xl1:=@List.replicate_succ
abbrev xl2:=@List.reverse_cons
abbrev xl3:=@List.singleton_sublist
abbrev xl4:=@List.size_toArray
abbrev xl5:=@List.sublist_append_iff
abbrev xl6:=@List.sublist_append_right
abbrev xl7:=@List.take_append_drop
abbrev xl8:=@List.take_length
abbrev xl9:=@List.take_of_length_le
abbrev xl_:=@List.take_succ
abbrev xma:=@List.zip_cons_cons
abbrev xmb:=@Nat.le_add_right
abbrev xmc:=@Nat.le_of_lt
abbrev xmd:=@Nat.le_refl
abbrev xme:=@Nat.le_succ
abbrev xmf:=@Nat.le_trans
abbrev xmg:=@Nat.lt_irrefl
abbrev xmh:=@Nat.lt_of_le_of_lt
abbrev xmi:=@Nat.lt_of_lt_of_le
abbrev xmj:=@Nat.lt_succ_of_lt
abbrev xmk:=@Nat.lt_succ_self
abbrev xml:=@Nat.min_eq_left
abbrev xmm:=@Nat.min_le_right
abbrev xmn:=@Nat.mul_le_mul
abbrev xmo:=@Nat.mul_le_mul_right
abbrev xmp:=@Nat.ne_of_gt
abbrev xmq:=@Nat.ne_of_lt
abbrev xmr:=@Nat.sub_zero
abbrev xms:=@Nat.zero_le
abbrev xmt:=@Option.some.inj
abbrev xmu:=@congrArg
abbrev xmv:=@decide_eq_decide
abbrev xmw:=@decide_eq_false
abbrev xmx:=@decide_eq_true
abbrev xmy:=@decide_eq_true_eq
abbrev xmz:=@if_false
abbrev xmA:=@of_decide_eq_false
abbrev xmB:=@of_decide_eq_true
abbrev xmC:=@or_false
noncomputable section
namespace L2
open PySem PySem.Spec PyProof.Rows
abbrev Key:=Sum Int Str
def lI:Key->Value->Bool
 | .inl k,v=>Value.isInt k v
 | .inr x,v=>Value.isStrOf x v
def xjV (w:World):Key->Int
 | .inl k=>hashInt k
 | .inr x=>hashStr w x
theorem zj:∀ {k:Key} {v:Value},lI k v=true->(∃i t,k=Sum.inl i/\v=Value.int i t)\/(∃x t,k=Sum.inr x/\v=Value.str x t)
 | .inl i,v,h=>by obtain⟨t,e⟩:=Value.isInt_shape (k:=i) (v:=v) h;exact .inl ⟨i,t,rfl,e⟩
 | .inr x,v,h=>by obtain⟨t,e⟩:=Value.isStrOf_shape (x:=x) (v:=v) h;exact .inr ⟨x,t,rfl,e⟩
theorem xcs (i:Int)(t:Tok):lI (.inl i) (.int i t)=true:=by simp[lI,Value.isInt]
theorem xbG (x:Str)(t:Tok):lI (.inr x) (.str x t)=true:=by simp[lI,Value.isStrOf]
theorem xhF (a b:Int):decide ((Sum.inl a:Key)=Sum.inl b)=(a == b):=by
 by_cases e:a=b
 .subst e;simp
 .have h:¬(Sum.inl a:Key)=Sum.inl b:=λq=>e (Sum.inl.inj q);rw[xmw h];exact(beq_eq_false_iff_ne.mpr e).symm
theorem xgm (a b:Str):decide ((Sum.inr a:Key)=Sum.inr b)=decide (a=b):=by
 by_cases e:a=b
 .subst e;simp
 .have h:¬(Sum.inr a:Key)=Sum.inr b:=λq=>e (Sum.inr.inj q);rw[xmw h,xmw e]
theorem xg6 (a:Int)(b:Str):decide ((Sum.inl a:Key)=Sum.inr b)=false:=xmw (λq=>nomatch q)
theorem xgv (a:Str)(b:Int):decide ((Sum.inr a:Key)=Sum.inl b)=false:=xmw (λq=>nomatch q)
def vY (prog:Program)(w:World):PySem.KeyKind prog w Key where
 is:=lI
 hash:=xjV w
 inj:=λv a b ha hb=>by
  rcases zj ha with ⟨i,t,rfl,rfl⟩ | ⟨x,t,rfl,rfl⟩
  .rcases zj hb with ⟨j,u,rfl,e⟩ | ⟨y,u,rfl,e⟩
   .injection e with e1 _;rw[e1]
   .exact nomatch e
  .rcases zj hb with ⟨j,u,rfl,e⟩ | ⟨y,u,rfl,e⟩
   .exact nomatch e
   .injection e with e1 _;rw[e1]
 byValue:=λk v h=>by rcases zj h with ⟨i,t,rfl,rfl⟩ | ⟨x,t,rfl,rfl⟩<;>rfl
 pyHash:=λhv h=>by
  rcases zj hv with ⟨i,t,rfl,rfl⟩ | ⟨x,t,rfl,rfl⟩
  .exact wpAny_pyHash_int h
  .exact wpAny_pyHash_str h
 eqBool:=λhu hv h=>by
  rcases zj hu with ⟨i,t,rfl,rfl⟩ | ⟨x,t,rfl,rfl⟩
  .rcases zj hv with ⟨j,u,rfl,rfl⟩ | ⟨y,u,rfl,rfl⟩
   .rw[xhF] at h;exact wpAny_eqBool_int h
   .rw[xg6] at h;exact SeqAt.EqAt.int_str i t y u _ _ _ _ h
  .rcases zj hv with ⟨j,u,rfl,rfl⟩ | ⟨y,u,rfl,rfl⟩
   .rw[xgv] at h;exact SeqAt.EqAt.str_int x t j u _ _ _ _ h
   .rw[xgm] at h;exact wpAny_eqBool_str h
 «strs» := λk x t v h=>by
  rcases zj h with ⟨i,u,rfl,e⟩ | ⟨y,u,rfl,e⟩
  .exact nomatch e
  .injection e with e1 _;subst e1;cases v<;>rfl
theorem cj (prog:Program)(w:World)(i:Int)(t:Tok):(vY prog w).is (.inl i) (.int i t)=true:=xcs i t
theorem c5 (prog:Program)(w:World)(x:Str)(t:Tok):(vY prog w).is (.inr x) (.str x t)=true:=xbG x t
end L2
namespace L2
open PySem PySem.Spec PyProof.Rows
inductive V where
 | non | bl (b:Bool) | int (i:Int) | str (x:Str) | byt (b:Array UInt8) | flt (b:UInt64) | ref (a:Addr) | ty (n:String)
 deriving DecidableEq
def RelV:V->Value->Prop
 | .non,u=>u=Value.none
 | .bl b,u=>u=Value.bool b
 | .int i,u=>∃t,u=Value.int i t
 | .str x,u=>∃t,u=Value.str x t
 | .byt b,u=>∃t,u=Value.bytes b t
 | .flt b,u=>∃t,u=Value.float b t
 | .ref a,u=>u=Value.ref a
 | .ty n,u=>u=Value.type n
abbrev zo:List V->List Value->Prop:=Paired RelV
theorem zo.length (r:zo xs us):xs.length=us.length:=Paired.length r
theorem zo.get:∀ {xs:List V} {us:List Value} {i:Nat} {x:V},zo xs us->xs[i]? = some x->∃u,us[i]? = some u/\RelV x u
 | _,_,_,_,.nil,e=>by simp at e
 | _,_,0,_,.cons r _,e=>by simp at e;subst e;exact⟨_,rfl,r⟩
 | _,_,i+1,x,.cons _ t,e=>by obtain⟨u,h1,h2⟩:=zo.get (i:=i) (x:=x) t (by simpa using e);exact⟨u,by simpa using h1,h2⟩
theorem zo.set (r:RelV x u):∀ {xs:List V} {us:List Value} (i:Nat),zo xs us->zo (xs.set i x) (us.set i u)
 | _,_,_,.nil=>.nil
 | _,_,0,.cons _ t=>.cons r t
 | _,_,i+1,.cons q t=>.cons q (zo.set r i t)
theorem zo.append:∀ {xs ys:List V} {us ws:List Value},zo xs us->zo ys ws->zo (xs++ys) (us++ws)
 | _,_,_,_,.nil,s=>s
 | _,_,_,_,.cons r t,s=>.cons r (zo.append t s)
theorem zo.take:∀ {xs:List V} {us:List Value} (n:Nat),zo xs us->zo (xs.take n) (us.take n)
 | _,_,0,_=>.nil
 | _,_,_+1,.nil=>.nil
 | _,_,n+1,.cons r t=>.cons r (zo.take n t)
theorem zo.drop:∀ {xs:List V} {us:List Value} (n:Nat),zo xs us->zo (xs.drop n) (us.drop n)
 | _,_,0,r=>r
 | _,_,_+1,.nil=>.nil
 | _,_,n+1,.cons _ t=>zo.drop n t
def xhW:Option V->Option Value->Prop
 | some v,some u=>RelV v u
 | none,none=>True
 | _,_=>False
def KV:List (κ×V)->List (κ×Value)->Prop:=Paired λ(p:κ×V) (q:κ×Value)=>p.1=q.1/\RelV p.2 q.2
def kV:Key->V
 | .inl i=>.int i
 | .inr x=>.str x
inductive HO where
  | lst (xs:List V)
  | tup (xs:List V)
  | dK (kvs:List (Key×V)) | dT (kvs:List (List Key×V))
  | set (S:Int->Bool) (n:Nat)
  | ins (C dx:Addr) (fs:List (Str×V))
  | own (x:Addr)
  | xd (fs:List (Str×V))
  | met (f x:Addr)
  | rng (lo hi:Int)
  | frz (o:Obj) (u:HO)
  | tbl (ps:Array Value)
 | tb (q:Str)
  | ext (φ:Heap->Prop)
abbrev Hp:=Addr->Option HO
def upd (H:Hp)(a:Addr)(o:HO):Hp:=λb=>if b=a then some o else H b
theorem xV:upd H a o a=some o:=by unfold upd;rw[if_pos rfl]
theorem xJ (h:b≠a):upd H a o b=H b:=by unfold upd;rw[if_neg h]
theorem xaN {H:Hp}{a b:Addr}{o u:HO}(h:H a=some o)(h':H b=some u)(d:o≠u):a≠b:=by intro e;subst e;rw[h] at h';exact d (xmt h')
theorem xD {H:Hp}{a b:Addr}{o:HO}(h:H a=some o)(h':H b=none):a≠b:=by intro e;subst e;rw[h] at h';cases h'
section
variable (P:Program) (w:World)
def uB (H:Hp)(h:Heap)(a:Addr):HO->Prop
 | .lst xs=>xs.length<=sizeLine/\∃(its:List Value) (n:Nat),zo xs its/\h.get? a=some { cls:=.type "list", data:=.seq its.toArray n }
 | .tup xs=>xs.length<=sizeLine/\∃its:List Value,zo xs its/\IsTup h a its.toArray
 | .dK kvs=>kvs.length<=sizeLine/\(a == sysModules)=false/\∃vs,KV kvs vs/\h.DictOf (vY P w) a vs
 | .dT kvs=>kvs.length<=sizeLine/\(a == sysModules)=false/\∃xs:List (List Key×Addr×Value),
   Paired (λ(p:List Key×V) (q:List Key×Addr×Value)=>p.1=q.1/\H q.2.1=some (.tup (p.1.map kV))/\RelV p.2 q.2.2) kvs xs /\
   ∃o es ep,h.get? a=some o/\o.ExactDict/\o.data=.dict es ep/\es.toList=xs.map (entryOfKey (tupleKind (vY P w)))/\(xs.map (·.1)).Nodup
 | .set S n=>h.SetOf (intKind P w) a S n
 | .ins C dx fs=>H dx=some (.own a)/\fs.length<=1000/\dx≠a/\h.get? a=some (PySem.W.instObj C dx) /\
   ∃mA,h.Ns1 dx mA/\(∀f,xhW (fs.lookup f) (mA f))/\PySem.Within mA (fs.map (·.1))
 | .own _=>∃o,h.get? a=some o
 | .xd fs=>∃mA,h.Ns1 a mA/\∀f,xhW (fs.lookup f) (mA f)
 | .rng lo hi=>∃t u v,h.get? a=some { cls:=.type "range", data:=.fields #[.int lo t,.int hi u,.int 1 v] }
 | .frz o u=>h.get? a=some o/\uB H h a u
 | .tbl ps=>h.get? a=some { cls:=.none,data:=.fields ps }
 | .tb q=>∃ps:Array Value,h.get? a=some { cls:=.none,data:=.fields ps }/\TriplesOk ps.toList/\∀pos cv,codeAmong pos ps.toList=some cv ->
   ∃c oc vs t,cv=.ref c/\H c=some (.frz oc (.own c))/\oc.data=.fields vs/\vs[1]? = some (.str q t)
 | .met f x=>h.get? a=some (PySem.W.methodObj (.ref f) (.ref x))
 | .ext φ=>φ h/\(∃o,h.get? a=some o)/\∀h1 h2:Heap,φ h1->(∀o,h1.get? a=some o->h2.get? a=some o)->φ h2
def HOk (H:Hp)(h:Heap):Prop:=∀a o,H a=some o->uB P w H h a o
end
section
variable {P:Program} {w:World} {H H':Hp} {h h':Heap} {a:Addr} {o:HO}
theorem uB.lt (x:uB P w H h a o):a<h.objs.size:=by
 cases o with
 | lst xs=>obtain⟨_,_,_,_,e⟩:=x;exact Heap.lt_size e
 | tup xs=>obtain⟨_,_,_,p⟩:=x;exact p.lt
 | dK kvs=>obtain⟨_,_,_,_,o,_,_,e,_⟩:=x;exact Heap.lt_size e
 | dT kvs=>obtain⟨_,_,_,_,o,_,_,e,_⟩:=x;exact Heap.lt_size e
 | set S n=>obtain⟨o,_,_,_,e,_⟩:=x;exact Heap.lt_size e
 | ins C dx fs=>obtain⟨_,_,_,e,_⟩:=x;exact Heap.lt_size e
 | own y=>obtain⟨_,e⟩:=x;exact Heap.lt_size e
 | xd fs=>obtain⟨_,⟨_,_,_,e,_⟩,_⟩:=x;exact Heap.lt_size e
 | rng lo hi=>obtain⟨_,_,_,e⟩:=x;exact Heap.lt_size e
 | frz ob u=>obtain⟨e,_⟩:=x;exact Heap.lt_size e
 | tbl ps=>exact Heap.lt_size (show h.get? a=some _ from x)
 | tb q=>obtain⟨_,e,_⟩:=x;exact Heap.lt_size e
 | met f y=>exact Heap.lt_size (show h.get? a=some _ from x)
 | ext φ=>obtain⟨_,⟨_,e⟩,_⟩:=x;exact Heap.lt_size e
theorem Paired.mapP:∀ {l₁:List α} {l₂:List β},Paired F l₁ l₂->(∀a b,F a b->G a b)->Paired G l₁ l₂
 | _,_,.nil,_=>.nil
 | _,_,.cons r t,f=>.cons (f _ _ r) (Paired.mapP t f)
theorem uB.stay (x:uB P w H h a o)(k:∀b u,(b=a\/H b=some (.own a))->h.get? b=some u->h'.get? b=some u)
  (ho:∀b,H b=some (.own a)->H' b=some (.own a)) (ht:∀b xs,H b=some (.tup xs)->H' b=some (.tup xs)) (hf:∀b o u,H b=some (.frz o u)->H' b=some (.frz o u)):uB P w H' h' a o:=by
 induction o with
 | lst xs=>obtain⟨z,its,n,r,e⟩:=x;exact⟨z,its,n,r,k _ _ (.inl rfl) e⟩
 | tup xs=>obtain⟨z,its,r,ob,e,c⟩:=x;exact⟨z,its,r,ob,k _ _ (.inl rfl) e,c⟩
 | dK kvs=>obtain⟨z,y,vs,r,ob,es,ep,e,c⟩:=x;exact⟨z,y,vs,r,ob,es,ep,k _ _ (.inl rfl) e,c⟩
 | dT kvs =>obtain⟨z,y,xs,r,ob,es,ep,e,c⟩:=x;exact⟨z,y,xs,Paired.mapP r λp q z=>⟨z.1,ht _ _ z.2.1,z.2.2⟩,ob,es,ep,k _ _ (.inl rfl) e,c⟩
 | set S n=>obtain⟨ob,es,ep,t,e,c⟩:=x;exact⟨ob,es,ep,t,k _ _ (.inl rfl) e,c⟩
 | ins C dx fs =>obtain⟨d,z,ne,e,mA,⟨od,es,ep,e2,c⟩,r⟩:=x;exact⟨ho _ d,z,ne,k _ _ (.inl rfl) e,mA,⟨od,es,ep,k _ _ (.inr d) e2,c⟩,r⟩
 | own y=>obtain⟨ob,e⟩:=x;exact⟨ob,k _ _ (.inl rfl) e⟩
 | xd fs=>obtain⟨mA,⟨od,es,ep,e,c⟩,r⟩:=x;exact⟨mA,⟨od,es,ep,k _ _ (.inl rfl) e,c⟩,r⟩
 | rng lo hi=>obtain⟨t,u,v,e⟩:=x;exact⟨t,u,v,k _ _ (.inl rfl) e⟩
 | frz ob u ih=>obtain⟨e,q⟩:=x;exact⟨k _ _ (.inl rfl) e,ih q⟩
 | tbl ps =>have e:h.get? a=some { cls:=.none,data:=.fields ps }:=x;show h'.get? a=some { cls:=.none,data:=.fields ps };exact k a _ (.inl rfl) e
 | tb q =>obtain⟨ps,e,z,y⟩:=x;exact⟨ps,k _ _ (.inl rfl) e,z,λpos cv e=>let ⟨c,oc,vs,t,e1,e2,e3⟩:=y pos cv e;⟨c,oc,vs,t,e1,hf _ _ _ e2,e3⟩⟩
 | met f y =>have e:h.get? a=some (PySem.W.methodObj (.ref f) (.ref y)):=x;show h'.get? a=some (PySem.W.methodObj (.ref f) (.ref y));exact k a _ (.inl rfl) e
 | ext φ=>obtain⟨p,⟨o,e⟩,st⟩:=x;exact⟨st _ _ p λo q=>k _ _ (.inl rfl) q,⟨o,k _ _ (.inl rfl) e⟩,st⟩
theorem HOk.lt (x:HOk P w H h)(e:H a=some o):a<h.objs.size:=(x a o e).lt
theorem HOk.fresh (x:HOk P w H h)(e:h.objs.size<=a):H a=none:=by
 cases q:H a with
 | none=>rfl
 | some u=>exact absurd (xmi (x.lt q) e) (xmg _)
theorem HOk.kept (x:HOk P w H h)(k:∀b u,h.get? b=some u->h'.get? b=some u):HOk P w H h':=λa o e =>(x a o e).stay (λb u _ q=>k b u q) (λ_ q=>q) (λ_ _ q=>q) λ_ _ _ q=>q
theorem HOk.laid (x:HOk P w H h)(k:∀b u,h.get? b=some u->h'.get? b=some u)(hp:h.objs.size<=a)(new:uB P w (upd H a o) h' a o):HOk P w (upd H a o) h':=λb u e=>by
 have hn:=x.fresh hp;by_cases hb:b=a
 .subst hb;rw[xV] at e;cases e;exact new
 .rw[xJ hb] at e;exact(x b u e).stay (λc v _ q=>k c v q) (λc q=>by rw[xJ (xD q hn)];exact q) (λc xs q=>by rw[xJ (xD q hn)];exact q) λc o u q=>by rw[xJ (xD q hn)];exact q
end
def Rd (H:Hp)(a:Addr)(u:HO):Prop:=H a=some u\/∃o,H a=some (.frz o u)
theorem Rd.ok (r:Rd H a u)(x:HOk P w H h):uB P w H h a u:=by
 rcases r with r | ⟨o,r⟩
 .exact x a u r
 .obtain⟨_,q⟩:=x a _ r;exact q
def Mut:Option HO->Prop
 | some (.lst _)=>True
 | some (.dK _)=>True
 | some (.dT _)=>True
 | some (.set _ _)=>True
 | some (.ins _ _ _)=>True
 | some (.ext _)=>True
 | some (.tb _)=>True
 | _=>False
section
variable {P:Program} {w:World} {H:Hp} {h h':Heap} {x e:Addr} {o':HO}
theorem HOk.write (ok:HOk P w H h)(mu:Mut (H x))(he:e=x\/H e=some (.own x))(k:∀b u,b≠e->h.get? b=some u->h'.get? b=some u)(heo:∃u,h'.get? e=some u)
  (new:uB P w (upd H x o') h' x o'):HOk P w (upd H x o') h':=λb u q=>by
 have nown:∀c y,H c=some (.own y)->c≠x:=λc y r z=>by subst z;rw[r] at mu;exact mu
 have ntup:∀c xs,H c=some (.tup xs)->c≠x:=λc xs r z=>by subst z;rw[r] at mu;exact mu
 have nfrz:∀c o u,H c=some (.frz o u)->c≠x:=λc o u r z=>by subst z;rw[r] at mu;exact mu
 by_cases hb:b=x
 .subst hb;rw[xV] at q;cases q;exact new
 .rw[xJ hb] at q;by_cases hbe:b=e
  .have q':H b=some (.own x):=by
    rcases he with z | z
    .exact absurd (hbe.trans z) hb
    .rw[hbe];exact z
   rw[q] at q';cases q';obtain⟨v,hv⟩:=heo;exact⟨v,by rw[hbe];exact hv⟩
  .refine(ok b u q).stay (λc v hc r=>k c v ?_ r) (λc r=>by rw[xJ (nown c b r)];exact r) (λc xs r=>by rw[xJ (ntup c xs r)];exact r) λc o u r=>by rw[xJ (nfrz c o u r)];exact r
   rcases hc with rfl | hc
   .exact hbe
   .rintro rfl;rcases he with z | z
    .exact nown c b hc z
    .rw[hc] at z;cases z;exact hb rfl
end
structure Un (fs ex:List Addr)(H H':Hp)(h h':Heap):Prop where
 keep:∀b o,h.get? b=some o->H b=none->b∉fs->b∉ex->h'.get? b=some o
 slot:∀b o,h.get? b=some o->H b=none->b∈fs->b∉ex->∃sl,h'.get? b=some { o with slots:=sl }
 free:∀b o,h.get? b=some o->H b=none->b∉ex->H' b=none
 there:∀b o,h.get? b=some o->b∉ex->∃o',h'.get? b=some o'
 tups:∀b xs,H b=some (.tup xs)->H' b=some (.tup xs)
 frzs:∀b o u,H b=some (.frz o u)->H' b=some (.frz o u)
 tbls:∀b ps,H b=some (.tbl ps)->∃more,H' b=some (.tbl (ps++more))
section
variable {fs fs' ex ex':List Addr} {H H1 H2:Hp} {h h1 h2 h':Heap} {a x e:Addr} {o:HO}
theorem Un.any (u:Un fs ex H H1 h h1)(q:h.get? b=some ob)(n:H b=none)(hx:b∉ex):∃sl,h1.get? b=some { ob with slots:=sl }:=by
 by_cases hb:b∈fs
 .exact u.slot b ob q n hb hx
 .exact⟨ob.slots,u.keep b ob q n hb hx⟩
theorem Un.kept (k:∀b u,h.get? b=some u->h'.get? b=some u):Un fs ex H H h h' :=⟨λb ob q _ _ _=>k b ob q,λb ob q _ _ _=>⟨ob.slots,k b ob q⟩,λ_ _ _ n _=>n,λb ob q _=>⟨ob,k b ob q⟩,λ_ _ q=>q,λ_ _ _ q=>q,λ_ ps q=>⟨#[],by rw[q];simp⟩⟩
theorem Un.refl:Un fs ex H H h h:=Un.kept λ_ _ q=>q
theorem Un.laid (k:∀b u,h.get? b=some u->h'.get? b=some u)(hp:h.objs.size<=a)(hn:H a=none):Un fs ex H (upd H a o) h h' where
 keep:=λb u q _ _ _=>k b u q
 slot:=λb u q _ _ _=>⟨u.slots,k b u q⟩
 free:=λb u q n _=>by rw[xJ (xmq (xmi (Heap.lt_size q) hp))];exact n
 there:=λb u q _=>⟨u,k b u q⟩
 tups:=λb xs q=>by rw[xJ (xD q hn)];exact q
 frzs:=λb u xs q=>by rw[xJ (xD q hn)];exact q
 tbls:=λb ps q=>⟨#[],by rw[xJ (xD q hn),q];simp⟩
theorem Un.write (mu:Mut (H x))(he:e=x\/H e=some (.own x))(k:∀b u,b≠e->h.get? b=some u->h'.get? b=some u)(heo:∃u,h'.get? e=some u):Un fs ex H (upd H x o) h h':=by
 have hx:∀b,H b=none->b≠x:=λb n z=>by subst z;rw[n] at mu;exact mu
 have hb:∀b,H b=none->b≠e:=λb n z=>by
  subst z;rcases he with r | r
  .exact hx b n r
  .rw[n] at r;cases r
 have hm:∀b u,H b=some u->¬Mut (some u)->b≠x:=λb u q nm z=>by subst z;rw[q] at mu;exact nm mu
 refine⟨λb u q n _ _=>k b u (hb b n) q,λb u q n _ _=>⟨u.slots,k b u (hb b n) q⟩,λb u q n _=>by rw[xJ (hx b n)];exact n,λb u q _=>?_,
  λb xs q=>by rw[xJ (hm b _ q λz=>z)];exact q,λb u xs q=>by rw[xJ (hm b _ q λz=>z)];exact q,λb ps q=>⟨#[],by rw[xJ (hm b _ q λz=>z),q];simp⟩⟩
 by_cases hbe:b=e
 .subst hbe;exact heo
 .exact⟨u,k b u hbe q⟩
end
def trk (h:Heap)(H:Hp):List Addr:=(List.range h.objs.size).filter λa=>(H a).isSome
def xde (h:Heap)(H:Hp):Heap:=PySem.W.hideAll h (trk h H)
theorem xbl (h:Heap)(H:Hp):(xde h H).objs.size=h.objs.size:=PySem.W.hideAll_size _ _
theorem xcW (e:h.get? b=some o)(n:H b=none):(xde h H).get? b=some o :=
 PySem.W.hideAll_get _ e λhm=>by have q:(H b).isSome=true:=(xlL.mp hm).2;rw[n] at q;simp at q
theorem xf9 (e:(xde h H).get? b=some o):h.get? b=some o/\H b=none:=by
 have e':h.get? b=some o:=PySem.W.of_hideAll (trk h H) e;refine⟨e',?_⟩;cases q:H b with
 | none=>rfl
 | some x =>have hm:b∈trk h H:=xlL.mpr ⟨xlT.mpr (Heap.lt_size e'),by simp[q]⟩;have z:(xde h H).get? b=none:=PySem.W.hideAll_none (trk h H) hm;rw[z] at e;cases e
def xfc (g h:Heap)(L:Addr):List (Addr×Obj):=(List.range h.objs.size).filterMap λa=>if a=L\/(g.get? a).isSome=true then none else(h.get? a).map λo=>(a,o)
def rest (g h:Heap)(L d:Addr):List (Addr×Obj):=(xfc g h L).filter λp=>decide (p.1≠d)
end L2
namespace L2
open PySem PySem.Spec PyProof.Rows
structure Mod (K:PySem.W.Frag)(mg:Str->Option Value)(base:Heap):Prop where
 kin:K.In base
 glob:base.Ns mainGlobals mg
 blt:∃mb,base.Ns builtinsNs mb/\∀x:Str,x ≠ "__name__" -> mb x=bootBuiltins x
 nolimit:base.NoLimit
structure Cx where
 prog:Program
 w:World
 K:PySem.W.Frag
 mg:Str->Option Value
 base:Heap
 A:Around
 N:List Str
 s₀:Shared
 H₀:Hp
 env:Env
 outer:List Env
 stack:List Env
 ex:List Addr
 fn:Str->Bool
 calm:Bool
 pn:List (Addr×Obj)
 xe:Value->Shared->Prop
def frs (l:List Env):List Addr:=l.filterMap (·.frame)
abbrev Cx.fs (X:Cx):List Addr:=frs X.outer
def Vis (sc:Scope)(x:Str):Prop:=sc.names.lookup x=some .local\/sc.names.lookup x=some .cell\/sc.names.lookup x=some .free
def Loc (sc:Scope)(x:Str):Prop:=sc.names.lookup x=some .local\/sc.names.lookup x=some .cell
def Look (env:Env)(h:Heap)(m:Str->Option Value)(x:Str)(u:Value):Prop :=(env.kindOf x=some .local/\m x=some u)\/((env.kindOf x=some .cell\/env.kindOf x=some .free)/\∃c,env.cells.lookup x=some c/\h.IsCell c (some u))
structure Cx.Ok (X:Cx):Prop where
 mod:Mod X.K X.mg X.base
 kind:X.env.scope.kind=.function
 glob:X.env.globals=mainGlobals
 blt:X.env.builtins=builtinsNs
 above:X.s₀.heap.objs.size<=X.env.locals
 inj:∀x y c,X.env.cells.lookup x=some c->X.env.cells.lookup y=some c->x=y
 has:∀x,(X.env.kindOf x=some .cell\/X.env.kindOf x=some .free)->∃c,X.env.cells.lookup x=some c
 cab:∀x c,X.fn x=true->X.env.cells.lookup x=some c->X.s₀.heap.objs.size<=c
 hd:X.calm=true->X.A.handled=none
 frames:X.A.frames=some X.stack
 stk:X.stack=X.outer\/(X.stack=X.env::X.outer/\X.env.frame=some X.env.locals)
 exf:∀b∈X.ex,b≠X.env.locals/\∀x c,X.env.cells.lookup x=some c->c≠b
 bs:∀b o,X.base.get? b=some o->X.s₀.heap.get? b=some o/\X.H₀ b=none
 bsz:X.base.objs.size<=X.s₀.heap.objs.size
 noex:∀b o,X.base.get? b=some o->b∉X.ex
 exfs:∀b∈X.ex,b∉X.fs
 funs:X.s₀.heap.FunFrames X.base X.outer
 frf:∀b∈X.fs,X.H₀ b=none
structure Inv (X:Cx)(pins:List (Addr×Obj))(σ:List (Option V))(H:Hp)(s:Shared):Prop where
 ok:X.Ok
 os:s.os=X.s₀.os
 bare:AllBare s.gens
 base:Un X.fs X.ex X.H₀ H X.s₀.heap s.heap
 loc:∃m,s.heap.Ns X.env.locals m/\∀(i:Nat) (x:Str) (v:V),X.N[i]? = some x->σ[i]? = some (some v)->Vis X.env.scope x->∃u,RelV v u/\Look X.env s.heap m x u
 cell:∀x c,X.env.cells.lookup x=some c->∃v,s.heap.IsCell c v
 free:H X.env.locals=none
 freeC:∀x c,X.env.cells.lookup x=some c->H c=none
 pin:∀p∈X.pn++pins,s.heap.get? p.1=some p.2/\H p.1=none/\p.1≠X.env.locals/\p.1∉X.fs/\∀v,p.2.data≠.cell v
 hok:HOk X.prog X.w H s.heap
 len:σ.length=X.N.length
section
variable {X:Cx} {pins:List (Addr×Obj)} {σ:List (Option V)} {H H':Hp} {s:Shared} {h':Heap}
theorem Cx.Ok.nofr (ok:X.Ok)(e:X.base.get? b=some o):b∉X.fs:=λhb=>by have:=(ok.funs.mem hb).1;rw[e] at this;cases this
theorem Inv.bs (I:Inv X pins σ H s):∀b o,X.base.get? b=some o->s.heap.get? b=some o/\H b=none:=λb o e =>⟨I.base.keep b o (I.ok.bs b o e).1 (I.ok.bs b o e).2 (I.ok.nofr e) (I.ok.noex b o e),I.base.free b o (I.ok.bs b o e).1 (I.ok.bs b o e).2 (I.ok.noex b o e)⟩
theorem Inv.bk (I:Inv X pins σ H s):∀b o,X.base.get? b=some o->s.heap.get? b=some o:=λb o e=>(I.bs b o e).1
theorem Inv.mod (I:Inv X pins σ H s):Mod X.K X.mg X.base:=I.ok.mod
theorem Inv.kIn (I:Inv X pins σ H s):X.K.In s.heap:=I.ok.mod.kin.keeps I.bk
theorem Inv.fr (I:Inv X pins σ H s):∃m,Fr X.base X.env.locals s.heap m :=
 let ⟨m,hn,_⟩:=I.loc
 ⟨m,hn,I.bk,xmf I.ok.bsz I.ok.above⟩
theorem Inv.lt (I:Inv X pins σ H s):X.env.locals<s.heap.objs.size:=let ⟨_,hn,_⟩:=I.loc;hn.lt
theorem Inv.sz (I:Inv X pins σ H s):X.s₀.heap.objs.size<=s.heap.objs.size:=xmf I.ok.above (xmc I.lt)
theorem Inv.nofs (I:Inv X pins σ H s)(h:s.heap.objs.size<=a):a∉X.fs:=λhb=>by obtain⟨_,o,ho,_⟩:=I.ok.funs.mem hb;exact absurd (xmi (Heap.lt_size ho) (xmf I.sz h)) (xmg _)
theorem Inv.cne (I:Inv X pins σ H s):∀x c,X.env.cells.lookup x=some c->c≠X.env.locals:=λx c e z=>by obtain⟨v,o,ho,hd⟩:=I.cell x c e;obtain⟨m,⟨o',es,ep,ho',hd',_⟩,_⟩:=I.loc;rw[z,ho'] at ho;cases ho;rw[hd'] at hd;cases hd
theorem Inv.funs (I:Inv X pins σ H s):s.heap.FunFrames X.base X.outer:=by
 have all:∀(l:List Env),(∀b∈frs l,b∈X.fs)->X.s₀.heap.FunFrames X.base l->s.heap.FunFrames X.base l:=by
  intro l
  induction l with
  | nil=>intro _ _;trivial
  | cons env r ih =>intro hs hl;obtain⟨hk,⟨L,o,hf,hn,ho,hd⟩,hr⟩:=hl;have hL:L∈X.fs:=hs L (by unfold frs;rw[xk2,hf];exact xlK);obtain⟨sl,e⟩:=I.base.slot L o ho (I.ok.frf L hL) hL λz=>I.ok.exfs L z hL;exact⟨hk,⟨L,_,hf,hn,e,hd⟩,ih (λb hb=>hs b (by unfold frs;rw[xk2,hf];exact xlJ _ hb)) hr⟩
 exact all X.outer (λ_ hb=>hb) I.ok.funs
theorem Inv.stack (I:Inv X pins σ H s):s.heap.FunFrames X.base X.stack:=by
 rcases I.ok.stk with e | ⟨e,hf⟩
 .rw[e];exact I.funs
 .rw[e];obtain⟨m,hn,_⟩:=I.loc;refine .cons (by rw[I.ok.kind];decide) hf hn ?_ I.funs;exact Heap.get?_none_of_le (xmf I.ok.bsz I.ok.above)
theorem Inv.stkSub (I:Inv X pins σ H s):∀b∈frs X.stack,b∈X.env.locals::X.fs:=λb hb=>by
 rcases I.ok.stk with e | ⟨e,hf⟩
 .rw[e] at hb;exact xlJ _ hb
 .rw[e] at hb;unfold frs at hb;rw[xk2,hf] at hb;exact hb
theorem Inv.stkFree (I:Inv X pins σ H s):∀b∈frs X.stack,H b=none:=λb hb=>by
 rcases xlI.mp (I.stkSub b hb) with e | hb
 .rw[e];exact I.free
 .obtain⟨_,o,ho,_⟩:=I.ok.funs.mem hb;exact I.base.free b o ho (I.ok.frf b hb) λz=>I.ok.exfs b z hb
theorem Inv.step {g':Array GenState}{t':Nat}{d':Drawn}{ch:List Addr}(I:Inv X pins σ H s)
  (hch:∀b∈ch,(b∈X.ex\/X.s₀.heap.objs.size<=b)/\b≠X.env.locals/\(∀x c,X.env.cells.lookup x=some c->c≠b)/\∀p∈X.pn++pins,p.1≠b)
  (keep:∀b o,b≠X.env.locals->b∉X.fs->b∉ch->s.heap.get? b=some o->H b=none->h'.get? b=some o)
  (slot:∀b o,b≠X.env.locals->b∈X.fs->b∉ch->s.heap.get? b=some o->H b=none->∃sl,h'.get? b=some { o with slots:=sl }) (free:∀b o,b∉ch->s.heap.get? b=some o->H b=none->H' b=none)
  (there:∀b o,b∉ch->s.heap.get? b=some o->∃o',h'.get? b=some o')
  (tups:∀b xs,H b=some (.tup xs)->H' b=some (.tup xs)) (frzs:∀b o u,H b=some (.frz o u)->H' b=some (.frz o u)) (tbls:∀b ps,H b=some (.tbl ps)->∃more,H' b=some (.tbl (ps++more)))
  (ns:∀m,s.heap.Ns X.env.locals m->h'.Ns X.env.locals m) (hok:HOk X.prog X.w H' h') (hg:AllBare g') :
  Inv X pins σ H' { s with heap:=h',gens:=g',drawn:=d',toks:=t' }:=by
 have neL:∀b o,X.s₀.heap.get? b=some o->b≠X.env.locals:=λb o e=>xmq (xmi (Heap.lt_size e) I.ok.above);have neC:∀b o,X.s₀.heap.get? b=some o->b∉X.ex->b∉ch:=λb o e hx hb=>by
  rcases(hch b hb).1 with z | z
  .exact hx z
  .exact absurd (xmi (Heap.lt_size e) z) (xmg _)
 have cellK:∀x c,X.env.cells.lookup x=some c->∀v,s.heap.IsCell c v->h'.IsCell c v:=λx c e v ⟨o,ho,hd⟩=>by
  have nch:c∉ch:=λz=>(hch c z).2.2.1 x c e rfl;by_cases hc:c∈X.fs
  .obtain⟨sl,q⟩:=slot c o (I.cne x c e) hc nch ho (I.freeC x c e);exact⟨_,q,hd⟩
  .exact⟨o,keep c o (I.cne x c e) hc nch ho (I.freeC x c e),hd⟩
 refine⟨I.ok,I.os,hg,⟨λb o e n hb hx=>?_,λb o e n hb hx=>?_,λb o e n hx=>?_,λb o e hx=>?_,λb xs e=>tups b xs (I.base.tups b xs e),λb o xs e=>frzs b o xs (I.base.frzs b o xs e),λb ps e=>?_⟩,?_,λx c e=>?_,?_,λx c e=>?_,λp hp=>?_,hok,I.len⟩
 .exact keep b o (neL b o e) hb (neC b o e hx) (I.base.keep b o e n hb hx) (I.base.free b o e n hx)
 .obtain⟨sl,e1⟩:=I.base.slot b o e n hb hx;obtain⟨sl',e2⟩:=slot b _ (neL b o e) hb (neC b o e hx) e1 (I.base.free b o e n hx);exact⟨sl',e2⟩
 .obtain⟨o',e1⟩:=I.base.there b o e hx;exact free b o' (neC b o e hx) e1 (I.base.free b o e n hx)
 .obtain⟨o',e1⟩:=I.base.there b o e hx;exact there b o' (neC b o e hx) e1
 .obtain⟨m1,e1⟩:=I.base.tbls b ps e;obtain⟨m2,e2⟩:=tbls b _ e1;exact⟨m1++m2,by rw[e2,Array.append_assoc]⟩
 .obtain⟨m,hn,hl⟩:=I.loc;refine⟨m,ns m hn,λi x v e1 e2 e3=>?_⟩;obtain⟨u,r,l⟩:=hl i x v e1 e2 e3;refine⟨u,r,?_⟩;rcases l with l | ⟨k,c,e,z⟩
  .exact .inl l
  .exact .inr ⟨k,c,e,cellK x c e _ z⟩
 .obtain⟨v,z⟩:=I.cell x c e;exact⟨v,cellK x c e v z⟩
 .obtain⟨m,⟨o,_,_,ho,_⟩,_⟩:=I.loc;exact free _ o (λz=>(hch _ z).2.1 rfl) ho I.free
 .obtain⟨v,o,ho,hd⟩:=I.cell x c e;exact free c o (λz=>(hch c z).2.2.1 x c e rfl) ho (I.freeC x c e)
 .obtain⟨e,n,ne,nf,d⟩:=I.pin p hp;have nch:p.1∉ch:=λz=>(hch p.1 z).2.2.2 p hp rfl;exact⟨keep p.1 p.2 ne nf nch e n,free p.1 p.2 nch e n,ne,nf,d⟩
theorem Inv.un {t':Nat}(I:Inv X pins σ H s)(u:Un X.fs [] H H' s.heap h')(hok:HOk X.prog X.w H' h'):Inv X pins σ H' { s with heap:=h',toks:=t' }:=by
 obtain⟨m,⟨o,es,ep,ho,r⟩,_⟩:=id I.loc;obtain⟨sl,hL⟩:=u.any ho I.free (by simp);exact I.step (g':=s.gens) (d':=s.drawn) (ch:=[]) (λ_ z=>nomatch z) (λb o _ hb _ e n=>u.keep b o e n hb (by simp)) (λb o _ hb _ e n=>u.slot b o e n hb (by simp)) (λb o _ e n=>u.free b o e n (by simp)) (λb o _ e=>u.there b o e (by simp)) u.tups u.frzs u.tbls (λm' hm=>by obtain⟨o',es',ep',ho',r'⟩:=hm;rw[ho] at ho';cases ho';exact⟨_,es',ep',hL,r'⟩) hok I.bare
theorem Inv.call {g':Array GenState}{t':Nat}{d':Drawn}{ch:List Addr}(I:Inv X pins σ H s)(u:Un (frs X.stack) ch H H' s.heap h')(hok:HOk X.prog X.w H' h')(hg:AllBare g')
  (hch:∀b∈ch,(b∈X.ex\/X.s₀.heap.objs.size<=b)/\b≠X.env.locals/\(∀x c,X.env.cells.lookup x=some c->c≠b)/\∀p∈X.pn++pins,p.1≠b) :
  Inv X pins σ H' { s with heap:=h',gens:=g',drawn:=d',toks:=t' }:=by
 obtain⟨m,⟨o,es,ep,ho,r⟩,_⟩:=id I.loc;obtain⟨sl,hL⟩:=u.any ho I.free λz=>(hch _ z).2.1 rfl;exact I.step (ch:=ch) hch (λb o hL hb hc e n=>u.keep b o e n (λz=>(xlI.mp (I.stkSub b z)).elim hL hb) hc) (λb o _ _ hc e n=>u.any e n hc) (λb o hc e n=>u.free b o e n hc) (λb o hc e=>u.there b o e hc) u.tups u.frzs u.tbls (λm' hm=>by obtain⟨o',es',ep',ho',r'⟩:=hm;rw[ho] at ho';cases ho';exact⟨_,es',ep',hL,r'⟩) hok hg
theorem Inv.turned {t':Nat}{it:Addr}(I:Inv X pins σ H s)(k:∀b o,b≠it->s.heap.get? b=some o->h'.get? b=some o)(hn:H it=none)(hL:it≠X.env.locals)
  (h1:it∈X.ex\/X.s₀.heap.objs.size<=it) (h2:∀x c,X.env.cells.lookup x=some c->c≠it) (h3:∀p∈X.pn++pins,p.1≠it):Inv X pins σ H { s with heap:=h',toks:=t' }:=by
 have nit:∀b u,H b=some u->b≠it:=λb u e z=>by rw[z,hn] at e;cases e
 refine I.step (g':=s.gens) (d':=s.drawn) (ch:=[it]) (λb hb=>?_) (λb o _ _ hc e _=>k b o (λz=>hc (by simp[z])) e) (λb o _ _ hc e _=>⟨o.slots,k b o (λz=>hc (by simp[z])) e⟩) (λ_ _ _ _ n=>n)
  (λb o hc e=>⟨o,k b o (λz=>hc (by simp[z])) e⟩) (λ_ _ e=>e) (λ_ _ _ e=>e) (λb ps e=>⟨#[],by rw[e];simp⟩) (λm hm=>?_) (λb u e=>?_) I.bare
 .have e:b=it:=by simpa using hb
  subst e;exact⟨h1,hL,h2,h3⟩
 .obtain⟨o,es,ep,ho,r⟩:=hm;exact⟨o,es,ep,k _ o (Ne.symm hL) ho,r⟩
 .refine(I.hok b u e).stay (λc v hc q=>k c v ?_ q) (λ_ q=>q) (λ_ _ q=>q) λ_ _ _ q=>q;rcases hc with z | z
  .rw[z];exact nit b u e
  .exact nit c _ z
theorem Inv.tok (I:Inv X pins σ H s)(t:Nat):Inv X pins σ H { s with toks:=t }:=I.un (h':=s.heap) (t':=t) Un.refl I.hok
theorem Inv.kept (I:Inv X pins σ H s)(k:∀b u,s.heap.get? b=some u->h'.get? b=some u):Inv X pins σ H { s with heap:=h',toks:=t' }:=I.un (Un.kept k) (I.hok.kept k)
theorem Inv.laid (I:Inv X pins σ H s)(k:∀b u,s.heap.get? b=some u->h'.get? b=some u)(hp:s.heap.objs.size<=a)(new:uB X.prog X.w (upd H a o) h' a o) :
  Inv X pins σ (upd H a o) { s with heap:=h',toks:=t' }:=I.un (Un.laid k hp (I.hok.fresh hp)) (I.hok.laid k hp new)
theorem Inv.write (I:Inv X pins σ H s)(mu:Mut (H x))(he:e=x\/H e=some (.own x))(k:∀b u,b≠e->s.heap.get? b=some u->h'.get? b=some u)(heo:∃u,h'.get? e=some u)
  (new:uB X.prog X.w (upd H x o) h' x o):Inv X pins σ (upd H x o) { s with heap:=h',toks:=t' }:=I.un (Un.write mu he k heo) (I.hok.write mu he k heo new)
theorem Inv.weak (I:Inv X pins σ H s)(hl:σ'.length=σ.length)(w:∀(i:Nat) v,σ'[i]? = some (some v)->σ[i]? = some (some v)):Inv X pins σ' H s :=⟨I.ok,I.os,I.bare,I.base,let ⟨m,hn,hl'⟩:=I.loc;⟨m,hn,λi x v e1 e2 e3=>hl' i x v e1 (w i v e2) e3⟩,I.cell,I.free,I.freeC,I.pin,I.hok,hl.trans I.len⟩
theorem Inv.pins_of (I:Inv X pins σ H s)(h:∀p∈pins',s.heap.get? p.1=some p.2/\H p.1=none/\p.1≠X.env.locals/\p.1∉X.fs/\∀v,p.2.data≠.cell v):Inv X pins' σ H s :=⟨I.ok,I.os,I.bare,I.base,I.loc,I.cell,I.free,I.freeC,λp hp=>(xlF.mp hp).elim (λz=>I.pin p (xlG _ z)) (h p),I.hok,I.len⟩
theorem oO {N:List Str}(hN:N.Nodup){i j:Nat}{x:Str}(a:N[i]? = some x)(b:N[j]? = some x):i=j:=by obtain⟨h1,e1⟩:=xle.mp a;obtain⟨h2,e2⟩:=xle.mp b;exact(List.getElem_inj hN).mp (e1.trans e2.symm)
theorem sW {M:Model}{A:Around}{E:Value->Shared->Prop}{i:Nat}{x:Str}{v:V}{u:Value}{Q:Unit->Shared->Prop}(I:Inv X pins σ H s)(hN:X.N.Nodup)(hi:X.N[i]? = some x)(hx:Loc X.env.scope x)(r:RelV v u)
  (h:∀s',Inv X pins (σ.set i (some v)) H s'->(∃a,Heap.SameBut a s.heap s'.heap/\(a=X.env.locals\/X.env.cells.lookup x=some a))->Q () s') (hf:X.fn x=true\/X.env.scope.names.lookup x=some .local:=by first | exact .inl rfl | exact .inr rfl | assumption):wpAny M A (storeName X.env x u) Q E s:=by
 obtain⟨m,hn,hl⟩:=id I.loc;have hcls:(X.env.scope.kind == .class || (X.env.scope.kind == .module&&X.env.locals != X.env.globals))=false:=by rw[I.ok.kind];rfl
 have hiσ:i<σ.length:=by rw[I.len];exact(xle.mp hi).1
 have cne:=I.cne;have tracked:∀ {a:Addr} {h':Heap},(∃o,s.heap.get? a=some o/\H a=none)->Heap.SameBut a s.heap h'->HOk X.prog X.w H h':=λ {a h'} ha hs b ob e=>by
  obtain⟨_,_,hfree⟩:=ha;refine(I.hok b ob e).stay (λc w' hc q=>(hs.2 c ?_).trans q) (λ_ q=>q) (λ_ _ q=>q) λ_ _ _ q=>q;rintro rfl;rcases hc with rfl | hc
  .rw[hfree] at e;cases e
  .rw[hfree] at hc;cases hc
 rcases hx with hk | hk
 .refine wpAny_storeName_local hk hn (λh' hn' hs=>?_) hcls;obtain⟨oL,_,_,hoL,_⟩:=id hn;refine h _ ⟨I.ok,I.os,I.bare,⟨λb o e n hb hx=>?_,λb o e n hb hx=>?_,I.base.free,λb o e hx=>?_,I.base.tups,I.base.frzs,I.base.tbls⟩,⟨_,hn',λj y v' e1 e2 e3=>?_⟩,λy c e=>?_,I.free,I.freeC,λp hp=>?_,tracked ⟨oL,hoL,I.free⟩ hs,by simpa using I.len⟩ ⟨_,hs,.inl rfl⟩
  .exact(hs.2 b (xmq (xmi (Heap.lt_size e) I.ok.above))).trans (I.base.keep b o e n hb hx)
  .obtain⟨sl,e1⟩:=I.base.slot b o e n hb hx;exact⟨sl,(hs.2 b (xmq (xmi (Heap.lt_size e) I.ok.above))).trans e1⟩
  .obtain⟨o',e1⟩:=I.base.there b o e hx;exact⟨o',(hs.2 b (xmq (xmi (Heap.lt_size e) I.ok.above))).trans e1⟩
  .by_cases hj:j=i
   .subst hj;rw[hi] at e1;cases e1;rw[xlj hiσ] at e2;cases e2;exact⟨u,r,.inl ⟨hk,by simp⟩⟩
   .rw[xli (Ne.symm hj)] at e2;obtain⟨u',r',q⟩:=hl j y v' e1 e2 e3;refine⟨u',r',?_⟩;rcases q with ⟨k,e⟩ | ⟨k,c,e,z⟩
    .refine .inl ⟨k,?_⟩;have:y≠x:=λe=>hj (oO hN e1 (e▸hi));simp[this,e]
    .exact .inr ⟨k,c,e,z.sameBut hs (cne y c e)⟩
  .obtain⟨w',z⟩:=I.cell y c e;exact⟨w',z.sameBut hs (cne y c e)⟩
  .obtain⟨e,n,ne,nf,d⟩:=I.pin p hp;exact⟨(hs.2 p.1 ne).trans e,n,ne,nf,d⟩
 .have hfn:X.fn x=true:=by
   rcases hf with z | z
   .exact z
   .rw[z] at hk;cases hk
  obtain⟨c,hc⟩:=I.ok.has x (.inl hk);obtain⟨w',z⟩:=I.cell x c hc;refine wpAny_storeName_cell I.ok.kind hk hc z (λh' hc' hs=>?_);obtain⟨oc,hoc,hocd⟩:=id z;refine h { s with heap:=h' } ⟨I.ok,I.os,I.bare,⟨λb o e n hb hx=>?_,λb o e n hb hx=>?_,I.base.free,λb o e hx=>?_,I.base.tups,I.base.frzs,I.base.tbls⟩,⟨m,hn.sameBut hs (Ne.symm (cne x c hc)),λj y v' e1 e2 e3=>?_⟩,λy c' e=>?_,I.free,I.freeC,λp hp=>?_,tracked ⟨oc,hoc,I.freeC x c hc⟩ hs,by simpa using I.len⟩ ⟨c,hs,.inr hc⟩
  .exact(hs.2 b (xmq (xmi (Heap.lt_size e) (I.ok.cab x c hfn hc)))).trans (I.base.keep b o e n hb hx)
  .obtain⟨sl,e1⟩:=I.base.slot b o e n hb hx;exact⟨sl,(hs.2 b (xmq (xmi (Heap.lt_size e) (I.ok.cab x c hfn hc)))).trans e1⟩
  .obtain⟨o',e1⟩:=I.base.there b o e hx;exact⟨o',(hs.2 b (xmq (xmi (Heap.lt_size e) (I.ok.cab x c hfn hc)))).trans e1⟩
  .by_cases hj:j=i
   .subst hj;rw[hi] at e1;cases e1;rw[xlj hiσ] at e2;cases e2;exact⟨u,r,.inr ⟨.inl hk,c,hc,hc'⟩⟩
   .rw[xli (Ne.symm hj)] at e2;obtain⟨u',r',q⟩:=hl j y v' e1 e2 e3;refine⟨u',r',?_⟩;rcases q with q | ⟨k,c',e,z'⟩
    .exact .inl q
    .refine .inr ⟨k,c',e,z'.sameBut hs ?_⟩;rintro rfl;exact hj (oO hN e1 (I.ok.inj _ _ _ e hc▸hi))
  .by_cases hcc:c'=c
   .subst hcc;exact⟨_,hc'⟩
   .obtain⟨w2,z2⟩:=I.cell y c' e;exact⟨w2,z2.sameBut hs hcc⟩
  .obtain⟨e,n,ne,nf,d⟩:=I.pin p hp;refine⟨(hs.2 p.1 ?_).trans e,n,ne,nf,d⟩;intro q;rw[q,hoc] at e;have q':oc=p.2:=xmt e;exact d w' (by rw[<-q'];exact hocd)
theorem qy (I:Inv X pins σ H s)(hN:X.N.Nodup)(hi:X.N[i]? = some x)(hx:Loc X.env.scope x)(r:RelV v u)
  (h:∀s',Inv X pins (σ.set i (some v)) H s'->Q () s') (hf:X.fn x=true\/X.env.scope.names.lookup x=some .local:=by first | exact .inl rfl | exact .inr rfl | assumption):wpAny M A (storeName X.env x u) Q E s :=
 sW I hN hi hx r (λs' I' _=>h s' I') hf
theorem Inv.call' (I:Inv X pins σ H s)(ho:s'.os=s.os)(u:Un (frs X.stack) ch H H' s.heap s'.heap)(hok:HOk X.prog X.w H' s'.heap)(hg:AllBare s'.gens)
  (hch:∀b∈ch,(b∈X.ex\/X.s₀.heap.objs.size<=b)/\b≠X.env.locals/\(∀x c,X.env.cells.lookup x=some c->c≠b)/\∀p∈X.pn++pins,p.1≠b):Inv X pins σ H' s':=by
 obtain⟨h',g',d',t',o'⟩:=s';have e:o'=s.os:=ho;subst e;exact I.call (g':=g') (t':=t') (d':=d') u hok hg hch
end
abbrev XK:=Value->Option Addr->Hp->Prop
abbrev St:=List (Option V)
abbrev VK:=V->Hp->Prop
abbrev TE:=St->Hp->VK->Prop
abbrev TT:=St->Hp->(Bool->Hp->Prop)->Prop
abbrev TA:=St->Hp->(List V->Hp->Prop)->Prop
structure Ends where
 nx:St->Hp->Prop
 rt:VK
 bk:St->Hp->Prop:=λ_ _=>False
 ct:St->Hp->Prop:=λ_ _=>False
abbrev TS:=Ends->St->Hp->Prop
def EP (X:Cx)(pins:List (Addr×Obj))(σ:St)(Q:VK)(u:Value)(s':Shared):Prop:=∃v H',Inv X pins σ H' s'/\RelV v u/\Q v H'
def TP (X:Cx)(pins:List (Addr×Obj))(σ:St)(Q:Bool->Hp->Prop)(b:Bool)(s':Shared):Prop:=∃H',Inv X pins σ H' s'/\Q b H'
def AP (X:Cx)(pins:List (Addr×Obj))(σ:St)(Q:List V->Hp->Prop)(us:List Value)(s':Shared):Prop:=∃vs H',Inv X pins σ H' s'/\zo vs us/\Q vs H'
def SP (X:Cx)(pins:List (Addr×Obj))(D:Ends)(f:Flow)(s':Shared):Prop :=
 match f with
 | .next=>∃ σ' H',Inv X pins σ' H' s'/\D.nx σ' H'
 | .brk=>∃ σ' H',Inv X pins σ' H' s'/\D.bk σ' H'
 | .cont=>∃ σ' H',Inv X pins σ' H' s'/\D.ct σ' H'
 | .ret u=>∃v σ' H',Inv X pins σ' H' s'/\RelV v u/\D.rt v H'
def PE (X:Cx)(e:Expr)(t:TE):Prop :=∀ ⦃pins:List (Addr×Obj)⦄ (s:Shared) (σ:St) (H:Hp) (Q:VK),Inv X pins σ H s->t σ H Q->wpAny (model X.prog X.w) X.A (eval e X.env) (EP X pins σ Q) X.xe s
def PT (X:Cx)(e:Expr)(t:TT):Prop :=∀ ⦃pins:List (Addr×Obj)⦄ (s:Shared) (σ:St) (H:Hp) (Q:Bool->Hp->Prop),Inv X pins σ H s->t σ H Q->wpAny (model X.prog X.w) X.A (isTrue e X.env (eval e X.env)) (TP X pins σ Q) X.xe s
def PW (X:Cx)(e:Expr)(t:TT):Prop :=∀ ⦃whole:Sem Value⦄ (pins:List (Addr×Obj)) (s:Shared) (σ:St) (H:Hp) (Q:Bool->Hp->Prop),Inv X pins σ H s->t σ H Q->wpAny (model X.prog X.w) X.A (isTrue e X.env whole) (TP X pins σ Q) X.xe s
theorem PW.pt (h:PW X e t):PT X e t:=@h _
def PA (X:Cx)(es:List Expr)(t:TA):Prop :=∀ ⦃pos:Pos⦄ (pins:List (Addr×Obj)) (s:Shared) (σ:St) (H:Hp) (Q:List V->Hp->Prop),Inv X pins σ H s->t σ H Q->wpAny (model X.prog X.w) X.A (spliced (backTo pos (starEach es X.env))) (AP X pins σ Q) X.xe s
def PS (X:Cx)(st:Stmt)(t:TS):Prop :=∀ ⦃pins:List (Addr×Obj)⦄ (s:Shared) (σ:St) (H:Hp) (D:Ends),Inv X pins σ H s->t D σ H->wpAny (model X.prog X.w) X.A (exec st X.env) (SP X pins D) X.xe s
def PSs (X:Cx)(st:List Stmt)(t:TS):Prop :=∀ ⦃pins:List (Addr×Obj)⦄ (s:Shared) (σ:St) (H:Hp) (D:Ends),Inv X pins σ H s->t D σ H->wpAny (model X.prog X.w) X.A (execs st X.env) (SP X pins D) X.xe s
theorem thn (h:wpAny M A t Q E s)(hQ:∀a s,Q a s->Q' a s):wpAny M A t Q' E s:=wpAny_mono h hQ λ_ _ x=>x
end L2
namespace L2
open PySem PySem.Spec PyProof.Rows
section
variable {X:Cx}
def rO (i:Nat):TE:=λ σ H Q=>∃v,σ[i]? = some (some v)/\Q v H
def tC (v:V):TE:=λ_ H Q=>Q v H
theorem xgD (hN:X.N[i]? = some x)(hv:Vis X.env.scope x)(hd:(x == ("__debug__" : Str))=false:=by decide)(hcd:(x == ("__classdict__" : Str))=false:=by decide):PE X (.Name x pos) (rO i):=by
 intro pins s σ H Q I h;obtain⟨v,e,h⟩:=h;obtain⟨m,hn,hl⟩:=I.loc;obtain⟨u,r,l⟩:=hl i x v hN e hv;have fin:EP X pins σ Q u s:=⟨v,H,I,r,h⟩
 rcases l with ⟨hk,hm⟩ | ⟨hk,c,hc,hcell⟩
 .exact wpAny_Name (wpAny_loadName_local I.ok.kind hk hn hm fin) hd
 .rcases hk with hk | hk
  .exact wpAny_Name (wpAny_loadName_cell I.ok.kind hk hc hcell fin) hd
  .exact wpAny_Name (wpAny_loadName_free I.ok.kind hk hc hcell fin hcd) hd
theorem xk:PE X (.Constant (.int i) j pos) (tC (.int i)):=λ_ _ _ H _ I h=>wpAny_Constant_int ⟨.int i,H,I.tok _,⟨_,rfl⟩,h⟩
theorem vW:PE X (.Constant (.bool b) j pos) (tC (.bl b)):=λ_ _ _ H _ I h=>Constant_bool ⟨.bl b,H,I,rfl,h⟩
theorem rh:PE X (.Constant .none j pos) (tC .non):=λ_ _ _ H _ I h=>Constant_none ⟨.non,H,I,rfl,h⟩
def Gl (X:Cx)(x:Str):Prop:=X.env.kindOf x=some .globalImplicit
theorem xbL (I:Inv X pins σ H s)(hg:Gl X x)(hm:X.mg x=some u)(h:Q u s)
  (hd:(x == ("__debug__" : Str))=false:=by decide):wpAny (model X.prog X.w) X.A (eval (.Name x pos) X.env) Q E s :=
 Calls.Name_function_global I.ok.kind hg (Calls.loadGlobal_global (by rw[I.ok.glob];exact I.mod.glob.keeps I.bk) hm h) hd
theorem dQ (I:Inv X pins σ H s)(hg:Gl X x)(hm:X.mg x=none)(hv:bootBuiltins x=some u)(h:Q u s)
  (hn:x ≠ "__name__" := by decide) (hd:(x == ("__debug__" : Str))=false:=by decide):wpAny (model X.prog X.w) X.A (eval (.Name x pos) X.env) Q E s:=by
 obtain⟨mb,h1,h2⟩:=I.mod.blt;exact Calls.Name_function_global I.ok.kind hg (Calls.loadGlobal_builtin (by rw[I.ok.glob];exact I.mod.glob.keeps I.bk) hm (by rw[I.ok.blt];exact h1.keeps I.bk) ((h2 x hn).trans hv) h) hd
theorem qU (hg:Gl X x)(hm:X.mg x=some u)(r:RelV v u)(hd:(x == ("__debug__" : Str))=false:=by decide):PE X (.Name x pos) (tC v) :=λ_ _ _ H _ I h=>xbL I hg hm ⟨v,H,I,r,h⟩ hd
theorem dH (hg:Gl X x)(hm:X.mg x=none)(hv:bootBuiltins x=some u)(r:RelV v u)(hn:x ≠ "__name__" := by decide)(hd:(x == ("__debug__" : Str))=false:=by decide):PE X (.Name x pos) (tC v) :=λ_ _ _ H _ I h=>dQ I hg hm hv ⟨v,H,I,r,h⟩ hn hd
variable {a b:Expr} {ta tb:TE} {pos:Pos}
def PC (X:Cx)(op:CmpOp)(a b:Expr)(t:TE):Prop :=
 ∀(pins:List (Addr×Obj)) (s:Shared) (σ:St) (H:Hp) (Q:VK),Inv X pins σ H s->t σ H Q ->
  wpAny (model X.prog X.w) X.A (eval a X.env) (λv s₁=>wpAny (model X.prog X.w) X.A (eval b X.env) (λu s₂=>wpAny (model X.prog X.w) X.A (compareOp op v u) (EP X pins σ Q) X.xe s₂) X.xe s₁) X.xe s
theorem xdO (b:Expr)(h:op≠.In)(h2:op≠.NotIn):behindInMarks op b=false:=by
 have e1:(op == CmpOp.In)=false:=by cases op<;>first | rfl | exact absurd rfl h
 have e2:(op == CmpOp.NotIn)=false:=by cases op<;>first | rfl | exact absurd rfl h2
 cases b<;>simp[behindInMarks,e1,e2]
def xi6 (ta:TE):TE:=λ σ H Q=>ta σ H λx H1=>Q (.bl (decide (x=.non))) H1
def xha (ta:TE):TE:=λ σ H Q=>ta σ H λx H1=>Q (.bl (!decide (x=.non))) H1
theorem RelV.none_iff (r:RelV x v):(v == Value.none)=decide (x=.non):=by
 cases x with
 | non=>cases r;rfl
 | bl _=>cases r;rfl
 | int _=>obtain⟨t,rfl⟩:=r;rfl
 | str _=>obtain⟨t,rfl⟩:=r;rfl
 | byt _=>obtain⟨t,rfl⟩:=r;rfl
 | flt _=>obtain⟨t,rfl⟩:=r;rfl
 | ref _=>cases r;rfl
 | ty _=>cases r;rfl
theorem a_ (ha:PE X a ta):PC X .Is a (.Constant .none j pos') (xi6 ta):=by intro pins s σ H Q I h;refine thn (@ha pins s σ H _ I h) λv s1 ⟨x,H1,I1,r1,q1⟩=>?_;exact Constant_none (is_none_gen ⟨.bl _,H1,I1,by rw[r1.none_iff];rfl,q1⟩)
theorem rD (ha:PE X a ta):PC X .IsNot a (.Constant .none j pos') (xha ta):=by intro pins s σ H Q I h;refine thn (@ha pins s σ H _ I h) λv s1 ⟨x,H1,I1,r1,q1⟩=>?_;exact Constant_none (isnot_none_gen ⟨.bl _,H1,I1,by rw[r1.none_iff];rfl,q1⟩)
def tB (t:TE):TT:=λ σ H Q=>t σ H λx H1=>∃c,x=.bl c/\Q c H1
theorem ja (h:PC X op a b t)(h1:behindInMarks op b=false:=by first | exact xdO _ (by decide) (by decide) | rfl):PT X (.Compare a [op] [b] pos) (tB t):=by intro pins s σ H Q I hw;refine wpAny_isTrue_Compare1 (thn (@h pins s σ H _ I hw) λv s1 h1=>thn h1 λu s2 h2=>thn h2 λc s3 ⟨x,H1,I1,r1,q1⟩=>?_) h1;obtain⟨d,rfl,q⟩:=q1;cases r1;exact wpAny_truthy_bool ⟨H1,I1,q⟩
theorem w5 (h:PE X e t)(he:∀whole,isTrue e X.env whole=(do let v <-whole;standAt e.pos;holding [v] (truthy v)):=by intro _;rfl):PT X e (tB t):=by intro pins s σ H Q I hw;refine isTrue_plain (thn (@h pins s σ H _ I hw) λv s1 ⟨x,H1,I1,r1,q1⟩=>?_) (he _);obtain⟨d,rfl,q⟩:=q1;cases r1;exact wpAny_truthy_bool ⟨H1,I1,q⟩
variable {tA tB':TT} {rest:List Expr}
def xjn (t u:TT):TT:=λ σ H Q=>t σ H λc H1=>if c=true then u σ H1 Q else Q false H1
def tOr (t u:TT):TT:=λ σ H Q=>t σ H λc H1=>if c=true then Q true H1 else u σ H1 Q
def xiT (t:TT):TT:=λ σ H Q=>t σ H λc H1=>Q (!c) H1
theorem js (ha:PT X a tA):PW X (.BoolOp .And [a] pos) tA:=by
 intro wh pins s σ H Q I h;refine isTrue_and (thn (@ha pins s σ H Q I h) λc s1 e=>?_);cases c with
 | true=>exact isTrue_and_nil e
 | false=>exact e
theorem qM (ha:PT X a tA):PW X (.BoolOp .Or [a] pos) tA:=by
 intro wh pins s σ H Q I h;refine isTrue_or (thn (@ha pins s σ H Q I h) λc s1 e=>?_);cases c with
 | false=>exact isTrue_or_nil e
 | true=>exact e
theorem sj (ha:PT X a tA)(hb:PW X (.BoolOp .And (b::rest) pos) tB'):PW X (.BoolOp .And (a::b::rest) pos) (xjn tA tB'):=by
 intro wh pins s σ H Q I h;refine isTrue_and (thn (@ha pins s σ H _ I h) λc s1 ⟨H1,I1,q1⟩=>?_);cases c with
 | true=>exact @hb wh pins s1 σ H1 Q I1 q1
 | false=>exact⟨H1,I1,q1⟩
theorem jh (ha:PT X a tA)(hb:PW X (.BoolOp .Or (b::rest) pos) tB'):PW X (.BoolOp .Or (a::b::rest) pos) (tOr tA tB'):=by
 intro wh pins s σ H Q I h;refine isTrue_or (thn (@ha pins s σ H _ I h) λc s1 ⟨H1,I1,q1⟩=>?_);cases c with
 | true=>exact⟨H1,I1,q1⟩
 | false=>exact @hb wh pins s1 σ H1 Q I1 q1
theorem vf (ha:PT X a tA):PT X (.UnaryOp .Not a pos) (xiT tA):=by intro pins s σ H Q I h;exact isTrue_not (@ha pins s σ H (λc H1=>Q (!c) H1) I h)
def xhJ (ta tb:TE):TE:=λ σ H Q=>ta σ H λx H1=>∃c,x=.bl c/\if c=true then tb σ H1 Q else Q (.bl false) H1
def xjm (ta tb:TE):TE:=λ σ H Q=>ta σ H λx H1=>∃c,x=.bl c/\if c=true then Q (.bl true) H1 else tb σ H1 Q
def xgV (ta:TE):TE:=λ σ H Q=>ta σ H λx H1=>∃c,x=.bl c/\Q (.bl (!c)) H1
theorem aO (h:PE X a t):PE X (.BoolOp op [a] pos) t:=λpins s σ H Q I hw=>BoolOp_one (@h pins s σ H Q I hw)
theorem xbi (ha:PE X a ta)(hb:PE X (.BoolOp .And (b::rest) pos) tb):PE X (.BoolOp .And (a::b::rest) pos) (xhJ ta tb):=by
 intro pins s σ H Q I h;refine BoolOp_and (thn (@ha pins s σ H _ I h) λv s1 ⟨x,H1,I1,r1,q1⟩=>?_);obtain⟨c,rfl,q1⟩:=q1;cases r1;refine wpAny_truthy_bool ?_;cases c with
 | true=>exact @hb pins s1 σ H1 Q I1 q1
 | false=>exact⟨.bl false,H1,I1,rfl,q1⟩
theorem xcK (ha:PE X a ta)(hb:PE X (.BoolOp .Or (b::rest) pos) tb):PE X (.BoolOp .Or (a::b::rest) pos) (xjm ta tb):=by
 intro pins s σ H Q I h;refine BoolOp_or (thn (@ha pins s σ H _ I h) λv s1 ⟨x,H1,I1,r1,q1⟩=>?_);obtain⟨c,rfl,q1⟩:=q1;cases r1;refine wpAny_truthy_bool ?_;cases c with
 | false=>exact @hb pins s1 σ H1 Q I1 q1
 | true=>exact⟨.bl true,H1,I1,rfl,q1⟩
theorem xhj (ha:PE X a ta):PE X (.UnaryOp .Not a pos) (xgV ta):=by intro pins s σ H Q I h;refine UnaryOp_ (thn (@ha pins s σ H _ I h) λv s1 ⟨x,H1,I1,r1,q1⟩=>?_);obtain⟨c,rfl,q1⟩:=q1;cases r1;exact not_of (wpAny_truthy_bool ⟨.bl (!c),H1,I1,rfl,q1⟩)
end
end L2
namespace L2
open PySem PySem.Spec PyProof.Rows
def SqL (K:PySem.W.Frag)(H:Hp)(a:Addr)(xs:List V):Prop :=
 Rd H a (.lst xs) \/
  ∃(o:Obj) (its:Array Value) (n:Nat),K.lookup a=some o/\o.cls=.type "list" /\ o.dict=none/\o.data=.seq its n/\its.size<=sizeLine/\zo xs its.toList
def SqT (K:PySem.W.Frag)(H:Hp)(a:Addr)(xs:List V):Prop :=
 Rd H a (.tup xs) \/
  ∃(o:Obj) (its:Array Value) (n:Nat),K.lookup a=some o/\o.cls=.type "tuple" /\ o.data=.seq its n/\its.size<=sizeLine/\zo xs its.toList
def xjM:Value->Option V
 | .none=>some .non
 | .bool b=>some (.bl b)
 | .int i _=>some (.int i)
 | .str x _=>some (.str x)
 | .bytes b _=>some (.byt b)
 | .float b _=>some (.flt b)
 | .ref a=>some (.ref a)
 | .type n=>some (.ty n)
 | _=>none
theorem RelV.abs (r:RelV x u):xjM u=some x:=by
 cases x with
 | non=>cases r;rfl
 | bl _=>cases r;rfl
 | int _=>obtain⟨t,rfl⟩:=r;rfl
 | str _=>obtain⟨t,rfl⟩:=r;rfl
 | byt _=>obtain⟨t,rfl⟩:=r;rfl
 | flt _=>obtain⟨t,rfl⟩:=r;rfl
 | ref _=>cases r;rfl
 | ty _=>cases r;rfl
theorem RelV.inj (r:RelV x u)(q:RelV y u):x=y:=xmt (r.abs.symm.trans q.abs)
theorem zo.inj:∀ {xs ys:List V} {us:List Value},zo xs us->zo ys us->xs=ys
 | _,_,_,.nil,.nil=>rfl
 | _,_,_,.cons r t,.cons r' t'=>by rw[r.inj r',zo.inj t t']
section
variable {X:Cx} {pins:List (Addr×Obj)} {σ:St} {H:Hp} {s:Shared} {a:Addr} {xs ys:List V}
theorem SqL.of {K:PySem.W.Frag}(h:H a=some (.lst xs)):SqL K H a xs:=.inl (.inl h)
theorem SqT.of {K:PySem.W.Frag}(h:H a=some (.tup xs)):SqT K H a xs:=.inl (.inl h)
theorem Inv.list (I:Inv X pins σ H s)(h:SqL X.K H a xs):∃its:List Value,zo xs its/\PlainL s.heap a its.toArray/\xs.length<=sizeLine:=by
 rcases h with h | ⟨o,its,n,hk,hc,hd,hs,hz,r⟩
 .obtain⟨z,its,n,r,e⟩:=h.ok I.hok;exact⟨its,r,⟨_,n,e,rfl,rfl,rfl⟩,z⟩
 .refine⟨its.toList,r,⟨o,n,I.kIn a o hk,hc,hd,by simpa using hs⟩,?_⟩;have e:=r.length;simp only[xj4] at e;omega
theorem Inv.tuple (I:Inv X pins σ H s)(h:SqT X.K H a xs):∃its:List Value,zo xs its/\IsTup s.heap a its.toArray/\xs.length<=sizeLine:=by
 rcases h with h | ⟨o,its,n,hk,hc,hs,hz,r⟩
 .obtain⟨z,its,r,p⟩:=h.ok I.hok;exact⟨its,r,p,z⟩
 .refine⟨its.toList,r,⟨o,I.kIn a o hk,hc,n,by simpa using hs⟩,?_⟩;have e:=r.length;simp only[xj4] at e;omega
theorem Inv.list_inj (I:Inv X pins σ H s)(h:SqL X.K H a xs)(h':SqL X.K H a ys):xs=ys:=by
 obtain⟨its,r,⟨o,n,e,_,_,d⟩,_⟩:=I.list h;obtain⟨its',r',⟨o',n',e',_,_,d'⟩,_⟩:=I.list h';rw[e] at e';cases e';rw[d] at d';injection d' with d1 _;have:its=its':=by simpa using xmu Array.toList d1
 subst this;exact r.inj r'
theorem Inv.tuple_inj (I:Inv X pins σ H s)(h:SqT X.K H a xs)(h':SqT X.K H a ys):xs=ys:=by
 obtain⟨its,r,⟨o,e,_,n,d⟩,_⟩:=I.tuple h;obtain⟨its',r',⟨o',e',_,n',d'⟩,_⟩:=I.tuple h';rw[e] at e';cases e';rw[d] at d';injection d' with d1 _;have:its=its':=by simpa using xmu Array.toList d1
 subst this;exact r.inj r'
end
abbrev Cx.wish (X:Cx)(E:Value->Shared->Prop):Cx:={ X with xe:=E }
abbrev Cx.nox (X:Cx):Cx:=X.wish λ_ _=>False
theorem Cx.Ok.wish {X:Cx}(ok:X.Ok)(E:Value->Shared->Prop):(X.wish E).Ok :=⟨ok.mod,ok.kind,ok.glob,ok.blt,ok.above,ok.inj,ok.has,ok.cab,ok.hd,ok.frames,ok.stk,ok.exf,ok.bs,ok.bsz,ok.noex,ok.exfs,ok.funs,ok.frf⟩
theorem Cx.Ok.unwish {X:Cx}{E:Value->Shared->Prop}(ok:(X.wish E).Ok):X.Ok :=⟨ok.mod,ok.kind,ok.glob,ok.blt,ok.above,ok.inj,ok.has,ok.cab,ok.hd,ok.frames,ok.stk,ok.exf,ok.bs,ok.bsz,ok.noex,ok.exfs,ok.funs,ok.frf⟩
section
variable {X:Cx} {pins:List (Addr×Obj)} {σ:St} {H:Hp} {s:Shared} {E:Value->Shared->Prop}
theorem Inv.wish (I:Inv X pins σ H s)(E:Value->Shared->Prop):Inv (X.wish E) pins σ H s:=⟨I.ok.wish E,I.os,I.bare,I.base,I.loc,I.cell,I.free,I.freeC,I.pin,I.hok,I.len⟩
theorem Inv.unwish (I:Inv (X.wish E) pins σ H s):Inv X pins σ H s:=⟨I.ok.unwish,I.os,I.bare,I.base,I.loc,I.cell,I.free,I.freeC,I.pin,I.hok,I.len⟩
theorem SP.unwish (h:SP (X.wish E) pins D f s'):SP X pins D f s':=by
 cases f with
 | next=>obtain⟨σ',H',I,q⟩:=h;exact⟨σ',H',I.unwish,q⟩
 | brk=>obtain⟨σ',H',I,q⟩:=h;exact⟨σ',H',I.unwish,q⟩
 | cont=>obtain⟨σ',H',I,q⟩:=h;exact⟨σ',H',I.unwish,q⟩
 | ret u=>obtain⟨v,σ',H',I,r,q⟩:=h;exact⟨v,σ',H',I.unwish,r,q⟩
theorem PSs.nox {st:List Stmt}{t:TS}(h:PSs X.nox st t):PSs X st t:=λpins s σ H D I hw =>wpAny_mono (@h pins s σ H D (I.wish _) hw) (λ_ _ q=>q.unwish) λ_ _ z=>False.elim z
end
section
variable {X:Cx} {st:Stmt} {rest:List Stmt} {t u:TS} {e:Expr} {te:TE} {pos:Pos}
def xhg:TS:=λD σ H=>D.nx σ H
def xhN (t u:TS):TS:=λD σ H=>t { D with nx:=u D } σ H
theorem xZ:PSs X [] xhg:=λ_ _ σ H _ I h=>wpAny_execs_nil ⟨σ,H,I,h⟩
theorem xc (h1:PS X st t)(h2:PSs X rest u):PSs X (st::rest) (xhN t u):=by
 intro pins s σ H D I h;refine wpAny_execs_cons (thn (@h1 pins s σ H { D with nx:=u D } I h) λf s1 q=>?_);cases f with
 | next =>obtain⟨σ',H',I',q⟩:=q;exact @h2 pins s1 σ' H' D I' q
 | ret v=>exact q
 | brk=>exact q
 | cont=>exact q
theorem xi (h1:PS X st t):PSs X [st] t:=by
 intro pins s σ H D I h;refine wpAny_execs_cons (thn (@h1 pins s σ H D I h) λf s1 q=>?_);cases f with
 | next=>exact wpAny_execs_nil q
 | ret v=>exact q
 | brk=>exact q
 | cont=>exact q
theorem Inv.quiet (I:Inv X pins σ H s):interactive X.env=false:=by simp[interactive,I.ok.kind]
def xc6 (te:TE):TS:=λD σ H=>te σ H λ_ H1=>D.nx σ H1
theorem wW (he:PE X e te)(hs:swapsWith e none pos.line X.env=pure false:=by rfl):PS X (.Expr e pos) (xc6 te):=by intro pins s σ H D I h;exact wpAny_Expr_any (thn (@he pins s σ H _ I h) λv s1 ⟨x,H1,I1,r1,q1⟩=>⟨σ,H1,I1,q1⟩) I.quiet hs
def xhX (te:TE):TS:=λD σ H=>te σ H D.rt
theorem xF (he:PE X e te):PS X (.Return (some e) pos) (xhX te):=by intro pins s σ H D I h;exact wpAny_Return_some (thn (@he pins s σ H _ I h) λv s1 ⟨x,H1,I1,r1,q1⟩=>⟨x,σ,H1,I1,r1,q1⟩)
def xjj (c:TT)(t u:TS):TS:=λD σ H=>c σ H λb H1=>if b=true then t D σ H1 else u D σ H1
theorem yV (hc:PT X c tc)(ha:PSs X a t)(hb:PSs X b u):PS X (.If c a b pos) (xjj tc t u):=by
 intro pins s σ H D I h;refine wpAny_If (thn (@hc pins s σ H _ I h) λd s1 ⟨H1,I1,q1⟩=>?_);cases d with
 | true=>exact @ha pins s1 σ H1 D I1 q1
 | false=>exact @hb pins s1 σ H1 D I1 q1
def xeu:TS:=λ_ _ _=>False
theorem f_:PS X st xeu:=λ_ _ _ _ _ _ h=>h.elim
end
abbrev TG:=V->St->Hp->(St->Hp->Prop)->Prop
abbrev TGs:=List V->St->Hp->(St->Hp->Prop)->Prop
def PG (X:Cx)(target:Expr)(t:TG):Prop :=
 ∀(pins:List (Addr×Obj)) (s:Shared) (σ:St) (H:Hp) (v:V) (u:Value) (Q:St->Hp->Prop),Inv X pins σ H s->RelV v u->t v σ H Q ->
  wpAny (model X.prog X.w) X.A (assign target X.env u) (λ_ s'=>∃ σ' H',Inv X pins σ' H' s'/\Q σ' H') X.xe s
def PGs (X:Cx)(ts:List Expr)(t:TGs):Prop :=
 ∀(pins:List (Addr×Obj)) (s:Shared) (σ:St) (H:Hp) (vs:List V) (us:List Value) (Q:St->Hp->Prop),Inv X pins σ H s->zo vs us->t vs σ H Q ->
  wpAny (model X.prog X.w) X.A (assignInOrder ((assignEach ts X.env).map (·.2)) us) (λ_ s'=>∃ σ' H',Inv X pins σ' H' s'/\Q σ' H') X.xe s
abbrev xi9:=V->V->V->Hp->(Hp->Prop)->Prop
def xjf (X:Cx)(t:xi9):Prop :=
 ∀(pins:List (Addr×Obj)) (s:Shared) (σ:St) (H:Hp) (o i v:V) (ov iv u:Value) (Q:Hp->Prop),Inv X pins σ H s->RelV o ov->RelV i iv->RelV v u->t o i v H Q ->
  wpAny (model X.prog X.w) X.A (setItem ov iv u) (λ_ s'=>∃H',Inv X pins σ H' s'/\Q H') X.xe s
section
variable {X:Cx} {pos:Pos}
def gX (i:Nat):TG:=λv σ H Q=>Q (σ.set i (some v)) H
theorem xT (hN:X.N.Nodup)(hi:X.N[i]? = some x)(hx:Loc X.env.scope x)(hf:X.fn x=true\/X.env.scope.names.lookup x=some .local:=by first | exact .inl rfl | exact .inr rfl | assumption):PG X (.Name x pos) (gX i):=by intro pins s σ H v u Q I r h;exact wpAny_assign_Name (qy I hN hi hx r (λs' I'=>⟨_,H,I',h⟩) hf)
def xhL:TGs:=λvs σ H Q=>vs=[]/\Q σ H
def xdG (t:TG)(u:TGs):TGs:=λvs σ H Q=>∃v r,vs=v::r/\t v σ H λ σ' H'=>u r σ' H' Q
theorem yj:PGs X [] xhL:=by intro pins s σ H vs us Q I r h;obtain⟨e,h⟩:=h;subst e;cases r;exact assignInOrder_nil ⟨σ,H,I,h⟩
theorem xo (h1:PG X e t)(h2:PGs X es u)
  (hs:(assignEach (e::es) X.env).map (·.2)=assign e X.env::(assignEach es X.env).map (·.2):=by rfl):PGs X (e::es) (xdG t u):=by
 intro pins s σ H vs us Q I r h;obtain⟨v,vr,e1,h⟩:=h;subst e1;cases r with
 | cons r rr =>rw[hs];refine assignInOrder_cons (thn (@h1 pins s σ H _ _ _ I r h) λ_ s1 ⟨σ1,H1,I1,q1⟩=>?_);exact @h2 pins s1 σ1 H1 _ _ Q I1 rr q1
def xgR (K:PySem.W.Frag)(n:Nat)(t:TGs):TG:=λv σ H Q=>∃a xs,v=.ref a/\SqT K H a xs/\xs.length=n/\t xs σ H Q
theorem xhc (hc:X.calm=true)(h:PGs X es t)
  (hn:(assignEach es X.env).length=n:=by rfl) (hst:(assignEach es X.env).findIdx? (·.1)=none:=by rfl):PG X (.Tuple es k pos) (xgR X.K n t):=by
 intro pins s σ H v u Q I r hw;obtain⟨a,xs,e1,hq,hl,hw⟩:=hw;subst e1;cases r;obtain⟨its,rv,ht,hz⟩:=I.tuple hq;refine assign_Tuple_tuple (I.ok.hd hc) ht (by simp[hn,<-hl,rv.length]) hst λh' hx=>?_;have I1:Inv X pins σ H { s with heap:=h' }:=I.kept (t':=s.toks) λb o e=>hx b o (xmq (Heap.lt_size e)) e;exact @h pins _ σ H xs _ Q I1 (by simpa using rv) hw
def xjh (to ti:TE)(t:xi9):TG:=λv σ H Q=>to σ H λo H1=>ti σ H1 λi H2=>t o i v H2 λH3=>Q σ H3
theorem nX (ho:PE X o to)(hi:PE X i ti)(hs:xjf X t)
  (ha:∀v,assign (.Subscript o i pos) X.env v=(do
   let ov <-holding [v] (eval o X.env)
   let iv <-holding [v,ov] (eval i X.env)
   standAt pos
   holding [v,ov,iv] (setItem ov iv v)
   release [v,ov,iv] []):=by intro _;rfl):PG X (.Subscript o i pos) (xjh to ti t):=by
 intro pins s σ H v u Q I r h;rw[ha];refine wpAny_bind (wpAny_holding (thn (@ho pins s σ H _ I h) λov s1 ⟨x,H1,I1,r1,q1⟩=>?_));refine wpAny_bind (wpAny_holding (thn (@hi pins s1 σ H1 _ I1 q1) λiv s2 ⟨y,H2,I2,r2,q2⟩=>?_));refine wpAny_bind (wpAny_standAt (wpAny_bind (wpAny_holding (thn (@hs pins s2 σ H2 x y v ov iv u _ I2 r1 r2 r q2) λ_ s3 ⟨H3,I3,q3⟩=>?_))));exact wpAny_release ⟨σ,H3,I3,q3⟩
def xcC (te:TE)(g:TG):TS:=λD σ H=>te σ H λx H1=>g x σ H1 D.nx
theorem zU (he:PE X e te)(hg:PG X tg g)(hs:swapsWithSole [tg] e pos.line X.env=pure false:=by rfl)(hw:swappedStores [tg] e X.env=pure none:=by rfl)
  (h1:(assignEach [tg] X.env).map (·.2)=[assign tg X.env]:=by rfl):PS X (.Assign [tg] e pos) (xcC te g):=by
 intro pins s σ H D I h;refine wpAny_Assign_stores (thn (@he pins s σ H _ I h) λv s1 ⟨x,H1,I1,r1,q1⟩=>?_) hs hw;rw[h1];exact thn (@hg pins s1 σ H1 x v _ I1 r1 q1) λ_ s2 q=>q
theorem fv (hN:X.N.Nodup)(hi:X.N[i]? = some x)(hx:Loc X.env.scope x)(he:PE X e te)(hs:swapsWith e (some (.Name x pos')) pos.line X.env=pure false:=by rfl)(hf:X.fn x=true\/X.env.scope.names.lookup x=some .local:=by first | exact .inl rfl | exact .inr rfl | assumption) :
  PS X (.Assign [.Name x pos'] e pos) (xcC te (gX i)):=by
 intro pins s σ H D I h;refine wpAny_Assign_Name (thn (@he pins s σ H _ I h) λv s1 ⟨y,H1,I1,r1,q1⟩=>?_) hs;exact qy I1 hN hi hx r1 (λs2 I2=>⟨_,H1,I2,q1⟩) hf
def xjq (i j:Nat)(ta:TA):TS:=λD σ H=>ta σ H λvs H1=>∃v w,vs=[v,w]/\D.nx ((σ.set i (some v)).set j (some w)) H1
theorem jM (hc:X.calm=true)(hN:X.N.Nodup)(hi:X.N[i]? = some x)(hj:X.N[j]? = some y)(hij:i≠j)
  (hx:X.env.scope.names.lookup x=some .local) (hy:X.env.scope.names.lookup y=some .local) (ha:PA X [a,b] ta)
  (hw:swappedStores [.Tuple [.Name x px,.Name y py] kt pt] (.Tuple [a,b] k2 pt2) X.env=pure (some [x,y]))
  (hs:swapsWithSole [.Tuple [.Name x px,.Name y py] kt pt] (.Tuple [a,b] k2 pt2) pos.line X.env=pure false:=by rfl) :
  PS X (.Assign [.Tuple [.Name x px,.Name y py] kt pt] (.Tuple [a,b] k2 pt2) pos) (xjq i j ta):=by
 intro pins s σ H D I h;rw[exec_Assign_arm];refine wpAny_bind (wpAny_standAt ?_);rw[hs];refine wpAny_bind (wpAny_pure ?_);rw[if_neg (by decide)];refine wpAny_bind (Tuple_ (thn (@ha _ pins s σ H _ I h) λus s1 ⟨vs,H1,I1,r1,q1⟩=>?_));obtain⟨v,w,e1,q1⟩:=q1;subst e1;obtain⟨u1,u2,rfl,rv,rw'⟩:∃u1 u2,us=[u1,u2]/\RelV v u1/\RelV w u2:=by
  cases r1 with
  | cons p q =>
   cases q with
   | cons p' q' =>cases q';exact⟨_,_,rfl,p,p'⟩
 refine wpAny_newObj_type ?_ (by show 2<=sizeLine;decide);have I2:Inv X pins σ H1 { s1 with heap:=s1.heap.push { cls:=.type "tuple", data:=.seq [u1,u2].toArray } }:=I1.kept (t':=s1.toks) λb o e=>Heap.get?_push_of_some _ e;rw[hw];refine wpAny_bind (wpAny_pure ?_);show wpAny (model X.prog X.w) X.A (do rule "assign.swapped-stores"; let items <-unpackItems (.ref s1.heap.objs.size) 2 none;assignInOrder [λv=>bindName X.env y v,λv=>bindName X.env x v] items.reverse;pure Flow.next) _ _ _;refine wpAny_bind (wpAny_rule (wpAny_bind (unpackItems_tuple (items := #[u1,u2]) (I.ok.hd hc) (IsTup.new s1.heap _) λh' hx'=>?_)));have I3:=I2.kept (h':=h') (t':=s1.toks) λb o e=>hx' b o (xmq (Heap.lt_size e)) e;show wpAny _ _ (assignInOrder [λv=>bindName X.env y v,λv=>bindName X.env x v] [u2,u1] >>= λ_=>pure Flow.next) _ _ _;refine wpAny_bind (assignInOrder_cons (wpAny_bindName (qy I3 hN hj (.inl hy) rw' (λs2 I4=>?_) (.inr hy))));refine assignInOrder_cons (wpAny_bindName (qy I4 hN hi (.inl hx) rv (λs3 I5=>assignInOrder_nil (wpAny_pure ?_)) (.inr hx)));rw[List.set_comm _ _ (Ne.symm hij)] at I5;exact⟨_,H1,I5,q1⟩
end
section
variable {X:Cx} {pos:Pos}
def xei (c:TT)(tb:TS):TS:=λD σ H=>∃W:Nat->St->Hp->Prop,(∃m,W m σ H)/\∀m σ H,W m σ H ->
 c σ H λb H1=>if b=true then ∃N:St->Hp->Prop,(∀ σ' H',N σ' H'->∃m',m' < m/\W m' σ' H')/\tb { D with nx:=N,ct:=N,bk:=D.nx } σ H1 else D.nx σ H1
theorem fW (hp:PassesOwn (model X.prog X.w) X.A X.env X.xe)(hc:PT X c tc)(hb:PSs X body tb):PS X (.While c body [] pos) (xei tc tb):=by
 intro pins s σ H D I h;obtain⟨W,⟨m0,w0⟩,turn⟩:=h;refine wpAny_While (codeAny_whileLoop (λn s'=>∃ σ' H',Inv X pins σ' H' s'/\W n σ' H') ?_ m0 ⟨σ,H,I,w0⟩);rintro n s1 ⟨σ1,H1,I1,w1⟩;refine wpAny_passesOwn hp (thn (@hc pins s1 σ1 H1 _ I1 (turn n σ1 H1 w1)) λb s2 ⟨H2,I2,q2⟩=>?_);cases b with
 | true =>
  obtain⟨N,hN,q2⟩:=q2;rw[if_pos rfl];refine wpAny_passesOwn hp (thn (@hb pins s2 σ1 H2 _ I2 q2) λf s3 q3=>?_);cases f with
  | next =>obtain⟨σ3,H3,I3,n3⟩:=q3;obtain⟨m',hm,w3⟩:=hN σ3 H3 n3;exact⟨m',hm,σ3,H3,I3,w3⟩
  | cont =>obtain⟨σ3,H3,I3,n3⟩:=q3;obtain⟨m',hm,w3⟩:=hN σ3 H3 n3;exact⟨m',hm,σ3,H3,I3,w3⟩
  | brk=>exact q3
  | ret v=>exact q3
 | false =>rw[if_neg xj8];exact wpAny_execs_nil ⟨σ1,H2,I2,q2⟩
end
structure It where
 go:Nat->Hp->Prop
 yld:Nat->Hp->V->Hp->Prop
 stop:Nat->Hp->Prop
def mG (X:Cx)(pins:List (Addr×Obj))(H:Hp)(b:Addr):Prop :=H b=none/\b≠X.env.locals/\b∉X.fs/\(b∈X.ex\/X.s₀.heap.objs.size<=b)/\(∀x c,X.env.cells.lookup x=some c->c≠b)/\∀p∈X.pn++pins,p.1≠b
theorem Inv.fpOk (I:Inv X pins σ H s)(hb:s.heap.objs.size<=b)(hn:H' b=none):mG X pins H' b:=by
 refine⟨hn,xmp (xmi I.lt hb),I.nofs hb,.inr (xmf I.sz hb),λx c e z=>?_,λp hp z=>?_⟩
 .obtain⟨v,q⟩:=I.cell x c e;exact absurd (xmi q.lt (by rw[z];exact hb)) (xmg _)
 .exact absurd (xmi (Heap.lt_size (I.pin p hp).1) (by rw[z];exact hb)) (xmg _)
structure Turn (P:Program)(w:World)(K:PySem.W.Frag)(tg:Expr)(J:It)(fp:List Addr)(it:Addr)(tn:Nat->Heap->Prop):Prop where
 mem:it∈fp
 obj:∀i h,tn i h->∀b∈fp,∃o,h.get? b=some o/\∀v,o.data≠.cell v
 keep:∀i h h',tn i h->(∀b∈fp,∀o,h.get? b=some o->h'.get? b=some o)->tn i h'
 item:∀(X:Cx),X.prog=P->X.w=w->X.K=K->X.calm=true->∀(i:Nat) (pins:List (Addr×Obj)) (s:Shared) (σ:St) (H:Hp) (E:Value->Shared->Prop),Inv X pins σ H s->(∀b∈fp,mG X pins H b)->tn i s.heap->J.go i H ->
  wpAny (model P w) X.A (pyNext (.ref it)) (λr s1=>∃u,r=some u /\
   wpAny (model P w) X.A (letOwnedTupleGo tg (.ref it) u) (λ_ s2=>∃x H',Inv X pins σ H' s2/\RelV x u/\J.yld i H x H'/\tn (i+1) s2.heap/\∀b∈fp,H' b=none) E s1) E s
 done:∀(X:Cx),X.prog=P->X.w=w->X.K=K->X.calm=true->∀(i:Nat) (pins:List (Addr×Obj)) (s:Shared) (σ:St) (H:Hp) (E:Value->Shared->Prop),Inv X pins σ H s->(∀b∈fp,mG X pins H b)->tn i s.heap->J.stop i H ->
  wpAny (model P w) X.A (pyNext (.ref it)) (λr s1=>r=none/\Inv X pins σ H s1) E s
 self:∀(A:Around) (i:Nat) (s:Shared) (Q:Value->Shared->Prop) (E:Value->Shared->Prop),tn i s.heap->Q (.ref it) s->wpAny (model P w) A (pyIter (.ref it)) Q E s
abbrev TI:=St->Hp->(It->Hp->Prop)->Prop
def PIE (X:Cx)(pins:List (Addr×Obj))(σ:St)(tg:Expr)(R:It->Hp->Prop)(itv:Value)(s2:Shared):Prop :=∃(it:Addr) (fp:List Addr) (tn:Nat->Heap->Prop) (J:It) (H':Hp),itv=.ref it/\Inv X pins σ H' s2/\Turn X.prog X.w X.K tg J fp it tn/\tn 0 s2.heap/\(∀b∈fp,mG X pins H' b)/\R J H'
def PI (X:Cx)(tg iter:Expr)(wi:TI):Prop :=
 ∀(pins:List (Addr×Obj)) (s:Shared) (σ:St) (H:Hp) (R:It->Hp->Prop),Inv X pins σ H s->wi σ H R ->
  wpAny (model X.prog X.w) X.A (eval iter X.env) (λv s1=>wpAny (model X.prog X.w) X.A (pyIter v) (PIE X pins σ tg R) X.xe s1) X.xe s
theorem xfI (ho:s.heap.get? it=some o)(hc:o.cls=.type n)(hd:o.data=.fields vs)
  (hn:["enumerate", "zip", "dict_itemiterator", "dict_reverseitemiterator", "odict_iterator", "itertools.zip_longest", "itertools.pairwise"].contains n=false) (hQ:Q () s):wpAny M A (letOwnedTupleGo tg (.ref it) u) Q E s:=by
 unfold letOwnedTupleGo;cases tg<;>first
  | exact wpAny_pure hQ
  | (cases u<;>first
    | exact wpAny_pure hQ
    | (refine wpAny_bind (wpAny_load ho ?_)
       rw[hc,hd];show wpAny M A (if (["enumerate", "zip", "dict_itemiterator", "dict_reverseitemiterator", "odict_iterator", "itertools.zip_longest", "itertools.pairwise"].contains n&&vs[0]? == some (rawInt _))=true then _ else _) Q E s;rw[if_neg (by intro h;rw[hn,Bool.false_and] at h;cases h)];exact wpAny_pure hQ))
def Itl (K:PySem.W.Frag)(a:Addr):It :=⟨λi H=>∃xs x,SqL K H a xs/\xs[i]? = some x,λi H x H'=>H'=H/\∀xs,SqL K H a xs->xs[i]? = some x,λi H=>∃xs,SqL K H a xs/\xs.length<=i⟩
def Itt (K:PySem.W.Frag)(a:Addr):It :=⟨λi H=>∃xs x,SqT K H a xs/\xs[i]? = some x,λi H x H'=>H'=H/\∀xs,SqT K H a xs->xs[i]? = some x,λi H=>∃xs,SqT K H a xs/\xs.length<=i⟩
def Itr (lo:Int)(n:Nat):It:=⟨λi _=>i<n,λi H x H'=>H'=H/\x=.int (lo+i),λi _=>n<=i⟩
theorem xaA {P:Program}{w:World}{K:PySem.W.Frag}{tg:Expr}(a it:Addr):Turn P w K tg (Itl K a) [it] it (λi h=>h.IsListIter it a i) where
 mem:=by simp
 obj:=λi h st b hb=>by
  have e:b=it:=by simpa using hb
  subst e;obtain⟨o,e,c,d⟩:=st;exact⟨o,e,λv z=>by rw[d] at z;cases z⟩
 keep:=λi h h' st k=>st.at λo e=>k it (by simp) o e
 item:=by intro X hP hw hK hc i pins s σ H E I hf st hg;subst hP hw hK;obtain⟨xs,x,hq,hx⟩:=hg;obtain⟨its,rv,p,hz⟩:=I.list hq;obtain⟨u,hu,ru⟩:=rv.get hx;obtain⟨f0,f1,f2,f3,f4,f5⟩:=hf it (by simp);refine wpAny_pyNext_list_item st p.isList (x:=u) (by simpa using hu) λh' st' sb=>?_;have I1:Inv X pins σ H { s with heap:=h' }:=I.turned (t':=s.toks) (λb o hb e=>(sb.2 b hb).trans e) f0 f1 f3 f4 f5;obtain⟨o,e,c,d⟩:=id st';exact⟨u,rfl,xfI (s:={ s with heap:=h' }) e c d (by decide) ⟨x,H,I1,ru,⟨rfl,λys hy=>by rw[I.list_inj hy hq];exact hx⟩,st',λb hb=>(hf b hb).1⟩⟩
 done:=by intro X hP hw hK hc i pins s σ H E I hf st hg;subst hP hw hK;obtain⟨xs,hq,hx⟩:=hg;obtain⟨its,rv,p,hz⟩:=I.list hq;obtain⟨f0,f1,f2,f3,f4,f5⟩:=hf it (by simp);have hl:=rv.length;exact wpAny_pyNext_list_end (I.ok.hd hc) st p.isList (by simp;omega) λh' eb=>⟨rfl,I.turned (t':=s.toks) (λb o hb e=>eb b o hb e) f0 f1 f3 f4 f5⟩
 self:=λ_ _ _ _ _ st h=>wpAny_pyIter_listiter st h
theorem lL {P:Program}{w:World}{K:PySem.W.Frag}{tg:Expr}(a it:Addr):Turn P w K tg (Itt K a) [it] it (λi h=>h.IsTupleIter it a i) where
 mem:=by simp
 obj:=λi h st b hb=>by
  have e:b=it:=by simpa using hb
  subst e;obtain⟨o,e,c,d⟩:=st;exact⟨o,e,λv z=>by rw[d] at z;cases z⟩
 keep:=λi h h' st k=>st.at λo e=>k it (by simp) o e
 item:=by intro X hP hw hK hc i pins s σ H E I hf st hg;subst hP hw hK;obtain⟨xs,x,hq,hx⟩:=hg;obtain⟨its,rv,p,hz⟩:=I.tuple hq;obtain⟨u,hu,ru⟩:=rv.get hx;obtain⟨f0,f1,f2,f3,f4,f5⟩:=hf it (by simp);refine wpAny_pyNext_tuple_item st (show s.heap.IsTuple a its.toArray from p) (x:=u) (by simpa using hu) λh' st' sb=>?_;have I1:Inv X pins σ H { s with heap:=h' }:=I.turned (t':=s.toks) (λb o hb e=>(sb.2 b hb).trans e) f0 f1 f3 f4 f5;obtain⟨o,e,c,d⟩:=id st';exact⟨u,rfl,xfI (s:={ s with heap:=h' }) e c d (by decide) ⟨x,H,I1,ru,⟨rfl,λys hy=>by rw[I.tuple_inj hy hq];exact hx⟩,st',λb hb=>(hf b hb).1⟩⟩
 done:=by intro X hP hw hK hc i pins s σ H E I hf st hg;subst hP hw hK;obtain⟨xs,hq,hx⟩:=hg;obtain⟨its,rv,p,hz⟩:=I.tuple hq;obtain⟨f0,f1,f2,f3,f4,f5⟩:=hf it (by simp);have hl:=rv.length;exact wpAny_pyNext_tuple_end (I.ok.hd hc) st (show s.heap.IsTuple a its.toArray from p) (by simp;omega) λh' eb=>⟨rfl,I.turned (t':=s.toks) (λb o hb e=>eb b o hb e) f0 f1 f3 f4 f5⟩
 self:=λ_ _ _ _ _ st h=>wpAny_pyIter_tupleiter st h
theorem lQ {P:Program}{w:World}{K:PySem.W.Frag}{tg:Expr}(it:Addr)(lo:Int)(n:Nat):Turn P w K tg (Itr lo n) [it] it (λi h=>IsRangeIter h it (lo+(i:Nat)*1) ((n:Int)-(i:Nat)) 1) where
 mem:=by simp
 obj:=λi h st b hb=>by
  have e:b=it:=by simpa using hb
  subst e;exact⟨_,st,λv z=>by have z':Data.fields _=Data.cell v:=z;cases z'⟩
 keep:=λi h h' st k=>k it (by simp) _ st
 item:=by intro X hP hw hK hc i pins s σ H E I hf st hg;subst hP hw hK;obtain⟨f0,f1,f2,f3,f4,f5⟩:=hf it (by simp);have W:=Walks.range (prog:=X.prog) (w:=X.w) (I.ok.hd hc) it lo 1 n;refine W.item i s _ _ hg st λv h' tk hv st' kk=>?_;obtain⟨t,rfl⟩:=hv;have I1:Inv X pins σ H { s with heap:=h',toks:=tk }:=I.turned (λb o hb e=>kk b o (by simpa using hb) e) f0 f1 f3 f4 f5;refine⟨_,rfl,xfI (s:={ s with heap:=h',toks:=tk }) (n := "range_iterator") st' rfl rfl (by decide) ⟨.int (lo+i),H,I1,⟨t,?_⟩,⟨rfl,rfl⟩,st',λb hb=>(hf b hb).1⟩⟩;rw[xkG]
 done:=by intro X hP hw hK hc i pins s σ H E I hf st hg;subst hP hw hK;obtain⟨f0,f1,f2,f3,f4,f5⟩:=hf it (by simp);exact wpAny_pyNext_range_end (I.ok.hd hc) st (by have:n<=i:=hg;omega) λh' eb=>⟨rfl,I.turned (t':=s.toks) (λb o hb e=>eb b o hb e) f0 f1 f3 f4 f5⟩
 self:=λ_ _ _ _ _ st h=>wpAny_pyIter_rangeiter st h
end L2
namespace L2
open PySem PySem.Spec PyProof.Rows
section
variable {X:Cx} {tg:Expr}
def xic (K:PySem.W.Frag)(tl:TE):TI:=λ σ H R=>tl σ H λx H1=>∃a,x=.ref a/\(∃xs,SqL K H1 a xs)/\R (Itl K a) H1
theorem pP {pins:List (Addr×Obj)}{σ:St}{H:Hp}{s:Shared}{R:It->Hp->Prop}{E:Value->Shared->Prop}{lo hi:Int}{t u v:Tok}{tk:Nat}(I:Inv X pins σ H s)(h1:-(2 ^ 62)<=lo)(h2:lo<2 ^ 62)(h3:-(2 ^ 62)<=hi)(h4:hi<2 ^ 62)
  (q:R (Itr lo (hi-lo).toNat) H):wpAny (model X.prog X.w) X.A (pyIter (.ref s.heap.objs.size)) (PIE X pins σ tg R) E { s with heap:=s.heap.push { cls:=.type "range", data:=.fields #[.int lo t,.int hi u,.int 1 v] },toks:=tk }:=by
 refine wpAny_pyIter_range (IsRange.new ..) (small_one h1 h2 h3 h4) ?_;have I1:Inv X pins σ H { s with heap:=s.heap.push { cls:=.type "range", data:=.fields #[.int lo t,.int hi u,.int 1 v] },toks:=tk }:=I.kept λb o e=>Heap.get?_push_of_some _ e;refine⟨(s.heap.push { cls:=.type "range", data:=.fields #[.int lo t,.int hi u,.int 1 v] }).objs.size,[(s.heap.push { cls:=.type "range", data:=.fields #[.int lo t,.int hi u,.int 1 v] }).objs.size],_,_,H,rfl,
  I1.kept (t':=tk) λb o e=>Heap.get?_push_of_some _ e,lQ _ lo (hi-lo).toNat,?_,λb hb=>?_,q⟩
 .have e1:lo+((0:Nat):Int)*1=lo:=by simp
  have e2:(((hi-lo).toNat:Nat):Int)-((0:Nat):Int)=Builtin.Range.rangeSize lo hi 1:=by rw[rangeSize_one];split<;>omega
  show IsRangeIter _ _ (lo+((0:Nat):Int)*1) ((((hi-lo).toNat:Nat):Int)-((0:Nat):Int)) 1;rw[e1,e2];exact Heap.get?_push_size _ rfl
 .have e:b=(s.heap.push { cls:=.type "range", data:=.fields #[.int lo t,.int hi u,.int 1 v] }).objs.size:=by simpa using hb
  subst e;exact I1.fpOk (xmd _) (I1.hok.fresh (xmd _))
def xhz (ta:TA):TI:=λ σ H R=>ta σ H λvs H1=>∃j:Int,vs=[.int j]/\-(2 ^ 62)<=j/\j<2 ^ 62/\R (Itr 0 j.toNat) H1
def xgq (ta:TA):TI:=λ σ H R=>ta σ H λvs H1=>∃i j:Int,vs=[.int i,.int j]/\(-(2 ^ 62)<=i/\i<2 ^ 62/\-(2 ^ 62)<=j/\j<2 ^ 62)/\R (Itr i (j-i).toNat) H1
theorem aa {a:Expr}{ta:TA}{p pos:Pos}(hg:Gl X "range")(hm:X.mg "range" = none)(ha:PA X [a] ta)(hs:starEach [a] X.env=[(false,eval a X.env)]:=by rfl):PI X tg (.Call (.Name "range" p) [a] [] pos) (xhz ta):=by
 intro pins s σ H R I h;refine Call_ (dQ I hg hm boot_range (PyProof.Rows.callWith_type1 (thn (@ha pos pins s σ H _ I h) λus s1 ⟨vs,H1,I1,r1,q1⟩=>?_) hs rfl));obtain⟨j,e,q1,q2,q⟩:=q1;subst e;cases r1 with
 | cons r rr =>cases rr;obtain⟨t,rfl⟩:=r;exact call_range_1 (pP I1 (by omega) (by omega) q1 q2 (by simpa using q))
theorem bL (hg:Gl X "range")(hm:X.mg "range" = none)(ha:PA X [a,b] ta)(hs:starEach [a,b] X.env=[(false,eval a X.env),(false,eval b X.env)]:=by rfl)(hs2:starEach [b] X.env=[(false,eval b X.env)]:=by rfl) :
  PI X tg (.Call (.Name "range" p) [a,b] [] pos) (xgq ta):=by
 intro pins s σ H R I h;refine Call_ (dQ I hg hm boot_range (PyProof.Rows.callWith_type1 (thn (@ha pos pins s σ H _ I h) λus s1 ⟨vs,H1,I1,r1,q1⟩=>?_) (by rw[hs,hs2]) (by rw[hs2];rfl)));obtain⟨i,j,e,⟨q1,q2,q3,q4⟩,q⟩:=q1;subst e;cases r1 with
 | cons r rr =>
  cases rr with
  | cons r' rr =>cases rr;obtain⟨t,rfl⟩:=r;obtain⟨t',rfl⟩:=r';exact call_range_2 (pP I1 q1 q2 q3 q4 q)
def xi7 (wi:TI)(g:TG)(tb:TS):TS:=λD σ H=>wi σ H λJ H1=>∃W:Nat->Nat->St->Hp->Prop,(∃m,W 0 m σ H1)/\∀i m σ H,W i m σ H ->
 (J.stop i H/\D.nx σ H)\/(J.go i H/\∃N:St->Hp->Prop,(∀ σ' H',N σ' H'->∃m',m' < m/\W (i+1) m' σ' H')/\∀x H',J.yld i H x H'->g x σ H' λ σ2 H2=>tb { D with nx:=N,ct:=N,bk:=D.nx } σ2 H2)
def fE (fp:List Addr)(h:Heap):List (Addr×Obj):=fp.filterMap λb=>(h.get? b).map λo=>(b,o)
theorem uV (hb:b∈fp)(e:h.get? b=some o):(b,o)∈fE fp h:=xlM.mpr ⟨b,hb,by rw[e];rfl⟩
theorem mI (hp:p∈fE fp h):p.1∈fp/\h.get? p.1=some p.2:=by
 obtain⟨b,hb,e⟩:=xlM.mp hp;cases q:h.get? b with
 | none=>rw[q] at e;cases e
 | some o =>rw[q] at e;have e':(b,o)=p:=xmt e;subst e';exact⟨hb,q⟩
theorem Inv.pinned (I:Inv X pins σ H s)(hf:∀b∈fp,mG X pins H b)(ho:∀b∈fp,∃o,s.heap.get? b=some o/\∀v,o.data≠.cell v):Inv X (pins++fE fp s.heap) σ H s :=
 I.pins_of λp hp=>(xlF.mp hp).elim (λz=>I.pin p (xlH _ z)) λz=>by obtain⟨hb,e⟩:=mI z;obtain⟨f0,f1,f2,_⟩:=hf p.1 hb;obtain⟨o,e',d⟩:=ho p.1 hb;rw[e] at e';cases e';exact⟨e,f0,f1,f2,d⟩
theorem Inv.unpinned (I:Inv X (pins++pl) σ H s):Inv X pins σ H s:=I.pins_of λp hp=>I.pin p (xlH _ (xlG _ hp))
theorem zR (hp:PassesOwn (model X.prog X.w) X.A X.env X.xe)(hc:X.calm=true)(hi:PI X tg iter wi)(hg:PG X tg g)(hb:PSs X body tb)
  (hs:∀x,foldedSetIterable iter X.env x=pure x:=by intro _;rfl):PS X (.For tg iter body [] pos) (xi7 wi g tb):=by
 intro pins s σ H D I h;refine wpAny_For (thn (@hi pins s σ H _ I h) λv s1 h1=>thn h1 λitv s2 h2=>?_) hs;obtain⟨it,fp,tn,J,H2,e,I2,T,st2,f2,W,⟨m0,w0⟩,turn⟩:=h2;subst e;have stat:∀ {H':Hp},(∀b∈fp,H' b=none)->∀b∈fp,mG X pins H' b:=λhn b hb=>⟨hn b hb,(f2 b hb).2⟩
 refine codeAny_forLoop_any (λn s'=>∃i σ' H',Inv X pins σ' H' s'/\tn i s'.heap/\(∀b∈fp,H' b=none)/\W i n σ' H') ?_ m0 ⟨0,σ,H2,I2,st2,λb hb=>(f2 b hb).1,w0⟩;rintro n s3 ⟨i,σ3,H3,I3,st3,fr3,w3⟩;rcases turn i n σ3 H3 w3 with ⟨stop,qn⟩ | ⟨go,N,hN,step⟩
 .refine wpAny_passesOwn hp (thn (T.done X rfl rfl rfl hc i pins s3 σ3 H3 X.xe I3 (stat fr3) st3 stop) λr s4 ⟨hr,I4⟩=>?_);subst hr;exact wpAny_execs_nil ⟨σ3,H3,I4,qn⟩
 .refine wpAny_passesOwn hp (thn (T.item X rfl rfl rfl hc i pins s3 σ3 H3 X.xe I3 (stat fr3) st3 go) λr s4 ⟨u,hr,h4⟩=>?_);subst hr;refine wpAny_passesOwn hp (thn h4 λ_ s5 ⟨x,H5,I5,r5,y5,st5,fr5⟩=>?_);have I5':=I5.pinned (stat fr5) (T.obj _ _ st5);refine wpAny_passesOwn hp (thn (hg _ s5 σ3 H5 x u _ I5' r5 (step x H5 y5)) λ_ s6 ⟨σ6,H6,I6,q6⟩=>?_);refine wpAny_passesOwn hp (thn (@hb _ s6 σ6 H6 _ I6 q6) λf s7 q7=>?_);have again:∀ {σ7:St} {H7:Hp},Inv X (pins++fE fp s5.heap) σ7 H7 s7->N σ7 H7->∃m,m<n/\∃i σ' H',Inv X pins σ' H' s7/\tn i s7.heap/\(∀b∈fp,H' b=none)/\W i m σ' H':=λ {σ7 H7} I7 n7=>by obtain⟨m',hm,w7⟩:=hN σ7 H7 n7;refine⟨m',hm,i+1,σ7,H7,I7.unpinned,T.keep _ _ _ st5 λb hb o e=>(I7.pin (b,o) (xlH _ (xlH _ (uV hb e)))).1,λb hb=>?_,w7⟩;obtain⟨o,e,d⟩:=T.obj _ _ st5 b hb;exact(I7.pin (b,o) (xlH _ (xlH _ (uV hb e)))).2.1
  cases f with
  | next=>obtain⟨σ7,H7,I7,n7⟩:=q7;exact again I7 n7
  | cont=>obtain⟨σ7,H7,I7,n7⟩:=q7;exact again I7 n7
  | brk=>obtain⟨σ7,H7,I7,q7⟩:=q7;exact⟨σ7,H7,I7.unpinned,q7⟩
  | ret v=>obtain⟨x7,σ7,H7,I7,r7,q7⟩:=q7;exact⟨x7,σ7,H7,I7.unpinned,r7,q7⟩
end
end L2
namespace L2
open PySem PySem.Spec PyProof.Rows
abbrev R2:=V->V->Hp->VK->Prop
def OpR (X:Cx)(f:Value->Value->Sem Value)(r:R2):Prop :=
 ∀(pins:List (Addr×Obj)) (s:Shared) (σ:St) (H:Hp) (x y:V) (v u:Value) (Q:VK),Inv X pins σ H s->RelV x v->RelV y u->r x y H Q ->
  wpAny (model X.prog X.w) X.A (f v u) (EP X pins σ Q) X.xe s
def UnR (X:Cx)(f:Value->Sem Value)(r:V->Hp->VK->Prop):Prop :=
 ∀(pins:List (Addr×Obj)) (s:Shared) (σ:St) (H:Hp) (x:V) (v:Value) (Q:VK),Inv X pins σ H s->RelV x v->r x H Q ->
  wpAny (model X.prog X.w) X.A (f v) (EP X pins σ Q) X.xe s
def qh (X:Cx)(f:Value)(r:List V->Hp->VK->Prop):Prop :=
 ∀(pins:List (Addr×Obj)) (s:Shared) (σ:St) (H:Hp) (xs:List V) (us:List Value) (Q:VK),Inv X pins σ H s->zo xs us->r xs H Q ->
  wpAny (model X.prog X.w) X.A (call f us) (EP X pins σ Q) X.xe s
def tOp (r:R2)(ta tb:TE):TE:=λ σ H Q=>ta σ H λx H1=>tb σ H1 λy H2=>r x y H2 Q
def tUn (r:V->Hp->VK->Prop)(ta:TE):TE:=λ σ H Q=>ta σ H λx H1=>r x H1 Q
def rI (C:Int->Int->Prop)(g:Int->Int->V):R2:=λx y H Q=>∃i j,x=.int i/\y=.int j/\C i j/\Q (g i j) H
def rI0 (g:Int->Int->V):R2:=λx y H Q=>∃i j,x=.int i/\y=.int j/\Q (g i j) H
def rU (g:Int->V):V->Hp->VK->Prop:=λx H Q=>∃i,x=.int i/\Q (g i) H
section
variable {X:Cx} {a b c:Expr} {ta tb tc:TE} {pos:Pos}
theorem xik (ha:PE X a ta)(hb:PE X b tb){pins:List (Addr×Obj)}{s:Shared}{σ:St}{H:Hp}{R:V->V->Hp->Prop}(I:Inv X pins σ H s)
  (h:ta σ H λx H1=>tb σ H1 λy H2=>R x y H2) {Q:Value->Shared->Prop} {f:Value->Value->Sem Value}
  (hf:∀v u s2 x y H2,Inv X pins σ H2 s2->RelV x v->RelV y u->R x y H2->wpAny (model X.prog X.w) X.A (f v u) Q X.xe s2) :
  wpAny (model X.prog X.w) X.A (eval a X.env) (λv s₁=>wpAny (model X.prog X.w) X.A (eval b X.env) (λu s₂=>wpAny (model X.prog X.w) X.A (f v u) Q X.xe s₂) X.xe s₁) X.xe s:=by
 refine thn (@ha pins s σ H _ I h) λv s1 ⟨x,H1,I1,r1,q1⟩=>?_;refine thn (@hb pins s1 σ H1 _ I1 q1) λu s2 ⟨y,H2,I2,r2,q2⟩=>?_;exact hf v u s2 x y H2 I2 r1 r2 q2
theorem xE {op:Operator}{r:R2}(ho:OpR X (binaryOp op) r)(ha:PE X a ta)(hb:PE X b tb):PE X (.BinOp a op b pos) (tOp r ta tb):=by intro pins s σ H Q I h;exact wpAny_BinOp (xik ha hb I h λv u s2 x y H2 I2 rx ry q=>@ho pins s2 σ H2 x y v u Q I2 rx ry q)
theorem uC (ho:UnR X (unaryOp op) r)(ha:PE X a ta):PE X (.UnaryOp op a pos) (tUn r ta):=by intro pins s σ H Q I h;exact UnaryOp_ (thn (@ha pins s σ H _ I h) λv s1 ⟨x,H1,I1,r1,q1⟩=>@ho pins s1 σ H1 x v Q I1 r1 q1)
theorem opI {f:Value->Value->Sem Value}{C:Int->Int->Prop}{g:Int->Int->Int}
  (rule:∀(i j:Int) (t u:Tok) (s:Shared) (Q:Value->Shared->Prop) (E:Value->Shared->Prop),C i j->Q (.int (g i j) s.toks) { s with toks:=s.toks+1 }->wpAny (model X.prog X.w) X.A (f (.int i t) (.int j u)) Q E s) :
  OpR X f (rI C λi j=>.int (g i j)):=by
 intro pins s σ H x y v u Q I rx ry h;obtain⟨i,j,rfl,rfl,hc,q⟩:=h;obtain⟨t,rfl⟩:=rx;obtain⟨t',rfl⟩:=ry;exact rule i j t t' s _ _ hc ⟨.int (g i j),H,I.tok _,⟨_,rfl⟩,q⟩
theorem xi0 {f:Value->Value->Sem Value}{g:Int->Int->Int}
  (rule:∀(i j:Int) (t u:Tok) (s:Shared) (Q:Value->Shared->Prop) (E:Value->Shared->Prop),Q (.int (g i j) s.toks) { s with toks:=s.toks+1 }->wpAny (model X.prog X.w) X.A (f (.int i t) (.int j u)) Q E s) :
  OpR X f (rI0 λi j=>.int (g i j)):=by
 intro pins s σ H x y v u Q I rx ry h;obtain⟨i,j,rfl,rfl,q⟩:=h;obtain⟨t,rfl⟩:=rx;obtain⟨t',rfl⟩:=ry;exact rule i j t t' s _ _ ⟨.int (g i j),H,I.tok _,⟨_,rfl⟩,q⟩
theorem xhK {f:Value->Value->Sem Value}{g:Int->Int->Bool}
  (rule:∀(i j:Int) (t u:Tok) (s:Shared) (Q:Value->Shared->Prop) (E:Value->Shared->Prop),Q (.bool (g i j)) s->wpAny (model X.prog X.w) X.A (f (.int i t) (.int j u)) Q E s) :
  OpR X f (rI0 λi j=>.bl (g i j)):=by
 intro pins s σ H x y v u Q I rx ry h;obtain⟨i,j,rfl,rfl,q⟩:=h;obtain⟨t,rfl⟩:=rx;obtain⟨t',rfl⟩:=ry;exact rule i j t t' s _ _ ⟨.bl (g i j),H,I,rfl,q⟩
def xja (i j:Int):Prop:=0<=j/\j<=1000000/\i.natAbs<2 ^ 64
def xhT (i j:Int):Prop:=(-(2 ^ 64)<i/\i<2 ^ 64)\/(-(2 ^ 64)<j/\j<2 ^ 64)
theorem xhT.ok (h:xhT i j):IntMulOk i j:=by
 rcases h with ⟨h1,h2⟩ | ⟨h1,h2⟩
 .exact .of_left (intBits_le_64 h1 h2)
 .exact .of_right (intBits_le_64 h1 h2)
theorem zY:OpR X (binaryOp .Add) (rI0 λi j=>.int (i+j)):=xi0 λ_ _ _ _ _ _ _ q=>add_int q
theorem zS:OpR X (binaryOp .Sub) (rI0 λi j=>.int (i-j)):=xi0 λ_ _ _ _ _ _ _ q=>sub_int q
theorem mX:OpR X (binaryOp .Mult) (rI xhT λi j=>.int (i*j)):=opI λ_ _ _ _ _ _ _ hc q=>mul_int q hc.ok
theorem aI:OpR X (binaryOp .Mod) (rI (λ_ j=>0<j) λi j=>.int (i % j)):=opI λi j _ _ _ _ _ hc q=>by have h1:(0:Int)<j:=hc;exact mod_int' (by omega) (by rw[Int.fmod_eq_emod_of_nonneg i (by omega)];exact q)
theorem xcz:OpR X (binaryOp .Mod) (rI (λ_ j=>j≠0) λi j=>.int (i.fmod j)):=opI λ_ _ _ _ _ _ _ hc q=>mod_int' hc q
theorem xeB:OpR X (binaryOp .Pow) (rI xja λi j=>.int (i ^ j.toNat)):=opI λ_ _ _ _ _ _ _ hc q=>pow_int_small hc.1 hc.2.1 hc.2.2 q
theorem unI {f:Value->Sem Value}{g:Int->Int}
  (rule:∀(i:Int) (t:Tok) (s:Shared) (Q:Value->Shared->Prop) (E:Value->Shared->Prop),Q (.int (g i) s.toks) { s with toks:=s.toks+1 }->wpAny (model X.prog X.w) X.A (f (.int i t)) Q E s) :
  UnR X f (rU λi=>.int (g i)):=by
 intro pins s σ H x v Q I rx h;obtain⟨i,rfl,q⟩:=h;obtain⟨t,rfl⟩:=rx;exact rule i t s _ _ ⟨.int (g i),H,I.tok _,⟨_,rfl⟩,q⟩
theorem zg:UnR X (unaryOp .USub) (rU λi=>.int (-i)):=unI λ_ _ _ _ _ q=>neg_int q
end
section
variable {X:Cx} {a b c:Expr} {ta tb tc:TE} {pos:Pos}
theorem xgi (I:Inv X pins σ H s)(q:Q (.bl k) H)(e:k=k'):EP X pins σ Q (.bool k') s:=by subst e;exact⟨.bl k,H,I,rfl,q⟩
theorem xgF:OpR X (compareOp .Lt) (rI0 λi j=>.bl (decide (i<j))):=xhK λ_ _ _ _ _ _ _ q=>lt_int q
theorem gZ:OpR X (compareOp .LtE) (rI0 λi j=>.bl (decide (i<=j))):=xhK λ_ _ _ _ _ _ _ q=>le_int q
theorem lA:OpR X (compareOp .Gt) (rI0 λi j=>.bl (decide (j<i))):=xhK λ_ _ _ _ _ _ _ q=>gt_int q
theorem xiD:OpR X (compareOp .GtE) (rI0 λi j=>.bl (decide (j<=i))):=xhK λ_ _ _ _ _ _ _ q=>ge_int q
theorem OpR.or (h:OpR X f r)(h':OpR X f r'):OpR X f (λx y H Q=>r x y H Q\/r' x y H Q):=by
 intro pins s σ H x y v u Q I rx ry q;rcases q with q | q
 .exact @h pins s σ H x y v u Q I rx ry q
 .exact @h' pins s σ H x y v u Q I rx ry q
theorem xX (b:Expr)(h:op≠.In:=by decide)(h2:op≠.NotIn:=by decide):behindInMarks op b=false:=by
 have e1:(op == CmpOp.In)=false:=by cases op<;>first | rfl | exact absurd rfl h
 have e2:(op == CmpOp.NotIn)=false:=by cases op<;>first | rfl | exact absurd rfl h2
 cases b<;>simp[behindInMarks,e1,e2]
theorem wm {op:CmpOp}{r:R2}(ho:OpR X (compareOp op) r)(ha:PE X a ta)(hb:PE X b tb)(hm:behindInMarks op b=false):PE X (.Compare a [op] [b] pos) (tOp r ta tb):=by intro pins s σ H Q I h;exact wpAny_Compare1 (xik ha hb I h λv u s2 x y H2 I2 rx ry q=>@ho pins s2 σ H2 x y v u Q I2 rx ry q) hm
def xfr (t:TE):TT:=λ σ H Q=>t σ H λx H'=>∃k,x=.bl k/\Q k H'
theorem xR (ho:OpR X (compareOp op) r)(ha:PE X a ta)(hb:PE X b tb)(hm:behindInMarks op b=false):PT X (.Compare a [op] [b] pos) (xfr (tOp r ta tb)):=by
 intro pins s σ H Q I h;refine wpAny_isTrue_Compare1 (thn (@ha pins s σ H _ I h) λv s1 ⟨x,H1,I1,r1,q1⟩=>thn (@hb pins s1 σ H1 _ I1 q1) λu s2 ⟨y,H2,I2,r2,q2⟩ =>thn (@ho pins s2 σ H2 x y v u _ I2 r1 r2 q2) λc s3 ⟨z,H3,I3,r3,k,e,q3⟩=>?_) hm
 subst e;cases r3;exact wpAny_truthy_bool ⟨H3,I3,q3⟩
def xeL (r r':R2)(ta tb tc:TE):TE:=λ σ H Q=>ta σ H λx H1=>tb σ H1 λy H2=>r x y H2 λz H3=>∃k,z=.bl k /\
 (if k=true then tc σ H3 λw' H4=>r' y w' H4 Q else Q (.bl false) H3)
theorem o6 (ho:OpR X (compareOp op) r)(ho':OpR X (compareOp op') r')(ha:PE X a ta)(hb:PE X b tb)(hc:PE X c tc)
  (hm:lastMarks [op,op'] [b,c]=false:=by with_unfolding_all rfl):PT X (.Compare a [op,op'] [b,c] pos) (xfr (xeL r r' ta tb tc)):=by
 intro pins s σ H Q I h;refine isTrue_chain (thn (@ha pins s σ H _ I h) λv s1 ⟨x,H1,I1,r1,q1⟩=>test_link (thn (@hb pins s1 σ H1 _ I1 q1) λu s2 ⟨y,H2,I2,r2,q2⟩ =>thn (@ho pins s2 σ H2 x y v u _ I2 r1 r2 q2) λd s3 ⟨z,H3,I3,r3,k,e,q3⟩=>?_)) hm
 subst e;cases r3;refine wpAny_truthy_bool ?_;cases k with
 | false =>obtain⟨k',e',q'⟩:=q3;cases e';exact ite_ff ⟨H3,I3,q'⟩
 | true =>refine ite_tt (test_last (thn (@hc pins s3 σ H3 _ I3 q3) λw' s4 ⟨z',H4,I4,r4,q4⟩=>thn (@ho' pins s4 σ H4 y z' u w' _ I4 r2 r4 q4) λd' s5 ⟨z2,H5,I5,r5,k2,e2,q5⟩=>?_));subst e2;cases r5;exact wpAny_truthy_bool ⟨H5,I5,q5⟩
theorem mO:(sizeLine:Nat)<2 ^ 63:=by rw[sizeLine_eq];decide
theorem vals1 (r:zo [x] us):∃u,us=[u]/\RelV x u:=by
 cases r with
 | cons r1 r2=>cases r2;exact⟨_,rfl,r1⟩
theorem vals2 (r:zo [x,y] us):∃u w',us=[u,w']/\RelV x u/\RelV y w':=by
 cases r with
 | cons r1 r2 =>
  cases r2 with
  | cons r3 r4=>cases r4;exact⟨_,_,rfl,r1,r3⟩
theorem wg:qh X (.builtin "abs") (λxs H Q=>∃i,xs=[.int i]/\Q (.int (if i<0 then -i else i)) H):=by intro pins s σ H xs us Q I r h;obtain⟨i,rfl,q⟩:=h;obtain⟨u,rfl,t,rfl⟩:=vals1 r;exact call_abs_int λu tk=>⟨.int (if i<0 then -i else i),H,I.tok _,⟨_,rfl⟩,q⟩
theorem n5 (hc:X.calm=true):qh X (.builtin "max") (λxs H Q=>∃i j,xs=[.int i,.int j]/\Q (.int (if j>i then j else i)) H):=by
 intro pins s σ H xs us Q I r h;obtain⟨i,j,rfl,q⟩:=h;obtain⟨u,w',rfl,⟨t,rfl⟩,⟨t',rfl⟩⟩:=vals2 r;refine max_two_ints (I.ok.hd hc) λh' tk k=>⟨_,H,I.kept k,?_,q⟩
 by_cases hj:j>i
 .rw[if_pos hj,if_pos hj];exact⟨_,rfl⟩
 .rw[if_neg hj,if_neg hj];exact⟨_,rfl⟩
theorem xbW (hc:X.calm=true):qh X (.builtin "min") (λxs H Q=>∃i j,xs=[.int i,.int j]/\Q (.int (if j<i then j else i)) H):=by
 intro pins s σ H xs us Q I r h;obtain⟨i,j,rfl,q⟩:=h;obtain⟨u,w',rfl,⟨t,rfl⟩,⟨t',rfl⟩⟩:=vals2 r;refine min_two_ints (I.ok.hd hc) λh' tk k=>⟨_,H,I.kept k,?_,q⟩
 by_cases hj:j<i
 .rw[if_pos hj,if_pos hj];exact⟨_,rfl⟩
 .rw[if_neg hj,if_neg hj];exact⟨_,rfl⟩
end
end L2
namespace L2
open PySem PySem.Spec PyProof.Rows
structure xh1 (h:Heap)(x dx C:Addr)(mA:Str->Option Value):Prop where
 obj:h.get? x=some (PySem.W.instObj C dx)
 ns:h.Ns1 dx mA
 ne:dx≠x
theorem xaZ {h:Heap}{dx:Addr}{mA:Str->Option Value}(n:h.Ns1 dx mA):∃od,h.get? dx=some od/\∀name,PySem.W.lookIn name od=some (mA name):=by
 obtain⟨o,es,ep,ho,hd,hk,_,hm⟩:=n;refine⟨o,ho,λname=>?_⟩;have e:=hm name;unfold nsFind findBy at e;rw[<-Array.find?_toList] at e;unfold PySem.W.lookIn;rw[hd];dsimp only;split
 .rename_i y q;rw[q] at e;exact xmu some e
 .rename_i q;rw[q] at e;have a:es.toList.any (·.refKey)=false:=by rw[List.any_eq_false];intro y hy;obtain⟨z,t,hkey⟩:=hk y (Array.mem_toList_iff.mp hy);simp[DictEntry.refKey,hkey]
  have a':¬es.toList.any (·.refKey)=true:=by rw[a];exact xj8
  rw[if_neg a'];exact xmu some e
theorem xh1.look (I:xh1 h x dx C mA):∃od,PySem.W.InstAt h x (PySem.W.instObj C dx) C (some od)/\∀name,PySem.W.lookIn name od=some (mA name) :=
 let ⟨od,ho,hl⟩:=xaZ I.ns
 ⟨od,⟨I.obj,rfl,rfl,ho⟩,hl⟩
section
variable {prog:Program} {w:World} {A:Around} {E:Value->Shared->Prop} {s:Shared} {K:PySem.W.Frag} {x dx C f:Addr} {mA:Str->Option Value} {name:Str} {v:Value}
end
section
variable {P:Program} {w:World} {H H':Hp} {h h':Heap} {a C dx:Addr} {fs fs':List (Str×V)}
theorem xf6 (hok:HOk P w H h)(e:H a=some (.ins C dx fs)):∃mA,xh1 h a dx C mA/\(∀f,xhW (fs.lookup f) (mA f))/\PySem.Within mA (fs.map (·.1))/\fs.length<=1000/\H dx=some (.own a):=by
 obtain⟨d,z,ne,ob,mA,n,r,q⟩:=(show uB P w H h a (.ins C dx fs) from hok a _ e)
 exact⟨mA,⟨ob,n,ne⟩,r,q,z,d⟩
end
structure Cls (K:PySem.W.Frag)(C:Addr):Prop where
 pg:PySem.W.plainGet K C Str.empty=true
 hd:PySem.W.hasDictIn K C=true
 po:PySem.W.plainOver K C=true
 sa:PySem.W.findIn K (.ref C) "__setattr__" = some (some (.builtin "object.__setattr__"))
theorem Cls.get {K:PySem.W.Frag}{C:Addr}(c:Cls K C)(f:Str):PySem.W.plainGet K C f=true:=c.pg
section
variable {X:Cx} {pins:List (Addr×Obj)} {σ:St} {H:Hp} {s:Shared} {a C dx:Addr} {fs:List (Str×V)} {f:Str} {v:V} {A:Around} {E:Value->Shared->Prop}
end
section
variable {X:Cx} {o e value:Expr} {f:Str} {pos pos' tpos:Pos} {ta tv:TE}
end
section
variable {X:Cx} {pins:List (Addr×Obj)} {σ:St} {H:Hp} {s:Shared} {A:Around} {E:Value->Shared->Prop} {Q:Value->Shared->Prop} {c:Value} {b:Bool}
inductive lC (K:PySem.W.Frag)(H:Hp):V->Value->Prop where
 | non:lC K H .non (.type "NoneType")
 | bl (x:Bool):lC K H (.bl x) (.type "bool")
 | int (i:Int):lC K H (.int i) (.type "int")
 | str (x:Str):lC K H (.str x) (.type "str")
 | flt (x:UInt64):lC K H (.flt x) (.type "float")
 | lst {a:Addr} {xs:List V} (e:H a=some (.lst xs)):lC K H (.ref a) (.type "list")
 | frz {a:Addr} {o:Obj} {xs:List V} (e:H a=some (.frz o (.lst xs))):lC K H (.ref a) (.type "list")
 | tup {a:Addr} {xs:List V} (e:H a=some (.tup xs)):lC K H (.ref a) (.type "tuple")
 | dK {a:Addr} {kvs:List (Key×V)} (e:H a=some (.dK kvs)):lC K H (.ref a) (.type "dict")
 | dT {a:Addr} {kvs:List (List Key×V)} (e:H a=some (.dT kvs)):lC K H (.ref a) (.type "dict")
 | ins {a C dx:Addr} {fs:List (Str×V)} (e:H a=some (.ins C dx fs)) (cl:Cls K C) (ha:PySem.W.findIn K (.ref C) "__class__" = some (some (.builtin "object.__class__")))
   (hn:PySem.W.specialIn K (.builtin "object.__class__") "__get__" = some (some (.builtin "getset_descriptor.__get__"))) (htk:PySem.W.takesIn K (.builtin "object.__class__")=some true)
   (hm:PySem.W.mroIn K C (.type "object")=some true):lC K H (.ref a) (.ref C)
theorem xbq (I:Inv X pins σ H s)(rx:RelV x u)(ty:lC X.K H x t)(e:PySem.W.kitOne X.K t c=some b)(h:∀tk,Q (.bool b) { s with toks:=tk }) :
  wpAny (model X.prog X.w) A (call (.builtin "isinstance") [u,c]) Q E s:=by
 cases ty with
 | non=>cases (show u=Value.none from rx);exact PySem.W.kia_one PySem.W.kitx_none I.kIn True.intro e (λz=>nomatch z) h
 | bl y=>cases (show u=Value.bool y from rx);exact PySem.W.kia_one PySem.W.kitx_bool I.kIn True.intro e (λz=>nomatch z) h
 | int i=>obtain⟨t,q⟩:=(show ∃t,u=Value.int i t from rx);cases q;exact PySem.W.kia_one PySem.W.kitx_int I.kIn True.intro e (λz=>nomatch z) h
 | str y=>obtain⟨t,q⟩:=(show ∃t,u=Value.str y t from rx);cases q;exact PySem.W.kia_one PySem.W.kitx_str I.kIn True.intro e (λz=>nomatch z) h
 | flt y=>obtain⟨t,q⟩:=(show ∃t,u=Value.float y t from rx);cases q;exact PySem.W.kia_one PySem.W.kitx_float I.kIn True.intro e (λz=>nomatch z) h
 | @lst a xs ea =>
  cases (show u=Value.ref a from rx);obtain⟨_,_,n,_,h1⟩:=(show uB X.prog X.w H s.heap a (.lst xs) from I.hok a _ ea)
  exact PySem.W.kia_one PySem.W.kitx_list I.kIn ⟨_,h1,rfl⟩ e (λz=>nomatch z) h
 | @frz a ob xs ea =>
  cases (show u=Value.ref a from rx);obtain⟨_,_,_,n,_,h1⟩:=(show uB X.prog X.w H s.heap a (.frz ob (.lst xs)) from I.hok a _ ea)
  exact PySem.W.kia_one PySem.W.kitx_list I.kIn ⟨_,h1,rfl⟩ e (λz=>nomatch z) h
 | @tup a xs ea =>
  cases (show u=Value.ref a from rx);obtain⟨_,_,_,p⟩:=(show uB X.prog X.w H s.heap a (.tup xs) from I.hok a _ ea)
  obtain⟨o,h1,h2,_⟩:=p;exact PySem.W.kia_one PySem.W.kitx_tuple I.kIn ⟨o,h1,h2⟩ e (λz=>nomatch z) h
 | @dK a kvs ea =>
  cases (show u=Value.ref a from rx);obtain⟨_,_,vs,_,p⟩:=(show uB X.prog X.w H s.heap a (.dK kvs) from I.hok a _ ea)
  obtain⟨o,es,ep,h1,h2,_⟩:=p;exact PySem.W.kia_one PySem.W.kitx_dict I.kIn ⟨o,h1,h2.1⟩ e (λz=>nomatch z) h
 | @dT a kvs ea =>
  cases (show u=Value.ref a from rx);obtain⟨_,_,xs,_,o,es,ep,h1,h2,_⟩:=(show uB X.prog X.w H s.heap a (.dT kvs) from I.hok a _ ea)
  exact PySem.W.kia_one PySem.W.kitx_dict I.kIn ⟨o,h1,h2.1⟩ e (λz=>nomatch z) h
 | @ins a C dx fs ea cl ha hn htk hm =>cases (show u=Value.ref a from rx);obtain⟨mA,O,_⟩:=xf6 I.hok ea;obtain⟨od,J,_⟩:=O.look;exact PySem.W.kia_one (PySem.W.kitx_own (cl.get _) cl.hd ha hn htk hm) I.kIn J e (λz=>nomatch z) h
end
end L2
namespace L2
open PySem PySem.Spec PyProof.Rows
structure dZ (k:Nat)(A:Around):Prop where
 hd:A.handled=none
 dp:A.depth+3*k+5<recursionLimit
 un:A.units+16*k+200<cLine
theorem dZ.mono (r:dZ k A)(h:j<=k):dZ j A:=⟨r.hd,by have:=r.dp;omega,by have:=r.un;omega⟩
theorem dZ.deeper (r:dZ (k+1) A)(env:Env):dZ k (A.deeper env) :=⟨r.hd,by have:=r.dp;show A.depth+1+3*k+5<_;omega,by have:=r.un;show A.units+3+16*k+200<_;omega⟩
theorem dZ.depth (r:dZ k A):A.depth<recursionLimit:=by have:=r.dp;omega
theorem dZ.units (r:dZ k A):A.units+64<cLine:=by have:=r.un;omega
def xah:TA:=λ_ H Q=>Q [] H
def qA (ta:TE)(tr:TA):TA:=λ σ H Q=>ta σ H λx H1=>tr σ H1 λxs H2=>Q (x::xs) H2
section
variable {X:Cx} {e:Expr} {es:List Expr} {te:TE} {t:TA} {pos:Pos}
theorem wH:PA X [] xah:=λ_ _ _ _ H Q I h=>Calls.spliced_nil ⟨[],H,I,.nil,h⟩
theorem yd (ha:PE X e te)(hr:PA X es t)(hs:starEach (e::es) X.env=(false,eval e X.env)::starEach es X.env:=by rfl):PA X (e::es) (qA te t):=by intro pos pins s σ H Q I h;rw[hs];show wpAny _ _ (spliced ((false,eval e X.env)::backTo pos (starEach es X.env))) _ _ s;refine Calls.spliced_cons (thn (@ha pins s σ H _ I h) λu s1 ⟨x,H1,I1,r1,q1⟩=>?_);exact thn (@hr pos pins s1 σ H1 _ I1 q1) λus s2 ⟨xs,H2,I2,r2,q2⟩=>⟨x::xs,H2,I2,.cons r1 r2,q2⟩
def xiU (t:TA):TE:=λ σ H Q=>t σ H λxs H1=>xs.length<=sizeLine/\∀p,H1 p=none->Q (.ref p) (upd H1 p (.tup xs))
def xh6 (t:TA):TE:=λ σ H Q=>t σ H λxs H1=>xs.length<=sizeLine/\∀p,H1 p=none->Q (.ref p) (upd H1 p (.lst xs))
theorem yf (h:PA X es t):PE X (.Tuple es x1 pos) (xiU t):=by intro pins s σ H Q I hq;refine wpAny_Tuple_spliced (thn (@h pos pins s σ H _ I hq) λus s1 ⟨xs,H1,I1,r,z,q⟩=>⟨by rw[<-r.length];exact z,?_⟩);have hf:H1 s1.heap.objs.size=none:=I1.hok.fresh (xmd _);refine⟨.ref s1.heap.objs.size,upd H1 s1.heap.objs.size (.tup xs),I1.laid (t':=s1.toks) (λb u e=>Heap.get?_push_of_some _ e) (xmd _) ?_,rfl,q _ hf⟩;exact⟨z,us,r,⟨_,Heap.get?_push_size _ rfl,rfl,_,rfl⟩⟩
theorem zi (h:PA X es t):PE X (.List es pos) (xh6 t):=by intro pins s σ H Q I hq;refine wpAny_List_spliced (thn (@h pos pins s σ H _ I hq) λus s1 ⟨xs,H1,I1,r,z,q⟩=>⟨by rw[<-r.length];exact z,?_⟩);have hf:H1 s1.heap.objs.size=none:=I1.hok.fresh (xmd _);refine⟨.ref s1.heap.objs.size,upd H1 s1.heap.objs.size (.lst xs),I1.laid (t':=s1.toks) (λb u e=>Heap.get?_push_of_some _ e) (xmd _) ?_,rfl,q _ hf⟩;exact⟨z,us,0,r,Heap.get?_push_size _ rfl⟩
end
abbrev Sp:=List V->Hp->VK->XK->Prop
abbrev CXT:=List Env->Hp->Shared->XK->Value->Shared->Prop
structure xhQ (P:Program)(w:World)(K:PySem.W.Frag)(mg:Str->Option Value)(base:Heap)(A:Around)(outer:List Env)(s:Shared)(H:Hp):Prop where
 frames:A.frames=some outer
 mod:Mod K mg base
 bs:∀b o,base.get? b=some o->s.heap.get? b=some o/\H b=none
 bsz:base.objs.size<=s.heap.objs.size
 funs:s.heap.FunFrames base outer
 frf:∀b∈frs outer,H b=none
 hok:HOk P w H s.heap
 bare:AllBare s.gens
def CE (outer:List Env)(P:Program)(w:World)(H:Hp)(s:Shared)(Q:VK)(u:Value)(s':Shared):Prop :=∃v H',s'.os=s.os/\AllBare s'.gens/\Un (frs outer) [] H H' s.heap s'.heap/\HOk P w H' s'.heap/\RelV v u/\Q v H'
def CR (CX:CXT)(outer:List Env)(P:Program)(w:World)(H:Hp)(s:Shared)(Q:VK)(E:XK)(r:Result)(s':Shared):Prop :=
 match r with
 | .ok (.ret u)=>CE outer P w H s Q u s'
 | .ok _=>False
 | .error e=>CX outer H s E e s'
structure mF (P:Program)(w:World)(K:PySem.W.Frag)(mg:Str->Option Value)(base:Heap)(CX:CXT)(k:Nat)(f:Addr)(fd:FuncData)(ps:List Str)(sp:Sp):Prop where
 len:∀vs H Q E,sp vs H Q E->vs.length=ps.length
 run:∀(A:Around) (outer:List Env) (s:Shared) (H:Hp) (args:Args) (us:List Value) (vs:List V) (Q:VK) (E:XK),dZ k A->xhQ P w K mg base A outer s H->BindsTo s fd args (ps.zip us)->zo vs us->sp vs H Q E ->
  codeAny (model P w) A (.call (.ref f) args) (CR CX outer P w H s Q E) s
theorem mF.mono {P:Program}{w:World}{K:PySem.W.Frag}{mg:Str->Option Value}{base:Heap}{CX:CXT}{j k:Nat}{f:Addr}{fd:FuncData}{ps:List Str}{sp:Sp}(F:mF P w K mg base CX j f fd ps sp)(h:j<=k) :
  mF P w K mg base CX k f fd ps sp:=⟨F.len,λA outer s H args us vs Q E hr=>F.run A outer s H args us vs Q E (hr.mono h)⟩
theorem mF.imp {P:Program}{w:World}{K:PySem.W.Frag}{mg:Str->Option Value}{base:Heap}{CX:CXT}{k:Nat}{f:Addr}{fd:FuncData}{ps:List Str}{sp sp':Sp}(F:mF P w K mg base CX k f fd ps sp)
  (h:∀vs H Q E,sp' vs H Q E->sp vs H Q E):mF P w K mg base CX k f fd ps sp' :=
 ⟨λvs H Q E q=>F.len vs H Q E (h _ _ _ _ q),λA outer s H args us vs Q E hr he hb hv hs=>F.run A outer s H args us vs Q E hr he hb hv (h _ _ _ _ hs)⟩
section
variable {X:Cx} {pins:List (Addr×Obj)} {σ:St} {H:Hp} {s s':Shared}
theorem Inv.env0 (I:Inv X pins σ H s):xhQ X.prog X.w X.K X.mg X.base X.A X.stack s H :=⟨I.ok.frames,I.ok.mod,I.bs,xmf I.ok.bsz I.sz,I.stack,I.stkFree,I.hok,I.bare⟩
theorem Inv.after (I:Inv X pins σ H s)(h:CE X.stack X.prog X.w H s Q u s'):EP X pins σ Q u s':=by obtain⟨v,H',os,bare,un,hok,r,q⟩:=h;obtain⟨hh,g,d,t,os'⟩:=s';obtain rfl:os'=s.os:=os;exact⟨v,H',I.call (h':=hh) (g':=g) (d':=d) (t':=t) (ch:=[]) un hok bare (λb z=>absurd z (by simp)),r,q⟩
end
def xhY (sp:Sp)(dvs:List V)(E:XK)(t:TA):TE:=λ σ H Q=>t σ H λvs H1=>sp (vs++dvs) H1 Q E
def Binds (K:PySem.W.Frag)(fd:FuncData)(ps:List Str)(ds:List Value):Prop :=∀(s:Shared) (us:List Value),K.In s.heap->(us++ds).length=ps.length->BindsTo s fd ⟨us,[]⟩ (ps.zip (us++ds))
theorem Binds.all {K:PySem.W.Frag}{fd:FuncData}{ps:List Str}(h:∀us:List Value,us.length=ps.length->bindArgs fd ⟨us,[]⟩=pure (ps.zip us)):Binds K fd ps []:=λs us _ hl=>by rw[xkX] at hl ⊢;exact .of_eq (h us hl)
def xbA (CX:CXT)(X:Cx)(E:XK):Prop:=∀(pins:List (Addr×Obj)) (σ:St) (H:Hp) (s:Shared) (e:Value) (s':Shared),Inv X pins σ H s->CX X.stack H s E e s'->X.xe e s'
section
variable {X:Cx} {CX:CXT} {k:Nat} {f C:Addr} {fd:FuncData} {ps:List Str} {sp:Sp} {dvs:List V} {ds:List Value} {E:XK} {x m:Str} {p pos apos:Pos} {e o:Expr} {es:List Expr} {ta:TE} {t:TA}
theorem xgZ (F:mF X.prog X.w X.K X.mg X.base CX k f fd ps sp)(hr:dZ k X.A)(hb:Binds X.K fd ps ds)(hd:zo dvs ds)(hx:xbA CX X E)
  (I:Inv X pins σ H s) (r:zo vs us) (h:sp (vs++dvs) H Q E):wpAny (model X.prog X.w) X.A (call (.ref f) us) (EP X pins σ Q) X.xe s:=by
 have r2:zo (vs++dvs) (us++ds):=r.append hd;have hl:(us++ds).length=ps.length:=by rw[<-r2.length];exact F.len _ _ _ _ h
 refine wpAny_call (codeAny_mono (F.run X.A X.stack s H ⟨us,[]⟩ (us++ds) (vs++dvs) Q E hr I.env0 (hb s us I.kIn hl) r2 h) λr s' hq=>?_);cases r with
 | error e=>exact hx pins σ H s e s' I hq
 | ok fl =>
  cases fl with
  | ret u=>exact I.after hq
  | next=>exact False.elim hq
  | brk=>exact False.elim hq
  | cont=>exact False.elim hq
theorem xfd (F:mF X.prog X.w X.K X.mg X.base CX k f fd ps sp)(hr:dZ k X.A)(hg:Gl X x)(hm:X.mg x=some (.ref f))(hk:PySem.W.keepIn X.K (.ref f)=true)(hb:Binds X.K fd ps ds)(hd:zo dvs ds)(hx:xbA CX X E)
  (ha:PA X (e::es) t) (hdb:(x == ("__debug__" : Str))=false:=by decide) (he:starEach (e::es) X.env=(false,eval e X.env)::starEach es X.env:=by rfl) (hpl:(backTo pos (starEach es X.env)).any (·.1)=false:=by rfl) :
  PE X (.Call (.Name x p) (e::es) [] pos) (xhY sp dvs E t):=by
 intro pins s σ H Q I h;refine wpAny_Call_Name_kw (xbL I hg hm ?_ hdb);refine PySem.W.callWith_K (h₀:=X.base) I.ok.mod.kin hk (thn (@ha pos pins s σ H _ I h) λus s1 ⟨vs,H1,I1,r,q⟩=>⟨I1.kIn,?_⟩) he hpl;exact xgZ F hr hb hd hx I1 r q
end
section
variable {X:Cx} {CX:CXT} {k:Nat} {f C:Addr} {fd:FuncData} {ps ks:List Str} {sp:Sp} {E:XK} {x m:Str} {p pos apos kpos:Pos} {e o:Expr} {es:List Expr} {kws:List Keyword} {te ta:TE} {t tk:TA} {nm:Option Str}
variable {g:List Value->List Value->List Value} {gV:List V->List V->List V}
end
structure xy (N P:List Str)(sc:Scope):Prop where
 kind:sc.kind=.function
 co:sc.isCoroutine=false
 gen:sc.isGenerator=false
 nd:N.Nodup
 pre:N.take P.length=P
 par:∀x∈P,sc.names.lookup x=some .local\/sc.names.lookup x=some .cell
 nofree:∀y∈sc.names,y.2≠.free
theorem mK {kindOf:Str->Option NameKind}{x:Str}:∀ {binds:List (Str×Value)} {m:Str->Option Value},(∀v,(x,v)∉binds)->bindL kindOf binds m x=m x
 | [],_,_=>rfl
 | (n,v)::r,m,h=>by
  unfold bindL;rw[mK λw hw=>h w (xlJ _ hw)];split
  .have:x≠n:=by rintro rfl;exact h v xlK
   simp[this]
  .rfl
theorem nY {kindOf:Str->Option NameKind}{x:Str}:∀ {binds:List (Str×Value)} {m:Str->Option Value},(∀v,(x,v)∉binds)->bindC kindOf binds m x=m x
 | [],_,_=>rfl
 | (n,v)::r,m,h=>by
  unfold bindC;rw[nY λw hw=>h w (xlJ _ hw)];split
  .rfl
  .have:x≠n:=by rintro rfl;exact h v xlK
   simp[this]
theorem bU {kindOf:Str->Option NameKind}{x:Str}{v:Value}:∀ {P:List Str} {vs:List Value} {i:Nat} {m:Str->Option Value},P.Nodup->P[i]? = some x->vs[i]? = some v->kindOf x=some .local ->
  bindL kindOf (P.zip vs) m x=some v
 | [],_,_,_,_,h,_,_=>by simp at h
 | _::_,[],_,_,_,_,h,_=>by simp at h
 | p::P,w::vs,0,m,nd,h1,h2,hk=>by simp at h1 h2;subst h1;subst h2;show bindL kindOf ((p,w)::P.zip vs) m p=_;unfold bindL;rw[mK λv hv=>(xlX.mp nd).1 (xlZ hv).1,if_pos hk];simp
 | p::P,w::vs,i+1,m,nd,h1,h2,hk=>by show bindL kindOf ((p,w)::P.zip vs) m x=_;unfold bindL;exact bU (i:=i) (xlX.mp nd).2 (by simpa using h1) (by simpa using h2) hk
theorem nQ {kindOf:Str->Option NameKind}{x:Str}{v:Value}:∀ {P:List Str} {vs:List Value} {i:Nat} {m:Str->Option Value},P.Nodup->P[i]? = some x->vs[i]? = some v->kindOf x≠some .local ->
  bindC kindOf (P.zip vs) m x=some v
 | [],_,_,_,_,h,_,_=>by simp at h
 | _::_,[],_,_,_,_,h,_=>by simp at h
 | p::P,w::vs,0,m,nd,h1,h2,hk=>by simp at h1 h2;subst h1;subst h2;show bindC kindOf ((p,w)::P.zip vs) m p=_;unfold bindC;rw[nY λv hv=>(xlX.mp nd).1 (xlZ hv).1,if_neg hk];simp
 | p::P,w::vs,i+1,m,nd,h1,h2,hk=>by show bindC kindOf ((p,w)::P.zip vs) m x=_;unfold bindC;exact nQ (i:=i) (xlX.mp nd).2 (by simpa using h1) (by simpa using h2) hk
def start (N:List Str)(vs:List V):St:=vs.map some++List.replicate (N.length-vs.length) none
def xcB (CX:CXT)(P:Program)(w:World)(K:PySem.W.Frag)(mg:Str->Option Value)(base:Heap)(N:List Str)(qual:Str)(scope:Scope)(f:Addr)(cd:Value)(A:Around)(outer:List Env)(s:Shared)(H:Hp)(E:XK):Cx where
 prog:=P
 w:=w
 K:=K
 mg:=mg
 base:=base
 A:=A.deeper (envOfC qual scope s.heap.objs.size f cd)
 N:=N
 s₀:=s
 H₀:=H
 env:=envOfC qual scope s.heap.objs.size f cd
 outer:=outer
 stack:=envOfC qual scope s.heap.objs.size f cd::outer
 ex:=[]
 calm:=true
 fn:=λ_=>true
 pn:=[]
 xe:=λe s'=>wpAny (model P w) (A.deeper (envOfC qual scope s.heap.objs.size f cd)) (leaving (envOfC qual scope s.heap.objs.size f cd) e) (λ_ s''=>CX outer H s E e s'') (λe' s''=>CX outer H s E e' s'') s'
theorem pS {sc:Scope}{n:Nat}{x:Str}(h:sc.names.lookup x=some .cell):∃c,(cellsFrom n sc.names []).lookup x=some c:=by have q:=PySem.W.cellsFrom_some sc.names n [] (.inl h);exact Option.isSome_iff_exists.mp q
theorem xaT {CX:CXT}{P:Program}{w:World}{K:PySem.W.Frag}{mg:Str->Option Value}{base:Heap}{N ps:List Str}{qual:Str}{scope:Scope}{f:Addr}{cd:Value}{A:Around}{outer:List Env}{s s1:Shared}{H:Hp}{E:XK}{us:List Value}{vs:List V}
  (S:xy N ps scope) (hd:A.handled=none) (e0:xhQ P w K mg base A outer s H) (hl:vs.length=ps.length) (r:zo vs us)
  (x:InCallC s s.heap.objs.size (bindL (envOfC qual scope s.heap.objs.size f cd).kindOf (ps.zip us) λ_=>none) (cellsFrom (s.heap.objs.size+1) scope.names []) (bindC (envOfC qual scope s.heap.objs.size f cd).kindOf (ps.zip us) λ_=>none) s1) :
  Inv (xcB CX P w K mg base N qual scope f cd A outer s H E) [] (start N vs) H s1:=by
 have hpl:ps.length<=N.length:=by have:=xmu List.length S.pre;rw[xly] at this;omega
 obtain⟨h1,tk,rfl,hk⟩:=x.done;have noA:∀b:Addr,b∉(xcB CX P w K mg base N qual scope f cd A outer s H E).ex:=λb z=>absurd (show b∈([]:List Addr) from z) (by simp);refine⟨⟨e0.mod,S.kind,rfl,rfl,xmd _,λy z c h1 h2=>?_,λy hy=>?_,λy c _ h=>?_,λ_=>hd,Around.frames_deeper e0.frames,.inr ⟨rfl,rfl⟩,λb z=>absurd z (noA b),e0.bs,e0.bsz,λb _ _=>noA b,λb z=>absurd z (noA b),e0.funs,e0.frf⟩,
  rfl,e0.bare,Un.kept hk,⟨_,x.toInCall.ns,λi y v h1 h2 h3=>?_⟩,λy c h=>⟨_,x.cell y c h⟩,e0.hok.fresh (xmd _),λy c h=>?_,λp hp=>absurd (show p∈([]:List (Addr×Obj)) from hp) (by simp),e0.hok.kept hk,?_⟩
 .exact name_of_addr x.apart (PySem.mem_of_lookup h1) (PySem.mem_of_lookup h2)
 .have hy:scope.names.lookup y=some .cell\/scope.names.lookup y=some .free:=hy;rcases hy with hy | hy
  .exact pS hy
  .exact absurd rfl (S.nofree _ (PySem.mem_of_lookup hy))
 .exact xmc (x.above y c (PySem.mem_of_lookup h))
 .have hi:i<vs.length:=by
   unfold start at h2;by_cases hi:i<vs.length
   .exact hi
   .rw[xlb (by simpa using hi)] at h2;rw[xlh] at h2;split at h2<;>cases h2
  have ha:vs[i]? = some v:=by
   unfold start at h2;rw[xla (by simpa using hi),xlf] at h2;cases e:vs[i]? with
   | none=>rw[e] at h2;cases h2
   | some a=>rw[e] at h2;cases h2;rfl
  obtain⟨u,hu,rv⟩:=r.get ha;have hp:ps[i]? = some y:=by rw[<-S.pre,List.getElem?_take_of_lt (by omega)];exact h1
  have ndP:ps.Nodup:=by rw[<-S.pre];exact S.nd.sublist (List.take_sublist _ _)
  refine⟨u,rv,?_⟩;rcases S.par y (xlQ hp) with k | k
  .exact .inl ⟨k,bU ndP hp hu k⟩
  .obtain⟨c,e⟩:=pS (n:=s.heap.objs.size+1) k;refine .inr ⟨.inl k,c,e,?_⟩;have q:=x.cell y c e;rw[nQ ndP hp hu (by show scope.names.lookup y≠_;rw[k];decide)] at q;exact q
 .exact e0.hok.fresh (xmc (x.above y c (PySem.mem_of_lookup h)))
 .unfold start;show _=N.length;rw[xll,xlq,xlu];omega
theorem xiH {CX:CXT}{P:Program}{w:World}{K:PySem.W.Frag}{mg:Str->Option Value}{base:Heap}{k:Nat}{f:Addr}{name qual:Str}{params:Arguments}{body:List Stmt}{scope:Scope}{dV kV doc pm cdv ct oc:Value}{an od:Option Addr}
  {osl:Array (Option Value)} {N ps:List Str} {sp:Sp} (lk:K.lookup f=some ⟨oc,od,.func (PySem.W.fnOf name qual params body scope dV kV doc pm an cdv ct),osl⟩) (hcd:PySem.W.codeIn K cdv qual=true) (S:xy N ps scope)
  (len:∀vs H Q E,sp vs H Q E->vs.length=ps.length)
  (hbody:∀(A:Around) (outer:List Env) (s:Shared) (H:Hp) (vs:List V) (Q:VK) (E:XK),dZ k (A.deeper (envOfC qual scope s.heap.objs.size f cdv))->sp vs H Q E ->
   ∃t,PSs (xcB CX P w K mg base N qual scope f cdv A outer s H E) body t/\t { nx:=λ_ H'=>Q .non H',rt:=Q } (start N vs) H) :
  mF P w K mg base CX (k+1) f (PySem.W.fnOf name qual params body scope dV kV doc pm an cdv ct) ps sp:=by
 refine⟨len,λA outer s H args us vs Q E hr e0 hb r hsp=>?_⟩;have hl:=len _ _ _ _ hsp;have KX:K.In s.heap:=e0.mod.kin.keeps λb o e=>(e0.bs b o e).1;have lim:s.heap.NoLimit:=e0.mod.nolimit.keeps λb o e=>(e0.bs b o e).1;have hkind:∀y∈ps.zip us,scope.names.lookup y.1=some .local\/(scope.names.lookup y.1=some .cell/\((cellsFrom (s.heap.objs.size+1) scope.names []).lookup y.1).isSome=true):=λ⟨n,v⟩ hy=>by
  rcases S.par n (xlZ hy).1 with q | q
  .exact .inl q
  .exact .inr ⟨q,PySem.W.cellsFrom_some _ _ _ (.inl q)⟩
 refine codeAny_call_function hr.depth (KX _ _ lk) rfl S.co S.gen rfl (PySem.W.codeRec_of KX hcd) (hb _ _ _ _ ?_);refine wpAny_newFunctionEnv_cells S.kind hkind λenv he s1 x=>?_;subst he;refine⟨lim.keeps x.toInCall.keep,codeAny_func ?_⟩;obtain⟨t,ht,hq⟩:=hbody A outer s H vs Q E (hr.deeper _) hsp;have I:Inv (xcB CX P w K mg base N qual scope f cdv A outer s H E) [] (start N vs) H s1:=xaT S hr.hd e0 hl r x;refine wpAny_mono (@ht [] s1 (start N vs) H _ I hq) (λfl s' hs=>?_) λe s' hs=>hs;have fin:∀ {σ':St} {H':Hp} {v:V} {u:Value},Inv (xcB CX P w K mg base N qual scope f cdv A outer s H E) [] σ' H' s'->RelV v u->Q v H'->CE outer P w H s Q u s' :=λ {σ' H' v u} J rv q=>⟨v,H',J.os,J.bare,J.base,J.hok,rv,q⟩
 cases fl with
 | ret u =>obtain⟨v,σ',H',J,rv,q⟩:=hs;exact fin J rv q
 | next =>obtain⟨σ',H',J,q⟩:=hs;exact fin (v:=V.non) (u:=Value.none) J rfl q
 | brk =>obtain⟨_,_,_,q⟩:=hs;exact False.elim q
 | cont =>obtain⟨_,_,_,q⟩:=hs;exact False.elim q
end L2
namespace L2
open PySem PySem.Spec PyProof.Rows
section
variable {X:Cx} {x:Str} {p pos:Pos} {e:Expr} {es:List Expr} {t:TA} {id T:String} {r:List V->Hp->VK->Prop}
def tCB (r:List V->Hp->VK->Prop)(t:TA):TE:=λ σ H Q=>t σ H λvs H1=>r vs H1 Q
theorem xP (hc:qh X (.builtin id) r)(hg:Gl X x)(hm:X.mg x=none)(hv:bootBuiltins x=some (.builtin id))(ha:PA X (e::es) t)(hn:x ≠ "__name__" := by decide)(hdb:(x == ("__debug__" : Str))=false:=by decide)
  (he:starEach (e::es) X.env=(false,eval e X.env)::starEach es X.env:=by rfl) (hpl:(backTo pos (starEach es X.env)).any (·.1)=false:=by rfl):PE X (.Call (.Name x p) (e::es) [] pos) (tCB r t):=by
 intro pins s σ H Q I h;refine wpAny_Call_Name_kw (dQ I hg hm hv ?_ hn hdb);exact PyProof.Rows.callWith_builtin1 (thn (@ha pos pins s σ H _ I h) λus s1 ⟨vs,H1,I1,r1,q1⟩=>@hc pins s1 σ H1 vs us Q I1 r1 q1) he hpl
theorem u9 (hc:qh X (.type T) r)(hg:Gl X x)(hm:X.mg x=none)(hv:bootBuiltins x=some (.type T))(ha:PA X (e::es) t)(hn:x ≠ "__name__" := by decide)(hdb:(x == ("__debug__" : Str))=false:=by decide)
  (he:starEach (e::es) X.env=(false,eval e X.env)::starEach es X.env:=by rfl) (hpl:(backTo pos (starEach es X.env)).any (·.1)=false:=by rfl):PE X (.Call (.Name x p) (e::es) [] pos) (tCB r t):=by
 intro pins s σ H Q I h;refine wpAny_Call_Name_kw (dQ I hg hm hv ?_ hn hdb);exact PyProof.Rows.callWith_type1 (thn (@ha pos pins s σ H _ I h) λus s1 ⟨vs,H1,I1,r1,q1⟩=>@hc pins s1 σ H1 vs us Q I1 r1 q1) he hpl
end
end L2
namespace HT
open PySem PyProof.Rows
def lexLt:List Int->List Int->Bool
 | [],[]=>false
 | [],_::_=>true
 | _::_,[]=>false
 | x::xs,y::ys=>if x=y then lexLt xs ys else decide (x<y)
theorem lj (x y:Int)(xs ys:List Int):lexLt (x::xs) (y::ys)=if x=y then lexLt xs ys else decide (x<y):=rfl
theorem r6:lexLt [] []=false:=rfl
theorem ar (y:Int)(ys:List Int):lexLt [] (y::ys)=true:=rfl
theorem aw (x:Int)(xs:List Int):lexLt (x::xs) []=false:=rfl
theorem xc3 (A:Around)(s:Shared)(a:Int)(t:Tok)(c:Int)(u:Tok):∃e,SeqAt.EqAt A s (.int a t) (.int c u) e/\(e=true↔a=c) :=⟨(a == c),SeqAt.EqAt.int_int a t c u,by simp⟩
theorem xdL (A:Around)(s:Shared)(a:Int)(t:Tok)(c:Int)(u:Tok)(prog:Program)(w:World)(E:Value->Shared->Prop)(Q:Value->Shared->Prop)(h:Q (.bool (decide (a<c))) s) :
  wpAny (model prog w) A (richCompare .Lt (.int a t) (.int c u)) Q E s :=
 (PyProof.Rows.lt_int h:wpAny (model prog w) A (compareOp .Lt (.int a t) (.int c u)) Q E s)
section
open PySem.SeqAt
open PySem.AutoSeq1 (wpAny_loadPart')
open PySem.MeetsSeq PySem.MeetsSeq2 PySem.MeetsSeq3
theorem r_ (l b:Addr)(items items2:Array Value)(n n2:Nat)(dd dd2:Option Addr)(sl sl2:Array (Option Value))(ns ms:List Int)(hi:IntsAre items.toList ns)(hj:IntsAre items2.toList ms) :
  Meets (Builtin.«tuple.__lt__» ⟨[.ref l,.ref b],[]⟩)
   (λ_ R s=>s.heap.get? l=some { cls:=.type "tuple", dict:=dd,data:=.seq items n,slots:=sl }/\s.heap.get? b=some { cls:=.type "tuple", dict:=dd2,data:=.seq items2 n2,slots:=sl2 } /\
    R (.ok (.ret (.bool (lexLt ns ms)))) s) :=
 .of_wp λprog w A R s h=>by
  obtain⟨hp,g,d,tk,os⟩:=s;obtain⟨hl,hb,h⟩:=h;have f2:=AutoSeq1.sub_tuple_tuple;have z1:items.size=ns.length:=by rw[<-hi.length];simp
  have z2:items2.size=ms.length:=by rw[<-hj.length];simp
  wp_walk using wpAny_loadPart' hl,wpAny_loadPart' hb,wpAny_forIn_list _ (λrest b s'=>b.1=none/\s'=⟨hp,g,d,tk,os⟩/\∃(vs ws:List Value) (ns' ms':List Int),rest=vs.zip ws /\
   IntsAre vs ns'/\IntsAre ws ms'/\ns'.length+items2.size=ms'.length+items.size/\R (.ok (.ret (.bool (lexLt ns' ms')))) ⟨hp,g,d,tk,os⟩) _
  case turn =>
   rintro⟨y,x⟩ rest b s' ⟨hb',rfl,vs,ws,ns',ms',hz,hvi,hwi,hlen,hR⟩;cases hvi with
   | nil=>rw[List.zip_nil_left] at hz;cases hz
   | cons a t hvi' =>
    cases hwi with
    | nil=>rw[List.zip_nil_right] at hz;cases hz
    | cons c u hwi' =>
     rw[xma] at hz;injection hz with hyx hrest;injection hyx with hy hx;subst hy hx;rw[lj] at hR;simp only[xlm] at hlen;obtain⟨e,he,hiff⟩:=xc3 A.in1 ⟨hp,g,d,tk,os⟩ a t c u;refine wpAny_bind (he prog w _ _ ?_);cases e with
     | true =>
      rw[if_pos (hiff.mp rfl)] at hR
      wp_walk
      exact⟨rfl,rfl,_,_,_,_,hrest,hvi',hwi',by omega,hR⟩
     | false =>
      rw[if_neg (λq=>absurd (hiff.mpr q) xj8)] at hR;have hri:=xdL A.in1 ⟨hp,g,d,tk,os⟩ a t c u prog w
      wp_walk using hri
      exact⟨_,rfl,by simpa using hR⟩
  case fin =>
   rintro⟨b1,b2⟩ s' ⟨hb',rfl,vs,ws,ns',ms',hz,hvi,hwi,hlen,hR⟩;simp only at hb';subst hb';have hv:lexLt ns' ms'=decide (items.size<items2.size):=by
    cases hvi with
    | nil =>
     cases hwi with
     | nil =>simp only[xlr] at hlen;rw[r6];exact(xmw (by omega)).symm
     | cons c u hw =>simp only[xlr,xlm] at hlen;rw[ar];exact(xmx (by omega)).symm
    | cons a t hv =>
     cases hwi with
     | nil =>simp only[xlr,xlm] at hlen;rw[aw];exact(xmw (by omega)).symm
     | cons c u hw =>rw[xma] at hz;cases hz
   rw[hv] at hR
   wp_walk
   exact⟨_,rfl,by simpa [Builtin.Tuple.tupleCompareSizes] using hR⟩
  case h =>exact⟨rfl,rfl,items.toList,items2.toList,ns,ms,rfl,hi,hj,by omega,h⟩
end
section
variable {prog:Program} {w:World} {A:Around} {E:Value->Shared->Prop} {s:Shared}
theorem xaa (hl:IsTup s.heap l items)(hb:IsTup s.heap b items2)(hi:IntsAre items.toList ns)(hj:IntsAre items2.toList ms)
  (hu:A.units<cLine) (h:Q (.bool (lexLt ns ms)) s):wpAny (model prog w) A (compareOp .Lt (.ref l) (.ref b)) Q E s:=by
 obtain⟨⟨cls,dd,data,sl⟩,ho,hc,n,hd⟩:=id hl;obtain⟨⟨cls2,dd2,data2,sl2⟩,ho2,hc2,n2,hd2⟩:=id hb;simp only at hc hd hc2 hd2;subst hc hd hc2 hd2;exact richCompare_meets_room (op:=.Lt) ⟨_,ho,rfl⟩ ⟨_,ho2,rfl⟩ PySem.F.slot_tuple_lt PySem.F.entry_tuple_lt (PySem.F.args_tuple_lt_2 _ _) (r_ l b items items2 n n2 dd dd2 sl sl2 ns ms hi hj)
  ⟨ho,ho2,show Value.bool (lexLt ns ms)≠Value.notImplemented/\Q (.bool (lexLt ns ms)) s from⟨(λx=>nomatch x),h⟩⟩ hu
theorem xeO (ht:IsTup s.heap t vs.toArray)(hb:IsTup s.heap b ws.toArray)(hv:vs≠[])
  (h1:ws=[]->Q (.ref t) s) (h2:ws≠[]->Q (.ref s.heap.objs.size) { s with heap:=s.heap.push { cls:=.type "tuple", data:=.seq (vs++ws).toArray } })
  (hsz:vs.length+ws.length<=sizeLine):wpAny (model prog w) A (binaryOp .Add (.ref t) (.ref b)) Q E s:=by
 obtain⟨⟨cls,dd,data,sl⟩,ho,hc,n,hd⟩:=id ht;obtain⟨⟨cls2,dd2,data2,sl2⟩,ho2,hc2,n2,hd2⟩:=id hb;simp only at hc hd hc2 hd2;subst hc hd hc2 hd2;have e:vs.toArray++ws.toArray=(vs++ws).toArray:=by simp
 by_cases hw:ws=[]
 .exact concat_meets ⟨_,ho,rfl⟩ ⟨_,ho2,rfl⟩ noFill_tuple_add seq_tuple_add PySem.F.slot_tuple_add PySem.F.entry_tuple_add (PySem.F.args_tuple_add_2 _ _)
   (tuple_addW1 t b vs.toArray ws.toArray n n2 dd dd2 sl sl2 (by simpa using hv) (by simp[hw])) ⟨ho,ho2,h1 hw⟩
 .refine concat_meets ⟨_,ho,rfl⟩ ⟨_,ho2,rfl⟩ noFill_tuple_add seq_tuple_add PySem.F.slot_tuple_add PySem.F.entry_tuple_add (PySem.F.args_tuple_add_2 _ _)
   (tuple_addW2 t b vs.toArray ws.toArray n n2 dd dd2 sl sl2 (by simpa using hv) (by simpa using hw) (by rw[xl4,xl4];exact hsz)) ⟨ho,ho2,?_⟩
  rw[e];exact h2 hw
def sIx (n d:Nat):Option Int->Nat
 | none=>d
 | some v=>if v<0 then(v+(n:Int)).toNat else min v.toNat n
theorem oB (n d:Nat):sIx n d none=d:=rfl
theorem tR (n d k:Nat):sIx n d (some (k:Int))=min k n:=by show(if (k:Int)<0 then((k:Int)+(n:Int)).toNat else min (k:Int).toNat n)=min k n;rw[if_neg (by omega),xkN]
theorem xhi (n d:Nat)(hd:d<=n)(o:Option Int):sIx n d o<=n:=by
 cases o with
 | none=>exact hd
 | some v =>
  show(if v<0 then(v+(n:Int)).toNat else min v.toNat n)<=n;by_cases hv:v<0
  .rw[if_pos hv];omega
  .rw[if_neg hv];exact xmm _ _
theorem xaE (v:Int)(n d:Nat):(if v<0 then max (v+(n:Int)) 0 else min v (n:Int))=((sIx n d (some v):Nat):Int):=by
 show(if v<0 then max (v+(n:Int)) 0 else min v (n:Int))=(((if v<0 then(v+(n:Int)).toNat else min v.toNat n):Nat):Int)
 by_cases hv:v<0
 .simp only[if_pos hv];omega
 .simp only[if_neg hv];omega
theorem lD (lo hi:Option Int)(n:Nat):Builtin.Slice.sliceAdjust lo hi 1 (n:Int)=(((sIx n 0 lo:Nat):Int),((sIx n n hi:Nat):Int)):=by
 have h1:¬((1:Int)<0):=by omega
 unfold Builtin.Slice.sliceAdjust;simp only[h1,xmz];refine Prod.ext ?_ ?_
 .cases lo with
  | none=>rfl
  | some v=>exact xaE v n 0
 .cases hi with
  | none=>rfl
  | some v=>exact xaE v n n
theorem xal (i j:Nat):Builtin.Slice.slicePlaces (i:Int) (j:Int) 1=j-i:=by
 unfold Builtin.Slice.slicePlaces;have h1:(1:Int)>0:=by omega
 simp only[h1,if_true,Int.ediv_one];split<;>omega
theorem qb (p:IsPart v o)(h:Q o s):wpAny (model prog w) A (Builtin.Slice.slicePartIndex v) Q E s:=by
 cases p with
 | none=>exact slicePart_none h
 | int i t=>exact slicePart_int h
theorem qN {sl:Addr}{vl vu:Value}{lo hi:Option Int}{n:Nat}{Q:Int×Int×Nat->Shared->Prop}(hs:s.heap.IsSliceOf sl vl vu .none)(pl:IsPart vl lo)(pu:IsPart vu hi)
  (h:Q (((sIx n 0 lo:Nat):Int),1,sIx n n hi-sIx n 0 lo) s):wpAny (model prog w) A (Builtin.Slice.sliceApplied (.ref sl) (pure (n:Int))) Q E s:=by
 obtain⟨os,hos,hcs,hds⟩:=id hs;unfold Builtin.Slice.sliceApplied Builtin.Slice.sliceFields;refine wpAny_bind (wpAny_bind (wpAny_field hos hds (x:=vl) rfl (wpAny_bind (wpAny_field hos hds (x:=vu) rfl (wpAny_bind (wpAny_field hos hds (x:=.none) rfl (wpAny_pure ?_)))))));refine wpAny_bind (slicePart_none ?_);show wpAny _ _ (if ((1:Int) == 0)=true then _ else _) _ _ s;rw[if_neg (by decide)];refine wpAny_bind (qb pl (wpAny_bind (qb pu (wpAny_bind (wpAny_pure ?_)))));show wpAny _ _ (match Builtin.Slice.sliceAdjust lo hi 1 (n:Int) with | (lo,hi)=>pure (lo,(1:Int),Builtin.Slice.slicePlaces lo hi 1)) _ _ s;rw[lD lo hi n];show wpAny _ _ (pure (((sIx n 0 lo:Nat):Int),(1:Int),Builtin.Slice.slicePlaces ((sIx n 0 lo:Nat):Int) ((sIx n n hi:Nat):Int) 1)) _ _ s;rw[xal];exact wpAny_pure h
theorem xdw (xs:Array Value)(i k:Nat):((List.range k).filterMap λ(m:Nat)=>xs[((i:Int)+(m:Int)*1).toNat]?).toArray=((xs.toList.drop i).take k).toArray:=by
 have e:(λ(m:Nat)=>xs[((i:Int)+(m:Int)*1).toNat]?)=λm=>xs[i+m]?:=by
  funext m;have:((i:Int)+(m:Int)*1).toNat=i+m:=by omega
  rw[this]
 rw[e];have:=pick_run xs i k;rw[List.filterMap_map] at this;have e2:((λx=>xs[x]?) ∘ λx=>i+x)=λm=>xs[i+m]?:=rfl;rw[e2] at this;rw[this]
theorem gY {t sl:Addr}{items:Array Value}{vl vu:Value}{lo hi:Option Int}{Q:Value->Shared->Prop}(ht:IsTup s.heap t items)(hs:s.heap.IsSliceOf sl vl vu .none)(pl:IsPart vl lo)(pu:IsPart vu hi)
  (hw:¬(sIx items.size 0 lo=0/\sIx items.size items.size hi=items.size))
  (h:Q (.ref s.heap.objs.size) { s with heap:=s.heap.push { cls:=.type "tuple", data:=.seq ((items.toList.drop (sIx items.size 0 lo)).take (sIx items.size items.size hi-sIx items.size 0 lo)).toArray } })
  (hsz:items.size<=sizeLine):wpAny (model prog w) A (getItem (.ref t) (.ref sl)) Q E s:=by
 have htake:sizeOk (.seq ((items.toList.drop (sIx items.size 0 lo)).take (sIx items.size items.size hi-sIx items.size 0 lo)).toArray):=by show((items.toList.drop (sIx items.size 0 lo)).take (sIx items.size items.size hi-sIx items.size 0 lo)).toArray.size<=sizeLine;rw[xl4,xly,xln,xj4];omega
 have hj:sIx items.size items.size hi<=items.size:=xhi _ _ (xmd _) hi;obtain⟨os,hos,hcs,hds⟩:=id hs;have hTs:s.TypeIs (.ref sl) "slice" := ⟨os,hos,hcs⟩
 unfold getItem
 try with_reducible refine wpAny_holding ?_
 first | refine wpAny_bind (wpAny_pure ?_) | skip
 refine wpAny_bind (wpAny_sequenceKey ht.typeIs (by decide) ?_);refine wpAny_bind (wpAny_callSpecial?_slot (name:=Str.ofString "__getitem__") ht.typeIs PyProof.Rows.slot_tuple_getitem
  (wpAny_call_entry PyProof.Rows.slot_tuple_getitem ht.typeIs entry_tuple_getitem ?_ (args_tuple_getitem _ _)))
 show wpAny _ _ (Builtin.Tuple.tupleItemsOf (.ref t) >>= _) _ _ s;refine wpAny_bind (tupleItemsOf_ ht ?_);refine wpAny_bind (wpAny_typeOf hTs ?_);rw[if_pos (by decide)];refine wpAny_bind (qN hs pl pu ?_);have hno:¬((((sIx items.size 0 lo:Nat):Int) == 0&&(1:Int) == 1&&(sIx items.size items.size hi-sIx items.size 0 lo) == items.size)=true):=by intro q;rw[xj5,xj5] at q;have q1:((sIx items.size 0 lo:Nat):Int)=0:=eq_of_beq q.1.1;have q2:sIx items.size items.size hi-sIx items.size 0 lo=items.size:=eq_of_beq q.2;exact hw ⟨by omega,by omega⟩
 show wpAny _ _ (if (((sIx items.size 0 lo:Nat):Int) == 0&&(1:Int) == 1&&(sIx items.size items.size hi-sIx items.size 0 lo) == items.size)=true then _ else _) _ _ s;rw[if_neg hno,xdw]
 first
  | exact wpAny_bind (m:=Builtin.Tuple.tupleExact _) (wpAny_newObj_type (wpAny_pure ⟨_,rfl,wpAny_pure h⟩) htake)
  | exact wpAny_bind (m:=Builtin.Tuple.tupleExact _) (wpAny_newObj_type (wpAny_bind (wpAny_pure (wpAny_pure ⟨_,rfl,wpAny_pure h⟩))) htake)
  | exact wpAny_bind (wpAny_bind (m:=Builtin.Tuple.tupleExact _) (wpAny_newObj_type (wpAny_pure (wpAny_pure ⟨_,rfl,wpAny_pure h⟩)) htake))
  | exact wpAny_bind (wpAny_bind (m:=Builtin.Tuple.tupleExact _) (wpAny_newObj_type (wpAny_pure ⟨_,rfl,wpAny_pure h⟩) htake))
end
end HT
namespace L2
open PySem PySem.Spec PyProof.Rows
abbrev TO:=St->Hp->(Option Int->Hp->Prop)->Prop
def PO (X:Cx)(e:Option Expr)(t:TO):Prop :=
 ∀(pins:List (Addr×Obj)) (s:Shared) (σ:St) (H:Hp) (Q:Option Int->Hp->Prop),Inv X pins σ H s->t σ H Q ->
  wpAny (model X.prog X.w) X.A (evalPart e X.env) (λu s'=>∃o H',Inv X pins σ H' s'/\IsPart u o/\Q o H') X.xe s
def xaM:TO:=λ_ H Q=>Q none H
def xfA (t:TE):TO:=λ σ H Q=>t σ H λx H1=>∃i,x=.int i/\Q (some i) H1
theorem intsAre_of:∀ {us:List Value},zo (ns.map V.int) us->IntsAre us ns:=by
 induction ns with
 | nil=>intro us r;rw[xlD] at r;cases r;exact .nil
 | cons n ns ih =>
  intro us r;rw[xlB] at r;cases r with
  | cons r1 r2 =>obtain⟨t,e⟩:=r1;subst e;exact .cons n t (ih r2)
section
variable {X:Cx} {e:Expr} {te:TE} {lo hi:Option Expr} {tl th:TO} {pos p2:Pos}
theorem gK:PO X none xaM:=by intro pins s σ H Q I h;rw[evalPart_none];exact wpAny_pure ⟨none,H,I,.none,h⟩
theorem qq (h:PE X e te):PO X (some e) (xfA te):=by intro pins s σ H Q I hw;rw[evalPart_some];refine thn (@h pins s σ H _ I hw) λu s1 ⟨x,H1,I1,r1,q1⟩=>?_;obtain⟨i,rfl,q⟩:=q1;obtain⟨t,rfl⟩:=r1;exact⟨some i,H1,I1,.int i t,q⟩
def SlR (X:Cx)(r:V->Option Int->Option Int->Hp->VK->Prop):Prop :=
 ∀(pins:List (Addr×Obj)) (s:Shared) (σ:St) (H:Hp) (x:V) (v vl vu:Value) (lo hi:Option Int) (sl:Addr) (Q:VK),Inv X pins σ H s->RelV x v->s.heap.IsSliceOf sl vl vu .none->IsPart vl lo->IsPart vu hi->r x lo hi H Q ->
  ∃T id,typeLookup (.type T) "__getitem__" = pure (some (.builtin id))/\s.TypeIs v T/\wpAny (model X.prog X.w) X.A (getItem v (.ref sl)) (EP X pins σ Q) X.xe s
def tSl (r:V->Option Int->Option Int->Hp->VK->Prop)(te:TE)(tl th:TO):TE:=λ σ H Q=>te σ H λx H1=>tl σ H1 λl H2=>th σ H2 λu H3=>r x l u H3 Q
theorem qv (hr:SlR X r)(he:PE X e te)(hl:PO X lo tl)(hu:PO X hi th):PE X (.Subscript e (.Slice lo hi none p2) pos) (tSl r te tl th):=by intro pins s σ H Q I h;refine Subscript_ (thn (@he pins s σ H _ I h) λv s1 ⟨x,H1,I1,r1,q1⟩=>?_);refine wpAny_Slice (thn (@hl pins s1 σ H1 _ I1 q1) λvl s2 ⟨l,H2,I2,pl,q2⟩=>thn (@hu pins s2 σ H2 _ I2 q2) λvu s3 ⟨u,H3,I3,pu,q3⟩=>?_);rw[evalPart_none];refine wpAny_pure ?_;have I4:Inv X pins σ H3 { s3 with heap:=s3.heap.push { cls:=.type "slice", data:=.fields #[vl,vu,.none] } }:=I3.kept (t':=s3.toks) λb ob q=>Heap.get?_push_of_some _ q;obtain⟨T,id,hT,ht,hg⟩:=hr pins { s3 with heap:=s3.heap.push { cls:=.type "slice", data:=.fields #[vl,vu,.none] } } σ H3 x v vl vu l u s3.heap.objs.size Q I4 r1 (Heap.IsSliceOf.new ..) pl pu q3;show wpAny (model X.prog X.w) X.A (subscriptTail e (.Slice lo hi none p2) v (.ref s3.heap.objs.size)) (EP X pins σ Q) X.xe { s3 with heap:=s3.heap.push { cls:=.type "slice", data:=.fields #[vl,vu,.none] } };exact tail_any (ops:=[.ref s3.heap.objs.size,v]) ht hT hg (by with_unfolding_all rfl)
def xaj (xs:List V)(lo hi:Option Int):List V:=(xs.drop (HT.sIx xs.length 0 lo)).take (HT.sIx xs.length xs.length hi-HT.sIx xs.length 0 lo)
theorem dR (xs:List V)(lo hi:Option Int):(xaj xs lo hi).length<=xs.length:=by unfold xaj;rw[xly,xln];omega
def xjA (K:PySem.W.Frag):V->Option Int->Option Int->Hp->VK->Prop:=λx lo hi H Q=>∃a xs,x=.ref a/\SqT K H a xs /\
 ¬(HT.sIx xs.length 0 lo=0/\HT.sIx xs.length xs.length hi=xs.length)/\∀p,H p=none->Q (.ref p) (upd H p (.tup (xaj xs lo hi)))
theorem xgK:SlR X (xjA X.K):=by
 intro pins s σ H x v vl vu lo hi sl Q I rx hs pl pu h;obtain⟨a,xs,rfl,hx,hw,q⟩:=h;cases rx;obtain⟨its,r,ht,hz⟩:=I.tuple hx;have hlen:its.toArray.size=xs.length:=by rw[xl4];exact r.length.symm
 refine⟨"tuple", _,PyProof.Rows.slot_tuple_getitem.lookup,ht.typeIs,?_⟩;refine HT.gY ht hs pl pu (by rw[hlen];exact hw) ?_ (by rw[hlen];exact hz);rw[hlen];refine⟨.ref s.heap.objs.size,_,I.laid (t':=s.toks) (o:=.tup (xaj xs lo hi)) (λb ob q=>Heap.get?_push_of_some _ q) (xmd _) ?_,rfl,q _ (I.hok.fresh (xmd _))⟩;exact⟨xmf (dR xs lo hi) hz,_,(r.drop (HT.sIx xs.length 0 lo)).take (HT.sIx xs.length xs.length hi-HT.sIx xs.length 0 lo),IsTup.new _ _⟩
def xjo (K:PySem.W.Frag):R2:=λx y H Q=>∃a b ns ms,x=.ref a/\y=.ref b/\SqT K H a (ns.map V.int)/\SqT K H b (ms.map V.int)/\Q (.bl (HT.lexLt ns ms)) H
theorem xg0 (hu:X.A.units<cLine):OpR X (compareOp .Lt) (xjo X.K):=by intro pins s σ H x y v u Q I rx ry h;obtain⟨a,b,ns,ms,rfl,rfl,ha,hb,q⟩:=h;cases rx;cases ry;obtain⟨its,r1,p1,_⟩:=I.tuple ha;obtain⟨its2,r2,p2,_⟩:=I.tuple hb;have i1:IntsAre its.toArray.toList ns:=intsAre_of r1;have i2:IntsAre its2.toArray.toList ms:=intsAre_of r2;exact HT.xaa p1 p2 i1 i2 hu ⟨.bl (HT.lexLt ns ms),H,I,rfl,q⟩
def xiJ (K:PySem.W.Frag):R2:=λx y H Q=>∃a b xs ys,x=.ref a/\y=.ref b/\SqT K H a xs/\SqT K H b ys/\xs≠[]/\xs.length+ys.length<=sizeLine /\
 (ys=[]->Q (.ref a) H)/\(ys≠[]->∀p,H p=none->Q (.ref p) (upd H p (.tup (xs++ys))))
theorem zo.nil_iff (r:zo xs us):us=[]↔xs=[]:=by
 cases r with
 | nil=>simp
 | cons _ _=>simp
theorem xf8:OpR X (binaryOp .Add) (xiJ X.K):=by intro pins s σ H x y v u Q I rx ry h;obtain⟨a,b,xs,ys,rfl,rfl,ha,hb,hx,hz,q1,q2⟩:=h;cases rx;cases ry;obtain⟨its,r1,p1,_⟩:=I.tuple ha;obtain⟨its2,r2,p2,_⟩:=I.tuple hb;refine HT.xeO p1 p2 (λz=>hx (r1.nil_iff.mp z)) (λz=>⟨.ref a,H,I,rfl,q1 (r2.nil_iff.mp z)⟩) (λz=>?_) (by rw[<-r1.length,<-r2.length];exact hz);refine⟨.ref s.heap.objs.size,_,I.laid (t':=s.toks) (o:=.tup (xs++ys)) (λb ob q=>Heap.get?_push_of_some _ q) (xmd _) ?_,rfl,q2 (λw=>z (r2.nil_iff.mpr w)) _ (I.hok.fresh (xmd _))⟩;exact⟨by rw[xll];exact hz,_,r1.append r2,IsTup.new _ _⟩
end
end L2
namespace L2
open PySem PySem.Spec PyProof.Rows
def ixN (n:Nat)(i:Int):Option Nat:=if 0<=i then(if i<n then some i.toNat else none) else if -(n:Int)<=i then some (i+n).toNat else none
def atI (xs:List α)(i:Int):Option α:=(ixN xs.length i).bind λj=>xs[j]?
theorem xaw (h:ixN n i=some j):seqIndex? i n=some j/\j<n/\-(n:Int)<=i/\i<n:=by
 unfold ixN at h;by_cases h0:0<=i
 .rw[if_pos h0] at h;by_cases h1:i<n
  .rw[if_pos h1] at h;have e:i.toNat=j:=xmt h;exact⟨by rw[seqIndex_of h0 h1,e],by omega,by omega,h1⟩
  .rw[if_neg h1] at h;cases h
 .rw[if_neg h0] at h;by_cases h1:-(n:Int)<=i
  .rw[if_pos h1] at h;have e:(i+n).toNat=j:=xmt h;exact⟨by rw[seqIndex_neg (by omega) h1,e],by omega,h1,by omega⟩
  .rw[if_neg h1] at h;cases h
theorem pK (h:atI xs i=some v):∃j,seqIndex? i xs.length=some j/\xs[j]? = some v/\j<xs.length/\-(xs.length:Int)<=i/\i<xs.length:=by
 unfold atI at h;cases e:ixN xs.length i with
 | none=>rw[e] at h;cases h
 | some j =>rw[e] at h;obtain⟨h1,h2,h3,h4⟩:=xaw e;exact⟨j,h1,h,h2,h3,h4⟩
theorem xe4 {α:Type}{xs:List α}{j:Nat}{v:α}(h:xs[j]? = some v):atI xs (j:Int)=some v:=by
 have hj:j<xs.length:=(xle.mp h).1;have e:ixN xs.length (j:Int)=some j:=by unfold ixN;rw[if_pos (by omega),if_pos (by omega)];simp
 unfold atI;rw[e];exact h
theorem xdY (xs:List α)(v:α):atI (xs++[v]) (-1)=some v:=by
 have hl:(xs++[v]).length=xs.length+1:=by simp
 have e:ixN (xs++[v]).length (-1)=some xs.length:=by unfold ixN;rw[hl,if_neg (by decide),if_pos (by omega)];congr 1;omega
 unfold atI;rw[e];show(xs++[v])[xs.length]? = some v;simp
def xeY (b:Expr):Prop:=∀o i,subscripted b false o i=operate [o,i] (getItem o i)
def IxR (X:Cx)(r:R2):Prop :=
 ∀(value slice:Expr) (pins:List (Addr×Obj)) (s:Shared) (σ:St) (H:Hp) (x y:V) (v u:Value) (Q:VK),Inv X pins σ H s->RelV x v->RelV y u->r x y H Q ->
  subscripted slice false v u=operate [v,u] (getItem v u)->wpAny (model X.prog X.w) X.A (subscriptTail value slice v u) (EP X pins σ Q) X.xe s
def MtR (X:Cx)(id:String)(r:V->List V->Hp->VK->Prop):Prop :=
 ∀(pins:List (Addr×Obj)) (s:Shared) (σ:St) (H:Hp) (x:V) (xs:List V) (v:Value) (us:List Value) (Q:VK),Inv X pins σ H s->RelV x v->zo xs us->r x xs H Q ->
  wpAny (model X.prog X.w) X.A (call (.builtin id) (v::us)) (EP X pins σ Q) X.xe s
section
variable {X:Cx} {a b:Expr} {ta tb:TE} {pos:Pos}
theorem IxR.or (h:IxR X r)(h':IxR X r'):IxR X (λx y H Q=>r x y H Q\/r' x y H Q):=by
 intro value slice pins s σ H x y v u Q I rx ry q hs;rcases q with q | q
 .exact h value slice pins s σ H x y v u Q I rx ry q hs
 .exact h' value slice pins s σ H x y v u Q I rx ry q hs
theorem zd (hr:IxR X r)(ha:PE X a ta)(hb:PE X b tb)(hs:xeY b):PE X (.Subscript a b pos) (tOp r ta tb):=by intro pins s σ H Q I h;exact Subscript_ (xik ha hb I h λv u s2 x y H2 I2 rx ry q=>hr a @b pins s2 σ H2 x y v u Q I2 rx ry q (hs _ _))
def xiQ (K:PySem.W.Frag):R2:=λx y H Q=>∃p xs i v,x=.ref p/\y=.int i/\SqL K H p xs/\atI xs i=some v/\Q v H
def xjs (K:PySem.W.Frag):R2:=λx y H Q=>∃p xs i v,x=.ref p/\y=.int i/\SqT K H p xs/\atI xs i=some v/\Q v H
def xjx:R2:=λx y H Q=>∃z i c,x=.str z/\y=.int i/\z.length<=sizeLine/\atI z.cps.toList i=some c/\Q (.str ⟨#[c]⟩) H
theorem xa4:IxR X (xiQ X.K):=by
 intro value slice pins s σ H x y v u Q I rx ry h hs;obtain⟨p,xs,i,z,rfl,rfl,hq,he,q⟩:=h;cases rx;obtain⟨t,rfl⟩:=ry;obtain⟨its,r,pl,hz⟩:=I.list hq;obtain⟨j,h1,h2,h3,h4,h5⟩:=pK he;obtain⟨w,ew,rw'⟩:=r.get h2;have hl:=r.length;have hn:=mO;have fin:EP X pins σ Q w s:=⟨z,H,I,rw',q⟩
 by_cases h0:0<=i
 .have hj:i.toNat=j:=by rw[seqIndex_of h0 h5] at h1;exact xmt h1
  exact item_listR pl.isList h0 (by omega) (by rw[hj];simpa using ew) fin hs
 .have hj:(i+(its.toArray.size:Int)).toNat=j:=by rw[seqIndex_neg (by omega) h4] at h1;rw[xl4,<-hl];exact xmt h1
  exact subscriptTail_builtinR (x:=w) pl.isList.typeIs slot_list_getitem.lookup
   (wpAny_getItem_list_neg (Q:=λr s'=>r=w/\EP X pins σ Q r s') pl.isList (by omega) (by rw[xl4]<;>omega) (by omega) (by rw[hj];simpa using ew) ⟨rfl,fin⟩) hs
theorem xhr:IxR X (xjs X.K):=by
 intro value slice pins s σ H x y v u Q I rx ry h hs;obtain⟨p,xs,i,z,rfl,rfl,hq,he,q⟩:=h;cases rx;obtain⟨t,rfl⟩:=ry;obtain⟨its,r,pl,hz⟩:=I.tuple hq;obtain⟨j,h1,h2,h3,h4,h5⟩:=pK he;obtain⟨w,ew,rw'⟩:=r.get h2;have hl:=r.length;have hn:=mO;have fin:EP X pins σ Q w s:=⟨z,H,I,rw',q⟩
 exact subscriptTail_builtinR (x:=w) pl.typeIs slot_tuple_getitem.lookup
  (getItem_tuple (j:=j) (Q:=λr s'=>r=w/\EP X pins σ Q r s') pl (by omega) (by omega) (by rw[xl4,<-hl];exact h1) (by simpa using ew) ⟨rfl,fin⟩) hs
theorem xhs:IxR X xjx:=by
 intro value slice pins s σ H x y v u Q I rx ry h hs;obtain⟨z,i,c,rfl,rfl,hz,he,q⟩:=h;obtain⟨t,rfl⟩:=rx;obtain⟨t',rfl⟩:=ry;obtain⟨j,h1,h2,h3,h4,h5⟩:=pK he;have hl:z.cps.toList.length=z.length:=by simp[Str.length]
 rw[hl] at h1 h4 h5;have hn:=mO;exact tail_any (typeIs_str s z t) slot_str_getitem.lookup (getItem_str (c:=c) (by have e1:decide (i < -(2 ^ 63:Int))=false:=xmw (by omega);have e2:decide (i>=2 ^ 63)=false:=xmw (by omega);rw[e1,e2,Bool.or_false]) (by rw[h1];simpa using h2) ⟨.str ⟨#[c]⟩,H,I.tok _,⟨_,rfl⟩,q⟩) hs
def rIx (K:PySem.W.Frag):R2:=λx y H Q=>xiQ K x y H Q\/xjs K x y H Q\/xjx x y H Q
theorem xg5:IxR X (rIx X.K):=xa4.or (xhr.or xhs)
theorem ly (its:List Value)(n j:Nat)(u:Value):Obj.mapSeq (·.setIfInBounds j u) { cls:=.type "list", data:=.seq its.toArray n }={ cls:=.type "list", data:=.seq (its.set j u).toArray n }:=by simp[Obj.mapSeq]
theorem Inv.lst {pins:List (Addr×Obj)}{σ:St}{H:Hp}{s:Shared}{p:Addr}{xs:List V}(I:Inv X pins σ H s)(h:H p=some (.lst xs)) :
  ∃(its:List Value) (n:Nat),zo xs its/\s.heap.get? p=some { cls:=.type "list", data:=.seq its.toArray n }/\xs.length<=sizeLine:=by
 obtain⟨z,its,n,r,e⟩:=I.hok p _ h;exact⟨its,n,r,e,z⟩
theorem Inv.lstUpd {pins:List (Addr×Obj)}{σ:St}{H:Hp}{s:Shared}{p:Addr}{xs ys:List V}{its its':List Value}{n n':Nat}{f:Obj->Obj}(I:Inv X pins σ H s)(h:H p=some (.lst xs))
  (ho:s.heap.get? p=some { cls:=.type "list", data:=.seq its.toArray n }) (hf:f { cls:=.type "list", data:=.seq its.toArray n }={ cls:=.type "list", data:=.seq its'.toArray n' }) (r:zo ys its') (hz:ys.length<=sizeLine) (t:Nat) :
  Inv X pins σ (upd H p (.lst ys)) { s with heap:=s.heap.update p f,toks:=t }:=by
 have e:(s.heap.update p f).get? p=some { cls:=.type "list", data:=.seq its'.toArray n' }:=by rw[Heap.get?_update_self f ho (by rw[hf]<;>rfl),hf]
 refine I.write (x:=p) (e:=p) (by rw[h];trivial) (.inl rfl) (λb u hb q=>(Heap.get?_update_other _ _ (Ne.symm hb)).trans q) ⟨_,e⟩ ?_;exact⟨hz,its',n',r,e⟩
def xhb:V->V->V->Hp->(Hp->Prop)->Prop:=λo i v H Q=>∃p xs k j,o=.ref p/\i=.int k/\H p=some (.lst xs)/\ixN xs.length k=some j/\Q (upd H p (.lst (xs.set j v)))
theorem set_list:xjf X xhb:=by
 intro pins s σ H o i v ov iv u Q I ro ri rv h;obtain⟨p,xs,k,j,rfl,rfl,hp,hj,q⟩:=h;cases ro;obtain⟨t,rfl⟩:=ri;obtain⟨its,n,r,ho,hz⟩:=I.lst hp;obtain⟨h1,h2,h3,h4⟩:=xaw hj;have hl:=r.length;have hn:=mO;have I':Inv X pins σ (upd H p (.lst (xs.set j v))) { s with heap:=s.heap.update p (Obj.mapSeq (·.setIfInBounds j u)) } :=I.lstUpd hp ho (ly its n j u) (r.set rv j) (by rw[xlw];exact hz) s.toks
 by_cases h0:0<=k
 .have hk:k.toNat=j:=by rw[seqIndex_of h0 h4] at h1;exact xmt h1
  exact PySem.W.ki_setAt ho h0 (by omega) (by rw[xl4,<-hl];exact h4) (by rw[hk];exact⟨_,I',q⟩)
 .have hk:(k+(its.toArray.size:Int)).toNat=j:=by rw[seqIndex_neg (by omega) h3] at h1;rw[xl4,<-hl];exact xmt h1
  exact PySem.W.ki_setBack ho (by omega) (by rw[xl4,<-hl];exact h3) (by omega) (by rw[hk];exact⟨_,I',q⟩)
theorem bA (lo hi:Option Int)(n:Nat):(sliceBounds lo hi none n).1=((HT.sIx n 0 lo:Nat):Int)/\(sliceBounds lo hi none n).2.1=((HT.sIx n n hi:Nat):Int)/\(sliceBounds lo hi none n).2.2=1:=by
 refine⟨?_,?_,rfl⟩
 .cases lo with
  | none=>simp[sliceBounds,HT.sIx]
  | some i =>
   simp only[sliceBounds,HT.sIx,Option.getD_none,show(1:Int)>0 by decide,if_true];by_cases h:i<0
   .simp only[h,if_true]<;>omega
   .simp only[h,xmz]<;>omega
 .cases hi with
  | none=>simp[sliceBounds,HT.sIx]
  | some i =>
   simp only[sliceBounds,HT.sIx,Option.getD_none,show(1:Int)>0 by decide,if_true];by_cases h:i<0
   .simp only[h,if_true]<;>omega
   .simp only[h,xmz]<;>omega
theorem rZ (its:List Value)(lo hi:Option Int):slicePick its.toArray lo hi none=((its.drop (HT.sIx its.length 0 lo)).take (HT.sIx its.length its.length hi-HT.sIx its.length 0 lo)).toArray:=by obtain⟨h1,h2,h3⟩:=bA lo hi its.toArray.size;unfold slicePick;rw[h1,h2,h3];simp only[sliceRange_one,pick_run,xl4]<;>rfl
def xhB (K:PySem.W.Frag):V->Option Int->Option Int->Hp->VK->Prop:=λx lo hi H Q=>∃a xs,x=.ref a/\SqL K H a xs/\∀p,H p=none->Q (.ref p) (upd H p (.lst (xaj xs lo hi)))
theorem xb1:SlR X (xhB X.K):=by intro pins s σ H x v vl vu lo hi sl Q I rx hs pl pu h;obtain⟨a,xs,rfl,hx,q⟩:=h;cases rx;obtain⟨its,r,ht,hz⟩:=I.list hx;have hlen:=r.length;refine⟨"list", _,slot_list_getitem.lookup,ht.isList.typeIs,?_⟩;refine wpAny_getItem_list_slice ht.isList hs pl pu .none (by simp) ?_ (by rw[xl4]<;>omega);rw[rZ,<-hlen];refine⟨.ref s.heap.objs.size,_,I.laid (t':=s.toks) (o:=.lst (xaj xs lo hi)) (λb ob q=>Heap.get?_push_of_some _ q) (xmd _) ?_,rfl,q _ (I.hok.fresh (xmd _))⟩;exact⟨xmf (dR xs lo hi) hz,_,0,(r.drop (HT.sIx xs.length 0 lo)).take (HT.sIx xs.length xs.length hi-HT.sIx xs.length 0 lo),Heap.get?_push_size _ rfl⟩
theorem nZ:qh X (.builtin "len") (λxs H Q=>∃p ys,xs=[.ref p]/\(SqL X.K H p ys\/SqT X.K H p ys)/\Q (.int ys.length) H):=by
 intro pins s σ H xs us Q I r h;obtain⟨p,ys,rfl,hq,q⟩:=h;obtain⟨u,rfl,rx⟩:=vals1 r;cases rx;have hn:=mO;rcases hq with hq | hq
 .obtain⟨its,r',pl,hz⟩:=I.list hq;have hlen:=r'.length;exact Calls.call_len_list pl.isList (by simp only[xl4]<;>omega) ⟨.int ys.length,H,I.tok _,⟨s.toks+1,by rw[xl4,hlen]⟩,q⟩
 .obtain⟨its,r',pl,hz⟩:=I.tuple hq;have hlen:=r'.length;exact len_tuple pl (by simp only[xl4]<;>omega) ⟨.int ys.length,H,I.tok _,⟨s.toks+1,by rw[xl4,hlen]⟩,q⟩
theorem bP:qh X (.type "list") (λxs H Q=>∃p ys,xs=[.ref p]/\(SqL X.K H p ys\/SqT X.K H p ys)/\∀l,H l=none->Q (.ref l) (upd H l (.lst ys))):=by
 intro pins s σ H xs us Q I r h;obtain⟨p,ys,rfl,hq,q⟩:=h;obtain⟨u,rfl,rx⟩:=vals1 r;cases rx;have fin:∀(its:List Value),zo ys its->ys.length<=sizeLine->∀(h':Heap) (c':Nat),(∀b o',s.heap.get? b=some o'->h'.get? b=some o') ->
   h'.get? s.heap.objs.size=some { cls:=.type "list", dict:=none,data:=.seq its.toArray c',slots := #[] }->EP X pins σ Q (.ref s.heap.objs.size) { s with heap:=h' }:=λits r' hz h' c' kp e =>
  ⟨.ref s.heap.objs.size,_,I.laid (t':=s.toks) kp (xmd _) (show uB X.prog X.w _ h' _ (.lst ys) from⟨hz,its,c',r',e⟩),rfl,q _ (I.hok.fresh (xmd _))⟩
 rcases hq with hq | hq
 .obtain⟨its,r',pl,hz⟩:=I.list hq;have hlen:=r'.length;obtain⟨o,ho,hc,n,hd⟩:=pl.isList;exact call_list_seq p (.inl rfl) ho hc hd (λh' c' kp e=>fin its r' hz h' c' kp e) (by simp only[xl4]<;>omega)
 .obtain⟨its,r',pl,hz⟩:=I.tuple hq;have hlen:=r'.length;obtain⟨o,ho,hc,n,hd⟩:=pl;exact call_list_seq p (.inr rfl) ho hc hd (λh' c' kp e=>fin its r' hz h' c' kp e) (by simp only[xl4]<;>omega)
theorem tT:qh X (.type "tuple") (λxs H Q=>∃p ys,xs=[.ref p]/\((SqL X.K H p ys/\∀l,H l=none->Q (.ref l) (upd H l (.tup ys)))\/(SqT X.K H p ys/\Q (.ref p) H))):=by
 intro pins s σ H xs us Q I r h;obtain⟨p,ys,rfl,h⟩:=h;obtain⟨u,rfl,rx⟩:=vals1 r;cases rx;rcases h with ⟨hq,q⟩ | ⟨hq,q⟩
 .obtain⟨its,r',pl,hz⟩:=I.list hq;have hlen:=r'.length;refine call_tuple_list pl.isList (λh' kp=>?_) (by simp only[xl4]<;>omega);have I1:Inv X pins σ H { s with heap:=h' }:=I.kept (t':=s.toks) kp;have I2:Inv X pins σ (upd H h'.objs.size (.tup ys)) { s with heap:=h'.push { cls:=.type "tuple", data:=.seq its.toArray } } :=I1.laid (t':=s.toks) (λb o e=>Heap.get?_push_of_some _ e) (xmd _) (show uB X.prog X.w _ _ _ (.tup ys) from⟨hz,its,r',IsTup.new _ _⟩)
  exact⟨.ref h'.objs.size,_,I2,rfl,q _ (I1.hok.fresh (xmd _))⟩
 .obtain⟨its,r',pl,hz⟩:=I.tuple hq;exact call_tuple_same pl ⟨.ref p,H,I,rfl,q⟩
def tyV (K:PySem.W.Frag)(T:String)(x:V)(H:Hp):Prop:=match x with
 | .str _=>T = "str"
 | .int _=>T = "int"
 | .ref p=>(T = "list" /\ ∃xs,SqL K H p xs)\/(T = "tuple" /\ ∃o,K.lookup p=some o/\o.cls=.type "tuple" /\ o.dict=none) \/
   (T = "dict" /\ ((∃kvs,H p=some (.dK kvs))\/∃kvs,H p=some (.dT kvs)))\/(T = "set" /\ ∃S n,H p=some (.set S n))
 | _=>False
theorem xeJ (I:Inv X pins σ H s)(r:RelV x v)(ty:tyV X.K T x H) :
  s.TypeIs v T/\∀a,v=.ref a->∃ob,s.heap.get? a=some ob/\ob.dict=none:=by
 cases x with
 | str z =>obtain⟨t,rfl⟩:=r;cases (show T = "str" from ty);exact⟨typeIs_str s z t,λ_ e=>nomatch e⟩
 | int i =>obtain⟨t,rfl⟩:=r;cases (show T = "int" from ty);exact⟨typeIs_int s i t,λ_ e=>nomatch e⟩
 | ref p =>
  cases r;rcases ty with ⟨rfl,xs,hq⟩ | ⟨rfl,o,hk,hc,hd⟩ | ⟨rfl,hk⟩ | ⟨rfl,S,n,hk⟩
  .obtain⟨its,_,pl,_⟩:=I.list hq;refine⟨pl.isList.typeIs,λa e=>?_⟩;cases e;obtain⟨o,n,e,c,hd,_⟩:=pl;exact⟨o,e,hd⟩
  .refine⟨⟨o,I.kIn p o hk,hc⟩,λa e=>?_⟩;cases e;exact⟨o,I.kIn _ o hk,hd⟩
  .have z:∃o,s.heap.get? p=some o/\o.ExactDict:=by
    rcases hk with ⟨kvs,hk⟩ | ⟨kvs,hk⟩
    .obtain⟨_,_,_,_,o,_,_,e,ex,_⟩:=I.hok p _ hk;exact⟨o,e,ex⟩
    .obtain⟨_,_,_,_,o,_,_,e,ex,_⟩:=I.hok p _ hk;exact⟨o,e,ex⟩
   obtain⟨o,e,ex⟩:=z;refine⟨⟨o,e,ex.1⟩,λa e2=>?_⟩;cases e2;exact⟨o,e,ex.2.1⟩
  .obtain⟨o,_,_,_,e,ex,_⟩:=I.hok p _ hk;refine⟨⟨o,e,ex.1⟩,λa e2=>?_⟩;cases e2;exact⟨o,e,ex.2.1⟩
 | _=>exact False.elim ty
def xiV (K:PySem.W.Frag)(T:String)(r:V->List V->Hp->VK->Prop)(to:TE):TE:=λ σ H Q=>to σ H λx H1=>tyV K T x H1/\r x [] H1 Q
def tBM (K:PySem.W.Frag)(T:String)(r:V->List V->Hp->VK->Prop)(to:TE)(t:TA):TE:=λ σ H Q=>to σ H λx H1=>tyV K T x H1/\t σ H1 λxs H2=>r x xs H2 Q
variable {o e:Expr} {es:List Expr} {to:TE} {t:TA} {name:Str} {apos cpos:Pos} {T id:String} {r:V->List V->Hp->VK->Prop}
theorem xht (pa:PlainAttrs T)(slot:Slot T name id)(hty:typeOf (.builtin id)=pure (.type "method_descriptor"))(hm:MtR X id r)(ho:PE X o to)
  (hbase:attributeBase o name X.env (eval o X.env)=eval o X.env:=by rfl) (hline:(apos.endLine == cpos.line)=true:=by rfl):PE X (.Call (.Attribute o name apos) [] [] cpos) (xiV X.K T r to):=by
 intro pins s σ H Q I h;refine wpAny_Call_method0_late hbase hline (thn (@ho pins s σ H _ I h) λv s1 ⟨x,H1,I1,r1,ty,q1⟩=>?_);obtain⟨h1,h2⟩:=xeJ I1 r1 ty;exact⟨T,id,pa,slot,hty,h1,h2,Calls.callWith_builtin rfl (PySem.evalArgs_none (@hm pins s1 σ H1 x [] v [] Q I1 r1 .nil q1))⟩
theorem sP (pa:PlainAttrs T)(slot:Slot T name id)(hty:typeOf (.builtin id)=pure (.type "method_descriptor"))(hm:MtR X id r)(ho:PE X o to)(ha:PA X (e::es) t)
  (hbase:attributeBase o name X.env (eval o X.env)=eval o X.env:=by rfl)
  (hfew:((backTo cpos (starEach (e::es) X.env)).all (λx=>!x.1)&&(backToKw cpos (keywordEach [] X.env)).all (λx=>x.1.isSome)
   && decide ((e::es).length+([]:List Keyword).length+(if ([]:List Keyword).isEmpty then 0 else 1)<30))=true:=by rfl)
  (hline:(apos.endLine == cpos.line)=true:=by rfl) (hs:starEach (e::es) X.env=(false,eval e X.env)::starEach es X.env:=by rfl) (hplain:(backTo cpos (starEach es X.env)).any (·.1)=false:=by rfl) :
  PE X (.Call (.Attribute o name apos) (e::es) [] cpos) (tBM X.K T r to t):=by
 intro pins s σ H Q I h;refine wpAny_Call_method_late hbase hfew hline rfl (thn (@ho pins s σ H _ I h) λv s1 ⟨x,H1,I1,r1,ty,q1⟩=>?_);obtain⟨h1,h2⟩:=xeJ I1 r1 ty;refine⟨T,id,pa,slot,hty,h1,h2,?_⟩;have hA:=@ha cpos pins s1 σ H1 _ I1 q1;rw[hs] at hA ⊢;refine Calls.callWith_builtin (by show(false || (backTo cpos (starEach es X.env)).any (·.1))=false;rw[hplain]<;>rfl) (Calls.evalArgs_plain ?_);exact thn hA λus s2 ⟨vs,H2,I2,r2,q2⟩=>@hm pins s2 σ H2 x vs v us Q I2 r1 r2 q2
end
end L2
namespace L2
open PySem PySem.Spec PyProof.Rows
def MtM (X:Cx)(id:String)(r:V->List V->Hp->VK->Prop):Prop :=
 ∀(pins:List (Addr×Obj)) (s:Shared) (σ:St) (H:Hp) (x:V) (xs:List V) (v:Value) (us:List Value) (Q:VK),Inv X pins σ H s->RelV x v->zo xs us->r x xs H Q ->
  wpAny (model X.prog X.w) X.A (call (.builtin id) (v::us)) (EP X pins σ Q) X.xe s
theorem zo.one:∀ {x:V} {us:List Value},zo [x] us->∃u,us=[u]/\RelV x u
 | _,_,.cons r .nil=>⟨_,rfl,r⟩
theorem zo.zero:∀ {us:List Value},zo [] us->us=[]
 | _,.nil=>rfl
theorem zo.rep (h:zo xs us):∀k:Nat,zo (List.replicate k xs).flatten (List.replicate k us).flatten
 | 0=>.nil
 | k+1=>by rw[xl1,xl1,xk7,xk7];exact zo.append h (zo.rep h k)
theorem foldl_rep (its:List Value):∀(k:Nat) (acc:List Value),
  List.foldl (λx1 x2=>x1++x2) acc.toArray (List.replicate k its.toArray)=(acc++(List.replicate k its).flatten).toArray
 | 0,acc=>by simp
 | k+1,acc=>by
  have e:acc.toArray++its.toArray=(acc++its).toArray:=by simp
  have e2:(acc++its)++(List.replicate k its).flatten=acc++(List.replicate (k+1) its).flatten:=by rw[xl1,xk7,xkW]
  rw[<-e2,<-foldl_rep its k (acc++its),<-e,xl1,xk9]
section
variable {X:Cx} {pins:List (Addr×Obj)} {σ:St} {H:Hp} {s:Shared} {l b:Addr} {xs ys zs:List V}
theorem Inv.lset {its its':List Value}{n:Nat}{f:Array Value->Array Value}{t':Nat}(I:Inv X pins σ H s)(hH:H l=some (.lst xs))
  (e:s.heap.get? l=some { cls:=.type "list", data:=.seq its.toArray n }) (hf:f its.toArray=its'.toArray) (hv:zo ys its') (hz:ys.length<=sizeLine) :
  Inv X pins σ (upd H l (.lst ys)) { s with heap:=s.heap.update l (Obj.mapSeq f),toks:=t' }:=by
 have q:=PySem.IsL.update e f;rw[hf] at q;refine I.write (x:=l) (e:=l) (by rw[hH];exact trivial) (.inl rfl) (λb' u hb hu=>(Heap.get?_update_other s.heap (Obj.mapSeq f) (Ne.symm hb)).trans hu) ⟨_,q⟩ ?_;exact⟨hz,its',_,hv,q⟩
theorem Inv.lnew (I:Inv X pins σ H s)(hv:zo ys its)(hz:ys.length<=sizeLine) :
  Inv X pins σ (upd H s.heap.objs.size (.lst ys)) { s with heap:=s.heap.push { cls:=.type "list", data:=.seq its.toArray },toks:=t' } :=
 I.laid (λ_ _ q=>Heap.get?_push_of_some _ q) (xmd _) ⟨hz,its,0,hv,Heap.get?_push_size _ rfl⟩
theorem Inv.fresh (I:Inv X pins σ H s):H s.heap.objs.size=none:=I.hok.fresh (xmd _)
theorem Inv.lstM (I:Inv X pins σ H s)(hH:H l=some (.lst xs)):xs.length<=sizeLine/\∃(its:List Value) (n:Nat),zo xs its/\xs.length=its.length/\s.heap.get? l=some { cls:=.type "list", data:=.seq its.toArray n }:=by obtain⟨z,its,n,r,e⟩:=I.hok l _ hH;exact⟨z,its,n,r,r.length,e⟩
theorem xcZ (h:n<=sizeLine):Builtin.List.listTooLong n=false:=by unfold Builtin.List.listTooLong;exact xmw (by omega)
end
section
variable {X:Cx}
def xbm:V->List V->Hp->VK->Prop:=λx vs H Q=>∃l xs y,x=.ref l/\vs=[y]/\H l=some (.lst xs)/\xs.length<sizeLine/\Q .non (upd H l (.lst (xs++[y])))
theorem wd:MtM X "list.append" xbm:=by intro pins s σ H x vs v us Q I rx rv h;obtain⟨l,xs,y,rfl,rfl,hH,hz,q⟩:=h;cases rx;obtain⟨u,rfl,ru⟩:=rv.one;obtain⟨z,its,n,r,hl,e⟩:=I.lstM hH;refine call_meets F.slot_list_append ⟨_,e,rfl⟩ F.entry_list_append (F.args_list_append_2 _ _) (PySem.list_append l its.toArray n u (by rw[xl4];omega)) ⟨e,?_⟩;refine⟨.non,_,I.lset (its':=its++[u]) hH e (by simp) (r.append (.cons ru .nil)) ?_,rfl,q⟩;rw[xll,xlx];omega
def xiz:R2:=λx y H Q=>∃l b xs zs,x=.ref l/\y=.ref b/\H l=some (.lst xs)/\H b=some (.lst zs)/\xs.length+zs.length<=sizeLine/\∀p,H p=none->Q (.ref p) (upd H p (.lst (xs++zs)))
theorem mY:OpR X (binaryOp .Add) xiz:=by
 intro pins s σ H x y v u Q I rx ry h;obtain⟨l,b,xs,zs,rfl,rfl,hH,hB,hz,q⟩:=h;cases rx;cases ry;obtain⟨z,its,n,r,hl,e⟩:=I.lstM hH;obtain⟨z2,its2,n2,r2,hl2,e2⟩:=I.lstM hB;refine PySem.P.add_list e e2 ?_ (by rw[xl4,xl4];omega);have ea:its.toArray++its2.toArray=(its++its2).toArray:=by simp
 rw[ea];exact⟨.ref _,_,I.lnew (t':=s.toks) (r.append r2) (by rw[xll];omega),rfl,q _ I.fresh⟩
def xi2:R2:=λx y H Q=>∃l k xs,x=.ref l/\y=.int k/\H l=some (.lst xs)/\-(2 ^ 63)<=k/\k<2 ^ 63/\xs.length*k.toNat<=sizeLine /\
 ∀p,H p=none->Q (.ref p) (upd H p (.lst (List.replicate k.toNat xs).flatten))
theorem len_rep (xs:List α)(k:Nat):(List.replicate k xs).flatten.length=k*xs.length:=by
 induction k with
 | zero=>simp
 | succ k ih=>rw[xl1,xk7,xll,ih,Nat.succ_mul,Nat.add_comm]
theorem xep:OpR X (binaryOp .Mult) xi2:=by
 intro pins s σ H x y v u Q I rx ry h;obtain⟨l,k,xs,rfl,rfl,hH,h1,h2,hz,q⟩:=h;cases rx;obtain⟨t,rfl⟩:=ry;obtain⟨z,its,n,r,hl,e⟩:=I.lstM hH;have hlen:its.toArray.size*k.toNat<=sizeLine:=by rw[xl4,<-hl];exact hz
 have hcap:¬its.toArray.size*k.toNat>(2 ^ 63-1) / 8:=by
  have:(sizeLine:Nat)<=(2 ^ 63-1) / 8:=by decide
  omega
 have hfit:¬(!Builtin.List.listFitsIndex k)=true:=by rw[fitsIndex_both h1 h2];exact xj8
 have hlong:¬Builtin.List.listTooLong (its.toArray.size*k.toNat)=true:=by rw[xcZ hlen];exact xj8
 have hnew:List.foldl (λx1 x2=>x1++x2) #[] (List.replicate (if its.toArray.isEmpty=true then 0 else k.toNat) its.toArray)=(List.replicate k.toNat its).flatten.toArray:=by
  have f0:∀m:Nat,List.foldl (λx1 x2=>x1++x2) #[] (List.replicate m its.toArray)=(List.replicate m its).flatten.toArray:=λm=>by have:=foldl_rep its m [];rw[xlV] at this;exact this
  rw[f0];cases its with
  | nil=>simp
  | cons a r'=>rw[if_neg (by simp)]
 refine wpAny_binaryOp_repeat_ref (T := "list") (U := "int") (by decide) ⟨_,e,rfl⟩ (λs'=>typeIs_int s' k t) noFill_list_mul F.fills_int_mul F.slot_int_rmul repeat_list F.slot_int_index.lookup
  (call_meets F.slot_int_rmul (typeIs_int s k t) F.entry_int_rmul (F.args_int_rmul_2 _ _) (int___rmul___int_list k t l its.toArray n)
   ⟨e,rfl,⟨_,e,rfl⟩,call_meets F.slot_list_mul ⟨_,e,rfl⟩ F.entry_list_mul (F.args_list_mul_2 _ _) (AutoListH.list___mul___list_int_3 l its.toArray n k t hfit hcap hlong) ⟨e,?_⟩⟩)
 rw[hnew];exact⟨.ref _,_,I.lnew (t':=s.toks) (r.rep k.toNat) (by rw[len_rep,Nat.mul_comm];exact hz),rfl,q _ I.fresh⟩
end
section
variable {prog:Program} {w:World} {A:Around} {E:Value->Shared->Prop} {s:Shared}
end
section
variable {X:Cx}
end
end L2
namespace Att
open PySem PySem.W PySem.Calls PyProof.Rows
theorem dY:∀(ns:List Int) (vs:List Value),WellAll P h vs (ns.map WData.int)->IntsAre vs ns:=by
 intro ns
 induction ns with
 | nil =>intro vs w;rw[xlD] at w;cases w;exact .nil
 | cons n ns ih =>
  intro vs w;rw[xlB] at w;cases w with
  | cons a b =>cases a;exact .cons _ _ (ih _ b)
theorem xaI {l:OpenLaw}{n:Nat}(hn:l.most=some n){P:Params}{h:Heap}{args:List WData}{vals:List Value}
  (hpre:l.row.toRowW.claim.pre args=true) (hwl:WellAll P h vals args) :
  ∃a vs ns,vals=[Value.ref a]/\args=[WData.list (ns.map WData.int)]/\h.get? a=some { cls:=.type "list", data:=.seq vs.toArray }/\IntsAre vs ns/\ns.length<=n:=by
 have hsh:WShape.hasAll [] args [.list .int]=true:=(pre_splitW hpre).1;have hc:l.pre.holds [] { args:=args }=true:=(pre_splitW hpre).2;obtain⟨d,r,rfl,h1,h2⟩:=hasAllW_cons hsh;obtain rfl:=hasAllW_nil h2;obtain⟨xs,rfl,h3⟩:=hasW_list h1;obtain⟨ns,rfl⟩:=items_int h3;have hlen:ns.length<=n:=by
  unfold OpenLaw.pre at hc;have h4:(WTm.not (.lt (.lit (.int (n:Int))) (.len (.arg 0)))).holds [] { args:=[.list (ns.map .int)] }=true:=by have h4:=(holds_andW hc).1;rw[hn] at h4;exact h4
  have h5:=condW_of h4 (w_not (w_lt w_lit (w_len_list (w_arg rfl))));rw[xlq] at h5;refine Nat.le_of_not_lt λq=>?_;have q':(n:Int)<((ns.length:Nat):Int):=by omega
  first
   | (rw[xmx q'] at h5;exact absurd h5 (by decide))
   | (simp at h5;omega)
 cases hwl with
 | cons w1 w2 =>
  cases w2;cases w1 with
  | list ho hall=>exact⟨_,_,ns,rfl,rfl,ho,dY ns _ hall,hlen⟩
theorem xbF (l:OpenLaw)(args:List WData):l.row.toRowW.claim.post args (.bool true) args=true :=
 postW_of (r:=l.row.toRowW) (X:=(true == true))
  (show WShape.has [] (.bool true) .bool=true by first | rfl | decide | simp[WShape.has,WShape.arms,WShape.armsAll])
  (show(WTm.eq .res (.lit (.bool true))).value [] { args:=args,res:=some (.bool true),after:=args }=some (.bool (true == true)) from w_eq_bool (w_res rfl) w_lit) rfl
theorem pG {l:OpenLaw}{n:Nat}{q:Program}{loose:List Str}{XP:(Str->Option Value)->Heap->Prop}{YP:World->Heap->Prop}{d:DefRec}
  (hn:l.most=some n) (hdf:d.params.defaults=[])
  (call:∀(w:World) (s₀ s₁:Shared) (mg mb:Str->Option Value) (fa:Addr) (o:Obj) (pm cd doc:Value) (a:Addr) (vs:List Value) (ns:List Int),
   Ground q loose [] XP w s₀ mg mb s₁.heap->YP w s₁.heap ->
   s₁.heap.get? fa=some o->o.data=.func (docDef d.name d.params d.body d.scope pm cd doc)->s₁.heap.CodeRec cd d.name->mg d.name=some (.ref fa) ->
   s₁.heap.get? a=some { cls:=.type "list", data:=.seq vs.toArray }->IntsAre vs ns->ns.length<=n->s₁.gens = #[] ->
   codeAny (model l.prog w) callerA (.call (.ref fa) ⟨[.ref a],[]⟩) (λr s'=>r=.ok (.ret (.bool true))/\OldK s₁.heap s'.heap/\s'.os=s₁.os/\AllBare s'.gens) s₁) :
  WalkO q loose XP YP l.row.toRowW d [] (λf vs=>PySem.call f vs):=by
 intro w s₀ s₁ mg mb G Y fa o pm cd doc dV kV ho hd hcd hD hmg hg args vals as hpre hlay hrd hwl hlo;obtain rfl:dV=.none:=Dflts.none hD hdf;obtain rfl:kV=.none:=Dflts.noKw hD;obtain⟨a,vs,ns,rfl,rfl,hobj,hints,hlen⟩:=xaI hn hpre hwl;refine enter_call (codeAny_mono (call w s₀ s₁ mg mb fa o pm cd doc a vs ns G Y ho (fd_plain hd) hcd hmg hobj hints hlen hg) λr s' hq=>?_);obtain⟨rfl,h2,h3,h4⟩:=hq;exact⟨.inl ⟨.bool true,.bool true,[],rfl,λ_=>rfl,.bool true,xbF l _,λ_=>⟨List.Pairwise.nil,λ_ hm=>(nomatch hm)⟩⟩,h2,h3,h4⟩
section
variable {prog:Program} {w:World} {A:Around} {E:Value->Shared->Prop} {s:Shared} {K:Frag}
def ledger (h:Heap)(L d:Addr):List (Addr×Obj):=(List.range h.objs.size).filterMap λa=>if a=L\/a=d then none else(h.get? a).map λo=>(a,o)
end
end Att
namespace L2
open PySem PySem.Spec PyProof.Rows
theorem nW:∀ {vs:List Value} {ns:List Int},IntsAre vs ns->zo (ns.map V.int) vs
 | _,_,.nil=>.nil
 | _,_,.cons n t h=>.cons ⟨t,rfl⟩ (nW h)
def xiw (H:Hp):Prop:=∀b,H b=none\/∃o xs,H b=some (.frz o (.lst xs))
theorem xc0 {P:Program}{w:World}{K:PySem.W.Frag}{mg mb:Str->Option Value}{CX:CXT}{k:Nat}{fa a:Addr}{fd:FuncData}{x:Str}{sp:Sp}{s₁:Shared}{vs:List Value}{ns:List Int}
  (KX:K.In s₁.heap) (hns:s₁.heap.Ns mainGlobals mg) (hb:s₁.heap.Ns builtinsNs mb) (hbb:∀x:Str,x ≠ "__name__" -> mb x=bootBuiltins x) (hlim:s₁.heap.NoLimit) (hg:s₁.gens = #[])
  (ha:s₁.heap.get? a=some { cls:=.type "list", data:=.seq vs.toArray }) (hi:IntsAre vs ns) (hl:ns.length<=sizeLine) (hr:dZ k callerA)
  (F:∀base:Heap,K.In base->base.Ns mainGlobals mg->mF P w K mg base CX k fa fd [x] sp) (hbind:∀(s:Shared) (u:Value),BindsTo s fd ⟨[u],[]⟩ [(x,u)])
  (hsp:∀H:Hp,xiw H->SqL K H a (ns.map V.int)->sp [.ref a] H (λv _=>v=.bl true) λ_ _ _=>False)
  (hCX:∀H e s',CX [] H s₁ (λ_ _ _=>False) e s'->False) :
  codeAny (model P w) callerA (.call (.ref fa) ⟨[.ref a],[]⟩) (λr s'=>r=.ok (.ret (.bool true))/\OldK s₁.heap s'.heap/\s'.os=s₁.os/\AllBare s'.gens) s₁:=by
 have rv:=nW hi;have lenV:=hi.length;have core:∀H:Hp,xiw H->SqL K H a (ns.map V.int)->HOk P w H s₁.heap->(∀b,H b≠none->b=a)->(H a≠none->K.lookup a=none) ->
   codeAny (model P w) callerA (.call (.ref fa) ⟨[.ref a],[]⟩) (λr s'=>r=.ok (.ret (.bool true))/\OldK s₁.heap s'.heap/\s'.os=s₁.os/\AllBare s'.gens) s₁:=by
  intro H hO hS hok hA hK;have base_of:∀ {b:Addr} {o:Obj},s₁.heap.get? b=some o->H b=none->(xde s₁.heap H).get? b=some o:=λe n=>xcW e n;have noA:∀ {b:Addr} {o:Obj} {es:Array DictEntry} {ep:Nat},s₁.heap.get? b=some o->o.data=.dict es ep->H b=none:=λ {b o es ep} e d=>by
   cases q:H b with
   | none=>rfl
   | some u =>have e':b=a:=hA b (by rw[q];simp);subst e';rw[ha] at e;cases e;have d':Data.seq vs.toArray _=Data.dict es ep:=d;cases d'
  have nsK:∀ {b:Addr} {m:Str->Option Value},s₁.heap.Ns b m->(xde s₁.heap H).Ns b m:=λ {b m} ⟨o,es,ep,e,d,r⟩=>⟨o,es,ep,base_of e (noA e d),d,r⟩
  have hKb:K.In (xde s₁.heap H):=λb o e=>base_of (KX b o e) (by
   cases q:H b with
   | none=>rfl
   | some u =>have e':b=a:=hA b (by rw[q];simp);subst e';rw[hK (by rw[q];simp)] at e;cases e)
  have hM:Mod K mg (xde s₁.heap H):=⟨hKb,nsK hns,⟨mb,nsK hb,hbb⟩,let ⟨mc,h1,h2⟩:=hlim;⟨mc,nsK h1,h2⟩⟩
  have e0:xhQ P w K mg (xde s₁.heap H) callerA [] s₁ H:=⟨rfl,hM,λb o e=>xf9 e,Nat.le_of_eq (xbl _ _),trivial,λb hb=>absurd (show b∈([]:List Addr) from hb) (by simp),hok,.of_eq hg⟩
  refine codeAny_mono ((F _ hKb (nsK hns)).run callerA [] s₁ H ⟨[.ref a],[]⟩ [.ref a] [.ref a] _ _ hr e0 (hbind s₁ (.ref a)) (.cons rfl .nil) (hsp H hO hS)) λr s' h=>?_;cases r with
  | error e=>exact(hCX H e s' h).elim
  | ok fl =>
   cases fl with
   | next=>exact False.elim h
   | brk=>exact False.elim h
   | cont=>exact False.elim h
   | ret u =>
    obtain⟨v,H',os,bare,un,hok',r',q⟩:=h;have q':v=.bl true:=q;subst q';obtain rfl:u=Value.bool true:=r';refine⟨rfl,OldK.of_keep λb o e=>?_,os,bare⟩;cases q:H b with
    | none=>exact un.keep b o e q (by intro z;exact absurd (show b∈([]:List Addr) from z) (by simp)) (by simp)
    | some u =>
     rcases hO b with z | ⟨ob,xs,z⟩
     .rw[q] at z;cases z
     .have z2:=un.frzs b ob _ z;obtain⟨e1,_⟩:=hok b _ z;obtain⟨e2,_⟩:=hok' b _ z2;rw[e] at e1;cases e1;exact e2
 cases hk:K.lookup a with
 | some o =>have e:=KX a o hk;rw[ha] at e;cases e;refine core (λ_=>none) (λ_=>.inl rfl) (.inr ⟨_,vs.toArray,_,hk,rfl,rfl,rfl,by rw[xl4,lenV];exact hl,by simpa using rv⟩) (λb u z=>by have z':(none:Option HO)=some u:=z;cases z') (λb z=>absurd rfl z) λz=>absurd rfl z
 | none =>
  refine core (λb=>if b=a then some (.frz { cls:=.type "list", data:=.seq vs.toArray } (.lst (ns.map V.int))) else none) (λb=>?_) (.inl (.inr ⟨{ cls:=.type "list", data:=.seq vs.toArray },if_pos rfl⟩)) (λb u z=>?_) (λb z=>?_) λ_=>hk
  .by_cases hb:b=a
   .exact .inr ⟨_,_,if_pos hb⟩
   .exact .inl (if_neg hb)
  .by_cases hb:b=a
   .have z':=(if_pos hb).symm.trans z;cases z';subst hb;exact⟨ha,by rw[xlq];exact hl,vs,_,rv,ha⟩
   .have z':=(if_neg hb).symm.trans z;cases z'
  .by_cases hb:b=a
   .exact hb
   .exact absurd (if_neg hb) z
end L2
namespace L2
open PySem PySem.Spec PyProof.Rows
abbrev KOf {K:PySem.W.Frag}{h:Heap}(_:K.In h):PySem.W.Frag:=K
theorem xfB {l:PySem.W.OpenLaw}{n k:Nat}{q:Program}{loose:List Str}{XP:(Str->Option Value)->Heap->Prop}{YP:World->Heap->Prop}{d:DefRec}{K:Params->PySem.W.Frag}{CX:World->CXT}{sp:World->Sp}{x:Str}
  (hn:l.most=some n) (hn2:n<=sizeLine) (hdf:d.params.defaults=[]) (hr:dZ k callerA)
  (hY:∀(w:World) (h:Heap),YP w h->(K w.params).In h)
  (F:∀(w:World) (mg:Str->Option Value) (fa:Addr) (h:Heap),(K w.params).In h->h.Ns mainGlobals mg->mg d.name=some (.ref fa) ->
   ∃fd:FuncData,(∀(s:Shared) (u:Value),BindsTo s fd ⟨[u],[]⟩ [(x,u)]) /\
    ∀base:Heap,(K w.params).In base->base.Ns mainGlobals mg->mF l.prog w (K w.params) mg base (CX w) k fa fd [x] (sp w))
  (hsp:∀(w:World) (H:Hp) (a:Addr) (ns:List Int),ns.length<=n->xiw H->SqL (K w.params) H a (ns.map V.int)->sp w [.ref a] H (λv _=>v=.bl true) λ_ _ _=>False)
  (hCX:∀(w:World) (H:Hp) (s:Shared) (e:Value) (s':Shared),CX w [] H s (λ_ _ _=>False) e s'->False) :
  PySem.W.WalkO q loose XP YP l.row.toRowW d [] (λf vs=>PySem.call f vs):=by
 refine Att.pG hn hdf λw s₀ s₁ mg mb fa o pm cd doc a vs ns G Y ho hd hcd hmg hobj hints hlen hg=>?_;have KX:=hY w _ Y;obtain⟨fd,hb,hF⟩:=F w mg fa _ KX G.T.g hmg;exact xc0 KX G.T.g G.T.b G.T.builtins G.T.nolimit hg hobj hints (xmf hlen hn2) hr hF hb (λH hO hS=>hsp w H a ns hlen hO hS) λH e s'=>hCX w H s₁ e s'
end L2
namespace L2
open PySem PySem.Spec PyProof.Rows
def uE (s:Stmt):Arguments:=match s with
 | .FunctionDef _ a _ _ _ _ _ _ _ _=>a
 | _=>{ posonlyargs:=[],args:=[],vararg:=none,kwonlyargs:=[],kw_defaults:=[],kwarg:=none,defaults:=[] }
def zE (s:Stmt):List Stmt:=match s with
 | .FunctionDef _ _ b _ _ _ _ _ _ _=>b
 | _=>[]
def xf (s:Stmt):Scope:=match s with
 | .FunctionDef _ _ _ _ _ _ sc _ _ _=>sc
 | _=>{ kind:=.function,names:=[],isGenerator:=false,isCoroutine:=false }
abbrev CX0:CXT:=λ_ _ _ _ _ _=>False
abbrev E0:XK:=λ_ _ _=>False
theorem xhZ:xbA CX0 X E0:=λ_ _ _ _ _ _ _ h=>h.elim
structure Fun (K:PySem.W.Frag)(x qual:Str)(st:Stmt)(f:Addr)(fd:FuncData):Prop where
 ex:∃(oc:Value) (od:Option Addr) (kV doc pm:Value) (an:Option Addr) (cdv ct:Value) (osl:Array (Option Value)),
  fd=PySem.W.fnOf x qual (uE st) (zE st) (xf st) .none kV doc pm an cdv ct/\K.lookup f=some ⟨oc,od,.func fd,osl⟩/\PySem.W.codeIn K cdv qual=true
 kp:PySem.W.keepIn K (.ref f)=true
section
variable {P:Program} {w:World} {K:PySem.W.Frag} {mg:Str->Option Value} {base:Heap}
theorem Fun.ok {x qual:Str}{st:Stmt}{f:Addr}{fd:FuncData}{N ps:List Str}{k:Nat}{sp:Sp}(F:Fun K x qual st f fd)(S:xy N ps (xf st))(len:∀vs H Q E,sp vs H Q E->vs.length=ps.length)
  (hbody:∀(cdv:Value) (A:Around) (outer:List Env) (s:Shared) (H:Hp) (vs:List V) (Q:VK) (E:XK),dZ k (A.deeper (envOfC qual (xf st) s.heap.objs.size f cdv))->sp vs H Q E ->
   ∃t,PSs (xcB CX0 P w K mg base N qual (xf st) f cdv A outer s H E).nox (zE st) t/\t { nx:=λ_ H'=>Q .non H',rt:=Q } (start N vs) H):mF P w K mg base CX0 (k+1) f fd ps sp:=by
 obtain⟨oc,od,kV,doc,pm,an,cdv,ct,osl,rfl,lk,hcd⟩:=F.ex;refine xiH lk hcd S len λA outer s H vs Q E hr hsp=>?_;obtain⟨t,h,q⟩:=hbody cdv A outer s H vs Q E hr hsp;exact⟨t,h.nox,q⟩
theorem Fun.binds {x qual:Str}{st:Stmt}{f:Addr}{fd:FuncData}{ps:List Str}(F:Fun K x qual st f fd)
  (h:∀(kV doc pm:Value) (an:Option Addr) (cdv ct:Value) (us:List Value),us.length=ps.length->bindArgs (PySem.W.fnOf x qual (uE st) (zE st) (xf st) .none kV doc pm an cdv ct) ⟨us,[]⟩=pure (ps.zip us)):Binds K fd ps []:=by
 obtain⟨oc,od,kV,doc,pm,an,cdv,ct,osl,rfl,lk,hcd⟩:=F.ex;exact .all (h kV doc pm an cdv ct)
theorem xes {x qual:Str}{st:Stmt}{f:Addr}{oc:Value}{od an:Option Addr}{osl:Array (Option Value)}{kV doc pm cdv ct:Value}(l:K.lookup f=some ⟨oc,od,.func (PySem.W.fnOf x qual (uE st) (zE st) (xf st) .none kV doc pm an cdv ct),osl⟩)
  (c:PySem.W.codeIn K cdv qual=true) (k:PySem.W.keepIn K (.ref f)=true):Fun K x qual st f (PySem.W.fnOf x qual (uE st) (zE st) (xf st) .none kV doc pm an cdv ct):=⟨⟨oc,od,kV,doc,pm,an,cdv,ct,osl,rfl,l,c⟩,k⟩
end
theorem xaF (h:n<=1000):n<sizeLine:=xmh h (by decide)
section
variable {X:Cx}
theorem pv (i:Nat)(hN:X.N[i]? = some x:=by rfl)(hv:Vis X.env.scope x:=by first | exact Or.inl rfl | exact Or.inr (Or.inl rfl) | exact Or.inr (Or.inr rfl))(hd:(x == ("__debug__" : Str))=false:=by decide)
  (hcd:(x == ("__classdict__" : Str))=false:=by decide):PE X (.Name x pos) (rO i):=xgD hN hv hd hcd
end
theorem xam {A B:Prop}(h:B):if false=true then A else B:=by rw[if_neg xj8];exact h
theorem xbM {A B:Prop}(h:A):if true=true then A else B:=by rw[if_pos rfl];exact h
theorem xjc {c A B:Prop}[Decidable c](h1:c->A)(h2:¬c->B):if c then A else B:=by
 by_cases h:c
 .rw[if_pos h];exact h1 h
 .rw[if_neg h];exact h2 h
end L2
namespace L2
open PySem PySem.Spec PyProof.Rows
def dU (env:Env):List (Str×NameKind)->List (Str×Addr)->List (Str×Addr)
 | [],cs=>cs
 | (n,k)::r,cs=>if k == NameKind.free then(match env.cells.lookup n with | some a=>dU env r ((n,a)::cs) | none=>dU env r cs) else dU env r cs
theorem cT:∀(l:List (Str×NameKind)) (cs:List (Str×Addr)),(∀y∈l,y.2=NameKind.free->∃c,env.cells.lookup y.1=some c) ->
  (forIn l cs (λ(x:Str×NameKind) (r:List (Str×Addr))=>(if (x.2 == NameKind.free)=true then(do let a <-cellOf env x.1;pure (ForInStep.yield ((x.1,a)::r))) else pure (ForInStep.yield r):Sem (ForInStep (List (Str×Addr))))))=pure (dU env l cs)
 | [],cs,_=>rfl
 | (n,k)::r,cs,h=>by
  rw[List.forIn_cons];have hr:∀y∈r,y.2=NameKind.free->∃c,env.cells.lookup y.1=some c:=λy hy=>h y (xlJ _ hy);by_cases hk:k=NameKind.free
  .subst hk;obtain⟨c,hc⟩:=h (n,.free) xlK rfl;have hc':env.cells.lookup n=some c:=hc;have e1:cellOf env n=pure c:=by unfold cellOf;rw[hc']
   have e2:dU env ((n,.free)::r) cs=dU env r ((n,c)::cs):=by show(if (NameKind.free == NameKind.free)=true then _ else _)=_;rw[if_pos (show(NameKind.free == NameKind.free)=true from rfl),hc']
   rw[e2,if_pos (show((NameKind.free == NameKind.free)=true) from rfl),e1,pure_bind,pure_bind];exact cT r _ hr
  .have hb:(k == NameKind.free)=false:=by simpa using hk
   have e2:dU env ((n,k)::r) cs=dU env r cs:=by show(if (k == NameKind.free)=true then _ else _)=_;rw[hb];rfl
   rw[e2,if_neg (by rw[hb];exact xj8),pure_bind];exact cT r _ hr
theorem pJ (h:∀y∈sc.names,y.2=NameKind.free->∃c,env.cells.lookup y.1=some c):closureFor sc env=pure (dU env sc.names []):=by
 have q:=cT (env:=env) sc.names [] h;unfold closureFor;show(do let r <-forIn sc.names [] (λ(x:Str×NameKind) (r:List (Str×Addr))=>_);pure r)=_;rw[show(forIn sc.names ([]:List (Str×Addr)) (λ(x:Str×NameKind) (r:List (Str×Addr))=>match x with
   | (name,kind)=>if (kind == NameKind.free)=true then(do let a <-cellOf env name;pure (ForInStep.yield ((name,a)::r))) else pure (ForInStep.yield r)):Sem (List (Str×Addr)))=pure (dU env sc.names []) from q]
 rfl
theorem uN:∀(l:List (Str×NameKind)) (cs:List (Str×Addr)),(dU env l cs).lookup x=some c->(∀c,cs.lookup x=some c->env.cells.lookup x=some c)->env.cells.lookup x=some c
 | [],cs,h,hc=>hc c h
 | (n,k)::r,cs,h,hc=>by
  unfold dU at h;split at h
  .split at h
   .rename_i a ha;refine uN r _ h λc' h'=>?_;rw[xlz] at h';by_cases e:x == n
    .rw[e] at h';have:x=n:=by simpa using e
     rw[this,ha];exact h'
    .have e':(x == n)=false:=by simpa using e
     rw[e'] at h';exact hc c' h'
   .exact uN r _ h hc
  .exact uN r _ h hc
theorem jJ (he:env.cells.lookup x=some c):∀(l:List (Str×NameKind)) (cs:List (Str×Addr)),cs.lookup x=some c->(dU env l cs).lookup x=some c
 | [],cs,h=>h
 | (n,k)::r,cs,h=>by
  unfold dU;split
  .split
   .rename_i a ha;refine jJ he r _ ?_;rw[xlz];by_cases e:x == n
    .rw[e];have e':x=n:=by simpa using e
     rw[e',ha] at he;exact he
    .have e':(x == n)=false:=by simpa using e
     rw[e'];exact h
   .exact jJ he r _ h
  .exact jJ he r _ h
theorem kL (he:env.cells.lookup x=some c):∀(l:List (Str×NameKind)) (cs:List (Str×Addr)),(x,NameKind.free)∈l->(dU env l cs).lookup x=some c
 | (n,k)::r,cs,h=>by
  rcases xlI.mp h with e | e
  .have e1:n=x:=xmu (·.1) e.symm;have e2:k=.free:=xmu (·.2) e.symm;subst e1 e2;unfold dU;rw[if_pos (show(NameKind.free == NameKind.free)=true from rfl),he];exact jJ he r _ (by rw[xlz];simp)
  .unfold dU;split
   .split
    .exact kL he r _ e
    .exact kL he r _ e
   .exact kL he r _ e
def zc (X:Cx)(sc:Scope)(N:List Str)(C:Addr)(s:Shared)(H:Hp)(ex:List Addr):Cx :={ X with N:=N,s₀:=s,H₀:=H,env:=compEnvC sc (dU X.env sc.names []) C X.env,outer:=X.stack,stack:=X.stack,ex:=ex,fn:=λ_=>false,pn:=[],xe:=λ_ _=>False }
def xb_ (XN:List Str)(xs sc:Scope)(N:List Str)(tau:List (Option Nat)):Bool :=
 decide (sc.kind=.function)&&sc.names.all (λy=>decide (y.2≠.cell))&&sc.names.all (λy=>decide (y.2≠.local) || decide (sc.names.lookup y.1=some .local))&&decide N.Nodup&&decide (tau.length=N.length) &&
 (tau.zip N).all (λp=>match p.1 with | none=>true | some j=>decide (XN[j]? = some p.2)&&decide (sc.names.lookup p.2=some .free)) &&
 sc.names.all (λy=>decide (y.2≠.free) || decide (xs.names.lookup y.1=some .cell) || decide (xs.names.lookup y.1=some .free))&&decide (xs.kind=.function)
structure kh (X:Cx)(sc:Scope)(N:List Str)(tau:List (Option Nat)):Prop where
 kind:sc.kind=.function
 nocell:∀y∈sc.names,y.2≠.cell
 loc:∀y∈sc.names,y.2=.local->sc.names.lookup y.1=some .local
 nd:N.Nodup
 len:tau.length=N.length
 out:∀(i j:Nat) (x:Str),tau[i]? = some (some j)->N[i]? = some x->X.N[j]? = some x/\sc.names.lookup x=some .free
 fr:∀y∈sc.names,y.2=.free->X.env.scope.names.lookup y.1=some .cell\/X.env.scope.names.lookup y.1=some .free
 okind:X.env.scope.kind=.function
theorem zip_get:∀ {l:List α} {k:List β} {i:Nat} {a:α} {b:β},l[i]? = some a->k[i]? = some b->(a,b)∈l.zip k
 | [],_,_,_,_,h,_=>by simp at h
 | _::_,[],_,_,_,_,h=>by simp at h
 | x::l,y::k,0,a,b,h1,h2=>by simp at h1 h2;subst h1;subst h2;simp
 | x::l,y::k,i+1,a,b,h1,h2=>by have:=zip_get (l:=l) (k:=k) (i:=i) (by simpa using h1) (by simpa using h2);rw[xma];exact xlJ _ this
theorem ye (h:xb_ XN xs sc N tau=true)(h1:X.N=XN)(h2:X.env.scope=xs):kh X sc N tau:=by
 subst h1 h2;unfold xb_ at h;simp only[xj5,xkS,xmy,Bool.or_eq_true] at h;obtain⟨⟨⟨⟨⟨⟨⟨k,c⟩,l⟩,nd⟩,len⟩,out⟩,fr⟩,ok⟩:=h;refine⟨k,c,λy hy e=>(l y hy).resolve_left (λz=>z e),nd,len,λi j x e1 e2=>?_,λy hy e=>?_,ok⟩
 .have:=out _ (zip_get e1 e2);simpa using this
 .rcases fr y hy with (z | z) | z
  .exact absurd e z
  .exact .inl z
  .exact .inr z
def aK (tau:List (Option Nat))(σ:St):St:=tau.map λo=>match o with | some j=>(σ[j]?).getD none | none=>none
theorem km {sc:Scope}{env:Env}:∀ {l:List (Str×NameKind)} {x:Str} {k:NameKind},
  (l.map λ(n,k)=>if (k == NameKind.free&&env.scope.kind == .function&&env.kindOf n == some .cell) then(n,NameKind.cell) else(n,k)).lookup x=some k->((∀y∈l,y.2≠NameKind.cell)->k≠.local->(x,NameKind.free)∈l\/l.lookup x=some k/\k≠.cell)
 | [],x,k,h=>by simp at h
 | (n,k')::r,x,k,h=>by
  intro nc nl;have ih:=@km sc env r x k;have h:List.lookup x ((if (k' == NameKind.free&&env.scope.kind == .function&&env.kindOf n == some .cell)=true then(n,NameKind.cell) else(n,k'))::(r.map _))=some k:=h;by_cases hx:x=n
  .subst hx;by_cases hc:(k' == NameKind.free&&env.scope.kind == .function&&env.kindOf x == some .cell)=true
   .left;have:k'=.free:=by simp only[xj5] at hc;simpa using hc.1.1
    subst this;exact xlK
   .rw[if_neg hc,xlz] at h;simp at h;subst h;right;exact⟨by rw[xlz];simp,nc (x,k') xlK⟩
  .have e:(x == n)=false:=by simpa using hx
   have h':List.lookup x (r.map λ(n,k)=>if (k == NameKind.free&&env.scope.kind == .function&&env.kindOf n == some .cell) then(n,NameKind.cell) else(n,k))=some k:=by
    split at h
    .rw[xlz,e] at h;exact h
    .rw[xlz,e] at h;exact h
   rcases ih h' (λy hy=>nc y (xlJ _ hy)) nl with z | ⟨z,w⟩
   .exact .inl (xlJ _ z)
   .exact .inr ⟨by rw[xlz,e];exact z,w⟩
section
variable {X:Cx} {sc:Scope} {N:List Str} {tau:List (Option Nat)} {pins:List (Addr×Obj)} {σ:St} {H:Hp} {s:Shared}
theorem kh.cells (k:kh X sc N tau)(ok:X.Ok):∀y∈sc.names,y.2=NameKind.free->∃c,X.env.cells.lookup y.1=some c:=λy hy e=>ok.has y.1 (k.fr y hy e)
theorem kh.vis (k:kh X sc N tau)(h:(relabel sc X.env).names.lookup x=some .cell\/(relabel sc X.env).names.lookup x=some .free):(x,NameKind.free)∈sc.names:=by
 rcases h with h | h
 .rcases km (sc:=sc) (env:=X.env) (l:=sc.names) h k.nocell (by decide) with z | ⟨_,z⟩
  .exact z
  .exact absurd rfl z
 .rcases km (sc:=sc) (env:=X.env) (l:=sc.names) h k.nocell (by decide) with z | ⟨z,_⟩
  .exact z
  .exact PySem.mem_of_lookup z
theorem xcd (k:kh X sc N tau)(I:Inv X pins σ H s)(hf:∀b∈fp,mG X pins H b)(hob:∀b∈fp,∃o,s.heap.get? b=some o) :
  (zc X sc N (s.heap.objs.size+1) s H fp).Ok where
 mod:=I.ok.mod
 kind:=k.kind
 glob:=I.ok.glob
 blt:=I.ok.blt
 above:=xme _
 inj:=λx y c h1 h2=>I.ok.inj x y c (uN _ _ h1 λ_ z=>by simp at z) (uN _ _ h2 λ_ z=>by simp at z)
 has:=λx h=>by have m:=k.vis h;obtain⟨c,e⟩:=k.cells I.ok _ m rfl;exact⟨c,kL e _ _ m⟩
 cab:=λx c h=>by cases h
 hd:=I.ok.hd
 frames:=I.ok.frames
 stk:=.inl rfl
 exf:=λb hb=>⟨λz=>by obtain⟨o,e⟩:=hob b hb;have l:=Heap.lt_size e;have z':b=s.heap.objs.size+1:=z;rw[z'] at l;exact xmg _ (Nat.lt_of_succ_lt l),λx c h=>(hf b hb).2.2.2.2.1 x c (uN _ _ h λ_ z=>by simp at z)⟩
 bs:=I.bs
 bsz:=xmf I.ok.bsz I.sz
 noex:=λb o e hb=>by
  rcases(hf b hb).2.2.2.1 with z | z
  .exact I.ok.noex b o e z
  .exact absurd (xmi (Heap.lt_size (I.ok.bs b o e).1) z) (xmg _)
 exfs:=λb hb z=>by
  rcases xlI.mp (I.stkSub b z) with e | e
  .exact(hf b hb).2.1 e
  .exact(hf b hb).2.2.1 e
 funs:=I.stack
 frf:=I.stkFree
theorem fS {i:Nat}{v:V}(h:(aK tau σ)[i]? = some (some v)):∃j,tau[i]? = some (some j)/\σ[j]? = some (some v):=by
 unfold aK at h;rw[xlf] at h;cases e:tau[i]? with
 | none=>rw[e] at h;cases h
 | some o =>
  rw[e] at h;cases o with
  | none=>cases h
  | some j =>
   have h':(σ[j]?).getD none=some v:=by simpa using h
   refine⟨j,rfl,?_⟩;cases q:σ[j]? with
   | none=>rw[q] at h';cases h'
   | some o'=>rw[q] at h';exact xmu some h'
theorem xcG (k:kh X sc N tau)(I:Inv X pins σ H s){fp:List Addr}(hf:∀b∈fp,mG X pins H b)(hob:∀b∈fp,∃o,s.heap.get? b=some o){h1:Heap}{t':Nat}
  (kp:∀b o,s.heap.get? b=some o->h1.get? b=some o) (hn:h1.Ns (s.heap.objs.size+1) (λ_=>none)) (hD:h1.get? s.heap.objs.size=some { cls:=.type "list", data:=.seq #[] 0 }) :
  Inv (zc X sc N (s.heap.objs.size+1) s H fp) [(s.heap.objs.size,{ cls:=.type "list", data:=.seq #[] 0 })] (aK tau σ) H { s with heap:=h1,toks:=t' } where
 ok:=xcd k I hf hob
 os:=rfl
 bare:=I.bare
 base:=Un.kept kp
 loc:=⟨_,hn,λi x v e1 e2 e3=>by
  obtain⟨j,t1,t2⟩:=fS e2;obtain⟨o1,o2⟩:=k.out i j x t1 e1;have m:(x,NameKind.free)∈sc.names:=PySem.mem_of_lookup o2;have hk:=k.fr _ m rfl;obtain⟨mm,hn',hl⟩:=I.loc;obtain⟨u,r,l⟩:=hl j x v o1 t2 (hk.elim (λz=>.inr (.inl z)) λz=>.inr (.inr z));refine⟨u,r,.inr ⟨?_,?_⟩⟩
  .rcases e3 with z | z | z
   .exfalso;have:∀ {l:List (Str×NameKind)},l.lookup x=some .free->(l.map λ(n,k)=>if (k == NameKind.free&&X.env.scope.kind == .function&&X.env.kindOf n == some .cell) then(n,NameKind.cell) else(n,k)).lookup x≠some .local:=by
     intro l
     induction l with
     | nil=>intro h;simp at h
     | cons y r ih =>
      obtain⟨n,k'⟩:=y;intro h q;have q:List.lookup x ((if (k' == NameKind.free&&X.env.scope.kind == .function&&X.env.kindOf n == some .cell)=true then(n,NameKind.cell) else(n,k'))::(r.map _))=some .local:=q;by_cases hx:x=n
      .subst hx;rw[xlz] at h;simp at h;subst h;split at q
       .rw[xlz] at q;simp at q
       .rw[xlz] at q;simp at q
      .have e:(x == n)=false:=by simpa using hx
       rw[xlz,e] at h;refine ih h ?_;split at q
       .rw[xlz,e] at q;exact q
       .rw[xlz,e] at q;exact q
    exact this o2 z
   .exact .inl z
   .exact .inr z
  .rcases l with ⟨z,_⟩ | ⟨_,c,ec,hc⟩
   .exfalso;have z:X.env.scope.names.lookup x=some .local:=z;rcases hk with q | q<;>rw[z] at q<;>cases q
   .obtain⟨o,ho,hd⟩:=hc;exact⟨c,kL ec _ _ m,o,kp c o ho,hd⟩⟩
 cell:=λx c h=>by obtain⟨v,o,ho,hd⟩:=I.cell x c (uN _ _ h λ_ z=>by simp at z);exact⟨v,o,kp c o ho,hd⟩
 free:=I.hok.fresh (xme _)
 freeC:=λx c h=>I.freeC x c (uN _ _ h λ_ z=>by simp at z)
 pin:=λp hp=>by
  have e:p=(s.heap.objs.size,{ cls:=.type "list", data:=.seq #[] 0 }):=by simpa [zc] using hp
  subst e;refine⟨hD,I.hok.fresh (xmd _),xmq (xmk _),λz=>?_,λv=>by simp⟩;rcases xlI.mp (I.stkSub _ z) with e | e
  .exact absurd (e▸I.lt) (xmg _)
  .exact I.nofs (xmd _) e
 hok:=I.hok.kept kp
 len:=by show(aK tau σ).length=N.length;unfold aK;rw[xlq];exact k.len
end
end L2
namespace L2
open PySem PySem.Spec PyProof.Rows
theorem fC (I:Nat->Shared->Prop)
  (turn:∀n s,I n s->wpAny (model prog w) A (pyNext it) (λr s₁=>match r with
   | none=>R (.ok .next) s₁
   | some v=>wpAny (model prog w) A (letOwnedTupleGo target it v) (λ_ s₀=>wpAny (model prog w) A (assign target env v) (λ_ s₂ =>
     wpAny (model prog w) A (forIn ifs true λc r=>if r=true then do let ok <-isTrue c env (eval c env);pure (ForInStep.yield ok) else pure (ForInStep.yield r)) (λok s₃ =>
      if ok=true then wpAny (model prog w) A (eval elt env) (λx s₄ =>wpAny (model prog w) A (call (.builtin "list.append") [acc,x]) (λ_ s₅=>∃m,m<n/\I m s₅) (notedBy (model prog w) A env λe s'=>R (.error e) s') s₄) (notedBy (model prog w) A env λe s'=>R (.error e) s') s₃
      else ∃m,m<n/\I m s₃) (notedBy (model prog w) A env λe s'=>R (.error e) s') s₂) (notedBy (model prog w) A env λe s'=>R (.error e) s') s₀) (notedBy (model prog w) A env λe s'=>R (.error e) s') s₁) (notedBy (model prog w) A env λe s'=>R (.error e) s') s)
  (n:Nat) (h:I n s) :
  codeAny (model prog w) A (.compLoop (.ListComp elt [⟨target,iter,ifs,0⟩] scope pos) 0 it acc env) R s:=by
 refine codeAny_loop rfl I (λn s hI=>?_) n h;show wpAny _ A ((compTurn (.ListComp elt [⟨target,iter,ifs,0⟩] scope pos) 0 it acc env).onRaise (λx=>do noteFrame x env;theTreesLotGoes x)) _ _ s;refine wpAny_noted ?_;rw[compTurn_list];refine wpAny_bind (wpAny_standAt (wpAny_bind (wpAny_mono (turn n s hI) (λr s₁ h₁=>?_) λ_ _ h'=>h')));cases r with
 | none=>exact wpAny_pure h₁
 | some v =>
  refine wpAny_bind (wpAny_mono h₁ (λ_ s₀ h₀=>?_) λ_ _ h'=>h');refine wpAny_bind (wpAny_mono h₀ (λ_ s₂ h₂=>wpAny_bind (wpAny_mono h₂ (λok s₃ h₃=>?_) λ_ _ h'=>h')) λ_ _ h'=>h');cases ok with
  | false=>exact wpAny_pure ⟨rfl,h₃⟩
  | true =>exact wpAny_bind (wpAny_bind (wpAny_mono h₃ (λx s₄ h₄=>wpAny_bind (wpAny_mono h₄ (λ_ s₅ h₅=>wpAny_pure (wpAny_pure ⟨rfl,h₅⟩)) λ_ _ h'=>h')) λ_ _ h'=>h'))
def PIf (Y:Cx)(ifs:List Expr)(t:TT):Prop :=
 ∀(pins:List (Addr×Obj)) (s:Shared) (σ:St) (H:Hp) (Q:Bool->Hp->Prop),Inv Y pins σ H s->t σ H Q ->
  wpAny (model Y.prog Y.w) Y.A (forIn ifs true λc r=>if r=true then do let ok <-isTrue c Y.env (eval c Y.env);pure (ForInStep.yield ok) else pure (ForInStep.yield r)) (TP Y pins σ Q) Y.xe s
def xgG:TT:=λ_ H Q=>Q true H
theorem zq:PIf Y [] xgG:=λpins s σ H Q I h=>wpAny_tests_nil ⟨H,I,h⟩
theorem vL (h:PT Y c t):PIf Y [c] t:=λpins s σ H Q I q=>wpAny_tests_one (@h pins s σ H Q I q)
def Agree (tau:List (Option Nat))(σ σ2:St):Prop:=∀i j:Nat,tau[i]? = some (some j)->σ2[i]? = σ[i]?
def GA (tau:List (Option Nat))(g:TG):Prop:=∀x σ H Q,g x σ H Q->g x σ H (λ σ2 H2=>Q σ2 H2/\Agree tau σ σ2)
def GAs (tau:List (Option Nat))(t:TGs):Prop:=∀xs σ H Q,t xs σ H Q->t xs σ H (λ σ2 H2=>Q σ2 H2/\Agree tau σ σ2)
theorem zF (h:tau[i]? = some none):GA tau (gX i):=λx σ H Q q=>⟨q,λk j e=>by rw[xli];rintro rfl;rw[h] at e;cases e⟩
theorem u5:GAs tau xhL:=λxs σ H Q q=>⟨q.1,q.2,λ_ _ _=>rfl⟩
theorem zG {K:PySem.W.Frag}{n:Nat}{t:TGs}{tau:List (Option Nat)}(h:GAs tau t):GA tau (xgR K n t):=λx σ H Q q=>by obtain⟨a,xs,e,sq,l,r⟩:=q;exact⟨a,xs,e,sq,l,h _ _ _ _ r⟩
theorem yt (h:tau[i]? = some none)(hu:GAs tau u):GAs tau (xdG (gX i) u):=λxs σ H Q q=>by
 obtain⟨v,r,e,q⟩:=q;refine⟨v,r,e,?_⟩;have q':u r (σ.set i (some v)) H Q:=q;show u r (σ.set i (some v)) H _;have:=hu _ _ _ _ q';have e2:(λ σ2 H2=>Q σ2 H2/\Agree tau (σ.set i (some v)) σ2)=(λ σ2 H2=>Q σ2 H2/\Agree tau σ σ2):=by
  funext σ2 H2;have:Agree tau (σ.set i (some v)) σ2↔Agree tau σ σ2:=by
   have key:∀(k j:Nat),tau[k]? = some (some j)->(σ.set i (some v))[k]? = σ[k]?:=λk j e=>by rw[xli];rintro rfl;rw[h] at e;cases e
   constructor
   .intro z k j e;rw[z k j e,key k j e]
   .intro z k j e;rw[z k j e,key k j e]
  exact propext (and_congr_right λ_=>this)
 rw[<-e2];exact this
def xc_ (wi:TI)(tau:List (Option Nat))(g:TG)(tc:TT)(te:TE):TE:=λ σ H Q=>wi σ H λJ H1 =>
 ∃W:Nat->Nat->List V->Hp->Prop,(∃m,W 0 m [] H1)/\∀i m ys H,W i m ys H ->
  (J.stop i H/\∀p,H p=none->Q (.ref p) (upd H p (.lst ys))) \/
  (J.go i H/\ys.length<sizeLine/\∀x H',J.yld i H x H'->g x (aK tau σ) H' λ σ2 H2=>tc σ2 H2 λb H3=>if b=true then te σ2 H3 λy H4=>∃m',m' < m/\W (i+1) m' (ys++[y]) H4 else ∃m',m' < m/\W (i+1) m' ys H3)
section
variable {X:Cx} {sc:Scope} {N:List Str} {tau:List (Option Nat)} {pins:List (Addr×Obj)} {σ:St} {H:Hp} {s:Shared}
theorem oR (k:kh X sc N tau)(I:Inv X pins σ H s)(hf:∀b∈fp,mG X pins H b)
  (J:Inv (zc X sc N (s.heap.objs.size+1) s H fp) [(s.heap.objs.size,{ cls:=.type "list", data:=.seq its.toArray n })] σ' H' s') (rv:zo ys its) (hz:ys.length<=sizeLine) :
  Inv X pins σ (upd H' s.heap.objs.size (.lst ys)) s'/\H' s.heap.objs.size=none/\(upd H' s.heap.objs.size (.lst ys)) (s.heap.objs.size+1)=none:=by
 obtain⟨pD,nD,_,_,_⟩:=J.pin (s.heap.objs.size,{ cls:=.type "list", data:=.seq its.toArray n }) (by simp[zc]);have nC:H' (s.heap.objs.size+1)=none:=J.free;have B:Un (frs X.stack) fp H H' s.heap s'.heap:=J.base;have ltD:∀b o,s.heap.get? b=some o->b≠s.heap.objs.size:=λb o e=>xmq (Heap.lt_size e);refine⟨I.call' (ch:=fp) J.os ⟨B.keep,B.slot,λb o e n hx=>?_,B.there,λb xs e=>?_,λb o u e=>?_,λb ps e=>?_⟩ (λb u e=>?_) J.bare (λb hb=>?_),nD,?_⟩
 .rw[xJ (ltD b o e)];exact B.free b o e n hx
 .have q:=B.tups b xs e;rw[xJ (xD q nD)];exact q
 .have q:=B.frzs b o u e;rw[xJ (xD q nD)];exact q
 .obtain⟨more,q⟩:=B.tbls b ps e;exact⟨more,by rw[xJ (xD q nD)];exact q⟩
 .by_cases hb:b=s.heap.objs.size
  .subst hb;rw[xV] at e;cases e;exact⟨hz,its,n,rv,pD⟩
  .rw[xJ hb] at e;exact(J.hok b u e).stay (λc v _ q=>q) (λc q=>by rw[xJ (xD q nD)];exact q) (λc xs q=>by rw[xJ (xD q nD)];exact q) λc o u q=>by rw[xJ (xD q nD)];exact q
 .obtain⟨_,f1,_,f3,f4,f5⟩:=hf b hb;exact⟨f3,f1,f4,f5⟩
 .rw[xJ (xmp (xmk _))];exact nC
theorem dS (I0:Inv X pins σ H s)(I:Inv X pins σ' H' s')(hC:H' (s.heap.objs.size+1)=none)(hs:Heap.SameBut (s.heap.objs.size+1) s'.heap h') :
  Inv X pins σ' H' { s' with heap:=h' }:=by
 have lt:∀b o,s.heap.get? b=some o->b≠s.heap.objs.size+1:=λb o e=>xmq (xmj (Heap.lt_size e));refine I.turned (t':=s'.toks) (it:=s.heap.objs.size+1) (λb o hb e=>(hs.2 b hb).trans e) hC ?_ (.inr (xmf I0.sz (xme _))) (λx c e=>?_) (λp hp=>?_)
 .exact xmp (xmj I0.lt)
 .obtain⟨v,o,ho,_⟩:=I0.cell x c e;exact lt c o ho
 .exact lt _ _ (I0.pin p hp).1
theorem aG (k:kh X sc N tau)(hc:X.calm=true)(I:Inv X pins σ H s)
  (T:Turn X.prog X.w X.K tg J fp it tn) (st0:tn 0 s.heap) (hf:∀b∈fp,mG X pins H b) (hga:GA tau g)
  (hg:∀C s H ex,PG (zc X sc N C s H ex) tg g) (ht:∀C s H ex,PIf (zc X sc N C s H ex) ifs tc) (he:∀C s H ex,PE (zc X sc N C s H ex) elt te)
  {W:Nat->Nat->List V->Hp->Prop} {Z:List V->Hp->Prop} (w0:∃m,W 0 m [] H) (turn:∀i m ys H,W i m ys H ->
   (J.stop i H/\Z ys H) \/
   (J.go i H/\ys.length<sizeLine/\∀x H',J.yld i H x H'->g x (aK tau σ) H' λ σ2 H2=>tc σ2 H2 λb H3=>if b=true then te σ2 H3 λy H4=>∃m',m' < m/\W (i+1) m' (ys++[y]) H4 else ∃m',m' < m/\W (i+1) m' ys H3))
  {E:Value->Shared->Prop} {RR:Value->Addr->Result->Shared->Prop}
  (fin:∀ σ' H' s' ys its n,Inv (zc X sc N (s.heap.objs.size+1) s H fp) [(s.heap.objs.size,{ cls:=.type "list", data:=.seq its.toArray n })] σ' H' s'->zo ys its->ys.length<=sizeLine->Z ys H'->RR (.ref s.heap.objs.size) (s.heap.objs.size+1) (.ok .next) s') :
  wpAny (model X.prog X.w) X.A (newList []) (λacc s₃=>wpAny (model X.prog X.w) X.A (newFunctionEnv sc X.env.globals (dU X.env sc.names []) [] X.env.qual none .none (some X.env)) (λcenv s₄ =>codeAny (model X.prog X.w) X.A (.compStart (.ListComp elt [⟨tg,iter,ifs,0⟩] sc pos) 0 (.ref it) acc { cenv with scope:=relabel sc X.env }) (RR acc cenv.locals) s₄) E s₃) E s:=by
 have hob:∀b∈fp,∃o,s.heap.get? b=some o:=λb hb=>let ⟨o,e,_⟩:=T.obj _ _ st0 b hb;⟨o,e⟩
 refine wpAny_newObj_type (wpAny_newFunctionEnv k.nocell (by intro y hy;simp at hy) (λh₁ hns₁ hsb₁=>?_) k.kind);dsimp only at hns₁ hsb₁ ⊢;generalize hH2:s.heap.push { cls:=.type "list", dict:=none,data:=.seq ([]:List Value).toArray }=H2 at hns₁ hsb₁ ⊢;have hC:H2.objs.size=s.heap.objs.size+1:=by rw[<-hH2,Heap.size_push]
 have old:∀b o,s.heap.get? b=some o->h₁.get? b=some o:=λb o e=>hsb₁.extBut b o (by rw[hC];exact xmq (xmj (Heap.lt_size e))) (Heap.get?_push_of_some _ (hH2▸Heap.get?_push_of_some _ e));have hacc:h₁.get? s.heap.objs.size=some { cls:=.type "list", data:=.seq #[] 0 }:=hsb₁.extBut _ _ (by rw[hC];exact xmq (xmk _)) (Heap.get?_push_of_some _ (hH2▸Heap.get?_push_size _ rfl));rw[hC] at hns₁ ⊢;have I1:Inv (zc X sc N (s.heap.objs.size+1) s H fp) [(s.heap.objs.size,{ cls:=.type "list", data:=.seq #[] 0 })] (aK tau σ) H { s with heap:=h₁,toks:=s.toks+([]:List (Str×Value)).length } :=xcG k I hf hob old hns₁ hacc
 have st1:tn 0 h₁:=T.keep _ _ _ st0 λb _ o e=>old b o e;have ltD:∀b∈fp,b≠s.heap.objs.size:=λb hb=>by obtain⟨o,e⟩:=hob b hb;exact xmq (Heap.lt_size e)
 have ltC:∀b∈fp,b≠s.heap.objs.size+1:=λb hb=>by obtain⟨o,e⟩:=hob b hb;exact xmq (xmj (Heap.lt_size e))
 have stat:∀ {H':Hp} {its:List Value} {n:Nat},(∀b∈fp,H' b=none)->∀b∈fp,mG (zc X sc N (s.heap.objs.size+1) s H fp) [(s.heap.objs.size,{ cls:=.type "list", data:=.seq its.toArray n })] H' b:=λ {H' its n} hn b hb=>by
  have cx:=xcd (N:=N) k I hf hob;refine⟨hn b hb,ltC b hb,cx.exfs b hb,.inl hb,(cx.exf b hb).2,λp hp=>?_⟩;have e:p=(s.heap.objs.size,{ cls:=.type "list", data:=.seq its.toArray n }):=by simpa [zc] using hp
  subst e;exact Ne.symm (ltD b hb)
 obtain⟨m0,w0⟩:=w0;have loop:codeAny (model X.prog X.w) X.A (.compLoop (.ListComp elt [⟨tg,iter,ifs,0⟩] sc pos) 0 (.ref it) (.ref s.heap.objs.size) (compEnvC sc (dU X.env sc.names []) (s.heap.objs.size+1) X.env)) (RR (.ref s.heap.objs.size) (s.heap.objs.size+1)) { s with heap:=h₁,toks:=s.toks+([]:List (Str×Value)).length }:=by
  refine fC (λm s'=>∃i ys H' its n,Inv (zc X sc N (s.heap.objs.size+1) s H fp) [(s.heap.objs.size,{ cls:=.type "list", data:=.seq its.toArray n })] (aK tau σ) H' s'/\zo ys its/\ys.length<=sizeLine/\tn i s'.heap/\(∀b∈fp,H' b=none)/\W i m ys H') ?_ m0
   ⟨0,[],H,[],0,I1,.nil,xms _,st1,λb hb=>(hf b hb).1,w0⟩
  rintro m s3 ⟨i,ys,H3,its,n,I3,rv,hz,st3,fr3,w3⟩;rcases turn i m ys H3 w3 with ⟨stop,z⟩ | ⟨go,hlt,step⟩
  .refine wpAny_mono (T.done (zc X sc N (s.heap.objs.size+1) s H fp) rfl rfl rfl hc i _ s3 _ H3 (λ_ _=>False) I3 (stat fr3) st3 stop) (λr s4 ⟨hr,I4⟩=>?_) λ_ _ f=>f.elim;subst hr;exact fin _ _ _ _ _ _ I4 rv hz z
  .refine wpAny_mono (T.item (zc X sc N (s.heap.objs.size+1) s H fp) rfl rfl rfl hc i _ s3 _ H3 (λ_ _=>False) I3 (stat fr3) st3 go) (λr s4 ⟨u,hr,h4⟩=>?_) λ_ _ f=>f.elim;subst hr;refine wpAny_mono h4 (λ_ s5 ⟨x,H5,I5,r5,y5,st5,fr5⟩=>?_) λ_ _ f=>f.elim;have I5':=I5.pinned (stat fr5) (T.obj _ _ st5);refine wpAny_mono (hg _ _ _ _ _ s5 _ H5 x u _ I5' r5 (hga _ _ _ _ (step x H5 y5))) (λ_ s6 ⟨σ6,H6,I6,q6,ag⟩=>?_) λ_ _ f=>f.elim;refine wpAny_mono (ht _ _ _ _ _ s6 σ6 H6 _ I6 q6) (λb s7 ⟨H7,I7,q7⟩=>?_) λ_ _ f=>f.elim;have back:∀ {H8:Hp} {s8:Shared},Inv (zc X sc N (s.heap.objs.size+1) s H fp) ([(s.heap.objs.size,{ cls:=.type "list", data:=.seq its.toArray n })]++fE fp s5.heap) σ6 H8 s8 ->
     Inv (zc X sc N (s.heap.objs.size+1) s H fp) [(s.heap.objs.size,{ cls:=.type "list", data:=.seq its.toArray n })] (aK tau σ) H8 s8/\tn (i+1) s8.heap/\∀b∈fp,H8 b=none:=λ {H8 s8} I8=>by
    refine⟨I8.unpinned.weak (I1.len.trans I8.len.symm) λj v e=>?_,T.keep _ _ _ st5 λb hb o e=>(I8.pin (b,o) (xlH _ (xlH _ (uV hb e)))).1,λb hb=>?_⟩
    .obtain⟨j',t1,_⟩:=fS e;rw[ag j j' t1];exact e
    .obtain⟨o,e,d⟩:=T.obj _ _ st5 b hb;exact(I8.pin (b,o) (xlH _ (xlH _ (uV hb e)))).2.1
   cases b with
   | false =>obtain⟨m',hm,w7⟩:=q7;obtain⟨I8,st8,fr8⟩:=back I7;rw[if_neg xj8];exact⟨m',hm,i+1,ys,H7,its,n,I8,rv,hz,st8,fr8,w7⟩
   | true =>
    rw[if_pos rfl];refine wpAny_mono (he _ _ _ _ s7 σ6 H7 _ I7 q7) (λy s8 ⟨yv,H8,I8,r8,m',hm,w8⟩=>?_) λ_ _ f=>f.elim;obtain⟨I9,st9,fr9⟩:=back I8;obtain⟨pD,nD,dL,dF,dC⟩:=I9.pin (s.heap.objs.size,{ cls:=.type "list", data:=.seq its.toArray n }) (by simp[zc]);refine call_meets F.slot_list_append ⟨_,pD,rfl⟩ F.entry_list_append (F.args_list_append_2 _ _) (PySem.list_append s.heap.objs.size its.toArray n y (by rw[xl4,<-rv.length];exact hz)) ⟨pD,?_⟩;have q:=PySem.IsL.update pD (λx=>x.push y);obtain⟨n',q'⟩:∃n',(s8.heap.update s.heap.objs.size (Obj.mapSeq λx=>x.push y)).get? s.heap.objs.size=some { cls:=.type "list", data:=.seq (its++[y]).toArray n' }:=⟨_,by rw[show(its++[y]).toArray=its.toArray.push y by simp];exact q⟩
    have kp:∀b o,b≠s.heap.objs.size->s8.heap.get? b=some o->(s8.heap.update s.heap.objs.size (Obj.mapSeq λx=>x.push y)).get? b=some o:=λb o hb e=>(Heap.get?_update_other s8.heap _ (Ne.symm hb)).trans e;have I10:Inv (zc X sc N (s.heap.objs.size+1) s H fp) [] (aK tau σ) H8 s8:=I9.pins_of λp hp=>absurd hp (by simp);have I11:Inv (zc X sc N (s.heap.objs.size+1) s H fp) [] (aK tau σ) H8 { s8 with heap:=s8.heap.update s.heap.objs.size (Obj.mapSeq λx=>x.push y),toks:=s8.toks } :=
     I10.turned (it:=s.heap.objs.size) (t':=s8.toks) kp nD dL (.inr (xmd _)) (λx c e z=>by obtain⟨v,o,ho,hd⟩:=I10.cell x c e;rw[z,pD] at ho;cases ho;cases hd) (λp hp=>absurd hp (by simp[zc]))
    refine⟨m',hm,i+1,ys++[yv],H8,its++[y],n',I11.pins_of λp hp=>?_,rv.append (.cons r8 .nil),?_,T.keep _ _ _ st9 λb hb o e=>kp b o (ltD b hb) e,fr9,w8⟩
    .have e:p=(s.heap.objs.size,{ cls:=.type "list", data:=.seq (its++[y]).toArray n' }):=by simpa using hp
     subst e;exact⟨q',nD,dL,dF,λv=>by simp⟩
    .rw[xll,xlx];exact hlt
 exact codeAny_compStart_list loop (T.self _ 0 _ _ _ st1 loop)
theorem zz (k:kh X sc N tau)(hc:X.calm=true)(hga:GA tau g)(hi:PI X tg iter wi)
  (hg:∀C s H ex,PG (zc X sc N C s H ex) tg g) (ht:∀C s H ex,PIf (zc X sc N C s H ex) ifs tc) (he:∀C s H ex,PE (zc X sc N C s H ex) elt te)
  (hs:∀x,foldedSetIterable iter X.env x=pure x:=by intro _;rfl):PE X (.ListComp elt [⟨tg,iter,ifs,0⟩] sc pos) (xc_ wi tau g tc te):=by
 intro pins s σ H Q I h;rw[eval_ListComp];refine wpAny_comprehension_free (use:=none) rfl hs (pJ (k.cells I.ok)) k.kind k.loc ?_;refine thn (@hi pins s σ H _ I h) λv s1 h1=>thn h1 λitv s2 h2=>?_;obtain⟨it,fp,tn,J,H2,e,I2,T,st2,f2,W,w0,turn⟩:=h2;subst e;refine aG (RR:=λacc C=>compPost (model X.prog X.w) X.A X.xe none (EP X pins σ Q) acc C) (W:=W) (Z:=λys H'=>∀p,H' p=none->Q (.ref p) (upd H' p (.lst ys))) k hc I2 T st2 f2 hga hg ht he w0 turn ?_;intro σ' H' s' ys its n J' rv hz z;obtain⟨I',hD,hC⟩:=oR k I2 f2 J' rv hz;obtain⟨m,hn,_⟩:=J'.loc;exact⟨m,hn,λh' hs'=>⟨.ref _,_,dS I2 I' hC hs',rfl,z _ hD⟩⟩
theorem zQ (hN:X.N.Nodup)(hi':X.N[i]? = some x)(hx:Loc X.env.scope x)(k:kh X sc N tau)(hc:X.calm=true)(hga:GA tau g)(hi:PI X tg iter wi)
  (hg:∀C s H ex,PG (zc X sc N C s H ex) tg g) (ht:∀C s H ex,PIf (zc X sc N C s H ex) ifs tc) (he:∀C s H ex,PE (zc X sc N C s H ex) elt te)
  (hsw:swapsWith (.ListComp elt [⟨tg,iter,ifs,0⟩] sc pos) (some (.Name x py)) spos.line X.env=pure true:=by rfl)
  (hs:∀x,foldedSetIterable iter X.env x=pure x:=by intro _;rfl) (hf:X.fn x=true\/X.env.scope.names.lookup x=some .local:=by first | exact .inl rfl | exact .inr rfl | assumption) :
  PS X (.Assign [.Name x py] (.ListComp elt [⟨tg,iter,ifs,0⟩] sc pos) spos) (xcC (xc_ wi tau g tc te) (gX i)):=by
 intro pins s σ H D I h;rw[exec_Assign_Name_used _ _ _ _ hsw];refine wpAny_bind (wpAny_standAt (wpAny_bind ?_));show wpAny _ X.A (do let _ <-comprehension (.ListComp elt [⟨tg,iter,ifs,0⟩] sc pos) sc X.env _ (newList []) false (eval iter X.env) (some (assign (.Name x py) X.env))) _ _ s;refine wpAny_bind (wpAny_mono (wpAny_comprehension_free (use:=some (assign (.Name x py) X.env)) (Q:=λ_ s'=>SP X pins D .next s') rfl hs (pJ (k.cells I.ok)) k.kind k.loc ?_) (λ_ s' q=>wpAny_pure (wpAny_pure q)) λ_ _ e=>e);refine thn (@hi pins s σ H _ I h) λv s1 h1=>thn h1 λitv s2 h2=>?_;obtain⟨it,fp,tn,J,H2,e,I2,T,st2,f2,W,w0,turn⟩:=h2;subst e;refine aG (RR:=λacc C=>compPost (model X.prog X.w) X.A X.xe (some (assign (.Name x py) X.env)) (λ_ s'=>SP X pins D .next s') acc C) (W:=W) (Z:=λys H'=>∀p,H' p=none->D.nx (σ.set i (some (.ref p))) (upd H' p (.lst ys))) k hc I2 T st2 f2 hga hg ht he w0 turn ?_;intro σ' H' s' ys its n J' rv hz z;obtain⟨I',hD,hC⟩:=oR k I2 f2 J' rv hz;obtain⟨m,hn,_⟩:=J'.loc;have hn:s'.heap.Ns (s2.heap.objs.size+1) m:=hn;refine wpAny_assign_Name (sW (v:=.ref s2.heap.objs.size) I' hN hi' hx rfl (λs'' I'' ⟨a,sb,ha⟩=>?_) hf);refine⟨m,hn.sameBut sb ?_,λh' hs'=>⟨_,_,dS I2 I'' hC hs',z _ hD⟩⟩;rcases ha with ha | ha
 .rw[ha];exact xmp (xmj I2.lt)
 .obtain⟨v,o,ho,_⟩:=I2.cell x a ha;exact xmp (xmj (Heap.lt_size ho))
end
end L2
namespace L2
open PySem PySem.Spec PyProof.Rows
structure Own (P:Program)(w:World)(K:PySem.W.Frag)(mg:Str->Option Value)(base:Heap)(k:Nat)(x:Str)(ps:List Str)(sp:Sp):Prop where
 ex:∃(f:Addr) (fd:FuncData),mF P w K mg base CX0 k f fd ps sp/\Binds K fd ps []/\PySem.W.keepIn K (.ref f)=true/\mg x=some (.ref f)
theorem Own.mono {P:Program}{w:World}{K:PySem.W.Frag}{mg:Str->Option Value}{base:Heap}{j k:Nat}{x:Str}{ps:List Str}{sp:Sp}(h:Own P w K mg base j x ps sp)(hjk:j<=k):Own P w K mg base k x ps sp:=by obtain⟨f,fd,F,b,kp,m⟩:=h.ex;exact⟨f,fd,F.mono hjk,b,kp,m⟩
theorem Own.imp {P:Program}{w:World}{K:PySem.W.Frag}{mg:Str->Option Value}{base:Heap}{k:Nat}{x:Str}{ps:List Str}{sp sp':Sp}(h:Own P w K mg base k x ps sp)(q:∀vs H Q E,sp' vs H Q E->sp vs H Q E):Own P w K mg base k x ps sp':=by obtain⟨f,fd,F,b,kp,m⟩:=h.ex;exact⟨f,fd,F.imp q,b,kp,m⟩
def xgj (sp:Sp)(t:TA):TE:=λ σ H Q=>t σ H λvs H1=>sp vs H1 Q E0
theorem xn (h:Own X.prog X.w X.K X.mg X.base j x ps sp)(hr:dZ k X.A)(ha:PA X (e::es) t)(hjk:j<=k:=by decide)(hg:Gl X x:=by rfl)
  (hdb:(x == ("__debug__" : Str))=false:=by decide) (he:starEach (e::es) X.env=(false,eval e X.env)::starEach es X.env:=by rfl) (hpl:(backTo pos (starEach es X.env)).any (·.1)=false:=by rfl) :
  PE X (.Call (.Name x p) (e::es) [] pos) (xgj sp t):=by
 obtain⟨f,fd,F,b,kp,m⟩:=(h.mono hjk).ex;intro pins s σ H Q I q;refine xfd (E:=E0) F hr hg m kp b .nil xhZ ha hdb he hpl s σ H Q I ?_;have e:(λ(vs:List V) (H1:Hp)=>sp (vs++[]) H1 Q E0)=λvs H1=>sp vs H1 Q E0:=by funext vs H1;rw[xkX]
 show t σ H λvs H1=>sp (vs++[]) H1 Q E0;rw[e];exact q
theorem mM {P:Program}{w:World}{K:PySem.W.Frag}{mg:Str->Option Value}{base:Heap}{k:Nat}{x qual:Str}{st:Stmt}{f:Addr}{fd:FuncData}{N ps:List Str}{sp:Sp}(F:Fun K x qual st f fd)(S:xy N ps (xf st))(mgx:mg x=some (.ref f))(b:Binds K fd ps [])
  (len:∀vs H Q E,sp vs H Q E->vs.length=ps.length)
  (body:∀(cdv:Value) (A:Around) (outer:List Env) (s:Shared) (H:Hp) (vs:List V) (Q:VK) (E:XK),dZ k (A.deeper (envOfC qual (xf st) s.heap.objs.size f cdv))->sp vs H Q E ->
   ∃t,PSs (xcB CX0 P w K mg base N qual (xf st) f cdv A outer s H E).nox (zE st) t/\t { nx:=λ_ H'=>Q .non H',rt:=Q } (start N vs) H):Own P w K mg base (k+1) x ps sp :=
 ⟨f,fd,F.ok S len body,b,F.kp,mgx⟩
section
variable {X:Cx}
def xg4 (i j:Int):Prop:=0<j/\j.natAbs.log2<9000
theorem oj:OpR X (binaryOp .FloorDiv) (rI xg4 λi j=>.int (i / j)):=opI λi j _ _ _ _ _ hc q=>by refine floordiv_int (by have:=hc.1;omega) ?_ (.inl (PyProof.noPylong_of_log2 hc.2));rw[xki i (by have:=hc.1;omega)];exact q
theorem sF (h0:0<j)(h:j<2 ^ 128):xg4 i j:=by
 refine⟨h0,?_⟩;have:j.natAbs<2 ^ 128:=by omega
 have:=Nat.log2_lt (n:=j.natAbs) (k:=128) (by omega);have h':j.natAbs.log2<128:=this.mpr (by omega);omega
theorem xcr:OpR X (compareOp .IsNot) (λx y H Q=>∃c d,x=.bl c/\y=.bl d/\Q (.bl (!(c == d))) H):=by intro pins s σ H x y v u Q I rx ry h;obtain⟨c,d,rfl,rfl,q⟩:=h;cases rx;cases ry;exact isnot_bool (xgi I q rfl)
def xfG (n c:String):Bool:=n == c || (n == "bool" && c == "int")
def cg:List String:=["NoneType", "bool", "int", "str", "list", "tuple", "dict"]
def gf:List String:=["bool", "int", "str", "list", "tuple", "dict"]
theorem xaH {K:PySem.W.Frag}{n c:String}(hn:n∈cg)(hc:c∈gf):PySem.W.kitOne K (.type n) (.type c)=some (xfG n c):=by simp only[cg,gf,xlI,xlY,xmC] at hn hc;rcases hn with rfl | rfl | rfl | rfl | rfl | rfl | rfl<;>rcases hc with rfl | rfl | rfl | rfl | rfl | rfl<;>kernel_rfl
def tyN (H:Hp):V->Option String
 | .non=>some "NoneType"
 | .bl _=>some "bool"
 | .int _=>some "int"
 | .str _=>some "str"
 | .ref a=>match H a with
  | some (.lst _)=>some "list"
  | some (.frz _ (.lst _))=>some "list"
  | some (.tup _)=>some "tuple"
  | some (.dK _)=>some "dict"
  | _=>none
 | _=>none
theorem xgu {K:PySem.W.Frag}{H:Hp}{x:V}{n:String}(h:tyN H x=some n):lC K H x (.type n)/\n∈cg:=by
 cases x with
 | non=>cases h;exact⟨.non,by decide⟩
 | bl b=>cases h;exact⟨.bl b,by decide⟩
 | int i=>cases h;exact⟨.int i,by decide⟩
 | str y=>cases h;exact⟨.str y,by decide⟩
 | ref a =>
  have h:(match H a with
   | some (.lst _)=>some "list"
   | some (.frz _ (.lst _))=>some "list"
   | some (.tup _)=>some "tuple"
   | some (.dK _)=>some "dict"
   | _=>none)=some n:=h
  split at h
  .rename_i xs e;cases h;exact⟨.lst e,by decide⟩
  .rename_i o xs e;cases h;exact⟨.frz e,by decide⟩
  .rename_i xs e;cases h;exact⟨.tup e,by decide⟩
  .rename_i xs e;cases h;exact⟨.dK e,by decide⟩
  .cases h
 | _=>cases h
def xjb (xs:List V)(H:Hp)(Q:VK):Prop:=∃x c n,xs=[x,.ty c]/\tyN H x=some n/\c∈gf/\Q (.bl (xfG n c)) H
theorem jX:qh X (.builtin "isinstance") xjb:=by intro pins s σ H xs us Q I r h;obtain⟨x,c,n,rfl,ty,hc,q⟩:=h;obtain⟨u,w',rfl,rx,ry⟩:=vals2 r;cases ry;obtain⟨t1,t2⟩:=xgu (K:=X.K) ty;exact xbq I rx t1 (xaH t2 hc) λtk=>⟨.bl _,H,I.tok tk,rfl,q⟩
theorem aP:∀ {bs:List Bool} {us:List Value},zo (bs.map V.bl) us->us=bs.map Value.bool
 | [],_,.nil=>rfl
 | c::cs,_,.cons r t=>by cases r;rw[aP t];rfl
def xfl (K:PySem.W.Frag)(xs:List V)(H:Hp)(Q:VK):Prop:=∃(p:Addr) (ns:List Int),xs=[.ref p]/\SqL K H p (ns.map V.int)/\ns≠[]/\∀M,M∈ns->(∀a∈ns,a<=M)->Q (.int M) H
theorem xba (hc:X.calm=true):qh X (.builtin "max") (xfl X.K):=by
 intro pins s σ H xs us Q I r h;obtain⟨p,ns,rfl,hl,hne,q⟩:=h;obtain⟨u,rfl,ru⟩:=vals1 r;cases ru;obtain⟨its,rv,pl,hz⟩:=I.list hl;obtain⟨m,F⟩:=I.fr;have hi:=intsAre_of rv;obtain⟨xs',e⟩:=hi.allInts.items;have hns:ns=xs'.toList.map (·.1):=by rw[<-hi.numsOf,<-nums_intItems,<-e]
 have hsz:0<xs'.size:=by have h3:0<ns.length:=xls.mpr hne;rw[hns,xlq,xj4] at h3;exact h3
 have hl':=pl.isList;rw[e] at hl';refine max_intList (I.ok.hd hc) hl' hsz λv h' tk hv hk=>?_;obtain⟨t,rfl⟩:=intItems_at hv;obtain⟨h1,h2⟩:=argBest_gt (numAt xs') (xs'.size-1);refine⟨.int _,H,I.kept hk,⟨t,rfl⟩,q _ ?_ λa ha=>?_⟩
 .rw[hns,numAt_eq];exact getD_mem (by rw[xlq,xj4];omega)
 .rw[hns] at ha;obtain⟨j,hj,rfl⟩:=mem_getD ha;rw[xlq,xj4] at hj;rw[<-numAt_eq];exact h2 j (by omega)
def xfE (K:PySem.W.Frag)(xs:List V)(H:Hp)(Q:VK):Prop:=∃(p:Addr) (bs:List Bool),xs=[.ref p]/\SqL K H p (bs.map V.bl)/\Q (.bl (bs.all id)) H
theorem md {bs:List Bool}:(List.range bs.length).all (λi=>(bs[i]?).getD false)=bs.all id:=by
 rw[xj6];simp only[xkS,xlT,id];constructor
 .intro h b hb;obtain⟨i,hi,rfl⟩:=xlN.mp hb;have:=h i hi;rw[xlc hi] at this;exact this
 .intro h i hi;rw[xlc hi];exact h _ (xlk hi)
theorem xcA (hc:X.calm=true):qh X (.builtin "all") (xfE X.K):=by
 intro pins s σ H xs us Q I r h;obtain⟨p,bs,rfl,hl,q⟩:=h;obtain⟨u,rfl,ru⟩:=vals1 r;cases ru;obtain⟨its,rv,pl,hz⟩:=I.list hl;have e:=aP rv;subst e;have hl':=pl.isList;refine call_all_walk (wpAny_pyIter_list hl' ?_);have hlt:p<s.heap.objs.size:=by obtain⟨o,ho,_⟩:=id hl';exact Heap.lt_size ho
 have hne:p≠s.heap.objs.size:=xmq hlt;refine⟨_,_,_,_,_,_,λi=>(bs[i]?).getD false,rfl,Walks.list (A:=X.A.in1) (I.ok.hd hc) _ p hne (bs.map Value.bool).toArray,⟨⟨_,Heap.get?_push_size _ rfl,rfl,rfl⟩,hl'.at λo e=>Heap.get?_push_of_some _ e⟩,?_,λh' tk hk=>?_⟩
 .intro i v s' Q' E' hP hq;have hP':(bs.map Value.bool)[i]? = some v:=by simpa using hP
  rw[xlf] at hP';cases eb:bs[i]? with
  | none=>rw[eb] at hP';cases hP'
  | some b =>rw[eb] at hP';cases hP';simp only[eb,Option.getD_some] at hq;exact wpAny_truthy_bool hq
 .have hk':=old_kept (l:=p) hk;refine⟨.bl (bs.all id),H,I.kept hk',?_,q⟩;show Value.bool _=Value.bool _;have:(bs.map Value.bool).toArray.size=bs.length:=by simp
  rw[this,md]
end
end L2
namespace L2
open PySem PySem.Spec PyProof.Rows
structure Blt (mg:Str->Option Value)(ns:List Str):Prop where
 all:∀x∈ns,mg x=none
theorem Blt.get (B:Blt mg ns)(x:Str)(h:x∈ns:=by decide +kernel):mg x=none:=B.all x h
theorem vv:bootBuiltins "len" = some (.builtin "len"):=by decide +kernel
theorem xck:bootBuiltins "max" = some (.builtin "max"):=by decide +kernel
theorem xd6:bootBuiltins "min" = some (.builtin "min"):=by decide +kernel
theorem qL:bootBuiltins "abs" = some (.builtin "abs"):=by decide +kernel
theorem ng:bootBuiltins "all" = some (.builtin "all"):=by decide +kernel
theorem wK:bootBuiltins "isinstance" = some (.builtin "isinstance"):=by decide +kernel
theorem vB:bootBuiltins "tuple" = some (.type "tuple"):=by decide +kernel
theorem xa2:bootBuiltins "list" = some (.type "list"):=by decide +kernel
theorem xhC:bootBuiltins "int" = some (.type "int"):=by decide +kernel
theorem xfk:bootBuiltins "bool" = some (.type "bool"):=by decide +kernel
theorem xgx:bootBuiltins "zip" = some (.type "zip"):=by decide +kernel
def xis (n:Int)(b:Bool):Prop:=0<=n/\(b=false->n<2147483647)
def xao (p:Addr)(H:Hp):Prop:=∃(n:Int) (b:Bool),H p=some (.lst [.int n,.bl b])/\xis n b
structure SB (p:Addr)(H H':Hp):Prop where
 keep:∀(b:Addr) (o:HO),b≠p->H b=some o->H' b=some o
 st:xao p H'
def xem (K:PySem.W.Frag):Sp:=λvs H Q _=>∃(a:Addr) (ns:List Int) (k:Int),vs=[.ref a,.int k]/\SqL K H a (ns.map V.int)/\ns.length<=63/\0<=k/\∀n:Int,Q (.int n) H
def cO (K:PySem.W.Frag):Sp:=λvs H Q _=>∃(a:Addr) (ns:List Int) (k:Int),vs=[.ref a,.int k]/\SqL K H a (ns.map V.int)/\ns.length<=63/\0<=k /\
 ∀(p:Addr) (n:Int) (b:Bool),H p=none->xis n b->Q (.ref p) (upd H p (.lst [.int n,.bl b]))
def xej:Sp:=λvs H Q _=>∃(p:Addr) (many:Int),vs=[.ref p,.int many]/\xao p H/\0<many/\many<2 ^ 128/\∀(r:Int) (H':Hp),0<=r->r<many->SB p H H'->Q (.int r) H'
theorem xdF {ns:List Int}{k:Int}(h0:0<=k)(h:k<(ns.length:Int)):∃v:Int,atI (ns.map V.int) k=some (.int v):=by
 have hk:k.toNat<ns.length:=by omega
 have ek:k=((k.toNat:Nat):Int):=by omega
 have q:atI (ns.map V.int) ((k.toNat:Nat):Int)=some (.int ns[k.toNat]):=xe4 (by rw[xlf,xlc hk]<;>rfl);rw[<-ek] at q;exact⟨_,q⟩
end L2
namespace L2
open PySem PySem.Spec PyProof.Rows
section
variable {X:Cx}
theorem vC (K:PySem.W.Frag)(e:X.K=K:=by rfl):IxR X (xiQ K):=e▸xa4
theorem fX (K:PySem.W.Frag)(e:X.K=K:=by rfl):SlR X (xhB K):=e▸xb1
theorem lN (K:PySem.W.Frag)(hc:X.calm=true)(e:X.K=K:=by rfl):qh X (.builtin "max") (xfl K):=e▸xba hc
theorem vZ (K:PySem.W.Frag)(hc:X.calm=true)(e:X.K=K:=by rfl):qh X (.builtin "all") (xfE K):=e▸xcA hc
def xe7 (K:PySem.W.Frag)(xs:List V)(H:Hp)(Q:VK):Prop:=∃p ys,xs=[.ref p]/\(SqL K H p ys\/SqT K H p ys)/\Q (.int ys.length) H
theorem y4 (K:PySem.W.Frag)(e:X.K=K:=by rfl):qh X (.builtin "len") (xe7 K):=e▸nZ
def xfh (K:PySem.W.Frag)(xs:List V)(H:Hp)(Q:VK):Prop:=∃p ys,xs=[.ref p]/\((SqL K H p ys/\∀l,H l=none->Q (.ref l) (upd H l (.tup ys)))\/(SqT K H p ys/\Q (.ref p) H))
theorem vb (K:PySem.W.Frag)(e:X.K=K:=by rfl):qh X (.type "tuple") (xfh K):=e▸tT
def xgr (K:PySem.W.Frag)(xs:List V)(H:Hp)(Q:VK):Prop:=∃p ys,xs=[.ref p]/\(SqL K H p ys\/SqT K H p ys)/\∀l,H l=none->Q (.ref l) (upd H l (.lst ys))
theorem ls (K:PySem.W.Frag)(e:X.K=K:=by rfl):qh X (.type "list") (xgr K):=e▸bP
theorem yl (K:PySem.W.Frag)(hc:X.calm=true)(h:PGs X es t)
  (hn:(assignEach es X.env).length=n:=by rfl) (hst:(assignEach es X.env).findIdx? (·.1)=none:=by rfl) (e:X.K=K:=by rfl):PG X (.Tuple es k pos) (xgR K n t):=by
 subst e;exact xhc hc h hn hst
end
theorem aT:∀ {l:List α} {k:List β} {i:Nat} {b:β},Paired F l k->k[i]? = some b->∃a,l[i]? = some a/\F a b
 | _,_,_,_,.nil,h=>by simp at h
 | _,_,0,_,.cons r _,h=>by simp at h;subst h;exact⟨_,rfl,r⟩
 | _,_,i+1,b,.cons _ t,h=>by obtain⟨a,e,f⟩:=aT (i:=i) t (by simpa using h);exact⟨a,by simpa using e,f⟩
theorem xad (h:Paired F l k):l.length=k.length:=Paired.length h
theorem jx (h:Paired F l k)(r:F a b):Paired F (l++[a]) (k++[b]):=Paired.snoc h r
theorem rq:∀ {l l':List α} {k k':List β},Paired F l k->Paired F l' k'->Paired F (l++l') (k++k')
 | _,_,_,_,.nil,s=>s
 | _,_,_,_,.cons r t,s=>.cons r (rq t s)
theorem sf:∀(n:Nat) {l:List α} {k:List β},Paired F l k->Paired F (l.drop n) (k.drop n)
 | 0,_,_,h=>h
 | _+1,_,_,.nil=>.nil
 | n+1,_,_,.cons _ t=>sf n t
theorem dG:∀(n:Nat) {l:List α} {k:List β},Paired F l k->Paired F (l.take n) (k.take n)
 | 0,_,_,_=>.nil
 | _+1,_,_,.nil=>.nil
 | n+1,_,_,.cons r t=>.cons r (dG n t)
theorem take_succ {α:Type}{l:List α}{i:Nat}{a:α}(h:l[i]? = some a):l.take (i+1)=l.take i++[a]:=by rw[xl_,h];rfl
theorem sz (h:n<=1000):n<=sizeLine:=xmc (xaF h)
end L2
namespace L2
open PySem PySem.Spec PyProof.Rows
open Builtin.SmallTypes (nextOf)
structure Drw (it a:Addr)(vs:List Value)(tn:Nat->Heap->Prop)(src:Heap->Prop):Prop where
 mv:∀i h h',tn i h->(∀o,h.get? it=some o->h'.get? it=some o)->tn i h'
 smv:∀h h',src h->(∀o,h.get? a=some o->h'.get? a=some o)->src h'
 ob:∀i h,tn i h->∃o,h.get? it=some o/\∀v,o.data≠.cell v
 item:∀(prog:Program) (w:World) (A:Around) (E:Value->Shared->Prop) (i:Nat) (x:Value) (s:Shared) (Q:Value->Shared->Prop),tn i s.heap->src s.heap->vs[i]? = some x ->
  (∀h',tn (i+1) h'->Heap.SameBut it s.heap h'->Q x { s with heap:=h' })->wpAny (model prog w) A (nextOf (.ref it)) Q E s
 fin:∀(prog:Program) (w:World) (A:Around) (E:Value->Shared->Prop) (i:Nat) (s:Shared) (Q:Value->Shared->Prop),A.handled=none->tn i s.heap->src s.heap->vs[i]? = none ->
  (∀h' e,Heap.ExtBut it s.heap h'->(∃o,h'.get? e=some o/\o.cls=.type "StopIteration")->E (.ref e) { s with heap:=h' })->wpAny (model prog w) A (nextOf (.ref it)) Q E s
theorem xdC (it a:Addr)(vs:List Value):Drw it a vs (λi h=>h.IsListIter it a i) (λh=>h.IsList a vs.toArray) where
 mv:=λi h h' t k=>t.at k
 smv:=λh h' t k=>t.at k
 ob:=λi h t=>let ⟨o,e,_,d⟩:=t;⟨o,e,λv z=>by rw[d] at z;cases z⟩
 item:=λprog w A E i x s Q t l e h=>wpAny_nextOf_list_item t l (by simpa using e) h
 fin:=λprog w A E i s Q hh t l e h=>wpAny_nextOf_list_end hh t l (by simpa using e) h
section
variable {prog:Program} {w:World} {A:Around} {E:Value->Shared->Prop} {s:Shared}
theorem nN {it a:Addr}{i:Nat}{vs:List Value}{x:Value}{Q:Value->Shared->Prop}(T:s.heap.IsTupleIter it a i)(S:s.heap.IsTuple a vs.toArray)(e:vs[i]? = some x)
  (h:∀h',h'.IsTupleIter it a (i+1)->Heap.SameBut it s.heap h'->Q x { s with heap:=h' }):wpAny (model prog w) A (nextOf (.ref it)) Q E s:=by
 obtain⟨ob,hob,hcl,hdt⟩:=id T;obtain⟨os,hos,_,nn,hsq⟩:=id S;have e':vs.toArray[i]? = some x:=by simpa using e
 unfold nextOf;refine wpAny_bind (wpAny_callSpecial?_slot (name:=Str.ofString "__next__") T.typeIs F.slot_tuple_iterator_next (wpAny_call_entry F.slot_tuple_iterator_next T.typeIs F.entry_tuple_iterator_next (wpAny_bind (m:=field (.ref it) 0) (wpAny_field hob hdt (x:=.ref a) rfl ?_)) (F.args_tuple_iterator_next_1 _)));refine wpAny_bind (m:=field (.ref it) 1) (wpAny_field hob hdt (x:=.int i 0) rfl (wpAny_bind (m:=seqItems? (.ref a)) (wpAny_seqItems hos hsq ?_)));simp only[xkN,e'];refine wpAny_bind (wpAny_setField hob hdt (by simp) (wpAny_pure ⟨x,rfl,wpAny_pure (h _ ⟨_,Heap.get?_update_self _ hob (Obj.isFreed_of_fields (Obj.data_mapFields hdt _)),(Obj.cls_mapFields ..).trans hcl,?_⟩ (Heap.SameBut.update ..))⟩));rw[Obj.data_mapFields hdt];simp[rawInt]
theorem bX {it a:Addr}{i:Nat}{vs:List Value}{Q:Value->Shared->Prop}(hn:A.handled=none)(T:s.heap.IsTupleIter it a i)(S:s.heap.IsTuple a vs.toArray)(e:vs[i]? = none)
  (h:∀h' x,Heap.ExtBut it s.heap h'->(∃o,h'.get? x=some o/\o.cls=.type "StopIteration")->E (.ref x) { s with heap:=h' }):wpAny (model prog w) A (nextOf (.ref it)) Q E s:=by
 obtain⟨ob,hob,hcl,hdt⟩:=id T;obtain⟨os,hos,_,nn,hsq⟩:=id S;have e':vs.toArray[i]? = none:=by simpa using e
 unfold nextOf;refine wpAny_bind (wpAny_callSpecial?_slot (name:=Str.ofString "__next__") T.typeIs F.slot_tuple_iterator_next (wpAny_call_entry F.slot_tuple_iterator_next T.typeIs F.entry_tuple_iterator_next (wpAny_bind (m:=field (.ref it) 0) (wpAny_field hob hdt (x:=.ref a) rfl ?_)) (F.args_tuple_iterator_next_1 _)));refine wpAny_bind (m:=field (.ref it) 1) (wpAny_field hob hdt (x:=.int i 0) rfl (wpAny_bind (m:=seqItems? (.ref a)) (wpAny_seqItems hos hsq ?_)));simp only[xkN,e'];refine wpAny_bind (wpAny_rule (wpAny_bind (wpAny_setField hob hdt (by simp) (wpAny_bind ?_))));simp only[newExc,newTuple];refine wpAny_bind (wpAny_newObj_type (wpAny_bind (m:=firstArgMember _ _) (wpAny_of_eq (a:=Value.none) (by first | rfl | (simp only[firstArgMember];rfl)) (wpAny_newObj_type ?_ (by size_fits)))) (by size_fits));simp only[raiseNew];refine wpAny_bind (wpAny_handled ?_)
 first | rw[show A.in1.handled=none from hn] | rw[hn]
 exact wpAny_bind (wpAny_pure (wpAny_throw (h _ _ (((Heap.SameBut.update ..).extBut.push _).push _) ⟨_,Heap.get?_push_size _ rfl,rfl⟩)))
end
theorem xfN (it a:Addr)(vs:List Value):Drw it a vs (λi h=>h.IsTupleIter it a i) (λh=>h.IsTuple a vs.toArray) where
 mv:=λi h h' t k=>t.at k
 smv:=λh h' t k=>let ⟨o,e,r⟩:=t;⟨o,k o e,r⟩
 ob:=λi h t=>let ⟨o,e,_,d⟩:=t;⟨o,e,λv z=>by rw[d] at z;cases z⟩
 item:=λprog w A E i x s Q t l e h=>nN t l e h
 fin:=λprog w A E i s Q hh t l e h=>bX hh t l e h
structure ZA (z ti to i1 i2 a1 a2:Addr):Prop where
 a:ti≠z/\to≠z/\i1≠z/\i2≠z/\ti≠to/\ti≠i1/\ti≠i2/\to≠i1/\to≠i2/\i1≠i2
 b:a1≠z/\a1≠to/\a1≠i1/\a1≠i2/\a2≠z/\a2≠to/\a2≠i1/\a2≠i2
section
variable {prog:Program} {w:World} {A:Around} {E:Value->Shared->Prop} {s:Shared} {z ti to i1 i2 a1 a2:Addr} {vs us:List Value} {t1 t2:Nat->Heap->Prop} {s1 s2:Heap->Prop}
theorem xcl {k:Nat}{x y p q:Value}{Q:Value->Shared->Prop}(D:ZA z ti to i1 i2 a1 a2)(W1:Drw i1 a1 vs t1 s1)(W2:Drw i2 a2 us t2 s2)(Z:IsZip s.heap z ti to .none)(TI:IsPair s.heap ti (.ref i1) (.ref i2))(TO:IsPair s.heap to p q)
  (b1:t1 k s.heap) (b2:t2 k s.heap) (c1:s1 s.heap) (c2:s2 s.heap) (ex:vs[k]? = some x) (ey:us[k]? = some y)
  (h:∀h',IsZip h' z ti to (rawInt s.heap.objs.size)->IsPair h' to x y->t1 (k+1) h'->t2 (k+1) h'->IsPair h' s.heap.objs.size x y ->
   (∀c o,c≠z->c≠to->c≠i1->c≠i2->s.heap.get? c=some o->h'.get? c=some o)->Q (.ref s.heap.objs.size) { s with heap:=h' }) :
  wpAny (model prog w) A (Builtin.«zip.__next__» ⟨[.ref z],[]⟩) (λfin s'=>∃v,fin=.done (.ret v)/\Q v s') E s:=by
 obtain⟨⟨d1,d2,d3,d4,d5,d6,d7,d8,d9,d10⟩,e1,e2,e3,e4,e5,e6,e7,e8⟩:=D;refine wpAny_bind (m:=field (.ref z) 2) (wpAny_field Z rfl (x:=.bool false) rfl (wpAny_bind (m:=field (.ref z) 3) (wpAny_field Z rfl (x:=.ref ti) rfl (wpAny_bind (wpAny_seqItems TI rfl ?_)))));refine wpAny_bind (m:=Builtin.SmallTypes.ownedTupleIsFree (.ref z)) ?_;unfold Builtin.SmallTypes.ownedTupleIsFree;refine wpAny_bind (wpAny_field Z rfl (x:=.none) rfl (wpAny_pure ?_));simp only[if_true];refine wpAny_bind (wpAny_rule (wpAny_bind (wpAny_field Z rfl (x:=.ref to) rfl (wpAny_bind (wpAny_setField_rec Z (by simp) λg1 Z1 S1=>wpAny_bind ?_)))))
 replace Z1:IsZip g1 z ti to .ellipsis:=Z1
 simp only[List.zipIdx_cons,List.zipIdx_nil,List.forIn_cons,List.forIn_nil];refine wpAny_bind (wpAny_bind (wpAny_onRaise (wpAny_bind (m:=nextOf (.ref i1)) ?_)));refine W1.item _ _ _ _ k x _ _ (W1.mv _ _ _ b1 λo=>S1.extBut _ o d3) (W1.smv _ _ c1 λo=>S1.extBut _ o e1) ex λg2 b12 S2=>wpAny_pure ?_;have TO2:IsPair g2 to p q:=S2.extBut _ _ d8 (S1.extBut _ _ d2 TO);refine wpAny_bind (wpAny_seqItems TO2 rfl (wpAny_bind (wpAny_updateSeq_pair TO2 λg3 TO3 S3=>wpAny_bind (wpAny_letGo (wpAny_pure ?_)))))
 replace TO3:IsPair g3 to x q:=TO3
 refine wpAny_bind (wpAny_bind (wpAny_onRaise (wpAny_bind (m:=nextOf (.ref i2)) ?_)));have k3:∀c o,c≠z->c≠to->c≠i1->s.heap.get? c=some o->g3.get? c=some o:=λc o n1 n2 n3 g=>S3.extBut _ _ n2 (S2.extBut _ _ n3 (S1.extBut _ _ n1 g));refine W2.item _ _ _ _ k y _ _ (W2.mv _ _ _ b2 λo=>k3 _ o d4 (Ne.symm d9) (Ne.symm d10)) (W2.smv _ _ c2 λo=>k3 _ o e5 e6 e7) ey λg4 b24 S4=>wpAny_pure ?_;have TO4:IsPair g4 to x q:=S4.extBut _ _ d9 TO3;refine wpAny_bind (wpAny_seqItems TO4 rfl (wpAny_bind (wpAny_updateSeq_pair TO4 λg5 TO5 S5=>wpAny_bind (wpAny_letGo (wpAny_pure (wpAny_pure ?_))))))
 replace TO5:IsPair g5 to x y:=TO5
 refine wpAny_bind (wpAny_seqItems TO5 rfl (wpAny_bind (wpAny_newTuple (wpAny_bind (m:=Builtin.SmallTypes.ownedTupleHandOut (.ref z) (.ref g5.objs.size)) ?_))));have sz5:g5.objs.size=s.heap.objs.size:=by rw[S5.1,S4.1,S3.1,S2.1,S1.1]
 have k5:∀c o,c≠to->c≠i2->g3.get? c=some o->g5.get? c=some o:=λc o n1 n2 g=>S5.extBut _ _ n1 (S4.extBut _ _ n2 g);have Z5:IsZip g5 z ti to .ellipsis:=k5 _ _ (Ne.symm d2) (Ne.symm d4) (S3.extBut _ _ (Ne.symm d2) (S2.extBut _ _ (Ne.symm d3) Z1));have b15:t1 (k+1) g5:=W1.mv _ _ _ b12 λo g=>k5 _ o (Ne.symm d8) d10 (S3.extBut _ o (Ne.symm d8) g);have b25:t2 (k+1) g5:=W2.mv _ _ _ b24 λo g=>S5.extBut _ o (Ne.symm d9) g;have zlt:z<g5.objs.size:=Heap.lt_size Z5;unfold Builtin.SmallTypes.ownedTupleHandOut;refine wpAny_bind (wpAny_setField_rec (show IsZip (g5.push { cls:=.type "tuple", data:=.seq #[x,y] }) z ti to .ellipsis from Heap.get?_push_of_some _ Z5) (by simp) λg7 Z7 S7=>wpAny_setField_rec (show IsZip g7 z ti to (rawInt g5.objs.size) from Z7) (by simp) λg8 Z8 S8=>?_)
 replace Z8:IsZip g8 z ti to (rawInt g5.objs.size):=Z8
 have up8:∀c o,c≠z->g5.get? c=some o->g8.get? c=some o:=λc o n g=>S8.extBut _ _ n (S7.extBut _ _ n (Heap.get?_push_of_some _ g));have T8:IsPair g8 g5.objs.size x y:=S8.extBut _ _ (xmp zlt) (S7.extBut _ _ (xmp zlt) (Heap.get?_push_size _ rfl));refine wpAny_pure ⟨_,rfl,?_⟩;show Q (.ref g5.objs.size) _;rw[sz5] at Z8 T8 ⊢;exact h g8 Z8 (up8 _ _ d2 TO5) (W1.mv _ _ _ b15 λo g=>up8 _ o d3 g) (W2.mv _ _ _ b25 λo g=>up8 _ o d4 g) T8 λc o n1 n2 n3 n4 g=>up8 c o n1 (k5 c o n2 n4 (k3 c o n1 n2 n3 g))
theorem xcY (hn:A.handled=none)(D:ZA z ti to i1 i2 a1 a2)(W1:Drw i1 a1 vs t1 s1)(W2:Drw i2 a2 us t2 s2)(Z:IsZip s.heap z ti to .none)(TI:IsPair s.heap ti (.ref i1) (.ref i2))(TO:IsPair s.heap to p q)
  (b1:t1 k s.heap) (b2:t2 k s.heap) (c1:s1 s.heap) (c2:s2 s.heap) (end':vs[k]? = none\/us[k]? = none)
  (h:∀h' e,(∀c o,c≠z->c≠to->c≠i1->c≠i2->s.heap.get? c=some o->h'.get? c=some o)->(∃o,h'.get? e=some o/\o.cls=.type "StopIteration")->E (.ref e) { s with heap:=h' }) :
  wpAny (model prog w) A (Builtin.«zip.__next__» ⟨[.ref z],[]⟩) Q E s:=by
 obtain⟨⟨d1,d2,d3,d4,d5,d6,d7,d8,d9,d10⟩,e1,e2,e3,e4,e5,e6,e7,e8⟩:=D;refine wpAny_bind (m:=field (.ref z) 2) (wpAny_field Z rfl (x:=.bool false) rfl (wpAny_bind (m:=field (.ref z) 3) (wpAny_field Z rfl (x:=.ref ti) rfl (wpAny_bind (wpAny_seqItems TI rfl ?_)))));refine wpAny_bind (m:=Builtin.SmallTypes.ownedTupleIsFree (.ref z)) ?_;unfold Builtin.SmallTypes.ownedTupleIsFree;refine wpAny_bind (wpAny_field Z rfl (x:=.none) rfl (wpAny_pure ?_));simp only[if_true];refine wpAny_bind (wpAny_rule (wpAny_bind (wpAny_field Z rfl (x:=.ref to) rfl (wpAny_bind (wpAny_setField_rec Z (by simp) λg1 Z1 S1=>wpAny_bind ?_)))))
 replace Z1:IsZip g1 z ti to .ellipsis:=Z1
 simp only[List.zipIdx_cons,List.zipIdx_nil,List.forIn_cons,List.forIn_nil];refine wpAny_bind (wpAny_bind (wpAny_onRaise (wpAny_bind (m:=nextOf (.ref i1)) ?_)));have b1':=W1.mv _ _ _ b1 λo=>S1.extBut _ o d3;have c1':=W1.smv _ _ c1 λo=>S1.extBut _ o e1;cases ex:vs[k]? with
 | none =>
  refine W1.fin _ _ _ _ k _ _ hn b1' c1' ex λg2 e S2 he=>?_;obtain⟨oe,hoe,hce⟩:=he;have Z2:IsZip g2 z ti to .ellipsis:=S2 _ _ (Ne.symm d3) Z1;have ne:e≠z:=λy=>by subst y;rw[Z2] at hoe;cases hoe;simp at hce
  exact wpAny_setField_rec Z2 (by simp) λg3 _ S3=>h g3 e (λc o n1 _ n3 _ g=>S3.extBut _ _ n1 (S2 _ _ n3 (S1.extBut _ _ n1 g))) ⟨oe,S3.extBut _ _ ne hoe,hce⟩
 | some x =>
  have ey:us[k]? = none:=end'.resolve_left (by rw[ex];exact λz=>nomatch z);refine W1.item _ _ _ _ k x _ _ b1' c1' ex λg2 b12 S2=>wpAny_pure ?_;have TO2:IsPair g2 to p q:=S2.extBut _ _ d8 (S1.extBut _ _ d2 TO);refine wpAny_bind (wpAny_seqItems TO2 rfl (wpAny_bind (wpAny_updateSeq_pair TO2 λg3 TO3 S3=>wpAny_bind (wpAny_letGo (wpAny_pure ?_)))));refine wpAny_bind (wpAny_bind (wpAny_onRaise (wpAny_bind (m:=nextOf (.ref i2)) ?_)));have k3:∀c o,c≠z->c≠to->c≠i1->s.heap.get? c=some o->g3.get? c=some o:=λc o n1 n2 n3 g=>S3.extBut _ _ n2 (S2.extBut _ _ n3 (S1.extBut _ _ n1 g));refine W2.fin _ _ _ _ k _ _ hn (W2.mv _ _ _ b2 λo=>k3 _ o d4 (Ne.symm d9) (Ne.symm d10)) (W2.smv _ _ c2 λo=>k3 _ o e5 e6 e7) ey λg4 e S4 he=>?_;obtain⟨oe,hoe,hce⟩:=he;have Z4:IsZip g4 z ti to .ellipsis:=S4 _ _ (Ne.symm d4) (S3.extBut _ _ (Ne.symm d2) (S2.extBut _ _ (Ne.symm d3) Z1));have ne:e≠z:=λy=>by subst y;rw[Z4] at hoe;cases hoe;simp at hce
  exact wpAny_setField_rec Z4 (by simp) λg5 _ S5=>h g5 e (λc o n1 n2 n3 n4 g=>S5.extBut _ _ n1 (S4 _ _ n4 (k3 c o n1 n2 n3 g))) ⟨oe,S5.extBut _ _ ne hoe,hce⟩
end
end L2
namespace L2
open PySem PySem.Spec PyProof.Rows
section
variable {prog:Program} {w:World} {A:Around} {E:Value->Shared->Prop} {s:Shared}
end
theorem xgJ (h1:a1<n)(h2:a2<n):ZA (n+4) (n+2) (n+3) n (n+1) a1 a2:=by
 have up:∀(x k:Nat),x<n->x≠n+k:=λx k h=>xmq (xmi h (xmb n k));have ad:∀j k:Nat,j≠k->n+j≠n+k:=λj k h e=>h (Nat.add_left_cancel e);have a0:∀k:Nat,0≠k->n≠n+k:=λk h e=>h (Nat.add_left_cancel (n:=n) (by simpa using e));exact⟨⟨ad _ _ (by decide),ad _ _ (by decide),a0 _ (by decide),ad _ _ (by decide),ad _ _ (by decide),λe=>a0 2 (by decide) e.symm,ad _ _ (by decide),λe=>a0 3 (by decide) e.symm,ad _ _ (by decide),a0 _ (by decide)⟩,
  up _ _ h1,up _ _ h1,xmq h1,up _ _ h1,up _ _ h2,up _ _ h2,xmq h2,up _ _ h2⟩
def Sq2 (K:PySem.W.Frag)(b:Bool)(H:Hp)(a:Addr)(xs:List V):Prop:=if b=true then SqT K H a xs else SqL K H a xs
def xap (b:Bool)(a:Addr)(vs:List Value)(h:Heap):Prop:=if b=true then h.IsTuple a vs.toArray else h.IsList a vs.toArray
def Tn2 (b:Bool)(it a:Addr)(i:Nat)(h:Heap):Prop:=if b=true then h.IsTupleIter it a i else h.IsListIter it a i
theorem rF (b:Bool)(it a:Addr)(vs:List Value):Drw it a vs (Tn2 b it a) (xap b a vs):=by
 cases b with
 | true=>exact xfN it a vs
 | false=>exact xdC it a vs
theorem Inv.sq2 (I:Inv X pins σ H s)(h:Sq2 X.K b H a xs):∃vs:List Value,zo xs vs/\xap b a vs s.heap:=by
 cases b with
 | true=>obtain⟨vs,r,p,_⟩:=I.tuple (show SqT X.K H a xs from h);exact⟨vs,r,p⟩
 | false=>obtain⟨vs,r,p,_⟩:=I.list (show SqL X.K H a xs from h);exact⟨vs,r,p.isList⟩
section
variable {P:Program} {w:World} {K:PySem.W.Frag} {z ti to i1 i2 a1 a2:Addr} {b:Bool} {xs ys:List V}
end
section
variable {X:Cx}
end
end L2
namespace L2
open PySem PySem.Spec PyProof.Rows
end L2
namespace L2
open PySem PySem.Spec PyProof.Rows
inductive Tr where
 | non | bl (b:Bool) | int (i:Int) | str (x:Str) | emp | tup (xs:List Tr) | lst (xs:List Tr)
mutual
def Rep (F:Addr->Prop)(H:Hp):Tr->V->Prop
 | .non,v=>v=.non
 | .bl b,v=>v=.bl b
 | .int i,v=>v=.int i
 | .str x,v=>v=.str x
 | .emp,v=>∃a,v=.ref a/\¬F a/\H a=some (.dK [])
 | .tup ts,v=>∃a ws,v=.ref a/\¬F a/\H a=some (.tup ws)/\z_ F H ts ws
 | .lst ts,v=>∃a ws,v=.ref a/\¬F a/\H a=some (.lst ws)/\z_ F H ts ws
def z_ (F:Addr->Prop)(H:Hp):List Tr->List V->Prop
 | [],ws=>ws=[]
 | t::ts,ws=>∃w r,ws=w::r/\Rep F H t w/\z_ F H ts r
end
theorem wG:∀ {ts:List Tr} {ws:List V},z_ F H ts ws↔Paired (Rep F H) ts ws
 | [],ws=>by
  constructor
  .intro h;cases (show ws=[] from h);exact .nil
  .intro h;cases h;rfl
 | t::ts,ws=>by
  constructor
  .rintro⟨w,r,rfl,h1,h2⟩;exact .cons h1 (wG.mp h2)
  .intro h;cases h with
   | cons h1 h2=>exact⟨_,_,rfl,h1,wG.mpr h2⟩
theorem z_.len (h:z_ F H ts ws):ts.length=ws.length:=xad (wG.mp h)
theorem z_.app (h:z_ F H ts ws)(h':z_ F H ts' ws'):z_ F H (ts++ts') (ws++ws'):=wG.mpr (rq (wG.mp h) (wG.mp h'))
theorem z_.get {F:Addr->Prop}{H:Hp}{ts:List Tr}{ws:List V}{i:Nat}{w:V}(h:z_ F H ts ws)(e:ws[i]? = some w):∃t,ts[i]? = some t/\Rep F H t w:=aT (wG.mp h) e
theorem z_.getT {F:Addr->Prop}{H:Hp}:∀ {ts:List Tr} {ws:List V} {i:Nat} {t:Tr},z_ F H ts ws->ts[i]? = some t->∃w,ws[i]? = some w/\Rep F H t w:=λ {ts ws i t} h e=>by
 have hl:=h.len;have hi:i<ws.length:=by have:=(xle.mp e).1;omega
 obtain⟨t',e',r⟩:=h.get (xlc hi);rw[e] at e';cases e';exact⟨_,xlc hi,r⟩
mutual
theorem yx (m:∀a o,H a=some o->¬F a->H' a=some o/\¬F' a):∀(t:Tr) (v:V),Rep F H t v->Rep F' H' t v
 | .non,v,h=>h
 | .bl b,v,h=>h
 | .int i,v,h=>h
 | .str x,v,h=>h
 | .emp,v,h=>by obtain⟨a,e,n,k⟩:=h;exact⟨a,e,(m a _ k n).2,(m a _ k n).1⟩
 | .tup ts,v,h=>by obtain⟨a,ws,e,n,k,r⟩:=h;exact⟨a,ws,e,(m a _ k n).2,(m a _ k n).1,yo m ts ws r⟩
 | .lst ts,v,h=>by obtain⟨a,ws,e,n,k,r⟩:=h;exact⟨a,ws,e,(m a _ k n).2,(m a _ k n).1,yo m ts ws r⟩
theorem yo (m:∀a o,H a=some o->¬F a->H' a=some o/\¬F' a):∀(ts:List Tr) (ws:List V),z_ F H ts ws->z_ F' H' ts ws
 | [],ws,h=>h
 | t::ts,ws,h=>by obtain⟨w,r,e,h1,h2⟩:=h;exact⟨w,r,e,yx m t w h1,yo m ts r h2⟩
end
def xac:Tr->Option V
 | .non=>some .non | .bl b=>some (.bl b) | .int i=>some (.int i) | .str x=>some (.str x) | _=>none
theorem qr (h:xac t=some v):Rep F H t v:=by
 cases t with
 | non=>cases h;rfl
 | bl b=>cases h;rfl
 | int i=>cases h;rfl
 | str x=>cases h;rfl
 | _=>cases h
inductive TV where
 | un | fz (t:Tr) | ow (ts:List Tr) | st | sc (ns:List Int) | ob (a:Addr) | od (ks:List (List Int×Tr))
abbrev TSt:=List TV
def nth:TSt->Nat->TV
 | [],_=>.un
 | x::_,0=>x
 | _::r,n+1=>nth r n
theorem jF:∀ {τ:TSt} {i:Nat} (h:i<τ.length),nth τ i=τ[i]
 | [],_,h=>absurd h (by simp)
 | _::_,0,_=>rfl
 | _::r,i+1,h=>jF (τ:=r) (by simpa using h)
theorem wB:∀ {τ:TSt} {i:Nat} (h:τ.length<=i),nth τ i=.un
 | [],_,_=>rfl
 | _::_,0,h=>absurd h (by simp)
 | _::r,i+1,h=>wB (τ:=r) (by simpa using h)
theorem yZ:∀ {τ:TSt} {i:Nat} {x:TV} (h:i<τ.length),nth (τ.set i x) i=x
 | [],_,_,h=>absurd h (by simp)
 | _::_,0,_,_=>rfl
 | _::r,i+1,x,h=>yZ (τ:=r) (by simpa using h)
theorem yA:∀ {τ:TSt} {i j:Nat} {x:TV} (h:j≠i),nth (τ.set i x) j=nth τ j
 | [],_,_,_,_=>rfl
 | _::_,0,0,_,h=>absurd rfl h
 | _::_,0,_+1,_,_=>rfl
 | _::_,_+1,0,_,_=>rfl
 | _::r,i+1,j+1,x,h=>yA (τ:=r) (λe=>h (by rw[e]))
structure FB where
 F0:Addr->Prop
 S0:Addr->Prop
 H0:Hp
 G0:List (Tr×V)
abbrev Phi:=Nat->Option Addr
def Av (B:FB)(φ:Phi)(a:Addr):Prop:=B.F0 a\/∃i,φ i=some a
def SA (B:FB)(φ:Phi)(τ:TSt)(a:Addr):Prop:=B.S0 a\/∃i,φ i=some a/\nth τ i=.st
def Wk (B:FB)(φ:Phi)(τ:TSt)(a:Addr):Prop:=B.F0 a\/SA B φ τ a
def AvB:Bool->FB->Phi->TSt->Addr->Prop
 | true,B,φ,_=>Av B φ
 | false,B,φ,τ=>Wk B φ τ
def tabOf (K:PySem.W.Frag)(x:Str):Option Addr:=match PySem.W.nsIn K mainGlobals x with
 | some (some (.ref f))=>(match K.lookup f with
  | some ⟨_,_,.func fd,_⟩=>(match fd.code with
   | .ref c=>(match K.lookup c with
    | some ⟨_,_,.fields vs,_⟩=>(match vs.toList.getD 11 Value.none with
     | Value.ref P=>(match K.lookup P with
      | none=>some P
      | some _=>none)
     | _=>none)
    | _=>none)
   | _=>none)
  | _=>none)
 | _=>none
def xiK (K:PySem.W.Frag):Option (Addr×Str):=match K.lookup 4 with
 | none=>none
 | some _=>match tabOf K "law" with
  | some P=>some (P, "law.<locals>.<lambda>")
  | none=>match tabOf K "_law_sides_right" with
   | some P=>some (P, "_law_sides_right.<locals>.<lambda>")
   | none=>none
def xeg (K:PySem.W.Frag)(H:Hp):Prop:=∀P q,xiK K=some (P,q)->H P=some (.tb q)
theorem xeg.none {K:PySem.W.Frag}{H:Hp}(h:xiK K=Option.none):xeg K H:=λP q e=>by rw[h] at e;cases e
def xdl (K:PySem.W.Frag)(H:Hp)(a:Addr)(ns:List Int):Prop:=((∃o,H a=some (.frz o (.lst (ns.map V.int))))\/∀H',SqL K H' a (ns.map V.int))/\xeg K H
def xjY (ns:List Int):Tr:=.tup (ns.map Tr.int)
def KvR (F:Addr->Prop)(H:Hp)(ks:List (List Int×Tr))(hk:List (List Key×V)):Prop:=Paired (λ(p:List Int×Tr) (q:List Key×V)=>q.1=p.1.map Sum.inl/\Rep F H p.2 q.2) ks hk
def Owd:TV->Prop
 | .ow _=>True
 | .od _=>True
 | _=>False
def Ent (K:PySem.W.Frag)(B:FB)(φ:Phi)(H:Hp)(i:Nat)(o:Option (Option V)):TV->Prop
 | .un=>True
 | .fz t=>∃v,o=some (some v)/\Rep (Av B φ) H t v
 | .ow ts=>∃a ws,o=some (some (.ref a))/\φ i=some a/\B.H0 a=none/\H a=some (.lst ws)/\z_ (Av B φ) H ts ws
 | .st=>∃p,o=some (some (.ref p))/\φ i=some p/\(B.S0 p\/B.H0 p=none)
 | .sc ns=>∃a,o=some (some (.ref a))/\ns.length<=63/\xdl K H a ns
 | .ob a=>o=some (some (.ref a))
 | .od ks=>∃a hk,o=some (some (.ref a))/\φ i=some a/\B.H0 a=none/\H a=some (.dT hk)/\KvR (Av B φ) H ks hk
structure RS (K:PySem.W.Frag)(B:FB)(φ:Phi)(σ:St)(τ:TSt)(H:Hp):Prop where
 f0:∀a,B.F0 a->B.H0 a≠none
 s0:∀a,B.S0 a->B.F0 a
 ext:∀a o,B.H0 a=some o->¬B.S0 a->H a=some o
 sst:∀a,SA B φ τ a->xao a H
 injG:∀i j a,Owd (nth τ i)->φ i=some a->φ j=some a->i=j
 ow:∀i a,φ i=some a->H a≠none
 len:σ.length=τ.length
 ent:∀i,Ent K B φ H i (σ[i]?) (nth τ i)
 gh:∀p∈B.G0,Rep (Av B φ) H p.1 p.2
structure HX (B:FB)(φ:Phi)(τ:TSt)(H H':Hp):Prop where
 keep:∀a o,H a=some o->¬SA B φ τ a->H' a=some o
 st:∀a,SA B φ τ a->xao a H'
section
variable {K:PySem.W.Frag} {B:FB} {φ:Phi} {σ:St} {τ:TSt} {H H' H'':Hp}
theorem RS.inj (R:RS K B φ σ τ H)(i j:Nat)(a:Addr)(ts:List Tr)(h:nth τ i=.ow ts):φ i=some a->φ j=some a->i=j:=R.injG i j a (by rw[h];trivial)
theorem xao.ne_none (h:xao p H):H p≠none:=by obtain⟨n,b,e,_⟩:=h;rw[e];exact λz=>nomatch z
theorem RS.sAv (R:RS K B φ σ τ H)(h:SA B φ τ a):Av B φ a:=by
 rcases h with h | ⟨i,h,_⟩
 .exact .inl (R.s0 a h)
 .exact .inr ⟨i,h⟩
theorem RS.wAv (R:RS K B φ σ τ H)(h:Wk B φ τ a):Av B φ a:=by
 rcases h with h | h
 .exact .inl h
 .exact R.sAv h
theorem RS.sB (R:RS K B φ σ τ H)(h:SA B φ τ a):AvB b B φ τ a:=by
 cases b with
 | true=>exact R.sAv h
 | false=>exact .inr h
theorem RS.dom (R:RS K B φ σ τ H)(h:Av B φ a):H a≠none:=by
 rcases h with h | ⟨i,h⟩
 .by_cases s:B.S0 a
  .exact(R.sst a (.inl s)).ne_none
  .cases e:B.H0 a with
   | none=>exact absurd e (R.f0 a h)
   | some o=>rw[R.ext a o e s];exact λz=>nomatch z
 .exact R.ow i a h
theorem RS.domB (R:RS K B φ σ τ H)(h:AvB b B φ τ a):H a≠none:=by
 cases b with
 | true=>exact R.dom h
 | false=>exact R.dom (R.wAv h)
theorem HX.refl (R:RS K B φ σ τ H):HX B φ τ H H:=⟨λ_ _ h _=>h,R.sst⟩
theorem HX.trans (h:HX B φ τ H H')(h':HX B φ τ H' H''):HX B φ τ H H'':=⟨λa o e n=>h'.keep a o (h.keep a o e n) n,h'.st⟩
theorem HX.none (h:HX B φ τ H H')(e:H' a=none):H a=none:=by
 cases q:H a with
 | none=>rfl
 | some o =>
  by_cases s:SA B φ τ a
  .exact absurd e (h.st a s).ne_none
  .rw[h.keep a o q s] at e;cases e
theorem HX.new (R:RS K B φ σ τ H)(hp:H p=Option.none)(o:HO):HX B φ τ H (upd H p o) :=
 ⟨λa u e _=>by rw[xJ (xD e hp)];exact e,λa s=>by obtain⟨n,b,e,z⟩:=R.sst a s;exact⟨n,b,by rw[xJ (xD e hp)];exact e,z⟩⟩
theorem HX.rep (h:HX B φ τ H H')(hF:∀a,SA B φ τ a->F a)(r:Rep F H t v):Rep F H' t v:=yx (λa o e n=>⟨h.keep a o e (λs=>n (hF a s)),n⟩) t v r
theorem HX.repL (h:HX B φ τ H H')(hF:∀a,SA B φ τ a->F a)(r:z_ F H t v):z_ F H' t v:=yo (λa o e n=>⟨h.keep a o e (λs=>n (hF a s)),n⟩) t v r
theorem rL (R:RS K B φ σ τ H)(e:H a=some (.frz o u)):¬SA B φ τ a:=λs=>by obtain⟨n,b,q,_⟩:=R.sst a s;rw[e] at q;cases q
theorem xfu (R:RS K B φ σ τ H)(e:H a=some (.tb q)):¬SA B φ τ a:=λs=>by obtain⟨n,b,y,_⟩:=R.sst a s;rw[e] at y;cases y
theorem xeg.hx (t:xeg K H)(R:RS K B φ σ τ H)(h:HX B φ τ H H'):xeg K H':=λP q e=>h.keep P _ (t P q e) (xfu R (t P q e))
theorem RS.hx (R:RS K B φ σ τ H)(h:HX B φ τ H H'):RS K B φ σ τ H' where
 f0:=R.f0
 s0:=R.s0
 ext:=λa o e n=>by
  by_cases s:SA B φ τ a
  .have q:=R.ext a o e n;rcases s with s | ⟨i,s,hi⟩
   .exact absurd s n
   .have en:=R.ent i;rw[hi] at en;obtain⟨p,_,e2,e3⟩:=en;rw[s] at e2;cases e2;rcases e3 with z | z
    .exact absurd z n
    .rw[z] at e;cases e
  .exact h.keep a o (R.ext a o e n) s
 sst:=h.st
 injG:=R.injG
 ow:=λi a e z=>R.ow i a e (h.none z)
 len:=R.len
 ent:=λi=>by
  have en:=R.ent i;revert en;cases hi:nth τ i with
  | un=>exact λ_=>trivial
  | fz t=>exact λ⟨v,e,r⟩=>⟨v,e,h.rep (λa s=>R.sAv s) r⟩
  | ow ts =>
   intro ⟨a,ws,e1,e2,e3,e4,r⟩;refine⟨a,ws,e1,e2,e3,?_,h.repL (λa s=>R.sAv s) r⟩;by_cases s:SA B φ τ a
   .rcases s with s | ⟨j,s,hj⟩
    .exact absurd e3 (R.f0 a (R.s0 a s))
    .have:=R.inj i j a ts hi e2 s;subst this;rw[hi] at hj;cases hj
   .exact h.keep a _ e4 s
  | st=>exact λz=>z
  | ob a=>exact λz=>z
  | od ks =>
   intro ⟨a,hk,e1,e2,e3,e4,r⟩;refine⟨a,hk,e1,e2,e3,?_,Paired.mapP r λp q z=>⟨z.1,h.rep (λa s=>R.sAv s) z.2⟩⟩;by_cases s:SA B φ τ a
   .rcases s with s | ⟨j,s,hj⟩
    .exact absurd e3 (R.f0 a (R.s0 a s))
    .have:=R.injG i j a (by rw[hi];trivial) e2 s;subst this;rw[hi] at hj;cases hj
   .exact h.keep a _ e4 s
  | sc ns =>
   intro ⟨a,e,l,q,tb⟩;refine⟨a,e,l,?_,tb.hx R h⟩;rcases q with ⟨o,q⟩ | q
   .exact .inl ⟨o,h.keep a _ q (rL R q)⟩
   .exact .inr q
 gh:=λp hp=>h.rep (λa s=>R.sAv s) (R.gh p hp)
end
end L2
namespace L2
open PySem PySem.Spec PyProof.Rows
abbrev DE:=TSt->(Tr->Prop)->Prop
abbrev DT:=TSt->(Bool->Prop)->Prop
abbrev DA:=TSt->(List Tr->Prop)->Prop
structure lM where
 nx:TSt->Prop
 rt:Tr->Prop
 bk:TSt->Prop:=λ_=>False
 ct:TSt->Prop:=λ_=>False
abbrev DS:=lM->TSt->Prop
abbrev DG:=Tr->TSt->(TSt->Prop)->Prop
abbrev DGs:=List Tr->TSt->(TSt->Prop)->Prop
def OkE (K:PySem.W.Frag)(b:Bool)(te:TE)(d:DE):Prop:=∀(B:FB) (φ:Phi) (σ:St) (τ:TSt) (H:Hp) (Q:VK) (KK:Tr->Prop),RS K B φ σ τ H->d τ KK ->
 (∀t v H',HX B φ τ H H'->KK t->Rep (AvB b B φ τ) H' t v->Q v H')->te σ H Q
def OkF (K:PySem.W.Frag)(te:TE)(d:DE):Prop:=∀(B:FB) (φ:Phi) (σ:St) (τ:TSt) (H:Hp) (Q:VK) (KK:Tr->Prop),RS K B φ σ τ H->d τ KK ->
 (∀ts a ws H',HX B φ τ H H'->KK (.lst ts)->H a=none->H' a=some (.lst ws)->z_ (λc=>Av B φ c\/c=a) H' ts ws->Q (.ref a) H')->te σ H Q
def OkT (K:PySem.W.Frag)(t:TT)(d:DT):Prop:=∀(B:FB) (φ:Phi) (σ:St) (τ:TSt) (H:Hp) (Q:Bool->Hp->Prop) (KK:Bool->Prop),RS K B φ σ τ H->d τ KK ->
 (∀b H',HX B φ τ H H'->KK b->Q b H')->t σ H Q
def OkA (K:PySem.W.Frag)(b:Bool)(n:Nat)(ta:TA)(d:DA):Prop:=∀(B:FB) (φ:Phi) (σ:St) (τ:TSt) (H:Hp) (Q:List V->Hp->Prop) (KK:List Tr->Prop),RS K B φ σ τ H->d τ KK ->
 (∀ts vs H',HX B φ τ H H'->KK ts->ts.length=n->z_ (AvB b B φ τ) H' ts vs->Q vs H')->ta σ H Q
def HXA (B:FB)(φ:Phi)(H H':Hp):Prop:=∀a o,H a=some o->¬Av B φ a->H' a=some o
def OkG (K:PySem.W.Frag)(g:TG)(d:DG):Prop:=∀(B:FB) (φ:Phi) (σ:St) (τ:TSt) (H:Hp) (t:Tr) (v:V) (Q:St->Hp->Prop) (KK:TSt->Prop),RS K B φ σ τ H->Rep (Av B φ) H t v->d t τ KK ->
 (∀ φ' σ' τ' H',RS K B φ' σ' τ' H'->(∀a,Av B φ' a->Av B φ a)->HXA B φ H H'->KK τ'->Q σ' H')->g v σ H Q
def xhR (K:PySem.W.Frag)(g:TGs)(d:DGs):Prop:=∀(B:FB) (φ:Phi) (σ:St) (τ:TSt) (H:Hp) (t:List Tr) (v:List V) (Q:St->Hp->Prop) (KK:TSt->Prop),RS K B φ σ τ H->z_ (Av B φ) H t v->d t τ KK ->
 (∀ φ' σ' τ' H',RS K B φ' σ' τ' H'->(∀a,Av B φ' a->Av B φ a)->HXA B φ H H'->KK τ'->Q σ' H')->g v σ H Q
def FrL (F:Addr->Prop)(H H':Hp)(t:Tr)(v:V):Prop:=∃a ts ws,v=.ref a/\t=.lst ts/\H a=none/\H' a=some (.lst ws)/\z_ (λc=>F c\/c=a) H' ts ws
structure xjz (B:FB)(H:Hp):Prop where
 ext:∀a o,B.H0 a=some o->¬B.S0 a->H a=some o
 st:∀a,B.S0 a->xao a H
structure EOk (K:PySem.W.Frag)(B:FB)(fr:Bool)(E:Ends)(G:lM):Prop where
 nx:∀ φ σ τ H,RS K B φ σ τ H->G.nx τ->E.nx σ H
 bk:∀ φ σ τ H,RS K B φ σ τ H->G.bk τ->E.bk σ H
 ct:∀ φ σ τ H,RS K B φ σ τ H->G.ct τ->E.ct σ H
 rt:∀t v H,Rep B.F0 H t v->xjz B H->G.rt t->(fr=true->FrL B.F0 B.H0 H t v)->E.rt v H
def OkS (K:PySem.W.Frag)(fr:Bool)(T:TS)(D:DS):Prop:=∀(B:FB) (φ:Phi) (σ:St) (τ:TSt) (H:Hp) (E:Ends) (G:lM),RS K B φ σ τ H->D G τ->EOk K B fr E G->T E σ H
section
variable {K:PySem.W.Frag} {B:FB} {φ:Phi} {σ:St} {τ:TSt} {H H' H'':Hp}
theorem RS.extB (R:RS K B φ σ τ H):xjz B H:=⟨R.ext,λa s=>R.sst a (.inl s)⟩
theorem xjg (R:RS K B φ σ τ H)(h:Rep (AvB b B φ τ) H' t v):Rep (Wk B φ τ) H' t v:=by
 cases b with
 | true=>exact yx (λa o e n=>⟨e,λw=>n (R.wAv w)⟩) t v h
 | false=>exact h
theorem xiy (R:RS K B φ σ τ H)(h:z_ (AvB b B φ τ) H' t v):z_ (Wk B φ τ) H' t v:=by
 cases b with
 | true=>exact yo (λa o e n=>⟨e,λw=>n (R.wAv w)⟩) t v h
 | false=>exact h
theorem OkF.e (h:OkF K te d):OkE K true te d:=λB φ σ τ H Q KK R hd q=>h B φ σ τ H Q KK R hd λts a ws H' x k e e' r=>q _ _ H' x k ⟨a,ws,rfl,λz=>R.dom z e,e',yo (λc o e n=>⟨e,λz=>n (.inl z)⟩) _ _ r⟩
def xga (i:Nat):DE:=λ τ KK=>match nth τ i with | .fz t=>KK t | _=>False
def xhm (i:Nat):DE:=λ τ KK=>match nth τ i with | .fz t=>KK t | .ow ts=>KK (.lst ts) | _=>False
def dC (t:Tr):DE:=λ_ KK=>KK t
theorem xa:OkE K true (rO i) (xga i):=λB φ σ τ H Q KK R hd q=>by
 have en:=R.ent i;unfold xga at hd;revert en hd;cases nth τ i with
 | fz t=>exact λk ⟨v,e,r⟩=>⟨v,e,q t v H (HX.refl R) k r⟩
 | _=>exact λz _=>z.elim
theorem oH (R:RS K B φ σ τ H)(hi:nth τ i=.ow ts)(e2:φ i=some a)(e3:B.H0 a=none):¬Wk B φ τ a:=λz=>by
 rcases z with z | z | ⟨j,z,hj⟩
 .exact R.f0 a z e3
 .exact R.f0 a (R.s0 a z) e3
 .have:=R.inj i j a ts hi e2 z;subst this;rw[hi] at hj;cases hj
theorem xbI:OkE K false (rO i) (xhm i):=λB φ σ τ H Q KK R hd q=>by
 have en:=R.ent i;unfold xhm at hd;revert en hd;cases hi:nth τ i with
 | fz t=>exact λk ⟨v,e,r⟩=>⟨v,e,q t v H (HX.refl R) k (xjg (b:=true) R r)⟩
 | ow ts =>intro k ⟨a,ws,e1,e2,e3,e4,r⟩;exact⟨_,e1,q _ _ H (HX.refl R) k ⟨a,ws,rfl,oH R hi e2 e3,e4,xiy (b:=true) R r⟩⟩
 | _=>exact λz _=>z.elim
theorem xdp (h:xac t=some v:=by rfl):OkE K true (tC v) (dC t):=λB φ σ τ H Q KK R hd q=>q t v H (HX.refl R) hd (qr h)
def d2 (f:Tr->Tr->(Tr->Prop)->Prop)(da db:DE):DE:=λ τ KK=>da τ λx=>db τ λy=>f x y KK
def OpS (r:R2)(f:Tr->Tr->(Tr->Prop)->Prop):Prop:=∀(F G:Addr->Prop) (H:Hp) (x y:V) (t u:Tr) (KK:Tr->Prop) (Q:VK),Rep F H t x->Rep G H u y->f t u KK->(∀w v,xac w=some v->KK w->Q v H)->r x y H Q
theorem xl (hr:OpS r f)(ha:OkE K b ta da)(hb:OkE K c tb db):OkE K true (tOp r ta tb) (d2 f da db):=λB φ σ τ H Q KK R hd q =>
 ha B φ σ τ H _ _ R hd λt v H1 x1 k1 r1=>hb B φ σ τ H1 _ _ (R.hx x1) k1 λu w H2 x2 k2 r2 =>hr _ _ H2 v w t u KK Q (x2.rep (λa s=>R.sB s) r1) r2 k2 λz v' e k=>q z v' H2 (x1.trans x2) k (qr e)
def fI (C:Int->Int->Prop)(g:Int->Int->Tr)(x y:Tr)(KK:Tr->Prop):Prop:=match x,y with | .int i,.int j=>C i j/\KK (g i j) | _,_=>False
def fI0 (g:Int->Int->Tr)(x y:Tr)(KK:Tr->Prop):Prop:=match x,y with | .int i,.int j=>KK (g i j) | _,_=>False
theorem xfC (h:∀i j,xac (g' i j)=some (g i j)):OpS (rI C g) (fI C g'):=by
 intro F G H x y t u KK Q r1 r2 hf q;unfold fI at hf;split at hf
 .rename_i i j;cases (show x=.int i from r1);cases (show y=.int j from r2);exact⟨i,j,rfl,rfl,hf.1,q _ _ (h i j) hf.2⟩
 .exact hf.elim
theorem p8 (h:∀i j,xac (g' i j)=some (g i j)):OpS (rI0 g) (fI0 g'):=by
 intro F G H x y t u KK Q r1 r2 hf q;unfold fI0 at hf;split at hf
 .rename_i i j;cases (show x=.int i from r1);cases (show y=.int j from r2);exact⟨i,j,rfl,rfl,q _ _ (h i j) hf⟩
 .exact hf.elim
abbrev xjS:=fI0 λi j=>.int (i+j)
abbrev xjD:=fI0 λi j=>.int (i-j)
abbrev fLe:=fI0 λi j=>.bl (decide (i<=j))
abbrev fGt:=fI0 λi j=>.bl (decide (j<i))
theorem uJ:OpS (rI0 λi j=>.int (i+j)) xjS:=p8 λ_ _=>rfl
theorem zZ:OpS (rI0 λi j=>.int (i-j)) xjD:=p8 λ_ _=>rfl
theorem h_:OpS (rI0 λi j=>.bl (decide (i<=j))) fLe:=p8 λ_ _=>rfl
theorem xae:OpS (rI0 λi j=>.bl (decide (j<i))) fGt:=p8 λ_ _=>rfl
def Bd (i:Int):Prop:=i.natAbs<2 ^ 2000
theorem cq (h1:-(10 ^ 100)<=i)(h2:i<=10 ^ 100):Bd i:=by
 have:i.natAbs<=10 ^ 100:=by omega
 exact xmh this (by decide +kernel)
theorem log2_lt_of (h:n<2 ^ k)(hk:0<k):n.log2<k:=by
 by_cases h0:n=0
 .subst h0;simpa using hk
 .exact(Nat.log2_lt h0).mpr h
theorem Bd.bits (h:Bd i):Builtin.Int.intBits i<=2000:=by
 unfold Builtin.Int.intBits;split
 .exact xms _
 .have:=log2_lt_of h (by decide);omega
def CM (i j:Int):Prop:=Bd i/\Bd j
theorem CM.ok (h:CM i j):IntMulOk i j:=PyProof.Rows.mulOk_of_bits h.1.bits h.2.bits (by decide)
section
variable {X:Cx}
theorem xK:OpR X (binaryOp .Mult) (rI CM λi j=>.int (i*j)):=opI λ_ _ _ _ _ _ _ hc q=>mul_int q hc.ok
def CDv (_i j:Int):Prop:=j≠0/\Bd j
theorem zI:OpR X (binaryOp .FloorDiv) (rI CDv λi j=>.int (i.fdiv j)):=opI λi j _ _ _ _ _ hc q =>floordiv_int hc.1 q (.inl (PyProof.noPylong_of_log2 (Nat.lt_trans (log2_lt_of hc.2 (by decide)) (by decide))))
end
abbrev xjE:=fI CM λi j=>.int (i*j)
abbrev xjK:=fI CDv λi j=>.int (i.fdiv j)
abbrev xjT:=fI (λ_ j=>j≠0) λi j=>.int (i.fmod j)
theorem yg:OpS (rI CM λi j=>.int (i*j)) xjE:=xfC λ_ _=>rfl
theorem uy:OpS (rI CDv λi j=>.int (i.fdiv j)) xjK:=xfC λ_ _=>rfl
theorem xd4:OpS (rI (λ_ j=>j≠0) λi j=>.int (i.fmod j)) xjT:=xfC λ_ _=>rfl
def d1 (f:Tr->(Tr->Prop)->Prop)(da:DE):DE:=λ τ KK=>da τ λx=>f x KK
def xj0 (x:Tr)(KK:Tr->Prop):Prop:=match x with | .int i=>KK (.int (-i)) | _=>False
theorem zh (ha:OkE K b ta da):OkE K true (tUn (rU λi=>.int (-i)) ta) (d1 xj0 da):=λB φ σ τ H Q KK R hd q =>
 ha B φ σ τ H _ _ R hd λt v H1 x1 k1 r1=>by
  cases t with
  | int i=>cases (show v=.int i from r1);exact⟨i,rfl,q _ _ H1 x1 k1 rfl⟩
  | _=>exact k1.elim
def xfb:Tr->Bool
 | .non=>true
 | _=>false
theorem bM (r:Rep F H t v):decide (v=.non)=xfb t:=by
 cases t with
 | non=>cases (show v=.non from r);rfl
 | bl b=>cases (show v=.bl b from r);rfl
 | int b=>cases (show v=.int b from r);rfl
 | str b=>cases (show v=.str b from r);rfl
 | emp=>obtain⟨a,e,_⟩:=r;subst e;rfl
 | tup ts=>obtain⟨a,ws,e,_⟩:=r;subst e;rfl
 | lst ts=>obtain⟨a,ws,e,_⟩:=r;subst e;rfl
theorem rm (ha:OkE K b ta da):OkE K true (xi6 ta) (d1 (λx KK=>KK (.bl (xfb x))) da):=λB φ σ τ H Q KK R hd q =>
 ha B φ σ τ H _ _ R hd λt v H1 x1 k1 r1=>by show Q (.bl (decide (v=.non))) H1;rw[bM r1];exact q _ _ H1 x1 k1 rfl
theorem rC (ha:OkE K b ta da):OkE K true (xha ta) (d1 (λx KK=>KK (.bl (!xfb x))) da):=λB φ σ τ H Q KK R hd q =>
 ha B φ σ τ H _ _ R hd λt v H1 x1 k1 r1=>by show Q (.bl (!decide (v=.non))) H1;rw[bM r1];exact q _ _ H1 x1 k1 rfl
def fB (x:Tr)(KK:Bool->Prop):Prop:=match x with | .bl b=>KK b | _=>False
def xjd (d:DE):DT:=λ τ KK=>d τ λx=>fB x KK
theorem za (ha:OkE K b ta da):OkT K (tB ta) (xjd da):=λB φ σ τ H Q KK R hd q =>
 ha B φ σ τ H _ _ R hd λt v H1 x1 k1 r1=>by
  cases t with
  | bl i=>cases (show v=.bl i from r1);exact⟨i,rfl,q _ H1 x1 k1⟩
  | _=>exact k1.elim
theorem xG (ha:OkE K b ta da):OkT K (xfr ta) (xjd da):=za ha
def xjF (a b:DT):DT:=λ τ KK=>a τ λc=>if c=true then b τ KK else KK false
def dOr (a b:DT):DT:=λ τ KK=>a τ λc=>if c=true then KK true else b τ KK
def xjO (a:DT):DT:=λ τ KK=>a τ λc=>KK (!c)
theorem jr (ha:OkT K ta da)(hb:OkT K tb db):OkT K (xjn ta tb) (xjF da db):=λB φ σ τ H Q KK R hd q =>
 ha B φ σ τ H _ _ R hd λc H1 x1 k1=>by
  cases c with
  | true=>exact xbM (hb B φ σ τ H1 _ _ (R.hx x1) k1 λd H2 x2 k2=>q d H2 (x1.trans x2) k2)
  | false=>exact xam (q false H1 x1 k1)
theorem uZ (ha:OkT K ta da)(hb:OkT K tb db):OkT K (tOr ta tb) (dOr da db):=λB φ σ τ H Q KK R hd q =>
 ha B φ σ τ H _ _ R hd λc H1 x1 k1=>by
  cases c with
  | false=>exact xam (hb B φ σ τ H1 _ _ (R.hx x1) k1 λd H2 x2 k2=>q d H2 (x1.trans x2) k2)
  | true=>exact xbM (q true H1 x1 k1)
theorem wk (ha:OkT K ta da):OkT K (xiT ta) (xjO da):=λB φ σ τ H Q KK R hd q =>ha B φ σ τ H _ _ R hd λc H1 x1 k1=>q (!c) H1 x1 k1
def xiG (a b:DE):DE:=λ τ KK=>a τ λx=>fB x λc=>if c=true then b τ KK else KK (.bl false)
def xj1 (a b:DE):DE:=λ τ KK=>a τ λx=>fB x λc=>if c=true then KK (.bl true) else b τ KK
def xid (a:DE):DE:=λ τ KK=>a τ λx=>fB x λc=>KK (.bl (!c))
theorem cW (ha:OkE K b ta da)(hb:OkE K c tb db):OkE K c (xhJ ta tb) (xiG da db):=λB φ σ τ H Q KK R hd q =>
 ha B φ σ τ H _ _ R hd λt v H1 x1 k1 r1=>by
  cases t with
  | bl i =>
   cases (show v=.bl i from r1);refine⟨i,rfl,?_⟩;cases i with
   | true=>exact xbM (hb B φ σ τ H1 _ _ (R.hx x1) k1 λd w H2 x2 k2 r2=>q d w H2 (x1.trans x2) k2 r2)
   | false=>exact xam (q _ _ H1 x1 k1 (qr rfl))
  | _=>exact k1.elim
theorem p6 (ha:OkE K b ta da)(hb:OkE K c tb db):OkE K c (xjm ta tb) (xj1 da db):=λB φ σ τ H Q KK R hd q =>
 ha B φ σ τ H _ _ R hd λt v H1 x1 k1 r1=>by
  cases t with
  | bl i =>
   cases (show v=.bl i from r1);refine⟨i,rfl,?_⟩;cases i with
   | false=>exact xam (hb B φ σ τ H1 _ _ (R.hx x1) k1 λd w H2 x2 k2 r2=>q d w H2 (x1.trans x2) k2 r2)
   | true=>exact xbM (q _ _ H1 x1 k1 (qr rfl))
  | _=>exact k1.elim
theorem xf4 (ha:OkE K b ta da):OkE K true (xgV ta) (xid da):=λB φ σ τ H Q KK R hd q =>
 ha B φ σ τ H _ _ R hd λt v H1 x1 k1 r1=>by
  cases t with
  | bl i=>cases (show v=.bl i from r1);exact⟨i,rfl,q _ _ H1 x1 k1 rfl⟩
  | _=>exact k1.elim
def xho (f f':Tr->Tr->(Tr->Prop)->Prop)(da db dc:DE):DE:=λ τ KK=>da τ λx=>db τ λy=>f x y λz=>fB z λk=>if k=true then dc τ λw=>f' y w KK else KK (.bl false)
theorem oM (hr:OpS r f)(hr':OpS r' f')(ha:OkE K b1 ta da)(hb:OkE K b2 tb db)(hc:OkE K b3 tc dc) :
  OkE K true (xeL r r' ta tb tc) (xho f f' da db dc):=λB φ σ τ H Q KK R hd q =>
 ha B φ σ τ H _ _ R hd λt v H1 x1 k1 r1=>hb B φ σ τ H1 _ _ (R.hx x1) k1 λu w H2 x2 k2 r2 =>
  hr _ _ H2 v w t u _ _ (x2.rep (λa s=>R.sB s) r1) r2 k2 λz v' e k=>by
   cases z with
   | bl i =>
    cases e;refine⟨i,rfl,?_⟩;cases i with
    | true=>exact xbM (hc B φ σ τ H2 _ _ (R.hx (x1.trans x2)) k λw3 v3 H3 x3 k3 r3=>hr' _ _ H3 w v3 u w3 KK Q (x3.rep (λa s=>R.sB s) r2) r3 k3 λz' v'' e' k'=>q z' v'' H3 ((x1.trans x2).trans x3) k' (qr e'))
    | false=>exact xam (q _ _ H2 (x1.trans x2) k (qr rfl))
   | _=>exact k.elim
def xhx:DA:=λ_ KK=>KK []
def lS (a:DE)(r:DA):DA:=λ τ KK=>a τ λx=>r τ λxs=>KK (x::xs)
theorem zW:OkA K b 0 xah xhx:=λB φ σ τ H Q KK R hd q=>q [] [] H (HX.refl R) hd rfl rfl
theorem yb (he:OkE K b te de)(ha:OkA K b n ta da):OkA K b (n+1) (qA te ta) (lS de da):=λB φ σ τ H Q KK R hd q =>he B φ σ τ H _ _ R hd λt v H1 x1 k1 r1=>ha B φ σ τ H1 _ _ (R.hx x1) k1 λts vs H2 x2 k2 l2 r2=>q (t::ts) (v::vs) H2 (x1.trans x2) k2 (by rw[xlm,l2]) ⟨v,vs,rfl,x2.rep (λa s=>R.sB s) r1,r2⟩
def xjL (a:DA):DE:=λ τ KK=>a τ λxs=>KK (.tup xs)
def xh8 (a:DA):DE:=λ τ KK=>a τ λxs=>KK (.lst xs)
theorem rX (hp:H p=none)(r:Rep F H t v):Rep F (upd H p o) t v:=yx (λa u e n=>⟨by rw[xJ (xD e hp)];exact e,n⟩) t v r
theorem uw (hp:H p=none)(r:z_ F H t v):z_ F (upd H p o) t v:=yo (λa u e n=>⟨by rw[xJ (xD e hp)];exact e,n⟩) t v r
theorem vt (hp:H p=none)(r:z_ F H t v):z_ (λc=>F c\/c=p) (upd H p o) t v:=yo (λa u e n=>⟨by rw[xJ (xD e hp)];exact e,λz=>z.elim n (xD e hp)⟩) t v r
theorem yh (ha:OkA K b n ta da)(hn:n<=sizeLine:=by decide):OkE K b (xiU ta) (xjL da):=λB φ σ τ H Q KK R hd q =>
 ha B φ σ τ H _ _ R hd λts vs H1 x1 k1 l1 r1=>⟨by rw[<-r1.len,l1];exact hn,λp hp =>q _ _ _ (x1.trans (HX.new (R.hx x1) hp _)) k1 ⟨p,vs,rfl,λz=>(R.hx x1).domB z hp,xV,uw hp r1⟩⟩
theorem kE (ha:OkA K true n ta da)(hn:n<=sizeLine:=by decide):OkF K (xh6 ta) (xh8 da):=λB φ σ τ H Q KK R hd q =>
 ha B φ σ τ H _ _ R hd λts vs H1 x1 k1 l1 r1=>⟨by rw[<-r1.len,l1];exact hn,λp hp =>q ts p vs _ (x1.trans (HX.new (R.hx x1) hp _)) k1 (x1.none hp) xV (vt hp r1)⟩
theorem uK (ha:OkA K b n ta da)(hn:n<=sizeLine:=by decide):OkE K b (xh6 ta) (xh8 da):=λB φ σ τ H Q KK R hd q =>
 ha B φ σ τ H _ _ R hd λts vs H1 x1 k1 l1 r1=>⟨by rw[<-r1.len,l1];exact hn,λp hp =>q _ _ _ (x1.trans (HX.new (R.hx x1) hp _)) k1 ⟨p,vs,rfl,λz=>(R.hx x1).domB z hp,xV,uw hp r1⟩⟩
end
end L2
namespace L2
open PySem PySem.Spec PyProof.Rows
def getT:List α->Nat->Option α
 | [],_=>none
 | x::_,0=>some x
 | _::r,n+1=>getT r n
theorem hZ:∀(l:List α) (n:Nat),getT l n=l[n]?
 | [],_=>by simp[getT]
 | _::_,0=>by simp[getT]
 | _::r,n+1=>by simp[getT,hZ r n]
def atT (ts:List α):Int->Option α
 | .ofNat n=>getT ts n
 | .negSucc n=>if n<ts.length then getT ts (ts.length-1-n) else none
theorem xeF (ts:List α)(i:Int):atT ts i=atI ts i:=by
 unfold atI ixN;cases i with
 | ofNat n =>
  show getT ts n=_;rw[hZ];have h0:(0:Int)<=Int.ofNat n:=Int.natCast_nonneg n;rw[if_pos h0];by_cases h:(Int.ofNat n)<(ts.length:Int)
  .rw[if_pos h];rfl
  .rw[if_neg h];have:ts.length<=n:=by have h':¬((n:Int)<(ts.length:Int)):=h;omega
   rw[xld this];rfl
 | negSucc n =>
  show(if n<ts.length then getT ts (ts.length-1-n) else none)=_;have h0:¬(0:Int)<=Int.negSucc n:=by omega
  rw[if_neg h0];by_cases h:n<ts.length
  .rw[if_pos h,hZ,if_pos (by omega)];show ts[ts.length-1-n]? = ts[(Int.negSucc n+(ts.length:Int)).toNat]?;congr 1;omega
  .rw[if_neg h,if_neg (by omega)];rfl
section
variable {K:PySem.W.Frag} {B:FB} {φ:Phi} {σ:St} {τ:TSt} {H H' H'':Hp}
theorem z_.at (r:z_ F H ts ws)(h:atT ts i=some t):∃w,atI ws i=some w/\Rep F H t w:=by
 rw[xeF] at h;unfold atI at h ⊢;rw[<-r.len];cases e:ixN ts.length i with
 | none=>rw[e] at h;cases h
 | some j =>rw[e] at h;exact r.getT h
def sS (o:Option Tr)(KK:Tr->Prop):Prop:=match o with | some t=>KK t | none=>False
def fIx (x y:Tr)(KK:Tr->Prop):Prop:=match x,y with | .tup ts,.int i=>sS (atT ts i) KK | .lst ts,.int i=>sS (atT ts i) KK | _,_=>False
theorem uc (ha:OkE K b ta da)(hb:OkE K c tb db):OkE K b (tOp (rIx K) ta tb) (d2 fIx da db):=λB φ σ τ H Q KK R hd q =>
 ha B φ σ τ H _ _ R hd λt v H1 x1 k1 r1=>hb B φ σ τ H1 _ _ (R.hx x1) k1 λu w H2 x2 k2 r2=>by
  have r1':=x2.rep (λa s=>R.sB s) r1;unfold fIx at k2;split at k2
  .rename_i ts i;obtain⟨a,ws,e,n,ha',rl⟩:=r1';cases (show w=.int i from r2);subst e;cases e:atT ts i with
   | none=>rw[e] at k2;exact k2.elim
   | some z =>rw[e] at k2;obtain⟨y,e1,e2⟩:=rl.at e;exact .inr (.inl ⟨a,ws,i,y,rfl,rfl,SqT.of ha',e1,q z y H2 (x1.trans x2) k2 e2⟩)
  .rename_i ts i;obtain⟨a,ws,e,n,ha',rl⟩:=r1';cases (show w=.int i from r2);subst e;cases e:atT ts i with
   | none=>rw[e] at k2;exact k2.elim
   | some z =>rw[e] at k2;obtain⟨y,e1,e2⟩:=rl.at e;exact .inl ⟨a,ws,i,y,rfl,rfl,SqL.of ha',e1,q z y H2 (x1.trans x2) k2 e2⟩
  .exact k2.elim
def xjP (ts:List Tr)(y:Tr)(KK:Tr->Prop):Prop:=match y with | .int k=>sS (atT ts k) KK | _=>False
def xjp (i:Nat)(db:DE):DE:=λ τ KK=>match nth τ i with | .ow ts=>db τ λy=>xjP ts y KK | _=>False
theorem fV (R:RS K B φ σ τ H)(x:HX B φ τ H H')(hi:nth τ i=.ow ts)(e1:σ[i]? = some (some (.ref a))):∃ws,H' a=some (.lst ws)/\z_ (Av B φ) H' ts ws/\φ i=some a/\B.H0 a=none:=by have en2:=(R.hx x).ent i;rw[hi] at en2;obtain⟨a',ws',e1',e2,e3,e4',r'⟩:=en2;rw[e1] at e1';cases e1';exact⟨ws',e4',r',e2,e3⟩
theorem rz (hb:OkE K c tb db):OkE K true (tOp (rIx K) (rO i) tb) (xjp i db):=λB φ σ τ H Q KK R hd q=>by
 have en:=R.ent i;unfold xjp at hd;revert en hd;cases hi:nth τ i with
 | ow ts =>
  intro hd ⟨a,ws,e1,e2,e3,e4,r⟩;refine⟨_,e1,hb B φ σ τ H _ _ R hd λu w H2 x2 k2 r2=>?_⟩;obtain⟨ws',e4',r',_⟩:=fV R x2 hi e1;cases u with
  | int k =>
   cases (show w=.int k from r2);have k2:sS (atT ts k) KK:=k2;cases e:atT ts k with
   | none=>rw[e] at k2;exact k2.elim
   | some z =>rw[e] at k2;obtain⟨y,f1,f2⟩:=r'.at e;exact .inl ⟨a,ws',k,y,rfl,rfl,SqL.of e4',f1,q z y H2 x2 k2 f2⟩
  | _=>exact k2.elim
 | _=>exact λz _=>z.elim
abbrev DO:=TSt->(Option Int->Prop)->Prop
def OkO (K:PySem.W.Frag)(t:TO)(d:DO):Prop:=∀(B:FB) (φ:Phi) (σ:St) (τ:TSt) (H:Hp) (Q:Option Int->Hp->Prop) (KK:Option Int->Prop),RS K B φ σ τ H->d τ KK->(∀o H',HX B φ τ H H'->KK o->Q o H')->t σ H Q
def xft:DO:=λ_ KK=>KK none
def xij (d:DE):DO:=λ τ KK=>d τ λx=>match x with | .int i=>KK (some i) | _=>False
theorem kU:OkO K xaM xft:=λB φ σ τ H Q KK R hd q=>q none H (HX.refl R) hd
theorem vA (h:OkE K b te d):OkO K (xfA te) (xij d):=λB φ σ τ H Q KK R hd q =>
 h B φ σ τ H _ _ R hd λt v H1 x1 k1 r1=>by
  cases t with
  | int i=>cases (show v=.int i from r1);exact⟨i,rfl,q _ H1 x1 k1⟩
  | _=>exact k1.elim
def gU (xs:List α)(lo hi:Option Int):List α:=(xs.drop (HT.sIx xs.length 0 lo)).take (HT.sIx xs.length xs.length hi-HT.sIx xs.length 0 lo)
theorem z_.cut (r:z_ F H ts ws)(lo hi:Option Int):z_ F H (gU ts lo hi) (xaj ws lo hi):=by unfold gU xaj;rw[<-r.len];exact wG.mpr (dG _ (sf _ (wG.mp r)))
def dSl (d:DE)(dl dh:DO):DE:=λ τ KK=>d τ λx=>dl τ λlo=>dh τ λhi=>match x with | .tup ts=>KK (.tup (gU ts lo hi)) | .lst ts=>KK (.lst (gU ts lo hi)) | _=>False
def xjZ (d:DE)(dl dh:DO):DE:=λ τ KK=>d τ λx=>dl τ λlo=>dh τ λhi=>match x with | .lst ts=>KK (.lst (gU ts lo hi)) | _=>False
theorem xeK {b:Bool}{te:TE}{tl th:TO}{d:DE}{dl dh:DO}(h:OkE K b te d)(hl:OkO K tl dl)(hh:OkO K th dh):OkE K b (tSl (xhB K) te tl th) (xjZ d dl dh):=λB φ σ τ H Q KK R hd q =>
 h B φ σ τ H _ _ R hd λt v H1 x1 k1 r1=>hl B φ σ τ H1 _ _ (R.hx x1) k1 λlo H2 x2 k2=>hh B φ σ τ H2 _ _ (R.hx (x1.trans x2)) k2 λhi H3 x3 k3=>by
  have r3:=(x2.trans x3).rep (λa s=>R.sB s) r1;have x:=(x1.trans x2).trans x3;cases t with
  | lst ts =>obtain⟨a,ws,e,n,ha,rl⟩:=r3;exact⟨a,ws,e,SqL.of ha,λp hp=>q _ _ _ (x.trans (HX.new (R.hx x) hp _)) k3 ⟨p,_,rfl,λz=>(R.hx x).domB z hp,xV,uw hp (rl.cut lo hi)⟩⟩
  | _=>exact k3.elim
def xiW (i:Nat)(dl dh:DO):DE:=λ τ KK=>match nth τ i with | .ow ts=>dl τ λlo=>dh τ λhi=>KK (.lst (gU ts lo hi)) | _=>False
theorem xcp {i:Nat}{tl th:TO}{dl dh:DO}(hl:OkO K tl dl)(hh:OkO K th dh):OkF K (tSl (xhB K) (rO i) tl th) (xiW i dl dh):=λB φ σ τ H Q KK R hd q=>by
 have en:=R.ent i;unfold xiW at hd;revert en hd;cases hi:nth τ i with
 | ow ts =>intro hd ⟨a,ws,e1,e2,e3,e4,r⟩;refine⟨_,e1,hl B φ σ τ H _ _ R hd λlo H2 x2 k2=>hh B φ σ τ H2 _ _ (R.hx x2) k2 λhi' H3 x3 k3=>?_⟩;have x:=x2.trans x3;obtain⟨ws',e4',r',_⟩:=fV R x hi e1;exact⟨a,ws',rfl,SqL.of e4',λp hp=>q _ _ _ _ (x.trans (HX.new (R.hx x) hp _)) k3 (x.none hp) xV (vt hp (r'.cut lo hi'))⟩
 | _=>exact λz _=>z.elim
def xi1 (x y:Tr)(KK:Tr->Prop):Prop:=match x,y with | .lst ts,.lst us=>ts.length+us.length<=sizeLine/\KK (.lst (ts++us)) | _,_=>False
theorem rW (ha:OkE K true ta da)(hb:OkE K true tb db):OkF K (tOp xiz ta tb) (d2 xi1 da db):=λB φ σ τ H Q KK R hd q =>
 ha B φ σ τ H _ _ R hd λt v H1 x1 k1 r1=>hb B φ σ τ H1 _ _ (R.hx x1) k1 λu w H2 x2 k2 r2=>by
  have r1':=x2.rep (F:=Av B φ) (λa s=>R.sAv s) r1;have x:=x1.trans x2;unfold xi1 at k2;split at k2
  .rename_i ts us;obtain⟨a,ws,e,n,ha',rl⟩:=r1';obtain⟨a2,ws2,e2,n2,ha2,rl2⟩:=r2;exact⟨a,a2,ws,ws2,e,e2,ha',ha2,by rw[<-rl.len,<-rl2.len];exact k2.1,λp hp=>q _ _ _ _ (x.trans (HX.new (R.hx x) hp _)) k2.2 (x.none hp) xV (vt hp (rl.app rl2))⟩
  .exact k2.elim
def xiZ (x y:Tr)(KK:Tr->Prop):Prop:=match x,y with | .lst ts,.int k=>(0<=k/\k<2 ^ 63)/\ts.length*k.toNat<=sizeLine/\KK (.lst (List.replicate k.toNat ts).flatten) | _,_=>False
theorem bC (r:z_ F H ts ws):∀n:Nat,z_ F H (List.replicate n ts).flatten (List.replicate n ws).flatten
 | 0=>rfl
 | n+1=>by rw[xl1,xl1,xk7,xk7];exact r.app (bC r n)
theorem xbS (ha:OkE K true ta da)(hb:OkE K c tb db):OkF K (tOp xi2 ta tb) (d2 xiZ da db):=λB φ σ τ H Q KK R hd q =>
 ha B φ σ τ H _ _ R hd λt v H1 x1 k1 r1=>hb B φ σ τ H1 _ _ (R.hx x1) k1 λu w H2 x2 k2 r2=>by
  have r1':=x2.rep (F:=Av B φ) (λa s=>R.sAv s) r1;have x:=x1.trans x2;unfold xiZ at k2;split at k2
  .rename_i ts k;obtain⟨a,ws,e,n,ha',rl⟩:=r1';exact⟨a,k,ws,e,r2,ha',by have:=k2.1.1;omega,k2.1.2,by rw[<-rl.len];exact k2.2.1,λp hp=>q _ _ _ _ (x.trans (HX.new (R.hx x) hp _)) k2.2.2 (x.none hp) xV (vt hp (bC rl _))⟩
  .exact k2.elim
def dCB (f:List Tr->(Tr->Prop)->Prop)(da:DA):DE:=λ τ KK=>da τ λxs=>f xs KK
def CbS (r:List V->Hp->VK->Prop)(f:List Tr->(Tr->Prop)->Prop):Prop:=∀(F:Addr->Prop) (H:Hp) (vs:List V) (ts:List Tr) (KK:Tr->Prop) (Q:VK),z_ F H ts vs->f ts KK->(∀w v,xac w=some v->KK w->Q v H)->r vs H Q
theorem yI (hr:CbS r f)(ha:OkA K b n ta da):OkE K true (tCB r ta) (dCB f da):=λB φ σ τ H Q KK R hd q =>ha B φ σ τ H _ _ R hd λts vs H1 x1 k1 l1 r1=>hr _ H1 vs ts KK Q r1 k1 λw v e k=>q w v H1 x1 k (qr e)
theorem jj (h:z_ F H [t] vs):∃v,vs=[v]/\Rep F H t v:=by obtain⟨w,r,e,h1,h2⟩:=h;cases (show r=[] from h2);exact⟨w,e,h1⟩
theorem lX (h:z_ F H [t,u] vs):∃v w,vs=[v,w]/\Rep F H t v/\Rep F H u w:=by obtain⟨w,r,e,h1,h2⟩:=h;obtain⟨w',e',h3⟩:=jj h2;subst e';exact⟨w,w',e,h1,h3⟩
def xjw (xs:List Tr)(KK:Tr->Prop):Prop:=match xs with | [.tup ts]=>KK (.int ts.length) | [.lst ts]=>KK (.int ts.length) | _=>False
theorem qJ:CbS (xe7 K) xjw:=by
 intro F H vs ts KK Q r hf q;unfold xjw at hf;split at hf
 .rename_i ts;obtain⟨v,rfl,a,ws,e,n,ha,rl⟩:=jj r;exact⟨a,ws,by rw[e],.inr (SqT.of ha),by rw[<-rl.len];exact q _ _ rfl hf⟩
 .rename_i ts;obtain⟨v,rfl,a,ws,e,n,ha,rl⟩:=jj r;exact⟨a,ws,by rw[e],.inl (SqL.of ha),by rw[<-rl.len];exact q _ _ rfl hf⟩
 .exact hf.elim
def xiX (xs:List Tr)(KK:Tr->Prop):Prop:=match xs with | [.int i]=>KK (.int (if i<0 then -i else i)) | _=>False
theorem qI:CbS (λxs H Q=>∃i,xs=[.int i]/\Q (.int (if i<0 then -i else i)) H) xiX:=by
 intro F H vs ts KK Q r hf q;unfold xiX at hf;split at hf
 .rename_i i;obtain⟨v,rfl,e⟩:=jj r;cases (show v=.int i from e);exact⟨i,rfl,q _ _ rfl hf⟩
 .exact hf.elim
def xgW (xs:List Tr)(KK:Tr->Prop):Prop:=match xs with | [.int i,.int j]=>KK (.int (if j>i then j else i)) | _=>False
theorem xbc:CbS (λxs H Q=>∃i j,xs=[.int i,.int j]/\Q (.int (if j>i then j else i)) H) xgW:=by
 intro F H vs ts KK Q r hf q;unfold xgW at hf;split at hf
 .rename_i i j;obtain⟨v,w,rfl,e,e'⟩:=lX r;cases (show v=.int i from e);cases (show w=.int j from e');exact⟨i,j,rfl,q _ _ rfl hf⟩
 .exact hf.elim
def xgt (xs:List Tr)(KK:Tr->Prop):Prop:=match xs with | [.int i,.int j]=>KK (.int (if j<i then j else i)) | _=>False
theorem xfn:CbS (λxs H Q=>∃i j,xs=[.int i,.int j]/\Q (.int (if j<i then j else i)) H) xgt:=by
 intro F H vs ts KK Q r hf q;unfold xgt at hf;split at hf
 .rename_i i j;obtain⟨v,w,rfl,e,e'⟩:=lX r;cases (show v=.int i from e);cases (show w=.int j from e');exact⟨i,j,rfl,q _ _ rfl hf⟩
 .exact hf.elim
theorem qa:∀ {ns:List Int} {ws:List V},z_ F H (ns.map Tr.int) ws->ws=ns.map V.int
 | [],_,h=>h
 | n::ns,_,⟨w,r,e,h1,h2⟩=>by cases (show w=.int n from h1);rw[e,qa h2];rfl
theorem oQ:∀ {ns:List Bool} {ws:List V},z_ F H (ns.map Tr.bl) ws->ws=ns.map V.bl
 | [],_,h=>h
 | n::ns,_,⟨w,r,e,h1,h2⟩=>by cases (show w=.bl n from h1);rw[e,oQ h2];rfl
def xh2 (xs:List Tr)(KK:Tr->Prop):Prop:=∃ns:List Int,xs=[.lst (ns.map Tr.int)]/\ns≠[]/\∀M,M∈ns->(∀a∈ns,a<=M)->KK (.int M)
theorem xfx:CbS (xfl K) xh2:=by intro F H vs ts KK Q r hf q;obtain⟨ns,rfl,h0,h1⟩:=hf;obtain⟨v,rfl,a,ws,e,n,ha,rl⟩:=jj r;rw[qa rl] at ha;exact⟨a,ns,by rw[e],SqL.of ha,h0,λM h2 h3=>q _ _ rfl (h1 M h2 h3)⟩
def xit (xs:List Tr)(KK:Tr->Prop):Prop:=∃bs:List Bool,xs=[.lst (bs.map Tr.bl)]/\KK (.bl (bs.all id))
theorem sQ:CbS (xfE K) xit:=by intro F H vs ts KK Q r hf q;obtain⟨ns,rfl,h1⟩:=hf;obtain⟨v,rfl,a,ws,e,n,ha,rl⟩:=jj r;rw[oQ rl] at ha;exact⟨a,ns,by rw[e],SqL.of ha,q _ _ rfl h1⟩
def tyT:Tr->String
 | .non => "NoneType" | .bl _ => "bool" | .int _ => "int" | .str _ => "str" | .emp => "dict" | .tup _ => "tuple" | .lst _ => "list"
theorem xgC (r:Rep F H t v):tyN H v=some (tyT t):=by
 cases t with
 | non=>cases (show v=.non from r);rfl
 | bl b=>cases (show v=.bl b from r);rfl
 | int b=>cases (show v=.int b from r);rfl
 | str b=>cases (show v=.str b from r);rfl
 | emp=>obtain⟨a,e,_,h⟩:=r;subst e;simp only[tyN,h,tyT]
 | tup ts=>obtain⟨a,ws,e,_,h,_⟩:=r;subst e;simp only[tyN,h,tyT]
 | lst ts=>obtain⟨a,ws,e,_,h,_⟩:=r;subst e;simp only[tyN,h,tyT]
def xje (c:String)(t:Tr):Bool:=match c,t with
 | "int", .int _=>true | "int", .bl _=>true | "bool", .bl _=>true | "str", .str _=>true | "tuple", .tup _=>true | "list", .lst _=>true | "dict", .emp=>true | _,_=>false
theorem xfo (h:c∈gf)(t:Tr):xfG (tyT t) c=xje c t:=by simp only[gf,xlI,xlY,xmC] at h;rcases h with rfl | rfl | rfl | rfl | rfl | rfl<;>cases t<;>rfl
def xjH (c:String)(d:DE):DE:=λ τ KK=>d τ λx=>KK (.bl (xje c x))
theorem mJ (h:OkE K b te d)(hc:c∈gf:=by decide):OkE K true (tCB xjb (qA te (qA (tC (.ty c)) xah))) (xjH c d):=λB φ σ τ H Q KK R hd q =>h B φ σ τ H _ _ R hd λt v H1 x1 k1 r1=>⟨v,c,tyT t,rfl,xgC r1,hc,by rw[xfo hc];exact q _ _ H1 x1 k1 rfl⟩
def xet (xs:List Tr)(KK:Tr->Prop):Prop:=match xs with | [.tup ts]=>KK (.tup ts) | [.lst ts]=>KK (.tup ts) | _=>False
theorem tN (ha:OkA K b n ta da):OkE K b (tCB (xfh K) ta) (dCB xet da):=λB φ σ τ H Q KK R hd q =>
 ha B φ σ τ H _ _ R hd λts vs H1 x1 k1 l1 r1=>by
  unfold xet at k1;split at k1
  .rename_i ts;obtain⟨v,rfl,r⟩:=jj r1;obtain⟨a,ws,e,n,ha,rl⟩:=id r;exact⟨a,ws,by rw[e],.inr ⟨SqT.of ha,by rw[<-e];exact q _ _ H1 x1 k1 r⟩⟩
  .rename_i ts;obtain⟨v,rfl,a,ws,e,n,ha,rl⟩:=jj r1;exact⟨a,ws,by rw[e],.inl ⟨SqL.of ha,λp hp=>q _ _ _ (x1.trans (HX.new (R.hx x1) hp _)) k1 ⟨p,_,rfl,λz=>(R.hx x1).domB z hp,xV,uw hp rl⟩⟩⟩
  .exact k1.elim
def xg2 (i:Nat):DE:=λ τ KK=>match nth τ i with | .ow ts=>KK (.tup ts) | _=>False
theorem xat:OkE K true (tCB (xfh K) (qA (rO i) xah)) (xg2 i):=λB φ σ τ H Q KK R hd q=>by
 have en:=R.ent i;unfold xg2 at hd;revert en hd;cases hi:nth τ i with
 | ow ts =>intro hd ⟨a,ws,e1,e2,e3,e4,r⟩;exact⟨_,e1,a,ws,rfl,.inl ⟨SqL.of e4,λp hp=>q _ _ _ (HX.new R hp _) hd ⟨p,_,rfl,λz=>R.dom z hp,xV,uw hp r⟩⟩⟩
 | _=>exact λz _=>z.elim
def xgs (xs:List Tr)(KK:Tr->Prop):Prop:=match xs with | [.tup ts]=>KK (.lst ts) | [.lst ts]=>KK (.lst ts) | _=>False
theorem xdt (ha:OkA K true n ta da):OkF K (tCB (xgr K) ta) (dCB xgs da):=λB φ σ τ H Q KK R hd q =>
 ha B φ σ τ H _ _ R hd λts vs H1 x1 k1 l1 r1=>by
  unfold xgs at k1;split at k1
  .rename_i ts;obtain⟨v,rfl,a,ws,e,n,ha,rl⟩:=jj r1;exact⟨a,ws,by rw[e],.inr (SqT.of ha),λp hp=>q _ _ _ _ (x1.trans (HX.new (R.hx x1) hp _)) k1 (x1.none hp) xV (vt hp rl)⟩
  .rename_i ts;obtain⟨v,rfl,a,ws,e,n,ha,rl⟩:=jj r1;exact⟨a,ws,by rw[e],.inl (SqL.of ha),λp hp=>q _ _ _ _ (x1.trans (HX.new (R.hx x1) hp _)) k1 (x1.none hp) xV (vt hp rl)⟩
  .exact k1.elim
def xeN (i:Nat):DE:=λ τ KK=>match nth τ i with | .sc ns=>ns.length<=63->KK (.int ns.length) | _=>False
theorem xc4:OkE K true (tCB (xe7 K) (qA (rO i) xah)) (xeN i):=λB φ σ τ H Q KK R hd q=>by
 have en:=R.ent i;unfold xeN at hd;revert en hd;cases hi:nth τ i with
 | sc ns =>
  intro hd ⟨a,e,l,so,_⟩;have sq:SqL K H a (ns.map V.int):=by
   rcases so with ⟨o,h⟩ | h
   .exact .inl (.inr ⟨o,h⟩)
   .exact h H
  refine⟨_,e,a,_,rfl,.inl sq,?_⟩;rw[xlq];exact q _ _ H (HX.refl R) (hd l) rfl
 | _=>exact λz _=>z.elim
def xgz (x y:Tr)(KK:Tr->Prop):Prop:=match x,y with | .bl c,.bl d=>KK (.bl (!(c == d))) | _,_=>False
theorem xfR:OpS (λx y H Q=>∃c d,x=.bl c/\y=.bl d/\Q (.bl (!(c == d))) H) xgz:=by
 intro F G H x y t u KK Q r1 r2 hf q;unfold xgz at hf;split at hf
 .rename_i c d;cases (show x=.bl c from r1);cases (show y=.bl d from r2);exact⟨c,d,rfl,rfl,q _ _ rfl hf⟩
 .exact hf.elim
end
end L2
namespace L2
open PySem PySem.Spec PyProof.Rows
abbrev TSp:=List Tr->(Tr->Prop)->Prop
def spT (n:Nat)(st fr:Bool)(sp:TSp):Sp:=λvs H Q _=>∃(F S:Addr->Prop) (ts:List Tr) (KK:Tr->Prop) (us:List V),
 (match st with | true=>∃p,vs=.ref p::us/\S p | false=>vs=us)/\(∀a,F a->H a≠none)/\(∀a,S a->F a)/\(∀a,S a->xao a H)/\z_ F H ts us/\ts.length=n/\sp ts KK /\
 ∀t v H',KK t->(∀a o,H a=some o->¬S a->H' a=some o)->(∀a,S a->xao a H')->Rep F H' t v->(fr=true->FrL F H H' t v)->Q v H'
def xfq (sp:TSp)(da:DA):DE:=λ τ KK=>da τ λts=>sp ts KK
def xex (i:Nat)(sp:TSp)(da:DA):DE:=λ τ KK=>match nth τ i with | .st=>da τ λts=>sp ts KK | _=>False
section
variable {K:PySem.W.Frag} {B:FB} {φ:Phi} {σ:St} {τ:TSt} {H H' H'':Hp}
theorem xq (ha:OkA K b n ta da):OkE K b (xgj (spT n false fr sp) ta) (xfq sp da):=λB φ σ τ H Q KK R hd q =>ha B φ σ τ H _ _ R hd λts vs H1 x1 k1 l1 r1=>⟨AvB b B φ τ,SA B φ τ,ts,KK,vs,rfl,λa z=>(R.hx x1).domB z,λa z=>R.sB z,x1.st,r1,l1,k1,λt v H' k e s r _=>q t v H' (x1.trans ⟨e,s⟩) k r⟩
theorem xaS (ha:OkA K true n ta da):OkF K (xgj (spT n false true sp) ta) (xfq sp da):=λB φ σ τ H Q KK R hd q =>
 ha B φ σ τ H _ _ R hd λts vs H1 x1 k1 l1 r1=>⟨Av B φ,SA B φ τ,ts,KK,vs,rfl,λa z=>(R.hx x1).dom z,λa z=>R.sAv z,x1.st,r1,l1,k1,λt v H' k e s r f=>by obtain⟨a,ts',ws,rfl,rfl,h1,h2,h3⟩:=f rfl;exact q ts' a ws H' (x1.trans ⟨e,s⟩) k (x1.none h1) h2 h3⟩
theorem y9 (ha:OkA K b n ta da):OkE K b (xgj (spT n true fr sp) (qA (rO i) ta)) (xex i sp da):=λB φ σ τ H Q KK R hd q=>by
 have en:=R.ent i;unfold xex at hd;revert en hd;cases hi:nth τ i with
 | st =>intro hd ⟨p,e1,e2,e3⟩;exact⟨_,e1,ha B φ σ τ H _ _ R hd λts vs H1 x1 k1 l1 r1=>⟨AvB b B φ τ,SA B φ τ,ts,KK,vs,⟨p,rfl,.inr ⟨i,e2,hi⟩⟩,λa z=>(R.hx x1).domB z,λa z=>R.sB z,x1.st,r1,l1,k1,λt v H' k e s r _=>q t v H' (x1.trans ⟨e,s⟩) k r⟩⟩
 | _=>exact λz _=>z.elim
def Phi.del (φ:Phi)(i:Nat):Phi:=λj=>if j=i then none else φ j
def Phi.put (φ:Phi)(i:Nat)(a:Addr):Phi:=λj=>if j=i then some a else φ j
theorem ux (h:φ.del i j=some a):j≠i/\φ j=some a:=by
 unfold Phi.del at h;by_cases e:j=i
 .rw[if_pos e] at h;cases h
 .rw[if_neg e] at h;exact⟨e,h⟩
theorem xd2 (h:j≠i):φ.del i j=φ j:=if_neg h
theorem qx (h:φ.put i a j=some c):(j=i/\c=a)\/(j≠i/\φ j=some c):=by
 unfold Phi.put at h;by_cases e:j=i
 .rw[if_pos e] at h;cases h;exact .inl ⟨e,rfl⟩
 .rw[if_neg e] at h;exact .inr ⟨e,h⟩
theorem tP:φ.put i a i=some a:=if_pos rfl
theorem xg_ (h:j≠i):φ.put i a j=φ j:=if_neg h
theorem k_ (h:Av B (φ.del i) a):Av B φ a:=by
 rcases h with h | ⟨j,h⟩
 .exact .inl h
 .exact .inr ⟨j,(ux h).2⟩
theorem jH (h:Ent K B φ H i o x)(hφ:φ' i=φ i)(hr:∀t v,Rep (Av B φ) H t v->Rep (Av B φ') H' t v)(hrl:∀t v,z_ (Av B φ) H t v->z_ (Av B φ') H' t v)
  (hl:∀a o,Owd x->φ i=some a->H a=some o->H' a=some o) (hs:∀a ns,xdl K H a ns->xdl K H' a ns):Ent K B φ' H' i o x:=by
 cases x with
 | un=>trivial
 | fz t=>obtain⟨v,e,r⟩:=h;exact⟨v,e,hr t v r⟩
 | ow ts=>obtain⟨a,ws,e1,e2,e3,e4,r⟩:=h;exact⟨a,ws,e1,hφ.trans e2,e3,hl a _ trivial e2 e4,hrl _ _ r⟩
 | st=>obtain⟨p,e1,e2,e3⟩:=h;exact⟨p,e1,hφ.trans e2,e3⟩
 | sc ns=>obtain⟨a,e,l,q⟩:=h;exact⟨a,e,l,hs a ns q⟩
 | ob a=>exact h
 | od ks=>obtain⟨a,hk,e1,e2,e3,e4,r⟩:=h;exact⟨a,hk,e1,hφ.trans e2,e3,hl a _ trivial e2 e4,Paired.mapP r λp q z=>⟨z.1,hr _ _ z.2⟩⟩
theorem RS.ow0 (R:RS K B φ σ τ H)(h:Owd (nth τ j))(e:φ j=some c):B.H0 c=none:=by
 have en:=R.ent j;cases hn:nth τ j with
 | ow ts=>rw[hn] at en;obtain⟨a,ws,_,q2,q3,_⟩:=en;rw[e] at q2;cases q2;exact q3
 | od ks=>rw[hn] at en;obtain⟨a,ws,_,q2,q3,_⟩:=en;rw[e] at q2;cases q2;exact q3
 | _=>rw[hn] at h;exact h.elim
theorem RS.setFz (R:RS K B φ σ τ H)(r:Rep (Av B φ) H t v):RS K B (φ.del i) (σ.set i (some v)) (τ.set i (.fz t)) H where
 f0:=R.f0
 s0:=R.s0
 ext:=R.ext
 sst:=λa s=>by
  rcases s with s | ⟨j,s,hj⟩
  .exact R.sst a (.inl s)
  .obtain⟨hne,s'⟩:=ux s;rw[yA hne] at hj;exact R.sst a (.inr ⟨j,s',hj⟩)
 injG:=λj k a hj e1 e2=>by obtain⟨hne,e1⟩:=ux e1;rw[yA hne] at hj;exact R.injG j k a hj e1 (ux e2).2
 ow:=λj a e=>R.ow j a (ux e).2
 len:=by rw[xlw,xlw];exact R.len
 ent:=λj=>by
  have mono:∀t v,Rep (Av B φ) H t v->Rep (Av B (φ.del i)) H t v:=λt v=>yx (λa o e n=>⟨e,λz=>n (k_ z)⟩) t v;by_cases e:j=i
  .subst e;by_cases hl:j<τ.length
   .rw[yZ hl];exact⟨v,by rw[xlj (by rw[R.len];exact hl)],mono _ _ r⟩
   .rw[wB (by rw[xlw];omega)];trivial
  .rw[yA e,xli (Ne.symm e)];exact jH (R.ent j) (xd2 e) mono (λt v=>yo (λa o e n=>⟨e,λz=>n (k_ z)⟩) t v) (λ_ _ _ _ z=>z) λ_ _ z=>z
 gh:=λp hp=>yx (λa o e n=>⟨e,λz=>n (k_ z)⟩) _ _ (R.gh p hp)
theorem RS.setNew (R:RS K B φ σ τ H)(hx:HX B φ τ H H')(ha:H a=none)(ha':H' a≠none)(hst:x=.st->xao a H')
  (hen:Ent K B (φ.put i a) H' i (some (some (.ref a))) x):RS K B (φ.put i a) (σ.set i (some (.ref a))) (τ.set i x) H':=by
 have R':=R.hx hx;have nav:∀c,c≠a->Av B (φ.put i a) c->Av B φ c:=λc hc z=>by
  rcases z with z | ⟨j,z⟩
  .exact .inl z
  .rcases qx z with ⟨_,e⟩ | ⟨_,e⟩
   .exact absurd e hc
   .exact .inr ⟨j,e⟩
 have mv:∀c o,H c=some o->¬Av B φ c->H' c=some o/\¬Av B (φ.put i a) c:=λc o e n=>⟨hx.keep c o e λs=>n (R.sAv s),λz=>n (nav c (xD e ha) z)⟩
 refine⟨R.f0,R.s0,R'.ext,λc s=>?_,λj k c hj e1 e2=>?_,λj c e=>?_,?_,λj=>?_,λp hp=>yx mv _ _ (R.gh p hp)⟩
 .rcases s with s | ⟨j,s,hj⟩
  .exact R'.sst c (.inl s)
  .rcases qx s with ⟨rfl,rfl⟩ | ⟨hne,s'⟩
   .by_cases hl:j<τ.length
    .rw[yZ hl] at hj;exact hst hj
    .rw[wB (by rw[xlw];omega)] at hj;cases hj
   .rw[yA hne] at hj;exact R'.sst c (.inr ⟨j,s',hj⟩)
 .have key:∀j:Nat,φ j=some a->False:=λj e=>R.ow j a e ha;rcases qx e1 with ⟨z1,z2⟩ | ⟨n1,f1⟩
  .rcases qx e2 with ⟨z3,_⟩ | ⟨n2,f2⟩
   .rw[z1,z3]
   .exact(key k (by rw[<-z2];exact f2)).elim
  .rcases qx e2 with ⟨z3,z4⟩ | ⟨n2,f2⟩
   .exact(key j (by rw[<-z4];exact f1)).elim
   .rw[yA n1] at hj;exact R.injG j k c hj f1 f2
 .rcases qx e with ⟨_,rfl⟩ | ⟨_,e⟩
  .exact ha'
  .exact R'.ow j c e
 .rw[xlw,xlw];exact R.len
 .by_cases e:j=i
  .subst e;by_cases hl:j<τ.length
   .rw[yZ hl,xlj (by rw[R.len];exact hl)];exact hen
   .rw[wB (by rw[xlw];omega)];trivial
  .rw[yA e,xli (Ne.symm e)];refine jH (R.ent j) (xg_ e) (λt v=>yx mv t v) (λt v=>yo mv t v) (λc o hj e1 e2=>?_) λc ns z=>?_
   .refine hx.keep c _ e2 λs=>?_;rcases s with s | ⟨k,s,hk⟩
    .exact R.f0 c (R.s0 c s) (R.ow0 hj e1)
    .have:=R.injG j k c hj e1 s;subst this;rw[hk] at hj;exact hj.elim
   .refine⟨?_,z.2.hx R hx⟩;rcases z.1 with ⟨o,z⟩ | z
    .exact .inl ⟨o,hx.keep c _ z (rL R z)⟩
    .exact .inr z
theorem RS.wrOw (R:RS K B φ σ τ H)(hi:nth τ i=.ow ts)(e1:σ[i]? = some (some (.ref a)))(r:z_ (Av B φ) H ts' ws'):RS K B φ σ (τ.set i (.ow ts')) (upd H a (.lst ws')):=by
 have en:=R.ent i;rw[hi] at en;obtain⟨a',ws,e1',e2,e3,e4,_⟩:=en;rw[e1] at e1';cases e1';have hl:i<τ.length:=by
  by_cases h:i<τ.length
  .exact h
  .rw[wB (by omega)] at hi;cases hi
 have mv:∀c o,H c=some o->¬Av B φ c->(upd H a (.lst ws')) c=some o/\¬Av B φ c:=λc o e n=>⟨by rw[xJ (λz=>n (by rw[z];exact .inr ⟨i,e2⟩))];exact e,n⟩
 have nsa:∀c,SA B φ (τ.set i (.ow ts')) c->SA B φ τ c/\c≠a:=λc s=>by
  rcases s with s | ⟨j,s,hj⟩
  .exact⟨.inl s,λz=>R.f0 a (R.s0 a (z▸s)) e3⟩
  .by_cases e:j=i
   .subst e;rw[yZ hl] at hj;cases hj
   .rw[yA e] at hj;exact⟨.inr ⟨j,s,hj⟩,λz=>e (R.inj i j a ts hi e2 (z▸s)).symm⟩
 refine⟨R.f0,R.s0,λc o e n=>?_,λc s=>?_,λj k c hj f1 f2=>?_,λj c e=>?_,by rw[xlw];exact R.len,λj=>?_,λp hp=>yx mv _ _ (R.gh p hp)⟩
 .rw[xJ (xD e e3)];exact R.ext c o e n
 .obtain⟨s',hne⟩:=nsa c s;obtain⟨n,b,q,z⟩:=R.sst c s';exact⟨n,b,by rw[xJ hne];exact q,z⟩
 .by_cases e:j=i
  .subst e;exact R.inj j k c ts hi f1 f2
  .rw[yA e] at hj;exact R.injG j k c hj f1 f2
 .by_cases z:c=a
  .rw[z,xV];exact λz=>nomatch z
  .rw[xJ z];exact R.ow j c e
 .by_cases e:j=i
  .subst e;rw[yZ hl];exact⟨a,ws',e1,e2,e3,xV,yo mv _ _ r⟩
  .rw[yA e];refine jH (R.ent j) rfl (λt v=>yx mv t v) (λt v=>yo mv t v) (λc o hj f1 f2=>?_) λc ns z=>?_
   .rw[xJ (λ(z:c=a)=>e (R.inj i j a ts hi e2 (by rw[<-z];exact f1)).symm)];exact f2
   .refine⟨?_,λP q h=>by rw[xJ (xaN (z.2 P q h) e4 (λq=>nomatch q))];exact z.2 P q h⟩;rcases z.1 with ⟨o,z⟩ | z
    .exact .inl ⟨o,by rw[xJ (xaN z e4 (λq=>nomatch q))];exact z⟩
    .exact .inr z
theorem RS.freeze (R:RS K B φ σ τ H)(hi:nth τ i=.ow ts):RS K B (φ.del i) σ (τ.set i (.fz (.lst ts))) H:=by
 have en:=R.ent i;rw[hi] at en;obtain⟨a,ws,e1,e2,e3,e4,r⟩:=en;have hl:i<τ.length:=by
  by_cases h:i<τ.length
  .exact h
  .rw[wB (by omega)] at hi;cases hi
 have na:¬Av B (φ.del i) a:=λz=>by
  rcases z with z | ⟨j,z⟩
  .exact R.f0 a z e3
  .obtain⟨n,z⟩:=ux z;exact n (R.inj i j a ts hi e2 z).symm
 refine⟨R.f0,R.s0,R.ext,λc s=>?_,λj k c hj f1 f2=>?_,λj c e=>R.ow j c (ux e).2,by rw[xlw];exact R.len,λj=>?_,λp hp=>yx (λa o e n=>⟨e,λz=>n (k_ z)⟩) _ _ (R.gh p hp)⟩
 .rcases s with s | ⟨j,s,hj⟩
  .exact R.sst c (.inl s)
  .obtain⟨hne,s'⟩:=ux s;rw[yA hne] at hj;exact R.sst c (.inr ⟨j,s',hj⟩)
 .obtain⟨hne,f1⟩:=ux f1;rw[yA hne] at hj;exact R.injG j k c hj f1 (ux f2).2
 .by_cases e:j=i
  .subst e;rw[yZ hl];exact⟨.ref a,e1,a,ws,rfl,na,e4,yo (λa o e n=>⟨e,λz=>n (k_ z)⟩) _ _ r⟩
  .rw[yA e];exact jH (R.ent j) (xd2 e) (λt v=>yx (λa o e n=>⟨e,λz=>n (k_ z)⟩) t v) (λt v=>yo (λa o e n=>⟨e,λz=>n (k_ z)⟩) t v) (λ_ _ _ _ z=>z) λ_ _ z=>z
def OkN (K:PySem.W.Frag)(g:TG)(d:DG):Prop:=∀(B:FB) (φ:Phi) (σ:St) (τ:TSt) (H:Hp) (F:Addr->Prop) (t:Tr) (v:V) (Q:St->Hp->Prop) (KK:TSt->Prop),RS K B φ σ τ H->(∀a,Av B φ a->F a)->Rep F H t v->d t τ KK ->
 (∀ φ' σ' τ',RS K B φ' σ' τ' H->(∀a,Av B φ' a->Av B φ a)->KK τ'->Q σ' H)->g v σ H Q
def xgO (K:PySem.W.Frag)(g:TGs)(d:DGs):Prop:=∀(B:FB) (φ:Phi) (σ:St) (τ:TSt) (H:Hp) (F:Addr->Prop) (t:List Tr) (v:List V) (Q:St->Hp->Prop) (KK:TSt->Prop),RS K B φ σ τ H->(∀a,Av B φ a->F a)->z_ F H t v->d t τ KK ->
 (∀ φ' σ' τ',RS K B φ' σ' τ' H->(∀a,Av B φ' a->Av B φ a)->KK τ'->Q σ' H)->g v σ H Q
def eName (i:Nat):DG:=λt τ KK=>KK (τ.set i (.fz t))
def xiE:DGs:=λts τ KK=>match ts with | []=>KK τ | _=>False
def xcH (d:DG)(r:DGs):DGs:=λts τ KK=>match ts with | t::us=>d t τ λ τ'=>r us τ' KK | []=>False
def xjr (n:Nat)(d:DGs):DG:=λt τ KK=>match t with | .tup ts=>ts.length=n/\d ts τ KK | _=>False
theorem xh:OkN K (gX i) (eName i):=λB φ σ τ H F t v Q KK R hF r hd q =>q (φ.del i) _ _ (R.setFz (yx (λa o e n=>⟨e,λz=>n (hF a z)⟩) _ _ r)) (λa z=>k_ z) hd
theorem x_:xgO K xhL xiE:=λB φ σ τ H F t v Q KK R hF r hd q=>by
 cases t with
 | nil=>exact⟨r,q φ σ τ R (λ_ z=>z) hd⟩
 | cons _ _=>exact hd.elim
theorem xm (h:OkN K g d)(hs:xgO K gs ds):xgO K (xdG g gs) (xcH d ds):=λB φ σ τ H F t v Q KK R hF r hd q=>by
 cases t with
 | nil=>exact hd.elim
 | cons t ts =>obtain⟨w,r',e,h1,h2⟩:=r;exact⟨w,r',e,h B φ σ τ H F t w _ _ R hF h1 hd λ φ' σ' τ' R' ha k=>hs B φ' σ' τ' H F ts r' Q KK R' (λa z=>hF a (ha a z)) h2 k λ φ2 σ2 τ2 R2 ha2 k2=>q φ2 σ2 τ2 R2 (λa z=>ha a (ha2 a z)) k2⟩
theorem ym (h:xgO K gs ds):OkN K (xgR K n gs) (xjr n ds):=λB φ σ τ H F t v Q KK R hF r hd q=>by
 cases t with
 | tup ts =>obtain⟨a,ws,e,n,ha,rl⟩:=r;exact⟨a,ws,e,SqT.of ha,by rw[<-rl.len];exact hd.1,h B φ σ τ H F ts ws Q KK R hF rl hd.2 q⟩
 | _=>exact hd.elim
theorem OkN.g {g:TG}{d:DG}(h:OkN K g d):OkG K g d:=λB φ σ τ H t v Q KK R r hd q=>h B φ σ τ H (Av B φ) t v Q KK R (λ_ z=>z) r hd λ φ' σ' τ' R' ha k=>q φ' σ' τ' H R' ha (λ_ _ e _=>e) k
def xhE (ts:List Tr)(t:Tr):Int->Option (List Tr)
 | .ofNat n=>if n<ts.length then some (ts.set n t) else none
 | .negSucc n=>if n<ts.length then some (ts.set (ts.length-1-n) t) else none
def xhq (i:Nat)(di:DE):DG:=λt τ KK=>match nth τ i with
 | .ow ts=>di τ λy=>match y with | .int k=>(match xhE ts t k with | some us=>KK (τ.set i (.ow us)) | none=>False) | _=>False
 | _=>False
theorem xeR (h:xhE ts t k=some us):∃j,ixN ts.length k=some j/\us=ts.set j t:=by
 unfold ixN;cases k with
 | ofNat n =>
  have h:(if n<ts.length then some (ts.set n t) else none)=some us:=h;by_cases hn:n<ts.length
  .rw[if_pos hn] at h;cases h;refine⟨n,?_,rfl⟩;have h0:(0:Int)<=Int.ofNat n:=Int.natCast_nonneg n;have h1:Int.ofNat n<(ts.length:Int):=Int.ofNat_lt.mpr hn;rw[if_pos h0,if_pos h1];rfl
  .rw[if_neg hn] at h;cases h
 | negSucc n =>
  have h:(if n<ts.length then some (ts.set (ts.length-1-n) t) else none)=some us:=h;by_cases hn:n<ts.length
  .rw[if_pos hn] at h;cases h;refine⟨ts.length-1-n,?_,rfl⟩;rw[if_neg (by omega),if_pos (by omega)];congr 1;omega
  .rw[if_neg hn] at h;cases h
theorem pU (r:Rep F H t v):∀ {ts:List Tr} {ws:List V} (j:Nat),z_ F H ts ws->z_ F H (ts.set j t) (ws.set j v)
 | [],_,_,h=>by cases (show _=[] from h);exact rfl
 | _::_,_,0,⟨w,r',e,h1,h2⟩=>⟨v,r',by rw[e];rfl,r,h2⟩
 | _::ts,_,j+1,⟨w,r',e,h1,h2⟩=>⟨w,r'.set j v,by rw[e];rfl,h1,pU r j h2⟩
theorem cf (h:OkE K b ti di):OkG K (xjh (rO i) ti xhb) (xhq i di):=λB φ σ τ H t v Q KK R r hd q=>by
 have en:=R.ent i;unfold xhq at hd;revert en hd;cases hi:nth τ i with
 | ow ts =>
  intro hd ⟨a,ws,e1,e2,e3,e4,r0⟩;refine⟨_,e1,h B φ σ τ H _ _ R hd λu w H1 x1 k1 r1=>?_⟩;obtain⟨ws',f4,f5,_⟩:=fV R x1 hi e1;cases u with
  | int k =>
   cases (show w=.int k from r1);cases e:xhE ts t k with
   | none=>simp only[e] at k1
   | some us =>simp only[e] at k1;obtain⟨j,hj,rfl⟩:=xeR e;refine⟨a,ws',k,j,rfl,rfl,f4,by rw[<-f5.len];exact hj,?_⟩;exact q φ σ _ _ ((R.hx x1).wrOw hi e1 (pU (x1.rep (λa s=>R.sAv s) r) j f5)) (λ_ z=>z) (λc o e n=>by rw[xJ (λz=>n (by rw[z];exact .inr ⟨i,e2⟩))];exact x1.keep c o e λs=>n (R.sAv s)) k1
  | _=>exact k1.elim
 | _=>exact λz _=>z.elim
theorem xc9:xhR K xhL xiE:=λB φ σ τ H t v Q KK R r hd q=>by
 cases t with
 | nil=>exact⟨r,q φ σ τ H R (λ_ z=>z) (λ_ _ e _=>e) hd⟩
 | cons _ _=>exact hd.elim
theorem nL (h:OkG K g d)(hs:xhR K gs ds):xhR K (xdG g gs) (xcH d ds):=λB φ σ τ H t v Q KK R r hd q=>by
 cases t with
 | nil=>exact hd.elim
 | cons t ts =>
  obtain⟨w,r',e,h1,h2⟩:=r;exact⟨w,r',e,h B φ σ τ H t w _ _ R h1 hd λ φ' σ' τ' H' R' ha hx k=>hs B φ' σ' τ' H' ts r' Q KK R' (yo (λa o e n=>⟨hx a o e n,λz=>n (ha a z)⟩) _ _ h2) k λ φ2 σ2 τ2 H2 R2 ha2 hx2 k2 =>q φ2 σ2 τ2 H2 R2 (λa z=>ha a (ha2 a z)) (λa o e n=>hx2 a o (hx a o e n) λz=>n (ha a z)) k2⟩
theorem xfK (h:xhR K gs ds):OkG K (xgR K n gs) (xjr n ds):=λB φ σ τ H t v Q KK R r hd q=>by
 cases t with
 | tup ts =>obtain⟨a,ws,e,n,ha,rl⟩:=r;exact⟨a,ws,e,SqT.of ha,by rw[<-rl.len];exact hd.1,h B φ σ τ H ts ws Q KK R rl hd.2 q⟩
 | _=>exact hd.elim
def xhI:DS:=λG τ=>G.nx τ
def xhS (a b:DS):DS:=λG τ=>a { G with nx:=b G } τ
def xgM:DS:=λ_ _=>False
def xh9 (d:DE):DS:=λG τ=>d τ G.rt
def sIf (c:DT)(a b:DS):DS:=λG τ=>c τ λk=>if k=true then a G τ else b G τ
def xi3 (i:Nat)(d:DE):DS:=λG τ=>d τ λt=>G.nx (τ.set i (.fz t))
def xim (i:Nat)(d:DE):DS:=λG τ=>d τ λt=>match t with | .lst ts=>G.nx (τ.set i (.ow ts)) | _=>False
def xjU (d:DE)(g:DG):DS:=λG τ=>d τ λt=>g t τ G.nx
def xjR (i j:Nat)(d:DA):DS:=λG τ=>d τ λts=>match ts with | [t,u]=>G.nx ((τ.set i (.fz t)).set j (.fz u)) | _=>False
def xif (d:DE):DS:=λG τ=>d τ λ_=>G.nx τ
def xji (i:Nat)(d:DE):DS:=λG τ=>match nth τ i with | .ow ts=>d τ λt=>ts.length<sizeLine/\G.nx (τ.set i (.ow (ts++[t]))) | _=>False
def xhM (i:Nat)(a:DS):DS:=λG τ=>match nth τ i with | .ow ts=>a G (τ.set i (.fz (.lst ts))) | _=>False
variable {fr:Bool}
theorem xM:OkS K fr xhg xhI:=λB φ σ τ H E G R hd e=>e.nx φ σ τ H R hd
theorem jQ:OkS K fr xeu xgM:=λB φ σ τ H E G R hd e=>hd.elim
theorem xj (ha:OkS K fr a da)(hb:OkS K fr b db):OkS K fr (xhN a b) (xhS da db):=λB φ σ τ H E G R hd e =>ha B φ σ τ H _ _ R hd ⟨λ φ' σ' τ' H' R' k=>hb B φ' σ' τ' H' E G R' k e,e.bk,e.ct,e.rt⟩
theorem xA (h:OkE K b te d):OkS K false (xhX te) (xh9 d):=λB φ σ τ H E G R hd e =>h B φ σ τ H _ _ R hd λt v H1 x1 k1 r1=>e.rt t v H1 (yx (λa o e n=>⟨e,λz=>n (.inl z)⟩) _ _ (xjg R r1)) (R.hx x1).extB k1 λz=>nomatch z
theorem kM (h:OkF K te d):OkS K fr (xhX te) (xh9 d):=λB φ σ τ H E G R hd e =>
 h B φ σ τ H _ _ R hd λts a ws H1 x1 k1 h1 h2 h3=>by
  have z0:B.H0 a=none:=by
   cases q:B.H0 a with
   | none=>rfl
   | some o =>
    by_cases s:B.S0 a
    .exact absurd h1 (R.sst a (.inl s)).ne_none
    .rw[R.ext a o q s] at h1;cases h1
  have na:¬B.F0 a:=λz=>R.dom (.inl z) h1;have rr:z_ (λc=>B.F0 c\/c=a) H1 ts ws:=yo (λc o e n=>⟨e,λz=>n (z.elim (λz=>.inl (.inl z)) .inr)⟩) _ _ h3;exact e.rt (.lst ts) _ H1 ⟨a,ws,rfl,na,h2,yo (λc o e n=>⟨e,λz=>n (.inl z)⟩) _ _ rr⟩ (R.hx x1).extB k1 λ_=>⟨a,ts,ws,rfl,rfl,z0,h2,rr⟩
def xg7 (i:Nat):DS:=λG τ=>match nth τ i with | .ow ts=>G.rt (.lst ts) | _=>False
theorem jL:OkS K fr (xhX (rO i)) (xg7 i):=λB φ σ τ H E G R hd e=>by
 have en:=R.ent i;unfold xg7 at hd;revert en hd;cases hi:nth τ i with
 | ow ts =>intro hd ⟨a,ws,e1,e2,e3,e4,r⟩;have na:¬B.F0 a:=λz=>R.f0 a z e3;have rr:z_ (λc=>B.F0 c\/c=a) H ts ws:=yo (λc o e n=>⟨e,λz=>n (z.elim .inl λz=>.inr ⟨i,by rw[z];exact e2⟩)⟩) _ _ r;exact⟨_,e1,e.rt (.lst ts) _ H ⟨a,ws,rfl,na,e4,yo (λc o e n=>⟨e,λz=>n (.inl z)⟩) _ _ rr⟩ R.extB hd λ_=>⟨a,ts,ws,rfl,rfl,e3,e4,rr⟩⟩
 | _=>exact λz _=>z.elim
theorem yu (hc:OkT K c dc)(ha:OkS K fr a da)(hb:OkS K fr b db):OkS K fr (xjj c a b) (sIf dc da db):=λB φ σ τ H E G R hd e =>
 hc B φ σ τ H _ _ R hd λk H1 x1 k1=>by
  cases k with
  | true=>exact xbM (ha B φ σ τ H1 E G (R.hx x1) k1 e)
  | false=>exact xam (hb B φ σ τ H1 E G (R.hx x1) k1 e)
theorem xU (h:OkE K true te d):OkS K fr (xcC te (gX i)) (xi3 i d):=λB φ σ τ H E G R hd e =>h B φ σ τ H _ _ R hd λt v H1 x1 k1 r1=>e.nx _ _ _ H1 ((R.hx x1).setFz r1) k1
theorem we (h:OkF K te d):OkS K fr (xcC te (gX i)) (xim i d):=λB φ σ τ H E G R hd e =>
 h B φ σ τ H _ _ R hd λts a ws H1 x1 k1 h1 h2 h3=>by
  have z0:B.H0 a=none:=by
   cases q:B.H0 a with
   | none=>rfl
   | some o =>
    by_cases s:B.S0 a
    .exact absurd h1 (R.sst a (.inl s)).ne_none
    .rw[R.ext a o q s] at h1;cases h1
  refine e.nx _ _ _ H1 (R.setNew (x:=.ow ts) x1 h1 (by rw[h2];exact λz=>nomatch z) (λz=>nomatch z) ⟨a,ws,rfl,tP,z0,h2,yo (λc o e n=>⟨e,λz=>n ?_⟩) _ _ h3⟩) k1;rcases z with z | ⟨j,z⟩
  .exact .inl (.inl z)
  .rcases qx z with ⟨_,z⟩ | ⟨_,z⟩
   .exact .inr z
   .exact .inl (.inr ⟨j,z⟩)
theorem ze (h:OkE K true te d)(hg:OkG K g dg):OkS K fr (xcC te g) (xjU d dg):=λB φ σ τ H E G R hd e =>h B φ σ τ H _ _ R hd λt v H1 x1 k1 r1=>hg B φ σ τ H1 t v _ _ (R.hx x1) r1 k1 λ φ' σ' τ' H' R' _ _ k=>e.nx φ' σ' τ' H' R' k
theorem qm (h:OkA K true n ta da):OkS K fr (xjq i j ta) (xjR i j da):=λB φ σ τ H E G R hd e =>
 h B φ σ τ H _ _ R hd λts vs H1 x1 k1 l1 r1=>by
  cases ts with
  | nil=>exact k1.elim
  | cons t ts =>
   cases ts with
   | nil=>exact k1.elim
   | cons u ts =>
    cases ts with
    | cons _ _=>exact k1.elim
    | nil =>obtain⟨v,w,rfl,h1,h2⟩:=lX r1;exact⟨v,w,rfl,e.nx _ _ _ H1 (((R.hx x1).setFz h1).setFz (yx (λa o e n=>⟨e,λz=>n (k_ z)⟩) _ _ h2)) k1⟩
theorem rE (h:OkE K b te d):OkS K fr (xc6 te) (xif d):=λB φ σ τ H E G R hd e =>h B φ σ τ H _ _ R hd λt v H1 x1 k1 r1=>e.nx φ σ τ H1 (R.hx x1) k1
theorem vV (h:OkE K true te d):OkS K fr (xc6 (tBM K "list" xbm (rO i) (qA te xah))) (xji i d):=λB φ σ τ H E G R hd e=>by
 have en:=R.ent i;unfold xji at hd;revert en hd;cases hi:nth τ i with
 | ow ts =>intro hd ⟨a,ws,e1,e2,e3,e4,r⟩;refine⟨_,e1,.inl ⟨rfl,_,SqL.of e4⟩,h B φ σ τ H _ _ R hd λt v H1 x1 k1 r1=>?_⟩;obtain⟨ws',f4,f5,_⟩:=fV R x1 hi e1;exact⟨a,ws',v,rfl,rfl,f4,by rw[<-f5.len];exact k1.1,e.nx φ σ _ _ ((R.hx x1).wrOw hi e1 (f5.app (show z_ _ _ [t] [v] from⟨v,[],rfl,r1,rfl⟩))) k1.2⟩
 | _=>exact λz _=>z.elim
theorem xfU (h:OkS K fr a da):OkS K fr a (xhM i da):=λB φ σ τ H E G R hd e=>by
 unfold xhM at hd;revert hd;cases hi:nth τ i with
 | ow ts=>exact λhd=>h B _ σ _ H E G (R.freeze hi) hd e
 | _=>exact λz=>z.elim
end
end L2
namespace L2
open PySem PySem.Spec PyProof.Rows
abbrev DI:=TSt->(List Tr->Prop)->Prop
def xcJ (H H':Hp):Prop:=H'=H\/∃q o,H q=none/\H'=upd H q o
structure ItC (F S:Addr->Prop)(J:It)(ts:List Tr)(Src:Hp->Prop):Prop where
 stab:∀H H',Src H->(∀a o,H a=some o->¬S a->H' a=some o)->Src H'
 go:∀i H,Src H->i<ts.length->J.go i H
 stop:∀H,Src H->J.stop ts.length H
 yld:∀i H x H',Src H->(∀a,F a->H a≠none)->i<ts.length->J.yld i H x H'->xcJ H H'/\∃t,ts[i]? = some t/\Rep F H' t x
structure ItL (J:It)(ts:List Tr)(G:List (Tr×V)):Prop where
 go:∀F H i,(∀p∈G,Rep F H p.1 p.2)->i<ts.length->J.go i H
 stop:∀F H,(∀p∈G,Rep F H p.1 p.2)->J.stop ts.length H
 yld:∀F i H x H',(∀p∈G,Rep F H p.1 p.2)->(∀a,F a->H a≠none)->i<ts.length->J.yld i H x H'->xcJ H H'/\∃t,ts[i]? = some t/\Rep F H' t x
theorem ItL.c (h:ItL J ts G)(hS:∀a,S a->F a):ItC F S J ts (λH=>∀p∈G,Rep F H p.1 p.2) where
 stab:=λH H' s k p hp=>yx (λa o e n=>⟨k a o e λz=>n (hS a z),n⟩) _ _ (s p hp)
 go:=λi H s hi=>h.go F H i s hi
 stop:=λH s=>h.stop F H s
 yld:=λi H x H' s d hi y=>h.yld F i H x H' s d hi y
def OkI (K:PySem.W.Frag)(b:Bool)(wi:TI)(d:DI):Prop:=∀(B:FB) (φ:Phi) (σ:St) (τ:TSt) (H:Hp) (R:It->Hp->Prop) (KK:List Tr->Prop),RS K B φ σ τ H->d τ KK ->
 (∀J ts G H',HX B φ τ H H'->KK ts->ItL J ts G->(∀p∈G,Rep (AvB b B φ τ) H' p.1 p.2)->R J H')->wi σ H R
def xhU (K:PySem.W.Frag)(wi:TI)(d:DI):Prop:=∀(B:FB) (φ:Phi) (σ:St) (τ:TSt) (H:Hp) (R:It->Hp->Prop) (KK:List Tr->Prop),RS K B φ σ τ H->d τ KK ->
 (∀J ts Src H',HX B φ τ H H'->KK ts->ItC (Av B φ) (SA B φ τ) J ts Src->Src H'->R J H')->wi σ H R
section
variable {K:PySem.W.Frag} {B:FB} {φ:Phi} {σ:St} {τ:TSt} {H H' H'':Hp} {fr:Bool}
theorem OkI.c (h:OkI K true wi d):xhU K wi d:=λB φ σ τ H R KK Rs hd q=>h B φ σ τ H R KK Rs hd λJ ts G H' x k i s=>q J ts _ H' x k (i.c λa z=>Rs.sAv z) s
def xjB (d:DE):DI:=λ τ KK=>d τ λx=>match x with | .tup ts=>KK ts | .lst ts=>KK ts | _=>False
theorem xcD:ItL (Itl K a) ts [(.lst ts,.ref a)] where
 go:=λF H i s hi=>by obtain⟨a',ws,e,n,h,r⟩:=s _ xlK;cases e;obtain⟨w,e1,_⟩:=r.getT (xlc hi);exact⟨ws,w,SqL.of h,e1⟩
 stop:=λF H s=>by obtain⟨a',ws,e,n,h,r⟩:=s _ xlK;cases e;exact⟨ws,SqL.of h,by rw[<-r.len];exact xmd _⟩
 yld:=λF i H x H' s d hi y=>by obtain⟨a',ws,e,n,h,r⟩:=s _ xlK;cases e;obtain⟨rfl,y⟩:=y;obtain⟨t,e1,e2⟩:=r.get (y ws (SqL.of h));exact⟨.inl rfl,t,e1,e2⟩
theorem xeS:ItL (Itt K a) ts [(.tup ts,.ref a)] where
 go:=λF H i s hi=>by obtain⟨a',ws,e,n,h,r⟩:=s _ xlK;cases e;obtain⟨w,e1,_⟩:=r.getT (xlc hi);exact⟨ws,w,SqT.of h,e1⟩
 stop:=λF H s=>by obtain⟨a',ws,e,n,h,r⟩:=s _ xlK;cases e;exact⟨ws,SqT.of h,by rw[<-r.len];exact xmd _⟩
 yld:=λF i H x H' s d hi y=>by obtain⟨a',ws,e,n,h,r⟩:=s _ xlK;cases e;obtain⟨rfl,y⟩:=y;obtain⟨t,e1,e2⟩:=r.get (y ws (SqT.of h));exact⟨.inl rfl,t,e1,e2⟩
def xh_ (i:Nat):DI:=λ τ KK=>match nth τ i with | .ow ts=>KK ts | _=>False
theorem xdD:xhU K (xic K (rO i)) (xh_ i):=λB φ σ τ H R KK Rs hd q=>by
 have en:=Rs.ent i;unfold xh_ at hd;revert en hd;cases hi:nth τ i with
 | ow ts =>
  intro hd ⟨a,ws,e1,e2,e3,e4,r⟩;refine⟨_,e1,a,rfl,⟨ws,SqL.of e4⟩,q _ ts (λH=>H a=some (.lst ws)/\z_ (Av B φ) H ts ws) H (HX.refl Rs) hd ⟨?_,?_,?_,?_⟩ ⟨e4,r⟩⟩
  .intro H1 H2 ⟨s1,s2⟩ k;exact⟨k a _ s1 λz=>oH Rs hi e2 e3 (.inr z),yo (λc o e n=>⟨k c o e λz=>n (Rs.sAv z),n⟩) _ _ s2⟩
  .intro j H1 ⟨s1,s2⟩ hj;obtain⟨w,f1,_⟩:=s2.getT (xlc hj);exact⟨ws,w,SqL.of s1,f1⟩
  .intro H1 ⟨s1,s2⟩;exact⟨ws,SqL.of s1,by rw[<-s2.len];exact xmd _⟩
  .intro j H1 x H2 ⟨s1,s2⟩ _ hj ⟨f,y⟩;subst f;obtain⟨t,g1,g2⟩:=s2.get (y ws (SqL.of s1));exact⟨.inl rfl,t,g1,g2⟩
 | _=>exact λz _=>z.elim
def xaJ (lo:Int)(n:Nat):List Tr:=(List.range n).map λ(k:Nat)=>Tr.int (lo+k)
theorem ur (lo:Int)(n:Nat):(xaJ lo n).length=n:=by unfold xaJ;rw[xlq,xlt]
theorem j6 {lo:Int}{n i:Nat}(h:i<n):(xaJ lo n)[i]? = some (.int (lo+i)):=by unfold xaJ;rw[xlf,xlg h];rfl
theorem nh {lo:Int}{n:Nat}:ItL (Itr lo n) (xaJ lo n) [] where
 go:=λF H i s hi=>by rw[ur] at hi;exact hi
 stop:=λF H s=>by rw[ur];exact xmd _
 yld:=λF i H x H' s d hi y=>by rw[ur] at hi;obtain⟨rfl,rfl⟩:=y;exact⟨.inl rfl,_,j6 hi,rfl⟩
def xf0 (d:DA):DI:=λ τ KK=>d τ λxs=>match xs with | [.int j]=>(-(2 ^ 62)<=j/\j<2 ^ 62)/\KK (xaJ 0 j.toNat) | _=>False
def xfw (d:DA):DI:=λ τ KK=>d τ λxs=>match xs with | [.int i,.int j]=>(-(2 ^ 62)<=i/\i<2 ^ 62/\-(2 ^ 62)<=j/\j<2 ^ 62)/\KK (xaJ i (j-i).toNat) | _=>False
theorem g9 (h:OkA K b n ta da):OkI K true (xhz ta) (xf0 da):=λB φ σ τ H R KK Rs hd q =>
 h B φ σ τ H _ _ Rs hd λts vs H1 x1 k1 l1 r1=>by
  split at k1
  .rename_i j;obtain⟨v,rfl,e⟩:=jj r1;exact⟨j,by rw[show v=.int j from e],k1.1.1,k1.1.2,q _ _ [] H1 x1 k1.2 nh λp hp=>absurd hp (by simp)⟩
  .exact k1.elim
theorem aH (h:OkA K b n ta da):OkI K true (xgq ta) (xfw da):=λB φ σ τ H R KK Rs hd q =>
 h B φ σ τ H _ _ Rs hd λts vs H1 x1 k1 l1 r1=>by
  split at k1
  .rename_i i j;obtain⟨v,w,rfl,e,e'⟩:=lX r1;exact⟨i,j,by rw[show v=.int i from e,show w=.int j from e'],k1.1,q _ _ [] H1 x1 k1.2 nh λp hp=>absurd hp (by simp)⟩
  .exact k1.elim
def xcX (dg:DG)(body:DS)(G:lM):List Tr->TSt->Prop
 | [],τ=>G.nx τ
 | x::xs,τ=>dg x τ λ τ'=>body { G with nx:=xcX dg body G xs,ct:=xcX dg body G xs,bk:=G.nx } τ'
def xio (di:DI)(dg:DG)(body:DS):DS:=λG τ=>di τ λxs=>xcX dg body G xs τ
def FB.more (B:FB)(G:List (Tr×V)):FB:={ B with G0:=G++B.G0 }
theorem RS.more (R:RS K B φ σ τ H)(h:∀p∈G,Rep (Av B φ) H p.1 p.2):RS K (B.more G) φ σ τ H :=⟨R.f0,R.s0,R.ext,R.sst,R.injG,R.ow,R.len,R.ent,λp hp=>(xlF.mp hp).elim (h p) (R.gh p)⟩
theorem RS.less (R:RS K (B.more G) φ σ τ H):RS K B φ σ τ H/\∀p∈G,Rep (Av B φ) H p.1 p.2 :=⟨⟨R.f0,R.s0,R.ext,R.sst,R.injG,R.ow,R.len,R.ent,λp hp=>R.gh p (xlH _ hp)⟩,λp hp=>R.gh p (xlG _ hp)⟩
theorem xcJ.hx (R:RS K B φ σ τ H)(g:xcJ H H'):HX B φ τ H H':=by
 rcases g with rfl | ⟨q,o,e,rfl⟩
 .exact HX.refl R
 .exact HX.new R e o
theorem yX (hi:OkI K true wi di)(hg:OkG K g dg)(hb:OkS K fr tb db):OkS K fr (xi7 wi g tb) (xio di dg db):=λB φ σ τ H E G R hd e =>
 hi B φ σ τ H _ _ R hd λJ ts Gh H1 x1 k1 it gh=>by
  let W:Nat->St->Hp->Prop:=λi σ' H'=>i<=ts.length/\∃ φ' τ',RS K (B.more Gh) φ' σ' τ' H'/\xcX dg db G (ts.drop i) τ'
  refine⟨λi m σ' H'=>m=ts.length-i/\W i σ' H',⟨_,rfl,xms _,φ,τ,(R.hx x1).more gh,k1⟩,?_⟩;rintro i m σ' H' ⟨rfl,hle,φ',τ',R',f⟩;obtain⟨R0,g0⟩:=R'.less;by_cases hlt:i<ts.length
  .refine .inr ⟨it.go _ H' i g0 hlt,W (i+1),λ σ2 H2 w=>⟨_,by omega,rfl,w⟩,λx H2 y=>?_⟩;obtain⟨gr,t,ht,rt⟩:=it.yld _ i H' x H2 g0 (λa z=>R0.dom z) hlt y;have hx:=gr.hx R';have R2:=R'.hx hx;have ed:ts.drop i=t::ts.drop (i+1):=by rw[xkZ hlt];rw[xlc hlt] at ht;cases ht;rfl
   rw[ed] at f;refine hg (B.more Gh) φ' σ' τ' H2 t x _ _ R2 rt f λ φ3 σ3 τ3 H3 R3 _ _ k3=>?_;exact hb (B.more Gh) φ3 σ3 τ3 H3 _ _ R3 k3 ⟨λ φ4 σ4 τ4 H4 R4 k4=>⟨hlt,φ4,τ4,R4,k4⟩,λ φ4 σ4 τ4 H4 R4 k4=>e.nx φ4 σ4 τ4 H4 R4.less.1 k4,λ φ4 σ4 τ4 H4 R4 k4=>⟨hlt,φ4,τ4,R4,k4⟩,λt v H r x k f=>e.rt t v H r ⟨x.ext,x.st⟩ k f⟩
  .have ei:i=ts.length:=by omega
   subst ei;rw[List.drop_length] at f;exact .inl ⟨it.stop _ H' g0,e.nx φ' σ' τ' H' R0 f⟩
def xfL (c:DT)(body:DS)(G:lM):Nat->TSt->Prop
 | 0,_=>False
 | n+1,τ=>c τ λb=>if b=true then body { G with nx:=xfL c body G n,ct:=xfL c body G n,bk:=G.nx } τ else G.nx τ
def xew (c:DT)(body:DS):DS:=λG τ=>∃n,xfL c body G n τ
theorem j1 (hc:OkT K c dc)(hb:OkS K fr tb db):OkS K fr (xei c tb) (xew dc db):=λB φ σ τ H E G R hd e=>by
 obtain⟨n,hd⟩:=hd;refine⟨λm σ' H'=>∃ φ' τ',RS K B φ' σ' τ' H'/\xfL dc db G m τ',⟨n,φ,τ,R,hd⟩,?_⟩;rintro m σ' H' ⟨φ',τ',R',f⟩;cases m with
 | zero=>exact f.elim
 | succ m =>
  refine hc B φ' σ' τ' H' _ _ R' f λb H1 x1 k1=>?_;cases b with
  | true =>refine xbM ⟨λ σ2 H2=>∃ φ2 τ2,RS K B φ2 σ2 τ2 H2/\xfL dc db G m τ2,λ σ2 H2 w=>⟨m,by omega,w⟩,?_⟩;exact hb B φ' σ' τ' H1 _ _ (R'.hx x1) k1 ⟨λ φ4 σ4 τ4 H4 R4 k4=>⟨φ4,τ4,R4,k4⟩,λ φ4 σ4 τ4 H4 R4 k4=>e.nx φ4 σ4 τ4 H4 R4 k4,λ φ4 σ4 τ4 H4 R4 k4=>⟨φ4,τ4,R4,k4⟩,e.rt⟩
  | false=>exact xam (e.nx φ' σ' τ' H1 (R'.hx x1) k1)
def xa1 (dg:DG)(dc:DT)(de:DE)(τi:TSt)(KK:List Tr->Prop):List Tr->List Tr->Prop
 | [],acc=>KK acc
 | x::xs,acc=>dg x τi λ τ2=>dc τ2 λb=>if b=true then de τ2 λy=>xa1 dg dc de τi KK xs (acc++[y]) else xa1 dg dc de τi KK xs acc
def xi_:TV->TV
 | .ow _=>.un
 | .od _=>.un
 | x=>x
def tG (tau:List (Option Nat))(τ:TSt):TSt:=tau.map λo=>match o with | some j=>xi_ (nth τ j) | none=>.un
def xh5 (tau:List (Option Nat))(di:DI)(dg:DG)(dc:DT)(de:DE):DE:=λ τ KK=>di τ λxs=>xs.length<sizeLine/\xa1 dg dc de (tG tau τ) (λys=>KK (.lst ys)) xs []
def xdg:DT:=λ_ KK=>KK true
theorem yU:OkT K xgG xdg:=λB φ σ τ H Q KK R hd q=>q true H (HX.refl R) hd
def FB.inner (B:FB)(φ:Phi)(τ:TSt)(H:Hp):FB:=⟨Av B φ,SA B φ τ,H,[]⟩
def lO (tau:List (Option Nat))(φ:Phi)(τ:TSt):Phi:=λi=>match tau[i]? with | some (some j)=>(match nth τ j with | .st=>φ j | _=>none) | _=>none
theorem bQ:∀ {i:Nat},nth (tG tau τ) i=match tau[i]? with | some (some j)=>xi_ (nth τ j) | _=>.un:=by
 intro i;by_cases h:i<tau.length
 .have h':i<(tG tau τ).length:=by unfold tG;rw[xlq];exact h
  rw[jF h',xlc h];simp only[tG,List.getElem_map];cases tau[i]<;>rfl
 .rw[wB (by unfold tG;rw[xlq];omega),xld (by omega)]
theorem tw {tau:List (Option Nat)}{i j:Nat}{v:V}(h:tau[i]? = some (some j))(e:σ[j]? = some (some v)):(aK tau σ)[i]? = some (some v):=by unfold aK;rw[xlf,h];simp only[Option.map_some,e,Option.getD_some]
theorem RS.inner {tau:List (Option Nat)}(R:RS K B φ σ τ H):RS K (B.inner φ τ H) (lO tau φ τ) (aK tau σ) (tG tau τ) H:=by
 have hphi:∀i a,lO tau φ τ i=some a->∃j,tau[i]? = some (some j)/\nth τ j=.st/\φ j=some a:=λi a e=>by
  unfold lO at e;split at e
  .rename_i j hj;split at e
   .rename_i hs;exact⟨j,hj,hs,e⟩
   .cases e
  .cases e
 have hav:∀a,Av (B.inner φ τ H) (lO tau φ τ) a->Av B φ a:=λa z=>by
  rcases z with z | ⟨i,z⟩
  .exact z
  .obtain⟨j,_,_,e⟩:=hphi i a z;exact .inr ⟨j,e⟩
 refine⟨λa z=>R.dom z,λa z=>R.sAv z,λa o e _=>e,λa s=>?_,λi j a hi e1 _=>?_,λi a e=>?_,?_,λi=>?_,λp hp=>absurd hp (by simp[FB.inner])⟩
 .rcases s with s | ⟨i,s,_⟩
  .exact R.sst a s
  .obtain⟨j,_,hs,e⟩:=hphi i a s;exact R.sst a (.inr ⟨j,e,hs⟩)
 .exfalso;rw[bQ] at hi;split at hi
  .rename_i j hj;revert hi;cases nth τ j<;>intro hi<;>exact hi.elim
  .exact hi.elim
 .obtain⟨j,_,_,e⟩:=hphi i a e;exact R.ow j a e
 .unfold aK tG;rw[xlq,xlq]
 .rw[bQ];split
  .rename_i j hj;have en:=R.ent j;cases hn:nth τ j with
   | un=>trivial
   | ow ts=>trivial
   | od ks=>trivial
   | fz t =>rw[hn] at en;obtain⟨v,e,r⟩:=en;exact⟨v,tw hj e,yx (λa o e n=>⟨e,λz=>n (hav a z)⟩) _ _ r⟩
   | st =>rw[hn] at en;obtain⟨p,e1,e2,e3⟩:=en;refine⟨p,tw hj e1,?_,.inl (.inr ⟨j,e2,hn⟩)⟩;unfold lO;simp only[hj,hn];exact e2
   | sc ns =>rw[hn] at en;obtain⟨a,e,l,q⟩:=en;exact⟨a,tw hj e,l,q⟩
   | ob a =>rw[hn] at en;exact tw hj en
  .trivial
theorem yk (hi:xhU K wi di)(hg:OkN K g dg)(hc:OkT K tc dc)(he:OkE K b te de) :
  OkF K (xc_ wi tau g tc te) (xh5 tau di dg dc de):=λB φ σ τ H Q KK R hd q =>
 hi B φ σ τ H _ _ R hd λJ ts Src H1 x1 k1 it s1=>by
  refine⟨λi m ys H'=>m=ts.length-i/\i<=ts.length/\ys.length<=i/\HX B φ τ H H'/\Src H'/\∃acc,z_ (Av B φ) H' acc ys/\xa1 dg dc de (tG tau τ) (λys=>KK (.lst ys)) (ts.drop i) acc,⟨_,rfl,xms _,xms _,x1,s1,[],rfl,k1.2⟩,?_⟩;rintro i m ys H' ⟨rfl,hle,hys,x,s,acc,ra,f⟩;have R':=R.hx x;by_cases hlt:i<ts.length
  .refine .inr ⟨it.go i H' s hlt,by have:=k1.1;omega,λv H2 y=>?_⟩;obtain⟨gr,t,ht,rt⟩:=it.yld i H' v H2 s (λa z=>R'.dom z) hlt y;have hx:=gr.hx R';have R2:=R'.hx hx;have ed:ts.drop i=t::ts.drop (i+1):=by rw[xkZ hlt];rw[xlc hlt] at ht;cases ht;rfl
   rw[ed] at f;refine hg (B.inner φ τ H2) _ _ _ H2 (Av B φ) t v _ _ R2.inner (λa z=>?_) rt f λ φ3 σ3 τ3 R3 ha k3=>?_
   .rcases z with z | ⟨j,z⟩
    .exact z
    .unfold lO at z;split at z
     .split at z
      .exact .inr ⟨_,z⟩
      .cases z
     .cases z
   have hsa:∀a,SA (B.inner φ τ H2) φ3 τ3 a->SA B φ τ a:=λa z=>by
    rcases z with z | ⟨j,z,hj⟩
    .exact z
    .have en:=R3.ent j;rw[hj] at en;obtain⟨p,e1,e2,e3⟩:=en;rw[z] at e2;cases e2;rcases e3 with e3 | e3
     .exact e3
     .exact absurd e3 (R3.sst a (.inr ⟨j,z,hj⟩)).ne_none
   have hxo:∀ {H3 H4:Hp},HX (B.inner φ τ H2) φ3 τ3 H3 H4->HX B φ τ H3 H4:=λ {H3 H4} h=>⟨λa o e n=>h.keep a o e λz=>n (hsa a z),λa z=>h.st a (.inl z)⟩
   refine hc _ φ3 σ3 τ3 H2 _ _ R3 k3 λc H3 x3 k4=>?_;have x23:=hxo x3;have s3:=it.stab _ _ (it.stab _ _ s λa o e n=>hx.keep a o e n) λa o e n=>x23.keep a o e n;cases c with
   | false =>refine xam ⟨_,by omega,rfl,hlt,by omega,(x.trans hx).trans x23,s3,acc,(hx.trans x23).repL (λa z=>R.sAv z) ra,?_⟩;simpa using k4
   | true =>
    refine xbM (he _ φ3 σ3 τ3 H3 _ _ (R3.hx x3) k4 λu w H4 x4 k5 r5=>?_);have x34:=hxo x4;refine⟨_,by omega,rfl,hlt,by rw[xll,xlx];omega,((x.trans hx).trans x23).trans x34,it.stab _ _ s3 λa o e n=>x34.keep a o e n,acc++[u],(((hx.trans x23).trans x34).repL (λa z=>R.sAv z) ra).app (show z_ _ _ [u] [w] from⟨w,[],rfl,?_,rfl⟩),k5⟩;refine yx (λa o e n=>⟨e,λz=>n ?_⟩) _ _ r5;cases b with
    | true=>exact .inl z
    | false=>exact .inl z
  .have ei:i=ts.length:=by omega
   subst ei;rw[List.drop_length] at f;refine .inl ⟨it.stop H' s,λp hp=>q acc p ys _ (x.trans (HX.new R' hp _)) f (x.none hp) xV (vt hp ra)⟩
end
end L2
namespace L2
open PySem PySem.Spec PyProof.Rows
def startT (N:List Str):Bool->List Tr->TSt
 | true,ts=>.st::(ts.map TV.fz++List.replicate (N.length-(ts.length+1)) .un)
 | false,ts=>ts.map TV.fz++List.replicate (N.length-ts.length) .un
theorem gT {ts:List Tr}{n i:Nat}{x:TV}(h:nth (ts.map TV.fz++List.replicate n .un) i=x):x=.un\/∃t,ts[i]? = some t/\x=.fz t:=by
 by_cases hi:i<ts.length
 .right;rw[jF (by simp;omega),List.getElem_append_left (by simpa using hi),List.getElem_map] at h;exact⟨_,xlc hi,h.symm⟩
 .left;by_cases h2:i<ts.length+n
  .rw[jF (by simp;omega),List.getElem_append_right (by simp;omega),List.getElem_replicate] at h;exact h.symm
  .rw[wB (by simp;omega)] at h;exact h.symm
theorem jZ {N:List Str}{vs:List V}{i:Nat}{v:V}(h:vs[i]? = some v):(start N vs)[i]? = some (some v):=by unfold start;have hi:=(xle.mp h).1;rw[xla (by simpa using hi),xlf,h];rfl
theorem sA (h:vs.length<=N.length):(start N vs).length=N.length:=by unfold start;rw[xll,xlq,xlu];omega
section
variable {P:Program} {w:World} {K:PySem.W.Frag} {mg:Str->Option Value} {base:Heap} {k n:Nat} {x qual:Str} {st:Stmt} {f:Addr} {fd:FuncData} {N ps:List Str} {fr:Bool} {sp:TSp}
theorem xbY {F S:Addr->Prop}{H:Hp}{ts:List Tr}{us:List V}(hF:∀a,F a->H a≠none)(hS:∀a,S a->F a)(hst:∀a,S a->xao a H)(r:z_ F H ts us)(hl:ts.length<=N.length) :
  RS K ⟨F,S,H,[]⟩ (λ_=>none) (start N us) (startT N false ts) H where
 f0:=hF
 s0:=hS
 ext:=λa o e _=>e
 sst:=λa s=>by
  rcases s with s | ⟨i,s,_⟩
  .exact hst a s
  .cases s
 injG:=λi j a _ e=>by cases e
 ow:=λi a e=>by cases e
 len:=by have:=r.len;rw[sA (by omega)];simp[startT];omega
 ent:=λi=>by
  rcases gT (ts:=ts) (n:=N.length-ts.length) (i:=i) rfl with e | ⟨t,h,e⟩
  .show Ent K _ _ H i _ (nth (ts.map TV.fz++List.replicate (N.length-ts.length) .un) i);rw[e];trivial
  .show Ent K _ _ H i _ (nth (ts.map TV.fz++List.replicate (N.length-ts.length) .un) i);rw[e];obtain⟨v,e1,e2⟩:=r.getT h;exact⟨v,jZ e1,yx (λa o e n=>⟨e,λz=>n (z.elim id λ⟨_,z⟩=>nomatch z)⟩) _ _ e2⟩
 gh:=λp hp=>absurd hp (by simp)
theorem xbt {F S:Addr->Prop}{H:Hp}{ts:List Tr}{us:List V}{p:Addr}(hp:S p)(hF:∀a,F a->H a≠none)(hS:∀a,S a->F a)(hst:∀a,S a->xao a H)(r:z_ F H ts us)(hl:ts.length+1<=N.length) :
  RS K ⟨F,S,H,[]⟩ (λi=>if i=0 then some p else none) (start N (.ref p::us)) (startT N true ts) H where
 f0:=hF
 s0:=hS
 ext:=λa o e _=>e
 sst:=λa s=>by
  rcases s with s | ⟨i,s,_⟩
  .exact hst a s
  .have s:(if i=0 then some p else none)=some a:=s;by_cases e:i=0
   .rw[if_pos e] at s;cases s;exact hst _ hp
   .rw[if_neg e] at s;cases s
 injG:=λi j a hi e=>by
  exfalso;by_cases e0:i=0
  .subst e0;exact hi.elim
  .rw[if_neg e0] at e;cases e
 ow:=λi a e=>by
  by_cases e0:i=0
  .rw[if_pos e0] at e;cases e;exact(hst _ hp).ne_none
  .rw[if_neg e0] at e;cases e
 len:=by have:=r.len;rw[sA (by rw[xlm];omega)];simp[startT];omega
 ent:=λi=>by
  cases i with
  | zero=>exact⟨p,jZ (by rfl),if_pos rfl,.inl hp⟩
  | succ i =>
   show Ent K _ _ H (i+1) _ (nth (ts.map TV.fz++List.replicate (N.length-(ts.length+1)) .un) i);rcases gT (ts:=ts) (n:=N.length-(ts.length+1)) (i:=i) rfl with e | ⟨t,h,e⟩
   .rw[e];trivial
   .rw[e];obtain⟨v,e1,e2⟩:=r.getT h;refine⟨v,jZ (by rw[List.getElem?_cons_succ];exact e1),yx (λa o e n=>⟨e,λz=>n ?_⟩) _ _ e2⟩;rcases z with z | ⟨j,z⟩
    .exact z
    .have z:(if j=0 then some p else none)=some a:=z;by_cases e0:j=0
     .rw[if_pos e0] at z;cases z;exact hS _ hp
     .rw[if_neg e0] at z;cases z
 gh:=λp hp=>absurd hp (by simp)
theorem xw (F:Fun K x qual st f fd)(S:xy N ps (xf st))(mgx:mg x=some (.ref f))(b:Binds K fd ps [])(hn:ps.length=n)
  (body:∀(cdv:Value) (A:Around) (outer:List Env) (s:Shared) (H:Hp) (E:XK),dZ k (A.deeper (envOfC qual (xf st) s.heap.objs.size f cdv)) ->
   ∃T D,PSs (xcB CX0 P w K mg base N qual (xf st) f cdv A outer s H E).nox (zE st) T/\OkS K fr T D/\∀ts KK,ts.length=n->sp ts KK->D { nx:=λ_=>fr=false/\KK .non,rt:=KK } (startT N false ts)) :
  Own P w K mg base (k+1) x ps (spT n false fr sp):=by
 have hpl:ps.length<=N.length:=by have:=xmu List.length S.pre;rw[xly] at this;omega
 refine mM F S mgx b (λvs H Q E h=>?_) (λcdv A outer s H vs Q E hr h=>?_)
 .obtain⟨F',S',ts,KK,us,e,_,_,_,r,l,_⟩:=h;cases (show vs=us from e);rw[<-r.len,l,hn]
 .obtain⟨F',S',ts,KK,us,e,hF,hS,hst,r,l,hsp,q⟩:=h;cases (show vs=us from e);obtain⟨T,D,ht,hd,h⟩:=body cdv A outer s H E hr;refine⟨T,ht,hd _ _ _ _ H _ _ (xbY hF hS hst r (by omega)) (h ts KK l hsp) ⟨λ φ σ τ H1 R k=>?_,λ_ _ _ _ _ z=>z.elim,λ_ _ _ _ _ z=>z.elim,λt v H1 r1 x k fl=>?_⟩⟩
  .obtain⟨k1,k2⟩:=k;exact q .non .non H1 k2 R.ext (λa z=>R.sst a (.inl z)) rfl λz=>by rw[k1] at z;cases z
  .exact q t v H1 k x.ext x.st r1 fl
theorem mU (F:Fun K x qual st f fd)(S:xy N ps (xf st))(mgx:mg x=some (.ref f))(b:Binds K fd ps [])(hn:ps.length=n+1)
  (body:∀(cdv:Value) (A:Around) (outer:List Env) (s:Shared) (H:Hp) (E:XK),dZ k (A.deeper (envOfC qual (xf st) s.heap.objs.size f cdv)) ->
   ∃T D,PSs (xcB CX0 P w K mg base N qual (xf st) f cdv A outer s H E).nox (zE st) T/\OkS K fr T D/\∀ts KK,ts.length=n->sp ts KK->D { nx:=λ_=>fr=false/\KK .non,rt:=KK } (startT N true ts)) :
  Own P w K mg base (k+1) x ps (spT n true fr sp):=by
 have hpl:ps.length<=N.length:=by have:=xmu List.length S.pre;rw[xly] at this;omega
 refine mM F S mgx b (λvs H Q E h=>?_) (λcdv A outer s H vs Q E hr h=>?_)
 .obtain⟨F',S',ts,KK,us,⟨p,e,_⟩,_,_,_,r,l,_⟩:=h;rw[e,xlm,<-r.len,l,hn]
 .obtain⟨F',S',ts,KK,us,⟨p,e,hp⟩,hF,hS,hst,r,l,hsp,q⟩:=h;subst e;obtain⟨T,D,ht,hd,h⟩:=body cdv A outer s H E hr;refine⟨T,ht,hd _ _ _ _ H _ _ (xbt hp hF hS hst r (by omega)) (h ts KK l hsp) ⟨λ φ σ τ H1 R k=>?_,λ_ _ _ _ _ z=>z.elim,λ_ _ _ _ _ z=>z.elim,λt v H1 r1 x k fl=>?_⟩⟩
  .obtain⟨k1,k2⟩:=k;exact q .non .non H1 k2 R.ext (λa z=>R.sst a (.inl z)) rfl λz=>by rw[k1] at z;cases z
  .exact q t v H1 k x.ext x.st r1 fl
def xip (H:Hp):Prop:=∀b,(H b=none\/∃o xs,H b=some (.frz o (.lst xs)))\/∃q,H b=some (.tb q)
def lZ (K:PySem.W.Frag):Sp:=λvs H Q _=>∃(a:Addr) (ns:List Int),vs=[.ref a]/\(xip H/\xeg K H)/\SqL K H a (ns.map V.int)/\ns.length<=63/\∀H',Q (.bl true) H'
theorem xdj (F:Fun K x qual st f fd)(S:xy N ps (xf st))(hn:ps.length=1)
  (body:∀(cdv:Value) (A:Around) (outer:List Env) (s:Shared) (H:Hp) (E:XK),dZ k (A.deeper (envOfC qual (xf st) s.heap.objs.size f cdv)) ->
   ∃T D,PSs (xcB CX0 P w K mg base N qual (xf st) f cdv A outer s H E).nox (zE st) T/\OkS K false T D/\∀ns:List Int,ns.length<=63->D { nx:=λ_=>False,rt:=λt=>t=.bl true } (.sc ns::List.replicate (N.length-1) .un)) :
  mF P w K mg base CX0 (k+1) f fd ps (lZ K):=by
 have hpl:ps.length<=N.length:=by have:=xmu List.length S.pre;rw[xly] at this;omega
 refine F.ok S (λvs H Q E h=>?_) (λcdv A outer s H vs Q E hr h=>?_)
 .obtain⟨a,ns,rfl,_⟩:=h;exact hn.symm
 .obtain⟨a,ns,rfl,⟨hO,hT⟩,hS,hl,q⟩:=h;obtain⟨T,D,ht,hd,h⟩:=body cdv A outer s H E hr;have so:xdl K H a ns:=by
   refine⟨?_,hT⟩;rcases hS with (z | ⟨o,z⟩) | z
   .exfalso;rcases hO a with (y | ⟨o,xs,y⟩) | ⟨_,y⟩
    .rw[y] at z;cases z
    .rw[y] at z;cases z
    .rw[y] at z;cases z
   .exact .inl ⟨o,z⟩
   .exact .inr λ_=>.inr z
  have R:RS K ⟨λ_=>False,λ_=>False,H,[]⟩ (λ_=>none) (start N [.ref a]) (.sc ns::List.replicate (N.length-1) .un) H:=by
   refine⟨λ_ z=>z.elim,λ_ z=>z,λ_ _ e _=>e,λa s=>?_,λi j a us _ e=>(by cases e),λi a e=>(by cases e),?_,λi=>?_,λp hp=>absurd hp (by simp)⟩
   .rcases s with s | ⟨i,s,_⟩
    .exact s.elim
    .cases s
   .rw[sA (by simp;omega)];simp;omega
   .cases i with
    | zero=>exact⟨a,jZ rfl,hl,so⟩
    | succ i =>
     show Ent K _ _ H (i+1) _ (nth (List.replicate (N.length-1) .un) i);rcases gT (ts:=[]) (n:=N.length-1) (i:=i) rfl with e | ⟨t,h,e⟩
     .rw[xlD,xlV] at e;rw[e];trivial
     .simp at h
  refine⟨T,ht,hd _ _ _ _ H _ _ R (h ns hl) ⟨λ_ _ _ _ _ z=>z.elim,λ_ _ _ _ _ z=>z.elim,λ_ _ _ _ _ z=>z.elim,λt v H1 r1 x k fl=>?_⟩⟩;cases (show t=.bl true from k);cases (show v=.bl true from r1);exact q H1
end
section
variable {K:PySem.W.Frag} {fr:Bool}
def xen (j i:Nat)(d:DE):DS:=λG τ=>match nth τ i with | .sc _=>d τ (λt=>match t with | .int k=>0<=k/\G.nx (τ.set j .st) | _=>False) | _=>False
theorem xa8 (h:OkE K b te d):OkS K fr (xcC (xgj (cO K) (qA (rO i) (qA te xah))) (gX j)) (xen j i d):=λB φ σ τ H E G R hd e=>by
 have en:=R.ent i;unfold xen at hd;revert en hd;cases hi:nth τ i with
 | sc ns =>
  intro hd ⟨a,e1,hl,so,_⟩;refine⟨_,e1,h B φ σ τ H _ _ R hd λt v H1 x1 k1 r1=>?_⟩;cases t with
  | int k =>
   cases (show v=.int k from r1);have sq:SqL K H1 a (ns.map V.int):=by
    rcases so with ⟨o,q⟩ | q
    .exact .inl (.inr ⟨o,x1.keep a _ q (rL R q)⟩)
    .exact q H1
   refine⟨a,ns,k,rfl,sq,hl,k1.1,λp n b hp hok=>?_⟩;have x2:=x1.trans (HX.new (R.hx x1) hp (.lst [.int n,.bl b]));have z0:B.H0 p=none:=by
    cases q:B.H0 p with
    | none=>rfl
    | some o =>
     by_cases s:B.S0 p
     .exact absurd hp ((R.hx x1).sst p (.inl s)).ne_none
     .rw[(R.hx x1).ext p o q s] at hp;cases hp
   refine e.nx _ _ _ _ (R.setNew (x:=.st) x2 (x1.none hp) (by rw[xV];exact λz=>nomatch z) (λ_=>⟨n,b,xV,hok⟩) ⟨p,rfl,tP,.inr z0⟩) k1.2
  | _=>exact k1.elim
 | _=>exact λz _=>z.elim
def xaK:TSp:=λts KK=>match ts with | [.int many]=>(0<many/\many<2 ^ 128)/\∀r,0<=r->r<many->KK (.int r) | _=>False
theorem xbN (h:Own P w K mg base k x ps xej):Own P w K mg base k x ps (spT 1 true false xaK):=h.imp λvs H Q E q=>by
 obtain⟨F,S,ts,KK,us,⟨p,e,hp⟩,hF,hS,hst,r,l,hsp,q⟩:=q;unfold xaK at hsp;split at hsp
 .rename_i many;obtain⟨v,rfl,r1⟩:=jj r;cases (show v=.int many from r1);refine⟨p,many,e,hst p hp,hsp.1.1,hsp.1.2,λr H' h0 h1 sb=>q (.int r) (.int r) H' (hsp.2 r h0 h1) (λa o e n=>sb.keep a o (λz=>n (by rw[z];exact hp)) e) (λa s=>?_) rfl (λz=>nomatch z)⟩;by_cases ea:a=p
  .rw[ea];exact sb.st
  .obtain⟨n,b,e1,z⟩:=hst a s;exact⟨n,b,sb.keep a _ ea e1,z⟩
 .exact hsp.elim
end
end L2
namespace L2
open PySem PySem.Spec PyProof.Rows
mutual
def qf:Tr->PyData
 | .non=>.none | .bl b=>.bool b | .int i=>.int i | .str x=>.str x | .emp=>.dict [] | .tup ts=>.tuple (uP ts) | .lst ts=>.list (uP ts)
def uP:List Tr->List PyData
 | []=>[]
 | t::ts=>qf t::uP ts
end
def teq (t u:Tr):Bool:=PyData.eqv (qf t) (qf u)
def pln (t:Tr):Bool:=(qf t).canLay0
def dep (t:Tr):Nat:=(qf t).depth
section
variable {X:Cx} {pins:List (Addr×Obj)} {σ:St} {H:Hp} {s:Shared}
mutual
theorem vk (I:Inv X pins σ H s):∀(t:Tr) (x:V) (a:Value),Rep F H t x->RelV x a->pln t=true->∃as,Reads s.heap a (qf t) as
 | .non,x,a,r,e,_=>by cases (show x=.non from r);cases e;exact⟨_,.none⟩
 | .bl b,x,a,r,e,_=>by cases (show x=.bl b from r);cases e;exact⟨_,.bool b⟩
 | .int i,x,a,r,e,_=>by cases (show x=.int i from r);obtain⟨t,rfl⟩:=e;exact⟨_,.int i t⟩
 | .str i,x,a,r,e,_=>by cases (show x=.str i from r);obtain⟨t,rfl⟩:=e;exact⟨_,.str i t⟩
 | .emp,x,a,r,e,h=>by cases h
 | .tup ts,x,a,r,e,h=>by obtain⟨p,ws,rfl,_,hp,rl⟩:=r;cases e;obtain⟨its,rv,⟨o,ho,hc,n,hd⟩,_⟩:=I.tuple (SqT.of hp);obtain⟨as,ra⟩:=ue I ts ws its rl rv h;exact⟨_,.tuple ho hc hd (by simpa using ra)⟩
 | .lst ts,x,a,r,e,h=>by obtain⟨p,ws,rfl,_,hp,rl⟩:=r;cases e;obtain⟨its,rv,pl,_⟩:=I.list (SqL.of hp);obtain⟨o,ho,hc,n,hd⟩:=pl.isList;obtain⟨as,ra⟩:=ue I ts ws its rl rv h;exact⟨_,.list ho hc hd (by simpa using ra)⟩
theorem ue (I:Inv X pins σ H s):∀(ts:List Tr) (ws:List V) (us:List Value),z_ F H ts ws->zo ws us->PyData.canLayAll0 (uP ts)=true->∃as,ReadsAll s.heap us (uP ts) as
 | [],ws,us,r,v,_=>by cases (show ws=[] from r);cases v;exact⟨_,.nil⟩
 | t::ts,ws,us,r,v,h=>by
  obtain⟨w,r',rfl,h1,h2⟩:=r;cases v with
  | cons v1 v2 =>
   have h':pln t=true/\PyData.canLayAll0 (uP ts)=true:=by have:(pln t&&PyData.canLayAll0 (uP ts))=true:=h;simpa using this
   obtain⟨as,ra⟩:=vk I t w _ h1 v1 h'.1;obtain⟨bs,rb⟩:=ue I ts r' _ h2 v2 h'.2;exact⟨_,.cons ra rb⟩
end
end
def xcV (t u:Tr):Prop:=pln t=true/\pln u=true/\min (dep t) (dep u)<=64
def xjk:R2:=λx y H Q=>∃F G t u,Rep F H t x/\Rep G H u y/\xcV t u/\Q (.bl (teq t u)) H
def xi5:R2:=λx y H Q=>∃F G t u,Rep F H t x/\Rep G H u y/\xcV t u/\Q (.bl (!teq t u)) H
section
variable {X:Cx}
theorem v8 (hu:X.A.units+64<cLine):OpR X (compareOp .Eq) xjk:=by intro pins s σ H x y v u Q I rx ry h;obtain⟨F,G,t,t',r1,r2,⟨p1,p2,p3⟩,q⟩:=h;obtain⟨as,ra⟩:=vk I t x v r1 rx p1;obtain⟨bs,rb⟩:=vk I t' y u r2 ry p2;exact SeqAt.rcAt_reads ra rb p1 p2 (xmh (Nat.add_le_add_left p3 _) hu) X.prog X.w _ _ ⟨.bl _,H,I,rfl,q⟩
theorem zV (hu:X.A.units+64<cLine):OpR X (compareOp .NotEq) xi5:=by intro pins s σ H x y v u Q I rx ry h;obtain⟨F,G,t,t',r1,r2,⟨p1,p2,p3⟩,q⟩:=h;obtain⟨as,ra⟩:=vk I t x v r1 rx p1;obtain⟨bs,rb⟩:=vk I t' y u r2 ry p2;exact SeqAt.rcNeAt_reads ra rb p1 p2 (xmh (Nat.add_le_add_left p3 _) hu) X.prog X.w _ _ ⟨.bl _,H,I,rfl,q⟩
def xiq (neg:Bool):R2:=λx y H Q=>∃F G t ts,Rep F H t x/\(Rep G H (.lst ts) y\/Rep G H (.tup ts) y)/\pln t=true/\PyData.canLayAll0 (uP ts)=true/\dep t<=60/\Q (.bl (if neg then !(ts.any λu=>teq u t) else ts.any λu=>teq u t)) H
theorem kI (e:Value->Bool)(he:∀y d as,Reads h y d as->d.canLay0=true->e y=PyData.eqv d d0):∀(ts:List Tr) (us:List Value) (as:List Addr),ReadsAll h us (uP ts) as->PyData.canLayAll0 (uP ts)=true->us.any e=ts.any λu=>PyData.eqv (qf u) d0
 | [],us,as,r,_=>by cases r;rfl
 | t::ts,us,as,r,hl=>by
  have h':(qf t).canLay0=true/\PyData.canLayAll0 (uP ts)=true:=by have:((qf t).canLay0&&PyData.canLayAll0 (uP ts))=true:=hl;simpa using this
  generalize hg:uP (t::ts)=ds at r;cases r with
  | nil=>cases hg
  | cons r1 r2 =>have e1:qf t=_:=(List.cons.inj hg).1;have e2:uP ts=_:=(List.cons.inj hg).2;subst e1 e2;rw[xkU,xkU,he _ _ _ r1 h'.1,kI e he ts _ _ r2 h'.2]
theorem sM:∀(ds:List PyData) (us:List Value) (as:List Addr),ReadsAll h us ds as->PyData.canLayAll0 ds=true->y∈us->∃d as,Reads h y d as/\d.canLay0=true
 | [],us,as,r,_,hm=>by cases r;exact absurd hm (by simp)
 | d::ds,us,as,r,hl,hm=>by
  have h':d.canLay0=true/\PyData.canLayAll0 ds=true:=by have:(d.canLay0&&PyData.canLayAll0 ds)=true:=hl;simpa using this
  cases r with
  | cons r1 r2 =>
   rcases xlI.mp hm with rfl | hm
   .exact⟨d,_,r1,h'.1⟩
   .exact sM ds _ _ r2 h'.2 hm
open Classical in
def eBy (h:Heap)(d0:PyData)(y:Value):Bool:=if ∃d as,Reads h y d as/\d.canLay0=true/\PyData.eqv d d0=true then true else false
theorem rn (y:Value)(d:PyData)(as:List Addr)(r:Reads h y d as)(hl:d.canLay0=true):eBy h d0 y=PyData.eqv d d0:=by
 unfold eBy;cases hq:PyData.eqv d d0 with
 | true=>rw[if_pos ⟨d,as,r,hl,hq⟩]
 | false =>rw[if_neg];rintro⟨d',as',r',hl',hq'⟩;have:=SeqAt.Reads.unique d d' y as as' hl r r';subst this;rw[hq] at hq';cases hq'
theorem xgS (hu:X.A.units+64<cLine):OpR X (compareOp .In) (xiq false):=by
 intro pins s σ H x y v u Q I rx ry h;obtain⟨F,G,t,ts,r1,r2,p1,p2,p3,q⟩:=h;obtain⟨as,ra⟩:=vk I t x v r1 rx p1;have room:∀d:PyData,X.A.in1.units+min d.depth (qf t).depth<cLine:=λd=>by have h1:min d.depth (qf t).depth<=60:=xmf (xmm _ _) p3;show X.A.units+1+_<_;omega
 have eqa:∀(ds:List PyData) (us:List Value) (bs:List Addr),ReadsAll s.heap us ds bs->PyData.canLayAll0 ds=true->∀z∈us,SeqAt.EqAt X.A.in1 s z v (eBy s.heap (qf t) z):=λds us bs rb hl z hz=>by obtain⟨d,cs,rd,hd⟩:=sM ds us bs rb hl hz;rw[rn z d cs rd hd];exact SeqAt.eqAt_reads d (qf t) _ s z v _ _ rd ra hd p1 (room d)
 rcases r2 with r2 | r2
 .obtain⟨p,ws,rfl,_,hp,rl⟩:=r2;cases ry;obtain⟨its,rv,pl,_⟩:=I.list (SqL.of hp);obtain⟨bs,rb⟩:=ue I ts ws its rl rv p2;refine SeqAt.in_listAt (eBy s.heap (qf t)) pl.isList (λz hz=>eqa _ _ _ rb p2 z (by simpa using hz)) ⟨.bl _,H,I,?_,q⟩;show Value.bool _=Value.bool _;rw[if_neg xj8,show(ts.any λu=>teq u t)=its.toArray.any (eBy s.heap (qf t)) from by rw[show(its.toArray.any (eBy s.heap (qf t)))=its.any (eBy s.heap (qf t)) by simp];exact(kI (eBy s.heap (qf t)) (λy d as r hl=>rn y d as r hl) ts its bs rb p2).symm]
 .obtain⟨p,ws,rfl,_,hp,rl⟩:=r2;cases ry;obtain⟨its,rv,pl,_⟩:=I.tuple (SqT.of hp);obtain⟨bs,rb⟩:=ue I ts ws its rl rv p2;refine SeqAt.in_tupleAt (eBy s.heap (qf t)) pl (λz hz=>eqa _ _ _ rb p2 z (by simpa using hz)) ⟨.bl _,H,I,?_,q⟩;show Value.bool _=Value.bool _;rw[if_neg xj8,show(ts.any λu=>teq u t)=its.toArray.any (eBy s.heap (qf t)) from by rw[show(its.toArray.any (eBy s.heap (qf t)))=its.any (eBy s.heap (qf t)) by simp];exact(kI (eBy s.heap (qf t)) (λy d as r hl=>rn y d as r hl) ts its bs rb p2).symm]
theorem pE (hu:X.A.units+64<cLine):OpR X (compareOp .NotIn) (xiq true):=by
 intro pins s σ H x y v u Q I rx ry h;obtain⟨F,G,t,ts,r1,r2,p1,p2,p3,q⟩:=h;obtain⟨as,ra⟩:=vk I t x v r1 rx p1;have room:∀d:PyData,X.A.in1.units+min d.depth (qf t).depth<cLine:=λd=>by have h1:min d.depth (qf t).depth<=60:=xmf (xmm _ _) p3;show X.A.units+1+_<_;omega
 have eqa:∀(ds:List PyData) (us:List Value) (bs:List Addr),ReadsAll s.heap us ds bs->PyData.canLayAll0 ds=true->∀z∈us,SeqAt.EqAt X.A.in1 s z v (eBy s.heap (qf t) z):=λds us bs rb hl z hz=>by obtain⟨d,cs,rd,hd⟩:=sM ds us bs rb hl hz;rw[rn z d cs rd hd];exact SeqAt.eqAt_reads d (qf t) _ s z v _ _ rd ra hd p1 (room d)
 rcases r2 with r2 | r2
 .obtain⟨p,ws,rfl,_,hp,rl⟩:=r2;cases ry;obtain⟨its,rv,pl,_⟩:=I.list (SqL.of hp);obtain⟨bs,rb⟩:=ue I ts ws its rl rv p2;refine SeqAt.notIn_listAt (eBy s.heap (qf t)) pl.isList (λz hz=>eqa _ _ _ rb p2 z (by simpa using hz)) ⟨.bl _,H,I,?_,q⟩;show Value.bool _=Value.bool _;rw[if_pos rfl,show(ts.any λu=>teq u t)=its.toArray.any (eBy s.heap (qf t)) from by rw[show(its.toArray.any (eBy s.heap (qf t)))=its.any (eBy s.heap (qf t)) by simp];exact(kI (eBy s.heap (qf t)) (λy d as r hl=>rn y d as r hl) ts its bs rb p2).symm]
 .obtain⟨p,ws,rfl,_,hp,rl⟩:=r2;cases ry;obtain⟨its,rv,pl,_⟩:=I.tuple (SqT.of hp);obtain⟨bs,rb⟩:=ue I ts ws its rl rv p2;refine SeqAt.notIn_tupleAt (eBy s.heap (qf t)) pl (λz hz=>eqa _ _ _ rb p2 z (by simpa using hz)) ⟨.bl _,H,I,?_,q⟩;show Value.bool _=Value.bool _;rw[if_pos rfl,show(ts.any λu=>teq u t)=its.toArray.any (eBy s.heap (qf t)) from by rw[show(its.toArray.any (eBy s.heap (qf t)))=its.any (eBy s.heap (qf t)) by simp];exact(kI (eBy s.heap (qf t)) (λy d as r hl=>rn y d as r hl) ts its bs rb p2).symm]
end
def xhw (neg:Bool)(x y:Tr)(KK:Tr->Prop):Prop:=match x,y with
 | .int i,.int j=>KK (.bl (if neg then !decide (i=j) else decide (i=j)))
 | x,y=>xcV x y/\KK (.bl (if neg then !teq x y else teq x y))
theorem xds (i j:Int):xcV (.int i) (.int j):=⟨rfl,rfl,by show min 0 0<=64;decide⟩
theorem xbV {neg:Bool}{x y:Tr}{KK:Tr->Prop}(h:xhw neg x y KK):xcV x y/\KK (.bl (if neg then !teq x y else teq x y)):=by
 unfold xhw at h;split at h
 .exact⟨xds _ _,h⟩
 .exact h
theorem os_eq:OpS xjk (xhw false):=λF G H x y t u KK Q r1 r2 hf q=>by obtain⟨h1,h2⟩:=xbV hf;exact⟨F,G,t,u,r1,r2,h1,q _ _ rfl h2⟩
theorem vq:OpS xi5 (xhw true):=λF G H x y t u KK Q r1 r2 hf q=>by obtain⟨h1,h2⟩:=xbV hf;exact⟨F,G,t,u,r1,r2,h1,q _ _ rfl h2⟩
def fIn (neg:Bool)(x y:Tr)(KK:Tr->Prop):Prop:=match y with
 | .lst ts=>(pln x=true/\PyData.canLayAll0 (uP ts)=true/\dep x<=60)/\KK (.bl (if neg then !(ts.any λu=>teq u x) else ts.any λu=>teq u x))
 | .tup ts=>(pln x=true/\PyData.canLayAll0 (uP ts)=true/\dep x<=60)/\KK (.bl (if neg then !(ts.any λu=>teq u x) else ts.any λu=>teq u x))
 | _=>False
theorem xdz:OpS (xiq neg) (fIn neg):=λF G H x y t u KK Q r1 r2 hf q=>by
 unfold fIn at hf;split at hf
 .exact⟨F,G,t,_,r1,.inl r2,hf.1.1,hf.1.2.1,hf.1.2.2,q _ _ rfl hf.2⟩
 .exact⟨F,G,t,_,r1,.inr r2,hf.1.1,hf.1.2.1,hf.1.2.2,q _ _ rfl hf.2⟩
 .exact hf.elim
end L2
namespace L2
open PySem PySem.Spec PyProof.Rows
def xh0 (K:PySem.W.Frag)(tl:TE):TI:=λ σ H R=>tl σ H λx H1=>∃a,x=.ref a/\(((∃xs,SqL K H1 a xs)/\R (Itl K a) H1)\/((∃xs,SqT K H1 a xs)/\R (Itt K a) H1))
section
variable {X:Cx}
theorem yB (K:PySem.W.Frag)(hl:PE X l tl)(e:X.K=K:=by rfl):PI X tg l (xh0 K tl):=by
 subst e;intro pins s σ H R I h;refine thn (@hl pins s σ H _ I h) λv s1 ⟨x,H1,I1,r1,q1⟩=>?_;obtain⟨a,e,q⟩:=q1;subst e;cases r1;rcases q with ⟨⟨xs,hq⟩,q⟩ | ⟨⟨xs,hq⟩,q⟩
 .obtain⟨its,rv,p,hz⟩:=I1.list hq;refine wpAny_pyIter_list p.isList ?_;refine⟨s1.heap.objs.size,[s1.heap.objs.size],_,_,H1,rfl,I1.kept (t':=s1.toks) λb o e=>Heap.get?_push_of_some _ e,xaA a _,⟨_,Heap.get?_push_size _ rfl,rfl,rfl⟩,λb hb=>?_,q⟩;have e:b=s1.heap.objs.size:=by simpa using hb
  subst e;exact I1.fpOk (xmd _) (I1.hok.fresh (xmd _))
 .obtain⟨its,rv,p,hz⟩:=I1.tuple hq;refine wpAny_pyIter_tuple (show s1.heap.IsTuple a its.toArray from p) ?_;refine⟨s1.heap.objs.size,[s1.heap.objs.size],_,_,H1,rfl,I1.kept (t':=s1.toks) λb o e=>Heap.get?_push_of_some _ e,lL a _,⟨_,Heap.get?_push_size _ rfl,rfl,rfl⟩,λb hb=>?_,q⟩;have e:b=s1.heap.objs.size:=by simpa using hb
  subst e;exact I1.fpOk (xmd _) (I1.hok.fresh (xmd _))
end
section
variable {K:PySem.W.Frag}
theorem yi (h:OkE K b te d):OkI K b (xh0 K te) (xjB d):=λB φ σ τ H R KK Rs hd q =>
 h B φ σ τ H _ _ Rs hd λt v H1 x1 k1 r1=>by
  cases t with
  | lst ts =>
   obtain⟨a,ws,e,n,ha,rl⟩:=id r1;subst e;exact⟨a,rfl,.inl ⟨⟨ws,SqL.of ha⟩,q _ ts _ H1 x1 k1 xcD λp hp=>by cases xlU.mp hp;exact r1⟩⟩
  | tup ts =>
   obtain⟨a,ws,e,n,ha,rl⟩:=id r1;subst e;exact⟨a,rfl,.inr ⟨⟨ws,SqT.of ha⟩,q _ ts _ H1 x1 k1 xeS λp hp=>by cases xlU.mp hp;exact r1⟩⟩
  | _=>exact k1.elim
theorem xcg:xhU K (xh0 K (rO i)) (xh_ i):=λB φ σ τ H R KK Rs hd q=>by obtain⟨v,e,a,ea,s,r⟩:=xdD (i:=i) B φ σ τ H R KK Rs hd q;exact⟨v,e,a,ea,.inl ⟨s,r⟩⟩
end
def Ite (K:PySem.W.Frag)(b:Bool)(a:Addr):It :=
 ⟨λi H=>∃xs x,Sq2 K b H a xs/\xs[i]? = some x,
  λi H v H'=>∃x q,(∀xs,Sq2 K b H a xs->xs[i]? = some x)/\v=.ref q/\H q=none/\H'=upd H q (.tup [.int i,x]),
  λi H=>∃xs,Sq2 K b H a xs/\xs.length<=i⟩
theorem Inv.sq2_inj (I:Inv X pins σ H s)(h:Sq2 X.K b H a xs)(h':Sq2 X.K b H a ys):xs=ys:=by
 cases b with
 | true=>exact I.tuple_inj (show SqT X.K H a xs from h) h'
 | false=>exact I.list_inj (show SqL X.K H a xs from h) h'
theorem xdu (D:Drw it a vs tn src)(hne:a≠it)(hh:A.handled=none) :
  Draws prog w A it [it,a] vs.length (λi x=>vs[i]? = some x) (λi h=>tn i h/\src h) where
 live:=λi h st=>let ⟨o,e,_⟩:=D.ob i h st.1;⟨o,e⟩
 frame:=λi h h' st k=>⟨D.mv _ _ _ st.1 (k it (by simp)),D.smv _ _ st.2 (k a (by simp))⟩
 item:=λi s Q E hi st hQ=>D.item prog w A E i vs[i] s Q st.1 st.2 (xlc hi) λh' t' sb=>hQ _ h' s.toks (xlc hi) ⟨t',D.smv _ _ st.2 λo e=>sb.extBut _ o hne e⟩ sb
 done:=λs Q E st hE=>D.fin prog w A E vs.length s Q hh st.1 st.2 (xld (xmd _)) hE
section
variable {P:Program} {w:World} {K:PySem.W.Frag} {e it a:Addr} {b:Bool}
def ESt (b:Bool)(e it a:Addr)(i:Nat)(h:Heap):Prop:=(∃old,IsEnum h e it i old)/\Tn2 b it a i h
theorem xbh (hei:e≠it)(hea:a≠e)(hia:a≠it):Turn P w K (.Tuple elts kk pp) (Ite K b a) [e,it] e (ESt b e it a) where
 mem:=by simp
 obj:=λi h st c hc=>by
  obtain⟨⟨old,s1⟩,s2⟩:=st;simp only[xlI,xlY,xmC] at hc;rcases hc with z | z<;>subst z
  .exact⟨_,s1,λv=>by simp⟩
  .exact(rF b _ a []).ob _ _ s2
 keep:=λi h h' st k=>by obtain⟨⟨old,s1⟩,s2⟩:=st;exact⟨⟨old,k _ (by simp) _ s1⟩,(rF b it a []).mv _ _ _ s2 λo e=>k _ (by simp) o e⟩
 item:=by
  intro X hP hw hK hc i pins s σ H E I hf st hg;subst hP hw hK;obtain⟨⟨old,s1⟩,s2⟩:=st;obtain⟨xs,x,sq1,hx⟩:=hg;obtain⟨vs,rv,c1⟩:=I.sq2 sq1;obtain⟨xv,ex,rx⟩:=rv.get hx;have hi:i<vs.length:=(xle.mp ex).1;have fr:H s.heap.objs.size=none:=I.hok.fresh (xmd _);have D:=xdu (prog:=X.prog) (w:=X.w) (A:=X.A.in1) (rF b it a vs) hia (show X.A.in1.handled=none from I.ok.hd hc);refine wpAny_pyNext_enum_itemD D s1 ⟨s2,c1⟩ hi hei (by simp[hei,Ne.symm hea]) λxv' g tk hP ho st' hT hsz kp=>⟨_,rfl,?_⟩
  rw[ex] at hP;cases hP;refine wpAny_letOwnedTupleGo_enum ho λg2 he2 S2=>?_;have lte:e<s.heap.objs.size:=Heap.lt_size s1;have kp2:∀c o,c∉[e,it]->s.heap.get? c=some o->g2.get? c=some o:=λc o hc e=>by simp only[xlI,xlY,xmC,not_or] at hc;exact S2.extBut _ _ hc.1 (kp c o hc.1 hc.2 e)
  have T2:=S2.extBut _ _ (xmp lte) hT;have st2:ESt b e it a (i+1) g2:=⟨⟨_,by simpa using he2⟩,(rF b it a vs).mv _ _ _ st'.1 λo q=>S2.extBut _ o (Ne.symm hei) q⟩
  have nfp:∀c u,H c=some u->c∉[e,it]:=λc u q hm=>by rw[(hf c hm).1] at q;cases q
  have nT:∀c o,s.heap.get? c=some o->c≠s.heap.objs.size:=λc o e=>xmq (Heap.lt_size e);refine⟨.ref s.heap.objs.size,upd H s.heap.objs.size (.tup [.int i,x]),?_,rfl,⟨x,_,λxs' h'=>by rw[<-I.sq2_inj sq1 h'];exact hx,rfl,fr,rfl⟩,st2,λc hm=>?_⟩
  .show Inv X pins σ (upd H s.heap.objs.size (.tup [.int i,x])) { s with heap:=g2,gens:=s.gens,drawn:=s.drawn,toks:=tk+1 };refine Inv.step (s:=s) (g':=s.gens) (d':=s.drawn) (t':=tk+1) (ch:=[e,it]) I (λc hm=>?_) (λc o _ _ hm e _=>kp2 c o hm e) (λc o _ _ hm e _=>⟨o.slots,kp2 c o hm e⟩) (λc o hm e n=>by rw[xJ (nT c o e)];exact n) (λc o hm e=>⟨o,kp2 c o hm e⟩)
    (λc zs e=>by rw[xJ (xD e fr)];exact e) (λc o u e=>by rw[xJ (xD e fr)];exact e) (λc ps e=>⟨#[],by rw[xJ (xD e fr),e];simp⟩) (λm hm=>?_) (λc u e=>?_) I.bare
   .obtain⟨_,f1,_,f3,f4,f5⟩:=hf c hm;exact⟨f3,f1,f4,f5⟩
   .obtain⟨o,es,ep,ho,r⟩:=hm;exact⟨o,es,ep,kp2 _ o (λz'=>(hf _ z').2.1 rfl) ho,r⟩
   .by_cases hc':c=s.heap.objs.size
    .subst hc';rw[xV] at e;cases e;exact⟨by show 2<=sizeLine;decide,[.int i tk,xv],.cons ⟨_,rfl⟩ (.cons rx .nil),_,T2,rfl,0,rfl⟩
    .rw[xJ hc'] at e;refine(I.hok c u e).stay (λc' v hcc q'=>kp2 c' v ?_ q') (λc' q'=>by rw[xJ (xD q' fr)];exact q') (λc' zs q'=>by rw[xJ (xD q' fr)];exact q') λc' o u q'=>by rw[xJ (xD q' fr)];exact q'
     rcases hcc with rfl | hcc
     .exact nfp _ _ e
     .exact nfp _ _ hcc
  .rw[xJ]
   .exact(hf c hm).1
   .simp only[xlI,xlY,xmC] at hm;rcases hm with z | z<;>subst z
    .exact nT _ _ s1
    .obtain⟨o,e,_⟩:=(rF b _ a []).ob _ _ s2;exact nT _ _ e
 done:=by
  intro X hP hw hK hc i pins s σ H E I hf st hg;subst hP hw hK;obtain⟨⟨old,s1⟩,s2⟩:=st;obtain⟨xs,sq1,hend⟩:=hg;obtain⟨vs,rv,c1⟩:=I.sq2 sq1;have hT:s.TypeIs (.ref e) "enumerate" := ⟨_,s1,rfl⟩
  unfold pyNext;refine wpAny_bind (wpAny_attempt (wpAny_callSpecial?_slot (name:=Str.ofString "__next__") hT F.slot_enumerate_next (wpAny_call_entry F.slot_enumerate_next hT F.entry_enumerate_next ?_ (F.args_enumerate_next_1 _))));show wpAny _ _ (field (.ref e) 2 >>= _) _ _ _;refine wpAny_bind (wpAny_field s1 rfl (x:=.ref it) rfl ?_);refine wpAny_bind ((rF b it a vs).fin _ _ _ _ i s _ (I.ok.hd hc) s2 c1 (xld (by rw[<-rv.length];exact hend)) λg x kp hx'=>?_);obtain⟨o,ho,hcl⟩:=hx';refine wpAny_bind (wpAny_isInstance (T := "StopIteration") (b:=true) ⟨o,ho,hcl⟩ isSubtype_stop (wpAny_pure ⟨rfl,?_⟩));have kp2:∀c o,c∉[e,it]->s.heap.get? c=some o->g.get? c=some o:=λc o hc q=>by simp only[xlI,xlY,xmC,not_or] at hc;exact kp c o hc.2 q
  have nfp:∀c u,H c=some u->c∉[e,it]:=λc u q hm=>by rw[(hf c hm).1] at q;cases q
  refine Inv.step (s:=s) (g':=s.gens) (d':=s.drawn) (t':=s.toks) (ch:=[e,it]) I (λc hm=>?_) (λc o _ _ hm e _=>kp2 c o hm e) (λc o _ _ hm e _=>⟨o.slots,kp2 c o hm e⟩) (λc o hm e n=>n) (λc o hm e=>⟨o,kp2 c o hm e⟩)
   (λc zs e=>e) (λc o u e=>e) (λc ps e=>⟨#[],by rw[e];simp⟩) (λm hm=>?_) (λc u e=>?_) I.bare
  .obtain⟨_,f1,_,f3,f4,f5⟩:=hf c hm;exact⟨f3,f1,f4,f5⟩
  .obtain⟨o,es,ep,ho,r⟩:=hm;exact⟨o,es,ep,kp2 _ o (λz'=>(hf _ z').2.1 rfl) ho,r⟩
  .refine(I.hok c u e).stay (λc' v hcc q'=>kp2 c' v ?_ q') (λ_ q'=>q') (λ_ _ q'=>q') λ_ _ _ q'=>q';rcases hcc with rfl | hcc
   .exact nfp _ _ e
   .exact nfp _ _ hcc
 self:=λA i s Q E st h=>by obtain⟨⟨old,s1⟩,_⟩:=st;exact wpAny_pyIter_enum s1 h
end
open AutoSeq1 (wpAny_loadPart') in
theorem kX (l:Addr)(items:Array Value)(n:Nat)(dct:Option Addr)(sl:Array (Option Value)) :
  Meets (Builtin.«enumerate.__new__» ⟨[.type "enumerate", .ref l],[]⟩) (λ_ R s=>s.heap.get? l=some { cls:=.type "tuple", dict:=dct,data:=.seq items n,slots:=sl } /\
   R (.ok (.ret (.ref (s.heap.push { cls:=.type "tuple_iterator", data:=.fields #[.ref l,.int 0 0] }).objs.size)))
    { s with heap:=(s.heap.push { cls:=.type "tuple_iterator", data:=.fields #[.ref l,.int 0 0] }).push { cls:=.type "enumerate", data:=.fields #[.none,.bool false,.ref s.heap.objs.size,rawInt 0,.none,.none] } }) :=
 .of_wp λprog w A R s h=>by
  obtain⟨hp,g,d,tk,os⟩:=s;obtain⟨hl,h⟩:=h;have hsub:=sub_enumerate;have hL:Heap.IsTuple (Shared.heap ⟨hp,g,d,tk,os⟩) l items:=⟨_,hl,rfl,n,rfl⟩
  wp_walk using wpAny_loadPart' hl
  refine wpAny_stack_any λst=>wpAny_pure ?_;split
  .rename_i c _ _ _ _ _;cases (c == Value.type "enumerate")
   .wp_walk using wpAny_loadPart' hl,wpAny_pyIter_tuple hL
    exact⟨_,rfl,h⟩
   .wp_walk using wpAny_loadPart' hl,wpAny_pyIter_tuple hL
    exact⟨_,rfl,h⟩
  .wp_walk using wpAny_loadPart' hl,wpAny_pyIter_tuple hL
   exact⟨_,rfl,h⟩
section
variable {prog:Program} {w:World} {A:Around} {E:Value->Shared->Prop} {s:Shared}
theorem k7 (hL:s.heap.IsTuple l items)
  (h:∀h',IsEnum h' (s.heap.objs.size+1) s.heap.objs.size 0 .none->h'.IsTupleIter s.heap.objs.size l 0->h'.objs.size=s.heap.objs.size+2 ->
   (∀b o,s.heap.get? b=some o->h'.get? b=some o)->Q (.ref (s.heap.objs.size+1)) { s with heap:=h' }) :
  wpAny (model prog w) A (call (.type "enumerate") [.ref l]) Q E s:=by
 obtain⟨⟨c,dct,dt,sl⟩,hl,hc,n,hd⟩:=hL
 replace hc:c=.type "tuple" := hc
 replace hd:dt=.seq items n:=hd
 subst hc hd;refine callType_new F.called_enumerate (by decide) (F.typeCall_enumerate_1 _) (F.newCall_enumerate_1 _) (λobj=>F.args_object_init_2 obj _) F.entry_enumerate_new
  (kX l items n dct sl) ⟨hl,?_⟩
 have hz:(s.heap.push { cls:=.type "tuple_iterator", data:=.fields #[.ref l,.int 0 0] }).objs.size=s.heap.objs.size+1:=Heap.size_push ..;show _/\_;rw[hz];have he:IsEnum ((s.heap.push { cls:=.type "tuple_iterator", data:=.fields #[.ref l,.int 0 0] }).push
   { cls:=.type "enumerate", data:=.fields #[.none,.bool false,.ref s.heap.objs.size,rawInt 0,.none,.none] }) (s.heap.objs.size+1) s.heap.objs.size 0 .none:=by
  have:=Heap.get?_push_size (s.heap.push { cls:=.type "tuple_iterator", data:=.fields #[.ref l,.int 0 0] })
   (o:={ cls:=.type "enumerate", data:=.fields #[.none,.bool false,.ref s.heap.objs.size,rawInt 0,.none,.none] }) rfl
  rw[hz] at this;exact this
 refine⟨⟨_,he,rfl⟩,h _ he ⟨_,Heap.get?_push_of_some _ (Heap.get?_push_size _ rfl),rfl,rfl⟩ (by rw[Heap.size_push,hz]) λb o x=>Heap.get?_push_of_some _ (Heap.get?_push_of_some _ x)⟩
end
theorem nF:bootBuiltins "enumerate" = some (.type "enumerate"):=by decide +kernel
def xgE (K:PySem.W.Frag)(ta:TA):TI:=λ σ H R=>ta σ H λvs H1=>∃(b:Bool) (a:Addr) (xs:List V),vs=[.ref a]/\Sq2 K b H1 a xs/\R (Ite K b a) H1
section
variable {X:Cx}
theorem tX (K:PySem.W.Frag)(hg:Gl X "enumerate")(hm:X.mg "enumerate" = none)(ha:PA X [a] ta)(hs:starEach [a] X.env=[(false,eval a X.env)]:=by rfl)(eK:X.K=K:=by rfl) :
  PI X (.Tuple elts kk pp) (.Call (.Name "enumerate" p) [a] [] pos) (xgE K ta):=by
 subst eK;intro pins s σ H R I h;refine Call_ (dQ I hg hm nF (PyProof.Rows.callWith_type1 (thn (@ha pos pins s σ H _ I h) λus s1 ⟨vs,H1,I1,r1,q1⟩=>?_) (by rw[hs];rfl) (by rfl)));obtain⟨bb,a1,xs,e,sq1,q⟩:=q1;subst e;obtain⟨u1,rfl,ru⟩:=vals1 r1;obtain rfl:u1=Value.ref a1:=ru;obtain⟨vs,rv,c1⟩:=I1.sq2 sq1;have mk:∀g,ESt bb (s1.heap.objs.size+1) s1.heap.objs.size a1 0 g->a1<s1.heap.objs.size->(∀c o,s1.heap.get? c=some o->g.get? c=some o) ->
   wpAny (model X.prog X.w) X.A (pyIter (.ref (s1.heap.objs.size+1))) (PIE X pins σ (.Tuple elts kk pp) R) X.xe { s1 with heap:=g }:=λg st la kp=>by
  obtain⟨⟨old,he⟩,st2⟩:=st;refine wpAny_pyIter_enum he ⟨_,[s1.heap.objs.size+1,s1.heap.objs.size],ESt bb (s1.heap.objs.size+1) s1.heap.objs.size a1,_,H1,rfl,I1.kept (t':=s1.toks) kp,
   xbh (Nat.succ_ne_self _) (xmq (xmj la)) (xmq la),⟨⟨old,he⟩,st2⟩,λb hb=>?_,q⟩
  simp only[xlI,xlY,xmC] at hb;rcases hb with rfl | rfl
  .exact I1.fpOk (xme _) (I1.hok.fresh (xme _))
  .exact I1.fpOk (xmd _) (I1.hok.fresh (xmd _))
 cases bb with
 | true =>have c1:s1.heap.IsTuple a1 vs.toArray:=c1;refine k7 c1 ?_;intro g z1 z2 _ kp;refine mk g ⟨⟨_,z1⟩,z2⟩ ?_ kp;obtain⟨o,e,_⟩:=c1;exact Heap.lt_size e
 | false =>have c1:s1.heap.IsList a1 vs.toArray:=c1;refine call_enumerate_list c1 ?_;intro g z1 z2 _ kp;refine mk g ⟨⟨_,z1⟩,z2⟩ ?_ kp;obtain⟨o,e,_⟩:=c1;exact Heap.lt_size e
end
def lh:Nat->List Tr->List Tr
 | _,[]=>[]
 | k,t::ts=>.tup [.int k,t]::lh (k+1) ts
def qP (ts:List Tr):List Tr:=lh 0 ts
theorem u6:∀(k:Nat) (ts:List Tr),(lh k ts).length=ts.length
 | _,[]=>rfl
 | k,_::ts=>by show(lh (k+1) ts).length+1=_;rw[u6];rfl
theorem j7:∀ {k:Nat} {ts:List Tr} {i:Nat} {t:Tr},ts[i]? = some t->(lh k ts)[i]? = some (.tup [.int ((k+i:Nat):Int),t])
 | _,[],_,_,h=>by simp at h
 | k,x::ts,0,t,h=>by simp at h;subst h;rfl
 | k,x::ts,i+1,t,h=>by show(lh (k+1) ts)[i]? = _;rw[j7 (k:=k+1) (ts:=ts) (i:=i) (by simpa using h)];rw[show k+1+i=k+(i+1) by omega]
section
variable {K:PySem.W.Frag}
theorem xa6:ItL (Ite K false a) (qP ts) [(.lst ts,.ref a)] where
 go:=λF H i s hi=>by obtain⟨a',ws,e,n,h,r⟩:=s _ xlK;cases e;rw[show(qP ts).length=ts.length from u6 0 ts] at hi;obtain⟨w,e1,_⟩:=r.getT (xlc hi);exact⟨ws,w,SqL.of h,e1⟩
 stop:=λF H s=>by obtain⟨a',ws,e,n,h,r⟩:=s _ xlK;cases e;exact⟨ws,SqL.of h,by rw[show(qP ts).length=ts.length from u6 0 ts,<-r.len];exact xmd _⟩
 yld:=λF i H x H' s d hi y=>by obtain⟨a',ws,e,n,h,r⟩:=s _ xlK;cases e;obtain⟨v,q,hv,rfl,hq,rfl⟩:=y;obtain⟨t,e1,e2⟩:=r.get (hv ws (SqL.of h));refine⟨.inr ⟨q,_,hq,rfl⟩,.tup [.int i,t],?_,q,_,rfl,λz=>d q z hq,xV,⟨_,_,rfl,rfl,_,_,rfl,rX hq e2,rfl⟩⟩;have:=j7 (k:=0) e1;rw[Nat.zero_add] at this;exact this
theorem xaX:ItL (Ite K true a) (qP ts) [(.tup ts,.ref a)] where
 go:=λF H i s hi=>by obtain⟨a',ws,e,n,h,r⟩:=s _ xlK;cases e;rw[show(qP ts).length=ts.length from u6 0 ts] at hi;obtain⟨w,e1,_⟩:=r.getT (xlc hi);exact⟨ws,w,SqT.of h,e1⟩
 stop:=λF H s=>by obtain⟨a',ws,e,n,h,r⟩:=s _ xlK;cases e;exact⟨ws,SqT.of h,by rw[show(qP ts).length=ts.length from u6 0 ts,<-r.len];exact xmd _⟩
 yld:=λF i H x H' s d hi y=>by obtain⟨a',ws,e,n,h,r⟩:=s _ xlK;cases e;obtain⟨v,q,hv,rfl,hq,rfl⟩:=y;obtain⟨t,e1,e2⟩:=r.get (hv ws (SqT.of h));refine⟨.inr ⟨q,_,hq,rfl⟩,.tup [.int i,t],?_,q,_,rfl,λz=>d q z hq,xV,⟨_,_,rfl,rfl,_,_,rfl,rX hq e2,rfl⟩⟩;have:=j7 (k:=0) e1;rw[Nat.zero_add] at this;exact this
def xgk (d:DA):DI:=λ τ KK=>d τ λxs=>match xs with | [.tup ts]=>KK (qP ts) | [.lst ts]=>KK (qP ts) | _=>False
theorem fZ (h:OkA K b n ta da):OkI K b (xgE K ta) (xgk da):=λB φ σ τ H R KK Rs hd q =>
 h B φ σ τ H _ _ Rs hd λts vs H1 x1 k1 l1 r1=>by
  split at k1
  .rename_i us;obtain⟨v,rfl,r⟩:=jj r1;obtain⟨a,ws,e,n,ha,rl⟩:=id r;subst e;exact⟨true,a,ws,rfl,SqT.of ha,q _ _ _ H1 x1 k1 xaX λp hp=>by cases xlU.mp hp;exact r⟩
  .rename_i us;obtain⟨v,rfl,r⟩:=jj r1;obtain⟨a,ws,e,n,ha,rl⟩:=id r;subst e;exact⟨false,a,ws,rfl,SqL.of ha,q _ _ _ H1 x1 k1 xa6 λp hp=>by cases xlU.mp hp;exact r⟩
  .exact k1.elim
end
end L2
namespace L2
open PySem PySem.Spec PyProof.Rows
def xhn (K:PySem.W.Frag):R2:=λx y H Q=>∃a b xs ys,x=.ref a/\y=.ref b/\SqT K H a xs/\SqT K H b ys/\xs.length+ys.length<=sizeLine /\
 (xs=[]->Q (.ref b) H)/\(xs≠[]->ys=[]->Q (.ref a) H)/\(xs≠[]->ys≠[]->∀p,H p=none->Q (.ref p) (upd H p (.tup (xs++ys))))
section
variable {X:Cx}
theorem xe6:OpR X (binaryOp .Add) (xhn X.K):=by
 intro pins s σ H x y v u Q I rx ry h;obtain⟨a,b,xs,ys,rfl,rfl,ha,hb,hz,q0,q1,q2⟩:=h;by_cases hx:xs=[]
 .cases rx;cases ry;obtain⟨its,r1,p1,_⟩:=I.tuple ha;obtain⟨its2,r2,p2,_⟩:=I.tuple hb;obtain⟨⟨cls,dd,data,sl⟩,ho,hc,n,hd⟩:=id p1;obtain⟨⟨cls2,dd2,data2,sl2⟩,ho2,hc2,n2,hd2⟩:=id p2;simp only at hc hd hc2 hd2;subst hc hd hc2 hd2;have hv:its=[]:=r1.nil_iff.mpr hx;exact concat_meets ⟨_,ho,rfl⟩ ⟨_,ho2,rfl⟩ noFill_tuple_add seq_tuple_add PySem.F.slot_tuple_add PySem.F.entry_tuple_add (PySem.F.args_tuple_add_2 _ _)
   (tuple_addW0 a b its.toArray its2.toArray n n2 dd dd2 sl sl2 (by simp[hv])) ⟨ho,ho2,⟨.ref b,H,I,rfl,q0 hx⟩⟩
 .exact xf8 pins s σ H _ _ _ _ Q I rx ry ⟨a,b,xs,ys,rfl,rfl,ha,hb,hx,hz,q1 hx,q2 hx⟩
end
section
variable {X:Cx}
def xg8 (K:PySem.W.Frag):R2:=λx y H Q=>(rI0 λi j=>.int (i+j)) x y H Q\/xiz x y H Q\/xhn K x y H Q
theorem mh (K:PySem.W.Frag)(e:X.K=K:=by rfl):OpR X (binaryOp .Add) (xg8 K):=by subst e;exact zY.or (mY.or xe6)
def xiY (K:PySem.W.Frag):R2:=λx y H Q=>(rI0 λi j=>.bl (decide (i<j))) x y H Q\/xjo K x y H Q
theorem jP (K:PySem.W.Frag)(hu:X.A.units+64<cLine)(e:X.K=K:=by rfl):OpR X (compareOp .Lt) (xiY K):=by subst e;exact xgF.or (xg0 (xmh (xmb _ _) hu))
end
section
variable {prog:Program} {w:World} {A:Around} {E:Value->Shared->Prop} {s:Shared}
theorem jz {t sl:Addr}{items:Array Value}{vl vu:Value}{lo hi:Option Int}{Q:Value->Shared->Prop}(ht:IsTup s.heap t items)(hs:s.heap.IsSliceOf sl vl vu .none)(pl:IsPart vl lo)(pu:IsPart vu hi)
  (hw:HT.sIx items.size 0 lo=0/\HT.sIx items.size items.size hi=items.size) (h:Q (.ref t) s):wpAny (model prog w) A (getItem (.ref t) (.ref sl)) Q E s:=by
 obtain⟨os,hos,hcs,hds⟩:=id hs;have hTs:s.TypeIs (.ref sl) "slice" := ⟨os,hos,hcs⟩
 unfold getItem
 try with_reducible refine wpAny_holding ?_
 first | refine wpAny_bind (wpAny_pure ?_) | skip
 refine wpAny_bind (wpAny_sequenceKey ht.typeIs (by decide) ?_);refine wpAny_bind (wpAny_callSpecial?_slot (name:=Str.ofString "__getitem__") ht.typeIs PyProof.Rows.slot_tuple_getitem
  (wpAny_call_entry PyProof.Rows.slot_tuple_getitem ht.typeIs entry_tuple_getitem ?_ (args_tuple_getitem _ _)))
 show wpAny _ _ (Builtin.Tuple.tupleItemsOf (.ref t) >>= _) _ _ s;refine wpAny_bind (tupleItemsOf_ ht ?_);refine wpAny_bind (wpAny_typeOf hTs ?_);rw[if_pos (by decide)];refine wpAny_bind (HT.qN hs pl pu ?_);have hyes:(((HT.sIx items.size 0 lo:Nat):Int) == 0&&(1:Int) == 1&&(HT.sIx items.size items.size hi-HT.sIx items.size 0 lo) == items.size)=true:=by rw[hw.1,hw.2];simp
 show wpAny _ _ (if (((HT.sIx items.size 0 lo:Nat):Int) == 0&&(1:Int) == 1&&(HT.sIx items.size items.size hi-HT.sIx items.size 0 lo) == items.size)=true then _ else _) _ _ s;rw[if_pos hyes];have hex:∀ {Q':Bool->Shared->Prop} {E':Value->Shared->Prop} {A':Around},Q' true s->wpAny (model prog w) A' (Builtin.Tuple.tupleIsExact (.ref t)) Q' E' s:=λ {Q' E' A'} hq=>by
  unfold Builtin.Tuple.tupleIsExact;refine wpAny_bind (wpAny_typeOf ht.typeIs (wpAny_pure ?_));have e:(Value.type "tuple" == Value.type "tuple")=true:=by decide
  rw[e];exact hq
 refine wpAny_bind (hex ?_);rw[if_pos rfl];exact wpAny_bind (wpAny_rule (wpAny_pure ⟨_,rfl,wpAny_pure h⟩))
end
section
variable {X:Cx}
def xg3 (K:PySem.W.Frag):V->Option Int->Option Int->Hp->VK->Prop:=λx lo hi H Q=>∃a xs,x=.ref a/\SqT K H a xs /\
 (xaj xs lo hi=xs->Q (.ref a) H)/\∀p,H p=none->Q (.ref p) (upd H p (.tup (xaj xs lo hi)))
theorem xfi:SlR X (xg3 X.K):=by
 intro pins s σ H x v vl vu lo hi sl Q I rx hs pl pu h;obtain⟨a,xs,rfl,hx,q0,q⟩:=h;by_cases hw:HT.sIx xs.length 0 lo=0/\HT.sIx xs.length xs.length hi=xs.length
 .cases rx;obtain⟨its,r,ht,hz⟩:=I.tuple hx;have hlen:its.toArray.size=xs.length:=by rw[xl4];exact r.length.symm
  refine⟨"tuple", _,PyProof.Rows.slot_tuple_getitem.lookup,ht.typeIs,?_⟩;refine jz ht hs pl pu (by rw[hlen];exact hw) ⟨.ref a,H,I,rfl,q0 ?_⟩;unfold xaj;rw[hw.1,hw.2,xk0,xmr,xl8]
 .exact xgK pins s σ H _ v vl vu lo hi sl Q I rx hs pl pu ⟨a,xs,rfl,hx,hw,q⟩
def xi8 (K:PySem.W.Frag):V->Option Int->Option Int->Hp->VK->Prop:=λx lo hi H Q=>xhB K x lo hi H Q\/xg3 K x lo hi H Q
theorem xb5 (K:PySem.W.Frag)(e:X.K=K:=by rfl):SlR X (xi8 K):=by
 subst e;intro pins s σ H x v vl vu lo hi sl Q I rx hs pl pu h;rcases h with h | h
 .exact xb1 pins s σ H x v vl vu lo hi sl Q I rx hs pl pu h
 .exact xfi pins s σ H x v vl vu lo hi sl Q I rx hs pl pu h
end
section
variable {K:PySem.W.Frag} {fr:Bool}
def xeW (x y:Tr)(KK:Tr->Prop):Prop:=match x,y with
 | .int i,.int j=>KK (.int (i+j))
 | .lst ts,.lst us=>ts.length+us.length<=sizeLine/\KK (.lst (ts++us))
 | .tup ts,.tup us=>ts.length+us.length<=sizeLine/\KK (.tup (ts++us))
 | _,_=>False
theorem rV (ha:OkE K b ta da)(hb:OkE K b tb db):OkE K b (tOp (xg8 K) ta tb) (d2 xeW da db):=λB φ σ τ H Q KK R hd q =>
 ha B φ σ τ H _ _ R hd λt v H1 x1 k1 r1=>hb B φ σ τ H1 _ _ (R.hx x1) k1 λu w H2 x2 k2 r2=>by
  have r1':=x2.rep (λa s=>R.sB s) r1;have x:=x1.trans x2
  replace k2:xeW t u KK:=k2
  unfold xeW at k2;split at k2
  .rename_i i j;cases (show v=.int i from r1');cases (show w=.int j from r2);exact .inl ⟨i,j,rfl,rfl,q _ _ H2 x k2 rfl⟩
  .rename_i ts us;obtain⟨a,ws,e,n,ha',rl⟩:=r1';obtain⟨a2,ws2,e2,n2,ha2,rl2⟩:=r2;exact .inr (.inl ⟨a,a2,ws,ws2,e,e2,ha',ha2,by rw[<-rl.len,<-rl2.len];exact k2.1,λp hp=>q _ _ _ (x.trans (HX.new (R.hx x) hp _)) k2.2 ⟨p,_,rfl,λz=>(R.hx x).domB z hp,xV,uw hp (rl.app rl2)⟩⟩)
  .rename_i ts us;obtain⟨a,ws,e,n,ha',rl⟩:=id r1';obtain⟨a2,ws2,e2,n2,ha2,rl2⟩:=id r2;refine .inr (.inr ⟨a,a2,ws,ws2,e,e2,SqT.of ha',SqT.of ha2,by rw[<-rl.len,<-rl2.len];exact k2.1,λz=>?_,λ_ z=>?_,λ_ _ p hp=>q _ _ _ (x.trans (HX.new (R.hx x) hp _)) k2.2 ⟨p,_,rfl,λz=>(R.hx x).domB z hp,xV,uw hp (rl.app rl2)⟩⟩)
   .have e0:ts=[]:=by have:=rl.len;rw[z] at this;exact xlo.mp this
    subst e0;rw[<-e2];exact q _ _ H2 x k2.2 (by rw[xlV];exact r2)
   .have e0:us=[]:=by have:=rl2.len;rw[z] at this;exact xlo.mp this
    subst e0;rw[<-e];exact q _ _ H2 x k2.2 (by rw[xkX];exact r1')
  .exact k2.elim
def xjt (x y:Tr)(KK:Tr->Prop):Prop:=match x,y with
 | .int i,.int j=>KK (.bl (decide (i<j)))
 | x,y=>∃ns ms:List Int,x=.tup (ns.map Tr.int)/\y=.tup (ms.map Tr.int)/\KK (.bl (HT.lexLt ns ms))
theorem hG:OpS (xiY K) xjt:=λF G H x y t u KK Q r1 r2 hf q=>by
 unfold xjt at hf;split at hf
 .rename_i i j;cases (show x=.int i from r1);cases (show y=.int j from r2);exact .inl ⟨i,j,rfl,rfl,q _ _ rfl hf⟩
 .obtain⟨ns,ms,rfl,rfl,k⟩:=hf;obtain⟨a,ws,e,n,ha,rl⟩:=r1;obtain⟨a2,ws2,e2,n2,ha2,rl2⟩:=r2;rw[qa rl] at ha;rw[qa rl2] at ha2;exact .inr ⟨a,a2,ns,ms,e,e2,SqT.of ha,SqT.of ha2,q _ _ rfl k⟩
theorem lE {F:Addr->Prop}{H:Hp}{ts:List Tr}{ws:List V}{lo hi:Option Int}(r:z_ F H ts ws)(h:xaj ws lo hi=ws):gU ts lo hi=ts:=by
 unfold gU;unfold xaj at h;rw[<-r.len] at h;have h1:((ts.drop (HT.sIx ts.length 0 lo)).take (HT.sIx ts.length ts.length hi-HT.sIx ts.length 0 lo)).length=ts.length:=by have:=xmu List.length h;rw[xly,xln] at this ⊢;rw[<-r.len] at this;exact this
 have h2:HT.sIx ts.length 0 lo=0\/ts.length=0:=by rw[xly,xln] at h1;omega
 rcases h2 with h2 | h2
 .rw[h2,xk0,xmr];rw[h2,xly,xk0,xmr] at h1;exact xl9 (by omega)
 .have:ts=[]:=xlo.mp h2;subst this;simp
theorem xcx {b:Bool}{te:TE}{tl th:TO}{d:DE}{dl dh:DO}(h:OkE K b te d)(hl:OkO K tl dl)(hh:OkO K th dh):OkE K b (tSl (xi8 K) te tl th) (dSl d dl dh):=λB φ σ τ H Q KK R hd q =>
 h B φ σ τ H _ _ R hd λt v H1 x1 k1 r1=>hl B φ σ τ H1 _ _ (R.hx x1) k1 λlo H2 x2 k2=>hh B φ σ τ H2 _ _ (R.hx (x1.trans x2)) k2 λhi H3 x3 k3=>by
  have r3:=(x2.trans x3).rep (λa s=>R.sB s) r1;have x:=(x1.trans x2).trans x3;cases t with
  | lst ts =>obtain⟨a,ws,e,n,ha,rl⟩:=r3;exact .inl ⟨a,ws,e,SqL.of ha,λp hp=>q _ _ _ (x.trans (HX.new (R.hx x) hp _)) k3 ⟨p,_,rfl,λz=>(R.hx x).domB z hp,xV,uw hp (rl.cut lo hi)⟩⟩
  | tup ts =>obtain⟨a,ws,e,n,ha,rl⟩:=id r3;refine .inr ⟨a,ws,e,SqT.of ha,λz=>?_,λp hp=>q _ _ _ (x.trans (HX.new (R.hx x) hp _)) k3 ⟨p,_,rfl,λz=>(R.hx x).domB z hp,xV,uw hp (rl.cut lo hi)⟩⟩;rw[<-e];exact q _ _ H3 x k3 (by rw[lE rl z];exact r3)
  | _=>exact k3.elim
end
end L2
namespace L2
open PySem PySem.Spec PyProof.Rows
def xeV (b:Bool):String:=if b then "tuple_iterator" else "list_iterator"
abbrev za1 (b:Bool)(h:Heap)(a:Addr):Heap:=h.push { cls:=.type (xeV b),data:=.fields #[.ref a,.int 0 0] }
abbrev za2 (b c:Bool)(h:Heap)(a d:Addr):Heap:=(za1 b h a).push { cls:=.type (xeV c),data:=.fields #[.ref d,.int 0 0] }
abbrev za3 (b c:Bool)(h:Heap)(a d:Addr):Heap:=(za2 b c h a d).push { cls:=.type "tuple", data:=.seq #[.ref h.objs.size,.ref (za1 b h a).objs.size] }
abbrev za4 (b c:Bool)(h:Heap)(a d:Addr):Heap:=(za3 b c h a d).push { cls:=.type "tuple", data:=.seq #[.none,.none] }
abbrev za5 (b c:Bool)(h:Heap)(a d:Addr):Heap:=(za4 b c h a d).push { cls:=.type "zip", data:=.fields #[.none,.bool false,.bool false,.ref (za2 b c h a d).objs.size,.ref (za3 b c h a d).objs.size] }
theorem dI (h:xap b a vs s.heap)(q:Q (.ref s.heap.objs.size) { s with heap:=za1 b s.heap a }):wpAny (model prog w) A (pyIter (.ref a)) Q E s:=by
 cases b with
 | true=>exact wpAny_pyIter_tuple (show s.heap.IsTuple a vs.toArray from h) q
 | false=>exact wpAny_pyIter_list (show s.heap.IsList a vs.toArray from h) q
theorem xa5 (s:xap b a vs h)(o:Obj):xap b a vs (h.push o):=(rF b 0 a vs).smv _ _ s λo' e=>Heap.get?_push_of_some _ e
theorem xco (b c:Bool)(a d:Addr)(xs ys:List Value):Meets (Builtin.«zip.__new__» ⟨[.type "zip", .ref a,.ref d],[]⟩) (λ_ R s=>xap b a xs s.heap/\xap c d ys s.heap/\R (.ok (.ret (.ref (za4 b c s.heap a d).objs.size))) { s with heap:=za5 b c s.heap a d }) :=
 .of_wp λprog w A R s h=>by
  obtain⟨hp,g,dd,tk,os⟩:=s;obtain⟨ha,hb,h⟩:=h;have hsub:=sub_zip;have A1:xap b a xs (Shared.heap ⟨hp,g,dd,tk,os⟩):=ha;have B1:xap c d ys (Shared.heap ⟨hp.push { cls:=.type (xeV b),data:=.fields #[.ref a,.int 0 0] },g,dd,tk,os⟩):=xa5 hb _
  wp_walk using dI A1,dI B1
  exact⟨_,rfl,h⟩
section
variable {prog:Program} {w:World} {A:Around} {E:Value->Shared->Prop} {s:Shared}
theorem xbB (ha:xap b a xs s.heap)(hb:xap c d ys s.heap)
  (h:∀g,IsZip g (s.heap.objs.size+4) (s.heap.objs.size+2) (s.heap.objs.size+3) .none->IsPair g (s.heap.objs.size+2) (.ref s.heap.objs.size) (.ref (s.heap.objs.size+1))->IsPair g (s.heap.objs.size+3) .none .none ->
   Tn2 b s.heap.objs.size a 0 g->Tn2 c (s.heap.objs.size+1) d 0 g->(∀c o,s.heap.get? c=some o->g.get? c=some o)->Q (.ref (s.heap.objs.size+4)) { s with heap:=g }) :
  wpAny (model prog w) A (call (.type "zip") [.ref a,.ref d]) Q E s:=by
 refine callType_new F.called_zip (by decide) (F.typeCall_zip_2 _ _) (F.newCall_zip_2 _ _) (λobj=>F.args_object_init_3 obj _ _) F.entry_zip_new (xco b c a d xs ys) ⟨ha,hb,?_⟩;have n1:(za1 b s.heap a).objs.size=s.heap.objs.size+1:=Heap.size_push ..;have n2:(za2 b c s.heap a d).objs.size=s.heap.objs.size+2:=by rw[Heap.size_push,n1]
 have n3:(za3 b c s.heap a d).objs.size=s.heap.objs.size+3:=by rw[Heap.size_push,n2]
 have n4:(za4 b c s.heap a d).objs.size=s.heap.objs.size+4:=by rw[Heap.size_push,n3]
 have o5:(za5 b c s.heap a d).get? (za4 b c s.heap a d).objs.size=some _:=Heap.get?_push_size _ rfl;have o4:(za5 b c s.heap a d).get? (za3 b c s.heap a d).objs.size=some _:=Heap.get?_push_of_some _ (Heap.get?_push_size _ rfl);have o3:(za5 b c s.heap a d).get? (za2 b c s.heap a d).objs.size=some _:=Heap.get?_push_of_some _ (Heap.get?_push_of_some _ (Heap.get?_push_size _ rfl));have o2:(za5 b c s.heap a d).get? (za1 b s.heap a).objs.size=some _:=Heap.get?_push_of_some _ (Heap.get?_push_of_some _ (Heap.get?_push_of_some _ (Heap.get?_push_size _ rfl)));have o1:(za5 b c s.heap a d).get? s.heap.objs.size=some _:=Heap.get?_push_of_some _ (Heap.get?_push_of_some _ (Heap.get?_push_of_some _ (Heap.get?_push_of_some _ (Heap.get?_push_size _ rfl))));show _/\_;rw[n2,n3,n4] at o5;rw[n1,n2] at o3;rw[n3] at o4;rw[n1] at o2;rw[n4];refine⟨⟨_,o5,rfl⟩,h _ o5 o3 o4 ?_ ?_ λc o g=>Heap.get?_push_of_some _ (Heap.get?_push_of_some _ (Heap.get?_push_of_some _ (Heap.get?_push_of_some _ (Heap.get?_push_of_some _ g))))⟩
 .cases b with
  | true=>exact⟨_,o1,rfl,rfl⟩
  | false=>exact⟨_,o1,rfl,rfl⟩
 .cases c with
  | true=>exact⟨_,o2,rfl,rfl⟩
  | false=>exact⟨_,o2,rfl,rfl⟩
end
def xh7 (K:PySem.W.Frag)(b c:Bool)(a1 a2:Addr):It :=
 ⟨λi H=>∃xs ys x y,Sq2 K b H a1 xs/\Sq2 K c H a2 ys/\xs[i]? = some x/\ys[i]? = some y,
  λi H v H'=>∃x y q,(∀xs,Sq2 K b H a1 xs->xs[i]? = some x)/\(∀ys,Sq2 K c H a2 ys->ys[i]? = some y)/\v=.ref q/\H q=none/\H'=upd H q (.tup [x,y]),
  λi H=>∃xs ys,Sq2 K b H a1 xs/\Sq2 K c H a2 ys/\(xs.length<=i\/ys.length<=i)⟩
section
variable {P:Program} {w:World} {K:PySem.W.Frag} {z ti to i1 i2 a1 a2:Addr} {b c':Bool}
def ZS2 (b c:Bool)(z ti to i1 i2 a1 a2:Addr)(i:Nat)(h:Heap):Prop:=IsZip h z ti to .none/\IsPair h ti (.ref i1) (.ref i2)/\(∃p q,IsPair h to p q)/\Tn2 b i1 a1 i h/\Tn2 c i2 a2 i h
theorem xbb (D:ZA z ti to i1 i2 a1 a2):Turn P w K (.Tuple elts kk pp) (xh7 K b c' a1 a2) [z,ti,to,i1,i2] z (ZS2 b c' z ti to i1 i2 a1 a2) where
 mem:=by simp
 obj:=λi h st c hc=>by
  obtain⟨s1,s2,⟨p,q,s3⟩,s4,s5⟩:=st;simp only[xlI,xlY,xmC] at hc;rcases hc with e | e | e | e | e<;>subst e
  .exact⟨_,s1,λv=>by simp⟩
  .exact⟨_,s2,λv=>by simp⟩
  .exact⟨_,s3,λv=>by simp⟩
  .exact(rF b _ a1 []).ob _ _ s4
  .exact(rF c' _ a2 []).ob _ _ s5
 keep:=λi h h' st k=>by obtain⟨s1,s2,⟨p,q,s3⟩,s4,s5⟩:=st;exact⟨k _ (by simp) _ s1,k _ (by simp) _ s2,⟨p,q,k _ (by simp) _ s3⟩,(rF b i1 a1 []).mv _ _ _ s4 λo e=>k _ (by simp) o e,(rF c' i2 a2 []).mv _ _ _ s5 λo e=>k _ (by simp) o e⟩
 item:=by
  intro X hP hw hK hc i pins s σ H E I hf st hg;subst hP hw hK;obtain⟨Z,TI,⟨p,q,TO⟩,b1,b2⟩:=st;obtain⟨xs,ys,x,y,sq1,sq2,hx,hy⟩:=hg;obtain⟨vs,rv,c1⟩:=I.sq2 sq1;obtain⟨us,ru,c2⟩:=I.sq2 sq2;obtain⟨xv,ex,rx⟩:=rv.get hx;obtain⟨yv,ey,ry⟩:=ru.get hy;have hT:s.TypeIs (.ref z) "zip" := ⟨_,Z,rfl⟩
  have fr:H s.heap.objs.size=none:=I.hok.fresh (xmd _);unfold pyNext;refine wpAny_bind (wpAny_attempt (wpAny_callSpecial?_slot (name:=Str.ofString "__next__") hT F.slot_zip_next (wpAny_call_entry F.slot_zip_next hT F.entry_zip_next (xcl D (rF b i1 a1 vs) (rF c' i2 a2 us) Z TI TO b1 b2 c1 c2 ex ey λg Z' TO' b1' b2' T' kp=>?_) (F.args_zip_next_1 _))));refine wpAny_pure ⟨_,rfl,wpAny_letOwnedTupleGo_zip Z' λg2 Z2 S2=>?_⟩;obtain⟨⟨d1,d2,d3,d4,d5,d6,d7,d8,d9,d10⟩,_⟩:=D;have ltz:z<s.heap.objs.size:=Heap.lt_size Z;have kp2:∀c o,c∉[z,ti,to,i1,i2]->s.heap.get? c=some o->g2.get? c=some o:=λc o hc e=>by simp only[xlI,xlY,xmC,not_or] at hc;exact S2.extBut _ _ hc.1 (kp c o hc.1 hc.2.2.1 hc.2.2.2.1 hc.2.2.2.2 e)
  have TI2:IsPair g2 ti (.ref i1) (.ref i2):=S2.extBut _ _ d1 (kp _ _ d1 d5 d6 d7 TI);have T2:IsPair g2 s.heap.objs.size xv yv:=S2.extBut _ _ (xmp ltz) T';have st2:ZS2 b c' z ti to i1 i2 a1 a2 (i+1) g2:=⟨Z2,TI2,⟨_,_,S2.extBut _ _ d2 TO'⟩,(rF b i1 a1 vs).mv _ _ _ b1' λo=>S2.extBut _ o d3,(rF c' i2 a2 us).mv _ _ _ b2' λo=>S2.extBut _ o d4⟩
  have nfp:∀c u,H c=some u->c∉[z,ti,to,i1,i2]:=λc u e hm=>by rw[(hf c hm).1] at e;cases e
  have nT:∀c o,s.heap.get? c=some o->c≠s.heap.objs.size:=λc o e=>xmq (Heap.lt_size e);refine⟨.ref s.heap.objs.size,upd H s.heap.objs.size (.tup [x,y]),?_,rfl,⟨x,y,_,λxs' h'=>by rw[<-I.sq2_inj sq1 h'];exact hx,λys' h'=>by rw[<-I.sq2_inj sq2 h'];exact hy,rfl,fr,rfl⟩,st2,λc hm=>?_⟩
  .show Inv X pins σ (upd H s.heap.objs.size (.tup [x,y])) { s with heap:=g2,gens:=s.gens,drawn:=s.drawn,toks:=s.toks };refine Inv.step (s:=s) (g':=s.gens) (d':=s.drawn) (t':=s.toks) (ch:=[z,ti,to,i1,i2]) I (λc hm=>?_) (λc o _ _ hm e _=>kp2 c o hm e) (λc o _ _ hm e _=>⟨o.slots,kp2 c o hm e⟩) (λc o hm e n=>by rw[xJ (nT c o e)];exact n) (λc o hm e=>⟨o,kp2 c o hm e⟩)
    (λc zs e=>by rw[xJ (xD e fr)];exact e) (λc o u e=>by rw[xJ (xD e fr)];exact e) (λc ps e=>⟨#[],by rw[xJ (xD e fr),e];simp⟩) (λm hm=>?_) (λc u e=>?_) I.bare
   .obtain⟨_,f1,_,f3,f4,f5⟩:=hf c hm;exact⟨f3,f1,f4,f5⟩
   .obtain⟨o,es,ep,ho,r⟩:=hm;exact⟨o,es,ep,kp2 _ o (λz'=>(hf _ z').2.1 rfl) ho,r⟩
   .by_cases hc':c=s.heap.objs.size
    .subst hc';rw[xV] at e;cases e;exact⟨by show 2<=sizeLine;decide,[xv,yv],.cons rx (.cons ry .nil),_,T2,rfl,0,rfl⟩
    .rw[xJ hc'] at e;refine(I.hok c u e).stay (λc' v hcc q'=>kp2 c' v ?_ q') (λc' q'=>by rw[xJ (xD q' fr)];exact q') (λc' zs q'=>by rw[xJ (xD q' fr)];exact q') λc' o u q'=>by rw[xJ (xD q' fr)];exact q'
     rcases hcc with rfl | hcc
     .exact nfp _ _ e
     .exact nfp _ _ hcc
  .rw[xJ]
   .exact(hf c hm).1
   .simp only[xlI,xlY,xmC] at hm;rcases hm with e | e | e | e | e<;>subst e
    .exact nT _ _ Z
    .exact nT _ _ TI
    .exact nT _ _ TO
    .obtain⟨o,e,_⟩:=(rF b _ a1 []).ob _ _ b1;exact nT _ _ e
    .obtain⟨o,e,_⟩:=(rF c' _ a2 []).ob _ _ b2;exact nT _ _ e
 done:=by
  intro X hP hw hK hc i pins s σ H E I hf st hg;subst hP hw hK;obtain⟨Z,TI,⟨p,q,TO⟩,b1,b2⟩:=st;obtain⟨xs,ys,sq1,sq2,hend⟩:=hg;obtain⟨vs,rv,c1⟩:=I.sq2 sq1;obtain⟨us,ru,c2⟩:=I.sq2 sq2;have hT:s.TypeIs (.ref z) "zip" := ⟨_,Z,rfl⟩
  have he:vs[i]? = none\/us[i]? = none:=hend.imp (λh=>List.getElem?_eq_none_iff.mpr (by rw[<-rv.length];exact h)) (λh=>List.getElem?_eq_none_iff.mpr (by rw[<-ru.length];exact h));unfold pyNext;refine wpAny_bind (wpAny_attempt (wpAny_callSpecial?_slot (name:=Str.ofString "__next__") hT F.slot_zip_next (wpAny_call_entry F.slot_zip_next hT F.entry_zip_next (xcY (I.ok.hd hc) D (rF b i1 a1 vs) (rF c' i2 a2 us) Z TI TO b1 b2 c1 c2 he λg e kp ho=>?_) (F.args_zip_next_1 _))));obtain⟨o,ho,hcl⟩:=ho;refine wpAny_bind (wpAny_isInstance (T := "StopIteration") (b:=true) ⟨o,ho,hcl⟩ isSubtype_stop (wpAny_pure ⟨rfl,?_⟩));have kp2:∀c o,c∉[z,ti,to,i1,i2]->s.heap.get? c=some o->g.get? c=some o:=λc o hc e=>by simp only[xlI,xlY,xmC,not_or] at hc;exact kp c o hc.1 hc.2.2.1 hc.2.2.2.1 hc.2.2.2.2 e
  have nfp:∀c u,H c=some u->c∉[z,ti,to,i1,i2]:=λc u e hm=>by rw[(hf c hm).1] at e;cases e
  refine Inv.step (s:=s) (g':=s.gens) (d':=s.drawn) (t':=s.toks) (ch:=[z,ti,to,i1,i2]) I (λc hm=>?_) (λc o _ _ hm e _=>kp2 c o hm e) (λc o _ _ hm e _=>⟨o.slots,kp2 c o hm e⟩) (λc o hm e n=>n) (λc o hm e=>⟨o,kp2 c o hm e⟩)
   (λc zs e=>e) (λc o u e=>e) (λc ps e=>⟨#[],by rw[e];simp⟩) (λm hm=>?_) (λc u e=>?_) I.bare
  .obtain⟨_,f1,_,f3,f4,f5⟩:=hf c hm;exact⟨f3,f1,f4,f5⟩
  .obtain⟨o,es,ep,ho,r⟩:=hm;exact⟨o,es,ep,kp2 _ o (λz'=>(hf _ z').2.1 rfl) ho,r⟩
  .refine(I.hok c u e).stay (λc' v hcc q'=>kp2 c' v ?_ q') (λ_ q'=>q') (λ_ _ q'=>q') λ_ _ _ q'=>q';rcases hcc with rfl | hcc
   .exact nfp _ _ e
   .exact nfp _ _ hcc
 self:=λA i s Q E st h=>wpAny_pyIter_zip st.1 h
end
def xgX (K:PySem.W.Frag)(ta:TA):TI:=λ σ H R=>ta σ H λvs H1=>∃(b c:Bool) (a1 a2:Addr) (xs ys:List V),vs=[.ref a1,.ref a2]/\Sq2 K b H1 a1 xs/\Sq2 K c H1 a2 ys/\R (xh7 K b c a1 a2) H1
section
variable {X:Cx}
theorem cY (K:PySem.W.Frag)(hg:Gl X "zip")(hm:X.mg "zip" = none)(ha:PA X [a,b] ta)(hs:starEach [a,b] X.env=[(false,eval a X.env),(false,eval b X.env)]:=by rfl)(hs2:starEach [b] X.env=[(false,eval b X.env)]:=by rfl)(eK:X.K=K:=by rfl) :
  PI X (.Tuple elts kk pp) (.Call (.Name "zip" p) [a,b] [] pos) (xgX K ta):=by
 subst eK;intro pins s σ H R I h;refine Call_ (dQ I hg hm xgx (PyProof.Rows.callWith_type1 (thn (@ha pos pins s σ H _ I h) λus s1 ⟨vs,H1,I1,r1,q1⟩=>?_) (by rw[hs,hs2]) (by rw[hs2];rfl)));obtain⟨bb,cc,a1,a2,xs,ys,e,sq1,sq2,q⟩:=q1;subst e;obtain⟨u1,u2,rfl,e1,e2⟩:=vals2 r1;obtain rfl:u1=Value.ref a1:=e1;obtain rfl:u2=Value.ref a2:=e2;obtain⟨vs,rv,c1⟩:=I1.sq2 sq1;obtain⟨us,ru,c2⟩:=I1.sq2 sq2;have fp:∀k:Nat,mG X pins H1 (s1.heap.objs.size+k):=λk=>I1.fpOk (xmb _ _) (I1.hok.fresh (xmb _ _));have lt:∀(b:Bool) (a:Addr) (vs:List Value),xap b a vs s1.heap->a<s1.heap.objs.size:=λb a vs h=>by
  cases b with
  | true=>obtain⟨o,e,_⟩:=(show s1.heap.IsTuple a vs.toArray from h);exact Heap.lt_size e
  | false=>obtain⟨o,e,_⟩:=(show s1.heap.IsList a vs.toArray from h);exact Heap.lt_size e
 refine xbB c1 c2 ?_;intro g z1 z2 z3 z4 z5 kp;have st:ZS2 bb cc (s1.heap.objs.size+4) (s1.heap.objs.size+2) (s1.heap.objs.size+3) s1.heap.objs.size (s1.heap.objs.size+1) a1 a2 0 g:=⟨z1,z2,⟨_,_,z3⟩,z4,z5⟩
 refine wpAny_pyIter_zip st.1 ⟨_,_,_,_,H1,rfl,I1.kept (t':=s1.toks) kp,xbb (xgJ (lt _ _ _ c1) (lt _ _ _ c2)),st,λc hc=>?_,q⟩;simp only[xlI,xlY,xmC] at hc;rcases hc with e | e | e | e | e<;>subst e
 .exact fp 4
 .exact fp 2
 .exact fp 3
 .exact fp 0
 .exact fp 1
end
def xaq:List Tr->List Tr->List Tr
 | t::ts,u::us=>.tup [t,u]::xaq ts us
 | _,_=>[]
theorem tK:∀(ts us:List Tr),(xaq ts us).length=min ts.length us.length
 | [],_=>by simp[xaq]
 | _::_,[]=>by simp[xaq]
 | _::ts,_::us=>by simp only[xaq,xlm,tK ts us];omega
theorem ou:∀ {ts us:List Tr} {i:Nat} {t u:Tr},ts[i]? = some t->us[i]? = some u->(xaq ts us)[i]? = some (.tup [t,u])
 | [],_,_,_,_,h,_=>by simp at h
 | _::_,[],_,_,_,_,h=>by simp at h
 | _::_,_::_,0,_,_,h,h'=>by simp at h h';subst h h';rfl
 | _::ts,_::us,i+1,t,u,h,h'=>by show(xaq ts us)[i]? = _;exact ou (by simpa using h) (by simpa using h')
def sqT (b:Bool)(ts:List Tr):Tr:=if b then .tup ts else .lst ts
section
variable {K:PySem.W.Frag}
theorem kC (h:Rep F H (sqT b ts) (.ref a)):∃ws,Sq2 K b H a ws/\z_ F H ts ws:=by
 cases b with
 | true =>
  obtain⟨a',ws,e,n,h,r⟩:=(show Rep F H (.tup ts) (.ref a) from h)
  cases e;exact⟨ws,SqT.of h,r⟩
 | false =>
  obtain⟨a',ws,e,n,h,r⟩:=(show Rep F H (.lst ts) (.ref a) from h)
  cases e;exact⟨ws,SqL.of h,r⟩
theorem xdi:ItL (xh7 K b c a1 a2) (xaq ts us) [(sqT b ts,.ref a1),(sqT c us,.ref a2)] where
 go:=λF H i s hi=>by obtain⟨ws,h1,r1⟩:=kC (K:=K) (s _ xlK);obtain⟨ws2,h2,r2⟩:=kC (K:=K) (s _ (xlJ _ xlK));rw[tK] at hi;obtain⟨w,e1,_⟩:=r1.getT (xlc (i:=i) (by omega));obtain⟨w2,e2,_⟩:=r2.getT (xlc (i:=i) (by omega));exact⟨ws,ws2,w,w2,h1,h2,e1,e2⟩
 stop:=λF H s=>by obtain⟨ws,h1,r1⟩:=kC (K:=K) (s _ xlK);obtain⟨ws2,h2,r2⟩:=kC (K:=K) (s _ (xlJ _ xlK));refine⟨ws,ws2,h1,h2,?_⟩;rw[tK,<-r1.len,<-r2.len];omega
 yld:=λF i H x H' s d hi y=>by obtain⟨ws,h1,r1⟩:=kC (K:=K) (s _ xlK);obtain⟨ws2,h2,r2⟩:=kC (K:=K) (s _ (xlJ _ xlK));obtain⟨v,v2,q,hv,hv2,rfl,hq,rfl⟩:=y;obtain⟨t,e1,g1⟩:=r1.get (hv ws h1);obtain⟨u,e2,g2⟩:=r2.get (hv2 ws2 h2);exact⟨.inr ⟨q,_,hq,rfl⟩,.tup [t,u],ou e1 e2,q,_,rfl,λz=>d q z hq,xV,⟨_,_,rfl,rX hq g1,_,_,rfl,rX hq g2,rfl⟩⟩
def xiI:Tr->Option (Bool×List Tr)
 | .tup ts=>some (true,ts)
 | .lst ts=>some (false,ts)
 | _=>none
def xiO (d:DA):DI:=λ τ KK=>d τ λxs=>match xs with
 | [x,y]=>(match xiI x,xiI y with | some p,some q=>KK (xaq p.2 q.2) | _,_=>False)
 | _=>False
theorem bT (h:xiI x=some p):x=sqT p.1 p.2:=by
 cases x with
 | tup ts=>cases h;rfl
 | lst ts=>cases h;rfl
 | _=>cases h
theorem xb4 (h:Rep F H (sqT b ts) v):∃a,v=.ref a:=by
 cases b with
 | true=>obtain⟨a,ws,e,_⟩:=(show Rep F H (.tup ts) v from h);exact⟨a,e⟩
 | false=>obtain⟨a,ws,e,_⟩:=(show Rep F H (.lst ts) v from h);exact⟨a,e⟩
theorem tV (h:OkA K b n ta da):OkI K b (xgX K ta) (xiO da):=λB φ σ τ H R KK Rs hd q =>
 h B φ σ τ H _ _ Rs hd λts vs H1 x1 k1 l1 r1=>by
  split at k1
  .rename_i x y;split at k1
   .rename_i p p' e1 e2;obtain⟨v,w,rfl,g1,g2⟩:=lX r1;rw[bT e1] at g1;rw[bT e2] at g2;obtain⟨a1,rfl⟩:=xb4 g1;obtain⟨a2,rfl⟩:=xb4 g2;obtain⟨ws,s1,_⟩:=kC (K:=K) g1;obtain⟨ws2,s2,_⟩:=kC (K:=K) g2;refine⟨p.1,p'.1,a1,a2,ws,ws2,rfl,s1,s2,q _ _ _ H1 x1 k1 xdi λz hz=>?_⟩;simp only[xlI,xlY,xmC] at hz;rcases hz with rfl | rfl
    .exact g1
    .exact g2
   .exact k1.elim
  .exact k1.elim
end
end L2
namespace L2
open PySem PySem.Spec PyProof.Rows
theorem yp (K:PySem.W.Frag)(e:X.K=K:=by rfl):IxR X (rIx K):=e▸xg5
end L2
namespace L2
open PySem PySem.Spec PyProof.Rows
theorem oZ (W:List Tr->TSt->Prop)(h0:∀ τ,W [] τ->G.nx τ)
  (h1:∀x xs τ (N:TSt->Prop),W (x::xs) τ->(∀ τ',W xs τ'->N τ')->dg x τ λ τ'=>body { G with nx:=N,ct:=N,bk:=G.nx } τ'):∀xs τ,W xs τ->xcX dg body G xs τ
 | [],τ,w=>h0 τ w
 | x::xs,τ,w=>h1 x xs τ (xcX dg body G xs) w (oZ W h0 h1 xs)
theorem zt (W:Nat->TSt->Prop)(w0:W 0 τ)
  (h1:∀i x τ (N:TSt->Prop),all[i]? = some x->W i τ->(∀ τ',W (i+1) τ'->N τ')->dg x τ λ τ'=>body { G with nx:=N,ct:=N,bk:=G.nx } τ')
  (h0:∀ τ,W all.length τ->G.nx τ):xcX dg body G all τ:=by
 refine oZ (λxs τ=>∃i,xs=all.drop i/\i<=all.length/\W i τ) (λ τ ⟨i,e,hi,w⟩=>h0 τ ?_) (λx xs τ N ⟨i,e,hi,w⟩ hN=>?_) all τ ⟨0,rfl,xms _,w0⟩
 .have:all.length<=i:=by have:=xmu List.length e;rw[xln] at this;simp at this;omega
  have:i=all.length:=by omega
  rw[<-this];exact w
 .have hlt:i<all.length:=by have:=xmu List.length e;rw[xln] at this;simp at this;omega
  rw[xkZ hlt] at e;injection e with e1 e2;exact h1 i x τ N (by rw[e1];exact xlc hlt) w λ τ' w'=>hN τ' ⟨i+1,e2,hlt,w'⟩
theorem p_ (W:Nat->TSt->Prop)
  (h:∀n τ (N:TSt->Prop),W n τ->(∀m τ',m<n->W m τ'->N τ')->c τ λb=>if b=true then body { G with nx:=N,ct:=N,bk:=G.nx } τ else G.nx τ):∀k n τ,n<k->W n τ->xfL c body G k τ
 | 0,_,_,hk,_=>absurd hk (by omega)
 | k+1,n,τ,hk,w=>h n τ (xfL c body G k) w λm τ' hm w'=>p_ W h k m τ' (by omega) w'
theorem j8 (W:Nat->TSt->Prop)(n:Nat)(w0:W n τ)
  (h:∀n τ (N:TSt->Prop),W n τ->(∀m τ',m<n->W m τ'->N τ')->c τ λb=>if b=true then body { G with nx:=N,ct:=N,bk:=G.nx } τ else G.nx τ):xew c body G τ :=
 ⟨n+1,p_ W h (n+1) n τ (xmk n) w0⟩
theorem j3 {dg:DG}{dc:DT}{de:DE}{τi:TSt}{KK:List Tr->Prop}(W:List Tr->List Tr->Prop)(h0:∀acc,W [] acc->KK acc)
  (h1:∀x xs acc (N:List Tr->Prop),W (x::xs) acc->(∀acc',W xs acc'->N acc')->dg x τi λ τ2=>dc τ2 λb=>if b=true then de τ2 λy=>N (acc++[y]) else N acc):∀xs acc,W xs acc->xa1 dg dc de τi KK xs acc
 | [],acc,w=>h0 acc w
 | x::xs,acc,w=>h1 x xs acc (xa1 dg dc de τi KK xs) w (j3 W h0 h1 xs)
theorem kO {dg:DG}{de:DE}{τi:TSt}{KK:List Tr->Prop}{xs:List Tr}(g:Tr->Tr)(h1:∀x∈xs,∀N:Tr->Prop,N (g x)->dg x τi λ τ2=>de τ2 N)(h0:KK (xs.map g)):xa1 dg xdg de τi KK xs []:=by
 refine j3 (λys acc=>∃zs,xs=zs++ys/\acc=zs.map g) (λacc ⟨zs,e,e2⟩=>?_) (λx ys acc N ⟨zs,e,e2⟩ hN=>?_) xs [] ⟨[],rfl,rfl⟩
 .rw[xkX] at e;subst e e2;exact h0
 .subst e2;have hx:x∈xs:=by rw[e];simp
  exact h1 x hx (λy=>N (zs.map g++[y])) (hN _ ⟨zs++[x],by rw[e];simp,by simp⟩)
theorem zX {α:Type}{f:α->Tr}{l:List α}{i:Nat}{t:Tr}(h:(l.map f)[i]? = some t):∃x,l[i]? = some x/\t=f x:=by
 rw[xlf] at h;cases e:l[i]? with
 | none=>rw[e] at h;cases h
 | some x=>rw[e] at h;cases h;exact⟨x,rfl,rfl⟩
theorem dX (ts:List α)(n:Nat):atT ts (n:Int)=ts[n]?:=hZ ts n
theorem mB (ts:List α)(t:α):atT (ts++[t]) (-1)=some t:=by rw[xeF];exact xdY ts t
theorem sqz (h:n<=1000000):n<sizeLine:=xmh h (by decide)
theorem xcR (h:n<=1000000):n<=sizeLine:=xmc (sqz h)
theorem zK {a b:Int}(h:0<=b):a.fdiv b=a / b:=xki a h
theorem xcU {a b:Int}(h:0<=b):a.fmod b=a % b:=Int.fmod_eq_emod_of_nonneg a h
end L2
namespace L2
open PySem PySem.Spec PyProof.Rows
section
variable {prog:Program} {w:World} {A:Around} {E:Value->Shared->Prop} {s:Shared}
theorem mH (hne:t≠it):∀(n i:Nat) (s:Shared) (Q:List Value->Shared->Prop),s.heap.IsListIter it t i->s.heap.IsList t items->i+n<=items.size ->
  (∀h',h'.IsListIter it t (i+n)->Heap.SameBut it s.heap h'->Q ((items.toList.drop i).take n) { s with heap:=h' })->wpAny (model prog w) A (draw (.ref it) n) Q E s
 | 0,i,s,Q,hit,_,_,hQ=>by show wpAny _ _ (pure []) Q E s;exact wpAny_pure (by simpa using hQ s.heap hit (Heap.SameBut.refl ..))
 | n+1,i,s,Q,hit,ht,hle,hQ=>by
  have hlt:i<items.size:=by omega
  show wpAny _ _ (pyNext (.ref it) >>= _) Q E s;refine wpAny_bind (wpAny_pyNext_list_item hit ht (x:=items[i]) (by simp[hlt]) λh₁ hit₁ hs₁=>?_);refine wpAny_bind (wpAny_holding (mH hne n (i+1) _ _ hit₁ (ht.extBut hs₁.extBut hne) (by omega) λh₂ hit₂ hs₂=>wpAny_pure ?_));have hd:items.toList.drop i=items[i]::items.toList.drop (i+1):=by simp[xkZ,hlt]
  have:=hQ h₂ (by rw[show i+(n+1)=i+1+n by omega];exact hit₂) (hs₁.trans hs₂);rw[hd,List.take_succ_cons] at this;exact this
theorem fG (hh:A.handled=none)(ht:s.heap.IsList t items)
  (hQ:∀h',Heap.ExtBut s.heap.objs.size s.heap h'->Q items.toList { s with heap:=h' }):wpAny (model prog w) A (unpackItems (.ref t) items.size none) Q E s:=by
 have hlt:t≠s.heap.objs.size:=by obtain⟨o,ho,_⟩:=ht;exact xmq (Heap.lt_size ho)
 unfold unpackItems;refine wpAny_bind ?_
 .unfold notIterableAtAll;refine wpAny_bind (wpAny_specialOf ht.typeIs slot_list_iter.lookup ?_);refine wpAny_pure ?_;simp only[xj7,xmz];refine wpAny_bind (wpAny_holding (wpAny_pyIter_list ht ?_));refine wpAny_bind (wpAny_holding (mH hlt items.size 0 _ _ ⟨_,Heap.get?_push_size _ rfl,rfl,rfl⟩ (ht.push _) (by omega) λh₁ hit₁ hs₁=>?_));have hall:List.take items.size (List.drop 0 items.toList)=items.toList:=by rw[xk0];exact xl9 (by simp)
  rw[hall];rw[if_neg (by simp)];have ht₁:h₁.IsList t items:=(ht.push _).extBut hs₁.extBut hlt;refine wpAny_bind (wpAny_holding (wpAny_pyNext_list_end hh hit₁ ht₁ (by simp) λh₂ he₂=>?_));simp only[Option.isSome_none,xj7,xmz];refine wpAny_pure (hQ h₂ λb o hb e=>he₂ b o hb (hs₁.extBut b o hb (Heap.get?_push_of_some _ e)))
theorem cX (hh:A.handled=none)(ht:s.heap.IsList t items)
  (hn:targets.length=items.size) (hstar:targets.findIdx? (·.1)=none)
  (h:∀h',Heap.ExtBut s.heap.objs.size s.heap h'->wpAny (model prog w) A (assignInOrder (targets.map (·.2)) items.toList) Q E { s with heap:=h' }) :
  wpAny (model prog w) A (unpack (.ref t) targets) Q E s:=by
 unfold unpack;rw[hn,hstar];exact wpAny_bind (wpAny_holding (fG hh ht h))
theorem gk (hh:A.handled=none)(ht:s.heap.IsList t items)
  (hn:(assignEach elts env).length=items.size) (hstar:(assignEach elts env).findIdx? (·.1)=none)
  (h:∀h',Heap.ExtBut s.heap.objs.size s.heap h'->wpAny (model prog w) A (assignInOrder ((assignEach elts env).map (·.2)) items.toList) Q E { s with heap:=h' }) :
  wpAny (model prog w) A (assign (.Tuple elts x1 pos) env (.ref t)) Q E s:=by
 rw[assign_Tuple];exact wpAny_bind (wpAny_standAt (cX hh ht hn hstar h))
end
def xjv (K:PySem.W.Frag)(n:Nat)(t:TGs):TG:=λv σ H Q=>∃a xs,v=.ref a/\SqL K H a xs/\xs.length=n/\t xs σ H Q
section
variable {X:Cx}
theorem xfm (K:PySem.W.Frag)(hc:X.calm=true)(h:PGs X es t)
  (hn:(assignEach es X.env).length=n:=by rfl) (hst:(assignEach es X.env).findIdx? (·.1)=none:=by rfl) (e:X.K=K:=by rfl):PG X (.Tuple es k pos) (xjv K n t):=by
 subst e;intro pins s σ H v u Q I r hw;obtain⟨a,xs,e1,hq,hl,hw⟩:=hw;subst e1;cases r;obtain⟨its,rv,⟨o,m,ho,hcl,hd,hs⟩,hz⟩:=I.list hq;refine gk (I.ok.hd hc) (items:=its.toArray) ⟨o,ho,hcl,m,hs⟩ (by simp[hn,<-hl,rv.length]) hst λh' hx=>?_;have I1:Inv X pins σ H { s with heap:=h' }:=I.kept (t':=s.toks) λb o e=>hx b o (xmq (Heap.lt_size e)) e;exact @h pins _ σ H xs _ Q I1 (by simpa using rv) hw
end
section
variable {K:PySem.W.Frag}
def xjX (n:Nat)(d:DGs):DG:=λt τ KK=>match t with | .lst ts=>ts.length=n/\d ts τ KK | _=>False
theorem xe0 (h:xgO K gs ds):OkN K (xjv K n gs) (xjX n ds):=λB φ σ τ H F t v Q KK R hF r hd q=>by
 cases t with
 | lst ts =>obtain⟨a,ws,e,n,ha,rl⟩:=r;exact⟨a,ws,e,SqL.of ha,by rw[<-rl.len];exact hd.1,h B φ σ τ H F ts ws Q KK R hF rl hd.2 q⟩
 | _=>exact hd.elim
end
theorem ya {b:Bool}{A B:Prop}(h1:b=true->A)(h0:b=false->B):if b=true then A else B:=by
 cases b with
 | true=>exact xbM (h1 rfl)
 | false=>exact xam (h0 rfl)
end L2
namespace Pol
abbrev R3:=Int×Int×Int
def val (r p:R3):Int:=r.1*p.1+r.2.1*p.2.1-r.2.2*p.2.2
def det (u v w:R3):Int:=u.1*(v.2.1*w.2.2-v.2.2*w.2.1)-u.2.1*(v.1*w.2.2-v.2.2*w.1)+u.2.2*(v.1*w.2.1-v.2.1*w.1)
def add (u v:R3):R3:=(u.1+v.1,u.2.1+v.2.1,u.2.2+v.2.2)
def mul (k:Int)(u:R3):R3:=(k*u.1,k*u.2.1,k*u.2.2)
theorem ext3 {u v:R3}(h1:u.1=v.1)(h2:u.2.1=v.2.1)(h3:u.2.2=v.2.2):u=v:=Prod.ext h1 (Prod.ext h2 h3)
theorem val_add (r p q:R3):val r (add p q)=val r p+val r q:=by simp only[val,add];grind
theorem val_mul (r p:R3)(k:Int):val r (mul k p)=k*val r p:=by simp only[val,mul];grind
theorem uo (u v w:R3):det u v w=det v w u:=by simp only[det];grind
theorem fQ (u v w:R3):det u w v = - det u v w:=by simp only[det];grind
theorem qt (u v:R3):det u v v=0:=by simp only[det];grind
theorem kg (u v:R3):det u u v=0:=by simp only[det];grind
theorem kA (u v:R3):det u v u=0:=by simp only[det];grind
theorem rJ (u v p q:R3):det u v (add p q)=det u v p+det u v q:=by simp only[det,add];grind
theorem qu (u v p:R3)(k:Int):det u v (mul k p)=k*det u v p:=by simp only[det,mul];grind
theorem four (r a b c d:R3):det b c d*val r a+det a b d*val r c=det a c d*val r b+det a b c*val r d:=by simp only[det,val];grind
theorem xey (u v w p:R3):mul (det u v w) p=add (mul (det p v w) u) (add (mul (det u p w) v) (mul (det u v p) w)):=by apply ext3<;>simp only[det,mul,add]<;>grind
theorem xdm (r u w z p:R3)(hu:val r u=0)(hw:val r w=0):val r p*det u w z=val r z*det u w p:=by have h:=xmu (val r) (xey u w z p);rw[val_mul,val_add,val_add,val_mul,val_mul,val_mul,hu,hw] at h;rw[xkv (val r p)];rw[h];grind
theorem pp {a b:Int}(h:0<a)(k:0<b):0<a*b:=xkH h k
theorem pz {a b:Int}(h:0<=a)(k:0<=b):0<=a*b:=Int.mul_nonneg h k
theorem pn {a b:Int}(h:0<=a)(k:b<=0):a*b<=0:=Int.mul_nonpos_of_nonneg_of_nonpos h k
theorem np {a b:Int}(h:a<=0)(k:0<=b):a*b<=0:=Int.mul_nonpos_of_nonpos_of_nonneg h k
theorem nn {a b:Int}(h:a<=0)(k:b<=0):0<=a*b:=Int.mul_nonneg_of_nonpos_of_nonpos h k
theorem wN {a b:Int}(h:0<a)(k:0<a*b):0<b:=by
 rcases xkt 0 b with z | z
 .exact z
 .have:=pn (xko h) z;omega
theorem zC {a b:Int}(h:0<a)(k:0<=a*b):0<=b:=by
 rcases xkt b 0 with z | z
 .have:=xkF h z;omega
 .exact z
theorem n_ {a b:Int}(h:0<a)(k:a*b<=0):b<=0:=by
 rcases xkt 0 b with z | z
 .have:=pp h z;omega
 .exact z
theorem aU {a b:Int}(h:0<a)(k:a*b=0):b=0:=(xkz.mp k).resolve_left (by omega)
inductive Cn (l:List R3):R3->Prop
 | zero:Cn l (0,0,0)
 | mem {v}:v∈l->Cn l v
 | add {p q}:Cn l p->Cn l q->Cn l (add p q)
theorem Cn.nsmul {l:List R3}{p:R3}(h:Cn l p):∀k:Nat,Cn l (mul k p)
 | 0=>by
  have:mul ((0:Nat):Int) p=(0,0,0):=by apply ext3<;>simp[mul]
  rw[this];exact .zero
 | k+1=>by
  have:mul ((k+1:Nat):Int) p=Pol.add (mul k p) p:=by apply ext3<;>simp only[mul,Pol.add]<;>grind
  rw[this];exact(h.nsmul k).add h
theorem Cn.smul (h:Cn l p)(hk:0<=k):Cn l (mul k p):=by have:=h.nsmul k.toNat;rwa [Int.toNat_of_nonneg hk] at this
theorem Cn.mono (h:Cn l p)(hl:∀v∈l,Cn l' v):Cn l' p:=by
 induction h with
 | zero=>exact .zero
 | mem m=>exact hl _ m
 | add _ _ h1 h2=>exact h1.add h2
theorem Cn.lin (h:Cn l p)(g:R3->Int)(g0:g (0,0,0)=0)(ga:∀p q,g (Pol.add p q)=g p+g q)(hl:∀v∈l,0<=g v):0<=g p:=by
 induction h with
 | zero=>omega
 | mem m=>exact hl _ m
 | add _ _ h1 h2=>rw[ga];omega
theorem Cn.valGe (h:Cn l p)(r:R3)(hl:∀v∈l,0<=Pol.val r v):0<=Pol.val r p :=h.lin (Pol.val r) (by simp[Pol.val]) (val_add r) hl
theorem Cn.det (h:Cn l p)(u v:R3)(hl:∀w∈l,0<=Pol.det u v w):0<=Pol.det u v p :=h.lin (Pol.det u v) (by simp[Pol.det]) (rJ u v) hl
theorem Cn.bot {l:List R3}{p:R3}(h:Cn l p)(hl:∀v∈l,0<v.2.2):p=(0,0,0)\/0<p.2.2:=by
 induction h with
 | zero=>exact .inl rfl
 | mem m=>exact .inr (hl _ m)
 | @add p q _ _ h1 h2 =>
  rcases h1 with rfl | h1
  .have:Pol.add (0,0,0) q=q:=by apply ext3<;>simp[Pol.add]
   rw[this];exact h2
  .right;show 0<p.2.2+q.2.2;rcases h2 with rfl | h2
   .simpa using h1
   .omega
theorem Cn.zeros (h:Cn l p)(r:R3)(hl:∀v∈l,0<=Pol.val r v)(h0:Pol.val r p<=0):Cn (l.filter λv=>Pol.val r v=0) p:=by
 induction h with
 | zero=>exact .zero
 | @mem v m=>exact .mem (xlL.mpr ⟨m,by have:=hl v m;simp;omega⟩)
 | @add p q hp hq h1 h2 =>rw[val_add] at h0;have a:=hp.valGe r hl;have b:=hq.valGe r hl;exact(h1 (by omega)).add (h2 (by omega))
theorem Cn.pair {u v p:R3}(h:Cn [u,v] p):∃a b:Int,0<=a/\0<=b/\p=Pol.add (mul a u) (mul b v):=by
 induction h with
 | zero=>exact⟨0,0,by omega,by omega,by apply ext3<;>simp[Pol.add,mul]⟩
 | mem m =>
  simp only[xlI,xlY,xmC] at m;rcases m with rfl | rfl
  .exact⟨1,0,by omega,by omega,by apply ext3<;>simp[Pol.add,mul]⟩
  .exact⟨0,1,by omega,by omega,by apply ext3<;>simp[Pol.add,mul]⟩
 | add _ _ h1 h2 =>obtain⟨a,b,a0,b0,rfl⟩:=h1;obtain⟨c,d,c0,d0,rfl⟩:=h2;exact⟨a+c,b+d,by omega,by omega,by apply ext3<;>simp only[Pol.add,mul]<;>grind⟩
def InC (l:List R3)(p:R3):Prop:=∃m:Int,0<m/\Cn l (mul m p)
structure Ccw (l:List R3):Prop where
 tri:∀u v w:R3,List.Sublist [u,v,w] l->0<det u v w
 nd:l.Nodup
theorem xd3 (h:[u,v,w]=l1++l2):(l1=[]/\l2=[u,v,w])\/(l1=[u]/\l2=[v,w])\/(l1=[u,v]/\l2=[w])\/(l1=[u,v,w]/\l2=[]):=by
 cases l1 with
 | nil=>exact .inl ⟨rfl,h.symm⟩
 | cons a t =>
  injection h with h1 h2;subst h1;cases t with
  | nil=>exact .inr (.inl ⟨rfl,h2.symm⟩)
  | cons b t =>
   injection h2 with h1 h2;subst h1;cases t with
   | nil=>exact .inr (.inr (.inl ⟨rfl,h2.symm⟩))
   | cons c t =>injection h2 with h1 h2;subst h1;have:=List.append_eq_nil_iff.mp h2.symm;rw[this.1,this.2];exact .inr (.inr (.inr ⟨rfl,rfl⟩))
theorem Ccw.rot (h:Ccw (a++b)):Ccw (b++a):=by
 refine⟨λu v w s=>?_,?_⟩
 .obtain⟨l1,l2,e,s1,s2⟩:=xl5.mp s;have s3:=List.Sublist.append s2 s1;rcases xd3 e with ⟨rfl,rfl⟩ | ⟨rfl,rfl⟩ | ⟨rfl,rfl⟩ | ⟨rfl,rfl⟩
  .exact h.tri _ _ _ (by simpa using s3)
  .have:=h.tri _ _ _ (show List.Sublist [v,w,u] (a++b) by simpa using s3);rw[uo];exact this
  .have:=h.tri _ _ _ (show List.Sublist [w,u,v] (a++b) by simpa using s3);rw[<-uo];exact this
  .exact h.tri _ _ _ (by simpa using s3)
 .have:=h.nd;rw[xlW] at this ⊢;exact⟨this.2.1,this.1,λx hx y hy e=>this.2.2 y hy x hx e.symm⟩
theorem Ccw.alt {l:List R3}(h:Ccw l)(r:R3){a b c d:R3}(s:List.Sublist [a,b,c,d] l):¬(0<val r a/\val r b<=0/\0<val r c/\val r d<=0)/\¬(val r a<=0/\0<val r b/\val r c<=0/\0<val r d):=by
 have h1:=h.tri b c d (xkR (List.Sublist.cons _ (xkQ _)) s);have h2:=h.tri a b d (xkR (by simp) s);have h3:=h.tri a c d (xkR (by simp) s);have h4:=h.tri a b c (xkR (by simp) s);have e:=four r a b c d;constructor
 .rintro⟨x1,x2,x3,x4⟩;have:=pp h1 x1;have:=pp h2 x3;have:=pn (xko h3) x2;have:=pn (xko h4) x4;omega
 .rintro⟨x1,x2,x3,x4⟩;have:=pn (xko h1) x1;have:=pn (xko h2) x3;have:=pp h3 x2;have:=pp h4 x4;omega
theorem cF (f:R3->Bool):∀l:List R3,l=l.takeWhile f++l.dropWhile f:=λl=>(List.takeWhile_append_dropWhile (p:=f) (l:=l)).symm
theorem xby:∀ {l:List R3},x∈l.takeWhile f->f x=true:=λ {l} h=>by
 induction l with
 | nil=>simp at h
 | cons a t ih =>
  rw[List.takeWhile_cons] at h;split at h
  .rcases xlI.mp h with rfl | h
   .assumption
   .exact ih h
  .simp at h
theorem pI:∀ {l:List R3},l.dropWhile f=x::t->f x=false:=λ {l} h=>by
 induction l with
 | nil=>simp at h
 | cons a l ih =>
  rw[List.dropWhile_cons] at h;split at h
  .exact ih h
  .rename_i hn;injection h with h1 h2;subst h1;simpa using hn
theorem Ccw.parts (h:Ccw l)(r:R3):∃a b P Q,l=a++b/\b++a=P++Q/\(∀v∈P,0<val r v)/\∀v∈Q,val r v<=0:=by
 have e1:=cF (λv=>decide (val r v<=0)) l;have m1:∀v∈l.takeWhile λv=>decide (val r v<=0),val r v<=0:=λv hv=>xmB (xby hv);revert e1 m1;generalize l.takeWhile (λv=>decide (val r v<=0))=N1;cases hd:l.dropWhile (λv=>decide (val r v<=0)) with
 | nil =>intro e1 m1;rw[xkX] at e1;exact⟨[],l,[],l,rfl,by simp,λv hv=>absurd hv (by simp),λv hv=>m1 v (e1▸hv)⟩
 | cons p R =>
  intro e1 m1;have hp:0<val r p:=by have:=pI hd;have:=xmA this;omega
  have e2:=cF (λv=>decide (0<val r v)) R;have m2:∀v∈R.takeWhile λv=>decide (0<val r v),0<val r v:=λv hv=>xmB (xby hv);revert e2 m2;generalize R.takeWhile (λv=>decide (0<val r v))=P1;cases hd2:R.dropWhile (λv=>decide (0<val r v)) with
  | nil =>
   intro e2 m2;rw[xkX] at e2;subst e2;refine⟨N1,p::R,p::R,N1,e1,rfl,λv hv=>?_,m1⟩;rcases xlI.mp hv with rfl | hv
   .exact hp
   .exact m2 v hv
  | cons q S =>
   intro e2 m2;have hq:val r q<=0:=by have:=pI hd2;have:=xmA this;omega
   have mp:∀v∈p::P1,0<val r v:=λv hv=>by
    rcases xlI.mp hv with rfl | hv
    .exact hp
    .exact m2 v hv
   cases N1 with
   | cons n0 N =>
    refine⟨n0::N,p::R,p::P1,q::S++(n0::N),e1,by rw[e2];simp,mp,λv hv=>?_⟩;rcases xlF.mp hv with hv | hv
    .rcases xlI.mp hv with rfl | hv
     .exact hq
     .rcases xkt 0 (val r v) with z | z
      .exfalso;have s:List.Sublist [n0,p,q,v] l:=by rw[e1,e2];have s1:List.Sublist [v] S:=xl3.mpr hv;have s2:List.Sublist [q,v] (q::S):=s1.cons_cons q;have s3:List.Sublist [q,v] (P1++q::S):=s2.trans (xl6 _ _);have s4:List.Sublist [p,q,v] (p::(P1++q::S)):=s3.cons_cons p;have s5:List.Sublist [n0] (n0::N):=xl3.mpr xlK;exact s5.append s4
       exact(h.alt r s).2 ⟨m1 n0 xlK,hp,hq,z⟩
      .exact z
    .exact m1 v hv
   | nil =>
    have e3:=cF (λv=>decide (val r v<=0)) S;have m3:∀v∈S.takeWhile λv=>decide (val r v<=0),val r v<=0:=λv hv=>xmB (xby hv);have hd3:∀v∈S.dropWhile (λv=>decide (val r v<=0)),0<val r v:=λv hv=>by
     cases hc:S.dropWhile (λv=>decide (val r v<=0)) with
     | nil=>rw[hc] at hv;simp at hv
     | cons p2 S2 =>
      have hp2:0<val r p2:=by have:=pI hc;have:=xmA this;omega
      rw[hc] at hv;rcases xlI.mp hv with rfl | hv
      .exact hp2
      .rcases xkt 0 (val r v) with z | z
       .exact z
       .exfalso;have s:List.Sublist [p,q,p2,v] l:=by rw[e1,xlV,e2,e3,hc];have s1:List.Sublist [v] S2:=xl3.mpr hv;have s2:List.Sublist [p2,v] (p2::S2):=s1.cons_cons p2;have s3:=s2.trans (xl6 (S.takeWhile λv=>decide (val r v<=0)) _);have s4:=s3.cons_cons q;have s5:=s4.trans (xl6 P1 _);exact s5.cons_cons p
        exact(h.alt r s).1 ⟨hp,hq,hp2,z⟩
    refine⟨p::P1++q::S.takeWhile (λv=>decide (val r v<=0)),S.dropWhile (λv=>decide (val r v<=0)),S.dropWhile (λv=>decide (val r v<=0))++p::P1,q::S.takeWhile (λv=>decide (val r v<=0)),?_,?_,λv hv=>?_,λv hv=>?_⟩
    .rw[e1,xlV,e2]
     conv=>lhs;rw[e3]
     simp
    .simp
    .rcases xlF.mp hv with hv | hv
     .exact hd3 v hv
     .exact mp v hv
    .rcases xlI.mp hv with rfl | hv
     .exact hq
     .exact m3 v hv
end Pol
namespace Pol
def xr:R3->List R3->R3
 | p,[]=>p
 | _,x::xs=>xr x xs
theorem vM (u v w:R3):det u v w=det w u v:=by simp only[det];grind
theorem xcN (u v w:R3):det u v w = - det v u w:=by simp only[det];grind
theorem sZ (p q:R3):∀(xs ys:List R3),xr p (xs++q::ys)=xr q ys
 | [],_=>rfl
 | x::xs,ys=>sZ x q xs ys
theorem rj (p q:R3)(xs:List R3):xr p (xs++[q])=q:=sZ p q xs []
theorem yz (p:R3):∀(xs:List R3),xr p xs∈p::xs
 | []=>by simp[xr]
 | x::xs=>xlJ _ (yz x xs)
theorem dJ (p:R3):∀(xs:List R3),∃ys,p::xs=ys++[xr p xs]
 | []=>⟨[],rfl⟩
 | x::xs=>by obtain⟨ys,e⟩:=dJ x xs;exact⟨p::ys,xmu (p::·) e⟩
def chain:R3->List R3->List (R3×R3)
 | _,[]=>[]
 | p,x::xs=>(p,x)::chain x xs
theorem j9 (p:R3):∀(xs ys:List R3),chain p (xs++ys)=chain p xs++chain (xr p xs) ys
 | [],_=>rfl
 | x::xs,ys=>by show(p,x)::chain x (xs++ys)=(p,x)::(chain x xs++chain (xr x xs) ys);rw[j9 x xs ys]
def cyc:List R3->List (R3×R3)
 | []=>[]
 | x::xs=>chain (xr x xs) (x::xs)
theorem gB:cyc ((x::xs)++(y::ys))=chain (xr y ys) (x::xs)++chain (xr x xs) (y::ys):=by show chain (xr x (xs++y::ys)) ((x::xs)++(y::ys))=_;rw[sZ,j9];rfl
theorem xbj (a b:List R3):∃c d,cyc (a++b)=c++d/\cyc (b++a)=d++c:=by
 cases a with
 | nil=>exact⟨[],cyc b,by simp,by simp⟩
 | cons x xs =>
  cases b with
  | nil=>exact⟨[],cyc (x::xs),by simp,by simp⟩
  | cons y ys=>exact⟨_,_,gB,gB⟩
theorem bZ (h:p∈cyc (b++a)):p∈cyc (a++b):=by obtain⟨c,d,e1,e2⟩:=xbj a b;rw[e2] at h;rw[e1];exact xlF.mpr ((xlF.mp h).symm)
theorem jN:∀ {p:R3} {l:List R3},(x,y)∈chain p l->∃s t,p::l=s++x::y::t
 | _,[],h=>by simp[chain] at h
 | p,z::l,h=>by
  rcases xlI.mp h with e | h
  .injection e with e1 e2;subst e1 e2;exact⟨[],l,rfl⟩
  .obtain⟨s,t,e⟩:=jN h;exact⟨p::s,t,by rw[e];rfl⟩
theorem dw:∀ {s:List R3} {p:R3} {l t:List R3},p::l=s++x::y::t->(x,y)∈chain p l
 | [],p,l,t,h=>by injection h with h1 h2;subst h1 h2;exact xlK
 | a::s,p,l,t,h=>by
  injection h with h1 h2;subst h1;cases l with
  | nil=>cases s<;>cases h2
  | cons z l=>exact xlJ _ (dw (s:=s) h2)
theorem Ccw.edge (h:Ccw l)(he:(u,v)∈cyc l)(hw:w∈l):0<=det u v w:=by
 cases l with
 | nil=>simp at hw
 | cons x xs =>
  have he:(u,v)∈(xr x xs,x)::chain x xs:=he;rcases xlI.mp he with e | he
  .injection e with e1 e2;subst e1 e2;obtain⟨ys,e⟩:=dJ v xs;generalize xr v xs=L at e ⊢;cases ys with
   | nil =>injection e with e1 e2;rw[<-e1,kg];exact xkr _
   | cons y ys =>
    injection e with e1 e2;subst e1;have e2:xs=ys++[L]:=e2;rw[e2] at hw;rcases xlI.mp hw with rfl | hw
    .rw[qt];exact xkr _
    .rcases xlF.mp hw with hw | hw
     .have:=h.tri v w L (by rw[e2];exact((xl3.mpr hw).append (xkQ [L])).cons_cons v)
      rw[vM] at this;exact xko this
     .have:w=L:=by simpa using hw
      rw[this,kA];exact xkr _
  .obtain⟨s,t,e⟩:=jN he;rw[e] at hw;rcases xlF.mp hw with hw | hw
   .have:=h.tri w u v (by rw[e];exact(xl3.mpr hw).append ((xkQ [u,v]).trans (by simp)))
    rw[uo] at this;omega
   .rcases xlI.mp hw with rfl | hw
    .rw[kA];exact xkr _
    .rcases xlI.mp hw with rfl | hw
     .rw[qt];exact xkr _
     .have:=h.tri u v w (by rw[e];exact((((xl3.mpr hw).cons_cons v).cons_cons u)).trans (xl6 s _))
      omega
theorem fan (x:R3)(p:R3):∀(y:R3) (ys:List R3),(∀u v,(u,v)∈chain y ys->0<det x u v/\0<=det u v p)->0<=det x y p->det x (xr y ys) p<=0->ys≠[]->∃u v,(u,v)∈chain y ys/\0<=det x u p/\det x v p<=0
 | y,[],_,_,_,h=>absurd rfl h
 | y,z::ys,hc,h0,h1,_=>by
  rcases xkt 0 (det x z p) with c | c
  .cases ys with
   | nil=>exact absurd h1 (by show ¬det x z p<=0;omega)
   | cons a ys =>obtain⟨u,v,m,h2,h3⟩:=fan x p z (a::ys) (λu v m=>hc u v (xlJ _ m)) (xko c) h1 (by simp);exact⟨u,v,xlJ _ m,h2,h3⟩
  .exact⟨y,z,xlK,h0,c⟩
theorem Ccw.incone (h:Ccw l)(h3:3<=l.length)(hp:∀u v,(u,v)∈cyc l->0<=det u v p):InC l p:=by
 match l,h,h3,hp with
 | x::y::z::t,h,_,hp =>
  have he:∀u v,(u,v)∈chain y (z::t)->0<det x u v/\0<=det u v p:=λu v m=>by obtain⟨s,s2,e⟩:=jN m;refine⟨h.tri x u v ?_,hp u v (xlJ _ (xlJ _ m))⟩;rw[e];exact(((xkQ [u,v]).trans (show List.Sublist [u,v] (u::v::s2) by simp)).trans (xl6 s _)).cons_cons x
  have h0:0<=det x y p:=hp x y (xlJ _ xlK);have h1:0<=det (xr x (y::z::t)) x p:=hp _ _ xlK;have h1':det x (xr y (z::t)) p<=0:=by have e:det x (xr y (z::t)) p = - det (xr x (y::z::t)) x p:=xcN _ _ _;omega
  obtain⟨u,v,m,h2,h3⟩:=fan x p y (z::t) he h0 h1' (by simp);obtain⟨d1,d2⟩:=he u v m;have mem:∀w,w=u\/w=v->w∈x::y::z::t:=λw hw=>by
   obtain⟨s,s2,e⟩:=jN m;have:w∈y::z::t:=by rw[e];rcases hw with rfl | rfl<;>simp
   exact xlJ _ this
  refine⟨det x u v,d1,?_⟩;rw[xey x u v p];have c1:0<=det p u v:=by rw[uo];exact d2
  have c2:0<=det x p v:=by rw[fQ];omega
  exact((Cn.mem xlK).smul c1).add (((Cn.mem (mem u (.inl rfl))).smul c2).add ((Cn.mem (mem v (.inr rfl))).smul h2))
end Pol
namespace Pol
def turn (r s:R3):Int:=r.1*s.2.1-r.2.1*s.1
def vd (w:R3):Nat:=Int.gcd (Int.gcd w.1 w.2.1:Int) w.2.2
def red (w:R3):R3:=(w.1 / vd w,w.2.1 / vd w,w.2.2 / vd w)
theorem oA (w:R3):(vd w:Int) ∣ w.1/\(vd w:Int) ∣ w.2.1/\(vd w:Int) ∣ w.2.2:=by have h1:(vd w:Int) ∣ (Int.gcd w.1 w.2.1:Int):=xkk ..;exact⟨xkd h1 (xkk ..),xkd h1 (xkl ..),xkl ..⟩
theorem xdb (h1:d ∣ w.1)(h2:d ∣ w.2.1)(h3:d ∣ w.2.2):d ∣ (vd w:Int):=xka (xka h1 h2) h3
theorem kR (h:0<w.2.2):0<(vd w:Int):=by have:=xkn (Int.gcd w.1 w.2.1:Int) (show w.2.2≠0 by omega);unfold vd;omega
theorem mq:mul (vd w) (red w)=w:=by obtain⟨h1,h2,h3⟩:=oA w;exact ext3 (xkx h1) (xkx h2) (xkx h3)
theorem xa3 (h:0<w.2.2):0<(red w).2.2:=by have e:(vd w:Int)*(red w).2.2=w.2.2:=xmu (·.2.2) (mq (w:=w));exact wN (kR h) (by rw[e];exact h)
theorem xcF (h:0<w.2.2):vd (red w)=1:=by
 obtain⟨h1,h2,h3⟩:=oA (red w);have g:=kR h;have d:(vd w:Int)*(vd (red w):Int) ∣ (vd w:Int):=by
  have e:=mq (w:=w);refine xdb ?_ ?_ ?_
  .conv=>rhs;rw[<-e]
   exact xkw _ h1
  .conv=>rhs;rw[<-e]
   exact xkw _ h2
  .conv=>rhs;rw[<-e]
   exact xkw _ h3
 have d2:(vd (red w):Int) ∣ 1:=by
  have:(vd w:Int)*(vd (red w):Int) ∣ (vd w:Int)*1:=by rw[xkG];exact d
  exact Int.dvd_of_mul_dvd_mul_left (by omega) this
 have:=Int.le_of_dvd (by decide) d2;have p:=kR (xa3 h);omega
theorem qW (hg:vd v=1)(hz:0<v.2.2)(hs:val s v=0)(ht:val t v=0)(hn:turn s t≠0) :
  v.2.2<=(turn s t).natAbs/\v.1.natAbs<=(s.2.2*t.2.1-t.2.2*s.2.1).natAbs/\v.2.1.natAbs<=(t.2.2*s.1-s.2.2*t.1).natAbs:=by
 have e1:turn s t*v.1=v.2.2*(s.2.2*t.2.1-t.2.2*s.2.1):=by
  have:turn s t*v.1=v.2.2*(s.2.2*t.2.1-t.2.2*s.2.1)+t.2.1*val s v-s.2.1*val t v:=by simp only[turn,val];grind
  rw[hs,ht] at this;rw[this];grind
 have e2:turn s t*v.2.1=v.2.2*(t.2.2*s.1-s.2.2*t.1):=by
  have:turn s t*v.2.1=v.2.2*(t.2.2*s.1-s.2.2*t.1)+s.1*val t v-t.1*val s v:=by simp only[turn,val];grind
  rw[hs,ht] at this;rw[this];grind
 have dv:v.2.2 ∣ turn s t:=by
  have h1:v.2.2 ∣ turn s t*v.1:=⟨_,e1⟩
  have h2:v.2.2 ∣ turn s t*v.2.1:=⟨_,e2⟩
  have h3:v.2.2 ∣ turn s t*v.2.2:=Int.dvd_mul_left ..;have g12:v.2.2 ∣ turn s t*(Int.gcd v.1 v.2.1:Int):=by
   have:=xka h1 h2;rw[xkm] at this;have h4:((turn s t).natAbs*Int.gcd v.1 v.2.1:Nat)=((turn s t*(Int.gcd v.1 v.2.1:Int)).natAbs:Nat):=by rw[xkJ];rfl
   rw[h4] at this;exact xkc.mp this
  have g3:=xka g12 h3;rw[xkm] at g3;have hg':Int.gcd (Int.gcd v.1 v.2.1:Int) v.2.2=1:=hg;rw[hg',Nat.mul_one] at g3;exact xkc.mp g3
 have zl:v.2.2<=(turn s t).natAbs:=by have h:=Int.le_of_dvd (show(0:Int)<((turn s t).natAbs:Int) by omega) (xkc.mpr dv);exact h
 refine⟨zl,?_,?_⟩
 .have h:=xmu Int.natAbs e1;rw[xkJ,xkJ] at h;rcases Nat.lt_or_ge (s.2.2*t.2.1-t.2.2*s.2.1).natAbs v.1.natAbs with c | c
  .exfalso;have h1:v.2.2.natAbs<=(turn s t).natAbs:=by omega
   have h2:0<v.2.2.natAbs:=by omega
   have h3:v.2.2.natAbs*(s.2.2*t.2.1-t.2.2*s.2.1).natAbs<v.2.2.natAbs*v.1.natAbs:=Nat.mul_lt_mul_of_pos_left c h2;have h4:v.2.2.natAbs*v.1.natAbs<=(turn s t).natAbs*v.1.natAbs:=xmo _ h1;omega
  .exact c
 .have h:=xmu Int.natAbs e2;rw[xkJ,xkJ] at h;rcases Nat.lt_or_ge (t.2.2*s.1-s.2.2*t.1).natAbs v.2.1.natAbs with c | c
  .exfalso;have h1:v.2.2.natAbs<=(turn s t).natAbs:=by omega
   have h2:0<v.2.2.natAbs:=by omega
   have h3:v.2.2.natAbs*(t.2.2*s.1-s.2.2*t.1).natAbs<v.2.2.natAbs*v.2.1.natAbs:=Nat.mul_lt_mul_of_pos_left c h2;have h4:v.2.2.natAbs*v.2.1.natAbs<=(turn s t).natAbs*v.2.1.natAbs:=xmo _ h1;omega
  .exact c
def abs (i:Int):Int:=if i<0 then -i else i
def cw (r u v:R3):R3:=add (mul (abs (val r v)) u) (mul (abs (val r u)) v)
def xB (r u v:R3):R3:=red (cw r u v)
theorem xbw (r u v:R3):cw r u v=cw r v u:=by apply ext3<;>simp only[cw,add]<;>omega
structure Bt (u v x:R3)(a b g:Int):Prop where
 pa:0<a
 pb:0<b
 pg:0<g
 e:mul g x=add (mul a u) (mul b v)
theorem kQ (hu:0<u.2.2)(hv:0<v.2.2)(h:val r u*val r v<0):Bt u v (xB r u v) (abs (val r v)) (abs (val r u)) (vd (cw r u v))/\val r (xB r u v)=0/\0<(xB r u v).2.2/\vd (xB r u v)=1:=by
 have sg:(val r u<0/\0<val r v)\/(0<val r u/\val r v<0):=by
  rcases xku (val r u) 0 with c | c | c
  .rcases xkt 0 (val r v) with d | d
   .exact .inl ⟨c,d⟩
   .have:=nn (xko c) d;omega
  .rw[c] at h;simp at h
  .rcases xkt (val r v) 0 with d | d
   .exact .inr ⟨c,d⟩
   .have:=pz (xko c) d;omega
 have p1:0<abs (val r v):=by unfold abs;split<;>omega
 have p2:0<abs (val r u):=by unfold abs;split<;>omega
 have hz:0<(cw r u v).2.2:=by show 0<abs (val r v)*u.2.2+abs (val r u)*v.2.2;have:=pp p1 hu;have:=pp p2 hv;omega
 have v0:val r (cw r u v)=0:=by
  unfold cw;rw[val_add,val_mul,val_mul];rcases sg with ⟨c,d⟩ | ⟨c,d⟩
  .have e1:abs (val r v)=val r v:=by unfold abs;rw[if_neg (by omega)]
   have e2:abs (val r u) = - val r u:=by unfold abs;rw[if_pos c]
   rw[e1,e2];grind
  .have e1:abs (val r v) = - val r v:=by unfold abs;rw[if_pos d]
   have e2:abs (val r u)=val r u:=by unfold abs;rw[if_neg (by omega)]
   rw[e1,e2];grind
 refine⟨⟨p1,p2,kR hz,mq⟩,?_,xa3 hz,xcF hz⟩;have:=xmu (val r) (mq (w:=cw r u v));rw[val_mul,v0] at this;exact aU (kR hz) this
theorem Bt.val (h:Bt u v x a b g)(r:R3):g*Pol.val r x=a*Pol.val r u+b*Pol.val r v:=by have:=xmu (Pol.val r) h.e;rwa [val_mul,val_add,val_mul,val_mul] at this
theorem Bt.det (h:Bt u v x a b g)(p q:R3):g*Pol.det p q x=a*Pol.det p q u+b*Pol.det p q v:=by have:=xmu (Pol.det p q) h.e;rwa [qu,rJ,qu,qu] at this
theorem Bt.kept (h:Bt u v x a b g)(hu:Pol.val r u<=0)(hv:Pol.val r v<=0):Pol.val r x<=0:=by have:=h.val r;have:=pn (xko h.pa) hu;have:=pn (xko h.pb) hv;exact n_ h.pg (by omega)
theorem Bt.tight (h:Bt u v x a b g)(hu:Pol.val r u=0)(hv:Pol.val r v=0):Pol.val r x=0:=by have:=h.val r;rw[hu,hv] at this;exact aU h.pg (by omega)
theorem unlike (hs:s.1≠0\/s.2.1≠0)(hu:0<u.2.2)(hv:0<v.2.2)(su:val s u=0)(sv:val s v=0)(h:val r u*val r v<0):turn s r≠0:=by
 intro z;have e:s.1*(val r u*v.2.2-val r v*u.2.2)=r.1*(val s u*v.2.2-val s v*u.2.2)+turn s r*(u.2.1*v.2.2-v.2.1*u.2.2):=by simp only[val,turn];grind
 have e':s.2.1*(val r u*v.2.2-val r v*u.2.2)=r.2.1*(val s u*v.2.2-val s v*u.2.2)-turn s r*(u.1*v.2.2-v.1*u.2.2):=by simp only[val,turn];grind
 rw[z,su,sv] at e e';have k:val r u*v.2.2-val r v*u.2.2=0:=by
  rcases hs with c | c
  .have e:s.1*(val r u*v.2.2-val r v*u.2.2)=0:=by rw[e];grind
   exact(xkz.mp e).resolve_left c
  .have e':s.2.1*(val r u*v.2.2-val r v*u.2.2)=0:=by rw[e'];grind
   exact(xkz.mp e').resolve_left c
 rcases xku (val r u) 0 with c | c | c
 .have d:0<val r v:=by
   rcases xkt 0 (val r v) with d | d
   .exact d
   .have:=nn (xko c) d;omega
  have:=xkE c hv;have:=pp d hu;omega
 .rw[c] at h;simp at h
 .have d:val r v<0:=by
   rcases xkt (val r v) 0 with d | d
   .exact d
   .have:=pz (xko c) d;omega
  have:=xkE d hu;have:=pp c hv;omega
end Pol
namespace Pol
def seg (r:R3)(p:R3×R3):List R3:=(if val r p.1*val r p.2<0 then[xB r p.1 p.2] else[])++(if val r p.2<=0 then[p.2] else[])
def cR (r:R3)(l:List R3):List R3:=(cyc l).flatMap (seg r)
theorem oE (r:R3)(a b:List R3):∃c d,cR r (a++b)=c++d/\cR r (b++a)=d++c:=by obtain⟨c,d,e1,e2⟩:=xbj a b;exact⟨c.flatMap (seg r),d.flatMap (seg r),by unfold cR;rw[e1,List.flatMap_append],by unfold cR;rw[e2,List.flatMap_append]⟩
theorem sI:∀ {p:R3} {P:List R3},0<val r p->(∀v∈P,0<val r v)->(chain p P).flatMap (seg r)=[]
 | p,[],_,_=>rfl
 | p,x::P,hp,h=>by
  have hx:=h x xlK;show seg r (p,x)++(chain x P).flatMap (seg r)=[]
  rw[sI hx λv hv=>h v (xlJ _ hv),xkX];unfold seg;rw[if_neg (show ¬val r p*val r x<0 by have:=pp hp hx;omega),if_neg (show ¬val r x<=0 by omega)];rfl
theorem du:∀ {p:R3} {Q:List R3},val r p<=0->(∀v∈Q,val r v<=0)->(chain p Q).flatMap (seg r)=Q
 | p,[],_,_=>rfl
 | p,x::Q,hp,h=>by have hx:=h x xlK;show seg r (p,x)++(chain x Q).flatMap (seg r)=x::Q;rw[du hx λv hv=>h v (xlJ _ hv)];unfold seg;rw[if_neg (show ¬val r p*val r x<0 by have:=nn hp hx;omega),if_pos (show val r (p,x).2<=0 from hx)];rfl
def bef (r p q:R3):List R3:=if val r q<0 then[xB r p q] else[]
theorem xhy (hp:0<val r p)(hq:val r q<=0):seg r (p,q)=bef r p q++[q]:=by
 unfold seg bef;rw[if_pos (show val r (p,q).2<=0 from hq)];by_cases c:val r q<0
 .rw[if_pos c,if_pos (show val r (p,q).1*val r (p,q).2<0 from xkF hp c)]
 .rw[if_neg c,if_neg (show ¬val r (p,q).1*val r (p,q).2<0 from by
   have e:val r q=0:=by omega
   show ¬val r p*val r q<0;rw[e];simp)]
theorem xfF (hp:0<val r p)(hq:val r q<=0):seg r (q,p)=bef r p q:=by
 unfold seg bef;rw[if_neg (show ¬val r (q,p).2<=0 from by show ¬val r p<=0;omega),xkX];by_cases c:val r q<0
 .rw[if_pos c,if_pos (show val r (q,p).1*val r (q,p).2<0 from xkE c hp)];unfold xB;rw[xbw]
 .rw[if_neg c,if_neg (show ¬val r (q,p).1*val r (q,p).2<0 from by
   have e:val r q=0:=by omega
   show ¬val r q*val r p<0;rw[e];simp)]
theorem aY (hP:∀v∈p1::P,0<val r v)(hQ:∀v∈q1::Q,val r v<=0) :
  cR r ((p1::P)++(q1::Q))=bef r p1 (xr q1 Q)++(bef r (xr p1 P) q1++q1::Q):=by
 unfold cR;rw[gB,List.flatMap_append];have h1:=hP p1 xlK;have h2:=hQ q1 xlK;have h3:=hQ _ (yz q1 Q);have h4:=hP _ (yz p1 P);have e1:(chain (xr q1 Q) (p1::P)).flatMap (seg r)=bef r p1 (xr q1 Q):=by show seg r (xr q1 Q,p1)++(chain p1 P).flatMap (seg r)=_;rw[sI h1 λv hv=>hP v (xlJ _ hv),xkX,xfF h1 h3]
 have e2:(chain (xr p1 P) (q1::Q)).flatMap (seg r)=bef r (xr p1 P) q1++q1::Q:=by show seg r (xr p1 P,q1)++(chain q1 Q).flatMap (seg r)=_;rw[du h2 λv hv=>hQ v (xlJ _ hv),xhy h4 h2,xkW];rfl
 rw[e1,e2]
structure Good (Ls l:List R3):Prop where
 ccw:Ccw l
 bot:∀v∈l,0<v.2.2
 prim:∀v∈l,vd v=1
 kept:∀v∈l,∀s∈Ls,val s v<=0
 edge:∀u v,(u,v)∈cyc l->u≠v->∃s∈Ls,val s u=0/\val s v=0
 two:∀v∈l,∃s∈Ls,∃t∈Ls,val s v=0/\val t v=0/\turn s t≠0
 all:∀p:R3,0<p.2.2->(∀s∈Ls,val s p<=0)->InC l p
theorem Good.rot (h:Good Ls (a++b)):Good Ls (b++a) where
 ccw:=h.ccw.rot
 bot:=λv hv=>h.bot v (by simpa [or_comm] using hv)
 prim:=λv hv=>h.prim v (by simpa [or_comm] using hv)
 kept:=λv hv=>h.kept v (by simpa [or_comm] using hv)
 edge:=λu v e=>h.edge u v (bZ e)
 two:=λv hv=>h.two v (by simpa [or_comm] using hv)
 all:=λp h0 h1=>by obtain⟨m,hm,c⟩:=h.all p h0 h1;exact⟨m,hm,c.mono λv hv=>.mem (by simpa [or_comm] using hv)⟩
theorem xdM:∀ {l:List R3},List.Sublist [a,b] l->3<=l.length->∃c,List.Sublist [c,a,b] l\/List.Sublist [a,c,b] l\/List.Sublist [a,b,c] l
 | [],_,h=>absurd h (by simp)
 | x::l,s,h=>by
  cases s with
  | cons _ s =>exact⟨x,.inl (s.cons_cons x)⟩
  | cons_cons _ s =>
   have hl:2<=l.length:=by simpa using h
   have hb:b∈l:=xl3.mp s;obtain⟨s1,s2,e⟩:=List.append_of_mem hb;cases s1 with
   | cons c s1 =>refine⟨c,.inr (.inl ?_)⟩;rw[e];have:List.Sublist [c,b] (c::s1++b::s2):=(xl3.mpr xlK).append (xl3.mpr xlK);exact this.cons_cons a
   | nil =>
    cases s2 with
    | nil=>rw[e] at hl;simp at hl
    | cons c s2 =>refine⟨c,.inr (.inr ?_)⟩;rw[e];simp
theorem fj (h:∀u v w:R3,List.Sublist [u,v,w] l->0<det u v w)(h3:3<=l.length):l.Nodup:=by
 refine xl0.mpr λ {a b} s e=>?_;subst e;obtain⟨c,s | s | s⟩:=xdM s h3
 .have:=h _ _ _ s;rw[qt] at this;omega
 .have:=h _ _ _ s;rw[kA] at this;omega
 .have:=h _ _ _ s;rw[kg] at this;omega
end Pol
namespace Pol
theorem ni (h:P≠[]):List.Sublist [p,xr p P] (p::P):=by
 cases P with
 | nil=>exact absurd rfl h
 | cons y ys=>exact(xl3.mpr (show xr p (y::ys)∈y::ys from yz y ys)).cons_cons p
structure Bw (u v x:R3)(a b g:Int):Prop where
 pa:0<=a
 pb:0<b
 pg:0<g
 e:mul g x=add (mul a u) (mul b v)
theorem Bt.w (h:Bt u v x a b g):Bw u v x a b g:=⟨xko h.pa,h.pb,h.pg,h.e⟩
theorem Bw.self (u v:R3):Bw u v v 0 1 1:=⟨by omega,by omega,by omega,by apply ext3<;>simp[mul,add]⟩
theorem Bw.det (h:Bw u v x a b g)(p q:R3):g*Pol.det p q x=a*Pol.det p q u+b*Pol.det p q v:=by have:=xmu (Pol.det p q) h.e;rwa [qu,rJ,qu,qu] at this
section
variable {Ls P Q:List R3} {r p1 q1:R3}
structure xd9 (Ls:List R3)(r p1 q1:R3)(P Q:List R3):Prop where
 good:Good Ls ((p1::P)++(q1::Q))
 hP:∀v∈p1::P,0<val r v
 hQ:∀v∈q1::Q,val r v<=0
 three:P≠[]\/Q≠[]
 dir:∀s∈Ls,s.1≠0\/s.2.1≠0
namespace xd9
variable (S:xd9 Ls r p1 q1 P Q)
include S
theorem q1le:val r q1<=0:=S.hQ q1 xlK
theorem qmle:val r (xr q1 Q)<=0:=S.hQ _ (yz q1 Q)
theorem p1gt:0<val r p1:=S.hP p1 xlK
theorem pkgt:0<val r (xr p1 P):=S.hP _ (yz p1 P)
theorem botQ (h:v∈q1::Q):0<v.2.2:=S.good.bot v (xlH _ h)
theorem botP (h:v∈p1::P):0<v.2.2:=S.good.bot v (xlG _ h)
theorem pqq (hp:p∈p1::P)(s:List.Sublist [x,y] (q1::Q)):0<det p x y:=S.good.ccw.tri p x y ((xl3.mpr hp).append s)
theorem ppq (hp:List.Sublist [p,p'] (p1::P))(hx:x∈q1::Q):0<det p p' x:=S.good.ccw.tri p p' x (hp.append (xl3.mpr hx))
theorem qqq (s:List.Sublist [x,y,z] (q1::Q)):0<det x y z:=S.good.ccw.tri x y z (s.trans (xl6 _ _))
theorem q1xy (s:List.Sublist [x,y] (q1::Q)):0<=det q1 x y:=by
 cases s with
 | cons _ s=>exact xko (S.qqq (s.cons_cons q1))
 | cons_cons _ s=>rw[kg];exact xkr _
theorem xyqm (s:List.Sublist [x,y] (q1::Q)):0<=det x y (xr q1 Q):=by
 obtain⟨ys,e⟩:=dJ q1 Q;have s':=s;rw[e] at s';obtain⟨l1,l2,e2,s1,s2⟩:=xl5.mp s';cases l2 with
 | nil =>rw[xkX] at e2;subst e2;have:=S.qqq (x:=x) (y:=y) (z:=xr q1 Q) (by rw[e];exact s1.append (xkQ [xr q1 Q]));omega
 | cons b l2 =>
  have hb:b=xr q1 Q/\l2=[]:=by
   cases s2 with
   | cons _ s2=>cases s2
   | cons_cons _ s2=>cases s2;exact⟨rfl,rfl⟩
  obtain⟨hb,rfl⟩:=hb;have:y=b:=by
   cases l1 with
   | nil=>cases e2
   | cons c l1 =>
    cases l1 with
    | nil=>injection e2 with _ e2;injection e2
    | cons d l1 =>injection e2 with _ e2;injection e2 with _ e2;simp at e2
  rw[this,hb,qt];exact xkr _
theorem nd:((p1::P)++(q1::Q)).Nodup:=S.good.ccw.nd
theorem p1pkx (hx:x∈q1::Q):0<=det p1 (xr p1 P) x/\(P≠[]->0<det p1 (xr p1 P) x):=by
 by_cases h:P=[]
 .subst h;exact⟨by show 0<=det p1 p1 x;rw[kg];exact xkr _,λz=>absurd rfl z⟩
 .have:=S.ppq (ni h) hx;exact⟨by omega,λ_=>this⟩
theorem pq1x (hp:p∈p1::P)(hx:x∈q1::Q):0<=det p q1 x/\(x≠q1->0<det p q1 x):=by
 rcases xlI.mp hx with rfl | hx
 .exact⟨by rw[qt];exact xkr _,λz=>absurd rfl z⟩
 .have:=S.pqq hp ((xl3.mpr hx).cons_cons q1);exact⟨by omega,λ_=>this⟩
theorem pxqm (hp:p∈p1::P)(hx:x∈q1::Q):0<=det p x (xr q1 Q)/\(x≠xr q1 Q->0<det p x (xr q1 Q)):=by
 obtain⟨ys,e⟩:=dJ q1 Q;rw[e] at hx;rcases xlF.mp hx with hx | hx
 .have:=S.pqq (x:=x) (y:=xr q1 Q) hp (by rw[e];exact(xl3.mpr hx).append (xkQ [xr q1 Q]));exact⟨by omega,λ_=>this⟩
 .have:x=xr q1 Q:=by simpa using hx
  rw[this];exact⟨by rw[qt];exact xkr _,λz=>absurd rfl z⟩
theorem q1xqm (hx:x∈q1::Q):0<=det q1 x (xr q1 Q):=by
 rcases xlI.mp hx with rfl | hx
 .rw[kg];exact xkr _
 .exact S.xyqm ((xl3.mpr hx).cons_cons q1)
theorem q1ne (h:Q≠[]):q1≠xr q1 Q:=by have s:=ni (p:=q1) h;have nd:=(xlW.mp S.nd).2.1;exact xl0.mp nd s
def w1 (r p1 q1:R3)(P:List R3):R3:=if val r q1<0 then xB r (xr p1 P) q1 else q1
def u1 (r p1 q1:R3)(Q:List R3):R3:=if val r (xr q1 Q)<0 then xB r p1 (xr q1 Q) else xr q1 Q
theorem X1 (h:val r q1<0):Bt (xr p1 P) q1 (xB r (xr p1 P) q1) (abs (val r q1)) (abs (val r (xr p1 P))) (vd (cw r (xr p1 P) q1))/\val r (xB r (xr p1 P) q1)=0/\0<(xB r (xr p1 P) q1).2.2/\vd (xB r (xr p1 P) q1)=1 :=kQ (S.botP (yz p1 P)) (S.botQ xlK) (xkF S.pkgt h)
theorem X2 (h:val r (xr q1 Q)<0):Bt p1 (xr q1 Q) (xB r p1 (xr q1 Q)) (abs (val r (xr q1 Q))) (abs (val r p1)) (vd (cw r p1 (xr q1 Q)))/\val r (xB r p1 (xr q1 Q))=0/\0<(xB r p1 (xr q1 Q)).2.2/\vd (xB r p1 (xr q1 Q))=1 :=kQ (S.botP xlK) (S.botQ (yz q1 Q)) (xkF S.p1gt h)
theorem w1b:∃a b g,Bw (xr p1 P) q1 (w1 r p1 q1 P) a b g/\(val r q1<0->0<a)/\val r (w1 r p1 q1 P)=0:=by
 unfold w1;by_cases h:val r q1<0
 .rw[if_pos h];obtain⟨b,z,_⟩:=S.X1 h;exact⟨_,_,_,b.w,λ_=>b.pa,z⟩
 .rw[if_neg h];exact⟨_,_,_,Bw.self _ _,λz=>absurd z h,by have:=S.q1le;omega⟩
theorem u1b:∃a b g,Bw p1 (xr q1 Q) (u1 r p1 q1 Q) a b g/\(val r (xr q1 Q)<0->0<a)/\val r (u1 r p1 q1 Q)=0:=by
 unfold u1;by_cases h:val r (xr q1 Q)<0
 .rw[if_pos h];obtain⟨b,z,_⟩:=S.X2 h;exact⟨_,_,_,b.w,λ_=>b.pa,z⟩
 .rw[if_neg h];exact⟨_,_,_,Bw.self _ _,λz=>absurd z h,by have:=S.qmle;omega⟩
theorem close (hc:val r q1<0\/Q≠[])(hp:val r p<=0):0<=det (u1 r p1 q1 Q) (w1 r p1 q1 P) p:=by
 obtain⟨a,b,g,bw,ha,hw⟩:=S.w1b;obtain⟨c,d,g',bu,hcc,hu⟩:=S.u1b;have e1:=bu.det p1 (w1 r p1 q1 P);rw[kA,xkI,xkO] at e1;have e2:=bw.det (xr q1 Q) p1;have d1:det (xr q1 Q) p1 (xr p1 P)=det p1 (xr p1 P) (xr q1 Q):=uo _ _ _;have d2:det (xr q1 Q) p1 q1=det p1 q1 (xr q1 Q):=uo _ _ _;rw[d1,d2] at e2;obtain⟨f1,f2⟩:=S.p1pkx (yz q1 Q);obtain⟨f3,f4⟩:=S.pq1x (p:=p1) xlK (yz q1 Q);have k1:0<det (xr q1 Q) p1 (w1 r p1 q1 P):=by
  refine wN bw.pg ?_;rw[e2];have n1:=pz bw.pa f1;have n2:=pz (xko bw.pb) f3;by_cases hq:Q=[]
  .have hp':P≠[]:=S.three.resolve_right (λz=>z hq);have h0:val r q1<0:=hc.resolve_right (λz=>z hq);have:=pp (ha h0) (f2 hp');omega
  .have:=pp bw.pb (f4 (Ne.symm (S.q1ne hq)));omega
 have d3:det p1 (w1 r p1 q1 P) (xr q1 Q)=det (xr q1 Q) p1 (w1 r p1 q1 P):=vM _ _ _;rw[d3] at e1;have k2:0<det p1 (w1 r p1 q1 P) (u1 r p1 q1 Q):=by refine wN bu.pg ?_;rw[e1];exact pp bu.pb k1
 have e3:=xdm r (u1 r p1 q1 Q) (w1 r p1 q1 P) p1 p hu hw;have d4:det (u1 r p1 q1 Q) (w1 r p1 q1 P) p1 = - det p1 (w1 r p1 q1 P) (u1 r p1 q1 Q):=by rw[vM,fQ]
 rw[d4] at e3;refine zC S.p1gt ?_;rw[<-e3];exact nn hp (by omega)
def left (r p1 q1:R3)(P Q:List R3):List R3:=bef r (xr p1 P) q1++(q1::Q)++bef r p1 (xr q1 Q)
theorem mem_left (h:v∈left r p1 q1 P Q):(v∈q1::Q)\/(val r q1<0/\v=xB r (xr p1 P) q1)\/(val r (xr q1 Q)<0/\v=xB r p1 (xr q1 Q)):=by
 unfold left bef at h;rcases xlF.mp h with h | h
 .rcases xlF.mp h with h | h
  .split at h
   .exact .inr (.inl ⟨by assumption,by simpa using h⟩)
   .simp at h
  .exact .inl h
 .split at h
  .exact .inr (.inr ⟨by assumption,by simpa using h⟩)
  .simp at h
theorem sub_bef (h:List.Sublist l (bef r p q)):l=[]\/(val r q<0/\l=[xB r p q]):=by
 unfold bef at h;split at h
 .cases h with
  | cons _ h=>cases h;exact .inl rfl
  | cons_cons _ h=>cases h;exact .inr ⟨by assumption,rfl⟩
 .cases h;exact .inl rfl
theorem tri (s:List.Sublist [u,v,w] (left r p1 q1 P Q)):0<det u v w:=by
 unfold left at s;rw[xkW] at s;obtain⟨l1,l2,e,s1,s2⟩:=xl5.mp s;obtain⟨l3,l4,e2,s3,s4⟩:=xl5.mp s2;have b1:=S.sub_bef s1;have b4:=S.sub_bef s4;subst e2;rcases b1 with rfl | ⟨h1,rfl⟩
 .rcases b4 with rfl | ⟨h4,rfl⟩
  .have:[u,v,w]=l3:=by simpa using e
   subst this;exact S.qqq s3
  ·-- q q X2
   obtain⟨bt,_⟩:=S.X2 h4;have:l3=[u,v]/\w=xB r p1 (xr q1 Q):=by
    rcases xd3 (show[u,v,w]=l3++[xB r p1 (xr q1 Q)] from e) with ⟨_,z⟩ | ⟨_,z⟩ | ⟨z1,z⟩ | ⟨_,z⟩
    .cases z
    .cases z
    .cases z;exact⟨z1,rfl⟩
    .cases z
   obtain⟨rfl,rfl⟩:=this;have e3:=bt.det u v;have k1:0<det u v p1:=by rw[vM];exact S.pqq xlK s3
   have k2:=S.xyqm s3;have:=pp bt.pa k1;have:=pz (xko bt.pb) k2;exact wN bt.pg (by omega)
 .obtain⟨bt,_⟩:=S.X1 h1;rcases b4 with rfl | ⟨h4,rfl⟩
  .have:u=xB r (xr p1 P) q1/\l3=[v,w]:=by injection e with e1 e2;exact⟨e1,by simpa using e2.symm⟩
   obtain⟨rfl,rfl⟩:=this;have e3:=bt.det v w;have k1:0<det v w (xr p1 P):=by rw[vM];exact S.pqq (yz p1 P) s3
   have k2:0<=det v w q1:=by rw[vM];exact S.q1xy s3
   have:=pp bt.pa k1;have:=pz (xko bt.pb) k2;rw[uo];exact wN bt.pg (by omega)
  .obtain⟨bu,_⟩:=S.X2 h4;have:u=xB r (xr p1 P) q1/\l3=[v]/\w=xB r p1 (xr q1 Q):=by
    injection e with e1 e;have e:[v,w]=l3++[xB r p1 (xr q1 Q)]:=e;cases l3 with
    | nil=>cases e
    | cons a l3 =>
     injection e with e2 e;cases l3 with
     | nil=>injection e with e3 _;exact⟨e1,by rw[e2],e3⟩
     | cons b l3=>injection e with _ e;simp at e
   obtain⟨rfl,rfl,rfl⟩:=this;have hv:v∈q1::Q:=xl3.mp s3;have e3:=bu.det (xB r (xr p1 P) q1) v;have e4:=bt.det v p1;have e5:=bt.det v (xr q1 Q);have r1:det v p1 (xr p1 P)=det p1 (xr p1 P) v:=uo _ _ _;have r2:det v p1 q1=det p1 q1 v:=uo _ _ _;have r3:det v (xr q1 Q) (xr p1 P)=det (xr p1 P) v (xr q1 Q):=vM _ _ _;have r4:det v (xr q1 Q) q1=det q1 v (xr q1 Q):=vM _ _ _;rw[r1,r2] at e4;rw[r3,r4] at e5;obtain⟨f1,f2⟩:=S.p1pkx hv;obtain⟨f3,f4⟩:=S.pq1x (p:=p1) xlK hv;obtain⟨f5,f6⟩:=S.pxqm (p:=xr p1 P) (yz p1 P) hv;have f7:=S.q1xqm hv;have n1:=pz (xko bt.pa) f1;have n2:=pz (xko bt.pb) f3;have n3:=pz (xko bt.pa) f5;have n4:=pz (xko bt.pb) f7;have g1:0<=det v p1 (xB r (xr p1 P) q1):=zC bt.pg (by omega);have g2:0<=det v (xr q1 Q) (xB r (xr p1 P) q1):=zC bt.pg (by omega);have some:0<det v p1 (xB r (xr p1 P) q1)\/0<det v (xr q1 Q) (xB r (xr p1 P) q1):=by
    by_cases hq:Q=[]
    .have hp':P≠[]:=S.three.resolve_right (λz=>z hq);left;have:=pp bt.pa (f2 hp');exact wN bt.pg (by omega)
    .by_cases hv1:v=q1
     .right;have:=pp bt.pa (f6 (by rw[hv1];exact S.q1ne hq));exact wN bt.pg (by omega)
     .left;have:=pp bt.pb (f4 hv1);exact wN bt.pg (by omega)
   have m1:det (xB r (xr p1 P) q1) v p1=det v p1 (xB r (xr p1 P) q1):=uo _ _ _;have m2:det (xB r (xr p1 P) q1) v (xr q1 Q)=det v (xr q1 Q) (xB r (xr p1 P) q1):=uo _ _ _;rw[m1,m2] at e3;refine wN bu.pg ?_;rw[e3];have t1:=pz (xko bu.pa) g1;have t2:=pz (xko bu.pb) g2;rcases some with z | z
   .have:=pp bu.pa z;omega
   .have:=pp bu.pb z;omega
end xd9
end
end Pol
namespace Pol
section
variable {Ls P Q:List R3} {r p1 q1:R3}
namespace xd9
variable (S:xd9 Ls r p1 q1 P Q)
include S
theorem pairs (h:(u,v)∈cyc (left r p1 q1 P Q)):(u=u1 r p1 q1 Q/\v=w1 r p1 q1 P)\/(val r q1<0/\u=xB r (xr p1 P) q1/\v=q1)\/(val r (xr q1 Q)<0/\u=xr q1 Q/\v=xB r p1 (xr q1 Q))\/(u,v)∈chain q1 Q:=by
 unfold left bef at h;unfold u1 w1;by_cases h1:val r q1<0
 .by_cases h2:val r (xr q1 Q)<0
  .simp only[if_pos h1,if_pos h2,xkY,xlV] at h ⊢;have e:cyc (xB r (xr p1 P) q1::q1::(Q++[xB r p1 (xr q1 Q)]))=(xB r p1 (xr q1 Q),xB r (xr p1 P) q1)::(xB r (xr p1 P) q1,q1)::(chain q1 Q++[(xr q1 Q,xB r p1 (xr q1 Q))]):=by show(xr q1 (Q++[_]),_)::(_,q1)::chain q1 (Q++[_])=_;rw[rj,j9];rfl
   rw[e] at h;rcases xlI.mp h with h | h
   .injection h with a b;exact .inl ⟨a,b⟩
   .rcases xlI.mp h with h | h
    .injection h with a b;exact .inr (.inl ⟨h1,a,b⟩)
    .rcases xlF.mp h with h | h
     .exact .inr (.inr (.inr h))
     .have h:=xlU.mp h;injection h with a b;exact .inr (.inr (.inl ⟨h2,a,b⟩))
  .simp only[if_pos h1,if_neg h2,xkY,xlV,xkX] at h ⊢;have e:cyc (xB r (xr p1 P) q1::q1::Q)=(xr q1 Q,xB r (xr p1 P) q1)::(xB r (xr p1 P) q1,q1)::chain q1 Q:=rfl;rw[e] at h;rcases xlI.mp h with h | h
   .injection h with a b;exact .inl ⟨a,b⟩
   .rcases xlI.mp h with h | h
    .injection h with a b;exact .inr (.inl ⟨h1,a,b⟩)
    .exact .inr (.inr (.inr h))
 .by_cases h2:val r (xr q1 Q)<0
  .simp only[if_neg h1,if_pos h2,xkY,xlV] at h ⊢;have e:cyc (q1::(Q++[xB r p1 (xr q1 Q)]))=(xB r p1 (xr q1 Q),q1)::(chain q1 Q++[(xr q1 Q,xB r p1 (xr q1 Q))]):=by show(xr q1 (Q++[_]),_)::chain q1 (Q++[_])=_;rw[rj,j9];rfl
   rw[e] at h;rcases xlI.mp h with h | h
   .injection h with a b;exact .inl ⟨a,b⟩
   .rcases xlF.mp h with h | h
    .exact .inr (.inr (.inr h))
    .have h:=xlU.mp h;injection h with a b;exact .inr (.inr (.inl ⟨h2,a,b⟩))
  .simp only[if_neg h1,if_neg h2,xkY,xlV,xkX] at h ⊢;have e:cyc (q1::Q)=(xr q1 Q,q1)::chain q1 Q:=rfl;rw[e] at h;rcases xlI.mp h with h | h
   .injection h with a b;exact .inl ⟨a,b⟩
   .exact .inr (.inr (.inr h))
theorem old1:(xr p1 P,q1)∈cyc ((p1::P)++(q1::Q)):=by rw[gB];exact xlH _ xlK
theorem old2:(xr q1 Q,p1)∈cyc ((p1::P)++(q1::Q)):=by rw[gB];exact xlG _ xlK
theorem old3 (h:(u,v)∈chain q1 Q):(u,v)∈cyc ((p1::P)++(q1::Q)):=by rw[gB];exact xlH _ (xlJ _ h)
theorem pk_ne:xr p1 P≠q1:=λe=>by have:=S.pkgt;have:=S.q1le;rw[e] at *;omega
theorem p1_ne:xr q1 Q≠p1:=λe=>by have:=S.p1gt;have:=S.qmle;rw[e] at *;omega
theorem len_left:(val r q1<0\/val r (xr q1 Q)<0\/2<=Q.length)->3<=(left r p1 q1 P Q).length:=by
 intro h;unfold left bef;by_cases hq:Q=[]
 .subst hq;have h':val r q1<0:=by
   rcases h with h | h | h
   .exact h
   .exact h
   .simp at h
  rw[if_pos h',if_pos (show val r (xr q1 [])<0 from h')];simp
 .have l1:1<=Q.length:=by
   cases Q with
   | nil=>exact absurd rfl hq
   | cons _ _=>simp
  rcases h with h | h | h
  .rw[if_pos h];simp;omega
  .rw[if_pos h];simp;omega
  .simp;omega
theorem small (h:¬(val r q1<0\/val r (xr q1 Q)<0\/2<=Q.length)):left r p1 q1 P Q=q1::Q/\∀v∈q1::Q,val r v=0:=by
 have h1:¬val r q1<0:=λz=>h (.inl z);have h2:¬val r (xr q1 Q)<0:=λz=>h (.inr (.inl z));have h3:¬2<=Q.length:=λz=>h (.inr (.inr z));refine⟨by unfold left bef;rw[if_neg h1,if_neg h2];simp,λv hv=>?_⟩;have a:=S.q1le;have b:=S.qmle;rcases xlI.mp hv with rfl | hv
 .omega
 .match Q,hv,h3,b,h2 with
  | [x],hv,_,b,h2 =>
   have:v=x:=by simpa using hv
   subst this;have b:val r v<=0:=b;have h2:¬val r v<0:=h2;omega
  | _::_::_,_,h3,_,_=>exact absurd (by simp) h3
theorem good_left:Good (Ls++[r]) (left r p1 q1 P Q):=by
 have keptOld:∀s∈Ls,∀v∈(p1::P)++(q1::Q),val s v<=0:=λs hs v hv=>S.good.kept v hv s hs;have mP:∀ {v},v∈p1::P->v∈(p1::P)++(q1::Q):=λh=>xlG _ h;have mQ:∀ {v},v∈q1::Q->v∈(p1::P)++(q1::Q):=λh=>xlH _ h;refine⟨⟨λu v w s=>S.tri s,?_⟩,λv hv=>?_,λv hv=>?_,λv hv s hs=>?_,λu v he hne=>?_,λv hv=>?_,λp h0 hp=>?_⟩
 .by_cases c:val r q1<0\/val r (xr q1 Q)<0\/2<=Q.length
  .exact fj (λu v w s=>S.tri s) (S.len_left c)
  .rw[(S.small c).1];exact(xlW.mp S.nd).2.1
 .rcases S.mem_left hv with hv | ⟨h,rfl⟩ | ⟨h,rfl⟩
  .exact S.botQ hv
  .exact(S.X1 h).2.2.1
  .exact(S.X2 h).2.2.1
 .rcases S.mem_left hv with hv | ⟨h,rfl⟩ | ⟨h,rfl⟩
  .exact S.good.prim v (mQ hv)
  .exact(S.X1 h).2.2.2
  .exact(S.X2 h).2.2.2
 .rcases xlF.mp hs with hs | hs
  .rcases S.mem_left hv with hv | ⟨h,rfl⟩ | ⟨h,rfl⟩
   .exact keptOld s hs v (mQ hv)
   .exact(S.X1 h).1.kept (keptOld s hs _ (mP (yz p1 P))) (keptOld s hs _ (mQ xlK))
   .exact(S.X2 h).1.kept (keptOld s hs _ (mP xlK)) (keptOld s hs _ (mQ (yz q1 Q)))
  .have:s=r:=by simpa using hs
   subst this;rcases S.mem_left hv with hv | ⟨h,rfl⟩ | ⟨h,rfl⟩
   .exact S.hQ v hv
   .rw[(S.X1 h).2.1];exact xkr _
   .rw[(S.X2 h).2.1];exact xkr _
 .rcases S.pairs he with ⟨rfl,rfl⟩ | ⟨h,rfl,rfl⟩ | ⟨h,rfl,rfl⟩ | h
  .obtain⟨_,_,_,_,_,e1⟩:=S.w1b;obtain⟨_,_,_,_,_,e2⟩:=S.u1b;exact⟨r,by simp,e2,e1⟩
  .obtain⟨s,hs,a,b⟩:=S.good.edge _ _ S.old1 S.pk_ne;exact⟨s,xlG _ hs,(S.X1 h).1.tight a b,b⟩
  .obtain⟨s,hs,a,b⟩:=S.good.edge _ _ S.old2 S.p1_ne;exact⟨s,xlG _ hs,a,(S.X2 h).1.tight b a⟩
  .obtain⟨s,hs,a,b⟩:=S.good.edge _ _ (S.old3 h) hne;exact⟨s,xlG _ hs,a,b⟩
 .rcases S.mem_left hv with hv | ⟨h,rfl⟩ | ⟨h,rfl⟩
  .obtain⟨s,hs,t,ht,a,b,c⟩:=S.good.two v (mQ hv);exact⟨s,xlG _ hs,t,xlG _ ht,a,b,c⟩
  .obtain⟨s,hs,a,b⟩:=S.good.edge _ _ S.old1 S.pk_ne;exact⟨s,xlG _ hs,r,by simp,(S.X1 h).1.tight a b,(S.X1 h).2.1,unlike (S.dir s hs) (S.botP (yz p1 P)) (S.botQ xlK) a b (xkF S.pkgt h)⟩
  .obtain⟨s,hs,a,b⟩:=S.good.edge _ _ S.old2 S.p1_ne;exact⟨s,xlG _ hs,r,by simp,(S.X2 h).1.tight b a,(S.X2 h).2.1,unlike (S.dir s hs) (S.botP xlK) (S.botQ (yz q1 Q)) b a (xkF S.p1gt h)⟩
 .have hpL:∀s∈Ls,val s p<=0:=λs hs=>hp s (xlG _ hs);have hpr:val r p<=0:=hp r (by simp);obtain⟨m,hm,cn⟩:=S.good.all p h0 hpL;by_cases c:val r q1<0\/val r (xr q1 Q)<0\/2<=Q.length
  .have he:∀u v,(u,v)∈cyc ((p1::P)++(q1::Q))->0<=det u v p:=λu v h=>by have:=cn.det u v λw hw=>S.good.ccw.edge h hw;rw[qu] at this;exact zC hm this
   refine Ccw.incone ⟨λu v w s=>S.tri s,fj (λu v w s=>S.tri s) (S.len_left c)⟩ (S.len_left c) λu v hm'=>?_;rcases S.pairs hm' with ⟨e1,e2⟩ | ⟨h,e1,e2⟩ | ⟨h,e1,e2⟩ | h
   .rw[e1,e2];refine S.close ?_ hpr;rcases c with c | c | c
    .exact .inl c
    .by_cases hq:Q=[]
     .subst hq;exact .inl c
     .exact .inr hq
    .right;intro z;subst z;simp at c
   .rw[e1,e2];have bt:=(S.X1 h).1;have e:=bt.det q1 p;have r1:det q1 p (xr p1 P)=det (xr p1 P) q1 p:=vM _ _ _;rw[r1,kA,xkI,xj_] at e;have k:=pz (xko bt.pa) (he _ _ S.old1);rw[uo];exact zC bt.pg (by omega)
   .rw[e1,e2];have bt:=(S.X2 h).1;have e:=bt.det p (xr q1 Q);have r1:det p (xr q1 Q) p1=det (xr q1 Q) p1 p:=uo _ _ _;rw[r1,qt,xkI,xj_] at e;have k:=pz (xko bt.pa) (he _ _ S.old2);rw[vM];exact zC bt.pg (by omega)
   .exact he u v (S.old3 h)
  .obtain⟨e,z⟩:=S.small c;refine⟨m,hm,?_⟩;have ge:∀v∈(p1::P)++(q1::Q),0<=val r v:=λv hv=>by
    rcases xlF.mp hv with hv | hv
    .have:=S.hP v hv;omega
    .have:=z v hv;omega
   have:=cn.zeros r ge (by rw[val_mul];exact pn (xko hm) hpr);rw[e];refine this.mono λv hv=>?_;obtain⟨hv,hv0⟩:=xlL.mp hv;have hv0:val r v=0:=by simpa using hv0
   rcases xlF.mp hv with hv | hv
   .have:=S.hP v hv;omega
   .exact .mem hv
end xd9
end
end Pol
namespace Pol
def yw (r:R3)(left:List R3)(p:R3×R3):List R3 :=
 let l1:=if val r p.1*val r p.2<0 then(if xB r p.1 p.2∈left then left else left++[xB r p.1 p.2]) else left
 if val r p.2<=0 then l1++[p.2] else l1
def yT (l:List R3)(r:R3):List R3:=(cyc l).foldl (yw r) []
theorem xcP (h:(acc++seg r p).Nodup):yw r acc p=acc++seg r p:=by
 unfold yw seg at *
 by_cases c:val r p.1*val r p.2<0
 .rw[if_pos c] at h ⊢;have hn:xB r p.1 p.2∉acc:=λz=>by have:=(xlW.mp h).2.2 _ z _ (xlG _ (xlU.mpr rfl));exact this rfl
  simp only[if_neg hn];split<;>simp
 .rw[if_neg c] at h ⊢;simp only;split<;>simp
theorem pN:∀ {ps:List (R3×R3)} {acc:List R3},(acc++ps.flatMap (seg r)).Nodup->ps.foldl (yw r) acc=acc++ps.flatMap (seg r)
 | [],acc,_=>by simp
 | p::ps,acc,h=>by have h':(acc++(seg r p++ps.flatMap (seg r))).Nodup:=h;rw[<-xkW] at h';rw[xk9,xcP (xlW.mp h').1,pN h',xkW];rfl
theorem nG (h:(cR r l).Nodup):yT l r=cR r l:=by unfold yT;rw[pN (by simpa [cR] using h)];rfl
theorem qT (h:∀v∈l,val r v<=0):cR r l=l:=by
 cases l with
 | nil=>rfl
 | cons x xs=>exact du (h _ (yz x xs)) h
theorem qZ (h:∀v∈l,0<val r v):cR r l=[]:=by
 cases l with
 | nil=>rfl
 | cons x xs=>exact sI (h _ (yz x xs)) h
theorem j4 (g:Good Ls l)(h:∀v∈l,val r v<=0):Good (Ls++[r]) l where
 ccw:=g.ccw
 bot:=g.bot
 prim:=g.prim
 kept:=λv hv s hs=>by
  rcases xlF.mp hs with hs | hs
  .exact g.kept v hv s hs
  .have:s=r:=by simpa using hs
   subst this;exact h v hv
 edge:=λu v he hn=>by obtain⟨s,hs,a⟩:=g.edge u v he hn;exact⟨s,xlG _ hs,a⟩
 two:=λv hv=>by obtain⟨s,hs,t,ht,a⟩:=g.two v hv;exact⟨s,xlG _ hs,t,xlG _ ht,a⟩
 all:=λp h0 hp=>g.all p h0 λs hs=>hp s (xlG _ hs)
theorem qc (g:Good Ls l)(h:∀v∈l,0<=val r v)(hs:List.Sublist l' l)(hl:l'.length<=1)(h0:∀v∈l',val r v=0)(h1:∀v∈l,val r v=0->v∈l'):Good (Ls++[r]) l' where
 ccw:=⟨λu v w s=>by have:=s.length_le;simp at this;omega,g.ccw.nd.sublist hs⟩
 bot:=λv hv=>g.bot v (hs.subset hv)
 prim:=λv hv=>g.prim v (hs.subset hv)
 kept:=λv hv s hs'=>by
  rcases xlF.mp hs' with h' | h'
  .exact g.kept v (hs.subset hv) s h'
  .have:s=r:=by simpa using h'
   subst this;rw[h0 v hv];exact xkr _
 edge:=λu v he hn=>by
  exfalso
  match l',hl,he with
  | [x],_,he =>
   have:(u,v)=(x,x):=by simpa [cyc,chain,xr] using he
   injection this with a b;exact hn (by rw[a,b])
  | [],_,he=>simp[cyc] at he
  | _::_::_,hl,_=>simp at hl
 two:=λv hv=>by obtain⟨s,hs',t,ht,a⟩:=g.two v (hs.subset hv);exact⟨s,xlG _ hs',t,xlG _ ht,a⟩
 all:=λp hz hp=>by
  obtain⟨m,hm,c⟩:=g.all p hz λs hs=>hp s (xlG _ hs);refine⟨m,hm,(c.zeros r h ?_).mono λv hv=>?_⟩
  .rw[val_mul];exact pn (xko hm) (hp r (by simp))
  .obtain⟨a,b⟩:=xlL.mp hv;exact .mem (h1 v a (by simpa using b))
theorem ft (g:Good Ls [u,v])(dir:∀s∈Ls,s.1≠0\/s.2.1≠0)(hu:0<val r u)(hv:val r v<0)(hx:x=xB r u v):Good (Ls++[r]) [x,v]:=by
 subst hx;have bu:=g.bot u (by simp);have bv:=g.bot v (by simp);obtain⟨bt,x0,xb,xp⟩:=kQ (r:=r) bu bv (xkF hu hv);have ne:u≠v:=λe=>by rw[e] at hu;omega
 obtain⟨s,hs,su,sv⟩:=g.edge u v (by simp[cyc,chain,xr]) ne;have nx:xB r u v≠v:=λe=>by rw[e] at x0;omega
 have sx:=bt.tight su sv;refine⟨⟨λa b c h=>by have:=h.length_le;simp at this,by simp[nx]⟩,λw hw=>?_,λw hw=>?_,λw hw t ht=>?_,λa b he hn=>?_,λw hw=>?_,λp hz hp=>?_⟩
 .simp only[xlI,xlY,xmC] at hw;rcases hw with rfl | rfl
  .exact xb
  .exact bv
 .simp only[xlI,xlY,xmC] at hw;rcases hw with rfl | rfl
  .exact xp
  .exact g.prim w (by simp)
 .simp only[xlI,xlY,xmC] at hw;rcases xlF.mp ht with ht | ht
  .rcases hw with rfl | rfl
   .exact bt.kept (g.kept u (by simp) t ht) (g.kept v (by simp) t ht)
   .exact g.kept w (by simp) t ht
  .have:t=r:=by simpa using ht
   subst this;rcases hw with rfl | rfl
   .rw[x0];exact xkr _
   .exact xko hv
 .have he:(a,b)=(v,xB r u v)\/(a,b)=(xB r u v,v):=by simpa [cyc,chain,xr] using he
  rcases he with e | e<;>injection e with e1 e2<;>subst e1 e2
  .exact⟨s,xlG _ hs,sv,sx⟩
  .exact⟨s,xlG _ hs,sx,sv⟩
 .simp only[xlI,xlY,xmC] at hw;rcases hw with rfl | rfl
  .exact⟨s,xlG _ hs,r,by simp,sx,x0,unlike (dir s hs) bu bv su sv (xkF hu hv)⟩
  .obtain⟨s,hs',t,ht,a⟩:=g.two w (by simp);exact⟨s,xlG _ hs',t,xlG _ ht,a⟩
 .obtain⟨m,hm,c⟩:=g.all p hz λs hs=>hp s (xlG _ hs);obtain⟨a,b,a0,b0,e⟩:=c.pair;have hr:val r (mul m p)<=0:=by rw[val_mul];exact pn (xko hm) (hp r (by simp))
  rw[e,val_add,val_mul,val_mul] at hr;have av:abs (val r v) = - val r v:=by unfold abs;rw[if_pos hv]
  have au:abs (val r u)=val r u:=by unfold abs;rw[if_neg (by omega)]
  refine⟨(- val r v)*m,pp (by omega) hm,?_⟩;have e2:mul ((- val r v)*m) p=add (mul (a*(vd (cw r u v):Int)) (xB r u v)) (mul (b*(- val r v)-a*val r u) v):=by
   have e3:mul ((- val r v)*m) p=mul (- val r v) (mul m p):=by apply ext3<;>simp only[mul]<;>grind
   have e4:mul (a*(vd (cw r u v):Int)) (xB r u v)=mul a (mul (vd (cw r u v)) (xB r u v)):=by apply ext3<;>simp only[mul]<;>grind
   rw[e3,e,e4,bt.e,av,au];apply ext3<;>simp only[mul,add]<;>grind
  rw[e2];have k:0<=b*(- val r v)-a*val r u:=by
   have:b*(- val r v)-a*val r u = - (a*val r u+b*val r v):=by grind
   omega
  exact((Cn.mem (by simp)).smul (pz a0 (xko bt.pg))).add ((Cn.mem (by simp)).smul k)
theorem Good.sw (g:Good Ls [u,v]):Good Ls [v,u]:=Good.rot (a:=[u]) (b:=[v]) g
theorem oT (g:Good Ls l)(dir:∀s∈Ls,s.1≠0\/s.2.1≠0):Good (Ls++[r]) (yT l r):=by
 match l,g with
 | [],g =>show Good (Ls++[r]) [];exact j4 g λv hv=>by simp at hv
 | [v],g =>
  by_cases h:val r v<=0
  .have hk:∀w∈[v],val r w<=0:=λw hw=>by rw[xlU.mp hw];exact h
   rw[nG (by rw[qT hk];simp),qT hk];exact j4 g hk
  .have hk:∀w∈[v],0<val r w:=λw hw=>by rw[xlU.mp hw];omega
   rw[nG (by rw[qZ hk];simp),qZ hk];exact qc g (λw hw=>xko (hk w hw)) (List.nil_sublist _) (by simp) (λw hw=>by simp at hw) λw hw h0=>by have:=hk w hw;omega
 | [u,v],g =>
  have ne:u≠v:=by have:=g.ccw.nd;simp at this;exact this
  have cy:cyc [u,v]=[(v,u),(u,v)]:=rfl;unfold yT;rw[cy];simp only[xk9,List.foldl_nil];by_cases c:val r u*val r v<0
  .have c':val r v*val r u<0:=by rw[xkv];exact c
   have ex:xB r v u=xB r u v:=by unfold xB;rw[xbw]
   have hu0:val r u≠0:=λz=>by rw[z] at c;simp at c
   have hv0:val r v≠0:=λz=>by rw[z] at c;simp at c
   by_cases hu:val r u<=0
   .have hv:0<val r v:=by
     rcases xkt 0 (val r v) with z | z
     .exact z
     .have:=nn hu z;omega
    have e1:yw r [] (v,u)=[xB r v u,u]:=by unfold yw;simp only[if_pos c',if_pos hu];simp
    have e2:yw r [xB r v u,u] (u,v)=[xB r v u,u]:=by unfold yw;simp only[if_pos c,if_neg (show ¬val r v<=0 by omega)];rw[if_pos (by rw[<-ex];simp)]
    rw[e1,e2];exact ft g.sw dir hv (by omega) rfl
   .have hv:val r v<0:=by
     rcases xkt (val r v) 0 with z | z
     .exact z
     .have:=pz (by omega:0<=val r u) z;omega
    have e1:yw r [] (v,u)=[xB r v u]:=by unfold yw;simp only[if_pos c',if_neg hu];simp
    have e2:yw r [xB r v u] (u,v)=[xB r v u,v]:=by unfold yw;simp only[if_pos c,if_pos (show val r v<=0 by omega)];rw[if_pos (by rw[<-ex];simp)];rfl
    rw[e1,e2];exact ft g dir (by omega) hv ex
  .have c':¬val r v*val r u<0:=by rw[xkv];exact c
   have e1:yw r [] (v,u)=if val r u<=0 then[u] else[]:=by unfold yw;simp only[if_neg c'];split<;>simp
   have e2:∀l,yw r l (u,v)=if val r v<=0 then l++[v] else l:=λl=>by unfold yw;simp only[if_neg c]
   rw[e1,e2];by_cases hu:val r u<=0
   .rw[if_pos hu];by_cases hv:val r v<=0
    .rw[if_pos hv];show Good (Ls++[r]) [u,v];exact j4 g λw hw=>by simp only[xlI,xlY,xmC] at hw;rcases hw with rfl | rfl<;>assumption
    .rw[if_neg hv];have hu0:val r u=0:=by
      rcases xkt (val r u) 0 with z | z
      .have:=xkE z (show 0<val r v by omega);omega
      .omega
     exact qc g (λw hw=>by
      simp only[xlI,xlY,xmC] at hw;rcases hw with rfl | rfl<;>omega) (by simp) (by simp) (λw hw=>by rw[xlU.mp hw];exact hu0) λw hw h0=>by
       simp only[xlI,xlY,xmC] at hw;rcases hw with rfl | rfl
       .simp
       .omega
   .rw[if_neg hu];by_cases hv:val r v<=0
    .rw[if_pos hv];have hv0:val r v=0:=by
      rcases xkt (val r v) 0 with z | z
      .have:=xkF (show 0<val r u by omega) z;omega
      .omega
     exact qc g (λw hw=>by
      simp only[xlI,xlY,xmC] at hw;rcases hw with rfl | rfl<;>omega) (by simp) (by simp) (λw hw=>by
       have:w=v:=by simpa using hw
       rw[this];exact hv0) λw hw h0=>by
       simp only[xlI,xlY,xmC] at hw;rcases hw with rfl | rfl
       .omega
       .simp
    .rw[if_neg hv];exact qc g (λw hw=>by
      simp only[xlI,xlY,xmC] at hw;rcases hw with rfl | rfl<;>omega) (by simp) (by simp) (λw hw=>by simp at hw) λw hw h0=>by simp only[xlI,xlY,xmC] at hw;rcases hw with rfl | rfl<;>omega
 | x::y::z::t,g =>
  obtain⟨a,b,P,Q,e1,e2,hP,hQ⟩:=g.ccw.parts r;have e0:x::y::z::t=a++b:=e1;rw[e0] at g ⊢;have gr:Good Ls (b++a):=g.rot;have mem:∀v,v∈a++b->v∈P++Q:=λv hv=>by rw[<-e2];simpa [or_comm] using hv
  have hlen:(P++Q).length=t.length+3:=by rw[<-e2,xll,Nat.add_comm,<-xll,<-e0];simp
  cases P with
  | nil =>have hk:∀v∈a++b,val r v<=0:=λv hv=>hQ v (by simpa using mem v hv);rw[nG (by rw[qT hk];exact g.ccw.nd),qT hk];exact j4 g hk
  | cons p1 P =>
   cases Q with
   | nil =>have hk:∀v∈a++b,0<val r v:=λv hv=>hP v (by simpa using mem v hv);rw[nG (by rw[qZ hk];simp),qZ hk];exact qc g (λw hw=>xko (hk w hw)) (List.nil_sublist _) (by simp) (λw hw=>by simp at hw) λw hw h0=>by have:=hk w hw;omega
   | cons q1 Q =>
    have S:xd9 Ls r p1 q1 P Q:=⟨by rw[<-e2];exact gr,hP,hQ,by
     rcases Classical.em (P=[]) with h | h
     .right;intro h';subst h h';simp at hlen
     .exact .inl h,dir⟩
    have gl:=S.good_left;unfold xd9.left at gl;have g2:=Good.rot (a:=bef r (xr p1 P) q1++q1::Q) (b:=bef r p1 (xr q1 Q)) gl;rw[<-aY hP hQ,<-e2] at g2;obtain⟨c,d,f1,f2⟩:=oE r a b;rw[f2] at g2;have g3:=g2.rot;rw[<-f1] at g3;rw[nG g3.ccw.nd];exact g3
end Pol
namespace Pol
def FAR:Int:=60001
def box:List R3:=[(-FAR,-FAR,1),(FAR,-FAR,1),(FAR,FAR,1),(-FAR,FAR,1)]
def xas:List R3:=[(-1,0,FAR),(1,0,FAR),(0,-1,FAR),(0,1,FAR)]
theorem xjC {a b c d u v w:R3}(s:List.Sublist [u,v,w] [a,b,c,d]):(u=a/\v=b/\w=c)\/(u=a/\v=b/\w=d)\/(u=a/\v=c/\w=d)\/(u=b/\v=c/\w=d):=by
 have full:∀ {x y z u v w:R3},List.Sublist [u,v,w] [x,y,z]->u=x/\v=y/\w=z:=λ {x y z u v w} s=>by have:=s.eq_of_length (by simp);injection this with h1 h2;injection h2 with h2 h3;injection h3 with h3 _;exact⟨h1,h2,h3⟩
 cases s with
 | cons _ s=>exact .inr (.inr (.inr (full s)))
 | cons_cons _ s =>
  have two:∀ {x y z v w:R3},List.Sublist [v,w] [x,y,z]->(v=x/\w=y)\/(v=x/\w=z)\/(v=y/\w=z):=λ {x y z v w} s=>by
   cases s with
   | cons _ s =>have:=s.eq_of_length (by simp);injection this with h1 h2;injection h2 with h2 _;exact .inr (.inr ⟨h1,h2⟩)
   | cons_cons _ s =>
    have:w∈[y,z]:=xl3.mp s;simp only[xlI,xlY,xmC] at this;rcases this with rfl | rfl
    .exact .inl ⟨rfl,rfl⟩
    .exact .inr (.inl ⟨rfl,rfl⟩)
  rcases two s with ⟨h1,h2⟩ | ⟨h1,h2⟩ | ⟨h1,h2⟩
  .exact .inl ⟨rfl,h1,h2⟩
  .exact .inr (.inl ⟨rfl,h1,h2⟩)
  .exact .inr (.inr (.inl ⟨rfl,h1,h2⟩))
theorem xaD:Ccw box:=by refine⟨λu v w s=>?_,by decide⟩;rcases xjC s with ⟨rfl,rfl,rfl⟩ | ⟨rfl,rfl,rfl⟩ | ⟨rfl,rfl,rfl⟩ | ⟨rfl,rfl,rfl⟩<;>decide
theorem ox:Good xas box:=by
 refine⟨xaD,by decide,by decide,by decide,λu v h _=>?_,by decide,λp hz hp=>?_⟩
 .have h:(u,v)∈[((-FAR,FAR,1),(-FAR,-FAR,1)),((-FAR,-FAR,1),(FAR,-FAR,1)),((FAR,-FAR,1),(FAR,FAR,1)),((FAR,FAR,1),(-FAR,FAR,1))]:=h;simp only[xlI,xlY,xmC] at h;rcases h with h | h | h | h<;>injection h with h1 h2<;>subst h1 h2
  .exact⟨(-1,0,FAR),by decide,by decide,by decide⟩
  .exact⟨(0,-1,FAR),by decide,by decide,by decide⟩
  .exact⟨(1,0,FAR),by decide,by decide,by decide⟩
  .exact⟨(0,1,FAR),by decide,by decide,by decide⟩
 .have h1:=hp (-1,0,FAR) (by decide);have h2:=hp (1,0,FAR) (by decide);have h3:=hp (0,-1,FAR) (by decide);have h4:=hp (0,1,FAR) (by decide);simp only[val,FAR] at h1 h2 h3 h4;refine xaD.incone (by decide) λu v h=>?_;have h:(u,v)∈[((-FAR,FAR,1),(-FAR,-FAR,1)),((-FAR,-FAR,1),(FAR,-FAR,1)),((FAR,-FAR,1),(FAR,FAR,1)),((FAR,FAR,1),(-FAR,FAR,1))]:=h;simp only[xlI,xlY,xmC] at h;rcases h with h | h | h | h<;>injection h with h5 h6<;>subst h5 h6<;>simp only[det,FAR]<;>omega
def pieces (rows:List R3):List R3:=rows.foldl yT box
theorem nR:∀(rows Ls l:List R3),Good Ls l->(∀s∈Ls,s.1≠0\/s.2.1≠0)->(∀s∈rows,s.1≠0\/s.2.1≠0)->Good (Ls++rows) (rows.foldl yT l)
 | [],Ls,l,g,_,_=>by simpa using g
 | r::rows,Ls,l,g,d1,d2=>by
  rw[xk9];have:=nR rows (Ls++[r]) (yT l r) (oT g d1) (λs hs=>by
   rcases xlF.mp hs with h | h
   .exact d1 s h
   .rw[xlU.mp h];exact d2 r xlK) (λs hs=>d2 s (xlJ _ hs))
  rwa [xkW] at this
theorem y_ (d:∀s∈rows,s.1≠0\/s.2.1≠0):Good (xas++rows) (pieces rows):=nR rows xas box ox (by decide) d
def GR (rows:List R3):Prop:=∀u v:Int,(u≠0\/v≠0)->∃r∈rows,0<r.1*u+r.2.1*v
theorem best {rows:List R3}(f g:R3->Int)(h:∃r∈rows,0<g r):∃i∈rows,0<g i/\∀r∈rows,0<g r->f r*g i<=f i*g r:=by
 induction rows with
 | nil=>obtain⟨r,hr,_⟩:=h;simp at hr
 | cons x rows ih =>
  by_cases hx:0<g x
  .by_cases hr:∃r∈rows,0<g r
   .obtain⟨i,hi,gi,hb⟩:=ih hr;rcases xkt (f i*g x) (f x*g i) with c | c
    .refine⟨x,xlK,hx,λr hr gr=>?_⟩;rcases xlI.mp hr with rfl | hr
     .exact xkr _
     .have h1:=hb r hr gr;have h2:(f r*g i)*g x<=(f i*g r)*g x:=xkB h1 (xko hx);have h3:(f i*g x)*g r<=(f x*g i)*g r:=xkB (xko c) (xko gr);have h4:g i*(f r*g x)<=g i*(f x*g r):=by
       have e1:g i*(f r*g x)=(f r*g i)*g x:=by grind
       have e2:(f i*g r)*g x=(f i*g x)*g r:=by grind
       have e3:(f x*g i)*g r=g i*(f x*g r):=by grind
       omega
      exact xkp h4 gi
    .refine⟨i,xlJ _ hi,gi,λr hr gr=>?_⟩;rcases xlI.mp hr with rfl | hr
     .exact c
     .exact hb r hr gr
   .refine⟨x,xlK,hx,λr hr' gr=>?_⟩;rcases xlI.mp hr' with rfl | h'
    .exact xkr _
    .exact absurd ⟨r,h',gr⟩ hr
  .obtain⟨r,hr,gr⟩:=h;rcases xlI.mp hr with rfl | hr
   .exact absurd gr hx
   .obtain⟨i,hi,gi,hb⟩:=ih ⟨r,hr,gr⟩;refine⟨i,xlJ _ hi,gi,λr hr gr=>?_⟩;rcases xlI.mp hr with rfl | hr
    .exact absurd gr hx
    .exact hb r hr gr
theorem xd0 (h:GR rows)(hb:∀r∈rows,(-30<=r.2.1/\r.2.1<=30)/\r.2.2<=1000)(hz:0<p.2.2)(hp:∀r∈rows,val r p<=0):p.1<=60000*p.2.2:=by
 by_cases hc:∃r∈rows,r.2.1=0/\0<r.1
 .obtain⟨r,hr,r0,r1⟩:=hc;have h1:=hp r hr;have h2:=(hb r hr).2;simp only[val,r0,xkP,xj_] at h1;rcases xkt 0 p.1 with c | c
  .have h3:p.1<=r.1*p.1:=by have:1*p.1<=r.1*p.1:=xkB (by omega) (xko c);omega
   have h4:r.2.2*p.2.2<=1000*p.2.2:=xkB h2 (xko hz);omega
  .omega
 .obtain⟨i,hi,gi,mi⟩:=best (rows:=rows) (λr=>r.1) (λr=>r.2.1) (by obtain⟨r,hr,h1⟩:=h 0 1 (.inr (by decide));exact⟨r,hr,by simpa using h1⟩)
  obtain⟨j,hj,gj,mj⟩:=best (rows:=rows) (λr=>r.1) (λr=>- r.2.1) (by obtain⟨r,hr,h1⟩:=h 0 (-1) (.inr (by decide));exact⟨r,hr,by simp at h1;omega⟩)
  have pos:0<(- j.2.1)*i.1+i.2.1*j.1:=by
   rcases xkt 0 ((- j.2.1)*i.1+i.2.1*j.1) with c | c
   .exact c
   .exfalso;obtain⟨r,hr,h1⟩:=h i.2.1 (- i.1) (.inl (by omega));rcases xku r.2.1 0 with d | d | d
    .have h2:=mj r hr (by omega);have h3:i.2.1*(r.1*(- j.2.1))<=i.2.1*(j.1*(- r.2.1)):=xkA h2 (xko gi);have h4:(- r.2.1)*((- j.2.1)*i.1+i.2.1*j.1)<=0:=pn (by omega) c;have h5:(- j.2.1)*(r.1*i.2.1+r.2.1*(- i.1))<=0:=by
      have e:(- j.2.1)*(r.1*i.2.1+r.2.1*(- i.1))=i.2.1*(r.1*(- j.2.1))-i.2.1*(j.1*(- r.2.1))+(- r.2.1)*((- j.2.1)*i.1+i.2.1*j.1):=by grind
      omega
     have h6:0<(- j.2.1)*(r.1*i.2.1+r.2.1*(- i.1)):=pp gj h1;omega
    .rw[d] at h1;simp only[xkP,xj_] at h1;have:0<r.1:=by
      rcases xkt 0 r.1 with z | z
      .exact z
      .have:=np z (xko gi);omega
     exact hc ⟨r,hr,d,this⟩
    .have h2:=mi r hr d;have e:r.1*i.2.1+r.2.1*(- i.1)=r.1*i.2.1-i.1*r.2.1:=by grind
     omega
  have h1:=hp i hi;have h2:=hp j hj;obtain⟨⟨b1,b2⟩,b3⟩:=hb i hi;obtain⟨⟨b4,b5⟩,b6⟩:=hb j hj;have k1:(- j.2.1)*val i p<=0:=pn (xko gj) h1;have k2:i.2.1*val j p<=0:=pn (xko gi) h2;have k3:((- j.2.1)*i.1+i.2.1*j.1)*p.1<=((- j.2.1)*i.2.2+i.2.1*j.2.2)*p.2.2:=by
   have e:((- j.2.1)*i.1+i.2.1*j.1)*p.1-((- j.2.1)*i.2.2+i.2.1*j.2.2)*p.2.2=(- j.2.1)*val i p+i.2.1*val j p:=by simp only[val];grind
   omega
  have k4:(- j.2.1)*i.2.2<=30000:=by have:(- j.2.1)*i.2.2<=(- j.2.1)*1000:=xkA b3 (xko gj);omega
  have k5:i.2.1*j.2.2<=30000:=by have:i.2.1*j.2.2<=i.2.1*1000:=xkA b6 (xko gi);omega
  have k6:((- j.2.1)*i.2.2+i.2.1*j.2.2)*p.2.2<=60000*p.2.2:=xkB (by omega) (xko hz);rcases xkt 0 p.1 with c | c
  .have:1*p.1<=((- j.2.1)*i.1+i.2.1*j.1)*p.1:=xkB (by omega) (xko c);omega
  .omega
def s_ (r:R3):Prop:=((-30<=r.1/\r.1<=30)/\(-30<=r.2.1/\r.2.1<=30))/\(-1000<=r.2.2/\r.2.2<=1000)
theorem xhD (h:GR rows)(hb:∀r∈rows,s_ r)(hz:0<p.2.2)(hp:∀r∈rows,val r p<=0) :
  (-(60000*p.2.2)<=p.1/\p.1<=60000*p.2.2)/\(-(60000*p.2.2)<=p.2.1/\p.2.1<=60000*p.2.2):=by
 have tr:∀(f:R3->R3) (q:R3),(∀r,val (f r) q=val r p)->q.2.2=p.2.2->(∀r∈rows,(-30<=(f r).2.1/\(f r).2.1<=30)/\(f r).2.2<=1000)->GR (rows.map f)->q.1<=60000*p.2.2:=λf q h1 h2 h3 h4=>by
  have:=xd0 (rows:=rows.map f) (p:=q) h4 (λr hr=>by
   obtain⟨r0,hr0,rfl⟩:=xlO.mp hr;exact h3 r0 hr0) (by rw[h2];exact hz) (λr hr=>by
   obtain⟨r0,hr0,rfl⟩:=xlO.mp hr;rw[h1];exact hp r0 hr0)
  rwa [h2] at this
 have gm:∀(f:R3->R3) (m:Int->Int->Int×Int),(∀u v,(u≠0\/v≠0)->((m u v).1≠0\/(m u v).2≠0))->(∀r u v,(f r).1*u+(f r).2.1*v=r.1*(m u v).1+r.2.1*(m u v).2)->GR (rows.map f):=λf m h1 h2 u v hn=>by obtain⟨r,hr,h3⟩:=h _ _ (h1 u v hn);exact⟨f r,xlO.mpr ⟨r,hr,rfl⟩,by rw[h2];exact h3⟩
 refine⟨⟨?_,?_⟩,?_,?_⟩
 .have:=tr (λr=>(- r.1,r.2.1,r.2.2)) (- p.1,p.2.1,p.2.2) (λr=>by simp only[val];grind) rfl (λr hr=>⟨(hb r hr).1.2,(hb r hr).2.2⟩)
   (gm _ (λu v=>(- u,v)) (λu v hn=>by simp only;omega) (λr u v=>by simp only;grind))
  simp only at this;omega
 .exact xd0 h (λr hr=>⟨(hb r hr).1.2,(hb r hr).2.2⟩) hz hp
 .have:=tr (λr=>(- r.2.1,r.1,r.2.2)) (- p.2.1,p.1,p.2.2) (λr=>by simp only[val];grind) rfl (λr hr=>⟨(hb r hr).1.1,(hb r hr).2.2⟩)
   (gm _ (λu v=>(v,- u)) (λu v hn=>by simp only;omega) (λr u v=>by simp only;grind))
  simp only at this;omega
 .exact tr (λr=>(r.2.1,r.1,r.2.2)) (p.2.1,p.1,p.2.2) (λr=>by simp only[val];grind) rfl (λr hr=>⟨(hb r hr).1.1,(hb r hr).2.2⟩)
   (gm _ (λu v=>(v,u)) (λu v hn=>by simp only;omega) (λr u v=>by simp only;grind))
structure IsC (rows:List R3)(p:R3):Prop where
 kept:∀r∈rows,val r p<=0
 two:∃s∈rows,∃t∈rows,val s p=0/\val t p=0/\turn s t≠0
def aB (p q:R3):Prop:=p.1*q.2.2=q.1*p.2.2/\p.2.1*q.2.2=q.2.1*p.2.2
theorem xhA (hn:turn s t≠0)(p1:val s p=0)(p2:val t p=0)(q1:val s q=0)(q2:val t q=0):aB p q:=by
 have e1:turn s t*(p.1*q.2.2-q.1*p.2.2)=(t.2.1*val s p-s.2.1*val t p)*q.2.2-(t.2.1*val s q-s.2.1*val t q)*p.2.2:=by simp only[turn,val];grind
 have e2:turn s t*(p.2.1*q.2.2-q.2.1*p.2.2)=(s.1*val t p-t.1*val s p)*q.2.2-(s.1*val t q-t.1*val s q)*p.2.2:=by simp only[turn,val];grind
 rw[p1,p2,q1,q2] at e1 e2;have e1:turn s t*(p.1*q.2.2-q.1*p.2.2)=0:=by rw[e1];grind
 have e2:turn s t*(p.2.1*q.2.2-q.2.1*p.2.2)=0:=by rw[e2];grind
 have:=(xkz.mp e1).resolve_left hn;have:=(xkz.mp e2).resolve_left hn;exact⟨by omega,by omega⟩
section
variable {rows more:List R3}
structure xdv (rows more:List R3):Prop where
 box:∀ {p:R3},0<p.2.2->(∀r∈more,val r p<=0)->∀s∈xas,val s p<0
 fr:∀r∈rows,s_ r
 sub:∀r∈rows,r∈more
 dir:∀r∈more,r.1≠0\/r.2.1≠0
theorem xa_ (gr:GR rows)(fr:∀r∈rows,s_ r)(sub:∀r∈rows,r∈more)(dir:∀r∈more,r.1≠0\/r.2.1≠0):xdv rows more:=⟨λ {p} hz hp s hs=>by obtain⟨⟨h1,h2⟩,h3,h4⟩:=xhD gr fr hz λr hr=>hp r (sub r hr);simp only[xas,xlI,xlY,xmC] at hs;rcases hs with rfl | rfl | rfl | rfl<;>simp only[val,FAR]<;>omega,fr,sub,dir⟩
theorem xdv.corner (F:xdv rows more)(hv:v∈pieces more):0<v.2.2/\vd v=1/\IsC more v:=by
 have g:=y_ F.dir;have hz:=g.bot v hv;have hk:∀r∈more,val r v<=0:=λr hr=>g.kept v hv r (xlH _ hr);have nb:=F.box hz hk;obtain⟨s,hs,t,ht,a,b,c⟩:=g.two v hv;have in':∀x∈xas++more,val x v=0->x∈more:=λx hx h0=>by
  rcases xlF.mp hx with h | h
  .have:=nb x h;omega
  .exact h
 exact⟨hz,g.prim v hv,hk,s,in' s hs a,t,in' t ht b,a,b,c⟩
theorem xdv.incone (F:xdv rows more)(hz:0<p.2.2)(hp:∀r∈more,val r p<=0):InC (pieces more) p:=by
 have g:=y_ F.dir;refine g.all p hz λs hs=>?_;rcases xlF.mp hs with h | h
 .exact xko (F.box hz hp s h)
 .exact hp s h
theorem val_neg (r p:R3):val (- r.1,- r.2.1,- r.2.2) p = - val r p:=by simp only[val];grind
theorem xdv.found (F:xdv rows more)(hz:0<p.2.2)(hp:IsC more p):∃v∈pieces more,aB v p:=by
 obtain⟨m,hm,c⟩:=F.incone hz hp.kept;obtain⟨s,hs,t,ht,a,b,hn⟩:=hp.two;have g:=y_ F.dir;have kept:∀v∈pieces more,∀r∈more,val r v<=0:=λv hv r hr=>g.kept v hv r (xlH _ hr);have c1:=c.zeros (- s.1,- s.2.1,- s.2.2) (λv hv=>by rw[val_neg];have:=kept v hv s hs;omega) (by rw[val_neg,val_mul,a];simp);have c2:=c1.zeros (- t.1,- t.2.1,- t.2.2) (λv hv=>by rw[val_neg];have:=kept v (xlL.mp hv).1 t ht;omega) (by rw[val_neg,val_mul,b];simp);cases e:((pieces more).filter λv=>val (- s.1,- s.2.1,- s.2.2) v=0).filter (λv=>val (- t.1,- t.2.1,- t.2.2) v=0) with
 | nil =>
  rw[e] at c2;exfalso;rcases c2.bot (λv hv=>by simp at hv) with h | h
  .have:m*p.2.2=0:=xmu (·.2.2) h;have:=pp hm hz;omega
  .have:∀q:R3,Cn [] q->q=(0,0,0):=λq hq=>by
    induction hq with
    | zero=>rfl
    | mem h=>simp at h
    | add _ _ h1 h2=>rw[h1,h2];rfl
   rw[this _ c2] at h;simp at h
 | cons v r =>
  have hv:v∈((pieces more).filter λv=>val (- s.1,- s.2.1,- s.2.2) v=0).filter (λv=>val (- t.1,- t.2.1,- t.2.2) v=0):=by rw[e];exact xlK
  obtain⟨h1,h2⟩:=xlL.mp hv;obtain⟨h3,h4⟩:=xlL.mp h1;have h2:val (- t.1,- t.2.1,- t.2.2) v=0:=by simpa using h2
  have h4:val (- s.1,- s.2.1,- s.2.2) v=0:=by simpa using h4
  rw[val_neg] at h2 h4;exact⟨v,h3,xhA hn (by omega) (by omega) a b⟩
end
end Pol
namespace Pol
def dot (r s:R3):Int:=r.1*s.1+r.2.1*s.2.1
def xaG (sg:Int)(last:Option R3)(x:R3):Bool:=match last with | none=>true | some l=>decide (0<sg*turn l x)
def wJ (r:R3)(sg:Int)(last:Option R3)(x:R3):Option R3 :=if 0<sg*turn r x/\xaG sg last x=true then some x else last
def far (r:R3)(sg:Int)(rs:List R3):Option R3:=rs.foldl (wJ r sg) none
def back (r:R3)(rs:List R3):Bool:=rs.any λx=>decide (turn r x=0)&&decide (dot r x<0)
def uk:List R3->Bool
 | []=>false
 | r::rs=>match far r 1 (r::rs),far r (-1) (r::rs) with
  | some l,some k=>decide (0<turn l k) || back r (r::rs)
  | _,_=>false
theorem xd_ {a b:Int}(h:0<a)(k:a*b<=0):b<=0:=by
 rcases xkt 0 b with z | z
 .have:=pp h z;omega
 .exact z
theorem plk (r l k z:R3):turn r l*turn k z-turn r k*turn l z+turn r z*turn l k=0:=by obtain⟨a,b,_⟩:=r;obtain⟨c,d,_⟩:=l;obtain⟨e,f,_⟩:=k;obtain⟨g,h,_⟩:=z;simp only[turn];grind
theorem xiN (r l z:R3):z.1*turn r l=r.1*turn z l+l.1*turn r z:=by obtain⟨a,b,_⟩:=r;obtain⟨c,d,_⟩:=l;obtain⟨g,h,_⟩:=z;simp only[turn];grind
theorem xh4 (r l z:R3):z.2.1*turn r l=r.2.1*turn z l+l.2.1*turn r z:=by obtain⟨a,b,_⟩:=r;obtain⟨c,d,_⟩:=l;obtain⟨g,h,_⟩:=z;simp only[turn];grind
theorem xgd (r l:R3):turn l r = - turn r l:=by obtain⟨a,b,_⟩:=r;obtain⟨c,d,_⟩:=l;simp only[turn];grind
theorem proj (r x z:R3):dot r r*turn x z=dot r x*turn r z-turn r x*dot r z:=by obtain⟨a,b,_⟩:=r;obtain⟨c,d,_⟩:=x;obtain⟨g,h,_⟩:=z;simp only[turn,dot];grind
theorem sq {a:Int}(h:a≠0):0<a*a:=by
 rcases xkt 0 a with z | z
 .exact pp z z
 .have:0<(-a)*(-a):=pp (by omega) (by omega);rwa [Int.neg_mul_neg] at this
theorem sq0 (a:Int):0<=a*a:=by
 rcases xkt 0 a with z | z
 .exact pz (by omega) (by omega)
 .exact nn z z
theorem bO {r:R3}(h:r.1≠0\/r.2.1≠0):0<dot r r:=by
 unfold dot;have h1:=sq0 r.1;have h2:=sq0 r.2.1;rcases h with h | h
 .have:=sq h;omega
 .have:=sq h;omega
theorem xeQ (h:turn r l≠0)(h1:turn r z=0)(h2:turn l z=0):z.1=0/\z.2.1=0:=by have b1:=xiN r l z;have b2:=xh4 r l z;have a1:=xgd l z;rw[h2] at a1;rw[a1,h1] at b1 b2;simp only[xkI,Int.neg_zero,xj_] at b1 b2;exact⟨(xkz.mp b1).resolve_right h,(xkz.mp b2).resolve_right h⟩
structure bj (r:R3)(s:Int)(rs:List R3)(l:R3):Prop where
 mem:l∈rs
 left:0<s*turn r l
 all:∀x∈rs,0<s*turn r x->s*turn l x<=0
theorem xjN (s:Int)(r l k z:R3):(s*turn r l)*(s*turn k z)=(s*turn r k)*(s*turn l z)-(s*turn r z)*(s*turn l k):=by have:=plk r l k z;grind
def xi4 (r:R3)(s:Int)(done:List R3):Option R3->Prop
 | none=>∀x∈done,s*turn r x<=0
 | some l=>bj r s done l
theorem xaB {r:R3}{s:Int}:∀(rs done:List R3) (o:Option R3),xi4 r s done o->xi4 r s (done++rs) (rs.foldl (wJ r s) o)
 | [],done,o,h=>by simpa using h
 | y::rs,done,o,h=>by
  rw[xk9];have ih:=xaB (r:=r) (s:=s) rs (done++[y]) (wJ r s o y) (by
   unfold wJ;by_cases c:0<s*turn r y/\xaG s o y=true
   .rw[if_pos c];obtain⟨c1,c2⟩:=c;refine⟨by simp,c1,λx hx hp=>?_⟩;rcases xlF.mp hx with hx | hx
    .cases o with
     | none=>exact absurd (show s*turn r x<=0 from h x hx) (by omega)
     | some l =>have h:bj r s done l:=h;have c2:0<s*turn l y:=xmB c2;have hl:s*turn l x<=0:=h.all x hx hp;have e:=xjN s r l y x;have p1:=pn (xko c1) hl;have p2:=pp hp c2;exact xd_ h.left (by rw[e];omega)
    .have:x=y:=by simpa using hx
     subst this;have:turn x x=0:=by unfold turn;grind
     rw[this];simp
   .rw[if_neg c];cases o with
    | none =>
     intro x hx;rcases xlF.mp hx with hx | hx
     .exact h x hx
     .have:x=y:=by simpa using hx
      subst this;have c':¬0<s*turn r x:=λz=>c ⟨z,rfl⟩;omega
    | some l =>
     have h:bj r s done l:=h;refine⟨xlG _ h.mem,h.left,λx hx hp=>?_⟩;rcases xlF.mp hx with hx | hx
     .exact h.all x hx hp
     .have:x=y:=by simpa using hx
      subst this;have c':¬0<s*turn l x:=λz=>c ⟨hp,xmx z⟩;omega)
  rwa [xkW] at ih
theorem oy (h:far r s rs=none):∀x∈rs,s*turn r x<=0:=by have:=xaB (r:=r) (s:=s) rs [] none (λx hx=>by simp at hx);unfold far at h;rw[h] at this;intro x hx;exact this x (by simpa using hx)
theorem kS (h:far r s rs=some l):bj r s rs l:=by have:=xaB (r:=r) (s:=s) rs [] none (λx hx=>by simp at hx);unfold far at h;rw[h,xlV] at this;exact this
theorem xbC (hr:r∈rs)(r0:r.1≠0\/r.2.1≠0)(hl:bj r 1 rs l)(hk:bj r (-1) rs k)(h:0<turn l k\/back r rs=true)(hz:∀x∈rs,turn x z<=0):z.1=0/\z.2.1=0:=by
 have l1:0<turn r l:=by have:=hl.left;omega
 have k1:turn r k<0:=by have:=hk.left;omega
 have zr:=hz r hr;have zl:=hz l hl.mem;have zk:=hz k hk.mem;have e:=plk r l k z;have p1:=pn (xko l1) zk;have p2:=nn (xko k1) zl;have hz0:turn r z=0:=by
  rcases h with h | h
  .have p3:=np zr (xko h);have p4:turn r z*turn l k=0:=by omega
   exact(xkz.mp p4).resolve_right (by omega)
  .unfold back at h;rw[xkV] at h;obtain⟨b,hb,c⟩:=h;simp only[xj5,xmy] at c;have q:=proj r b z;rw[c.1] at q;simp only[xkP,Int.sub_zero] at q;have q1:=pn (xko (bO r0)) (hz b hb);have q2:=nn (xko c.2) zr;have q3:dot r b*turn r z=0:=by omega
   exact(xkz.mp q3).resolve_left (by have:=c.2;omega)
 rw[hz0] at e;simp only[xkP,xj_] at e;have p5:turn r k*turn l z=0:=by omega
 exact xeQ (by omega) hz0 ((xkz.mp p5).resolve_left (by omega))
theorem xcS (r0:∀x∈rs,x.1≠0\/x.2.1≠0)(hr:r∈rs)(hl:bj r 1 rs l)(hk:bj r (-1) rs k)(h:¬0<turn l k)(hb:back r rs=false):∀x∈rs,turn l x<=0:=by
 intro x hx;have l1:0<turn r l:=by have:=hl.left;omega
 have k1:turn r k<0:=by have:=hk.left;omega
 rcases xku (turn r x) 0 with c | c | c
 .have kx:0<=turn k x:=by have:=hk.all x hx (by omega);omega
  have e:=plk r l k x;have p1:=pz (xko l1) kx;have p2:=nn (xko c) (by omega:turn l k<=0);have p3:0<=turn r k*turn l x:=by omega
  rcases xkt 0 (turn l x) with z | z
  .have p4:turn r k*turn l x<0:=xkE k1 z;omega
  .exact z
 .have q:=proj r x l;rw[c] at q;simp only[xkP,Int.sub_zero] at q;have d0:0<=dot r x:=by
   rcases xkt (dot r x) 0 with z | z
   .exfalso;have:back r rs=true:=by unfold back;rw[xkV];exact⟨x,hx,by rw[xmx c,xmx z];rfl⟩
    rw[this] at hb;cases hb
   .exact z
  have q1:=pz d0 (xko l1);have q2:=bO (r0 r hr);have a:=xgd x l;rw[a];have:0<=turn x l:=by
   rcases xkt (turn x l) 0 with z | z
   .have:=xkF q2 z;omega
   .exact z
  omega
 .have:=hl.all x hx (by omega);omega
def RA (rs:List R3):Prop:=∀z∈rs,∀s:Int,(s=1\/s = -1)->∃x∈rs,0<s*turn z x
theorem xg9 (r0:∀x∈rs,x.1≠0\/x.2.1≠0)(h:GR rs):RA rs:=λz hz s hs=>by
 have key:∀x:R3,x.1*(s * -z.2.1)+x.2.1*(s*z.1)=s*turn z x:=λx=>by unfold turn;grind
 obtain⟨x,hx,p⟩:=h (s * -z.2.1) (s*z.1) (by have:=r0 z hz;rcases hs with e | e<;>subst e<;>omega);exact⟨x,hx,by rw[key x] at p;exact p⟩
theorem oS (r0:∀x∈rs,x.1≠0\/x.2.1≠0)(ne:rs≠[])(h:RA rs):uk rs=true:=by
 have no:∀z:R3,z∈rs->∀s:Int,(s=1\/s = -1)->(∀x∈rs,s*turn z x<=0)->False:=λz hz s hs hx=>by obtain⟨x,hxm,p⟩:=h z hz s hs;have:=hx x hxm;omega
 cases rs with
 | nil=>exact absurd rfl ne
 | cons r t =>
  have hr:r∈r::t:=xlK;have e:uk (r::t)=match far r 1 (r::t),far r (-1) (r::t) with
   | some l,some k=>decide (0<turn l k) || back r (r::t)
   | _,_=>false:=rfl
  rw[e];cases e1:far r 1 (r::t) with
  | none=>exact(no r hr 1 (.inl rfl) (oy e1)).elim
  | some l =>
   cases e2:far r (-1) (r::t) with
   | none=>exact(no r hr (-1) (.inr rfl) (oy e2)).elim
   | some k =>
    show(decide (0<turn l k) || back r (r::t))=true;have hl:=kS e1;have hk:=kS e2;rcases Classical.em ((decide (0<turn l k) || back r (r::t))=true) with q | q
    .exact q
    .exfalso;simp only[Bool.or_eq_true,xmy,not_or,Bool.not_eq_true] at q;exact no l hl.mem 1 (.inl rfl) (λx hx=>by have:=xcS r0 hr hl hk q.1 q.2 x hx;omega)
theorem hJ (r0:∀x∈rs,x.1≠0\/x.2.1≠0)(h:uk rs=true):GR rs:=by
 cases rs with
 | nil=>cases h
 | cons r t =>
  have hr:r∈r::t:=xlK;have e:uk (r::t)=match far r 1 (r::t),far r (-1) (r::t) with
   | some l,some k=>decide (0<turn l k) || back r (r::t)
   | _,_=>false:=rfl
  rw[e] at h;cases e1:far r 1 (r::t) with
  | none=>rw[e1] at h;cases h
  | some l =>
   cases e2:far r (-1) (r::t) with
   | none=>rw[e1,e2] at h;cases h
   | some k =>
    rw[e1,e2] at h;have c:(decide (0<turn l k) || back r (r::t))=true:=h;have hl:=kS e1;have hk:=kS e2;have c':0<turn l k\/back r (r::t)=true:=by simpa using c
    intro u v uv;rcases Classical.em (∃x∈r::t,0<x.1*u+x.2.1*v) with q | q
    .exact q
    .exfalso;have key:∀x:R3,turn x (-v,u,0)=x.1*u+x.2.1*v:=λx=>by simp only[turn];grind
     have z:=xbC hr (r0 r hr) hl hk c' (z:=(-v,u,0)) (λx hx=>by
      rw[key x];rcases xkt 0 (x.1*u+x.2.1*v) with w | w
      .exact absurd ⟨x,hx,w⟩ q
      .exact w)
     simp only at z;omega
theorem xgY (h:GR rs):rs≠[]:=λe=>by obtain⟨r,hr,_⟩:=h 1 0 (.inl (by decide));rw[e] at hr;simp at hr
theorem xcb (r0:∀x∈rs,x.1≠0\/x.2.1≠0):uk rs=true↔GR rs:=⟨hJ r0,λh=>oS r0 (xgY h) (xg9 r0 h)⟩
end Pol
namespace Pol
theorem pR (r:R3)(acc:List R3)(p:R3×R3):(yw r acc p).length<=acc.length+(seg r p).length:=by
 unfold yw seg;by_cases c:val r p.1*val r p.2<0
 .by_cases m:xB r p.1 p.2∈acc
  .simp only[if_pos c,if_pos m];split<;>simp<;>omega
  .simp only[if_pos c,if_neg m];split<;>simp<;>omega
 .simp only[if_neg c];split<;>simp
theorem oi (r:R3):∀(ps:List (R3×R3)) (acc:List R3),(ps.foldl (yw r) acc).length<=acc.length+(ps.flatMap (seg r)).length
 | [],acc=>by simp
 | p::ps,acc=>by rw[xk9,List.flatMap_cons,xll];have:=oi r ps (yw r acc p);have:=pR r acc p;omega
theorem xaR (r p q:R3):(bef r p q).length<=1:=by unfold bef;split<;>simp
theorem xdI (h:Ccw l)(r:R3):(cR r l).length<=l.length+2:=by
 obtain⟨a,b,P,Q,e1,e2,hP,hQ⟩:=h.parts r;obtain⟨c,d,f1,f2⟩:=oE r a b;have el:(cR r l).length=(cR r (P++Q)).length:=by rw[e1,f1,<-e2,f2,xll,xll];omega
 have ll:l.length=(P++Q).length:=by rw[e1,<-e2,xll,xll];omega
 rw[el,ll];cases P with
 | nil =>rw[xlV,qT hQ];omega
 | cons p P =>
  cases Q with
  | nil=>rw[xkX,qZ hP];simp
  | cons q Q =>rw[aY hP hQ];simp only[xll,xlm];have:=xaR r p (xr q Q);have:=xaR r (xr p P) q;omega
theorem xe1 (h:Ccw l)(r:R3):(yT l r).length<=l.length+2:=by
 have:=oi r (cyc l) [];have:=xdI h r;unfold yT cR at *
 simp at *
 omega
theorem fq:∀(rows Ls l:List R3),Good Ls l->(∀s∈Ls,s.1≠0\/s.2.1≠0)->(∀s∈rows,s.1≠0\/s.2.1≠0)->(rows.foldl yT l).length<=l.length+2*rows.length
 | [],Ls,l,_,_,_=>by simp
 | r::rows,Ls,l,g,d,d'=>by
  rw[xk9];have h1:=xe1 g.ccw r;have dr:=d' r xlK;have h2:=fq rows (Ls++[r]) (yT l r) (oT g d) (λs hs=>by
   rcases xlF.mp hs with h | h
   .exact d s h
   .rw[xlU.mp h];exact dr) (λs hs=>d' s (xlJ _ hs))
  rw[xlm];omega
theorem fc (d:∀s∈rows,s.1≠0\/s.2.1≠0):(pieces rows).length<=4+2*rows.length:=fq rows xas box ox (by decide) d
theorem bE (p:R3):∀l:List R3,(chain p l).length=l.length
 | []=>rfl
 | x::l=>by show(chain x l).length+1=_;rw[bE x l];rfl
theorem xe_:∀l:List R3,(cyc l).length=l.length
 | []=>rfl
 | x::l=>bE _ _
theorem oU (p:R3):∀(l:List R3) (i:Nat) (v:R3),l[i]? = some v->∃u,(p::l)[i]? = some u/\(chain p l)[i]? = some (u,v)
 | [],i,v,h=>by simp at h
 | x::l,0,v,h=>by simp at h;subst h;exact⟨p,rfl,rfl⟩
 | x::l,i+1,v,h=>by
  have h':l[i]? = some v:=by simpa using h
  obtain⟨u,e1,e2⟩:=oU x l i v h';exact⟨u,by simpa using e1,by show(chain x l)[i]? = _;exact e2⟩
theorem xhG (h:l[i]? = some v):∃u,u∈l/\(cyc l)[i]? = some (u,v)/\((i=0/\∃ys,l=ys++[u])\/(0<i/\l[i-1]? = some u)):=by
 cases l with
 | nil=>simp at h
 | cons x l =>
  obtain⟨u,e1,e2⟩:=oU (xr x l) (x::l) i v h;cases i with
  | zero =>
   have:xr x l=u:=by simpa using e1
   subst this;obtain⟨ys,e⟩:=dJ x l;exact⟨_,yz x l,e2,.inl ⟨rfl,ys,e⟩⟩
  | succ i =>
   have e1:(x::l)[i]? = some u:=by simpa using e1
   exact⟨u,xlQ e1,e2,.inr ⟨by omega,by simpa using e1⟩⟩
theorem kK {α β:Type}(f:β->α->β)(b:β){l:List α}{i:Nat}{x:α}(h:l[i]? = some x):(l.take (i+1)).foldl f b=f ((l.take i).foldl f b) x:=by have hi:=(xle.mp h).1;rw[xl_,h,xk8];rfl
end Pol
namespace Pol
def Ah (p q:R3):Prop:=p.1*q.2.2<q.1*p.2.2\/p.1*q.2.2=q.1*p.2.2/\p.2.1*q.2.2<q.2.1*p.2.2
theorem mf {a x b y c z:Int}(hx:0<x)(hy:0<y)(hz:0<z)(h1:a*y<b*x)(h2:b*z<=c*y):a*z<c*x:=by
 have e1:a*y*z<b*x*z:=xkC h1 hz;have e2:b*z*x<=c*y*x:=xkB h2 (by omega);have:a*z*y<c*x*y:=by
  have e3:a*z*y=a*y*z:=by grind
  have e4:c*x*y=c*y*x:=by grind
  have e5:b*x*z=b*z*x:=by grind
  omega
 exact xks this (by omega)
theorem xcO {a x b y c z:Int}(hx:0<x)(hy:0<y)(hz:0<z)(h1:a*y<=b*x)(h2:b*z<c*y):a*z<c*x:=by
 have e1:a*y*z<=b*x*z:=xkB h1 (by omega);have e2:b*z*x<c*y*x:=xkC h2 hx;have:a*z*y<c*x*y:=by
  have e3:a*z*y=a*y*z:=by grind
  have e4:c*x*y=c*y*x:=by grind
  have e5:b*x*z=b*z*x:=by grind
  omega
 exact xks this (by omega)
theorem xdW {a x b y c z:Int}(hy:0<y)(h1:a*y=b*x)(h2:b*z=c*y):a*z=c*x:=by
 have:a*z*y=c*x*y:=by grind
 exact xkh (by omega) this
theorem Ah.irrefl (p:R3):¬Ah p p:=by rintro(h | h)<;>omega
theorem Ah.trans {p q w:R3}(hp:0<p.2.2)(hq:0<q.2.2)(hw:0<w.2.2)(h1:Ah p q)(h2:Ah q w):Ah p w:=by
 rcases h1 with a | ⟨a,b⟩
 .rcases h2 with c | ⟨c,d⟩
  .exact .inl (mf hp hq hw a (by omega))
  .exact .inl (mf hp hq hw a (by omega))
 .rcases h2 with c | ⟨c,d⟩
  .exact .inl (xcO hp hq hw (by omega) c)
  .exact .inr ⟨xdW hq a c,mf hp hq hw b (by omega)⟩
theorem Ah.total (h1:¬Ah p q)(h2:¬Ah q p):aB p q:=by unfold Ah at h1 h2;unfold aB;omega
def jY (l:List R3):Prop:=∀h t,l=h::t->∀v∈l,¬Ah v h
theorem pQ (h:Ccw l)(ha:l[k]? = some a)(hb:l[k+1]? = some b):(∀w∈l,0<=det a b w)/\∀j c,k+1<j->l[j]? = some c->det a c b<0:=by
 have hk:=(xle.mp hb).1;have hk0:k<l.length:=by omega
 have ea:l[k]=a:=by rw[xlc hk0] at ha;exact xmt ha
 have eb:l[k+1]=b:=by rw[xlc hk] at hb;exact xmt hb
 have sp:l=l.take k++a::b::l.drop (k+2):=by rw[<-ea,<-eb,<-xkZ hk,<-xkZ hk0,xl7]
 constructor
 .intro w hw;refine h.edge ?_ hw;cases l with
  | nil=>simp at hk
  | cons x t =>
   cases k with
   | zero =>have:chain (xr x t) (x::t)=(xr x t,x)::chain x t:=rfl;show(a,b)∈chain (xr x t) (x::t);rw[this];refine xlJ _ (dw (s:=[]) (t:=(x::t).drop 2) ?_);simpa using sp
   | succ k =>
    have e:t=(x::t).tail:=rfl;show(a,b)∈chain (xr x t) (x::t);exact dw (s:=xr x t::(x::t).take (k+1)) (t:=(x::t).drop (k+1+2)) (by rw[xkY];exact xmu (List.cons _) sp)
 .intro j c hj hc;have s:List.Sublist [a,b,c] l:=by
   rw[sp];refine xkR ?_ (xl6 _ _);refine List.Sublist.cons₂ _ (List.Sublist.cons₂ _ (xl3.mpr ?_));have:(l.drop (k+2))[j-(k+2)]? = some c:=by rw[List.getElem?_drop,<-hc];congr 1;omega
   exact xlQ this
  have:=h.tri a b c s;have e:=fQ a b c;omega
theorem xab:∀ {l k:List α},l.Nodup->k.Nodup->(∀x,x∈l↔x∈k)->l.length=k.length:=λ {l k} h1 h2 h=>((List.perm_ext_iff_of_nodup h1 h2).mpr h).length_eq
def ua (s t:R3):R3:=if turn s t<0 then(-(s.2.2*t.2.1-s.2.1*t.2.2),-(s.1*t.2.2-s.2.2*t.1),-turn s t) else(s.2.2*t.2.1-s.2.1*t.2.2,s.1*t.2.2-s.2.2*t.1,turn s t)
theorem gz (h:turn s t≠0):0<(ua s t).2.2/\val s (ua s t)=0/\val t (ua s t)=0:=by
 unfold ua;split
 .refine⟨by simp only;omega,?_,?_⟩<;>simp only[val,turn]<;>grind
 .refine⟨by simp only;omega,?_,?_⟩<;>simp only[val,turn]<;>grind
end Pol
namespace L2
open PySem PySem.Spec PyProof.Rows
def Bk (k:Nat)(i:Int):Prop:=i.natAbs<2 ^ k
theorem Bk.mono (h:Bk k i)(hk:k<=m):Bk m i:=xmi h (Nat.pow_le_pow_right (by decide) hk)
theorem Bk.mul (h:Bk k i)(h':Bk m j):Bk (k+m) (i*j):=by
 unfold Bk at *
 rw[xkJ,Nat.pow_add];exact Nat.mul_lt_mul'' h h'
theorem Bk.add {k:Nat}{i j:Int}(h:Bk k i)(h':Bk k j):Bk (k+1) (i+j):=by
 unfold Bk at *
 rw[Nat.pow_succ];have:=Int.natAbs_add_le i j;omega
theorem Bk.neg (h:Bk k i):Bk k (-i):=by unfold Bk at *;rw[Int.natAbs_neg];exact h
theorem Bk.sub (h:Bk k i)(h':Bk k j):Bk (k+1) (i-j):=by rw[Int.sub_eq_add_neg];exact h.add h'.neg
theorem Bk.bd (h:Bk k i)(hk:k<=2000:=by decide):Bd i:=h.mono hk
theorem Bk.abs (h:Bk k i):Bk k (if i<0 then -i else i):=by split;exact h.neg;exact h
theorem Bk.le (h:Bk k i)(hl:j.natAbs<=i.natAbs):Bk k j:=xmh hl h
def B3k (k:Nat)(r:Pol.R3):Prop:=(Bk k r.1/\Bk k r.2.1)/\Bk k r.2.2
theorem B3k.mono (h:B3k k r)(hk:k<=m):B3k m r:=⟨⟨h.1.1.mono hk,h.1.2.mono hk⟩,h.2.mono hk⟩
def B3 (r:Pol.R3):Prop:=(Bd r.1/\Bd r.2.1)/\Bd r.2.2
theorem B3k.b3 (h:B3k k r)(hk:k<=2000:=by decide):B3 r:=h.mono hk
theorem B3k.val (h:B3k k r)(h':B3k m p):Bk (k+m+2) (Pol.val r p) :=((h.1.1.mul h'.1.1).add (h.1.2.mul h'.1.2)).sub ((h.2.mul h'.2).mono (xme _))
def xge:Tr->Bool
 | .int _=>true
 | _=>false
def frT (n d:Int):Tr:=.tup [.int n,.int d]
def bV (t b:Int):Int:=t / (Int.gcd t b:Int)
def aM (t b:Int):Int:=b / (Int.gcd t b:Int)
def trR (r:Pol.R3):Tr:=.tup [.int r.1,.int r.2.1,.int r.2.2]
def yO (v:Pol.R3):Tr:=.tup [frT (bV v.1 v.2.2) (aM v.1 v.2.2),frT (bV v.2.1 v.2.2) (aM v.2.1 v.2.2)]
theorem xbP (p:Pol.R3):pln (trR p)=true:=rfl
theorem xfg (p:Pol.R3):dep (trR p)=1:=rfl
theorem xbg (p q:Pol.R3):teq (trR p) (trR q)=decide (p=q):=by
 have e:teq (trR p) (trR q)=(decide (p.1=q.1)&&(decide (p.2.1=q.2.1)&&(decide (p.2.2=q.2.2)&&true))):=rfl;rw[e];by_cases h:p=q
 .subst h;simp
 .rw[xmw h];by_cases h1:p.1=q.1
  .by_cases h2:p.2.1=q.2.1
   .by_cases h3:p.2.2=q.2.2
    .exact absurd (Pol.ext3 h1 h2 h3) h
    .simp[h3]
   .simp[h2]
  .simp[h1]
theorem zf (f:α->Tr)(h:∀x,pln (f x)=true):∀l:List α,PyData.canLayAll0 (uP (l.map f))=true
 | []=>rfl
 | x::l=>by show((qf (f x)).canLay0&&PyData.canLayAll0 (uP (l.map f)))=true;rw[zf f h l,show(qf (f x)).canLay0=true from h x];rfl
theorem xb7 (l:List Pol.R3)(c:Pol.R3):((l.map trR).any λu=>teq u (trR c))=decide (c∈l):=by
 rw[xj6,xkV,xmy];constructor
 .rintro⟨u,hu,h⟩;obtain⟨x,hx,rfl⟩:=xlO.mp hu;rw[xbg,xmy] at h;subst h;exact hx
 .intro h;exact⟨trR c,xlP h,by rw[xbg];simp⟩
theorem xdk (hx:0<=x)(hy:0<=y):Int.gcd y (x % y)=Int.gcd x y:=by obtain⟨n,rfl⟩:=xkg hy;obtain⟨m,rfl⟩:=xkg hx;show Nat.gcd n (((m % n:Nat):Int)).natAbs=Nat.gcd m n;rw[Int.natAbs_natCast,Nat.gcd_comm m n,Nat.gcd_rec n m,Nat.gcd_comm]
theorem xbE (hb:b≠0)(h:Bd b):Bd (Int.gcd t b:Int):=by unfold Bd;refine xmh ?_ h;have:=Int.gcd_le_natAbs_right (a:=t) hb;omega
def xbx:TSp:=λts KK=>∃t,ts=[t]/\KK (.bl (xge t))
def sO:TSp:=λts KK=>∃t,ts=[t]/\∃us,(t=.tup us\/t=.lst us)/\us.length<sizeLine/\KK (.bl (us.all xge))
def xe5:TSp:=λts KK=>∃a b:Int,ts=[.int a,.int b]/\KK (.int (Int.gcd a b))
def xgf:TSp:=λts KK=>∃t b:Int,ts=[.int t,.int b]/\b≠0/\Bd b/\KK (frT (bV t b) (aM t b))
def cJ:TSp:=λts KK=>∃r p:Pol.R3,ts=[trR r,trR p]/\B3 r/\B3 p/\KK (.int (Pol.val r p))
def o8:TSp:=λts KK=>∃r u v:Pol.R3,ts=[trR r,trR u,trR v]/\(B3k 100 r/\B3k 800 u/\B3k 800 v)/\(0<u.2.2/\0<v.2.2)/\Pol.val r u*Pol.val r v<0/\KK (trR (Pol.xB r u v))
def ahead (p q:Pol.R3):Bool:=decide (p.1*q.2.2<q.1*p.2.2\/p.1*q.2.2=q.1*p.2.2/\p.2.1*q.2.2<q.2.1*p.2.2)
def xee:TSp:=λts KK=>∃p q:Pol.R3,ts=[trR p,trR q]/\B3 p/\B3 q/\KK (.bl (ahead p q))
def d_:TSp:=λts KK=>∃(l:List Pol.R3) (r:Pol.R3),ts=[.lst (l.map trR),trR r]/\B3k 100 r/\(∀v∈l,B3k 800 v/\0<v.2.2)/\l.length<=100000/\KK (.lst ((Pol.yT l r).map trR))
def yn (l:List Pol.R3)(s i:Nat):Nat:=if ahead (l.getD i (0,0,0)) (l.getD s (0,0,0))=true then i else s
def qz (l:List Pol.R3):Nat:=(List.range l.length).foldl (yn l) 0
def yr (l:List Pol.R3):List Pol.R3:=l.drop (qz l)++l.take (qz l)
def rg:TSp:=λts KK=>∃l:List Pol.R3,ts=[.lst (l.map trR)]/\(∀v∈l,B3 v)/\l.length<=100000/\KK (.lst ((yr l).map trR))
structure qK (rows:List Pol.R3):Prop where
 dir:∀r∈rows,r.1≠0\/r.2.1≠0
 sm:∀r∈rows,B3k 100 r
 len:rows.length<=10000
def ot:TSp:=λts KK=>∃(t:Tr) (r0 rows:List Pol.R3),ts=[.lst ((Pol.pieces r0).map trR),t]/\(t=.tup (rows.map trR)\/t=.lst (rows.map trR))/\qK (r0++rows)/\KK (.lst ((Pol.pieces (r0++rows)).map trR))
def aW:TSp:=λts KK=>∃(t:Tr) (rows:List Pol.R3),ts=[t]/\(t=.tup (rows.map trR)\/t=.lst (rows.map trR))/\qK rows/\KK (.lst ((Pol.pieces rows).map trR))
def nP:TSp:=λts KK=>∃l:List Pol.R3,ts=[.lst (l.map trR)]/\(∀v∈l,B3k 800 v/\0<v.2.2)/\l.length<=100000/\KK (.lst ((yr l).map yO))
def vx:TSp:=λts KK=>∃(t:Tr) (rows:List Pol.R3),ts=[t]/\(t=.tup (rows.map trR)\/t=.lst (rows.map trR))/\qK rows/\KK (.lst ((yr (Pol.pieces rows)).map yO))
def fL:Tr->Option Pol.R3
 | .tup [.int a,.int b,.int c]=>some (a,b,c)
 | _=>none
def bK (t:Tr):Bool:=match fL t with | some r=>decide (r.1≠0\/r.2.1≠0) | none=>false
def xeE:TSp:=λts KK=>∃t,ts=[t]/\KK (.bl (bK t))
def tz:TSp:=λts KK=>∃(a b c d:Int) (x y:List Tr),ts=[.tup (.int a::.int b::x),.tup (.int c::.int d::y)]/\((Bd a/\Bd b)/\Bd c/\Bd d)/\KK (.int (a*d-b*c))
def xie:Option Pol.R3->Tr
 | some r=>trR r
 | none=>.non
def nj:TSp:=λts KK=>∃(r:Pol.R3) (rows:List Pol.R3) (s:Int),ts=[trR r,.tup (rows.map trR),.int s]/\(s=1\/s = -1)/\B3k 900 r/\(∀x∈rows,B3k 900 x)/\KK (xie (Pol.far r s rows))
def xgL:TSp:=λts KK=>∃(r:Pol.R3) (rows:List Pol.R3),ts=[trR r,.tup (rows.map trR)]/\B3k 900 r/\(∀x∈rows,B3k 900 x)/\KK (.bl (Pol.back r rows))
def oq:TSp:=λts KK=>∃rows:List Pol.R3,ts=[.tup (rows.map trR)]/\(∀x∈rows,B3k 900 x)/\KK (.bl (Pol.uk rows))
instance (r:Pol.R3):Decidable (Pol.s_ r):=by unfold Pol.s_;infer_instance
def zp (t:Tr):Bool:=match fL t with | some r=>decide ((r.1≠0\/r.2.1≠0)/\Pol.s_ r) | none=>false
def sY:TSp:=λts KK=>∃t,ts=[t]/\KK (.bl (zp t))
def nearF (n d:Int):Bool:=decide (-(12*d)<=n/\n<=12*d)
def xau:TSp:=λts KK=>∃fs:List (Int×Int),ts=[.tup (fs.map λf=>frT f.1 f.2)]/\fs.length<=1000/\(∀f∈fs,Bd f.2)/\KK (.bl (fs.all λf=>nearF f.1 f.2))
def az (v:Pol.R3):Bool:=nearF (bV v.1 v.2.2) (aM v.1 v.2.2)&&nearF (bV v.2.1 v.2.2) (aM v.2.1 v.2.2)
def rowsOf:List Tr->Option (List Pol.R3)
 | []=>some []
 | t::ts=>match fL t,rowsOf ts with | some r,some rs=>some (r::rs) | _,_=>none
def xg (rows:List Pol.R3):Bool:=decide (3<=rows.length/\rows.length<=8)&&(rows.all λr=>decide ((r.1≠0\/r.2.1≠0)/\Pol.s_ r))&&Pol.uk rows&&(Pol.pieces rows).all az
def isField:Tr->Bool
 | .tup us=>match rowsOf us with | some rows=>xg rows | none=>false
 | _=>false
def pW:TSp:=λts KK=>∃t,ts=[t]/\KK (.bl (isField t))
end L2
namespace L2
open PySem PySem.Spec PyProof.Rows
theorem me (ts:List α)(s:Nat):gU ts (some (s:Int)) none=ts.drop s:=by
 unfold gU;rw[HT.tR,HT.oB];by_cases h:s<=ts.length
 .rw[xml h,xl9 (by rw[xln];omega)]
 .rw[Nat.min_eq_right (by omega),List.drop_eq_nil_of_le (xmd _),List.drop_eq_nil_of_le (by omega)];simp
theorem xca (ts:List α)(s:Nat):gU ts none (some (s:Int))=ts.take s:=by
 unfold gU;rw[HT.tR,HT.oB,xk0,xmr];by_cases h:s<=ts.length
 .rw[xml h]
 .rw[Nat.min_eq_right (by omega),xl9 (xmd _),xl9 (by omega)]
theorem rS {α:Type}{f:α->Tr}{l:List α}{i:Nat}{x:Tr}(h:(qP (l.map f))[i]? = some x):∃v,l[i]? = some v/\x=.tup [.int i,f v]:=by
 have hi:i<l.length:=by have:=(xle.mp h).1;unfold qP at this;rw[u6,xlq] at this;exact this
 have e:(l.map f)[i]? = some (f l[i]):=by rw[xlf,xlc hi];rfl
 unfold qP at h;rw[j7 e] at h;refine⟨l[i],xlc hi,?_⟩;have:=xmt h;rw[<-this];simp
theorem jW (f:α->Tr)(l:List α):(qP (l.map f)).length=l.length:=by unfold qP;rw[u6,xlq]
theorem lg {l:List Pol.R3}{i:Nat}{v:Pol.R3}(h:l[i]? = some v):∃u,u∈l/\(Pol.cyc l)[i]? = some (u,v)/\atT (l.map trR) ((i:Int)-1)=some (trR u):=by
 obtain⟨u,hu,hc,hw⟩:=Pol.xhG h;refine⟨u,hu,hc,?_⟩;rcases hw with ⟨rfl,ys,e⟩ | ⟨h0,e⟩
 .rw[e,xlA];exact mB (ys.map trR) (trR u)
 .rw[show((i:Int)-1)=((i-1:Nat):Int) by omega,dX,xlf,e];rfl
theorem lr (g:Pol.Good Ls l)(hs:∀s∈Ls,B3k k s):∀v∈l,B3k (2*k+1) v:=λv hv=>by obtain⟨s,hs1,t,ht1,e1,e2,hn⟩:=g.two v hv;have z:=g.bot v hv;obtain⟨b1,b2,b3⟩:=Pol.qW (g.prim v hv) z e1 e2 hn;have S:=hs s hs1;have T:=hs t ht1;have m:∀ {x y z w:Int},Bk k x->Bk k y->Bk k z->Bk k w->Bk (2*k+1) (x*y-z*w):=λh1 h2 h3 h4=>((h1.mul h2).sub (h3.mul h4)).mono (by omega);refine⟨⟨(m S.2 T.1.2 T.2 S.1.2).le b2,(m T.2 S.1.1 S.2 T.1.1).le b3⟩,?_⟩;have:=m S.1.1 T.1.2 S.1.2 T.1.1;refine this.le ?_;unfold Pol.turn at b1;omega
theorem xcj:∀s∈Pol.xas,B3k 100 s:=λs hs=>by have h:s∈Pol.xas:=hs;simp only[Pol.xas,xlI,xlY,xmC] at h;unfold B3k Bk;rcases h with rfl | rfl | rfl | rfl<;>simp only[Pol.FAR]<;>decide
theorem qK.good (h:qK rows)(i:Nat):Pol.Good (Pol.xas++rows.take i) ((rows.take i).foldl Pol.yT Pol.box):=Pol.y_ (rows:=rows.take i) λs hs=>h.dir s (xlR hs)
theorem qK.small (h:qK rows)(i:Nat):∀v∈(rows.take i).foldl Pol.yT Pol.box,B3k 800 v/\0<v.2.2:=λv hv=>by
 have g:=h.good i;refine⟨(lr g (k:=100) (λs hs=>?_) v hv).mono (by decide),g.bot v hv⟩;rcases xlF.mp hs with z | z
 .exact xcj s z
 .exact h.sm s (xlR z)
theorem qK.plen (h:qK rows)(i:Nat):((rows.take i).foldl Pol.yT Pol.box).length<=100000:=by
 have:=Pol.fc (rows:=rows.take i) λs hs=>h.dir s (xlR hs);unfold Pol.pieces at this;have l:(rows.take i).length<=rows.length:=by rw[xly];omega
 have:=h.len;omega
theorem zN (h:v∈yr l):v∈l:=by
 unfold yr at h;rcases xlF.mp h with h | h
 .exact List.mem_of_mem_drop h
 .exact xlR h
theorem tH (p:Pol.R3->Bool)(l:List Pol.R3):(yr l).all p=l.all p:=by unfold yr;rw[List.all_append,Bool.and_comm,<-List.all_append,xl7]
theorem uS (l:List Pol.R3):(yr l).length=l.length:=by unfold yr;rw[xll,xln,xly];omega
theorem xgP (a b c d:Int):HT.lexLt [a,b] [c,d]=decide (a<c\/a=c/\b<d):=by
 simp only[HT.lexLt];by_cases h:a<c
 .simp[h];omega
 .by_cases h2:a=c
  .subst h2;simp;omega
  .simp[h,h2]
theorem xcv {α:Type}{l:List α}{n:Nat}(e:l.length=n)(h:n<=1000000:=by decide):l.length<sizeLine:=sqz (by omega)
theorem xe9 (hz:0<z)(h:Bd z):Bd (aM i z):=by
 unfold aM;have g:(0:Int)<(Int.gcd i z:Int):=by have:=xkn i (show z≠0 by omega);omega
 have h1:=Int.ediv_le_self (Int.gcd i z:Int) (show 0<=z by omega);have h2:=Int.ediv_nonneg (show 0<=z by omega) (show 0<=(Int.gcd i z:Int) by omega);unfold Bd at *
 omega
theorem kN (h:fL t=some r):t=trR r:=by
 unfold fL at h;split at h
 .cases h;rfl
 .cases h
theorem hX (rows:List Pol.R3):rowsOf (rows.map trR)=some rows:=by
 induction rows with
 | nil=>rfl
 | cons r rows ih =>show(match fL (trR r),rowsOf (rows.map trR) with | some r,some rs=>some (r::rs) | _,_=>none)=_;rw[ih];rfl
theorem qj:∀ {us:List Tr} {rows:List Pol.R3},rowsOf us=some rows->us=rows.map trR
 | [],rows,h=>by cases h;rfl
 | t::us,rows,h=>by
  unfold rowsOf at h;cases e1:fL t with
  | none=>rw[e1] at h;cases h
  | some r =>
   cases e2:rowsOf us with
   | none=>rw[e1,e2] at h;cases h
   | some rs =>rw[e1,e2] at h;cases h;rw[kN e1,qj e2];rfl
theorem cN (h:us.all zp=true):∃rows:List Pol.R3,us=rows.map trR/\∀r∈rows,(r.1≠0\/r.2.1≠0)/\Pol.s_ r:=by
 induction us with
 | nil=>exact⟨[],rfl,λr hr=>by simp at hr⟩
 | cons t us ih =>
  rw[List.all_cons,xj5] at h;obtain⟨rows,e,hr⟩:=ih h.2;have ht:=h.1;unfold zp at ht;cases e1:fL t with
  | none=>rw[e1] at ht;cases ht
  | some r =>
   rw[e1] at ht;have ht:=xmB ht;refine⟨r::rows,by rw[kN e1,e];rfl,λx hx=>?_⟩;rcases xlI.mp hx with z | z
   .rw[z];exact ht
   .exact hr x z
theorem kP (h:Pol.s_ r):B3k 100 r:=by obtain⟨⟨⟨a,b⟩,c,d⟩,e,f⟩:=h;refine⟨⟨?_,?_⟩,?_⟩<;>unfold Bk<;>omega
theorem ax (rows:List Pol.R3):(rows.map trR).all zp=rows.all λr=>decide ((r.1≠0\/r.2.1≠0)/\Pol.s_ r):=by rw[xkT];rfl
theorem lT (h:us.all zp=false):isField (.tup us)=false:=by
 show(match rowsOf us with | some rows=>xg rows | none=>false)=false;cases e:rowsOf us with
 | none=>rfl
 | some rows =>rw[qj e,ax] at h;show xg rows=false;unfold xg;rw[h];simp
end L2
namespace Fra
def gd (a b:Int):Int:=(Int.gcd a b:Int)
def low (n d:Int):Int×Int:=(n / gd n d,d / gd n d)
theorem bW (a b:Int):0<=gd a b:=Int.natCast_nonneg _
theorem vF (h:a≠0\/b≠0):0<gd a b:=by
 unfold gd;have:0<Int.gcd a b:=by
  rcases h with h | h
  .exact Int.gcd_pos_of_ne_zero_left _ h
  .exact xkn _ h
 omega
theorem af (a b:Int):gd a b ∣ a:=xkk ..
theorem jV (a b:Int):gd a b ∣ b:=xkl ..
theorem xfS (a:Int):gd a 0=if a<0 then -a else a:=by unfold gd;rw[Int.gcd_zero_right];split<;>omega
theorem xdN (h:∀k:Int,(k ∣ a/\k ∣ b)↔(k ∣ c/\k ∣ d)):gd a b=gd c d:=by have e1:gd a b ∣ gd c d:=xka ((h _).mp ⟨af a b,jV a b⟩).1 ((h _).mp ⟨af a b,jV a b⟩).2;have e2:gd c d ∣ gd a b:=xka ((h _).mpr ⟨af c d,jV c d⟩).1 ((h _).mpr ⟨af c d,jV c d⟩).2;exact Int.dvd_antisymm (bW _ _) (bW _ _) e1 e2
theorem xfy (a b q:Int):gd b (a-b*q)=gd a b:=by
 refine xdN λk=>⟨λ⟨h1,h2⟩=>⟨?_,h1⟩,λ⟨h1,h2⟩=>⟨h2,?_⟩⟩
 .have:=Int.dvd_add h2 (Int.dvd_mul_of_dvd_left (c:=q) h1);rwa [Int.sub_add_cancel] at this
 .exact Int.dvd_sub h1 (Int.dvd_mul_of_dvd_left h2)
theorem xf_ (a b:Int):gd b (a.fmod b)=gd a b:=by rw[Int.fmod_def];exact xfy a b _
theorem lV {a b:Int}(h:b≠0):(a.fmod b).natAbs<b.natAbs:=by
 by_cases hb:0<b
 .have h1:=xkj a hb;have h2:=Int.fmod_lt_of_pos a hb;omega
 .have hn:0 < -b:=by omega
  have e:a.fmod b = - ((-a).fmod (-b)):=by rw[Int.neg_fmod_neg];omega
  have h1:=xkj (-a) hn;have h2:=Int.fmod_lt_of_pos (-a) hn;omega
theorem xa0 (n d:Int):(low n d).1*gd n d=n:=Int.ediv_mul_cancel (af n d)
theorem cp (n d:Int):(low n d).2*gd n d=d:=Int.ediv_mul_cancel (jV n d)
theorem vc (n d:Int):(low n d).1*d=n*(low n d).2:=by have h1:=xa0 n d;have h2:=cp n d;grind
theorem ud (h:0<d):0<(low n d).2:=by
 have h2:=cp n d;have g:=vF (a:=n) (b:=d) (.inr (by omega));generalize gd n d=k at *
 generalize (low n d).2=m at *
 by_cases hm:0<m
 .exact hm
 .have:m*k<=0:=Int.mul_nonpos_of_nonpos_of_nonneg (by omega) (by omega);omega
theorem tY (h:0<d):Int.gcd (low n d).1 (low n d).2=1:=by
 have g:=vF (a:=n) (b:=d) (.inr (by omega));unfold low gd at *
 exact Int.gcd_ediv_gcd_ediv_gcd (by omega)
theorem xb9 (h:b ∣ a*d)(g:Int.gcd b a=1):b ∣ d:=by
 have h':b.natAbs ∣ a.natAbs*d.natAbs:=by rw[<-xkJ];exact Int.natAbs_dvd_natAbs.mpr h
 exact Int.natAbs_dvd_natAbs.mp (Nat.Coprime.dvd_of_dvd_mul_left (show Nat.Coprime b.natAbs a.natAbs from g) h')
theorem aQ (h1:Int.gcd a b=1)(h2:Int.gcd c d=1)(hb:0<b)(hd:0<d)(e:a*d=c*b):a=c/\b=d:=by
 have k1:b ∣ d:=by
  have:b ∣ a*d:=⟨c,by rw[e,xkv]⟩
  exact xb9 this (by rw[Int.gcd_comm];exact h1)
 have k2:d ∣ b:=by
  have:d ∣ c*b:=⟨a,by rw[<-e,xkv]⟩
  exact xb9 this (by rw[Int.gcd_comm];exact h2)
 have ebd:b=d:=Int.dvd_antisymm (by omega) (by omega) k1 k2;subst ebd;exact⟨xkh (by omega) e,rfl⟩
theorem lY (h:0<d)(h':0<d')(e:n*d'=n'*d):low n d=low n' d':=by
 have c1:=tY (n:=n) h;have c2:=tY (n:=n') h';have p1:=ud (n:=n) h;have p2:=ud (n:=n') h';have x1:=vc n d;have x2:=vc n' d';have key:(low n d).1*(low n' d').2=(low n' d').1*(low n d).2:=by
  generalize (low n d).1=a at *
  generalize (low n d).2=b at *
  generalize (low n' d').1=c at *
  generalize (low n' d').2=f at *
  have:(a*f)*(d*d')=(c*b)*(d*d'):=by grind
  exact xkh (by have:=xkH h h';omega) this
 obtain⟨u,v⟩:=aQ c1 c2 p1 p2 key;exact Prod.ext u v
theorem xfv (hx:0<x1)(hy:0<y1) :
  low ((low (a*x0) x1).1*(low (b*y0) y1).2+(low (b*y0) y1).1*(low (a*x0) x1).2) ((low (a*x0) x1).2*(low (b*y0) y1).2)=low (a*x0*y1+b*y0*x1) (x1*y1):=by
 have p1:=ud (n:=a*x0) hx;have p2:=ud (n:=b*y0) hy;have e1:=vc (a*x0) x1;have e2:=vc (b*y0) y1;refine lY (xkH p1 p2) (xkH hx hy) ?_;generalize (low (a*x0) x1).1=p at *
 generalize (low (a*x0) x1).2=q at *
 generalize (low (b*y0) y1).1=r at *
 generalize (low (b*y0) y1).2=t at *
 grind
theorem sk (n:Int):low n 1=(n,1):=by
 have g:gd n 1=1:=by unfold gd;simp
 unfold low;rw[g];simp
end Fra
namespace L2
open PySem PySem.Spec PyProof.Rows
abbrev F2:=Int×Int
abbrev P2:=F2×F2
def fT (f:F2):Tr:=frT f.1 f.2
def pT (p:P2):Tr:=.tup [fT p.1,fT p.2]
def lfr (t b:Int):F2:=if b<0 then Fra.low (-t) (-b) else Fra.low t b
theorem vn (h:0<b):lfr t b=Fra.low t b:=by unfold lfr;rw[if_neg (by omega)]
theorem xfW (h:b<0):lfr t b=Fra.low (-t) (-b):=by unfold lfr;rw[if_pos h]
def plc (v:Pol.R3):P2:=(Fra.low v.1 v.2.2,Fra.low v.2.1 v.2.2)
def kT (r:Pol.R3)(p:P2):F2:=lfr (r.1*p.1.1*p.2.2+r.2.1*p.2.1*p.1.2) (p.1.2*p.2.2)
def lG (f g:F2):Bool:=decide (f.1*g.2<g.1*f.2)
def fmin (f g:F2):F2:=lfr (f.1*g.2-g.1*f.2) (f.2*g.2)
def xan (f g:F2):F2:=lfr (f.1*g.1) (f.2*g.2)
def aA (f g:F2):F2:=lfr (f.1*g.2+g.1*f.2) (f.2*g.2)
def zH (r:Pol.R3)(p:P2):Bool:=decide ((kT r p).1<=r.2.2*(kT r p).2)
structure Fk (k:Nat)(f:F2):Prop where
 top:Bk k f.1
 bot:Bk k f.2
 pos:0<f.2
theorem Fk.mono (h:Fk k f)(hk:k<=m):Fk m f:=⟨h.top.mono hk,h.bot.mono hk,h.pos⟩
theorem mN (h:0<b)(ht:Bk k t)(hb:Bk k b):Fk k (Fra.low t b):=by
 have g:=Fra.vF (a:=t) (b:=b) (.inr (by omega));refine⟨ht.le ?_,hb.le ?_,Fra.ud h⟩
 .have e:=Fra.xa0 t b;generalize (Fra.low t b).1=x at *
  generalize Fra.gd t b=y at *
  rw[<-e,xkJ];exact Nat.le_mul_of_pos_right _ (by omega)
 .have e:=Fra.cp t b;generalize (Fra.low t b).2=x at *
  generalize Fra.gd t b=y at *
  have:b.natAbs=x.natAbs*y.natAbs:=by rw[<-xkJ,e]
  rw[this];exact Nat.le_mul_of_pos_right _ (by omega)
theorem nE (h:b≠0)(ht:Bk k t)(hb:Bk k b):Fk k (lfr t b):=by
 unfold lfr;split
 .exact mN (by omega) ht.neg hb.neg
 .exact mN (by omega) ht hb
structure Sd (f:F2)(N D:Int):Prop where
 pf:0<f.2
 pd:0<D
 e:f.1*D=N*f.2
theorem aS (h:0<b):Sd (Fra.low t b) t b:=⟨Fra.ud h,h,Fra.vc t b⟩
theorem xbk (h:0<f.2):Sd f f.1 f.2:=⟨h,h,rfl⟩
theorem Sd.lfr (hb:0<b)(hD:0<D)(e:t*D=N*b)(hf:f=L2.lfr t b):Sd f N D:=by
 subst hf;rw[vn hb];refine⟨Fra.ud hb,hD,?_⟩;have h:=Fra.vc t b;generalize (Fra.low t b).1=x at *
 generalize (Fra.low t b).2=y at *
 have:(x*D)*b=(N*y)*b:=by grind
 exact xkh (by omega) this
theorem kJ {a b k:Int}(hk:0<k):a*k<=b*k↔a<=b:=⟨λh=>xkq h hk,λh=>xkB h (by omega)⟩
theorem gC {a b k:Int}(hk:0<k):a*k<b*k↔a<b:=⟨λh=>xks h (by omega),λh=>xkC h hk⟩
theorem aZ {a b k:Int}(hk:0<k):a*k=b*k↔a=b:=⟨λh=>xkh (by omega) h,λh=>by rw[h]⟩
theorem fu {a k:Int}(hk:0<k):a*k<0↔a<0:=by have:=gC (a:=a) (b:=0) hk;rwa [xkP] at this
theorem Sd.le {f:F2}{N D:Int}(h:Sd f N D)(c:Int):f.1<=c*f.2↔N<=c*D:=by have e:=h.e;rw[<-kJ h.pd,e,show c*f.2*D=(c*D)*f.2 by grind,kJ h.pf]
theorem Sd.neg {f:F2}{N D:Int}(h:Sd f N D):f.1<0↔N<0:=by have e:=h.e;rw[<-fu h.pd,e,fu h.pf]
theorem Sd.lt {f g:F2}{N D M E:Int}(h:Sd f N D)(h':Sd g M E):f.1*g.2<g.1*f.2↔N*E<M*D:=by have e:=h.e;have e':=h'.e;rw[<-gC (Pol.pp h.pd h'.pd),show f.1*g.2*(D*E)=(N*E)*(f.2*g.2) by grind,show g.1*f.2*(D*E)=(M*D)*(f.2*g.2) by grind,gC (Pol.pp h.pf h'.pf)]
theorem Sd.eq {f g:F2}{N D M E:Int}(h:Sd f N D)(h':Sd g M E):f.1*g.2=g.1*f.2↔N*E=M*D:=by have e:=h.e;have e':=h'.e;rw[<-aZ (Pol.pp h.pd h'.pd),show f.1*g.2*(D*E)=(N*E)*(f.2*g.2) by grind,show g.1*f.2*(D*E)=(M*D)*(f.2*g.2) by grind,aZ (Pol.pp h.pf h'.pf)]
section
variable {p q v w:Pol.R3}
theorem sdx (h:0<v.2.2):Sd (plc v).1 v.1 v.2.2:=aS h
theorem sdy (h:0<v.2.2):Sd (plc v).2 v.2.1 v.2.2:=aS h
theorem cE (r:Pol.R3)(h:0<v.2.2):Sd (kT r (plc v)) (r.1*v.1+r.2.1*v.2.1) v.2.2:=by have a:=sdx h;have b:=sdy h;refine Sd.lfr (Pol.pp a.pf b.pf) h ?_ rfl;have:=a.e;have:=b.e;grind
theorem uW (r:Pol.R3)(h:0<v.2.2):zH r (plc v)=decide (Pol.val r v<=0):=by unfold zH;rw[xmv,(cE r h).le];unfold Pol.val;omega
theorem t_ (hp:0<p.2.2)(hq:0<q.2.2)(gp:Pol.vd p=1)(gq:Pol.vd q=1)(h:Pol.aB p q):p=q:=by
 have key:∀ {p q:Pol.R3},0<p.2.2->0<q.2.2->Pol.vd p=1->Pol.aB p q->p.2.2 ∣ q.2.2:=λ {p q} hp hq gp h=>by
  have h1:p.2.2 ∣ q.2.2*p.1:=⟨q.1,by have:=h.1;grind⟩
  have h2:p.2.2 ∣ q.2.2*p.2.1:=⟨q.2.1,by have:=h.2;grind⟩
  have h3:p.2.2 ∣ q.2.2*p.2.2:=Int.dvd_mul_left ..;have g12:p.2.2 ∣ q.2.2*(Int.gcd p.1 p.2.1:Int):=by
   have:=xka h1 h2;rw[xkm] at this;have h4:((q.2.2).natAbs*Int.gcd p.1 p.2.1:Nat)=((q.2.2*(Int.gcd p.1 p.2.1:Int)).natAbs:Nat):=by rw[xkJ];rfl
   rw[h4] at this;exact xkc.mp this
  have g3:=xka g12 h3;rw[xkm] at g3;have hg':Int.gcd (Int.gcd p.1 p.2.1:Int) p.2.2=1:=gp;rw[hg',Nat.mul_one] at g3;exact xkc.mp g3
 have ez:p.2.2=q.2.2:=Int.dvd_antisymm (by omega) (by omega) (key hp hq gp h) (key hq hp gq ⟨h.1.symm,h.2.symm⟩);have h1:=h.1;have h2:=h.2;rw[ez] at h1 h2;exact Pol.ext3 (xkh (by omega) h1) (xkh (by omega) h2) ez
theorem xeA (h:0<v.2.2)(hb:B3k k v):Fk k (plc v).1/\Fk k (plc v).2:=⟨mN h hb.1.1 hb.2,mN h hb.1.2 hb.2⟩
end
theorem xbf (p:P2):pln (pT p)=true:=rfl
theorem xcu (f g:F2):teq (fT f) (fT g)=decide (f=g):=by
 have e:teq (fT f) (fT g)=(decide (f.1=g.1)&&(decide (f.2=g.2)&&true)):=rfl;rw[e];by_cases h1:f.1=g.1
 .by_cases h2:f.2=g.2
  .simp[h1,h2,Prod.ext_iff]
  .simp[h1,h2,Prod.ext_iff]
 .simp[h1,Prod.ext_iff]
theorem xeC (p q:P2):teq (pT p) (pT q)=decide (p=q):=by
 have e:teq (pT p) (pT q)=(teq (fT p.1) (fT q.1)&&(teq (fT p.2) (fT q.2)&&true)):=rfl;rw[e,xcu,xcu];by_cases h1:p.1=q.1
 .by_cases h2:p.2=q.2
  .simp[h1,h2,Prod.ext_iff]
  .simp[h1,h2,Prod.ext_iff]
 .simp[h1,Prod.ext_iff]
theorem xgT (l:List P2)(c:P2):((l.map pT).any λu=>teq u (pT c))=decide (c∈l):=by
 rw[xj6,xkV,xmy];constructor
 .rintro⟨u,hu,h⟩;obtain⟨x,hx,rfl⟩:=xlO.mp hu;rw[xeC,xmy] at h;subst h;exact hx
 .intro h;exact⟨pT c,xlP h,by rw[xeC];simp⟩
end L2
namespace L2
open PySem PySem.Spec PyProof.Rows
theorem yR {α:Type}{dg:DG}{dc:DT}{de:DE}{τi:TSt}{KK:List Tr->Prop}{f:α->Tr}{l:List α}(p:α->Bool)(g:α->Tr)
  (h1:∀a∈l,∀(N:Tr->Prop) (M:Prop),(p a=true->N (g a))->(p a=false->M)->dg (f a) τi λ τ2=>dc τ2 λb=>if b=true then de τ2 N else M) (h0:KK ((l.filter p).map g)):xa1 dg dc de τi KK (l.map f) []:=by
 refine j3 (λys acc=>∃zs us,l=zs++us/\ys=us.map f/\acc=(zs.filter p).map g) (λacc ⟨zs,us,e,ey,e2⟩=>?_) (λx ys acc N ⟨zs,us,e,ey,e2⟩ hN=>?_) _ [] ⟨[],l,rfl,rfl,rfl⟩
 .cases us with
  | nil=>rw[xkX] at e;subst e e2;exact h0
  | cons u us=>cases ey
 .cases us with
  | nil=>cases ey
  | cons u us =>
   injection ey with ex ey;subst ex ey e2;have hu:u∈l:=by rw[e];simp
   refine h1 u hu (λy=>N ((zs.filter p).map g++[y])) (N ((zs.filter p).map g)) (λhp=>hN _ ⟨zs++[u],us,by rw[e];simp,rfl,?_⟩) (λhp=>hN _ ⟨zs++[u],us,by rw[e];simp,rfl,?_⟩)
   .rw[List.filter_append,xk4 hp];simp
   .rw[List.filter_append,xk3 (by rw[hp];exact xj8)];simp
theorem wR {α:Type}{dg:DG}{de:DE}{τi:TSt}{KK:List Tr->Prop}{f:α->Tr}{l:List α}(g:α->Tr)(h1:∀a∈l,∀N:Tr->Prop,N (g a)->dg (f a) τi λ τ2=>de τ2 N)(h0:KK (l.map g)):xa1 dg xdg de τi KK (l.map f) []:=by
 refine j3 (λys acc=>∃zs us,l=zs++us/\ys=us.map f/\acc=zs.map g) (λacc ⟨zs,us,e,ey,e2⟩=>?_) (λx ys acc N ⟨zs,us,e,ey,e2⟩ hN=>?_) _ [] ⟨[],l,rfl,rfl,rfl⟩
 .cases us with
  | nil=>rw[xkX] at e;subst e e2;exact h0
  | cons u us=>cases ey
 .cases us with
  | nil=>cases ey
  | cons u us =>injection ey with ex ey;subst ex ey e2;exact h1 u (by rw[e];simp) (λy=>N (zs.map g++[y])) (hN _ ⟨zs++[u],us,by rw[e];simp,rfl,by simp⟩)
theorem xf2 (xs:List Tr):teq (.lst xs) (.lst [])=xs.isEmpty:=by cases xs<;>rfl
theorem uQ (h:PyData.canLayAll0 (uP xs)=true):xcV (.lst xs) (.lst []):=⟨h,rfl,xmf (xmm _ _) (by decide)⟩
theorem xgc {neg:Bool}{xs:List Tr}{KK:Tr->Prop}(h:PyData.canLayAll0 (uP xs)=true)(k:KK (.bl (if neg then !xs.isEmpty else xs.isEmpty))):xhw neg (.lst xs) (.lst []) KK:=⟨uQ h,by rw[xf2];exact k⟩
theorem filter_empty (p:α->Bool)(l:List α):(l.filter p).isEmpty=l.all λx=>!p x:=by
 induction l with
 | nil=>rfl
 | cons x l ih =>
  by_cases h:p x=true
  .rw[xk4 h,List.all_cons,h];rfl
  .rw[xk3 h,ih,List.all_cons];have:p x=false:=by simpa using h
   rw[this];rfl
def xhk:TSp:=λts KK=>∃t b:Int,ts=[.int t,.int b]/\b≠0/\Bd b/\KK (fT (lfr t b))
def xe2:TSp:=λts KK=>∃(r:Pol.R3) (p:P2),ts=[trR r,pT p]/\B3k 200 r/\Fk 600 p.1/\Fk 600 p.2/\KK (.bl (zH r p))
def Pk (k:Nat)(p:P2):Prop:=Fk k p.1/\Fk k p.2
structure xiA (l:List Pol.R3):Prop where
 ccw:Pol.Ccw l
 pos:∀v∈l,0<v.2.2
 prim:∀v∈l,Pol.vd v=1
 sm:∀v∈l,B3k 190 v
 least:Pol.jY l
 len:l.length<=900
structure yK (rows:List Pol.R3):Prop where
 fine:Pol.xdv rows rows
 len:rows.length<=8
def yG (rows:List Pol.R3):List Pol.R3:=yr (Pol.pieces rows)
theorem xcy (h:b≠0):0<(lfr t b).2:=by
 unfold lfr;split
 .exact Fra.ud (by omega)
 .exact Fra.ud (by omega)
theorem bG (p q:Pol.R3):ahead p q=true↔Pol.Ah p q:=by unfold ahead Pol.Ah;exact decide_eq_true_iff
theorem tJ (l:List Pol.R3)(hl:l≠[]):∀n,n<=l.length->(List.range n).foldl (yn l) 0<l.length
 | 0,_=>by simp;exact xls.mpr hl
 | n+1,h=>by rw[List.range_succ,xk8];have ih:=tJ l hl n (by omega);generalize (List.range n).foldl (yn l) 0=m at ih ⊢;show yn l m n<_;unfold yn;split<;>omega
theorem oz (l:List Pol.R3)(hp:∀v∈l,0<v.2.2)(hl:l≠[]):∀n,n<=l.length->∀j,j<n->¬Pol.Ah (l.getD j (0,0,0)) (l.getD ((List.range n).foldl (yn l) 0) (0,0,0))
 | 0,_=>λj hj=>by omega
 | n+1,h=>λj hj=>by
  rw[List.range_succ,xk8];have ih:=oz l hp hl n (by omega);have s:=tJ l hl n (by omega);have g:∀i,i<l.length->0<(l.getD i (0,0,0)).2.2:=λi hi=>by rw[xk_,xlc hi];exact hp _ (xlk hi)
  generalize (List.range n).foldl (yn l) 0=m at ih s ⊢;show ¬Pol.Ah _ (l.getD (yn l m n) (0,0,0));by_cases c:ahead (l.getD n (0,0,0)) (l.getD m (0,0,0))=true
  .have e:yn l m n=n:=by unfold yn;rw[if_pos c]
   rw[e];have c:=(bG _ _).mp c;by_cases hjn:j=n
   .rw[hjn];exact Pol.Ah.irrefl _
   .intro z;exact ih j (by omega) (z.trans (g j (by omega)) (g n (by omega)) (g m s) c)
  .have e:yn l m n=m:=by unfold yn;rw[if_neg c]
   rw[e];by_cases hjn:j=n
   .rw[hjn];exact λz=>c ((bG _ _).mpr z)
   .exact ih j (by omega)
theorem wa (hp:∀v∈l,0<v.2.2):Pol.jY (yr l):=by
 intro h t e v hv;have hl:l≠[]:=λz=>by rw[z] at e;unfold yr at e;simp at e
 have s:=tJ l hl l.length (xmd _);have ok:=oz l hp hl l.length (xmd _);have hh:h=l.getD (qz l) (0,0,0):=by unfold yr at e;rw[xkZ (show qz l<l.length from s),xkY] at e;injection e with e1 e2;rw[<-e1,xk_,xlc (show qz l<l.length from s)];rfl
 have hv:=zN hv;obtain⟨j,hj,rfl⟩:=xlN.mp hv;have:=ok j hj;rw[hh];rw[xk_,xlc hj] at this;exact this
theorem zP:v∈yr l↔v∈l:=by unfold yr;rw[xlF,Or.comm,<-xlF,xl7]
theorem wL (h:Pol.Ccw l):Pol.Ccw (yr l):=by unfold yr;apply Pol.Ccw.rot;rw[xl7];exact h
theorem yK.rows {rows:List Pol.R3}(h:yK rows):qK rows:=⟨h.fine.dir,λr hr=>kP (h.fine.fr r hr),by have:=h.len;omega⟩
theorem wy (h:Pol.s_ r):B3k 10 r:=by obtain⟨⟨⟨a,b⟩,c,d⟩,e,f⟩:=h;refine⟨⟨?_,?_⟩,?_⟩<;>unfold Bk<;>omega
theorem yK.corner {rows:List Pol.R3}(h:yK rows){v:Pol.R3}(hv:v∈yG rows):(0<v.2.2/\Pol.vd v=1/\Pol.IsC rows v)/\B3k 21 v:=by have hv:v∈Pol.pieces rows:=zN hv;have c:=h.fine.corner hv;refine⟨c,?_⟩;obtain⟨hz,g,⟨_,s,hs,t,ht,e1,e2,hn⟩⟩:=c;obtain⟨b1,b2,b3⟩:=Pol.qW g hz e1 e2 hn;have S:=wy (h.fine.fr s hs);have T:=wy (h.fine.fr t ht);have m:∀ {x y z w:Int},Bk 10 x->Bk 10 y->Bk 10 z->Bk 10 w->Bk 21 (x*y-z*w):=λh1 h2 h3 h4=>(h1.mul h2).sub (h3.mul h4);refine⟨⟨(m S.2 T.1.2 T.2 S.1.2).le b2,(m T.2 S.1.1 S.2 T.1.1).le b3⟩,?_⟩;refine(m S.1.1 T.1.2 S.1.2 T.1.1).le ?_;unfold Pol.turn at b1;omega
theorem yK.ring {rows:List Pol.R3}(h:yK rows):xiA (yG rows) where
 ccw:=wL (Pol.y_ h.fine.dir).ccw
 pos:=λv hv=>(h.corner hv).1.1
 prim:=λv hv=>(h.corner hv).1.2.1
 sm:=λv hv=>(h.corner hv).2.mono (by decide)
 least:=wa (Pol.y_ h.fine.dir).bot
 len:=by unfold yG;rw[uS];have:=Pol.fc h.fine.dir;have:=h.len;omega
end L2
namespace L2
open PySem PySem.Spec PyProof.Rows
theorem xdH (hx:Fk 600 p.1)(hy:Fk 600 p.2)(hr:B3k 200 r):Bd (kT r p).2:=by
 unfold kT;have:=nE (k:=1500) (t:=r.1*p.1.1*p.2.2+r.2.1*p.2.1*p.1.2) (b:=p.1.2*p.2.2) (by have:=Pol.pp hx.pos hy.pos;omega)
  (((hr.1.1.mul hx.top |>.mul hy.bot).add (hr.1.2.mul hy.top |>.mul hx.bot)).mono (by decide)) ((hx.bot.mul hy.bot).mono (by decide))
 exact this.bot.bd
theorem xdU (l:List Pol.R3):l.map yO=(l.map plc).map pT:=by rw[xlC];rfl
end L2
namespace L2
open PySem PySem.Spec PyProof.Rows
theorem xO (P:TSt->Prop)(hB:∀ τ',P τ'->B G τ')(hA:∀N:TSt->Prop,(∀ τ',P τ'->N τ')->A { G with nx:=N } τ):xhS A B G τ:=hA (B G) hB
theorem uO (all:List Tr)(W:Nat->TSt->Prop)(hd:∀KK:List Tr->Prop,KK all->di τ KK)(w0:W 0 τ)
  (h1:∀i x τ (N:TSt->Prop),all[i]? = some x->W i τ->(∀ τ',W (i+1) τ'->N τ')->dg x τ λ τ'=>body { G with nx:=N,ct:=N,bk:=G.nx } τ')
  (h0:∀ τ,W all.length τ->G.nx τ):xio di dg body G τ:=hd _ (zt W w0 h1 h0)
abbrev TV9:=TV×TV×TV×TV×TV×TV×TV×TV×TV
theorem oY (f:α->β)(l:List α)(x:α):(l++[x]).map f=l.map f++[f x]:=by rw[xlA];rfl
theorem wO (h:-1000000<=i/\i<=1000000):Bd i:=cq (by omega) (by omega)
theorem wj (h:-1000000<=i/\i<=1000000)(h':-1000000<=j/\j<=1000000):CM i j:=⟨wO h,wO h'⟩
theorem tk {m:Int}(h:0<m/\m<1000000):0<m/\m<2 ^ 128:=⟨h.1,by omega⟩
structure LF0 (rows:List Pol.R3):Prop where
 l3:3<=rows.length
 l8:rows.length<=8
 sm:∀r∈rows,((-14<=r.1/\r.1<=14)/\(-14<=r.2.1/\r.2.1<=14))/\(-100<=r.2.2/\r.2.2<=100)
 dir:∀r∈rows,r.1≠0\/r.2.1≠0
 gr:Pol.GR rows
 near:∀p:Pol.R3,0<p.2.2->(∀r∈rows,Pol.val r p<=0)->(-(9*p.2.2)<=p.1/\p.1<=9*p.2.2)/\(-(9*p.2.2)<=p.2.1/\p.2.1<=9*p.2.2)
structure LF (rows:List Pol.R3):Prop where
 l3:3<=rows.length
 l8:rows.length<=8
 sm:∀r∈rows,((-14<=r.1/\r.1<=14)/\(-14<=r.2.1/\r.2.1<=14))/\(-200<=r.2.2/\r.2.2<=200)
 dir:∀r∈rows,r.1≠0\/r.2.1≠0
 gr:Pol.GR rows
 near:∀p:Pol.R3,0<p.2.2->(∀r∈rows,Pol.val r p<=0)->(-(12*p.2.2)<=p.1/\p.1<=12*p.2.2)/\(-(12*p.2.2)<=p.2.1/\p.2.1<=12*p.2.2)
def xaW:TSp:=λts KK=>ts=[]/\∀rows,LF rows->KK (.tup (rows.map trR))
def mC (u v:Int)(r:Pol.R3):Pol.R3:=(r.1,r.2.1,r.2.2+r.1*u+r.2.1*v)
theorem pX (h1:-m<=a)(h2:a<=m)(h3:-n<=b)(h4:b<=n)(hm:0<=m)(hn:0<=n):-(m*n)<=a*b/\a*b<=m*n:=by
 have key:(a*b).natAbs<=(m*n).natAbs:=by rw[xkJ,xkJ];exact xmn (by omega) (by omega)
 have:=Pol.pz hm hn;omega
theorem LF0.moved (h:LF0 rows)(hu:-3<=u/\u<=3)(hv:-3<=v/\v<=3):LF (rows.map (mC u v)) where
 l3:=by rw[xlq];exact h.l3
 l8:=by rw[xlq];exact h.l8
 sm:=λr hr=>by obtain⟨s,hs,rfl⟩:=xlO.mp hr;obtain⟨⟨⟨a1,a2⟩,b1,b2⟩,c1,c2⟩:=h.sm s hs;have x:=pX a1 a2 hu.1 hu.2 (by decide) (by decide);have y:=pX b1 b2 hv.1 hv.2 (by decide) (by decide);simp only[mC];omega
 dir:=λr hr=>by obtain⟨s,hs,rfl⟩:=xlO.mp hr;exact h.dir s hs
 gr:=λx y hn=>by obtain⟨r,hr,p⟩:=h.gr x y hn;exact⟨mC u v r,xlP hr,p⟩
 near:=λp hz hk=>by
  have:=h.near (p.1-u*p.2.2,p.2.1-v*p.2.2,p.2.2) hz λr hr=>by
   have:=hk _ (xlP hr);have e:Pol.val r (p.1-u*p.2.2,p.2.1-v*p.2.2,p.2.2)=Pol.val (mC u v r) p:=by simp only[Pol.val,mC];grind
   rw[e];exact this
  simp only at this;have x:=xkB hu.1 (show 0<=p.2.2 by omega);have x':=xkB hu.2 (show 0<=p.2.2 by omega);have y:=xkB hv.1 (show 0<=p.2.2 by omega);have y':=xkB hv.2 (show 0<=p.2.2 by omega);omega
theorem LF.rot (h:LF rows)(n:Nat):LF (rows.drop n++rows.take n):=by
 have mem:∀r,r∈rows.drop n++rows.take n↔r∈rows:=λr=>by rw[xlF,Or.comm,<-xlF,xl7]
 have len:(rows.drop n++rows.take n).length=rows.length:=by rw[xll,xln,xly];omega
 exact⟨by rw[len];exact h.l3,by rw[len];exact h.l8,λr hr=>h.sm r ((mem r).mp hr),λr hr=>h.dir r ((mem r).mp hr),
  λu v hn=>let ⟨r,hr,p⟩:=h.gr u v hn;⟨r,(mem r).mpr hr,p⟩,λp hz hk=>h.near p hz λr hr=>hk r ((mem r).mpr hr)⟩
theorem LF.frow (h:LF rows):∀r∈rows,Pol.s_ r:=λr hr=>by have:=h.sm r hr;unfold Pol.s_;omega
theorem LF.fine (h:LF rows):yK rows:=⟨⟨λ {p} hz hp s hs=>by have:=h.near p hz hp;simp only[Pol.xas,xlI,xlY,xmC] at hs;rcases hs with rfl | rfl | rfl | rfl<;>simp only[Pol.val,Pol.FAR]<;>omega,h.frow,λ_ h=>h,h.dir⟩,h.l8⟩
theorem m6 (hd:0<d):nearF (bV n d) (aM n d)=true↔-(12*d)<=n/\n<=12*d:=by
 have s:=aS (t:=n) (b:=d) hd;unfold nearF;rw[decide_eq_true_iff];have h1:=s.le 12;have h2:-(12*aM n d)<=bV n d↔-(12*d)<=n:=by have e:=s.e;have p:=s.pf;show -(12*(Fra.low n d).2)<=(Fra.low n d).1↔_;rw[<-kJ hd,e,show -(12*(Fra.low n d).2)*d=(-(12*d))*(Fra.low n d).2 by grind,kJ p]
 have h3:bV n d<=12*aM n d↔n<=12*d:=h1;rw[h2,h3]
theorem sE (hz:0<v.2.2):az v=true↔(-(12*v.2.2)<=v.1/\v.1<=12*v.2.2)/\(-(12*v.2.2)<=v.2.1/\v.2.1<=12*v.2.2):=by unfold az;rw[xj5,m6 hz,m6 hz]
theorem LF.field (h:LF rows):isField (.tup (rows.map trR))=true:=by
 show(match rowsOf (rows.map trR) with | some rows=>xg rows | none=>false)=true;rw[hX];show xg rows=true;unfold xg;rw[xmx ⟨h.l3,h.l8⟩,Pol.oS h.dir (Pol.xgY h.gr) (Pol.xg9 h.dir h.gr)];have e1:(rows.all λr=>decide ((r.1≠0\/r.2.1≠0)/\Pol.s_ r))=true:=by rw[xkS];intro r hr;exact xmx ⟨h.dir r hr,h.frow r hr⟩
 have e2:(Pol.pieces rows).all az=true:=by rw[xkS];intro v hv;obtain⟨hz,_,hc⟩:=h.fine.fine.corner hv;exact(sE hz).mpr (h.near v hz hc.kept)
 rw[e1,e2];rfl
structure xig (b1 c1 b2 c2 b3 c3 b4 c4:Int):Prop where
 h1:(1<=b1/\b1<=3)/\0<=c1/\c1<=5*b1
 h2:(1<=b2/\b2<=3)/\0<=c2/\c2<=5*b2
 h3:(1<=b3/\b3<=3)/\0<=c3/\c3<=5*b3
 h4:(1<=b4/\b4<=3)/\0<=c4/\c4<=5*b4
theorem xhP {b c x z:Int}(hb:1<=b)(hc:c<=5*b)(hz:0<z)(h:b*x<=c*z):x<=5*z:=by
 have h1:c*z<=5*b*z:=xkB hc (by omega);have h2:b*x<=b*(5*z):=by
  have:b*(5*z)=5*b*z:=by grind
  omega
 exact xkp h2 (by omega)
def Extra (r:Pol.R3):Prop:=(((-6<=r.1/\r.1<=6)/\(-6<=r.2.1/\r.2.1<=6))/\(-40<=r.2.2/\r.2.2<=40))/\(r.1≠0\/r.2.1≠0)
theorem xig.lf {b1 c1 b2 c2 b3 c3 b4 c4:Int}(B:xig b1 c1 b2 c2 b3 c3 b4 c4){ex:List Pol.R3}(hx:∀r∈ex,Extra r)(hl:ex.length<=4):LF0 ([(-b1,0,c1),(b2,0,c2),(0,-b3,c3),(0,b4,c4)]++ex):=by
 obtain⟨h1,h2,h3,h4⟩:=B;have four:∀r∈([(-b1,0,c1),(b2,0,c2),(0,-b3,c3),(0,b4,c4)]++ex:List Pol.R3),r=(-b1,0,c1)\/r=(b2,0,c2)\/r=(0,-b3,c3)\/r=(0,b4,c4)\/Extra r:=λr hr=>by
  rcases xlF.mp hr with h | h
  .simp only[xlI,xlY,xmC] at h;rcases h with h | h | h | h
   .exact .inl h
   .exact .inr (.inl h)
   .exact .inr (.inr (.inl h))
   .exact .inr (.inr (.inr (.inl h)))
  .exact .inr (.inr (.inr (.inr (hx r h))))
 have m1:(-b1,0,c1)∈([(-b1,0,c1),(b2,0,c2),(0,-b3,c3),(0,b4,c4)]++ex:List Pol.R3):=xlG _ xlK;have m2:(b2,0,c2)∈([(-b1,0,c1),(b2,0,c2),(0,-b3,c3),(0,b4,c4)]++ex:List Pol.R3):=xlG _ (xlJ _ xlK);have m3:(0,-b3,c3)∈([(-b1,0,c1),(b2,0,c2),(0,-b3,c3),(0,b4,c4)]++ex:List Pol.R3):=xlG _ (xlJ _ (xlJ _ xlK));have m4:(0,b4,c4)∈([(-b1,0,c1),(b2,0,c2),(0,-b3,c3),(0,b4,c4)]++ex:List Pol.R3):=xlG _ (xlJ _ (xlJ _ (xlJ _ xlK)));refine⟨by simp,by simp;omega,λr hr=>?_,λr hr=>?_,λu v hn=>?_,λp hz hk=>?_⟩
 .rcases four r hr with h | h | h | h | h
  .subst h;simp only;omega
  .subst h;simp only;omega
  .subst h;simp only;omega
  .subst h;simp only;omega
  .unfold Extra at h;omega
 .rcases four r hr with h | h | h | h | h
  .subst h;exact .inl (by simp only;omega)
  .subst h;exact .inl (by simp only;omega)
  .subst h;exact .inr (by simp only;omega)
  .subst h;exact .inr (by simp only;omega)
  .exact h.2
 .rcases xku u 0 with c | c | c
  .refine⟨_,m1,?_⟩;simp only;have:=xkH (show 0<b1 by omega) (show 0 < -u by omega);grind
  .rcases xku v 0 with d | d | d
   .refine⟨_,m3,?_⟩;simp only;have:=xkH (show 0<b3 by omega) (show 0 < -v by omega);grind
   .omega
   .refine⟨_,m4,?_⟩;simp only;have:=xkH (show 0<b4 by omega) d;grind
  .refine⟨_,m2,?_⟩;simp only;have:=xkH (show 0<b2 by omega) c;grind
 .have k1:=hk _ m1;have k2:=hk _ m2;have k3:=hk _ m3;have k4:=hk _ m4;simp only[Pol.val] at k1 k2 k3 k4;have e1:=xhP (x:=-p.1) h1.1.1 h1.2.2 hz (by grind);have e2:=xhP (x:=p.1) h2.1.1 h2.2.2 hz (by grind);have e3:=xhP (x:=-p.2.1) h3.1.1 h3.2.2 hz (by grind);have e4:=xhP (x:=p.2.1) h4.1.1 h4.2.2 hz (by grind);omega
def q_ (rows:List Pol.R3):Prop:=∃b1 c1 b2 c2 b3 c3 b4 c4,rows=[(-b1,0,c1),(b2,0,c2),(0,-b3,c3),(0,b4,c4)]/\xig b1 c1 b2 c2 b3 c3 b4 c4
theorem q_.last (h:q_ rows)(hx:∀r∈ex,Extra r):∃ini l,rows++ex=ini++[l]/\Extra (0-l.1,0-l.2.1,0-l.2.2):=by
 obtain⟨b1,c1,b2,c2,b3,c3,b4,c4,rfl,B⟩:=h;rcases List.eq_nil_or_concat ex with rfl | ⟨ini,l,rfl⟩
 .refine⟨[(-b1,0,c1),(b2,0,c2),(0,-b3,c3)],(0,b4,c4),by simp,?_⟩;have:=B.h4;unfold Extra;simp only;omega
 .rw[List.concat_eq_append] at hx ⊢;refine⟨_++ini,l,by rw[xkW],?_⟩;have:=hx l (by simp);unfold Extra at *
  simp only;omega
theorem q_.len (h:q_ rows):rows.length=4:=by obtain⟨b1,c1,b2,c2,b3,c3,b4,c4,rfl,B⟩:=h;rfl
theorem q_.lf (h:q_ rows)(hx:∀r∈ex,Extra r)(hl:ex.length<=4):LF0 (rows++ex):=by obtain⟨b1,c1,b2,c2,b3,c3,b4,c4,rfl,B⟩:=h;exact B.lf hx hl
def xaL:List (Int×Int):=[(-1,0),(1,0),(0,-1),(0,1)]
def dT (d:Int×Int):Tr:=.tup [.int d.1,.int d.2]
def lW (i:Nat)(rows:List Pol.R3):Prop:=rows.length=i/\∀(j:Nat) (r:Pol.R3) (d:Int×Int),rows[j]? = some r->xaL[j]? = some d->∃b c:Int,((1<=b/\b<=3)/\0<=c/\c<=5*b)/\r=(d.1*b,d.2*b,c)
theorem lW.step (h:lW i rows)(hd:xaL[i]? = some d)(hb:(1<=b/\b<=3)/\0<=c/\c<=5*b):lW (i+1) (rows++[(d.1*b,d.2*b,c)]):=by
 refine⟨by rw[xll,h.1];rfl,λj r d' hr hd'=>?_⟩;by_cases hj:j<i
 .rw[xla (by rw[h.1];exact hj)] at hr;exact h.2 j r d' hr hd'
 .have hl:=(xle.mp hr).1;rw[xll,h.1,xlx] at hl;have:j=i:=by omega
  subst this;rw[xlb (by rw[h.1];exact xmd _),h.1,Nat.sub_self] at hr;rw[hd] at hd';cases hr;cases hd';exact⟨b,c,hb,rfl⟩
theorem lW.box (h:lW 4 rows):q_ rows:=by
 obtain⟨hl,h⟩:=h;rcases rows with _ | ⟨r1,_ | ⟨r2,_ | ⟨r3,_ | ⟨r4,_ | ⟨r5,rs⟩⟩⟩⟩⟩
 .cases hl
 .cases hl
 .cases hl
 .cases hl
 .obtain⟨b1,c1,g1,e1⟩:=h 0 r1 (-1,0) rfl rfl;obtain⟨b2,c2,g2,e2⟩:=h 1 r2 (1,0) rfl rfl;obtain⟨b3,c3,g3,e3⟩:=h 2 r3 (0,-1) rfl rfl;obtain⟨b4,c4,g4,e4⟩:=h 3 r4 (0,1) rfl rfl;subst e1 e2 e3 e4;refine⟨b1,c1,b2,c2,b3,c3,b4,c4,?_,g1,g2,g3,g4⟩;simp only[List.cons.injEq,Prod.mk.injEq,and_true];omega
 .cases hl
theorem cK {i:Nat}{d:Int×Int}(h:xaL[i]? = some d):(-1<=d.1/\d.1<=1)/\(-1<=d.2/\d.2<=1):=by have:=xlQ h;simp only[xaL,xlI,xlY,xmC] at this;rcases this with rfl | rfl | rfl | rfl<;>decide
def Drawn (d:Int×Int)(y:Tr):Prop:=∃c:Int,(0<=c/\c<8)/\y=.tup [.int d.1,.int d.2,.int c]
theorem xeG {d1 d2 d3:Int×Int}{ys:List Tr}(h:Paired Drawn [d1,d2,d3] ys):∃c1 c2 c3:Int,((0<=c1/\c1<=7)/\(0<=c2/\c2<=7)/\(0<=c3/\c3<=7))/\ys=[(d1.1,d1.2,c1),(d2.1,d2.2,c2),(d3.1,d3.2,c3)].map trR:=by
 cases h with
 | cons h1 h =>
  cases h with
  | cons h2 h =>
   cases h with
   | cons h3 h =>cases h;obtain⟨c1,g1,rfl⟩:=h1;obtain⟨c2,g2,rfl⟩:=h2;obtain⟨c3,g3,rfl⟩:=h3;exact⟨c1,c2,c3,by omega,rfl⟩
theorem nI {α:Type}{dg:DG}{de:DE}{τi:TSt}{KK:List Tr->Prop}{f:α->Tr}{l:List α}(R:α->Tr->Prop)(h1:∀a∈l,∀N:Tr->Prop,(∀y,R a y->N y)->dg (f a) τi λ τ2=>de τ2 N)
  (h0:∀ys,Paired R l ys->KK ys):xa1 dg xdg de τi KK (l.map f) []:=by
 refine j3 (λys acc=>∃zs us,l=zs++us/\ys=us.map f/\Paired R zs acc) (λacc ⟨zs,us,e,ey,e2⟩=>?_) (λx ys acc N ⟨zs,us,e,ey,e2⟩ hN=>?_) _ [] ⟨[],l,rfl,rfl,.nil⟩
 .cases us with
  | nil=>rw[xkX] at e;subst e;exact h0 acc e2
  | cons u us=>cases ey
 .cases us with
  | nil=>cases ey
  | cons u us =>injection ey with ex ey;subst ex ey;exact h1 u (by rw[e];simp) (λy=>N (acc++[y])) λy hy=>hN _ ⟨zs++[u],us,by rw[e];simp,rfl,jx e2 hy⟩
theorem xc7 (h1:1<=k)(h7:k<=7):LF0 [(-1,0,0),(1,-2*k,0),(1,2*k,2*k)]:=by
 refine⟨by simp,by simp,λr hr=>?_,λr hr=>?_,λu v hn=>?_,λp hz hk=>?_⟩
 .simp only[xlI,xlY,xmC] at hr;rcases hr with rfl | rfl | rfl<;>simp only<;>omega
 .simp only[xlI,xlY,xmC] at hr;rcases hr with rfl | rfl | rfl<;>simp only<;>omega
 .rcases xkt u 0 with c | c
  .exact⟨_,xlK,by simp only;omega⟩
  .rcases xku v 0 with d | d | d
   .refine⟨(1,-2*k,0),by simp,?_⟩;simp only;have:=xkH (show 0<k by omega) (show 0 < -v by omega);grind
   .refine⟨(1,2*k,2*k),by simp,?_⟩;simp only;subst d;omega
   .refine⟨(1,2*k,2*k),by simp,?_⟩;simp only;have:=xkH (show 0<k by omega) d;grind
 .have k1:=hk (-1,0,0) (by simp);have k2:=hk (1,-2*k,0) (by simp);have k3:=hk (1,2*k,2*k) (by simp);simp only[Pol.val] at k1 k2 k3;have e2:p.1<=2*(k*p.2.1):=by grind
  have e3:p.1+2*(k*p.2.1)<=2*(k*p.2.2):=by grind
  have kz:k*p.2.2<=7*p.2.2:=xkB h7 (by omega);have y0:0<=p.2.1:=Pol.zC (show 0<k by omega) (by omega);have y1:p.2.1<=p.2.2:=by
   have:k*p.2.1<=k*p.2.2:=by omega
   exact xkp this (by omega)
  omega
theorem xgg (h:0<=c/\c<=7):-100<=c/\c<=100:=by omega
theorem xfe (h1:0<=c1/\c1<=7)(h2:0<=c2/\c2<=7)(h3:0<=c3/\c3<=7):LF0 [(-2,1,c1),(1,-3,c2),(2,3,c3)]:=by
 refine⟨by simp,by simp,λr hr=>?_,λr hr=>?_,λu v hn=>?_,λp hz hk=>?_⟩
 .simp only[xlI,xlY,xmC] at hr;rcases hr with rfl | rfl | rfl
  .exact⟨by simp only;decide,xgg h1⟩
  .exact⟨by simp only;decide,xgg h2⟩
  .exact⟨by simp only;decide,xgg h3⟩
 .simp only[xlI,xlY,xmC] at hr;rcases hr with rfl | rfl | rfl<;>exact .inl (by simp only;decide)
 .rcases xkt 0 (-2*u+1*v) with c | c
  .exact⟨(-2,1,c1),by simp,c⟩
  .rcases xkt 0 (1*u+-3*v) with d | d
   .exact⟨(1,-3,c2),by simp,d⟩
   .exact⟨(2,3,c3),by simp,by simp only;omega⟩
 .have k1:=hk (-2,1,c1) (by simp);have k2:=hk (1,-3,c2) (by simp);have k3:=hk (2,3,c3) (by simp);simp only[Pol.val] at k1 k2 k3;have z1:c1*p.2.2<=7*p.2.2:=xkB h1.2 (by omega);have z2:c2*p.2.2<=7*p.2.2:=xkB h2.2 (by omega);have z3:c3*p.2.2<=7*p.2.2:=xkB h3.2 (by omega);omega
theorem xeX (h1:0<=c1/\c1<=7)(h2:0<=c2/\c2<=7)(h3:0<=c3/\c3<=7):LF0 [(-3,-2,c1),(3,-1,c2),(1,4,c3)]:=by
 refine⟨by simp,by simp,λr hr=>?_,λr hr=>?_,λu v hn=>?_,λp hz hk=>?_⟩
 .simp only[xlI,xlY,xmC] at hr;rcases hr with rfl | rfl | rfl
  .exact⟨by simp only;decide,xgg h1⟩
  .exact⟨by simp only;decide,xgg h2⟩
  .exact⟨by simp only;decide,xgg h3⟩
 .simp only[xlI,xlY,xmC] at hr;rcases hr with rfl | rfl | rfl<;>exact .inl (by simp only;decide)
 .rcases xkt 0 (-3*u+-2*v) with c | c
  .exact⟨(-3,-2,c1),by simp,c⟩
  .rcases xkt 0 (3*u+-1*v) with d | d
   .exact⟨(3,-1,c2),by simp,d⟩
   .exact⟨(1,4,c3),by simp,by simp only;omega⟩
 .have k1:=hk (-3,-2,c1) (by simp);have k2:=hk (3,-1,c2) (by simp);have k3:=hk (1,4,c3) (by simp);simp only[Pol.val] at k1 k2 k3;have z1:c1*p.2.2<=7*p.2.2:=xkB h1.2 (by omega);have z2:c2*p.2.2<=7*p.2.2:=xkB h2.2 (by omega);have z3:c3*p.2.2<=7*p.2.2:=xkB h3.2 (by omega);omega
end L2
namespace L2
open PySem PySem.Spec PyProof.Rows
theorem kG:isField (.tup (rows.map trR))=xg rows:=by show(match rowsOf (rows.map trR) with | some rows=>xg rows | none=>false)=_;rw[hX]
end L2
namespace L2
open PySem PySem.Spec PyProof.Rows
def DD (K:PySem.W.Frag)(x:Str)(st:Stmt):Prop:=∃f fd,PySem.W.nsIn K mainGlobals x=some (some (.ref f))/\Fun K x x st f fd
theorem dd {K:PySem.W.Frag}{x:Str}{st:Stmt}{f:Addr}{oc:Value}{od an:Option Addr}{sl:Array (Option Value)}{kV dc pm cd ct:Value}(a:PySem.W.nsIn K mainGlobals x=some (some (.ref f)))
  (l:K.lookup f=some ⟨oc,od,.func (PySem.W.fnOf x x (uE st) (zE st) (xf st) .none kV dc pm an cd ct),sl⟩) (c:PySem.W.codeIn K cd x=true) (k:PySem.W.keepIn K (.ref f)=true):DD K x st:=⟨f,_,a,xes l c k⟩
theorem zT {K:PySem.W.Frag}{x qual p1:Str}{st:Stmt}{f:Addr}{fd:FuncData}(F:Fun K x qual st f fd)(h:∀(kV doc pm:Value) (an:Option Addr) (cdv ct u1:Value),bindArgs (PySem.W.fnOf x qual (uE st) (zE st) (xf st) .none kV doc pm an cdv ct) ⟨[u1],[]⟩=pure [(p1,u1)]):Binds K fd [p1] [] :=F.binds λa b c d e g us hl=>match us,hl with | [u1],_=>h a b c d e g u1
theorem yC {K:PySem.W.Frag}{x qual p1 p2:Str}{st:Stmt}{f:Addr}{fd:FuncData}(F:Fun K x qual st f fd)(h:∀(kV doc pm:Value) (an:Option Addr) (cdv ct u1 u2:Value),bindArgs (PySem.W.fnOf x qual (uE st) (zE st) (xf st) .none kV doc pm an cdv ct) ⟨[u1,u2],[]⟩=pure [(p1,u1),(p2,u2)]):Binds K fd [p1,p2] [] :=F.binds λa b c d e g us hl=>match us,hl with | [u1,u2],_=>h a b c d e g u1 u2
theorem aJ {K:PySem.W.Frag}{x qual p1 p2 p3:Str}{st:Stmt}{f:Addr}{fd:FuncData}(F:Fun K x qual st f fd)(h:∀(kV doc pm:Value) (an:Option Addr) (cdv ct u1 u2 u3:Value),bindArgs (PySem.W.fnOf x qual (uE st) (zE st) (xf st) .none kV doc pm an cdv ct) ⟨[u1,u2,u3],[]⟩=pure [(p1,u1),(p2,u2),(p3,u3)]):Binds K fd [p1,p2,p3] [] :=F.binds λa b c d e g us hl=>match us,hl with | [u1,u2,u3],_=>h a b c d e g u1 u2 u3
def xcn (w:Int)(f:F2):F2:=Fra.low (w*f.1) f.2
def xgU:TSp:=λts KK=>∃f g:F2,ts=[fT f,fT g]/\Fk 900 f/\Fk 900 g/\KK (fT (aA f g))
def xeH:TSp:=λts KK=>∃(w:Int) (f:F2),ts=[.int w,fT f]/\Bk 900 w/\Fk 900 f/\KK (fT (xcn w f))
def xbT:TSp:=λts KK=>∃(a b:Int) (x:List Tr) (p:P2),ts=[.tup (.int a::.int b::x),pT p]/\Bk 200 a/\Bk 200 b/\Pk 600 p/\KK (fT (kT (a,b,0) p))
def dy (r:Pol.R3)(p:P2):Bool:=decide ((kT r p).1=r.2.2*(kT r p).2)
def oa:TSp:=λts KK=>∃(r:Pol.R3) (p:P2),ts=[trR r,pT p]/\B3k 200 r/\Pk 600 p/\KK (.bl (dy r p))
def gQ:TSp:=λts KK=>∃t,ts=[t]/\isField t=true/\KK .non
def fU:TSp:=λts KK=>∃rows:List Pol.R3,ts=[.tup (rows.map trR)]/\xg rows=true/\yK rows/\KK (.lst ((yG rows).map yO))
def hU (rows:List Pol.R3)(p:P2):List Nat:=(List.range rows.length).filter λi=>dy (rows.getD i (0,0,0)) p
def fg (n:Nat):Tr:=.int n
def rp:TSp:=λts KK=>∃(rows:List Pol.R3) (p:P2),ts=[.tup (rows.map trR),pT p]/\rows.length<=1000/\(∀r∈rows,B3k 200 r)/\Pk 600 p/\KK (.tup ((hU rows p).map fg))
def brk (v:Pol.R3):Bool := !decide ((plc v).1.2=1) || !decide ((plc v).2.2=1)
def m5:TSp:=λts KK=>∃v:Pol.R3,ts=[yO v]/\KK (.bl (brk v))
def tW:TSp:=λts KK=>∃rows:List Pol.R3,ts=[.tup (rows.map trR)]/\xg rows=true/\yK rows/\KK (.lst (((yG rows).filter brk).map yO))
theorem hW (h:xg rows=true):(3<=rows.length/\rows.length<=8)/\(∀r∈rows,(r.1≠0\/r.2.1≠0)/\Pol.s_ r)/\Pol.uk rows=true/\∀v∈Pol.pieces rows,az v=true:=by unfold xg at h;simp only[xj5,xmy,xkS] at h;exact⟨h.1.1.1,h.1.1.2,h.1.2,h.2⟩
theorem pA (h:xg rows=true):isField (.tup (rows.map trR))=true:=by rw[kG];exact h
theorem LF.isf (h:LF rows):xg rows=true:=by rw[<-kG];exact h.field
theorem oK (h:0<b):frT (bV t b) (aM t b)=fT (lfr t b):=by rw[vn h];rfl
theorem Fk.timW (hw:Bk k w)(h:Fk m f):Fk (k+m) (xcn w f):=mN h.pos (hw.mul h.top) (h.bot.mono (by omega))
theorem xda (hx:0<p.1.2)(hy:0<p.2.2):aA (xcn a p.1) (xcn b p.2)=kT (a,b,0) p:=by unfold aA xcn kT;rw[vn (Pol.pp (Fra.ud hx) (Fra.ud hy)),vn (Pol.pp hx hy)];exact Fra.xfv hx hy
theorem xcc (hr:B3k 200 r)(hp:Pk 600 p):Fk 1500 (kT r p):=by unfold kT;exact nE (k:=1500) (by have:=Pol.pp hp.1.pos hp.2.pos;omega) (((hr.1.1.mul hp.1.top |>.mul hp.2.bot).add (hr.1.2.mul hp.2.top |>.mul hp.1.bot)).mono (by decide)) ((hp.1.bot.mul hp.2.bot).mono (by decide))
theorem bN {α:Type}(f:α->Tr)(l:List α)(d:α):qP (l.map f)=(List.range l.length).map λi=>.tup [.int (i:Nat),f (l.getD i d)]:=by
 apply xk1;intro i;by_cases h:i<l.length
 .have e1:i<(qP (l.map f)).length:=by rw[jW];exact h
  obtain⟨v,hv,e⟩:=rS (xlc e1);rw[xlc e1,e,xlf,xlg h];simp[xk_,hv]
 .rw[xld (by rw[jW];omega),xld (by simp;omega)]
theorem xcM (n:Nat):xaJ 0 n=(List.range n).map fg:=by
 apply xk1;intro i;by_cases h:i<n
 .rw[j6 h,xlf,xlg h];show some (Tr.int (0+(i:Int)))=some (Tr.int i);rw[xkO]
 .rw[xld (by rw[ur];omega),xld (by simp;omega)]
theorem getD_mem {α:Type}{l:List α}{i:Nat}(d:α)(h:i<l.length):l.getD i d∈l:=by rw[xk_,xlc h];exact xlk h
theorem j2 (h:yK rows):(yG rows).length<=900:=h.ring.len
end L2
namespace L2
open PySem PySem.Spec PyProof.Rows
def jO (a b:Int)(best:Option F2)(p:P2):Option F2:=match best with
 | none=>some (kT (a,b,0) p)
 | some f=>if lG f (kT (a,b,0) p)=true then some (kT (a,b,0) p) else some f
def xct (a b:Int)(ps:List P2):Option F2:=ps.foldl (jO a b) none
def nS:TSp:=λts KK=>∃(r:Pol.R3) (p:P2),ts=[trR r,pT p]/\B3k 200 r/\Pk 600 p/\KK (.bl (zH r p))
def xez:TSp:=λts KK=>∃(rows:List Pol.R3) (r:Pol.R3),ts=[.tup (rows.map trR),trR r]/\xg rows=true/\yK rows/\B3k 200 r/\KK (.bl ((yG rows).all λv=>zH r (plc v)))
def xd5:TSp:=λts KK=>∃(a b:Int) (x:List Tr) (p:P2),ts=[.tup (.int a::.int b::x),pT p]/\Bk 200 a/\Bk 200 b/\Fk 600 p.1/\Fk 600 p.2/\KK (fT (kT (a,b,0) p))
theorem xgH (d:lG f (kT (a,b,0) p)=true):jO a b (some f) p=some (kT (a,b,0) p):=by show(if lG f (kT (a,b,0) p)=true then some (kT (a,b,0) p) else some f)=_;rw[if_pos d]
theorem xih (d:lG f (kT (a,b,0) p)=false):jO a b (some f) p=some f:=by show(if lG f (kT (a,b,0) p)=true then some (kT (a,b,0) p) else some f)=_;rw[if_neg (by rw[d];exact xj8)]
theorem yK.pk2 {rows:List Pol.R3}(h:yK rows){v:Pol.R3}(hv:v∈yG rows):Pk 100 (plc v):=by have:=h.corner hv;have:=xeA this.1.1 this.2;exact⟨this.1.mono (by decide),this.2.mono (by decide)⟩
theorem yK.pk {rows:List Pol.R3}(h:yK rows){v:Pol.R3}(hv:v∈yG rows):Pk 600 (plc v):=⟨(h.pk2 hv).1.mono (by decide),(h.pk2 hv).2.mono (by decide)⟩
theorem yK.pkm {rows:List Pol.R3}(h:yK rows){p:P2}(hp:p∈(yG rows).map plc):Pk 100 p:=by obtain⟨v,hv,rfl⟩:=xlO.mp hp;exact h.pk2 hv
theorem ai (h:jO a b best p=some f):best=some f\/f=kT (a,b,0) p:=by
 unfold jO at h;cases best with
 | none=>exact .inr (xmt h).symm
 | some g =>
  simp only at h;split at h
  .exact .inr (xmt h).symm
  .exact .inl h
theorem aX (ps:List P2):∀best,ps.foldl (jO a b) best=some f->best=some f\/∃p∈ps,f=kT (a,b,0) p:=by
 induction ps with
 | nil=>exact λbest h=>.inl h
 | cons p ps ih =>
  intro best h;rcases ih _ h with q | ⟨p',hp,e⟩
  .rcases ai q with q | q
   .exact .inl q
   .exact .inr ⟨p,xlK,q⟩
  .exact .inr ⟨p',xlJ _ hp,e⟩
theorem pO (h:0<p.1.2/\0<p.2.2):0<(kT (a,b,c) p).2:=xcy (by have:=Pol.pp h.1 h.2;show p.1.2*p.2.2≠0;omega)
theorem yK.pos {rows:List Pol.R3}(h:yK rows):∀p∈(yG rows).map plc,0<p.1.2/\0<p.2.2:=λp hp=>⟨(h.pkm hp).1.pos,(h.pkm hp).2.pos⟩
end L2
namespace L2
open PySem PySem.Spec PyProof.Rows
section
variable {P:Program} {w:World} {K:PySem.W.Frag} {mg:Str->Option Value} {base:Heap} {N:List Str} {qual:Str} {scope:Scope} {f:Addr} {cd:Value} {A:Around} {outer:List Env} {s:Shared} {H H':Hp} {E:XK}
end
end L2
namespace L2
open PySem PySem.Spec PySem.Calls PyProof.Rows
section
variable {prog:Program} {w:World} {A:Around} {E:Value->Shared->Prop} {s:Shared} {K:PySem.W.Frag} {ea C:Addr}
end
end L2
namespace L2
open PySem PySem.Spec PySem.Calls PyProof.Rows
section
variable {P:Program} {w:World}
variable {X:Cx} {pins:List (Addr×Obj)} {σ:St} {H H':Hp} {s s':Shared} {ea C:Addr}
end
end L2
namespace L2
open PySem PySem.Spec PySem.Calls PyProof.Rows
section
variable {X:Cx} {pins:List (Addr×Obj)} {σ:St} {H H':Hp} {s s':Shared} {ea C:Addr}
end
end L2
namespace L2
open PySem PySem.Spec PySem.Calls PyProof.Rows
end L2
namespace L2
open PySem PySem.Spec PySem.Calls PyProof.Rows
section
variable {X:Cx} {pins:List (Addr×Obj)} {σ:St} {H:Hp} {s:Shared} {c P:Addr} {params:Arguments} {body:Expr} {scope:Scope} {pos:Pos} {clos:List (Str×Addr)} {E:Value->Shared->Prop} {Q:Value->Shared->Prop} {q:Str}
end
end L2
namespace L2
open PySem PySem.Spec PySem.Calls PyProof.Rows
section
variable {X:Cx} {pins:List (Addr×Obj)} {σ:St} {H:Hp} {s:Shared}
end
end L2
namespace L2
open PySem PySem.Spec PyProof.Rows
section
variable {K:PySem.W.Frag} {B:FB} {φ:Phi} {σ:St} {τ:TSt} {H H' H'':Hp} {EX:Hp->Prop}
end
section
variable {P:Program} {w:World} {K:PySem.W.Frag} {mg:Str->Option Value} {base:Heap} {k n:Nat} {x qual:Str} {st:Stmt} {f:Addr} {fd:FuncData} {N ps:List Str} {C:Addr} {R:List Tr->Prop}
end
section
variable {K:PySem.W.Frag}
theorem xjy (hd:OkS K true T D)(h:D { nx:=λ_=>False,rt:=λt=>t=.lst [.int j] } [.un,.ob ea,.un,.un])
  (q:∀H2 a,(∀b o,H b=some o->H2 b=some o)->H a=none->H2 a=some (.lst [.int j])->Q (.ref a) H2):T { nx:=λ_ H'=>Q .non H',rt:=Q } [some g,some (.ref ea),none,none] H:=by
 refine hd ⟨λ_=>False,λ_=>False,H,[]⟩ (λ_=>none) _ _ H _ _ ⟨λ_ z=>z.elim,λ_ z=>z.elim,λa o e _=>e,λa z=>?_,λi j a _ z=>(nomatch z),λi a z=>(nomatch z),rfl,λi=>?_,λp z=>absurd z (by simp)⟩ h ⟨λ_ _ _ _ _ z=>z.elim,λ_ _ _ _ _ z=>z.elim,λ_ _ _ _ _ z=>z.elim,λt v H2 r x e fl=>?_⟩
 .rcases z with z | ⟨i,z,_⟩
  .exact z.elim
  .cases z
 .match i with
  | 0=>trivial
  | 1=>rfl
  | 2=>trivial
  | 3=>trivial
  | n+4=>trivial
 .obtain⟨a,ts,ws,rfl,rfl,h1,h2,h3⟩:=fl rfl;cases e;obtain⟨v,vs,rfl,e1,e2⟩:=h3;cases e1;cases e2;exact q H2 a (λb o e=>x.ext b o e λz=>z) h1 h2
end
section
variable {X:Cx} {ea C D:Addr}
end
end L2
namespace L2
open PySem PySem.Spec PyProof.Rows
section
variable {P:Program} {w:World} {K:PySem.W.Frag} {mg:Str->Option Value} {base:Heap} {k:Nat} {x qual:Str} {st:Stmt} {f:Addr} {fd:FuncData} {N ps:List Str}
end
end L2
namespace L2
open PySem
def drT (a b:Int):Tr:=.tup [.int a,.int b]
def jb:Tr->Bool
 | .tup [.int a,.int b]=>!decide (a=0) || !decide (b=0)
 | _=>false
theorem sU (h:jb t=true):∃x y:Int,t=drT x y:=by
 unfold jb at h;split at h
 .exact⟨_,_,rfl⟩
 .cases h
def xhV (t:Tr):Prop:=∀us,t=.tup us->us.length<sizeLine
def tn (a b c d:Int):Int:=a*d-b*c
def L24 (i:Int):Prop:=-(10 ^ 24)<=i/\i<=10 ^ 24
theorem L24.bd (h:L24 i):Bd i:=cq (by unfold L24 at h;omega) (by unfold L24 at h;omega)
def L4 (a b c d:Int):Prop:=(L24 a/\L24 b)/\L24 c/\L24 d
theorem oG {a b:Int}{m n:Nat}(h1:-(m:Int)<=a/\a<=m)(h2:-(n:Int)<=b/\b<=n):-((m*n:Nat):Int)<=a*b/\a*b<=((m*n:Nat):Int):=by
 have h:=xkJ a b;have h3:a.natAbs<=m:=by omega
 have h4:b.natAbs<=n:=by omega
 have h5:=xmn h3 h4;omega
theorem xiL (h:L4 a b c d):Bd (tn a b c d):=by obtain⟨⟨h1,h2⟩,h3,h4⟩:=h;have x:=oG (m:=10 ^ 24) (n:=10 ^ 24) h1 h4;have y:=oG (m:=10 ^ 24) (n:=10 ^ 24) h2 h3;unfold tn;refine cq ?_ ?_<;>omega
def xeq:TSp:=λts KK=>∃t,ts=[t]/\xhV t/\KK (.bl (jb t))
def sD:TSp:=λts KK=>∃a b c d:Int,ts=[drT a b,drT c d]/\L4 a b c d/\0<tn a b c d/\KK (.int (tn a b c d))
def xdE (n d:Int):Tr:=frT (bV n d) (aM n d)
def fh (a b c d:Int):Tr->Tr
 | .tup [.int x,.int y]=>if x=0/\y=0 then .non else if tn x y c d<0\/tn a b x y<0 then .non else .tup [xdE (tn x y c d) (tn a b c d),xdE (tn a b x y) (tn a b c d)]
 | _=>.non
theorem xbZ (h:0<d):xdE n d=fT (lfr n d):=by rw[vn h];rfl
def xjG:Tr->Prop
 | .tup [.int x,.int y]=>L24 x/\L24 y
 | _=>True
def xel:TSp:=λts KK=>∃(a b c d:Int) (t:Tr),ts=[drT a b,drT c d,t]/\L4 a b c d/\xhV t/\xjG t/\0<tn a b c d/\KK (fh a b c d t)
theorem xdo (h:us.length<=100000):xhV (.tup us):=λvs e=>by cases e;exact sqz (by omega)
theorem xdB (x y:Int):xhV (drT x y):=xdo (by simp)
end L2
namespace L2
open PySem
end L2
namespace L2
open PySem PySem.Spec PyProof.Rows
section
variable {X:Cx} {pos:Pos}
def xhH (i j k:Nat)(ta:TA):TS:=λD σ H=>ta σ H λvs H1=>∃u v w,vs=[u,v,w]/\D.nx (((σ.set i (some u)).set j (some v)).set k (some w)) H1
theorem xbv (hc:X.calm=true)(hN:X.N.Nodup)(hi:X.N[i]? = some x)(hj:X.N[j]? = some y)(hk:X.N[k]? = some z)(hij:i≠j/\i≠k/\j≠k)
  (hx:X.env.scope.names.lookup x=some .local) (hy:X.env.scope.names.lookup y=some .local) (hz:X.env.scope.names.lookup z=some .local) (ha:PA X [a,b,c] ta)
  (hw:swappedStores [.Tuple [.Name x px,.Name y py,.Name z pz] kt pt] (.Tuple [a,b,c] k2 pt2) X.env=pure (some [x,y,z]))
  (hs:swapsWithSole [.Tuple [.Name x px,.Name y py,.Name z pz] kt pt] (.Tuple [a,b,c] k2 pt2) pos.line X.env=pure false:=by rfl) :
  PS X (.Assign [.Tuple [.Name x px,.Name y py,.Name z pz] kt pt] (.Tuple [a,b,c] k2 pt2) pos) (xhH i j k ta):=by
 intro pins s σ H D I h;rw[exec_Assign_arm];refine wpAny_bind (wpAny_standAt ?_);rw[hs];refine wpAny_bind (wpAny_pure ?_);rw[if_neg (by decide)];refine wpAny_bind (Tuple_ (thn (@ha _ pins s σ H _ I h) λus s1 ⟨vs,H1,I1,r1,q1⟩=>?_));obtain⟨v,w,t,e1,q1⟩:=q1;subst e1;obtain⟨u1,u2,u3,rfl,rv,rw',rt⟩:∃u1 u2 u3,us=[u1,u2,u3]/\RelV v u1/\RelV w u2/\RelV t u3:=by
  cases r1 with
  | cons p q =>
   cases q with
   | cons p' q' =>
    cases q' with
    | cons p2 q2 =>cases q2;exact⟨_,_,_,rfl,p,p',p2⟩
 refine wpAny_newObj_type ?_ (by show 3<=sizeLine;decide);have I2:Inv X pins σ H1 { s1 with heap:=s1.heap.push { cls:=.type "tuple", data:=.seq [u1,u2,u3].toArray } }:=I1.kept (t':=s1.toks) λb o e=>Heap.get?_push_of_some _ e;rw[hw];refine wpAny_bind (wpAny_pure ?_);show wpAny (model X.prog X.w) X.A (do rule "assign.swapped-stores"; let items <-unpackItems (.ref s1.heap.objs.size) 3 none;assignInOrder [λv=>bindName X.env z v,λv=>bindName X.env y v,λv=>bindName X.env x v] items.reverse;pure Flow.next) _ _ _;refine wpAny_bind (wpAny_rule (wpAny_bind (unpackItems_tuple (items := #[u1,u2,u3]) (I.ok.hd hc) (IsTup.new s1.heap _) λh' hx'=>?_)));have I3:=I2.kept (h':=h') (t':=s1.toks) λb o e=>hx' b o (xmq (Heap.lt_size e)) e;show wpAny _ _ (assignInOrder [λv=>bindName X.env z v,λv=>bindName X.env y v,λv=>bindName X.env x v] [u3,u2,u1] >>= λ_=>pure Flow.next) _ _ _;refine wpAny_bind (assignInOrder_cons (wpAny_bindName (qy I3 hN hk (.inl hz) rt (λs2 I4=>?_) (.inr hz))));refine assignInOrder_cons (wpAny_bindName (qy I4 hN hj (.inl hy) rw' (λs3 I5=>?_) (.inr hy)));refine assignInOrder_cons (wpAny_bindName (qy I5 hN hi (.inl hx) rv (λs4 I6=>assignInOrder_nil (wpAny_pure ?_)) (.inr hx)));rw[List.set_comm _ _ (Ne.symm hij.1),List.set_comm _ _ (Ne.symm hij.2.1),List.set_comm _ _ (Ne.symm hij.2.2)] at I6;exact⟨_,H1,I6,q1⟩
end
section
variable {K:PySem.W.Frag} {fr:Bool}
def xiF (i j k:Nat)(d:DA):DS:=λG τ=>d τ λts=>match ts with | [t,u,v]=>G.nx (((τ.set i (.fz t)).set j (.fz u)).set k (.fz v)) | _=>False
theorem xiM (h:z_ F H [t,u,x] vs):∃v w y,vs=[v,w,y]/\Rep F H t v/\Rep F H u w/\Rep F H x y:=by obtain⟨v,vs,rfl,h1,h2⟩:=h;obtain⟨w,y,rfl,h3,h4⟩:=lX h2;exact⟨v,w,y,rfl,h1,h3,h4⟩
theorem pY (h:OkA K true n ta da):OkS K fr (xhH i j k ta) (xiF i j k da):=λB φ σ τ H E G R hd e =>
 h B φ σ τ H _ _ R hd λts vs H1 x1 k1 l1 r1=>by
  match ts,k1,r1 with
  | [t,u,z],k1,r1 =>obtain⟨v,w,y,rfl,h1,h2,h3⟩:=xiM r1;have m:∀ {φ':Phi} {i:Nat} {t:Tr} {v:V},Rep (Av B φ') H1 t v->Rep (Av B (φ'.del i)) H1 t v:=λr=>yx (λa o e n=>⟨e,λz=>n (k_ z)⟩) _ _ r;exact⟨v,w,y,rfl,e.nx _ _ _ H1 ((((R.hx x1).setFz h1).setFz (m h2)).setFz (m (m h3))) k1⟩
end
end L2
namespace L2
open PySem
structure Wt (w:F2):Prop where
 pos:0<w.2
 cop:Int.gcd w.1 w.2=1
 nn:0<=w.1
 sm:Fk 40 w
def Cop (f:F2):Prop:=0<f.2/\Int.gcd f.1 f.2=1
theorem cQ (h:0<b):Cop (lfr t b):=by rw[vn h];exact⟨Fra.ud h,Fra.tY h⟩
theorem Sd.low (h:Sd f N D)(c:Cop f):L2.lfr N D=f:=by
 rw[vn h.pd];have:=Fra.aQ (Fra.tY h.pd) c.2 (Fra.ud h.pd) c.1 (by
  have e:=h.e;have l:=Fra.vc N D;generalize (Fra.low N D).1=x at *
  generalize (Fra.low N D).2=y at *
  have hD:=h.pd;have:(x*f.2)*D=(f.1*y)*D:=by grind
  exact xkh (by omega) this)
 exact Prod.ext this.1 this.2
theorem Sd.plusD (h:Sd f N D)(h':Sd g M D):Sd (aA f g) (N+M) D:=by refine Sd.lfr (Pol.pp h.pf h'.pf) h.pd ?_ rfl;have:=h.e;have:=h'.e;grind
def fF (k:Pol.R3->Int)(f:F2)(x:Pol.R3×F2):F2:=aA f (xan x.2 (k x.1,1))
def wsum (k:Pol.R3->Int)(l:List (Pol.R3×F2)):F2:=l.foldl (fF k) (0,1)
theorem fP (k:Pol.R3->Int)(l:List (Pol.R3×F2))(h:∀x∈l,0<x.2.2):Cop (wsum k l):=by
 unfold wsum;have go:∀(l:List (Pol.R3×F2)) (f:F2),Cop f->(∀x∈l,0<x.2.2)->Cop (l.foldl (fF k) f):=λl=>by
  induction l with
  | nil=>exact λf c _=>c
  | cons x l ih =>intro f c h;refine ih _ ?_ λy hy=>h y (xlJ _ hy);have hx:=h x xlK;have:0<(xan x.2 (k x.1,1)).2:=xcy (by show x.2.2*1≠0;omega);exact cQ (Pol.pp c.1 this)
 exact go l (0,1) ⟨by decide,by decide⟩ h
theorem xb2 (hw:0<w.2)(hD:0<D)(e:w.2*q=D):Sd (xan w (r,1)) (q*w.1*r) D:=by
 refine Sd.lfr (by show 0<w.2*1;omega) hD ?_ rfl;show w.1*r*D=q*w.1*r*(w.2*1)
 rw[<-e];grind
theorem Fk.plus2 (h:Fk k f)(h':Fk m g):Fk (k+m+1) (aA f g):=by
 unfold aA;refine nE (by have:=Pol.pp h.pos h'.pos;omega) ?_ ?_
 .exact(h.top.mul h'.bot).add ((h'.top.mul h.bot).mono (by omega))
 .exact(h.bot.mul h'.bot).mono (by omega)
theorem Fk.timI (h:Fk k f)(hr:Bk m r):Fk (k+m) (xan f (r,1)):=by unfold xan;refine nE (by have:=h.pos;show f.2*1≠0;omega) (h.top.mul hr) ?_;show Bk (k+m) (f.2*1);rw[xkG];exact h.bot.mono (by omega)
theorem xe8 (k:Pol.R3->Int):∀(l:List (Pol.R3×F2)),(∀x∈l,Fk 40 x.2/\Bk 10 (k x.1))->Fk (1+51*l.length) (wsum k l):=by
 have go:∀(l:List (Pol.R3×F2)) (f:F2) (n:Nat),Fk n f->(∀x∈l,Fk 40 x.2/\Bk 10 (k x.1))->Fk (n+51*l.length) (l.foldl (fF k) f):=λl=>by
  induction l with
  | nil=>exact λf n c _=>c
  | cons x l ih =>intro f n c h;have hx:=h x xlK;have:=ih (fF k f x) (n+51) (c.plus2 (hx.1.timI hx.2)) λy hy=>h y (xlJ _ hy);rw[xlm];exact this.mono (by omega)
 exact λl h=>go l (0,1) 1 ⟨by unfold Bk;decide,by unfold Bk;decide,by decide⟩ h
theorem wsum_snoc (k:Pol.R3->Int)(l:List (Pol.R3×F2))(x:Pol.R3×F2):wsum k (l++[x])=fF k (wsum k l) x:=by unfold wsum;rw[xk8];rfl
def k0 (r:Pol.R3):Int:=r.1
def k1 (r:Pol.R3):Int:=r.2.1
def k2 (r:Pol.R3):Int:=r.2.2
def xjQ (l:List (Pol.R3×F2)):Tr:=.tup [fT (wsum k0 l),fT (wsum k1 l),fT (wsum k2 l)]
structure WS (rows:List Pol.R3)(ws:List F2):Prop where
 len:rows.length=ws.length
 l100:rows.length<=8
 sm:∀r∈rows,B3k 10 r
 wt:∀w∈ws,Wt w
theorem WS.zip (h:WS rows ws)(hx:x∈rows.zip ws):B3k 10 x.1/\Wt x.2:=by obtain⟨a,b⟩:=x;have:=xlZ hx;exact⟨h.sm a this.1,h.wt b this.2⟩
def bh:TSp:=λts KK=>∃(rows:List Pol.R3) (ws:List F2),ts=[.tup (rows.map trR),.tup (ws.map fT)]/\WS rows ws /\
 ∀a b c D:Int,Sd (wsum k0 (rows.zip ws)) a D->Sd (wsum k1 (rows.zip ws)) b D->Sd (wsum k2 (rows.zip ws)) c D->Bd D->KK (.tup [.lst [.int a,.int b,.int c],.int D])
def xer:TSp:=λts KK=>∃(rows:List Pol.R3) (ws:List F2),ts=[.tup (rows.map trR),.tup (ws.map fT)]/\WS rows ws/\KK (xjQ (rows.zip ws))
def l_ (a b:F2):Prop:=a.2=1/\b.2=1/\¬(a.1=0/\b.1=0)
def xeh:TSp:=λts KK=>∃a b c:F2,ts=[.tup [fT a,fT b,fT c]]/\(0<c.2/\Bd c.2)/\l_ a b/\KK (trR (a.1,b.1,c.1.fdiv c.2))
theorem oW (f:α->Tr)(g:β->Tr):∀(l:List α) (m:List β),xaq (l.map f) (m.map g)=(l.zip m).map λx=>.tup [f x.1,g x.2]
 | [],_=>rfl
 | _::_,[]=>rfl
 | x::l,y::m=>by show Tr.tup [f x,g y]::xaq (l.map f) (m.map g)=_;rw[oW f g l m];rfl
theorem xgB (ht:0<=t/\t<=1000000)(hb:1<=b/\b<=1000000):Wt (lfr t b):=by
 have c:=cQ (t:=t) (b:=b) (by omega);have s:Sd (lfr t b) t b:=by rw[vn (by omega)];exact aS (by omega)
 refine⟨c.1,c.2,?_,nE (by omega) (by unfold Bk;omega) (by unfold Bk;omega)⟩;refine xkL.mp λz=>?_;have:=s.neg.mp z;omega
theorem xeb (ht:0<=t/\t<=1000000):Wt (t,1):=⟨by show(0:Int)<1;decide,by show Int.gcd t 1=1;simp,ht.1,⟨by unfold Bk;simp only;omega,by show Bk 40 1;unfold Bk;decide,by show(0:Int)<1;decide⟩⟩
theorem Cop.lfr (c:Cop f):L2.lfr f.1 f.2=f:=Sd.low (xbk c.1) c
def rwT (x:Pol.R3×F2):Tr:=.tup [trR x.1,fT x.2]
def aD (x:Pol.R3×F2):Bool := !decide (x.2.1=0)
theorem lb (c:Cop f)(h:Wt x.2)(hz:x.2.1=0):fF k f x=f:=by
 have e:x.2=(0,1):=by have g:=h.cop;rw[hz,Int.gcd_zero_left] at g;have p:=h.pos;exact Prod.ext hz (by show x.2.2=1;omega)
 unfold fF;rw[e];have e2:xan (0,1) (k x.1,1)=(0,1):=by
  unfold xan;show L2.lfr (0*k x.1) (1*1)=(0,1)
  rw[xkP];decide
 rw[e2];unfold aA;show L2.lfr (f.1*1+0*f.2) (f.2*1)=f;rw[xkG,xkP,xj_,xkG];exact c.lfr
theorem sG (k:Pol.R3->Int)(l:List (Pol.R3×F2))(h:∀x∈l,Wt x.2):wsum k (l.filter aD)=wsum k l:=by
 have go:∀(l:List (Pol.R3×F2)) (f:F2),Cop f->(∀x∈l,Wt x.2)->(l.filter aD).foldl (fF k) f=l.foldl (fF k) f:=λl=>by
  induction l with
  | nil=>exact λf c _=>rfl
  | cons x l ih =>
   intro f c h;have hx:=h x xlK;have hl:=λy hy=>h y (xlJ x hy);have c':Cop (fF k f x):=cQ (Pol.pp c.1 (xcy (by have:=hx.pos;show x.2.2*1≠0;omega)));by_cases z:x.2.1=0
   .rw[xk3 (by simp[aD,z]),ih f c hl,xk9,lb c hx z]
   .rw[xk4 (by simp[aD,z]),xk9,xk9,ih _ c' hl]
 exact go l (0,1) ⟨by decide,by decide⟩ h
theorem xdS (hD:0<D)(hw:0<w):0<D / (Int.gcd D w:Nat)*w/\D ∣ D / (Int.gcd D w:Nat)*w/\w ∣ D / (Int.gcd D w:Nat)*w/\(D / (Int.gcd D w:Nat)*w).natAbs<=(D*w).natAbs:=by
 have g0:(0:Int)<(Int.gcd D w:Nat):=by have:=xkn D (show w≠0 by omega);omega
 have dl:=xkk D w;have dr:=xkl D w;generalize ((Int.gcd D w:Nat):Int)=g at *
 obtain⟨q,rfl⟩:=dl;obtain⟨p,rfl⟩:=dr;rw[Int.mul_ediv_cancel_left q (show g≠0 by omega)];have q0:0<q:=xkM hD g0;refine⟨Pol.pp q0 hw,⟨p,by grind⟩,Int.dvd_mul_left ..,?_⟩;rw[xkJ,xkJ (g*q)];refine xmo _ ?_;have:1*q<=g*q:=xkB (by omega) (by omega);omega
theorem tU (x:α):∀n:Nat,(List.replicate n [x]).flatten=List.replicate n x
 | 0=>rfl
 | n+1=>by rw[xl1,xk7,tU x n];rfl
theorem t5 {α:Type}{f:α->Tr}{i n:Nat}{di:DE}{τ:TSt}{KK:TSt->Prop}{l:List α}{w:α}(h:nth τ i=.ow (l.map f))(hn:n<l.length)(hd:∀KK':Tr->Prop,KK' (.int n)->di τ KK')(k:KK (τ.set i (.ow ((l.set n w).map f)))):xhq i di (f w) τ KK:=by
 unfold xhq;rw[h];refine hd _ ?_;have e:xhE (l.map f) (f w) (n:Int)=some ((l.set n w).map f):=by show(if n<(l.map f).length then some ((l.map f).set n (f w)) else none)=_;rw[if_pos (by rw[xlq];exact hn),List.map_set]
 show match xhE (l.map f) (f w) (n:Int) with | some us=>KK (τ.set i (.ow us)) | none=>False
 rw[e];exact k
instance (a b:F2):Decidable (l_ a b):=by unfold l_;infer_instance
def xfZ (l:List (Pol.R3×F2)):Tr:=trR ((wsum k0 l).1,(wsum k1 l).1,(wsum k2 l).1.fdiv (wsum k2 l).2)
theorem WS.bot (H:WS rows ws):0<(wsum k2 (rows.zip ws)).2/\Bd (wsum k2 (rows.zip ws)).2:=by
 have f:=xe8 k2 (rows.zip ws) λx hx=>⟨(H.zip hx).2.sm,(H.zip hx).1.2⟩
 have:(rows.zip ws).length<=8:=by rw[List.length_zip];have:=H.l100;omega
 exact⟨f.pos,(f.bot.mono (show 1+51*(rows.zip ws).length<=500 by omega)).bd⟩
def wsT (ws:List F2):Tr:=.tup (ws.map fT)
def GW (n:Nat)(ws:List F2):Prop:=ws.length=n/\∀w∈ws,Wt w
end L2
namespace Trn
abbrev D2:=Int×Int
def cr (p q:D2):Int:=p.1*q.2-p.2*q.1
def sc (m:Int)(p:D2):D2:=(m*p.1,m*p.2)
def ad (p q:D2):D2:=(p.1+q.1,p.2+q.2)
def sb (p q:D2):D2:=(p.1-q.1,p.2-q.2)
theorem yW (p:D2):cr p p=0:=by unfold cr;grind
theorem uI (p q:D2):cr q p = - cr p q:=by unfold cr;grind
theorem bJ (w p q:D2):cr w (ad p q)=cr w p+cr w q:=by unfold cr ad;grind
theorem kZ (w p:D2)(m:Int):cr w (sc m p)=m*cr w p:=by unfold cr sc;grind
theorem lH (w p q:D2):cr w (sb p q)=cr w p-cr w q:=by unfold cr sb;grind
theorem xeT (w p q:D2):cr (ad p q) w=cr p w+cr q w:=by unfold cr ad;grind
theorem mW (w p:D2)(m:Int):cr (sc m p) w=m*cr p w:=by unfold cr sc;grind
theorem m7 (w p q:D2):cr (sb p q) w=cr p w-cr q w:=by unfold cr sb;grind
theorem o7 (h:cr p q=1)(x:D2):x=ad (sc (cr x q) p) (sc (cr p x) q):=by
 have e1:cr x q*p.1+cr p x*q.1=x.1*cr p q:=by unfold cr;grind
 have e2:cr x q*p.2+cr p x*q.2=x.2*cr p q:=by unfold cr;grind
 rw[h] at e1 e2;apply Prod.ext
 .show x.1=cr x q*p.1+cr p x*q.1;omega
 .show x.2=cr x q*p.2+cr p x*q.2;omega
structure Chn (h:List D2):Prop where
 one:∀i p q,h[i]? = some p->h[i+1]? = some q->cr p q=1
 mid:∀i p q r,h[i]? = some p->h[i+1]? = some q->h[i+2]? = some r->∃m,2<=m/\ad p r=sc m q
theorem xav {m a:Int}(h:2<=m)(ha:0<=a):2*a<=m*a:=xkB h ha
theorem Chn.right {h:List D2}(C:Chn h)(w:D2){i:Nat}{p0 q0:D2}(hp:h[i]? = some p0)(hq:h[i+1]? = some q0)(h0:0<=cr w q0)(h1:cr w p0<=cr w q0) :
  ∀k p q,h[i+k]? = some p->h[i+k+1]? = some q->0<=cr w q/\cr w p<=cr w q
 | 0,p,q,ep,eq=>by rw[show i+0=i from rfl] at ep eq;rw[hp] at ep;rw[hq] at eq;cases ep;cases eq;exact⟨h0,h1⟩
 | k+1,p,q,ep,eq=>by
  have il:i+k<h.length:=by have:=(xle.mp ep).1;omega
  obtain⟨a,b⟩:=C.right w hp hq h0 h1 k h[i+k] p (xlc il) ep;obtain⟨m,hm,e⟩:=C.mid (i+k) _ p q (xlc il) ep eq;have e':=xmu (cr w) e;rw[bJ,kZ] at e';have:=xav hm a;omega
theorem Chn.left {h:List D2}(C:Chn h)(w:D2){i:Nat}{p0 q0:D2}(hp:h[i]? = some p0)(hq:h[i+1]? = some q0)(h0:0<=cr w p0)(h1:cr w q0<=cr w p0) :
  ∀k j p q,j+k=i->h[j]? = some p->h[j+1]? = some q->0<=cr w p/\cr w q<=cr w p
 | 0,j,p,q,e,ep,eq=>by cases (show j=i by omega);rw[hp] at ep;rw[hq] at eq;cases ep;cases eq;exact⟨h0,h1⟩
 | k+1,j,p,q,ej,ep,eq=>by
  have il:j+2<h.length:=by have:=(xle.mp hq).1;omega
  obtain⟨a,b⟩:=C.left w hp hq h0 h1 k (j+1) q h[j+2] (by omega) eq (xlc il);obtain⟨m,hm,e⟩:=C.mid j p q _ ep eq (xlc il);have e':=xmu (cr w) e;rw[bJ,kZ] at e';have:=xav hm a;omega
theorem Chn.ge1 {h:List D2}(C:Chn h){i:Nat}{p q:D2}(hp:h[i]? = some p)(hq:h[i+1]? = some q){j:Nat}{x:D2}(hx:h[j]? = some x):1<=cr (sb p q) x:=by
 have one:=C.one i p q hp hq;have gp:cr (sb p q) p=1:=by rw[m7,yW,uI p q];omega
 have gq:cr (sb p q) q=1:=by rw[m7,yW];omega
 have jl:=(xle.mp hx).1;have ql:=(xle.mp hq).1;have R:∀k y,h[i+k+1]? = some y->1<=cr (sb p q) y:=λk=>by
  induction k with
  | zero=>intro y ey;rw[hq] at ey;cases ey;omega
  | succ k ih =>
   intro y ey;have il:i+k+1<h.length:=by have:=(xle.mp ey).1;omega
   have a:=ih _ (xlc il);have b:=C.right (sb p q) hp hq (by omega) (by omega) (k+1) _ y (xlc il) ey;omega
 have L:∀k j y,j+k=i->h[j]? = some y->1<=cr (sb p q) y:=λk=>by
  induction k with
  | zero=>intro j y ej ey;cases (show j=i by omega);rw[hp] at ey;cases ey;omega
  | succ k ih =>
   intro j y ej ey;have il:j+1<h.length:=by omega
   have a:=ih (j+1) _ (by omega) (xlc il);have b:=C.left (sb p q) hp hq (by omega) (by omega) (k+1) j y _ ej ey (xlc il);omega
 by_cases c:j<=i
 .exact L (i-j) j x (by omega) hx
 .exact R (j-i-1) x (by rw[show i+(j-i-1)+1=j by omega];exact hx)
theorem Chn.order {h:List D2}(C:Chn h){i j:Nat}{p x:D2}(hp:h[i]? = some p)(hx:h[j]? = some x)(hij:i<j):1<=cr p x:=by
 have jl:=(xle.mp hx).1;have il:i+1<h.length:=by omega
 have hq:=xlc il;have one:=C.one i p _ hp hq;have R:∀k y,h[i+k+1]? = some y->1<=cr p y:=λk=>by
  induction k with
  | zero=>intro y ey;rw[hq] at ey;cases ey;omega
  | succ k ih =>
   intro y ey;have il:i+k+1<h.length:=by have:=(xle.mp ey).1;omega
   have a:=ih _ (xlc il);have b:=C.right p hp hq (by omega) (by rw[yW];omega) (k+1) _ y (xlc il) ey;omega
 exact R (j-i-1) x (by rw[show i+(j-i-1)+1=j by omega];exact hx)
def InC (u v x:D2):Prop:=0<=cr u x/\0<=cr x v
theorem Chn.made (C:Chn h)(h2:2<=h.length)(hf:h[0]? = some f)(hl:h[h.length-1]? = some l)(hx:InC f l x) :
  ∃i p q,h[i]? = some p/\h[i+1]? = some q/\0<=cr x q/\0<=cr p x:=by
 have go:∀k i p,i+k=h.length-1->h[i]? = some p->0<=cr p x->i<h.length-1->∃i p q,h[i]? = some p/\h[i+1]? = some q/\0<=cr x q/\0<=cr p x:=λk=>by
  induction k with
  | zero=>intro i p e _ _ z;omega
  | succ k ih =>
   intro i p e hp h0 il;have jl:i+1<h.length:=by omega
   have hq:=xlc jl;by_cases c:0<=cr x h[i+1]
   .exact⟨i,p,_,hp,hq,c,h0⟩
   .have s:=uI h[i+1] x;by_cases d:i+1=h.length-1
    .have e2:h[i+1]=l:=by rw[<-d,hq] at hl;cases hl;rfl
     rw[e2] at c;exact absurd hx.2 c
    .exact ih (i+1) _ (by omega) hq (by omega) (by omega)
 exact go (h.length-1) 0 f (by omega) hf hx.1 (by omega)
theorem Chn.get_pair {h:List D2}(h2:2<=h.length){j:Nat}{x:D2}(hx:h[j]? = some x):∃i p q,h[i]? = some p/\h[i+1]? = some q/\(x=p\/x=q):=by
 have jl:=(xle.mp hx).1;by_cases c:j+1<h.length
 .exact⟨j,x,_,hx,xlc c,.inl rfl⟩
 .have il:j-1<h.length:=by omega
  exact⟨j-1,_,x,xlc il,by rw[show j-1+1=j by omega];exact hx,.inr rfl⟩
theorem oD {a b:Int}(ha:0<=a)(hb:0<=b):0<=a*b:=Int.mul_nonneg ha hb
theorem rK {a b:Int}(ha:0<=a)(hb:1<=b):a<=a*b:=by have:=xkA hb ha;omega
theorem Chn.pos {h:List D2}(C:Chn h){f l x:D2}(h2:2<=h.length)(hf:h[0]? = some f)(hl:h[h.length-1]? = some l)(hx:InC f l x)(nz:x≠(0,0)){i:Nat}{p q:D2}(hp:h[i]? = some p)(hq:h[i+1]? = some q) :
  1<=cr (sb p q) x:=by
 obtain⟨j,a,b,ha,hb,c1,c2⟩:=C.made h2 hf hl hx;have e:=o7 (C.one j a b ha hb) x;have g1:=C.ge1 hp hq ha;have g2:=C.ge1 hp hq hb;have e':=xmu (cr (sb p q)) e;rw[bJ,kZ,kZ] at e';have m1:=rK c1 g1;have m2:=rK c2 g2;have:¬(cr x b=0/\cr a x=0):=λz=>by rw[z.1,z.2] at e;apply nz;rw[e];simp[ad,sc]
 omega
def xc8 (u v x:D2):Prop:=(InC u v x/\x≠(0,0))/\∀y z,InC u v y->InC u v z->y≠(0,0)->z≠(0,0)->x≠ad y z
theorem Chn.inC {h:List D2}(C:Chn h){f l x:D2}(hf:h[0]? = some f)(hl:h[h.length-1]? = some l){j:Nat}(hx:h[j]? = some x):InC f l x:=by
 have jl:=(xle.mp hx).1;constructor
 .by_cases c:j=0
  .subst c;rw[hf] at hx;cases hx;rw[yW];omega
  .have:=C.order hf hx (by omega);omega
 .by_cases c:j=h.length-1
  .rw[<-c] at hl;rw[hl] at hx;cases hx;rw[yW];omega
  .have:=C.order hx hl (by omega);omega
theorem Chn.nz {h:List D2}(C:Chn h)(h2:2<=h.length){j:Nat}{x:D2}(hx:h[j]? = some x):x≠(0,0):=λz=>by obtain⟨i,p,q,hp,hq,e⟩:=Chn.get_pair h2 hx;have:=C.one i p q hp hq;rcases e with rfl | rfl<;>rw[z] at this<;>simp[cr] at this
theorem Chn.least {h:List D2}(C:Chn h){f l x:D2}(h2:2<=h.length)(hf:h[0]? = some f)(hl:h[h.length-1]? = some l):(∃j:Nat,h[j]? = some x)↔xc8 f l x:=by
 constructor
 .rintro⟨j,hx⟩;refine⟨⟨C.inC hf hl hx,C.nz h2 hx⟩,λy z hy hz ny nz' e=>?_⟩;obtain⟨i,p,q,hp,hq,ex⟩:=Chn.get_pair h2 hx;have one:=C.one i p q hp hq;have gx:cr (sb p q) x=1:=by
   rcases ex with rfl | rfl
   .rw[m7,yW,uI x q];omega
   .rw[m7,yW];omega
  have g1:=C.pos h2 hf hl hy ny hp hq;have g2:=C.pos h2 hf hl hz nz' hp hq;rw[e,bJ] at gx;omega
 .rintro⟨⟨hc,nz⟩,hs⟩;obtain⟨j,a,b,ha,hb,c1,c2⟩:=C.made h2 hf hl hc;have e:=o7 (C.one j a b ha hb) x;have ca:=C.inC hf hl ha;have cb:=C.inC hf hl hb;generalize cr x b=al at e c1;generalize cr a x=be at e c2;have inc:∀s t:Int,0<=s->0<=t->InC f l (ad (sc s a) (sc t b)):=λs t hs ht=>by
   refine⟨?_,?_⟩
   .rw[bJ,kZ,kZ];have:=oD hs ca.1;have:=oD ht cb.1;omega
   .rw[xeT,mW,mW];have:=oD hs ca.2;have:=oD ht cb.2;omega
  have one:=C.one j a b ha hb;have nz2:∀s t:Int,ad (sc s a) (sc t b)=(0,0)->s=0/\t=0:=λs t z=>by
   have z1:cr (ad (sc s a) (sc t b)) b=0:=by rw[z];simp[cr]
   have z2:cr a (ad (sc s a) (sc t b))=0:=by rw[z];simp[cr]
   rw[xeT,mW,mW,yW,one] at z1;rw[bJ,kZ,kZ,yW,one] at z2;omega
  by_cases c:al+be<=1
  .have:(al=0/\be=0)\/(al=1/\be=0)\/(al=0/\be=1):=by omega
   rcases this with ⟨rfl,rfl⟩ | ⟨rfl,rfl⟩ | ⟨rfl,rfl⟩
   .exact absurd (by rw[e];simp[ad,sc]) nz
   .exact⟨j,by rw[ha,e];simp[ad,sc]⟩
   .exact⟨j+1,by rw[hb,e];simp[ad,sc]⟩
  .exfalso;by_cases d:1<=al
   .refine hs a (ad (sc (al-1) a) (sc be b)) ca (inc _ _ (by omega) c2) (C.nz h2 ha) (λz=>?_) ?_
    .have:=nz2 _ _ z;omega
    .rw[e];simp only[ad,sc];apply Prod.ext<;>simp only<;>grind
   .refine hs b (ad (sc al a) (sc (be-1) b)) cb (inc _ _ c1 (by omega)) (C.nz h2 hb) (λz=>?_) ?_
    .have:=nz2 _ _ z;omega
    .rw[e];simp only[ad,sc];apply Prod.ext<;>simp only<;>grind
end Trn
namespace Trn
theorem Chn.snoc (C:Chn (h0++[p,q]))(hm:2<=m):Chn (h0++[p,q]++[sb (sc m q) p]):=by
 have ep:(h0++[p,q])[h0.length]? = some p:=by simp
 have eq':(h0++[p,q])[h0.length+1]? = some q:=by rw[xlb (by omega)];simp[show h0.length+1-h0.length=1 by omega]
 have one:=C.one _ _ _ ep eq';have new:∀ {i x},(h0++[p,q]++[sb (sc m q) p])[i]? = some x->(i<h0.length+2/\(h0++[p,q])[i]? = some x)\/(i=h0.length+2/\x=sb (sc m q) p):=λ {i x} h=>by
  have l2:(h0++[p,q]).length=h0.length+2:=by simp
  by_cases c:i<h0.length+2
  .rw[xla (by omega)] at h;exact .inl ⟨c,h⟩
  .rw[xlb (by omega),l2] at h;have il:=(xle.mp h).1;simp at il;have:i=h0.length+2:=by omega
   rw[this] at h;simp at h;exact .inr ⟨this,h.symm⟩
 refine⟨λi x y hx hy=>?_,λi x y z hx hy hz=>?_⟩
 .rcases new hy with ⟨c,hy⟩ | ⟨c,rfl⟩
  .rcases new hx with ⟨_,hx⟩ | ⟨d,_⟩
   .exact C.one i x y hx hy
   .omega
  .rcases new hx with ⟨_,hx⟩ | ⟨d,_⟩
   .rw[show i=h0.length+1 by omega,eq'] at hx;cases hx;rw[lH,kZ,yW,uI p q];omega
   .omega
 .rcases new hz with ⟨c,hz⟩ | ⟨c,rfl⟩
  .rcases new hx with ⟨_,hx⟩ | ⟨d,_⟩
   .rcases new hy with ⟨_,hy⟩ | ⟨d,_⟩
    .exact C.mid i x y z hx hy hz
    .omega
   .omega
  .rcases new hx with ⟨_,hx⟩ | ⟨d,_⟩
   .rcases new hy with ⟨_,hy⟩ | ⟨d,_⟩
    .rw[show i=h0.length by omega,ep] at hx;cases hx;rw[show i+1=h0.length+1 by omega,eq'] at hy;cases hy;exact⟨m,hm,by apply Prod.ext<;>simp only[ad,sb,sc]<;>omega⟩
    .omega
   .omega
def Bx (n:Int)(p:D2):Prop:=(-n<=p.1/\p.1<=n)/\-n<=p.2/\p.2<=n
theorem xhO (hD:0<D)(e:x*D=T*a+S*b)(hT:0<=T/\T<=D)(hS:0<=S/\S<=D)(ha:-M<=a/\a<=M)(hb:-M<=b/\b<=M):-(2*M)<=x/\x<=2*M:=by
 have hM:0<=M:=by omega
 have t1:T*a<=D*M:=Int.le_trans (xkA ha.2 hT.1) (xkB hT.2 hM);have s1:S*b<=D*M:=Int.le_trans (xkA hb.2 hS.1) (xkB hS.2 hM);have t2:-(D*M)<=T*a:=by
  have:=xkA ha.1 hT.1;have:=xkB hT.2 hM;rw[xkD] at *
  omega
 have s2:-(D*M)<=S*b:=by
  have:=xkA hb.1 hS.1;have:=xkB hS.2 hM;rw[xkD] at *
  omega
 constructor
 .refine xkq (a:=D) ?_ hD;rw[e,xkK,show 2*M*D=D*M+D*M by grind];omega
 .refine xkq (a:=D) ?_ hD;rw[e,show 2*M*D=D*M+D*M by grind];omega
theorem ji (f l x:D2):x.1*cr f l=cr x l*f.1+cr f x*l.1/\x.2*cr f l=cr x l*f.2+cr f x*l.2:=by unfold cr;constructor<;>grind
structure Run (f l:D2)(M:Int)(h0:List D2)(p q:D2):Prop where
 chn:Chn (h0++[p,q])
 fst:(h0++[p,q])[0]? = some f
 s:0<=cr f p/\cr f p<cr f q
 t:0<=cr q l/\cr q l<cr p l/\cr p l<=cr f l
 len:(h0.length:Int)+cr q l<=cr f l
 bd:∀x∈h0++[p,q],Bx (2*M) x
theorem Run.one (R:Run f l M h0 p q):cr p q=1:=by refine R.chn.one h0.length p q (by simp) ?_;rw[xlb (by omega)];simp[show h0.length+1-h0.length=1 by omega]
theorem cdiv (hb:0<b):0<=-((-a).fdiv b)*b-a/\-((-a).fdiv b)*b-a<b:=by rw[xki _ (by omega)];have h1:=xkf (-a) (show b≠0 by omega);have h2:=xke (-a) hb;have h3:=Int.mul_ediv_add_emod (-a) b;rw[xkK,xkv];omega
theorem Run.step (R:Run f l M h0 p q)(hf:Bx M f)(hl:Bx M l)(h0':0<cr q l)(em:m = -((-(cr p l)).fdiv (cr q l))) :
  2<=m/\m<=cr f l/\Run f l M (h0++[p]) q (sb (sc m q) p)/\cr (sb (sc m q) p) l<cr q l:=by
 obtain⟨t1,t2,t3⟩:=R.t;obtain⟨s1,s2⟩:=R.s;obtain⟨d1,d2⟩:=cdiv (a:=cr p l) h0';rw[<-em] at d1 d2;have m2:2<=m:=by refine xkL.mp λz=>?_;have:m*cr q l<=1*cr q l:=xkB (by omega) (by omega);omega
 have mD:m<=cr f l:=by refine xkL.mp λz=>?_;have a:(cr f l+1)*cr q l<=m*cr q l:=xkB (by omega) (by omega);have b:cr f l*1<=cr f l*cr q l:=xkA (by omega) (by omega);rw[Int.add_mul] at a;omega
 have sr:cr f (sb (sc m q) p)=m*cr f q-cr f p:=by rw[lH,kZ]
 have tr:cr (sb (sc m q) p) l=m*cr q l-cr p l:=by rw[m7,mW]
 have sg:=xav m2 (show 0<=cr f q by omega);have C:=R.chn.snoc m2;rw[show h0++[p,q]++[sb (sc m q) p]=(h0++[p])++[q,sb (sc m q) p] by simp] at C;have key:Chn (h0++[p]++[q,sb (sc m q) p])/\(0<=cr f q/\cr f q<cr f (sb (sc m q) p))/\(0<=cr (sb (sc m q) p) l/\cr (sb (sc m q) p) l<cr q l/\cr q l<=cr f l) :=⟨C,⟨by omega,by omega⟩,by omega,by omega,by omega⟩
 have one':cr q (sb (sc m q) p)=1:=by rw[lH,kZ,yW,uI p q,R.one];omega
 have sle:cr f (sb (sc m q) p)<=cr f l:=by have e:=xmu (cr f) (o7 one' l);rw[bJ,kZ,kZ,uI (sb (sc m q) p) l] at e;have a:(cr (sb (sc m q) p) l+1)*cr f (sb (sc m q) p)<=cr q l*cr f (sb (sc m q) p):=xkB (by omega) (by omega);have b:cr (sb (sc m q) p) l*cr f q<=cr (sb (sc m q) p) l*cr f (sb (sc m q) p):=xkA (by omega) (by omega);rw[Int.add_mul] at a;rw[xkK] at e;omega
 refine⟨m2,mD,⟨C,?_,key.2.1,key.2.2,?_,λx hx=>?_⟩,by omega⟩
 .have e:h0++[p]++[q,sb (sc m q) p]=(h0++[p,q])++[sb (sc m q) p]:=by simp
  rw[e,xla (by simp)];exact R.fst
 .have:=R.len;simp only[xll,xlx];omega
 .have e:h0++[p]++[q,sb (sc m q) p]=(h0++[p,q])++[sb (sc m q) p]:=by simp
  rw[e] at hx;rcases xlF.mp hx with hx | hx
  .exact R.bd x hx
  .rw[xlU.mp hx];obtain⟨e1,e2⟩:=ji f l (sb (sc m q) p);exact⟨xhO (by omega) e1 ⟨by omega,by omega⟩ ⟨by omega,sle⟩ hf.1 hl.1,xhO (by omega) e2 ⟨by omega,by omega⟩ ⟨by omega,sle⟩ hf.2 hl.2⟩
theorem Run.stop (R:Run f l M h0 p q)(hg:Int.gcd l.1 l.2=1):cr q l=0↔q=l:=by
 constructor
 .intro z;have e:=o7 R.one l;rw[uI q l,z] at e;have e1:l.1=cr p l*q.1:=by have:=xmu Prod.fst e;simp only[ad,sc] at this;omega
  have e2:l.2=cr p l*q.2:=by have:=xmu Prod.snd e;simp only[ad,sc] at this;omega
  have d:cr p l ∣ ((Int.gcd l.1 l.2:Nat):Int):=xka ⟨q.1,e1⟩ ⟨q.2,e2⟩;rw[hg] at d;have t:=R.t;have:cr p l=1:=Int.eq_one_of_dvd_one (by omega) d;rw[this] at e1 e2;exact Prod.ext (by omega) (by omega)
 .intro e;rw[e,yW]
end Trn
namespace Trn
def gd (p:D2):Int:=(Int.gcd p.1 p.2:Nat)
def und (p:D2):D2:=(p.1 / gd p,p.2 / gd p)
theorem vF (h:p≠(0,0)):0<gd p:=by
 unfold gd;have:0<Int.gcd p.1 p.2:=Int.gcd_pos_iff.mpr (by
  by_cases c:p.1=0
  .exact .inr λz=>h (Prod.ext c z)
  .exact .inl c)
 omega
theorem fw (h:p≠(0,0)):p=sc (gd p) (und p):=by
 apply Prod.ext
 .exact(xkx (xkk p.1 p.2)).symm
 .exact(xkx (xkl p.1 p.2)).symm
theorem xbr (h:p≠(0,0)):Int.gcd (und p).1 (und p).2=1:=by have g0:=vF h;unfold gd at g0;exact Int.gcd_ediv_gcd_ediv_gcd (by omega)
theorem o9 (h:p≠(0,0))(b:Bx n p):Bx n (und p):=by
 have g0:=vF h;have e:=fw h;have k:∀ {a c g:Int},a=g*c->0<g->(-n<=a/\a<=n)->-n<=c/\c<=n:=λ {a c g} e hg hb=>by
  by_cases z:0<=c
  .have:1*c<=g*c:=xkB (by omega) z;omega
  .have:g*c<=1*c:=Int.mul_le_mul_of_nonpos_right (by omega) (by omega);omega
 exact⟨k (xmu Prod.fst e) g0 b.1,k (xmu Prod.snd e) g0 b.2⟩
theorem lF (h:0<cr u v):u≠(0,0)/\v≠(0,0):=by constructor<;>intro z<;>rw[z] at h<;>simp[cr] at h
theorem xea (h:0<cr u v):cr u v=gd u*(gd v*cr (und u) (und v))/\0<cr (und u) (und v):=by
 obtain⟨hu,hv⟩:=lF h;have e:cr u v=gd u*(gd v*cr (und u) (und v)):=by
  conv=>lhs;rw[fw hu,fw hv]
  rw[mW,kZ]
 refine⟨e,?_⟩;have a:=vF hu;have b:=vF hv;rw[e] at h;exact xkM (xkM h a) b
theorem xaU {g a:Int}(h:0<g):0<=g*a↔0<=a:=by
 constructor
 .intro z;refine xkL.mp λc=>?_;have:=xkF h c;omega
 .exact λz=>Int.mul_nonneg (xko h) z
theorem jm {u v x:D2}(h:0<cr u v):InC (und u) (und v) x↔InC u v x:=by obtain⟨hu,hv⟩:=lF h;unfold InC;have e1:cr u x=gd u*cr (und u) x:=(xmu (λy=>cr y x) (fw hu)).trans (mW _ _ _);have e2:cr x v=gd v*cr x (und v):=(xmu (λy=>cr x y) (fw hv)).trans (kZ _ _ _);rw[e1,e2,xaU (vF hu),xaU (vF hv)]
def inS (u v x:D2):Bool:=decide (((0<=cr x v/\cr x v<=cr u v)/\0<=cr u x/\cr u x<=cr u v)/\x≠(0,0))
theorem xc8.parts (h:0<cr f l)(L:xc8 f l x):cr x l<=cr f l/\cr f x<=cr f l:=by
 obtain⟨⟨⟨c1,c2⟩,nz⟩,hs⟩:=L;obtain⟨nf,nl⟩:=lF h;have e:∀a b:D2,a=ad b (sb a b):=λa b=>by apply Prod.ext<;>simp only[ad,sb]<;>omega
 constructor
 .refine xkL.mp λz=>hs f (sb x f) ⟨by rw[yW];omega,by omega⟩ ⟨by rw[lH,yW];omega,by rw[m7];omega⟩ nf (λw=>?_) (e x f);have:cr (sb x f) l=0:=by rw[w];simp[cr]
  rw[m7] at this;omega
 .refine xkL.mp λz=>hs l (sb x l) ⟨by omega,by rw[yW];omega⟩ ⟨by rw[lH];omega,by rw[m7,yW];omega⟩ nl (λw=>?_) (e x l);have:cr f (sb x l)=0:=by rw[w];simp[cr]
  rw[lH] at this;omega
theorem ah (h:inS u v x=true):InC u v x/\x≠(0,0):=by have h:=xmB h;exact⟨⟨h.1.2.1,h.1.1.1⟩,h.2⟩
theorem xbJ (h:0<cr u v):(inS u v x=true/\∀p,inS u v p=true->inS u v (sb x p)=true->False)↔xc8 (und u) (und v) x:=by
 obtain⟨eD,hD⟩:=xea h;obtain⟨hu,hv⟩:=lF h;constructor
 .rintro⟨hx,hs⟩;refine⟨⟨(jm h).mpr (ah hx).1,(ah hx).2⟩,λy z hy hz ny nz e=>?_⟩;have hy:=(jm h).mp hy;have hz:=(jm h).mp hz;have hx:=xmB hx;have ez:sb x y=z:=by rw[e];apply Prod.ext<;>simp only[ad,sb]<;>omega
  have e1:cr x v=cr y v+cr z v:=by rw[e,xeT]
  have e2:cr u x=cr u y+cr u z:=by rw[e,bJ]
  obtain⟨hy1,hy2⟩:=hy;obtain⟨hz1,hz2⟩:=hz;refine hs y (xmx ⟨⟨⟨hy2,by omega⟩,hy1,by omega⟩,ny⟩) ?_;rw[ez];exact xmx ⟨⟨⟨hz2,by omega⟩,hz1,by omega⟩,nz⟩
 .intro L;obtain⟨p1,p2⟩:=L.parts hD;have c:=(jm h).mp L.1.1;have e1:cr x v=gd v*cr x (und v):=(xmu (λy=>cr x y) (fw hv)).trans (kZ _ _ _);have e2:cr u x=gd u*cr (und u) x:=(xmu (λy=>cr y x) (fw hu)).trans (mW _ _ _);have gu:=vF hu;have gv:=vF hv;have b1:cr x v<=cr u v:=by rw[e1,eD];have a1:gd v*cr x (und v)<=gd v*cr (und u) (und v):=xkA p1 (by omega);have a2:=rK (a:=gd v*cr (und u) (und v)) (b:=gd u) (Int.mul_nonneg (by omega) (by omega)) (by omega);rw[xkv _ (gd u)] at a2;omega
  have b2:cr u x<=cr u v:=by rw[e2,eD];have a1:gd u*cr (und u) x<=gd u*cr (und u) (und v):=xkA p2 (by omega);have a2:=rK (a:=cr (und u) (und v)) (b:=gd v) (by omega) (by omega);rw[xkv _ (gd v)] at a2;have a3:=xkA a2 (show 0<=gd u by omega);omega
  refine⟨xmx ⟨⟨⟨c.2,b1⟩,c.1,b2⟩,L.1.2⟩,λp hp hq=>?_⟩;have hp:=ah hp;have hq:=ah hq;refine L.2 p (sb x p) ((jm h).mpr hp.1) ((jm h).mpr hq.1) hp.2 hq.2 ?_;apply Prod.ext<;>simp only[ad,sb]<;>omega
structure aC (u v:D2)(h:List D2):Prop where
 chn:Chn h
 l2:2<=h.length
 len:h.length<=100000
 fst:h[0]? = some (und u)
 lst:h[h.length-1]? = some (und v)
 bd:∀x∈h,Bx 1000 x
theorem aC.mem {u v x:D2}{h:List D2}(hD:0<cr u v)(B:aC u v h):x∈h↔(inS u v x=true/\∀p,inS u v p=true->inS u v (sb x p)=true->False):=by rw[xbJ hD,<-B.chn.least B.l2 B.fst B.lst];exact List.mem_iff_getElem?
end Trn
namespace L2
open PySem Trn
def drD (p:D2):Tr:=drT p.1 p.2
theorem xhp (hn:n<=1000000)(hu:Bx n u)(hv:Bx n v):L4 u.1 u.2 v.1 v.2:=by unfold Bx at hu hv;unfold L4 L24;omega
theorem xak (hn:n<=1000000)(hu:Bx n u):Bd u.1/\Bd u.2:=⟨wO (by unfold Bx at hu;omega),wO (by unfold Bx at hu;omega)⟩
theorem _root_.Trn.Bx.mono (h:Bx n u)(hm:n<=m):Bx m u:=by unfold Bx at *;omega
theorem xdc (hu:Bx n u)(hv:Bx n v):-(2*(n*n))<=cr u v/\cr u v<=2*(n*n):=by
 obtain⟨k,rfl⟩:∃k:Nat,n=(k:Int):=⟨n.toNat,by unfold Bx at hu;omega⟩
 have a:=oG hu.1 hv.2;have b:=oG hu.2 hv.1;rw[Int.natCast_mul] at a b;unfold cr;omega
def xeM:TSp:=λts KK=>∃p:D2,ts=[drD p]/\p≠(0,0)/\Bx 1000 p/\KK (drD (und p))
def mL:TSp:=λts KK=>∃a b:Int,ts=[.int a,.int b]/\((-200<=a/\a<=200)/\-200<=b/\b<=200)/\Int.gcd a b=1/\∀p q:Int,a*p+b*q=1->Bk 1700 p->Bk 1700 q->KK (.tup [.int p,.int q])
def aL:TSp:=λts KK=>∃f l:D2,ts=[drD f,drD l]/\Bx 200 f/\Bx 200 l/\Int.gcd f.1 f.2=1/\0<cr f l/\∀q:D2,cr f q=1->0<=cr q l->cr q l<cr f l->KK (drD q)
def dj:TSp:=λts KK=>∃p q l:D2,ts=[drD p,drD q,drD l]/\(Bx 1000 p/\Bx 1000 q/\Bx 1000 l)/\0<cr q l/\KK (drD (sb (sc (-((-(cr p l)).fdiv (cr q l))) q) p))
def oX:TSp:=λts KK=>∃u v:D2,ts=[drD u,drD v]/\Bx 200 u/\Bx 200 v/\0<cr u v/\∀h,aC u v h->KK (.lst (h.map drD))
theorem xb0 (p q:D2):teq (drD p) (drD q)=decide (p=q):=xcu p q
theorem xcQ (p q:D2):xcV (drD p) (drD q):=⟨rfl,rfl,by show min 1 1<=64;decide⟩
theorem oC {a b:Int}(hb:b≠0):(a.fmod b).natAbs<b.natAbs:=by
 rw[Int.fmod_eq_emod];have h1:=xkf a hb;have h2:=Int.emod_lt a hb;split
 .omega
 .rename_i c;have hn:¬0<=b:=λz=>c (.inl z);have:a % b≠0:=λz=>c (.inr (Int.dvd_of_emod_eq_zero z));omega
theorem fO {a b:Int}(hb:b≠0):(a.fdiv b).natAbs<=a.natAbs+1:=by
 have e:=Int.mul_fdiv_add_fmod a b;have m:=oC (a:=a) hb;have e2:(b*a.fdiv b).natAbs=b.natAbs*(a.fdiv b).natAbs:=xkJ _ _;have e3:(b*a.fdiv b).natAbs<=a.natAbs+b.natAbs:=by omega
 rw[e2] at e3;refine Nat.not_lt.mp λz=>?_;have h1:b.natAbs*(a.natAbs+2)<=b.natAbs*(a.fdiv b).natAbs:=Nat.mul_le_mul_left _ (by omega);have h2:1*a.natAbs<=b.natAbs*a.natAbs:=xmo _ (by omega);rw[Nat.mul_add] at h1;omega
theorem fmod_eq (a b:Int):a-a.fdiv b*b=a.fmod b:=by have e:=Int.mul_fdiv_add_fmod a b;rw[xkv] at e;omega
theorem xdy (a b:Int):Int.gcd b (a.fmod b)=Int.gcd a b:=by
 rw[<-fmod_eq,Int.gcd_comm a b];apply Nat.dvd_antisymm
 .refine Int.dvd_gcd (xkk _ _) ?_;have h1:=xkk b (a-a.fdiv b*b);have h2:=xkl b (a-a.fdiv b*b);have:=Int.dvd_add h2 (Int.dvd_mul_of_dvd_right (b:=a.fdiv b) h1);rwa [show a-a.fdiv b*b+a.fdiv b*b=a by omega] at this
 .exact Int.dvd_gcd (xkk _ _) (Int.dvd_sub (xkl _ _) (Int.dvd_mul_of_dvd_right (xkk _ _)))
theorem xbO (ts:List α)(x y:α):atT (ts++[x,y]) (-2)=some x:=by
 show(if 1<(ts++[x,y]).length then getT (ts++[x,y]) ((ts++[x,y]).length-1-1) else none)=_;have e:(ts++[x,y]).length=ts.length+2:=by simp
 rw[e,if_pos (by omega),hZ,show ts.length+2-1-1=ts.length by omega];simp
end L2
namespace L2
open PySem Trn
def yD (rows:List Pol.R3)(i:Nat):Pol.R3:=rows.getD i (0,0,0)
def xC (rows:List Pol.R3)(i:Nat):D2:=((yD rows i).1,(yD rows i).2.1)
theorem vD (h:i<rows.length):rows[i]? = some (yD rows i):=by unfold yD;rw[xk_,xlc h];rfl
theorem zy (h:i<rows.length):yD rows i∈rows:=xlQ (vD h)
def zA (rows:List Pol.R3)(n:Nat)(acc:Option Nat)(o:Nat):Option Nat :=if 0<cr (xC rows n) (xC rows o) then(match acc with | none=>some o | some m=>if 0<cr (xC rows o) (xC rows m) then some o else some m) else acc
def m9 (rows:List Pol.R3)(nums:List Nat)(n:Nat):Option Nat:=nums.foldl (zA rows n) none
theorem sy:∀(nums:List Nat) (acc:Option Nat),(∀m,acc=some m->0<cr (xC rows n) (xC rows m)) ->
  (∀m,nums.foldl (zA rows n) acc=some m->0<cr (xC rows n) (xC rows m)/\(m∈nums\/acc=some m))/\((acc≠none\/∃o∈nums,0<cr (xC rows n) (xC rows o))->nums.foldl (zA rows n) acc≠none)
 | [],acc,h=>⟨λm e=>⟨h m e,.inr e⟩,λz=>z.elim id λ⟨o,ho,_⟩=>absurd ho (by simp)⟩
 | o::nums,acc,h=>by
  have h':∀m,zA rows n acc o=some m->0<cr (xC rows n) (xC rows m)/\(m=o\/acc=some m):=λm e=>by
   unfold zA at e;split at e
   .rename_i c;cases acc with
    | none=>cases e;exact⟨c,.inl rfl⟩
    | some k =>
     dsimp only at e;split at e
     .cases e;exact⟨c,.inl rfl⟩
     .cases e;exact⟨h _ rfl,.inr rfl⟩
   .exact⟨h m e,.inr e⟩
  obtain⟨g1,g2⟩:=sy nums (zA rows n acc o) λm e=>(h' m e).1;refine⟨λm e=>?_,λz=>g2 ?_⟩
  .obtain⟨p,q⟩:=g1 m e;refine⟨p,?_⟩;rcases q with q | q
   .exact .inl (xlJ _ q)
   .rcases(h' m q).2 with r | r
    .exact .inl (by rw[r];exact xlK)
    .exact .inr r
  .have keep:acc≠none->zA rows n acc o≠none:=λa=>by
    unfold zA;split
    .cases acc with
     | none=>exact absurd rfl a
     | some k=>dsimp only;split<;>exact λz=>nomatch z
    .exact a
   rcases z with z | ⟨o',ho,c⟩
   .exact .inl (keep z)
   .rcases xlI.mp ho with rfl | ho
    .left;unfold zA;rw[if_pos c];cases acc with
     | none=>exact λz=>nomatch z
     | some k=>dsimp only;split<;>exact λz=>nomatch z
    .exact .inr ⟨o',ho,c⟩
def zJ (rows:List Pol.R3)(nums:List Nat):List (Nat×Nat):=nums.filterMap λn=>(m9 rows nums n).map λm=>(n,m)
theorem ub (h:ij∈zJ rows nums):ij.1∈nums/\ij.2∈nums/\0<cr (xC rows ij.1) (xC rows ij.2):=by
 obtain⟨n,hn,e⟩:=xlM.mp h;cases q:m9 rows nums n with
 | none=>rw[q] at e;cases e
 | some m =>rw[q] at e;cases e;obtain⟨p,r⟩:=(sy (rows:=rows) (n:=n) nums none (λm e=>nomatch e)).1 m q;exact⟨hn,r.resolve_right (λz=>nomatch z),p⟩
theorem dM (hi:i∈nums)(hj:j∈nums)(h:0<cr (xC rows i) (xC rows j)):∃m,(i,m)∈zJ rows nums:=by
 have:=(sy (rows:=rows) (n:=i) nums none (λm e=>nomatch e)).2 (.inr ⟨j,hj,h⟩);cases q:m9 rows nums i with
 | none=>exact absurd q this
 | some m=>exact⟨m,xlM.mpr ⟨i,hi,by rw[q];rfl⟩⟩
def xev (n i j:Nat)(p q:Int):List Int:=((List.replicate n (0:Int)).set i p).set j q
def wtw (n i j:Nat)(p q T:Int):List F2:=(xev n i j p q).map λm=>lfr m T
def lin (k:Pol.R3->Int)(rows:List Pol.R3)(ns:List Int):Int:=((rows.zip ns).map λx=>x.2*k x.1).sum
theorem tI (k:Pol.R3->Int):∀(rows:List Pol.R3) (n:Nat),lin k rows (List.replicate n 0)=0
 | [],n=>by simp[lin]
 | r::rows,0=>by simp[lin]
 | r::rows,n+1=>by
  have:=tI k rows n;unfold lin at *
  simp only[xl1,xma,xlB,List.sum_cons];omega
theorem r9 (k:Pol.R3->Int):∀(rows:List Pol.R3) (ns:List Int) (i:Nat) (p:Int),i<ns.length->i<rows.length->lin k rows (ns.set i p)=lin k rows ns+(p-ns.getD i 0)*k (yD rows i)
 | [],_,_,_,_,h=>by simp at h
 | _::_,[],_,_,h,_=>by simp at h
 | r::rows,m::ns,0,p,_,_=>by simp only[lin,List.set_cons_zero,xma,xlB,List.sum_cons,yD,List.getD_cons_zero];rw[Int.sub_mul];omega
 | r::rows,m::ns,i+1,p,h1,h2=>by
  have:=r9 k rows ns i p (by simpa using h1) (by simpa using h2);simp only[lin,List.set_cons_succ,xma,xlB,List.sum_cons,yD,List.getD_cons_succ] at *
  omega
theorem xf3 (k:Pol.R3->Int)(p q:Int)(hi:i<rows.length)(hj:j<rows.length)(ne:i≠j):lin k rows (xev rows.length i j p q)=p*k (yD rows i)+q*k (yD rows j):=by
 unfold xev;rw[r9 k rows _ j q (by simp;omega) hj,r9 k rows _ i p (by simp;omega) hi,tI];have e1:(List.replicate rows.length (0:Int)).getD i 0=0:=by rw[xk_,xlh,if_pos hi];rfl
 have e2:((List.replicate rows.length (0:Int)).set i p).getD j 0=0:=by rw[xk_,xli ne,xlh,if_pos hj];rfl
 rw[e1,e2,Int.sub_zero,Int.sub_zero];omega
theorem xgA (hT:0<T):Sd (lfr m T) m T:=by rw[vn hT];exact aS hT
theorem xeP (h:Sd w n D):Sd (xan w (r,1)) (n*r) D:=by
 refine Sd.lfr (by have:=h.pf;show 0<w.2*1;omega) h.pd ?_ rfl;have:=h.e;show w.1*r*D=n*r*(w.2*1)
 grind
theorem xa7 (k:Pol.R3->Int)(hT:0<T)(rows:List Pol.R3)(ns:List Int):Sd (wsum k (rows.zip (ns.map λm=>lfr m T))) (lin k rows ns) T:=by
 have go:∀(rows:List Pol.R3) (ns:List Int) (f:F2) (N:Int),Sd f N T->Sd ((rows.zip (ns.map λm=>lfr m T)).foldl (fF k) f) (N+lin k rows ns) T:=λrows=>by
  induction rows with
  | nil=>intro ns f N h;simpa [lin] using h
  | cons r rows ih =>
   intro ns f N h;cases ns with
   | nil=>simpa [lin] using h
   | cons m ns =>
    have:=ih ns (fF k f (r,lfr m T)) (N+m*k r) (h.plusD (xeP (xgA hT)));rw[xlB,xma,xk9];have e:N+lin k (r::rows) (m::ns)=N+m*k r+lin k rows ns:=by simp only[lin,xma,xlB,List.sum_cons];omega
    rw[e];exact this
 have:=go rows ns (0,1) 0 ⟨by decide,hT,by show(0:Int)*T=0*1;omega⟩;rw[xkO] at this;exact this
theorem Sd.floor (h:Sd f N D):f.1 / f.2=N / D:=by have e:=h.e;have a:f.1 / f.2=(f.1*D) / (f.2*D):=(xky f.1 f.2 h.pd).symm;rw[a,e,xkv f.2 D];exact xky N D h.pf
theorem pM (n:Int):Cop (n,1):=⟨by show(0:Int)<1;decide,by show Int.gcd n 1=1;simp⟩
end L2
namespace L2
open PySem PySem.Spec PyProof.Rows
open Builtin.SmallTypes (nextOf)
section
variable {prog:Program} {w:World} {A:Around} {E:Value->Shared->Prop} {s:Shared} {z ti to i1 i2 i3 a1 a2 a3:Addr} {vs us ws:List Value} {t1 t2 t3:Nat->Heap->Prop} {s1 s2 s3:Heap->Prop}
end
end L2
namespace L2
open PySem PySem.Spec PyProof.Rows
section
variable {prog:Program} {w:World} {A:Around} {E:Value->Shared->Prop} {s:Shared}
end
section
variable {P:Program} {w:World} {K:PySem.W.Frag} {z ti to i1 i2 i3 a1 a2 a3:Addr} {b c' e':Bool}
end
section
variable {X:Cx}
end
section
variable {K:PySem.W.Frag}
end
end L2
namespace L2
open PySem PySem.Spec PyProof.Rows
open Builtin.SmallTypes (nextOf)
section
variable {prog:Program} {w:World} {A:Around} {E:Value->Shared->Prop} {s:Shared} {z ti to i1 i2 a1 a2:Addr} {vs us:List Value} {t1 t2:Nat->Heap->Prop} {s1 s2:Heap->Prop}
end
section
variable {P:Program} {w:World} {K:PySem.W.Frag} {z ti to i1 i2 a1 a2:Addr} {b c':Bool}
end
section
variable {X:Cx}
end
end L2
namespace L2
open PySem Trn
theorem cU (nz:x≠(0,0))(c:InC u v x):fh u.1 u.2 v.1 v.2 (drD x)=.tup [xdE (cr x v) (cr u v),xdE (cr u x) (cr u v)]:=by
 have e1:fh u.1 u.2 v.1 v.2 (drD x)=if x.1=0/\x.2=0 then .non else if tn x.1 x.2 v.1 v.2<0\/tn u.1 u.2 x.1 x.2<0 then .non else .tup [xdE (tn x.1 x.2 v.1 v.2) (tn u.1 u.2 v.1 v.2),xdE (tn u.1 u.2 x.1 x.2) (tn u.1 u.2 v.1 v.2)]:=rfl
 rw[e1,if_neg (λz=>nz (Prod.ext z.1 z.2)),if_neg]
 .rfl
 .have a:tn x.1 x.2 v.1 v.2=cr x v:=rfl;have b:tn u.1 u.2 x.1 x.2=cr u x:=rfl;rw[a,b];have:=c.1;have:=c.2;omega
theorem xgo (hn:n<=1000000)(hu:Bx n u):L24 u.1/\L24 u.2:=by unfold Bx at hu;unfold L24;omega
end L2
namespace L2
open PySem PySem.Spec PySem.Calls PyProof.Rows
section
variable {X:Cx} {pins:List (Addr×Obj)} {σ:St} {H H':Hp} {s s':Shared} {ea C:Addr}
end
end L2
namespace L2
open PySem PySem.Spec PyProof.Rows
section
variable {X:Cx} {a b:Expr} {rest:List Expr} {ta tb:TE} {pos:Pos}
end
section
variable {K:PySem.W.Frag} {fr:Bool}
end
section
variable {P:Program} {w:World} {K:PySem.W.Frag} {mg:Str->Option Value} {base:Heap} {k n:Nat} {x qual:Str} {st:Stmt} {f:Addr} {fd:FuncData} {N ps:List Str} {fr:Bool} {sp:TSp}
end
end L2
namespace L2
open PySem
theorem hW.ws {rows:List Pol.R3}{ws:List F2}(hf:xg rows=true)(h:GW rows.length ws):WS rows ws:=⟨h.1.symm,(hW hf).1.2,λr hr=>wy ((hW hf).2.1 r hr).2,h.2⟩
end L2
namespace Pol
def sw (p:R3):R3:=(p.2.1,p.1,p.2.2)
end Pol
namespace L2
open PySem PySem.Spec PyProof.Rows
structure PSd (p:P2)(v:Pol.R3):Prop where
 x:Sd p.1 v.1 v.2.2
 y:Sd p.2 v.2.1 v.2.2
theorem xfQ (h:0<v.2.2):PSd (plc v) v:=⟨sdx h,sdy h⟩
theorem PSd.val (h:PSd p v)(r:Pol.R3):Sd (kT r p) (r.1*v.1+r.2.1*v.2.1) v.2.2:=by refine Sd.lfr (Pol.pp h.x.pf h.y.pf) h.x.pd ?_ rfl;have:=h.x.e;have:=h.y.e;grind
def mid (p q:P2)(f:F2):P2:=(aA (xan p.1 (fmin (1,1) f)) (xan q.1 f),aA (xan p.2 (fmin (1,1) f)) (xan q.2 f))
theorem nK {f g h:F2}(pf:0<f.2)(pg:0<g.2)(ph:0<h.2)(h1:f.1*g.2<=g.1*f.2)(h2:g.1*h.2<=h.1*g.2):f.1*h.2<=h.1*f.2:=by
 have e1:(f.1*g.2)*h.2<=(g.1*f.2)*h.2:=xkB h1 (by omega);have e2:(g.1*h.2)*f.2<=(h.1*g.2)*f.2:=xkB h2 (by omega);have e3:(f.1*h.2)*g.2<=(h.1*f.2)*g.2:=by
  have:(f.1*g.2)*h.2=(f.1*h.2)*g.2:=by grind
  have:(g.1*f.2)*h.2=(g.1*h.2)*f.2:=by grind
  have:(h.1*g.2)*f.2=(h.1*f.2)*g.2:=by grind
  omega
 exact xkq e3 pg
theorem nV:∃h,jO a b best p=some h/\(kT (a,b,0) p).1*h.2<=h.1*(kT (a,b,0) p).2/\∀g,best=some g->g.1*h.2<=h.1*g.2:=by
 cases best with
 | none=>exact⟨_,rfl,xkr _,λg z=>nomatch z⟩
 | some f =>
  cases d:lG f (kT (a,b,0) p) with
  | true =>refine⟨_,xgH d,xkr _,λg z=>?_⟩;cases z;have:=xmB d;omega
  | false =>
   refine⟨_,xih d,?_,λg z=>?_⟩
   .have:=xmA d;omega
   .cases z;exact xkr _
theorem xbe {a b:Int}(ps:List P2)(hp:∀p∈ps,0<p.1.2/\0<p.2.2):∀(best:Option F2) (f:F2),(∀g,best=some g->0<g.2)->ps.foldl (jO a b) best=some f->(∀g,best=some g->g.1*f.2<=f.1*g.2)/\∀p∈ps,(kT (a,b,0) p).1*f.2<=f.1*(kT (a,b,0) p).2:=by
 induction ps with
 | nil =>intro best f hb h;refine⟨λg hg=>?_,λp hp=>by simp at hp⟩;have h:best=some f:=h;rw[h] at hg;cases hg;exact xkr _
 | cons p ps ih =>
  intro best f hb h;obtain⟨s,hs,h1,h2⟩:=nV (a:=a) (b:=b) (best:=best) (p:=p);rw[xk9,hs] at h;have pp:=pO (a:=a) (b:=b) (c:=0) (hp p xlK);have sp:0<s.2:=by
   rcases ai hs with q | q
   .exact hb s q
   .rw[q];exact pp
  have fp:0<f.2:=by
   rcases aX ps (some s) h with q | ⟨p',hm,e⟩
   .cases q;exact sp
   .rw[e];exact pO (hp p' (xlJ _ hm))
  obtain⟨k1,k2⟩:=ih (λq hq=>hp q (xlJ _ hq)) (some s) f (λg hg=>by cases hg;exact sp) h;have k1:=k1 s rfl;refine⟨λg hg=>nK (hb g hg) sp fp (h2 g hg) k1,λq hq=>?_⟩;rcases xlI.mp hq with e | hq
  .rw[e];exact nK pp sp fp h1 k1
  .exact k2 q hq
theorem lR (h:0<v.2.2):dy r (plc v)=true↔Pol.val r v=0:=by unfold dy;rw[xmy];have s:=(xfQ h).val r;have e:=s.eq (xbk (f:=(r.2.2,1)) (by show(0:Int)<1;decide));simp only[xkG] at e;rw[e];unfold Pol.val;omega
section
variable {rows:List Pol.R3} (FR:yK rows) {r v:Pol.R3} (hr:r∈rows) (hv:v∈yG rows) (ht:dy r (plc v)=true)
include FR hr
include hv ht
end
end L2
namespace L2
open PySem Trn
abbrev SX:=(Nat×Nat)×D2
def tF (rows:List Pol.R3)(x:SX):List F2:=wtw rows.length x.1.1 x.1.2 (cr x.2 (xC rows x.1.2)) (cr (xC rows x.1.1) x.2) (cr (xC rows x.1.1) (xC rows x.1.2))
def wo (rows:List Pol.R3)(x:SX):Pol.R3:=((wsum k0 (rows.zip (tF rows x))).1,(wsum k1 (rows.zip (tF rows x))).1,(wsum k2 (rows.zip (tF rows x))).1.fdiv (wsum k2 (rows.zip (tF rows x))).2)
def oP (rows:List Pol.R3)(x:SX):Tr:=.tup [wsT (tF rows x),trR (wo rows x)]
structure zM (rows:List Pol.R3)(x:SX):Prop where
 i1:x.1.1<rows.length
 i2:x.1.2<rows.length
 pos:0<cr (xC rows x.1.1) (xC rows x.1.2)
 inc:InC (xC rows x.1.1) (xC rows x.1.2) x.2
 nz:x.2≠(0,0)
 bx:Bx 1000 x.2
theorem vh (hf:xg rows=true)(h:i<rows.length):Bx 30 (xC rows i):=by obtain⟨⟨a,b⟩,_⟩:=((hW hf).2.1 _ (zy h)).2;exact⟨a,b⟩
theorem zM.ne (G:zM rows x):x.1.1≠x.1.2:=λe=>by have:=G.pos;rw[e,yW] at this;omega
theorem xdq (h:m∈xev n i j p q):m=0\/m=p\/m=q:=by
 unfold xev at h;rcases xlS h with h | h
 .rcases xlS h with h | h
  .exact .inl (List.mem_replicate.mp h).2
  .exact .inr (.inl h)
 .exact .inr (.inr h)
theorem t4 (hu:Bx 30 u)(hv:Bx 1000 v):-60000<=cr u v/\cr u v<=60000:=by
 have go:∀ {a b:Int},(-30<=a/\a<=30)->(-1000<=b/\b<=1000)->-30000<=a*b/\a*b<=30000:=λ {a b} ha hb=>by
  have h1:(a*b).natAbs<=30*1000:=by rw[xkJ];exact xmn (by omega) (by omega)
  omega
 have:=go hu.1 hv.2;have:=go hu.2 hv.1;unfold cr;omega
theorem zM.sm (hf:xg rows=true)(G:zM rows x):(cr x.2 (xC rows x.1.2)<=60000/\cr (xC rows x.1.1) x.2<=60000)/\cr (xC rows x.1.1) (xC rows x.1.2)<=60000:=by have a:=t4 (vh hf G.i2) G.bx;have b:=t4 (vh hf G.i1) G.bx;have c:=t4 (vh hf G.i1) ((vh hf G.i2).mono (by decide));rw[uI] at a;omega
theorem zM.gw (hf:xg rows=true)(G:zM rows x):GW rows.length (tF rows x):=by refine⟨by simp[tF,wtw,xev],λw hw=>?_⟩;obtain⟨m,hm,rfl⟩:=xlO.mp hw;have S:=G.sm hf;have p:=G.pos;have i:=G.inc;refine xgB ?_ (by omega);unfold InC at i;rcases xdq hm with rfl | rfl | rfl<;>omega
theorem zM.lin (G:zM rows x)(k:Pol.R3->Int):Sd (wsum k (rows.zip (tF rows x))) (cr x.2 (xC rows x.1.2)*k (yD rows x.1.1)+cr (xC rows x.1.1) x.2*k (yD rows x.1.2)) (cr (xC rows x.1.1) (xC rows x.1.2)):=by have:=xa7 k G.pos rows (xev rows.length x.1.1 x.1.2 (cr x.2 (xC rows x.1.2)) (cr (xC rows x.1.1) x.2));rw[xf3 k _ _ G.i1 G.i2 G.ne] at this;exact this
theorem mo (h:Sd f (n*T) T)(c:Cop f):f=(n,1):=by have a:=h.low c;have b:=(⟨Int.zero_lt_one,h.pd,by show n*T=n*T*1;omega⟩:Sd (n,1) (n*T) T).low (pM n);rw[<-a,b]
theorem zM.pos2 (hf:xg rows=true)(G:zM rows x):∀y∈rows.zip (tF rows x),0<y.2.2:=λy hy=>((G.gw hf).2 _ (xlZ hy).2).pos
theorem zM.a (hf:xg rows=true)(G:zM rows x):wsum k0 (rows.zip (tF rows x))=(x.2.1,1):=by refine mo (T:=cr (xC rows x.1.1) (xC rows x.1.2)) ?_ (fP _ _ (G.pos2 hf));have:=G.lin k0;have e:=(ji (xC rows x.1.1) (xC rows x.1.2) x.2).1;rw[e];exact this
theorem zM.b {rows:List Pol.R3}{x:SX}(hf:xg rows=true)(G:zM rows x):wsum k1 (rows.zip (tF rows x))=(x.2.2,1):=by refine mo (T:=cr (xC rows x.1.1) (xC rows x.1.2)) ?_ (fP _ _ (G.pos2 hf));have:=G.lin k1;have e:=(ji (xC rows x.1.1) (xC rows x.1.2) x.2).2;rw[e];exact this
theorem zM.cut (hf:xg rows=true)(G:zM rows x):l_ (wsum k0 (rows.zip (tF rows x))) (wsum k1 (rows.zip (tF rows x))):=by rw[G.a hf,G.b hf];exact⟨rfl,rfl,λz=>G.nz (Prod.ext z.1 z.2)⟩
theorem zM.whole (hf:xg rows=true)(G:zM rows x)(hz:0<v.2.2)(h1:Pol.val (yD rows x.1.1) v=0)(h2:Pol.val (yD rows x.1.2) v=0)(hk:zH (wo rows x) (plc v)=true):v.2.2 ∣ x.2.1*v.1+x.2.2*v.2.1:=by
 have S:=G.lin k2;have F:=S.floor;generalize hT:cr (xC rows x.1.1) (xC rows x.1.2)=T at S F;have pT:0<T:=by rw[<-hT];exact G.pos
 generalize hN:cr x.2 (xC rows x.1.2)*k2 (yD rows x.1.1)+cr (xC rows x.1.1) x.2*k2 (yD rows x.1.2)=N at S F;have er:wo rows x=(x.2.1,x.2.2,N / T):=by unfold wo;rw[G.a hf,G.b hf,xki _ (by have:=S.pf;omega),F]
 rw[er,uW _ hz] at hk;have hk:=xmB hk;have e1:=(ji (xC rows x.1.1) (xC rows x.1.2) x.2)
 rw[hT] at e1;have eq:N*v.2.2=T*(x.2.1*v.1+x.2.2*v.2.1):=by
  have ea:=e1.1;have eb:=e1.2;generalize cr x.2 (xC rows x.1.2)=p at *
  generalize cr (xC rows x.1.1) x.2=q at *
  have d1:(xC rows x.1.1)=((yD rows x.1.1).1,(yD rows x.1.1).2.1):=rfl;have d2:(xC rows x.1.2)=((yD rows x.1.2).1,(yD rows x.1.2).2.1):=rfl;rw[d1,d2] at ea eb;generalize yD rows x.1.1=r at *
  generalize yD rows x.1.2=s at *
  rw[<-hN];simp only[Pol.val,k2] at *
  have z1:r.2.2*v.2.2=r.1*v.1+r.2.1*v.2.1:=by omega
  have z2:s.2.2*v.2.2=s.1*v.1+s.2.1*v.2.1:=by omega
  grind
 simp only[Pol.val] at hk;have f1:N / T*T<=N:=Int.ediv_mul_le N (by omega);generalize hV:x.2.1*v.1+x.2.2*v.2.1=V at *
 generalize N / T=F' at *
 refine⟨F',?_⟩;have g1:F'*T*v.2.2<=N*v.2.2:=xkB f1 (by omega);rw[eq] at g1;have g2:T*(F'*v.2.2)<=T*V:=by
  have:F'*T*v.2.2=T*(F'*v.2.2):=by grind
  omega
 have g3:=xkp g2 pT;rw[xkv v.2.2 F'];omega
theorem xbQ (hb:0<b)(h:b ∣ t):(Fra.low t b).2=1:=by obtain⟨k,rfl⟩:=h;have:=(⟨Int.zero_lt_one,hb,by show k*b=b*k*1;rw[xkG,xkv]⟩:Sd (k,1) (b*k) b).low (pM k);rw[vn hb] at this;rw[this]
structure xc5 (rows:List Pol.R3)(S:List (Nat×Nat))(L:List SX):Prop where
 good:∀x∈L,x.1∈S/\zM rows x
 all:∀ij∈S,∃h,aC (xC rows ij.1) (xC rows ij.2) h/\∀d∈h,(ij,d)∈L
 len:L.length<=S.length*100000
theorem tM (hi:i<rows.length)(hj:j<rows.length)(hp:0<cr (xC rows i) (xC rows j))(B:aC (xC rows i) (xC rows j) h)(hd:d∈h):zM rows ((i,j),d):=by have c:=ah ((B.mem hp).mp hd).1;exact⟨hi,hj,hp,c.1,c.2,B.bd d hd⟩
theorem zw (hz:0<v.2.2):i∈hU rows (plc v)↔i<rows.length/\Pol.val (yD rows i) v=0:=by unfold hU;rw[xlL,xlT];exact and_congr_right λ_=>lR hz
theorem cC (h:i∈hU rows p):i<rows.length:=xlT.mp (xlL.mp h).1
theorem bI (FR:yK rows)(hv:v∈yG rows):∃ij,ij∈zJ rows (hU rows (plc v)):=by
 obtain⟨⟨hz,_,C⟩,_⟩:=FR.corner hv;obtain⟨s,hs,t,ht,s0,t0,hn⟩:=C.two;obtain⟨i,hi,rfl⟩:=xlN.mp hs;obtain⟨j,hj,rfl⟩:=xlN.mp ht;have ei:yD rows i=rows[i]:=by have:=vD hi;rw[xlc hi] at this;exact(xmt this).symm
 have ej:yD rows j=rows[j]:=by have:=vD hj;rw[xlc hj] at this;exact(xmt this).symm
 have mi:i∈hU rows (plc v):=(zw hz).mpr ⟨hi,by rw[ei];exact s0⟩;have mj:j∈hU rows (plc v):=(zw hz).mpr ⟨hj,by rw[ej];exact t0⟩;have ec:cr (xC rows i) (xC rows j)=Pol.turn rows[i] rows[j]:=by rw[<-ei,<-ej];rfl
 by_cases c:0<cr (xC rows i) (xC rows j)
 .obtain⟨m,hm⟩:=dM mi mj c;exact⟨_,hm⟩
 .obtain⟨m,hm⟩:=dM (rows:=rows) (i:=j) (j:=i) mj mi (by rw[uI];omega);exact⟨_,hm⟩
theorem gc (hf:xg rows=true)(FR:yK rows)(hv:v∈yG rows)(hb:brk v=true)(hL:xc5 rows (zJ rows (hU rows (plc v))) L):∃x∈L,zH (wo rows x) (plc v)=false:=by
 obtain⟨⟨hz,_,_⟩,_⟩:=FR.corner hv;refine xj9 λno=>?_;have all:∀x∈L,zH (wo rows x) (plc v)=true:=λx hx=>by
  cases e:zH (wo rows x) (plc v) with
  | true=>rfl
  | false=>exact absurd ⟨x,hx,e⟩ no
 obtain⟨⟨i,j⟩,hij⟩:=bI FR hv;obtain⟨m1,m2,hp⟩:=ub hij;obtain⟨i1,v1⟩:=(zw hz).mp m1;obtain⟨i2,v2⟩:=(zw hz).mp m2;obtain⟨h,B,hm⟩:=hL.all _ hij;have l2:=B.l2;have n0:h[0]? = some h[0]:=xlc (by omega);have n1:h[0+1]? = some h[1]:=xlc (by omega);have one:=B.chn.one 0 _ _ n0 n1;have d0:h[0]∈h:=xlk _;have d1:h[1]∈h:=xlk _;have w0:=(tM i1 i2 hp B d0).whole hf hz v1 v2 (all _ (hm _ d0));have w1:=(tM i1 i2 hp B d1).whole hf hz v1 v2 (all _ (hm _ d1));simp only at w0 w1;generalize h[0]=d at *
 generalize h[1]=e at *
 have x1:v.2.2 ∣ v.1:=by
  have:v.1=(d.1*v.1+d.2*v.2.1)*e.2-(e.1*v.1+e.2*v.2.1)*d.2:=by have:=xmu (λz=>z*v.1) one;simp only[cr] at this;grind
  rw[this];exact Int.dvd_sub (xkd w0 (xkb _ _)) (xkd w1 (xkb _ _))
 have x2:v.2.2 ∣ v.2.1:=by
  have:v.2.1=(e.1*v.1+e.2*v.2.1)*d.1-(d.1*v.1+d.2*v.2.1)*e.1:=by have:=xmu (λz=>z*v.2.1) one;simp only[cr] at this;grind
  rw[this];exact Int.dvd_sub (xkd w1 (xkb _ _)) (xkd w0 (xkb _ _))
 have y1:(plc v).1.2=1:=xbQ hz x1;have y2:(plc v).2.2=1:=xbQ hz x2;unfold brk at hb;rw[y1,y2] at hb;simp at hb
theorem ff {rows:List Pol.R3}{i:Nat}(h:i<rows.length):atT (rows.map trR) (i:Int)=some (trR (yD rows i)):=by rw[dX,xlf,vD h];rfl
theorem hW.bd {rows:List Pol.R3}(hf:xg rows=true){i:Nat}(h:i<rows.length):Bd (yD rows i).1/\Bd (yD rows i).2.1:=xak (n:=30) (by decide) (vh hf h)
theorem tS:(hU rows p).length<=rows.length:=by have:=xlp (λi=>dy (rows.getD i (0,0,0)) p) (List.range rows.length);rw[xlt] at this;exact this
theorem aR:(zJ rows nums).length<=nums.length:=List.length_filterMap_le _ _
theorem pH {rows:List Pol.R3}{nums:List Nat}{i n:Nat}(h:nums[i]? = some n)(F:Nat->Option (Nat×Nat)):(nums.take (i+1)).filterMap F=(nums.take i).filterMap F++(F n).toList:=by rw[xl_,h,List.filterMap_append];cases e:F n<;>simp[e]
theorem hW.b200 {rows:List Pol.R3}(hf:xg rows=true):∀r∈rows,B3k 200 r:=λr hr=>(wy ((hW hf).2.1 r hr).2).mono (by decide)
theorem xdV (h:0<T):lfr 0 T=(0,1):=(⟨Int.zero_lt_one,h,by show(0:Int)*T=0*1;omega⟩:Sd (0,1) 0 T).low (pM 0)
theorem xgn (h:0<T):wtw n i j p q T=((List.replicate n ((0:Int),(1:Int))).set i (lfr p T)).set j (lfr q T):=by unfold wtw xev;rw[List.map_set,List.map_set,xlE,xdV h]
theorem zM.r200 (hf:xg rows=true)(G:zM rows x):B3k 200 (wo rows x):=by
 have S:=G.lin k2;have F:=S.floor;have sm:=G.sm hf;have i:=G.inc;have c1:=((hW hf).2.1 _ (zy G.i1)).2.2;have c2:=((hW hf).2.1 _ (zy G.i2)).2.2;have bx:=G.bx;have go:∀ {a c:Int},(0<=a/\a<=60000)->(-1000<=c/\c<=1000)->-60000000<=a*c/\a*c<=60000000:=λ {a c} ha hb=>by
  have h1:(a*c).natAbs<=60000*1000:=by rw[xkJ];exact xmn (by omega) (by omega)
  omega
 have u1:=go (a:=cr x.2 (xC rows x.1.2)) ⟨i.2,sm.1.1⟩ c1;have u2:=go (a:=cr (xC rows x.1.1) x.2) ⟨i.1,sm.1.2⟩ c2;have er:wo rows x=(x.2.1,x.2.2,(cr x.2 (xC rows x.1.2)*k2 (yD rows x.1.1)+cr (xC rows x.1.1) x.2*k2 (yD rows x.1.2)) / cr (xC rows x.1.1) (xC rows x.1.2)):=by unfold wo;rw[G.a hf,G.b hf,xki _ (by have:=S.pf;omega),F]
 rw[er];have pT:=G.pos;have e2:k2 (yD rows x.1.1)=(yD rows x.1.1).2.2:=rfl;have e3:k2 (yD rows x.1.2)=(yD rows x.1.2).2.2:=rfl;rw[e2,e3];have u3:-120000000<=cr x.2 (xC rows x.1.2)*(yD rows x.1.1).2.2+cr (xC rows x.1.1) x.2*(yD rows x.1.2).2.2/\cr x.2 (xC rows x.1.2)*(yD rows x.1.1).2.2+cr (xC rows x.1.1) x.2*(yD rows x.1.2).2.2<=120000000:=by omega
 generalize cr x.2 (xC rows x.1.2)*(yD rows x.1.1).2.2+cr (xC rows x.1.1) x.2*(yD rows x.1.2).2.2=N at *
 generalize cr (xC rows x.1.1) (xC rows x.1.2)=T at *
 have f1:=fO (a:=N) (b:=T) (by omega);rw[xki _ (by omega)] at f1;unfold Bx at bx;refine⟨⟨?_,?_⟩,?_⟩<;>unfold Bk<;>simp only<;>omega
theorem xc5.snoc (P:xc5 rows A L)(hi:i<rows.length)(hj:j<rows.length)(hp:0<cr (xC rows i) (xC rows j))(B:aC (xC rows i) (xC rows j) h):xc5 rows (A++[(i,j)]) (L++h.map λd=>((i,j),d)) where
 good:=λx hx=>by
  rcases xlF.mp hx with hx | hx
  .exact⟨xlG _ (P.good x hx).1,(P.good x hx).2⟩
  .obtain⟨d,hd,rfl⟩:=xlO.mp hx;exact⟨xlH _ xlK,tM hi hj hp B hd⟩
 all:=λij hij=>by
  rcases xlF.mp hij with hij | hij
  .obtain⟨h',B',m'⟩:=P.all ij hij;exact⟨h',B',λd hd=>xlG _ (m' d hd)⟩
  .rw[xlU.mp hij];exact⟨h,B,λd hd=>xlH _ (xlO.mpr ⟨d,hd,rfl⟩)⟩
 len:=by have:=P.len;have:=B.len;simp only[xll,xlq,xlm,xlr];omega
theorem xaO (h:d t τ λ τ'=>r us τ' KK):xcH d r (t::us) τ KK:=h
def jT (ij:Nat×Nat):Tr:=.tup [fg ij.1,fg ij.2]
def optN:Option Nat->Tr
 | none=>.non
 | some m=>fg m
def bF:TSp:=λts KK=>∃(rows:List Pol.R3) (nums:List Nat) (n:Nat),ts=[.tup (rows.map trR),.tup (nums.map fg),fg n]/\xg rows=true/\(∀m∈nums,m<rows.length)/\n<rows.length/\KK (optN (m9 rows nums n))
def se:TSp:=λts KK=>∃(rows:List Pol.R3) (nums:List Nat),ts=[.tup (rows.map trR),.tup (nums.map fg)]/\xg rows=true/\(∀m∈nums,m<rows.length)/\nums.length<=1000/\KK (.lst ((zJ rows nums).map jT))
def oN:TSp:=λts KK=>∃(rows:List Pol.R3) (p:P2),ts=[.tup (rows.map trR),pT p]/\xg rows=true/\Pk 600 p/\KK (.lst ((zJ rows (hU rows p)).map jT))
def xcq:TSp:=λts KK=>∃(a b:Int) (x:List Tr),ts=[.tup (.int a::.int b::x)]/\KK (drT a b)
def xgN:TSp:=λts KK=>∃(rows:List Pol.R3) (x:SX),ts=[.tup (rows.map trR),jT x.1,drD x.2]/\xg rows=true/\zM rows x/\KK (wsT (tF rows x))
def tj:TSp:=λts KK=>∃(rows:List Pol.R3) (ws:List F2),ts=[.tup (rows.map trR),wsT ws]/\WS rows ws/\l_ (wsum k0 (rows.zip ws)) (wsum k1 (rows.zip ws))/\KK (.tup [wsT ws,xfZ (rows.zip ws)])
def fi:TSp:=λts KK=>∃(rows:List Pol.R3) (n:Nat) (v:Pol.R3),ts=[.tup (rows.map trR),fg n]/\xg rows=true/\yK rows/\((yG rows).filter brk)[n]? = some v/\∀x:SX,x.1∈zJ rows (hU rows (plc v))->zM rows x->zH (wo rows x) (plc v)=false->KK (oP rows x)
end L2
namespace Pol
theorem nq:∀l:List R3,l≠[]->(∀r∈l,0<turn r d)->∃i∈l,∀r∈l,turn i r<=0
 | [],h,_=>absurd rfl h
 | x::l,_,h=>by
  by_cases e:l=[]
  .subst e;exact⟨x,xlK,λr hr=>by rw[xlU.mp hr];simp only[turn];grind⟩
  obtain⟨i,hi,hm⟩:=nq l e λr hr=>h r (xlJ _ hr);have self:turn x x<=0:=by simp only[turn];grind
  by_cases c:turn i x<=0
  .exact⟨i,xlJ _ hi,λr hr=>(xlI.mp hr).elim (λz=>by rw[z];exact c) (hm r)⟩
  .refine⟨x,xlK,λr hr=>(xlI.mp hr).elim (λz=>by rw[z];exact self) λhr=>?_⟩;have p:=plk i x r d;have hx:=h x xlK;have hi':=h i (xlJ _ hi);have hr':=h r (xlJ _ hr);have a:0<=turn i x*turn r d:=pz (by omega) (by omega);have b:0<=-turn i r*turn x d:=pz (by have:=hm r hr;omega) (by omega);rw[xkK] at b;exact xd_ hi' (by omega)
theorem xaf (gr:GR rows)(d0:d.1≠0\/d.2.1≠0)(hd:∀r∈rows,turn r d≠0)(r0:∀r∈rows,r.1≠0\/r.2.1≠0):∃i∈rows,∃j∈rows,0<turn i j/\0<turn i d/\0<turn d j:=by
 obtain⟨x,hx,px⟩:=gr d.2.1 (-d.1) (by omega);have ex:0<turn x d:=by simp only[turn];rw[xkD] at px;omega
 obtain⟨i,hi,hm⟩:=nq (d:=d) (rows.filter λr=>decide (0<turn r d)) (λz=>by have:x∈rows.filter λr=>decide (0<turn r d):=xlL.mpr ⟨hx,xmx ex⟩;rw[z] at this;simp at this) λr hr=>xmB (xlL.mp hr).2;obtain⟨hi,pi⟩:=xlL.mp hi;have pi:=xmB pi;obtain⟨j,hj,pj⟩:=gr (-i.2.1) i.1 (by have:=r0 i hi;omega);have ej:0<turn i j:=by simp only[turn];rw[xkD,xkv j.1,xkv j.2.1] at pj;omega
 refine⟨i,hi,j,hj,ej,pi,?_⟩;have n:=hd j hj;have a:=xgd d j;rcases xkt 0 (turn j d) with c | c
 .have:=hm j (xlL.mpr ⟨hj,xmx c⟩);omega
 .omega
theorem xeI (N T:α->Int):∀l:List α,l≠[]->(∀x∈l,0<T x)->∃m∈l,∀x∈l,N m*T x<=N x*T m
 | [],h,_=>absurd rfl h
 | x::l,_,h=>by
  by_cases e:l=[]
  .subst e;exact⟨x,xlK,λr hr=>by rw[xlU.mp hr];exact xkr _⟩
  obtain⟨m,hm,hl⟩:=xeI N T l e λr hr=>h r (xlJ _ hr);by_cases c:N m*T x<=N x*T m
  .exact⟨m,xlJ _ hm,λr hr=>(xlI.mp hr).elim (λz=>by rw[z];exact c) (hl r)⟩
  .refine⟨x,xlK,λr hr=>(xlI.mp hr).elim (λz=>by rw[z];exact xkr _) λhr=>?_⟩;have tx:=h x xlK;have tm:=h m (xlJ _ hm);have tr:=h r (xlJ _ hr);have a:=hl r hr;have b:N x*T m*T r<=N m*T x*T r:=xkB (by omega) (by omega);have c':N m*T r*T x<=N r*T m*T x:=xkB a (by omega);refine xkq (a:=T m) ?_ tm;have e1:N x*T m*T r=N x*T r*T m:=by grind
   have e2:N m*T x*T r=N m*T r*T x:=by grind
   have e3:N r*T m*T x=N r*T x*T m:=by grind
   omega
def dN (d i j:R3):Int:=turn d j*i.2.2+turn i d*j.2.2
theorem dE (h:0<turn i j):ua i j=(i.2.2*j.2.1-i.2.1*j.2.2,i.1*j.2.2-i.2.2*j.1,turn i j):=by unfold ua;rw[if_neg (by omega)]
theorem xj2 (h:0<turn i j):dN d i j*turn k j-dN d k j*turn i j=turn d j*val k (ua i j):=by rw[dE h];simp only[dN,turn,val];grind
theorem xjW (h:0<turn i j):dN d i j*turn i k-dN d i k*turn i j=turn i d*val k (ua i j):=by rw[dE h];simp only[dN,turn,val];grind
theorem xfV (h:0<turn i j):turn i j*val k w=turn k j*val i w+turn i k*val j w+w.2.2*val k (ua i j):=by rw[dE h];simp only[turn,val];grind
theorem bY (gr:GR rows)(d0:d.1≠0\/d.2.1≠0)(hd:∀r∈rows,turn r d≠0)(r0:∀r∈rows,r.1≠0\/r.2.1≠0)(hw:0<w.2.2)(kw:∀r∈rows,val r w<=0):∃i∈rows,∃j∈rows,(0<turn i j/\0<turn i d/\0<turn d j)/\∀r∈rows,val r (ua i j)<=0:=by
 obtain⟨i,hi,j,hj,hp⟩:=xaf gr d0 hd r0
 let P:=(rows.flatMap λi=>rows.map λj=>(i,j)).filter λp=>decide (0<turn p.1 p.2/\0<turn p.1 d/\0<turn d p.2)
 have mP:∀p:R3×R3,p∈P↔(p.1∈rows/\p.2∈rows)/\(0<turn p.1 p.2/\0<turn p.1 d/\0<turn d p.2):=λp=>by
  show p∈List.filter _ _↔_;rw[xlL,xmy,List.mem_flatMap];refine and_congr_left λ_=>⟨λ⟨a,ha,hm⟩=>?_,λ⟨a,b⟩=>⟨p.1,a,xlO.mpr ⟨p.2,b,rfl⟩⟩⟩
  obtain⟨b,hb,rfl⟩:=xlO.mp hm;exact⟨ha,hb⟩
 obtain⟨m,hm,hmin⟩:=xeI (λp:R3×R3=>dN d p.1 p.2) (λp=>turn p.1 p.2) P (λz=>by have:=(mP (i,j)).mpr ⟨⟨hi,hj⟩,hp⟩;rw[z] at this;simp at this) λx hx=>((mP x).mp hx).2.1;obtain⟨⟨mi,mj⟩,t1,t2,t3⟩:=(mP m).mp hm;obtain⟨i,j⟩:=m;refine⟨i,mi,j,mj,⟨t1,t2,t3⟩,λk hk=>?_⟩;simp only at *
 refine xj9 λno=>?_;have no:0<val k (ua i j):=by omega
 have id:turn k d*turn i j=turn k j*turn i d-turn i k*turn d j:=by simp only[turn];grind
 have nd:=hd k hk;have ad:=xgd d k;have byJ:0<turn k j->0<turn k d->False:=λa b=>by
  have:=hmin (k,j) ((mP _).mpr ⟨⟨hk,mj⟩,a,b,t3⟩);have e:=xj2 (d:=d) (k:=k) t1;have:=pp t3 no;simp only at *
  omega
 have byI:0<turn i k->turn k d<0->False:=λa b=>by
  have:=hmin (i,k) ((mP _).mpr ⟨⟨mi,hk⟩,a,t2,show 0<turn d k by omega⟩);have e:=xjW (d:=d) (k:=k) t1;have:=pp t2 no;simp only at *
  omega
 by_cases t:0<turn k j
 .rcases xkt 0 (turn k d) with c | c
  .exact byJ t c
  .by_cases s:0<turn i k
   .exact byI s (by omega)
   .have a:=pp t t2;have b:0<=-turn i k*turn d j:=pz (by omega) (by omega);rw[xkK] at b;have:turn k d*turn i j<=0:=by have:=pz (a:=-turn k d) (b:=turn i j) (by omega) (by omega);rw[xkK] at this;omega
    omega
 .by_cases s:0<turn i k
  .refine byI s ?_;rcases xkt (turn k d) 0 with c | c
   .exact c
   .have a:=pp s t3;have b:0<=-turn k j*turn i d:=pz (by omega) (by omega);rw[xkK] at b;have:=pz (a:=turn k d) (b:=turn i j) (by omega) (by omega);omega
  .have e:=xfV (k:=k) (w:=w) t1;have a:0<=turn k j*val i w:=nn (by omega) (kw i mi);have b:0<=turn i k*val j w:=nn (by omega) (kw j mj);have c:=pp hw no;have:=kw k hk;have:turn i j*val k w<=0:=by have:=pz (a:=turn i j) (b:=-val k w) (by omega) (by omega);rw[xkD] at this;omega
   omega
theorem xd7 (f:R3->Int):∀l:List R3,∃M:Int,0<M/\∀r∈l,f r<M/\-M<f r
 | []=>⟨1,by decide,λr h=>by simp at h⟩
 | x::l=>by
  obtain⟨M,h0,h⟩:=xd7 f l;refine⟨M+(f x).natAbs,by omega,λr hr=>?_⟩;rcases xlI.mp hr with rfl | hr
  .omega
  .have:=h r hr;omega
theorem g6 (gr:GR rows)(d0:d.1≠0\/d.2.1≠0)(r0:∀r∈rows,r.1≠0\/r.2.1≠0)(hw:0<w.2.2)(kw:∀r∈rows,val r w<=0):∃i∈rows,∃j∈rows,(0<turn i j/\0<=turn i d/\0<=turn d j)/\∀r∈rows,val r (ua i j)<=0:=by
 obtain⟨M,h0,hM⟩:=xd7 (λr=>dot r d) rows;have tr:∀r:R3,turn r (M*d.1-d.2.1,M*d.2.1+d.1,0)=M*turn r d+dot r d:=λr=>by simp only[turn,dot];grind
 have step:∀r∈rows,(0<M*turn r d+dot r d->0<=turn r d)/\(M*turn r d+dot r d<0->turn r d<=0):=λr hr=>by
  have b:=hM r hr;refine⟨λz=>?_,λz=>?_⟩
  .rcases xkt (turn r d) 0 with c | c
   .have:M*turn r d<=M*(-1):=xkA (by omega) (by omega);omega
   .exact c
  .rcases xkt 0 (turn r d) with c | c
   .have:M*1<=M*turn r d:=xkA (by omega) (by omega);omega
   .exact c
 have nz:∀r∈rows,turn r (M*d.1-d.2.1,M*d.2.1+d.1,0)≠0:=λr hr z=>by
  rw[tr] at z;have b:=hM r hr;have t0:turn r d=0:=by
   rcases xku (turn r d) 0 with c | c | c
   .have:M*turn r d<=M*(-1):=xkA (by omega) (by omega);omega
   .exact c
   .have:M*1<=M*turn r d:=xkA (by omega) (by omega);omega
  rw[t0,xkI,xkO] at z;have e:dot r r*dot d d=dot r d*dot r d+turn r d*turn r d:=by simp only[turn,dot];grind
  rw[z,t0] at e;have:=pp (bO (r0 r hr)) (bO d0);omega
 have d1:(M*d.1-d.2.1≠0\/M*d.2.1+d.1≠0):=by
  refine xj9 λno=>?_;have e1:M*d.1=d.2.1:=by omega
  have e2:M*d.2.1 = -d.1:=by omega
  have:=bO d0;have z:dot d d=0:=by
   have:dot d d=d.1*d.1+(M*d.1)*(M*d.1):=by unfold dot;rw[e1]
   have q:M*(M*d.1) = -d.1:=by rw[e1];exact e2
   have:(M*M+1)*d.1=0:=by grind
   rcases xkz.mp this with y | y
   .have:=sq0 M;omega
   .unfold dot;rw[<-e1,y];simp
  omega
 obtain⟨i,hi,j,hj,⟨t1,t2,t3⟩,k⟩:=bY (d:=(M*d.1-d.2.1,M*d.2.1+d.1,0)) gr d1 nz r0 hw kw;refine⟨i,hi,j,hj,⟨t1,(step i hi).1 (by rw[<-tr];exact t2),?_⟩,k⟩;have a:=xgd j (M*d.1-d.2.1,M*d.2.1+d.1,0);rw[a,tr] at t3;have:=(step j hj).2 (by omega);have:=xgd j d;omega
end Pol
namespace L2
open PySem PySem.Spec PyProof.Rows
abbrev two (elt t1 i1:Expr)(f1:List Expr)(t2 i2:Expr)(f2:List Expr)(sc:Scope)(pos:Pos):Expr:=.ListComp elt [⟨t1,i1,f1,0⟩,⟨t2,i2,f2,0⟩] sc pos
section
variable {prog:Program} {w:World} {A:Around} {R:Result->Shared->Prop} {s:Shared} {elt t1 i1 t2 i2:Expr} {f1 f2:List Expr} {sc:Scope} {pos:Pos} {it acc:Value} {env:Env}
end
abbrev lo (its:List Value)(n:Nat):Obj:={ cls:=.type "list", data:=.seq its.toArray n }
theorem xff {Y:Cx}{D:Addr}{its:List Value}{n:Nat}{pl:List (Addr×Obj)}{σ:St}{H:Hp}{s:Shared}{y:Value}{E:Value->Shared->Prop}(I:Inv Y ((D,lo its n)::pl) σ H s)(h1:D∈Y.ex\/Y.s₀.heap.objs.size<=D)(h2:∀p∈Y.pn++pl,p.1≠D)(hz:its.length<=sizeLine)
  {Q:Shared->Prop} (q:∀s' n',Inv Y ((D,lo (its++[y]) n')::pl) σ H s'->(∀b o,b≠D->s.heap.get? b=some o->s'.heap.get? b=some o)->Q s'):wpAny (model Y.prog Y.w) Y.A (call (.builtin "list.append") [.ref D,y]) (λ_ s'=>Q s') E s:=by
 obtain⟨pD,nD,dL,dF,dC⟩:=I.pin (D,lo its n) (by simp);refine call_meets F.slot_list_append ⟨_,pD,rfl⟩ F.entry_list_append (F.args_list_append_2 _ _) (PySem.list_append D its.toArray n y (by rw[xl4];exact hz)) ⟨pD,?_⟩;have q0:=PySem.IsL.update pD (λx=>x.push y);obtain⟨n',q'⟩:∃n',(s.heap.update D (Obj.mapSeq λx=>x.push y)).get? D=some (lo (its++[y]) n'):=⟨_,by rw[show(lo (its++[y]) _)=({ cls:=.type "list", data:=.seq (its.toArray.push y) _ }:Obj) by simp[lo];rfl];exact q0⟩
 have kp:∀b o,b≠D->s.heap.get? b=some o->(s.heap.update D (Obj.mapSeq λx=>x.push y)).get? b=some o:=λb o hb e=>(Heap.get?_update_other s.heap _ (Ne.symm hb)).trans e;have I10:Inv Y pl σ H s:=I.pins_of λp hp=>I.pin p (by simp only[xlF,xlI];exact .inr (.inr hp));have I11:Inv Y pl σ H { s with heap:=s.heap.update D (Obj.mapSeq λx=>x.push y),toks:=s.toks } :=
  I10.turned (it:=D) (t':=s.toks) kp nD dL h1 (λx c e z=>by obtain⟨v,o,ho,hd⟩:=I10.cell x c e;rw[z,pD] at ho;cases ho;cases hd) h2
 refine q _ n' (I11.pins_of λp hp=>?_) kp;rcases xlI.mp hp with rfl | hp
 .exact⟨q',nD,dL,dF,λv=>by simp⟩
 .exact I11.pin p (xlH _ hp)
section
variable {X:Cx} {sc:Scope} {N:List Str} {tau tid:List (Option Nat)} {pins:List (Addr×Obj)} {σ:St} {H:Hp} {s:Shared}
end
end L2
namespace L2
open PySem PySem.Spec PyProof.Rows
section
variable {K:PySem.W.Frag} {B:FB} {φ:Phi} {σ:St} {τ:TSt} {H H' H'':Hp} {fr:Bool}
end
end L2
namespace L2
open PySem Trn
theorem xed (n o m p:D2):cr n m*cr o p=cr n o*cr m p+cr n p*cr o m:=by unfold cr;grind
theorem xbs:∀(nums:List Nat) (acc:Option Nat) (P:Nat->Prop),(∀m,acc=some m->0<cr (xC rows n) (xC rows m)/\∀o,P o->0<cr (xC rows n) (xC rows o)->0<=cr (xC rows m) (xC rows o))->(acc=none->∀o,P o->¬0<cr (xC rows n) (xC rows o)) ->
  ∀m,nums.foldl (zA rows n) acc=some m->∀o,(P o\/o∈nums)->0<cr (xC rows n) (xC rows o)->0<=cr (xC rows m) (xC rows o)
 | [],acc,P,h,h0,m,e,o,ho,c=>(h m e).2 o (ho.resolve_right (by simp)) c
 | x::nums,acc,P,h,h0,m,e,o,ho,c=>by
  refine xbs nums (zA rows n acc x) (λo=>P o\/o=x) (λm e=>?_) (λe o ho c=>?_) m e o (ho.elim (λz=>.inl (.inl z)) λz=>(xlI.mp z).elim (λz=>.inl (.inr z)) .inr) c
  .unfold zA at e;split at e
   .rename_i cx;cases acc with
    | none =>cases e;exact⟨cx,λo ho c=>ho.elim (λz=>absurd c (h0 rfl o z)) λz=>by rw[z,yW];exact xkr _⟩
    | some k =>
     obtain⟨k1,k2⟩:=h k rfl;dsimp only at e;split at e
     .rename_i cm;cases e;refine⟨cx,λo ho c=>ho.elim (λz=>?_) λz=>by rw[z,yW];exact xkr _⟩;have id:=xed (xC rows n) (xC rows x) (xC rows k) (xC rows o);have a:=Pol.pz (xko cx) (k2 o z c);have b:=Pol.pz (xko c) (xko cm);rcases xkt (cr (xC rows x) (xC rows o)) 0 with y | y
      .have:=Pol.pp k1 (show 0 < -cr (xC rows x) (xC rows o) by omega);rw[xkD] at this;omega
      .exact y
     .rename_i cm;cases e;refine⟨k1,λo ho c=>ho.elim (λz=>k2 o z c) λz=>?_⟩;rw[z,uI];omega
   .rename_i cx;obtain⟨k1,k2⟩:=h m e;exact⟨k1,λo ho c=>ho.elim (λz=>k2 o z c) λz=>by rw[z] at c;exact absurd c cx⟩
  .unfold zA at e;split at e
   .cases acc with
    | none=>cases e
    | some k=>dsimp only at e;split at e<;>cases e
   .rename_i cx;rcases ho with z | z
    .exact h0 e o z c
    .rw[z] at c;exact cx c
theorem xaQ (e:m9 rows nums n=some m)(ho:o∈nums)(c:0<cr (xC rows n) (xC rows o)):0<=cr (xC rows m) (xC rows o) :=xbs nums none (λ_=>False) (λ_ z=>nomatch z) (λ_ _ z=>z.elim) m e o (.inr ho) c
theorem filter_lt {α:Type}{p q:α->Bool}(imp:∀o,p o=true->q o=true){n:α}:∀ {l:List α},n∈l->q n=true->p n=false->(l.filter p).length<(l.filter q).length
 | x::l,h,hq,hp=>by
  have le:∀l:List α,(l.filter p).length<=(l.filter q).length:=λl=>by
   induction l with
   | nil=>simp
   | cons y l ih =>
    simp only[List.filter_cons];by_cases e:p y=true
    .rw[if_pos e,if_pos (imp y e),xlm,xlm];omega
    .rw[if_neg e];split
     .rw[xlm];omega
     .exact ih
  simp only[List.filter_cons];rcases xlI.mp h with e | h
  .subst e;rw[hp,hq];have:=le l;simp;omega
  .have:=filter_lt imp h hq hp;by_cases e:p x=true
   .rw[if_pos e,if_pos (imp x e),xlm,xlm];omega
   .rw[if_neg e];split
    .rw[xlm];omega
    .exact this
theorem adj {rows:List Pol.R3}{nums:List Nat}{d:D2}:∀(k:Nat) (a m:Nat),a∈nums->m∈nums->0<cr (xC rows a) (xC rows m)->InC (xC rows a) (xC rows m) d->(nums.filter λo=>decide (0<cr (xC rows a) (xC rows o)/\0<=cr (xC rows o) (xC rows m))).length<=k->∃ij∈zJ rows nums,InC (xC rows ij.1) (xC rows ij.2) d:=λk=>by
 induction k with
 | zero =>intro a m ha hm c _ l;have:m∈nums.filter λo=>decide (0<cr (xC rows a) (xC rows o)/\0<=cr (xC rows o) (xC rows m)):=xlL.mpr ⟨hm,xmx ⟨c,by rw[yW];exact xkr _⟩⟩;have:=List.length_pos_of_mem this;omega
 | succ k ih =>
  intro a m ha hm c hd l;have ex:=(sy (rows:=rows) (n:=a) nums none (λm e=>nomatch e)).2 (.inr ⟨m,hm,c⟩);cases q:m9 rows nums a with
  | none=>exact absurd q ex
  | some n =>
   obtain⟨p,r⟩:=(sy (rows:=rows) (n:=a) nums none (λm e=>nomatch e)).1 n q;have hn:n∈nums:=r.resolve_right (λz=>nomatch z);have nm:=xaQ q hm c;have sd:(a,n)∈zJ rows nums:=xlM.mpr ⟨a,ha,by rw[q];rfl⟩;by_cases z:0<=cr d (xC rows n)
   .exact⟨_,sd,hd.1,z⟩
   .have dn:0<cr (xC rows n) d:=by rw[uI];omega
    have nm':0<cr (xC rows n) (xC rows m):=by
     have id:=xed (xC rows a) d (xC rows n) (xC rows m);rw[uI (xC rows n) d] at id;have t1:=Pol.pz hd.1 nm;have t2:=Pol.pp c dn;have h2:=hd.2;rcases xkt 0 (cr (xC rows n) (xC rows m)) with y | y
     .exact y
     .have y0:cr (xC rows n) (xC rows m)=0:=by omega
      rw[y0,xkI,xkO,xkD] at id;have:=Pol.pz (xko p) h2;omega
    refine ih n m hn hm nm' ⟨by omega,hd.2⟩ ?_;have sub:((nums.filter λo=>decide (0<cr (xC rows n) (xC rows o)/\0<=cr (xC rows o) (xC rows m))).length)<(nums.filter λo=>decide (0<cr (xC rows a) (xC rows o)/\0<=cr (xC rows o) (xC rows m))).length:=by
     have imp:∀o,(0<cr (xC rows n) (xC rows o)/\0<=cr (xC rows o) (xC rows m))->(0<cr (xC rows a) (xC rows o)/\0<=cr (xC rows o) (xC rows m)):=λo ⟨o1,o2⟩=>by
      refine⟨?_,o2⟩;have id:cr (xC rows a) (xC rows o)*cr (xC rows n) (xC rows m)=cr (xC rows o) (xC rows m)*cr (xC rows a) (xC rows n)+cr (xC rows n) (xC rows o)*cr (xC rows a) (xC rows m):=by unfold cr;grind
      have t1:=Pol.pz o2 (xko p);have t2:=Pol.pp o1 c;rcases xkt 0 (cr (xC rows a) (xC rows o)) with y | y
      .exact y
      .have:=Pol.pz (a:=-cr (xC rows a) (xC rows o)) (b:=cr (xC rows n) (xC rows m)) (by omega) (by omega);rw[xkK] at this;omega
     exact filter_lt (λo h=>xmx (imp o (xmB h))) hn (xmx ⟨p,xko nm'⟩) (xmw λz=>by have:=z.1;rw[yW] at this;omega)
    omega
theorem pV (hp:0<p.2.2)(s:Pol.aB v p)(h:Pol.val r p=0):Pol.val r v=0:=by
 have e:Pol.val r v*p.2.2=Pol.val r p*v.2.2:=by have:=s.1;have:=s.2;simp only[Pol.val];grind
 rw[h,xkP] at e;exact(xkz.mp e).resolve_right (by omega)
theorem xgl (h:r∈rows):∃i,i<rows.length/\yD rows i=r:=by obtain⟨i,hi,rfl⟩:=xlN.mp h;refine⟨i,hi,?_⟩;have:=vD hi;rw[xlc hi] at this;exact(xmt this).symm
theorem xgQ (hf:xg rows=true)(FR:yK rows)(hw:w∈yG rows)(nz:d≠(0,0)):∃v∈yG rows,∃ij∈zJ rows (hU rows (plc v)),InC (xC rows ij.1) (xC rows ij.2) d:=by
 obtain⟨_,dir,gr,_⟩:=hW hf;have r0:∀r∈rows,r.1≠0\/r.2.1≠0:=λr hr=>(dir r hr).1;obtain⟨⟨hz,_,C⟩,_⟩:=FR.corner hw;obtain⟨i,hi,j,hj,⟨t1,t2,t3⟩,k⟩:=Pol.g6 (d:=(d.1,d.2,0)) (Pol.hJ r0 gr) (by refine xj9 λno=>nz ?_;exact Prod.ext (by simp only at no;show d.1=0;omega) (by simp only at no;show d.2=0;omega)) r0 hz C.kept
 obtain⟨z,e1,e2⟩:=Pol.gz (show Pol.turn i j≠0 by omega);obtain⟨v,hv,sm⟩:=FR.fine.found z ⟨k,i,hi,j,hj,e1,e2,by omega⟩;have hv:v∈yG rows:=zP.mpr hv;obtain⟨⟨vz,_,_⟩,_⟩:=FR.corner hv;obtain⟨a,ha,ea⟩:=xgl hi;obtain⟨b,hb,eb⟩:=xgl hj;have ma:a∈hU rows (plc v):=(zw vz).mpr ⟨ha,by rw[ea];exact pV z sm e1⟩;have mb:b∈hU rows (plc v):=(zw vz).mpr ⟨hb,by rw[eb];exact pV z sm e2⟩;refine⟨v,hv,?_⟩;refine adj _ a b ma mb ?_ ⟨?_,?_⟩ (xmd _)
 .unfold xC;rw[ea,eb];exact t1
 .unfold xC;rw[ea];exact t2
 .unfold xC;rw[eb];exact t3
theorem zM.dual {rows:List Pol.R3}{x:SX}(u:Pol.R3):cr (xC rows x.1.1) (xC rows x.1.2)*(x.2.1*u.1+x.2.2*u.2.1)-(cr x.2 (xC rows x.1.2)*k2 (yD rows x.1.1)+cr (xC rows x.1.1) x.2*k2 (yD rows x.1.2))*u.2.2=cr x.2 (xC rows x.1.2)*Pol.val (yD rows x.1.1) u+cr (xC rows x.1.1) x.2*Pol.val (yD rows x.1.2) u:=by
 have e1:=ji (xC rows x.1.1) (xC rows x.1.2) x.2;have ea:=e1.1;have eb:=e1.2;generalize cr x.2 (xC rows x.1.2)=p at *
 generalize cr (xC rows x.1.1) x.2=q at *
 generalize cr (xC rows x.1.1) (xC rows x.1.2)=T at *
 have d1:(xC rows x.1.1)=((yD rows x.1.1).1,(yD rows x.1.1).2.1):=rfl;have d2:(xC rows x.1.2)=((yD rows x.1.2).1,(yD rows x.1.2).2.1):=rfl;rw[d1,d2] at ea eb;simp only[Pol.val,k2] at *
 grind
theorem cZ (h:ps≠[]):∃f,xct a b ps=some f:=by
 have key:∀(ps:List P2) (f:F2),∃g,ps.foldl (jO a b) (some f)=some g:=λps=>by
  induction ps with
  | nil=>exact λf=>⟨f,rfl⟩
  | cons p ps ih =>intro f;obtain⟨g,hg,_⟩:=nV (a:=a) (b:=b) (best:=some f) (p:=p);rw[xk9,hg];exact ih g
 cases ps with
 | nil=>exact absurd rfl h
 | cons p ps=>exact key ps _
theorem xbn (hf:xg rows=true)(G:zM rows x):wo rows x=(x.2.1,x.2.2,(cr x.2 (xC rows x.1.2)*k2 (yD rows x.1.1)+cr (xC rows x.1.1) x.2*k2 (yD rows x.1.2)) / cr (xC rows x.1.1) (xC rows x.1.2)):=by have S:=G.lin k2;unfold wo;rw[G.a hf,G.b hf,xki _ (by have:=S.pf;omega),S.floor]
theorem sJ (hf:xg rows=true)(FR:yK rows)(hv:v∈yG rows)(hx:x.1∈zJ rows (hU rows (plc v)))(G:zM rows x)(e:xct x.2.1 x.2.2 ((yG rows).map plc)=some f):wo rows x=(x.2.1,x.2.2,f.1.fdiv f.2):=by
 obtain⟨⟨vz,_,_⟩,_⟩:=FR.corner hv;obtain⟨m1,m2,_⟩:=ub hx;have D:=λu=>zM.dual (rows:=rows) (x:=x) u;have inc:=G.inc;have pT:=G.pos;rw[xbn hf G];rcases aX _ none e with z | ⟨p,hp,ef⟩
 .cases z
 obtain⟨u,hu,rfl⟩:=xlO.mp hp;obtain⟨⟨uz,_,Cu⟩,_⟩:=FR.corner hu;have Su:Sd f (x.2.1*u.1+x.2.2*u.2.1) u.2.2:=by rw[ef];exact cE (x.2.1,x.2.2,0) uz
 have Sv:Sd (kT (x.2.1,x.2.2,0) (plc v)) (x.2.1*v.1+x.2.2*v.2.1) v.2.2:=cE (x.2.1,x.2.2,0) vz;have ge:=(xbe _ FR.pos none f (λg z=>nomatch z) e).2 (plc v) (xlP hv);have lt:=Su.lt Sv;have Dv:=D v;have Du:=D u;rw[((zw vz).mp m1).2,((zw vz).mp m2).2,xkI,xkI] at Dv;have n1:0<=cr x.2 (xC rows x.1.2) * -Pol.val (yD rows x.1.1) u:=Pol.pz inc.2 (by have:=Cu.kept _ (zy G.i1);omega);have n2:0<=cr (xC rows x.1.1) x.2 * -Pol.val (yD rows x.1.2) u:=Pol.pz inc.1 (by have:=Cu.kept _ (zy G.i2);omega);rw[xkD] at n1 n2;have S:Sd f (cr x.2 (xC rows x.1.2)*k2 (yD rows x.1.1)+cr (xC rows x.1.1) x.2*k2 (yD rows x.1.2)) (cr (xC rows x.1.1) (xC rows x.1.2)):=by
  generalize cr x.2 (xC rows x.1.2)*k2 (yD rows x.1.1)+cr (xC rows x.1.1) x.2*k2 (yD rows x.1.2)=N at *
  generalize cr (xC rows x.1.1) (xC rows x.1.2)=T at *
  generalize x.2.1*u.1+x.2.2*u.2.1=U at *
  generalize x.2.1*v.1+x.2.2*v.2.1=V at *
  refine⟨Su.pf,pT,?_⟩;have ge':V*u.2.2<=U*v.2.2:=by
   have:¬(U*v.2.2<V*u.2.2):=λz=>by have:=lt.mpr z;omega
   omega
  have a1:T*(V*u.2.2)<=T*(U*v.2.2):=xkA ge' (by omega);have a2:T*U<=N*u.2.2:=by omega
  have a3:T*U*v.2.2<=N*u.2.2*v.2.2:=xkB a2 (by omega);have a4:T*V=N*v.2.2:=by omega
  have a5:T*V*u.2.2=N*v.2.2*u.2.2:=by rw[a4]
  have a6:T*U*v.2.2=N*u.2.2*v.2.2:=by
   have:T*(V*u.2.2)=T*V*u.2.2:=by grind
   have:T*(U*v.2.2)=T*U*v.2.2:=by grind
   have:N*v.2.2*u.2.2=N*u.2.2*v.2.2:=by grind
   omega
  have a7:T*U=N*u.2.2:=xkh (by omega) a6;have eu:=Su.e;refine xkh (a:=u.2.2) (by omega) ?_;have:f.1*T*u.2.2=T*U*f.2:=by grind
  rw[this,a7];grind
 rw[xki _ (by have:=S.pf;omega),S.floor]
end L2
namespace L2
open PySem Trn
theorem xd8 {h:List D2}(C:Chn h)(w:D2){i:Nat}{p0 q0:D2}(hp:h[i]? = some p0)(hq:h[i+1]? = some q0)(h0:0<=cr w q0)(h1:cr w p0<=cr w q0):∀k q,h[i+1+k]? = some q->cr w q0<=cr w q
 | 0,q,e=>by rw[show i+1+0=i+1 from rfl,hq] at e;cases e;exact xkr _
 | k+1,q,e=>by
  have il:i+1+k<h.length:=by have:=(xle.mp e).1;omega
  have ek:h[i+1+k]? = some h[i+1+k]:=xlc il;have:=xd8 C w hp hq h0 h1 k _ ek;have r:=(C.right w hp hq h0 h1 (k+1) h[i+1+k] q (by rw[show i+(k+1)=i+1+k by omega];exact ek) (by rw[show i+(k+1)+1=i+1+(k+1) by omega];exact e)).2;omega
theorem oI {h:List D2}(C:Chn h)(w:D2){i:Nat}{p0 q0:D2}(hp:h[i]? = some p0)(hq:h[i+1]? = some q0)(h0:0<=cr w p0)(h1:cr w q0<=cr w p0):∀k j p,j+k=i->h[j]? = some p->cr w p0<=cr w p
 | 0,j,p,e,ep=>by cases (show j=i by omega);rw[hp] at ep;cases ep;exact xkr _
 | k+1,j,p,e,ep=>by
  have il:j+1<h.length:=by have:=(xle.mp hq).1;omega
  have ek:h[j+1]? = some h[j+1]:=xlc il;have:=oI C w hp hq h0 h1 k (j+1) _ (by omega) ek;have r:=(C.left w hp hq h0 h1 (k+1) j p _ e ep ek).2;omega
theorem xgI {h:List D2}(C:Chn h)(w:D2){M:Int}(hM:0<=M){f l:D2}(hf:h[0]? = some f)(hl:h[h.length-1]? = some l)(bf:cr w f<=M)(bl:cr w l<=M){x:D2}(hx:x∈h):cr w x<=M:=by
 obtain⟨j,hj,rfl⟩:=xlN.mp hx;have ej:h[j]? = some h[j]:=xlc hj;refine xj9 λno=>?_;have no:M<cr w h[j]:=by omega
 cases j with
 | zero=>rw[ej] at hf;cases hf;omega
 | succ i =>
  have ei:h[i]? = some h[i]:=xlc (by omega);rcases Int.le_total (cr w h[i]) (cr w h[i+1]) with c | c
  .have:=xd8 C w ei ej (by omega) c (h.length-1-(i+1)) l (by rw[show i+1+(h.length-1-(i+1))=h.length-1 by omega];exact hl);omega
  .have:=oI C w ei ej (by omega) c i 0 f (by omega) hf;omega
theorem aC.b30 {u v:D2}{h:List D2}(hD:0<cr u v)(B:aC u v h)(hu:Bx 30 u)(hv:Bx 30 v):∀x∈h,Bx 30 x:=λx hx=>by obtain⟨nu,nv⟩:=lF hD;have bu:=o9 nu hu;have bv:=o9 nv hv;unfold Bx at bu bv;have key:∀w:D2,cr w (und u)<=30->cr w (und v)<=30->cr w x<=30:=λw a b=>xgI B.chn w (by decide) B.fst B.lst a b hx;have k1:=key (0,-1) (by unfold cr;simp only;omega) (by unfold cr;simp only;omega);have k2:=key (0,1) (by unfold cr;simp only;omega) (by unfold cr;simp only;omega);have k3:=key (1,0) (by unfold cr;simp only;omega) (by unfold cr;simp only;omega);have k4:=key (-1,0) (by unfold cr;simp only;omega) (by unfold cr;simp only;omega);unfold cr at k1 k2 k3 k4;simp only at k1 k2 k3 k4;unfold Bx;omega
def dv (d:D2)(p:Pol.R3):Int:=d.1*p.1+d.2*p.2.1
def flv (d:D2)(v:Pol.R3):Int:=dv d v / v.2.2
theorem bS (d:D2)(c:Int)(p:Pol.R3):Pol.val (d.1,d.2,c) p=dv d p-c*p.2.2:=rfl
theorem og (d:D2){v:Pol.R3}(h:0<v.2.2):flv d v*v.2.2<=dv d v:=Int.ediv_mul_le _ (by omega)
theorem p7 {d:D2}{v:Pol.R3}(h:0<v.2.2){c:Int}(hc:c*v.2.2<=dv d v):c<=flv d v:=(Int.le_ediv_iff_mul_le h).mpr hc
theorem cL {rows:List Pol.R3}{x:SX}(pos:0<cr (xC rows x.1.1) (xC rows x.1.2))(inc:InC (xC rows x.1.1) (xC rows x.1.2) x.2){v p:Pol.R3}(vz:0<v.2.2)(pz:0<p.2.2)
  (v1:Pol.val (yD rows x.1.1) v=0) (v2:Pol.val (yD rows x.1.2) v=0) (p1:Pol.val (yD rows x.1.1) p<=0) (p2:Pol.val (yD rows x.1.2) p<=0):dv x.2 p*v.2.2<=dv x.2 v*p.2.2:=by
 have Dv:=zM.dual (rows:=rows) (x:=x) v;have Dp:=zM.dual (rows:=rows) (x:=x) p;rw[v1,v2,xkI,xkI] at Dv;have n1:0<=cr x.2 (xC rows x.1.2) * -Pol.val (yD rows x.1.1) p:=Pol.pz inc.2 (by omega);have n2:0<=cr (xC rows x.1.1) x.2 * -Pol.val (yD rows x.1.2) p:=Pol.pz inc.1 (by omega);rw[xkD] at n1 n2;change cr (xC rows x.1.1) (xC rows x.1.2)*dv x.2 v-_=_ at Dv;change cr (xC rows x.1.1) (xC rows x.1.2)*dv x.2 p-_=_ at Dp;generalize cr x.2 (xC rows x.1.2)*k2 (yD rows x.1.1)+cr (xC rows x.1.1) x.2*k2 (yD rows x.1.2)=N at *
 generalize cr (xC rows x.1.1) (xC rows x.1.2)=T at *
 generalize dv x.2 v=V at *
 generalize dv x.2 p=U at *
 have a1:T*U<=N*p.2.2:=by omega
 have a2:T*V=N*v.2.2:=by omega
 have a3:T*U*v.2.2<=N*p.2.2*v.2.2:=xkB a1 (by omega);have a4:N*p.2.2*v.2.2=T*(V*p.2.2):=by
  have:N*p.2.2*v.2.2=N*v.2.2*p.2.2:=by grind
  rw[this,<-a2];grind
 rw[a4] at a3;have a5:T*(U*v.2.2)<=T*(V*p.2.2):=by
  have:T*(U*v.2.2)=T*U*v.2.2:=by grind
  omega
 exact xkp a5 pos
theorem xju {rows:List Pol.R3}{x:SX}(hf:xg rows=true)(G:zM rows x){v:Pol.R3}(vz:0<v.2.2)(v1:Pol.val (yD rows x.1.1) v=0)(v2:Pol.val (yD rows x.1.2) v=0):wo rows x=(x.2.1,x.2.2,flv x.2 v):=by
 rw[xbn hf G];have Dv:=zM.dual (rows:=rows) (x:=x) v;rw[v1,v2,xkI,xkI] at Dv;change cr (xC rows x.1.1) (xC rows x.1.2)*dv x.2 v-_=_ at Dv;have pT:=G.pos;unfold flv;generalize cr x.2 (xC rows x.1.2)*k2 (yD rows x.1.1)+cr (xC rows x.1.1) x.2*k2 (yD rows x.1.2)=N at *
 generalize cr (xC rows x.1.1) (xC rows x.1.2)=T at *
 generalize dv x.2 v=V at *
 have e:T*V=N*v.2.2:=by omega
 have:N / T=V / v.2.2:=by have h1:N / T=(N*v.2.2) / (T*v.2.2):=(xky N T vz).symm;rw[h1,<-e,xkv T v.2.2,xkv T V];exact xky V v.2.2 pT
 rw[this]
theorem sk {t b:Int}(hb:0<b)(h:(Fra.low t b).2=1):b ∣ t:=by
 have h:b / ((Int.gcd t b:Nat):Int)=1:=h;have d:((Int.gcd t b:Nat):Int) ∣ b:=xkl ..;have e:b=((Int.gcd t b:Nat):Int):=by have:=Int.ediv_mul_cancel d;rw[h,Int.one_mul] at this;exact this.symm
 have dt:((Int.gcd t b:Nat):Int) ∣ t:=xkk ..;rw[<-e] at dt;exact dt
theorem oF {v:Pol.R3}(vz:0<v.2.2)(g:Pol.vd v=1)(hb:brk v=false):v.2.2=1:=by
 unfold brk at hb;simp only[Bool.or_eq_false_iff,Bool.not_eq_false',xmy] at hb;have d1:=sk vz hb.1;have d2:=sk vz hb.2;have d3:v.2.2 ∣ ((Int.gcd v.1 v.2.1:Nat):Int):=xka d1 d2;have d4:v.2.2 ∣ ((Int.gcd ((Int.gcd v.1 v.2.1:Nat):Int) v.2.2:Nat):Int):=xka d3 (Int.dvd_refl _);have e:((Int.gcd ((Int.gcd v.1 v.2.1:Nat):Int) v.2.2:Nat):Int)=1:=by have:Int.gcd ((Int.gcd v.1 v.2.1:Nat):Int) v.2.2=1:=g;rw[this];rfl
 rw[e] at d4;exact Int.eq_one_of_dvd_one (by omega) d4
theorem lq {rows:List Pol.R3}(hf:xg rows=true)(FR:yK rows){p:Pol.R3}(pz:0<p.2.2)(kp:∀r∈rows,Pol.val r p<=0)
  (hc:∀v∈yG rows,brk v=true->∀ij∈zJ rows (hU rows (plc v)),∃h,aC (xC rows ij.1) (xC rows ij.2) h/\∀d∈h,Pol.val (d.1,d.2,flv d v) p<=0)
  {w:Pol.R3} (hw:w∈yG rows) {d:D2} (nz:d≠(0,0)):∃v∈yG rows,Pol.val (d.1,d.2,flv d v) p<=0:=by
 obtain⟨v,hv,ij,hij,inc⟩:=xgQ hf FR hw nz;refine⟨v,hv,?_⟩;obtain⟨⟨vz,vg,_⟩,_⟩:=FR.corner hv;obtain⟨m1,m2,hp⟩:=ub hij;obtain⟨i1,v1⟩:=(zw vz).mp m1;obtain⟨i2,v2⟩:=(zw vz).mp m2;rw[bS];cases hb:brk v with
 | false =>have z1:=oF vz vg hb;have:=cL (rows:=rows) (x:=(ij,d)) hp inc vz pz v1 v2 (kp _ (zy i1)) (kp _ (zy i2));unfold flv;rw[z1,Int.ediv_one];rw[z1,xkG] at this;have this:dv d p<=dv d v*p.2.2:=this;omega
 | true =>
  obtain⟨h,B,all⟩:=hc v hv hb ij hij;obtain⟨i,a,b,ea,eb,c1,c2⟩:=B.chn.made B.l2 B.fst B.lst ((jm hp).mpr inc);have one:=B.chn.one i a b ea eb;have ka:=all a (xlQ ea);have kb:=all b (xlQ eb);rw[bS] at ka kb;have be:=ji a b d;rw[one,xkG,xkG] at be;have lin:∀u:Pol.R3,dv d u=cr d b*dv a u+cr a d*dv b u:=λu=>by unfold dv;rw[be.1,be.2];grind
  have f1:cr d b*flv a v+cr a d*flv b v<=flv d v:=by
   refine p7 vz ?_;rw[lin v];have x1:=xkA (og a vz) c1;have x2:=xkA (og b vz) c2;have:(cr d b*flv a v+cr a d*flv b v)*v.2.2=cr d b*(flv a v*v.2.2)+cr a d*(flv b v*v.2.2):=by grind
   omega
  have y1:=xkA (show dv a p<=flv a v*p.2.2 by omega) c1;have y2:=xkA (show dv b p<=flv b v*p.2.2 by omega) c2;have y3:=xkB f1 (show 0<=p.2.2 by omega);have:(cr d b*flv a v+cr a d*flv b v)*p.2.2=cr d b*(flv a v*p.2.2)+cr a d*(flv b v*p.2.2):=by grind
  rw[lin p];omega
end L2
namespace Pol
theorem GR.mono {rows more:List R3}(h:GR rows)(s:∀r∈rows,r∈more):GR more:=λu v n=>let ⟨r,hr,c⟩:=h u v n;⟨r,s r hr,c⟩
theorem xhv {r v p:R3}(hp:0<p.2.2)(s:aB v p)(h:val r p=0):val r v=0:=by
 have e:val r v*p.2.2=val r p*v.2.2:=by have:=s.1;have:=s.2;simp only[val];grind
 rw[h,xkP] at e;exact(xkz.mp e).resolve_right (by omega)
theorem om {m1 m2:List R3}(gr:GR m2)(dir:∀r∈m2,r.1≠0\/r.2.1≠0)(le:∀p:R3,0<p.2.2->(∀r∈m2,val r p<=0)->∀r∈m1,val r p<=0){v:R3}(vz:0<v.2.2)(k2:∀r∈m2,val r v<=0)(C:IsC m1 v):IsC m2 v:=by
 obtain⟨_,s,hs,t,ht,s0,t0,hn⟩:=C;have d0:(s.1+t.1)≠0\/(s.2.1+t.2.1)≠0:=by
  refine xj9 λno=>hn ?_;have e1:t.1 = -s.1:=by omega
  have e2:t.2.1 = -s.2.1:=by omega
  simp only[turn];rw[e1,e2];grind
 obtain⟨i,hi,j,hj,⟨t1,t2,t3⟩,ku⟩:=g6 (d:=(s.1+t.1,s.2.1+t.2.1,0)) gr d0 dir vz k2;obtain⟨uz,ui,uj⟩:=gz (show turn i j≠0 by omega);have su:=le _ uz ku s hs;have tu:=le _ uz ku t ht;have vi:=k2 i hi;have vj:=k2 j hj;generalize ua i j=u at *
 have key:turn i j*((s.1+t.1)*v.1+(s.2.1+t.2.1)*v.2.1)=turn (s.1+t.1,s.2.1+t.2.1,0) j*(val i v+i.2.2*v.2.2)+turn i (s.1+t.1,s.2.1+t.2.1,0)*(val j v+j.2.2*v.2.2):=by simp only[turn,val];grind
 have key2:turn i j*((s.1+t.1)*u.1+(s.2.1+t.2.1)*u.2.1)=turn (s.1+t.1,s.2.1+t.2.1,0) j*(val i u+i.2.2*u.2.2)+turn i (s.1+t.1,s.2.1+t.2.1,0)*(val j u+j.2.2*u.2.2):=by simp only[turn,val];grind
 rw[ui,uj,xkO,xkO] at key2;have ev:(s.1+t.1)*v.1+(s.2.1+t.2.1)*v.2.1=(s.2.2+t.2.2)*v.2.2:=by simp only[val] at s0 t0;grind
 have eu:(s.1+t.1)*u.1+(s.2.1+t.2.1)*u.2.1=val s u+val t u+(s.2.2+t.2.2)*u.2.2:=by simp only[val];grind
 rw[ev] at key;rw[eu] at key2;generalize turn (s.1+t.1,s.2.1+t.2.1,0) j=A at *
 generalize turn i (s.1+t.1,s.2.1+t.2.1,0)=B at *
 generalize hT:turn i j=T at *
 have n1:0<=A * -val i v:=pz t3 (by omega);have n2:0<=B * -val j v:=pz t2 (by omega);have f:T*((val s u+val t u)*v.2.2)=(A * -val i v+B * -val j v)*u.2.2:=by
  have a:T*((s.2.2+t.2.2)*v.2.2)*u.2.2=(A*(val i v+i.2.2*v.2.2)+B*(val j v+j.2.2*v.2.2))*u.2.2:=by rw[key]
  have b:T*(val s u+val t u+(s.2.2+t.2.2)*u.2.2)*v.2.2=(A*(i.2.2*u.2.2)+B*(j.2.2*u.2.2))*v.2.2:=by rw[key2]
  grind
 have g:0<=T*((val s u+val t u)*v.2.2):=by rw[f];exact pz (by omega) (by omega)
 have hsum:val s u+val t u=0:=by
  have l:(val s u+val t u)*v.2.2<=0:=by have:=pz (a:=-(val s u+val t u)) (b:=v.2.2) (by omega) (by omega);rw[xkK] at this;omega
  have z:(val s u+val t u)*v.2.2=0:=by refine xj9 λno=>?_;have:=pp t1 (show 0 < -((val s u+val t u)*v.2.2) by omega);rw[xkD] at this;omega
  exact(xkz.mp z).resolve_right (by omega)
 have sm:aB v u:=xhA hn s0 t0 (by omega) (by omega);exact⟨k2,i,hi,j,hj,xhv uz sm ui,xhv uz sm uj,by rw[hT];omega⟩
theorem mS {l k:List R3}(Cl:Ccw l)(Ck:Ccw k)(hl:jY l)(hk:jY k)(pr:∀p∈l,∀q∈l,aB p q->p=q)(hm:∀v,v∈l↔v∈k):l=k:=by
 have len:l.length=k.length:=xab Cl.nd Ck.nd hm;have go:∀n:Nat,∀i:Nat,i<=n->l[i]? = k[i]?:=λn=>by
  induction n with
  | zero =>
   intro i hi;cases (show i=0 by omega);cases l with
   | nil=>cases k with
    | nil=>rfl
    | cons b k=>simp at len
   | cons a l=>cases k with
    | nil=>simp at len
    | cons b k =>have ma:a∈b::k:=(hm a).mp xlK;have mb:b∈a::l:=(hm b).mpr xlK;have:=pr a xlK b mb (Ah.total (hk b k rfl a ma) (hl a l rfl b mb));rw[this];rfl
  | succ n ih =>
   intro i hi;by_cases c:i<=n
   .exact ih i c
   cases (show i=n+1 by omega);by_cases lt:n+1<l.length
   .have eb:l[n+1]? = some l[n+1]:=xlc lt;have ec:k[n+1]? = some k[n+1]:=xlc (by omega);have ea:l[n]? = some l[n]:=xlc (by omega);have ea':k[n]? = some l[n]:=by rw[<-ih n (xmd _)];exact ea
    rw[eb,ec];congr 1;have cl:k[n+1]∈l:=(hm _).mpr (xlQ ec);have bk:l[n+1]∈k:=(hm _).mp (xlQ eb);obtain⟨a1,a2⟩:=pQ Cl ea eb;obtain⟨b1,_⟩:=pQ Ck ea' ec;have d1:=a1 _ cl;have d2:=b1 _ bk;have sw:=fQ l[n] l[n+1] k[n+1];obtain⟨j,hj,ej⟩:=xlN.mp cl;have ej':l[j]? = some k[n+1]:=by rw[xlc hj,ej]
    rcases Nat.lt_trichotomy j (n+1) with q | q | q
    .exfalso;have e:=ih j (by omega);rw[ej'] at e;have:=(List.getElem_inj (h₀:=by omega) (h₁:=by omega) Ck.nd (i:=j) (j:=n+1)).mp (by have h1:k[j]? = some k[j]:=xlc (by omega);rw[h1] at e;exact(xmt e).symm)
     omega
    .subst q;exact ej
    .exfalso;have:=a2 j _ q ej';omega
   .rw[xld (by omega),xld (by omega)]
 refine xk1 λi=>go i i (xmd _)
end Pol
namespace L2
open PySem Trn
structure RP (rows:List Pol.R3)(Ls:List SX):Prop where
 snd:∀x∈Ls,zM rows x/\Bx 30 x.2/\∃v∈yG rows,brk v=true/\x.1∈zJ rows (hU rows (plc v))
 all:∀v∈yG rows,brk v=true->∃L,xc5 rows (zJ rows (hU rows (plc v))) L/\∀x∈L,∃y∈Ls,wo rows y=wo rows x
 len:Ls.length<=4000
def RR (rows:List Pol.R3)(Ls:List SX):List Pol.R3:=rows++Ls.map (wo rows)
def Kp (rows:List Pol.R3)(p:Pol.R3):Prop:=∀r∈rows,Pol.val r p<=0
def zO (rows:List Pol.R3)(Ls:List SX):List Pol.R3:=yr (Pol.pieces (RR rows Ls))
section
variable {rows:List Pol.R3} {Ls:List SX} (hf:xg rows=true) (FR:yK rows) (R:RP rows Ls)
include hf FR
theorem rf {v:Pol.R3}(hv:v∈yG rows){ij:Nat×Nat}(h:ij∈zJ rows (hU rows (plc v))):Pol.val (yD rows ij.1) v=0/\Pol.val (yD rows ij.2) v=0/\ij.1<rows.length/\ij.2<rows.length:=by obtain⟨⟨vz,_,_⟩,_⟩:=FR.corner hv;obtain⟨m1,m2,_⟩:=ub h;exact⟨((zw vz).mp m1).2,((zw vz).mp m2).2,((zw vz).mp m1).1,((zw vz).mp m2).1⟩
include R
theorem RP.at {x:SX}(hx:x∈Ls):∃v∈yG rows,0<v.2.2/\Pol.val (yD rows x.1.1) v=0/\Pol.val (yD rows x.1.2) v=0/\wo rows x=(x.2.1,x.2.2,flv x.2 v):=by obtain⟨G,_,v,hv,_,hs⟩:=R.snd x hx;obtain⟨v1,v2,_,_⟩:=rf hf FR hv hs;have vz:=(FR.corner hv).1.1;exact⟨v,hv,vz,v1,v2,xju hf G vz v1 v2⟩
theorem RP.main {p:Pol.R3}(pz:0<p.2.2)(kp:Kp (RR rows Ls) p){w:Pol.R3}(hw:w∈yG rows){d:D2}(nz:d≠(0,0)):∃v∈yG rows,Pol.val (d.1,d.2,flv d v) p<=0:=by refine lq hf FR pz (λr hr=>kp r (xlG _ hr)) (λv hv hb ij hij=>?_) hw nz;obtain⟨L,PL,all⟩:=R.all v hv hb;obtain⟨h,B,hm⟩:=PL.all ij hij;refine⟨h,B,λd hd=>?_⟩;obtain⟨y,hy,e⟩:=all _ (hm d hd);obtain⟨v1,v2,_,_⟩:=rf hf FR hv hij;have c:=xju hf (PL.good _ (hm d hd)).2 (FR.corner hv).1.1 v1 v2;have:=kp (wo rows y) (xlH _ (xlP hy));rw[e,c] at this;exact this
theorem RP.whole {p:Pol.R3}(p1:p.2.2=1)(kp:Kp rows p):Kp (RR rows Ls) p:=λr hr=>by
 rcases xlF.mp hr with hr | hr
 .exact kp r hr
 .obtain⟨x,hx,rfl⟩:=xlO.mp hr;obtain⟨G,_⟩:=R.snd x hx;obtain⟨v,hv,vz,v1,v2,e⟩:=R.at hf FR hx;have:=cL G.pos G.inc vz (by omega) v1 v2 (kp _ (zy G.i1)) (kp _ (zy G.i2));rw[p1,xkG] at this;have:=p7 vz this;rw[e,bS,p1];omega
end
theorem xfO {rows:List Pol.R3}(hf:xg rows=true)(FR:yK rows){p:Pol.R3}(pz:0<p.2.2)(kp:Kp rows p):∃w,w∈yG rows:=by obtain⟨_,dir,gr,_⟩:=hW hf;have r0:∀r∈rows,r.1≠0\/r.2.1≠0:=λr hr=>(dir r hr).1;obtain⟨i,hi,j,hj,⟨t1,_,_⟩,k⟩:=Pol.g6 (d:=(1,0,0)) (Pol.hJ r0 gr) (.inl (by decide)) r0 pz kp;obtain⟨z,e1,e2⟩:=Pol.gz (show Pol.turn i j≠0 by omega);obtain⟨v,hv,_⟩:=FR.fine.found z ⟨k,i,hi,j,hj,e1,e2,by omega⟩;exact⟨v,zP.mpr hv⟩
theorem RP.within {rows rows2:List Pol.R3}{Ls Ls2:List SX}(hf:xg rows=true)(FR:yK rows)(R:RP rows Ls)(hf2:xg rows2=true)(FR2:yK rows2)(R2:RP rows2 Ls2)(sub:∀p:Pol.R3,0<p.2.2->Kp rows2 p->Kp rows p)
  {p:Pol.R3} (pz:0<p.2.2) (kp:Kp (RR rows2 Ls2) p):Kp (RR rows Ls) p:=λr hr=>by
 have k2:Kp rows2 p:=λr hr=>kp r (xlG _ hr);rcases xlF.mp hr with hr | hr
 .exact sub p pz k2 r hr
 .obtain⟨x,hx,rfl⟩:=xlO.mp hr;obtain⟨G,_⟩:=R.snd x hx;obtain⟨v,hv,vz,v1,v2,e⟩:=R.at hf FR hx;obtain⟨w,hw⟩:=xfO hf2 FR2 pz k2;obtain⟨u,hu,ku⟩:=R2.main hf2 FR2 pz kp hw G.nz;obtain⟨⟨uz,_,Cu⟩,_⟩:=FR2.corner hu;have ku1:=sub u uz Cu.kept;have le:=cL G.pos G.inc vz uz v1 v2 (ku1 _ (zy G.i1)) (ku1 _ (zy G.i2));have fl:flv x.2 u<=flv x.2 v:=by
   refine p7 vz ?_;have a:=xkB (og x.2 uz) (show 0<=v.2.2 by omega);have b:flv x.2 u*u.2.2*v.2.2=flv x.2 u*v.2.2*u.2.2:=by grind
   have c:flv x.2 u*v.2.2*u.2.2<=dv x.2 v*u.2.2:=by omega
   exact xkq c uz
  rw[bS] at ku;rw[e,bS];have:=xkB fl (show 0<=p.2.2 by omega);omega
theorem xgp {a x M:Int}(ha:-30<=a/\a<=30)(hx:-(12*M)<=x/\x<=12*M):-(360*M)<=a*x/\a*x<=360*M:=by
 have hM:0<=12*M:=by omega
 have e:∀b y:Int,0<=b->b<=30->y<=12*M->b*y<=360*M:=λb y b0 b1 hy=>by have h1:=xkA hy b0;have h2:=xkB b1 hM;omega
 rcases Int.le_total 0 a with c | c
 .have h1:=e a x c ha.2 hx.2;have h2:=e a (-x) c ha.2 (by omega);rw[xkD] at h2;omega
 .have h1:=e (-a) (-x) (by omega) (by omega) (by omega);have h2:=e (-a) x (by omega) (by omega) hx.2;rw[Int.neg_mul_neg] at h1;rw[xkK] at h2;omega
section
variable {rows:List Pol.R3} {Ls:List SX} (hf:xg rows=true) (FR:yK rows) (R:RP rows Ls)
include hf
theorem xfJ {v:Pol.R3}(hv:v∈yG rows)(vz:0<v.2.2):(-(12*v.2.2)<=v.1/\v.1<=12*v.2.2)/\(-(12*v.2.2)<=v.2.1/\v.2.1<=12*v.2.2):=by exact(sE vz).mp ((hW hf).2.2.2 v (zN hv))
include FR R
theorem RP.frow:∀r∈RR rows Ls,Pol.s_ r/\(r.1≠0\/r.2.1≠0):=λr hr=>by
 rcases xlF.mp hr with hr | hr
 .have:=(hW hf).2.1 r hr;exact⟨this.2,this.1⟩
 .obtain⟨x,hx,rfl⟩:=xlO.mp hr;obtain⟨G,bx,_⟩:=R.snd x hx;obtain⟨v,hv,vz,_,_,e⟩:=R.at hf FR hx;have nr:=xfJ hf hv vz;rw[e];have nz:x.2.1≠0\/x.2.2≠0:=xj9 λno=>G.nz (Prod.ext (by show x.2.1=0;omega) (by show x.2.2=0;omega));refine⟨?_,nz⟩;obtain⟨⟨b1,b2⟩,b3,b4⟩:=bx;have m1:=xgp ⟨b1,b2⟩ nr.1;have m2:=xgp ⟨b3,b4⟩ nr.2;have lo:-720<=flv x.2 v:=p7 vz (by unfold dv;omega);have hi:flv x.2 v<=720:=by
   have:=og x.2 vz;have:flv x.2 v*v.2.2<=720*v.2.2:=by unfold dv at this;omega
   exact xkq this vz
  unfold Pol.s_;simp only;omega
theorem RP.fine:Pol.xdv rows (RR rows Ls):=by obtain⟨_,dir,gr,_⟩:=hW hf;exact Pol.xa_ (Pol.hJ (λr hr=>(dir r hr).1) gr) (λr hr=>(dir r hr).2) (λr hr=>xlG _ hr) λr hr=>(R.frow hf FR r hr).2
theorem RP.gr:Pol.GR (RR rows Ls):=by obtain⟨_,dir,gr,_⟩:=hW hf;exact(Pol.hJ (λr hr=>(dir r hr).1) gr).mono λr hr=>xlG _ hr
theorem RP.corner {v:Pol.R3}(hv:v∈zO rows Ls):(0<v.2.2/\Pol.vd v=1/\Pol.IsC (RR rows Ls) v):=(R.fine hf FR).corner (zN hv)
theorem RP.found {p:Pol.R3}(pz:0<p.2.2)(pg:Pol.vd p=1)(C:Pol.IsC (RR rows Ls) p):p∈zO rows Ls:=by obtain⟨v,hv,sm⟩:=(R.fine hf FR).found pz C;have c:=(R.fine hf FR).corner hv;rw[<-t_ c.1 pz c.2.1 pg sm];exact zP.mpr hv
theorem RP.stay {v:Pol.R3}(hv:v∈yG rows)(hb:brk v=false):v∈zO rows Ls:=by obtain⟨⟨vz,vg,C⟩,_⟩:=FR.corner hv;obtain⟨s,hs,t,ht,z⟩:=C.two;exact R.found hf FR vz vg ⟨R.whole hf FR (oF vz vg hb) C.kept,s,xlG _ hs,t,xlG _ ht,z⟩
theorem RP.gone {v u:Pol.R3}(hv:v∈yG rows)(hb:brk v=true)(hu:u∈zO rows Ls):plc v≠plc u:=λe=>by obtain⟨L,PL,all⟩:=R.all v hv hb;obtain⟨x,hx,nk⟩:=gc hf FR hv hb PL;obtain⟨y,hy,ey⟩:=all x hx;obtain⟨uz,_,C⟩:=R.corner hf FR hu;rw[e,<-ey,uW _ uz,xmx (C.kept _ (xlH _ (xlP hy)))] at nk;cases nk
end
theorem RP.same {rows rows2:List Pol.R3}{Ls Ls2:List SX}(hf:xg rows=true)(FR:yK rows)(R:RP rows Ls)(hf2:xg rows2=true)(FR2:yK rows2)(R2:RP rows2 Ls2)(eq:∀p:Pol.R3,0<p.2.2->(Kp rows2 p↔Kp rows p)):zO rows Ls=zO rows2 Ls2:=by
 have l1:∀p:Pol.R3,0<p.2.2->Kp (RR rows2 Ls2) p->Kp (RR rows Ls) p:=λp pz=>R.within hf FR hf2 FR2 R2 (λp pz=>(eq p pz).mp) pz;have l2:∀p:Pol.R3,0<p.2.2->Kp (RR rows Ls) p->Kp (RR rows2 Ls2) p:=λp pz=>R2.within hf2 FR2 hf FR R (λp pz=>(eq p pz).mpr) pz;have g1:=Pol.y_ (R.fine hf FR).dir;have g2:=Pol.y_ (R2.fine hf2 FR2).dir;refine Pol.mS (wL g1.ccw) (wL g2.ccw) (wa g1.bot) (wa g2.bot) (λp hp q hq sm=>?_) λv=>⟨λhv=>?_,λhv=>?_⟩
 .obtain⟨a1,a2,_⟩:=R.corner hf FR hp;obtain⟨b1,b2,_⟩:=R.corner hf FR hq;exact t_ a1 b1 a2 b2 sm
 .obtain⟨a1,a2,C⟩:=R.corner hf FR hv;exact R2.found hf2 FR2 a1 a2 (Pol.om (R2.gr hf2 FR2) (R2.fine hf2 FR2).dir l1 a1 (l2 v a1 C.kept) C)
 .obtain⟨a1,a2,C⟩:=R2.corner hf2 FR2 hv;exact R.found hf FR a1 a2 (Pol.om (R.gr hf FR) (R.fine hf FR).dir l2 a1 (l1 v a1 C.kept) C)
end L2
namespace L2
open PySem PySem.Spec PyProof.Rows
theorem oJ:∀ {xs:List V} {us:List Value},zo xs us->zo xs.reverse us.reverse
 | _,_,.nil=>.nil
 | _,_,.cons r rs=>by rw[xl2,xl2];exact(oJ rs).append (.cons r .nil)
section
variable {X:Cx} {e:Expr} {te:TE}
end
end L2
namespace L2
open PySem PySem.Spec PyProof.Rows
theorem yP:∀(names:List (Str×NameKind)) (n:Nat) (acc:List (Str×Addr)),cellsFrom n names acc=cellsFrom n names []++acc
 | [],n,acc=>rfl
 | (x,k)::r,n,acc=>by
  unfold cellsFrom;split
  .rw[yP r (n+1) ((x,n)::acc),yP r (n+1) [(x,n)],xkW];rfl
  .exact yP r n acc
theorem uY {α:Type}:∀(l k:List (Str×α)) (x:Str),(l++k).lookup x=(l.lookup x).or (k.lookup x)
 | [],k,x=>rfl
 | (y,v)::l,k,x=>by
  rw[xkY,xlz,xlz];cases h:x == y with
  | true=>rfl
  | false=>exact uY l k x
theorem uT:∀(names:List (Str×NameKind)) (n:Nat) {x:Str} {c:Addr},(x,c)∈cellsFrom n names []->(x,NameKind.cell)∈names/\n<=c
 | [],n,x,c,h=>by simp[cellsFrom] at h
 | (y,k)::r,n,x,c,h=>by
  unfold cellsFrom at h;split at h
  .rename_i hk;have hk:k=.cell:=by simpa using hk
   rw[yP] at h;rcases xlF.mp h with h | h
   .obtain⟨a,b⟩:=uT r (n+1) h;exact⟨xlJ _ a,by omega⟩
   .have e:=xlU.mp h;cases e;exact⟨by rw[hk];exact xlK,xmd _⟩
  .obtain⟨a,b⟩:=uT r n h;exact⟨xlJ _ a,b⟩
theorem uM:∀(names:List (Str×NameKind)) (n:Nat) {x:Str},(x,NameKind.cell)∈names->∃c,(cellsFrom n names []).lookup x=some c
 | [],n,x,h=>by simp at h
 | (y,k)::r,n,x,h=>by
  unfold cellsFrom;rcases xlI.mp h with e | h
  .injection e with e1 e2;subst e1 e2;rw[if_pos (show(NameKind.cell == NameKind.cell)=true from rfl),yP,uY];cases q:(cellsFrom (n+1) r []).lookup x with
   | some c=>exact⟨c,rfl⟩
   | none=>exact⟨n,by simp⟩
  .split
   .rw[yP,uY];obtain⟨c,hc⟩:=uM r (n+1) h;exact⟨c,by rw[hc];rfl⟩
   .exact uM r n h
theorem dW (g:Str->NameKind->NameKind):∀(l:List (Str×NameKind)) (x:Str),(l.map λy=>(y.1,g y.1 y.2)).lookup x=(l.lookup x).map (g x)
 | [],x=>rfl
 | (n,k)::l,x=>by
  rw[xlB,xlz,xlz];cases h:x == n with
  | true =>
   have e:x=n:=by simpa using h
   rw[e];rfl
  | false=>exact dW g l x
theorem k9 (sc:Scope)(env:Env)(x:Str):(relabel sc env).names.lookup x=(sc.names.lookup x).map λk=>if (k == NameKind.free&&env.scope.kind == .function&&env.kindOf x == some .cell)=true then NameKind.cell else k:=by
 have e:(relabel sc env).names=sc.names.map λy=>(y.1,if (y.2 == NameKind.free&&env.scope.kind == .function&&env.kindOf y.1 == some .cell)=true then NameKind.cell else y.2):=by unfold relabel;apply List.map_congr_left;rintro⟨n,k⟩ _;dsimp only;split<;>rfl
 rw[e,dW (λn k=>if (k == NameKind.free&&env.scope.kind == .function&&env.kindOf n == some .cell)=true then NameKind.cell else k)]
def xfT (X:Cx)(sc:Scope)(C:Addr):List (Str×Addr):=cellsFrom (C+1) sc.names (dU X.env sc.names [])
def vp (X:Cx)(sc:Scope)(N:List Str)(C:Addr)(s:Shared)(H:Hp)(ex:List Addr):Cx :={ X with N:=N,s₀:=s,H₀:=H,env:=compEnvC sc (xfT X sc C) C X.env,outer:=X.stack,stack:=X.stack,ex:=ex,fn:=λx=>decide (sc.names.lookup x=some .cell),pn:=[],xe:=λ_ _=>False }
def xbX (XN:List Str)(xs sc:Scope)(N:List Str)(tau:List (Option Nat)):Bool :=
 decide (sc.kind=.function)&&decide ((sc.names.map (·.1)).Nodup)&&decide N.Nodup&&decide (tau.length=N.length) &&
 (tau.zip N).all (λp=>match p.1 with | none=>true | some j=>decide (XN[j]? = some p.2)&&decide (sc.names.lookup p.2=some .free)) &&
 sc.names.all (λy=>decide (y.2≠.free) || decide (xs.names.lookup y.1=some .cell) || decide (xs.names.lookup y.1=some .free))&&decide (xs.kind=.function)
structure uL (X:Cx)(sc:Scope)(N:List Str)(tau:List (Option Nat)):Prop where
 kind:sc.kind=.function
 uniq:(sc.names.map (·.1)).Nodup
 nd:N.Nodup
 len:tau.length=N.length
 out:∀(i j:Nat) (x:Str),tau[i]? = some (some j)->N[i]? = some x->X.N[j]? = some x/\sc.names.lookup x=some .free
 fr:∀y∈sc.names,y.2=.free->X.env.scope.names.lookup y.1=some .cell\/X.env.scope.names.lookup y.1=some .free
 okind:X.env.scope.kind=.function
theorem m_ {X:Cx}{sc:Scope}{N XN:List Str}{xs:Scope}{tau:List (Option Nat)}(h:xbX XN xs sc N tau=true)(h1:X.N=XN)(h2:X.env.scope=xs):uL X sc N tau:=by
 subst h1 h2;unfold xbX at h;simp only[xj5,xkS,xmy,Bool.or_eq_true] at h;obtain⟨⟨⟨⟨⟨⟨k,u⟩,nd⟩,len⟩,out⟩,fr⟩,ok⟩:=h;refine⟨k,u,nd,len,λi j x e1 e2=>?_,λy hy e=>?_,ok⟩
 .have:=out _ (zip_get e1 e2);simpa using this
 .rcases fr y hy with (z | z) | z
  .exact absurd e z
  .exact .inl z
  .exact .inr z
theorem aj {l:List (Str×NameKind)}(h:(l.map (·.1)).Nodup){x:Str}{k:NameKind}(hm:(x,k)∈l):l.lookup x=some k:=by
 induction l with
 | nil=>simp at hm
 | cons y r ih =>
  obtain⟨n,k'⟩:=y;rw[xlB,xlX] at h;rw[xlz];rcases xlI.mp hm with e | hm
  .cases e;simp
  .have:x≠n:=λe=>h.1 (by rw[<-e];exact xlO.mpr ⟨_,hm,rfl⟩);rw[show(x == n)=false by simpa using this];exact ih h.2 hm
section
variable {X:Cx} {sc:Scope} {N:List Str} {tau:List (Option Nat)} {pins:List (Addr×Obj)} {σ:St} {H:Hp} {s:Shared}
theorem uL.loc (k:uL X sc N tau):∀y∈sc.names,y.2=.local->sc.names.lookup y.1=some .local:=λy hy e=>aj k.uniq (by rw[<-e];exact hy)
theorem uL.cells (k:uL X sc N tau)(ok:X.Ok):∀y∈sc.names,y.2=NameKind.free->∃c,X.env.cells.lookup y.1=some c:=λy hy e=>ok.has y.1 (k.fr y hy e)
theorem uL.cs (k:uL X sc N tau){C:Addr}{x:Str}{c:Addr}(h:(xfT X sc C).lookup x=some c):(sc.names.lookup x=some .cell/\(x,c)∈cellsFrom (C+1) sc.names []/\C+1<=c)\/(sc.names.lookup x≠some .cell/\X.env.cells.lookup x=some c):=by
 unfold xfT at h;rw[yP,uY] at h;cases q:(cellsFrom (C+1) sc.names []).lookup x with
 | some c' =>rw[q] at h;cases (show some c'=some c from h);have m:=PySem.mem_of_lookup q;obtain⟨a,b⟩:=uT _ _ m;exact .inl ⟨aj k.uniq a,m,b⟩
 | none =>rw[q] at h;refine .inr ⟨λz=>?_,uN _ _ (show(dU X.env sc.names []).lookup x=some c from h) λ_ z=>by simp at z⟩;obtain⟨c',hc⟩:=uM sc.names (C+1) (PySem.mem_of_lookup z);rw[hc] at q;cases q
theorem uL.own (k:uL X sc N tau){C:Addr}{x:Str}(h:sc.names.lookup x=some .cell):∃c,(xfT X sc C).lookup x=some c:=by obtain⟨c,hc⟩:=uM sc.names (C+1) (PySem.mem_of_lookup h);exact⟨c,by unfold xfT;rw[yP,uY,hc];rfl⟩
theorem uL.seen (k:uL X sc N tau){C:Addr}{x:Str}{c:Addr}(h:sc.names.lookup x=some .free)(hc:X.env.cells.lookup x=some c):(xfT X sc C).lookup x=some c:=by
 unfold xfT;rw[yP,uY];cases q:(cellsFrom (C+1) sc.names []).lookup x with
 | some c' =>obtain⟨a,_⟩:=uT _ _ (PySem.mem_of_lookup q);rw[aj k.uniq a] at h;cases h
 | none=>exact kL hc _ _ (PySem.mem_of_lookup h)
theorem xbp (k:uL X sc N tau)(I:Inv X pins σ H s){fp:List Addr}(hf:∀b∈fp,mG X pins H b)(hob:∀b∈fp,∃o,s.heap.get? b=some o)(ap:(cellsFrom (s.heap.objs.size+1+1) sc.names []).Pairwise λx y=>x.2≠y.2) :
  (vp X sc N (s.heap.objs.size+1) s H fp).Ok where
 mod:=I.ok.mod
 kind:=k.kind
 glob:=I.ok.glob
 blt:=I.ok.blt
 above:=xme _
 inj:=λx y c h1 h2=>by
  have old:∀ {x:Str} {c:Addr},X.env.cells.lookup x=some c->c<s.heap.objs.size:=λ {x c} e=>let ⟨v,q⟩:=I.cell x c e;q.lt;rcases k.cs h1 with ⟨_,a1,b1⟩ | ⟨_,a1⟩<;>rcases k.cs h2 with ⟨_,a2,b2⟩ | ⟨_,a2⟩
  .exact name_of_addr ap a1 a2
  .exact absurd (xmi (old a2) (xmf (xmb _ 2) b1)) (xmg _)
  .exact absurd (xmi (old a1) (xmf (xmb _ 2) b2)) (xmg _)
  .exact I.ok.inj x y c a1 a2
 has:=λx h=>by
  have e:=k9 sc X.env x;have h:(relabel sc X.env).names.lookup x=some .cell\/(relabel sc X.env).names.lookup x=some .free:=h;cases q:sc.names.lookup x with
  | none=>rw[e,q] at h;simp at h
  | some kd =>
   cases kd with
   | cell=>exact k.own q
   | free =>obtain⟨c,hc⟩:=k.cells I.ok _ (PySem.mem_of_lookup q) rfl;exact⟨c,k.seen q hc⟩
   | _=>rw[e,q] at h;simp at h
 cab:=λx c h hc=>by
  have h:=xmB h;rcases k.cs hc with ⟨_,_,b⟩ | ⟨n,_⟩
  .exact xmf (xmb _ 2) b
  .exact absurd h n
 hd:=I.ok.hd
 frames:=I.ok.frames
 stk:=.inl rfl
 exf:=λb hb=>by
  obtain⟨o,e⟩:=hob b hb;have l:=Heap.lt_size e;refine⟨λz=>?_,λx c h z=>?_⟩
  .have z':b=s.heap.objs.size+1:=z;rw[z'] at l;exact xmg _ (Nat.lt_of_succ_lt l)
  .rcases k.cs h with ⟨_,_,q⟩ | ⟨_,q⟩
   .rw[z] at q;exact absurd (xmi l (xmf (xmb _ 2) q)) (xmg _)
   .exact(hf b hb).2.2.2.2.1 x c q z
 bs:=I.bs
 bsz:=xmf I.ok.bsz I.sz
 noex:=λb o e hb=>by
  rcases(hf b hb).2.2.2.1 with z | z
  .exact I.ok.noex b o e z
  .exact absurd (xmi (Heap.lt_size (I.ok.bs b o e).1) z) (xmg _)
 exfs:=λb hb z=>by
  rcases xlI.mp (I.stkSub b z) with e | e
  .exact(hf b hb).2.1 e
  .exact(hf b hb).2.2.1 e
 funs:=I.stack
 frf:=I.stkFree
theorem xdK (k:uL X sc N tau)(I:Inv X pins σ H s){fp:List Addr}(hf:∀b∈fp,mG X pins H b)(hob:∀b∈fp,∃o,s.heap.get? b=some o){h1:Heap}{t':Nat}
  (kp:∀b o,s.heap.get? b=some o->h1.get? b=some o) (hn:h1.Ns (s.heap.objs.size+1) (λ_=>none)) (hD:h1.get? s.heap.objs.size=some { cls:=.type "list", data:=.seq #[] 0 })
  (ck:CellsOk h1 (s.heap.objs.size+1+1) (cellsFrom (s.heap.objs.size+1+1) sc.names [])) :
  Inv (vp X sc N (s.heap.objs.size+1) s H fp) [(s.heap.objs.size,lo [] 0)] (aK tau σ) H { s with heap:=h1,toks:=t' } where
 ok:=xbp k I hf hob ck.apart
 os:=rfl
 bare:=I.bare
 base:=Un.kept kp
 loc:=⟨_,hn,λi x v e1 e2 e3=>by
  obtain⟨j,t1,t2⟩:=fS e2;obtain⟨o1,o2⟩:=k.out i j x t1 e1;have m:(x,NameKind.free)∈sc.names:=PySem.mem_of_lookup o2;have hk:=k.fr _ m rfl;obtain⟨mm,hn',hl⟩:=I.loc;obtain⟨u,r,l⟩:=hl j x v o1 t2 (hk.elim (λz=>.inr (.inl z)) λz=>.inr (.inr z));have e:=k9 sc X.env x;rw[o2] at e;refine⟨u,r,.inr ⟨?_,?_⟩⟩
  .show(relabel sc X.env).names.lookup x=some .cell\/(relabel sc X.env).names.lookup x=some .free;rw[e];simp only[Option.map_some];split
   .exact .inl rfl
   .exact .inr rfl
  .rcases l with ⟨z,_⟩ | ⟨_,c,ec,hc⟩
   .exfalso;have z:X.env.scope.names.lookup x=some .local:=z;rcases hk with q | q<;>rw[z] at q<;>cases q
   .obtain⟨o,ho,hd⟩:=hc;exact⟨c,k.seen o2 ec,o,kp c o ho,hd⟩⟩
 cell:=λx c h=>by
  rcases k.cs h with ⟨_,a,_⟩ | ⟨_,a⟩
  .exact⟨_,(ck.empty x c a).1⟩
  .obtain⟨v,o,ho,hd⟩:=I.cell x c a;exact⟨v,o,kp c o ho,hd⟩
 free:=I.hok.fresh (xme _)
 freeC:=λx c h=>by
  rcases k.cs h with ⟨_,_,b⟩ | ⟨_,a⟩
  .exact I.hok.fresh (xmf (xmb _ 2) b)
  .exact I.freeC x c a
 pin:=λp hp=>by
  have e:p=(s.heap.objs.size,lo [] 0):=by simpa [vp] using hp
  subst e;refine⟨hD,I.hok.fresh (xmd _),xmq (xmk _),λz=>?_,λv=>by simp⟩;rcases xlI.mp (I.stkSub _ z) with e | e
  .exact absurd (e▸I.lt) (xmg _)
  .exact I.nofs (xmd _) e
 hok:=I.hok.kept kp
 len:=by show(aK tau σ).length=N.length;unfold aK;rw[xlq];exact k.len
end
theorem xdf {Y:Cx}{elt tg iter:Expr}{ifs:List Expr}{sc:Scope}{pos:Pos}{g:TG}{tc:TT}{te:TE}{tau:List (Option Nat)}(hc:Y.calm=true)(hx:Y.xe=λ_ _=>False){D:Addr}{pl:List (Addr×Obj)}(hg:PG Y tg g)(ht:PIf Y ifs tc)(he:PE Y elt te)(hga:GA tau g)
  {it:Addr} {fp:List Addr} {tn:Nat->Heap->Prop} {J:It} (T:Turn Y.prog Y.w Y.K tg J fp it tn) {its:List Value} {n:Nat} {ys:List V} {σ0:St} {H:Hp} {s:Shared} (I:Inv Y ((D,lo its n)::pl) σ0 H s) (hτ:∀(i:Nat) (v:V),σ0[i]? = some (some v)->∃j,tau[i]? = some (some j)) (rv:zo ys its) (hz:ys.length<=sizeLine) (h1:D∈Y.ex\/Y.s₀.heap.objs.size<=D) (h2:∀p∈Y.pn++pl,p.1≠D)
  (st0:tn 0 s.heap) (fo:∀b∈fp,mG Y ((D,lo its n)::pl) H b) {W:Nat->Nat->List V->Hp->Prop} {Z:List V->Hp->Prop} (w0:∃m,W 0 m ys H) (turn:∀i m ys H,W i m ys H ->
   (J.stop i H/\Z ys H) \/
   (J.go i H/\ys.length<sizeLine/\∀x H',J.yld i H x H'->g x σ0 H' λ σ2 H2=>tc σ2 H2 λb H3=>if b=true then te σ2 H3 λy H4=>∃m',m' < m/\W (i+1) m' (ys++[y]) H4 else ∃m',m' < m/\W (i+1) m' ys H3))
  {R:Result->Shared->Prop} (fin:∀H' s' ys' its' n',Inv Y ((D,lo its' n')::pl) σ0 H' s'->zo ys' its'->ys'.length<=sizeLine->Z ys' H'->R (.ok .next) s') :
  codeAny (model Y.prog Y.w) Y.A (.compStart (.ListComp elt [⟨tg,iter,ifs,0⟩] sc pos) 0 (.ref it) (.ref D) Y.env) R s:=by
 obtain⟨m0,w0⟩:=w0;have fD:∀b∈fp,b≠D:=λb hb=>Ne.symm ((fo b hb).2.2.2.2.2 (D,lo its n) (by simp));have stat:∀ {H':Hp} {its':List Value} {n':Nat},(∀b∈fp,H' b=none)->∀b∈fp,mG Y ((D,lo its' n')::pl) H' b:=λ {H' its' n'} hn b hb=>by
  obtain⟨_,a1,a2,a3,a4,a5⟩:=fo b hb;refine⟨hn b hb,a1,a2,a3,a4,λp hp=>?_⟩;rcases xlF.mp hp with hp | hp
  .exact a5 p (xlG _ hp)
  .rcases xlI.mp hp with rfl | hp
   .exact Ne.symm (fD b hb)
   .exact a5 p (xlH _ (xlJ _ hp))
 have loop:codeAny (model Y.prog Y.w) Y.A (.compLoop (.ListComp elt [⟨tg,iter,ifs,0⟩] sc pos) 0 (.ref it) (.ref D) Y.env) R s:=by
  refine fC (λm s'=>∃i ys' H' its' n',Inv Y ((D,lo its' n')::pl) σ0 H' s'/\zo ys' its'/\ys'.length<=sizeLine/\tn i s'.heap/\(∀b∈fp,H' b=none)/\W i m ys' H') ?_ m0
   ⟨0,ys,H,its,n,I,rv,hz,st0,λb hb=>(fo b hb).1,w0⟩
  rintro m s3 ⟨i,ys3,H3,its3,n3,I3,rv3,hz3,st3,fr3,w3⟩;rcases turn i m ys3 H3 w3 with ⟨stop,z⟩ | ⟨go,hlt,step⟩
  .refine wpAny_mono (T.done Y rfl rfl rfl hc i _ s3 _ H3 (λ_ _=>False) I3 (stat fr3) st3 stop) (λr s4 ⟨hr,I4⟩=>?_) λ_ _ f=>f.elim;subst hr;exact fin _ _ _ _ _ I4 rv3 hz3 z
  .refine wpAny_mono (T.item Y rfl rfl rfl hc i _ s3 _ H3 (λ_ _=>False) I3 (stat fr3) st3 go) (λr s4 ⟨u,hr,h4⟩=>?_) λ_ _ f=>f.elim;subst hr;refine wpAny_mono h4 (λ_ s5 ⟨x,H5,I5,r5,y5,st5,fr5⟩=>?_) λ_ _ f=>f.elim;have I5':=I5.pinned (stat fr5) (T.obj _ _ st5);have g5:=hg _ s5 _ H5 x u _ I5' r5 (hga _ _ _ _ (step x H5 y5));rw[hx] at g5;refine wpAny_mono g5 (λ_ s6 ⟨σ6,H6,I6,q6,ag⟩=>?_) λ_ _ f=>f.elim;have t6:=ht _ s6 σ6 H6 _ I6 q6;rw[hx] at t6;refine wpAny_mono t6 (λb s7 ⟨H7,I7,q7⟩=>?_) λ_ _ f=>f.elim;have back:∀ {H8:Hp} {s8:Shared} {its8:List Value} {n8:Nat},Inv Y ((D,lo its8 n8)::(pl++fE fp s5.heap)) σ6 H8 s8->Inv Y ((D,lo its8 n8)::pl) σ0 H8 s8/\tn (i+1) s8.heap/\∀b∈fp,H8 b=none:=λ {H8 s8 its8 n8} I8=>by
    have I8':Inv Y (((D,lo its8 n8)::pl)++fE fp s5.heap) σ6 H8 s8:=I8;refine⟨I8'.unpinned.weak (I.len.trans I8.len.symm) λj v e=>?_,T.keep _ _ _ st5 λb hb o e=>(I8'.pin (b,o) (xlH _ (xlH _ (uV hb e)))).1,λb hb=>?_⟩
    .obtain⟨j',t1⟩:=hτ j v e;rw[ag j j' t1];exact e
    .obtain⟨o,e,d⟩:=T.obj _ _ st5 b hb;exact(I8'.pin (b,o) (xlH _ (xlH _ (uV hb e)))).2.1
   cases b with
   | false =>obtain⟨m',hm,w7⟩:=q7;obtain⟨I8,st8,fr8⟩:=back I7;rw[if_neg xj8];exact⟨m',hm,i+1,ys3,H7,its3,n3,I8,rv3,hz3,st8,fr8,w7⟩
   | true =>
    rw[if_pos rfl];have e7:=@he _ s7 σ6 H7 _ I7 q7;rw[hx] at e7;refine wpAny_mono e7 (λy s8 ⟨yv,H8,I8,r8,m',hm,w8⟩=>?_) λ_ _ f=>f.elim;refine xff (pl:=pl++fE fp s5.heap) I8 h1 (λp hp=>?_) (by rw[<-rv3.length];exact hz3) λs9 n9 I9 _=>?_
    .rw[<-xkW] at hp;rcases xlF.mp hp with hp | hp
     .exact h2 p hp
     .exact fD _ (mI hp).1
    .obtain⟨I10,st10,fr10⟩:=back I9;exact⟨m',hm,i+1,ys3++[yv],H8,its3++[y],n9,I10,rv3.append (.cons r8 .nil),by rw[xll,xlx];exact hlt,st10,fr10,w8⟩
 exact codeAny_compStart_list loop (T.self _ 0 _ _ _ st0 loop)
section
variable {X:Cx} {sc:Scope} {N:List Str} {tau:List (Option Nat)} {pins:List (Addr×Obj)} {σ:St} {H:Hp} {s:Shared}
theorem xdT (k:uL X sc N tau)(I:Inv X pins σ H s){fp:List Addr}(hf:∀b∈fp,mG X pins H b){σ':St}{H':Hp}{s':Shared}{its:List Value}{n:Nat}{ys:List V}
  (J:Inv (vp X sc N (s.heap.objs.size+1) s H fp) [(s.heap.objs.size,lo its n)] σ' H' s') (rv:zo ys its) (hz:ys.length<=sizeLine) :
  Inv X pins σ (upd H' s.heap.objs.size (.lst ys)) s'/\H' s.heap.objs.size=none/\(upd H' s.heap.objs.size (.lst ys)) (s.heap.objs.size+1)=none:=by
 obtain⟨pD,nD,_,_,_⟩:=J.pin (s.heap.objs.size,lo its n) (by simp[vp]);have nC:H' (s.heap.objs.size+1)=none:=J.free;have B:Un (frs X.stack) fp H H' s.heap s'.heap:=J.base;have ltD:∀b o,s.heap.get? b=some o->b≠s.heap.objs.size:=λb o e=>xmq (Heap.lt_size e);refine⟨I.call' (ch:=fp) J.os ⟨B.keep,B.slot,λb o e n hx=>?_,B.there,λb xs e=>?_,λb o u e=>?_,λb ps e=>?_⟩ (λb u e=>?_) J.bare (λb hb=>?_),nD,?_⟩
 .rw[xJ (ltD b o e)];exact B.free b o e n hx
 .have q:=B.tups b xs e;rw[xJ (xD q nD)];exact q
 .have q:=B.frzs b o u e;rw[xJ (xD q nD)];exact q
 .obtain⟨more,q⟩:=B.tbls b ps e;exact⟨more,by rw[xJ (xD q nD)];exact q⟩
 .by_cases hb:b=s.heap.objs.size
  .subst hb;rw[xV] at e;cases e;exact⟨hz,its,n,rv,pD⟩
  .rw[xJ hb] at e;exact(J.hok b u e).stay (λc v _ q=>q) (λc q=>by rw[xJ (xD q nD)];exact q) (λc xs q=>by rw[xJ (xD q nD)];exact q) λc o u q=>by rw[xJ (xD q nD)];exact q
 .obtain⟨_,f1,_,f3,f4,f5⟩:=hf b hb;exact⟨f3,f1,f4,f5⟩
 .rw[xJ (xmp (xmk _))];exact nC
theorem xag {elt tg iter:Expr}{ifs:List Expr}{g:TG}{tc:TT}{te:TE}{pos:Pos}(k:uL X sc N tau)(hc:X.calm=true)(I:Inv X pins σ H s){it:Addr}{fp:List Addr}{tn:Nat->Heap->Prop}{J:It}
  (T:Turn X.prog X.w X.K tg J fp it tn) (st0:tn 0 s.heap) (hf:∀b∈fp,mG X pins H b) (hga:GA tau g)
  (hg:∀C s H ex,PG (vp X sc N C s H ex) tg g) (ht:∀C s H ex,PIf (vp X sc N C s H ex) ifs tc) (he:∀C s H ex,PE (vp X sc N C s H ex) elt te)
  {W:Nat->Nat->List V->Hp->Prop} {Z:List V->Hp->Prop} (w0:∃m,W 0 m [] H) (turn:∀i m ys H,W i m ys H ->
   (J.stop i H/\Z ys H) \/
   (J.go i H/\ys.length<sizeLine/\∀x H',J.yld i H x H'->g x (aK tau σ) H' λ σ2 H2=>tc σ2 H2 λb H3=>if b=true then te σ2 H3 λy H4=>∃m',m' < m/\W (i+1) m' (ys++[y]) H4 else ∃m',m' < m/\W (i+1) m' ys H3))
  {E:Value->Shared->Prop} {RR:Value->Addr->Result->Shared->Prop}
  (fin:∀ σ' H' s' ys its n,Inv (vp X sc N (s.heap.objs.size+1) s H fp) [(s.heap.objs.size,lo its n)] σ' H' s'->zo ys its->ys.length<=sizeLine->Z ys H'->RR (.ref s.heap.objs.size) (s.heap.objs.size+1) (.ok .next) s') :
  wpAny (model X.prog X.w) X.A (newList []) (λacc s₃=>wpAny (model X.prog X.w) X.A (newFunctionEnv sc X.env.globals (dU X.env sc.names []) [] X.env.qual none .none (some X.env)) (λcenv s₄ =>codeAny (model X.prog X.w) X.A (.compStart (.ListComp elt [⟨tg,iter,ifs,0⟩] sc pos) 0 (.ref it) acc { cenv with scope:=relabel sc X.env }) (RR acc cenv.locals) s₄) E s₃) E s:=by
 have hob:∀b∈fp,∃o,s.heap.get? b=some o:=λb hb=>let ⟨o,e,_⟩:=T.obj _ _ st0 b hb;⟨o,e⟩
 refine wpAny_newObj_type ?_;simp only[newFunctionEnv,Option.isSome_some,if_true];refine wpAny_bind (wpAny_alloc ?_);refine wpAny_bind (wpAny_layCells _ (λname kind cells=>by cases hkc:kind == NameKind.cell<;>simp[hkc]) _ _ _ _ ?_);rw[List.forIn_nil];refine wpAny_bind (wpAny_pure (wpAny_pure ?_));have e1:(s.heap.push { cls:=.type "list", dict:=none,data:=.seq ([]:List Value).toArray }).objs.size=s.heap.objs.size+1:=Heap.size_push ..;have e2:((s.heap.push { cls:=.type "list", dict:=none,data:=.seq ([]:List Value).toArray }).push { cls:=.type "dict", data:=.dict #[] }).objs.size=s.heap.objs.size+1+1:=by rw[Heap.size_push,e1]
 dsimp only;rw[e1,e2];generalize hh:(s.heap.push { cls:=.type "list", dict:=none,data:=.seq ([]:List Value).toArray })=hA at e1 e2 ⊢;have oldA:∀b o,s.heap.get? b=some o->hA.get? b=some o:=λb o e=>hh▸Heap.get?_push_of_some _ e;have ck:=cellsFrom_ok sc.names (hA.push { cls:=.type "dict", data:=.dict #[] }) (s.heap.objs.size+1+1) [] ⟨λ_ _ hm=>(nomatch hm),List.Pairwise.nil⟩ (by rw[e2];exact xmd _);rw[e2] at ck;have old:∀b o,s.heap.get? b=some o->(pushCells (hA.push { cls:=.type "dict", data:=.dict #[] }) sc.names).get? b=some o:=λb o e=>pushCells_keeps _ _ b o (Heap.get?_push_of_some _ (oldA b o e));have hns:(pushCells (hA.push { cls:=.type "dict", data:=.dict #[] }) sc.names).Ns (s.heap.objs.size+1) (λ_=>none):=by have:=(Heap.Ns.new hA (.type "dict")).keeps (pushCells_keeps sc.names _);rw[e1] at this;exact this
 have hacc:(pushCells (hA.push { cls:=.type "dict", data:=.dict #[] }) sc.names).get? s.heap.objs.size=some (lo [] 0):=pushCells_keeps _ _ _ _ (Heap.get?_push_of_some _ (hh▸Heap.get?_push_size _ rfl));have I1:=xdK (t':=s.toks) k I hf hob old hns hacc ck;have ltD:∀b∈fp,b≠s.heap.objs.size:=λb hb=>by obtain⟨o,e⟩:=hob b hb;exact xmq (Heap.lt_size e)
 have cx:=xbp (N:=N) k I hf hob ck.apart;refine xdf (Y:=vp X sc N (s.heap.objs.size+1) s H fp) (D:=s.heap.objs.size) (pl:=[]) (tau:=tau) hc rfl (hg _ _ _ _) (ht _ _ _ _) (he _ _ _ _) hga T I1 (λi v e=>let ⟨j,a,_⟩:=fS e;⟨j,a⟩) .nil (xms _) (.inr (xmd _)) (λp hp=>by simp[vp] at hp) (T.keep _ _ _ st0 λb _ o e=>old b o e) (λb hb=>?_) w0 turn λH' s' ys' its' n' J' rv' hz' z=>fin _ _ _ _ _ _ J' rv' hz' z;refine⟨(hf b hb).1,(cx.exf b hb).1,cx.exfs b hb,.inl hb,(cx.exf b hb).2,λp hp=>?_⟩;have e:p=(s.heap.objs.size,lo [] 0):=by simpa [vp] using hp
 subst e;exact Ne.symm (ltD b hb)
theorem dz {elt tg iter:Expr}{ifs:List Expr}{wi:TI}{g:TG}{tc:TT}{te:TE}{pos spos py:Pos}{i:Nat}{x:Str}(hN:X.N.Nodup)(hi':X.N[i]? = some x)(hx:Loc X.env.scope x)(k:uL X sc N tau)(hc:X.calm=true)(hga:GA tau g)(hi:PI X tg iter wi)
  (hg:∀C s H ex,PG (vp X sc N C s H ex) tg g) (ht:∀C s H ex,PIf (vp X sc N C s H ex) ifs tc) (he:∀C s H ex,PE (vp X sc N C s H ex) elt te)
  (hsw:swapsWith (.ListComp elt [⟨tg,iter,ifs,0⟩] sc pos) (some (.Name x py)) spos.line X.env=pure true:=by rfl)
  (hs:∀x,foldedSetIterable iter X.env x=pure x:=by intro _;rfl) (hf:X.fn x=true\/X.env.scope.names.lookup x=some .local:=by first | exact .inl rfl | exact .inr rfl | assumption) :
  PS X (.Assign [.Name x py] (.ListComp elt [⟨tg,iter,ifs,0⟩] sc pos) spos) (xcC (xc_ wi tau g tc te) (gX i)):=by
 intro pins s σ H D I h;rw[exec_Assign_Name_used _ _ _ _ hsw];refine wpAny_bind (wpAny_standAt (wpAny_bind ?_));show wpAny _ X.A (do let _ <-comprehension (.ListComp elt [⟨tg,iter,ifs,0⟩] sc pos) sc X.env _ (newList []) false (eval iter X.env) (some (assign (.Name x py) X.env))) _ _ s;refine wpAny_bind (wpAny_mono (wpAny_comprehension_free (use:=some (assign (.Name x py) X.env)) (Q:=λ_ s'=>SP X pins D .next s') rfl hs (pJ (k.cells I.ok)) k.kind k.loc ?_) (λ_ s' q=>wpAny_pure (wpAny_pure q)) λ_ _ e=>e);refine thn (@hi pins s σ H _ I h) λv s1 h1=>thn h1 λitv s2 h2=>?_;obtain⟨it,fp,tn,J,H2,e,I2,T,st2,f2,W,w0,turn⟩:=h2;subst e;refine xag (RR:=λacc C=>compPost (model X.prog X.w) X.A X.xe (some (assign (.Name x py) X.env)) (λ_ s'=>SP X pins D .next s') acc C) (W:=W) (Z:=λys H'=>∀p,H' p=none->D.nx (σ.set i (some (.ref p))) (upd H' p (.lst ys))) k hc I2 T st2 f2 hga hg ht he w0 turn ?_;intro σ' H' s' ys its n J' rv hz z;obtain⟨I',hD,hC⟩:=xdT k I2 f2 J' rv hz;obtain⟨m,hn,_⟩:=J'.loc;have hn:s'.heap.Ns (s2.heap.objs.size+1) m:=hn;refine wpAny_assign_Name (sW (v:=.ref s2.heap.objs.size) I' hN hi' hx rfl (λs'' I'' ⟨a,sb,ha⟩=>?_) hf);refine⟨m,hn.sameBut sb ?_,λh' hs'=>⟨_,_,dS I2 I'' hC hs',z _ hD⟩⟩;rcases ha with ha | ha
 .rw[ha];exact xmp (xmj I2.lt)
 .obtain⟨v,o,ho,_⟩:=I2.cell x a ha;exact xmp (xmj (Heap.lt_size ho))
end
end L2
namespace L2
open PySem PySem.Spec PyProof.Rows
section
variable {K:PySem.W.Frag} {fr:Bool} {H:Hp}
theorem aV {α β:Type}{R:α->β->Prop}:∀ {xs:List α} {ys:List β},Paired R xs ys->Paired R xs.reverse ys.reverse
 | _,_,.nil=>.nil
 | _,_,.cons r rs=>by rw[xl2,xl2];exact jx (aV rs) r
theorem z_.rev {F:Addr->Prop}{ts:List Tr}{ws:List V}(r:z_ F H ts ws):z_ F H ts.reverse ws.reverse:=wG.mpr (aV (wG.mp r))
theorem xia {B:FB}{φ:Phi}{σ:St}{τ:TSt}{a:Addr}(R:RS K B φ σ τ H)(h:H a=none):B.H0 a=none:=by
 cases q:B.H0 a with
 | none=>rfl
 | some o =>
  by_cases s:B.S0 a
  .exact absurd h (R.sst a (.inl s)).ne_none
  .rw[R.ext a o q s] at h;cases h
end
end L2
namespace L2
open PySem Trn
def wp (p:D2):P2:=((p.1,1),(p.2,1))
def wpT (p:D2):Tr:=pT (wp p)
theorem xjI (h:Bk k a)(hk:1<=k):Fk k (a,1):=⟨h,(show Bk 1 (1:Int) by unfold Bk;decide).mono hk,by show(0:Int)<1;decide⟩
theorem xjJ (h:Bx 1000 p):Pk 30 (wp p):=by have b:∀a:Int,-1000<=a/\a<=1000->Fk 30 (a,1):=λa ha=>xjI (by unfold Bk;omega) (by decide);exact⟨b _ h.1,b _ h.2⟩
end L2
namespace L2
open PySem PySem.Spec PyProof.Rows
theorem xh3 {l:List Int}{j:Nat}(h:j<l.length):l.getD j 0∈l:=by rw[xk_,xlc h];exact xlk _
section
variable {X:Cx}
def xf5 (K:PySem.W.Frag)(xs:List V)(H:Hp)(Q:VK):Prop:=∃(p:Addr) (ns:List Int),xs=[.ref p]/\SqL K H p (ns.map V.int)/\ns≠[]/\∀M,M∈ns->(∀a∈ns,M<=a)->Q (.int M) H
theorem xb6 (hc:X.calm=true):qh X (.builtin "min") (xf5 X.K):=by
 intro pins s σ H xs us Q I r h;obtain⟨p,ns,rfl,hl,hne,q⟩:=h;obtain⟨u,rfl,ru⟩:=vals1 r;cases ru;obtain⟨its,rv,pl,hz⟩:=I.list hl;obtain⟨m,F⟩:=I.fr;have hi:=intsAre_of rv;obtain⟨xs',e⟩:=hi.allInts.items;have hns:ns=xs'.toList.map (·.1):=by rw[<-hi.numsOf,<-nums_intItems,<-e]
 have hsz:0<xs'.size:=by have h3:0<ns.length:=xls.mpr hne;rw[hns,xlq,xj4] at h3;exact h3
 have hl':=pl.isList;rw[e] at hl';refine min_intList (I.ok.hd hc) hl' hsz λv h' tk hv hk=>?_;obtain⟨t,rfl⟩:=intItems_at hv;obtain⟨h1,h2⟩:=argBest_lt (numAt xs') (xs'.size-1);refine⟨.int _,H,I.kept hk,⟨t,rfl⟩,q _ ?_ λa ha=>?_⟩
 .rw[hns,numAt_eq];exact xh3 (by rw[xlq,xj4];omega)
 .rw[hns] at ha;obtain⟨j,hj,rfl⟩:=mem_getD ha;rw[xlq,xj4] at hj;rw[<-numAt_eq];exact h2 j (by omega)
theorem l6 (K:PySem.W.Frag)(hc:X.calm=true)(e:X.K=K:=by rfl):qh X (.builtin "min") (xf5 K):=e▸xb6 hc
end
section
variable {K:PySem.W.Frag}
def xiu (xs:List Tr)(KK:Tr->Prop):Prop:=∃ns:List Int,xs=[.lst (ns.map Tr.int)]/\ns≠[]/\∀M,M∈ns->(∀a∈ns,M<=a)->KK (.int M)
theorem xgb:CbS (xf5 K) xiu:=by intro F H vs ts KK Q r hf q;obtain⟨ns,rfl,h0,h1⟩:=hf;obtain⟨v,rfl,a,ws,e,n,ha,rl⟩:=jj r;rw[qa rl] at ha;exact⟨a,ns,by rw[e],SqL.of ha,h0,λM h2 h3=>q _ _ rfl (h1 M h2 h3)⟩
end
end L2
namespace L2
open PySem Trn
section
variable {rows:List Pol.R3} {ws:List F2}
end
def xb3 (rows:List Pol.R3)(p:D2):Prop:=∀r∈rows,r.1*p.1+r.2.1*p.2<=r.2.2
def xjl:TSp:=λts KK=>∃rows:List Pol.R3,ts=[.tup (rows.map trR),.lst ((yG rows).map yO)]/\LF rows/\∀ps:List D2,(∀p∈ps,Bx 1000 p/\xb3 rows p)->ps.length<=2000->KK (.lst (ps.map wpT))
theorem LF.floors (h:LF rows)(hv:v∈yG rows):(-12<=(plc v).1.1.fdiv (plc v).1.2/\(plc v).1.1.fdiv (plc v).1.2<=12)/\(-12<=(plc v).2.1.fdiv (plc v).2.2/\(plc v).2.1.fdiv (plc v).2.2<=12):=by
 obtain⟨⟨vz,_,C⟩,_⟩:=h.fine.corner hv;have nr:=h.near v vz C.kept;have go:∀ {t:Int},-(12*v.2.2)<=t/\t<=12*v.2.2->-12<=(Fra.low t v.2.2).1.fdiv (Fra.low t v.2.2).2/\(Fra.low t v.2.2).1.fdiv (Fra.low t v.2.2).2<=12:=λ {t} hn=>by
  have S:=aS (t:=t) vz;have:=S.pf;rw[xki _ (by omega),S.floor];constructor
  .rw[Int.le_ediv_iff_mul_le vz];omega
  .have a:=Int.ediv_mul_le t (show v.2.2≠0 by omega);exact xkq (a:=v.2.2) (by omega) vz
 exact⟨go nr.1,go nr.2⟩
end L2
namespace L2
open PySem PySem.Spec PyProof.Rows
section
variable {κ:Type} [DecidableEq κ]
def l9 (kvs:List (κ×V))(k:κ):Option V:=(kvs.find? λkv=>decide (kv.1=k)).map (·.2)
theorem p9 {p:κ×V}{r:List (κ×V)}{k:κ}(e:p.1=k):l9 (p::r) k=some p.2:=by simp[l9,xk6,e]
theorem oh {p:κ×V}{r:List (κ×V)}{k:κ}(e:¬p.1=k):l9 (p::r) k=l9 r k:=by simp[l9,xk6,e]
theorem oV (k:κ):∀kvs:List (κ×V),(kvs.any λkv=>decide (kv.1=k))=(l9 kvs k).isSome
 | []=>rfl
 | p::r=>by
  rw[xkU];by_cases e:p.1=k
  .simp only[p9 e,xmx e,Bool.true_or,Option.isSome_some]
  .rw[oh e,xmw e,Bool.false_or];exact oV k r
end
theorem xiC {P:Program}{w:World}{k:Key}{u:Value}(r:RelV (kV k) u):(vY P w).is k u=true:=by
 cases k with
 | inl i=>obtain⟨t,e⟩:=(show ∃t,u=Value.int i t from r);subst e;exact cj P w i t
 | inr x=>obtain⟨t,e⟩:=(show ∃t,u=Value.str x t from r);subst e;exact c5 P w x t
theorem mR {P:Program}{w:World}:∀ {ks:List Key} {us:List Value},zo (ks.map kV) us->ItemsAre (vY P w) ks us
 | [],_,r=>by rw[xlD] at r;cases r;exact .nil
 | k::ks,_,r=>by
  rw[xlB] at r;cases r with
  | cons h t=>exact .cons (xiC h) (mR t)
abbrev KT (H:Hp):List (List Key×V)->List (List Key×Addr×Value)->Prop:=Paired λp q=>p.1=q.1/\H q.2.1=some (.tup (p.1.map kV))/\RelV p.2 q.2.2
theorem KT.val {H:Hp}{kvs:List (List Key×V)}{xs:List (List Key×Addr×Value)}(r:KT H kvs xs)(k:List Key):xhW (l9 kvs k) ((atKey xs k).map (·.2)):=by
 induction r with
 | nil=>exact True.intro
 | @cons p q ps qs h t ih =>
  obtain⟨h1,_,h2⟩:=h;by_cases e:p.1=k
  .have e':q.1=k:=h1.symm.trans e;have b:atKey (q::qs) k=some q.2:=by simp[atKey,xk6,e']
   rw[p9 e,b];exact h2
  .have e':¬q.1=k:=λz=>e (h1.trans z);have b:atKey (q::qs) k=atKey qs k:=by simp[atKey,xk6,e']
   rw[oh e,b];exact ih
theorem KT.keeps {H H':Hp}{kvs:List (List Key×V)}{xs:List (List Key×Addr×Value)}(r:KT H kvs xs)(ht:∀b ys,H b=some (.tup ys)->H' b=some (.tup ys)):KT H' kvs xs :=Paired.mapP r λ_ _ z=>⟨z.1,ht _ _ z.2.1,z.2.2⟩
section
variable {P:Program} {w:World} {H:Hp} {h:Heap} {a:Addr}
theorem xix {u:HO}(ok:HOk P w H h)(e:Rd H a u):uB P w H h a u:=e.ok ok
theorem xeD {ks:List Key}(ok:HOk P w H h)(e:H a=some (.tup (ks.map kV))):(tupleKind (vY P w)).is h ks a:=by
 obtain⟨_,its,r,o,h1,h2,n,h3⟩:=(show uB P w H h a (.tup (ks.map kV)) from ok a _ e)
 exact⟨o,its.toArray,n,h1,h2,h3,by simpa using mR r⟩
theorem xil {kvs:List (List Key×V)}(ok:HOk P w H h)(e:Rd H a (.dT kvs)):kvs.length<=sizeLine/\(a == sysModules)=false /\
  ∃xs,KT H kvs xs/\h.DictOfH (tupleKind (vY P w)) a xs:=by
 obtain⟨z,y,xs,r,o,es,ep,h1,h2,h3,h4,h5⟩:=(show uB P w H h a (.dT kvs) from xix ok e)
 refine⟨z,y,xs,r,o,es,ep,h1,h2,h3,h4,λx hx=>?_,h5⟩;have all:∀ {l:List (List Key×V)} {m:List (List Key×Addr×Value)},KT H l m->∀x∈m,(tupleKind (vY P w)).is h x.1 x.2.1:=by
  intro l m q
  induction q with
  | nil=>intro x hx;exact nomatch hx
  | @cons p q ps qs hq t ih =>
   intro x hx;rcases xlI.mp hx with e | hx
   .subst e;exact xeD ok (by rw[<-hq.1];exact hq.2.1)
   .exact ih x hx
 exact all r x hx
theorem xfa {kvs:List (List Key×V)}(ok:HOk P w H h)(e:H a=some (.dT kvs)):kvs.length<=sizeLine/\(a == sysModules)=false /\
  ∃xs,KT H kvs xs/\h.DictOfH (tupleKind (vY P w)) a xs:=xil ok (.inl e)
end
section
variable {X:Cx} {pins:List (Addr×Obj)} {σ:St} {H:Hp} {s:Shared} {a:Addr} {y v:V} {u r:Value} {o:Option V} {A:Around} {E:Value->Shared->Prop}
theorem Inv.big (I:Inv X pins σ H s):sysModules<s.heap.objs.size:=by have h:mainGlobals<s.heap.objs.size:=(I.mod.glob.keeps I.bk).lt;exact Nat.lt_trans (by decide) h
theorem xf7 {h':Heap}{t':Nat}{ob:HO}(I:Inv X pins σ H s)(mu:Mut (H a))(hs:Heap.SameBut a s.heap h')(he:∃q,h'.get? a=some q)(new:uB X.prog X.w (upd H a ob) h' a ob) :
  Inv X pins σ (upd H a ob) { s with heap:=h',toks:=t' } :=
 I.write (x:=a) (e:=a) mu (.inl rfl) (λb q hb z=>(hs.2 b hb).trans z) he new
end
section
variable {X:Cx} {pins:List (Addr×Obj)} {σ:St} {H:Hp} {s:Shared} {a:Addr} {kvs:List (Key×V)} {k:Key} {u:Value} {A:Around} {E:Value->Shared->Prop}
end
section
variable {X:Cx} {o i e value:Expr} {pos pos' tpos:Pos} {td ty tv:TE}
end
theorem xdP {P:Program}{w:World}{H:Hp}(h:Heap)(hb:sysModules<h.objs.size):uB P w H (h.push { cls:=.type "dict", data:=.dict #[] }) h.objs.size (.dT []) :=⟨xms _,beq_eq_false_iff_ne.mpr (Ne.symm (xmq hb)),[],.nil,_,#[],0,Heap.get?_push_size _ rfl,⟨rfl,rfl,rfl⟩,rfl,rfl,List.nodup_nil⟩
def xd1:TE:=λ_ H Q=>∀p,H p=none->Q (.ref p) (upd H p (.dT []))
section
variable {X:Cx} {pos:Pos}
theorem xdr:PE X (.Dict [] [] pos) xd1:=λpins s σ H Q I h =>wpAny_Dict_empty ⟨.ref s.heap.objs.size,_,I.laid (a:=s.heap.objs.size) (o:=.dT []) (t':=s.toks) (λ_ _ q=>Heap.get?_push_of_some _ q) (xmd _) (xdP s.heap I.big),rfl,h _ (I.hok.fresh (xmd _))⟩
end
section
variable {X:Cx} {pins:List (Addr×Obj)} {σ:St} {H:Hp} {s:Shared} {a:Addr} {y d:V} {u r:Value} {o:Option V} {A:Around} {E:Value->Shared->Prop}
end
section
variable {X:Cx} {o e f:Expr} {apos cpos:Pos} {td ty tx:TE}
end
section
variable {X:Cx} {pins:List (Addr×Obj)} {σ:St} {H:Hp} {s:Shared} {a:Addr} {kvs:List (Key×V)} {A:Around} {E:Value->Shared->Prop}
end
section
variable {X:Cx} {pins:List (Addr×Obj)} {σ:St} {H:Hp} {s:Shared} {a:Addr} {y:V} {u:Value} {A:Around} {E:Value->Shared->Prop}
end
end L2
namespace L2
open PySem PySem.Spec PyProof.Rows
section
variable {prog:Program} {w:World} {A:Around} {E:Value->Shared->Prop} {s:Shared}
theorem kY {v d:Addr}{od:Obj}{es:Array DictEntry}{ep:Nat}{Q:Value->Shared->Prop}(hv:s.heap.IsValuesView v d)(hod:s.heap.get? d=some od)(hoc:od.ExactDict)(hdd:od.data=.dict es ep)
  (hQ:Q (.ref s.heap.objs.size) { s with heap:=s.heap.push { cls:=.type "dict_valueiterator", data:=.fields #[.ref d,.int 0 0,.int es.size 0,.int ep 0] } }) :
  wpAny (model prog w) A (pyIter (.ref v)) Q E s:=by
 obtain⟨ov,hov,hcv,hdv⟩:=id hv;refine wpAny_pyIter_slot hv.typeIs F.slot_dict_values_iter (wpAny_call_entry F.slot_dict_values_iter hv.typeIs F.entry_dict_values_iter ?_ (F.args_dict_values_iter_1 _));unfold Builtin.«dict_values.__iter__»;refine wpAny_bind (wpAny_pure ?_);refine wpAny_bind ?_;unfold Builtin.Dict_items.dictOf;refine wpAny_bind (wpAny_field hov hdv (x:=.ref d) rfl (wpAny_pure ?_));refine wpAny_bind ?_;unfold Builtin.Dict_items.newIterator;refine wpAny_bind (wpAny_dictEntries hod hdd ?_);refine wpAny_bind (wpAny_dictEpoch hod hdd ?_);have hsz:es.size=es.size:=rfl;have hown:Builtin.Dict_items.ownsTuple "dict_valueiterator" = false:=by decide
 simp only[hown,xj7,xmz];refine wpAny_newObj_type (wpAny_pure ⟨_,rfl, "dict_valueiterator", _,⟨_,Heap.get?_push_size _ rfl,rfl⟩,F.slot_dict_valueiterator_next.lookup,?_⟩);simpa [rawInt,hsz] using hQ
theorem vX {it d:Addr}{i ep:Nat}{od:Obj}{es:Array DictEntry}{en:DictEntry}{Q:Option Value->Shared->Prop}(hit:s.heap.IsValIter it d i es.size ep)
  (hod:s.heap.get? d=some od) (hoc:od.ExactDict) (hdd:od.data=.dict es ep) (hx:es[i]? = some en)
  (hQ:∀h',h'.IsValIter it d (i+1) es.size ep->Heap.SameBut it s.heap h'->Q (some en.val) { s with heap:=h' }) :
  wpAny (model prog w) A (pyNext (.ref it)) Q E s:=by
 obtain⟨o,ho,hc,hd⟩:=id hit;unfold pyNext;refine wpAny_bind (wpAny_attempt (wpAny_callSpecial?_slot (name:=Str.ofString "__next__") hit.typeIs F.slot_dict_valueiterator_next
  (wpAny_call_entry F.slot_dict_valueiterator_next hit.typeIs F.entry_dict_valueiterator_next ?_ (F.args_dict_valueiterator_next_1 _))))
 refine wpAny_bind (wpAny_pure ?_);refine wpAny_bind ?_;refine wpAny_bind ?_
 first | refine wpAny_bind (wpAny_typeNameOfWhole_valiter hit.typeIs (wpAny_pure ?_)) | refine wpAny_bind (wpAny_typeNameOf_valiter hit.typeIs (wpAny_pure ?_))
 refine wpAny_bind (wpAny_fieldsOf ho hd ?_);have hown:Builtin.Dict_items.ownsTuple "dict_valueiterator" = false:=by decide
 simp only[hown,xj7,xmz];show wpAny _ _ (if (Value.ref d == Value.none)=true then _ else _) _ _ s;rw[if_neg (show ¬((Value.ref d == Value.none)=true) from xj8)];refine wpAny_bind (wpAny_pure ?_);refine wpAny_bind (wpAny_dictEntries hod hdd ?_);have hsz:es.size=es.size:=rfl;rw[if_neg (by simp)];refine wpAny_bind (wpAny_pure ?_);refine wpAny_bind (wpAny_dictEpoch hod hdd ?_);rw[if_neg (by simp)];refine wpAny_pure ?_;have hlt:i<es.size:=by
  rcases Nat.lt_or_ge i es.size with h | h
  .exact h
  .rw[Array.getElem?_eq_none h] at hx;cases hx
 have hlt':i<es.size:=hlt;have hval:es[i].val=en.val:=by rw[xj3 hlt'] at hx;cases hx;rfl
 simp only[show ¬((i:Int)<0) from by omega,xmz,xkN,xj3 hlt'];refine wpAny_bind ?_
 first | refine wpAny_bind (wpAny_typeNameOfWhole_valiter hit.typeIs (wpAny_pure ?_)) | refine wpAny_bind (wpAny_typeNameOf_valiter hit.typeIs (wpAny_pure ?_))
 refine wpAny_bind (wpAny_isOneOf_valiter hit.typeIs ?_);show wpAny _ _ (setField (.ref it) 1 (rawInt ((i:Int)+1)) >>= _) _ _ s;refine wpAny_bind (wpAny_setField ho hd (by simp) ?_);have hit':(s.heap.update it (Obj.mapFields (·.setIfInBounds 1 (rawInt ((i:Int)+1))))).IsValIter it d (i+1) es.size ep :=⟨_,Heap.get?_update_self _ ho (Obj.isFreed_of_fields (Obj.data_mapFields hd _)),(Obj.cls_mapFields ..).trans hc,by rw[Obj.data_mapFields hd];simp[rawInt]⟩
 refine wpAny_bind (wpAny_holding ?_);refine wpAny_bind (wpAny_isOneOf_valiter (s:={ s with heap:=s.heap.update it (Obj.mapFields (·.setIfInBounds 1 (rawInt ((i:Int)+1)))) }) hit'.typeIs ?_);refine wpAny_bind (wpAny_isOneOf_valiter (s:={ s with heap:=s.heap.update it (Obj.mapFields (·.setIfInBounds 1 (rawInt ((i:Int)+1)))) }) hit'.typeIs ?_);show wpAny _ _ (pure es[i].val) _ _ _;exact wpAny_pure (wpAny_pure ⟨_,rfl,wpAny_pure (hval▸hQ _ hit' (Heap.SameBut.update ..))⟩)
theorem v_ {it d:Addr}{i ep:Nat}{od:Obj}{es:Array DictEntry}{Q:Option Value->Shared->Prop}(hh:A.handled=none)(hit:s.heap.IsValIter it d i es.size ep)
  (hod:s.heap.get? d=some od) (hoc:od.ExactDict) (hdd:od.data=.dict es ep) (hx:es[i]? = none)
  (hQ:∀h',Heap.ExtBut it s.heap h'->Q none { s with heap:=h' }):wpAny (model prog w) A (pyNext (.ref it)) Q E s:=by
 obtain⟨o,ho,hc,hd⟩:=id hit;unfold pyNext;refine wpAny_bind (wpAny_attempt (wpAny_callSpecial?_slot (name:=Str.ofString "__next__") hit.typeIs F.slot_dict_valueiterator_next
  (wpAny_call_entry F.slot_dict_valueiterator_next hit.typeIs F.entry_dict_valueiterator_next ?_ (F.args_dict_valueiterator_next_1 _))))
 refine wpAny_bind (wpAny_pure ?_);refine wpAny_bind ?_;refine wpAny_bind ?_
 first | refine wpAny_bind (wpAny_typeNameOfWhole_valiter hit.typeIs (wpAny_pure ?_)) | refine wpAny_bind (wpAny_typeNameOf_valiter hit.typeIs (wpAny_pure ?_))
 refine wpAny_bind (wpAny_fieldsOf ho hd ?_);have hown:Builtin.Dict_items.ownsTuple "dict_valueiterator" = false:=by decide
 simp only[hown,xj7,xmz];show wpAny _ _ (if (Value.ref d == Value.none)=true then _ else _) _ _ s;rw[if_neg (show ¬((Value.ref d == Value.none)=true) from xj8)];refine wpAny_bind (wpAny_pure ?_);refine wpAny_bind (wpAny_dictEntries hod hdd ?_);have hsz:es.size=es.size:=rfl;rw[if_neg (by simp)];refine wpAny_bind (wpAny_pure ?_);refine wpAny_bind (wpAny_dictEpoch hod hdd ?_);rw[if_neg (by simp)];refine wpAny_pure ?_;have hge:es.size<=i:=by simpa using hx
 simp only[show ¬((i:Int)<0) from by omega,xmz,xkN,Array.getElem?_eq_none hge];refine wpAny_bind ?_
 first | refine wpAny_bind (wpAny_typeNameOfWhole_valiter hit.typeIs (wpAny_pure ?_)) | refine wpAny_bind (wpAny_typeNameOf_valiter hit.typeIs (wpAny_pure ?_))
 show wpAny _ _ (setField (.ref it) 0 .none >>= _) _ _ s;refine wpAny_bind (wpAny_setField ho hd (by simp) ?_);show wpAny _ _ (newExc (.type "StopIteration") [] >>= _) _ _ _;refine wpAny_bind ?_;simp only[newExc,newTuple];refine wpAny_bind (wpAny_newObj_type ?_ (by size_fits));refine wpAny_bind (m:=firstArgMember _ _) (wpAny_of_eq (a:=Value.none) (by first | rfl | (simp only[firstArgMember];rfl)) ?_);refine wpAny_newObj_type ?_ (by size_fits);simp only[raiseNew];refine wpAny_bind (wpAny_handled ?_);rw[show A.in1.handled=none from hh];refine wpAny_bind (wpAny_pure (wpAny_throw ?_));refine wpAny_bind (wpAny_isInstance (T := "StopIteration") (b:=true) ⟨_,Heap.get?_push_size _ rfl,rfl⟩ isSubtype_stop ?_);exact wpAny_pure (hQ _ (((Heap.SameBut.update ..).extBut.push _).push _))
end
end L2
namespace L2
open PySem PySem.Spec PyProof.Rows
section
variable {prog:Program} {w:World} {κ:Type} [DecidableEq κ] {knd:HeapKind prog w κ} {A:Around} {E:Value->Shared->Prop} {s:Shared}
theorem xdA {d a:Addr}{xs:List (κ×Addr×Value)}{k:κ}{v:Value}{Q:Value->Shared->Prop}(hu:knd.room A)(hkey:knd.is s.heap k a)(hm:s.heap.DictOfH knd d xs)
  (hthere:∀p,atKey xs k=some p->Q p.2 { s with toks:=s.toks+knd.draws k })
  (hnew:atKey xs k=none->∀h',h'.DictOfH knd d (xs++[(k,a,v)])->Heap.SameBut d s.heap h'->Q v { s with heap:=h',toks:=s.toks+knd.draws k }) (hsz:xs.length<=sizeLine) :
  wpAny (model prog w) A (dictSetDefault d (.ref a) v) Q E s:=by
 obtain⟨o,es,ep,ho,hc,hd,he,his,hn⟩:=hm;unfold dictSetDefault
 try with_reducible refine wpAny_holding ?_
 refine wpAny_bind (knd.pyHash hu hkey ?_);refine wpAny_bind (wpAny_dictFind_heap (s:={ s with toks:=s.toks+knd.draws k }) hu hkey ho hd he his hn ?_ ?_)
 .intro hno;have hnot:k∉xs.map (·.1):=not_mem_keys_of_get hno;refine wpAny_bind (wpAny_rule (wpAny_bind (wpAny_updateDictKeys (hz:=by have e:=size_of_entries he;omega) (s:={ s with toks:=s.toks+knd.draws k }) ho hd (wpAny_pure (hnew (atKey_none_of_get hno) _ ⟨_,_,ep+1,Heap.get?_update_self _ ho (Obj.isFreed_of_dict (Obj.data_mapDictKeys hd _)),
   hc.mapDictKeys _,Obj.data_mapDictKeys hd _,?_,?_,?_⟩ (Heap.SameBut.update ..))))))
  .simp[he,entryOfKey]
  .intro x hx;rcases xlF.mp hx with hx | hx
   .exact knd.keeps (his x hx) ho hd (Heap.SameBut.update ..)
   .simp only[xlU] at hx;subst hx;exact knd.keeps hkey ho hd (Heap.SameBut.update ..)
  .rw[xlA,xlW];refine⟨hn,by simp,?_⟩;intro x hx y hy;simp only[xlB,xlD,xlU] at hy;subst hy;exact λe=>hnot (e▸hx)
 .intro j p hj;refine wpAny_bind (wpAny_dictEntries (s:={ s with toks:=s.toks+knd.draws k }) ho hd ?_);rw[entry_at he j,hj];exact wpAny_bind (wpAny_rule (wpAny_pure (hthere p (atKey_of_get hn hj))))
end
section
variable {X:Cx}
def xaC:V->List V->Hp->VK->Prop:=λx vs H Q=>∃d b kvs k v,x=.ref d/\vs=[.ref b,v]/\H d=some (.dT kvs)/\H b=some (.tup (k.map kV))/\kvs.length<sizeLine /\
 (∀u,l9 kvs k=some u->Q u H)/\(l9 kvs k=none->Q v (upd H d (.dT (kvs++[(k,v)]))))
theorem xbK (hu:X.A.units+1<cLine):MtM X "dict.setdefault" xaC:=by
 intro pins s σ H x vs v us Q I rx rv h;obtain⟨d,b,kvs,k,y,rfl,rfl,hH,hB,hz,q1,q2⟩:=h;cases rx;obtain⟨u1,u2,rfl,r1,r2⟩:=vals2 rv;cases (show u1=Value.ref b from r1);obtain⟨z,hd,xs,rel,dd⟩:=xfa I.hok hH;have hl:xs.length<=sizeLine:=by rw[<-Paired.length rel];exact z
 refine wpAny_call_entry F.slot_dict_setdefault dd.typeIs F.entry_dict_setdefault ?_ (F.args_dict_setdefault_3 _ _ _);show wpAny _ _ (Builtin.Dict.keyAndDefault "setdefault" ⟨[.ref d,.ref b,u2],[]⟩ >>= _) _ _ s;unfold Builtin.Dict.keyAndDefault;refine wpAny_bind (wpAny_bind (wpAny_notOrdered_dict dd.typeIs ?_));refine wpAny_pure ?_;show wpAny _ _ (if (d == sysModules)=true then _ else(dictSetDefault d (.ref b) u2 >>= _)) _ _ s;rw[if_neg (by rw[hd];exact xj8)];have rk:=rel.val k;refine wpAny_bind (xdA (tupleKind_room_in1 hu) (xeD I.hok hB) dd (λp hp=>?_) (λhn h' dd' hs=>?_) hl)
 .rw[hp] at rk;cases e:l9 kvs k with
  | none=>rw[e] at rk;exact rk.elim
  | some u=>rw[e] at rk;exact wpAny_pure ⟨_,rfl,u,H,I.tok _,rk,q1 u e⟩
 .rw[hn] at rk;have e:l9 kvs k=none:=by
   cases e:l9 kvs k with
   | none=>rfl
   | some u=>rw[e] at rk;exact rk.elim
  refine wpAny_pure ⟨_,rfl,y,_,?_,r2,q2 e⟩;obtain⟨q,es,ep,hq,h2,h3,h4,_,h5⟩:=dd';refine xf7 I (by rw[hH];exact True.intro) hs ⟨q,hq⟩ ⟨by rw[xll,xlx];omega,hd,_,KT.keeps (Paired.snoc rel ⟨rfl,hB,r2⟩) λc ys ec=>?_,q,es,ep,hq,h2,h3,h4,h5⟩;rw[xJ (xaN ec hH (λz=>nomatch z))];exact ec
end
end L2
namespace L2
open PySem PySem.Spec PyProof.Rows PySem.W
def xgh (h:Heap)(d:Addr)(es:Array DictEntry)(ep:Nat):Prop:=∃od,h.get? d=some od/\od.ExactDict/\od.data=.dict es ep
section
variable {prog:Program} {w:World} {A:Around}
theorem xgh.at {h h':Heap}{d:Addr}{es:Array DictEntry}{ep:Nat}(x:xgh h d es ep)(k:∀o,h.get? d=some o->h'.get? d=some o):xgh h' d es ep:=let ⟨o,e,r⟩:=x;⟨o,k o e,r⟩
theorem xii (hh:A.handled=none)(I d:Addr)(hne:d≠I)(es:Array DictEntry)(ep:Nat) :
  Walks prog w A I [I,d] [I] es.size (λi v=>∃en,es[i]? = some en/\v=en.val) (λi h=>h.IsValIter I d i es.size ep/\xgh h d es ep) where
 sub:=λb hb=>xlI.mpr (.inl (xlU.mp hb))
 frame:=λ_ _ _ st hk=>⟨let ⟨o,e,r⟩:=st.1;⟨o,hk I (by simp) o e,r⟩,st.2.at λo e=>hk d (by simp) o e⟩
 item:=λi s Q E hi st hQ=>by obtain⟨od,e1,e2,e3⟩:=st.2;have hx:es[i]? = some es[i]:=xj3 hi;refine vX st.1 e1 e2 e3 hx λh' hit' hs'=>?_;exact hQ _ h' s.toks ⟨_,hx,rfl⟩ ⟨hit',st.2.at λo e=>(hs'.2 d hne).trans e⟩ λb o hb e=>(hs'.2 b λz=>hb (by simp[z])).trans e
 done:=λs Q E st hQ=>by obtain⟨od,e1,e2,e3⟩:=st.2;exact v_ hh st.1 e1 e2 e3 (by simp) λh' he'=>hQ h' s.toks λb o hb e=>he' b o (λz=>hb (by simp[z])) e
 self:=λ_ _ _ _ st hQ=>wpAny_pyIter_valiter st.1 hQ
theorem xfM {r d:Addr}{es:Array DictEntry}{ep:Nat}:KdlSrc prog w "dict_values" r d es.size (λi v=>∃en,es[i]? = some en/\v=en.val) (λh=>h.IsValuesView r d/\xgh h d es ep) where
 type:=λ_ hm=>hm.1.typeIs
 there:=λ_ hm=>⟨let ⟨_,ho,_⟩:=hm.1;Heap.lt_size ho,let ⟨_,ho,_⟩:=hm.2;Heap.lt_size ho⟩
 keep:=λ_ _ hm hk=>⟨let ⟨o,ho,x⟩:=hm.1;⟨o,hk r (.inl rfl) o ho,x⟩,hm.2.at λo e=>hk d (.inr rfl) o e⟩
 notList:=by decide
 notTuple:=by decide
 hint:=λ_ _ _ _ hm hq=>kdl_hint_values hm.1.typeIs hq
 iter:=λ_ s hh hm=>by obtain⟨od,e1,e2,e3⟩:=hm.2;exact⟨_,_,(λ_ _ hq=>kY hm.1 e1 e2 e3 hq),xii hh _ d (xmq (Heap.lt_size e1)) es ep,⟨⟨_,Heap.get?_push_size _ rfl,rfl,rfl⟩,hm.2.at λo e=>Heap.get?_push_of_some _ e⟩⟩
end
section
variable {X:Cx}
def xcf (v d:Addr):HO:=.ext λh=>h.IsValuesView v d
def xg1:V->List V->Hp->VK->Prop:=λx vs H Q=>∃d kvs,x=.ref d/\vs=[]/\H d=some (.dT kvs)/\∀v,H v=none->Q (.ref v) (upd H v (xcf v d))
theorem xbo:MtM X "dict.values" xg1:=by intro pins s σ H x vs v us Q I rx rv h;obtain⟨d,kvs,rfl,rfl,hH,q⟩:=h;cases rx;have hus:=rv.zero;subst hus;obtain⟨z,hd,xs,rel,dd⟩:=xfa I.hok hH;refine wpAny_call_entry F.slot_dict_values dd.typeIs F.entry_dict_values ?_ (F.args_dict_values_1 _);refine wpAny_bind ?_;unfold Builtin.Dict.noArgs;refine wpAny_bind (wpAny_notOrdered_dict dd.typeIs ?_);show wpAny _ _ (pure d) _ _ s;refine wpAny_pure ?_;show wpAny _ _ (Builtin.Dict.showsAll d >>= _) _ _ s;unfold Builtin.Dict.showsAll;rw[if_neg (by rw[hd];exact xj8)];refine wpAny_bind (wpAny_pure ?_);refine wpAny_bind (wpAny_newObj_type (wpAny_pure ⟨_,rfl,.ref s.heap.objs.size,_,I.laid (t':=s.toks) (o:=xcf s.heap.objs.size d) (λb ob q=>Heap.get?_push_of_some _ q) (xmd _) ?_,rfl,q _ (I.hok.fresh (xmd _))⟩));have at0:(s.heap.push { cls:=.type "dict_values", data:=.fields #[.ref d] }).get? s.heap.objs.size=some { cls:=.type "dict_values", data:=.fields #[.ref d] }:=Heap.get?_push_size _ rfl;exact⟨⟨_,at0,rfl,rfl⟩,⟨_,at0⟩,λh1 h2 x k=>let ⟨o,e,r⟩:=x;⟨o,k o e,r⟩⟩
theorem bz {α β:Type}{F:α->β->Prop}:∀ {l:List α} {m:List β},Paired F l m->∀ {i:Nat} {y:β},m[i]? = some y->∃x,l[i]? = some x/\F x y
 | _,_,.nil,i,y,h=>by simp at h
 | _,_,.cons r t,0,y,h=>by cases h;exact⟨_,rfl,r⟩
 | _,_,.cons r t,i+1,y,h=>bz t (i:=i) (by simpa using h)
theorem xbz {α β:Type}{F:α->β->Prop}:∀ {l:List α} {m:List β},l.length=m.length->(∀(i:Nat) (a:α) (b:β),l[i]? = some a->m[i]? = some b->F a b)->Paired F l m
 | [],[],_,_=>.nil
 | [],_::_,h,_=>by simp at h
 | _::_,[],h,_=>by simp at h
 | a::l,b::m,h,f=>.cons (f 0 a b rfl rfl) (xbz (by simpa using h) λi x y h1 h2=>f (i+1) x y (by simpa using h1) (by simpa using h2))
theorem xhe {P:Program}{w:World}{H:Hp}{h:Heap}{d:Addr}{kvs:List (List Key×V)}(ok:HOk P w H h)(e:H d=some (.dT kvs)):∃(es:Array DictEntry) (ep:Nat),xgh h d es ep/\es.size=kvs.length/\(d == sysModules)=false/\kvs.length<=sizeLine /\
  (∀(i:Nat) (en:DictEntry),es[i]? = some en->∃kv:List Key×V,kvs[i]? = some kv/\RelV kv.2 en.val/\∃q,en.key=.ref q/\H q=some (.tup (kv.1.map kV))):=by
 obtain⟨z,hd,xs,rel,o,es,ep,h1,h2,h3,h4,_⟩:=xfa ok e;have len:kvs.length=xs.length:=Paired.length rel;have hs:es.size=xs.length:=by rw[<-xj4,h4,xlq]
 refine⟨es,ep,⟨o,h1,h2,h3⟩,by omega,hd,z,λi en hi=>?_⟩;have hi':es.toList[i]? = some en:=by rw[Array.getElem?_toList];exact hi
 rw[h4,xlf] at hi';cases ex:xs[i]? with
 | none=>rw[ex] at hi';cases hi'
 | some x =>rw[ex] at hi';cases hi';obtain⟨kv,ekv,r1,r2,r3⟩:=bz rel ex;exact⟨kv,ekv,r3,x.2.1,rfl,r2⟩
def xef (xs:List V)(H:Hp)(Q:VK):Prop:=∃v d kvs,xs=[.ref v]/\H v=some (xcf v d)/\H d=some (.dT kvs)/\∀p,H p=none->Q (.ref p) (upd H p (.lst (kvs.map (·.2))))
theorem o_ (hc:X.calm=true):qh X (.type "list") xef:=by
 intro pins s σ H xs us Q I r h;obtain⟨v,d,kvs,rfl,hv,hH,q⟩:=h;obtain⟨u,rfl,ru⟩:=vals1 r;cases ru;obtain⟨es,ep,raw,sz,hd,z,all⟩:=xhe I.hok hH;obtain⟨vw,_,_⟩:=(show uB X.prog X.w H s.heap v (xcf v d) from I.hok v _ hv)
 refine kdl_call xfM (I.ok.hd hc) ⟨vw,raw⟩ (by omega) λh' tk acc' c' hk hD hacc=>?_;refine⟨.ref s.heap.objs.size,_,I.laid (t':=tk) (o:=.lst (kvs.map (·.2))) hk (xmd _) ⟨by rw[xlq];exact z,acc'.toList,c',?_,by rw[Array.toArray_toList];exact hD⟩,rfl,q _ (I.hok.fresh (xmd _))⟩;refine xbz (by have e1:=hacc.1;have e2:acc'.toList.length=acc'.size:=xj4;rw[xlq,e2];omega) λi a b ha hb=>?_;rw[xlf] at ha;rw[Array.getElem?_toList] at hb;obtain⟨en,e1,rfl⟩:=hacc.2 i b hb;obtain⟨kv,e2,e3,_⟩:=all i en e1;rw[e2] at ha;cases ha;exact e3
end
end L2
namespace L2
open PySem PySem.Spec PyProof.Rows
section
variable {K:PySem.W.Frag} {B:FB} {φ:Phi} {σ:St} {τ:TSt} {H H' H'':Hp} {fr:Bool}
theorem RS.wrOd {i:Nat}{ks ks':List (List Int×Tr)}{a:Addr}{hk':List (List Key×V)}(R:RS K B φ σ τ H)(hi:nth τ i=.od ks)(e1:σ[i]? = some (some (.ref a)))(r:KvR (Av B φ) H ks' hk'):RS K B φ σ (τ.set i (.od ks')) (upd H a (.dT hk')):=by
 have en:=R.ent i;rw[hi] at en;have ow:Owd (nth τ i):=by rw[hi];trivial
 obtain⟨a',hk,e1',e2,e3,e4,_⟩:=en;rw[e1] at e1';cases e1';have hl:i<τ.length:=by
  by_cases h:i<τ.length
  .exact h
  .rw[wB (by omega)] at hi;cases hi
 have mv:∀c o,H c=some o->¬Av B φ c->(upd H a (.dT hk')) c=some o/\¬Av B φ c:=λc o e n=>⟨by rw[xJ (λz=>n (by rw[z];exact .inr ⟨i,e2⟩))];exact e,n⟩
 have nsa:∀c,SA B φ (τ.set i (.od ks')) c->SA B φ τ c/\c≠a:=λc s=>by
  rcases s with s | ⟨j,s,hj⟩
  .exact⟨.inl s,λz=>R.f0 a (R.s0 a (z▸s)) e3⟩
  .by_cases e:j=i
   .subst e;rw[yZ hl] at hj;cases hj
   .rw[yA e] at hj;exact⟨.inr ⟨j,s,hj⟩,λz=>e (R.injG i j a ow e2 (z▸s)).symm⟩
 refine⟨R.f0,R.s0,λc o e n=>?_,λc s=>?_,λj k c hj f1 f2=>?_,λj c e=>?_,by rw[xlw];exact R.len,λj=>?_,λp hp=>yx mv _ _ (R.gh p hp)⟩
 .rw[xJ (xD e e3)];exact R.ext c o e n
 .obtain⟨s',hne⟩:=nsa c s;obtain⟨n,b,q,z⟩:=R.sst c s';exact⟨n,b,by rw[xJ hne];exact q,z⟩
 .by_cases e:j=i
  .subst e;exact R.injG j k c ow f1 f2
  .rw[yA e] at hj;exact R.injG j k c hj f1 f2
 .by_cases z:c=a
  .rw[z,xV];exact λz=>nomatch z
  .rw[xJ z];exact R.ow j c e
 .by_cases e:j=i
  .subst e;rw[yZ hl];exact⟨a,hk',e1,e2,e3,xV,Paired.mapP r λp q z=>⟨z.1,yx mv _ _ z.2⟩⟩
  .rw[yA e];refine jH (R.ent j) rfl (λt v=>yx mv t v) (λt v=>yo mv t v) (λc o hj f1 f2=>?_) λc ns z=>?_
   .rw[xJ (λ(z:c=a)=>e (R.injG i j a ow e2 (by rw[<-z];exact f1)).symm)];exact f2
   .refine⟨?_,λP q h=>by rw[xJ (xaN (z.2 P q h) e4 (λq=>nomatch q))];exact z.2 P q h⟩;rcases z.1 with ⟨o,z⟩ | z
    .exact .inl ⟨o,by rw[xJ (xaN z e4 (λq=>nomatch q))];exact z⟩
    .exact .inr z
theorem xdn {i:Nat}{a:Addr}{ks:List (List Int×Tr)}(R:RS K B φ σ τ H)(x:HX B φ τ H H')(hi:nth τ i=.od ks)(e1:σ[i]? = some (some (.ref a))):∃hk,H' a=some (.dT hk)/\KvR (Av B φ) H' ks hk:=by have en:=(R.hx x).ent i;rw[hi] at en;obtain⟨a',hk,q1,_,_,q4,r⟩:=en;rw[e1] at q1;cases q1;exact⟨hk,q4,r⟩
theorem xa9:∀(τ:TSt) (i:Nat),τ.set i (nth τ i)=τ
 | [],_=>rfl
 | x::r,0=>rfl
 | x::r,i+1=>by show x::r.set i (nth r i)=_;rw[xa9 r i]
def xiS (i:Nat):DS:=λG τ=>G.nx (τ.set i (.od []))
theorem xdR {i:Nat}:OkS K fr (xcC xd1 (gX i)) (xiS i):=λB φ σ τ H E G R hd e p hp =>e.nx _ _ _ _ (R.setNew (x:=.od []) (HX.new R hp _) hp (by rw[xV];exact λz=>nomatch z) (λz=>nomatch z) ⟨p,[],rfl,tP,xia R hp,xV,.nil⟩) hd
def putD (ks:List (List Int×Tr))(k:List Int)(t:Tr):List (List Int×Tr):=if (ks.any λp=>decide (p.1=k))=true then ks else ks++[(k,t)]
theorem xhd {F:Addr->Prop}{ks:List (List Int×Tr)}{hk:List (List Key×V)}(r:KvR F H ks hk)(k:List Int):(ks.any λp=>decide (p.1=k))=(l9 hk (k.map Sum.inl)).isSome:=by
 rw[<-oV]
 induction r with
 | nil=>rfl
 | cons h t ih =>
  rw[xkU,xkU,ih,h.1];congr 1;rw[xmv];constructor
  .intro e;rw[e]
  .intro e;exact(List.map_inj_right λx y h=>Sum.inl.inj h).mp e
theorem xgy (k:List Int):(k.map (Sum.inl:Int->Key)).map kV=k.map V.int:=by rw[xlC];rfl
def xch (i:Nat)(dk d:DE):DS:=λG τ=>match nth τ i with
 | .od ks=>dk τ λk=>d τ λt=>∃ns:List Int,k=xjY ns/\ks.length<sizeLine/\G.nx (τ.set i (.od (putD ks ns t)))
 | _=>False
theorem lz {i:Nat}{tk te:TE}{dk d:DE}(hk:OkE K true tk dk)(h:OkE K true te d):OkS K fr (xc6 (tBM K "dict" xaC (rO i) (qA tk (qA te xah)))) (xch i dk d):=λB φ σ τ H E G R hd e=>by
 have en:=R.ent i;unfold xch at hd;revert en hd;cases hi:nth τ i with
 | od ks =>
  intro hd ⟨a,hk0,e1,e2,e3,e4,r⟩;refine⟨_,e1,.inr (.inr (.inl ⟨rfl,.inr ⟨_,e4⟩⟩)),hk B φ σ τ H _ _ R hd λt0 v0 H0 x0 k0 r0=>h B φ σ τ H0 _ _ (R.hx x0) k0 λt v H1 x1 k1 r1=>?_⟩;obtain⟨ns,rfl,hz,k1⟩:=k1;obtain⟨hk',f4,f5⟩:=xdn R (x0.trans x1) hi e1;obtain⟨b,ws,rfl,_,hb,rl⟩:=x1.rep (F:=Av B φ) (λa s=>R.sAv s) r0;rw[qa rl] at hb;have an:=xhd f5 ns;refine⟨a,b,hk',ns.map Sum.inl,v,rfl,rfl,f4,by rw[xgy];exact hb,by rw[<-Paired.length f5];exact hz,λu hu=>?_,λhn=>?_⟩
  .have ep:putD ks ns t=ks:=if_pos (by rw[an,hu];rfl);rw[ep] at k1;have es:τ.set i (.od ks)=τ:=by rw[<-hi];exact xa9 τ i
   rw[es] at k1;exact e.nx φ σ _ _ (R.hx (x0.trans x1)) k1
  .have ep:putD ks ns t=ks++[(ns,t)]:=if_neg (by rw[an,hn];exact xj8);rw[ep] at k1;exact e.nx φ σ _ _ ((R.hx (x0.trans x1)).wrOd hi e1 (jx (a:=(ns,t)) (b:=(ns.map Sum.inl,v)) f5 ⟨rfl,r1⟩)) k1
 | _=>exact λz _=>z.elim
def xhl (i:Nat):DE:=λ τ KK=>match nth τ i with | .od ks=>KK (.lst (ks.map (·.2))) | _=>False
theorem xb8 {F:Addr->Prop}:∀ {ks:List (List Int×Tr)} {hk:List (List Key×V)},KvR F H ks hk->z_ F H (ks.map (·.2)) (hk.map (·.2))
 | _,_,.nil=>rfl
 | _,_,.cons h t=>⟨_,_,rfl,h.2,xb8 t⟩
theorem xc1 {i:Nat}:OkF K (tCB xef (qA (xiV K "dict" xg1 (rO i)) xah)) (xhl i):=λB φ σ τ H Q KK R hd q=>by
 have en:=R.ent i;unfold xhl at hd;revert en hd;cases hi:nth τ i with
 | od ks =>
  intro hd ⟨a,hk,e1,e2,e3,e4,r⟩;refine⟨_,e1,.inr (.inr (.inl ⟨rfl,.inr ⟨_,e4⟩⟩)),a,hk,rfl,rfl,e4,λv hv=>?_⟩;have va:v≠a:=λz=>by rw[z,e4] at hv;cases hv
  refine⟨v,a,hk,rfl,xV,by rw[xJ va.symm];exact e4,λp hp=>?_⟩;have x1:HX B φ τ H (upd H v (xcf v a)):=HX.new R hv _;have pn:H p=none:=x1.none hp;have x2:=HX.new (R.hx x1) hp (.lst (hk.map (·.2)));exact q _ p _ _ (x1.trans x2) hd pn xV (vt hp (x1.repL (F:=Av B φ) (λa s=>R.sAv s) (xb8 r)))
 | _=>exact λz _=>z.elim
theorem huR {A:Around}{k:Nat}(hr:dZ k A):A.units+1<cLine:=xmh (Nat.add_le_add_left (by decide:1<=64) _) hr.units
end
end L2
namespace L2
open PySem PySem.Spec PyProof.Rows
section
variable {prog:Program} {w:World} {A:Around} {E:Value->Shared->Prop} {s:Shared}
theorem lP (n:Nat):Builtin.Slice.slicePlaces ((n:Int)-1) (-1) (-1)=n:=by unfold Builtin.Slice.slicePlaces;rw[if_neg (by decide),show(-(-1):Int)=1 by decide,Int.ediv_one];split<;>omega
theorem xdQ (its:List Value):((List.range its.length).filterMap λ(m:Nat)=>its.toArray[(((its.length:Int)-1)+(m:Int)*(-1)).toNat]?).toArray=its.reverse.toArray:=by
 congr 1;have g:∀ks:List Nat,(∀k∈ks,k<its.length)->ks.filterMap (λ(m:Nat)=>its.toArray[(((its.length:Int)-1)+(m:Int)*(-1)).toNat]?)=ks.filterMap (λk=>its.reverse[k]?):=λks=>by
  induction ks with
  | nil=>exact λ_=>rfl
  | cons k ks ih =>
   intro h;have hk:=h k xlK;have e:its.toArray[(((its.length:Int)-1)+(k:Int)*(-1)).toNat]? = its.reverse[k]?:=by rw[List.getElem?_reverse hk,List.getElem?_toArray];congr 1;omega
   rw[xk2,xk2,e,ih λq hq=>h q (xlJ _ hq)]
 rw[g _ λk hk=>xlT.mp hk];have:=pick_run its.reverse.toArray 0 its.reverse.length;simp at this;rw[this,xl9 (by rw[xlv];exact xmd _)]
theorem gA {t sl:Addr}{its:List Value}{vs:Value}{Q:Value->Shared->Prop}(ht:IsTup s.heap t its.toArray)(hs:s.heap.IsSliceOf sl .none .none vs)(ps:IsPart vs (some (-1)))
  (h:Q (.ref s.heap.objs.size) { s with heap:=s.heap.push { cls:=.type "tuple", data:=.seq its.reverse.toArray } }) (hsz:its.length<=sizeLine):wpAny (model prog w) A (getItem (.ref t) (.ref sl)) Q E s:=by
 have htake:sizeOk (.seq its.reverse.toArray):=by show its.reverse.toArray.size<=sizeLine;rw[xl4,xlv];exact hsz
 obtain⟨os,hos,hcs,hds⟩:=id hs;have hTs:s.TypeIs (.ref sl) "slice" := ⟨os,hos,hcs⟩
 unfold getItem
 try with_reducible refine wpAny_holding ?_
 first | refine wpAny_bind (wpAny_pure ?_) | skip
 refine wpAny_bind (wpAny_sequenceKey ht.typeIs (by decide) ?_);refine wpAny_bind (wpAny_callSpecial?_slot (name:=Str.ofString "__getitem__") ht.typeIs PyProof.Rows.slot_tuple_getitem
  (wpAny_call_entry PyProof.Rows.slot_tuple_getitem ht.typeIs entry_tuple_getitem ?_ (args_tuple_getitem _ _)))
 show wpAny _ _ (Builtin.Tuple.tupleItemsOf (.ref t) >>= _) _ _ s;refine wpAny_bind (tupleItemsOf_ ht ?_);refine wpAny_bind (wpAny_typeOf hTs ?_);rw[if_pos (by decide)];have ap:∀ {Q:Int×Int×Nat->Shared->Prop} {E':Value->Shared->Prop} {A':Around},Q ((its.toArray.size:Int)-1,-1,its.toArray.size) s->wpAny (model prog w) A' (Builtin.Slice.sliceApplied (.ref sl) (pure (its.toArray.size:Int))) Q E' s:=λ {Q E' A'} h=>by unfold Builtin.Slice.sliceApplied Builtin.Slice.sliceFields;refine wpAny_bind (wpAny_bind (wpAny_field hos hds (x:=.none) rfl (wpAny_bind (wpAny_field hos hds (x:=.none) rfl (wpAny_bind (wpAny_field hos hds (x:=vs) rfl (wpAny_pure ?_)))))));refine wpAny_bind (HT.qb ps ?_);show wpAny _ _ (if ((-1:Int) == 0)=true then _ else _) _ _ s;rw[if_neg (by decide)];refine wpAny_bind (HT.qb .none (wpAny_bind (HT.qb .none (wpAny_bind (wpAny_pure ?_)))));show wpAny _ _ (pure ((its.toArray.size:Int)-1,(-1:Int),Builtin.Slice.slicePlaces ((its.toArray.size:Int)-1) (-1) (-1))) _ _ s;rw[lP];exact wpAny_pure h
 refine wpAny_bind (ap ?_);show wpAny _ _ (if (((its.toArray.size:Int)-1) == 0&&(-1:Int) == 1&&its.toArray.size == its.toArray.size)=true then _ else _) _ _ s;rw[if_neg (by rw[show((-1:Int) == 1)=false by decide,Bool.and_false,Bool.false_and];exact xj8),xl4,xdQ]
 first
  | exact wpAny_bind (m:=Builtin.Tuple.tupleExact _) (wpAny_newObj_type (wpAny_pure ⟨_,rfl,wpAny_pure h⟩) htake)
  | exact wpAny_bind (m:=Builtin.Tuple.tupleExact _) (wpAny_newObj_type (wpAny_bind (wpAny_pure (wpAny_pure ⟨_,rfl,wpAny_pure h⟩))) htake)
  | exact wpAny_bind (wpAny_bind (m:=Builtin.Tuple.tupleExact _) (wpAny_newObj_type (wpAny_pure (wpAny_pure ⟨_,rfl,wpAny_pure h⟩)) htake))
  | exact wpAny_bind (wpAny_bind (m:=Builtin.Tuple.tupleExact _) (wpAny_newObj_type (wpAny_pure ⟨_,rfl,wpAny_pure h⟩) htake))
end
section
variable {X:Cx} {e:Expr} {te:TE}
def xiB (K:PySem.W.Frag):V->Hp->VK->Prop:=λx H Q=>∃a xs,x=.ref a/\SqT K H a xs/\∀p,H p=none->Q (.ref p) (upd H p (.tup xs.reverse))
def xgw (K:PySem.W.Frag)(te:TE)(ts:TO):TE:=λ σ H Q=>te σ H λx H1=>ts σ H1 λo H2=>o=some (-1)/\xiB K x H2 Q
theorem xfY (K:PySem.W.Frag){st:Expr}{ts:TO}{p2 pos:Pos}(he:PE X e te)(hs:PO X (some st) ts)(eK:X.K=K:=by rfl):PE X (.Subscript e (.Slice none none (some st) p2) pos) (xgw K te ts):=by subst eK;intro pins s σ H Q I h;refine Subscript_ (thn (@he pins s σ H _ I h) λv s1 ⟨x,H1,I1,r1,q1⟩=>?_);refine wpAny_Slice ?_;rw[evalPart_none];refine wpAny_pure (wpAny_pure (thn (@hs pins s1 σ H1 _ I1 q1) λvs s2 ⟨o,H2,I2,ps,eo,q2⟩=>?_));obtain⟨a,xs,rfl,hx,q⟩:=q2;cases r1;subst eo;have I4:Inv X pins σ H2 { s2 with heap:=s2.heap.push { cls:=.type "slice", data:=.fields #[.none,.none,vs] } }:=I2.kept (t':=s2.toks) λb ob q=>Heap.get?_push_of_some _ q;obtain⟨its,r,ht,hz⟩:=I4.tuple hx;have hlen:=r.length;show wpAny (model X.prog X.w) X.A (subscriptTail e (.Slice none none (some st) p2) (.ref a) (.ref s2.heap.objs.size)) (EP X pins σ Q) X.xe { s2 with heap:=s2.heap.push { cls:=.type "slice", data:=.fields #[.none,.none,vs] } };refine tail_any (ops:=[.ref a,.ref s2.heap.objs.size]) ht.typeIs PyProof.Rows.slot_tuple_getitem.lookup ?_ (by with_unfolding_all rfl);refine gA ht (Heap.IsSliceOf.new ..) ps ?_ (by omega);refine⟨.ref _,_,I4.laid (t':=s2.toks) (o:=.tup xs.reverse) (λb ob q=>Heap.get?_push_of_some _ q) (xmd _) ?_,rfl,q _ (I4.hok.fresh (xmd _))⟩;exact⟨by rw[xlv];exact hz,_,oJ r,IsTup.new _ _⟩
end
section
variable {K:PySem.W.Frag}
def xin (d ds:DE):DE:=λ τ KK=>d τ λx=>ds τ λy=>y=.int (-1)/\match x with | .tup ts=>KK (.tup ts.reverse) | _=>False
theorem xfD {b c:Bool}{te ts:TE}{d ds:DE}(h:OkE K b te d)(hs:OkE K c ts ds):OkE K b (xgw K te (xfA ts)) (xin d ds):=λB φ σ τ H Q KK R hd q =>
 h B φ σ τ H _ _ R hd λt v H1 x1 k1 r1=>hs B φ σ τ H1 _ _ (R.hx x1) k1 λu w H2 x2 k2 r2=>by
  obtain⟨rfl,k2⟩:=k2;have r3:=x2.rep (λa s=>R.sB s) r1;have x:=x1.trans x2;cases t with
  | tup us =>obtain⟨a,ws,e,n,ha,rl⟩:=r3;exact⟨-1,r2,rfl,a,ws,e,SqT.of ha,λp hp=>q _ _ _ (x.trans (HX.new (R.hx x) hp _)) k2 ⟨p,_,rfl,λz=>(R.hx x).domB z hp,xV,uw hp rl.rev⟩⟩
  | _=>exact k2.elim
end
end L2
namespace L2
open PySem Trn
def rA (n k:Nat):List F2:=(List.replicate n ((0:Int),(1:Int))).set k (1,1)
def xhf:TSp:=λts KK=>∃(rows:List Pol.R3) (n:Nat),ts=[.tup (rows.map trR),fg n]/\n<rows.length/\rows.length<=8/\KK (wsT (rA rows.length n))
def gD:TSp:=λts KK=>∃(rows:List Pol.R3) (p:P2),ts=[.tup (rows.map trR),pT p]/\xg rows=true/\Pk 600 p/\∀L,xc5 rows (zJ rows (hU rows p)) L->(∀x∈L,Bx 30 x.2)->KK (.lst (L.map (oP rows)))
def vE:TSp:=λts KK=>∃rows:List Pol.R3,ts=[.tup (rows.map trR)]/\xg rows=true/\yK rows/\∀Ls,RP rows Ls->KK (.lst (Ls.map (oP rows)))
def jS:TSp:=λts KK=>∃rows:List Pol.R3,ts=[.tup (rows.map trR)]/\xg rows=true/\yK rows/\∀Ls,RP rows Ls->KK (.lst ((zO rows Ls).map yO))
def jI:TSp:=λts KK=>∃(rows:List Pol.R3) (p:P2),ts=[.tup (rows.map trR),pT p]/\xg rows=true/\yK rows/\Pk 600 p/\∀Ls,RP rows Ls->((∀r∈RR rows Ls,zH r p=true)->KK .non)/\(∀r∈RR rows Ls,zH r p=false->∀us,KK (.tup us))
def xek:TSp:=λts KK=>∃rows:List Pol.R3,ts=[.tup (rows.map trR)]/\xg rows=true/\yK rows/\rows.length<=7/\KK (.tup (rows.map trR))/\∀Ls x,RP rows Ls->x∈Ls->KK (.tup ((rows++[wo rows x]).map trR))
theorem xfz (n k:Nat):rA n k=((List.replicate n (0:Int)).set k 1).map λm=>lfr m 1:=by unfold rA;rw[List.map_set,xlE];rfl
theorem xeo (n k:Nat):GW n (rA n k):=⟨by unfold rA;rw[xlw,xlu],λw hw=>by
 rcases xlS hw with h | h
 .rw[(List.mem_replicate.mp h).2];exact xeb (by decide)
 .rw[h];exact xeb (by decide)⟩
theorem ao (k:Pol.R3->Int){rows:List Pol.R3}{i:Nat}(h:i<rows.length):wsum k (rows.zip (rA rows.length i))=(k (yD rows i),1):=by
 refine mo (T:=1) ?_ (fP _ _ λy hy=>((xeo rows.length i).2 _ (xlZ hy).2).pos);have:=xa7 k (T:=1) (by decide) rows ((List.replicate rows.length (0:Int)).set i 1);rw[<-xfz,r9 k rows _ i 1 (by rw[xlu];exact h) h,tI] at this;have e1:(List.replicate rows.length (0:Int)).getD i 0=0:=by rw[xk_,xlh,if_pos h];rfl
 rw[e1] at this;have e:(0:Int)+(1-0)*k (yD rows i)=k (yD rows i)*1:=by omega
 rw[e] at this;exact this
theorem xfP {rows:List Pol.R3}{i:Nat}(h:i<rows.length):xfZ (rows.zip (rA rows.length i))=trR (yD rows i):=by unfold xfZ;rw[ao k0 h,ao k1 h,ao k2 h];show trR ((yD rows i).1,(yD rows i).2.1,(yD rows i).2.2.fdiv 1)=_;rw[Int.fdiv_one]
theorem xhu {rows:List Pol.R3}{i:Nat}(hf:xg rows=true)(h:i<rows.length):l_ (wsum k0 (rows.zip (rA rows.length i))) (wsum k1 (rows.zip (rA rows.length i))):=by rw[ao k0 h,ao k1 h];have d:=((hW hf).2.1 _ (zy h)).1;refine⟨rfl,rfl,λz=>?_⟩;have z1:(yD rows i).1=0:=z.1;have z2:(yD rows i).2.1=0:=z.2;omega
theorem lU (rows:List Pol.R3):(List.range rows.length).map (yD rows)=rows:=by
 refine xk1 λi=>?_;rw[xlf];by_cases h:i<rows.length
 .rw[xlg h,vD h];rfl
 .rw[xld (by rw[xlt];omega),xld (by omega)];rfl
theorem LF.big {rows rows':List Pol.R3}(h:LF rows)(l3:3<=rows'.length)(l8:rows'.length<=8)(m:∀r∈rows,r∈rows')(hx:∀r∈rows',Pol.s_ r/\(r.1≠0\/r.2.1≠0)):xg rows'=true/\yK rows':=by
 have gr:Pol.GR rows':=h.gr.mono m;have dir:∀r∈rows',r.1≠0\/r.2.1≠0:=λr hr=>(hx r hr).2;have F:yK rows':=⟨Pol.xa_ gr (λr hr=>(hx r hr).1) (λ_ h=>h) dir,l8⟩
 refine⟨?_,F⟩;unfold xg;rw[xmx ⟨l3,l8⟩,(Pol.xcb dir).mpr gr];have e1:(rows'.all λr=>decide ((r.1≠0\/r.2.1≠0)/\Pol.s_ r))=true:=by rw[xkS];intro r hr;exact xmx ⟨(hx r hr).2,(hx r hr).1⟩
 have e2:(Pol.pieces rows').all az=true:=by rw[xkS];intro v hv;obtain⟨hz,_,hc⟩:=F.fine.corner hv;exact(sE hz).mpr (h.near v hz λr hr=>hc.kept r (m r hr))
 rw[e1,e2];rfl
theorem xaP {rows rows2:List Pol.R3}(FR:yK rows)(gr:Pol.GR rows)(FR2:yK rows2)(eq:∀r,r∈rows2↔r∈rows):yG rows2=yG rows:=by
 have gr2:Pol.GR rows2:=gr.mono λr hr=>(eq r).mpr hr;have g1:=Pol.y_ FR.fine.dir;have g2:=Pol.y_ FR2.fine.dir;have fd:∀ {rows rows2:List Pol.R3},yK rows->yK rows2->(∀r,r∈rows2↔r∈rows)->∀v∈yG rows,v∈yG rows2:=λ {rows rows2} FR FR2 eq v hv=>by obtain⟨⟨a1,a2,⟨k,s,hs,t,ht,z⟩⟩,_⟩:=FR.corner hv;obtain⟨u,hu,sm⟩:=FR2.fine.found a1 ⟨λr hr=>k r ((eq r).mp hr),s,(eq s).mpr hs,t,(eq t).mpr ht,z⟩;have c:=FR2.fine.corner hu;rw[<-t_ c.1 a1 c.2.1 a2 sm];exact zP.mpr hu
 refine Pol.mS (wL g2.ccw) (wL g1.ccw) (wa g2.bot) (wa g1.bot) (λp hp q hq sm=>?_) λv=>⟨fd FR2 FR (λr=>(eq r).symm) v,fd FR FR2 eq v⟩
 obtain⟨⟨a1,a2,_⟩,_⟩:=FR2.corner hp;obtain⟨⟨b1,b2,_⟩,_⟩:=FR2.corner hq;exact t_ a1 b1 a2 b2 sm
theorem xiP {i:Nat}{a:DS}{G:lM}{τ:TSt}{ts:List Tr}(h:nth τ i=.ow ts)(k:a G (τ.set i (.fz (.lst ts)))):xhM i a G τ:=by unfold xhM;rw[h];exact k
theorem mz {α:Type}(f:α->Tr){n:Nat}(h:∀x,dep (f x)<=n):∀l:List α,PyData.depthAll (uP (l.map f))<=n
 | []=>xms _
 | x::l=>Nat.max_le.mpr ⟨h x,mz f h l⟩
theorem mZ {α:Type}(f:α->Tr)(p:∀x,pln (f x)=true)(d:∀x,dep (f x)<=60)(l m:List α):xcV (.lst (l.map f)) (.lst (m.map f)):=⟨zf f p l,zf f p m,xmf (Nat.min_le_left _ _) (by have:=mz f d l;show PyData.depthAll (uP (l.map f))+1<=64;omega)⟩
theorem xay {α:Type}(f:α->Tr)(p:∀x,pln (f x)=true)(d:∀x,dep (f x)<=60)(l m:List α):xcV (.tup (l.map f)) (.tup (m.map f)):=⟨zf f p l,zf f p m,xmf (Nat.min_le_left _ _) (by have:=mz f d l;show PyData.depthAll (uP (l.map f))+1<=64;omega)⟩
theorem xdJ {t:Tr}(h:pln t=true):teq t t=true:=SeqAt.eqv_refl _ h
theorem xcw (l:List Pol.R3):teq (.lst (l.map yO)) (.lst (l.map yO))=true:=xdJ (zf yO (λv=>xbf (plc v)) l)
theorem xbu (l:List Pol.R3)(v:Pol.R3):((l.map yO).any λu=>teq u (yO v))=decide (plc v∈l.map plc):=by rw[xdU];exact xgT (l.map plc) (plc v)
theorem xiv (p:D2):plc (p.1,p.2,1)=wp p:=by unfold plc wp;show((Fra.low p.1 1),(Fra.low p.2 1))=_;rw[Fra.sk,Fra.sk]
theorem xfj {rows:List Pol.R3}(h:0<rows.length):∃r∈rows,atT (rows.map trR) (-1)=some (trR r):=by refine⟨yD rows (rows.length-1),zy (by omega),?_⟩;show(if 0<(rows.map trR).length then getT (rows.map trR) ((rows.map trR).length-1-0) else none)=_;rw[xlq,if_pos h,hZ,xlf,xmr,vD (by omega)];rfl
theorem xbd:∀(n:Nat) (l:List Nat),l.Nodup->(∀x∈l,x<n)->l.length<=n
 | 0,l,_,h=>by
  cases l with
  | nil=>exact xmd _
  | cons a l=>exact absurd (h a xlK) (by omega)
 | n+1,l,nd,h=>by
  by_cases m:n∈l
  .have:=xbd n (l.erase n) (nd.erase n) λx hx=>by have:=(nd.mem_erase_iff).mp hx;have:=h x this.2;omega
   rw[List.length_erase_of_mem m] at this;omega
  .have:=xbd n l nd λx hx=>by have:=h x hx;have:x≠n:=λe=>m (e▸hx);omega
   omega
def RS1 (rows:List Pol.R3)(x:SX):Prop:=zM rows x/\Bx 30 x.2/\∃v∈yG rows,brk v=true/\x.1∈zJ rows (hU rows (plc v))
theorem xfs {rows:List Pol.R3}(hf:xg rows=true)(FR:yK rows){x y:SX}(hx:RS1 rows x)(hy:RS1 rows y)(e:x.2=y.2):wo rows x=wo rows y:=by
 obtain⟨G,_,v,hv,_,hs⟩:=hx;obtain⟨G',_,v',hv',_,hs'⟩:=hy;cases ef:xct x.2.1 x.2.2 ((yG rows).map plc) with
 | none =>obtain⟨f,hf'⟩:=cZ (a:=x.2.1) (b:=x.2.2) (ps:=(yG rows).map plc) (λz=>by rw[List.map_eq_nil_iff] at z;rw[z] at hv;cases hv);rw[ef] at hf';cases hf'
 | some f =>rw[sJ hf FR hv hs G ef,sJ hf FR hv' hs' G' (by rw[<-e];exact ef),e]
theorem xax {rows:List Pol.R3}(hf:xg rows=true)(FR:yK rows){Ls:List SX}(h:∀x∈Ls,RS1 rows x)(nd:(Ls.map (wo rows)).Nodup):Ls.length<=4000:=by
 have nd2:(Ls.map λx=>((x.2.1+30)*61+(x.2.2+30)).toNat).Nodup:=by rw[List.Nodup,List.pairwise_map] at nd ⊢;refine(xl0.mpr λ {a b} s=>?_);have ma:a∈Ls:=s.subset xlK;have mb:b∈Ls:=s.subset (xlJ _ xlK);have ne:=xl0.mp nd s;intro e;refine ne (xfs hf FR (h a ma) (h b mb) ?_);obtain⟨_,⟨⟨a1,a2⟩,a3,a4⟩,_⟩:=h a ma;obtain⟨_,⟨⟨b1,b2⟩,b3,b4⟩,_⟩:=h b mb;exact Prod.ext (by omega) (by omega)
 have:=xbd 3721 _ nd2 λn hn=>by obtain⟨x,hx,rfl⟩:=xlO.mp hn;obtain⟨_,⟨⟨a1,a2⟩,a3,a4⟩,_⟩:=h x hx;omega
 rw[xlq] at this;omega
def kyR (r:Pol.R3):List Int:=[r.1,r.2.1,r.2.2]
def xar (rows:List Pol.R3)(Ls:List SX)(x:SX):List SX:=if wo rows x∈Ls.map (wo rows) then Ls else Ls++[x]
def kvX (rows:List Pol.R3)(Ls:List SX):List (List Int×Tr):=Ls.map λx=>(kyR (wo rows x),oP rows x)
theorem xe3 {r s:Pol.R3}(h:kyR r=kyR s):r=s:=by unfold kyR at h;injection h with h1 h2;injection h2 with h2 h3;injection h3 with h3 h4;exact Prod.ext h1 (Prod.ext h2 h3)
theorem xeZ (rows:List Pol.R3)(Ls:List SX)(x:SX):putD (kvX rows Ls) (kyR (wo rows x)) (oP rows x)=kvX rows (xar rows Ls x):=by
 unfold putD xar;have e:((kvX rows Ls).any λp=>decide (p.1=kyR (wo rows x)))=decide (wo rows x∈Ls.map (wo rows)):=by
  rw[xj6,xkV,decide_eq_true_iff,xlO];constructor
  .rintro⟨p,hp,e⟩;obtain⟨y,hy,rfl⟩:=xlO.mp hp;exact⟨y,hy,xe3 (xmB e)⟩
  .rintro⟨y,hy,e⟩;exact⟨_,xlP hy,xmx (by rw[<-e])⟩
 rw[e];by_cases m:wo rows x∈Ls.map (wo rows)
 .rw[if_pos (xmx m),if_pos m]
 .rw[if_neg (by rw[xmw m];exact xj8),if_neg m];unfold kvX;rw[xlA];rfl
theorem xdZ {rows:List Pol.R3}{Ls:List SX}{x y:SX}(h:y∈xar rows Ls x):y∈Ls\/y=x:=by
 unfold xar at h;split at h
 .exact .inl h
 .rcases xlF.mp h with h | h
  .exact .inl h
  .exact .inr (xlU.mp h)
theorem pZ {rows:List Pol.R3}{Ls:List SX}{x y:SX}(h:y∈Ls):y∈xar rows Ls x:=by
 unfold xar;split
 .exact h
 .exact xlG _ h
theorem xdx (rows:List Pol.R3)(Ls:List SX)(x:SX):∃y∈xar rows Ls x,wo rows y=wo rows x:=by
 unfold xar;split
 .rename_i h;obtain⟨y,hy,e⟩:=xlO.mp h;exact⟨y,hy,e⟩
 .exact⟨x,xlH _ (xlU.mpr rfl),rfl⟩
theorem xfH {rows:List Pol.R3}{Ls:List SX}(x:SX)(nd:(Ls.map (wo rows)).Nodup):((xar rows Ls x).map (wo rows)).Nodup:=by
 unfold xar;split
 .exact nd
 .rename_i h;rw[xlA,xlW];refine⟨nd,by simp,λa ha b hb e=>?_⟩;rw[xlB,xlD,xlU] at hb;rw[e,hb] at ha;exact h ha
structure RPi (rows:List Pol.R3)(vs:List Pol.R3)(Ls:List SX):Prop where
 snd:∀x∈Ls,RS1 rows x
 nd:(Ls.map (wo rows)).Nodup
 all:∀v∈vs,∃L,xc5 rows (zJ rows (hU rows (plc v))) L/\∀x∈L,∃y∈Ls,wo rows y=wo rows x
theorem RPi.nil (rows:List Pol.R3):RPi rows [] []:=⟨λx hx=>(by cases hx),(by simp),λv hv=>(by cases hv)⟩
theorem RPi.put {rows vs:List Pol.R3}{Ls:List SX}(h:RPi rows vs Ls){x:SX}(hx:RS1 rows x):RPi rows vs (xar rows Ls x):=by
 refine⟨λy hy=>?_,xfH x h.nd,λv hv=>?_⟩
 .rcases xdZ hy with hy | rfl
  .exact h.snd y hy
  .exact hx
 .obtain⟨L,PL,a⟩:=h.all v hv;exact⟨L,PL,λx hx=>let ⟨y,hy,e⟩:=a x hx;⟨y,pZ hy,e⟩⟩
theorem RPi.done {rows:List Pol.R3}(hf:xg rows=true)(FR:yK rows){Ls:List SX}(h:RPi rows ((yG rows).filter brk) Ls):RP rows Ls:=⟨h.snd,λv hv hb=>h.all v (xlL.mpr ⟨hv,hb⟩),xax hf FR h.snd h.nd⟩
theorem xeU {rows:List Pol.R3}(hf:xg rows=true){v:Pol.R3}(hv:v∈yG rows)(hb:brk v=true){L:List SX}(PL:xc5 rows (zJ rows (hU rows (plc v))) L){x:SX}(hx:x∈L)(bx:Bx 30 x.2):RS1 rows x:=⟨(PL.good x hx).2,bx,v,hv,hb,(PL.good x hx).1⟩
theorem RP.rows {rows:List Pol.R3}{Ls:List SX}(hf:xg rows=true)(FR:yK rows)(R:RP rows Ls):qK (RR rows Ls):=⟨λr hr=>(R.frow hf FR r hr).2,λr hr=>kP (R.frow hf FR r hr).1,by have:=R.len;have:=FR.len;unfold RR;rw[xll,xlq];omega⟩
theorem RP.pk {rows:List Pol.R3}{Ls:List SX}(hf:xg rows=true)(FR:yK rows)(R:RP rows Ls){v:Pol.R3}(hv:v∈zO rows Ls):Pk 600 (plc v):=by
 obtain⟨hz,g,⟨_,s,hs,t,ht,e1,e2,hn⟩⟩:=R.corner hf FR hv;obtain⟨b1,b2,b3⟩:=Pol.qW g hz e1 e2 hn;have S:=wy (R.frow hf FR s hs).1;have T:=wy (R.frow hf FR t ht).1;have m:∀ {x y z w:Int},Bk 10 x->Bk 10 y->Bk 10 z->Bk 10 w->Bk 21 (x*y-z*w):=λh1 h2 h3 h4=>(h1.mul h2).sub (h3.mul h4);have b:B3k 21 v:=by refine⟨⟨(m S.2 T.1.2 T.2 S.1.2).le b2,(m T.2 S.1.1 S.2 T.1.1).le b3⟩,?_⟩;refine(m S.1.1 T.1.2 S.1.2 T.1.1).le ?_;unfold Pol.turn at b1;omega
 have:=xeA hz b;exact⟨this.1.mono (by decide),this.2.mono (by decide)⟩
theorem RP.len_corn {rows:List Pol.R3}{Ls:List SX}(hf:xg rows=true)(FR:yK rows)(R:RP rows Ls):(zO rows Ls).length<=100000:=by unfold zO;rw[uS];have:=Pol.fc (R.fine hf FR).dir;have:=(R.rows hf FR).len;omega
end L2
namespace L2
open PySem
theorem xH (K:PySem.W.Frag)(i:Nat)(e:X.K=K:=by rfl)(hN:X.N[i]? = some x:=by rfl)(hv:Vis X.env.scope x:=by first | exact Or.inl rfl | exact Or.inr (Or.inl rfl) | exact Or.inr (Or.inr rfl))(hd:(x == ("__debug__" : Str))=false:=by decide)
  (hcd:(x == ("__classdict__" : Str))=false:=by decide):PE X (.Subscript (.Name x p) (.Constant (.int n) j q) r) (tOp (rIx K) (rO i) (tC (.int n))):=zd (yp K e) (pv i hN hv hd hcd) xk (λ_ _=>rfl)
theorem xI:OkE K true (tOp (rIx K) (rO i) (tC (.int n))) (d2 fIx (xga i) (dC (Tr.int n))):=uc xa (xdp (t:=Tr.int _))
theorem yM (a:PE X e te)(h:starEach [e] X.env=(false,eval e X.env)::starEach [] X.env:=by rfl):PA X [e] (qA te xah):=yd a wH h
theorem xY (a:PE X e te)(b:PE X f tf)(h:starEach [f] X.env=(false,eval f X.env)::starEach [] X.env:=by rfl)(g:starEach [e,f] X.env=(false,eval e X.env)::starEach [f] X.env:=by rfl):PA X [e,f] (qA te (qA tf xah)):=yd a (yd b wH h) g
theorem xN (h:OkE K b te de):OkA K b 1 (qA te xah) (lS de xhx):=yb h zW
theorem xu (h:OkE K b te de)(g:OkE K b tf df):OkA K b 2 (qA te (qA tf xah)) (lS de (lS df xhx)):=yb h (yb g zW)
theorem xt:OkE K true (tC (.int i)) (dC (.int i)):=xdp
theorem qH:OkE K true (tC (.bl i)) (dC (.bl i)):=xdp
theorem yq (h:sc.kind=.function/\sc.isCoroutine=false/\sc.isGenerator=false/\N.Nodup/\N.take P.length=P/\(∀x∈P,sc.names.lookup x=some .local\/sc.names.lookup x=some .cell)/\∀y∈sc.names,y.2≠.free:=by decide +kernel):xy N P sc:=⟨h.1,h.2.1,h.2.2.1,h.2.2.2.1,h.2.2.2.2.1,h.2.2.2.2.2.1,h.2.2.2.2.2.2⟩
theorem yy (i:Nat)(hN:X.N.Nodup)(hi:X.N[i]? = some x:=by rfl)(hx:X.env.scope.names.lookup x=some .local:=by rfl):PG X (.Name x pos) (gX i):=xT hN hi (.inl hx) (.inr hx)
theorem yN (i:Nat)(hN:X.N.Nodup)(he:PE X e te)(hi:X.N[i]? = some x:=by rfl)(hx:X.env.scope.names.lookup x=some .local:=by rfl)(hs:swapsWith e (some (.Name x pos')) pos.line X.env=pure false:=by rfl):PS X (.Assign [.Name x pos'] e pos) (xcC te (gX i)):=fv hN hi (.inl hx) he hs (.inr hx)
end L2
namespace K20
open PySem L2 Trn
def top (i:Nat):Stmt:=PySem.Challenge.pw_roundcuts_k20_whole_rounds.main.body.getD i (.Pass ⟨0,0,0,0⟩)
abbrev gS:Stmt:=top 7
abbrev qi:Stmt:=top 8
abbrev wM:Stmt:=top 9
abbrev mr:Stmt:=top 10
abbrev xaY:Stmt:=top 11
abbrev cH:Stmt:=top 12
abbrev vO:Stmt:=top 15
abbrev qX:Stmt:=top 16
abbrev gM:Stmt:=top 17
abbrev qo:Stmt:=top 18
abbrev jB:Stmt:=top 19
abbrev tQ:Stmt:=top 20
abbrev wI:Stmt:=top 21
abbrev kD:Stmt:=top 22
abbrev gW:Stmt:=top 23
abbrev rQ:Stmt:=top 25
abbrev cA:Stmt:=top 26
abbrev cM:Stmt:=top 27
abbrev fb:Stmt:=top 28
abbrev dm:Stmt:=top 29
abbrev gE:Stmt:=top 30
abbrev gR:Stmt:=top 31
abbrev qC:Stmt:=top 32
abbrev qd:Stmt:=top 34
abbrev vQ:Stmt:=top 35
abbrev j0:Stmt:=top 36
abbrev q8:Stmt:=top 37
abbrev dD:Stmt:=top 39
abbrev wF:Stmt:=top 40
abbrev fY:Stmt:=top 41
abbrev jE:Stmt:=top 42
abbrev rM:Stmt:=top 43
abbrev c_:Stmt:=top 45
abbrev jn:Stmt:=top 46
abbrev vR:Stmt:=top 47
abbrev sH:Stmt:=top 48
abbrev jk:Stmt:=top 49
abbrev kF:Stmt:=top 50
abbrev qF:Stmt:=top 51
abbrev jv:Stmt:=top 52
abbrev gF:Stmt:=top 54
abbrev qw:Stmt:=top 55
abbrev w4:Stmt:=top 56
abbrev vH:Stmt:=top 57
abbrev w_:Stmt:=top 58
abbrev uD:Stmt:=top 59
abbrev fR:Stmt:=top 61
abbrev u_:Stmt:=top 62
abbrev tZ:Stmt:=top 63
abbrev gI:Stmt:=top 64
abbrev vP:Stmt:=top 66
abbrev jf:Stmt:=top 67
abbrev wU:Stmt:=top 68
abbrev wQ:Stmt:=top 69
abbrev uu:Stmt:=top 70
abbrev vK:Stmt:=top 72
abbrev qV:Stmt:=top 73
abbrev ju:Stmt:=top 74
abbrev uA:Stmt:=top 75
abbrev vJ:Stmt:=top 76
abbrev gg:Stmt:=top 77
abbrev kH:Stmt:=top 78
abbrev kj:Stmt:=top 79
abbrev yS:Stmt:=top 80
abbrev u4:Stmt:=top 81
abbrev jK:Stmt:=top 82
theorem pF:xy ["thing"] ["thing"] (xf gS):=yq
theorem nU:xy ["things"] ["things"] (xf qi):=yq
theorem wq:xy ["one", "other"] ["one", "other"] (xf wM):=yq
theorem nO:xy ["top", "bottom", "shared"] ["top", "bottom"] (xf mr):=yq
theorem xfp:xy ["one", "other"] ["one", "other"] (xf xaY):=yq
theorem xdd:xy ["whole", "fraction"] ["whole", "fraction"] (xf cH):=yq
theorem dq:xy ["rows"] ["rows"] (xf vO):=yq
theorem tD:xy ["rows"] ["rows"] (xf qX):=yq
theorem jy:xy ["piece", "rows", "row"] ["piece", "rows"] (xf gM):=yq
theorem mT:xy ["piece"] ["piece"] (xf qo):=yq
theorem wA:xy ["piece", "row", "left", "at", "corner", "before", "crossing"] ["piece", "row"] (xf jB):=yq
theorem vm:xy ["row", "corner", "a", "b", "c", "x", "y", "bottom"] ["row", "corner"] (xf tQ):=yq
theorem yL:xy ["row", "one", "other", "one_off", "other_off", "x", "y", "bottom", "shared"] ["row", "one", "other"] (xf wI):=yq
theorem wC:xy ["piece", "start", "at", "corner"] ["piece"] (xf kD):=yq
theorem cP:xy ["one", "other"] ["one", "other"] (xf gW):=yq
theorem xaz:xy ["thing"] ["thing"] (xf rQ):=yq
theorem xdX:xy ["row", "place"] ["row", "place"] (xf cA):=yq
theorem t7:xy ["row", "place", "top", "bottom"] ["row", "place"] (xf cM):=yq
theorem jA:xy ["row", "place", "top", "bottom"] ["row", "place"] (xf fb):=yq
theorem lK:xy ["one", "other"] ["one", "other"] (xf dm):=yq
theorem qD:xy ["rows", "first", "left", "right"] ["rows"] (xf gE):=yq
theorem qg:xy ["first", "rows", "sign", "last", "row"] ["first", "rows", "sign"] (xf gR):=yq
theorem jc:xy ["first", "rows", "row"] ["first", "rows"] (xf qC):=yq
theorem c7:xy ["thing"] ["thing"] (xf qd):=yq
theorem wY:xy ["thing", "a", "b", "c"] ["thing"] (xf vQ):=yq
theorem lu:xy ["place"] ["place"] (xf j0):=yq
theorem rP:xy ["thing"] ["thing"] (xf q8):=yq
theorem l5:xy ["field"] ["field"] (xf dD):=yq
theorem fJ:xy ["rows", "place"] ["rows", "place"] (xf wF):=yq
theorem xbD:xy ["field"] ["field"] (xf fY):=yq
theorem ko:xy ["place", "x", "y"] ["place"] (xf jE):=yq
theorem xcL:xy ["field", "row"] ["field", "row"] (xf rM):=yq
theorem mw:xy ["one", "other", "thing", "turn", "of_one", "of_other"] ["one", "other", "thing"] (xf c_):=yq
theorem fA:xy ["one", "other", "turn"] ["one", "other"] (xf jn):=yq
theorem dO:xy ["thing"] ["thing"] (xf vR):=yq
theorem gG:xy ["one", "other", "first", "last", "found"] ["one", "other"] (xf sH):=yq
theorem vG:xy ["direction", "a", "b", "shared"] ["direction"] (xf jk):=yq
theorem zL:xy ["first", "last", "a", "b", "p", "q", "back"] ["first", "last"] (xf kF):=yq
theorem k8:xy ["before", "here", "last", "many"] ["before", "here", "last"] (xf qF):=yq
theorem zD:xy ["a", "b", "here", "p", "q", "ahead", "next_p", "next_q", "many"] ["a", "b"] (xf jv):=yq
theorem cz:xy ["field", "place"] ["field", "place"] (xf gF):=yq
theorem uq:xy ["rows", "numbers", "pairs", "number", "beside"] ["rows", "numbers"] (xf qw):=yq
theorem zm:xy ["rows", "numbers", "number", "nearest", "other"] ["rows", "numbers", "number"] (xf w4):=yq
theorem sT:xy ["row"] ["row"] (xf vH):=yq
theorem y8:xy ["field", "pair", "direction", "one", "other", "shares", "weights"] ["field", "pair", "direction"] (xf w_):=yq
theorem v9:xy ["field", "number", "weights"] ["field", "number"] (xf uD):=yq
theorem dP:xy ["rows", "weights", "tops", "bottom"] ["rows", "weights"] (xf fR):=yq
theorem yH:xy ["rows", "weights", "used", "bottom", "row", "weight", "tops", "many"] ["rows", "weights"] (xf u_):=yq
theorem j_:xy ["totals", "a", "b", "c"] ["totals"] (xf tZ):=yq
theorem pq:xy ["field", "weights"] ["field", "weights"] (xf gI):=yq
theorem wV:xy ["field", "papers", "place", "paper"] ["field"] (xf vP):=yq
theorem wu:xy ["field", "place", "papers", "pair", "one", "other", "direction"] ["field", "place"] (xf jf):=yq
theorem qO:xy ["field", "cuts"] ["field"] (xf wU):=yq
theorem uF:xy ["field", "place", "rows", "paper"] ["field", "place"] (xf wQ):=yq
theorem wX:xy ["field", "number", "places", "place", "against"] ["field", "number"] (xf uu):=yq
theorem sL:xy ["_law_script", "_law_k"] ["_law_script", "_law_k"] (xf vK):=yq
theorem jU:xy ["_law_script", "_law_k", "_law_cell"] ["_law_script", "_law_k"] (xf qV):=yq
theorem vy:xy ["_law_state_here", "_law_many", "_law_found", "_law_stirred"] ["_law_state_here", "_law_many"] (xf ju):=yq
theorem xW:xy ["_law_state_here", "_law_way", "_law_rows", "_law_a", "_law_b", "_law_by", "_law_turn", "_law_near", "_law_k", "_law_some", "_law_u", "_law_v"] ["_law_state_here"] (xf uA):=yq
theorem ki:xy ["_law_one", "_law_other"] ["_law_one", "_law_other"] (xf vJ):=yq
theorem jt:xy ["_law_top", "_law_bottom", "_law_by"] ["_law_top", "_law_bottom"] (xf gg):=yq
theorem qk:xy ["_law_row", "_law_place", "_law_x", "_law_y"] ["_law_row", "_law_place"] (xf kH):=yq
theorem jG:xy ["_law_row", "_law_place", "_law_here"] ["_law_row", "_law_place"] (xf kj):=yq
theorem yJ:xy ["_law_rows", "_law_places", "_law_lows", "_law_highs", "_law_found", "_law_x", "_law_y"] ["_law_rows", "_law_places"] (xf yS):=yq
theorem qS:xy ["_law_state_here", "_law_field_here", "_law_rows"] ["_law_state_here", "_law_field_here"] (xf u4):=yq
theorem v5:xy ["_law_script", "_law_k", "_law_state_here", "_law_field_here", "_law_ahead", "_law_later", "_law_number", "_law_place", "_law_at", "_law_others", "_law_more_here", "_law_other"] ["_law_script"] (xf jK):=yq
abbrev bn:List Str:=["len", "range", "max", "min", "abs", "isinstance", "tuple", "list", "int", "bool", "str", "dict", "all", "zip", "enumerate", "ValueError"]
section
variable {P:Program} {w:World} {K:PySem.W.Frag} {mg:Str->Option Value} {base:Heap} {f:Addr} {fd:FuncData}
theorem sN (B:Blt mg bn)(F:Fun K "_law_cell_at" "_law_cell_at" vK f fd)(m:mg "_law_cell_at" = some (.ref f))(b:Binds K fd ["_law_script", "_law_k"] []):Own P w K mg base 1 "_law_cell_at" ["_law_script", "_law_k"] (xem K):=by
 refine mM F sL m b (λvs H Q E h=>?_) (λcdv A outer s H vs Q E hr h=>?_)
 .obtain⟨a,ns,k,rfl,_⟩:=h;rfl
 obtain⟨a,ns,k,rfl,hS,h63,h0,q⟩:=h;refine⟨_,(xc (yV (xR xgF (pv 1) (xP (y4 K) rfl (B.get "len") vv (yd (pv 0) wH)) (xX _)) (xi (xF (zd (vC K) (pv 0) (pv 1) (λ_ _=>rfl)))) xZ)
  (xi (xF xk))),?_⟩
 refine⟨_,rfl,_,rfl,a,_,rfl,.inl hS,_,_,rfl,rfl,_,rfl,?_⟩;have hl:(ns.map V.int).length=ns.length:=xlq _;refine xjc (λc=>?_) (λc=>?_)
 .have c':=xmB c;rw[hl] at c';obtain⟨v,hv⟩:=xdF h0 c';exact⟨_,rfl,_,rfl,a,_,_,_,rfl,rfl,hS,hv,q v⟩
 .exact q 0
theorem rY (F:Fun K "_law_state" "_law_state" qV f fd)(m:mg "_law_state" = some (.ref f))(b:Binds K fd ["_law_script", "_law_k"] [])(vT:Own P w K mg base 1 "_law_cell_at" ["_law_script", "_law_k"] (xem K)) :
  Own P w K mg base 2 "_law_state" ["_law_script", "_law_k"] (cO K):=by
 refine mM F jU m b (λvs H Q E h=>?_) (λcdv A outer s H vs Q E hr h=>?_)
 .obtain⟨a,ns,k,rfl,_⟩:=h;rfl
 obtain⟨a,ns,k,rfl,hS,h63,h0,q⟩:=h;refine⟨_,(xc (fv (i:=2) jU.nd rfl (Or.inl rfl) (xn vT hr (yd (pv 0) (yd (pv 1) wH))))
  (xc (yV (xR xiD (pv 2) (xE xeB xk xk) (xX _)) (xi (xF (zi (yd (xE zS (pv 2) (xE xeB xk xk)) (yd vW wH))))) xZ)
  (xi (xF (zi (yd (xE aI (pv 2) xk) (yd vW wH))))))),?_⟩
 refine⟨_,rfl,_,rfl,a,ns,k,rfl,hS,h63,h0,λn=>?_⟩;have pw:xja 10 18:=⟨by decide,by decide,by decide⟩
 refine⟨_,rfl,_,_,rfl,rfl,pw,_,_,rfl,rfl,_,rfl,?_⟩;refine xjc (λc=>?_) (λc=>?_)
 .have c':n>=10 ^ (18:Int).toNat:=xmB c;refine⟨_,rfl,_,_,rfl,rfl,pw,_,_,rfl,rfl,(by show 2<=sizeLine;decide),λp hp=>q p _ _ hp ⟨?_,λz=>by cases z⟩⟩;show 0<=n-10 ^ (18:Int).toNat;omega
 .refine⟨_,rfl,_,_,rfl,rfl,(by show(0:Int)<2147483647;decide),(by show 2<=sizeLine;decide),λp hp=>q p _ _ hp ⟨?_,λ_=>?_⟩⟩
  .show 0<=n % 2147483647;omega
  .show n % 2147483647<2147483647;omega
theorem bB (F:Fun K "_law_take" "_law_take" ju f fd)(m:mg "_law_take" = some (.ref f))(b:Binds K fd ["_law_state_here", "_law_many"] []):Own P w K mg base 1 "_law_take" ["_law_state_here", "_law_many"] xej:=by
 refine mM F vy m b (λvs H Q E h=>?_) (λcdv A outer s H vs Q E hr h=>?_)
 .obtain⟨p,k,rfl,_⟩:=h;rfl
 obtain⟨p,many,rfl,⟨n,bb,hp,hn,hb⟩,h0,h1,q⟩:=h;refine⟨_,(xc (yV (w5 (zd (vC K) (pv 0) xk (λ_ _=>rfl))) (xc (fv (i:=2) vy.nd rfl (Or.inl rfl) (xE aI (zd (vC K) (pv 0) xk (λ_ _=>rfl)) (pv 1)))
  (xc (zU (xE oj (zd (vC K) (pv 0) xk (λ_ _=>rfl)) (pv 1)) (nX (pv 0) xk set_list))
  (xi (xF (pv 2))))) xZ)
  (xc (zU (xE aI (xE zY (xE mX (zd (vC K) (pv 0) xk (λ_ _=>rfl)) xk) xk) xk) (nX (pv 0) xk set_list))
  (xc (fv (i:=3) vy.nd rfl (Or.inl rfl) (xE aI (xE zY (xE zY (xE mX (zd (vC K) (pv 0) xk (λ_ _=>rfl)) (zd (vC K) (pv 0) xk (λ_ _=>rfl))) (xE mX xk (zd (vC K) (pv 0) xk (λ_ _=>rfl)))) xk) xk))
  (xc (fv (i:=3) vy.nd rfl (Or.inl rfl) (xE aI (xE zY (xE mX (pv 3) (pv 3)) (xE mX xk (pv 3))) xk))
  (xi (xF (xE aI (xE oj (pv 3) xk) (pv 1)))))))),?_⟩
 refine⟨_,rfl,p,_,_,_,rfl,rfl,SqL.of hp,rfl,bb,rfl,?_⟩;have fin:∀(r n':Int),0<=r->r<many->xis n' bb->Q (.int r) (upd H p (.lst [.int n',.bl bb])):=λr n' h2 h3 h4=>q r _ h2 h3 ⟨λb o hb k=>by rw[xJ hb];exact k,n',bb,xV,h4⟩;cases bb with
 | true =>refine xbM ?_;refine⟨_,rfl,p,_,_,_,rfl,rfl,SqL.of hp,rfl,_,rfl,_,_,rfl,rfl,h0,?_⟩;refine⟨_,rfl,p,_,_,_,rfl,rfl,SqL.of hp,rfl,_,rfl,_,_,rfl,rfl,sF h0 h1,?_⟩;refine⟨_,rfl,p,_,_,0,rfl,rfl,hp,rfl,?_⟩;refine⟨_,rfl,?_⟩;exact fin _ _ (xkf _ (by omega)) (xke _ h0) ⟨Int.ediv_nonneg hn (by omega),λz=>by cases z⟩
 | false =>
  refine xam ?_;have hb':=hb rfl;have cm:∀(i j:Int),0<=i->i<2147483700->xhT i j:=λi j a b=>.inl ⟨by omega,by omega⟩;refine⟨_,rfl,p,_,_,_,rfl,rfl,SqL.of hp,rfl,_,_,rfl,rfl,cm _ _ hn (by omega),_,_,rfl,rfl,_,_,rfl,rfl,(by show(0:Int)<2147483647;decide),?_⟩;refine⟨_,rfl,p,_,_,0,rfl,rfl,hp,rfl,?_⟩;have hz:∃z:Int,(n*48271+29) % 2147483647=z/\0<=z/\z<2147483647:=⟨_,rfl,by omega,by omega⟩
  obtain⟨z,ez,z0,z1⟩:=hz;have hp':(upd H p (.lst [.int z,.bl false])) p=some (.lst [.int z,.bl false]):=xV;show xhN _ _ _ _ (upd H p (.lst [.int ((n*48271+29) % 2147483647),.bl false]));rw[ez];refine⟨_,rfl,p,_,_,_,rfl,rfl,SqL.of hp',rfl,_,rfl,p,_,_,_,rfl,rfl,SqL.of hp',rfl,_,_,rfl,rfl,cm _ _ z0 (by omega),?_⟩;refine⟨_,rfl,p,_,_,_,rfl,rfl,SqL.of hp',rfl,_,_,rfl,rfl,.inl ⟨by decide,by decide⟩,_,_,rfl,rfl,_,_,rfl,rfl,_,_,rfl,rfl,(by show(0:Int)<2147483629;decide),?_⟩;have hy:∃y:Int,(z*z+39373*z+7) % 2147483629=y/\0<=y/\y<2147483629:=⟨_,rfl,xkf _ (by decide),xke _ (by decide)⟩
  obtain⟨y,ey,y0,y1⟩:=hy;show xhN _ _ _ [_,_,_,some (.int ((z*z+39373*z+7) % 2147483629))] _;rw[ey];refine⟨_,rfl,_,rfl,_,_,rfl,rfl,cm _ _ y0 (by omega),_,rfl,_,_,rfl,rfl,.inl ⟨by decide,by decide⟩,_,_,rfl,rfl,_,_,rfl,rfl,(by show(0:Int)<2147483587;decide),?_⟩;refine⟨_,rfl,_,_,rfl,rfl,sF (by decide) (by decide),_,rfl,_,_,rfl,rfl,h0,?_⟩;exact fin _ _ (xkf _ (by omega)) (xke _ h0) ⟨z0,λ_=>z1⟩
end
end K20
namespace K20
open PySem L2 Trn
section
variable {P:Program} {w:World} {K:PySem.W.Frag} {mg:Str->Option Value} {base:Heap} {f:Addr} {fd:FuncData}
theorem c9 (B:Blt mg bn)(F:Fun K "is_whole" "is_whole" gS f fd)(m:mg "is_whole" = some (.ref f))(b:Binds K fd ["thing"] [])  :
  Own P w K mg base 1 "is_whole" ["thing"] (spT 1 false false xbx):=by
 refine xw F pF m b rfl (λ_ _ _ _ _ _ hr=>⟨_,_,
  (xi (xF (xbi (xP jX rfl (B.get "isinstance") wK (xY (pv 0) (dH (v:=V.ty "int") rfl (B.get "int") xhC rfl))) (aO (xhj (xP jX rfl (B.get "isinstance") wK (xY (pv 0) (dH (v:=V.ty "bool") rfl (B.get "bool") xfk rfl)))))))),
  (xA (cW (mJ xa) (xf4 (mJ xa)))),λts KK hl h=>?_⟩)
 obtain⟨t,rfl,k⟩:=h;cases t<;>exact k
theorem nJ (B:Blt mg bn)(F:Fun K "are_whole" "are_whole" qi f fd)(m:mg "are_whole" = some (.ref f))(b:Binds K fd ["things"] [])(uU:Own P w K mg base 1 "is_whole" ["thing"] (spT 1 false false xbx)) :
  Own P w K mg base 2 "are_whole" ["things"] (spT 1 false false sO):=by
 refine xw F nU m b rfl (λ_ _ _ _ _ _ hr=>⟨_,_,
  (xi (xF (xP (vZ K rfl) rfl (B.get "all") ng (yM (zz (ye (N:=["thing"]) (tau:=[none]) (XN:=["things"]) (xs:=xf qi) (by decide +kernel) rfl rfl) rfl (zF rfl) (yB K (pv 0)) (λ_ _ _ _=>(xT (i:=0) (show(["thing"]:List Str).Nodup by decide +kernel) rfl (Or.inl rfl))) (λ_ _ _ _=>zq) (λ_ _ _ _=>(xn uU hr (yM (pv 0))))))))),
  (xA (yI sQ (xN (OkF.e (yk (yi xa).c xh yU (xq (xN xa))))))),λts KK hl h=>?_⟩)
 obtain⟨t,rfl,us,hs,hz,k⟩:=h;rcases hs with rfl | rfl
 .refine⟨hz,kO (λx=>.bl (xge x)) (λx _ N hN=>⟨x,rfl,hN⟩) ⟨us.map xge,by rw[xlC];rfl,?_⟩⟩;simpa using k
 .refine⟨hz,kO (λx=>.bl (xge x)) (λx _ N hN=>⟨x,rfl,hN⟩) ⟨us.map xge,by rw[xlC];rfl,?_⟩⟩;simpa using k
theorem jD (B:Blt mg bn)(F:Fun K "greatest_divisor" "greatest_divisor" wM f fd)(m:mg "greatest_divisor" = some (.ref f))(b:Binds K fd ["one", "other"] [])  :
  Own P w K mg base 1 "greatest_divisor" ["one", "other"] (spT 2 false false xe5):=by
 refine xw F wq m b rfl (λ_ _ _ _ _ _ hr=>⟨_,_,
  (xc (jM (i:=0) (j:=1) rfl wq.nd rfl rfl (by decide) rfl rfl (xY (xP wg rfl (B.get "abs") qL (yM (pv 0))) (xP wg rfl (B.get "abs") qL (yM (pv 1)))) (by rfl))
  (xc (fW PassesOwn.never (xR (zV hr.units) (pv 1) xk (xX _)) (xi (jM (i:=0) (j:=1) rfl wq.nd rfl rfl (by decide) rfl rfl (xY (pv 1) (xE xcz (pv 0) (pv 1))) (by rfl))))
  (xi (xF (pv 0))))),
  (xj (qm (xu (yI qI (xN xa)) (yI qI (xN xa))))
  (xj (j1 (xG (xl vq xa xt)) (qm (xu xa (xl xd4 xa xa))))
  (xA xa))),λts KK hl h=>?_⟩)
 obtain⟨a,c,rfl,k⟩:=h;refine j8 (λn τ=>∃x y:Int,τ=[.fz (.int x),.fz (.int y)]/\0<=x/\0<=y/\n=y.toNat/\Int.gcd x y=Int.gcd a c) c.natAbs ⟨_,_,rfl,by split<;>omega,by split<;>omega,by split<;>omega,?_⟩ ?_
 .have e1:(if a<0 then -a else a)=(a.natAbs:Int):=by split<;>omega
  have e2:(if c<0 then -c else c)=(c.natAbs:Int):=by split<;>omega
  rw[e1,e2];simp[Int.gcd]
 .rintro n τ N ⟨x,y,rfl,hx,hy,rfl,hg⟩ hN;refine ya (b := !decide (y=0)) (λc0=>?_) (λc0=>?_)
  .have c0:y≠0:=by simpa using c0
   have e:x.fmod y=x % y:=xcU hy;have l:=xke x (show 0<y by omega);have l0:=xkf x c0;refine⟨c0,hN (x % y).toNat _ (by omega) ⟨_,_,rfl,hy,by rw[e];exact l0,by rw[e],?_⟩⟩;rw[e,<-hg,xdk hx hy]
  .have c0:y=0:=by simpa using c0
   subst c0;have:(Int.gcd a c:Int)=x:=by rw[<-hg];simp[Int.gcd];omega
   exact this▸k
theorem xbH (B:Blt mg bn)(F:Fun K "lowest" "lowest" mr f fd)(m:mg "lowest" = some (.ref f))(b:Binds K fd ["top", "bottom"] [])(xQ:Own P w K mg base 1 "greatest_divisor" ["one", "other"] (spT 2 false false xe5)) :
  Own P w K mg base 2 "lowest" ["top", "bottom"] (spT 2 false false xgf):=by
 refine xw F nO m b rfl (λ_ _ _ _ _ _ hr=>⟨_,_,
  (xc (yN 2 nO.nd (xn xQ hr (xY (pv 0) (pv 1))))
  (xi (xF (yf (xY (xE zI (pv 0) (pv 2)) (xE zI (pv 1) (pv 2))))))),
  (xj (xU (xq (xu xa xa)))
  (xA (yh (b:=true) (xu (xl uy xa xa) (xl uy xa xa))))),λts KK hl h=>?_⟩)
 obtain⟨t,bo,rfl,hb,bd,k⟩:=h;have gp:(0:Int)<(Int.gcd t bo:Int):=by have:=xkn t hb;omega
 have gb:=xbE (t:=t) hb bd;refine⟨t,bo,rfl,⟨by omega,gb⟩,⟨by omega,gb⟩,?_⟩;show KK (.tup [.int (t.fdiv (Int.gcd t bo)),.int (bo.fdiv (Int.gcd t bo))]);rw[zK (by omega),zK (by omega)];exact k
theorem xfX (B:Blt mg bn)(F:Fun K "plus" "plus" xaY f fd)(m:mg "plus" = some (.ref f))(b:Binds K fd ["one", "other"] [])(yY:Own P w K mg base 2 "lowest" ["top", "bottom"] (spT 2 false false xgf)) :
  Own P w K mg base 3 "plus" ["one", "other"] (spT 2 false false xgU):=by
 refine xw F xfp m b rfl (λ_ _ _ _ _ _ hr=>⟨_,_,
  (xi (xF (xn yY hr (xY (xE zY (xE xK (xH K 0) (xH K 1)) (xE xK (xH K 1) (xH K 0))) (xE xK (xH K 0) (xH K 1)))))),
  (xA (xq (xu (xl uJ (xl yg xI xI) (xl yg xI xI)) (xl yg xI xI)))),λts KK hl h=>?_⟩)
 obtain⟨f,g,rfl,hf,hg,k⟩:=h;have z:=Pol.pp hf.pos hg.pos;refine⟨⟨hf.top.bd,hg.bot.bd⟩,⟨hg.top.bd,hf.bot.bd⟩,⟨hf.bot.bd,hg.bot.bd⟩,_,_,rfl,by omega,(hf.bot.mul hg.bot).bd,?_⟩;rw[oK z];exact k
theorem xcE (B:Blt mg bn)(F:Fun K "times" "times" cH f fd)(m:mg "times" = some (.ref f))(b:Binds K fd ["whole", "fraction"] [])(yY:Own P w K mg base 2 "lowest" ["top", "bottom"] (spT 2 false false xgf)) :
  Own P w K mg base 3 "times" ["whole", "fraction"] (spT 2 false false xeH):=by
 refine xw F xdd m b rfl (λ_ _ _ _ _ _ hr=>⟨_,_,
  (xi (xF (xn yY hr (xY (xE xK (pv 0) (xH K 1)) (xH K 1))))),
  (xA (xq (xu (xl yg xa xI) xI))),λts KK hl h=>?_⟩)
 obtain⟨w,f,rfl,hw,hf,k⟩:=h;exact⟨⟨hw.bd,hf.top.bd⟩,_,_,rfl,by have:=hf.pos;omega,hf.bot.bd,k⟩
theorem dB (B:Blt mg bn)(F:Fun K "corners_left" "corners_left" vO f fd)(m:mg "corners_left" = some (.ref f))(b:Binds K fd ["rows"] [])(jd:Own P w K mg base 3 "places_of" ["piece"] (spT 1 false true nP))(qY:Own P w K mg base 5 "piece_left" ["rows"] (spT 1 false false aW)) :
  Own P w K mg base 6 "corners_left" ["rows"] (spT 1 false true vx):=by
 refine xw F dq m b rfl (λ_ _ _ _ _ _ hr=>⟨_,_,
  (xi (xF (xn jd hr (yM (xn qY hr (yM (pv 0))))))),
  (kM (xaS (xN (xq (xN xa))))),λts KK hl h=>?_⟩)
 obtain⟨t,rows,rfl,ht,hr,k⟩:=h;have sm:=hr.small rows.length;have pl:=hr.plen rows.length;rw[xl9 (xmd _)] at sm pl;exact⟨t,rows,rfl,ht,hr,_,rfl,sm,pl,k⟩
theorem tL (B:Blt mg bn)(F:Fun K "piece_left" "piece_left" qX f fd)(m:mg "piece_left" = some (.ref f))(b:Binds K fd ["rows"] []){t_FAR:Tok}(aF:mg "FAR" = some (.int 60001 t_FAR))(h9:Own P w K mg base 4 "cut_down" ["piece", "rows"] (spT 2 false false ot)) :
  Own P w K mg base 5 "piece_left" ["rows"] (spT 1 false false aW):=by
 refine xw F tD m b rfl (λ_ _ _ _ _ _ hr=>⟨_,_,
  (xi (xF (xn h9 hr (xY (zi (yd (yf (yd (uC zg (qU (v:=V.int 60001) rfl aF ⟨_,rfl⟩)) (xY (uC zg (qU (v:=V.int 60001) rfl aF ⟨_,rfl⟩)) xk))) (yd (yf (yd (qU (v:=V.int 60001) rfl aF ⟨_,rfl⟩) (xY (uC zg (qU (v:=V.int 60001) rfl aF ⟨_,rfl⟩)) xk))) (xY (yf (yd (qU (v:=V.int 60001) rfl aF ⟨_,rfl⟩) (xY (qU (v:=V.int 60001) rfl aF ⟨_,rfl⟩) xk))) (yf (yd (uC zg (qU (v:=V.int 60001) rfl aF ⟨_,rfl⟩)) (xY (qU (v:=V.int 60001) rfl aF ⟨_,rfl⟩) xk))))))) (pv 0))))),
  (xA (xq (xu (uK (b:=true) (yb (yh (b:=true) (yb (zh xt) (xu (zh xt) xt))) (yb (yh (b:=true) (yb xt (xu (zh xt) xt))) (xu (yh (b:=true) (yb xt (xu xt xt))) (yh (b:=true) (yb (zh xt) (xu xt xt))))))) xa))),λts KK hl h=>?_⟩)
 obtain⟨t,rows,rfl,ht,hr,k⟩:=h;exact⟨t,[],rows,rfl,ht,hr,k⟩
theorem cD (B:Blt mg bn)(F:Fun K "cut_down" "cut_down" gM f fd)(m:mg "cut_down" = some (.ref f))(b:Binds K fd ["piece", "rows"] [])(je:Own P w K mg base 3 "cut_piece" ["piece", "row"] (spT 2 false false d_)) :
  Own P w K mg base 4 "cut_down" ["piece", "rows"] (spT 2 false false ot):=by
 refine xw F jy m b rfl (λ_ _ _ _ _ _ hr=>⟨_,_,
  (xc (zR PassesOwn.never rfl (yB K (pv 1)) (yy 2 jy.nd) (xi (yN 0 jy.nd (xn je hr (xY (pv 0) (pv 2))))))
  (xi (xF (pv 0)))),
  (xj (yX (yi xa) xh.g (xU (xq (xu xa xa))))
  (xA xa)),λts KK hl h=>?_⟩)
 obtain⟨t,r0,rows,rfl,ht,hr,k⟩:=h;have tk:∀i,((r0++rows).take (r0.length+i)).foldl Pol.yT Pol.box=(rows.take i).foldl Pol.yT (Pol.pieces r0):=λi=>by rw[List.take_append,xl9 (by omega),show r0.length+i-r0.length=i by omega,xk8];rfl
 have main:xcX (eName 2) (xi3 0 (xfq d_ (lS (xga 0) (lS (xga 2) xhx)))) { nx:=xh9 (xga 0) { nx:=λx=>false=false/\KK Tr.non,rt:=KK },rt:=KK } (rows.map trR) [.fz (.lst ((Pol.pieces r0).map trR)),.fz t,.un]:=by
  refine zt (λi τ=>∃x2,τ=[.fz (.lst (((rows.take i).foldl Pol.yT (Pol.pieces r0)).map trR)),.fz t,x2]) ⟨_,rfl⟩ ?_ ?_
  .rintro i x τ N hx ⟨x2,rfl⟩ hN;obtain⟨r,hri,rfl⟩:=zX hx;rw[Pol.kK _ _ hri] at hN;have sm:=hr.small (r0.length+i);have pl:=hr.plen (r0.length+i);rw[tk] at sm pl;exact⟨_,r,rfl,hr.sm r (xlH _ (xlQ hri)),sm,pl,hN _ ⟨_,rfl⟩⟩
  .rintro τ ⟨x2,rfl⟩;rw[xlq,xl9 (xmd _)];unfold Pol.pieces at k ⊢;rw[xk8] at k;exact k
 rcases ht with rfl | rfl<;>exact main
theorem nB (B:Blt mg bn)(F:Fun K "places_of" "places_of" qo f fd)(m:mg "places_of" = some (.ref f))(b:Binds K fd ["piece"] [])(yY:Own P w K mg base 2 "lowest" ["top", "bottom"] (spT 2 false false xgf))(kl:Own P w K mg base 2 "from_least" ["piece"] (spT 1 false true rg)) :
  Own P w K mg base 3 "places_of" ["piece"] (spT 1 false true nP):=by
 refine xw F mT m b rfl (λ_ _ _ _ _ _ hr=>⟨_,_,
  (xi (xF (zz (ye (N:=["x", "y", "bottom"]) (tau:=[none,none,none]) (XN:=["piece"]) (xs:=xf qo) (by decide +kernel) rfl rfl) rfl (zG (yt rfl (yt rfl (yt rfl u5)))) (yB K (xn kl hr (yM (pv 0)))) (λ_ _ _ _=>(yl K (n:=3) rfl (xo (xT (i:=0) (show(["x", "y", "bottom"]:List Str).Nodup by decide +kernel) rfl (Or.inl rfl)) (xo (xT (i:=1) (show(["x", "y", "bottom"]:List Str).Nodup by decide +kernel) rfl (Or.inl rfl)) (xo (xT (i:=2) (show(["x", "y", "bottom"]:List Str).Nodup by decide +kernel) rfl (Or.inl rfl)) yj))))) (λ_ _ _ _=>zq) (λ_ _ _ _=>(yf (xY (xn yY hr (xY (pv 0) (pv 2))) (xn yY hr (xY (pv 1) (pv 2))))))))),
  (kM (yk (yi (xq (xN xa))).c (ym (xm xh (xm xh (xm xh x_)))) yU (yh (b:=true) (xu (xq (xu xa xa)) (xq (xu xa xa)))))),λts KK hl h=>?_⟩)
 obtain⟨l,rfl,sm,pl,k⟩:=h;refine⟨l,rfl,λv hv=>(sm v hv).1.b3,pl,?_,?_⟩
 .rw[xlq,uS];exact sqz (by omega)
 .refine kO (λx=>match fL x with | some v=>yO v | none=>.non) (λx hx N hN=>?_) ?_
  .obtain⟨v,hv,rfl⟩:=xlO.mp hx;have hb:=sm v (zN hv);exact⟨rfl,_,_,rfl,by omega,hb.1.2.bd,_,_,rfl,by omega,hb.1.2.bd,hN⟩
  .rw[xlC];exact k
theorem nA (B:Blt mg bn)(F:Fun K "cut_piece" "cut_piece" jB f fd)(m:mg "cut_piece" = some (.ref f))(b:Binds K fd ["piece", "row"] [])(ve:Own P w K mg base 2 "where_crossed" ["row", "one", "other"] (spT 3 false false o8))(uR:Own P w K mg base 1 "beyond" ["row", "corner"] (spT 2 false false cJ)) :
  Own P w K mg base 3 "cut_piece" ["piece", "row"] (spT 2 false false d_):=by
 refine xw F wA m b rfl (λ_ _ _ _ _ _ hr=>⟨_,_,
  (xc (yN 2 wA.nd (zi wH))
  (xc (zR PassesOwn.never rfl (tX K rfl (B.get "enumerate") (yM (pv 0))) (yl K (n:=2) rfl (xo (yy 3 wA.nd) (xo (yy 4 wA.nd) yj))) (xc (yN 5 wA.nd (zd (yp K) (pv 0) (xE zS (pv 3) xk) (λ_ _=>rfl)))
  (xc (yV (xR (jP K hr.units) (xE xK (xn uR hr (xY (pv 1) (pv 5))) (xn uR hr (xY (pv 1) (pv 4)))) xk (xX _)) (xc (yN 6 wA.nd (xn ve hr (yd (pv 1) (xY (pv 5) (pv 4)))))
  (xi (yV (xR (pE hr.units) (pv 6) (pv 2) (by with_unfolding_all rfl)) (xi (wW (sP PySem.F.plainAttrs_list PySem.F.slot_list_append PySem.F.type_list_append wd (pv 2) (yM (pv 6))))) xZ))) xZ)
  (xi (yV (xR gZ (xn uR hr (xY (pv 1) (pv 4))) xk (xX _)) (xi (wW (sP PySem.F.plainAttrs_list PySem.F.slot_list_append PySem.F.type_list_append wd (pv 2) (yM (pv 4))))) xZ)))))
  (xi (xF (pv 2))))),
  (xj (we (kE zW))
  (xj (yX (fZ (xN xa)) (ym (xm xh (xm xh x_))).g (xj (xU (uc xa (xl zZ xa xt)))
  (xj (yu (xG (xl hG (xl yg (xq (xu xa xa)) (xq (xu xa xa))) xt)) (xj (xU (xq (yb xa (xu xa xa))))
  (yu (xG (xl xdz xa xbI)) (vV xa) xM)) xM)
  (yu (xG (xl h_ (xq (xu xa xa)) xt)) (vV xa) xM))))
  jL)),λts KK hl h=>?_⟩)
 obtain⟨l,r,rfl,hr,hl',hz,k⟩:=h;refine zt (all:=qP (l.map trR)) (λi τ=>∃x3 x4 x5 x6,τ=[.fz (.lst (l.map trR)),.fz (trR r),.ow ((((Pol.cyc l).take i).foldl (Pol.yw r) []).map trR),x3,x4,x5,x6]/\(((Pol.cyc l).take i).foldl (Pol.yw r) []).length<=2*i)
  ⟨_,_,_,_,rfl,xmd _⟩ ?_ ?_
 .rintro i x τ N hx ⟨x3,x4,x5,x6,rfl,hlen⟩ hN;obtain⟨v,hv,rfl⟩:=rS hx;obtain⟨u,hu,hc,ha⟩:=lg hv;have hvm:=xlQ hv;have hi:=(xle.mp hv).1;have fold:=Pol.kK (Pol.yw r) [] hc;generalize hacc:((Pol.cyc l).take i).foldl (Pol.yw r) []=acc at fold hlen ⊢;have leaf:∀(ts:List Tr) (y6:TV),ts=(Pol.yw r acc (u,v)).map trR->N [.fz (.lst (l.map trR)),.fz (trR r),.ow ts,.fz (.int i),.fz (trR v),.fz (trR u),y6]:=λts y6 e=>by
   rw[fold] at hN;refine hN _ ⟨_,_,_,y6,by rw[e],?_⟩
   .have:=Pol.pR r acc (u,v);have s2:(Pol.seg r (u,v)).length<=2:=by unfold Pol.seg;split<;>split<;>simp
    omega
  have bu:=hl' u hu;have bv:=hl' v hvm;have len0:∀n:Nat,n<=acc.length+1->n<sizeLine:=λn hn=>sqz (by omega);refine⟨rfl,?_⟩;show sS (atT (l.map trR) ((i:Int)-1)) _;rw[ha];refine⟨r,u,rfl,hr.b3,bu.1.b3,r,v,rfl,hr.b3,bv.1.b3,⟨(hr.val bu.1).bd,(hr.val bv.1).bd⟩,?_⟩;refine ya (b:=decide (Pol.val r u*Pol.val r v<0)) (λc=>?_) (λc=>?_)
  .have c:=xmB c;refine⟨r,u,v,rfl,⟨hr,bu.1,bv.1⟩,⟨bu.2,bv.2⟩,c,⟨xbP _,zf trR xbP acc,(by show(1:Nat)<=60;decide)⟩,?_⟩;refine ya (b := !((acc.map trR).any λt=>teq t (trR (Pol.xB r u v)))) (λd=>?_) (λd=>?_)
   .rw[xb7] at d;have d:Pol.xB r u v∉acc:=by simpa using d
    refine⟨len0 _ (by simp),r,v,rfl,hr.b3,bv.1.b3,?_⟩;refine ya (b:=decide (Pol.val r v<=0)) (λe=>?_) (λe=>?_)
    .have e:=xmB e;exact⟨len0 _ (by simp),leaf _ _ (by simp[Pol.yw,c,d,e])⟩
    .have e:=xmA e;exact leaf _ _ (by simp[Pol.yw,c,d,e])
   .rw[xb7] at d;have d:Pol.xB r u v∈acc:=by simpa using d
    refine⟨r,v,rfl,hr.b3,bv.1.b3,?_⟩;refine ya (b:=decide (Pol.val r v<=0)) (λe=>?_) (λe=>?_)
    .have e:=xmB e;exact⟨len0 _ (by simp),leaf _ _ (by simp[Pol.yw,c,d,e])⟩
    .have e:=xmA e;exact leaf _ _ (by simp[Pol.yw,c,d,e])
  .have c:=xmA c;refine⟨r,v,rfl,hr.b3,bv.1.b3,?_⟩;refine ya (b:=decide (Pol.val r v<=0)) (λe=>?_) (λe=>?_)
   .have e:=xmB e;exact⟨len0 _ (by simp),leaf _ _ (by simp[Pol.yw,c,e])⟩
   .have e:=xmA e;exact leaf _ _ (by simp[Pol.yw,c,e])
 .rintro τ ⟨x3,x4,x5,x6,rfl,hlen⟩;rw[jW,xl9 (by rw[Pol.xe_];exact xmd _)];exact k
theorem xbR (B:Blt mg bn)(F:Fun K "beyond" "beyond" tQ f fd)(m:mg "beyond" = some (.ref f))(b:Binds K fd ["row", "corner"] [])  :
  Own P w K mg base 1 "beyond" ["row", "corner"] (spT 2 false false cJ):=by
 refine xw F vm m b rfl (λ_ _ _ _ _ _ hr=>⟨_,_,
  (xc (zU (pv 0) (yl K (n:=3) rfl (xo (yy 2 vm.nd) (xo (yy 3 vm.nd) (xo (yy 4 vm.nd) yj)))))
  (xc (zU (pv 1) (yl K (n:=3) rfl (xo (yy 5 vm.nd) (xo (yy 6 vm.nd) (xo (yy 7 vm.nd) yj)))))
  (xi (xF (xE zS (xE zY (xE xK (pv 2) (pv 5)) (xE xK (pv 3) (pv 6))) (xE xK (pv 4) (pv 7))))))),
  (xj (ze xa (ym (xm xh (xm xh (xm xh x_)))).g)
  (xj (ze xa (ym (xm xh (xm xh (xm xh x_)))).g)
  (xA (xl zZ (xl uJ (xl yg xa xa) (xl yg xa xa)) (xl yg xa xa))))),λts KK hl h=>?_⟩)
 obtain⟨r,p,rfl,hr,hp,k⟩:=h;exact⟨rfl,rfl,⟨hr.1.1,hp.1.1⟩,⟨hr.1.2,hp.1.2⟩,⟨hr.2,hp.2⟩,k⟩
theorem fN (B:Blt mg bn)(F:Fun K "where_crossed" "where_crossed" wI f fd)(m:mg "where_crossed" = some (.ref f))(b:Binds K fd ["row", "one", "other"] [])(xQ:Own P w K mg base 1 "greatest_divisor" ["one", "other"] (spT 2 false false xe5))(uR:Own P w K mg base 1 "beyond" ["row", "corner"] (spT 2 false false cJ)) :
  Own P w K mg base 2 "where_crossed" ["row", "one", "other"] (spT 3 false false o8):=by
 refine xw F yL m b rfl (λ_ _ _ _ _ _ hr=>⟨_,_,
  (xc (zU (yf (xY (xP wg rfl (B.get "abs") qL (yM (xn uR hr (xY (pv 0) (pv 1))))) (xP wg rfl (B.get "abs") qL (yM (xn uR hr (xY (pv 0) (pv 2))))))) (yl K (n:=2) rfl (xo (xT (i:=3) yL.nd rfl (Or.inr rfl)) (xo (xT (i:=4) yL.nd rfl (Or.inr rfl)) yj))))
  (xc (zU (zz (ye (N:=["here", "there", "other_off", "one_off"]) (tau:=[none,none,some 4,some 3]) (XN:=["row", "one", "other", "one_off", "other_off", "x", "y", "bottom", "shared"]) (xs:=xf wI) (by decide +kernel) rfl rfl) rfl (zG (yt rfl (yt rfl u5))) (cY K rfl (B.get "zip") (xY (pv 1) (pv 2))) (λ_ _ _ _=>(yl K (n:=2) rfl (xo (xT (i:=0) (show(["here", "there", "other_off", "one_off"]:List Str).Nodup by decide +kernel) rfl (Or.inl rfl)) (xo (xT (i:=1) (show(["here", "there", "other_off", "one_off"]:List Str).Nodup by decide +kernel) rfl (Or.inl rfl)) yj)))) (λ_ _ _ _=>zq) (λ_ _ _ _=>(xE zY (xE xK (pv 2) (pv 0)) (xE xK (pv 3) (pv 1))))) (xfm K (n:=3) rfl (xo (yy 5 yL.nd) (xo (yy 6 yL.nd) (xo (yy 7 yL.nd) yj)))))
  (xc (yN 8 yL.nd (xn xQ hr (xY (xn xQ hr (xY (pv 5) (pv 6))) (pv 7))))
  (xi (xF (yf (yd (xE zI (pv 5) (pv 8)) (xY (xE zI (pv 6) (pv 8)) (xE zI (pv 7) (pv 8)))))))))),
  (xj (ze (yh (b:=true) (xu (yI qI (xN (xq (xu xa xa)))) (yI qI (xN (xq (xu xa xa)))))) (ym (xm xh (xm xh x_))).g)
  (xj (ze (OkF.e (yk (tV (xu xa xa)).c (ym (xm xh (xm xh x_))) yU (xl uJ (xl yg xa xa) (xl yg xa xa)))) (xe0 (xm xh (xm xh (xm xh x_)))).g)
  (xj (xU (xq (xu (xq (xu xa xa)) xa)))
  (xA (yh (b:=true) (yb (xl uy xa xa) (xu (xl uy xa xa) (xl uy xa xa)))))))),λts KK hl h=>?_⟩)
 obtain⟨r,u,v,rfl,⟨hr,hu,hv⟩,⟨zu,zv⟩,hn,k⟩:=h;have au:Bk 1000 (Pol.abs (Pol.val r u)):=((hr.val hu).mono (by decide)).abs;have av:Bk 1000 (Pol.abs (Pol.val r v)):=((hr.val hv).mono (by decide)).abs;have cu:∀ {i},Bk 800 i->CM (Pol.abs (Pol.val r v)) i:=λh=>⟨av.bd,h.bd⟩
 have cv:∀ {i},Bk 800 i->CM (Pol.abs (Pol.val r u)) i:=λh=>⟨au.bd,h.bd⟩
 obtain⟨b,_,_,_⟩:=Pol.kQ zu zv hn;have wz:0<(Pol.cw r u v).2.2:=by have h1:=Pol.pp b.pa zu;have h2:=Pol.pp b.pb zv;show 0<Pol.abs (Pol.val r v)*u.2.2+Pol.abs (Pol.val r u)*v.2.2;omega
 have wb:Bd (Pol.cw r u v).2.2:=((av.mul hu.2).add (au.mul hv.2)).bd;have gp:=Pol.kR wz;have gb:Bd (Pol.vd (Pol.cw r u v):Int):=xbE (by omega) wb;refine⟨r,u,rfl,hr.b3,hu.b3,r,v,rfl,hr.b3,hv.b3,rfl,sqz (show(3:Nat)<=1000000 by decide),rfl,cu hu.1.1,cv hv.1.1,rfl,cu hu.1.2,cv hv.1.2,rfl,cu hu.2,cv hv.2,rfl,_,_,rfl,_,_,rfl,⟨?_,gb⟩,⟨?_,gb⟩,⟨?_,gb⟩,?_⟩
 .show(Pol.vd (Pol.cw r u v):Int)≠0;omega
 .show(Pol.vd (Pol.cw r u v):Int)≠0;omega
 .show(Pol.vd (Pol.cw r u v):Int)≠0;omega
 show KK (.tup [.int ((Pol.cw r u v).1.fdiv (Pol.vd (Pol.cw r u v))),.int ((Pol.cw r u v).2.1.fdiv (Pol.vd (Pol.cw r u v))),.int ((Pol.cw r u v).2.2.fdiv (Pol.vd (Pol.cw r u v)))]);rw[zK (by omega),zK (by omega),zK (by omega)];exact k
theorem rT (B:Blt mg bn)(F:Fun K "from_least" "from_least" kD f fd)(m:mg "from_least" = some (.ref f))(b:Binds K fd ["piece"] [])(gO:Own P w K mg base 1 "is_ahead" ["one", "other"] (spT 2 false false xee)) :
  Own P w K mg base 2 "from_least" ["piece"] (spT 1 false true rg):=by
 refine xw F wC m b rfl (λ_ _ _ _ _ _ hr=>⟨_,_,
  (xc (yN 1 wC.nd xk)
  (xc (zR PassesOwn.never rfl (tX K rfl (B.get "enumerate") (yM (pv 0))) (yl K (n:=2) rfl (xo (yy 2 wC.nd) (xo (yy 3 wC.nd) yj))) (xi (yV (w5 (xn gO hr (xY (pv 3) (zd (yp K) (pv 0) (pv 1) (λ_ _=>rfl))))) (xi (yN 1 wC.nd (pv 2))) xZ)))
  (xi (xF (xE mY (qv (fX K) (pv 0) (qq (pv 1)) gK) (qv (fX K) (pv 0) gK (qq (pv 1)))))))),
  (xj (xU xt)
  (xj (yX (fZ (xN xa)) (ym (xm xh (xm xh x_))).g (yu (za (xq (xu xa (uc xa xa)))) (xU xa) xM))
  (kM (rW (xeK xa (vA xa) kU) (xeK xa kU (vA xa)))))),λts KK hl h=>?_⟩)
 obtain⟨l,rfl,hl',hz,k⟩:=h;refine zt (all:=qP (l.map trR)) (λi τ=>∃x2 x3,τ=[.fz (.lst (l.map trR)),.fz (.int ((List.range i).foldl (yn l) 0:Nat)),x2,x3]/\((List.range i).foldl (yn l) 0<l.length\/l=[]))
  ⟨_,_,rfl,?_⟩ ?_ ?_
 .cases l with
  | nil=>exact .inr rfl
  | cons a t=>exact .inl (by simp)
 .rintro i x τ N hx ⟨x2,x3,rfl,hlen⟩ hN;obtain⟨v,hv,rfl⟩:=rS hx;have hvm:=xlQ hv;have hi:=(xle.mp hv).1;have fold:(List.range (i+1)).foldl (yn l) 0=yn l ((List.range i).foldl (yn l) 0) i:=by rw[List.range_succ,xk8];rfl
  generalize hs:(List.range i).foldl (yn l) 0=s at fold hlen ⊢;have hs':s<l.length:=hlen.resolve_right (λz=>by rw[z] at hi;simp at hi);have eu:atT (l.map trR) (s:Int)=some (trR l[s]):=by rw[dX,xlf,xlc hs'];rfl
  refine⟨rfl,?_⟩;show sS (atT (l.map trR) (s:Int)) _;rw[eu];have ev:l.getD i (0,0,0)=v:=by rw[xk_,hv];rfl
  have es:l.getD s (0,0,0)=l[s]:=by rw[xk_,xlc hs'];rfl
  refine⟨v,l[s],rfl,hl' _ hvm,hl' _ (xlk hs'),?_⟩;refine ya (b:=ahead v l[s]) (λc=>?_) (λc=>?_)
  .have f2:yn l s i=i:=by unfold yn;rw[ev,es,if_pos c]
   rw[fold,f2] at hN;exact hN _ ⟨_,_,rfl,.inl hi⟩
  .have c':¬ahead v l[s]=true:=by rw[c];exact xj8
   have f2:yn l s i=s:=by unfold yn;rw[ev,es,if_neg c']
   rw[fold,f2] at hN;exact hN _ ⟨_,_,rfl,.inl hs'⟩
 .rintro τ ⟨x2,x3,rfl,hlen⟩;rw[jW];show(gU (l.map trR) (some ((qz l:Nat):Int)) none).length+(gU (l.map trR) none (some ((qz l:Nat):Int))).length<=sizeLine/\KK (.lst (gU (l.map trR) (some ((qz l:Nat):Int)) none++gU (l.map trR) none (some ((qz l:Nat):Int))));rw[me,xca];refine⟨xcR (by simp;omega),?_⟩;unfold yr at k;rw[xlA,List.map_drop,List.map_take] at k;exact k
theorem cI (B:Blt mg bn)(F:Fun K "is_ahead" "is_ahead" gW f fd)(m:mg "is_ahead" = some (.ref f))(b:Binds K fd ["one", "other"] [])  :
  Own P w K mg base 1 "is_ahead" ["one", "other"] (spT 2 false false xee):=by
 refine xw F cP m b rfl (λ_ _ _ _ _ _ hr=>⟨_,_,
  (xi (xF (wm (jP K hr.units) (yf (xY (xE xK (xH K 0) (xH K 1)) (xE xK (xH K 0) (xH K 1)))) (yf (xY (xE xK (xH K 1) (xH K 0)) (xE xK (xH K 1) (xH K 0)))) (xX _)))),
  (xA (xl hG (yh (b:=true) (xu (xl yg xI xI) (xl yg xI xI))) (yh (b:=true) (xu (xl yg xI xI) (xl yg xI xI))))),λts KK hl h=>?_⟩)
 obtain⟨p,q,rfl,hp,hq,k⟩:=h;refine⟨⟨hp.1.1,hq.2⟩,⟨hp.1.2,hq.2⟩,⟨hq.1.1,hp.2⟩,⟨hq.1.2,hp.2⟩,[p.1*q.2.2,p.2.1*q.2.2],[q.1*p.2.2,q.2.1*p.2.2],rfl,rfl,?_⟩;rw[xgP];exact k
theorem xce (B:Blt mg bn)(F:Fun K "is_row" "is_row" rQ f fd)(m:mg "is_row" = some (.ref f))(b:Binds K fd ["thing"] [])(uh:Own P w K mg base 2 "are_whole" ["things"] (spT 1 false false sO)) :
  Own P w K mg base 3 "is_row" ["thing"] (spT 1 false false xeE):=by
 refine xw F xaz m b rfl (λ_ _ _ _ _ _ hr=>⟨_,_,
  (xc (yV (PW.pt (jh (vf (w5 (xP jX rfl (B.get "isinstance") wK (xY (pv 0) (dH (v:=V.ty "tuple") rfl (B.get "tuple") vB rfl))))) (jh (xR (zV hr.units) (xP (y4 K) rfl (B.get "len") vv (yM (pv 0))) xk (xX _)) (qM (vf (w5 (xn uh hr (yM (pv 0))))))))) (xi (xF vW)) xZ)
  (xi (xF (xcK (wm (zV hr.units) (xH K 0) xk (xX _)) (aO (wm (zV hr.units) (xH K 0) xk (xX _))))))),
  (xj (yu (uZ (wk (za (mJ xa))) (uZ (xG (xl vq (yI qJ (xN xa)) xt)) (wk (za (xq (xN xa)))))) (xA qH) xM)
  (xA (p6 (xl vq xI xt) (xl vq xI xt)))),λts KK hl h=>?_⟩)
 obtain⟨t,rfl,k⟩:=h;cases t with
 | tup us =>
  refine ya (b := !decide ((us.length:Int)=3)) (λc=>?_) (λc=>?_)
  .have c:¬(us.length:Int)=3:=by simpa using c
   have e:bK (.tup us)=false:=by
    unfold bK;cases e:fL (.tup us) with
    | none=>rfl
    | some r =>have:=kN e;unfold trR at this;injection this with this;rw[this] at c;exact absurd rfl c
   rw[e] at k;exact k
  .have c:us.length=3:=by simp at c;omega
   obtain⟨x,y,z,rfl⟩:∃x y z,us=[x,y,z]:=by
    match us,c with
    | [x,y,z],_=>exact⟨x,y,z,rfl⟩
   refine⟨_,rfl,_,.inl rfl,xcv c,?_⟩;cases x with
   | int a =>
    cases y with
    | int b =>
     cases z with
     | int d =>
      show if (!decide (a=0))=true then KK (.bl true) else KK (.bl (!decide (b=0)))
      by_cases ha:a=0<;>by_cases hb:b=0<;>simp[ha,hb,bK,fL] at k ⊢<;>exact k
     | _=>exact k
    | _=>exact k
   | _=>exact k
 | _=>exact k
theorem xdh (B:Blt mg bn)(F:Fun K "value" "value" cA f fd)(m:mg "value" = some (.ref f))(b:Binds K fd ["row", "place"] [])(xci:Own P w K mg base 3 "plus" ["one", "other"] (spT 2 false false xgU))(rB:Own P w K mg base 3 "times" ["whole", "fraction"] (spT 2 false false xeH)) :
  Own P w K mg base 4 "value" ["row", "place"] (spT 2 false false xbT):=by
 refine xw F xdX m b rfl (λ_ _ _ _ _ _ hr=>⟨_,_,
  (xi (xF (xn xci hr (xY (xn rB hr (xY (xH K 0) (xH K 1))) (xn rB hr (xY (xH K 0) (xH K 1))))))),
  (xA (xq (xu (xq (xu xI xI)) (xq (xu xI xI))))),λts KK hl h=>?_⟩)
 obtain⟨a,c,x,p,rfl,ha,hc,hp,k⟩:=h;have h1:=(Fk.timW ha hp.1).mono (show 800<=900 by decide);have h2:=(Fk.timW hc hp.2).mono (show 800<=900 by decide);refine⟨a,p.1,rfl,ha.mono (by decide),hp.1.mono (by decide),c,p.2,rfl,hc.mono (by decide),hp.2.mono (by decide),_,_,rfl,h1,h2,?_⟩;rw[xda hp.1.pos hp.2.pos];exact k
theorem xcT (B:Blt mg bn)(F:Fun K "keeps" "keeps" cM f fd)(m:mg "keeps" = some (.ref f))(b:Binds K fd ["row", "place"] [])(gN:Own P w K mg base 4 "value" ["row", "place"] (spT 2 false false xbT)) :
  Own P w K mg base 5 "keeps" ["row", "place"] (spT 2 false false nS):=by
 refine xw F t7 m b rfl (λ_ _ _ _ _ _ hr=>⟨_,_,
  (xc (zU (xn gN hr (xY (pv 0) (pv 1))) (yl K (n:=2) rfl (xo (yy 2 t7.nd) (xo (yy 3 t7.nd) yj))))
  (xi (xF (wm gZ (pv 2) (xE xK (xH K 0) (pv 3)) (xX _))))),
  (xj (ze (xq (xu xa xa)) (ym (xm xh (xm xh x_))).g)
  (xA (xl h_ xa (xl yg xI xa)))),λts KK hl h=>?_⟩)
 obtain⟨r,p,rfl,hr,hp,k⟩:=h;exact⟨r.1,r.2.1,[.int r.2.2],p,rfl,hr.1.1,hr.1.2,hp,rfl,⟨hr.2.bd,(xcc hr hp).bot.bd⟩,k⟩
theorem b_ (B:Blt mg bn)(F:Fun K "is_tight" "is_tight" fb f fd)(m:mg "is_tight" = some (.ref f))(b:Binds K fd ["row", "place"] [])(gN:Own P w K mg base 4 "value" ["row", "place"] (spT 2 false false xbT)) :
  Own P w K mg base 5 "is_tight" ["row", "place"] (spT 2 false false oa):=by
 refine xw F jA m b rfl (λ_ _ _ _ _ _ hr=>⟨_,_,
  (xc (zU (xn gN hr (xY (pv 0) (pv 1))) (yl K (n:=2) rfl (xo (yy 2 jA.nd) (xo (yy 3 jA.nd) yj))))
  (xi (xF (wm (v8 hr.units) (pv 2) (xE xK (xH K 0) (pv 3)) (xX _))))),
  (xj (ze (xq (xu xa xa)) (ym (xm xh (xm xh x_))).g)
  (xA (xl os_eq xa (xl yg xI xa)))),λts KK hl h=>?_⟩)
 obtain⟨r,p,rfl,hr,hp,k⟩:=h;refine⟨r.1,r.2.1,[.int r.2.2],p,rfl,hr.1.1,hr.1.2,hp,rfl,⟨hr.2.bd,(xcc hr hp).bot.bd⟩,k⟩
theorem lJ (B:Blt mg bn)(F:Fun K "turn_to" "turn_to" dm f fd)(m:mg "turn_to" = some (.ref f))(b:Binds K fd ["one", "other"] [])  :
  Own P w K mg base 1 "turn_to" ["one", "other"] (spT 2 false false tz):=by
 refine xw F lK m b rfl (λ_ _ _ _ _ _ hr=>⟨_,_,
  (xi (xF (xE zS (xE xK (xH K 0) (xH K 1)) (xE xK (xH K 0) (xH K 1))))),
  (xA (xl zZ (xl yg xI xI) (xl yg xI xI))),λts KK hl h=>?_⟩)
 obtain⟨a,b,c,d,x,y,rfl,hb,k⟩:=h;exact⟨⟨hb.1.1,hb.2.2⟩,⟨hb.1.2,hb.2.1⟩,k⟩
theorem pL (B:Blt mg bn)(F:Fun K "go_round" "go_round" gE f fd)(m:mg "go_round" = some (.ref f))(b:Binds K fd ["rows"] [])(kW:Own P w K mg base 2 "furthest" ["first", "rows", "sign"] (spT 3 false false nj))(qp:Own P w K mg base 2 "points_back" ["first", "rows"] (spT 2 false false xgL))(yc:Own P w K mg base 1 "turn_to" ["one", "other"] (spT 2 false false tz)) :
  Own P w K mg base 3 "go_round" ["rows"] (spT 1 false false oq):=by
 refine xw F qD m b rfl (λ_ _ _ _ _ _ hr=>⟨_,_,
  (xc (yV (xR (v8 hr.units) (xP (y4 K) rfl (B.get "len") vv (yM (pv 0))) xk (xX _)) (xi (xF vW)) xZ)
  (xc (yN 1 qD.nd (xH K 0))
  (xc (yN 2 qD.nd (xn kW hr (yd (pv 1) (xY (pv 0) xk))))
  (xc (yN 3 qD.nd (xn kW hr (yd (pv 1) (xY (pv 0) (uC zg xk)))))
  (xc (yV (PW.pt (jh (ja (a_ (pv 2))) (qM (ja (a_ (pv 3)))))) (xi (xF vW)) xZ)
  (xi (xF (xcK (wm lA (xn yc hr (xY (pv 2) (pv 3))) xk (xX _)) (aO (xn qp hr (xY (pv 1) (pv 0)))))))))))),
  (xj (yu (xG (xl os_eq (yI qJ (xN xa)) xt)) (xA qH) xM)
  (xj (xU xI)
  (xj (xU (xq (yb xa (xu xa xt))))
  (xj (xU (xq (yb xa (xu xa (zh xt)))))
  (xj (yu (uZ (za (rm xa)) (za (rm xa))) (xA qH) xM)
  (xA (p6 (xl xae (xq (xu xa xa)) xt) (xq (xu xa xa))))))))),λts KK hl h=>?_⟩)
 obtain⟨rows,rfl,hx,k⟩:=h;cases rows with
 | nil=>exact k
 | cons r t =>
  have hr:=hx r xlK;refine⟨r,r::t,1,rfl,.inl rfl,hr,hx,r,r::t,-1,rfl,.inr rfl,hr,hx,?_⟩;have e:Pol.uk (r::t)=match Pol.far r 1 (r::t),Pol.far r (-1) (r::t) with
   | some l,some k=>decide (0<Pol.turn l k) || Pol.back r (r::t)
   | _,_=>false:=rfl
  rw[e] at k;cases e1:Pol.far r 1 (r::t) with
  | none=>rw[e1] at k;exact k
  | some l =>
   cases e2:Pol.far r (-1) (r::t) with
   | none=>rw[e1,e2] at k;exact k
   | some q =>
    rw[e1,e2] at k;have hl2:=hx l (Pol.kS e1).mem;have hq2:=hx q (Pol.kS e2).mem;refine⟨l.1,l.2.1,q.1,q.2.1,_,_,rfl,⟨⟨hl2.1.1.bd,hl2.1.2.bd⟩,hq2.1.1.bd,hq2.1.2.bd⟩,?_⟩;have k:KK (.bl (decide (0<Pol.turn l q) || Pol.back r (r::t))):=k;refine ya (b:=decide (0<Pol.turn l q)) (λc=>?_) (λc=>?_)
    .rw[c] at k;exact k
    .rw[c,Bool.false_or] at k;exact⟨r,r::t,rfl,hr,hx,k⟩
theorem cG (B:Blt mg bn)(F:Fun K "furthest" "furthest" gR f fd)(m:mg "furthest" = some (.ref f))(b:Binds K fd ["first", "rows", "sign"] [])(yc:Own P w K mg base 1 "turn_to" ["one", "other"] (spT 2 false false tz)) :
  Own P w K mg base 2 "furthest" ["first", "rows", "sign"] (spT 3 false false nj):=by
 refine xw F qg m b rfl (λ_ _ _ _ _ _ hr=>⟨_,_,
  (xc (yN 3 qg.nd rh)
  (xc (zR PassesOwn.never rfl (yB K (pv 1)) (yy 4 qg.nd) (xi (yV (PW.pt (sj (xR lA (xE xK (pv 2) (xn yc hr (xY (pv 0) (pv 4)))) xk (xX _)) (js (PW.pt (jh (ja (a_ (pv 3))) (qM (xR lA (xE xK (pv 2) (xn yc hr (xY (pv 3) (pv 4)))) xk (xX _)))))))) (xi (yN 3 qg.nd (pv 4))) xZ)))
  (xi (xF (pv 3))))),
  (xj (xU (xdp (t:=Tr.non)))
  (xj (yX (yi xa) xh.g (yu (jr (xG (xl xae (xl yg xa (xq (xu xa xa))) xt)) (uZ (za (rm xa)) (xG (xl xae (xl yg xa (xq (xu xa xa))) xt)))) (xU xa) xM))
  (xA xa))),λts KK hl h=>?_⟩)
 obtain⟨r,rows,s,rfl,hs,hr,hx,k⟩:=h;have tb:∀ {p q:Pol.R3},B3k 900 p->B3k 900 q->Bk 1801 (Pol.turn p q):=λhp hq=>(hp.1.1.mul hq.1.2).sub (hp.1.2.mul hq.1.1);have sb:Bd s:=by rcases hs with rfl | rfl<;>exact cq (by decide) (by decide)
 refine zt (all:=rows.map trR) (λi τ=>∃x4,τ=[.fz (trR r),.fz (.tup (rows.map trR)),.fz (.int s),.fz (xie ((rows.take i).foldl (Pol.wJ r s) none)),x4]/\∀y,(rows.take i).foldl (Pol.wJ r s) none=some y->B3k 900 y) ⟨_,rfl,λy hy=>by cases hy⟩ ?_ ?_
 .rintro i x τ N hxi ⟨x4,rfl,hb⟩ hN;obtain⟨y,hyi,rfl⟩:=zX hxi;have hy:=hx y (xlQ hyi);have fold:=Pol.kK (Pol.wJ r s) none hyi;generalize hacc:(rows.take i).foldl (Pol.wJ r s) none=acc at fold hb ⊢;have leaf:∀o:Option Pol.R3,o=Pol.wJ r s acc y->N [.fz (trR r),.fz (.tup (rows.map trR)),.fz (.int s),.fz (xie o),.fz (trR y)]:=λo e=>by
   rw[fold] at hN;refine hN _ ⟨_,by rw[e],?_⟩
   .unfold Pol.wJ;split
    .intro z hz;cases hz;exact hy
    .exact hb
  refine⟨r.1,r.2.1,y.1,y.2.1,_,_,rfl,⟨⟨hr.1.1.bd,hr.1.2.bd⟩,hy.1.1.bd,hy.1.2.bd⟩,⟨sb,(tb hr hy).bd⟩,?_⟩;refine ya (b:=decide (0<s*Pol.turn r y)) (λc=>?_) (λc=>?_)
  .have c:=xmB c;cases acc with
   | none=>exact leaf (some y) (by unfold Pol.wJ;rw[if_pos ⟨c,rfl⟩])
   | some z =>
    have hz:=hb z rfl;refine⟨z.1,z.2.1,y.1,y.2.1,_,_,rfl,⟨⟨hz.1.1.bd,hz.1.2.bd⟩,hy.1.1.bd,hy.1.2.bd⟩,⟨sb,(tb hz hy).bd⟩,?_⟩;refine ya (b:=decide (0<s*Pol.turn z y)) (λd=>?_) (λd=>?_)
    .exact leaf (some y) (by unfold Pol.wJ;rw[if_pos ⟨c,d⟩])
    .refine leaf (some z) ?_;unfold Pol.wJ;rw[if_neg (λw=>by have w2:decide (0<s*Pol.turn z y)=true:=w.2;rw[d] at w2;cases w2)]
  .have c:=xmA c;exact leaf acc (by unfold Pol.wJ;rw[if_neg λw=>c w.1])
 .rintro τ ⟨x4,rfl,_⟩;rw[xlq,xl9 (xmd _)];exact k
theorem aE (B:Blt mg bn)(F:Fun K "points_back" "points_back" qC f fd)(m:mg "points_back" = some (.ref f))(b:Binds K fd ["first", "rows"] [])(yc:Own P w K mg base 1 "turn_to" ["one", "other"] (spT 2 false false tz)) :
  Own P w K mg base 2 "points_back" ["first", "rows"] (spT 2 false false xgL):=by
 refine xw F jc m b rfl (λ_ _ _ _ _ _ hr=>⟨_,_,
  (xc (zR PassesOwn.never rfl (yB K (pv 1)) (yy 2 jc.nd) (xi (yV (PW.pt (sj (xR (v8 hr.units) (xn yc hr (xY (pv 0) (pv 2))) xk (xX _)) (js (xR (jP K hr.units) (xE zY (xE xK (xH K 0) (xH K 2)) (xE xK (xH K 0) (xH K 2))) xk (xX _))))) (xi (xF vW)) xZ)))
  (xi (xF vW))),
  (xj (yX (yi xa) xh.g (yu (jr (xG (xl os_eq (xq (xu xa xa)) xt)) (xG (xl hG (xl uJ (xl yg xI xI) (xl yg xI xI)) xt))) (xA qH) xM))
  (xA qH)),λts KK hl h=>?_⟩)
 obtain⟨r,rows,rfl,hr,hx,k⟩:=h;refine zt (all:=rows.map trR) (λi τ=>∃x2,τ=[.fz (trR r),.fz (.tup (rows.map trR)),x2]/\∀y∈rows.take i,¬(Pol.turn r y=0/\Pol.dot r y<0)) ⟨_,rfl,λy hy=>by simp at hy⟩ ?_ ?_
 .rintro i x τ N hxi ⟨x2,rfl,hb⟩ hN;obtain⟨y,hyi,rfl⟩:=zX hxi;have hym:=xlQ hyi;have hy:=hx y hym;have leaf:¬(Pol.turn r y=0/\Pol.dot r y<0)->N [.fz (trR r),.fz (.tup (rows.map trR)),.fz (trR y)]:=λc=>hN _ ⟨_,rfl,λz hz=>by
   rw[xl_,hyi] at hz;rcases xlF.mp hz with q | q
   .exact hb z q
   .have:z=y:=by simpa using q
    rw[this];exact c⟩
  refine⟨r.1,r.2.1,y.1,y.2.1,_,_,rfl,⟨⟨hr.1.1.bd,hr.1.2.bd⟩,hy.1.1.bd,hy.1.2.bd⟩,?_⟩;refine ya (b:=decide (Pol.turn r y=0)) (λc=>?_) (λc=>?_)
  .have c:=xmB c;refine⟨⟨hr.1.1.bd,hy.1.1.bd⟩,⟨hr.1.2.bd,hy.1.2.bd⟩,?_⟩;refine ya (b:=decide (Pol.dot r y<0)) (λd=>?_) (λd=>?_)
   .have d:=xmB d;have:Pol.back r rows=true:=by unfold Pol.back;rw[xkV];exact⟨y,hym,by simp[c,d]⟩
    rw[this] at k;exact k
   .have d:=xmA d;exact leaf λw=>d w.2
  .have c:=xmA c;exact leaf λw=>c w.1
 .rintro τ ⟨x2,rfl,hb⟩;rw[xlq,xl9 (xmd _)] at hb;have:Pol.back r rows=false:=by unfold Pol.back;rw[List.any_eq_false];intro y hy w;simp at w;exact hb y hy w
  rw[this] at k;exact k
theorem pe (B:Blt mg bn)(F:Fun K "is_field" "is_field" qd f fd)(m:mg "is_field" = some (.ref f))(b:Binds K fd ["thing"] [])(gL:Own P w K mg base 3 "go_round" ["rows"] (spT 1 false false oq))(si:Own P w K mg base 1 "is_near" ["place"] (spT 1 false false xau))(yF:Own P w K mg base 6 "corners_left" ["rows"] (spT 1 false true vx))(vI:Own P w K mg base 4 "is_field_row" ["thing"] (spT 1 false false sY)) :
  Own P w K mg base 7 "is_field" ["thing"] (spT 1 false false pW):=by
 refine xw F c7 m b rfl (λ_ _ _ _ _ _ hr=>⟨_,_,
  (xc (yV (PW.pt (jh (vf (w5 (xP jX rfl (B.get "isinstance") wK (xY (pv 0) (dH (v:=V.ty "tuple") rfl (B.get "tuple") vB rfl))))) (qM (vf (o6 gZ gZ xk (xP (y4 K) rfl (B.get "len") vv (yM (pv 0))) xk))))) (xi (xF vW)) xZ)
  (xc (yV (PW.pt (jh (vf (w5 (xP (vZ K rfl) rfl (B.get "all") ng (yM (zz (ye (N:=["row"]) (tau:=[none]) (XN:=["thing"]) (xs:=xf qd) (by decide +kernel) rfl rfl) rfl (zF rfl) (yB K (pv 0)) (λ_ _ _ _=>(xT (i:=0) (show(["row"]:List Str).Nodup by decide +kernel) rfl (Or.inl rfl))) (λ_ _ _ _=>zq) (λ_ _ _ _=>(xn vI hr (yM (pv 0))))))))) (qM (vf (w5 (xn gL hr (yM (pv 0)))))))) (xi (xF vW)) xZ)
  (xi (xF (xP (vZ K rfl) rfl (B.get "all") ng (yM (zz (ye (N:=["place"]) (tau:=[none]) (XN:=["thing"]) (xs:=xf qd) (by decide +kernel) rfl rfl) rfl (zF rfl) (yB K (xn yF hr (yM (pv 0)))) (λ_ _ _ _=>(xT (i:=0) (show(["place"]:List Str).Nodup by decide +kernel) rfl (Or.inl rfl))) (λ_ _ _ _=>zq) (λ_ _ _ _=>(xn si hr (yM (pv 0))))))))))),
  (xj (yu (uZ (wk (za (mJ xa))) (wk (xG (oM h_ h_ xt (yI qJ (xN xa)) xt)))) (xA qH) xM)
  (xj (yu (uZ (wk (za (yI sQ (xN (OkF.e (yk (yi xa).c xh yU (xq (xN xa)))))))) (wk (za (xq (xN xa))))) (xA qH) xM)
  (xA (yI sQ (xN (OkF.e (yk (yi (xq (xN xa))).c xh yU (xq (xN xa))))))))),λts KK hl h=>?_⟩)
 obtain⟨t,rfl,k⟩:=h;cases t with
 | tup us =>
  refine ya (b:=decide ((3:Int)<=us.length)) (λc1=>?_) (λc1=>?_)
  .have c1:=xmB c1;refine ya (b := !decide ((us.length:Int)<=8)) (λc2=>?_) (λc2=>?_)
   .have c2:8<us.length:=by simp at c2;omega
    have e:isField (.tup us)=false:=by
     show(match rowsOf us with | some rows=>xg rows | none=>false)=false;cases e:rowsOf us with
     | none=>rfl
     | some rows =>show xg rows=false;unfold xg;rw[qj e,xlq] at c2;rw[xmw (by omega)];rfl
    rw[e] at k;exact k
   .have c2:us.length<=8:=by simp at c2;omega
    refine⟨sqz (by omega),kO (λx=>.bl (zp x)) (λx _ N hN=>⟨x,rfl,hN⟩) ⟨us.map zp,by rw[xlC];rfl,?_⟩⟩;rw[xkT];show if (!us.all zp)=true then _ else _
    refine ya (λc=>?_) (λc=>?_)
    .rw[lT (by simpa using c)] at k;exact k
    .have c:us.all zp=true:=by simpa using c
     obtain⟨rows,rfl,hrows⟩:=cN c;rw[xlq] at c1 c2;have ea:(rows.all λr=>decide ((r.1≠0\/r.2.1≠0)/\Pol.s_ r))=true:=by rw[xkS];intro r hr;exact xmx (hrows r hr)
     have ef:isField (.tup (rows.map trR))=(Pol.uk rows&&(Pol.pieces rows).all az):=by show(match rowsOf (rows.map trR) with | some rows=>xg rows | none=>false)=_;rw[hX];show xg rows=_;unfold xg;rw[ea,xmx (by omega)];simp
     rw[ef] at k;have ok:qK rows:=⟨λr hr=>(hrows r hr).1,λr hr=>kP (hrows r hr).2,by omega⟩
     refine⟨rows,rfl,λr hr=>(ok.sm r hr).mono (by decide),?_⟩;refine ya (b := !Pol.uk rows) (λd=>?_) (λd=>?_)
     .have d:Pol.uk rows=false:=by simpa using d
      rw[d] at k;exact k
     .have d:Pol.uk rows=true:=by simpa using d
      rw[d,Bool.true_and] at k;have sm:=ok.small rows.length;have pl:=ok.plen rows.length;rw[xl9 (xmd _)] at sm pl;refine⟨_,rows,rfl,.inl rfl,ok,?_,?_⟩
      .rw[xlq,uS];exact sqz (by have:(Pol.pieces rows).length<=100000:=pl;omega)
      .refine kO (λx=>match x with | .tup [.tup [.int n,.int d],.tup [.int n2,.int d2]]=>.bl (nearF n d&&nearF n2 d2) | _=>.non) (λx hx N hN=>?_) ?_
       .obtain⟨v,hv,rfl⟩:=xlO.mp hx;have hb:=sm v (zN hv);have ld:∀i,Bd (aM i v.2.2):=λi=>xe9 hb.2 hb.1.2.bd;refine⟨[(bV v.1 v.2.2,aM v.1 v.2.2),(bV v.2.1 v.2.2,aM v.2.1 v.2.2)],rfl,(show(2:Nat)<=1000 by decide),λf hf=>?_,?_⟩
        .simp only[xlI,xlY,xmC] at hf;rcases hf with rfl | rfl<;>exact ld _
        .have e:([(bV v.1 v.2.2,aM v.1 v.2.2),(bV v.2.1 v.2.2,aM v.2.1 v.2.2)].all λf=>nearF f.1 f.2)=(nearF (bV v.1 v.2.2) (aM v.1 v.2.2)&&nearF (bV v.2.1 v.2.2) (aM v.2.1 v.2.2)):=by simp
         rw[e];exact hN
       .refine⟨(yr (Pol.pieces rows)).map az,by rw[xlC,xlC];rfl,?_⟩;rw[xkT];have e:=tH az (Pol.pieces rows);show KK (.bl ((yr (Pol.pieces rows)).all az));rw[e];exact k
  .have c1:us.length<3:=by have:=xmA c1;omega
   have e:isField (.tup us)=false:=by
    show(match rowsOf us with | some rows=>xg rows | none=>false)=false;cases e:rowsOf us with
    | none=>rfl
    | some rows =>show xg rows=false;unfold xg;rw[qj e,xlq] at c1;rw[xmw (by omega)];rfl
   rw[e] at k;exact k
 | _=>exact k
theorem sR (B:Blt mg bn)(F:Fun K "is_field_row" "is_field_row" vQ f fd)(m:mg "is_field_row" = some (.ref f))(b:Binds K fd ["thing"] [])(rN:Own P w K mg base 3 "is_row" ["thing"] (spT 1 false false xeE)) :
  Own P w K mg base 4 "is_field_row" ["thing"] (spT 1 false false sY):=by
 refine xw F wY m b rfl (λ_ _ _ _ _ _ hr=>⟨_,_,
  (xc (yV (vf (w5 (xn rN hr (yM (pv 0))))) (xi (xF vW)) xZ)
  (xc (zU (pv 0) (yl K (n:=3) rfl (xo (yy 1 wY.nd) (xo (yy 2 wY.nd) (xo (yy 3 wY.nd) yj)))))
  (xi (xF (xbi (wm gZ (xP wg rfl (B.get "abs") qL (yM (pv 1))) xk (xX _)) (xbi (wm gZ (xP wg rfl (B.get "abs") qL (yM (pv 2))) xk (xX _)) (aO (wm gZ (xP wg rfl (B.get "abs") qL (yM (pv 3))) xk (xX _))))))))),
  (xj (yu (wk (za (xq (xN xa)))) (xA qH) xM)
  (xj (ze xa (ym (xm xh (xm xh (xm xh x_)))).g)
  (xA (cW (xl h_ (yI qI (xN xa)) xt) (cW (xl h_ (yI qI (xN xa)) xt) (xl h_ (yI qI (xN xa)) xt)))))),λts KK hl h=>?_⟩)
 obtain⟨t,rfl,k⟩:=h;refine⟨t,rfl,?_⟩;unfold bK;unfold zp at k;cases e:fL t with
 | none=>rw[e] at k;exact k
 | some r =>
  rw[e] at k;cases kN e;have k:KK (.bl (decide ((r.1≠0\/r.2.1≠0)/\Pol.s_ r))):=k;refine ya (b := !decide (r.1≠0\/r.2.1≠0)) (λc=>?_) (λc=>?_)
  .have c:¬(r.1≠0\/r.2.1≠0):=by simpa using c
   rw[xmw λw=>c w.1] at k;exact k
  .have c:r.1≠0\/r.2.1≠0:=by simp at c;omega
   refine⟨rfl,?_⟩;have ab:∀i m:Int,(if i<0 then -i else i)<=m↔-m<=i/\i<=m:=λi m=>by split<;>omega
   refine ya (b:=decide ((if r.1<0 then -r.1 else r.1)<=30)) (λd=>?_) (λd=>?_)
   .have d:=(ab _ _).mp (xmB d);refine ya (b:=decide ((if r.2.1<0 then -r.2.1 else r.2.1)<=30)) (λd2=>?_) (λd2=>?_)
    .have d2:=(ab _ _).mp (xmB d2);show KK (.bl (decide ((if r.2.2<0 then -r.2.2 else r.2.2)<=1000)));have e3:decide ((r.1≠0\/r.2.1≠0)/\Pol.s_ r)=decide ((if r.2.2<0 then -r.2.2 else r.2.2)<=1000):=by rw[xmv,ab];exact⟨λw=>w.2.2,λw=>⟨c,⟨d,d2⟩,w⟩⟩
     rw[<-e3];exact k
    .have d2:=λw=>xmA d2 ((ab _ _).mpr w);rw[xmw λw=>d2 w.2.1.2] at k;exact k
   .have d:=λw=>xmA d ((ab _ _).mpr w);rw[xmw λw=>d w.2.1.1] at k;exact k
theorem xai (B:Blt mg bn)(F:Fun K "is_near" "is_near" j0 f fd)(m:mg "is_near" = some (.ref f))(b:Binds K fd ["place"] [])  :
  Own P w K mg base 1 "is_near" ["place"] (spT 1 false false xau):=by
 refine xw F lu m b rfl (λ_ _ _ _ _ _ hr=>⟨_,_,
  (xi (xF (xP (vZ K rfl) rfl (B.get "all") ng (yM (zz (ye (N:=["top", "bottom"]) (tau:=[none,none]) (XN:=["place"]) (xs:=xf j0) (by decide +kernel) rfl rfl) rfl (zG (yt rfl (yt rfl u5))) (yB K (pv 0)) (λ_ _ _ _=>(yl K (n:=2) rfl (xo (xT (i:=0) (show(["top", "bottom"]:List Str).Nodup by decide +kernel) rfl (Or.inl rfl)) (xo (xT (i:=1) (show(["top", "bottom"]:List Str).Nodup by decide +kernel) rfl (Or.inl rfl)) yj)))) (λ_ _ _ _=>zq) (λ_ _ _ _=>(wm gZ (xP wg rfl (B.get "abs") qL (yM (pv 0))) (xE xK xk (pv 1)) (xX _)))))))),
  (xA (yI sQ (xN (OkF.e (yk (yi xa).c (ym (xm xh (xm xh x_))) yU (xl h_ (yI qI (xN xa)) (xl yg xt xa))))))),λts KK hl h=>?_⟩)
 obtain⟨fs,rfl,hz,hb,k⟩:=h;refine⟨by rw[xlq];exact sqz (by omega),?_⟩;have ab:∀i m:Int,decide ((if i<0 then -i else i)<=12*m)=nearF i m:=λi m=>by unfold nearF;rw[xmv];split<;>omega
 refine kO (λx=>match x with | .tup [.int n,.int d]=>.bl (nearF n d) | _=>.non) (λx hx N hN=>?_) ?_
 .obtain⟨f,hf,rfl⟩:=xlO.mp hx;refine⟨rfl,⟨cq (by decide) (by decide),hb f hf⟩,?_⟩;show N (.bl (decide ((if f.1<0 then -f.1 else f.1)<=12*f.2)));rw[ab];exact hN
 .refine⟨fs.map λf=>nearF f.1 f.2,by rw[xlC,xlC];rfl,?_⟩;rw[xkT];exact k
theorem rR (B:Blt mg bn)(F:Fun K "need_field" "need_field" q8 f fd)(m:mg "need_field" = some (.ref f))(b:Binds K fd ["thing"] [])(g_:Own P w K mg base 7 "is_field" ["thing"] (spT 1 false false pW)) :
  Own P w K mg base 8 "need_field" ["thing"] (spT 1 false false gQ):=by
 refine xw F rP m b rfl (λ_ _ _ _ _ _ hr=>⟨_,_,
  (xi (yV (vf (w5 (xn g_ hr (yM (pv 0))))) (xi f_) xZ)),
  (yu (wk (za (xq (xN xa)))) jQ xM),λts KK hl h=>?_⟩)
 obtain⟨t,rfl,hf,k⟩:=h;refine⟨t,rfl,?_⟩;rw[hf];exact⟨rfl,k⟩
theorem lB (B:Blt mg bn)(F:Fun K "corners" "corners" dD f fd)(m:mg "corners" = some (.ref f))(b:Binds K fd ["field"] [])(wx:Own P w K mg base 8 "need_field" ["thing"] (spT 1 false false gQ))(yF:Own P w K mg base 6 "corners_left" ["rows"] (spT 1 false true vx)) :
  Own P w K mg base 9 "corners" ["field"] (spT 1 false true fU):=by
 refine xw F l5 m b rfl (λ_ _ _ _ _ _ hr=>⟨_,_,
  (xc (wW (xn wx hr (yM (pv 0))))
  (xi (xF (xn yF hr (yM (pv 0)))))),
  (xj (rE (xq (xN xa)))
  (kM (xaS (xN xa)))),λts KK hl h=>?_⟩)
 obtain⟨rows,rfl,hf,FR,k⟩:=h;exact⟨_,rfl,pA hf,_,rows,rfl,.inl rfl,FR.rows,k⟩
theorem fH (B:Blt mg bn)(F:Fun K "tight_numbers" "tight_numbers" wF f fd)(m:mg "tight_numbers" = some (.ref f))(b:Binds K fd ["rows", "place"] [])(gH:Own P w K mg base 5 "is_tight" ["row", "place"] (spT 2 false false oa)) :
  Own P w K mg base 6 "tight_numbers" ["rows", "place"] (spT 2 false false rp):=by
 refine xw F fJ m b rfl (λ_ _ _ _ _ _ hr=>⟨_,_,
  (xi (xF (u9 (vb K) rfl (B.get "tuple") vB (yM (zz (ye (N:=["number", "row", "place"]) (tau:=[none,none,some 1]) (XN:=["rows", "place"]) (xs:=xf wF) (by decide +kernel) rfl rfl) rfl (zG (yt rfl (yt rfl u5))) (tX K rfl (B.get "enumerate") (yM (pv 0))) (λ_ _ _ _=>(yl K (n:=2) rfl (xo (xT (i:=0) (show(["number", "row", "place"]:List Str).Nodup by decide +kernel) rfl (Or.inl rfl)) (xo (xT (i:=1) (show(["number", "row", "place"]:List Str).Nodup by decide +kernel) rfl (Or.inl rfl)) yj)))) (λ_ _ _ _=>(vL (w5 (xn gH hr (xY (pv 1) (pv 2)))))) (λ_ _ _ _=>(pv 0))))))),
  (xA (tN (xN (OkF.e (yk (fZ (xN xa)).c (ym (xm xh (xm xh x_))) (za (xq (xu xa xa))) xa))))),λts KK hl h=>?_⟩)
 obtain⟨rows,p,rfl,hl',hr,hp,k⟩:=h;refine⟨by rw[jW];exact sqz (by omega),?_⟩;rw[bN trR rows (0,0,0)];refine yR (λi=>dy (rows.getD i (0,0,0)) p) fg (λi hi N M h1 h0=>?_) ?_
 .exact⟨rfl,_,_,rfl,hr _ (getD_mem _ (xlT.mp hi)),hp,ya h1 h0⟩
 .exact k
theorem xaV (B:Blt mg bn)(F:Fun K "broken" "broken" fY f fd)(m:mg "broken" = some (.ref f))(b:Binds K fd ["field"] [])(wc:Own P w K mg base 9 "corners" ["field"] (spT 1 false true fU))(jq:Own P w K mg base 1 "is_broken" ["place"] (spT 1 false false m5)) :
  Own P w K mg base 10 "broken" ["field"] (spT 1 false true tW):=by
 refine xw F xbD m b rfl (λ_ _ _ _ _ _ hr=>⟨_,_,
  (xi (xF (zz (ye (N:=["place"]) (tau:=[none]) (XN:=["field"]) (xs:=xf fY) (by decide +kernel) rfl rfl) rfl (zF rfl) (yB K (xn wc hr (yM (pv 0)))) (λ_ _ _ _=>(xT (i:=0) (show(["place"]:List Str).Nodup by decide +kernel) rfl (Or.inl rfl))) (λ_ _ _ _=>(vL (w5 (xn jq hr (yM (pv 0)))))) (λ_ _ _ _=>(pv 0))))),
  (kM (yk (yi (xq (xN xa))).c xh (za (xq (xN xa))) xa)),λts KK hl h=>?_⟩)
 obtain⟨rows,rfl,hf,FR,k⟩:=h;refine⟨rows,rfl,hf,FR,by rw[xlq];exact sqz (by have:=j2 FR;omega),?_⟩;exact yR brk yO (λv hv N M h1 h0=>⟨v,rfl,ya h1 h0⟩) k
theorem n6 (B:Blt mg bn)(F:Fun K "is_broken" "is_broken" jE f fd)(m:mg "is_broken" = some (.ref f))(b:Binds K fd ["place"] [])  :
  Own P w K mg base 1 "is_broken" ["place"] (spT 1 false false m5):=by
 refine xw F ko m b rfl (λ_ _ _ _ _ _ hr=>⟨_,_,
  (xc (zU (pv 0) (yl K (n:=2) rfl (xo (yy 1 ko.nd) (xo (yy 2 ko.nd) yj))))
  (xi (xF (xcK (wm (zV hr.units) (xH K 1) xk (xX _)) (aO (wm (zV hr.units) (xH K 2) xk (xX _))))))),
  (xj (ze xa (ym (xm xh (xm xh x_))).g)
  (xA (p6 (xl vq xI xt) (xl vq xI xt)))),λts KK hl h=>?_⟩)
 obtain⟨v,rfl,k⟩:=h;refine⟨rfl,?_⟩;show if (!decide ((plc v).1.2=1))=true then KK (.bl true) else KK (.bl (!decide ((plc v).2.2=1)))
 unfold brk at k;cases e:decide ((plc v).1.2=1) with
 | true=>rw[e] at k;exact xam k
 | false=>rw[e] at k;exact xbM k
theorem xcI (B:Blt mg bn)(F:Fun K "holds" "holds" rM f fd)(m:mg "holds" = some (.ref f))(b:Binds K fd ["field", "row"] [])(uH:Own P w K mg base 5 "keeps" ["row", "place"] (spT 2 false false nS))(wc:Own P w K mg base 9 "corners" ["field"] (spT 1 false true fU)) :
  Own P w K mg base 10 "holds" ["field", "row"] (spT 2 false false xez):=by
 refine xw F xcL m b rfl (λ_ _ _ _ _ _ hr=>⟨_,_,
  (xi (xF (xP (vZ K rfl) rfl (B.get "all") ng (yM (zz (ye (N:=["place", "row"]) (tau:=[none,some 1]) (XN:=["field", "row"]) (xs:=xf rM) (by decide +kernel) rfl rfl) rfl (zF rfl) (yB K (xn wc hr (yM (pv 0)))) (λ_ _ _ _=>(xT (i:=0) (show(["place", "row"]:List Str).Nodup by decide +kernel) rfl (Or.inl rfl))) (λ_ _ _ _=>zq) (λ_ _ _ _=>(xn uH hr (xY (pv 1) (pv 0))))))))),
  (xA (yI sQ (xN (OkF.e (yk (yi (xq (xN xa))).c xh yU (xq (xu xa xa))))))),λts KK hl h=>?_⟩)
 obtain⟨rows,r,rfl,hf,FR,hr,k⟩:=h;refine⟨rows,rfl,hf,FR,by rw[xlq];exact sqz (by have:=j2 FR;omega),?_⟩;refine wR (f:=yO) (λv=>.bl (zH r (plc v))) (λv hv N hN=>⟨r,plc v,rfl,hr,FR.pk hv,hN⟩) ⟨(yG rows).map λv=>zH r (plc v),by rw[xlC];rfl,?_⟩;rw[xkT];exact k
end
end K20
namespace K20
open PySem L2 Trn
section
variable {P:Program} {w:World} {K:PySem.W.Frag} {mg:Str->Option Value} {base:Heap} {f:Addr} {fd:FuncData}
theorem xc2 (B:Blt mg bn)(F:Fun K "parts" "parts" c_ f fd)(m:mg "parts" = some (.ref f))(b:Binds K fd ["one", "other", "thing"] [])(w9:Own P w K mg base 2 "need_turn" ["one", "other"] (spT 2 false false sD))(vU:Own P w K mg base 3 "is_direction" ["thing"] (spT 1 false false xeq))(yc:Own P w K mg base 1 "turn_to" ["one", "other"] (spT 2 false false tz))(yY:Own P w K mg base 2 "lowest" ["top", "bottom"] (spT 2 false false xgf)) :
  Own P w K mg base 4 "parts" ["one", "other", "thing"] (spT 3 false false xel):=by
 refine xw F mw m b rfl (λ_ _ _ _ _ _ hr=>⟨_,_,
  (xc (yN 3 mw.nd (xn w9 hr (xY (pv 0) (pv 1))))
  (xc (yV (vf (w5 (xn vU hr (yM (pv 2))))) (xi (xF rh)) xZ)
  (xc (jM (i:=4) (j:=5) rfl mw.nd rfl rfl (by decide) rfl rfl (xY (xn yc hr (xY (pv 2) (pv 1))) (xn yc hr (xY (pv 0) (pv 2)))) (by rfl))
  (xc (yV (PW.pt (jh (xR (jP K hr.units) (pv 4) xk (xX _)) (qM (xR (jP K hr.units) (pv 5) xk (xX _))))) (xi (xF rh)) xZ)
  (xi (xF (yf (xY (xn yY hr (xY (pv 4) (pv 3))) (xn yY hr (xY (pv 5) (pv 3))))))))))),
  (xj (xU (xq (xu xa xa)))
  (xj (yu (wk (za (xq (xN xa)))) (xA (xdp (t:=Tr.non))) xM)
  (xj (qm (xu (xq (xu xa xa)) (xq (xu xa xa))))
  (xj (yu (uZ (xG (xl hG xa xt)) (xG (xl hG xa xt))) (xA (xdp (t:=Tr.non))) xM)
  (xA (yh (b:=true) (xu (xq (xu xa xa)) (xq (xu xa xa))))))))),λts KK hl h=>?_⟩)
 obtain⟨a,b',c,d,t,rfl,hl2,hs,hd,hp,k⟩:=h;refine⟨a,b',c,d,rfl,hl2,hp,?_⟩;refine⟨t,rfl,hs,?_⟩;have no:jb t=false->fh a b' c d t=.non:=λe=>by
  unfold fh;split
  .rename_i x y;have:x=0/\y=0:=by simp[jb] at e;omega
   rw[if_pos this]
  .rfl
 refine ya (b := !jb t) (λe=>?_) (λe=>?_)
 .rw[no (by simpa using e)] at k;exact k
 have e:jb t=true:=by simpa using e
 obtain⟨x,y,rfl⟩:=sU e;have nz:¬(x=0/\y=0):=λz=>by simp[jb,drT,z.1,z.2] at e
 obtain⟨hx,hy⟩:L24 x/\L24 y:=hd;refine⟨x,y,c,d,[],[],rfl,⟨⟨hx.bd,hy.bd⟩,hl2.2.1.bd,hl2.2.2.bd⟩,a,b',x,y,[],[],rfl,⟨⟨hl2.1.1.bd,hl2.1.2.bd⟩,hx.bd,hy.bd⟩,?_⟩;have kk:KK (if tn x y c d<0\/tn a b' x y<0 then .non else .tup [xdE (tn x y c d) (tn a b' c d),xdE (tn a b' x y) (tn a b' c d)]):=by
  have e1:fh a b' c d (drT x y)=_:=(if_neg nz)
  rw[e1] at k;exact k
 refine ya (b:=decide (tn x y c d<0)) (λe1=>?_) (λe1=>?_)
 .rw[if_pos (.inl (xmB e1))] at kk;exact kk
 refine ya (b:=decide (tn a b' x y<0)) (λe2=>?_) (λe2=>?_)
 .rw[if_pos (.inr (xmB e2))] at kk;exact kk
 rw[if_neg (by have:=xmA e1;have:=xmA e2;omega)] at kk;have hb:=xiL hl2;exact⟨_,_,rfl,by omega,hb,_,_,rfl,by omega,hb,kk⟩
theorem mV (B:Blt mg bn)(F:Fun K "need_turn" "need_turn" jn f fd)(m:mg "need_turn" = some (.ref f))(b:Binds K fd ["one", "other"] [])(yc:Own P w K mg base 1 "turn_to" ["one", "other"] (spT 2 false false tz)) :
  Own P w K mg base 2 "need_turn" ["one", "other"] (spT 2 false false sD):=by
 refine xw F fA m b rfl (λ_ _ _ _ _ _ hr=>⟨_,_,
  (xc (yN 2 fA.nd (xn yc hr (xY (pv 0) (pv 1))))
  (xc (yV (xR gZ (pv 2) xk (xX _)) (xi f_) xZ)
  (xi (xF (pv 2))))),
  (xj (xU (xq (xu xa xa)))
  (xj (yu (xG (xl h_ xa xt)) jQ xM)
  (xA xa))),λts KK hl h=>?_⟩)
 obtain⟨a,b',c,d,rfl,hl2,hp,k⟩:=h;refine⟨a,b',c,d,[],[],rfl,⟨⟨hl2.1.1.bd,hl2.1.2.bd⟩,hl2.2.1.bd,hl2.2.2.bd⟩,?_⟩;exact ya (b:=decide (tn a b' c d<=0)) (λe=>by have:=xmB e;omega) (λ_=>k)
theorem ak (B:Blt mg bn)(F:Fun K "is_direction" "is_direction" vR f fd)(m:mg "is_direction" = some (.ref f))(b:Binds K fd ["thing"] [])(uh:Own P w K mg base 2 "are_whole" ["things"] (spT 1 false false sO)) :
  Own P w K mg base 3 "is_direction" ["thing"] (spT 1 false false xeq):=by
 refine xw F dO m b rfl (λ_ _ _ _ _ _ hr=>⟨_,_,
  (xc (yV (PW.pt (jh (vf (w5 (xP jX rfl (B.get "isinstance") wK (xY (pv 0) (dH (v:=V.ty "tuple") rfl (B.get "tuple") vB rfl))))) (jh (xR (zV hr.units) (xP (y4 K) rfl (B.get "len") vv (yM (pv 0))) xk (xX _)) (qM (vf (w5 (xn uh hr (yM (pv 0))))))))) (xi (xF vW)) xZ)
  (xi (xF (xcK (wm (zV hr.units) (xH K 0) xk (xX _)) (aO (wm (zV hr.units) (xH K 0) xk (xX _))))))),
  (xj (yu (uZ (wk (za (mJ xa))) (uZ (xG (xl vq (yI qJ (xN xa)) xt)) (wk (za (xq (xN xa)))))) (xA qH) xM)
  (xA (p6 (xl vq xI xt) (xl vq xI xt)))),λts KK hl h=>?_⟩)
 obtain⟨t,rfl,hs,k⟩:=h;cases t with
 | tup us =>
  refine ya (b := !decide ((us.length:Int)=2)) (λc=>?_) (λc=>?_)
  .have c:¬(us.length:Int)=2:=by simpa using c
   have e:jb (.tup us)=false:=by refine Bool.eq_false_iff.mpr λh=>?_;obtain⟨x,y,z⟩:=sU h;injection z with z;rw[z] at c;exact c rfl
   rw[e] at k;exact k
  .have c:us.length=2:=by simp at c;omega
   obtain⟨x,y,rfl⟩:∃x y,us=[x,y]:=by
    match us,c with
    | [x,y],_=>exact⟨x,y,rfl⟩
   refine⟨_,rfl,_,.inl rfl,hs _ rfl,?_⟩;cases x with
   | int a =>
    cases y with
    | int b =>
     show if (!decide (a=0))=true then KK (.bl true) else KK (.bl (!decide (b=0)))
     by_cases ha:a=0<;>by_cases hb:b=0<;>simp[ha,hb,jb] at k ⊢<;>exact k
    | _=>exact k
   | _=>exact k
 | _=>exact k
theorem lx (B:Blt mg bn)(F:Fun K "between" "between" sH f fd)(m:mg "between" = some (.ref f))(b:Binds K fd ["one", "other"] [])(w9:Own P w K mg base 2 "need_turn" ["one", "other"] (spT 2 false false sD))(qE:Own P w K mg base 2 "undivided" ["direction"] (spT 1 false false xeM))(q9:Own P w K mg base 2 "next_least" ["first", "last"] (spT 2 false false aL))(qG:Own P w K mg base 2 "next_behind" ["before", "here", "last"] (spT 3 false false dj)) :
  Own P w K mg base 3 "between" ["one", "other"] (spT 2 false true oX):=by
 refine xw F gG m b rfl (λ_ _ _ _ _ _ hr=>⟨_,_,
  (xc (wW (xn w9 hr (xY (pv 0) (pv 1))))
  (xc (jM (i:=2) (j:=3) rfl gG.nd rfl rfl (by decide) rfl rfl (xY (xn qE hr (yM (pv 0))) (xn qE hr (yM (pv 1)))) (by rfl))
  (xc (yN 4 gG.nd (zi (xY (pv 2) (xn q9 hr (xY (pv 2) (pv 3))))))
  (xc (fW PassesOwn.never (xR (zV hr.units) (zd (yp K) (pv 4) (uC zg xk) (λ_ _=>rfl)) (pv 3) (xX _)) (xi (wW (sP PySem.F.plainAttrs_list PySem.F.slot_list_append PySem.F.type_list_append wd (pv 4) (yM (xn qG hr (yd (zd (yp K) (pv 4) (uC zg xk) (λ_ _=>rfl)) (xY (zd (yp K) (pv 4) (uC zg xk) (λ_ _=>rfl)) (pv 3)))))))))
  (xi (xF (pv 4))))))),
  (xj (rE (xq (xu xa xa)))
  (xj (qm (xu (xq (xN xa)) (xq (xN xa))))
  (xj (we (kE (xu xa (xq (xu xa xa)))))
  (xj (j1 (xG (xl vq (rz (zh xt)) xa)) (vV (xq (yb (rz (zh xt)) (xu (rz (zh xt)) xa)))))
  jL)))),λts KK hl h=>?_⟩)
 obtain⟨⟨a,b'⟩,⟨c,d⟩,rfl,hu,hv,hp,k⟩:=h;obtain⟨nu,nv⟩:=lF hp;refine⟨a,b',c,d,rfl,xhp (by decide) hu hv,hp,?_⟩;refine⟨(a,b'),rfl,nu,hu.mono (by decide),(c,d),rfl,nv,hv.mono (by decide),?_⟩;have hf:=o9 nu hu;have hl2:=o9 nv hv;have hD:=(xea hp).2;have gl:=xbr nv;refine⟨und (a,b'),und (c,d),rfl,hf,hl2,xbr nu,hD,λq q1 q2 q3=>?_⟩;have DD:=xdc (n:=200) hf hl2;have R0:Run (und (a,b')) (und (c,d)) 200 [] (und (a,b')) q:=by
  refine⟨⟨λi x y hx hy=>?_,λi x y z hx hy hz=>?_⟩,rfl,?_,⟨q2,q3,by omega⟩,?_,λx hx=>?_⟩
  .match i with
   | 0=>cases hx;cases hy;exact q1
   | i+1=>simp at hy
  .simp at hz
  .rw[yW];omega
  .simp only[xlr];omega
  .rcases xlI.mp hx with rfl | hx
   .exact hf.mono (by decide)
   .rw[xlU.mp hx];obtain⟨e1,e2⟩:=ji (und (a,b')) (und (c,d)) q;exact⟨xhO hD e1 ⟨q2,by omega⟩ ⟨by omega,by omega⟩ hf.1 hl2.1,xhO hD e2 ⟨q2,by omega⟩ ⟨by omega,by omega⟩ hf.2 hl2.2⟩
 refine j8 (λn τ=>∃(h0:List D2) (x y:D2),τ=[.fz (drD (a,b')),.fz (drD (c,d)),.fz (drD (und (a,b'))),.fz (drD (und (c,d))),.ow ((h0++[x,y]).map drD)]/\Run (und (a,b')) (und (c,d)) 200 h0 x y/\n=(cr y (und (c,d))).toNat) _ ⟨[],_,q,rfl,R0,rfl⟩ ?_;rintro n τ N ⟨h0,x,y,rfl,R,rfl⟩ hN;have at1:atT ((h0++[x,y]).map drD) (-1)=some (drD y):=by rw[show h0++[x,y]=(h0++[x])++[y] by simp,xlA];exact mB _ _
 have at2:atT ((h0++[x,y]).map drD) (-2)=some (drD x):=by rw[xlA];exact xbO _ _ _
 show sS (atT ((h0++[x,y]).map drD) (-1)) _;rw[at1];refine⟨xcQ _ _,?_⟩;have st:=R.stop gl;refine ya (b := !teq (drD y) (drD (und (c,d)))) (λc0=>?_) (λc0=>?_)
 .rw[xb0] at c0;have c0:y≠und (c,d):=by simpa using c0
  have y0:0<cr y (und (c,d)):=by have:=R.t.1;have:cr y (und (c,d))≠0:=λz=>c0 (st.mp z);omega
  obtain⟨m2,mD,R',lt⟩:=R.step hf hl2 y0 rfl;have bx:=R.bd x (by simp);have by':=R.bd y (by simp)
  show sS (atT ((h0++[x,y]).map drD) (-2)) _;rw[at2];show sS (atT ((h0++[x,y]).map drD) (-1)) _;rw[at1];refine⟨x,y,und (c,d),rfl,⟨bx.mono (by decide),by'.mono (by decide),hl2.mono (by decide)⟩,y0,?_⟩;have len:=R.len;refine⟨by rw[xlq,xll];exact sqz (by simp only[xlm,xlr];omega),hN _ _ ?_ ⟨h0++[x],y,_,?_,R',rfl⟩⟩
  .omega
  .simp
 .rw[xb0] at c0;have c0:y=und (c,d):=by simpa using c0
  have len:=R.len;refine k (h0++[x,y]) ⟨R.chn,by simp,by simp only[xll,xlm,xlr];have:=R.t.1;omega,R.fst,?_,λz hz=>(R.bd z hz).mono (by decide)⟩;rw[c0,show(h0++[x,und (c,d)]).length-1=h0.length+1 by simp,xlb (by omega)];simp[show h0.length+1-h0.length=1 by omega]
theorem nM (B:Blt mg bn)(F:Fun K "undivided" "undivided" jk f fd)(m:mg "undivided" = some (.ref f))(b:Binds K fd ["direction"] [])(xQ:Own P w K mg base 1 "greatest_divisor" ["one", "other"] (spT 2 false false xe5)) :
  Own P w K mg base 2 "undivided" ["direction"] (spT 1 false false xeM):=by
 refine xw F vG m b rfl (λ_ _ _ _ _ _ hr=>⟨_,_,
  (xc (zU (pv 0) (yl K (n:=2) rfl (xo (yy 1 vG.nd) (xo (yy 2 vG.nd) yj))))
  (xc (yN 3 vG.nd (xn xQ hr (xY (pv 1) (pv 2))))
  (xi (xF (yf (xY (xE zI (pv 1) (pv 3)) (xE zI (pv 2) (pv 3)))))))),
  (xj (ze xa (ym (xm xh (xm xh x_))).g)
  (xj (xU (xq (xu xa xa)))
  (xA (yh (b:=true) (xu (xl uy xa xa) (xl uy xa xa)))))),λts KK hl h=>?_⟩)
 obtain⟨⟨a,c⟩,rfl,nz,bx,k⟩:=h;have g0:=vF nz;have gb:Bd (gd (a,c)):=by
  have u:=fw nz;refine wO ⟨by omega,?_⟩;show((Int.gcd a c:Nat):Int)<=1000000;unfold Bx at bx;simp only at bx;by_cases ha:a=0
  .have:c≠0:=λz=>nz (by rw[ha,z]);have:=Int.gcd_le_natAbs_right a this;omega
  .have:=Int.gcd_le_natAbs_left c ha;omega
 have g1:gd (a,c)≠0:=by omega
 refine⟨rfl,a,c,rfl,⟨g1,gb⟩,⟨g1,gb⟩,?_⟩;have e:∀x:Int,x.fdiv ((Int.gcd a c:Nat):Int)=x / gd (a,c):=λx=>zK (xko g0);show KK (.tup [.int (a.fdiv ((Int.gcd a c:Nat):Int)),.int (c.fdiv ((Int.gcd a c:Nat):Int))]);rw[e,e];exact k
theorem t8 (B:Blt mg bn)(F:Fun K "next_least" "next_least" kF f fd)(m:mg "next_least" = some (.ref f))(b:Binds K fd ["first", "last"] [])(jg:Own P w K mg base 1 "makes_one" ["a", "b"] (spT 2 false false mL))(yc:Own P w K mg base 1 "turn_to" ["one", "other"] (spT 2 false false tz)) :
  Own P w K mg base 2 "next_least" ["first", "last"] (spT 2 false false aL):=by
 refine xw F zL m b rfl (λ_ _ _ _ _ _ hr=>⟨_,_,
  (xc (zU (pv 0) (yl K (n:=2) rfl (xo (yy 2 zL.nd) (xo (yy 3 zL.nd) yj))))
  (xc (zU (xn jg hr (xY (pv 2) (pv 3))) (yl K (n:=2) rfl (xo (yy 4 zL.nd) (xo (yy 5 zL.nd) yj))))
  (xc (yN 6 zL.nd (xE zI (xn yc hr (xY (yf (xY (uC zg (pv 5)) (pv 4))) (pv 1))) (xn yc hr (xY (pv 0) (pv 1)))))
  (xi (xF (yf (xY (xE zS (uC zg (pv 5)) (xE xK (pv 6) (pv 2))) (xE zS (pv 4) (xE xK (pv 6) (pv 3)))))))))),
  (xj (ze xa (ym (xm xh (xm xh x_))).g)
  (xj (ze (xq (xu xa xa)) (ym (xm xh (xm xh x_))).g)
  (xj (xU (xl uy (xq (xu (yh (b:=true) (xu (zh xa) xa)) xa)) (xq (xu xa xa))))
  (xA (yh (b:=true) (xu (xl zZ (zh xa) (xl yg xa xa)) (xl zZ xa (xl yg xa xa)))))))),λts KK hl h=>?_⟩)
 obtain⟨⟨a,b'⟩,⟨c,d⟩,rfl,hf,hl2,g,hp,k⟩:=h;have bf:=xak (by decide) hf;have bl:=xak (by decide) hl2;refine⟨rfl,a,b',rfl,hf,g,λp q e bp bq=>?_⟩;refine⟨rfl,?_⟩;have D:=xdc hf hl2;have bD:Bd (cr (a,b') (c,d)):=wO (by omega);refine⟨_,_,_,_,[],[],rfl,⟨⟨bq.neg.bd,bp.bd⟩,bl.1,bl.2⟩,a,b',c,d,[],[],rfl,⟨⟨bf.1,bf.2⟩,bl.1,bl.2⟩,⟨Int.ne_of_gt hp,bD⟩,?_⟩;have e0:-q*d-p*c=cr (-q,p) (c,d):=rfl;have e1:a*d-b'*c=cr (a,b') (c,d):=rfl;rw[e0,e1];have dpos:0<=cr (a,b') (c,d):=xko hp;have bt:Bk 1800 (cr (-q,p) (c,d)):=by
  have c6:Bk 20 c:=by unfold Bk;unfold Bx at hl2;simp only at hl2;omega
  have d6:Bk 20 d:=by unfold Bk;unfold Bx at hl2;simp only at hl2;omega
  exact((bq.neg.mul d6).sub (bp.mul c6)).mono (by decide)
 have nb:Bd ((cr (-q,p) (c,d)).fdiv (cr (a,b') (c,d))):=by have:=fO (a:=cr (-q,p) (c,d)) (b:=cr (a,b') (c,d)) (Int.ne_of_gt hp);unfold Bd;unfold Bk at bt;have:=Nat.pow_lt_pow_right (a:=2) (m:=1800) (n:=2000) (by decide) (by decide);exact xmh ‹_› (by generalize 2 ^ 1800=X at *;generalize 2 ^ 2000=Y at *;omega)
 refine⟨⟨nb,bf.1⟩,⟨nb,bf.2⟩,k (-q-(cr (-q,p) (c,d)).fdiv (cr (a,b') (c,d))*a,p-(cr (-q,p) (c,d)).fdiv (cr (a,b') (c,d))*b') ?_ ?_ ?_⟩
 all_goals
  have fe:=fmod_eq (cr (-q,p) (c,d)) (cr (a,b') (c,d));have f0:=xkj (cr (-q,p) (c,d)) hp;have f1:=Int.fmod_lt_of_pos (cr (-q,p) (c,d)) hp;generalize (cr (-q,p) (c,d)).fdiv (cr (a,b') (c,d))=m at *
 .unfold cr;simp only;grind
 .have:cr (-q-m*a,p-m*b') (c,d)=cr (-q,p) (c,d)-m*cr (a,b') (c,d):=by unfold cr;simp only;grind
  omega
 .have:cr (-q-m*a,p-m*b') (c,d)=cr (-q,p) (c,d)-m*cr (a,b') (c,d):=by unfold cr;simp only;grind
  omega
theorem aq (B:Blt mg bn)(F:Fun K "next_behind" "next_behind" qF f fd)(m:mg "next_behind" = some (.ref f))(b:Binds K fd ["before", "here", "last"] [])(yc:Own P w K mg base 1 "turn_to" ["one", "other"] (spT 2 false false tz)) :
  Own P w K mg base 2 "next_behind" ["before", "here", "last"] (spT 3 false false dj):=by
 refine xw F k8 m b rfl (λ_ _ _ _ _ _ hr=>⟨_,_,
  (xc (yN 3 k8.nd (uC zg (xE zI (uC zg (xn yc hr (xY (pv 0) (pv 2)))) (xn yc hr (xY (pv 1) (pv 2))))))
  (xi (xF (yf (xY (xE zS (xE xK (pv 3) (xH K 1)) (xH K 0)) (xE zS (xE xK (pv 3) (xH K 1)) (xH K 0))))))),
  (xj (xU (zh (xl uy (zh (xq (xu xa xa))) (xq (xu xa xa)))))
  (xA (yh (b:=true) (xu (xl zZ (xl yg xa xI) xI) (xl zZ (xl yg xa xI) xI))))),λts KK hl h=>?_⟩)
 obtain⟨⟨a,b'⟩,⟨c,d⟩,⟨e,f'⟩,rfl,⟨h1,h2,h3⟩,hp,k⟩:=h;have b1:=xak (by decide) h1;have b2:=xak (by decide) h2;have b3:=xak (by decide) h3;have D1:=xdc (n:=1000) h1 h3;have D2:=xdc (n:=1000) h2 h3;refine⟨a,b',e,f',[],[],rfl,⟨⟨b1.1,b1.2⟩,b3.1,b3.2⟩,c,d,e,f',[],[],rfl,⟨⟨b2.1,b2.2⟩,b3.1,b3.2⟩,⟨Int.ne_of_gt hp,cq (by show _<=cr (c,d) (e,f');omega) (by show cr (c,d) (e,f')<=_;omega)⟩,?_⟩;have mb:=fO (a:=-(cr (a,b') (e,f'))) (b:=cr (c,d) (e,f')) (Int.ne_of_gt hp);have bm:Bd (-((-(cr (a,b') (e,f'))).fdiv (cr (c,d) (e,f')))):=cq (by omega) (by omega);exact⟨⟨bm,b2.1⟩,⟨bm,b2.2⟩,k⟩
theorem bH (B:Blt mg bn)(F:Fun K "makes_one" "makes_one" jv f fd)(m:mg "makes_one" = some (.ref f))(b:Binds K fd ["a", "b"] [])  :
  Own P w K mg base 1 "makes_one" ["a", "b"] (spT 2 false false mL):=by
 refine xw F zD m b rfl (λ_ _ _ _ _ _ hr=>⟨_,_,
  (xc (xbv (i:=2) (j:=3) (k:=4) rfl zD.nd rfl rfl rfl (by decide) rfl rfl rfl (yd (pv 0) (xY xk xk)) (by rfl))
  (xc (xbv (i:=5) (j:=6) (k:=7) rfl zD.nd rfl rfl rfl (by decide) rfl rfl rfl (yd (pv 1) (xY xk xk)) (by rfl))
  (xc (fW PassesOwn.never (xR (zV hr.units) (pv 5) xk (xX _)) (xc (yN 8 zD.nd (xE zI (pv 2) (pv 5)))
  (xc (jM (i:=2) (j:=5) rfl zD.nd rfl rfl (by decide) rfl rfl (xY (pv 5) (xE zS (pv 2) (xE xK (pv 8) (pv 5)))) (by rfl))
  (xc (jM (i:=3) (j:=6) rfl zD.nd rfl rfl (by decide) rfl rfl (xY (pv 6) (xE zS (pv 3) (xE xK (pv 8) (pv 6)))) (by rfl))
  (xi (jM (i:=4) (j:=7) rfl zD.nd rfl rfl (by decide) rfl rfl (xY (pv 7) (xE zS (pv 4) (xE xK (pv 8) (pv 7)))) (by rfl)))))))
  (xi (xF (yf (xY (xE xK (pv 2) (pv 3)) (xE xK (pv 2) (pv 4))))))))),
  (xj (pY (yb xa (xu xt xt)))
  (xj (pY (yb xa (xu xt xt)))
  (xj (j1 (xG (xl vq xa xt)) (xj (xU (xl uy xa xa))
  (xj (qm (xu xa (xl zZ xa (xl yg xa xa))))
  (xj (qm (xu xa (xl zZ xa (xl yg xa xa))))
  (qm (xu xa (xl zZ xa (xl yg xa xa))))))))
  (xA (yh (b:=true) (xu (xl yg xa xa) (xl yg xa xa))))))),λts KK hl h=>?_⟩)
 obtain⟨a,b',rfl,hb,hg,k⟩:=h;refine j8 (λn τ=>∃(x p q y r s:Int) (z:TV),τ=[.fz (.int a),.fz (.int b'),.fz (.int x),.fz (.int p),.fz (.int q),.fz (.int y),.fz (.int r),.fz (.int s),z]/\n=y.natAbs/\(x.natAbs<=200/\y.natAbs<=200) /\
  (x=a*p+b'*q/\y=a*r+b'*s)/\Int.gcd x y=1/\(p.natAbs<=2 ^ (8*(200-n))/\q.natAbs<=2 ^ (8*(200-n))/\r.natAbs<=2 ^ (8*(200-n))/\s.natAbs<=2 ^ (8*(200-n)))) b'.natAbs ?_ ?_
 .have:=Nat.one_le_two_pow (n:=8*(200-b'.natAbs));exact⟨a,1,0,b',0,1,_,rfl,rfl,⟨by omega,by omega⟩,⟨by omega,by omega⟩,hg,this,by omega,by omega,this⟩
 .rintro n τ N ⟨x,p,q,y,r,s',z,rfl,rfl,⟨x2,y2⟩,⟨e1,e2⟩,g,p1,q1,r1,s1⟩ hN;have bk:∀ {i:Int},i.natAbs<=2 ^ (8*(200-y.natAbs))->Bk 1650 i:=λh=>xmh h (Nat.pow_lt_pow_right (by decide) (by omega));refine ya (b := !decide (y=0)) (λc0=>?_) (λc0=>?_)
  .have c0:y≠0:=by simpa using c0
   have fm:=oC (a:=x) c0;have fd':=fO (a:=x) c0;have mb:Bd (x.fdiv y):=wO (by omega);refine⟨⟨c0,wO (by omega)⟩,⟨mb,wO (by omega)⟩,⟨mb,(bk r1).bd⟩,⟨mb,(bk s1).bd⟩,?_⟩;have ey:=fmod_eq x y;have pw:2 ^ (8*(200-y.natAbs))*256<=2 ^ (8*(200-(x.fmod y).natAbs)):=by rw[show(256:Nat)=2 ^ 8 from rfl,<-Nat.pow_add];exact Nat.pow_le_pow_right (by decide) (by omega)
   have big:∀ {i j:Int},i.natAbs<=2 ^ (8*(200-y.natAbs))->j.natAbs<=2 ^ (8*(200-y.natAbs))->(i-x.fdiv y*j).natAbs<=2 ^ (8*(200-(x.fmod y).natAbs)):=λ {i j} h1 h2=>by have m1:(x.fdiv y*j).natAbs=(x.fdiv y).natAbs*j.natAbs:=xkJ _ _;have m2:(x.fdiv y).natAbs*j.natAbs<=201*2 ^ (8*(200-y.natAbs)):=xmn (by omega) h2;have:=Int.natAbs_sub_le i (x.fdiv y*j);omega
   have le:∀ {i:Int},i.natAbs<=2 ^ (8*(200-y.natAbs))->i.natAbs<=2 ^ (8*(200-(x.fmod y).natAbs)):=λh=>xmf h (by omega);refine hN (x.fmod y).natAbs _ fm ⟨y,r,s',x-x.fdiv y*y,p-x.fdiv y*r,q-x.fdiv y*s',_,rfl,by rw[ey],⟨y2,by rw[ey];omega⟩,⟨e2,?_⟩,?_,le r1,le s1,big p1 r1,big q1 s1⟩
   .generalize x.fdiv y=m;rw[e1,e2];grind
   .rw[ey,xdy];exact g
  .have c0:y=0:=by simpa using c0
   have gx:x.natAbs=1:=by rw[c0,Int.gcd_zero_right] at g;exact g
   have xx:x*x=1:=by rcases(show x=1\/x = -1 by omega) with rfl | rfl<;>rfl
   refine⟨⟨wO (by omega),(bk p1).bd⟩,⟨wO (by omega),(bk q1).bd⟩,k _ _ ?_ ?_ ?_⟩
   .rw[show a*(x*p)+b'*(x*q)=x*(a*p+b'*q) by grind,<-e1,xx]
   .have:(x*p).natAbs=p.natAbs:=by rw[xkJ,gx,Nat.one_mul]
    exact((bk p1).le (by omega)).mono (by decide)
   .have:(x*q).natAbs=q.natAbs:=by rw[xkJ,gx,Nat.one_mul]
    exact((bk q1).le (by omega)).mono (by decide)
end
end K20
namespace K20
open PySem L2 Trn
section
variable {P:Program} {w:World} {K:PySem.W.Frag} {mg:Str->Option Value} {base:Heap} {f:Addr} {fd:FuncData}
theorem xcm (B:Blt mg bn)(F:Fun K "sum_of" "sum_of" fR f fd)(m:mg "sum_of" = some (.ref f))(b:Binds K fd ["rows", "weights"] [])(jo:Own P w K mg base 2 "whole_sum" ["rows", "weights"] (spT 2 false false bh))(yY:Own P w K mg base 2 "lowest" ["top", "bottom"] (spT 2 false false xgf)) :
  Own P w K mg base 3 "sum_of" ["rows", "weights"] (spT 2 false false xer):=by
 refine xw F dP m b rfl (λ_ _ _ _ _ _ hr=>⟨_,_,
  (xc (zU (xn jo hr (xY (pv 0) (pv 1))) (yl K (n:=2) rfl (xo (yy 2 dP.nd) (xo (xT (i:=3) dP.nd rfl (Or.inr rfl)) yj))))
  (xi (xF (u9 (vb K) rfl (B.get "tuple") vB (yM (zz (ye (N:=["top", "bottom"]) (tau:=[none,some 3]) (XN:=["rows", "weights", "tops", "bottom"]) (xs:=xf fR) (by decide +kernel) rfl rfl) rfl (zF rfl) (yB K (pv 2)) (λ_ _ _ _=>(xT (i:=0) (show(["top", "bottom"]:List Str).Nodup by decide +kernel) rfl (Or.inl rfl))) (λ_ _ _ _=>zq) (λ_ _ _ _=>(xn yY hr (xY (pv 0) (pv 1)))))))))),
  (xj (ze (xq (xu xa xa)) (ym (xm xh (xm xh x_))).g)
  (xA (tN (xN (OkF.e (yk (yi xa).c xh yU (xq (xu xa xa)))))))),λts KK hl h=>?_⟩)
 obtain⟨rows,ws,rfl,H0,k⟩:=h;refine⟨rows,ws,rfl,H0,λa b' c D ha hb hc hD=>?_⟩;refine⟨rfl,sqz (by show 3<=1000000;decide),?_⟩;have hz:∀x∈rows.zip ws,0<x.2.2:=λx hx=>(H0.zip hx).2.pos;have nz:D≠0:=by have:=ha.pd;omega
 refine⟨_,_,rfl,nz,hD,_,_,rfl,nz,hD,_,_,rfl,nz,hD,?_⟩;have e:∀ {k:Pol.R3->Int} {n:Int},Sd (wsum k (rows.zip ws)) n D->frT (bV n D) (aM n D)=fT (wsum k (rows.zip ws)):=λ {k n} h=>by rw[oK h.pd,h.low (fP k _ hz)]
 rw[e ha,e hb,e hc];exact k
theorem bR (B:Blt mg bn)(F:Fun K "whole_sum" "whole_sum" u_ f fd)(m:mg "whole_sum" = some (.ref f))(b:Binds K fd ["rows", "weights"] [])(xQ:Own P w K mg base 1 "greatest_divisor" ["one", "other"] (spT 2 false false xe5)) :
  Own P w K mg base 2 "whole_sum" ["rows", "weights"] (spT 2 false false bh):=by
 refine xw F yH m b rfl (λ_ _ _ _ _ _ hr=>⟨_,_,
  (xc (zQ (i:=2) yH.nd rfl (Or.inl rfl) (ye (N:=["row", "weight"]) (tau:=[none,none]) (XN:=["rows", "weights", "used", "bottom", "row", "weight", "tops", "many"]) (xs:=xf u_) (by decide +kernel) rfl rfl) rfl (zG (yt rfl (yt rfl u5))) (cY K rfl (B.get "zip") (xY (pv 0) (pv 1))) (λ_ _ _ _=>(yl K (n:=2) rfl (xo (xT (i:=0) (show(["row", "weight"]:List Str).Nodup by decide +kernel) rfl (Or.inl rfl)) (xo (xT (i:=1) (show(["row", "weight"]:List Str).Nodup by decide +kernel) rfl (Or.inl rfl)) yj)))) (λ_ _ _ _=>(vL (xR (zV hr.units) (xH K 1) xk (xX _)))) (λ_ _ _ _=>(yf (xY (pv 0) (pv 1)))))
  (xc (yN 3 yH.nd xk)
  (xc (zR PassesOwn.never rfl (yB K (pv 2)) (yl K (n:=2) rfl (xo (yy 4 yH.nd) (xo (yy 5 yH.nd) yj))) (xi (yN 3 yH.nd (xE xK (xE zI (pv 3) (xn xQ hr (xY (pv 3) (xH K 5)))) (xH K 5)))))
  (xc (yN 6 yH.nd (zi (yd xk (xY xk xk))))
  (xc (zR PassesOwn.never rfl (yB K (pv 2)) (yl K (n:=2) rfl (xo (yy 4 yH.nd) (xo (yy 5 yH.nd) yj))) (xc (fv (i:=7) yH.nd rfl (Or.inr rfl) (xE xK (xE zI (pv 3) (xH K 5)) (xH K 5)))
  (xi (zQ (i:=6) yH.nd rfl (Or.inl rfl) (ye (N:=["top", "number", "many"]) (tau:=[none,none,some 7]) (XN:=["rows", "weights", "used", "bottom", "row", "weight", "tops", "many"]) (xs:=xf u_) (by decide +kernel) rfl rfl) rfl (zG (yt rfl (yt rfl u5))) (cY K rfl (B.get "zip") (xY (pv 6) (pv 4))) (λ_ _ _ _=>(yl K (n:=2) rfl (xo (xT (i:=0) (show(["top", "number", "many"]:List Str).Nodup by decide +kernel) rfl (Or.inl rfl)) (xo (xT (i:=1) (show(["top", "number", "many"]:List Str).Nodup by decide +kernel) rfl (Or.inl rfl)) yj)))) (λ_ _ _ _=>zq) (λ_ _ _ _=>(xE zY (pv 0) (xE xK (pv 2) (pv 1))))))))
  (xi (xF (yf (xY (pv 6) (pv 3)))))))))),
  (xj (xU (OkF.e (yk (tV (xu xa xa)).c (ym (xm xh (xm xh x_))) (xG (xl vq xI xt)) (yh (b:=true) (xu xa xa)))))
  (xj (xU xt)
  (xj (yX (yi xa) (ym (xm xh (xm xh x_))).g (xU (xl yg (xl uy xa (xq (xu xa xI))) xI)))
  (xj (xU (uK (b:=true) (yb xt (xu xt xt))))
  (xj (yX (yi xa) (ym (xm xh (xm xh x_))).g (xj (xU (xl yg (xl uy xa xI) xI))
  (xU (OkF.e (yk (tV (xu xa xa)).c (ym (xm xh (xm xh x_))) yU (xl uJ xa (xl yg xa xa)))))))
  (xA (yh (b:=true) (xu xa xa)))))))),λts KK hl h=>?_⟩)
 obtain⟨rows,ws,rfl,H0,k⟩:=h;have hl8:=H0.l100;have hlen:=H0.len;have zl:(rows.zip ws).length=rows.length:=by rw[List.length_zip];omega
 have hz:=λx hx=>H0.zip (x:=x) hx;have hu:∀x∈(rows.zip ws).filter aD,B3k 10 x.1/\Wt x.2:=λx hx=>hz x (xlL.mp hx).1;have ul:((rows.zip ws).filter aD).length<=8:=by have:=xlp aD (rows.zip ws);omega
 refine xO (λ τ=>τ=[.fz (.tup (rows.map trR)),.fz (.tup (ws.map fT)),.fz (.lst (((rows.zip ws).filter aD).map rwT)),.un,.un,.un,.un,.un]) ?_ (λN hN=>?_)
 rotate_left
 .show(xaq (rows.map trR) (ws.map fT)).length<sizeLine/\_;rw[oW];refine⟨by rw[xlq];exact sqz (by omega),yR aD rwT (λx hx N M h1 h0=>?_) (hN _ rfl)⟩;exact⟨rfl,ya (b := !decide (x.2.1=0)) h1 h0⟩
 rintro _ rfl;rw[<-sG k0 _ λx hx=>(hz x hx).2,<-sG k1 _ λx hx=>(hz x hx).2,<-sG k2 _ λx hx=>(hz x hx).2] at k;generalize (rows.zip ws).filter aD=U at hu ul k;refine xO (λ τ=>τ=[.fz (.tup (rows.map trR)),.fz (.tup (ws.map fT)),.fz (.lst (U.map rwT)),.fz (.int 1),.un,.un,.un,.un]) ?_ (λN hN=>hN _ rfl);rintro _ rfl;refine xO (λ τ=>∃(D:Int) (x4 x5:TV),(0<D/\Bk 330 D/\∀x∈U,x.2.2 ∣ D)/\τ=[.fz (.tup (rows.map trR)),.fz (.tup (ws.map fT)),.fz (.lst (U.map rwT)),.fz (.int D),x4,x5,.un,.un]) ?_ (λN hN=>?_)
 rotate_left
 .refine uO (U.map rwT) (λi τ=>∃(D:Int) (x4 x5:TV),(0<D/\Bk (1+40*i) D/\∀x∈U.take i,x.2.2 ∣ D)/\τ=[.fz (.tup (rows.map trR)),.fz (.tup (ws.map fT)),.fz (.lst (U.map rwT)),.fz (.int D),x4,x5,.un,.un]) (λKK h=>h) ⟨1,_,_,⟨by decide,by unfold Bk;decide,λx hx=>by simp at hx⟩,rfl⟩ ?_ (λ τ h=>?_)
  rotate_left
  .obtain⟨D,x4,x5,⟨d1,d2,d3⟩,rfl⟩:=h;rw[xlq] at d2 d3;rw[xl8] at d3;exact hN _ ⟨D,_,_,⟨d1,d2.mono (by omega),d3⟩,rfl⟩
  rintro i x τ N2 hx ⟨D,x4,x5,⟨d1,d2,d3⟩,rfl⟩ hN2;obtain⟨y,hy,rfl⟩:=zX hx;have il:i<U.length:=(xle.mp hy).1;obtain⟨hr,hw⟩:=hu y (xlQ hy);have bD:Bk 330 D:=d2.mono (by omega);obtain⟨s1,s2,s3,s4⟩:=xdS d1 hw.pos;have g0:(0:Int)<(Int.gcd D y.2.2:Nat):=by have:=xkn D (show y.2.2≠0 by have:=hw.pos;omega);omega
  have bg:Bd (Int.gcd D y.2.2:Nat):=by have:=Int.gcd_le_natAbs_left y.2.2 (show D≠0 by omega);exact(bD.le (by omega)).bd
  have bq:Bk 330 (D.fdiv (Int.gcd D y.2.2:Nat)):=by rw[zK (by omega)];exact bD.le (Int.natAbs_ediv_le_natAbs _ _)
  refine⟨rfl,D,y.2.2,rfl,⟨by omega,bg⟩,⟨bq.bd,hw.sm.bot.bd⟩,?_⟩;have e:D.fdiv (Int.gcd D y.2.2:Nat)*y.2.2=D / (Int.gcd D y.2.2:Nat)*y.2.2:=by rw[zK (by omega)]
  refine hN2 _ ⟨D / (Int.gcd D y.2.2:Nat)*y.2.2,.fz (trR y.1),.fz (fT y.2),⟨s1,?_,λz hz'=>?_⟩,by rw[<-e];rfl⟩
  .exact((d2.mul hw.sm.bot).le s4).mono (by omega)
  .rw[xl_,hy] at hz';rcases xlF.mp hz' with h | h
   .exact xkd (d3 z h) s2
   .simp at h;rw[h];exact s3
 rintro _ ⟨D,x4,x5,⟨d1,d2,d3⟩,rfl⟩;refine xO (λ τ=>τ=[.fz (.tup (rows.map trR)),.fz (.tup (ws.map fT)),.fz (.lst (U.map rwT)),.fz (.int D),x4,x5,.fz (.lst [.int 0,.int 0,.int 0]),.un]) ?_ (λN hN=>hN _ rfl);rintro _ rfl;refine xO (λ τ=>∃(a b c:Int) (x4 x5 x7:TV),(Sd (wsum k0 U) a D/\Sd (wsum k1 U) b D/\Sd (wsum k2 U) c D)/\τ=[.fz (.tup (rows.map trR)),.fz (.tup (ws.map fT)),.fz (.lst (U.map rwT)),.fz (.int D),x4,x5,.fz (.lst [.int a,.int b,.int c]),x7]) ?_ (λN hN=>?_)
 .rintro _ ⟨a,b',c,x4,x5,x7,⟨h1,h2,h3⟩,rfl⟩;exact k a b' c D h1 h2 h3 d2.bd
 have z0:∀k:Pol.R3->Int,Sd (wsum k []) 0 D:=λk=>⟨by show(0:Int)<1;decide,d1,by show(0:Int)*D=0*1;omega⟩
 refine uO (U.map rwT) (λi τ=>∃(a b c:Int) (x4 x5 x7:TV),(Sd (wsum k0 (U.take i)) a D/\Sd (wsum k1 (U.take i)) b D/\Sd (wsum k2 (U.take i)) c D)/\τ=[.fz (.tup (rows.map trR)),.fz (.tup (ws.map fT)),.fz (.lst (U.map rwT)),.fz (.int D),x4,x5,.fz (.lst [.int a,.int b,.int c]),x7]) (λKK h=>h) ⟨0,0,0,_,_,_,⟨z0 _,z0 _,z0 _⟩,rfl⟩ ?_ (λ τ h=>?_)
 rotate_left
 .obtain⟨a,b',c,x4,x5,x7,hs,rfl⟩:=h;rw[xlq,xl8] at hs;exact hN _ ⟨a,b',c,_,_,_,hs,rfl⟩
 rintro i x τ N2 hx ⟨a,b',c,x4,x5,x7,⟨h1,h2,h3⟩,rfl⟩ hN2;obtain⟨y,hy,rfl⟩:=zX hx;obtain⟨hr,hw⟩:=hu y (xlQ hy);have dv:=d3 y (xlQ hy);have qe:y.2.2*D.fdiv y.2.2=D:=by rw[zK (xko hw.pos)];exact xkx dv
 have bq:Bk 330 (D.fdiv y.2.2):=by rw[zK (xko hw.pos)];exact d2.le (Int.natAbs_ediv_le_natAbs _ _)
 have bm:=bq.mul hw.sm.top;have tk1:U.take (i+1)=U.take i++[y]:=by rw[xl_,hy];rfl
 refine⟨rfl,⟨by have:=hw.pos;show y.2.2≠0;omega,hw.sm.bot.bd⟩,⟨bq.bd,hw.sm.top.bd⟩,sqz (by show 3<=1000000;decide),?_⟩;refine⟨rfl,⟨bm.bd,hr.1.1.bd⟩,rfl,⟨bm.bd,hr.1.2.bd⟩,rfl,⟨bm.bd,hr.2.bd⟩,?_⟩;refine hN2 _ ⟨_,_,_,_,_,_,⟨?_,?_,?_⟩,rfl⟩
 .rw[tk1,wsum_snoc];exact h1.plusD (xb2 hw.pos d1 qe)
 .rw[tk1,wsum_snoc];exact h2.plusD (xb2 hw.pos d1 qe)
 .rw[tk1,wsum_snoc];exact h3.plusD (xb2 hw.pos d1 qe)
theorem xbU (B:Blt mg bn)(F:Fun K "cut_of" "cut_of" tZ f fd)(m:mg "cut_of" = some (.ref f))(b:Binds K fd ["totals"] [])  :
  Own P w K mg base 1 "cut_of" ["totals"] (spT 1 false false xeh):=by
 refine xw F j_ m b rfl (λ_ _ _ _ _ _ hr=>⟨_,_,
  (xc (zU (pv 0) (yl K (n:=3) rfl (xo (yy 1 j_.nd) (xo (yy 2 j_.nd) (xo (yy 3 j_.nd) yj)))))
  (xc (yV (PW.pt (jh (xR (zV hr.units) (xH K 1) xk (xX _)) (jh (xR (zV hr.units) (xH K 2) xk (xX _)) (qM (PW.pt (sj (xR (v8 hr.units) (xH K 1) xk (xX _)) (js (xR (v8 hr.units) (xH K 2) xk (xX _))))))))) (xi f_) xZ)
  (xi (xF (yf (yd (xH K 1) (xY (xH K 2) (xE zI (xH K 3) (xH K 3))))))))),
  (xj (ze xa (ym (xm xh (xm xh (xm xh x_)))).g)
  (xj (yu (uZ (xG (xl vq xI xt)) (uZ (xG (xl vq xI xt)) (jr (xG (xl os_eq xI xt)) (xG (xl os_eq xI xt))))) jQ xM)
  (xA (yh (b:=true) (yb xI (xu xI (xl uy xI xI))))))),λts KK hl h=>?_⟩)
 obtain⟨a,b',c,rfl,hc,⟨h1,h2,h3⟩,k⟩:=h;refine⟨rfl,?_⟩;have cn:c.2≠0:=by omega
 refine ya (b := !decide (a.2=1)) (λz=>?_) (λ_=>?_)
 .simp[h1] at z
 refine ya (b := !decide (b'.2=1)) (λz=>?_) (λ_=>?_)
 .simp[h2] at z
 refine ya (b:=decide (a.1=0)) (λz=>?_) (λ_=>?_)
 .have z:=xmB z;refine ya (b:=decide (b'.1=0)) (λz2=>?_) (λ_=>?_)
  .exact absurd ⟨z,xmB z2⟩ h3
  .exact⟨⟨cn,hc.2⟩,k⟩
 .exact⟨⟨cn,hc.2⟩,k⟩
end
end K20
namespace K20
open PySem L2 Trn
section
variable {P:Program} {w:World} {K:PySem.W.Frag} {mg:Str->Option Value} {base:Heap} {f:Addr} {fd:FuncData}
theorem cV (B:Blt mg bn)(F:Fun K "sides_at" "sides_at" gF f fd)(m:mg "sides_at" = some (.ref f))(b:Binds K fd ["field", "place"] [])(qB:Own P w K mg base 3 "sides_among" ["rows", "numbers"] (spT 2 false true se))(vo:Own P w K mg base 6 "tight_numbers" ["rows", "place"] (spT 2 false false rp)) :
  Own P w K mg base 7 "sides_at" ["field", "place"] (spT 2 false false oN):=by
 refine xw F cz m b rfl (λ_ _ _ _ _ _ hr=>⟨_,_,
  (xi (xF (xn qB hr (xY (pv 0) (xn vo hr (xY (pv 0) (pv 1))))))),
  (xA (xq (xu xa (xq (xu xa xa))))),λts KK hl h=>?_⟩)
 obtain⟨rows,p,rfl,hf,hp,k⟩:=h;have l8:=(hW hf).1.2;have:=tS (rows:=rows) (p:=p);exact⟨rows,p,rfl,by omega,hW.b200 hf,hp,rows,hU rows p,rfl,hf,λm hm=>cC hm,by omega,k⟩
theorem ay (B:Blt mg bn)(F:Fun K "sides_among" "sides_among" qw f fd)(m:mg "sides_among" = some (.ref f))(b:Binds K fd ["rows", "numbers"] [])(wZ:Own P w K mg base 2 "next_to_the_left" ["rows", "numbers", "number"] (spT 3 false false bF)) :
  Own P w K mg base 3 "sides_among" ["rows", "numbers"] (spT 2 false true se):=by
 refine xw F uq m b rfl (λ_ _ _ _ _ _ hr=>⟨_,_,
  (xc (yN 2 uq.nd (zi wH))
  (xc (zR PassesOwn.never rfl (yB K (pv 1)) (yy 3 uq.nd) (xc (yN 4 uq.nd (xn wZ hr (yd (pv 0) (xY (pv 1) (pv 3)))))
  (xi (yV (ja (rD (pv 4))) (xi (wW (sP PySem.F.plainAttrs_list PySem.F.slot_list_append PySem.F.type_list_append wd (pv 2) (yM (yf (xY (pv 3) (pv 4))))))) xZ))))
  (xi (xF (pv 2))))),
  (xj (we (kE zW))
  (xj (yX (yi xa) xh.g (xj (xU (xq (yb xa (xu xa xa))))
  (yu (za (rC xa)) (vV (yh (b:=true) (xu xa xa))) xM)))
  jL)),λts KK hl h=>?_⟩)
 obtain⟨rows,nums,rfl,hf,hm,hl',k⟩:=h;refine zt (all:=nums.map fg) (λi τ=>∃x3 x4,τ=[.fz (.tup (rows.map trR)),.fz (.tup (nums.map fg)),.ow (((nums.take i).filterMap λn=>(m9 rows nums n).map λm=>(n,m)).map jT),x3,x4]) ⟨_,_,rfl⟩ ?_ ?_
 .rintro i x τ N hxi ⟨x3,x4,rfl⟩ hN;obtain⟨n,hyi,rfl⟩:=zX hxi;have hn:=hm n (xlQ hyi);rw[pH (rows:=rows) hyi] at hN;refine⟨rows,nums,n,rfl,hf,hm,hn,?_⟩;cases q:m9 rows nums n with
  | none =>rw[q] at hN;exact hN _ ⟨_,_,by rw[show(Option.map (λm=>(n,m)) none).toList=([]:List (Nat×Nat)) from rfl,xkX];rfl⟩
  | some m =>rw[q] at hN;refine⟨by rw[xlq];exact sqz (xmf (List.length_filterMap_le _ _) (by rw[xly];omega)),hN _ ⟨_,_,by rw[xlA];rfl⟩⟩
 .rintro τ ⟨x3,x4,rfl⟩;rw[xlq,xl9 (xmd _)];exact k
theorem jw (B:Blt mg bn)(F:Fun K "next_to_the_left" "next_to_the_left" w4 f fd)(m:mg "next_to_the_left" = some (.ref f))(b:Binds K fd ["rows", "numbers", "number"] [])(yc:Own P w K mg base 1 "turn_to" ["one", "other"] (spT 2 false false tz)) :
  Own P w K mg base 2 "next_to_the_left" ["rows", "numbers", "number"] (spT 3 false false bF):=by
 refine xw F zm m b rfl (λ_ _ _ _ _ _ hr=>⟨_,_,
  (xc (yN 3 zm.nd rh)
  (xc (zR PassesOwn.never rfl (yB K (pv 1)) (yy 4 zm.nd) (xi (yV (xR lA (xn yc hr (xY (zd (yp K) (pv 0) (pv 2) (λ_ _=>rfl)) (zd (yp K) (pv 0) (pv 4) (λ_ _=>rfl)))) xk (xX _)) (xi (yV (PW.pt (jh (ja (a_ (pv 3))) (qM (xR lA (xn yc hr (xY (zd (yp K) (pv 0) (pv 4) (λ_ _=>rfl)) (zd (yp K) (pv 0) (pv 3) (λ_ _=>rfl)))) xk (xX _))))) (xi (yN 3 zm.nd (pv 4))) xZ)) xZ)))
  (xi (xF (pv 3))))),
  (xj (xU (xdp (t:=Tr.non)))
  (xj (yX (yi xa) xh.g (yu (xG (xl xae (xq (xu (uc xa xa) (uc xa xa))) xt)) (yu (uZ (za (rm xa)) (xG (xl xae (xq (xu (uc xa xa) (uc xa xa))) xt))) (xU xa) xM) xM))
  (xA xa))),λts KK hl h=>?_⟩)
 obtain⟨rows,nums,n,rfl,hf,hm,hn,k⟩:=h;refine zt (all:=nums.map fg) (λi τ=>∃x4,τ=[.fz (.tup (rows.map trR)),.fz (.tup (nums.map fg)),.fz (fg n),.fz (optN ((nums.take i).foldl (zA rows n) none)),x4]/\∀y,(nums.take i).foldl (zA rows n) none=some y->y<rows.length) ⟨_,rfl,λy hy=>by cases hy⟩ ?_ ?_
 .rintro i x τ N hxi ⟨x4,rfl,hb⟩ hN;obtain⟨o,hyi,rfl⟩:=zX hxi;have ho:=hm o (xlQ hyi);have fold:=Pol.kK (zA rows n) none hyi;generalize hacc:(nums.take i).foldl (zA rows n) none=acc at fold hb ⊢;have leaf:∀oo:Option Nat,oo=zA rows n acc o->N [.fz (.tup (rows.map trR)),.fz (.tup (nums.map fg)),.fz (fg n),.fz (optN oo),.fz (fg o)]:=λoo e=>by
   rw[fold] at hN;refine hN _ ⟨_,by rw[e],?_⟩
   .unfold zA;split
    .split
     .intro z hz;cases hz;exact ho
     .split
      .intro z hz;cases hz;exact ho
      .intro z hz;cases hz;exact hb _ rfl
    .exact hb
  show sS (atT (rows.map trR) (n:Int)) _;rw[ff hn];show sS (atT (rows.map trR) (o:Int)) _;rw[ff ho];refine⟨(yD rows n).1,(yD rows n).2.1,(yD rows o).1,(yD rows o).2.1,_,_,rfl,⟨hW.bd hf hn,hW.bd hf ho⟩,?_⟩;refine ya (b:=decide (0<cr (xC rows n) (xC rows o))) (λc=>?_) (λc=>?_)
  .have c:=xmB c;cases acc with
   | none=>exact leaf (some o) (by unfold zA;rw[if_pos c])
   | some z =>
    have hz:=hb z rfl;show sS (atT (rows.map trR) (o:Int)) _;rw[ff ho];show sS (atT (rows.map trR) (z:Int)) _;rw[ff hz];refine⟨(yD rows o).1,(yD rows o).2.1,(yD rows z).1,(yD rows z).2.1,_,_,rfl,⟨hW.bd hf ho,hW.bd hf hz⟩,?_⟩;refine ya (b:=decide (0<cr (xC rows o) (xC rows z))) (λd=>?_) (λd=>?_)
    .exact leaf (some o) (by unfold zA;rw[if_pos c];exact(if_pos (xmB d)).symm)
    .exact leaf (some z) (by unfold zA;rw[if_pos c];exact(if_neg (xmA d)).symm)
  .have c:=xmA c;exact leaf acc (by unfold zA;rw[if_neg c])
 .rintro τ ⟨x4,rfl,_⟩;rw[xlq,xl9 (xmd _)];exact k
theorem sV (B:Blt mg bn)(F:Fun K "direction_of" "direction_of" vH f fd)(m:mg "direction_of" = some (.ref f))(b:Binds K fd ["row"] [])  :
  Own P w K mg base 1 "direction_of" ["row"] (spT 1 false false xcq):=by
 refine xw F sT m b rfl (λ_ _ _ _ _ _ hr=>⟨_,_,
  (xi (xF (yf (xY (xH K 0) (xH K 0))))),
  (xA (yh (b:=true) (xu xI xI))),λts KK hl h=>?_⟩)
 obtain⟨a,b',x,rfl,k⟩:=h;exact k
theorem jR (B:Blt mg bn)(F:Fun K "weights_towards" "weights_towards" w_ f fd)(m:mg "weights_towards" = some (.ref f))(b:Binds K fd ["field", "pair", "direction"] [])(pB:Own P w K mg base 4 "parts" ["one", "other", "thing"] (spT 3 false false xel))(yQ:Own P w K mg base 1 "direction_of" ["row"] (spT 1 false false xcq)) :
  Own P w K mg base 5 "weights_towards" ["field", "pair", "direction"] (spT 3 false false xgN):=by
 refine xw F y8 m b rfl (λ_ _ _ _ _ _ hr=>⟨_,_,
  (xc (zU (pv 1) (yl K (n:=2) rfl (xo (yy 3 y8.nd) (xo (yy 4 y8.nd) yj))))
  (xc (yN 5 y8.nd (xn pB hr (yd (xn yQ hr (yM (zd (yp K) (pv 0) (pv 3) (λ_ _=>rfl)))) (xY (xn yQ hr (yM (zd (yp K) (pv 0) (pv 4) (λ_ _=>rfl)))) (pv 2)))))
  (xc (yV (ja (a_ (pv 5))) (xi (xF rh)) xZ)
  (xc (yN 6 y8.nd (xE xep (zi (yM (yf (xY xk xk)))) (xP (y4 K) rfl (B.get "len") vv (yM (pv 0)))))
  (xc (zU (pv 5) (yl K (n:=2) rfl (xo (nX (pv 6) (pv 3) set_list) (xo (nX (pv 6) (pv 4) set_list) yj))))
  (xi (xF (u9 (vb K) rfl (B.get "tuple") vB (yM (pv 6)))))))))),
  (xj (ze xa (ym (xm xh (xm xh x_))).g)
  (xj (xU (xq (yb (xq (xN (uc xa xa))) (xu (xq (xN (uc xa xa))) xa))))
  (xj (yu (za (rm xa)) (xA (xdp (t:=Tr.non))) xM)
  (xj (we (xbS (uK (b:=true) (xN (yh (b:=true) (xu xt xt)))) (yI qJ (xN xa))))
  (xj (ze xa (xfK (nL (cf xa) (nL (cf xa) xc9))))
  (xA xat)))))),λts KK hl h=>?_⟩)
 obtain⟨rows,x,rfl,hf,G,k⟩:=h;obtain⟨⟨i,j⟩,d⟩:=x;have i1:=G.i1;have i2:=G.i2;have l8:=(hW hf).1.2;have ml:(rows.map trR).length=rows.length:=xlq _;refine xO (λ τ=>τ=[.fz (.tup (rows.map trR)),.fz (jT (i,j)),.fz (drD d),.fz (.int (i:Nat)),.fz (.int (j:Nat)),.un,.un]) ?_ (λN hN=>⟨rfl,hN _ rfl⟩);rintro _ rfl;refine xO (λ τ=>τ=[.fz (.tup (rows.map trR)),.fz (jT (i,j)),.fz (drD d),.fz (.int (i:Nat)),.fz (.int (j:Nat)),.fz (.tup [fT (lfr (cr d (xC rows j)) (cr (xC rows i) (xC rows j))),fT (lfr (cr (xC rows i) d) (cr (xC rows i) (xC rows j)))]),.un]) ?_ (λN hN=>?_)
 rotate_left
 .show sS (atT (rows.map trR) (i:Int)) _;rw[ff i1];refine⟨(yD rows i).1,(yD rows i).2.1,_,rfl,?_⟩;show sS (atT (rows.map trR) (j:Int)) _;rw[ff i2];refine⟨(yD rows j).1,(yD rows j).2.1,_,rfl,?_⟩;have b1:=vh hf i1;have b2:=vh hf i2;refine⟨_,_,_,_,_,rfl,xhp (n:=30) (u:=xC rows i) (v:=xC rows j) (by decide) b1 b2,?_,?_,G.pos,?_⟩
  .exact xdB _ _
  .exact xgo (by decide) G.bx
  have e:fh (xC rows i).1 (xC rows i).2 (xC rows j).1 (xC rows j).2 (drD d)=_:=cU G.nz G.inc;have e1:=xbZ (n:=cr d (xC rows j)) G.pos;have e2:=xbZ (n:=cr (xC rows i) d) G.pos;refine hN _ ?_;show([.fz (.tup (rows.map trR)),.fz (jT (i,j)),.fz (drD d),.fz (.int (i:Nat)),.fz (.int (j:Nat)),.fz (fh (xC rows i).1 (xC rows i).2 (xC rows j).1 (xC rows j).2 (drD d)),.un]:TSt)=_;rw[e,e1,e2]
 rintro _ rfl;refine xO (λ τ=>τ=[.fz (.tup (rows.map trR)),.fz (jT (i,j)),.fz (drD d),.fz (.int (i:Nat)),.fz (.int (j:Nat)),.fz (.tup [fT (lfr (cr d (xC rows j)) (cr (xC rows i) (xC rows j))),fT (lfr (cr (xC rows i) d) (cr (xC rows i) (xC rows j)))]),.un]) ?_ (λN hN=>hN _ rfl);rintro _ rfl;refine xO (λ τ=>τ=[.fz (.tup (rows.map trR)),.fz (jT (i,j)),.fz (drD d),.fz (.int (i:Nat)),.fz (.int (j:Nat)),.fz (.tup [fT (lfr (cr d (xC rows j)) (cr (xC rows i) (xC rows j))),fT (lfr (cr (xC rows i) d) (cr (xC rows i) (xC rows j)))]),.ow ((List.replicate rows.length ((0:Int),(1:Int))).map fT)]) ?_ (λN hN=>⟨⟨by omega,by rw[ml];omega⟩,xcR (by simp;omega),hN _ (by show([.fz (.tup (rows.map trR)),.fz (jT (i,j)),.fz (drD d),.fz (.int (i:Nat)),.fz (.int (j:Nat)),.fz (.tup [fT (lfr (cr d (xC rows j)) (cr (xC rows i) (xC rows j))),fT (lfr (cr (xC rows i) d) (cr (xC rows i) (xC rows j)))]),.ow (List.replicate (rows.map trR).length [fT (0,1)]).flatten]:TSt)=_;rw[tU,xlE,ml])⟩)
 rintro _ rfl;refine xO (λ τ=>τ=[.fz (.tup (rows.map trR)),.fz (jT (i,j)),.fz (drD d),.fz (.int (i:Nat)),.fz (.int (j:Nat)),.fz (.tup [fT (lfr (cr d (xC rows j)) (cr (xC rows i) (xC rows j))),fT (lfr (cr (xC rows i) d) (cr (xC rows i) (xC rows j)))]),.ow ((tF rows ((i,j),d)).map fT)]) ?_ (λN hN=>?_)
 .rintro _ rfl;exact k
 refine⟨rfl,?_⟩;refine xaO ?_;refine t5 (f:=fT) (n:=i) (l:=List.replicate rows.length ((0:Int),(1:Int))) rfl (by rw[xlu];exact i1) (λ_ h=>h) ?_;refine xaO ?_;refine t5 (f:=fT) (n:=j) (l:=(List.replicate rows.length ((0:Int),(1:Int))).set i (lfr (cr d (xC rows j)) (cr (xC rows i) (xC rows j)))) rfl (by rw[xlw,xlu];exact i2) (λ_ h=>h) ?_;refine hN _ ?_;show _=([.fz (.tup (rows.map trR)),.fz (jT (i,j)),.fz (drD d),.fz (.int (i:Nat)),.fz (.int (j:Nat)),.fz (.tup [fT (lfr (cr d (xC rows j)) (cr (xC rows i) (xC rows j))),fT (lfr (cr (xC rows i) d) (cr (xC rows i) (xC rows j)))]),.ow ((wtw rows.length i j (cr d (xC rows j)) (cr (xC rows i) d) (cr (xC rows i) (xC rows j))).map fT)]:TSt)
 rw[xgn G.pos];rfl
theorem cS (B:Blt mg bn)(F:Fun K "paper_of" "paper_of" gI f fd)(m:mg "paper_of" = some (.ref f))(b:Binds K fd ["field", "weights"] [])(tE:Own P w K mg base 1 "cut_of" ["totals"] (spT 1 false false xeh))(mE:Own P w K mg base 3 "sum_of" ["rows", "weights"] (spT 2 false false xer)) :
  Own P w K mg base 4 "paper_of" ["field", "weights"] (spT 2 false false tj):=by
 refine xw F pq m b rfl (λ_ _ _ _ _ _ hr=>⟨_,_,
  (xi (xF (yf (xY (pv 1) (xn tE hr (yM (xn mE hr (xY (pv 0) (pv 1))))))))),
  (xA (yh (b:=true) (xu xa (xq (xN (xq (xu xa xa))))))),λts KK hl h=>?_⟩)
 obtain⟨rows,ws,rfl,H0,hc,k⟩:=h;have hb:=H0.bot;exact⟨rows,ws,rfl,H0,_,_,_,rfl,hb,hc,k⟩
theorem nH (B:Blt mg bn)(F:Fun K "papers_at" "papers_at" jf f fd)(m:mg "papers_at" = some (.ref f))(b:Binds K fd ["field", "place"] [])(gy:Own P w K mg base 7 "sides_at" ["field", "place"] (spT 2 false false oN))(sC:Own P w K mg base 3 "between" ["one", "other"] (spT 2 false true oX))(yQ:Own P w K mg base 1 "direction_of" ["row"] (spT 1 false false xcq))(uX:Own P w K mg base 4 "paper_of" ["field", "weights"] (spT 2 false false tj))(ug:Own P w K mg base 5 "weights_towards" ["field", "pair", "direction"] (spT 3 false false xgN)) :
  Own P w K mg base 8 "papers_at" ["field", "place"] (spT 2 false true gD):=by
 refine xw F wu m b rfl (λ_ _ _ _ _ _ hr=>⟨_,_,
  (xc (yN 2 wu.nd (zi wH))
  (xc (zR PassesOwn.never rfl (yB K (xn gy hr (xY (pv 0) (pv 1)))) (yy 3 wu.nd) (xc (zU (pv 3) (yl K (n:=2) rfl (xo (yy 4 wu.nd) (xo (yy 5 wu.nd) yj))))
  (xi (zR PassesOwn.never rfl (yB K (xn sC hr (xY (xn yQ hr (yM (zd (yp K) (pv 0) (pv 4) (λ_ _=>rfl)))) (xn yQ hr (yM (zd (yp K) (pv 0) (pv 5) (λ_ _=>rfl))))))) (yy 6 wu.nd) (xi (wW (sP PySem.F.plainAttrs_list PySem.F.slot_list_append PySem.F.type_list_append wd (pv 2) (yM (xn uX hr (xY (pv 0) (xn ug hr (yd (pv 0) (xY (pv 3) (pv 6))))))))))))))
  (xi (xF (pv 2))))),
  (xj (we (kE zW))
  (xj (yX (yi (xq (xu xa xa))) xh.g (xj (ze xa (ym (xm xh (xm xh x_))).g)
  (yX (yi (xq (xu (xq (xN (uc xa xa))) (xq (xN (uc xa xa)))))) xh.g (vV (xq (xu xa (xq (yb xa (xu xa xa)))))))))
  jL)),λts KK hl h=>?_⟩)
 obtain⟨rows,p,rfl,hf,hp,k⟩:=h;have l8:=(hW hf).1.2;have sl:(zJ rows (hU rows p)).length<=8:=xmf aR (xmf tS l8);have sm:∀ij∈zJ rows (hU rows p),ij.1<rows.length/\ij.2<rows.length/\0<cr (xC rows ij.1) (xC rows ij.2):=λij h=>⟨cC (ub h).1,cC (ub h).2.1,(ub h).2.2⟩
 refine⟨rows,p,rfl,hf,hp,?_⟩;generalize zJ rows (hU rows p)=S at k sl sm ⊢;refine zt (all:=S.map jT) (λi τ=>∃(L:List SX) (x3 x4 x5 x6:TV),xc5 rows (S.take i) L/\(∀x∈L,Bx 30 x.2)/\τ=[.fz (.tup (rows.map trR)),.fz (pT p),.ow (L.map (oP rows)),x3,x4,x5,x6]) ⟨[],_,_,_,_,⟨λx hx=>by simp at hx,λx hx=>by simp at hx,by simp⟩,(λx hx=>by cases hx),rfl⟩ ?_ ?_
 .rintro i x τ N hxi ⟨L,x3,x4,x5,x6,hL,b30,rfl⟩ hN;obtain⟨⟨a,b'⟩,hyi,rfl⟩:=zX hxi;obtain⟨i1,i2,hp'⟩:=sm _ (xlQ hyi);refine⟨rfl,?_⟩;show sS (atT (rows.map trR) (a:Int)) _;rw[ff i1];refine⟨(yD rows a).1,(yD rows a).2.1,_,rfl,?_⟩;show sS (atT (rows.map trR) (b':Int)) _;rw[ff i2];refine⟨(yD rows b').1,(yD rows b').2.1,_,rfl,?_⟩;refine⟨xC rows a,xC rows b',rfl,(vh hf i1).mono (by decide),(vh hf i2).mono (by decide),hp',λh B=>?_⟩;have tl:(S.take i).length<=8:=by rw[xly];omega
  have L1:=hL.len;refine zt (all:=h.map drD) (λj τ=>∃x6:TV,τ=[.fz (.tup (rows.map trR)),.fz (pT p),.ow ((L++(h.take j).map λd=>((a,b'),d)).map (oP rows)),.fz (jT (a,b')),.fz (.int (a:Nat)),.fz (.int (b':Nat)),x6]) ⟨x6,by rw[List.take_zero,xlD,xkX];rfl⟩ ?_ ?_
  .rintro j y τ N2 hyj ⟨x6,rfl⟩ hN2;obtain⟨d,hdj,rfl⟩:=zX hyj;have G:=tM i1 i2 hp' B (xlQ hdj);refine⟨rows,((a,b'),d),rfl,hf,G,rows,tF rows ((a,b'),d),rfl,hW.ws hf (G.gw hf),G.cut hf,?_⟩;have B1:=B.len;refine⟨by rw[xlq,xll,xlq,xly];exact sqz (by omega),hN2 _ ⟨.fz (drD d),?_⟩⟩;rw[xl_,hdj];simp only[xlA,Option.toList,xlB,xlD,<-xkW];rfl
  .rintro τ ⟨x6,rfl⟩;rw[xlq,xl9 (xmd _)];refine hN _ ⟨_,_,_,_,_,?_,λx hx=>?_,rfl⟩
   .rw[xl_,hyi];exact hL.snoc i1 i2 hp' B
   .rcases xlF.mp hx with hx | hx
    .exact b30 x hx
    .obtain⟨d,hd,rfl⟩:=xlO.mp hx;exact L2.aC.b30 hp' B (vh hf i1) (vh hf i2) d hd
 .rintro τ ⟨L,x3,x4,x5,x6,hL,b30,rfl⟩;rw[xlq,xl9 (xmd _)] at hL;exact k L hL b30
theorem ae (B:Blt mg bn)(F:Fun K "corner_paper" "corner_paper" uu f fd)(m:mg "corner_paper" = some (.ref f))(b:Binds K fd ["field", "number"] [])(wD:Own P w K mg base 10 "broken" ["field"] (spT 1 false true tW))(uU:Own P w K mg base 1 "is_whole" ["thing"] (spT 1 false false xbx))(um:Own P w K mg base 8 "papers_at" ["field", "place"] (spT 2 false true gD))(uH:Own P w K mg base 5 "keeps" ["row", "place"] (spT 2 false false nS)) :
  Own P w K mg base 11 "corner_paper" ["field", "number"] (spT 2 false false fi):=by
 refine xw F wX m b rfl (λ_ _ _ _ _ _ hr=>⟨_,_,
  (xc (yN 2 wX.nd (xn wD hr (yM (pv 0))))
  (xc (yV (PW.pt (jh (vf (w5 (xn uU hr (yM (pv 1))))) (qM (vf (o6 gZ (jP K hr.units) xk (pv 1) (xP (y4 K) rfl (B.get "len") vv (yM (pv 2)))))))) (xi f_) xZ)
  (xc (fv (i:=3) wX.nd rfl (Or.inr rfl) (zd (yp K) (pv 2) (pv 1) (λ_ _=>rfl)))
  (xc (zQ (i:=4) wX.nd rfl (Or.inl rfl) (ye (N:=["paper", "place"]) (tau:=[none,some 3]) (XN:=["field", "number", "places", "place", "against"]) (xs:=xf uu) (by decide +kernel) rfl rfl) rfl (zF rfl) (yB K (xn um hr (xY (pv 0) (pv 3)))) (λ_ _ _ _=>(xT (i:=0) (show(["paper", "place"]:List Str).Nodup by decide +kernel) rfl (Or.inl rfl))) (λ_ _ _ _=>(vL (vf (w5 (xn uH hr (xY (xH K 0) (pv 1))))))) (λ_ _ _ _=>(pv 0)))
  (xi (xF (xH K 4))))))),
  (xj (xU (xq (xN xa)))
  (xj (yu (uZ (wk (za (xq (xN xa)))) (wk (xG (oM h_ hG xt xa (yI qJ (xN xa)))))) jQ xM)
  (xj (xU (uc xa xa))
  (xj (xU (OkF.e (yk (yi (xq (xu xa xa))).c xh (wk (za (xq (xu xI xa)))) xa)))
  (xA xI))))),λts KK hl h=>?_⟩)
 obtain⟨rows,n,v,rfl,hf,FR,hv,k⟩:=h;have cl:=j2 FR;have fl:((yG rows).filter brk).length<=900:=xmf (xlp _ _) cl;have hn:n<((yG rows).filter brk).length:=(xle.mp hv).1;have ml:(((yG rows).filter brk).map yO).length=((yG rows).filter brk).length:=xlq _;obtain⟨mv,bv⟩:=xlL.mp (xlQ hv);refine xO (λ τ=>τ=[.fz (.tup (rows.map trR)),.fz (fg n),.fz (.lst (((yG rows).filter brk).map yO)),.un,.un]) ?_ (λN hN=>⟨rows,rfl,hf,FR,hN _ rfl⟩);rintro _ rfl;refine xO (λ τ=>τ=[.fz (.tup (rows.map trR)),.fz (fg n),.fz (.lst (((yG rows).filter brk).map yO)),.un,.un]) ?_ (λN hN=>?_)
 rotate_left
 .refine⟨_,rfl,?_⟩;have c2:decide ((n:Int)<((((yG rows).filter brk).map yO).length:Nat))=true:=xmx (by rw[ml];omega);exact ya (b := !decide ((n:Int)<((((yG rows).filter brk).map yO).length:Nat))) (λc=>by rw[c2] at c;cases c) (λ_=>hN _ rfl)
 rintro _ rfl;refine xO (λ τ=>τ=[.fz (.tup (rows.map trR)),.fz (fg n),.fz (.lst (((yG rows).filter brk).map yO)),.fz (yO v),.un]) ?_ (λN hN=>?_)
 rotate_left
 .show sS (atT (((yG rows).filter brk).map yO) (n:Int)) _;rw[dX,xlf,hv];exact hN _ rfl
 rintro _ rfl;refine⟨rows,plc v,rfl,hf,FR.pk mv,λL hL _=>?_⟩;have ll:L.length<=800000:=by have a:=hL.len;have b:=aR (rows:=rows) (nums:=hU rows (plc v));have c:=tS (rows:=rows) (p:=plc v);have d:=(hW hf).1.2;omega
 refine⟨by rw[xlq];exact sqz (by omega),yR (λx=>!zH (wo rows x) (plc v)) (oP rows) (λx hx N M h1 h0=>?_) ?_⟩
 .have G:=(hL.good x hx).2;exact⟨wo rows x,plc v,rfl,G.r200 hf,FR.pk mv,ya h1 h0⟩
 obtain⟨x,hx,nk⟩:=gc hf FR mv bv hL;cases e:L.filter (λx=>!zH (wo rows x) (plc v)) with
 | nil =>have:x∈L.filter (λx=>!zH (wo rows x) (plc v)):=xlL.mpr ⟨hx,by rw[nk];rfl⟩;rw[e] at this;exact absurd this (by simp)
 | cons y ys =>
  have:y∈L.filter (λx=>!zH (wo rows x) (plc v)):=by rw[e];exact xlK
  obtain⟨hy,ny⟩:=xlL.mp this;exact k y (hL.good y hy).1 (hL.good y hy).2 (by simpa using ny)
end
end K20
namespace K20
open PySem L2 Trn
section
variable {P:Program} {w:World} {K:PySem.W.Frag} {mg:Str->Option Value} {base:Heap} {f:Addr} {fd:FuncData}
theorem gJ (B:Blt mg bn)(F:Fun K "weights_of_row" "weights_of_row" uD f fd)(m:mg "weights_of_row" = some (.ref f))(b:Binds K fd ["field", "number"] [])  :
  Own P w K mg base 1 "weights_of_row" ["field", "number"] (spT 2 false false xhf):=by
 refine xw F v9 m b rfl (λ_ _ _ _ _ _ hr=>⟨_,_,
  (xc (yN 2 v9.nd (xE xep (zi (yM (yf (xY xk xk)))) (xP (y4 K) rfl (B.get "len") vv (yM (pv 0)))))
  (xc (zU (yf (xY xk xk)) (nX (pv 2) (pv 1) set_list))
  (xi (xF (u9 (vb K) rfl (B.get "tuple") vB (yM (pv 2))))))),
  (xj (we (xbS (uK (b:=true) (xN (yh (b:=true) (xu xt xt)))) (yI qJ (xN xa))))
  (xj (ze (yh (b:=true) (xu xt xt)) (cf xa))
  (xA xat))),λts KK hl h=>?_⟩)
 obtain⟨rows,n,rfl,hn,l8,k⟩:=h;have ml:(rows.map trR).length=rows.length:=xlq _;refine xO (λ τ=>τ=[.fz (.tup (rows.map trR)),.fz (fg n),.ow ((List.replicate rows.length ((0:Int),(1:Int))).map fT)]) ?_ (λN hN=>⟨⟨by omega,by rw[ml];omega⟩,xcR (by simp;omega),hN _ (by show([.fz (.tup (rows.map trR)),.fz (fg n),.ow (List.replicate (rows.map trR).length [fT (0,1)]).flatten]:TSt)=_;rw[tU,xlE,ml])⟩)
 rintro _ rfl;refine xO (λ τ=>τ=[.fz (.tup (rows.map trR)),.fz (fg n),.ow ((rA rows.length n).map fT)]) ?_ (λN hN=>?_)
 .rintro _ rfl;exact k
 show xhq 2 (xga 1) (fT (1,1)) [.fz (.tup (rows.map trR)),.fz (fg n),.ow ((List.replicate rows.length ((0:Int),(1:Int))).map fT)] N;refine t5 (f:=fT) (n:=n) (l:=List.replicate rows.length ((0:Int),(1:Int))) (w:=((1:Int),(1:Int))) rfl (by rw[xlu];exact hn) (λ_ h=>h) ?_;exact hN _ rfl
theorem sX (B:Blt mg bn)(F:Fun K "round_papers" "round_papers" vP f fd)(m:mg "round_papers" = some (.ref f))(b:Binds K fd ["field"] [])(wD:Own P w K mg base 10 "broken" ["field"] (spT 1 false true tW))(um:Own P w K mg base 8 "papers_at" ["field", "place"] (spT 2 false true gD)) :
  Own P w K mg base 11 "round_papers" ["field"] (spT 1 false true vE):=by
 refine xw F wV m b rfl (λ_ _ _ _ _ _ hr=>⟨_,_,
  (xc (yN 1 wV.nd xdr)
  (xc (zR PassesOwn.never rfl (yB K (xn wD hr (yM (pv 0)))) (yy 2 wV.nd) (xi (zR PassesOwn.never rfl (yB K (xn um hr (xY (pv 0) (pv 2)))) (yy 3 wV.nd) (xi (wW (sP PySem.F.plainAttrs_dict PySem.F.slot_dict_setdefault PySem.F.type_dict_setdefault (xbK (huR hr)) (pv 1) (xY (xH K 3) (pv 3))))))))
  (xi (xF (u9 (o_ rfl) rfl (B.get "list") xa2 (yM (xht PySem.F.plainAttrs_dict PySem.F.slot_dict_values PySem.F.type_dict_values xbo (pv 1)))))))),
  (xj xdR
  (xj (yX (yi (xq (xN xa))) xh.g (yX (yi (xq (xu xa xa))) xh.g (lz xI xa)))
  (kM xc1))),λts KK hl h=>?_⟩)
 obtain⟨rows,rfl,hf,FR,k⟩:=h;refine xO (λ τ=>τ=[.fz (.tup (rows.map trR)),.od (kvX rows []),.un,.un]) ?_ (λN hN=>hN _ rfl);rintro _ rfl;refine xO (λ τ=>∃(Ls:List SX) (x2 x3:TV),RPi rows ((yG rows).filter brk) Ls/\τ=[.fz (.tup (rows.map trR)),.od (kvX rows Ls),x2,x3]) ?_ (λN hN=>?_)
 .rintro _ ⟨Ls,x2,x3,P,rfl⟩;have:=k Ls (P.done hf FR);show KK (.lst ((kvX rows Ls).map (·.2)));unfold kvX;rw[xlC];exact this
 refine uO (((yG rows).filter brk).map yO) (λi τ=>∃(Ls:List SX) (x2 x3:TV),RPi rows (((yG rows).filter brk).take i) Ls/\τ=[.fz (.tup (rows.map trR)),.od (kvX rows Ls),x2,x3]) (λKK h=>⟨rows,rfl,hf,FR,h⟩) ⟨[],_,_,RPi.nil rows,rfl⟩ ?_ (λ τ ⟨Ls,x2,x3,P,e⟩=>hN _ ⟨Ls,x2,x3,by rw[xlq,xl8] at P;exact P,e⟩);rintro i x τ N2 hx ⟨Ls,x2,x3,P,rfl⟩ hN2;obtain⟨v,hvi,rfl⟩:=zX hx;obtain⟨mv,bv⟩:=xlL.mp (xlQ hvi);refine⟨rows,plc v,rfl,hf,FR.pk mv,λL PL b30=>?_⟩;refine zt (all:=L.map (oP rows)) (λj τ=>∃(Ls:List SX) (x3:TV),RPi rows (((yG rows).filter brk).take i) Ls/\(∀x∈L.take j,∃y∈Ls,wo rows y=wo rows x)/\τ=[.fz (.tup (rows.map trR)),.od (kvX rows Ls),.fz (yO v),x3]) ⟨Ls,x3,P,λx hx=>(by rw[List.take_zero] at hx;cases hx),rfl⟩ ?_ ?_
 .clear P;rintro j y τ N3 hy ⟨Ls,x3,P,Q,rfl⟩ hN3;obtain⟨x,hxj,rfl⟩:=zX hy;have mx:=xlQ hxj;have R1:=xeU hf mv bv PL mx (b30 x mx);have ln:=xax hf FR P.snd P.nd;refine⟨kyR (wo rows x),rfl,by unfold kvX;rw[xlq];exact sqz (by omega),hN3 _ ⟨xar rows Ls x,.fz (oP rows x),P.put R1,λz hz=>?_,?_⟩⟩
  .rw[xl_,hxj] at hz;rcases xlF.mp hz with hz | hz
   .obtain⟨y,hy,e⟩:=Q z hz;exact⟨y,pZ hy,e⟩
   .rw[xlU.mp hz];exact xdx rows Ls x
  .show([.fz (.tup (rows.map trR)),.od (putD (kvX rows Ls) (kyR (wo rows x)) (oP rows x)),.fz (yO v),.fz (oP rows x)]:TSt)=_;rw[xeZ]
 .rintro τ ⟨Ls,x3,P,Q,rfl⟩;rw[xlq,xl8] at Q;refine hN2 _ ⟨Ls,_,_,⟨P.snd,P.nd,λu hu=>?_⟩,rfl⟩;rw[xl_,hvi] at hu;rcases xlF.mp hu with hu | hu
  .exact P.all u hu
  .rw[xlU.mp hu];exact⟨L,PL,Q⟩
theorem fK (B:Blt mg bn)(F:Fun K "round_corners" "round_corners" wU f fd)(m:mg "round_corners" = some (.ref f))(b:Binds K fd ["field"] [])(yF:Own P w K mg base 6 "corners_left" ["rows"] (spT 1 false true vx))(yE:Own P w K mg base 11 "round_papers" ["field"] (spT 1 false true vE)) :
  Own P w K mg base 12 "round_corners" ["field"] (spT 1 false false jS):=by
 refine xw F qO m b rfl (λ_ _ _ _ _ _ hr=>⟨_,_,
  (xc (zQ (i:=1) qO.nd rfl (Or.inl rfl) (ye (N:=["weights", "row"]) (tau:=[none,none]) (XN:=["field", "cuts"]) (xs:=xf wU) (by decide +kernel) rfl rfl) rfl (zG (yt rfl (yt rfl u5))) (yB K (xn yE hr (yM (pv 0)))) (λ_ _ _ _=>(yl K (n:=2) rfl (xo (xT (i:=0) (show(["weights", "row"]:List Str).Nodup by decide +kernel) rfl (Or.inl rfl)) (xo (xT (i:=1) (show(["weights", "row"]:List Str).Nodup by decide +kernel) rfl (Or.inl rfl)) yj)))) (λ_ _ _ _=>zq) (λ_ _ _ _=>(pv 1)))
  (xi (xF (xn yF hr (yM (xE mY (u9 (ls K) rfl (B.get "list") xa2 (yM (pv 0))) (pv 1))))))),
  (xj (xU (OkF.e (yk (yi (xq (xN xa))).c (ym (xm xh (xm xh x_))) yU xa)))
  (xA (xq (xN (OkF.e (rW (OkF.e (xdt (xN xa))) xa)))))),λts KK hl h=>?_⟩)
 obtain⟨rows,rfl,hf,FR,k⟩:=h;refine xO (λ τ=>∃Ls,RP rows Ls/\τ=[.fz (.tup (rows.map trR)),.fz (.lst ((Ls.map (wo rows)).map trR))]) ?_ (λN hN=>?_)
 rotate_left
 .refine⟨rows,rfl,hf,FR,λLs R=>?_⟩;have ln:=R.len;refine⟨by rw[xlq];exact sqz (by omega),wR (λx=>trR (wo rows x)) (λx hx N h=>⟨rfl,h⟩) (hN _ ⟨Ls,R,?_⟩)⟩;rw[xlC];rfl
 rintro _ ⟨Ls,R,rfl⟩;have ln:=R.len;have l8:=FR.len;refine⟨by rw[xlq,xlq,xlq];exact xcR (by omega),_,RR rows Ls,rfl,.inr (by unfold RR;rw[xlA]),R.rows hf FR,k Ls R⟩
theorem fM (B:Blt mg bn)(F:Fun K "paper_against" "paper_against" wQ f fd)(m:mg "paper_against" = some (.ref f))(b:Binds K fd ["field", "place"] [])(wx:Own P w K mg base 8 "need_field" ["thing"] (spT 1 false false gQ))(uX:Own P w K mg base 4 "paper_of" ["field", "weights"] (spT 2 false false tj))(yE:Own P w K mg base 11 "round_papers" ["field"] (spT 1 false true vE))(uG:Own P w K mg base 1 "weights_of_row" ["field", "number"] (spT 2 false false xhf))(uH:Own P w K mg base 5 "keeps" ["row", "place"] (spT 2 false false nS)) :
  Own P w K mg base 12 "paper_against" ["field", "place"] (spT 2 false false jI):=by
 refine xw F uF m b rfl (λ_ _ _ _ _ _ hr=>⟨_,_,
  (xc (wW (xn wx hr (yM (pv 0))))
  (xc (zQ (i:=2) uF.nd rfl (Or.inl rfl) (ye (N:=["number", "field"]) (tau:=[none,some 0]) (XN:=["field", "place", "rows", "paper"]) (xs:=xf wQ) (by decide +kernel) rfl rfl) rfl (zF rfl) (aa rfl (B.get "range") (yM (xP (y4 K) rfl (B.get "len") vv (yM (pv 0))))) (λ_ _ _ _=>(xT (i:=0) (show(["number", "field"]:List Str).Nodup by decide +kernel) rfl (Or.inl rfl))) (λ_ _ _ _=>zq) (λ_ _ _ _=>(xn uX hr (xY (pv 1) (xn uG hr (xY (pv 1) (pv 0)))))))
  (xc (zR PassesOwn.never rfl (yB K (xE mY (pv 2) (xn yE hr (yM (pv 0))))) (yy 3 uF.nd) (xi (yV (vf (w5 (xn uH hr (xY (xH K 3) (pv 1))))) (xi (xF (pv 3))) xZ)))
  (xi (xF rh))))),
  (xj (rE (xq (xN xa)))
  (xj (xU (OkF.e (yk (g9 (xN (yI qJ (xN xa)))).c xh yU (xq (xu xa (xq (xu xa xa)))))))
  (xj (yX (yi (OkF.e (rW xa (xq (xN xa))))) xh.g (yu (wk (za (xq (xu xI xa)))) (xA xa) xM))
  (xA (xdp (t:=Tr.non)))))),λts KK hl h=>?_⟩)
 obtain⟨rows,p,rfl,hf,FR,pk,k⟩:=h;have l8:=FR.len;refine xO (λ τ=>τ=[.fz (.tup (rows.map trR)),.fz (pT p),.un,.un]) ?_ (λN hN=>⟨_,rfl,by rw[kG];exact hf,hN _ rfl⟩);rintro _ rfl;refine xO (λ τ=>τ=[.fz (.tup (rows.map trR)),.fz (pT p),.fz (.lst ((List.range rows.length).map λi=>.tup [wsT (rA rows.length i),trR (yD rows i)])),.un]) ?_ (λN hN=>?_)
 rotate_left
 .refine⟨⟨by omega,by rw[xlq];omega⟩,by rw[ur,xlq];exact sqz (by omega),?_⟩;show xa1 _ _ _ _ _ (xaJ 0 (rows.map trR).length) [];rw[xlq,xcM];refine wR (λi=>.tup [wsT (rA rows.length i),trR (yD rows i)]) (λi hi N h=>?_) (hN _ rfl);have hi:=xlT.mp hi;refine⟨rows,i,rfl,hi,l8,rows,rA rows.length i,rfl,hW.ws hf (xeo _ _),xhu hf hi,?_⟩;rw[xfP hi];exact h
 rintro _ rfl;refine xO (λ τ=>∃Ls,RP rows Ls/\∀r∈RR rows Ls,zH r p=true) ?_ (λN hN=>?_)
 .rintro _ ⟨Ls,R,all⟩;exact(k Ls R).1 all
 refine⟨rows,rfl,hf,FR,λLs R=>?_⟩;have ln:=R.len;refine⟨by rw[xlq,xlq,xlt];exact xcR (by omega),?_⟩;have ea:((List.range rows.length).map λi=>Tr.tup [wsT (rA rows.length i),trR (yD rows i)])++Ls.map (oP rows)=(((List.range rows.length).map λi=>(wsT (rA rows.length i),yD rows i))++Ls.map λx=>(wsT (tF rows x),wo rows x)).map λy:Tr×Pol.R3=>Tr.tup [y.1,trR y.2]:=by rw[xlA,xlC,xlC];rfl
 have eb:(((List.range rows.length).map λi=>(wsT (rA rows.length i),yD rows i))++Ls.map λx=>(wsT (tF rows x),wo rows x)).map (λy:Tr×Pol.R3=>y.2)=RR rows Ls:=by rw[xlA,xlC,xlC];unfold RR;congr 1;exact lU rows
 show xcX _ _ _ (((List.range rows.length).map λi=>Tr.tup [wsT (rA rows.length i),trR (yD rows i)])++Ls.map (oP rows)) _;rw[ea];generalize ((List.range rows.length).map λi=>(wsT (rA rows.length i),yD rows i))++Ls.map (λx=>(wsT (tF rows x),wo rows x))=ps at eb;refine zt (λi τ=>(∀y∈ps.take i,zH y.2 p=true)/\∃x3:TV,τ=[.fz (.tup (rows.map trR)),.fz (pT p),.fz (.lst ((List.range rows.length).map λi=>.tup [wsT (rA rows.length i),trR (yD rows i)])),x3]) ⟨λy hy=>(by rw[List.take_zero] at hy;cases hy),_,rfl⟩ ?_ ?_
 .rintro i x τ N3 hx ⟨all,x3,rfl⟩ hN3;obtain⟨y,hyi,rfl⟩:=zX hx;have my:y.2∈RR rows Ls:=by rw[<-eb];exact xlP (xlQ hyi)
  refine⟨y.2,p,rfl,(kP (R.frow hf FR y.2 my).1).mono (by decide),pk,?_⟩;refine ya (b := !zH y.2 p) (λc=>?_) (λc=>?_)
  .exact(k Ls R).2 y.2 my (by simpa using c) _
  .refine hN3 _ ⟨λz hz=>?_,_,rfl⟩;rw[xl_,hyi] at hz;rcases xlF.mp hz with hz | hz
   .exact all z hz
   .rw[xlU.mp hz];simpa using c
 .rintro τ ⟨all,x3,rfl⟩;refine hN _ ⟨Ls,R,λr hr=>?_⟩;rw[<-eb] at hr;obtain⟨y,hy,rfl⟩:=xlO.mp hr;exact all y (by rw[xlq,xl8];exact hy)
end
end K20
namespace K20
open PySem L2 Trn
section
variable {P:Program} {w:World} {K:PySem.W.Frag} {mg:Str->Option Value} {base:Heap} {f:Addr} {fd:FuncData}
theorem rG (B:Blt mg bn)(F:Fun K "_law_field" "_law_field" uA f fd)(m:mg "_law_field" = some (.ref f))(b:Binds K fd ["_law_state_here"] [])(xS:Own P w K mg base 1 "_law_take" ["_law_state_here", "_law_many"] (spT 1 true false xaK)) :
  Own P w K mg base 2 "_law_field" ["_law_state_here"] (spT 0 true false xaW):=by
 refine mU F xW m b rfl (λ_ _ _ _ _ _ hr=>⟨_,_,
  (xc (yN 1 xW.nd (xn xS hr (xY (pv 0) xk)))
  (xc (yN 2 xW.nd (zi wH))
  (xc (yV (xR (jP K hr.units) (pv 1) xk (xX _)) (xc (zR PassesOwn.never rfl (yB K (zi (yd (yf (xY (uC zg xk) xk)) (yd (yf (xY xk xk)) (xY (yf (xY xk (uC zg xk))) (yf (xY xk xk))))))) (yl K (n:=2) rfl (xo (yy 3 xW.nd) (xo (yy 4 xW.nd) yj))) (xc (yN 5 xW.nd (xE zY xk (xn xS hr (xY (pv 0) xk))))
  (xi (wW (sP PySem.F.plainAttrs_list PySem.F.slot_list_append PySem.F.type_list_append wd (pv 2) (yM (yf (yd (xE xK (pv 3) (pv 5)) (xY (xE xK (pv 4) (pv 5)) (xE zY (xE xK (pv 5) (xn xS hr (xY (pv 0) xk))) (xn xS hr (xY (pv 0) (pv 5)))))))))))))
  (xc (zR PassesOwn.never rfl (aa rfl (B.get "range") (yM (xn xS hr (xY (pv 0) xk)))) (yy 6 xW.nd) (xc (jM (i:=3) (j:=4) rfl xW.nd rfl rfl (by decide) rfl rfl (xY (xE zS (xn xS hr (xY (pv 0) xk)) xk) (xE zS (xn xS hr (xY (pv 0) xk)) xk)) (by rfl))
  (xc (yV (PW.pt (sj (xR (v8 hr.units) (pv 3) xk (xX _)) (js (xR (v8 hr.units) (pv 4) xk (xX _))))) (xi (yN 3 xW.nd xk)) xZ)
  (xc (yN 7 xW.nd (xE zY (xE xK (pv 3) (xE zS (xn xS hr (xY (pv 0) xk)) xk)) (xE xK (pv 4) (xE zS (xn xS hr (xY (pv 0) xk)) xk))))
  (xi (wW (sP PySem.F.plainAttrs_list PySem.F.slot_list_append PySem.F.type_list_append wd (pv 2) (yM (yf (yd (pv 3) (xY (pv 4) (xE zS (xE zY (pv 7) (xn xS hr (xY (pv 0) xk))) xk))))))))))))
  (xi (yV (xR (v8 hr.units) (xn xS hr (xY (pv 0) xk)) xk (xX _)) (xi (wW (sP PySem.F.plainAttrs_list PySem.F.slot_list_append PySem.F.type_list_append wd (pv 2) (yM (yf (yd (xE zS xk (zd (yp K) (zd (yp K) (pv 2) (uC zg xk) (λ_ _=>rfl)) xk (λ_ _=>rfl))) (xY (xE zS xk (zd (yp K) (zd (yp K) (pv 2) (uC zg xk) (λ_ _=>rfl)) xk (λ_ _=>rfl))) (xE zS xk (zd (yp K) (zd (yp K) (pv 2) (uC zg xk) (λ_ _=>rfl)) xk (λ_ _=>rfl)))))))))) xZ)))) xZ)
  (xc (yV (xR (v8 hr.units) (pv 1) xk (xX _)) (xc (yN 8 xW.nd (xE zY xk (xn xS hr (xY (pv 0) xk))))
  (xi (yN 2 xW.nd (zi (yd (yf (yd (uC zg xk) (xY xk xk))) (xY (yf (yd xk (xY (xE xK (uC zg xk) (pv 8)) xk))) (yf (yd xk (xY (xE xK xk (pv 8)) (xE xK xk (pv 8))))))))))) xZ)
  (xc (yV (xR (v8 hr.units) (pv 1) xk (xX _)) (xc (yN 9 xW.nd (zd (yp K) (zi (xY (zi (yd (yf (xY (uC zg xk) xk)) (xY (yf (xY xk (uC zg xk))) (yf (xY xk xk))))) (zi (yd (yf (xY (uC zg xk) (uC zg xk))) (xY (yf (xY xk (uC zg xk))) (yf (xY xk xk))))))) (xn xS hr (xY (pv 0) xk)) (λ_ _=>rfl)))
  (xi (zQ (i:=2) xW.nd rfl (Or.inl rfl) (ye (N:=["_law_a", "_law_b", "_law_state_here"]) (tau:=[none,none,some 0]) (XN:=["_law_state_here", "_law_way", "_law_rows", "_law_a", "_law_b", "_law_by", "_law_turn", "_law_near", "_law_k", "_law_some", "_law_u", "_law_v"]) (xs:=xf uA) (by decide +kernel) rfl rfl) rfl (zG (yt rfl (yt rfl u5))) (yB K (pv 9)) (λ_ _ _ _=>(yl K (n:=2) rfl (xo (xT (i:=0) (show(["_law_a", "_law_b", "_law_state_here"]:List Str).Nodup by decide +kernel) rfl (Or.inl rfl)) (xo (xT (i:=1) (show(["_law_a", "_law_b", "_law_state_here"]:List Str).Nodup by decide +kernel) rfl (Or.inl rfl)) yj)))) (λ_ _ _ _=>zq) (λ_ _ _ _=>(yf (yd (pv 0) (xY (pv 1) (xn xS hr (xY (pv 2) xk))))))))) xZ)
  (xc (zU (yf (xY (xE zS (xn xS hr (xY (pv 0) xk)) xk) (xE zS (xn xS hr (xY (pv 0) xk)) xk))) (yl K (n:=2) rfl (xo (xT (i:=10) xW.nd rfl (Or.inr rfl)) (xo (xT (i:=11) xW.nd rfl (Or.inr rfl)) yj))))
  (xc (zQ (i:=2) xW.nd rfl (Or.inl rfl) (ye (N:=["_law_a", "_law_b", "_law_c", "_law_v", "_law_u"]) (tau:=[none,none,none,some 11,some 10]) (XN:=["_law_state_here", "_law_way", "_law_rows", "_law_a", "_law_b", "_law_by", "_law_turn", "_law_near", "_law_k", "_law_some", "_law_u", "_law_v"]) (xs:=xf uA) (by decide +kernel) rfl rfl) rfl (zG (yt rfl (yt rfl (yt rfl u5)))) (yB K (pv 2)) (λ_ _ _ _=>(yl K (n:=3) rfl (xo (xT (i:=0) (show(["_law_a", "_law_b", "_law_c", "_law_v", "_law_u"]:List Str).Nodup by decide +kernel) rfl (Or.inl rfl)) (xo (xT (i:=1) (show(["_law_a", "_law_b", "_law_c", "_law_v", "_law_u"]:List Str).Nodup by decide +kernel) rfl (Or.inl rfl)) (xo (xT (i:=2) (show(["_law_a", "_law_b", "_law_c", "_law_v", "_law_u"]:List Str).Nodup by decide +kernel) rfl (Or.inl rfl)) yj))))) (λ_ _ _ _=>zq) (λ_ _ _ _=>(yf (yd (pv 0) (xY (pv 1) (xE zY (xE zY (pv 2) (xE xK (pv 0) (pv 4))) (xE xK (pv 1) (pv 3))))))))
  (xc (yN 6 xW.nd (xn xS hr (xY (pv 0) (xP (y4 K) rfl (B.get "len") vv (yM (pv 2))))))
  (xi (xF (u9 (vb K) rfl (B.get "tuple") vB (yM (xE mY (qv (fX K) (pv 2) (qq (pv 6)) gK) (qv (fX K) (pv 2) gK (qq (pv 6)))))))))))))))),
  (xj (xU (y9 (xN xt)))
  (xj (we (kE zW))
  (xj (yu (xG (xl hG xa xt)) (xj (yX (yi (uK (b:=true) (yb (yh (b:=true) (xu (zh xt) xt)) (yb (yh (b:=true) (xu xt xt)) (xu (yh (b:=true) (xu xt (zh xt))) (yh (b:=true) (xu xt xt))))))) (ym (xm xh (xm xh x_))).g (xj (xU (xl uJ xt (y9 (xN xt))))
  (vV (yh (b:=true) (yb (xl yg xa xa) (xu (xl yg xa xa) (xl uJ (xl yg xa (y9 (xN xt))) (y9 (xN xa)))))))))
  (xj (yX (g9 (xN (y9 (xN xt)))) xh.g (xj (qm (xu (xl zZ (y9 (xN xt)) xt) (xl zZ (y9 (xN xt)) xt)))
  (xj (yu (jr (xG (xl os_eq xa xt)) (xG (xl os_eq xa xt))) (xU xt) xM)
  (xj (xU (xl uJ (xl yg xa (xl zZ (y9 (xN xt)) xt)) (xl yg xa (xl zZ (y9 (xN xt)) xt))))
  (vV (yh (b:=true) (yb xa (xu xa (xl zZ (xl uJ xa (y9 (xN xt))) xt)))))))))
  (yu (xG (xl os_eq (y9 (xN xt)) xt)) (vV (yh (b:=true) (yb (xl zZ xt (uc (rz (zh xt)) xt)) (xu (xl zZ xt (uc (rz (zh xt)) xt)) (xl zZ xt (uc (rz (zh xt)) xt)))))) xM))) xM)
  (xj (yu (xG (xl os_eq xa xt)) (xj (xU (xl uJ xt (y9 (xN xt))))
  (we (kE (yb (yh (b:=true) (yb (zh xt) (xu xt xt))) (xu (yh (b:=true) (yb xt (xu (xl yg (zh xt) xa) xt))) (yh (b:=true) (yb xt (xu (xl yg xt xa) (xl yg xt xa))))))))) xM)
  (xj (yu (xG (xl os_eq xa xt)) (xj (xU (uc (uK (b:=true) (xu (uK (b:=true) (yb (yh (b:=true) (xu (zh xt) xt)) (xu (yh (b:=true) (xu xt (zh xt))) (yh (b:=true) (xu xt xt))))) (uK (b:=true) (yb (yh (b:=true) (xu (zh xt) (zh xt))) (xu (yh (b:=true) (xu xt (zh xt))) (yh (b:=true) (xu xt xt))))))) (y9 (xN xt))))
  (we (yk (yi xa).c (ym (xm xh (xm xh x_))) yU (yh (b:=true) (yb xa (xu xa (y9 (xN xt)))))))) xM)
  (xj (ze (yh (b:=true) (xu (xl zZ (y9 (xN xt)) xt) (xl zZ (y9 (xN xt)) xt))) (ym (xm xh (xm xh x_))).g)
  (xj (we (yk xcg (ym (xm xh (xm xh (xm xh x_)))) yU (yh (b:=true) (yb xa (xu xa (xl uJ (xl uJ xa (xl yg xa xa)) (xl yg xa xa)))))))
  (xj (xU (y9 (xN (yI qJ (xN xbI)))))
  (xA (tN (xN (OkF.e (rW (OkF.e (xcp (vA xa) kU)) (OkF.e (xcp kU (vA xa)))))))))))))))),λts KK hl h=>?_⟩)
 obtain⟨rfl,k⟩:=h;refine⟨tk (by decide),λw w0 w6=>?_⟩;dsimp only;refine xO (λ τ=>τ=[.st,.fz (.int w),.ow [],.un,.un,.un,.un,.un,.un,.un,.un,.un]) ?_ (λN hN=>hN _ rfl);rintro _ rfl;refine xO (λ τ=>∃(rows:List Pol.R3) (x:TV9),τ=[.st,.fz (.int w),.ow (rows.map trR),x.1,x.2.1,x.2.2.1,x.2.2.2.1,x.2.2.2.2.1,x.2.2.2.2.2.1,x.2.2.2.2.2.2.1,x.2.2.2.2.2.2.2.1,x.2.2.2.2.2.2.2.2]/\(w<4->LF0 rows)) ?_ ?_
 rotate_left
 .intro N hN;refine ya (b:=decide (w<4)) (λc=>?_) (λc=>hN _ ⟨[],⟨_,_,_,_,_,_,_,_,_⟩,rfl,λz=>absurd z (xmA c)⟩);refine xO (λ τ=>∃(rows:List Pol.R3) (x:TV9),τ=[.st,.fz (.int w),.ow (rows.map trR),x.1,x.2.1,x.2.2.1,x.2.2.2.1,x.2.2.2.2.1,x.2.2.2.2.2.1,x.2.2.2.2.2.2.1,x.2.2.2.2.2.2.2.1,x.2.2.2.2.2.2.2.2]/\q_ rows) ?_ ?_
  rotate_left
  .intro N hN;refine uO (xaL.map dT) (λi τ=>∃(rows:List Pol.R3) (x:TV9),τ=[.st,.fz (.int w),.ow (rows.map trR),x.1,x.2.1,x.2.2.1,x.2.2.2.1,x.2.2.2.2.1,x.2.2.2.2.2.1,x.2.2.2.2.2.2.1,x.2.2.2.2.2.2.2.1,x.2.2.2.2.2.2.2.2]/\lW i rows) (λKK h=>h) ⟨[],⟨_,_,_,_,_,_,_,_,_⟩,rfl,rfl,λj r d h=>by simp at h⟩ ?_ ?_
   .rintro i it τ N2 hx ⟨rows,x,rfl,hu⟩ hN2;obtain⟨d,hd,rfl⟩:=zX hx;have ds:=cK hd;have hi:=(xle.mp hd).1;have hi:i<4:=hi;refine⟨rfl,tk (by decide),λr a1 a2=>⟨wj (by omega) (by omega),wj (by omega) (by omega),tk (by decide),λs a3 a4=>⟨wj (by omega) (by omega),tk (by omega),λq a5 a6=>⟨by rw[xlq,hu.1];exact sqz (by omega),?_⟩⟩⟩⟩;have x1:=Pol.pz (show 0<=1+r by omega) a3;have x2:(1+r)*s<=(1+r)*4:=xkA (by omega) (by omega);have st:=hu.step hd (b:=1+r) (c:=(1+r)*s+q) (by omega);have e:rows.map trR++[Tr.tup [.int (d.1*(1+r)),.int (d.2*(1+r)),.int ((1+r)*s+q)]]=(rows++[(d.1*(1+r),d.2*(1+r),(1+r)*s+q)]).map trR:=by rw[xlA];rfl
    show N2 [.st,.fz (.int w),.ow (rows.map trR++[Tr.tup [.int (d.1*(1+r)),.int (d.2*(1+r)),.int ((1+r)*s+q)]]),_,_,_,_,_,_,_,_,_];rw[e];exact hN2 _ ⟨_,⟨_,_,_,_,_,_,_,_,_⟩,rfl,st⟩
   .rintro τ ⟨rows,x,rfl,hu⟩;exact hN _ ⟨rows,⟨_,_,_,_,_,_,_,_,_⟩,rfl,hu.box⟩
  rintro _ ⟨four,x,rfl,hB⟩;have fl:=hB.len;refine xO (λ τ=>∃(ex:List Pol.R3) (x:TV9),τ=[.st,.fz (.int w),.ow ((four++ex).map trR),x.1,x.2.1,x.2.2.1,x.2.2.2.1,x.2.2.2.2.1,x.2.2.2.2.2.1,x.2.2.2.2.2.2.1,x.2.2.2.2.2.2.2.1,x.2.2.2.2.2.2.2.2]/\ex.length<=3/\∀r∈ex,Extra r) ?_ ?_
  rotate_left
  .intro N hN;refine⟨tk (by decide),λn n0 n4=>⟨⟨by omega,by omega⟩,?_⟩⟩;refine zt (λi τ=>∃(ex:List Pol.R3) (x:TV9),τ=[.st,.fz (.int w),.ow ((four++ex).map trR),x.1,x.2.1,x.2.2.1,x.2.2.2.1,x.2.2.2.2.1,x.2.2.2.2.2.1,x.2.2.2.2.2.2.1,x.2.2.2.2.2.2.2.1,x.2.2.2.2.2.2.2.2]/\ex.length=i/\∀r∈ex,Extra r) ⟨[],⟨_,_,_,_,_,_,_,_,_⟩,by rw[xkX],rfl,λr hr=>by simp at hr⟩ ?_ ?_
   .rintro i it τ N2 hx ⟨ex,x,rfl,hl,he⟩ hN2;have hi:i<n.toNat:=by have:=(xle.mp hx).1;rw[ur] at this;exact this
    show xhS _ _ _ ([.st,.fz (.int w),.ow ((four++ex).map trR),x.1,x.2.1,x.2.2.1,.fz it,x.2.2.2.2.1,x.2.2.2.2.2.1,x.2.2.2.2.2.2.1,x.2.2.2.2.2.2.2.1,x.2.2.2.2.2.2.2.2]:TSt);refine xO (λ τ=>∃a b:Int,τ=[.st,.fz (.int w),.ow ((four++ex).map trR),.fz (.int a),.fz (.int b),x.2.2.1,.fz it,x.2.2.2.2.1,x.2.2.2.2.2.1,x.2.2.2.2.2.2.1,x.2.2.2.2.2.2.2.1,x.2.2.2.2.2.2.2.2]/\((-6<=a/\a<=6)/\(-6<=b/\b<=6))) ?_ (λN3 hN3=>⟨tk (by decide),λa a0 a1=>⟨tk (by decide),λb b0 b1=>hN3 _ ⟨a-6,b-6,rfl,by omega⟩⟩⟩);rintro _ ⟨a,b,rfl,hab⟩;refine xO (λ τ=>∃a b:Int,τ=[.st,.fz (.int w),.ow ((four++ex).map trR),.fz (.int a),.fz (.int b),x.2.2.1,.fz it,x.2.2.2.2.1,x.2.2.2.2.2.1,x.2.2.2.2.2.2.1,x.2.2.2.2.2.2.2.1,x.2.2.2.2.2.2.2.2]/\((-6<=a/\a<=6)/\(-6<=b/\b<=6))/\(a≠0\/b≠0)) ?_ ?_
    rotate_left
    .intro N3 hN3;refine ya (b:=decide (a=0)) (λc=>?_) (λc=>?_)
     .refine ya (b:=decide (b=0)) (λd=>?_) (λd=>?_)
      .exact hN3 _ ⟨2,b,rfl,by omega,.inl (by decide)⟩
      .exact hN3 _ ⟨a,b,rfl,by omega,.inr (xmA d)⟩
     .exact xam (hN3 _ ⟨a,b,rfl,by omega,.inl (xmA c)⟩)
    rintro _ ⟨a,b,rfl,hab,hne⟩;refine⟨tk (by decide),λs s0 s5=>⟨wj (by omega) (by omega),tk (by decide),λq q0 q5=>⟨wj (by omega) (by omega),tk (by decide),λt t0 t9=>⟨by rw[xlq,xll];exact sqz (by omega),?_⟩⟩⟩⟩;have m1:=pX hab.1.1 hab.1.2 (show -2<=s-2 by omega) (show s-2<=2 by omega) (by decide) (by decide);have m2:=pX hab.2.1 hab.2.2 (show -2<=q-2 by omega) (show q-2<=2 by omega) (by decide) (by decide);have e:(four++ex).map trR++[Tr.tup [.int a,.int b,.int (a*(s-2)+b*(q-2)+t-1)]]=(four++(ex++[(a,b,a*(s-2)+b*(q-2)+t-1)])).map trR:=by rw[<-xkW,oY];rfl
    show N2 [.st,.fz (.int w),.ow ((four++ex).map trR++[Tr.tup [.int a,.int b,.int (a*(s-2)+b*(q-2)+t-1)]]),_,_,_,_,_,_,_,_,_];rw[e];refine hN2 _ ⟨ex++[(a,b,a*(s-2)+b*(q-2)+t-1)],⟨.fz (.int a),.fz (.int b),x.2.2.1,.fz it,.fz (.int (a*(s-2)+b*(q-2))),x.2.2.2.2.2.1,x.2.2.2.2.2.2.1,x.2.2.2.2.2.2.2.1,x.2.2.2.2.2.2.2.2⟩,rfl,by simp[hl],λr hr=>?_⟩;rcases xlF.mp hr with h | h
    .exact he r h
    .rw[xlU.mp h];unfold Extra;simp only;omega
   .rintro τ ⟨ex,x,rfl,hl,he⟩;rw[ur] at hl;exact hN _ ⟨ex,⟨_,_,_,_,_,_,_,_,_⟩,rfl,by omega,he⟩
  rintro _ ⟨ex,x,rfl,hl,he⟩;refine⟨tk (by decide),λe e0 e8=>?_⟩;refine ya (b:=decide (e=0)) (λc=>?_) (λc=>?_)
  .obtain⟨ini,l,el,hx⟩:=hB.last he;have la:atT ((four++ex).map trR) (-1)=some (trR l):=by rw[el,xlA];exact mB _ _
   show sS (atT ((four++ex).map trR) (-1)) _;rw[la];show sS (atT ((four++ex).map trR) (-1)) _;rw[la];show sS (atT ((four++ex).map trR) (-1)) _;rw[la];have e:(four++ex).map trR++[Tr.tup [.int (0-l.1),.int (0-l.2.1),.int (0-l.2.2)]]=(four++(ex++[(0-l.1,0-l.2.1,0-l.2.2)])).map trR:=by rw[<-xkW,oY];rfl
   refine⟨by rw[xlq,xll];exact sqz (by omega),?_⟩;show N [.st,.fz (.int w),.ow ((four++ex).map trR++[Tr.tup [.int (0-l.1),.int (0-l.2.1),.int (0-l.2.2)]]),_,_,_,_,_,_,_,_,_];rw[e];refine hN _ ⟨_,⟨_,_,_,_,_,_,_,_,_⟩,rfl,λ_=>hB.lf (λr hr=>?_) (by simp;omega)⟩;rcases xlF.mp hr with h | h
   .exact he r h
   .rw[xlU.mp h];exact hx
  .exact hN _ ⟨_,⟨_,_,_,_,_,_,_,_,_⟩,rfl,λ_=>hB.lf he (by omega)⟩
 rintro _ ⟨rows,x,rfl,h4⟩;refine xO (λ τ=>∃(rows:List Pol.R3) (x:TV9),τ=[.st,.fz (.int w),.ow (rows.map trR),x.1,x.2.1,x.2.2.1,x.2.2.2.1,x.2.2.2.2.1,x.2.2.2.2.2.1,x.2.2.2.2.2.2.1,x.2.2.2.2.2.2.2.1,x.2.2.2.2.2.2.2.2]/\(w<5->LF0 rows)) ?_ ?_
 rotate_left
 .intro N hN;refine ya (b:=decide (w=4)) (λc=>?_) (λc=>hN _ ⟨_,⟨_,_,_,_,_,_,_,_,_⟩,rfl,λz=>h4 (by have:=xmA c;omega)⟩);refine⟨tk (by decide),λr a1 a2=>⟨wj (by omega) (by omega),wj (by omega) (by omega),wj (by omega) (by omega),?_⟩⟩;exact hN _ ⟨[(-1,0,0),(1,-2*(1+r),0),(1,2*(1+r),2*(1+r))],⟨x.1,x.2.1,x.2.2.1,x.2.2.2.1,x.2.2.2.2.1,.fz (.int (1+r)),x.2.2.2.2.2.2.1,x.2.2.2.2.2.2.2.1,x.2.2.2.2.2.2.2.2⟩,rfl,λ_=>xc7 (by omega) (by omega)⟩
 rintro _ ⟨rows,x,rfl,h5⟩;refine xO (λ τ=>∃(rows:List Pol.R3) (x:TV9),τ=[.st,.fz (.int w),.ow (rows.map trR),x.1,x.2.1,x.2.2.1,x.2.2.2.1,x.2.2.2.2.1,x.2.2.2.2.2.1,x.2.2.2.2.2.2.1,x.2.2.2.2.2.2.2.1,x.2.2.2.2.2.2.2.2]/\LF0 rows) ?_ ?_
 rotate_left
 .intro N hN;refine ya (b:=decide (w=5)) (λc=>?_) (λc=>hN _ ⟨_,⟨_,_,_,_,_,_,_,_,_⟩,rfl,h5 (by have:=xmA c;omega)⟩);refine⟨tk (by decide),λe e0 e2=>?_⟩;obtain rfl | rfl:e=0\/e=1:=by omega
  .refine⟨sqz (show(3:Nat)<=1000000 by decide),nI (f:=dT) (l:=[(-2,1),(1,-3),(2,3)]) Drawn (λd _ N2 h2=>?_) (λys hy=>?_)⟩
   .exact⟨rfl,tk (by decide),λc c0 c8=>h2 _ ⟨c,⟨c0,c8⟩,rfl⟩⟩
   .obtain⟨d1,d2,d3,g,rfl⟩:=xeG hy;exact hN _ ⟨[(-2,1,d1),(1,-3,d2),(2,3,d3)],⟨x.1,x.2.1,x.2.2.1,x.2.2.2.1,x.2.2.2.2.1,x.2.2.2.2.2.1,.fz (.lst (([(-2,1),(1,-3),(2,3)]:List (Int×Int)).map dT)),x.2.2.2.2.2.2.2.1,x.2.2.2.2.2.2.2.2⟩,rfl,xfe g.1 g.2.1 g.2.2⟩
  .refine⟨sqz (show(3:Nat)<=1000000 by decide),nI (f:=dT) (l:=[(-3,-2),(3,-1),(1,4)]) Drawn (λd _ N2 h2=>?_) (λys hy=>?_)⟩
   .exact⟨rfl,tk (by decide),λc c0 c8=>h2 _ ⟨c,⟨c0,c8⟩,rfl⟩⟩
   .obtain⟨d1,d2,d3,g,rfl⟩:=xeG hy;exact hN _ ⟨[(-3,-2,d1),(3,-1,d2),(1,4,d3)],⟨x.1,x.2.1,x.2.2.1,x.2.2.2.1,x.2.2.2.2.1,x.2.2.2.2.2.1,.fz (.lst (([(-3,-2),(3,-1),(1,4)]:List (Int×Int)).map dT)),x.2.2.2.2.2.2.2.1,x.2.2.2.2.2.2.2.2⟩,rfl,xeX g.1 g.2.1 g.2.2⟩
 rintro _ ⟨rows,x,rfl,hF⟩;have l3:=hF.l3;have l8:=hF.l8;refine⟨tk (by decide),λu u0 u7=>⟨tk (by decide),λv v0 v7=>⟨rfl,?_⟩⟩⟩;refine⟨by rw[xlq];exact sqz (by omega),wR (f:=trR) (λr=>trR (mC (u-3) (v-3) r)) (λr hr N hN=>?_) ?_⟩
 .have:=hF.sm r hr;exact⟨rfl,wj (by omega) (by omega),wj (by omega) (by omega),hN⟩
 have hM:=hF.moved (u:=u-3) (v:=v-3) (by omega) (by omega);have em:rows.map (λr=>trR (mC (u-3) (v-3) r))=(rows.map (mC (u-3) (v-3))).map trR:=by rw[xlC];rfl
 rw[em];generalize rows.map (mC (u-3) (v-3))=mv at hM;have m3:=hM.l3;have m8:=hM.l8;refine⟨tk (by rw[xlq];omega),λt t0 t1=>?_⟩;obtain⟨n,rfl⟩:∃n:Nat,t=(n:Int):=⟨t.toNat,by omega⟩
 show(gU (mv.map trR) (some (n:Int)) none).length+(gU (mv.map trR) none (some (n:Int))).length<=sizeLine/\KK (.tup (gU (mv.map trR) (some (n:Int)) none++gU (mv.map trR) none (some (n:Int))));rw[me,xca];refine⟨xcR (by simp;omega),?_⟩;have:=k _ (hM.rot n);rw[xlA,List.map_drop,List.map_take] at this;exact this
theorem dA (B:Blt mg bn)(F:Fun K "_law_divisor" "_law_divisor" vJ f fd)(m:mg "_law_divisor" = some (.ref f))(b:Binds K fd ["_law_one", "_law_other"] [])  :
  Own P w K mg base 1 "_law_divisor" ["_law_one", "_law_other"] (spT 2 false false xe5):=by
 refine xw F ki m b rfl (λ_ _ _ _ _ _ hr=>⟨_,_,
  (xc (fW PassesOwn.never (xR (zV hr.units) (pv 1) xk (xX _)) (xi (jM (i:=0) (j:=1) rfl ki.nd rfl rfl (by decide) rfl rfl (xY (pv 1) (xE xcz (pv 0) (pv 1))) (by rfl))))
  (xi (xF (xP wg rfl (B.get "abs") qL (yM (pv 0)))))),
  (xj (j1 (xG (xl vq xa xt)) (qm (xu xa (xl xd4 xa xa))))
  (xA (yI qI (xN xa)))),λts KK hl h=>?_⟩)
 obtain⟨a,c,rfl,k⟩:=h;refine j8 (λn τ=>∃x y:Int,τ=[.fz (.int x),.fz (.int y)]/\n=y.natAbs/\Fra.gd x y=Fra.gd a c) c.natAbs ⟨_,_,rfl,rfl,rfl⟩ ?_;rintro n τ N ⟨x,y,rfl,rfl,hg⟩ hN;refine ya (b := !decide (y=0)) (λc0=>?_) (λc0=>?_)
 .have c0:y≠0:=by simpa using c0
  exact⟨c0,hN (x.fmod y).natAbs _ (Fra.lV c0) ⟨_,_,rfl,rfl,by rw[Fra.xf_];exact hg⟩⟩
 .have c0:y=0:=by simpa using c0
  subst c0;rw[Fra.xfS] at hg;have k:KK (.int (Fra.gd a c)):=k;rw[<-hg] at k;exact k
theorem pC (B:Blt mg bn)(F:Fun K "_law_low" "_law_low" gg f fd)(m:mg "_law_low" = some (.ref f))(b:Binds K fd ["_law_top", "_law_bottom"] [])(vN:Own P w K mg base 1 "_law_divisor" ["_law_one", "_law_other"] (spT 2 false false xe5)) :
  Own P w K mg base 2 "_law_low" ["_law_top", "_law_bottom"] (spT 2 false false xhk):=by
 refine xw F jt m b rfl (λ_ _ _ _ _ _ hr=>⟨_,_,
  (xc (yN 2 jt.nd (xn vN hr (xY (pv 0) (pv 1))))
  (xc (yV (xR (jP K hr.units) (pv 1) xk (xX _)) (xi (yN 2 jt.nd (xE zS xk (pv 2)))) xZ)
  (xi (xF (yf (xY (xE zI (pv 0) (pv 2)) (xE zI (pv 1) (pv 2)))))))),
  (xj (xU (xq (xu xa xa)))
  (xj (yu (xG (xl hG xa xt)) (xU (xl zZ xt xa)) xM)
  (xA (yh (b:=true) (xu (xl uy xa xa) (xl uy xa xa)))))),λts KK hl h=>?_⟩)
 obtain⟨t,b,rfl,hb,bd,k⟩:=h;refine⟨t,b,rfl,?_⟩;have gp:=Fra.vF (a:=t) (b:=b) (.inr hb);have gb:Bd (Fra.gd t b):=xbE hb bd;refine ya (b:=decide (b<0)) (λc=>?_) (λc=>?_)
 .have c:=xmB c;rw[xfW c] at k;have gn:Bd (0-Fra.gd t b):=by unfold Bd at *;omega
  have e1:∀x:Int,x.fdiv (0-Fra.gd t b)=(-x) / Fra.gd t b:=λx=>by have h:=Int.neg_fdiv_neg (-x) (Fra.gd t b);rw[Int.neg_neg] at h;rw[show 0-Fra.gd t b = -(Fra.gd t b) by omega,h,zK (by omega)]
  have e2:Fra.low (-t) (-b)=((-t) / Fra.gd t b,(-b) / Fra.gd t b):=by unfold Fra.low;rw[show Fra.gd (-t) (-b)=Fra.gd t b by unfold Fra.gd;simp]
  rw[e2,<-e1,<-e1] at k;exact⟨⟨by show(0-Fra.gd t b)≠0;omega,gn⟩,⟨by show(0-Fra.gd t b)≠0;omega,gn⟩,k⟩
 .have c:=xmA c;rw[vn (by omega)] at k;refine⟨⟨by show Fra.gd t b≠0;omega,gb⟩,⟨by show Fra.gd t b≠0;omega,gb⟩,?_⟩;show KK (.tup [.int (t.fdiv (Fra.gd t b)),.int (b.fdiv (Fra.gd t b))]);rw[zK (by omega),zK (by omega)];exact k
theorem rH (B:Blt mg bn)(F:Fun K "_law_value" "_law_value" kH f fd)(m:mg "_law_value" = some (.ref f))(b:Binds K fd ["_law_row", "_law_place"] [])(gP:Own P w K mg base 2 "_law_low" ["_law_top", "_law_bottom"] (spT 2 false false xhk)) :
  Own P w K mg base 3 "_law_value" ["_law_row", "_law_place"] (spT 2 false false xd5):=by
 refine xw F qk m b rfl (λ_ _ _ _ _ _ hr=>⟨_,_,
  (xc (zU (pv 1) (yl K (n:=2) rfl (xo (yy 2 qk.nd) (xo (yy 3 qk.nd) yj))))
  (xi (xF (xn gP hr (xY (xE zY (xE xK (xE xK (xH K 0) (xH K 2)) (xH K 3)) (xE xK (xE xK (xH K 0) (xH K 3)) (xH K 2))) (xE xK (xH K 2) (xH K 3))))))),
  (xj (ze xa (ym (xm xh (xm xh x_))).g)
  (xA (xq (xu (xl uJ (xl yg (xl yg xI xI) xI) (xl yg (xl yg xI xI) xI)) (xl yg xI xI))))),λts KK hl h=>?_⟩)
 obtain⟨a,c,x,p,rfl,ha,hc,hx,hy,k⟩:=h;exact⟨rfl,⟨ha.bd,hx.top.bd⟩,⟨(ha.mul hx.top).bd,hy.bot.bd⟩,⟨hc.bd,hy.top.bd⟩,⟨(hc.mul hy.top).bd,hx.bot.bd⟩,⟨hx.bot.bd,hy.bot.bd⟩,_,_,rfl,by have:=Pol.pp hx.pos hy.pos;omega,(hx.bot.mul hy.bot).bd,k⟩
theorem tO (B:Blt mg bn)(F:Fun K "_law_keeps" "_law_keeps" kj f fd)(m:mg "_law_keeps" = some (.ref f))(b:Binds K fd ["_law_row", "_law_place"] [])(qR:Own P w K mg base 3 "_law_value" ["_law_row", "_law_place"] (spT 2 false false xd5)) :
  Own P w K mg base 4 "_law_keeps" ["_law_row", "_law_place"] (spT 2 false false xe2):=by
 refine xw F jG m b rfl (λ_ _ _ _ _ _ hr=>⟨_,_,
  (xc (yN 2 jG.nd (xn qR hr (xY (pv 0) (pv 1))))
  (xi (xF (wm gZ (xH K 2) (xE xK (xH K 0) (xH K 2)) (xX _))))),
  (xj (xU (xq (xu xa xa)))
  (xA (xl h_ xI (xl yg xI xI)))),λts KK hl h=>?_⟩)
 obtain⟨r,p,rfl,hr,hx,hy,k⟩:=h;exact⟨r.1,r.2.1,[.int r.2.2],p,rfl,hr.1.1,hr.1.2,hx,hy,⟨hr.2.bd,(show Bd (kT r p).2 from xdH hx hy hr)⟩,k⟩
end
end K20
namespace K20
open PySem L2 Trn
section
variable {P:Program} {w:World} {K:PySem.W.Frag} {mg:Str->Option Value} {base:Heap} {f:Addr} {fd:FuncData}
theorem j5 (B:Blt mg bn)(F:Fun K "_law_whole_left" "_law_whole_left" yS f fd)(m:mg "_law_whole_left" = some (.ref f))(b:Binds K fd ["_law_rows", "_law_places"] [])  :
  Own P w K mg base 1 "_law_whole_left" ["_law_rows", "_law_places"] (spT 2 false false xjl):=by
 refine xw F yJ m b rfl (λ_ _ _ _ _ _ hr=>⟨_,_,
  (xc (yV (xR (v8 hr.units) (pv 1) (zi wH) (xX _)) (xi (xF (zi wH))) xZ)
  (xc (dz (i:=2) yJ.nd rfl (Or.inl rfl) (m_ (N:=["_law_at", "_law_places"]) (tau:=[none,some 1]) (XN:=["_law_rows", "_law_places", "_law_lows", "_law_highs", "_law_found", "_law_x", "_law_y"]) (xs:=xf yS) (by decide +kernel) rfl rfl) rfl (zF rfl) (yB K (yf (xY xk xk))) (λ_ _ _ _=>(xT (i:=0) (show(["_law_at", "_law_places"]:List Str).Nodup by decide +kernel) rfl (Or.inr rfl))) (λ_ _ _ _=>zq) (λ_ _ _ _=>(xP (l6 K rfl) rfl (B.get "min") xd6 (yM (zz (ye (N:=["_law_place", "_law_at"]) (tau:=[none,some 0]) (XN:=["_law_at", "_law_places"]) (xs:=_) (by kernel_rfl) rfl rfl) rfl (zF rfl) (yB K (pv 1)) (λ_ _ _ _=>(xT (i:=0) (show(["_law_place", "_law_at"]:List Str).Nodup by decide +kernel) rfl (Or.inl rfl))) (λ_ _ _ _=>zq) (λ_ _ _ _=>(xE zI (zd (yp K) (zd (yp K) (pv 0) (pv 1) (λ_ _=>rfl)) xk (λ_ _=>rfl)) (zd (yp K) (zd (yp K) (pv 0) (pv 1) (λ_ _=>rfl)) xk (λ_ _=>rfl)))))))))
  (xc (dz (i:=3) yJ.nd rfl (Or.inl rfl) (m_ (N:=["_law_at", "_law_places"]) (tau:=[none,some 1]) (XN:=["_law_rows", "_law_places", "_law_lows", "_law_highs", "_law_found", "_law_x", "_law_y"]) (xs:=xf yS) (by decide +kernel) rfl rfl) rfl (zF rfl) (yB K (yf (xY xk xk))) (λ_ _ _ _=>(xT (i:=0) (show(["_law_at", "_law_places"]:List Str).Nodup by decide +kernel) rfl (Or.inr rfl))) (λ_ _ _ _=>zq) (λ_ _ _ _=>(xP (lN K rfl) rfl (B.get "max") xck (yM (zz (ye (N:=["_law_place", "_law_at"]) (tau:=[none,some 0]) (XN:=["_law_at", "_law_places"]) (xs:=_) (by kernel_rfl) rfl rfl) rfl (zF rfl) (yB K (pv 1)) (λ_ _ _ _=>(xT (i:=0) (show(["_law_place", "_law_at"]:List Str).Nodup by decide +kernel) rfl (Or.inl rfl))) (λ_ _ _ _=>zq) (λ_ _ _ _=>(xE zI (zd (yp K) (zd (yp K) (pv 0) (pv 1) (λ_ _=>rfl)) xk (λ_ _=>rfl)) (zd (yp K) (zd (yp K) (pv 0) (pv 1) (λ_ _=>rfl)) xk (λ_ _=>rfl)))))))))
  (xc (yN 4 yJ.nd (zi wH))
  (xc (zR PassesOwn.never rfl (bL rfl (B.get "range") (xY (xH K 2) (xE zY (xH K 3) xk))) (xT (i:=5) yJ.nd rfl (Or.inr rfl)) (xi (zR PassesOwn.never rfl (bL rfl (B.get "range") (xY (xH K 2) (xE zY (xH K 3) xk))) (xT (i:=6) yJ.nd rfl (Or.inr rfl)) (xi (yV (xR (v8 hr.units) (zz (ye (N:=["_law_row", "_law_x", "_law_y"]) (tau:=[none,some 5,some 6]) (XN:=["_law_rows", "_law_places", "_law_lows", "_law_highs", "_law_found", "_law_x", "_law_y"]) (xs:=xf yS) (by decide +kernel) rfl rfl) rfl (zF rfl) (yB K (pv 0)) (λ_ _ _ _=>(xT (i:=0) (show(["_law_row", "_law_x", "_law_y"]:List Str).Nodup by decide +kernel) rfl (Or.inl rfl))) (λ_ _ _ _=>(vL (xR lA (xE zY (xE xK (xH K 0) (pv 1)) (xE xK (xH K 0) (pv 2))) (xH K 0) (xX _)))) (λ_ _ _ _=>(pv 0))) (zi wH) (xX _)) (xi (wW (sP PySem.F.plainAttrs_list PySem.F.slot_list_append PySem.F.type_list_append wd (pv 4) (yM (yf (xY (yf (xY (pv 5) xk)) (yf (xY (pv 6) xk)))))))) xZ)))))
  (xi (xF (pv 4)))))))),
  (xj (yu (xG (xl os_eq xa (uK (b:=true) zW))) (xA (uK (b:=true) zW)) xM)
  (xj (xU (OkF.e (yk (yi (yh (b:=true) (xu xt xt))).c xh yU (yI xgb (xN (OkF.e (yk (yi xa).c xh yU (xl uy (uc (uc xa xa) xt) (uc (uc xa xa) xt)))))))))
  (xj (xU (OkF.e (yk (yi (yh (b:=true) (xu xt xt))).c xh yU (yI xfx (xN (OkF.e (yk (yi xa).c xh yU (xl uy (uc (uc xa xa) xt) (uc (uc xa xa) xt)))))))))
  (xj (we (kE zW))
  (xj (yX (aH (xu xI (xl uJ xI xt))) xh.g (yX (aH (xu xI (xl uJ xI xt))) xh.g (yu (xG (xl os_eq (OkF.e (yk (yi xa).c xh (xG (xl xae (xl uJ (xl yg xI xa) (xl yg xI xa)) xI)) xa)) (uK (b:=true) zW))) (vV (yh (b:=true) (xu (yh (b:=true) (xu xa xt)) (yh (b:=true) (xu xa xt))))) xM)))
  jL))))),λts KK hl h=>?_⟩)
 obtain⟨rows,rfl,hF,k⟩:=h;have cl:=j2 hF.fine;have l8:=hF.l8;refine xO (λ τ=>yG rows≠[]/\τ=[.fz (.tup (rows.map trR)),.fz (.lst ((yG rows).map yO)),.un,.un,.un,.un,.un]) ?_ (λN hN=>?_)
 rotate_left
 .cases e:yG rows with
  | nil=>exact⟨uQ rfl,k [] (by simp) (by simp)⟩
  | cons v vs=>exact⟨uQ (zf yO (λv=>xbf (plc v)) _),hN _ ⟨by rw[e];simp,by rw[e];rfl⟩⟩
 rintro _ ⟨ne,rfl⟩;have fk:∀v∈yG rows,((plc v).1.2≠0/\Bd (plc v).1.2)/\((plc v).2.2≠0/\Bd (plc v).2.2):=λv hv=>by have P:=hF.fine.pk2 hv;have a:=P.1.pos;have b:=P.2.pos;exact⟨⟨by omega,P.1.bot.bd⟩,⟨by omega,P.2.bot.bd⟩⟩
 have fx:∀M∈(yG rows).map (λv=>(plc v).1.1.fdiv (plc v).1.2),-12<=M/\M<=12:=λM hM=>by obtain⟨v,hv,rfl⟩:=xlO.mp hM;exact(hF.floors hv).1
 have fy:∀M∈(yG rows).map (λv=>(plc v).2.1.fdiv (plc v).2.2),-12<=M/\M<=12:=λM hM=>by obtain⟨v,hv,rfl⟩:=xlO.mp hM;exact(hF.floors hv).2
 refine xO (λ τ=>∃a b:Int,((-12<=a/\a<=12)/\(-12<=b/\b<=12))/\τ=[.fz (.tup (rows.map trR)),.fz (.lst ((yG rows).map yO)),.fz (.lst [.int a,.int b]),.un,.un,.un,.un]) ?_ (λN hN=>?_)
 rotate_left
 .refine⟨sqz (by decide),?_⟩;refine⟨by rw[xlq];exact sqz (by omega),wR (λv=>.int ((plc v).1.1.fdiv (plc v).1.2)) (λv hv N h=>⟨(fk v hv).1,h⟩) ?_⟩;refine⟨(yG rows).map (λv=>(plc v).1.1.fdiv (plc v).1.2),by rw[xlC];rfl,by simpa using ne,λa ha _=>?_⟩;refine⟨by rw[xlq];exact sqz (by omega),wR (λv=>.int ((plc v).2.1.fdiv (plc v).2.2)) (λv hv N h=>⟨(fk v hv).2,h⟩) ?_⟩;refine⟨(yG rows).map (λv=>(plc v).2.1.fdiv (plc v).2.2),by rw[xlC];rfl,by simpa using ne,λb hb _=>?_⟩;exact hN _ ⟨a,b,⟨fx a ha,fy b hb⟩,rfl⟩
 rintro _ ⟨a,b',⟨ba,bb⟩,rfl⟩;refine xO (λ τ=>∃c d:Int,((-12<=c/\c<=12)/\(-12<=d/\d<=12))/\τ=[.fz (.tup (rows.map trR)),.fz (.lst ((yG rows).map yO)),.fz (.lst [.int a,.int b']),.fz (.lst [.int c,.int d]),.un,.un,.un]) ?_ (λN hN=>?_)
 rotate_left
 .refine⟨sqz (by decide),?_⟩;refine⟨by rw[xlq];exact sqz (by omega),wR (λv=>.int ((plc v).1.1.fdiv (plc v).1.2)) (λv hv N h=>⟨(fk v hv).1,h⟩) ?_⟩;refine⟨(yG rows).map (λv=>(plc v).1.1.fdiv (plc v).1.2),by rw[xlC];rfl,by simpa using ne,λc hc _=>?_⟩;refine⟨by rw[xlq];exact sqz (by omega),wR (λv=>.int ((plc v).2.1.fdiv (plc v).2.2)) (λv hv N h=>⟨(fk v hv).2,h⟩) ?_⟩;refine⟨(yG rows).map (λv=>(plc v).2.1.fdiv (plc v).2.2),by rw[xlC];rfl,by simpa using ne,λd hd _=>?_⟩;exact hN _ ⟨c,d,⟨fx c hc,fy d hd⟩,rfl⟩
 rintro _ ⟨c,d,⟨bc,bd'⟩,rfl⟩;refine xO (λ τ=>τ=[.fz (.tup (rows.map trR)),.fz (.lst ((yG rows).map yO)),.fz (.lst [.int a,.int b']),.fz (.lst [.int c,.int d]),.ow [],.un,.un]) ?_ (λN hN=>hN _ rfl);rintro _ rfl;refine xO (λ τ=>∃(ps:List D2) (x5 x6:TV),(∀p∈ps,Bx 1000 p/\xb3 rows p)/\ps.length<=2000/\τ=[.fz (.tup (rows.map trR)),.fz (.lst ((yG rows).map yO)),.fz (.lst [.int a,.int b']),.fz (.lst [.int c,.int d]),.ow (ps.map wpT),x5,x6]) ?_ (λN hN=>?_)
 .rintro _ ⟨ps,x5,x6,h1,h2,rfl⟩;exact k ps h1 h2
 refine uO (xaJ a (c+1-a).toNat) (λi τ=>i<=25/\∃(ps:List D2) (x5 x6:TV),(∀p∈ps,Bx 1000 p/\xb3 rows p)/\ps.length<=25*i/\τ=[.fz (.tup (rows.map trR)),.fz (.lst ((yG rows).map yO)),.fz (.lst [.int a,.int b']),.fz (.lst [.int c,.int d]),.ow (ps.map wpT),x5,x6]) (λKK h=>⟨⟨by omega,by omega,by omega,by omega⟩,h⟩) ⟨by decide,[],_,_,by simp,by simp,rfl⟩ ?_ (λ τ ⟨i25,ps,x5,x6,h1,h2,e⟩=>hN _ ⟨ps,x5,x6,h1,by omega,e⟩);rintro i x τ N2 hx ⟨_,ps,x5,x6,h1,h2,rfl⟩ hN2;have hi:=(xle.mp hx).1;rw[ur] at hi;rw[j6 hi] at hx;cases hx;have bx:-12<=a+(i:Int)/\a+(i:Int)<=12:=by omega
 have i24:i<=24:=by omega
 generalize a+(i:Int)=X at bx;show xio _ _ _ _ ([.fz (.tup (rows.map trR)),.fz (.lst ((yG rows).map yO)),.fz (.lst [.int a,.int b']),.fz (.lst [.int c,.int d]),.ow (ps.map wpT),.fz (.int X),x6]:TSt);refine uO (xaJ b' (d+1-b').toNat) (λj τ=>j<=25/\∃(ps:List D2) (x6:TV),(∀p∈ps,Bx 1000 p/\xb3 rows p)/\ps.length<=25*i+j/\τ=[.fz (.tup (rows.map trR)),.fz (.lst ((yG rows).map yO)),.fz (.lst [.int a,.int b']),.fz (.lst [.int c,.int d]),.ow (ps.map wpT),.fz (.int X),x6]) (λKK h=>⟨⟨by omega,by omega,by omega,by omega⟩,h⟩) ⟨by decide,ps,_,h1,by omega,rfl⟩ ?_ (λ τ ⟨j25,ps,x6,h1,h2,e⟩=>hN2 _ ⟨by omega,ps,_,x6,h1,by omega,e⟩);clear h1 h2 ps;rintro j y τ N3 hy ⟨_,ps,x6,h1,h2,rfl⟩ hN3;have hj:=(xle.mp hy).1;rw[ur] at hj;rw[j6 hj] at hy;cases hy;have by':-12<=b'+(j:Int)/\b'+(j:Int)<=12:=by omega
 have j24:j<=24:=by omega
 generalize b'+(j:Int)=Y at by'
 refine⟨by rw[xlq];exact sqz (by omega),yR (λr=>decide (r.1*X+r.2.1*Y>r.2.2)) trR (λr hr N M h1 h0=>?_) ?_⟩
 .have br:=hF.sm r hr;exact⟨wj (by omega) (by omega),wj (by omega) (by omega),ya h1 h0⟩
 dsimp only[xh8,xhx];refine xgc (zf trR (λr=>rfl) _) ?_;rw[List.isEmpty_map,filter_empty];refine ya (b:=rows.all λr=>!decide (r.1*X+r.2.1*Y>r.2.2)) (λc=>?_) (λc=>?_)
 .have kp:xb3 rows (X,Y):=λr hr=>by
   have:=xkS.mp c r hr;have:¬(r.1*X+r.2.1*Y>r.2.2):=by simpa using this
   show r.1*X+r.2.1*Y<=r.2.2;omega
  refine⟨by rw[xlq];exact sqz (by omega),hN3 _ ⟨by omega,ps++[(X,Y)],.fz (.int Y),λp hp=>?_,by rw[xll,xlx];omega,?_⟩⟩
  .rcases xlF.mp hp with z | z
   .exact h1 p z
   .rw[xlU.mp z];exact⟨by unfold Bx;simp only;omega,kp⟩
  .rw[xlA];rfl
 .exact hN3 _ ⟨by omega,ps,.fz (.int Y),h1,by omega,rfl⟩
theorem nt (B:Blt mg bn)(F:Fun K "_law_more" "_law_more" u4 f fd)(m:mg "_law_more" = some (.ref f))(b:Binds K fd ["_law_state_here", "_law_field_here"] [])(yE:Own P w K mg base 11 "round_papers" ["field"] (spT 1 false true vE))(xS:Own P w K mg base 1 "_law_take" ["_law_state_here", "_law_many"] (spT 1 true false xaK)) :
  Own P w K mg base 12 "_law_more" ["_law_state_here", "_law_field_here"] (spT 1 true false xek):=by
 refine mU F qS m b rfl (λ_ _ _ _ _ _ hr=>⟨_,_,
  (xc (zQ (i:=2) qS.nd rfl (Or.inl rfl) (ye (N:=["_law_weights", "_law_row"]) (tau:=[none,none]) (XN:=["_law_state_here", "_law_field_here", "_law_rows"]) (xs:=xf u4) (by decide +kernel) rfl rfl) rfl (zG (yt rfl (yt rfl u5))) (yB K (xn yE hr (yM (pv 1)))) (λ_ _ _ _=>(yl K (n:=2) rfl (xo (xT (i:=0) (show(["_law_weights", "_law_row"]:List Str).Nodup by decide +kernel) rfl (Or.inl rfl)) (xo (xT (i:=1) (show(["_law_weights", "_law_row"]:List Str).Nodup by decide +kernel) rfl (Or.inl rfl)) yj)))) (λ_ _ _ _=>zq) (λ_ _ _ _=>(pv 1)))
  (xc (zQ (i:=2) qS.nd rfl (Or.inl rfl) (ye (N:=["_law_a", "_law_b", "_law_c"]) (tau:=[none,none,none]) (XN:=["_law_state_here", "_law_field_here", "_law_rows"]) (xs:=xf u4) (by decide +kernel) rfl rfl) rfl (zG (yt rfl (yt rfl (yt rfl u5)))) (yB K (pv 2)) (λ_ _ _ _=>(yl K (n:=3) rfl (xo (xT (i:=0) (show(["_law_a", "_law_b", "_law_c"]:List Str).Nodup by decide +kernel) rfl (Or.inl rfl)) (xo (xT (i:=1) (show(["_law_a", "_law_b", "_law_c"]:List Str).Nodup by decide +kernel) rfl (Or.inl rfl)) (xo (xT (i:=2) (show(["_law_a", "_law_b", "_law_c"]:List Str).Nodup by decide +kernel) rfl (Or.inl rfl)) yj))))) (λ_ _ _ _=>(vL (PW.pt (sj (xR gZ (xP (n5 rfl) rfl (B.get "max") xck (xY (xP wg rfl (B.get "abs") qL (yM (pv 0))) (xP wg rfl (B.get "abs") qL (yM (pv 1))))) xk (xX _)) (js (xR gZ (xP wg rfl (B.get "abs") qL (yM (pv 2))) xk (xX _))))))) (λ_ _ _ _=>(yf (yd (pv 0) (xY (pv 1) (pv 2))))))
  (xc (yV (xR (v8 hr.units) (pv 2) (zi wH) (xX _)) (xi (xF (pv 1))) xZ)
  (xi (xF (xE (mh K) (pv 1) (yf (yM (zd (yp K) (pv 2) (xn xS hr (xY (pv 0) (xP (y4 K) rfl (B.get "len") vv (yM (pv 2))))) (λ_ _=>rfl)))))))))),
  (xj (xU (OkF.e (yk (yi (xq (xN xa))).c (ym (xm xh (xm xh x_))) yU xa)))
  (xj (xU (OkF.e (yk (yi xa).c (ym (xm xh (xm xh (xm xh x_)))) (jr (xG (xl h_ (yI xbc (xu (yI qI (xN xa)) (yI qI (xN xa)))) xt)) (xG (xl h_ (yI qI (xN xa)) xt))) (yh (b:=true) (yb xa (xu xa xa))))))
  (xj (yu (xG (xl os_eq xa (uK (b:=true) zW))) (xA xa) xM)
  (xA (rV xa (yh (b:=true) (xN (uc xa (y9 (xN (yI qJ (xN xa)))))))))))),λts KK hl h=>?_⟩)
 obtain⟨rows,rfl,hf,FR,l7,k0',k⟩:=h;refine xO (λ τ=>∃Ls,RP rows Ls/\τ=[.st,.fz (.tup (rows.map trR)),.fz (.lst ((Ls.map (wo rows)).map trR))]) ?_ (λN hN=>?_)
 rotate_left
 .refine⟨rows,rfl,hf,FR,λLs R=>?_⟩;have ln:=R.len;refine⟨by rw[xlq];exact sqz (by omega),wR (λx=>trR (wo rows x)) (λx hx N h=>⟨rfl,h⟩) (hN _ ⟨Ls,R,?_⟩)⟩;rw[xlC];rfl
 rintro _ ⟨Ls,R,rfl⟩;have ln:=R.len;refine xO (λ τ=>τ=[.st,.fz (.tup (rows.map trR)),.fz (.lst ((Ls.map (wo rows)).map trR))]) ?_ (λN hN=>?_)
 rotate_left
 .refine⟨by rw[xlq,xlq];exact sqz (by omega),yR (λ_=>true) trR (λr hr N M h1 h0=>?_) ?_⟩
  .have F:=(R.frow hf FR r (xlH _ hr)).1;unfold Pol.s_ at F;refine⟨rfl,?_⟩;refine ya (b:=decide ((if (if r.2.1<0 then -r.2.1 else r.2.1)>(if r.1<0 then -r.1 else r.1) then(if r.2.1<0 then -r.2.1 else r.2.1) else(if r.1<0 then -r.1 else r.1))<=30)) (λ_=>?_) (λc=>?_)
   .exact ya (b:=decide ((if r.2.2<0 then -r.2.2 else r.2.2)<=1000)) (λ_=>h1 rfl) (λc=>absurd (xmA c) (by split<;>omega))
   .exact absurd (xmA c) (by split<;>split<;>omega)
  .rw[List.filter_eq_self.mpr (λ_ _=>rfl)];exact hN _ rfl
 rintro _ rfl;refine xO (λ τ=>Ls≠[]/\τ=[.st,.fz (.tup (rows.map trR)),.fz (.lst ((Ls.map (wo rows)).map trR))]) ?_ (λN hN=>?_)
 rotate_left
 .cases Ls with
  | nil=>exact⟨uQ rfl,k0'⟩
  | cons x xs=>exact⟨uQ (zf trR (λr=>rfl) _),hN _ ⟨by simp,rfl⟩⟩
 rintro _ ⟨ne,rfl⟩;have lp:0<Ls.length:=xls.mpr ne;have ml:((Ls.map (wo rows)).map trR).length=Ls.length:=by rw[xlq,xlq]
 refine⟨tk (by rw[ml];omega),λa a0 a1=>?_⟩;rw[ml] at a1;obtain⟨n,rfl⟩:=xkg a0;have hn:n<Ls.length:=by omega
 show sS (atT ((Ls.map (wo rows)).map trR) (n:Int)) _;rw[dX,xlf,xlf,xlc hn];refine⟨xcR (by rw[xlq,xlx];omega),?_⟩;have:=k Ls Ls[n] R (xlk hn);rw[xlA] at this;exact this
end
end K20
namespace K20
open PySem L2 Trn
section
variable {P:Program} {w:World} {K:PySem.W.Frag} {mg:Str->Option Value} {base:Heap} {f:Addr} {fd:FuncData}
theorem xhh (B:Blt mg bn)(F:Fun K "law" "law" jK f fd)(kB:Own P w K mg base 2 "_law_state" ["_law_script", "_law_k"] (cO K))(qQ:Own P w K mg base 2 "_law_field" ["_law_state_here"] (spT 0 true false xaW))(uf:Own P w K mg base 1 "_law_whole_left" ["_law_rows", "_law_places"] (spT 2 false false xjl))(xS:Own P w K mg base 1 "_law_take" ["_law_state_here", "_law_many"] (spT 1 true false xaK))(wc:Own P w K mg base 9 "corners" ["field"] (spT 1 false true fU))(zB:Own P w K mg base 12 "round_corners" ["field"] (spT 1 false false jS))(wD:Own P w K mg base 10 "broken" ["field"] (spT 1 false true tW))(jC:Own P w K mg base 12 "_law_more" ["_law_state_here", "_law_field_here"] (spT 1 true false xek))(uH:Own P w K mg base 5 "keeps" ["row", "place"] (spT 2 false false nS))(zb:Own P w K mg base 12 "paper_against" ["field", "place"] (spT 2 false false jI))(cB:Own P w K mg base 10 "holds" ["field", "row"] (spT 2 false false xez))(vS:Own P w K mg base 11 "corner_paper" ["field", "number"] (spT 2 false false fi)) :
  mF P w K mg base CX0 13 f fd ["_law_script"] (lZ K):=by
 refine xdj F v5 rfl (λ_ _ _ _ _ _ hr=>⟨_,_,
  (xc (zR PassesOwn.never rfl (aa rfl (B.get "range") (yM (xP (n5 rfl) rfl (B.get "max") xck (xY xk (xP (xbW rfl) rfl (B.get "min") xd6 (xY (xP (y4 K) rfl (B.get "len") vv (yM (pv 0))) xk)))))) (yy 1 v5.nd) (xc (yN 2 v5.nd (xn kB hr (xY (pv 0) (pv 1))))
  (xc (fv (i:=3) v5.nd rfl (Or.inr rfl) (xn qQ hr (yM (pv 2))))
  (xc (zU (yf (xY (xn wc hr (yM (pv 3))) (xn zB hr (yM (pv 3))))) (yl K (n:=2) rfl (xo (yy 4 v5.nd) (xo (xT (i:=5) v5.nd rfl (Or.inr rfl)) yj))))
  (xc (yV (xR (zV hr.units) (zz (ye (N:=["_law_place", "_law_later"]) (tau:=[none,some 5]) (XN:=["_law_script", "_law_k", "_law_state_here", "_law_field_here", "_law_ahead", "_law_later", "_law_number", "_law_place", "_law_at", "_law_others", "_law_more_here", "_law_other"]) (xs:=xf jK) (by decide +kernel) rfl rfl) rfl (zF rfl) (yB K (xn wD hr (yM (pv 3)))) (λ_ _ _ _=>(xT (i:=0) (show(["_law_place", "_law_later"]:List Str).Nodup by decide +kernel) rfl (Or.inl rfl))) (λ_ _ _ _=>(vL (xR (xgS hr.units) (pv 0) (pv 1) (by with_unfolding_all rfl)))) (λ_ _ _ _=>(pv 0))) (zi wH) (xX _)) (xi (xF vW)) xZ)
  (xc (yV (xR (zV hr.units) (zz (ye (N:=["_law_place", "_law_later", "_law_field_here"]) (tau:=[none,some 5,some 3]) (XN:=["_law_script", "_law_k", "_law_state_here", "_law_field_here", "_law_ahead", "_law_later", "_law_number", "_law_place", "_law_at", "_law_others", "_law_more_here", "_law_other"]) (xs:=xf jK) (by decide +kernel) rfl rfl) rfl (zF rfl) (yB K (pv 4)) (λ_ _ _ _=>(xT (i:=0) (show(["_law_place", "_law_later", "_law_field_here"]:List Str).Nodup by decide +kernel) rfl (Or.inl rfl))) (λ_ _ _ _=>(vL (PW.pt (sj (xR (pE hr.units) (pv 0) (xn wD hr (yM (pv 2))) (by with_unfolding_all rfl)) (js (xR (pE hr.units) (pv 0) (pv 1) (by with_unfolding_all rfl))))))) (λ_ _ _ _=>(pv 0))) (zi wH) (xX _)) (xi (xF vW)) xZ)
  (xc (zR PassesOwn.never rfl (tX K rfl (B.get "enumerate") (yM (xn wD hr (yM (pv 3))))) (yl K (n:=2) rfl (xo (yy 6 v5.nd) (xo (yy 7 v5.nd) yj))) (xi (yV (PW.pt (jh (w5 (xn uH hr (xY (zd (yp K) (xn vS hr (xY (pv 3) (pv 6))) xk (λ_ _=>rfl)) (pv 7)))) (qM (ja (a_ (xn zb hr (xY (pv 3) (pv 7)))))))) (xi (xF vW)) xZ)))
  (xc (yV (xR (zV hr.units) (zz (ye (N:=["_law_place", "_law_field_here"]) (tau:=[none,some 3]) (XN:=["_law_script", "_law_k", "_law_state_here", "_law_field_here", "_law_ahead", "_law_later", "_law_number", "_law_place", "_law_at", "_law_others", "_law_more_here", "_law_other"]) (xs:=xf jK) (by decide +kernel) rfl rfl) rfl (zF rfl) (yB K (pv 5)) (λ_ _ _ _=>(xT (i:=0) (show(["_law_place", "_law_field_here"]:List Str).Nodup by decide +kernel) rfl (Or.inl rfl))) (λ_ _ _ _=>(vL (ja (rD (xn zb hr (xY (pv 1) (pv 0))))))) (λ_ _ _ _=>(pv 0))) (zi wH) (xX _)) (xi (xF vW)) xZ)
  (xc (zR PassesOwn.never rfl (yB K (xn uf hr (xY (pv 3) (pv 4)))) (yy 7 v5.nd) (xi (yV (ja (rD (xn zb hr (xY (pv 3) (pv 7))))) (xi (xF vW)) xZ)))
  (xc (yN 8 v5.nd (xn xS hr (xY (pv 2) (xP (y4 K) rfl (B.get "len") vv (yM (pv 3))))))
  (xc (yN 9 v5.nd (zi (xY (xE (mh K) (qv (xb5 K) (pv 3) (qq (pv 8)) gK) (qv (xb5 K) (pv 3) gK (qq (pv 8)))) (xfY K (pv 3) (qq (uC zg xk))))))
  (xc (yV (xR (jP K hr.units) (xP (y4 K) rfl (B.get "len") vv (yM (pv 3))) xk (xX _)) (xc (wW (sP PySem.F.plainAttrs_list PySem.F.slot_list_append PySem.F.type_list_append wd (pv 9) (yM (xE (mh K) (pv 3) (qv (xb5 K) (pv 3) (qq (pv 8)) (qq (xE (mh K) (pv 8) xk)))))))
  (xc (yN 10 v5.nd (xn jC hr (xY (pv 2) (pv 3))))
  (xc (yV (xR (zV hr.units) (zz (ye (N:=["_law_place", "_law_field_here"]) (tau:=[none,some 3]) (XN:=["_law_script", "_law_k", "_law_state_here", "_law_field_here", "_law_ahead", "_law_later", "_law_number", "_law_place", "_law_at", "_law_others", "_law_more_here", "_law_other"]) (xs:=xf jK) (by decide +kernel) rfl rfl) rfl (zF rfl) (yB K (xn zB hr (yM (pv 10)))) (λ_ _ _ _=>(xT (i:=0) (show(["_law_place", "_law_field_here"]:List Str).Nodup by decide +kernel) rfl (Or.inl rfl))) (λ_ _ _ _=>(vL (ja (rD (xn zb hr (xY (pv 1) (pv 0))))))) (λ_ _ _ _=>(pv 0))) (zi wH) (xX _)) (xi (xF vW)) xZ)
  (xi (yV (PW.pt (sj (xR (zV hr.units) (pv 10) (pv 3) (xX _)) (js (xR xcr (xn cB hr (xY (pv 10) (zd (yp K) (pv 10) (uC zg xk) (λ_ _=>rfl)))) vW (xX _))))) (xi (xF vW)) xZ))))) xZ)
  (xi (zR PassesOwn.never rfl (yB K (pv 9)) (yy 11 v5.nd) (xi (yV (PW.pt (jh (xR (zV hr.units) (xn wc hr (yM (pv 11))) (pv 4) (xX _)) (qM (xR (zV hr.units) (xn zB hr (yM (pv 11))) (pv 5) (xX _))))) (xi (xF vW)) xZ))))))))))))))))
  (xi (xF vW))),
  (xj (yX (g9 (xN (yI xbc (xu xt (yI xfn (xu xc4 xt)))))) xh.g (xj (xa8 xa)
  (xj (xU (y9 (b:=true) zW))
  (xj (ze (yh (b:=true) (xu (xq (xN xa)) (xq (xN xa)))) (ym (xm xh (xm xh x_))).g)
  (xj (yu (xG (xl vq (OkF.e (yk (yi (xq (xN xa))).c xh (xG (xl xdz xa xa)) xa)) (uK (b:=true) zW))) (xA qH) xM)
  (xj (yu (xG (xl vq (OkF.e (yk (yi xa).c xh (jr (xG (xl xdz xa (xq (xN xa)))) (xG (xl xdz xa xa))) xa)) (uK (b:=true) zW))) (xA qH) xM)
  (xj (yX (fZ (xN (xq (xN xa)))) (ym (xm xh (xm xh x_))).g (yu (uZ (za (xq (xu (uc (xq (xu xa xa)) xt) xa))) (za (rm (xq (xu xa xa))))) (xA qH) xM))
  (xj (yu (xG (xl vq (OkF.e (yk (yi xa).c xh (za (rC (xq (xu xa xa)))) xa)) (uK (b:=true) zW))) (xA qH) xM)
  (xj (yX (yi (xq (xu xa xa))) xh.g (yu (za (rC (xq (xu xa xa)))) (xA qH) xM))
  (xj (xU (y9 (xN (yI qJ (xN xa)))))
  (xj (we (kE (xu (rV (xcx xa (vA xa) kU) (xcx xa kU (vA xa))) (xfD xa (zh xt)))))
  (xj (yu (xG (xl hG (yI qJ (xN xa)) xt)) (xj (vV (rV xa (xcx xa (vA xa) (vA (rV xa xt)))))
  (xj (xU (y9 (xN xa)))
  (xj (yu (xG (xl vq (OkF.e (yk (yi (xq (xN xa))).c xh (za (rC (xq (xu xa xa)))) xa)) (uK (b:=true) zW))) (xA qH) xM)
  (yu (jr (xG (xl vq xa xa)) (xG (xl xfR (xq (xu xa (uc xa (zh xt)))) qH))) (xA qH) xM)))) xM)
  (xfU (i:=9) (yX (yi xa) xh.g (yu (uZ (xG (xl vq (xq (xN xa)) xa)) (xG (xl vq (xq (xN xa)) xa))) (xA qH) xM)))))))))))))))
  (xA qH)),λns hl=>?_⟩)
 refine xO (λ τ=>True) (λ τ _=>rfl) (λN hN=>?_);refine uO _ (λi τ=>∃(x1 x2 x3 x4 x5 x6 x7 x8 x9 x10 x11:TV),τ=[.sc ns,x1,x2,x3,x4,x5,x6,x7,x8,x9,x10,x11]) (λKK h=>λ_=>⟨⟨by split<;>split<;>omega,by split<;>split<;>omega⟩,h⟩) ⟨_,_,_,_,_,_,_,_,_,_,_,rfl⟩ ?_ (λ τ _=>hN _ trivial);rintro i x τ N2 hx ⟨x1,x2,x3,x4,x5,x6,x7,x8,x9,x10,x11,rfl⟩ hN2;have hi:=(xle.mp hx).1;rw[ur] at hi;rw[j6 hi] at hx;cases hx;dsimp only[xhI,xcH,eName,xiE];have hk:(0:Int)<=(0:Int)+i:=by omega
 generalize (0:Int)+i=kk at hk;show xhS _ _ _ ([.sc ns,.fz (.int kk),x2,x3,x4,x5,x6,x7,x8,x9,x10,x11]:TSt);refine xO (λ τ=>τ=[.sc ns,.fz (.int kk),.st,x3,x4,x5,x6,x7,x8,x9,x10,x11]) ?_ (λN hN=>⟨hk,hN _ rfl⟩);rintro _ rfl;refine xO (λ τ=>∃rows,LF rows/\τ=[.sc ns,.fz (.int kk),.st,.fz (.tup (rows.map trR)),x4,x5,x6,x7,x8,x9,x10,x11]) ?_ (λN hN=>⟨rfl,λrows hF=>hN _ ⟨rows,hF,rfl⟩⟩);rintro _ ⟨rows,hF,rfl⟩;have FR:=hF.fine;have hf:=hF.isf;have cl:=j2 FR;have l8:=hF.l8;have l3:=hF.l3;have ml:(rows.map trR).length=rows.length:=xlq _;have fl:((yG rows).filter brk).length<=900:=xmf (xlp _ _) cl;have lay:∀l:List Pol.R3,PyData.canLayAll0 (uP (l.map yO))=true:=zf yO (λv=>xbf (plc v));refine xO (λ τ=>∃Ls,RP rows Ls/\τ=[.sc ns,.fz (.int kk),.st,.fz (.tup (rows.map trR)),.fz (.lst ((yG rows).map yO)),.fz (.lst ((zO rows Ls).map yO)),x6,x7,x8,x9,x10,x11]) ?_ (λN hN=>⟨rows,rfl,hf,FR,rows,rfl,hf,FR,λLs R=>⟨rfl,hN _ ⟨Ls,R,rfl⟩⟩⟩);rintro _ ⟨Ls,R,rfl⟩;have rl:=R.len_corn hf FR;have keep:∀Ls',RP rows Ls'->∀p:Pol.R3,0<p.2.2->Kp (RR rows Ls) p->Kp (RR rows Ls') p:=λLs' R' p pz=>R'.within hf FR hf FR R (λ_ _ h=>h) pz;refine xO (λ τ=>τ=[.sc ns,.fz (.int kk),.st,.fz (.tup (rows.map trR)),.fz (.lst ((yG rows).map yO)),.fz (.lst ((zO rows Ls).map yO)),x6,x7,x8,x9,x10,x11]) ?_ (λN hN=>?_)
 rotate_left
 .refine⟨rows,rfl,hf,FR,by rw[xlq];exact sqz (by omega),yR (λv=>((zO rows Ls).map yO).any λu=>teq u (yO v)) yO (λv hv N M h1 h0=>⟨⟨rfl,lay _,by show 2<=60;decide⟩,ya h1 h0⟩) ?_⟩;have e:((yG rows).filter brk).filter (λv=>((zO rows Ls).map yO).any λu=>teq u (yO v))=[]:=by rw[xk5];intro v hv c;obtain⟨mv,bv⟩:=xlL.mp hv;rw[xbu] at c;obtain⟨u,hu,e⟩:=xlO.mp (xmB c);exact R.gone hf FR mv bv hu e.symm
  rw[e];exact⟨uQ rfl,hN _ rfl⟩
 rintro _ rfl;refine xO (λ τ=>τ=[.sc ns,.fz (.int kk),.st,.fz (.tup (rows.map trR)),.fz (.lst ((yG rows).map yO)),.fz (.lst ((zO rows Ls).map yO)),x6,x7,x8,x9,x10,x11]) ?_ (λN hN=>?_)
 rotate_left
 .refine⟨by rw[xlq];exact sqz (by omega),yR (λv=>!((((yG rows).filter brk).map yO).any λu=>teq u (yO v))&&!(((zO rows Ls).map yO).any λu=>teq u (yO v))) yO (λv hv N M h1 h0=>?_) ?_⟩
  .refine⟨rows,rfl,hf,FR,⟨rfl,lay _,by show 2<=60;decide⟩,?_⟩;refine ya (b := !((((yG rows).filter brk).map yO).any λu=>teq u (yO v))) (λc=>⟨⟨rfl,lay _,by show 2<=60;decide⟩,?_⟩) (λc=>h0 (by rw[c];rfl));exact ya (b := !(((zO rows Ls).map yO).any λu=>teq u (yO v))) (λd=>h1 (by rw[c,d];rfl)) (λd=>h0 (by rw[c,d];rfl))
  have e:(yG rows).filter (λv=>!((((yG rows).filter brk).map yO).any λu=>teq u (yO v))&&!(((zO rows Ls).map yO).any λu=>teq u (yO v)))=[]:=by
   rw[xk5];intro v hv c;rw[xbu,xbu,xj5,Bool.not_eq_true',Bool.not_eq_true',decide_eq_false_iff_not,decide_eq_false_iff_not] at c;cases hb:brk v with
   | true=>exact c.1 (xlP (xlL.mpr ⟨hv,hb⟩))
   | false=>exact c.2 (xlP (R.stay hf FR hv hb))
  rw[e];exact⟨uQ rfl,hN _ rfl⟩
 rintro _ rfl;refine xO (λ τ=>∃y6 y7:TV,τ=[.sc ns,.fz (.int kk),.st,.fz (.tup (rows.map trR)),.fz (.lst ((yG rows).map yO)),.fz (.lst ((zO rows Ls).map yO)),y6,y7,x8,x9,x10,x11]) ?_ (λN hN=>?_)
 rotate_left
 .refine uO (qP (((yG rows).filter brk).map yO)) (λj τ=>∃y6 y7:TV,τ=[.sc ns,.fz (.int kk),.st,.fz (.tup (rows.map trR)),.fz (.lst ((yG rows).map yO)),.fz (.lst ((zO rows Ls).map yO)),y6,y7,x8,x9,x10,x11]) (λKK h=>⟨rows,rfl,hf,FR,h⟩) ⟨_,_,rfl⟩ ?_ (λ τ ⟨y6,y7,e⟩=>hN _ ⟨y6,y7,e⟩);rintro j y τ N3 hy ⟨y6,y7,rfl⟩ hN3;rw[bN yO _ (0,0,0)] at hy;obtain⟨n,hn,rfl⟩:=zX hy;have nl:n<((yG rows).filter brk).length:=xlT.mp (xlQ hn);have hv:((yG rows).filter brk)[n]? = some (((yG rows).filter brk).getD n (0,0,0)):=by rw[xk_,xlc nl];rfl
  generalize ((yG rows).filter brk).getD n (0,0,0)=v at hv;obtain⟨mv,bv⟩:=xlL.mp (xlQ hv);refine⟨rfl,rows,n,v,rfl,hf,FR,hv,λx hx G nk=>⟨wo rows x,plc v,rfl,G.r200 hf,FR.pk mv,?_⟩⟩;refine ya (b:=zH (wo rows x) (plc v)) (λc=>by rw[nk] at c;cases c) (λ_=>?_);refine⟨rows,plc v,rfl,hf,FR,FR.pk mv,λLs' R'=>⟨λall=>?_,λr hr nk us=>hN3 _ ⟨_,_,rfl⟩⟩⟩;obtain⟨L,PL,al⟩:=R'.all v mv bv;obtain⟨z,hz,nz⟩:=gc hf FR mv bv PL;obtain⟨y,hy,ey⟩:=al z hz;have:=all _ (xlH _ (xlP hy));rw[ey,nz] at this;cases this
 rintro _ ⟨y6,y7,rfl⟩;refine xO (λ τ=>τ=[.sc ns,.fz (.int kk),.st,.fz (.tup (rows.map trR)),.fz (.lst ((yG rows).map yO)),.fz (.lst ((zO rows Ls).map yO)),y6,y7,x8,x9,x10,x11]) ?_ (λN hN=>?_)
 rotate_left
 .refine⟨by rw[xlq];exact sqz (by omega),yR (λ_=>false) yO (λv hv N M h1 h0=>?_) ?_⟩
  .obtain⟨vz,_,C⟩:=R.corner hf FR hv;refine⟨rows,plc v,rfl,hf,FR,R.pk hf FR hv,λLs' R'=>⟨λ_=>h0 rfl,λr hr nk us=>?_⟩⟩;have:=keep Ls' R' v vz C.kept r hr;rw[uW _ vz,xmx this] at nk;cases nk
  rw[xk5.mpr (λ_ _=>xj8)];exact⟨uQ rfl,hN _ rfl⟩
 rintro _ rfl;refine xO (λ τ=>∃y7:TV,τ=[.sc ns,.fz (.int kk),.st,.fz (.tup (rows.map trR)),.fz (.lst ((yG rows).map yO)),.fz (.lst ((zO rows Ls).map yO)),y6,y7,x8,x9,x10,x11]) ?_ (λN hN=>?_)
 rotate_left
 .refine⟨rows,rfl,hF,λps hps _=>?_⟩;refine zt (all:=ps.map wpT) (λj τ=>∃y7:TV,τ=[.sc ns,.fz (.int kk),.st,.fz (.tup (rows.map trR)),.fz (.lst ((yG rows).map yO)),.fz (.lst ((zO rows Ls).map yO)),y6,y7,x8,x9,x10,x11]) ⟨_,rfl⟩ ?_ (λ τ h=>hN _ h);rintro j y τ N3 hy ⟨y7,rfl⟩ hN3;obtain⟨p,hp,rfl⟩:=zX hy;obtain⟨bp,kp⟩:=hps p (xlQ hp);have pk:=xjJ bp;refine⟨rows,wp p,rfl,hf,FR,⟨pk.1.mono (by decide),pk.2.mono (by decide)⟩,λLs' R'=>⟨λ_=>hN3 _ ⟨_,rfl⟩,λr hr nk us=>?_⟩⟩;have:=R'.whole hf FR (p:=(p.1,p.2,1)) rfl (λr hr=>by have:=kp r hr;simp only[Pol.val];omega) r hr;rw[<-xiv,uW _ (show(0:Int)<1 by decide),xmx this] at nk;cases nk
 rintro _ ⟨y7,rfl⟩;refine xO (λ τ=>∃n:Nat,n<rows.length/\τ=[.sc ns,.fz (.int kk),.st,.fz (.tup (rows.map trR)),.fz (.lst ((yG rows).map yO)),.fz (.lst ((zO rows Ls).map yO)),y6,y7,.fz (.int (n:Nat)),x9,x10,x11]) ?_ (λN hN=>?_)
 rotate_left
 .refine⟨tk (by rw[ml];omega),λa a0 a1=>?_⟩;rw[ml] at a1;obtain⟨n,rfl⟩:=xkg a0;exact hN _ ⟨n,by omega,rfl⟩
 rintro _ ⟨n,hn,rfl⟩;have big:∀o:List Pol.R3,o.length<=8->3<=o.length->(∀r,r∈o↔r∈rows)->xg o=true/\yK o:=λo h8 h3 eq=>hF.big h3 h8 (λr hr=>(eq r).mpr hr) λr hr=>⟨hF.frow r ((eq r).mp hr),hF.dir r ((eq r).mp hr)⟩
 refine xO (λ τ=>∃os:List (List Pol.R3),os.length<=3/\(∀o∈os,o.length<=8/\3<=o.length/\∀r,r∈o↔r∈rows)/\τ=[.sc ns,.fz (.int kk),.st,.fz (.tup (rows.map trR)),.fz (.lst ((yG rows).map yO)),.fz (.lst ((zO rows Ls).map yO)),y6,y7,.fz (.int (n:Nat)),.ow (os.map λo=>.tup (o.map trR)),x10,x11]/\os.length<=2) ?_ (λN hN=>?_)
 rotate_left
 .have e1:gU (rows.map trR) (some (n:Int)) none=(rows.drop n).map trR:=by rw[me,List.map_drop]
  have e2:gU (rows.map trR) none (some (n:Int))=(rows.take n).map trR:=by rw[xca,List.map_take]
  refine⟨xcR (by rw[e1,e2];simp;omega),rfl,?_⟩;have len:(rows.drop n++rows.take n).length=rows.length:=by rw[xll,xln,xly];omega
  refine hN _ ⟨[rows.drop n++rows.take n,rows.reverse],by simp,λo ho=>?_,?_,by simp⟩
  .simp only[xlI,xlY,xmC] at ho;rcases ho with rfl | rfl
   .exact⟨by omega,by omega,λr=>by rw[xlF,Or.comm,<-xlF,xl7]⟩
   .exact⟨by rw[xlv];omega,by rw[xlv];omega,λr=>List.mem_reverse⟩
  .show([.sc ns,.fz (.int kk),.st,.fz (.tup (rows.map trR)),.fz (.lst ((yG rows).map yO)),.fz (.lst ((zO rows Ls).map yO)),y6,y7,.fz (.int (n:Nat)),.ow [.tup (gU (rows.map trR) (some (n:Int)) none++gU (rows.map trR) none (some (n:Int))),.tup (rows.map trR).reverse],x10,x11]:TSt)=_;rw[e1,e2,xlB,xlB,xlD,xlA,List.map_reverse]
 rintro _ ⟨os,o1,hos,rfl,o2⟩;refine xO (λ τ=>∃(os:List (List Pol.R3)) (y10:TV),os.length<=3/\(∀o∈os,o.length<=8/\3<=o.length/\∀r,r∈o↔r∈rows)/\τ=[.sc ns,.fz (.int kk),.st,.fz (.tup (rows.map trR)),.fz (.lst ((yG rows).map yO)),.fz (.lst ((zO rows Ls).map yO)),y6,y7,.fz (.int (n:Nat)),.ow (os.map λo=>.tup (o.map trR)),y10,x11]) ?_ (λN hN=>?_)
 rotate_left
 .refine ya (b:=decide (((rows.map trR).length:Int)<8)) (λc=>?_) (λ_=>hN _ ⟨os,x10,by omega,hos,rfl⟩);have c:=xmB c;rw[ml] at c;have l7:rows.length<=7:=by omega
  refine xO (λ τ=>∃os:List (List Pol.R3),os.length<=3/\(∀o∈os,o.length<=8/\3<=o.length/\∀r,r∈o↔r∈rows)/\τ=[.sc ns,.fz (.int kk),.st,.fz (.tup (rows.map trR)),.fz (.lst ((yG rows).map yO)),.fz (.lst ((zO rows Ls).map yO)),y6,y7,.fz (.int (n:Nat)),.ow (os.map λo=>.tup (o.map trR)),x10,x11]) ?_ (λN hN=>?_)
  rotate_left
  .have e:gU (rows.map trR) (some (n:Int)) (some ((n:Int)+1))=[trR (yD rows n)]:=by unfold gU;rw[show((n:Int)+1)=((n+1:Nat):Int) by omega,HT.tR,HT.tR,ml,xml (by omega),xml (by omega),show n+1-n=1 by omega,<-List.map_drop,<-List.map_take,List.take_one,List.head?_drop,vD hn];rfl
   refine⟨xcR (by rw[e];simp;omega),⟨sqz (by rw[xlq];omega),hN _ ⟨os++[rows++[yD rows n]],by simp;omega,λo ho=>?_,?_⟩⟩⟩
   .rcases xlF.mp ho with ho | ho
    .exact hos o ho
    .rw[xlU.mp ho];refine⟨by simp;omega,by simp;omega,λr=>⟨λhr=>?_,λhr=>xlG _ hr⟩⟩;rcases xlF.mp hr with hr | hr
     .exact hr
     .rw[xlU.mp hr];exact zy hn
   .show([.sc ns,.fz (.int kk),.st,.fz (.tup (rows.map trR)),.fz (.lst ((yG rows).map yO)),.fz (.lst ((zO rows Ls).map yO)),y6,y7,.fz (.int (n:Nat)),.ow ((os.map λo=>Tr.tup (o.map trR))++[.tup (rows.map trR++gU (rows.map trR) (some (n:Int)) (some ((n:Int)+1)))]),x10,x11]:TSt)=_;rw[e,xlA,xlB,xlD,xlA];rfl
  clear hos o2 o1 os;rintro _ ⟨os,o3,hos,rfl⟩;refine xO (λ τ=>∃rows2:List Pol.R3,xg rows2=true/\yK rows2/\(∀r∈rows,r∈rows2)/\τ=[.sc ns,.fz (.int kk),.st,.fz (.tup (rows.map trR)),.fz (.lst ((yG rows).map yO)),.fz (.lst ((zO rows Ls).map yO)),y6,y7,.fz (.int (n:Nat)),.ow (os.map λo=>.tup (o.map trR)),.fz (.tup (rows2.map trR)),x11]) ?_ (λN hN=>?_)
  rotate_left
  .refine⟨rows,rfl,hf,FR,l7,hN _ ⟨rows,hf,FR,λ_ h=>h,rfl⟩,λLm x Rm hx=>?_⟩;have B:=hF.big (rows':=rows++[wo rows x]) (by simp;omega) (by simp;omega) (λr hr=>xlG _ hr) λr hr=>by
    refine Rm.frow hf FR r ?_;rcases xlF.mp hr with hr | hr
    .exact xlG _ hr
    .rw[xlU.mp hr];exact xlH _ (xlP hx)
   exact hN _ ⟨_,B.1,B.2,λr hr=>xlG _ hr,rfl⟩
  rintro _ ⟨rows2,hf2,FR2,sub,rfl⟩;refine xO (λ τ=>τ=[.sc ns,.fz (.int kk),.st,.fz (.tup (rows.map trR)),.fz (.lst ((yG rows).map yO)),.fz (.lst ((zO rows Ls).map yO)),y6,y7,.fz (.int (n:Nat)),.ow (os.map λo=>.tup (o.map trR)),.fz (.tup (rows2.map trR)),x11]) ?_ (λN hN=>?_)
  rotate_left
  .refine⟨rows2,rfl,hf2,FR2,λL2 R2=>?_⟩;have rl2:=R2.len_corn hf2 FR2;refine⟨by rw[xlq];exact sqz (by omega),yR (λ_=>false) yO (λv hv N M h1 h0=>?_) ?_⟩
   .obtain⟨vz,_,C⟩:=R2.corner hf2 FR2 hv;refine⟨rows,plc v,rfl,hf,FR,R2.pk hf2 FR2 hv,λLs' R'=>⟨λ_=>h0 rfl,λr hr nk us=>?_⟩⟩;have:=R'.within hf FR hf2 FR2 R2 (λp pz kp r hr=>kp r (sub r hr)) vz C.kept r hr;rw[uW _ vz,xmx this] at nk;cases nk
   rw[xk5.mpr (λ_ _=>xj8)];exact⟨uQ rfl,hN _ rfl⟩
  rintro _ rfl;refine⟨xay trR (λ_=>rfl) (λr=>by rw[xfg];decide) _ _,?_⟩;refine ya (b := !teq (.tup (rows2.map trR)) (.tup (rows.map trR))) (λ_=>?_) (λ_=>hN _ ⟨os,_,o3,hos,rfl⟩);obtain⟨r,hr,er⟩:=xfj (rows:=rows2) (by have:=(hW hf2).1.1;omega);show sS (atT (rows2.map trR) (-1)) _;rw[er];refine⟨rows2,r,rfl,hf2,FR2,(FR2.rows.sm r hr).mono (by decide),?_⟩;have e:((yG rows2).all λv=>zH r (plc v))=true:=by rw[xkS];intro v hv;obtain⟨⟨vz,_,C⟩,_⟩:=FR2.corner hv;rw[uW _ vz];exact xmx (C.kept r hr)
  rw[e];exact hN _ ⟨os,_,o3,hos,rfl⟩
 clear hos o2 o1 os;rintro _ ⟨os,y10,o3,hos,rfl⟩;refine xiP (ts:=os.map λo=>.tup (o.map trR)) rfl ?_;refine uO (os.map λo:List Pol.R3=>Tr.tup (o.map trR)) (λj τ=>∃y11:TV,τ=[.sc ns,.fz (.int kk),.st,.fz (.tup (rows.map trR)),.fz (.lst ((yG rows).map yO)),.fz (.lst ((zO rows Ls).map yO)),y6,y7,.fz (.int (n:Nat)),.fz (.lst (os.map λo=>.tup (o.map trR))),y10,y11]) (λKK h=>h) ⟨_,rfl⟩ ?_ (λ τ ⟨y11,e⟩=>hN2 _ ⟨_,_,_,_,_,_,_,_,_,_,_,e⟩);rintro j y τ N3 hy ⟨y11,rfl⟩ hN3;obtain⟨o,ho,rfl⟩:=zX hy;obtain⟨h8,h3,eq⟩:=hos o (xlQ ho);obtain⟨hfo,FRo⟩:=big o h8 h3 eq;refine⟨o,rfl,hfo,FRo,mZ yO (λ_=>rfl) (λv=>by show 2<=60;decide) _ _,?_⟩;rw[xaP FR hF.gr FRo eq];refine ya (b := !teq (.lst ((yG rows).map yO)) (.lst ((yG rows).map yO))) (λc=>by rw[xcw] at c;cases c) (λ_=>?_);refine⟨o,rfl,hfo,FRo,λLo Ro=>⟨mZ yO (λ_=>rfl) (λv=>by show 2<=60;decide) _ _,?_⟩⟩;rw[Ro.same hfo FRo hf FR R λp pz=>⟨λh r hr=>h r ((eq r).mp hr),λh r hr=>h r ((eq r).mpr hr)⟩];exact ya (b := !teq (.lst ((zO rows Ls).map yO)) (.lst ((zO rows Ls).map yO))) (λc=>by rw[xcw] at c;cases c) (λ_=>hN3 _ ⟨_,rfl⟩)
end
end K20
namespace K20
open PySem L2 Trn
theorem all_mk {l:PySem.W.OpenLaw}{w:World}{K:PySem.W.Frag}{h:Heap}{mg:Str->Option Value}{fa:Addr}{fn:Addr}{od an:Option Addr}{sl:Array (Option Value)}{oc kV dc pm cd ct:Value}{tc1:Tok}(X:K.In h)(G:h.Ns mainGlobals mg)(hfa:mg "law" = some (.ref fa))
  (d1:DD K "is_whole" gS) (d2:DD K "greatest_divisor" wM) (d3:DD K "beyond" tQ) (d4:DD K "is_ahead" gW) (d5:DD K "turn_to" dm) (d6:DD K "is_near" j0) (d7:DD K "is_broken" jE) (d8:DD K "makes_one" jv) (d9:DD K "direction_of" vH) (d10:DD K "weights_of_row" uD) (d11:DD K "cut_of" tZ) (d12:DD K "_law_cell_at" vK) (d13:DD K "_law_take" ju) (d14:DD K "_law_divisor" vJ) (d15:DD K "_law_whole_left" yS) (d16:DD K "are_whole" qi) (d17:DD K "lowest" mr) (d18:DD K "where_crossed" wI) (d19:DD K "from_least" kD) (d20:DD K "furthest" gR) (d21:DD K "points_back" qC) (d22:DD K "need_turn" jn) (d23:DD K "undivided" jk) (d24:DD K "next_least" kF) (d25:DD K "next_behind" qF) (d26:DD K "next_to_the_left" w4) (d27:DD K "whole_sum" u_) (d28:DD K "_law_state" qV) (d29:DD K "_law_field" uA) (d30:DD K "_law_low" gg) (d31:DD K "plus" xaY) (d32:DD K "times" cH) (d33:DD K "places_of" qo) (d34:DD K "cut_piece" jB) (d35:DD K "is_row" rQ) (d36:DD K "go_round" gE) (d37:DD K "is_direction" vR) (d38:DD K "between" sH) (d39:DD K "sides_among" qw) (d40:DD K "sum_of" fR) (d41:DD K "_law_value" kH) (d42:DD K "cut_down" gM) (d43:DD K "value" cA) (d44:DD K "is_field_row" vQ) (d45:DD K "parts" c_) (d46:DD K "paper_of" gI) (d47:DD K "_law_keeps" kj) (d48:DD K "piece_left" qX) (d49:DD K "keeps" cM) (d50:DD K "is_tight" fb) (d51:DD K "weights_towards" w_) (d52:DD K "corners_left" vO) (d53:DD K "tight_numbers" wF) (d54:DD K "is_field" qd) (d55:DD K "sides_at" gF) (d56:DD K "need_field" q8) (d57:DD K "papers_at" jf) (d58:DD K "corners" dD) (d59:DD K "broken" fY) (d60:DD K "holds" rM) (d61:DD K "round_papers" vP) (d62:DD K "corner_paper" uu) (d63:DD K "round_corners" wU) (d64:DD K "paper_against" wQ) (d65:DD K "_law_more" u4)
  (aN:PySem.W.nsIn K mainGlobals "law" = some (some (.ref fn))) (ln:K.lookup fn=some ⟨oc,od,.func (PySem.W.fnOf "law" "law" (uE jK) (zE jK) (xf jK) .none kV dc pm an cd ct),sl⟩) (cn:PySem.W.codeIn K cd "law" = true) (kn:PySem.W.keepIn K (.ref fn)=true)
  (z1:PySem.W.nsIn K mainGlobals "len" = some none)
  (z2:PySem.W.nsIn K mainGlobals "range" = some none)
  (z3:PySem.W.nsIn K mainGlobals "max" = some none)
  (z4:PySem.W.nsIn K mainGlobals "min" = some none)
  (z5:PySem.W.nsIn K mainGlobals "abs" = some none)
  (z6:PySem.W.nsIn K mainGlobals "isinstance" = some none)
  (z7:PySem.W.nsIn K mainGlobals "tuple" = some none)
  (z8:PySem.W.nsIn K mainGlobals "list" = some none)
  (z9:PySem.W.nsIn K mainGlobals "int" = some none)
  (z10:PySem.W.nsIn K mainGlobals "bool" = some none)
  (z11:PySem.W.nsIn K mainGlobals "str" = some none)
  (z12:PySem.W.nsIn K mainGlobals "dict" = some none)
  (z13:PySem.W.nsIn K mainGlobals "all" = some none)
  (z14:PySem.W.nsIn K mainGlobals "zip" = some none)
  (z15:PySem.W.nsIn K mainGlobals "enumerate" = some none)
  (z16:PySem.W.nsIn K mainGlobals "ValueError" = some none)
  (y1:PySem.W.nsIn K mainGlobals "FAR" = some (some (.int 60001 tc1))) :
  ∃fd:FuncData,(∀(s:Shared) (v:Value),BindsTo s fd ⟨[v],[]⟩ [("_law_script", v)])/\∀base:Heap,K.In base->base.Ns mainGlobals mg->mF l.prog w K mg base CX0 13 fa fd ["_law_script"] (lZ K):=by
 have e:=hfa.symm.trans (PySem.W.mg_of X G aN);cases e;obtain⟨f1,e1,a1,F1⟩:=d1;obtain⟨f2,e2,a2,F2⟩:=d2;obtain⟨f3,e3,a3,F3⟩:=d3;obtain⟨f4,e4,a4,F4⟩:=d4;obtain⟨f5,e5,a5,F5⟩:=d5;obtain⟨f6,e6,a6,F6⟩:=d6;obtain⟨f7,e7,a7,F7⟩:=d7;obtain⟨f8,e8,a8,F8⟩:=d8;obtain⟨f9,e9,a9,F9⟩:=d9;obtain⟨f10,e10,a10,F10⟩:=d10;obtain⟨f11,e11,a11,F11⟩:=d11;obtain⟨f12,e12,a12,F12⟩:=d12;obtain⟨f13,e13,a13,F13⟩:=d13;obtain⟨f14,e14,a14,F14⟩:=d14;obtain⟨f15,e15,a15,F15⟩:=d15;obtain⟨f16,e16,a16,F16⟩:=d16;obtain⟨f17,e17,a17,F17⟩:=d17;obtain⟨f18,e18,a18,F18⟩:=d18;obtain⟨f19,e19,a19,F19⟩:=d19;obtain⟨f20,e20,a20,F20⟩:=d20;obtain⟨f21,e21,a21,F21⟩:=d21;obtain⟨f22,e22,a22,F22⟩:=d22;obtain⟨f23,e23,a23,F23⟩:=d23;obtain⟨f24,e24,a24,F24⟩:=d24;obtain⟨f25,e25,a25,F25⟩:=d25;obtain⟨f26,e26,a26,F26⟩:=d26;obtain⟨f27,e27,a27,F27⟩:=d27;obtain⟨f28,e28,a28,F28⟩:=d28;obtain⟨f29,e29,a29,F29⟩:=d29;obtain⟨f30,e30,a30,F30⟩:=d30;obtain⟨f31,e31,a31,F31⟩:=d31;obtain⟨f32,e32,a32,F32⟩:=d32;obtain⟨f33,e33,a33,F33⟩:=d33;obtain⟨f34,e34,a34,F34⟩:=d34;obtain⟨f35,e35,a35,F35⟩:=d35;obtain⟨f36,e36,a36,F36⟩:=d36;obtain⟨f37,e37,a37,F37⟩:=d37;obtain⟨f38,e38,a38,F38⟩:=d38;obtain⟨f39,e39,a39,F39⟩:=d39;obtain⟨f40,e40,a40,F40⟩:=d40;obtain⟨f41,e41,a41,F41⟩:=d41;obtain⟨f42,e42,a42,F42⟩:=d42;obtain⟨f43,e43,a43,F43⟩:=d43;obtain⟨f44,e44,a44,F44⟩:=d44;obtain⟨f45,e45,a45,F45⟩:=d45;obtain⟨f46,e46,a46,F46⟩:=d46;obtain⟨f47,e47,a47,F47⟩:=d47;obtain⟨f48,e48,a48,F48⟩:=d48;obtain⟨f49,e49,a49,F49⟩:=d49;obtain⟨f50,e50,a50,F50⟩:=d50;obtain⟨f51,e51,a51,F51⟩:=d51;obtain⟨f52,e52,a52,F52⟩:=d52;obtain⟨f53,e53,a53,F53⟩:=d53;obtain⟨f54,e54,a54,F54⟩:=d54;obtain⟨f55,e55,a55,F55⟩:=d55;obtain⟨f56,e56,a56,F56⟩:=d56;obtain⟨f57,e57,a57,F57⟩:=d57;obtain⟨f58,e58,a58,F58⟩:=d58;obtain⟨f59,e59,a59,F59⟩:=d59;obtain⟨f60,e60,a60,F60⟩:=d60;obtain⟨f61,e61,a61,F61⟩:=d61;obtain⟨f62,e62,a62,F62⟩:=d62;obtain⟨f63,e63,a63,F63⟩:=d63;obtain⟨f64,e64,a64,F64⟩:=d64;obtain⟨f65,e65,a65,F65⟩:=d65;have F66:=xes (st:=jK) ln cn kn;have b1:=zT (p1 := "thing") F1 λ_ _ _ _ _ _ _=>rfl;have b2:=yC (p1 := "one") (p2 := "other") F2 λ_ _ _ _ _ _ _ _=>rfl;have b3:=yC (p1 := "row") (p2 := "corner") F3 λ_ _ _ _ _ _ _ _=>rfl;have b4:=yC (p1 := "one") (p2 := "other") F4 λ_ _ _ _ _ _ _ _=>rfl;have b5:=yC (p1 := "one") (p2 := "other") F5 λ_ _ _ _ _ _ _ _=>rfl;have b6:=zT (p1 := "place") F6 λ_ _ _ _ _ _ _=>rfl;have b7:=zT (p1 := "place") F7 λ_ _ _ _ _ _ _=>rfl;have b8:=yC (p1 := "a") (p2 := "b") F8 λ_ _ _ _ _ _ _ _=>rfl;have b9:=zT (p1 := "row") F9 λ_ _ _ _ _ _ _=>rfl;have b10:=yC (p1 := "field") (p2 := "number") F10 λ_ _ _ _ _ _ _ _=>rfl;have b11:=zT (p1 := "totals") F11 λ_ _ _ _ _ _ _=>rfl;have b12:=yC (p1 := "_law_script") (p2 := "_law_k") F12 λ_ _ _ _ _ _ _ _=>rfl;have b13:=yC (p1 := "_law_state_here") (p2 := "_law_many") F13 λ_ _ _ _ _ _ _ _=>rfl;have b14:=yC (p1 := "_law_one") (p2 := "_law_other") F14 λ_ _ _ _ _ _ _ _=>rfl;have b15:=yC (p1 := "_law_rows") (p2 := "_law_places") F15 λ_ _ _ _ _ _ _ _=>rfl;have b16:=zT (p1 := "things") F16 λ_ _ _ _ _ _ _=>rfl;have b17:=yC (p1 := "top") (p2 := "bottom") F17 λ_ _ _ _ _ _ _ _=>rfl;have b18:=aJ (p1 := "row") (p2 := "one") (p3 := "other") F18 λ_ _ _ _ _ _ _ _ _=>rfl;have b19:=zT (p1 := "piece") F19 λ_ _ _ _ _ _ _=>rfl;have b20:=aJ (p1 := "first") (p2 := "rows") (p3 := "sign") F20 λ_ _ _ _ _ _ _ _ _=>rfl;have b21:=yC (p1 := "first") (p2 := "rows") F21 λ_ _ _ _ _ _ _ _=>rfl;have b22:=yC (p1 := "one") (p2 := "other") F22 λ_ _ _ _ _ _ _ _=>rfl;have b23:=zT (p1 := "direction") F23 λ_ _ _ _ _ _ _=>rfl;have b24:=yC (p1 := "first") (p2 := "last") F24 λ_ _ _ _ _ _ _ _=>rfl;have b25:=aJ (p1 := "before") (p2 := "here") (p3 := "last") F25 λ_ _ _ _ _ _ _ _ _=>rfl;have b26:=aJ (p1 := "rows") (p2 := "numbers") (p3 := "number") F26 λ_ _ _ _ _ _ _ _ _=>rfl;have b27:=yC (p1 := "rows") (p2 := "weights") F27 λ_ _ _ _ _ _ _ _=>rfl;have b28:=yC (p1 := "_law_script") (p2 := "_law_k") F28 λ_ _ _ _ _ _ _ _=>rfl;have b29:=zT (p1 := "_law_state_here") F29 λ_ _ _ _ _ _ _=>rfl;have b30:=yC (p1 := "_law_top") (p2 := "_law_bottom") F30 λ_ _ _ _ _ _ _ _=>rfl;have b31:=yC (p1 := "one") (p2 := "other") F31 λ_ _ _ _ _ _ _ _=>rfl;have b32:=yC (p1 := "whole") (p2 := "fraction") F32 λ_ _ _ _ _ _ _ _=>rfl;have b33:=zT (p1 := "piece") F33 λ_ _ _ _ _ _ _=>rfl;have b34:=yC (p1 := "piece") (p2 := "row") F34 λ_ _ _ _ _ _ _ _=>rfl;have b35:=zT (p1 := "thing") F35 λ_ _ _ _ _ _ _=>rfl;have b36:=zT (p1 := "rows") F36 λ_ _ _ _ _ _ _=>rfl;have b37:=zT (p1 := "thing") F37 λ_ _ _ _ _ _ _=>rfl;have b38:=yC (p1 := "one") (p2 := "other") F38 λ_ _ _ _ _ _ _ _=>rfl;have b39:=yC (p1 := "rows") (p2 := "numbers") F39 λ_ _ _ _ _ _ _ _=>rfl;have b40:=yC (p1 := "rows") (p2 := "weights") F40 λ_ _ _ _ _ _ _ _=>rfl;have b41:=yC (p1 := "_law_row") (p2 := "_law_place") F41 λ_ _ _ _ _ _ _ _=>rfl;have b42:=yC (p1 := "piece") (p2 := "rows") F42 λ_ _ _ _ _ _ _ _=>rfl;have b43:=yC (p1 := "row") (p2 := "place") F43 λ_ _ _ _ _ _ _ _=>rfl;have b44:=zT (p1 := "thing") F44 λ_ _ _ _ _ _ _=>rfl;have b45:=aJ (p1 := "one") (p2 := "other") (p3 := "thing") F45 λ_ _ _ _ _ _ _ _ _=>rfl;have b46:=yC (p1 := "field") (p2 := "weights") F46 λ_ _ _ _ _ _ _ _=>rfl;have b47:=yC (p1 := "_law_row") (p2 := "_law_place") F47 λ_ _ _ _ _ _ _ _=>rfl;have b48:=zT (p1 := "rows") F48 λ_ _ _ _ _ _ _=>rfl;have b49:=yC (p1 := "row") (p2 := "place") F49 λ_ _ _ _ _ _ _ _=>rfl;have b50:=yC (p1 := "row") (p2 := "place") F50 λ_ _ _ _ _ _ _ _=>rfl;have b51:=aJ (p1 := "field") (p2 := "pair") (p3 := "direction") F51 λ_ _ _ _ _ _ _ _ _=>rfl;have b52:=zT (p1 := "rows") F52 λ_ _ _ _ _ _ _=>rfl;have b53:=yC (p1 := "rows") (p2 := "place") F53 λ_ _ _ _ _ _ _ _=>rfl;have b54:=zT (p1 := "thing") F54 λ_ _ _ _ _ _ _=>rfl;have b55:=yC (p1 := "field") (p2 := "place") F55 λ_ _ _ _ _ _ _ _=>rfl;have b56:=zT (p1 := "thing") F56 λ_ _ _ _ _ _ _=>rfl;have b57:=yC (p1 := "field") (p2 := "place") F57 λ_ _ _ _ _ _ _ _=>rfl;have b58:=zT (p1 := "field") F58 λ_ _ _ _ _ _ _=>rfl;have b59:=zT (p1 := "field") F59 λ_ _ _ _ _ _ _=>rfl;have b60:=yC (p1 := "field") (p2 := "row") F60 λ_ _ _ _ _ _ _ _=>rfl;have b61:=zT (p1 := "field") F61 λ_ _ _ _ _ _ _=>rfl;have b62:=yC (p1 := "field") (p2 := "number") F62 λ_ _ _ _ _ _ _ _=>rfl;have b63:=zT (p1 := "field") F63 λ_ _ _ _ _ _ _=>rfl;have b64:=yC (p1 := "field") (p2 := "place") F64 λ_ _ _ _ _ _ _ _=>rfl;have b65:=yC (p1 := "_law_state_here") (p2 := "_law_field_here") F65 λ_ _ _ _ _ _ _ _=>rfl;have B:Blt mg bn:=⟨λx hx=>by
  simp only[bn,xlI,xlY,xmC] at hx;rcases hx with rfl | rfl | rfl | rfl | rfl | rfl | rfl | rfl | rfl | rfl | rfl | rfl | rfl | rfl | rfl | rfl
  .exact PySem.W.mg_none_of X G z1
  .exact PySem.W.mg_none_of X G z2
  .exact PySem.W.mg_none_of X G z3
  .exact PySem.W.mg_none_of X G z4
  .exact PySem.W.mg_none_of X G z5
  .exact PySem.W.mg_none_of X G z6
  .exact PySem.W.mg_none_of X G z7
  .exact PySem.W.mg_none_of X G z8
  .exact PySem.W.mg_none_of X G z9
  .exact PySem.W.mg_none_of X G z10
  .exact PySem.W.mg_none_of X G z11
  .exact PySem.W.mg_none_of X G z12
  .exact PySem.W.mg_none_of X G z13
  .exact PySem.W.mg_none_of X G z14
  .exact PySem.W.mg_none_of X G z15
  .exact PySem.W.mg_none_of X G z16⟩
 have aF:=PySem.W.mg_of X G y1;refine⟨PySem.W.fnOf "law" "law" (uE jK) (zE jK) (xf jK) .none kV dc pm an cd ct,λs v=>.of_eq rfl,λbase XB _=>?_⟩;have uU:=c9 (P:=l.prog) (w:=w) (base:=base) B F1 (PySem.W.mg_of X G a1) b1;have xQ:=jD (P:=l.prog) (w:=w) (base:=base) B F2 (PySem.W.mg_of X G a2) b2;have uR:=xbR (P:=l.prog) (w:=w) (base:=base) B F3 (PySem.W.mg_of X G a3) b3;have gO:=cI (P:=l.prog) (w:=w) (base:=base) B F4 (PySem.W.mg_of X G a4) b4;have yc:=lJ (P:=l.prog) (w:=w) (base:=base) B F5 (PySem.W.mg_of X G a5) b5;have si:=xai (P:=l.prog) (w:=w) (base:=base) B F6 (PySem.W.mg_of X G a6) b6;have jq:=n6 (P:=l.prog) (w:=w) (base:=base) B F7 (PySem.W.mg_of X G a7) b7;have jg:=bH (P:=l.prog) (w:=w) (base:=base) B F8 (PySem.W.mg_of X G a8) b8;have yQ:=sV (P:=l.prog) (w:=w) (base:=base) B F9 (PySem.W.mg_of X G a9) b9;have uG:=gJ (P:=l.prog) (w:=w) (base:=base) B F10 (PySem.W.mg_of X G a10) b10;have tE:=xbU (P:=l.prog) (w:=w) (base:=base) B F11 (PySem.W.mg_of X G a11) b11;have vT:=sN (P:=l.prog) (w:=w) (base:=base) B F12 (PySem.W.mg_of X G a12) b12;have xS:=xbN (bB (P:=l.prog) (w:=w) (base:=base) F13 (PySem.W.mg_of X G a13) b13);have vN:=dA (P:=l.prog) (w:=w) (base:=base) B F14 (PySem.W.mg_of X G a14) b14;have uf:=j5 (P:=l.prog) (w:=w) (base:=base) B F15 (PySem.W.mg_of X G a15) b15;have uh:=nJ (P:=l.prog) (w:=w) (base:=base) B F16 (PySem.W.mg_of X G a16) b16 uU;have yY:=xbH (P:=l.prog) (w:=w) (base:=base) B F17 (PySem.W.mg_of X G a17) b17 xQ;have ve:=fN (P:=l.prog) (w:=w) (base:=base) B F18 (PySem.W.mg_of X G a18) b18 xQ uR;have kl:=rT (P:=l.prog) (w:=w) (base:=base) B F19 (PySem.W.mg_of X G a19) b19 gO;have kW:=cG (P:=l.prog) (w:=w) (base:=base) B F20 (PySem.W.mg_of X G a20) b20 yc;have qp:=aE (P:=l.prog) (w:=w) (base:=base) B F21 (PySem.W.mg_of X G a21) b21 yc;have w9:=mV (P:=l.prog) (w:=w) (base:=base) B F22 (PySem.W.mg_of X G a22) b22 yc;have qE:=nM (P:=l.prog) (w:=w) (base:=base) B F23 (PySem.W.mg_of X G a23) b23 xQ;have q9:=t8 (P:=l.prog) (w:=w) (base:=base) B F24 (PySem.W.mg_of X G a24) b24 jg yc;have qG:=aq (P:=l.prog) (w:=w) (base:=base) B F25 (PySem.W.mg_of X G a25) b25 yc;have wZ:=jw (P:=l.prog) (w:=w) (base:=base) B F26 (PySem.W.mg_of X G a26) b26 yc;have jo:=bR (P:=l.prog) (w:=w) (base:=base) B F27 (PySem.W.mg_of X G a27) b27 xQ;have kB:=rY (P:=l.prog) (w:=w) (base:=base) F28 (PySem.W.mg_of X G a28) b28 vT;have qQ:=rG (P:=l.prog) (w:=w) (base:=base) B F29 (PySem.W.mg_of X G a29) b29 xS;have gP:=pC (P:=l.prog) (w:=w) (base:=base) B F30 (PySem.W.mg_of X G a30) b30 vN;have xci:=xfX (P:=l.prog) (w:=w) (base:=base) B F31 (PySem.W.mg_of X G a31) b31 yY;have rB:=xcE (P:=l.prog) (w:=w) (base:=base) B F32 (PySem.W.mg_of X G a32) b32 yY;have jd:=nB (P:=l.prog) (w:=w) (base:=base) B F33 (PySem.W.mg_of X G a33) b33 yY kl;have je:=nA (P:=l.prog) (w:=w) (base:=base) B F34 (PySem.W.mg_of X G a34) b34 ve uR;have rN:=xce (P:=l.prog) (w:=w) (base:=base) B F35 (PySem.W.mg_of X G a35) b35 uh;have gL:=pL (P:=l.prog) (w:=w) (base:=base) B F36 (PySem.W.mg_of X G a36) b36 kW qp yc;have vU:=ak (P:=l.prog) (w:=w) (base:=base) B F37 (PySem.W.mg_of X G a37) b37 uh;have sC:=lx (P:=l.prog) (w:=w) (base:=base) B F38 (PySem.W.mg_of X G a38) b38 w9 qE q9 qG;have qB:=ay (P:=l.prog) (w:=w) (base:=base) B F39 (PySem.W.mg_of X G a39) b39 wZ;have mE:=xcm (P:=l.prog) (w:=w) (base:=base) B F40 (PySem.W.mg_of X G a40) b40 jo yY;have qR:=rH (P:=l.prog) (w:=w) (base:=base) B F41 (PySem.W.mg_of X G a41) b41 gP;have h9:=cD (P:=l.prog) (w:=w) (base:=base) B F42 (PySem.W.mg_of X G a42) b42 je;have gN:=xdh (P:=l.prog) (w:=w) (base:=base) B F43 (PySem.W.mg_of X G a43) b43 xci rB;have vI:=sR (P:=l.prog) (w:=w) (base:=base) B F44 (PySem.W.mg_of X G a44) b44 rN;have pB:=xc2 (P:=l.prog) (w:=w) (base:=base) B F45 (PySem.W.mg_of X G a45) b45 w9 vU yc yY;have uX:=cS (P:=l.prog) (w:=w) (base:=base) B F46 (PySem.W.mg_of X G a46) b46 tE mE;have xec:=tO (P:=l.prog) (w:=w) (base:=base) B F47 (PySem.W.mg_of X G a47) b47 qR;have qY:=tL (P:=l.prog) (w:=w) (base:=base) B F48 (PySem.W.mg_of X G a48) b48 aF h9;have uH:=xcT (P:=l.prog) (w:=w) (base:=base) B F49 (PySem.W.mg_of X G a49) b49 gN;have gH:=b_ (P:=l.prog) (w:=w) (base:=base) B F50 (PySem.W.mg_of X G a50) b50 gN;have ug:=jR (P:=l.prog) (w:=w) (base:=base) B F51 (PySem.W.mg_of X G a51) b51 pB yQ;have yF:=dB (P:=l.prog) (w:=w) (base:=base) B F52 (PySem.W.mg_of X G a52) b52 jd qY;have vo:=fH (P:=l.prog) (w:=w) (base:=base) B F53 (PySem.W.mg_of X G a53) b53 gH;have g_:=pe (P:=l.prog) (w:=w) (base:=base) B F54 (PySem.W.mg_of X G a54) b54 gL si yF vI;have gy:=cV (P:=l.prog) (w:=w) (base:=base) B F55 (PySem.W.mg_of X G a55) b55 qB vo;have wx:=rR (P:=l.prog) (w:=w) (base:=base) B F56 (PySem.W.mg_of X G a56) b56 g_;have um:=nH (P:=l.prog) (w:=w) (base:=base) B F57 (PySem.W.mg_of X G a57) b57 gy sC yQ uX ug;have wc:=lB (P:=l.prog) (w:=w) (base:=base) B F58 (PySem.W.mg_of X G a58) b58 wx yF;have wD:=xaV (P:=l.prog) (w:=w) (base:=base) B F59 (PySem.W.mg_of X G a59) b59 wc jq;have cB:=xcI (P:=l.prog) (w:=w) (base:=base) B F60 (PySem.W.mg_of X G a60) b60 uH wc;have yE:=sX (P:=l.prog) (w:=w) (base:=base) B F61 (PySem.W.mg_of X G a61) b61 wD um;have vS:=ae (P:=l.prog) (w:=w) (base:=base) B F62 (PySem.W.mg_of X G a62) b62 wD uU um uH;have zB:=fK (P:=l.prog) (w:=w) (base:=base) B F63 (PySem.W.mg_of X G a63) b63 yF yE;have zb:=fM (P:=l.prog) (w:=w) (base:=base) B F64 (PySem.W.mg_of X G a64) b64 wx uX yE uG uH;have jC:=nt (P:=l.prog) (w:=w) (base:=base) B F65 (PySem.W.mg_of X G a65) b65 yE xS;exact xhh B F66 kB qQ uf xS wc zB wD jC uH zb cB vS
theorem walk {l:PySem.W.OpenLaw}{q:Program}{loose:List Str}{XP:(Str->Option Value)->Heap->Prop}{YP:World->Heap->Prop}{d:DefRec}{K:Params->PySem.W.Frag}(hn:l.most=some 63)(hdf:d.params.defaults=[])
  (hY:∀(w:World) (h:Heap),YP w h->(K w.params).In h) (hT:∀P,xiK (K P)=none)
  (F:∀(w:World) (mg:Str->Option Value) (fa:Addr) (h:Heap),(K w.params).In h->h.Ns mainGlobals mg->mg d.name=some (.ref fa) ->
   ∃fd:FuncData,(∀(s:Shared) (u:Value),BindsTo s fd ⟨[u],[]⟩ [("_law_script", u)])/\∀base:Heap,(K w.params).In base->base.Ns mainGlobals mg->mF l.prog w (K w.params) mg base CX0 13 fa fd ["_law_script"] (lZ (K w.params))) :
  PySem.W.WalkO q loose XP YP l.row.toRowW d [] (λf vs=>PySem.call f vs) :=
 L2.xfB (n:=63) (k:=13) (x := "_law_script") (CX:=λ_=>CX0) (sp:=λw=>lZ (K w.params)) hn (by decide) hdf ⟨rfl,by decide,by decide⟩ hY F (λ_ _ a ns hl hO hS=>⟨a,ns,rfl,⟨λb=>.inl (hO b),xeg.none (hT _)⟩,hS,hl,λ_=>rfl⟩) λ_ _ _ _ _ z=>z
end K20
namespace K20
open PySem L2 Trn
def ke (k:Str)(t:Nat)(v:Value):Str×Nat×Value:=(k,t,v)
def kd (P:Params)(n:Nat)(l:List (Str×Nat×Value)):Obj:=⟨.type "dict", none,.dict ⟨l.map λe=>⟨PyData.keyHash P e.1,.str e.1 e.2.1,e.2.2⟩⟩ n,#[]⟩
def kf (x:Str)(st:Stmt)(cd:Nat)(m:Str)(t:Nat):Obj:=⟨.type "function", none,.func (PySem.W.fnOf x x (uE st) (zE st) (xf st) .none .none .none (.str m t) none (.ref cd) .none),#[]⟩
def kp (x:Str)(st:Stmt):Obj:=⟨.none,none,.func { name:=x,qualname:=x,params:=uE st,body:=.stmts (zE st),scope:=xf st,globals:=0,closure:=[],defaults:=.none,kwdefaults:=.none },#[]⟩
def kc (x:Str)(a l n m c d:Nat)(u v:Value)(e t f:Nat):Obj:=⟨.type "code", none,.fields ⟨[.str x a,.str x (a+1),.str "/claim/cut.py" (a+2),.int l 0,.int n 0,.int 0 0,.int 0 0,.int m 0,.ref c,.bool true,.int 181 0,.ref d,.none,u,v,.ref e,.int t 0,.int l 0,.str "/claim/cut.py" f]⟩,#[]⟩
def k0:Obj:=⟨.none,none,.fields ⟨[]⟩,#[]⟩
def k1 (l:List Value):Obj:=⟨.type "tuple", none,.seq ⟨l⟩ 0,#[]⟩
def tp (p:Program)(i:Nat):Stmt:=p.main.body.getD i (.Pass ⟨0,0,0,0⟩)
def tq:List (Int×Nat):=[(2,20),(4,33),(6,45),(8,57),(10,69),(13,81),(15,86),(17,93),(22,100),(25,107),(27,114),(31,121),(33,128),(35,135),(39,140),(41,147),(52,154),(56,159),(61,166),(67,173),(70,180),(74,187),(76,194),(79,201),(82,208),(84,215),(93,222),(99,229),(105,234),(111,241),(116,246),(118,253),(122,260),(125,265),(127,270),(129,277),(132,282),(135,289),(143,296),(148,303),(152,310),(159,317),(163,324),(168,331),(171,338),(181,345),(183,352),(190,359),(197,366),(199,373),(207,380),(212,385),(215,390),(225,397),(230,404),(233,411),(239,418),(246,423),(249,428),(256,433),(264,440),(268,447),(273,454),(282,459),(307,466),(311,473),(316,480),(319,487),(322,492),(333,497),(339,502)]
def tl (n:Nat):Obj:=⟨.none,none,.fields ⟨(tq.take n).flatMap λx=>[.int x.1 0,.int 0 0,.ref x.2]⟩,#[]⟩
def kx (n:Str)(b a s m p q:Nat):Obj:=⟨.type "type", none,.cls { name:=n,bases:=[.ref b],mro:=[.ref a,.ref b,.type "ValueError", .type "Exception", .type "BaseException", .type "object"],ns:=s,qualname:=n,hasDict:=true,slotNames:=[],subclasses:=[],abstract:=false,hasDel:=false },⟨[some (.ref m),none,some (.str n p),some (.str n q),some (.builtin "ValueError.__new__"),some (.bool true)]⟩⟩
def ky (x:Str)(a b c:Nat)(l:Int)(d e:Nat)(i j:Int)(k:Nat):Obj:=⟨.type "code", none,.fields ⟨[.str x a,.str x b,.str "/claim/cut.py" c,.int l 0,.int 0 0,.int 0 0,.int 0 0,.int 0 0,.ref d,.bool false,.int 181 0,.ref e,.none,.none,.none,.none,.int i 0,.int j 0,.str "/claim/cut.py" k]⟩,#[]⟩
def kz (a b c:Nat)(x:Str)(d e:Nat):Obj:=⟨.type "frame", none,.plain,⟨[some (.ref a),some (.ref b),some (.ref c),none,some (.str x d),none,some (.ref e)]⟩⟩
def kv (x:String)(v:Value):Obj:=⟨.type "builtin_function_or_method", none,.fields ⟨[.builtin x,v]⟩,#[]⟩
def kq (a:Nat)(x:Str)(b c:Nat)(y:Str)(d e:Nat)(i:Int)(f g h:Nat):List (Str×Nat×Value):=ke "__module__" a (.str x b)::ke "__qualname__" c (.str y d)::ke "__firstlineno__" e (.int i f)::ke "__static_attributes__" g (.ref h)::[]
def kr (a:Nat)(x:Str)(b e:Nat)(i:Int)(f g h d:Nat):List (Str×Nat×Value):=ke "__module__" a (.str x b)::ke "__firstlineno__" e (.int i f)::ke "__static_attributes__" g (.ref h)::ke "__doc__" d .none::[]
def lw:Str := "law_roundcuts_k20_whole_rounds"
def lw0:Str := "roundcuts.corners"
def lw1:Str := "roundcuts.errors"
def lw2:Str := "roundcuts.fields"
def lw3:Str := "roundcuts.fractions"
def lw4:Str := "roundcuts.pieces"
def lw5:Str := "roundcuts.rounds"
def lw6:Str := "roundcuts.rows"
def lw7:Str := "roundcuts.sides"
def lw8:Str := "roundcuts.sums"
def lw9:Str := "roundcuts.turns"
def mn:List (Str×Nat×Value):=ke "__name__" 165 (.str lw 770)::ke "__doc__" 166 .none::ke "__package__" 167 .none::ke "__loader__" 168 (.builtin "__main__.__loader__#opaque")::ke "__spec__" 169 .none::ke "__annotations__" 170 (.ref 6)::ke "__builtins__" 171 (.ref 4)::ke "__file__" 173 (.str "/claim/cut.py" 172)::ke "__cached__" 174 .none::ke "CutError" 206 (.ref 24)::ke "NoField" 222 (.ref 37)::ke "NoCut" 238 (.ref 49)::ke "NoTurn" 254 (.ref 61)::ke "NoCorner" 270 (.ref 73)::ke "is_whole" 279 (.ref 82)::ke "are_whole" 285 (.ref 87)::ke "greatest_divisor" 293 (.ref 94)::ke "lowest" 302 (.ref 101)::ke "plus" 310 (.ref 108)::ke "times" 318 (.ref 115)::ke "FAR" 322 (.int 60001 321)::ke "corners_left" 329 (.ref 122)::ke "piece_left" 336 (.ref 129)::ke "cut_down" 345 (.ref 136)::ke "places_of" 351 (.ref 141)::ke "cut_piece" 364 (.ref 148)::ke "beyond" 378 (.ref 155)::ke "where_crossed" 384 (.ref 160)::ke "from_least" 394 (.ref 167)::ke "is_ahead" 402 (.ref 174)::ke "is_row" 411 (.ref 181)::ke "value" 419 (.ref 188)::ke "keeps" 429 (.ref 195)::ke "is_tight" 439 (.ref 202)::ke "turn_to" 447 (.ref 209)::ke "go_round" 457 (.ref 216)::ke "furthest" 468 (.ref 223)::ke "points_back" 477 (.ref 230)::ke "is_field" 485 (.ref 235)::ke "is_field_row" 495 (.ref 242)::ke "is_near" 501 (.ref 247)::ke "need_field" 508 (.ref 254)::ke "corners" 517 (.ref 261)::ke "tight_numbers" 523 (.ref 266)::ke "broken" 529 (.ref 271)::ke "is_broken" 538 (.ref 278)::ke "holds" 544 (.ref 283)::ke "parts" 558 (.ref 290)::ke "need_turn" 567 (.ref 297)::ke "is_direction" 574 (.ref 304)::ke "between" 585 (.ref 311)::ke "undivided" 595 (.ref 318)::ke "next_least" 608 (.ref 325)::ke "next_behind" 618 (.ref 332)::ke "makes_one" 633 (.ref 339)::ke "sides_at" 643 (.ref 346)::ke "sides_among" 654 (.ref 353)::ke "next_to_the_left" 665 (.ref 360)::ke "direction_of" 672 (.ref 367)::ke "weights_towards" 685 (.ref 374)::ke "weights_of_row" 694 (.ref 381)::ke "sum_of" 702 (.ref 386)::ke "whole_sum" 708 (.ref 391)::ke "cut_of" 718 (.ref 398)::ke "paper_of" 726 (.ref 405)::ke "round_papers" 738 (.ref 412)::ke "papers_at" 751 (.ref 419)::ke "round_corners" 757 (.ref 424)::ke "paper_against" 763 (.ref 429)::ke "corner_paper" 769 (.ref 434)::ke "_law_cell_at" 779 (.ref 441)::ke "_law_state" 788 (.ref 448)::ke "_law_take" 798 (.ref 455)::ke "_law_field" 804 (.ref 460)::ke "_law_divisor" 812 (.ref 467)::ke "_law_low" 821 (.ref 474)::ke "_law_value" 831 (.ref 481)::ke "_law_keeps" 840 (.ref 488)::ke "_law_whole_left" 846 (.ref 493)::ke "_law_more" 852 (.ref 498)::ke "law" 858 (.ref 503)::[]
def ob (p:Program)(P:Params):List Obj:=k1 [] ::
 tl 71 ::
 ky "<module>" 182 183 184 1 11 12 185 1 186 ::
 kz 13 3 3 "__main__" 164 0 ::
 k1 [(.type "ValueError")] ::
 kv "type.__prepare__" (.type "type") ::
 kd P 4 (kq 196 lw1 187 198 "CutError" 197 200 2 199 201 22) ::
 k1 [] ::
 k0 ::
 ky "CutError" 191 192 193 2 18 19 194 2 195 ::
 kz 20 3 17 lw1 187 0 ::
 k1 [] ::
 kd P 3 (ke "__module__" 196 (.str lw1 187)::ke "__firstlineno__" 200 (.int 2 199)::ke "__static_attributes__" 201 (.ref 22)::ke "__weakref__" 203 (.ref 25)::ke "__doc__" 204 .none::[]) ::
 ⟨(.type "type"),none,.cls { name := "CutError", bases:=[(.type "ValueError")],mro:=[(.ref 24),(.type "ValueError"),(.type "Exception"),(.type "BaseException"),(.type "object")],ns:=23,qualname := "CutError", hasDict:=true,slotNames:=[],subclasses:=[(.ref 37),(.ref 49),(.ref 61),(.ref 73)],abstract:=false,hasDel:=false },⟨[some (.ref 15),none,some (.str "CutError" 189),some (.str "CutError" 197),some (.builtin "ValueError.__new__"),some (.bool true)]⟩⟩ ::
 ⟨(.type "getset_descriptor"),none,.fields ⟨[(.str "__weakref__" 202),(.ref 24),(.builtin "ExceptionGroup.__weakref__"),.none]⟩,#[]⟩ ::
 ⟨(.type "super"),none,.fields ⟨[(.ref 24),(.ref 24),(.ref 24)]⟩,#[]⟩ ::
 kv "object.__init_subclass__" (.ref 24) ::
 k1 [(.ref 24)] ::
 kv "type.__prepare__" (.type "type") ::
 kd P 4 (kq 214 lw1 187 216 "NoField" 215 218 4 217 219 35) ::
 k1 [] ::
 k0 ::
 ky "NoField" 209 210 211 4 31 32 212 4 213 ::
 kz 33 3 30 lw1 187 0 ::
 k1 [] ::
 kd P 2 (kr 214 lw1 187 218 4 217 219 35 220) ::
 kx "NoField" 24 37 36 28 207 215 ::
 ⟨(.type "super"),none,.fields ⟨[(.ref 37),(.ref 37),(.ref 37)]⟩,#[]⟩ ::
 kv "object.__init_subclass__" (.ref 37) ::
 k1 [(.ref 24)] ::
 kv "type.__prepare__" (.type "type") ::
 kd P 4 (kq 230 lw1 187 232 "NoCut" 231 234 6 233 235 47) ::
 k1 [] ::
 k0 ::
 ky "NoCut" 225 226 227 6 43 44 228 6 229 ::
 kz 45 3 42 lw1 187 0 ::
 k1 [] ::
 kd P 2 (kr 230 lw1 187 234 6 233 235 47 236) ::
 kx "NoCut" 24 49 48 40 223 231 ::
 ⟨(.type "super"),none,.fields ⟨[(.ref 49),(.ref 49),(.ref 49)]⟩,#[]⟩ ::
 kv "object.__init_subclass__" (.ref 49) ::
 k1 [(.ref 24)] ::
 kv "type.__prepare__" (.type "type") ::
 kd P 4 (kq 246 lw1 187 248 "NoTurn" 247 250 8 249 251 59) ::
 k1 [] ::
 k0 ::
 ky "NoTurn" 241 242 243 8 55 56 244 8 245 ::
 kz 57 3 54 lw1 187 0 ::
 k1 [] ::
 kd P 2 (kr 246 lw1 187 250 8 249 251 59 252) ::
 kx "NoTurn" 24 61 60 52 239 247 ::
 ⟨(.type "super"),none,.fields ⟨[(.ref 61),(.ref 61),(.ref 61)]⟩,#[]⟩ ::
 kv "object.__init_subclass__" (.ref 61) ::
 k1 [(.ref 24)] ::
 kv "type.__prepare__" (.type "type") ::
 kd P 4 (kq 262 lw1 187 264 "NoCorner" 263 266 10 265 267 71) ::
 k1 [] ::
 k0 ::
 ky "NoCorner" 257 258 259 10 67 68 260 10 261 ::
 kz 69 3 66 lw1 187 0 ::
 k1 [] ::
 kd P 2 (kr 262 lw1 187 266 10 265 267 71 268) ::
 kx "NoCorner" 24 73 72 64 255 263 ::
 ⟨(.type "super"),none,.fields ⟨[(.ref 73),(.ref 73),(.ref 73)]⟩,#[]⟩ ::
 kv "object.__init_subclass__" (.ref 73) ::
 k1 [] ::
 k0 ::
 k1 [(.str "thing" 276)] ::
 k1 [] ::
 kp "is_whole" (tp p 7) ::
 kc "is_whole" 273 13 1 3 76 77 (.ref 78) (.ref 79) 80 277 278 ::
 kf "is_whole" (tp p 7) 81 lw3 271 ::
 k1 [] ::
 k0 ::
 kp "are_whole" (tp p 8) ::
 kc "are_whole" 280 15 1 3 83 84 .none .none 85 283 284 ::
 kf "are_whole" (tp p 8) 86 lw3 271 ::
 k1 [] ::
 k0 ::
 k1 [(.str "one" 289),(.str "other" 290)] ::
 k1 [] ::
 kp "greatest_divisor" (tp p 9) ::
 kc "greatest_divisor" 286 17 2 3 88 89 (.ref 90) (.ref 91) 92 291 292 ::
 kf "greatest_divisor" (tp p 9) 93 lw3 271 ::
 k1 [] ::
 k0 ::
 k1 [(.str "top" 297),(.str "bottom" 298),(.str "shared" 299)] ::
 k1 [] ::
 kp "lowest" (tp p 10) ::
 kc "lowest" 294 22 2 3 95 96 (.ref 97) (.ref 98) 99 300 301 ::
 kf "lowest" (tp p 10) 100 lw3 271 ::
 k1 [] ::
 k0 ::
 k1 [(.str "one" 306),(.str "other" 307)] ::
 k1 [] ::
 kp "plus" (tp p 11) ::
 kc "plus" 303 25 2 3 102 103 (.ref 104) (.ref 105) 106 308 309 ::
 kf "plus" (tp p 11) 107 lw3 271 ::
 k1 [] ::
 k0 ::
 k1 [(.str "whole" 314),(.str "fraction" 315)] ::
 k1 [] ::
 kp "times" (tp p 12) ::
 kc "times" 311 27 2 3 109 110 (.ref 111) (.ref 112) 113 316 317 ::
 kf "times" (tp p 12) 114 lw3 271 ::
 k1 [] ::
 k0 ::
 k1 [(.str "rows" 326)] ::
 k1 [] ::
 kp "corners_left" (tp p 15) ::
 kc "corners_left" 323 31 1 3 116 117 (.ref 118) (.ref 119) 120 327 328 ::
 kf "corners_left" (tp p 15) 121 lw4 319 ::
 k1 [] ::
 k0 ::
 k1 [(.str "rows" 333)] ::
 k1 [] ::
 kp "piece_left" (tp p 16) ::
 kc "piece_left" 330 33 1 3 123 124 (.ref 125) (.ref 126) 127 334 335 ::
 kf "piece_left" (tp p 16) 128 lw4 319 ::
 k1 [] ::
 k0 ::
 k1 [(.str "piece" 340),(.str "rows" 341),(.str "row" 342)] ::
 k1 [] ::
 kp "cut_down" (tp p 17) ::
 kc "cut_down" 337 35 2 3 130 131 (.ref 132) (.ref 133) 134 343 344 ::
 kf "cut_down" (tp p 17) 135 lw4 319 ::
 k1 [] ::
 k0 ::
 kp "places_of" (tp p 18) ::
 kc "places_of" 346 39 1 3 137 138 .none .none 139 349 350 ::
 kf "places_of" (tp p 18) 140 lw4 319 ::
 k1 [] ::
 k0 ::
 k1 [(.str "piece" 355),(.str "row" 356),(.str "left" 357),(.str "at" 358),(.str "corner" 359),(.str "before" 360),(.str "crossing" 361)] ::
 k1 [] ::
 kp "cut_piece" (tp p 19) ::
 kc "cut_piece" 352 41 2 3 142 143 (.ref 144) (.ref 145) 146 362 363 ::
 kf "cut_piece" (tp p 19) 147 lw4 319 ::
 k1 [] ::
 k0 ::
 k1 [(.str "row" 368),(.str "corner" 369),(.str "a" 370),(.str "b" 371),(.str "c" 372),(.str "x" 373),(.str "y" 374),(.str "bottom" 375)] ::
 k1 [] ::
 kp "beyond" (tp p 20) ::
 kc "beyond" 365 52 2 3 149 150 (.ref 151) (.ref 152) 153 376 377 ::
 kf "beyond" (tp p 20) 154 lw4 319 ::
 k1 [] ::
 k0 ::
 kp "where_crossed" (tp p 21) ::
 kc "where_crossed" 379 56 3 3 156 157 .none .none 158 382 383 ::
 kf "where_crossed" (tp p 21) 159 lw4 319 ::
 k1 [] ::
 k0 ::
 k1 [(.str "piece" 388),(.str "start" 389),(.str "at" 390),(.str "corner" 391)] ::
 k1 [] ::
 kp "from_least" (tp p 22) ::
 kc "from_least" 385 61 1 3 161 162 (.ref 163) (.ref 164) 165 392 393 ::
 kf "from_least" (tp p 22) 166 lw4 319 ::
 k1 [] ::
 k0 ::
 k1 [(.str "one" 398),(.str "other" 399)] ::
 k1 [] ::
 kp "is_ahead" (tp p 23) ::
 kc "is_ahead" 395 67 2 3 168 169 (.ref 170) (.ref 171) 172 400 401 ::
 kf "is_ahead" (tp p 23) 173 lw4 319 ::
 k1 [] ::
 k0 ::
 k1 [(.str "thing" 408)] ::
 k1 [] ::
 kp "is_row" (tp p 25) ::
 kc "is_row" 405 70 1 3 175 176 (.ref 177) (.ref 178) 179 409 410 ::
 kf "is_row" (tp p 25) 180 lw6 403 ::
 k1 [] ::
 k0 ::
 k1 [(.str "row" 415),(.str "place" 416)] ::
 k1 [] ::
 kp "value" (tp p 26) ::
 kc "value" 412 74 2 3 182 183 (.ref 184) (.ref 185) 186 417 418 ::
 kf "value" (tp p 26) 187 lw6 403 ::
 k1 [] ::
 k0 ::
 k1 [(.str "row" 423),(.str "place" 424),(.str "top" 425),(.str "bottom" 426)] ::
 k1 [] ::
 kp "keeps" (tp p 27) ::
 kc "keeps" 420 76 2 3 189 190 (.ref 191) (.ref 192) 193 427 428 ::
 kf "keeps" (tp p 27) 194 lw6 403 ::
 k1 [] ::
 k0 ::
 k1 [(.str "row" 433),(.str "place" 434),(.str "top" 435),(.str "bottom" 436)] ::
 k1 [] ::
 kp "is_tight" (tp p 28) ::
 kc "is_tight" 430 79 2 3 196 197 (.ref 198) (.ref 199) 200 437 438 ::
 kf "is_tight" (tp p 28) 201 lw6 403 ::
 k1 [] ::
 k0 ::
 k1 [(.str "one" 443),(.str "other" 444)] ::
 k1 [] ::
 kp "turn_to" (tp p 29) ::
 kc "turn_to" 440 82 2 3 203 204 (.ref 205) (.ref 206) 207 445 446 ::
 kf "turn_to" (tp p 29) 208 lw6 403 ::
 k1 [] ::
 k0 ::
 k1 [(.str "rows" 451),(.str "first" 452),(.str "left" 453),(.str "right" 454)] ::
 k1 [] ::
 kp "go_round" (tp p 30) ::
 kc "go_round" 448 84 1 3 210 211 (.ref 212) (.ref 213) 214 455 456 ::
 kf "go_round" (tp p 30) 215 lw6 403 ::
 k1 [] ::
 k0 ::
 k1 [(.str "first" 461),(.str "rows" 462),(.str "sign" 463),(.str "last" 464),(.str "row" 465)] ::
 k1 [] ::
 kp "furthest" (tp p 31) ::
 kc "furthest" 458 93 3 3 217 218 (.ref 219) (.ref 220) 221 466 467 ::
 kf "furthest" (tp p 31) 222 lw6 403 ::
 k1 [] ::
 k0 ::
 k1 [(.str "first" 472),(.str "rows" 473),(.str "row" 474)] ::
 k1 [] ::
 kp "points_back" (tp p 32) ::
 kc "points_back" 469 99 2 3 224 225 (.ref 226) (.ref 227) 228 475 476 ::
 kf "points_back" (tp p 32) 229 lw6 403 ::
 k1 [] ::
 k0 ::
 kp "is_field" (tp p 34) ::
 kc "is_field" 480 105 1 3 231 232 .none .none 233 483 484 ::
 kf "is_field" (tp p 34) 234 lw2 478 ::
 k1 [] ::
 k0 ::
 k1 [(.str "thing" 489),(.str "a" 490),(.str "b" 491),(.str "c" 492)] ::
 k1 [] ::
 kp "is_field_row" (tp p 35) ::
 kc "is_field_row" 486 111 1 3 236 237 (.ref 238) (.ref 239) 240 493 494 ::
 kf "is_field_row" (tp p 35) 241 lw2 478 ::
 k1 [] ::
 k0 ::
 kp "is_near" (tp p 36) ::
 kc "is_near" 496 116 1 3 243 244 .none .none 245 499 500 ::
 kf "is_near" (tp p 36) 246 lw2 478 ::
 k1 [] ::
 k0 ::
 k1 [(.str "thing" 505)] ::
 k1 [] ::
 kp "need_field" (tp p 37) ::
 kc "need_field" 502 118 1 3 248 249 (.ref 250) (.ref 251) 252 506 507 ::
 kf "need_field" (tp p 37) 253 lw2 478 ::
 k1 [] ::
 k0 ::
 k1 [(.str "field" 514)] ::
 k1 [] ::
 kp "corners" (tp p 39) ::
 kc "corners" 511 122 1 3 255 256 (.ref 257) (.ref 258) 259 515 516 ::
 kf "corners" (tp p 39) 260 lw0 509 ::
 k1 [] ::
 k0 ::
 kp "tight_numbers" (tp p 40) ::
 kc "tight_numbers" 518 125 2 3 262 263 .none .none 264 521 522 ::
 kf "tight_numbers" (tp p 40) 265 lw0 509 ::
 k1 [] ::
 k0 ::
 kp "broken" (tp p 41) ::
 kc "broken" 524 127 1 3 267 268 .none .none 269 527 528 ::
 kf "broken" (tp p 41) 270 lw0 509 ::
 k1 [] ::
 k0 ::
 k1 [(.str "place" 533),(.str "x" 534),(.str "y" 535)] ::
 k1 [] ::
 kp "is_broken" (tp p 42) ::
 kc "is_broken" 530 129 1 3 272 273 (.ref 274) (.ref 275) 276 536 537 ::
 kf "is_broken" (tp p 42) 277 lw0 509 ::
 k1 [] ::
 k0 ::
 kp "holds" (tp p 43) ::
 kc "holds" 539 132 2 3 279 280 .none .none 281 542 543 ::
 kf "holds" (tp p 43) 282 lw0 509 ::
 k1 [] ::
 k0 ::
 k1 [(.str "one" 550),(.str "other" 551),(.str "thing" 552),(.str "turn" 553),(.str "of_one" 554),(.str "of_other" 555)] ::
 k1 [] ::
 kp "parts" (tp p 45) ::
 kc "parts" 547 135 3 3 284 285 (.ref 286) (.ref 287) 288 556 557 ::
 kf "parts" (tp p 45) 289 lw9 545 ::
 k1 [] ::
 k0 ::
 k1 [(.str "one" 562),(.str "other" 563),(.str "turn" 564)] ::
 k1 [] ::
 kp "need_turn" (tp p 46) ::
 kc "need_turn" 559 143 2 3 291 292 (.ref 293) (.ref 294) 295 565 566 ::
 kf "need_turn" (tp p 46) 296 lw9 545 ::
 k1 [] ::
 k0 ::
 k1 [(.str "thing" 571)] ::
 k1 [] ::
 kp "is_direction" (tp p 47) ::
 kc "is_direction" 568 148 1 3 298 299 (.ref 300) (.ref 301) 302 572 573 ::
 kf "is_direction" (tp p 47) 303 lw9 545 ::
 k1 [] ::
 k0 ::
 k1 [(.str "one" 578),(.str "other" 579),(.str "first" 580),(.str "last" 581),(.str "found" 582)] ::
 k1 [] ::
 kp "between" (tp p 48) ::
 kc "between" 575 152 2 3 305 306 (.ref 307) (.ref 308) 309 583 584 ::
 kf "between" (tp p 48) 310 lw9 545 ::
 k1 [] ::
 k0 ::
 k1 [(.str "direction" 589),(.str "a" 590),(.str "b" 591),(.str "shared" 592)] ::
 k1 [] ::
 kp "undivided" (tp p 49) ::
 kc "undivided" 586 159 1 3 312 313 (.ref 314) (.ref 315) 316 593 594 ::
 kf "undivided" (tp p 49) 317 lw9 545 ::
 k1 [] ::
 k0 ::
 k1 [(.str "first" 599),(.str "last" 600),(.str "a" 601),(.str "b" 602),(.str "p" 603),(.str "q" 604),(.str "back" 605)] ::
 k1 [] ::
 kp "next_least" (tp p 50) ::
 kc "next_least" 596 163 2 3 319 320 (.ref 321) (.ref 322) 323 606 607 ::
 kf "next_least" (tp p 50) 324 lw9 545 ::
 k1 [] ::
 k0 ::
 k1 [(.str "before" 612),(.str "here" 613),(.str "last" 614),(.str "many" 615)] ::
 k1 [] ::
 kp "next_behind" (tp p 51) ::
 kc "next_behind" 609 168 3 3 326 327 (.ref 328) (.ref 329) 330 616 617 ::
 kf "next_behind" (tp p 51) 331 lw9 545 ::
 k1 [] ::
 k0 ::
 k1 [(.str "a" 622),(.str "b" 623),(.str "here" 624),(.str "p" 625),(.str "q" 626),(.str "ahead" 627),(.str "next_p" 628),(.str "next_q" 629),(.str "many" 630)] ::
 k1 [] ::
 kp "makes_one" (tp p 52) ::
 kc "makes_one" 619 171 2 3 333 334 (.ref 335) (.ref 336) 337 631 632 ::
 kf "makes_one" (tp p 52) 338 lw9 545 ::
 k1 [] ::
 k0 ::
 k1 [(.str "field" 639),(.str "place" 640)] ::
 k1 [] ::
 kp "sides_at" (tp p 54) ::
 kc "sides_at" 636 181 2 3 340 341 (.ref 342) (.ref 343) 344 641 642 ::
 kf "sides_at" (tp p 54) 345 lw7 634 ::
 k1 [] ::
 k0 ::
 k1 [(.str "rows" 647),(.str "numbers" 648),(.str "pairs" 649),(.str "number" 650),(.str "beside" 651)] ::
 k1 [] ::
 kp "sides_among" (tp p 55) ::
 kc "sides_among" 644 183 2 3 347 348 (.ref 349) (.ref 350) 351 652 653 ::
 kf "sides_among" (tp p 55) 352 lw7 634 ::
 k1 [] ::
 k0 ::
 k1 [(.str "rows" 658),(.str "numbers" 659),(.str "number" 660),(.str "nearest" 661),(.str "other" 662)] ::
 k1 [] ::
 kp "next_to_the_left" (tp p 56) ::
 kc "next_to_the_left" 655 190 3 3 354 355 (.ref 356) (.ref 357) 358 663 664 ::
 kf "next_to_the_left" (tp p 56) 359 lw7 634 ::
 k1 [] ::
 k0 ::
 k1 [(.str "row" 669)] ::
 k1 [] ::
 kp "direction_of" (tp p 57) ::
 kc "direction_of" 666 197 1 3 361 362 (.ref 363) (.ref 364) 365 670 671 ::
 kf "direction_of" (tp p 57) 366 lw7 634 ::
 k1 [] ::
 k0 ::
 k1 [(.str "field" 676),(.str "pair" 677),(.str "direction" 678),(.str "one" 679),(.str "other" 680),(.str "shares" 681),(.str "weights" 682)] ::
 k1 [] ::
 kp "weights_towards" (tp p 58) ::
 kc "weights_towards" 673 199 3 3 368 369 (.ref 370) (.ref 371) 372 683 684 ::
 kf "weights_towards" (tp p 58) 373 lw7 634 ::
 k1 [] ::
 k0 ::
 k1 [(.str "field" 689),(.str "number" 690),(.str "weights" 691)] ::
 k1 [] ::
 kp "weights_of_row" (tp p 59) ::
 kc "weights_of_row" 686 207 2 3 375 376 (.ref 377) (.ref 378) 379 692 693 ::
 kf "weights_of_row" (tp p 59) 380 lw7 634 ::
 k1 [] ::
 k0 ::
 kp "sum_of" (tp p 61) ::
 kc "sum_of" 697 212 2 3 382 383 .none .none 384 700 701 ::
 kf "sum_of" (tp p 61) 385 lw8 695 ::
 k1 [] ::
 k0 ::
 kp "whole_sum" (tp p 62) ::
 kc "whole_sum" 703 215 2 3 387 388 .none .none 389 706 707 ::
 kf "whole_sum" (tp p 62) 390 lw8 695 ::
 k1 [] ::
 k0 ::
 k1 [(.str "totals" 712),(.str "a" 713),(.str "b" 714),(.str "c" 715)] ::
 k1 [] ::
 kp "cut_of" (tp p 63) ::
 kc "cut_of" 709 225 1 3 392 393 (.ref 394) (.ref 395) 396 716 717 ::
 kf "cut_of" (tp p 63) 397 lw8 695 ::
 k1 [] ::
 k0 ::
 k1 [(.str "field" 722),(.str "weights" 723)] ::
 k1 [] ::
 kp "paper_of" (tp p 64) ::
 kc "paper_of" 719 230 2 3 399 400 (.ref 401) (.ref 402) 403 724 725 ::
 kf "paper_of" (tp p 64) 404 lw8 695 ::
 k1 [] ::
 k0 ::
 k1 [(.str "field" 732),(.str "papers" 733),(.str "place" 734),(.str "paper" 735)] ::
 k1 [] ::
 kp "round_papers" (tp p 66) ::
 kc "round_papers" 729 233 1 3 406 407 (.ref 408) (.ref 409) 410 736 737 ::
 kf "round_papers" (tp p 66) 411 lw5 727 ::
 k1 [] ::
 k0 ::
 k1 [(.str "field" 742),(.str "place" 743),(.str "papers" 744),(.str "pair" 745),(.str "one" 746),(.str "other" 747),(.str "direction" 748)] ::
 k1 [] ::
 kp "papers_at" (tp p 67) ::
 kc "papers_at" 739 239 2 3 413 414 (.ref 415) (.ref 416) 417 749 750 ::
 kf "papers_at" (tp p 67) 418 lw5 727 ::
 k1 [] ::
 k0 ::
 kp "round_corners" (tp p 68) ::
 kc "round_corners" 752 246 1 3 420 421 .none .none 422 755 756 ::
 kf "round_corners" (tp p 68) 423 lw5 727 ::
 k1 [] ::
 k0 ::
 kp "paper_against" (tp p 69) ::
 kc "paper_against" 758 249 2 3 425 426 .none .none 427 761 762 ::
 kf "paper_against" (tp p 69) 428 lw5 727 ::
 k1 [] ::
 k0 ::
 kp "corner_paper" (tp p 70) ::
 kc "corner_paper" 764 256 2 3 430 431 .none .none 432 767 768 ::
 kf "corner_paper" (tp p 70) 433 lw5 727 ::
 k1 [] ::
 k0 ::
 k1 [(.str "_law_script" 775),(.str "_law_k" 776)] ::
 k1 [] ::
 kp "_law_cell_at" (tp p 72) ::
 kc "_law_cell_at" 772 264 2 3 435 436 (.ref 437) (.ref 438) 439 777 778 ::
 kf "_law_cell_at" (tp p 72) 440 lw 770 ::
 k1 [] ::
 k0 ::
 k1 [(.str "_law_script" 783),(.str "_law_k" 784),(.str "_law_cell" 785)] ::
 k1 [] ::
 kp "_law_state" (tp p 73) ::
 kc "_law_state" 780 268 2 3 442 443 (.ref 444) (.ref 445) 446 786 787 ::
 kf "_law_state" (tp p 73) 447 lw 770 ::
 k1 [] ::
 k0 ::
 k1 [(.str "_law_state_here" 792),(.str "_law_many" 793),(.str "_law_found" 794),(.str "_law_stirred" 795)] ::
 k1 [] ::
 kp "_law_take" (tp p 74) ::
 kc "_law_take" 789 273 2 3 449 450 (.ref 451) (.ref 452) 453 796 797 ::
 kf "_law_take" (tp p 74) 454 lw 770 ::
 k1 [] ::
 k0 ::
 kp "_law_field" (tp p 75) ::
 kc "_law_field" 799 282 1 3 456 457 .none .none 458 802 803 ::
 kf "_law_field" (tp p 75) 459 lw 770 ::
 k1 [] ::
 k0 ::
 k1 [(.str "_law_one" 808),(.str "_law_other" 809)] ::
 k1 [] ::
 kp "_law_divisor" (tp p 76) ::
 kc "_law_divisor" 805 307 2 3 461 462 (.ref 463) (.ref 464) 465 810 811 ::
 kf "_law_divisor" (tp p 76) 466 lw 770 ::
 k1 [] ::
 k0 ::
 k1 [(.str "_law_top" 816),(.str "_law_bottom" 817),(.str "_law_by" 818)] ::
 k1 [] ::
 kp "_law_low" (tp p 77) ::
 kc "_law_low" 813 311 2 3 468 469 (.ref 470) (.ref 471) 472 819 820 ::
 kf "_law_low" (tp p 77) 473 lw 770 ::
 k1 [] ::
 k0 ::
 k1 [(.str "_law_row" 825),(.str "_law_place" 826),(.str "_law_x" 827),(.str "_law_y" 828)] ::
 k1 [] ::
 kp "_law_value" (tp p 78) ::
 kc "_law_value" 822 316 2 3 475 476 (.ref 477) (.ref 478) 479 829 830 ::
 kf "_law_value" (tp p 78) 480 lw 770 ::
 k1 [] ::
 k0 ::
 k1 [(.str "_law_row" 835),(.str "_law_place" 836),(.str "_law_here" 837)] ::
 k1 [] ::
 kp "_law_keeps" (tp p 79) ::
 kc "_law_keeps" 832 319 2 3 482 483 (.ref 484) (.ref 485) 486 838 839 ::
 kf "_law_keeps" (tp p 79) 487 lw 770 ::
 k1 [] ::
 k0 ::
 kp "_law_whole_left" (tp p 80) ::
 kc "_law_whole_left" 841 322 2 3 489 490 .none .none 491 844 845 ::
 kf "_law_whole_left" (tp p 80) 492 lw 770 ::
 k1 [] ::
 k0 ::
 kp "_law_more" (tp p 81) ::
 kc "_law_more" 847 333 2 3 494 495 .none .none 496 850 851 ::
 kf "_law_more" (tp p 81) 497 lw 770 ::
 k1 [] ::
 k0 ::
 kp "law" (tp p 82) ::
 kc "law" 853 339 1 3 499 500 .none .none 501 856 857 ::
 kf "law" (tp p 82) 502 lw 770::[]
def hp (p:Program)(P:Params)(n:Nat)(m:List (Str×Nat×Value))(e:Nat)(c:List (Nat×Obj)):List Obj:=c.foldl (λl x=>l.set x.1 x.2) ((PySem.W.boot_heap P).objs.toList.set 3 (kd P e m)++(ob p P).take n)
def sh (p:Program)(w:World)(os:OsState)(n:Nat)(m:List (Str×Nat×Value))(e:Nat)(c:List (Nat×Obj))(k:Nat):Shared:=⟨⟨⟨hp p w.params n m e c⟩,{}⟩,⟨[]⟩,{},k,os⟩
def hf (p:Program)(P:Params):Heap:=⟨⟨hp p P 493 mn 81 []⟩,{}⟩
abbrev as:List Addr:=[3,81,82,86,87,93,94,100,101,107,108,114,115,121,122,128,129,135,136,140,141,147,148,154,155,159,160,166,167,173,174,180,181,187,188,194,195,201,202,208,209,215,216,222,223,229,230,234,235,241,242,246,247,253,254,260,261,265,266,270,271,277,278,282,283,289,290,296,297,303,304,310,311,317,318,324,325,331,332,338,339,345,346,352,353,359,360,366,367,373,374,380,381,385,386,390,391,397,398,404,405,411,412,418,419,423,424,428,429,433,434,440,441,447,448,454,455,459,460,466,467,473,474,480,481,487,488,492,493,497,498,502,503]
def Kp (p:Program)(P:Params):PySem.W.Frag:=as.map λa=>(a,(hp p P 493 mn 81 []).getD a k0)
abbrev pg:Program:=PySem.Challenge.pw_roundcuts_k20_whole_rounds
abbrev K (P:Params):PySem.W.Frag:=Kp pg P
theorem xiR (p:Program)(P:Params):as=(Kp p P).map (·.1):=by unfold Kp;rw[xlC];exact(List.map_id _).symm
abbrev Hk (p:Program):PySem.W.Hook:=PySem.W.kHook (Kp p) as (xiR p)
abbrev keep:List Nat:=[1,2,3,4,5,7,8,9,10,11,12,14,15,16,17,18,19,20,21,22,23,25,26,27,28,29,30,31,32,34,35,36,37,39,40,41,42,43,45,46,47,48,49,50,51,52,54,55,56,57,58,59,61,62,63,64,66,67,68,69,70,72,73,74,75,76,77,78,79,80,81,82]
abbrev vw:Program:=PySem.W.view pg keep
theorem dk {P:Params}{x:Str}{st:Stmt}{f cd t:Nat}{m:Str}(a:PySem.W.nsIn (K P) mainGlobals x=some (some (.ref f)))(l:(K P).lookup f=some (kf x st cd m t))(c:PySem.W.codeIn (K P) (.ref cd) x=true):DD (K P) x st :=dd a l c (by unfold PySem.W.keepIn;dsimp only;rw[l];rfl)
theorem dl {P:Params}{x:Str}{st:Stmt}(f cd:Nat)(m:Str)(t:Nat)(a:PySem.W.nsIn (K P) mainGlobals x=some (some (.ref f)):=by kernel_rfl)(l:(K P).lookup f=some (kf x st cd m t):=by kernel_rfl)(c:PySem.W.codeIn (K P) (.ref cd) x=true:=by kernel_rfl):DD (K P) x st:=dk a l c
end K20
set_option maxHeartbeats 0 in
lay_quick PySem.Challenge.pw_roundcuts_k20_whole_rounds
namespace K20
open PySem L2 PySem.W
abbrev tb:=PySem.W.Fast.tw14364793385576792824
abbrev p':=PySem.W.Fast.tw287487076043579132
abbrev v':=view p' keep
abbrev im:=PySem.W.Fast.tw5923862056798008813 p'.main.body
abbrev ann:Option Value:=some (.ref 6)
abbrev q:Pos:=⟨0,0,0,0⟩
abbrev bd:=behindTheImports p'
abbrev env:Env:={ scope:=p'.main.scope,locals:=mainNs,globals:=mainNs,cells:=[],code:=(.ref 13),frame:=some 14 }
abbrev cb:Code:=.body bd env
theorem r0 (w:World)(os:OsState):topGo tb p' w 11 ann 12 ⟨boot_heap w.params,⟨[]⟩,boot_drawn,boot_toks,os⟩ (topStub p')=some ((sh p' w os 4 ((mn.take 9).set 0 (ke "__name__" 165 (.str "__main__" 164))) 9 [(12,k0)] 187),⟨denote tb cb,cb,⟨0,0,0,0⟩,[topFrame q]⟩):=by kernel_rfl
theorem r1 (w:World)(os:OsState):segRun tb p' w 11 ann 1 1 (sh p' w os 4 ((mn.take 9).set 0 (ke "__name__" 165 (.str "__main__" 164))) 9 [(12,k0)] 187) (blockOf bd env cb ⟨0,0,0,0⟩ [topFrame q])=some (.next,(sh p' w os 4 ((mn.take 9).set 0 (ke "__name__" 165 (.str "__main__" 164))) 9 [(12,k0)] 187),cb,⟨0,0,0,0⟩):=by kernel_rfl
theorem c0 (w:World)(os:OsState):segRun tb p' w 11 ann 1 626 (sh p' w os 4 ((mn.take 9).set 0 (ke "__name__" 165 (.str "__main__" 164))) 9 [(12,k0)] 187) (piecesOf ((bd.drop 0).take 4) env cb ⟨0,0,0,0⟩ [topFrame q])=some (.next,(sh p' w os 41 ((mn.take 12).set 0 (ke "__name__" 165 (.str lw1 187))) 12 [(12,tl 3),(24,⟨(.type "type"),none,.cls { name := "CutError", bases:=[(.type "ValueError")],mro:=[(.ref 24),(.type "ValueError"),(.type "Exception"),(.type "BaseException"),(.type "object")],ns:=23,qualname := "CutError", hasDict:=true,slotNames:=[],subclasses:=[(.ref 37),(.ref 49)],abstract:=false,hasDel:=false },⟨[some (.ref 15),none,some (.str "CutError" 189),some (.str "CutError" 197),some (.builtin "ValueError.__new__"),some (.bool true)]⟩⟩)] 239),cb,⟨6,0,7,8⟩):=by kernel_rfl
theorem c1 (w:World)(os:OsState):segRun tb p' w 11 ann 1 701 (sh p' w os 41 ((mn.take 12).set 0 (ke "__name__" 165 (.str lw1 187))) 12 [(12,tl 3),(24,⟨(.type "type"),none,.cls { name := "CutError", bases:=[(.type "ValueError")],mro:=[(.ref 24),(.type "ValueError"),(.type "Exception"),(.type "BaseException"),(.type "object")],ns:=23,qualname := "CutError", hasDict:=true,slotNames:=[],subclasses:=[(.ref 37),(.ref 49)],abstract:=false,hasDel:=false },⟨[some (.ref 15),none,some (.str "CutError" 189),some (.str "CutError" 197),some (.builtin "ValueError.__new__"),some (.bool true)]⟩⟩)] 239) (piecesOf ((bd.drop 4).take 13) env cb ⟨6,0,7,8⟩ [topFrame q])=some (.next,(sh p' w os 119 ((mn.take 23).set 0 (ke "__name__" 165 (.str lw4 319))) 23 [(12,tl 13)] 337),cb,⟨33,0,34,91⟩):=by kernel_rfl
theorem c2 (w:World)(os:OsState):segRun tb p' w 11 ann 1 712 (sh p' w os 119 ((mn.take 23).set 0 (ke "__name__" 165 (.str lw4 319))) 23 [(12,tl 13)] 337) (piecesOf ((bd.drop 17).take 25) env cb ⟨33,0,34,91⟩ [topFrame q])=some (.next,(sh p' w os 261 ((mn.take 45).set 0 (ke "__name__" 165 (.str lw0 509))) 45 [(12,tl 35)] 530),cb,⟨127,0,128,66⟩):=by kernel_rfl
theorem c3 (w:World)(os:OsState):segRun tb p' w 11 ann 1 719 (sh p' w os 261 ((mn.take 45).set 0 (ke "__name__" 165 (.str lw0 509))) 45 [(12,tl 35)] 530) (piecesOf ((bd.drop 42).take 25) env cb ⟨127,0,128,66⟩ [topFrame q])=some (.next,(sh p' w os 402 ((mn.take 66).set 0 (ke "__name__" 165 (.str lw5 727))) 66 [(12,tl 56)] 739),cb,⟨233,0,238,32⟩):=by kernel_rfl
theorem c4 (w:World)(os:OsState):segRun tb p' w 11 ann 1 460 (sh p' w os 402 ((mn.take 66).set 0 (ke "__name__" 165 (.str lw5 727))) 66 [(12,tl 56)] 739) (piecesOf ((bd.drop 67).take 16) env cb ⟨233,0,238,32⟩ [topFrame q])=some (.next,(sh p' w os 493 mn 81 [] 859),cb,⟨339,0,368,15⟩):=by kernel_rfl
theorem xir:bd=(((bd.drop 0).take 4)++(((bd.drop 4).take 13)++(((bd.drop 17).take 25)++(((bd.drop 42).take 25)++(((bd.drop 67).take 16)++[]))))):=by kernel_rfl
theorem cl (w:World)(os:OsState):topRun tb p' w 11 ann 2 (sh p' w os 493 mn 81 [] 859) ⟨doneF .next,cb,⟨339,0,368,15⟩,[topFrame q]⟩=some (sh p' w os 493 mn 81 [] 859):=by kernel_rfl
theorem run (w:World)(os:OsState):topRun tb p' w 11 ann (12+(1+(626+(701+(712+(719+(460+2))))))) ⟨boot_heap w.params,⟨[]⟩,boot_drawn,boot_toks,os⟩ (topStub p')=some ⟨hf p' w.params,⟨[]⟩,{},859,os⟩ :=go_top (r0 w os) (piece_block (r1 w os) (xir▸(piece_app (c0 w os) (piece_app (c1 w os) (piece_app (c2 w os) (piece_app (c3 w os) (piece_app (c4 w os) (piece_nil (cl w os)))))))))
theorem z0 (w:World):((boot_heap w.params).isNs mainGlobals&&(⟨[]⟩:Array GenState).size == 0,(boot_heap w.params).objs.size,(boot_heap w.params).nsMap mainGlobals "__annotations__")=(true,11,ann):=by kernel_rfl
theorem z1 (w:World)(os:OsState):(staticsOk im (boot_heap w.params) (hf p' w.params)&&namesBound p' (hf p' w.params)&&gensDone ⟨hf p' w.params,⟨[]⟩,{},859,os⟩&&laidKept (boot_heap w.params) (hf p' w.params))=true:=by kernel_rfl
abbrev zx (w:World)(os:OsState):=PySem.W.Fast.tw4187177175401517315 v' [] im (λs=>xlAt v' [] s&&recOk [] s) true ⟨hf p' w.params,⟨[]⟩,{},859,os⟩
theorem z20 (w os):(zx w os).1=PyProof.Rows.expectedOf v':=by kernel_rfl
theorem z21 (w os):(zx w os).2.1=bltViewBooted:=by kernel_rfl
theorem z22 (w os):(zx w os).2.2.1=true:=by kernel_rfl
theorem z23 (w os):(zx w os).2.2.2.1=true:=by kernel_rfl
theorem z24 (w os):(zx w os).2.2.2.2.1=pinGoodD (PyProof.Rows.drecsOf v'):=by kernel_rfl
theorem z25 (w os):(zx w os).2.2.2.2.2.1=PyProof.Rows.plainGoodE v' (looseW v' []):=by kernel_rfl
theorem z26 (w os):(zx w os).2.2.2.2.2.2.1=PyProof.Rows.plainGoodD v' []:=by kernel_rfl
theorem z27 (w os):(zx w os).2.2.2.2.2.2.2.1=wideGood v':=by kernel_rfl
theorem z28 (w os):(zx w os).2.2.2.2.2.2.2.2=clsGoodW v' []:=by kernel_rfl
theorem z2 (w os):zx w os=openGood v' []:=Prod.ext (z20 w os) (Prod.ext (z21 w os) (Prod.ext (z22 w os) (Prod.ext (z23 w os) (Prod.ext (z24 w os) (Prod.ext (z25 w os) (Prod.ext (z26 w os) (Prod.ext (z27 w os) (z28 w os))))))))
theorem z3 (w:World)(os:OsState):Hook.obs (Hk p') ⟨hf p' w.params,⟨[]⟩,{},859,os⟩=Hook.val (Hk p') w:=by kernel_rfl
theorem xib:LeftO p' v' [] (λs=>xlAt v' [] s&&recOk [] s) (Hook.obs (Hk p')) (Hook.val (Hk p')) 6386:=by
 have h1:=run;have h2:=z1;have h3:=z2;unfold zx at h3;rw[show tb=treeTable from PySem.W.Fast.te14364793385576792824.symm] at h1;rw[show im=importedModules p'.main.body from congrFun PySem.W.Fast.te5923862056798008813.symm _] at h2 h3;rw[show PySem.W.Fast.tw4187177175401517315=openSeen from PySem.W.Fast.te4187177175401517315.symm] at h3;exact LeftO.of_pieces (boot_open rfl rfl λ_=>rfl) z0 h1 (by decide) λw=>funext λos=>by rw[h2 w os,h3 w os,z3 w os]
theorem xf1 (p:Program)(h:p=p'):LeftO p (view p keep) [] (λs=>xlAt (view p keep) [] s&&recOk [] s) (Hook.obs (Hk p)) (Hook.val (Hk p)) 6386:=by subst h;exact xib
theorem left:LeftO pg vw [] (λs=>xlAt vw [] s&&recOk [] s) (Hook.obs (Hk pg)) (Hook.val (Hk pg)) 6386:=xf1 pg PySem.W.Fast.te287487076043579132
end K20
namespace K20
open PySem L2 Trn
theorem there {l:PySem.W.OpenLaw}{w:World}{P:Params}{h:Heap}{mg:Str->Option Value}{fa:Addr}(X:(K P).In h)(G:h.Ns mainGlobals mg)(hfa:mg "law" = some (.ref fa)) :
  ∃fd:FuncData,(∀(s:Shared) (v:Value),BindsTo s fd ⟨[v],[]⟩ [("_law_script", v)])/\∀base:Heap,(K P).In base->base.Ns mainGlobals mg->mF l.prog w (K P) mg base CX0 13 fa fd ["_law_script"] (lZ (K P)) :=
 all_mk X G hfa (dl 82 81 lw3 271)
  (dl 94 93 lw3 271)
  (dl 155 154 lw4 319)
  (dl 174 173 lw4 319)
  (dl 209 208 lw6 403)
  (dl 247 246 lw2 478)
  (dl 278 277 lw0 509)
  (dl 339 338 lw9 545)
  (dl 367 366 lw7 634)
  (dl 381 380 lw7 634)
  (dl 398 397 lw8 695)
  (dl 441 440 lw 770)
  (dl 455 454 lw 770)
  (dl 467 466 lw 770)
  (dl 493 492 lw 770)
  (dl 87 86 lw3 271)
  (dl 101 100 lw3 271)
  (dl 160 159 lw4 319)
  (dl 167 166 lw4 319)
  (dl 223 222 lw6 403)
  (dl 230 229 lw6 403)
  (dl 297 296 lw9 545)
  (dl 318 317 lw9 545)
  (dl 325 324 lw9 545)
  (dl 332 331 lw9 545)
  (dl 360 359 lw7 634)
  (dl 391 390 lw8 695)
  (dl 448 447 lw 770)
  (dl 460 459 lw 770)
  (dl 474 473 lw 770)
  (dl 108 107 lw3 271)
  (dl 115 114 lw3 271)
  (dl 141 140 lw4 319)
  (dl 148 147 lw4 319)
  (dl 181 180 lw6 403)
  (dl 216 215 lw6 403)
  (dl 304 303 lw9 545)
  (dl 311 310 lw9 545)
  (dl 353 352 lw7 634)
  (dl 386 385 lw8 695)
  (dl 481 480 lw 770)
  (dl 136 135 lw4 319)
  (dl 188 187 lw6 403)
  (dl 242 241 lw2 478)
  (dl 290 289 lw9 545)
  (dl 405 404 lw8 695)
  (dl 488 487 lw 770)
  (dl 129 128 lw4 319)
  (dl 195 194 lw6 403)
  (dl 202 201 lw6 403)
  (dl 374 373 lw7 634)
  (dl 122 121 lw4 319)
  (dl 266 265 lw0 509)
  (dl 235 234 lw2 478)
  (dl 346 345 lw7 634)
  (dl 254 253 lw2 478)
  (dl 419 418 lw5 727)
  (dl 261 260 lw0 509)
  (dl 271 270 lw0 509)
  (dl 283 282 lw0 509)
  (dl 412 411 lw5 727)
  (dl 434 433 lw5 727)
  (dl 424 423 lw5 727)
  (dl 429 428 lw5 727)
  (dl 498 497 lw 770)
  (by kernel_rfl:PySem.W.nsIn (K P) mainGlobals "law" = some (some (.ref 503))) (by kernel_rfl:(K P).lookup 503=some (kf "law" jK 502 lw 770)) (by kernel_rfl:PySem.W.codeIn (K P) (.ref 502) "law" = true) (by kernel_rfl) (by kernel_rfl) (by kernel_rfl) (by kernel_rfl) (by kernel_rfl) (by kernel_rfl) (by kernel_rfl) (by kernel_rfl) (by kernel_rfl) (by kernel_rfl) (by kernel_rfl) (by kernel_rfl) (by kernel_rfl) (by kernel_rfl) (by kernel_rfl) (by kernel_rfl) (by kernel_rfl) ((by kernel_rfl:PySem.W.nsIn (K P) mainGlobals "FAR" = some (some (.int 60001 321))))
end K20
end
open PySem PySem.W PyProof.Rows
set_option maxRecDepth 100000 in
set_option maxHeartbeats 0 in
theorem PySem.Challenge.cw_roundcuts_k20_whole_rounds_holds : PySem.Challenge.rw_roundcuts_k20_whole_rounds.Holds := by
 w_on;o_law
 refine holds_open (q:=K20.vw) (XP:=XL K20.vw []) (YP:=Hook.says (K20.Hk _)) K20.left (Hook.of _) (Hook.keeps _) (λs e=>xl_of s (Bool.and_eq_true_iff.mp e).1)
  XL.keeps rfl rfl rfl (λs e=>recFacts_of (Bool.and_eq_true_iff.mp e).2) rfl (by assumption) (by decide +kernel) ⟨rfl,rfl,rfl,rfl,rfl,by decide +kernel⟩ ?hw ?hc
 case hw=>w_witness2
 exact K20.walk (l:=PySem.Challenge.rw_roundcuts_k20_whole_rounds) rfl rfl (λw h Y=>PySem.W.kIn_of Y) (λP=>by kernel_rfl) (λw mg fa h X G e=>K20.there X G e)
