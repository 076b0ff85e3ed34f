import PyProof.Rows.All
import Wide.All
import OpenK.AllK
import Wide.FinOn
import Lean
import PyProof.EqAt
import PyProof.EqKinds
import PyProof.TupleCall
import PyProof.ZipIter
import PyProof.NeData
import PyProof.P3Eq
import PyProof.EnumFor
import PyProof.EnumMake
import PyProof.Draws
import KE.KTryMore
import KE.KIsAll
import PyProof.ExcAttrAll.ValueError
import KE.KLam
import PyProof.Cells
import KE.KDictList
import PySem.Challenge.RW_roundcuts_k17_papers_of_a_round
set_option Elab.async false
set_option linter.all false
set_option maxRecDepth 100000
set_option maxHeartbeats 4000000
set_option exponentiation.threshold 3000
set_option bootstrap.genMatcherCode false
set_option genSizeOfSpec false
set_option genInjectivity false
abbrev xi:=@PySem.wpAny_bind
abbrev xt:=@PySem.W.Frag
abbrev xH:=@if_neg
abbrev xK:=@if_pos
abbrev xN:=@PySem.wpAny_pure
abbrev xO:=@List.length_map
abbrev xT:=@List.mem_cons_self
abbrev xU:=@List.mem_cons
abbrev yg:=@Nat.le_refl
abbrev yj:=@PySem.W.mg_of
abbrev yo:=@Int.le_of_lt
abbrev yy:=@List.mem_append
abbrev yA:=@List.getElem?_eq_getElem
abbrev yH:=@PySem.Heap.lt_size
abbrev yJ:=@List.mem_cons_of_mem
abbrev yV:=@of_decide_eq_true
abbrev yY:=@PySem.Heap.get?_push_of_some
abbrev yZ:=@List.mem_append_left
abbrev y_:=@Int.lt_or_le
abbrev zc:=@List.getElem?_eq_some_iff
abbrev zf:=@Int.mul_le_mul_of_nonneg_right
abbrev zi:=@List.not_mem_nil
abbrev zj:=@congrArg
abbrev zo:=@or_false
abbrev zy:=@List.length_append
abbrev zG:=@List.mem_of_getElem?
abbrev zK:=@Ne.symm
abbrev zL:=@Prod.ext
abbrev zQ:=@List.mem_map
abbrev zR:=@List.mem_singleton
abbrev zS:=@PySem.PassesOwn.never
abbrev zV:=@Nat.ne_of_lt
abbrev zY:=@List.mem_append_right
abbrev zZ:=@of_decide_eq_false
abbrev we:=@Int.mul_le_mul_of_nonneg_left
abbrev wm:=@List.size_toArray
abbrev wD:=@PySem.Heap.get?_push_size
abbrev wF:=@Int.le_refl
abbrev wI:=@decide_eq_true
abbrev wR:=@Bool.false_ne_true
abbrev wU:=@List.length_cons
abbrev wV:=@Nat.le_trans
abbrev um:=@List.append_nil
abbrev uo:=@List.map_append
abbrev uD:=@PySem.wpAny_mono
abbrev uJ:=@List.length_take
abbrev uK:=@List.take_of_length_le
abbrev uU:=@Int.natAbs_mul
abbrev uV:=@List.mem_filter
abbrev uW:=@Nat.lt_of_lt_of_le
abbrev uX:=@decide_eq_false
abbrev vf:=@Int.mul_eq_zero
abbrev vh:=@List.getElem?_map
abbrev vx:=@List.lookup_cons
abbrev vy:=@List.map_map
abbrev vG:=@List.singleton_sublist
abbrev vH:=@Option.some.inj
abbrev vI:=@PySem.wpAny_newObj_type
abbrev vQ:=@Int.mul_comm
abbrev vR:=@Int.mul_zero
abbrev vS:=@List.map_cons
abbrev vT:=@List.take_succ
abbrev vU:=@PySem.wpAny_field
abbrev v5:=@List.append_assoc
abbrev v8:=@PySem.W.mg_none_of
abbrev qo:=@List.length_drop
abbrev qp:=@decide_eq_true_eq
abbrev qq:=@PySem.wpAny_call_entry
abbrev qJ:=@Int.mul_neg
abbrev qK:=@Int.neg_mul
abbrev qL:=@List.foldl_cons
abbrev qM:=@List.nil_append
abbrev qN:=@Nat.lt_irrefl
abbrev qO:=@PySem.F.plainAttrs_list
abbrev qP:=@PySem.mem_of_lookup
abbrev qQ:=@if_false
abbrev kJ:=@Array.length_toList
abbrev kK:=@PySem.wpAny_holding
abbrev kL:=@PySem.wpAny_loadPart'
abbrev k_:=@Bool.and_eq_true
abbrev ja:=@Int.le_of_mul_le_mul_right
abbrev jb:=@Int.zero_mul
abbrev jc:=@List.length_set
abbrev jd:=@List.mem_map_of_mem
abbrev je:=@Nat.lt_of_le_of_lt
abbrev jf:=@Nat.ne_of_gt
abbrev jg:=@PySem.F.slot_list_append
abbrev jh:=@PySem.F.type_list_append
abbrev jG:=@Int.dvd_coe_gcd
abbrev jH:=@Int.mul_neg_of_pos_of_neg
abbrev jI:=@Int.toNat_natCast
abbrev jJ:=@List.all_eq_true
abbrev jK:=@List.getD_eq_getElem?_getD
abbrev jL:=@PySem.W.kia_one
abbrev jM:=@PySem.wpAny_callSpecial?_slot
abbrev gc:=@Classical.byContradiction
abbrev gf:=@Int.eq_of_mul_eq_mul_right
abbrev gg:=@Int.gcd_dvd_left
abbrev gk:=@Int.lt_trichotomy
abbrev gy:=@Int.mul_one
abbrev gz:=@Int.mul_pos
abbrev gA:=@List.cons_append
abbrev gB:=@List.length_singleton
abbrev gC:=@List.mem_of_mem_take
abbrev gD:=@Nat.zero_le
abbrev fq:=@PySem.Heap.SameBut.update
abbrev ft:=@PySem.Heap.size_push
abbrev fu:=@List.map_nil
abbrev fw:=@List.mem_iff_getElem
abbrev fA:=@List.replicate_succ
abbrev fC:=@Nat.le_add_right
abbrev fE:=@Nat.lt_succ_of_lt
abbrev fF:=@PySem.Paired.length
abbrev fG:=@PySem.call_meets
abbrev fH:=@PySem.wpAny_truthy_bool
abbrev dX:=@Int.emod_nonneg
abbrev dY:=@Int.fdiv_eq_ediv_of_nonneg
abbrev dZ:=@Int.gcd_dvd_right
abbrev d_:=@Int.mul_ediv_cancel'
abbrev se:=@List.foldl_append
abbrev sf:=@List.getElem?_eq_none
abbrev si:=@List.length_nil
abbrev sj:=@List.nodup_append
abbrev sA:=@List.pairwise_iff_forall_sublist
abbrev sC:=@List.take_append_drop
abbrev sD:=@List.zip_cons_cons
abbrev sE:=@Nat.le_succ
abbrev sF:=@if_true
abbrev sG:=@PySem.wpAny_rule
abbrev sH:=@PySem.wpAny_seqItems
abbrev rf:=@Bool.false_eq_true
abbrev rh:=@Int.add_zero
abbrev rj:=@Int.emod_lt_of_pos
abbrev rm:=@Int.not_lt
abbrev rp:=@List.any_cons
abbrev rq:=@List.any_eq_true
abbrev rz:=@List.drop_eq_getElem_cons
abbrev rA:=@List.filter_cons_of_neg
abbrev rB:=@List.flatten_cons
abbrev rC:=@List.getElem?_set_ne
abbrev rD:=@List.nodup_cons
abbrev rE:=@List.sublist_append_right
abbrev rF:=@PySem.wpAny_attempt
abbrev rG:=@PySem.wpAny_dictEntries
abbrev rH:=@PySem.wpAny_passesOwn
abbrev rJ:=@PySem.wpAny_standAt
abbrev mI:=@Array.getElem?_eq_getElem
abbrev mJ:=@Int.gcd_pos_of_ne_zero_right
abbrev mK:=@Int.zero_add
abbrev mL:=@PyProof.Rows.IsTup.new
abbrev mM:=@List.Sublist.refl
abbrev mN:=@List.filter_cons_of_pos
abbrev mO:=@List.getElem?_append_right
abbrev mR:=@List.length_eq_zero_iff
abbrev mS:=@List.take_length
abbrev mT:=@Nat.le_of_lt
abbrev mU:=@Nat.lt_succ_self
abbrev mV:=@PySem.Obj.data_mapFields
abbrev mW:=@Prod.ext_iff
abbrev mX:=@PyProof.Rows.slot_tuple_getitem
abbrev mY:=@PyProof.Rows.assignInOrder_cons
abbrev mZ:=@decide_eq_decide
abbrev m5:=@decide_eq_true_iff
abbrev m6:=@PySem.wpAny_dictEpoch
abbrev m7:=@PySem.wpAny_setField
abbrev m9:=@PySem.wpAny_setField_rec
abbrev pS:=@Bool.eq_iff_iff
abbrev pU:=@PySem.F.slot_dict_keyiterator_next
abbrev pV:=@PySem.F.slot_dict_valueiterator_next
abbrev pW:=@PySem.Heap.get?_update_self
abbrev pX:=@Int.dvd_natAbs
abbrev pY:=@Int.mul_ediv_cancel_left
abbrev pZ:=@Int.mul_neg_of_neg_of_pos
abbrev p6:=@List.Sublist.trans
abbrev p7:=@List.all_map
abbrev p8:=@List.drop_zero
abbrev p9:=@List.filter_eq_nil_iff
abbrev p_:=@List.flatMap_append
abbrev oa:=@List.getElem?_append_left
abbrev og:=@List.getElem_mem
abbrev oh:=@List.map_drop
abbrev oi:=@List.mem_range
abbrev oj:=@List.of_mem_zip
abbrev om:=@List.take_zero
abbrev oq:=@Nat.mul_le_mul
abbrev ot:=@PyProof.Rows.callWith_type1
abbrev ou:=@PySem.typeIs_int
abbrev ox:=@PySem.wpAny_bindName
abbrev oy:=@PySem.wpAny_pyIter_tuple
abbrev B5:=@Array.getElem?_eq_none
abbrev B6:=@PySem.F.slot_int_rmul
abbrev B7:=@PySem.F.slot_tuple_iterator_next
abbrev B8:=@PySem.F.slot_zip_next
abbrev B9:=@PySem.Heap.get?_update_other
abbrev B_:=@Int.ediv_nonneg
abbrev Ca:=@Int.gcd_mul_left
abbrev Cb:=@Int.le_ediv_iff_mul_le
abbrev Cc:=@Int.le_of_mul_le_mul_left
abbrev Cd:=@Int.mul_ediv_mul_of_pos_left
abbrev Ce:=@Int.mul_emod_right
abbrev Cf:=@Int.mul_nonneg
abbrev Cg:=@Int.natCast_nonneg
abbrev Ci:=@Int.ne_of_gt
abbrev Cj:=@Int.sub_zero
abbrev Cm:=@List.find?_cons
abbrev Co:=@List.getElem?_set_self
abbrev Cp:=@List.isEmpty_map
abbrev Cq:=@List.length_filter_le
abbrev Cr:=@List.length_replicate
abbrev Cs:=@List.map_take
abbrev Ct:=@List.mem_filterMap
abbrev Cw:=@List.set_comm
abbrev Cy:=@List.sublist_append_iff
abbrev Cz:=@List.sum_cons
abbrev CA:=@Nat.lt_or_ge
abbrev CB:=@Nat.mul_le_mul_right
abbrev CC:=@Nat.sub_zero
abbrev CD:=@PySem.Paired.snoc
abbrev CF:=@PySem.isSubtype_stop
abbrev CG:=@PySem.wpAny_execs_nil
abbrev CH:=@PySem.wpAny_fieldsOf
abbrev CJ:=@PySem.wpAny_isInstance
abbrev CL:=@PySem.wpAny_onRaise
abbrev CN:=@PySem.wpAny_pyIter_list
abbrev CO:=@PySem.wpAny_typeNameOfWhole_keyiter
abbrev CP:=@PySem.wpAny_typeNameOfWhole_valiter
abbrev CQ:=@PySem.wpAny_typeNameOf_keyiter
abbrev CS:=@PySem.wpAny_typeNameOf_valiter
abbrev J_:=@Array.getElem?_toList
abbrev Ka:=@PySem.F.args_list_append_2
abbrev Kb:=@PySem.F.entry_list_append
abbrev Kc:=@PySem.F.slot_list_append
abbrev Kd:=@PySem.F.slot_tuple_mul
abbrev Ke:=@Int.dvd_antisymm
abbrev Kf:=@Int.dvd_mul_left
abbrev Kg:=@Int.dvd_of_emod_eq_zero
abbrev Kh:=@Int.ediv_mul_cancel
abbrev Ki:=@Int.fmod_lt_of_pos
abbrev Kj:=@Int.fmod_nonneg_of_pos
abbrev Kk:=@Int.lt_of_mul_lt_mul_right
abbrev Kl:=@Int.mul_dvd_mul_left
abbrev Km:=@Int.mul_lt_mul_of_pos_right
abbrev Kn:=@Int.pos_of_mul_pos_right
abbrev Ko:=@Int.toNat_of_nonneg
abbrev Kq:=@List.filterMap_cons
abbrev Kr:=@List.flatMap_cons
abbrev Ks:=@List.getElem?_drop
abbrev Kt:=@List.getElem?_replicate
abbrev Ku:=@List.length_pos_iff
abbrev Kv:=@List.pairwise_map
abbrev Kw:=@Nat.add_le_add_left
abbrev Kx:=@Nat.min_le_right
abbrev Ky:=@PySem.Obj.cls_mapFields
abbrev Kz:=@PySem.Obj.isFreed_of_fields
abbrev KA:=@PySem.F.args_tuple_add_2
abbrev KC:=@PySem.F.entry_tuple_add
abbrev KD:=@PySem.F.slot_tuple_add
abbrev KE:=@PySem.IsL.update
abbrev KG:=@PySem.list_append
abbrev KH:=@PyProof.Rows.assignInOrder_nil
abbrev KI:=@PySem.noFill_tuple_add
abbrev KJ:=@PySem.wpAny_Call_Name_kw
abbrev KL:=@PySem.wpAny_assign_Name
abbrev KN:=@PySem.wpAny_comprehension_free
abbrev KO:=@PySem.wpAny_isOneOf_valiter
abbrev KP:=@PySem.wpAny_notOrdered_dict
abbrev KQ:=@PySem.wpAny_updateSeq_pair
abbrev UB:=@PySem.F.args_dict_keyiterator_next_1
abbrev UC:=@PySem.F.args_dict_valueiterator_next_1
abbrev UD:=@PySem.F.entry_dict_keyiterator_next
abbrev UE:=@PySem.F.entry_dict_valueiterator_next
abbrev UG:=@Int.mul_nonpos_of_nonpos_of_nonneg
local macro_rules|`(tactic|lia)=>`(tactic|omega)
noncomputable section
namespace L2
open PySem PySem.Spec PyProof.Rows
abbrev Key:=Sum Int Str
def ai:Key->Value->Bool
 |.inl k,v=>Value.isInt k v
 |.inr x,v=>Value.isStrOf x v
def Nw (w:World):Key->Int
 |.inl k=>hashInt k
 |.inr x=>hashStr w x
theorem jY:∀ {k:Key} {v:Value},ai k v=true->(∃i t,k=Sum.inl i/\v=Value.int i t)\/(∃x t,k=Sum.inr x/\v=Value.str x t)
 |.inl i,v,h=>by obtain⟨t,e⟩:=Value.isInt_shape (k:=i) (v:=v) h;exact .inl ⟨i,t,rfl,e⟩
 |.inr x,v,h=>by obtain⟨t,e⟩:=Value.isStrOf_shape (x:=x) (v:=v) h;exact .inr ⟨x,t,rfl,e⟩
def Nx (i:Int)(t:Tok):ai (.inl i) (.int i t)=true:=by simp[ai,Value.isInt]
def Ny (x:Str)(t:Tok):ai (.inr x) (.str x t)=true:=by simp[ai,Value.isStrOf]
def Nz (a b:Int):decide ((Sum.inl a:Key)=Sum.inl b)=(a==b):=by
 by_cases e:a=b
 .subst e;simp
 .have h:¬(Sum.inl a:Key)=Sum.inl b:=λq=>e (Sum.inl.inj q);rw[uX h];exact(beq_eq_false_iff_ne.mpr e).symm
def NC (a b:Str):decide ((Sum.inr a:Key)=Sum.inr b)=decide (a=b):=by
 by_cases e:a=b
 .subst e;simp
 .have h:¬(Sum.inr a:Key)=Sum.inr b:=λq=>e (Sum.inr.inj q);rw[uX h,uX e]
def NA (a:Int)(b:Str):decide ((Sum.inl a:Key)=Sum.inr b)=false:=uX (λq=>nomatch q)
def NB (a:Str)(b:Int):decide ((Sum.inr a:Key)=Sum.inl b)=false:=uX (λq=>nomatch q)
def qA (prog:Program)(w:World):PySem.KeyKind prog w Key where
 is:=ai
 hash:=Nw w
 inj:=λv a b ha hb=>by
  rcases jY ha with ⟨i,t,rfl,rfl⟩|⟨x,t,rfl,rfl⟩
  .rcases jY hb with ⟨j,u,rfl,e⟩|⟨y,u,rfl,e⟩
   .injection e with e1 _;rw[e1]
   .exact nomatch e
  .rcases jY hb with ⟨j,u,rfl,e⟩|⟨y,u,rfl,e⟩
   .exact nomatch e
   .injection e with e1 _;rw[e1]
 byValue:=λk v h=>by rcases jY h with ⟨i,t,rfl,rfl⟩|⟨x,t,rfl,rfl⟩<;>rfl
 pyHash:=λhv h=>by
  rcases jY hv with ⟨i,t,rfl,rfl⟩|⟨x,t,rfl,rfl⟩
  .exact wpAny_pyHash_int h
  .exact wpAny_pyHash_str h
 eqBool:=λhu hv h=>by
  rcases jY hu with ⟨i,t,rfl,rfl⟩|⟨x,t,rfl,rfl⟩
  .rcases jY hv with ⟨j,u,rfl,rfl⟩|⟨y,u,rfl,rfl⟩
   .rw[Nz] at h;exact wpAny_eqBool_int h
   .rw[NA] at h;exact SeqAt.EqAt.int_str i t y u _ _ _ _ h
  .rcases jY hv with ⟨j,u,rfl,rfl⟩|⟨y,u,rfl,rfl⟩
   .rw[NB] at h;exact SeqAt.EqAt.str_int x t j u _ _ _ _ h
   .rw[NC] at h;exact wpAny_eqBool_str h
 «strs» := λk x t v h=>by
  rcases jY h with ⟨i,u,rfl,e⟩|⟨y,u,rfl,e⟩
  .exact nomatch e
  .injection e with e1 _;subst e1;cases v<;>rfl
def N9 (prog:Program)(w:World)(i:Int)(t:Tok):(qA prog w).is (.inl i) (.int i t)=true:=Nx i t
def N_ (prog:Program)(w:World)(x:Str)(t:Tok):(qA prog w).is (.inr x) (.str x t)=true:=Ny x t
inductive V where
 |non|bl (b:Bool)|int (i:Int)|str (x:Str)|byt (b:Array UInt8)|flt (b:UInt64)|ref (a:Addr)|ty (n:String)
 deriving DecidableEq
def RelV:V->Value->Prop
 |.non,u=>u=Value.none
 |.bl b,u=>u=Value.bool b
 |.int i,u=>∃t,u=Value.int i t
 |.str x,u=>∃t,u=Value.str x t
 |.byt b,u=>∃t,u=Value.bytes b t
 |.flt b,u=>∃t,u=Value.float b t
 |.ref a,u=>u=Value.ref a
 |.ty n,u=>u=Value.type n
abbrev yk:List V->List Value->Prop:=Paired RelV
theorem yk.length (r:yk xs us):xs.length=us.length:=fF r
theorem yk.get:∀ {xs:List V} {us:List Value} {i:Nat} {x:V},yk xs us->xs[i]?=some x->∃u,us[i]?=some u/\RelV x u
 |_,_,_,_,.nil,e=>by simp at e
 |_,_,0,_,.cons r _,e=>by simp at e;subst e;exact⟨_,rfl,r⟩
 |_,_,i+1,x,.cons _ t,e=>by obtain⟨u,h1,h2⟩:=yk.get (i:=i) (x:=x) t (by simpa using e);exact⟨u,by simpa using h1,h2⟩
theorem yk.set (r:RelV x u):∀ {xs:List V} {us:List Value} (i:Nat),yk xs us->yk (xs.set i x) (us.set i u)
 |_,_,_,.nil=>.nil
 |_,_,0,.cons _ t=>.cons r t
 |_,_,i+1,.cons q t=>.cons q (yk.set r i t)
theorem yk.append:∀ {xs ys:List V} {us ws:List Value},yk xs us->yk ys ws->yk (xs++ys) (us++ws)
 |_,_,_,_,.nil,s=>s
 |_,_,_,_,.cons r t,s=>.cons r (yk.append t s)
theorem yk.take:∀ {xs:List V} {us:List Value} (n:Nat),yk xs us->yk (xs.take n) (us.take n)
 |_,_,0,_=>.nil
 |_,_,_+1,.nil=>.nil
 |_,_,n+1,.cons r t=>.cons r (yk.take n t)
theorem yk.drop:∀ {xs:List V} {us:List Value} (n:Nat),yk xs us->yk (xs.drop n) (us.drop n)
 |_,_,0,r=>r
 |_,_,_+1,.nil=>.nil
 |_,_,n+1,.cons _ t=>yk.drop n t
def sJ:Option V->Option Value->Prop
 |some v,some u=>RelV v u
 |none,none=>True
 |_,_=>False
def KV:List (κ×V)->List (κ×Value)->Prop:=Paired λ(p:κ×V) (q:κ×Value)=>p.1=q.1/\RelV p.2 q.2
def kV:Key->V
 |.inl i=>.int i
 |.inr x=>.str x
inductive HO where
  |lst (xs:List V)
  |tup (xs:List V)
  |dK (xJ:List (Key×V))|dT (xJ:List (List Key×V))
  |set (S:Int->Bool) (n:Nat)
  |ins (C dx:Addr) (fs:List (Str×V))
  |own (x:Addr)
  |xd (fs:List (Str×V))
  |met (f x:Addr)
  |rng (lo hi:Int)
  |frz (o:Obj) (u:HO)
  |tbl (ps:Array Value)
 |tb (q:Str)
  |ext (φ:Heap->Prop)
abbrev Hp:=Addr->Option HO
def upd (H:Hp)(a:Addr)(o:HO):Hp:=λb=>if b=a then some o else H b
def zA:upd H a o a=some o:=by unfold upd;rw[xK rfl]
def yl (h:b≠a):upd H a o b=H b:=by unfold upd;rw[xH h]
def ar {H:Hp}{a b:Addr}{o u:HO}(h:H a=some o)(h':H b=some u)(d:o≠u):a≠b:=by intro e;subst e;rw[h] at h';exact d (vH h')
def zq {H:Hp}{a b:Addr}{o:HO}(h:H a=some o)(h':H b=none):a≠b:=by intro e;subst e;rw[h] at h';cases h'
section
variable (P:Program) (w:World)
def wq (H:Hp)(h:Heap)(a:Addr):HO->Prop
 |.lst xs=>xs.length<=sizeLine/\∃(xj:List Value) (n:Nat),yk xs xj/\h.get? a=some {cls:=.type "list", data:=.seq xj.toArray n}
 |.tup xs=>xs.length<=sizeLine/\∃xj:List Value,yk xs xj/\IsTup h a xj.toArray
 |.dK xJ=>xJ.length<=sizeLine/\(a==sysModules)=false/\∃vs,KV xJ vs/\h.DictOf (qA P w) a vs
 |.dT xJ=>xJ.length<=sizeLine/\(a==sysModules)=false/\∃xs:List (List Key×Addr×Value),
   Paired (λ(p:List Key×V) (q:List Key×Addr×Value)=>p.1=q.1/\H q.2.1=some (.tup (p.1.map kV))/\RelV p.2 q.2.2) xJ xs/\
   ∃o es ep,h.get? a=some o/\o.ExactDict/\o.data=.dict es ep/\es.toList=xs.map (entryOfKey (tupleKind (qA P w)))/\(xs.map (·.1)).Nodup
 |.set S n=>h.SetOf (intKind P w) a S n
 |.ins C dx fs=>H dx=some (.own a)/\fs.length<=1000/\dx≠a/\h.get? a=some (PySem.W.instObj C dx)/\
   ∃mA,h.Ns1 dx mA/\(∀f,sJ (fs.lookup f) (mA f))/\PySem.Within mA (fs.map (·.1))
 |.own _=>∃o,h.get? a=some o
 |.xd fs=>∃mA,h.Ns1 a mA/\∀f,sJ (fs.lookup f) (mA f)
 |.rng lo hi=>∃t u v,h.get? a=some {cls:=.type "range", data:=.fields #[.int lo t,.int hi u,.int 1 v]}
 |.frz o u=>h.get? a=some o/\wq H h a u
 |.tbl ps=>h.get? a=some {cls:=.none,data:=.fields ps}
 |.tb q=>∃ps:Array Value,h.get? a=some {cls:=.none,data:=.fields ps}/\TriplesOk ps.toList/\∀pos cv,codeAmong pos ps.toList=some cv->
   ∃c oc vs t,cv=.ref c/\H c=some (.frz oc (.own c))/\oc.data=.fields vs/\vs[1]?=some (.str q t)
 |.met f x=>h.get? a=some (PySem.W.methodObj (.ref f) (.ref x))
 |.ext φ=>φ h/\(∃o,h.get? a=some o)/\∀h1 h2:Heap,φ h1->(∀o,h1.get? a=some o->h2.get? a=some o)->φ h2
def wa (H:Hp)(h:Heap):Prop:=∀a o,H a=some o->wq P w H h a o
end
section
variable {P:Program} {w:World} {H H':Hp} {h h':Heap} {a:Addr} {o:HO}
theorem wq.lt (x:wq P w H h a o):a<h.objs.size:=by
 cases o with
 |lst xs=>obtain⟨_,_,_,_,e⟩:=x;exact yH e
 |tup xs=>obtain⟨_,_,_,p⟩:=x;exact p.lt
 |dK xJ=>obtain⟨_,_,_,_,o,_,_,e,_⟩:=x;exact yH e
 |dT xJ=>obtain⟨_,_,_,_,o,_,_,e,_⟩:=x;exact yH e
 |set S n=>obtain⟨o,_,_,_,e,_⟩:=x;exact yH e
 |ins C dx fs=>obtain⟨_,_,_,e,_⟩:=x;exact yH e
 |own y=>obtain⟨_,e⟩:=x;exact yH e
 |xd fs=>obtain⟨_,⟨_,_,_,e,_⟩,_⟩:=x;exact yH e
 |rng lo hi=>obtain⟨_,_,_,e⟩:=x;exact yH e
 |frz ob u=>obtain⟨e,_⟩:=x;exact yH e
 |tbl ps=>exact yH (show h.get? a=some _ from x)
 |tb q=>obtain⟨_,e,_⟩:=x;exact yH e
 |met f y=>exact yH (show h.get? a=some _ from x)
 |ext φ=>obtain⟨_,⟨_,e⟩,_⟩:=x;exact yH e
theorem Paired.mapP:∀ {l₁:List α} {l₂:List β},Paired F l₁ l₂->(∀a b,F a b->G a b)->Paired G l₁ l₂
 |_,_,.nil,_=>.nil
 |_,_,.cons r t,f=>.cons (f _ _ r) (Paired.mapP t f)
theorem wq.stay (x:wq P w H h a o)(k:∀b u,(b=a\/H b=some (.own a))->h.get? b=some u->h'.get? b=some u)
  (ho:∀b,H b=some (.own a)->H' b=some (.own a)) (ht:∀b xs,H b=some (.tup xs)->H' b=some (.tup xs)) (hf:∀b o u,H b=some (.frz o u)->H' b=some (.frz o u)):wq P w H' h' a o:=by
 induction o with
 |lst xs=>obtain⟨z,xj,n,r,e⟩:=x;exact⟨z,xj,n,r,k _ _ (.inl rfl) e⟩
 |tup xs=>obtain⟨z,xj,r,ob,e,c⟩:=x;exact⟨z,xj,r,ob,k _ _ (.inl rfl) e,c⟩
 |dK xJ=>obtain⟨z,y,vs,r,ob,es,ep,e,c⟩:=x;exact⟨z,y,vs,r,ob,es,ep,k _ _ (.inl rfl) e,c⟩
 |dT xJ=>obtain⟨z,y,xs,r,ob,es,ep,e,c⟩:=x;exact⟨z,y,xs,Paired.mapP r λp q z=>⟨z.1,ht _ _ z.2.1,z.2.2⟩,ob,es,ep,k _ _ (.inl rfl) e,c⟩
 |set S n=>obtain⟨ob,es,ep,t,e,c⟩:=x;exact⟨ob,es,ep,t,k _ _ (.inl rfl) e,c⟩
 |ins C dx fs=>obtain⟨d,z,ne,e,mA,⟨od,es,ep,e2,c⟩,r⟩:=x;exact⟨ho _ d,z,ne,k _ _ (.inl rfl) e,mA,⟨od,es,ep,k _ _ (.inr d) e2,c⟩,r⟩
 |own y=>obtain⟨ob,e⟩:=x;exact⟨ob,k _ _ (.inl rfl) e⟩
 |xd fs=>obtain⟨mA,⟨od,es,ep,e,c⟩,r⟩:=x;exact⟨mA,⟨od,es,ep,k _ _ (.inl rfl) e,c⟩,r⟩
 |rng lo hi=>obtain⟨t,u,v,e⟩:=x;exact⟨t,u,v,k _ _ (.inl rfl) e⟩
 |frz ob u ih=>obtain⟨e,q⟩:=x;exact⟨k _ _ (.inl rfl) e,ih q⟩
 |tbl ps=>have e:h.get? a=some {cls:=.none,data:=.fields ps}:=x;show h'.get? a=some {cls:=.none,data:=.fields ps};exact k a _ (.inl rfl) e
 |tb q=>obtain⟨ps,e,z,y⟩:=x;exact⟨ps,k _ _ (.inl rfl) e,z,λpos cv e=>let ⟨c,oc,vs,t,e1,e2,e3⟩:=y pos cv e;⟨c,oc,vs,t,e1,hf _ _ _ e2,e3⟩⟩
 |met f y=>have e:h.get? a=some (PySem.W.methodObj (.ref f) (.ref y)):=x;show h'.get? a=some (PySem.W.methodObj (.ref f) (.ref y));exact k a _ (.inl rfl) e
 |ext φ=>obtain⟨p,⟨o,e⟩,st⟩:=x;exact⟨st _ _ p λo q=>k _ _ (.inl rfl) q,⟨o,k _ _ (.inl rfl) e⟩,st⟩
theorem wa.lt (x:wa P w H h)(e:H a=some o):a<h.objs.size:=(x a o e).lt
theorem wa.fresh (x:wa P w H h)(e:h.objs.size<=a):H a=none:=by
 cases q:H a with
 |none=>rfl
 |some u=>exact absurd (uW (x.lt q) e) (qN _)
def wa.kept (x:wa P w H h)(k:∀b u,h.get? b=some u->h'.get? b=some u):wa P w H h':=λa o e=>(x a o e).stay (λb u _ q=>k b u q) (λ_ q=>q) (λ_ _ q=>q) λ_ _ _ q=>q
def wa.laid (x:wa P w H h)(k:∀b u,h.get? b=some u->h'.get? b=some u)(hp:h.objs.size<=a)(new:wq P w (upd H a o) h' a o):wa P w (upd H a o) h':=λb u e=>by
 have hn:=x.fresh hp;by_cases hb:b=a
 .subst hb;rw[zA] at e;cases e;exact new
 .rw[yl hb] at e;exact(x b u e).stay (λc v _ q=>k c v q) (λc q=>by rw[yl (zq q hn)];exact q) (λc xs q=>by rw[yl (zq q hn)];exact q) λc o u q=>by rw[yl (zq q hn)];exact q
end
def Rd (H:Hp)(a:Addr)(u:HO):Prop:=H a=some u\/∃o,H a=some (.frz o u)
def Rd.ok (r:Rd H a u)(x:wa P w H h):wq P w H h a u:=by
 rcases r with r|⟨o,r⟩
 .exact x a u r
 .obtain⟨_,q⟩:=x a _ r;exact q
def Mut:Option HO->Prop
 |some (.lst _)=>True
 |some (.dK _)=>True
 |some (.dT _)=>True
 |some (.set _ _)=>True
 |some (.ins _ _ _)=>True
 |some (.ext _)=>True
 |some (.tb _)=>True
 |_=>False
section
variable {P:Program} {w:World} {H:Hp} {h h':Heap} {x e:Addr} {o':HO}
def wa.write (ok:wa P w H h)(mu:Mut (H x))(he:e=x\/H e=some (.own x))(k:∀b u,b≠e->h.get? b=some u->h'.get? b=some u)(heo:∃u,h'.get? e=some u)
  (new:wq P w (upd H x o') h' x o'):wa P w (upd H x o') h':=λb u q=>by
 have nown:∀c y,H c=some (.own y)->c≠x:=λc y r z=>by subst z;rw[r] at mu;exact mu
 have ntup:∀c xs,H c=some (.tup xs)->c≠x:=λc xs r z=>by subst z;rw[r] at mu;exact mu
 have nfrz:∀c o u,H c=some (.frz o u)->c≠x:=λc o u r z=>by subst z;rw[r] at mu;exact mu
 by_cases hb:b=x
 .subst hb;rw[zA] at q;cases q;exact new
 .rw[yl hb] at q;by_cases hbe:b=e
  .have q':H b=some (.own x):=by
    rcases he with z|z
    .exact absurd (hbe.trans z) hb
    .rw[hbe];exact z
   rw[q] at q';cases q';obtain⟨v,hv⟩:=heo;exact⟨v,by rw[hbe];exact hv⟩
  .refine(ok b u q).stay (λc v hc r=>k c v ?_ r) (λc r=>by rw[yl (nown c b r)];exact r) (λc xs r=>by rw[yl (ntup c xs r)];exact r) λc o u r=>by rw[yl (nfrz c o u r)];exact r
   rcases hc with rfl|hc
   .exact hbe
   .rintro rfl;rcases he with z|z
    .exact nown c b hc z
    .rw[hc] at z;cases z;exact hb rfl
end
structure Un (fs ex:List Addr)(H H':Hp)(h h':Heap):Prop where
 keep:∀b o,h.get? b=some o->H b=none->b∉fs->b∉ex->h'.get? b=some o
 slot:∀b o,h.get? b=some o->H b=none->b∈fs->b∉ex->∃sl,h'.get? b=some {o with slots:=sl}
 free:∀b o,h.get? b=some o->H b=none->b∉ex->H' b=none
 there:∀b o,h.get? b=some o->b∉ex->∃o',h'.get? b=some o'
 tups:∀b xs,H b=some (.tup xs)->H' b=some (.tup xs)
 frzs:∀b o u,H b=some (.frz o u)->H' b=some (.frz o u)
 tbls:∀b ps,H b=some (.tbl ps)->∃more,H' b=some (.tbl (ps++more))
section
variable {fs fs' ex ex':List Addr} {H H1 H2:Hp} {h h1 h2 h':Heap} {a x e:Addr} {o:HO}
def Un.any (u:Un fs ex H H1 h h1)(q:h.get? b=some ob)(n:H b=none)(hx:b∉ex):∃sl,h1.get? b=some {ob with slots:=sl}:=by
 by_cases hb:b∈fs
 .exact u.slot b ob q n hb hx
 .exact⟨ob.slots,u.keep b ob q n hb hx⟩
def Un.kept (k:∀b u,h.get? b=some u->h'.get? b=some u):Un fs ex H H h h' :=⟨λb ob q _ _ _=>k b ob q,λb ob q _ _ _=>⟨ob.slots,k b ob q⟩,λ_ _ _ n _=>n,λb ob q _=>⟨ob,k b ob q⟩,λ_ _ q=>q,λ_ _ _ q=>q,λ_ ps q=>⟨#[],by rw[q];simp⟩⟩
def Un.refl:Un fs ex H H h h:=Un.kept λ_ _ q=>q
def Un.laid (k:∀b u,h.get? b=some u->h'.get? b=some u)(hp:h.objs.size<=a)(hn:H a=none):Un fs ex H (upd H a o) h h' where
 keep:=λb u q _ _ _=>k b u q
 slot:=λb u q _ _ _=>⟨u.slots,k b u q⟩
 free:=λb u q n _=>by rw[yl (zV (uW (yH q) hp))];exact n
 there:=λb u q _=>⟨u,k b u q⟩
 tups:=λb xs q=>by rw[yl (zq q hn)];exact q
 frzs:=λb u xs q=>by rw[yl (zq q hn)];exact q
 tbls:=λb ps q=>⟨#[],by rw[yl (zq q hn),q];simp⟩
def Un.write (mu:Mut (H x))(he:e=x\/H e=some (.own x))(k:∀b u,b≠e->h.get? b=some u->h'.get? b=some u)(heo:∃u,h'.get? e=some u):Un fs ex H (upd H x o) h h':=by
 have hx:∀b,H b=none->b≠x:=λb n z=>by subst z;rw[n] at mu;exact mu
 have hb:∀b,H b=none->b≠e:=λb n z=>by
  subst z;rcases he with r|r
  .exact hx b n r
  .rw[n] at r;cases r
 have hm:∀b u,H b=some u->¬Mut (some u)->b≠x:=λb u q nm z=>by subst z;rw[q] at mu;exact nm mu
 refine⟨λb u q n _ _=>k b u (hb b n) q,λb u q n _ _=>⟨u.slots,k b u (hb b n) q⟩,λb u q n _=>by rw[yl (hx b n)];exact n,λb u q _=>?_,
  λb xs q=>by rw[yl (hm b _ q λz=>z)];exact q,λb u xs q=>by rw[yl (hm b _ q λz=>z)];exact q,λb ps q=>⟨#[],by rw[yl (hm b _ q λz=>z),q];simp⟩⟩
 by_cases hbe:b=e
 .subst hbe;exact heo
 .exact⟨u,k b u hbe q⟩
end
def trk (h:Heap)(H:Hp):List Addr:=(List.range h.objs.size).filter λa=>(H a).isSome
def jW (h:Heap)(H:Hp):Heap:=PySem.W.hideAll h (trk h H)
def M7 (h:Heap)(H:Hp):(jW h H).objs.size=h.objs.size:=PySem.W.hideAll_size _ _
def M6 (e:h.get? b=some o)(n:H b=none):(jW h H).get? b=some o:=
 PySem.W.hideAll_get _ e λhm=>by have q:(H b).isSome=true:=(uV.mp hm).2;rw[n] at q;simp at q
theorem Oq (e:(jW h H).get? b=some o):h.get? b=some o/\H b=none:=by
 have e':h.get? b=some o:=PySem.W.of_hideAll (trk h H) e;refine⟨e',?_⟩;cases q:H b with
 |none=>rfl
 |some x=>have hm:b∈trk h H:=uV.mpr ⟨oi.mpr (yH e'),by simp[q]⟩;have z:(jW h H).get? b=none:=PySem.W.hideAll_none (trk h H) hm;rw[z] at e;cases e
def K2 (g h:Heap)(L:Addr):List (Addr×Obj):=(List.range h.objs.size).filterMap λa=>if a=L\/(g.get? a).isSome=true then none else(h.get? a).map λo=>(a,o)
def rest (g h:Heap)(L d:Addr):List (Addr×Obj):=(K2 g h L).filter λp=>decide (p.1≠d)
structure Mod (K:xt)(mg:Str->Option Value)(base:Heap):Prop where
 kin:K.In base
 glob:base.Ns mainGlobals mg
 blt:∃mb,base.Ns builtinsNs mb/\∀x:Str,x ≠ "__name__" -> mb x=bootBuiltins x
 nolimit:base.NoLimit
structure Cx where
 prog:Program
 w:World
 K:xt
 mg:Str->Option Value
 base:Heap
 A:Around
 N:List Str
 s₀:Shared
 H₀:Hp
 env:Env
 outer:List Env
 stack:List Env
 ex:List Addr
 fn:Str->Bool
 calm:Bool
 pn:List (Addr×Obj)
 xe:Value->Shared->Prop
def frs (l:List Env):List Addr:=l.filterMap (·.frame)
abbrev Cx.fs (X:Cx):List Addr:=frs X.outer
def Vis (sc:Scope)(x:Str):Prop:=sc.names.lookup x=some .local\/sc.names.lookup x=some .cell\/sc.names.lookup x=some .free
def Loc (sc:Scope)(x:Str):Prop:=sc.names.lookup x=some .local\/sc.names.lookup x=some .cell
def Look (env:Env)(h:Heap)(m:Str->Option Value)(x:Str)(u:Value):Prop:=(env.kindOf x=some .local/\m x=some u)\/((env.kindOf x=some .cell\/env.kindOf x=some .free)/\∃c,env.cells.lookup x=some c/\h.IsCell c (some u))
structure Cx.Ok (X:Cx):Prop where
 mod:Mod X.K X.mg X.base
 kind:X.env.scope.kind=.function
 glob:X.env.globals=mainGlobals
 blt:X.env.builtins=builtinsNs
 above:X.s₀.heap.objs.size<=X.env.locals
 inj:∀x y c,X.env.cells.lookup x=some c->X.env.cells.lookup y=some c->x=y
 has:∀x,(X.env.kindOf x=some .cell\/X.env.kindOf x=some .free)->∃c,X.env.cells.lookup x=some c
 cab:∀x c,X.fn x=true->X.env.cells.lookup x=some c->X.s₀.heap.objs.size<=c
 hd:X.calm=true->X.A.handled=none
 frames:X.A.frames=some X.stack
 stk:X.stack=X.outer\/(X.stack=X.env::X.outer/\X.env.frame=some X.env.locals)
 exf:∀b∈X.ex,b≠X.env.locals/\∀x c,X.env.cells.lookup x=some c->c≠b
 bs:∀b o,X.base.get? b=some o->X.s₀.heap.get? b=some o/\X.H₀ b=none
 bsz:X.base.objs.size<=X.s₀.heap.objs.size
 noex:∀b o,X.base.get? b=some o->b∉X.ex
 exfs:∀b∈X.ex,b∉X.fs
 funs:X.s₀.heap.FunFrames X.base X.outer
 frf:∀b∈X.fs,X.H₀ b=none
structure Inv (X:Cx)(xf:List (Addr×Obj))(σ:List (Option V))(H:Hp)(s:Shared):Prop where
 ok:X.Ok
 os:s.os=X.s₀.os
 bare:AllBare s.gens
 base:Un X.fs X.ex X.H₀ H X.s₀.heap s.heap
 loc:∃m,s.heap.Ns X.env.locals m/\∀(i:Nat) (x:Str) (v:V),X.N[i]?=some x->σ[i]?=some (some v)->Vis X.env.scope x->∃u,RelV v u/\Look X.env s.heap m x u
 cell:∀x c,X.env.cells.lookup x=some c->∃v,s.heap.IsCell c v
 free:H X.env.locals=none
 freeC:∀x c,X.env.cells.lookup x=some c->H c=none
 pin:∀p∈X.pn++xf,s.heap.get? p.1=some p.2/\H p.1=none/\p.1≠X.env.locals/\p.1∉X.fs/\∀v,p.2.data≠.cell v
 hok:wa X.prog X.w H s.heap
 len:σ.length=X.N.length
section
variable {X:Cx} {xf:List (Addr×Obj)} {σ:List (Option V)} {H H':Hp} {s:Shared} {h':Heap}
def Cx.Ok.nofr (ok:X.Ok)(e:X.base.get? b=some o):b∉X.fs:=λhb=>by have:=(ok.funs.mem hb).1;rw[e] at this;cases this
theorem Inv.bs (I:Inv X xf σ H s):∀b o,X.base.get? b=some o->s.heap.get? b=some o/\H b=none:=λb o e=>⟨I.base.keep b o (I.ok.bs b o e).1 (I.ok.bs b o e).2 (I.ok.nofr e) (I.ok.noex b o e),I.base.free b o (I.ok.bs b o e).1 (I.ok.bs b o e).2 (I.ok.noex b o e)⟩
def Inv.bk (I:Inv X xf σ H s):∀b o,X.base.get? b=some o->s.heap.get? b=some o:=λb o e=>(I.bs b o e).1
theorem Inv.mod (I:Inv X xf σ H s):Mod X.K X.mg X.base:=I.ok.mod
def Inv.kIn (I:Inv X xf σ H s):X.K.In s.heap:=I.ok.mod.kin.keeps I.bk
def Inv.fr (I:Inv X xf σ H s):∃m,Fr X.base X.env.locals s.heap m:=
 let ⟨m,hn,_⟩:=I.loc
 ⟨m,hn,I.bk,wV I.ok.bsz I.ok.above⟩
theorem Inv.lt (I:Inv X xf σ H s):X.env.locals<s.heap.objs.size:=let ⟨_,hn,_⟩:=I.loc;hn.lt
def Inv.sz (I:Inv X xf σ H s):X.s₀.heap.objs.size<=s.heap.objs.size:=wV I.ok.above (mT I.lt)
def Inv.nofs (I:Inv X xf σ H s)(h:s.heap.objs.size<=a):a∉X.fs:=λhb=>by obtain⟨_,o,ho,_⟩:=I.ok.funs.mem hb;exact absurd (uW (yH ho) (wV I.sz h)) (qN _)
def Inv.cne (I:Inv X xf σ H s):∀x c,X.env.cells.lookup x=some c->c≠X.env.locals:=λx c e z=>by obtain⟨v,o,ho,hd⟩:=I.cell x c e;obtain⟨m,⟨o',es,ep,ho',hd',_⟩,_⟩:=I.loc;rw[z,ho'] at ho;cases ho;rw[hd'] at hd;cases hd
theorem Inv.funs (I:Inv X xf σ H s):s.heap.FunFrames X.base X.outer:=by
 have all:∀(l:List Env),(∀b∈frs l,b∈X.fs)->X.s₀.heap.FunFrames X.base l->s.heap.FunFrames X.base l:=by
  intro l
  induction l with
  |nil=>intro _ _;trivial
  |cons env r ih=>intro hs hl;obtain⟨hk,⟨L,o,hf,hn,ho,hd⟩,hr⟩:=hl;have hL:L∈X.fs:=hs L (by unfold frs;rw[Kq,hf];exact xT);obtain⟨sl,e⟩:=I.base.slot L o ho (I.ok.frf L hL) hL λz=>I.ok.exfs L z hL;exact⟨hk,⟨L,_,hf,hn,e,hd⟩,ih (λb hb=>hs b (by unfold frs;rw[Kq,hf];exact yJ _ hb)) hr⟩
 exact all X.outer (λ_ hb=>hb) I.ok.funs
theorem Inv.stack (I:Inv X xf σ H s):s.heap.FunFrames X.base X.stack:=by
 rcases I.ok.stk with e|⟨e,hf⟩
 .rw[e];exact I.funs
 .rw[e];obtain⟨m,hn,_⟩:=I.loc;refine .cons (by rw[I.ok.kind];decide) hf hn ?_ I.funs;exact Heap.get?_none_of_le (wV I.ok.bsz I.ok.above)
def Inv.stkSub (I:Inv X xf σ H s):∀b∈frs X.stack,b∈X.env.locals::X.fs:=λb hb=>by
 rcases I.ok.stk with e|⟨e,hf⟩
 .rw[e] at hb;exact yJ _ hb
 .rw[e] at hb;unfold frs at hb;rw[Kq,hf] at hb;exact hb
def Inv.stkFree (I:Inv X xf σ H s):∀b∈frs X.stack,H b=none:=λb hb=>by
 rcases xU.mp (I.stkSub b hb) with e|hb
 .rw[e];exact I.free
 .obtain⟨_,o,ho,_⟩:=I.ok.funs.mem hb;exact I.base.free b o ho (I.ok.frf b hb) λz=>I.ok.exfs b z hb
def Inv.step {g':Array GenState}{t':Nat}{d':Drawn}{ch:List Addr}(I:Inv X xf σ H s)
  (hch:∀b∈ch,(b∈X.ex\/X.s₀.heap.objs.size<=b)/\b≠X.env.locals/\(∀x c,X.env.cells.lookup x=some c->c≠b)/\∀p∈X.pn++xf,p.1≠b)
  (keep:∀b o,b≠X.env.locals->b∉X.fs->b∉ch->s.heap.get? b=some o->H b=none->h'.get? b=some o)
  (slot:∀b o,b≠X.env.locals->b∈X.fs->b∉ch->s.heap.get? b=some o->H b=none->∃sl,h'.get? b=some {o with slots:=sl}) (free:∀b o,b∉ch->s.heap.get? b=some o->H b=none->H' b=none)
  (there:∀b o,b∉ch->s.heap.get? b=some o->∃o',h'.get? b=some o')
  (tups:∀b xs,H b=some (.tup xs)->H' b=some (.tup xs)) (frzs:∀b o u,H b=some (.frz o u)->H' b=some (.frz o u)) (tbls:∀b ps,H b=some (.tbl ps)->∃more,H' b=some (.tbl (ps++more)))
  (ns:∀m,s.heap.Ns X.env.locals m->h'.Ns X.env.locals m) (hok:wa X.prog X.w H' h') (hg:AllBare g') :
  Inv X xf σ H' {s with heap:=h',gens:=g',drawn:=d',toks:=t' }:=by
 have neL:∀b o,X.s₀.heap.get? b=some o->b≠X.env.locals:=λb o e=>zV (uW (yH e) I.ok.above);have neC:∀b o,X.s₀.heap.get? b=some o->b∉X.ex->b∉ch:=λb o e hx hb=>by
  rcases(hch b hb).1 with z|z
  .exact hx z
  .exact absurd (uW (yH e) z) (qN _)
 have cellK:∀x c,X.env.cells.lookup x=some c->∀v,s.heap.IsCell c v->h'.IsCell c v:=λx c e v ⟨o,ho,hd⟩=>by
  have nch:c∉ch:=λz=>(hch c z).2.2.1 x c e rfl;by_cases hc:c∈X.fs
  .obtain⟨sl,q⟩:=slot c o (I.cne x c e) hc nch ho (I.freeC x c e);exact⟨_,q,hd⟩
  .exact⟨o,keep c o (I.cne x c e) hc nch ho (I.freeC x c e),hd⟩
 refine⟨I.ok,I.os,hg,⟨λb o e n hb hx=>?_,λb o e n hb hx=>?_,λb o e n hx=>?_,λb o e hx=>?_,λb xs e=>tups b xs (I.base.tups b xs e),λb o xs e=>frzs b o xs (I.base.frzs b o xs e),λb ps e=>?_⟩,?_,λx c e=>?_,?_,λx c e=>?_,λp hp=>?_,hok,I.len⟩
 .exact keep b o (neL b o e) hb (neC b o e hx) (I.base.keep b o e n hb hx) (I.base.free b o e n hx)
 .obtain⟨sl,e1⟩:=I.base.slot b o e n hb hx;obtain⟨sl',e2⟩:=slot b _ (neL b o e) hb (neC b o e hx) e1 (I.base.free b o e n hx);exact⟨sl',e2⟩
 .obtain⟨o',e1⟩:=I.base.there b o e hx;exact free b o' (neC b o e hx) e1 (I.base.free b o e n hx)
 .obtain⟨o',e1⟩:=I.base.there b o e hx;exact there b o' (neC b o e hx) e1
 .obtain⟨m1,e1⟩:=I.base.tbls b ps e;obtain⟨m2,e2⟩:=tbls b _ e1;exact⟨m1++m2,by rw[e2,Array.append_assoc]⟩
 .obtain⟨m,hn,hl⟩:=I.loc;refine⟨m,ns m hn,λi x v e1 e2 e3=>?_⟩;obtain⟨u,r,l⟩:=hl i x v e1 e2 e3;refine⟨u,r,?_⟩;rcases l with l|⟨k,c,e,z⟩
  .exact .inl l
  .exact .inr ⟨k,c,e,cellK x c e _ z⟩
 .obtain⟨v,z⟩:=I.cell x c e;exact⟨v,cellK x c e v z⟩
 .obtain⟨m,⟨o,_,_,ho,_⟩,_⟩:=I.loc;exact free _ o (λz=>(hch _ z).2.1 rfl) ho I.free
 .obtain⟨v,o,ho,hd⟩:=I.cell x c e;exact free c o (λz=>(hch c z).2.2.1 x c e rfl) ho (I.freeC x c e)
 .obtain⟨e,n,ne,nf,d⟩:=I.pin p hp;have nch:p.1∉ch:=λz=>(hch p.1 z).2.2.2 p hp rfl;exact⟨keep p.1 p.2 ne nf nch e n,free p.1 p.2 nch e n,ne,nf,d⟩
def Inv.un {t':Nat}(I:Inv X xf σ H s)(u:Un X.fs [] H H' s.heap h')(hok:wa X.prog X.w H' h'):Inv X xf σ H' {s with heap:=h',toks:=t' }:=by
 obtain⟨m,⟨o,es,ep,ho,r⟩,_⟩:=id I.loc;obtain⟨sl,hL⟩:=u.any ho I.free (by simp);exact I.step (g':=s.gens) (d':=s.drawn) (ch:=[]) (λ_ z=>nomatch z) (λb o _ hb _ e n=>u.keep b o e n hb (by simp)) (λb o _ hb _ e n=>u.slot b o e n hb (by simp)) (λb o _ e n=>u.free b o e n (by simp)) (λb o _ e=>u.there b o e (by simp)) u.tups u.frzs u.tbls (λm' hm=>by obtain⟨o',es',ep',ho',r'⟩:=hm;rw[ho] at ho';cases ho';exact⟨_,es',ep',hL,r'⟩) hok I.bare
def Inv.call {g':Array GenState}{t':Nat}{d':Drawn}{ch:List Addr}(I:Inv X xf σ H s)(u:Un (frs X.stack) ch H H' s.heap h')(hok:wa X.prog X.w H' h')(hg:AllBare g')
  (hch:∀b∈ch,(b∈X.ex\/X.s₀.heap.objs.size<=b)/\b≠X.env.locals/\(∀x c,X.env.cells.lookup x=some c->c≠b)/\∀p∈X.pn++xf,p.1≠b) :
  Inv X xf σ H' {s with heap:=h',gens:=g',drawn:=d',toks:=t' }:=by
 obtain⟨m,⟨o,es,ep,ho,r⟩,_⟩:=id I.loc;obtain⟨sl,hL⟩:=u.any ho I.free λz=>(hch _ z).2.1 rfl;exact I.step (ch:=ch) hch (λb o hL hb hc e n=>u.keep b o e n (λz=>(xU.mp (I.stkSub b z)).elim hL hb) hc) (λb o _ _ hc e n=>u.any e n hc) (λb o hc e n=>u.free b o e n hc) (λb o hc e=>u.there b o e hc) u.tups u.frzs u.tbls (λm' hm=>by obtain⟨o',es',ep',ho',r'⟩:=hm;rw[ho] at ho';cases ho';exact⟨_,es',ep',hL,r'⟩) hok hg
def Inv.turned {t':Nat}{it:Addr}(I:Inv X xf σ H s)(k:∀b o,b≠it->s.heap.get? b=some o->h'.get? b=some o)(hn:H it=none)(hL:it≠X.env.locals)
  (h1:it∈X.ex\/X.s₀.heap.objs.size<=it) (h2:∀x c,X.env.cells.lookup x=some c->c≠it) (h3:∀p∈X.pn++xf,p.1≠it):Inv X xf σ H {s with heap:=h',toks:=t' }:=by
 have nit:∀b u,H b=some u->b≠it:=λb u e z=>by rw[z,hn] at e;cases e
 refine I.step (g':=s.gens) (d':=s.drawn) (ch:=[it]) (λb hb=>?_) (λb o _ _ hc e _=>k b o (λz=>hc (by simp[z])) e) (λb o _ _ hc e _=>⟨o.slots,k b o (λz=>hc (by simp[z])) e⟩) (λ_ _ _ _ n=>n)
  (λb o hc e=>⟨o,k b o (λz=>hc (by simp[z])) e⟩) (λ_ _ e=>e) (λ_ _ _ e=>e) (λb ps e=>⟨#[],by rw[e];simp⟩) (λm hm=>?_) (λb u e=>?_) I.bare
 .have e:b=it:=by simpa using hb
  subst e;exact⟨h1,hL,h2,h3⟩
 .obtain⟨o,es,ep,ho,r⟩:=hm;exact⟨o,es,ep,k _ o (zK hL) ho,r⟩
 .refine(I.hok b u e).stay (λc v hc q=>k c v ?_ q) (λ_ q=>q) (λ_ _ q=>q) λ_ _ _ q=>q;rcases hc with z|z
  .rw[z];exact nit b u e
  .exact nit c _ z
def Inv.tok (I:Inv X xf σ H s)(t:Nat):Inv X xf σ H {s with toks:=t}:=I.un (h':=s.heap) (t':=t) Un.refl I.hok
theorem Inv.kept (I:Inv X xf σ H s)(k:∀b u,s.heap.get? b=some u->h'.get? b=some u):Inv X xf σ H {s with heap:=h',toks:=t' }:=I.un (Un.kept k) (I.hok.kept k)
theorem Inv.laid (I:Inv X xf σ H s)(k:∀b u,s.heap.get? b=some u->h'.get? b=some u)(hp:s.heap.objs.size<=a)(new:wq X.prog X.w (upd H a o) h' a o) :
  Inv X xf σ (upd H a o) {s with heap:=h',toks:=t' }:=I.un (Un.laid k hp (I.hok.fresh hp)) (I.hok.laid k hp new)
theorem Inv.write (I:Inv X xf σ H s)(mu:Mut (H x))(he:e=x\/H e=some (.own x))(k:∀b u,b≠e->s.heap.get? b=some u->h'.get? b=some u)(heo:∃u,h'.get? e=some u)
  (new:wq X.prog X.w (upd H x o) h' x o):Inv X xf σ (upd H x o) {s with heap:=h',toks:=t' }:=I.un (Un.write mu he k heo) (I.hok.write mu he k heo new)
def Inv.weak (I:Inv X xf σ H s)(hl:σ'.length=σ.length)(w:∀(i:Nat) v,σ'[i]?=some (some v)->σ[i]?=some (some v)):Inv X xf σ' H s:=⟨I.ok,I.os,I.bare,I.base,let ⟨m,hn,hl'⟩:=I.loc;⟨m,hn,λi x v e1 e2 e3=>hl' i x v e1 (w i v e2) e3⟩,I.cell,I.free,I.freeC,I.pin,I.hok,hl.trans I.len⟩
def Inv.pins_of (I:Inv X xf σ H s)(h:∀p∈pins',s.heap.get? p.1=some p.2/\H p.1=none/\p.1≠X.env.locals/\p.1∉X.fs/\∀v,p.2.data≠.cell v):Inv X pins' σ H s:=⟨I.ok,I.os,I.bare,I.base,I.loc,I.cell,I.free,I.freeC,λp hp=>(yy.mp hp).elim (λz=>I.pin p (yZ _ z)) (h p),I.hok,I.len⟩
def G9 {N:List Str}(hN:N.Nodup){i j:Nat}{x:Str}(a:N[i]?=some x)(b:N[j]?=some x):i=j:=by obtain⟨h1,e1⟩:=zc.mp a;obtain⟨h2,e2⟩:=zc.mp b;exact(List.getElem_inj hN).mp (e1.trans e2.symm)
def BQ {M:Model}{A:Around}{E:Value->Shared->Prop}{i:Nat}{x:Str}{v:V}{u:Value}{Q:Unit->Shared->Prop}(I:Inv X xf σ H s)(hN:X.N.Nodup)(hi:X.N[i]?=some x)(hx:Loc X.env.scope x)(r:RelV v u)
  (h:∀s',Inv X xf (σ.set i (some v)) H s'->(∃a,Heap.SameBut a s.heap s'.heap/\(a=X.env.locals\/X.env.cells.lookup x=some a))->Q () s') (hf:X.fn x=true\/X.env.scope.names.lookup x=some .local:=by first|exact .inl rfl|exact .inr rfl|assumption):wpAny M A (storeName X.env x u) Q E s:=by
 obtain⟨m,hn,hl⟩:=id I.loc;have hcls:(X.env.scope.kind == .class||(X.env.scope.kind == .module&&X.env.locals != X.env.globals))=false:=by rw[I.ok.kind];rfl
 have hiσ:i<σ.length:=by rw[I.len];exact(zc.mp hi).1
 have cne:=I.cne;have tracked:∀ {a:Addr} {h':Heap},(∃o,s.heap.get? a=some o/\H a=none)->Heap.SameBut a s.heap h'->wa X.prog X.w H h':=λ {a h'} ha hs b ob e=>by
  obtain⟨_,_,hfree⟩:=ha;refine(I.hok b ob e).stay (λc w' hc q=>(hs.2 c ?_).trans q) (λ_ q=>q) (λ_ _ q=>q) λ_ _ _ q=>q;rintro rfl;rcases hc with rfl|hc
  .rw[hfree] at e;cases e
  .rw[hfree] at hc;cases hc
 rcases hx with hk|hk
 .refine wpAny_storeName_local hk hn (λh' hn' hs=>?_) hcls;obtain⟨oL,_,_,hoL,_⟩:=id hn;refine h _ ⟨I.ok,I.os,I.bare,⟨λb o e n hb hx=>?_,λb o e n hb hx=>?_,I.base.free,λb o e hx=>?_,I.base.tups,I.base.frzs,I.base.tbls⟩,⟨_,hn',λj y v' e1 e2 e3=>?_⟩,λy c e=>?_,I.free,I.freeC,λp hp=>?_,tracked ⟨oL,hoL,I.free⟩ hs,by simpa using I.len⟩ ⟨_,hs,.inl rfl⟩
  .exact(hs.2 b (zV (uW (yH e) I.ok.above))).trans (I.base.keep b o e n hb hx)
  .obtain⟨sl,e1⟩:=I.base.slot b o e n hb hx;exact⟨sl,(hs.2 b (zV (uW (yH e) I.ok.above))).trans e1⟩
  .obtain⟨o',e1⟩:=I.base.there b o e hx;exact⟨o',(hs.2 b (zV (uW (yH e) I.ok.above))).trans e1⟩
  .by_cases hj:j=i
   .subst hj;rw[hi] at e1;cases e1;rw[Co hiσ] at e2;cases e2;exact⟨u,r,.inl ⟨hk,by simp⟩⟩
   .rw[rC (zK hj)] at e2;obtain⟨u',r',q⟩:=hl j y v' e1 e2 e3;refine⟨u',r',?_⟩;rcases q with ⟨k,e⟩|⟨k,c,e,z⟩
    .refine .inl ⟨k,?_⟩;have:y≠x:=λe=>hj (G9 hN e1 (e▸hi));simp[this,e]
    .exact .inr ⟨k,c,e,z.sameBut hs (cne y c e)⟩
  .obtain⟨w',z⟩:=I.cell y c e;exact⟨w',z.sameBut hs (cne y c e)⟩
  .obtain⟨e,n,ne,nf,d⟩:=I.pin p hp;exact⟨(hs.2 p.1 ne).trans e,n,ne,nf,d⟩
 .have hfn:X.fn x=true:=by
   rcases hf with z|z
   .exact z
   .rw[z] at hk;cases hk
  obtain⟨c,hc⟩:=I.ok.has x (.inl hk);obtain⟨w',z⟩:=I.cell x c hc;refine wpAny_storeName_cell I.ok.kind hk hc z (λh' hc' hs=>?_);obtain⟨oc,hoc,hocd⟩:=id z;refine h {s with heap:=h' } ⟨I.ok,I.os,I.bare,⟨λb o e n hb hx=>?_,λb o e n hb hx=>?_,I.base.free,λb o e hx=>?_,I.base.tups,I.base.frzs,I.base.tbls⟩,⟨m,hn.sameBut hs (zK (cne x c hc)),λj y v' e1 e2 e3=>?_⟩,λy c' e=>?_,I.free,I.freeC,λp hp=>?_,tracked ⟨oc,hoc,I.freeC x c hc⟩ hs,by simpa using I.len⟩ ⟨c,hs,.inr hc⟩
  .exact(hs.2 b (zV (uW (yH e) (I.ok.cab x c hfn hc)))).trans (I.base.keep b o e n hb hx)
  .obtain⟨sl,e1⟩:=I.base.slot b o e n hb hx;exact⟨sl,(hs.2 b (zV (uW (yH e) (I.ok.cab x c hfn hc)))).trans e1⟩
  .obtain⟨o',e1⟩:=I.base.there b o e hx;exact⟨o',(hs.2 b (zV (uW (yH e) (I.ok.cab x c hfn hc)))).trans e1⟩
  .by_cases hj:j=i
   .subst hj;rw[hi] at e1;cases e1;rw[Co hiσ] at e2;cases e2;exact⟨u,r,.inr ⟨.inl hk,c,hc,hc'⟩⟩
   .rw[rC (zK hj)] at e2;obtain⟨u',r',q⟩:=hl j y v' e1 e2 e3;refine⟨u',r',?_⟩;rcases q with q|⟨k,c',e,z'⟩
    .exact .inl q
    .refine .inr ⟨k,c',e,z'.sameBut hs ?_⟩;rintro rfl;exact hj (G9 hN e1 (I.ok.inj _ _ _ e hc▸hi))
  .by_cases hcc:c'=c
   .subst hcc;exact⟨_,hc'⟩
   .obtain⟨w2,z2⟩:=I.cell y c' e;exact⟨w2,z2.sameBut hs hcc⟩
  .obtain⟨e,n,ne,nf,d⟩:=I.pin p hp;refine⟨(hs.2 p.1 ?_).trans e,n,ne,nf,d⟩;intro q;rw[q,hoc] at e;have q':oc=p.2:=vH e;exact d w' (by rw[<-q'];exact hocd)
def dU (I:Inv X xf σ H s)(hN:X.N.Nodup)(hi:X.N[i]?=some x)(hx:Loc X.env.scope x)(r:RelV v u)
  (h:∀s',Inv X xf (σ.set i (some v)) H s'->Q () s') (hf:X.fn x=true\/X.env.scope.names.lookup x=some .local:=by first|exact .inl rfl|exact .inr rfl|assumption):wpAny M A (storeName X.env x u) Q E s:=
 BQ I hN hi hx r (λs' I' _=>h s' I') hf
def Inv.call' (I:Inv X xf σ H s)(ho:s'.os=s.os)(u:Un (frs X.stack) ch H H' s.heap s'.heap)(hok:wa X.prog X.w H' s'.heap)(hg:AllBare s'.gens)
  (hch:∀b∈ch,(b∈X.ex\/X.s₀.heap.objs.size<=b)/\b≠X.env.locals/\(∀x c,X.env.cells.lookup x=some c->c≠b)/\∀p∈X.pn++xf,p.1≠b):Inv X xf σ H' s':=by
 obtain⟨h',g',d',t',o'⟩:=s';have e:o'=s.os:=ho;subst e;exact I.call (g':=g') (t':=t') (d':=d') u hok hg hch
end
abbrev XK:=Value->Option Addr->Hp->Prop
abbrev St:=List (Option V)
abbrev VK:=V->Hp->Prop
abbrev TE:=St->Hp->VK->Prop
abbrev TT:=St->Hp->(Bool->Hp->Prop)->Prop
abbrev TA:=St->Hp->(List V->Hp->Prop)->Prop
structure Ends where
 nx:St->Hp->Prop
 rt:VK
 bk:St->Hp->Prop:=λ_ _=>False
 ct:St->Hp->Prop:=λ_ _=>False
abbrev TS:=Ends->St->Hp->Prop
def EP (X:Cx)(xf:List (Addr×Obj))(σ:St)(Q:VK)(u:Value)(s':Shared):Prop:=∃v H',Inv X xf σ H' s'/\RelV v u/\Q v H'
def TP (X:Cx)(xf:List (Addr×Obj))(σ:St)(Q:Bool->Hp->Prop)(b:Bool)(s':Shared):Prop:=∃H',Inv X xf σ H' s'/\Q b H'
def AP (X:Cx)(xf:List (Addr×Obj))(σ:St)(Q:List V->Hp->Prop)(us:List Value)(s':Shared):Prop:=∃vs H',Inv X xf σ H' s'/\yk vs us/\Q vs H'
def SP (X:Cx)(xf:List (Addr×Obj))(D:Ends)(f:Flow)(s':Shared):Prop:=
 match f with
 |.next=>∃ σ' H',Inv X xf σ' H' s'/\D.nx σ' H'
 |.brk=>∃ σ' H',Inv X xf σ' H' s'/\D.bk σ' H'
 |.cont=>∃ σ' H',Inv X xf σ' H' s'/\D.ct σ' H'
 |.ret u=>∃v σ' H',Inv X xf σ' H' s'/\RelV v u/\D.rt v H'
def PE (X:Cx)(e:Expr)(t:TE):Prop:=∀ ⦃xf:List (Addr×Obj)⦄ (s:Shared) (σ:St) (H:Hp) (Q:VK),Inv X xf σ H s->t σ H Q->wpAny (model X.prog X.w) X.A (eval e X.env) (EP X xf σ Q) X.xe s
def PT (X:Cx)(e:Expr)(t:TT):Prop:=∀ ⦃xf:List (Addr×Obj)⦄ (s:Shared) (σ:St) (H:Hp) (Q:Bool->Hp->Prop),Inv X xf σ H s->t σ H Q->wpAny (model X.prog X.w) X.A (isTrue e X.env (eval e X.env)) (TP X xf σ Q) X.xe s
def PW (X:Cx)(e:Expr)(t:TT):Prop:=∀ ⦃whole:Sem Value⦄ (xf:List (Addr×Obj)) (s:Shared) (σ:St) (H:Hp) (Q:Bool->Hp->Prop),Inv X xf σ H s->t σ H Q->wpAny (model X.prog X.w) X.A (isTrue e X.env whole) (TP X xf σ Q) X.xe s
def PW.pt (h:PW X e t):PT X e t:=@h _
def PA (X:Cx)(es:List Expr)(t:TA):Prop:=∀ ⦃pos:Pos⦄ (xf:List (Addr×Obj)) (s:Shared) (σ:St) (H:Hp) (Q:List V->Hp->Prop),Inv X xf σ H s->t σ H Q->wpAny (model X.prog X.w) X.A (spliced (backTo pos (starEach es X.env))) (AP X xf σ Q) X.xe s
def PS (X:Cx)(st:Stmt)(t:TS):Prop:=∀ ⦃xf:List (Addr×Obj)⦄ (s:Shared) (σ:St) (H:Hp) (D:Ends),Inv X xf σ H s->t D σ H->wpAny (model X.prog X.w) X.A (exec st X.env) (SP X xf D) X.xe s
def PSs (X:Cx)(st:List Stmt)(t:TS):Prop:=∀ ⦃xf:List (Addr×Obj)⦄ (s:Shared) (σ:St) (H:Hp) (D:Ends),Inv X xf σ H s->t D σ H->wpAny (model X.prog X.w) X.A (execs st X.env) (SP X xf D) X.xe s
def yn (h:wpAny M A t Q E s)(hQ:∀a s,Q a s->Q' a s):wpAny M A t Q' E s:=uD h hQ λ_ _ x=>x
section
variable {X:Cx}
def uk (i:Nat):TE:=λσ H Q=>∃v,σ[i]?=some (some v)/\Q v H
def tC (v:V):TE:=λ_ H Q=>Q v H
def RB (hN:X.N[i]?=some x)(hv:Vis X.env.scope x)(hd:(x==("__debug__" : Str))=false:=by decide)(hcd:(x==("__classdict__" : Str))=false:=by decide):PE X (.Name x pos) (uk i):=by
 intro xf s σ H Q I h;obtain⟨v,e,h⟩:=h;obtain⟨m,hn,hl⟩:=I.loc;obtain⟨u,r,l⟩:=hl i x v hN e hv;have fin:EP X xf σ Q u s:=⟨v,H,I,r,h⟩
 rcases l with ⟨hk,hm⟩|⟨hk,c,hc,hcell⟩
 .exact wpAny_Name (wpAny_loadName_local I.ok.kind hk hn hm fin) hd
 .rcases hk with hk|hk
  .exact wpAny_Name (wpAny_loadName_cell I.ok.kind hk hc hcell fin) hd
  .exact wpAny_Name (wpAny_loadName_free I.ok.kind hk hc hcell fin hcd) hd
def xm:PE X (.Constant (.int i) j pos) (tC (.int i)):=λ_ _ _ H _ I h=>wpAny_Constant_int ⟨.int i,H,I.tok _,⟨_,rfl⟩,h⟩
def uH:PE X (.Constant (.bool b) j pos) (tC (.bl b)):=λ_ _ _ H _ I h=>Constant_bool ⟨.bl b,H,I,rfl,h⟩
def dE:PE X (.Constant .none j pos) (tC .non):=λ_ _ _ H _ I h=>Constant_none ⟨.non,H,I,rfl,h⟩
def Gl (X:Cx)(x:Str):Prop:=X.env.kindOf x=some .globalImplicit
def GK (I:Inv X xf σ H s)(hg:Gl X x)(hm:X.mg x=some u)(h:Q u s)
  (hd:(x==("__debug__" : Str))=false:=by decide):wpAny (model X.prog X.w) X.A (eval (.Name x pos) X.env) Q E s:=
 Calls.Name_function_global I.ok.kind hg (Calls.loadGlobal_global (by rw[I.ok.glob];exact I.mod.glob.keeps I.bk) hm h) hd
def f_ (I:Inv X xf σ H s)(hg:Gl X x)(hm:X.mg x=none)(hv:bootBuiltins x=some u)(h:Q u s)
  (hn:x ≠ "__name__" := by decide) (hd:(x==("__debug__" : Str))=false:=by decide):wpAny (model X.prog X.w) X.A (eval (.Name x pos) X.env) Q E s:=by
 obtain⟨mb,h1,h2⟩:=I.mod.blt;exact Calls.Name_function_global I.ok.kind hg (Calls.loadGlobal_builtin (by rw[I.ok.glob];exact I.mod.glob.keeps I.bk) hm (by rw[I.ok.blt];exact h1.keeps I.bk) ((h2 x hn).trans hv) h) hd
def gX (hg:Gl X x)(hm:X.mg x=some u)(r:RelV v u)(hd:(x==("__debug__" : Str))=false:=by decide):PE X (.Name x pos) (tC v):=λ_ _ _ H _ I h=>GK I hg hm ⟨v,H,I,r,h⟩ hd
def kD (hg:Gl X x)(hm:X.mg x=none)(hv:bootBuiltins x=some u)(r:RelV v u)(hn:x ≠ "__name__" := by decide)(hd:(x==("__debug__" : Str))=false:=by decide):PE X (.Name x pos) (tC v):=λ_ _ _ H _ I h=>f_ I hg hm hv ⟨v,H,I,r,h⟩ hn hd
variable {a b:Expr} {ta tb:TE} {pos:Pos}
def PC (X:Cx)(op:CmpOp)(a b:Expr)(t:TE):Prop:=
 ∀(xf:List (Addr×Obj)) (s:Shared) (σ:St) (H:Hp) (Q:VK),Inv X xf σ H s->t σ H Q->
  wpAny (model X.prog X.w) X.A (eval a X.env) (λv s₁=>wpAny (model X.prog X.w) X.A (eval b X.env) (λu s₂=>wpAny (model X.prog X.w) X.A (compareOp op v u) (EP X xf σ Q) X.xe s₂) X.xe s₁) X.xe s
def Ol (b:Expr)(h:op≠.In)(h2:op≠.NotIn):behindInMarks op b=false:=by
 have e1:(op==CmpOp.In)=false:=by cases op<;>first|rfl|exact absurd rfl h
 have e2:(op==CmpOp.NotIn)=false:=by cases op<;>first|rfl|exact absurd rfl h2
 cases b<;>simp[behindInMarks,e1,e2]
def JF (ta:TE):TE:=λσ H Q=>ta σ H λx H1=>Q (.bl (decide (x=.non))) H1
def JL (ta:TE):TE:=λσ H Q=>ta σ H λx H1=>Q (.bl (!decide (x=.non))) H1
theorem RelV.none_iff (r:RelV x v):(v==Value.none)=decide (x=.non):=by
 cases x with
 |non=>cases r;rfl
 |bl _=>cases r;rfl
 |int _=>obtain⟨t,rfl⟩:=r;rfl
 |str _=>obtain⟨t,rfl⟩:=r;rfl
 |byt _=>obtain⟨t,rfl⟩:=r;rfl
 |flt _=>obtain⟨t,rfl⟩:=r;rfl
 |ref _=>cases r;rfl
 |ty _=>cases r;rfl
def t5 (ha:PE X a ta):PC X .Is a (.Constant .none j pos') (JF ta):=by intro xf s σ H Q I h;refine yn (@ha xf s σ H _ I h) λv s1 ⟨x,H1,I1,r1,q1⟩=>?_;exact Constant_none (is_none_gen ⟨.bl _,H1,I1,by rw[r1.none_iff];rfl,q1⟩)
def HK (ha:PE X a ta):PC X .IsNot a (.Constant .none j pos') (JL ta):=by intro xf s σ H Q I h;refine yn (@ha xf s σ H _ I h) λv s1 ⟨x,H1,I1,r1,q1⟩=>?_;exact Constant_none (isnot_none_gen ⟨.bl _,H1,I1,by rw[r1.none_iff];rfl,q1⟩)
def tB (t:TE):TT:=λσ H Q=>t σ H λx H1=>∃c,x=.bl c/\Q c H1
def dG (h:PC X op a b t)(h1:behindInMarks op b=false:=by first|exact Ol _ (by decide) (by decide)|rfl):PT X (.Compare a [op] [b] pos) (tB t):=by intro xf s σ H Q I hw;refine wpAny_isTrue_Compare1 (yn (@h xf s σ H _ I hw) λv s1 h1=>yn h1 λu s2 h2=>yn h2 λc s3 ⟨x,H1,I1,r1,q1⟩=>?_) h1;obtain⟨d,rfl,q⟩:=q1;cases r1;exact fH ⟨H1,I1,q⟩
def wC (h:PE X e t)(he:∀whole,isTrue e X.env whole=(do let v <-whole;standAt e.pos;holding [v] (truthy v)):=by intro _;rfl):PT X e (tB t):=by intro xf s σ H Q I hw;refine isTrue_plain (yn (@h xf s σ H _ I hw) λv s1 ⟨x,H1,I1,r1,q1⟩=>?_) (he _);obtain⟨d,rfl,q⟩:=q1;cases r1;exact fH ⟨H1,I1,q⟩
variable {tA tB':TT} {rest:List Expr}
def Jz (t u:TT):TT:=λσ H Q=>t σ H λc H1=>if c=true then u σ H1 Q else Q false H1
def tOr (t u:TT):TT:=λσ H Q=>t σ H λc H1=>if c=true then Q true H1 else u σ H1 Q
def JK (t:TT):TT:=λσ H Q=>t σ H λc H1=>Q (!c) H1
theorem h8 (ha:PT X a tA):PW X (.BoolOp .And [a] pos) tA:=by
 intro wh xf s σ H Q I h;refine isTrue_and (yn (@ha xf s σ H Q I h) λc s1 e=>?_);cases c with
 |true=>exact isTrue_and_nil e
 |false=>exact e
theorem vP (ha:PT X a tA):PW X (.BoolOp .Or [a] pos) tA:=by
 intro wh xf s σ H Q I h;refine isTrue_or (yn (@ha xf s σ H Q I h) λc s1 e=>?_);cases c with
 |false=>exact isTrue_or_nil e
 |true=>exact e
theorem jC (ha:PT X a tA)(hb:PW X (.BoolOp .And (b::rest) pos) tB'):PW X (.BoolOp .And (a::b::rest) pos) (Jz tA tB'):=by
 intro wh xf s σ H Q I h;refine isTrue_and (yn (@ha xf s σ H _ I h) λc s1 ⟨H1,I1,q1⟩=>?_);cases c with
 |true=>exact @hb wh xf s1 σ H1 Q I1 q1
 |false=>exact⟨H1,I1,q1⟩
theorem uh (ha:PT X a tA)(hb:PW X (.BoolOp .Or (b::rest) pos) tB'):PW X (.BoolOp .Or (a::b::rest) pos) (tOr tA tB'):=by
 intro wh xf s σ H Q I h;refine isTrue_or (yn (@ha xf s σ H _ I h) λc s1 ⟨H1,I1,q1⟩=>?_);cases c with
 |true=>exact⟨H1,I1,q1⟩
 |false=>exact @hb wh xf s1 σ H1 Q I1 q1
def uI (ha:PT X a tA):PT X (.UnaryOp .Not a pos) (JK tA):=by intro xf s σ H Q I h;exact isTrue_not (@ha xf s σ H (λc H1=>Q (!c) H1) I h)
def JA (ta tb:TE):TE:=λσ H Q=>ta σ H λx H1=>∃c,x=.bl c/\if c=true then tb σ H1 Q else Q (.bl false) H1
def JN (ta tb:TE):TE:=λσ H Q=>ta σ H λx H1=>∃c,x=.bl c/\if c=true then Q (.bl true) H1 else tb σ H1 Q
def JM (ta:TE):TE:=λσ H Q=>ta σ H λx H1=>∃c,x=.bl c/\Q (.bl (!c)) H1
def hU (h:PE X a t):PE X (.BoolOp op [a] pos) t:=λxf s σ H Q I hw=>BoolOp_one (@h xf s σ H Q I hw)
theorem aJ (ha:PE X a ta)(hb:PE X (.BoolOp .And (b::rest) pos) tb):PE X (.BoolOp .And (a::b::rest) pos) (JA ta tb):=by
 intro xf s σ H Q I h;refine BoolOp_and (yn (@ha xf s σ H _ I h) λv s1 ⟨x,H1,I1,r1,q1⟩=>?_);obtain⟨c,rfl,q1⟩:=q1;cases r1;refine fH ?_;cases c with
 |true=>exact @hb xf s1 σ H1 Q I1 q1
 |false=>exact⟨.bl false,H1,I1,rfl,q1⟩
theorem cC (ha:PE X a ta)(hb:PE X (.BoolOp .Or (b::rest) pos) tb):PE X (.BoolOp .Or (a::b::rest) pos) (JN ta tb):=by
 intro xf s σ H Q I h;refine BoolOp_or (yn (@ha xf s σ H _ I h) λv s1 ⟨x,H1,I1,r1,q1⟩=>?_);obtain⟨c,rfl,q1⟩:=q1;cases r1;refine fH ?_;cases c with
 |false=>exact @hb xf s1 σ H1 Q I1 q1
 |true=>exact⟨.bl true,H1,I1,rfl,q1⟩
def HN (ha:PE X a ta):PE X (.UnaryOp .Not a pos) (JM ta):=by intro xf s σ H Q I h;refine UnaryOp_ (yn (@ha xf s σ H _ I h) λv s1 ⟨x,H1,I1,r1,q1⟩=>?_);obtain⟨c,rfl,q1⟩:=q1;cases r1;exact not_of (fH ⟨.bl (!c),H1,I1,rfl,q1⟩)
end
def yt (K:xt)(H:Hp)(a:Addr)(xs:List V):Prop:=
 Rd H a (.lst xs)\/
  ∃(o:Obj) (xj:Array Value) (n:Nat),K.lookup a=some o/\o.cls=.type "list" /\ o.dict=none/\o.data=.seq xj n/\xj.size<=sizeLine/\yk xs xj.toList
def yR (K:xt)(H:Hp)(a:Addr)(xs:List V):Prop:=
 Rd H a (.tup xs)\/
  ∃(o:Obj) (xj:Array Value) (n:Nat),K.lookup a=some o/\o.cls=.type "tuple" /\ o.data=.seq xj n/\xj.size<=sizeLine/\yk xs xj.toList
def KY:Value->Option V
 |.none=>some .non
 |.bool b=>some (.bl b)
 |.int i _=>some (.int i)
 |.str x _=>some (.str x)
 |.bytes b _=>some (.byt b)
 |.float b _=>some (.flt b)
 |.ref a=>some (.ref a)
 |.type n=>some (.ty n)
 |_=>none
theorem RelV.abs (r:RelV x u):KY u=some x:=by
 cases x with
 |non=>cases r;rfl
 |bl _=>cases r;rfl
 |int _=>obtain⟨t,rfl⟩:=r;rfl
 |str _=>obtain⟨t,rfl⟩:=r;rfl
 |byt _=>obtain⟨t,rfl⟩:=r;rfl
 |flt _=>obtain⟨t,rfl⟩:=r;rfl
 |ref _=>cases r;rfl
 |ty _=>cases r;rfl
def RelV.inj (r:RelV x u)(q:RelV y u):x=y:=vH (r.abs.symm.trans q.abs)
theorem yk.inj:∀ {xs ys:List V} {us:List Value},yk xs us->yk ys us->xs=ys
 |_,_,_,.nil,.nil=>rfl
 |_,_,_,.cons r t,.cons r' t'=>by rw[r.inj r',yk.inj t t']
section
variable {X:Cx} {xf:List (Addr×Obj)} {σ:St} {H:Hp} {s:Shared} {a:Addr} {xs ys:List V}
def yt.of {K:xt}(h:H a=some (.lst xs)):yt K H a xs:=.inl (.inl h)
def yR.of {K:xt}(h:H a=some (.tup xs)):yR K H a xs:=.inl (.inl h)
def Inv.list (I:Inv X xf σ H s)(h:yt X.K H a xs):∃xj:List Value,yk xs xj/\PlainL s.heap a xj.toArray/\xs.length<=sizeLine:=by
 rcases h with h|⟨o,xj,n,hk,hc,hd,hs,hz,r⟩
 .obtain⟨z,xj,n,r,e⟩:=h.ok I.hok;exact⟨xj,r,⟨_,n,e,rfl,rfl,rfl⟩,z⟩
 .refine⟨xj.toList,r,⟨o,n,I.kIn a o hk,hc,hd,by simpa using hs⟩,?_⟩;have e:=r.length;simp only[kJ] at e;lia
def Inv.tuple (I:Inv X xf σ H s)(h:yR X.K H a xs):∃xj:List Value,yk xs xj/\IsTup s.heap a xj.toArray/\xs.length<=sizeLine:=by
 rcases h with h|⟨o,xj,n,hk,hc,hs,hz,r⟩
 .obtain⟨z,xj,r,p⟩:=h.ok I.hok;exact⟨xj,r,p,z⟩
 .refine⟨xj.toList,r,⟨o,I.kIn a o hk,hc,n,by simpa using hs⟩,?_⟩;have e:=r.length;simp only[kJ] at e;lia
def Inv.list_inj (I:Inv X xf σ H s)(h:yt X.K H a xs)(h':yt X.K H a ys):xs=ys:=by
 obtain⟨xj,r,⟨o,n,e,_,_,d⟩,_⟩:=I.list h;obtain⟨its',r',⟨o',n',e',_,_,d'⟩,_⟩:=I.list h';rw[e] at e';cases e';rw[d] at d';injection d' with d1 _;have:xj=its':=by simpa using zj Array.toList d1
 subst this;exact r.inj r'
def Inv.tuple_inj (I:Inv X xf σ H s)(h:yR X.K H a xs)(h':yR X.K H a ys):xs=ys:=by
 obtain⟨xj,r,⟨o,e,_,n,d⟩,_⟩:=I.tuple h;obtain⟨its',r',⟨o',e',_,n',d'⟩,_⟩:=I.tuple h';rw[e] at e';cases e';rw[d] at d';injection d' with d1 _;have:xj=its':=by simpa using zj Array.toList d1
 subst this;exact r.inj r'
end
abbrev Cx.wish (X:Cx)(E:Value->Shared->Prop):Cx:={X with xe:=E}
abbrev Cx.nox (X:Cx):Cx:=X.wish λ_ _=>False
theorem Cx.Ok.wish {X:Cx}(ok:X.Ok)(E:Value->Shared->Prop):(X.wish E).Ok:=⟨ok.mod,ok.kind,ok.glob,ok.blt,ok.above,ok.inj,ok.has,ok.cab,ok.hd,ok.frames,ok.stk,ok.exf,ok.bs,ok.bsz,ok.noex,ok.exfs,ok.funs,ok.frf⟩
def Cx.Ok.unwish {X:Cx}{E:Value->Shared->Prop}(ok:(X.wish E).Ok):X.Ok:=⟨ok.mod,ok.kind,ok.glob,ok.blt,ok.above,ok.inj,ok.has,ok.cab,ok.hd,ok.frames,ok.stk,ok.exf,ok.bs,ok.bsz,ok.noex,ok.exfs,ok.funs,ok.frf⟩
section
variable {X:Cx} {xf:List (Addr×Obj)} {σ:St} {H:Hp} {s:Shared} {E:Value->Shared->Prop}
theorem Inv.wish (I:Inv X xf σ H s)(E:Value->Shared->Prop):Inv (X.wish E) xf σ H s:=⟨I.ok.wish E,I.os,I.bare,I.base,I.loc,I.cell,I.free,I.freeC,I.pin,I.hok,I.len⟩
theorem Inv.unwish (I:Inv (X.wish E) xf σ H s):Inv X xf σ H s:=⟨I.ok.unwish,I.os,I.bare,I.base,I.loc,I.cell,I.free,I.freeC,I.pin,I.hok,I.len⟩
theorem SP.unwish (h:SP (X.wish E) xf D f s'):SP X xf D f s':=by
 cases f with
 |next=>obtain⟨σ',H',I,q⟩:=h;exact⟨σ',H',I.unwish,q⟩
 |brk=>obtain⟨σ',H',I,q⟩:=h;exact⟨σ',H',I.unwish,q⟩
 |cont=>obtain⟨σ',H',I,q⟩:=h;exact⟨σ',H',I.unwish,q⟩
 |ret u=>obtain⟨v,σ',H',I,r,q⟩:=h;exact⟨v,σ',H',I.unwish,r,q⟩
theorem PSs.nox {st:List Stmt}{t:TS}(h:PSs X.nox st t):PSs X st t:=λxf s σ H D I hw=>uD (@h xf s σ H D (I.wish _) hw) (λ_ _ q=>q.unwish) λ_ _ z=>False.elim z
end
section
variable {X:Cx} {st:Stmt} {rest:List Stmt} {t u:TS} {e:Expr} {te:TE} {pos:Pos}
def JH:TS:=λD σ H=>D.nx σ H
def pN (t u:TS):TS:=λD σ H=>t {D with nx:=u D} σ H
def yQ:PSs X [] JH:=λ_ _ σ H _ I h=>CG ⟨σ,H,I,h⟩
theorem xw (h1:PS X st t)(h2:PSs X rest u):PSs X (st::rest) (pN t u):=by
 intro xf s σ H D I h;refine wpAny_execs_cons (yn (@h1 xf s σ H {D with nx:=u D} I h) λf s1 q=>?_);cases f with
 |next=>obtain⟨σ',H',I',q⟩:=q;exact @h2 xf s1 σ' H' D I' q
 |ret v=>exact q
 |brk=>exact q
 |cont=>exact q
theorem xy (h1:PS X st t):PSs X [st] t:=by
 intro xf s σ H D I h;refine wpAny_execs_cons (yn (@h1 xf s σ H D I h) λf s1 q=>?_);cases f with
 |next=>exact CG q
 |ret v=>exact q
 |brk=>exact q
 |cont=>exact q
def Inv.quiet (I:Inv X xf σ H s):interactive X.env=false:=by simp[interactive,I.ok.kind]
def aZ (te:TE):TS:=λD σ H=>te σ H λ_ H1=>D.nx σ H1
def vE (he:PE X e te)(hs:swapsWith e none pos.line X.env=pure false:=by rfl):PS X (.Expr e pos) (aZ te):=by intro xf s σ H D I h;exact wpAny_Expr_any (yn (@he xf s σ H _ I h) λv s1 ⟨x,H1,I1,r1,q1⟩=>⟨σ,H1,I1,q1⟩) I.quiet hs
def pM (te:TE):TS:=λD σ H=>te σ H D.rt
def xQ (he:PE X e te):PS X (.Return (some e) pos) (pM te):=by intro xf s σ H D I h;exact wpAny_Return_some (yn (@he xf s σ H _ I h) λv s1 ⟨x,H1,I1,r1,q1⟩=>⟨x,σ,H1,I1,r1,q1⟩)
def JE (c:TT)(t u:TS):TS:=λD σ H=>c σ H λb H1=>if b=true then t D σ H1 else u D σ H1
theorem yP (hc:PT X c tc)(ha:PSs X a t)(hb:PSs X b u):PS X (.If c a b pos) (JE tc t u):=by
 intro xf s σ H D I h;refine wpAny_If (yn (@hc xf s σ H _ I h) λd s1 ⟨H1,I1,q1⟩=>?_);cases d with
 |true=>exact @ha xf s1 σ H1 D I1 q1
 |false=>exact @hb xf s1 σ H1 D I1 q1
def JG:TS:=λ_ _ _=>False
def Ab:PS X st JG:=λ_ _ _ _ _ _ h=>h.elim
end
abbrev TG:=V->St->Hp->(St->Hp->Prop)->Prop
abbrev TGs:=List V->St->Hp->(St->Hp->Prop)->Prop
def PG (X:Cx)(target:Expr)(t:TG):Prop:=
 ∀(xf:List (Addr×Obj)) (s:Shared) (σ:St) (H:Hp) (v:V) (u:Value) (Q:St->Hp->Prop),Inv X xf σ H s->RelV v u->t v σ H Q->
  wpAny (model X.prog X.w) X.A (assign target X.env u) (λ_ s'=>∃ σ' H',Inv X xf σ' H' s'/\Q σ' H') X.xe s
def PGs (X:Cx)(ts:List Expr)(t:TGs):Prop:=
 ∀(xf:List (Addr×Obj)) (s:Shared) (σ:St) (H:Hp) (vs:List V) (us:List Value) (Q:St->Hp->Prop),Inv X xf σ H s->yk vs us->t vs σ H Q->
  wpAny (model X.prog X.w) X.A (assignInOrder ((assignEach ts X.env).map (·.2)) us) (λ_ s'=>∃ σ' H',Inv X xf σ' H' s'/\Q σ' H') X.xe s
abbrev CZ:=V->V->V->Hp->(Hp->Prop)->Prop
def CY (X:Cx)(t:CZ):Prop:=
 ∀(xf:List (Addr×Obj)) (s:Shared) (σ:St) (H:Hp) (o i v:V) (ov iv u:Value) (Q:Hp->Prop),Inv X xf σ H s->RelV o ov->RelV i iv->RelV v u->t o i v H Q->
  wpAny (model X.prog X.w) X.A (setItem ov iv u) (λ_ s'=>∃H',Inv X xf σ H' s'/\Q H') X.xe s
section
variable {X:Cx} {pos:Pos}
def qx (i:Nat):TG:=λv σ H Q=>Q (σ.set i (some v)) H
def yU (hN:X.N.Nodup)(hi:X.N[i]?=some x)(hx:Loc X.env.scope x)(hf:X.fn x=true\/X.env.scope.names.lookup x=some .local:=by first|exact .inl rfl|exact .inr rfl|assumption):PG X (.Name x pos) (qx i):=by intro xf s σ H v u Q I r h;exact KL (dU I hN hi hx r (λs' I'=>⟨_,H,I',h⟩) hf)
def bE:TGs:=λvs σ H Q=>vs=[]/\Q σ H
def bC (t:TG)(u:TGs):TGs:=λvs σ H Q=>∃v r,vs=v::r/\t v σ H λσ' H'=>u r σ' H' Q
def zE:PGs X [] bE:=by intro xf s σ H vs us Q I r h;obtain⟨e,h⟩:=h;subst e;cases r;exact KH ⟨σ,H,I,h⟩
theorem xZ (h1:PG X e t)(h2:PGs X es u)
  (hs:(assignEach (e::es) X.env).map (·.2)=assign e X.env::(assignEach es X.env).map (·.2):=by rfl):PGs X (e::es) (bC t u):=by
 intro xf s σ H vs us Q I r h;obtain⟨v,vr,e1,h⟩:=h;subst e1;cases r with
 |cons r rr=>rw[hs];refine mY (yn (@h1 xf s σ H _ _ _ I r h) λ_ s1 ⟨σ1,H1,I1,q1⟩=>?_);exact @h2 xf s1 σ1 H1 _ _ Q I1 rr q1
def tI (K:xt)(n:Nat)(t:TGs):TG:=λv σ H Q=>∃a xs,v=.ref a/\yR K H a xs/\xs.length=n/\t xs σ H Q
def RD (hc:X.calm=true)(h:PGs X es t)
  (hn:(assignEach es X.env).length=n:=by rfl) (hst:(assignEach es X.env).findIdx? (·.1)=none:=by rfl):PG X (.Tuple es k pos) (tI X.K n t):=by
 intro xf s σ H v u Q I r hw;obtain⟨a,xs,e1,hq,hl,hw⟩:=hw;subst e1;cases r;obtain⟨xj,rv,ht,hz⟩:=I.tuple hq;refine assign_Tuple_tuple (I.ok.hd hc) ht (by simp[hn,<-hl,rv.length]) hst λh' hx=>?_;have I1:Inv X xf σ H {s with heap:=h' }:=I.kept (t':=s.toks) λb o e=>hx b o (zV (yH e)) e;exact @h xf _ σ H xs _ Q I1 (by simpa using rv) hw
def FZ (to ti:TE)(t:CZ):TG:=λv σ H Q=>to σ H λo H1=>ti σ H1 λi H2=>t o i v H2 λH3=>Q σ H3
def t7 (ho:PE X o to)(hi:PE X i ti)(hs:CY X t)
  (ha:∀v,assign (.Subscript o i pos) X.env v=(do
   let ov <-holding [v] (eval o X.env)
   let iv <-holding [v,ov] (eval i X.env)
   standAt pos
   holding [v,ov,iv] (setItem ov iv v)
   release [v,ov,iv] []):=by intro _;rfl):PG X (.Subscript o i pos) (FZ to ti t):=by
 intro xf s σ H v u Q I r h;rw[ha];refine xi (kK (yn (@ho xf s σ H _ I h) λov s1 ⟨x,H1,I1,r1,q1⟩=>?_));refine xi (kK (yn (@hi xf s1 σ H1 _ I1 q1) λiv s2 ⟨y,H2,I2,r2,q2⟩=>?_));refine xi (rJ (xi (kK (yn (@hs xf s2 σ H2 x y v ov iv u _ I2 r1 r2 r q2) λ_ s3 ⟨H3,I3,q3⟩=>?_))));exact wpAny_release ⟨σ,H3,I3,q3⟩
def jD (te:TE)(g:TG):TS:=λD σ H=>te σ H λx H1=>g x σ H1 D.nx
def uy (he:PE X e te)(hg:PG X tg g)(hs:swapsWithSole [tg] e pos.line X.env=pure false:=by rfl)(hw:swappedStores [tg] e X.env=pure none:=by rfl)
  (h1:(assignEach [tg] X.env).map (·.2)=[assign tg X.env]:=by rfl):PS X (.Assign [tg] e pos) (jD te g):=by
 intro xf s σ H D I h;refine wpAny_Assign_stores (yn (@he xf s σ H _ I h) λv s1 ⟨x,H1,I1,r1,q1⟩=>?_) hs hw;rw[h1];exact yn (@hg xf s1 σ H1 x v _ I1 r1 q1) λ_ s2 q=>q
def kE (hN:X.N.Nodup)(hi:X.N[i]?=some x)(hx:Loc X.env.scope x)(he:PE X e te)(hs:swapsWith e (some (.Name x pos')) pos.line X.env=pure false:=by rfl)(hf:X.fn x=true\/X.env.scope.names.lookup x=some .local:=by first|exact .inl rfl|exact .inr rfl|assumption) :
  PS X (.Assign [.Name x pos'] e pos) (jD te (qx i)):=by
 intro xf s σ H D I h;refine wpAny_Assign_Name (yn (@he xf s σ H _ I h) λv s1 ⟨y,H1,I1,r1,q1⟩=>?_) hs;exact dU I1 hN hi hx r1 (λs2 I2=>⟨_,H1,I2,q1⟩) hf
def JO (i j:Nat)(ta:TA):TS:=λD σ H=>ta σ H λvs H1=>∃v w,vs=[v,w]/\D.nx ((σ.set i (some v)).set j (some w)) H1
def kZ (hc:X.calm=true)(hN:X.N.Nodup)(hi:X.N[i]?=some x)(hj:X.N[j]?=some y)(hij:i≠j)
  (hx:X.env.scope.names.lookup x=some .local) (hy:X.env.scope.names.lookup y=some .local) (ha:PA X [a,b] ta)
  (hw:swappedStores [.Tuple [.Name x px,.Name y py] kt pt] (.Tuple [a,b] k2 pt2) X.env=pure (some [x,y]))
  (hs:swapsWithSole [.Tuple [.Name x px,.Name y py] kt pt] (.Tuple [a,b] k2 pt2) pos.line X.env=pure false:=by rfl) :
  PS X (.Assign [.Tuple [.Name x px,.Name y py] kt pt] (.Tuple [a,b] k2 pt2) pos) (JO i j ta):=by
 intro xf s σ H D I h;rw[exec_Assign_arm];refine xi (rJ ?_);rw[hs];refine xi (xN ?_);rw[xH (by decide)];refine xi (Tuple_ (yn (@ha _ xf s σ H _ I h) λus s1 ⟨vs,H1,I1,r1,q1⟩=>?_));obtain⟨v,w,e1,q1⟩:=q1;subst e1;obtain⟨u1,u2,rfl,rv,rw'⟩:∃u1 u2,us=[u1,u2]/\RelV v u1/\RelV w u2:=by
  cases r1 with
  |cons p q=>
   cases q with
   |cons p' q' =>cases q';exact⟨_,_,rfl,p,p'⟩
 refine vI ?_ (by show 2<=sizeLine;decide);have I2:Inv X xf σ H1 {s1 with heap:=s1.heap.push {cls:=.type "tuple", data:=.seq [u1,u2].toArray} }:=I1.kept (t':=s1.toks) λb o e=>yY _ e;rw[hw];refine xi (xN ?_);show wpAny (model X.prog X.w) X.A (do rule "assign.swapped-stores"; let items <-unpackItems (.ref s1.heap.objs.size) 2 none;assignInOrder [λv=>bindName X.env y v,λv=>bindName X.env x v] items.reverse;pure Flow.next) _ _ _;refine xi (sG (xi (unpackItems_tuple (items := #[u1,u2]) (I.ok.hd hc) (mL s1.heap _) λh' hx'=>?_)));have I3:=I2.kept (h':=h') (t':=s1.toks) λb o e=>hx' b o (zV (yH e)) e;show wpAny _ _ (assignInOrder [λv=>bindName X.env y v,λv=>bindName X.env x v] [u2,u1]>>=λ_=>pure Flow.next) _ _ _;refine xi (mY (ox (dU I3 hN hj (.inl hy) rw' (λs2 I4=>?_) (.inr hy))));refine mY (ox (dU I4 hN hi (.inl hx) rv (λs3 I5=>KH (xN ?_)) (.inr hx)));rw[Cw _ _ (zK hij)] at I5;exact⟨_,H1,I5,q1⟩
end
section
variable {X:Cx} {pos:Pos}
def JS (c:TT)(tb:TS):TS:=λD σ H=>∃W:Nat->St->Hp->Prop,(∃m,W m σ H)/\∀m σ H,W m σ H->
 c σ H λb H1=>if b=true then ∃N:St->Hp->Prop,(∀ σ' H',N σ' H'->∃m',m' < m/\W m' σ' H')/\tb {D with nx:=N,ct:=N,bk:=D.nx} σ H1 else D.nx σ H1
theorem cG (hp:PassesOwn (model X.prog X.w) X.A X.env X.xe)(hc:PT X c tc)(hb:PSs X body tb):PS X (.While c body [] pos) (JS tc tb):=by
 intro xf s σ H D I h;obtain⟨W,⟨m0,w0⟩,turn⟩:=h;refine wpAny_While (codeAny_whileLoop (λn s'=>∃ σ' H',Inv X xf σ' H' s'/\W n σ' H') ?_ m0 ⟨σ,H,I,w0⟩);rintro n s1 ⟨σ1,H1,I1,w1⟩;refine rH hp (yn (@hc xf s1 σ1 H1 _ I1 (turn n σ1 H1 w1)) λb s2 ⟨H2,I2,q2⟩=>?_);cases b with
 |true=>
  obtain⟨N,hN,q2⟩:=q2;rw[xK rfl];refine rH hp (yn (@hb xf s2 σ1 H2 _ I2 q2) λf s3 q3=>?_);cases f with
  |next=>obtain⟨σ3,H3,I3,n3⟩:=q3;obtain⟨m',hm,w3⟩:=hN σ3 H3 n3;exact⟨m',hm,σ3,H3,I3,w3⟩
  |cont=>obtain⟨σ3,H3,I3,n3⟩:=q3;obtain⟨m',hm,w3⟩:=hN σ3 H3 n3;exact⟨m',hm,σ3,H3,I3,w3⟩
  |brk=>exact q3
  |ret v=>exact q3
 |false=>rw[xH wR];exact CG ⟨σ1,H2,I2,q2⟩
end
structure It where
 go:Nat->Hp->Prop
 yld:Nat->Hp->V->Hp->Prop
 stop:Nat->Hp->Prop
def vn (X:Cx)(xf:List (Addr×Obj))(H:Hp)(b:Addr):Prop:=H b=none/\b≠X.env.locals/\b∉X.fs/\(b∈X.ex\/X.s₀.heap.objs.size<=b)/\(∀x c,X.env.cells.lookup x=some c->c≠b)/\∀p∈X.pn++xf,p.1≠b
def Inv.fpOk (I:Inv X xf σ H s)(hb:s.heap.objs.size<=b)(hn:H' b=none):vn X xf H' b:=by
 refine⟨hn,jf (uW I.lt hb),I.nofs hb,.inr (wV I.sz hb),λx c e z=>?_,λp hp z=>?_⟩
 .obtain⟨v,q⟩:=I.cell x c e;exact absurd (uW q.lt (by rw[z];exact hb)) (qN _)
 .exact absurd (uW (yH (I.pin p hp).1) (by rw[z];exact hb)) (qN _)
structure Turn (P:Program)(w:World)(K:xt)(tg:Expr)(J:It)(fp:List Addr)(it:Addr)(tn:Nat->Heap->Prop):Prop where
 mem:it∈fp
 obj:∀i h,tn i h->∀b∈fp,∃o,h.get? b=some o/\∀v,o.data≠.cell v
 keep:∀i h h',tn i h->(∀b∈fp,∀o,h.get? b=some o->h'.get? b=some o)->tn i h'
 item:∀(X:Cx),X.prog=P->X.w=w->X.K=K->X.calm=true->∀(i:Nat) (xf:List (Addr×Obj)) (s:Shared) (σ:St) (H:Hp) (E:Value->Shared->Prop),Inv X xf σ H s->(∀b∈fp,vn X xf H b)->tn i s.heap->J.go i H->
  wpAny (model P w) X.A (pyNext (.ref it)) (λr s1=>∃u,r=some u/\wpAny (model P w) X.A (letOwnedTupleGo tg (.ref it) u) (λ_ s2=>∃x H',Inv X xf σ H' s2/\RelV x u/\J.yld i H x H'/\tn (i+1) s2.heap/\∀b∈fp,H' b=none) E s1) E s
 done:∀(X:Cx),X.prog=P->X.w=w->X.K=K->X.calm=true->∀(i:Nat) (xf:List (Addr×Obj)) (s:Shared) (σ:St) (H:Hp) (E:Value->Shared->Prop),Inv X xf σ H s->(∀b∈fp,vn X xf H b)->tn i s.heap->J.stop i H->
  wpAny (model P w) X.A (pyNext (.ref it)) (λr s1=>r=none/\Inv X xf σ H s1) E s
 self:∀(A:Around) (i:Nat) (s:Shared) (Q:Value->Shared->Prop) (E:Value->Shared->Prop),tn i s.heap->Q (.ref it) s->wpAny (model P w) A (pyIter (.ref it)) Q E s
abbrev TI:=St->Hp->(It->Hp->Prop)->Prop
def PIE (X:Cx)(xf:List (Addr×Obj))(σ:St)(tg:Expr)(R:It->Hp->Prop)(itv:Value)(s2:Shared):Prop:=∃(it:Addr) (fp:List Addr) (tn:Nat->Heap->Prop) (J:It) (H':Hp),itv=.ref it/\Inv X xf σ H' s2/\Turn X.prog X.w X.K tg J fp it tn/\tn 0 s2.heap/\(∀b∈fp,vn X xf H' b)/\R J H'
def PI (X:Cx)(tg iter:Expr)(wi:TI):Prop:=
 ∀(xf:List (Addr×Obj)) (s:Shared) (σ:St) (H:Hp) (R:It->Hp->Prop),Inv X xf σ H s->wi σ H R->
  wpAny (model X.prog X.w) X.A (eval iter X.env) (λv s1=>wpAny (model X.prog X.w) X.A (pyIter v) (PIE X xf σ tg R) X.xe s1) X.xe s
def lP (ho:s.heap.get? it=some o)(hc:o.cls=.type n)(hd:o.data=.fields vs)
  (hn:["enumerate", "zip", "dict_itemiterator", "dict_reverseitemiterator", "odict_iterator", "itertools.zip_longest", "itertools.pairwise"].contains n=false) (hQ:Q () s):wpAny M A (letOwnedTupleGo tg (.ref it) u) Q E s:=by
 unfold letOwnedTupleGo;cases tg<;>first
  |exact xN hQ
  | (cases u<;>first
    |exact xN hQ
    | (refine xi (wpAny_load ho ?_)
       rw[hc,hd];show wpAny M A (if (["enumerate", "zip", "dict_itemiterator", "dict_reverseitemiterator", "odict_iterator", "itertools.zip_longest", "itertools.pairwise"].contains n&&vs[0]? == some (rawInt _))=true then _ else _) Q E s;rw[xH (by intro h;rw[hn,Bool.false_and] at h;cases h)];exact xN hQ))
def Itl (K:xt)(a:Addr):It:=⟨λi H=>∃xs x,yt K H a xs/\xs[i]?=some x,λi H x H'=>H'=H/\∀xs,yt K H a xs->xs[i]?=some x,λi H=>∃xs,yt K H a xs/\xs.length<=i⟩
def Itt (K:xt)(a:Addr):It:=⟨λi H=>∃xs x,yR K H a xs/\xs[i]?=some x,λi H x H'=>H'=H/\∀xs,yR K H a xs->xs[i]?=some x,λi H=>∃xs,yR K H a xs/\xs.length<=i⟩
def Itr (lo:Int)(n:Nat):It:=⟨λi _=>i<n,λi H x H'=>H'=H/\x=.int (lo+i),λi _=>n<=i⟩
def T_ {P:Program}{w:World}{K:xt}{tg:Expr}(a it:Addr):Turn P w K tg (Itl K a) [it] it (λi h=>h.IsListIter it a i) where
 mem:=by simp
 obj:=λi h st b hb=>by
  have e:b=it:=by simpa using hb
  subst e;obtain⟨o,e,c,d⟩:=st;exact⟨o,e,λv z=>by rw[d] at z;cases z⟩
 keep:=λi h h' st k=>st.at λo e=>k it (by simp) o e
 item:=by intro X hP hw hK hc i xf s σ H E I hf st hg;subst hP hw hK;obtain⟨xs,x,hq,hx⟩:=hg;obtain⟨xj,rv,p,hz⟩:=I.list hq;obtain⟨u,hu,ru⟩:=rv.get hx;obtain⟨f0,f1,f2,f3,f4,f5⟩:=hf it (by simp);refine wpAny_pyNext_list_item st p.isList (x:=u) (by simpa using hu) λh' st' sb=>?_;have I1:Inv X xf σ H {s with heap:=h' }:=I.turned (t':=s.toks) (λb o hb e=>(sb.2 b hb).trans e) f0 f1 f3 f4 f5;obtain⟨o,e,c,d⟩:=id st';exact⟨u,rfl,lP (s:={s with heap:=h' }) e c d (by decide) ⟨x,H,I1,ru,⟨rfl,λys hy=>by rw[I.list_inj hy hq];exact hx⟩,st',λb hb=>(hf b hb).1⟩⟩
 done:=by intro X hP hw hK hc i xf s σ H E I hf st hg;subst hP hw hK;obtain⟨xs,hq,hx⟩:=hg;obtain⟨xj,rv,p,hz⟩:=I.list hq;obtain⟨f0,f1,f2,f3,f4,f5⟩:=hf it (by simp);have hl:=rv.length;exact wpAny_pyNext_list_end (I.ok.hd hc) st p.isList (by simp;lia) λh' eb=>⟨rfl,I.turned (t':=s.toks) (λb o hb e=>eb b o hb e) f0 f1 f3 f4 f5⟩
 self:=λ_ _ _ _ _ st h=>wpAny_pyIter_listiter st h
def Ub {P:Program}{w:World}{K:xt}{tg:Expr}(a it:Addr):Turn P w K tg (Itt K a) [it] it (λi h=>h.IsTupleIter it a i) where
 mem:=by simp
 obj:=λi h st b hb=>by
  have e:b=it:=by simpa using hb
  subst e;obtain⟨o,e,c,d⟩:=st;exact⟨o,e,λv z=>by rw[d] at z;cases z⟩
 keep:=λi h h' st k=>st.at λo e=>k it (by simp) o e
 item:=by intro X hP hw hK hc i xf s σ H E I hf st hg;subst hP hw hK;obtain⟨xs,x,hq,hx⟩:=hg;obtain⟨xj,rv,p,hz⟩:=I.tuple hq;obtain⟨u,hu,ru⟩:=rv.get hx;obtain⟨f0,f1,f2,f3,f4,f5⟩:=hf it (by simp);refine wpAny_pyNext_tuple_item st (show s.heap.IsTuple a xj.toArray from p) (x:=u) (by simpa using hu) λh' st' sb=>?_;have I1:Inv X xf σ H {s with heap:=h' }:=I.turned (t':=s.toks) (λb o hb e=>(sb.2 b hb).trans e) f0 f1 f3 f4 f5;obtain⟨o,e,c,d⟩:=id st';exact⟨u,rfl,lP (s:={s with heap:=h' }) e c d (by decide) ⟨x,H,I1,ru,⟨rfl,λys hy=>by rw[I.tuple_inj hy hq];exact hx⟩,st',λb hb=>(hf b hb).1⟩⟩
 done:=by intro X hP hw hK hc i xf s σ H E I hf st hg;subst hP hw hK;obtain⟨xs,hq,hx⟩:=hg;obtain⟨xj,rv,p,hz⟩:=I.tuple hq;obtain⟨f0,f1,f2,f3,f4,f5⟩:=hf it (by simp);have hl:=rv.length;exact wpAny_pyNext_tuple_end (I.ok.hd hc) st (show s.heap.IsTuple a xj.toArray from p) (by simp;lia) λh' eb=>⟨rfl,I.turned (t':=s.toks) (λb o hb e=>eb b o hb e) f0 f1 f3 f4 f5⟩
 self:=λ_ _ _ _ _ st h=>wpAny_pyIter_tupleiter st h
def Ua {P:Program}{w:World}{K:xt}{tg:Expr}(it:Addr)(lo:Int)(n:Nat):Turn P w K tg (Itr lo n) [it] it (λi h=>IsRangeIter h it (lo+(i:Nat)*1) ((n:Int)-(i:Nat)) 1) where
 mem:=by simp
 obj:=λi h st b hb=>by
  have e:b=it:=by simpa using hb
  subst e;exact⟨_,st,λv z=>by have z':Data.fields _=Data.cell v:=z;cases z'⟩
 keep:=λi h h' st k=>k it (by simp) _ st
 item:=by intro X hP hw hK hc i xf s σ H E I hf st hg;subst hP hw hK;obtain⟨f0,f1,f2,f3,f4,f5⟩:=hf it (by simp);have W:=Walks.range (prog:=X.prog) (w:=X.w) (I.ok.hd hc) it lo 1 n;refine W.item i s _ _ hg st λv h' tk hv st' kk=>?_;obtain⟨t,rfl⟩:=hv;have I1:Inv X xf σ H {s with heap:=h',toks:=tk}:=I.turned (λb o hb e=>kk b o (by simpa using hb) e) f0 f1 f3 f4 f5;refine⟨_,rfl,lP (s:={s with heap:=h',toks:=tk}) (n := "range_iterator") st' rfl rfl (by decide) ⟨.int (lo+i),H,I1,⟨t,?_⟩,⟨rfl,rfl⟩,st',λb hb=>(hf b hb).1⟩⟩;rw[gy]
 done:=by intro X hP hw hK hc i xf s σ H E I hf st hg;subst hP hw hK;obtain⟨f0,f1,f2,f3,f4,f5⟩:=hf it (by simp);exact wpAny_pyNext_range_end (I.ok.hd hc) st (by have:n<=i:=hg;lia) λh' eb=>⟨rfl,I.turned (t':=s.toks) (λb o hb e=>eb b o hb e) f0 f1 f3 f4 f5⟩
 self:=λ_ _ _ _ _ st h=>wpAny_pyIter_rangeiter st h
section
variable {X:Cx} {tg:Expr}
def M9 (K:xt)(tl:TE):TI:=λσ H R=>tl σ H λx H1=>∃a,x=.ref a/\(∃xs,yt K H1 a xs)/\R (Itl K a) H1
def IB {xf:List (Addr×Obj)}{σ:St}{H:Hp}{s:Shared}{R:It->Hp->Prop}{E:Value->Shared->Prop}{lo hi:Int}{t u v:Tok}{tk:Nat}(I:Inv X xf σ H s)(h1:-(2^62)<=lo)(h2:lo<2^62)(h3:-(2^62)<=hi)(h4:hi<2^62)
  (q:R (Itr lo (hi-lo).toNat) H):wpAny (model X.prog X.w) X.A (pyIter (.ref s.heap.objs.size)) (PIE X xf σ tg R) E {s with heap:=s.heap.push {cls:=.type "range", data:=.fields #[.int lo t,.int hi u,.int 1 v]},toks:=tk}:=by
 refine wpAny_pyIter_range (IsRange.new ..) (small_one h1 h2 h3 h4) ?_;have I1:Inv X xf σ H {s with heap:=s.heap.push {cls:=.type "range", data:=.fields #[.int lo t,.int hi u,.int 1 v]},toks:=tk}:=I.kept λb o e=>yY _ e;refine⟨(s.heap.push {cls:=.type "range", data:=.fields #[.int lo t,.int hi u,.int 1 v]}).objs.size,[(s.heap.push {cls:=.type "range", data:=.fields #[.int lo t,.int hi u,.int 1 v]}).objs.size],_,_,H,rfl,I1.kept (t':=tk) λb o e=>yY _ e,Ua _ lo (hi-lo).toNat,?_,λb hb=>?_,q⟩
 .have e1:lo+((0:Nat):Int)*1=lo:=by simp
  have e2:(((hi-lo).toNat:Nat):Int)-((0:Nat):Int)=Builtin.Range.rangeSize lo hi 1:=by rw[rangeSize_one];split<;>lia
  show IsRangeIter _ _ (lo+((0:Nat):Int)*1) ((((hi-lo).toNat:Nat):Int)-((0:Nat):Int)) 1;rw[e1,e2];exact wD _ rfl
 .have e:b=(s.heap.push {cls:=.type "range", data:=.fields #[.int lo t,.int hi u,.int 1 v]}).objs.size:=by simpa using hb
  subst e;exact I1.fpOk (yg _) (I1.hok.fresh (yg _))
def Gk (ta:TA):TI:=λσ H R=>ta σ H λvs H1=>∃j:Int,vs=[.int j]/\-(2^62)<=j/\j<2^62/\R (Itr 0 j.toNat) H1
def Gm (ta:TA):TI:=λσ H R=>ta σ H λvs H1=>∃i j:Int,vs=[.int i,.int j]/\(-(2^62)<=i/\i<2^62/\-(2^62)<=j/\j<2^62)/\R (Itr i (j-i).toNat) H1
theorem hV {a:Expr}{ta:TA}{p pos:Pos}(hg:Gl X "range")(hm:X.mg "range" = none)(ha:PA X [a] ta)(hs:starEach [a] X.env=[(false,eval a X.env)]:=by rfl):PI X tg (.Call (.Name "range" p) [a] [] pos) (Gk ta):=by
 intro xf s σ H R I h;refine Call_ (f_ I hg hm boot_range (ot (yn (@ha pos xf s σ H _ I h) λus s1 ⟨vs,H1,I1,r1,q1⟩=>?_) hs rfl));obtain⟨j,e,q1,q2,q⟩:=q1;subst e;cases r1 with
 |cons r rr=>cases rr;obtain⟨t,rfl⟩:=r;exact call_range_1 (IB I1 (by lia) (by lia) q1 q2 (by simpa using q))
theorem HP (hg:Gl X "range")(hm:X.mg "range" = none)(ha:PA X [a,b] ta)(hs:starEach [a,b] X.env=[(false,eval a X.env),(false,eval b X.env)]:=by rfl)(hs2:starEach [b] X.env=[(false,eval b X.env)]:=by rfl) :
  PI X tg (.Call (.Name "range" p) [a,b] [] pos) (Gm ta):=by
 intro xf s σ H R I h;refine Call_ (f_ I hg hm boot_range (ot (yn (@ha pos xf s σ H _ I h) λus s1 ⟨vs,H1,I1,r1,q1⟩=>?_) (by rw[hs,hs2]) (by rw[hs2];rfl)));obtain⟨i,j,e,⟨q1,q2,q3,q4⟩,q⟩:=q1;subst e;cases r1 with
 |cons r rr=>
  cases rr with
  |cons r' rr=>cases rr;obtain⟨t,rfl⟩:=r;obtain⟨t',rfl⟩:=r';exact call_range_2 (IB I1 q1 q2 q3 q4 q)
def JD (wi:TI)(g:TG)(tb:TS):TS:=λD σ H=>wi σ H λJ H1=>∃W:Nat->Nat->St->Hp->Prop,(∃m,W 0 m σ H1)/\∀i m σ H,W i m σ H->
 (J.stop i H/\D.nx σ H)\/(J.go i H/\∃N:St->Hp->Prop,(∀ σ' H',N σ' H'->∃m',m' < m/\W (i+1) m' σ' H')/\∀x H',J.yld i H x H'->g x σ H' λσ2 H2=>tb {D with nx:=N,ct:=N,bk:=D.nx} σ2 H2)
def gZ (fp:List Addr)(h:Heap):List (Addr×Obj):=fp.filterMap λb=>(h.get? b).map λo=>(b,o)
def ao (hb:b∈fp)(e:h.get? b=some o):(b,o)∈gZ fp h:=Ct.mpr ⟨b,hb,by rw[e];rfl⟩
theorem Hc (hp:p∈gZ fp h):p.1∈fp/\h.get? p.1=some p.2:=by
 obtain⟨b,hb,e⟩:=Ct.mp hp;cases q:h.get? b with
 |none=>rw[q] at e;cases e
 |some o=>rw[q] at e;have e':(b,o)=p:=vH e;subst e';exact⟨hb,q⟩
def Inv.pinned (I:Inv X xf σ H s)(hf:∀b∈fp,vn X xf H b)(ho:∀b∈fp,∃o,s.heap.get? b=some o/\∀v,o.data≠.cell v):Inv X (xf++gZ fp s.heap) σ H s:=
 I.pins_of λp hp=>(yy.mp hp).elim (λz=>I.pin p (zY _ z)) λz=>by obtain⟨hb,e⟩:=Hc z;obtain⟨f0,f1,f2,_⟩:=hf p.1 hb;obtain⟨o,e',d⟩:=ho p.1 hb;rw[e] at e';cases e';exact⟨e,f0,f1,f2,d⟩
def Inv.unpinned (I:Inv X (xf++pl) σ H s):Inv X xf σ H s:=I.pins_of λp hp=>I.pin p (zY _ (yZ _ hp))
def zX (hp:PassesOwn (model X.prog X.w) X.A X.env X.xe)(hc:X.calm=true)(hi:PI X tg iter wi)(hg:PG X tg g)(hb:PSs X body tb)
  (hs:∀x,foldedSetIterable iter X.env x=pure x:=by intro _;rfl):PS X (.For tg iter body [] pos) (JD wi g tb):=by
 intro xf s σ H D I h;refine wpAny_For (yn (@hi xf s σ H _ I h) λv s1 h1=>yn h1 λitv s2 h2=>?_) hs;obtain⟨it,fp,tn,J,H2,e,I2,T,st2,f2,W,⟨m0,w0⟩,turn⟩:=h2;subst e;have stat:∀ {H':Hp},(∀b∈fp,H' b=none)->∀b∈fp,vn X xf H' b:=λhn b hb=>⟨hn b hb,(f2 b hb).2⟩
 refine codeAny_forLoop_any (λn s'=>∃i σ' H',Inv X xf σ' H' s'/\tn i s'.heap/\(∀b∈fp,H' b=none)/\W i n σ' H') ?_ m0 ⟨0,σ,H2,I2,st2,λb hb=>(f2 b hb).1,w0⟩;rintro n s3 ⟨i,σ3,H3,I3,st3,fr3,w3⟩;rcases turn i n σ3 H3 w3 with ⟨stop,qn⟩|⟨go,N,hN,step⟩
 .refine rH hp (yn (T.done X rfl rfl rfl hc i xf s3 σ3 H3 X.xe I3 (stat fr3) st3 stop) λr s4 ⟨hr,I4⟩=>?_);subst hr;exact CG ⟨σ3,H3,I4,qn⟩
 .refine rH hp (yn (T.item X rfl rfl rfl hc i xf s3 σ3 H3 X.xe I3 (stat fr3) st3 go) λr s4 ⟨u,hr,h4⟩=>?_);subst hr;refine rH hp (yn h4 λ_ s5 ⟨x,H5,I5,r5,y5,st5,fr5⟩=>?_);have I5':=I5.pinned (stat fr5) (T.obj _ _ st5);refine rH hp (yn (hg _ s5 σ3 H5 x u _ I5' r5 (step x H5 y5)) λ_ s6 ⟨σ6,H6,I6,q6⟩=>?_);refine rH hp (yn (@hb _ s6 σ6 H6 _ I6 q6) λf s7 q7=>?_);have again:∀ {σ7:St} {H7:Hp},Inv X (xf++gZ fp s5.heap) σ7 H7 s7->N σ7 H7->∃m,m<n/\∃i σ' H',Inv X xf σ' H' s7/\tn i s7.heap/\(∀b∈fp,H' b=none)/\W i m σ' H':=λ {σ7 H7} I7 n7=>by obtain⟨m',hm,w7⟩:=hN σ7 H7 n7;refine⟨m',hm,i+1,σ7,H7,I7.unpinned,T.keep _ _ _ st5 λb hb o e=>(I7.pin (b,o) (zY _ (zY _ (ao hb e)))).1,λb hb=>?_,w7⟩;obtain⟨o,e,d⟩:=T.obj _ _ st5 b hb;exact(I7.pin (b,o) (zY _ (zY _ (ao hb e)))).2.1
  cases f with
  |next=>obtain⟨σ7,H7,I7,n7⟩:=q7;exact again I7 n7
  |cont=>obtain⟨σ7,H7,I7,n7⟩:=q7;exact again I7 n7
  |brk=>obtain⟨σ7,H7,I7,q7⟩:=q7;exact⟨σ7,H7,I7.unpinned,q7⟩
  |ret v=>obtain⟨x7,σ7,H7,I7,r7,q7⟩:=q7;exact⟨x7,σ7,H7,I7.unpinned,r7,q7⟩
end
abbrev R2:=V->V->Hp->VK->Prop
def zB (X:Cx)(f:Value->Value->Sem Value)(r:R2):Prop:=
 ∀(xf:List (Addr×Obj)) (s:Shared) (σ:St) (H:Hp) (x y:V) (v u:Value) (Q:VK),Inv X xf σ H s->RelV x v->RelV y u->r x y H Q->
  wpAny (model X.prog X.w) X.A (f v u) (EP X xf σ Q) X.xe s
def UnR (X:Cx)(f:Value->Sem Value)(r:V->Hp->VK->Prop):Prop:=
 ∀(xf:List (Addr×Obj)) (s:Shared) (σ:St) (H:Hp) (x:V) (v:Value) (Q:VK),Inv X xf σ H s->RelV x v->r x H Q->
  wpAny (model X.prog X.w) X.A (f v) (EP X xf σ Q) X.xe s
def vk (X:Cx)(f:Value)(r:List V->Hp->VK->Prop):Prop:=
 ∀(xf:List (Addr×Obj)) (s:Shared) (σ:St) (H:Hp) (xs:List V) (us:List Value) (Q:VK),Inv X xf σ H s->yk xs us->r xs H Q->
  wpAny (model X.prog X.w) X.A (call f us) (EP X xf σ Q) X.xe s
def tOp (r:R2)(ta tb:TE):TE:=λσ H Q=>ta σ H λx H1=>tb σ H1 λy H2=>r x y H2 Q
def tUn (r:V->Hp->VK->Prop)(ta:TE):TE:=λσ H Q=>ta σ H λx H1=>r x H1 Q
def rI (C:Int->Int->Prop)(g:Int->Int->V):R2:=λx y H Q=>∃i j,x=.int i/\y=.int j/\C i j/\Q (g i j) H
def rI0 (g:Int->Int->V):R2:=λx y H Q=>∃i j,x=.int i/\y=.int j/\Q (g i j) H
def rU (g:Int->V):V->Hp->VK->Prop:=λx H Q=>∃i,x=.int i/\Q (g i) H
section
variable {X:Cx} {a b c:Expr} {ta tb tc:TE} {pos:Pos}
def oZ (ha:PE X a ta)(hb:PE X b tb){xf:List (Addr×Obj)}{s:Shared}{σ:St}{H:Hp}{R:V->V->Hp->Prop}(I:Inv X xf σ H s)
  (h:ta σ H λx H1=>tb σ H1 λy H2=>R x y H2) {Q:Value->Shared->Prop} {f:Value->Value->Sem Value}
  (hf:∀v u s2 x y H2,Inv X xf σ H2 s2->RelV x v->RelV y u->R x y H2->wpAny (model X.prog X.w) X.A (f v u) Q X.xe s2) :
  wpAny (model X.prog X.w) X.A (eval a X.env) (λv s₁=>wpAny (model X.prog X.w) X.A (eval b X.env) (λu s₂=>wpAny (model X.prog X.w) X.A (f v u) Q X.xe s₂) X.xe s₁) X.xe s:=by
 refine yn (@ha xf s σ H _ I h) λv s1 ⟨x,H1,I1,r1,q1⟩=>?_;refine yn (@hb xf s1 σ H1 _ I1 q1) λu s2 ⟨y,H2,I2,r2,q2⟩=>?_;exact hf v u s2 x y H2 I2 r1 r2 q2
def xr {op:Operator}{r:R2}(ho:zB X (binaryOp op) r)(ha:PE X a ta)(hb:PE X b tb):PE X (.BinOp a op b pos) (tOp r ta tb):=by intro xf s σ H Q I h;exact wpAny_BinOp (oZ ha hb I h λv u s2 x y H2 I2 rx ry q=>@ho xf s2 σ H2 x y v u Q I2 rx ry q)
def wO (ho:UnR X (unaryOp op) r)(ha:PE X a ta):PE X (.UnaryOp op a pos) (tUn r ta):=by intro xf s σ H Q I h;exact UnaryOp_ (yn (@ha xf s σ H _ I h) λv s1 ⟨x,H1,I1,r1,q1⟩=>@ho xf s1 σ H1 x v Q I1 r1 q1)
def opI {f:Value->Value->Sem Value}{C:Int->Int->Prop}{g:Int->Int->Int}
  (rule:∀(i j:Int) (t u:Tok) (s:Shared) (Q:Value->Shared->Prop) (E:Value->Shared->Prop),C i j->Q (.int (g i j) s.toks) {s with toks:=s.toks+1}->wpAny (model X.prog X.w) X.A (f (.int i t) (.int j u)) Q E s) :
  zB X f (rI C λi j=>.int (g i j)):=by
 intro xf s σ H x y v u Q I rx ry h;obtain⟨i,j,rfl,rfl,hc,q⟩:=h;obtain⟨t,rfl⟩:=rx;obtain⟨t',rfl⟩:=ry;exact rule i j t t' s _ _ hc ⟨.int (g i j),H,I.tok _,⟨_,rfl⟩,q⟩
def Hr {f:Value->Value->Sem Value}{g:Int->Int->Int}
  (rule:∀(i j:Int) (t u:Tok) (s:Shared) (Q:Value->Shared->Prop) (E:Value->Shared->Prop),Q (.int (g i j) s.toks) {s with toks:=s.toks+1}->wpAny (model X.prog X.w) X.A (f (.int i t) (.int j u)) Q E s) :
  zB X f (rI0 λi j=>.int (g i j)):=by
 intro xf s σ H x y v u Q I rx ry h;obtain⟨i,j,rfl,rfl,q⟩:=h;obtain⟨t,rfl⟩:=rx;obtain⟨t',rfl⟩:=ry;exact rule i j t t' s _ _ ⟨.int (g i j),H,I.tok _,⟨_,rfl⟩,q⟩
def cp {f:Value->Value->Sem Value}{g:Int->Int->Bool}
  (rule:∀(i j:Int) (t u:Tok) (s:Shared) (Q:Value->Shared->Prop) (E:Value->Shared->Prop),Q (.bool (g i j)) s->wpAny (model X.prog X.w) X.A (f (.int i t) (.int j u)) Q E s) :
  zB X f (rI0 λi j=>.bl (g i j)):=by
 intro xf s σ H x y v u Q I rx ry h;obtain⟨i,j,rfl,rfl,q⟩:=h;obtain⟨t,rfl⟩:=rx;obtain⟨t',rfl⟩:=ry;exact rule i j t t' s _ _ ⟨.bl (g i j),H,I,rfl,q⟩
def CU (i j:Int):Prop:=0<=j/\j<=1000000/\i.natAbs<2^64
def m_ (i j:Int):Prop:=(-(2^64)<i/\i<2^64)\/(-(2^64)<j/\j<2^64)
def m_.ok (h:m_ i j):IntMulOk i j:=by
 rcases h with ⟨h1,h2⟩|⟨h1,h2⟩
 .exact .of_left (intBits_le_64 h1 h2)
 .exact .of_right (intBits_le_64 h1 h2)
def ud:zB X (binaryOp .Add) (rI0 λi j=>.int (i+j)):=Hr λ_ _ _ _ _ _ _ q=>add_int q
def wj:zB X (binaryOp .Sub) (rI0 λi j=>.int (i-j)):=Hr λ_ _ _ _ _ _ _ q=>sub_int q
def tX:zB X (binaryOp .Mult) (rI m_ λi j=>.int (i*j)):=opI λ_ _ _ _ _ _ _ hc q=>mul_int q hc.ok
def aI:zB X (binaryOp .Mod) (rI (λ_ j=>0<j) λi j=>.int (i%j)):=opI λi j _ _ _ _ _ hc q=>by have h1:(0:Int)<j:=hc;exact mod_int' (by lia) (by rw[Int.fmod_eq_emod_of_nonneg i (by lia)];exact q)
def cA:zB X (binaryOp .Mod) (rI (λ_ j=>j≠0) λi j=>.int (i.fmod j)):=opI λ_ _ _ _ _ _ _ hc q=>mod_int' hc q
def Hv:zB X (binaryOp .Pow) (rI CU λi j=>.int (i^j.toNat)):=opI λ_ _ _ _ _ _ _ hc q=>pow_int_small hc.1 hc.2.1 hc.2.2 q
def unI {f:Value->Sem Value}{g:Int->Int}
  (rule:∀(i:Int) (t:Tok) (s:Shared) (Q:Value->Shared->Prop) (E:Value->Shared->Prop),Q (.int (g i) s.toks) {s with toks:=s.toks+1}->wpAny (model X.prog X.w) X.A (f (.int i t)) Q E s) :
  UnR X f (rU λi=>.int (g i)):=by
 intro xf s σ H x v Q I rx h;obtain⟨i,rfl,q⟩:=h;obtain⟨t,rfl⟩:=rx;exact rule i t s _ _ ⟨.int (g i),H,I.tok _,⟨_,rfl⟩,q⟩
def wQ:UnR X (unaryOp .USub) (rU λi=>.int (-i)):=unI λ_ _ _ _ _ q=>neg_int q
end
section
variable {X:Cx} {a b c:Expr} {ta tb tc:TE} {pos:Pos}
def Hu:zB X (compareOp .Lt) (rI0 λi j=>.bl (decide (i<j))):=cp λ_ _ _ _ _ _ _ q=>lt_int q
def j_:zB X (compareOp .LtE) (rI0 λi j=>.bl (decide (i<=j))):=cp λ_ _ _ _ _ _ _ q=>le_int q
def j9:zB X (compareOp .Gt) (rI0 λi j=>.bl (decide (j<i))):=cp λ_ _ _ _ _ _ _ q=>gt_int q
def Ht:zB X (compareOp .GtE) (rI0 λi j=>.bl (decide (j<=i))):=cp λ_ _ _ _ _ _ _ q=>ge_int q
def zB.or (h:zB X f r)(h':zB X f r'):zB X f (λx y H Q=>r x y H Q\/r' x y H Q):=by
 intro xf s σ H x y v u Q I rx ry q;rcases q with q|q
 .exact @h xf s σ H x y v u Q I rx ry q
 .exact @h' xf s σ H x y v u Q I rx ry q
def yc (b:Expr)(h:op≠.In:=by decide)(h2:op≠.NotIn:=by decide):behindInMarks op b=false:=by
 have e1:(op==CmpOp.In)=false:=by cases op<;>first|rfl|exact absurd rfl h
 have e2:(op==CmpOp.NotIn)=false:=by cases op<;>first|rfl|exact absurd rfl h2
 cases b<;>simp[behindInMarks,e1,e2]
def vd {op:CmpOp}{r:R2}(ho:zB X (compareOp op) r)(ha:PE X a ta)(hb:PE X b tb)(hm:behindInMarks op b=false):PE X (.Compare a [op] [b] pos) (tOp r ta tb):=by intro xf s σ H Q I h;exact wpAny_Compare1 (oZ ha hb I h λv u s2 x y H2 I2 rx ry q=>@ho xf s2 σ H2 x y v u Q I2 rx ry q) hm
def BV (t:TE):TT:=λσ H Q=>t σ H λx H'=>∃k,x=.bl k/\Q k H'
def yz (ho:zB X (compareOp op) r)(ha:PE X a ta)(hb:PE X b tb)(hm:behindInMarks op b=false):PT X (.Compare a [op] [b] pos) (BV (tOp r ta tb)):=by
 intro xf s σ H Q I h;refine wpAny_isTrue_Compare1 (yn (@ha xf s σ H _ I h) λv s1 ⟨x,H1,I1,r1,q1⟩=>yn (@hb xf s1 σ H1 _ I1 q1) λu s2 ⟨y,H2,I2,r2,q2⟩=>yn (@ho xf s2 σ H2 x y v u _ I2 r1 r2 q2) λc s3 ⟨z,H3,I3,r3,k,e,q3⟩=>?_) hm
 subst e;cases r3;exact fH ⟨H3,I3,q3⟩
def JB (r r':R2)(ta tb tc:TE):TE:=λσ H Q=>ta σ H λx H1=>tb σ H1 λy H2=>r x y H2 λz H3=>∃k,z=.bl k/\
 (if k=true then tc σ H3 λw' H4=>r' y w' H4 Q else Q (.bl false) H3)
theorem RO (ho:zB X (compareOp op) r)(ho':zB X (compareOp op') r')(ha:PE X a ta)(hb:PE X b tb)(hc:PE X c tc)
  (hm:lastMarks [op,op'] [b,c]=false:=by with_unfolding_all rfl):PT X (.Compare a [op,op'] [b,c] pos) (BV (JB r r' ta tb tc)):=by
 intro xf s σ H Q I h;refine isTrue_chain (yn (@ha xf s σ H _ I h) λv s1 ⟨x,H1,I1,r1,q1⟩=>test_link (yn (@hb xf s1 σ H1 _ I1 q1) λu s2 ⟨y,H2,I2,r2,q2⟩=>yn (@ho xf s2 σ H2 x y v u _ I2 r1 r2 q2) λd s3 ⟨z,H3,I3,r3,k,e,q3⟩=>?_)) hm
 subst e;cases r3;refine fH ?_;cases k with
 |false=>obtain⟨k',e',q'⟩:=q3;cases e';exact ite_ff ⟨H3,I3,q'⟩
 |true=>refine ite_tt (test_last (yn (@hc xf s3 σ H3 _ I3 q3) λw' s4 ⟨z',H4,I4,r4,q4⟩=>yn (@ho' xf s4 σ H4 y z' u w' _ I4 r2 r4 q4) λd' s5 ⟨z2,H5,I5,r5,k2,e2,q5⟩=>?_));subst e2;cases r5;exact fH ⟨H5,I5,q5⟩
def tQ:(sizeLine:Nat)<2^63:=by rw[sizeLine_eq];decide
theorem vals1 (r:yk [x] us):∃u,us=[u]/\RelV x u:=by
 cases r with
 |cons r1 r2=>cases r2;exact⟨_,rfl,r1⟩
theorem vals2 (r:yk [x,y] us):∃u w',us=[u,w']/\RelV x u/\RelV y w':=by
 cases r with
 |cons r1 r2=>
  cases r2 with
  |cons r3 r4=>cases r4;exact⟨_,_,rfl,r1,r3⟩
def jn:vk X (.builtin "abs") (λxs H Q=>∃i,xs=[.int i]/\Q (.int (if i<0 then -i else i)) H):=by intro xf s σ H xs us Q I r h;obtain⟨i,rfl,q⟩:=h;obtain⟨u,rfl,t,rfl⟩:=vals1 r;exact call_abs_int λu tk=>⟨.int (if i<0 then -i else i),H,I.tok _,⟨_,rfl⟩,q⟩
def Lw (hc:X.calm=true):vk X (.builtin "max") (λxs H Q=>∃i j,xs=[.int i,.int j]/\Q (.int (if j>i then j else i)) H):=by
 intro xf s σ H xs us Q I r h;obtain⟨i,j,rfl,q⟩:=h;obtain⟨u,w',rfl,⟨t,rfl⟩,⟨t',rfl⟩⟩:=vals2 r;refine max_two_ints (I.ok.hd hc) λh' tk k=>⟨_,H,I.kept k,?_,q⟩
 by_cases hj:j>i
 .rw[xK hj,xK hj];exact⟨_,rfl⟩
 .rw[xH hj,xH hj];exact⟨_,rfl⟩
def Lz (hc:X.calm=true):vk X (.builtin "min") (λxs H Q=>∃i j,xs=[.int i,.int j]/\Q (.int (if j<i then j else i)) H):=by
 intro xf s σ H xs us Q I r h;obtain⟨i,j,rfl,q⟩:=h;obtain⟨u,w',rfl,⟨t,rfl⟩,⟨t',rfl⟩⟩:=vals2 r;refine min_two_ints (I.ok.hd hc) λh' tk k=>⟨_,H,I.kept k,?_,q⟩
 by_cases hj:j<i
 .rw[xK hj,xK hj];exact⟨_,rfl⟩
 .rw[xH hj,xH hj];exact⟨_,rfl⟩
end
structure oB (h:Heap)(x dx C:Addr)(mA:Str->Option Value):Prop where
 obj:h.get? x=some (PySem.W.instObj C dx)
 ns:h.Ns1 dx mA
 ne:dx≠x
def NX {h:Heap}{dx:Addr}{mA:Str->Option Value}(n:h.Ns1 dx mA):∃od,h.get? dx=some od/\∀name,PySem.W.lookIn name od=some (mA name):=by
 obtain⟨o,es,ep,ho,hd,hk,_,hm⟩:=n;refine⟨o,ho,λname=>?_⟩;have e:=hm name;unfold nsFind findBy at e;rw[<-Array.find?_toList] at e;unfold PySem.W.lookIn;rw[hd];dsimp only;split
 .rename_i y q;rw[q] at e;exact zj some e
 .rename_i q;rw[q] at e;have a:es.toList.any (·.refKey)=false:=by rw[List.any_eq_false];intro y hy;obtain⟨z,t,hkey⟩:=hk y (Array.mem_toList_iff.mp hy);simp[DictEntry.refKey,hkey]
  have a':¬es.toList.any (·.refKey)=true:=by rw[a];exact wR
  rw[xH a'];exact zj some e
def oB.look (I:oB h x dx C mA):∃od,PySem.W.InstAt h x (PySem.W.instObj C dx) C (some od)/\∀name,PySem.W.lookIn name od=some (mA name):=
 let ⟨od,ho,hl⟩:=NX I.ns
 ⟨od,⟨I.obj,rfl,rfl,ho⟩,hl⟩
section
variable {prog:Program} {w:World} {A:Around} {E:Value->Shared->Prop} {s:Shared} {K:xt} {x dx C f:Addr} {mA:Str->Option Value} {name:Str} {v:Value}
end
section
variable {P:Program} {w:World} {H H':Hp} {h h':Heap} {a C dx:Addr} {fs fs':List (Str×V)}
def Nc (hok:wa P w H h)(e:H a=some (.ins C dx fs)):∃mA,oB h a dx C mA/\(∀f,sJ (fs.lookup f) (mA f))/\PySem.Within mA (fs.map (·.1))/\fs.length<=1000/\H dx=some (.own a):=by
 obtain⟨d,z,ne,ob,mA,n,r,q⟩:=(show wq P w H h a (.ins C dx fs) from hok a _ e)
 exact⟨mA,⟨ob,n,ne⟩,r,q,z,d⟩
end
structure Cls (K:xt)(C:Addr):Prop where
 pg:PySem.W.plainGet K C Str.empty=true
 hd:PySem.W.hasDictIn K C=true
 po:PySem.W.plainOver K C=true
 sa:PySem.W.findIn K (.ref C) "__setattr__" = some (some (.builtin "object.__setattr__"))
def Cls.get {K:xt}{C:Addr}(c:Cls K C)(f:Str):PySem.W.plainGet K C f=true:=c.pg
section
variable {X:Cx} {xf:List (Addr×Obj)} {σ:St} {H:Hp} {s:Shared} {a C dx:Addr} {fs:List (Str×V)} {f:Str} {v:V} {A:Around} {E:Value->Shared->Prop}
end
section
variable {X:Cx} {o e value:Expr} {f:Str} {pos pos' tpos:Pos} {ta tv:TE}
end
section
variable {X:Cx} {xf:List (Addr×Obj)} {σ:St} {H:Hp} {s:Shared} {A:Around} {E:Value->Shared->Prop} {Q:Value->Shared->Prop} {c:Value} {b:Bool}
inductive qt (K:xt)(H:Hp):V->Value->Prop where
 |non:qt K H .non (.type "NoneType")
 |bl (x:Bool):qt K H (.bl x) (.type "bool")
 |int (i:Int):qt K H (.int i) (.type "int")
 |str (x:Str):qt K H (.str x) (.type "str")
 |flt (x:UInt64):qt K H (.flt x) (.type "float")
 |lst {a:Addr} {xs:List V} (e:H a=some (.lst xs)):qt K H (.ref a) (.type "list")
 |frz {a:Addr} {o:Obj} {xs:List V} (e:H a=some (.frz o (.lst xs))):qt K H (.ref a) (.type "list")
 |tup {a:Addr} {xs:List V} (e:H a=some (.tup xs)):qt K H (.ref a) (.type "tuple")
 |dK {a:Addr} {xJ:List (Key×V)} (e:H a=some (.dK xJ)):qt K H (.ref a) (.type "dict")
 |dT {a:Addr} {xJ:List (List Key×V)} (e:H a=some (.dT xJ)):qt K H (.ref a) (.type "dict")
 |ins {a C dx:Addr} {fs:List (Str×V)} (e:H a=some (.ins C dx fs)) (cl:Cls K C) (ha:PySem.W.findIn K (.ref C) "__class__" = some (some (.builtin "object.__class__")))
   (hn:PySem.W.specialIn K (.builtin "object.__class__") "__get__" = some (some (.builtin "getset_descriptor.__get__"))) (htk:PySem.W.takesIn K (.builtin "object.__class__")=some true)
   (hm:PySem.W.mroIn K C (.type "object")=some true):qt K H (.ref a) (.ref C)
theorem Nl (I:Inv X xf σ H s)(rx:RelV x u)(ty:qt X.K H x t)(e:PySem.W.kitOne X.K t c=some b)(h:∀tk,Q (.bool b) {s with toks:=tk}) :
  wpAny (model X.prog X.w) A (call (.builtin "isinstance") [u,c]) Q E s:=by
 cases ty with
 |non=>cases (show u=Value.none from rx);exact jL PySem.W.kitx_none I.kIn True.intro e (λz=>nomatch z) h
 |bl y=>cases (show u=Value.bool y from rx);exact jL PySem.W.kitx_bool I.kIn True.intro e (λz=>nomatch z) h
 |int i=>obtain⟨t,q⟩:=(show ∃t,u=Value.int i t from rx);cases q;exact jL PySem.W.kitx_int I.kIn True.intro e (λz=>nomatch z) h
 |str y=>obtain⟨t,q⟩:=(show ∃t,u=Value.str y t from rx);cases q;exact jL PySem.W.kitx_str I.kIn True.intro e (λz=>nomatch z) h
 |flt y=>obtain⟨t,q⟩:=(show ∃t,u=Value.float y t from rx);cases q;exact jL PySem.W.kitx_float I.kIn True.intro e (λz=>nomatch z) h
 |@lst a xs ea=>
  cases (show u=Value.ref a from rx);obtain⟨_,_,n,_,h1⟩:=(show wq X.prog X.w H s.heap a (.lst xs) from I.hok a _ ea)
  exact jL PySem.W.kitx_list I.kIn ⟨_,h1,rfl⟩ e (λz=>nomatch z) h
 |@frz a ob xs ea=>
  cases (show u=Value.ref a from rx);obtain⟨_,_,_,n,_,h1⟩:=(show wq X.prog X.w H s.heap a (.frz ob (.lst xs)) from I.hok a _ ea)
  exact jL PySem.W.kitx_list I.kIn ⟨_,h1,rfl⟩ e (λz=>nomatch z) h
 |@tup a xs ea=>
  cases (show u=Value.ref a from rx);obtain⟨_,_,_,p⟩:=(show wq X.prog X.w H s.heap a (.tup xs) from I.hok a _ ea)
  obtain⟨o,h1,h2,_⟩:=p;exact jL PySem.W.kitx_tuple I.kIn ⟨o,h1,h2⟩ e (λz=>nomatch z) h
 |@dK a xJ ea=>
  cases (show u=Value.ref a from rx);obtain⟨_,_,vs,_,p⟩:=(show wq X.prog X.w H s.heap a (.dK xJ) from I.hok a _ ea)
  obtain⟨o,es,ep,h1,h2,_⟩:=p;exact jL PySem.W.kitx_dict I.kIn ⟨o,h1,h2.1⟩ e (λz=>nomatch z) h
 |@dT a xJ ea=>
  cases (show u=Value.ref a from rx);obtain⟨_,_,xs,_,o,es,ep,h1,h2,_⟩:=(show wq X.prog X.w H s.heap a (.dT xJ) from I.hok a _ ea)
  exact jL PySem.W.kitx_dict I.kIn ⟨o,h1,h2.1⟩ e (λz=>nomatch z) h
 |@ins a C dx fs ea cl ha hn htk hm=>cases (show u=Value.ref a from rx);obtain⟨mA,O,_⟩:=Nc I.hok ea;obtain⟨od,J,_⟩:=O.look;exact jL (PySem.W.kitx_own (cl.get _) cl.hd ha hn htk hm) I.kIn J e (λz=>nomatch z) h
end
structure wW (k:Nat)(A:Around):Prop where
 hd:A.handled=none
 dp:A.depth+3*k+5<recursionLimit
 un:A.units+16*k+200<cLine
def wW.mono (r:wW k A)(h:j<=k):wW j A:=⟨r.hd,by have:=r.dp;lia,by have:=r.un;lia⟩
theorem wW.deeper (r:wW (k+1) A)(env:Env):wW k (A.deeper env):=⟨r.hd,by have:=r.dp;show A.depth+1+3*k+5<_;lia,by have:=r.un;show A.units+3+16*k+200<_;lia⟩
theorem wW.depth (r:wW k A):A.depth<recursionLimit:=by have:=r.dp;lia
theorem wW.units (r:wW k A):A.units+64<cLine:=by have:=r.un;lia
def vZ:TA:=λ_ H Q=>Q [] H
def uB (ta:TE)(tr:TA):TA:=λσ H Q=>ta σ H λx H1=>tr σ H1 λxs H2=>Q (x::xs) H2
section
variable {X:Cx} {e:Expr} {es:List Expr} {te:TE} {t:TA} {pos:Pos}
def uf:PA X [] vZ:=λ_ _ _ _ H Q I h=>Calls.spliced_nil ⟨[],H,I,.nil,h⟩
def y4 (ha:PE X e te)(hr:PA X es t)(hs:starEach (e::es) X.env=(false,eval e X.env)::starEach es X.env:=by rfl):PA X (e::es) (uB te t):=by intro pos xf s σ H Q I h;rw[hs];show wpAny _ _ (spliced ((false,eval e X.env)::backTo pos (starEach es X.env))) _ _ s;refine Calls.spliced_cons (yn (@ha xf s σ H _ I h) λu s1 ⟨x,H1,I1,r1,q1⟩=>?_);exact yn (@hr pos xf s1 σ H1 _ I1 q1) λus s2 ⟨xs,H2,I2,r2,q2⟩=>⟨x::xs,H2,I2,.cons r1 r2,q2⟩
def JR (t:TA):TE:=λσ H Q=>t σ H λxs H1=>xs.length<=sizeLine/\∀p,H1 p=none->Q (.ref p) (upd H1 p (.tup xs))
def BU (t:TA):TE:=λσ H Q=>t σ H λxs H1=>xs.length<=sizeLine/\∀p,H1 p=none->Q (.ref p) (upd H1 p (.lst xs))
def yG (h:PA X es t):PE X (.Tuple es x1 pos) (JR t):=by intro xf s σ H Q I hq;refine wpAny_Tuple_spliced (yn (@h pos xf s σ H _ I hq) λus s1 ⟨xs,H1,I1,r,z,q⟩=>⟨by rw[<-r.length];exact z,?_⟩);have hf:H1 s1.heap.objs.size=none:=I1.hok.fresh (yg _);refine⟨.ref s1.heap.objs.size,upd H1 s1.heap.objs.size (.tup xs),I1.laid (t':=s1.toks) (λb u e=>yY _ e) (yg _) ?_,rfl,q _ hf⟩;exact⟨z,us,r,⟨_,wD _ rfl,rfl,_,rfl⟩⟩
def wk (h:PA X es t):PE X (.List es pos) (BU t):=by intro xf s σ H Q I hq;refine wpAny_List_spliced (yn (@h pos xf s σ H _ I hq) λus s1 ⟨xs,H1,I1,r,z,q⟩=>⟨by rw[<-r.length];exact z,?_⟩);have hf:H1 s1.heap.objs.size=none:=I1.hok.fresh (yg _);refine⟨.ref s1.heap.objs.size,upd H1 s1.heap.objs.size (.lst xs),I1.laid (t':=s1.toks) (λb u e=>yY _ e) (yg _) ?_,rfl,q _ hf⟩;exact⟨z,us,0,r,wD _ rfl⟩
end
abbrev Sp:=List V->Hp->VK->XK->Prop
abbrev CXT:=List Env->Hp->Shared->XK->Value->Shared->Prop
structure ng (P:Program)(w:World)(K:xt)(mg:Str->Option Value)(base:Heap)(A:Around)(outer:List Env)(s:Shared)(H:Hp):Prop where
 frames:A.frames=some outer
 mod:Mod K mg base
 bs:∀b o,base.get? b=some o->s.heap.get? b=some o/\H b=none
 bsz:base.objs.size<=s.heap.objs.size
 funs:s.heap.FunFrames base outer
 frf:∀b∈frs outer,H b=none
 hok:wa P w H s.heap
 bare:AllBare s.gens
def CE (outer:List Env)(P:Program)(w:World)(H:Hp)(s:Shared)(Q:VK)(u:Value)(s':Shared):Prop:=∃v H',s'.os=s.os/\AllBare s'.gens/\Un (frs outer) [] H H' s.heap s'.heap/\wa P w H' s'.heap/\RelV v u/\Q v H'
def CR (CX:CXT)(outer:List Env)(P:Program)(w:World)(H:Hp)(s:Shared)(Q:VK)(E:XK)(r:Result)(s':Shared):Prop:=
 match r with
 |.ok (.ret u)=>CE outer P w H s Q u s'
 |.ok _=>False
 |.error e=>CX outer H s E e s'
structure vm (P:Program)(w:World)(K:xt)(mg:Str->Option Value)(base:Heap)(CX:CXT)(k:Nat)(f:Addr)(fd:FuncData)(ps:List Str)(sp:Sp):Prop where
 len:∀vs H Q E,sp vs H Q E->vs.length=ps.length
 run:∀(A:Around) (outer:List Env) (s:Shared) (H:Hp) (args:Args) (us:List Value) (vs:List V) (Q:VK) (E:XK),wW k A->ng P w K mg base A outer s H->BindsTo s fd args (ps.zip us)->yk vs us->sp vs H Q E->
  codeAny (model P w) A (.call (.ref f) args) (CR CX outer P w H s Q E) s
theorem vm.mono {P:Program}{w:World}{K:xt}{mg:Str->Option Value}{base:Heap}{CX:CXT}{j k:Nat}{f:Addr}{fd:FuncData}{ps:List Str}{sp:Sp}(F:vm P w K mg base CX j f fd ps sp)(h:j<=k) :
  vm P w K mg base CX k f fd ps sp:=⟨F.len,λA outer s H args us vs Q E hr=>F.run A outer s H args us vs Q E (hr.mono h)⟩
def vm.imp {P:Program}{w:World}{K:xt}{mg:Str->Option Value}{base:Heap}{CX:CXT}{k:Nat}{f:Addr}{fd:FuncData}{ps:List Str}{sp sp':Sp}(F:vm P w K mg base CX k f fd ps sp)
  (h:∀vs H Q E,sp' vs H Q E->sp vs H Q E):vm P w K mg base CX k f fd ps sp' :=
 ⟨λvs H Q E q=>F.len vs H Q E (h _ _ _ _ q),λA outer s H args us vs Q E hr he hb hv hs=>F.run A outer s H args us vs Q E hr he hb hv (h _ _ _ _ hs)⟩
section
variable {X:Cx} {xf:List (Addr×Obj)} {σ:St} {H:Hp} {s s':Shared}
def Inv.env0 (I:Inv X xf σ H s):ng X.prog X.w X.K X.mg X.base X.A X.stack s H:=⟨I.ok.frames,I.ok.mod,I.bs,wV I.ok.bsz I.sz,I.stack,I.stkFree,I.hok,I.bare⟩
def Inv.after (I:Inv X xf σ H s)(h:CE X.stack X.prog X.w H s Q u s'):EP X xf σ Q u s':=by obtain⟨v,H',os,bare,un,hok,r,q⟩:=h;obtain⟨hh,g,d,t,os'⟩:=s';obtain rfl:os'=s.os:=os;exact⟨v,H',I.call (h':=hh) (g':=g) (d':=d) (t':=t) (ch:=[]) un hok bare (λb z=>absurd z (by simp)),r,q⟩
end
def TR (sp:Sp)(dvs:List V)(E:XK)(t:TA):TE:=λσ H Q=>t σ H λvs H1=>sp (vs++dvs) H1 Q E
def Binds (K:xt)(fd:FuncData)(ps:List Str)(ds:List Value):Prop:=∀(s:Shared) (us:List Value),K.In s.heap->(us++ds).length=ps.length->BindsTo s fd ⟨us,[]⟩ (ps.zip (us++ds))
def Binds.all {K:xt}{fd:FuncData}{ps:List Str}(h:∀us:List Value,us.length=ps.length->bindArgs fd ⟨us,[]⟩=pure (ps.zip us)):Binds K fd ps []:=λs us _ hl=>by rw[um] at hl ⊢;exact .of_eq (h us hl)
def oD (CX:CXT)(X:Cx)(E:XK):Prop:=∀(xf:List (Addr×Obj)) (σ:St) (H:Hp) (s:Shared) (e:Value) (s':Shared),Inv X xf σ H s->CX X.stack H s E e s'->X.xe e s'
section
variable {X:Cx} {CX:CXT} {k:Nat} {f C:Addr} {fd:FuncData} {ps:List Str} {sp:Sp} {dvs:List V} {ds:List Value} {E:XK} {x m:Str} {p pos apos:Pos} {e o:Expr} {es:List Expr} {ta:TE} {t:TA}
theorem Sl (F:vm X.prog X.w X.K X.mg X.base CX k f fd ps sp)(hr:wW k X.A)(hb:Binds X.K fd ps ds)(hd:yk dvs ds)(hx:oD CX X E)
  (I:Inv X xf σ H s) (r:yk vs us) (h:sp (vs++dvs) H Q E):wpAny (model X.prog X.w) X.A (call (.ref f) us) (EP X xf σ Q) X.xe s:=by
 have r2:yk (vs++dvs) (us++ds):=r.append hd;have hl:(us++ds).length=ps.length:=by rw[<-r2.length];exact F.len _ _ _ _ h
 refine wpAny_call (codeAny_mono (F.run X.A X.stack s H ⟨us,[]⟩ (us++ds) (vs++dvs) Q E hr I.env0 (hb s us I.kIn hl) r2 h) λr s' hq=>?_);cases r with
 |error e=>exact hx xf σ H s e s' I hq
 |ok fl=>
  cases fl with
  |ret u=>exact I.after hq
  |next=>exact False.elim hq
  |brk=>exact False.elim hq
  |cont=>exact False.elim hq
def Rz (F:vm X.prog X.w X.K X.mg X.base CX k f fd ps sp)(hr:wW k X.A)(hg:Gl X x)(hm:X.mg x=some (.ref f))(hk:PySem.W.keepIn X.K (.ref f)=true)(hb:Binds X.K fd ps ds)(hd:yk dvs ds)(hx:oD CX X E)
  (ha:PA X (e::es) t) (hdb:(x==("__debug__" : Str))=false:=by decide) (he:starEach (e::es) X.env=(false,eval e X.env)::starEach es X.env:=by rfl) (hpl:(backTo pos (starEach es X.env)).any (·.1)=false:=by rfl) :
  PE X (.Call (.Name x p) (e::es) [] pos) (TR sp dvs E t):=by
 intro xf s σ H Q I h;refine KJ (GK I hg hm ?_ hdb);refine PySem.W.callWith_K (h₀:=X.base) I.ok.mod.kin hk (yn (@ha pos xf s σ H _ I h) λus s1 ⟨vs,H1,I1,r,q⟩=>⟨I1.kIn,?_⟩) he hpl;exact Sl F hr hb hd hx I1 r q
end
section
variable {X:Cx} {CX:CXT} {k:Nat} {f C:Addr} {fd:FuncData} {ps ks:List Str} {sp:Sp} {E:XK} {x m:Str} {p pos apos kpos:Pos} {e o:Expr} {es:List Expr} {kws:List Keyword} {te ta:TE} {t tk:TA} {nm:Option Str}
variable {g:List Value->List Value->List Value} {gV:List V->List V->List V}
end
structure xX (N P:List Str)(sc:Scope):Prop where
 kind:sc.kind=.function
 co:sc.isCoroutine=false
 gen:sc.isGenerator=false
 nd:N.Nodup
 pre:N.take P.length=P
 par:∀x∈P,sc.names.lookup x=some .local\/sc.names.lookup x=some .cell
 nofree:∀y∈sc.names,y.2≠.free
theorem El {kindOf:Str->Option NameKind}{x:Str}:∀ {binds:List (Str×Value)} {m:Str->Option Value},(∀v,(x,v)∉binds)->bindL kindOf binds m x=m x
 |[],_,_=>rfl
 | (n,v)::r,m,h=>by
  unfold bindL;rw[El λw hw=>h w (yJ _ hw)];split
  .have:x≠n:=by rintro rfl;exact h v xT
   simp[this]
  .rfl
theorem Ej {kindOf:Str->Option NameKind}{x:Str}:∀ {binds:List (Str×Value)} {m:Str->Option Value},(∀v,(x,v)∉binds)->bindC kindOf binds m x=m x
 |[],_,_=>rfl
 | (n,v)::r,m,h=>by
  unfold bindC;rw[Ej λw hw=>h w (yJ _ hw)];split
  .rfl
  .have:x≠n:=by rintro rfl;exact h v xT
   simp[this]
theorem Ek {kindOf:Str->Option NameKind}{x:Str}{v:Value}:∀ {P:List Str} {vs:List Value} {i:Nat} {m:Str->Option Value},P.Nodup->P[i]?=some x->vs[i]?=some v->kindOf x=some .local->
  bindL kindOf (P.zip vs) m x=some v
 |[],_,_,_,_,h,_,_=>by simp at h
 |_::_,[],_,_,_,_,h,_=>by simp at h
 |p::P,w::vs,0,m,nd,h1,h2,hk=>by simp at h1 h2;subst h1;subst h2;show bindL kindOf ((p,w)::P.zip vs) m p=_;unfold bindL;rw[El λv hv=>(rD.mp nd).1 (oj hv).1,xK hk];simp
 |p::P,w::vs,i+1,m,nd,h1,h2,hk=>by show bindL kindOf ((p,w)::P.zip vs) m x=_;unfold bindL;exact Ek (i:=i) (rD.mp nd).2 (by simpa using h1) (by simpa using h2) hk
theorem Ei {kindOf:Str->Option NameKind}{x:Str}{v:Value}:∀ {P:List Str} {vs:List Value} {i:Nat} {m:Str->Option Value},P.Nodup->P[i]?=some x->vs[i]?=some v->kindOf x≠some .local->
  bindC kindOf (P.zip vs) m x=some v
 |[],_,_,_,_,h,_,_=>by simp at h
 |_::_,[],_,_,_,_,h,_=>by simp at h
 |p::P,w::vs,0,m,nd,h1,h2,hk=>by simp at h1 h2;subst h1;subst h2;show bindC kindOf ((p,w)::P.zip vs) m p=_;unfold bindC;rw[Ej λv hv=>(rD.mp nd).1 (oj hv).1,xH hk];simp
 |p::P,w::vs,i+1,m,nd,h1,h2,hk=>by show bindC kindOf ((p,w)::P.zip vs) m x=_;unfold bindC;exact Ei (i:=i) (rD.mp nd).2 (by simpa using h1) (by simpa using h2) hk
def start (N:List Str)(vs:List V):St:=vs.map some++List.replicate (N.length-vs.length) none
def kQ (CX:CXT)(P:Program)(w:World)(K:xt)(mg:Str->Option Value)(base:Heap)(N:List Str)(qual:Str)(scope:Scope)(f:Addr)(cd:Value)(A:Around)(outer:List Env)(s:Shared)(H:Hp)(E:XK):Cx where
 prog:=P
 w:=w
 K:=K
 mg:=mg
 base:=base
 A:=A.deeper (envOfC qual scope s.heap.objs.size f cd)
 N:=N
 s₀:=s
 H₀:=H
 env:=envOfC qual scope s.heap.objs.size f cd
 outer:=outer
 stack:=envOfC qual scope s.heap.objs.size f cd::outer
 ex:=[]
 calm:=true
 fn:=λ_=>true
 pn:=[]
 xe:=λe s'=>wpAny (model P w) (A.deeper (envOfC qual scope s.heap.objs.size f cd)) (leaving (envOfC qual scope s.heap.objs.size f cd) e) (λ_ s''=>CX outer H s E e s'') (λe' s''=>CX outer H s E e' s'') s'
def EB {sc:Scope}{n:Nat}{x:Str}(h:sc.names.lookup x=some .cell):∃c,(cellsFrom n sc.names []).lookup x=some c:=by have q:=PySem.W.cellsFrom_some sc.names n [] (.inl h);exact Option.isSome_iff_exists.mp q
def Nh {CX:CXT}{P:Program}{w:World}{K:xt}{mg:Str->Option Value}{base:Heap}{N ps:List Str}{qual:Str}{scope:Scope}{f:Addr}{cd:Value}{A:Around}{outer:List Env}{s s1:Shared}{H:Hp}{E:XK}{us:List Value}{vs:List V}
  (S:xX N ps scope) (hd:A.handled=none) (e0:ng P w K mg base A outer s H) (hl:vs.length=ps.length) (r:yk vs us)
  (x:InCallC s s.heap.objs.size (bindL (envOfC qual scope s.heap.objs.size f cd).kindOf (ps.zip us) λ_=>none) (cellsFrom (s.heap.objs.size+1) scope.names []) (bindC (envOfC qual scope s.heap.objs.size f cd).kindOf (ps.zip us) λ_=>none) s1) :
  Inv (kQ CX P w K mg base N qual scope f cd A outer s H E) [] (start N vs) H s1:=by
 have hpl:ps.length<=N.length:=by have:=zj List.length S.pre;rw[uJ] at this;lia
 obtain⟨h1,tk,rfl,hk⟩:=x.done;have noA:∀b:Addr,b∉(kQ CX P w K mg base N qual scope f cd A outer s H E).ex:=λb z=>absurd (show b∈([]:List Addr) from z) (by simp);refine⟨⟨e0.mod,S.kind,rfl,rfl,yg _,λy z c h1 h2=>?_,λy hy=>?_,λy c _ h=>?_,λ_=>hd,Around.frames_deeper e0.frames,.inr ⟨rfl,rfl⟩,λb z=>absurd z (noA b),e0.bs,e0.bsz,λb _ _=>noA b,λb z=>absurd z (noA b),e0.funs,e0.frf⟩,rfl,e0.bare,Un.kept hk,⟨_,x.toInCall.ns,λi y v h1 h2 h3=>?_⟩,λy c h=>⟨_,x.cell y c h⟩,e0.hok.fresh (yg _),λy c h=>?_,λp hp=>absurd (show p∈([]:List (Addr×Obj)) from hp) (by simp),e0.hok.kept hk,?_⟩
 .exact name_of_addr x.apart (qP h1) (qP h2)
 .have hy:scope.names.lookup y=some .cell\/scope.names.lookup y=some .free:=hy;rcases hy with hy|hy
  .exact EB hy
  .exact absurd rfl (S.nofree _ (qP hy))
 .exact mT (x.above y c (qP h))
 .have hi:i<vs.length:=by
   unfold start at h2;by_cases hi:i<vs.length
   .exact hi
   .rw[mO (by simpa using hi)] at h2;rw[Kt] at h2;split at h2<;>cases h2
  have ha:vs[i]?=some v:=by
   unfold start at h2;rw[oa (by simpa using hi),vh] at h2;cases e:vs[i]? with
   |none=>rw[e] at h2;cases h2
   |some a=>rw[e] at h2;cases h2;rfl
  obtain⟨u,hu,rv⟩:=r.get ha;have hp:ps[i]?=some y:=by rw[<-S.pre,List.getElem?_take_of_lt (by lia)];exact h1
  have ndP:ps.Nodup:=by rw[<-S.pre];exact S.nd.sublist (List.take_sublist _ _)
  refine⟨u,rv,?_⟩;rcases S.par y (zG hp) with k|k
  .exact .inl ⟨k,Ek ndP hp hu k⟩
  .obtain⟨c,e⟩:=EB (n:=s.heap.objs.size+1) k;refine .inr ⟨.inl k,c,e,?_⟩;have q:=x.cell y c e;rw[Ei ndP hp hu (by show scope.names.lookup y≠_;rw[k];decide)] at q;exact q
 .exact e0.hok.fresh (mT (x.above y c (qP h)))
 .unfold start;show _=N.length;rw[zy,xO,Cr];lia
theorem ML {CX:CXT}{P:Program}{w:World}{K:xt}{mg:Str->Option Value}{base:Heap}{k:Nat}{f:Addr}{name qual:Str}{params:Arguments}{body:List Stmt}{scope:Scope}{dV kV doc pm cdv ct oc:Value}{an od:Option Addr}
  {osl:Array (Option Value)} {N ps:List Str} {sp:Sp} (lk:K.lookup f=some ⟨oc,od,.func (PySem.W.fnOf name qual params body scope dV kV doc pm an cdv ct),osl⟩) (hcd:PySem.W.codeIn K cdv qual=true) (S:xX N ps scope)
  (len:∀vs H Q E,sp vs H Q E->vs.length=ps.length)
  (hbody:∀(A:Around) (outer:List Env) (s:Shared) (H:Hp) (vs:List V) (Q:VK) (E:XK),wW k (A.deeper (envOfC qual scope s.heap.objs.size f cdv))->sp vs H Q E->∃t,PSs (kQ CX P w K mg base N qual scope f cdv A outer s H E) body t/\t {nx:=λ_ H'=>Q .non H',rt:=Q} (start N vs) H) :
  vm P w K mg base CX (k+1) f (PySem.W.fnOf name qual params body scope dV kV doc pm an cdv ct) ps sp:=by
 refine⟨len,λA outer s H args us vs Q E hr e0 hb r hsp=>?_⟩;have hl:=len _ _ _ _ hsp;have KX:K.In s.heap:=e0.mod.kin.keeps λb o e=>(e0.bs b o e).1;have lim:s.heap.NoLimit:=e0.mod.nolimit.keeps λb o e=>(e0.bs b o e).1;have hkind:∀y∈ps.zip us,scope.names.lookup y.1=some .local\/(scope.names.lookup y.1=some .cell/\((cellsFrom (s.heap.objs.size+1) scope.names []).lookup y.1).isSome=true):=λ⟨n,v⟩ hy=>by
  rcases S.par n (oj hy).1 with q|q
  .exact .inl q
  .exact .inr ⟨q,PySem.W.cellsFrom_some _ _ _ (.inl q)⟩
 refine codeAny_call_function hr.depth (KX _ _ lk) rfl S.co S.gen rfl (PySem.W.codeRec_of KX hcd) (hb _ _ _ _ ?_);refine wpAny_newFunctionEnv_cells S.kind hkind λenv he s1 x=>?_;subst he;refine⟨lim.keeps x.toInCall.keep,codeAny_func ?_⟩;obtain⟨t,ht,hq⟩:=hbody A outer s H vs Q E (hr.deeper _) hsp;have I:Inv (kQ CX P w K mg base N qual scope f cdv A outer s H E) [] (start N vs) H s1:=Nh S hr.hd e0 hl r x;refine uD (@ht [] s1 (start N vs) H _ I hq) (λfl s' hs=>?_) λe s' hs=>hs;have fin:∀ {σ':St} {H':Hp} {v:V} {u:Value},Inv (kQ CX P w K mg base N qual scope f cdv A outer s H E) [] σ' H' s'->RelV v u->Q v H'->CE outer P w H s Q u s' :=λ {σ' H' v u} J rv q=>⟨v,H',J.os,J.bare,J.base,J.hok,rv,q⟩
 cases fl with
 |ret u=>obtain⟨v,σ',H',J,rv,q⟩:=hs;exact fin J rv q
 |next=>obtain⟨σ',H',J,q⟩:=hs;exact fin (v:=V.non) (u:=Value.none) J rfl q
 |brk=>obtain⟨_,_,_,q⟩:=hs;exact False.elim q
 |cont=>obtain⟨_,_,_,q⟩:=hs;exact False.elim q
section
variable {X:Cx} {x:Str} {p pos:Pos} {e:Expr} {es:List Expr} {t:TA} {id T:String} {r:List V->Hp->VK->Prop}
def tCB (r:List V->Hp->VK->Prop)(t:TA):TE:=λσ H Q=>t σ H λvs H1=>r vs H1 Q
def yT (hc:vk X (.builtin id) r)(hg:Gl X x)(hm:X.mg x=none)(hv:bootBuiltins x=some (.builtin id))(ha:PA X (e::es) t)(hn:x ≠ "__name__" := by decide)(hdb:(x==("__debug__" : Str))=false:=by decide)
  (he:starEach (e::es) X.env=(false,eval e X.env)::starEach es X.env:=by rfl) (hpl:(backTo pos (starEach es X.env)).any (·.1)=false:=by rfl):PE X (.Call (.Name x p) (e::es) [] pos) (tCB r t):=by
 intro xf s σ H Q I h;refine KJ (f_ I hg hm hv ?_ hn hdb);exact PyProof.Rows.callWith_builtin1 (yn (@ha pos xf s σ H _ I h) λus s1 ⟨vs,H1,I1,r1,q1⟩=>@hc xf s1 σ H1 vs us Q I1 r1 q1) he hpl
def dD (hc:vk X (.type T) r)(hg:Gl X x)(hm:X.mg x=none)(hv:bootBuiltins x=some (.type T))(ha:PA X (e::es) t)(hn:x ≠ "__name__" := by decide)(hdb:(x==("__debug__" : Str))=false:=by decide)
  (he:starEach (e::es) X.env=(false,eval e X.env)::starEach es X.env:=by rfl) (hpl:(backTo pos (starEach es X.env)).any (·.1)=false:=by rfl):PE X (.Call (.Name x p) (e::es) [] pos) (tCB r t):=by
 intro xf s σ H Q I h;refine KJ (f_ I hg hm hv ?_ hn hdb);exact ot (yn (@ha pos xf s σ H _ I h) λus s1 ⟨vs,H1,I1,r1,q1⟩=>@hc xf s1 σ H1 vs us Q I1 r1 q1) he hpl
end
end L2
namespace HT
open PySem PyProof.Rows
def lexLt:List Int->List Int->Bool
 |[],[]=>false
 |[],_::_=>true
 |_::_,[]=>false
 |x::xs,y::ys=>if x=y then lexLt xs ys else decide (x<y)
def NQ (x y:Int)(xs ys:List Int):lexLt (x::xs) (y::ys)=if x=y then lexLt xs ys else decide (x<y):=rfl
def NU:lexLt [] []=false:=rfl
def NS (y:Int)(ys:List Int):lexLt [] (y::ys)=true:=rfl
def NR (x:Int)(xs:List Int):lexLt (x::xs) []=false:=rfl
def Mr (A:Around)(s:Shared)(a:Int)(t:Tok)(c:Int)(u:Tok):∃e,SeqAt.EqAt A s (.int a t) (.int c u) e/\(e=true↔a=c):=⟨(a==c),SeqAt.EqAt.int_int a t c u,by simp⟩
def RZ (A:Around)(s:Shared)(a:Int)(t:Tok)(c:Int)(u:Tok)(prog:Program)(w:World)(E Q:Value->Shared->Prop)(h:Q (.bool (decide (a<c))) s) :
  wpAny (model prog w) A (richCompare .Lt (.int a t) (.int c u)) Q E s:=
 (PyProof.Rows.lt_int h:wpAny (model prog w) A (compareOp .Lt (.int a t) (.int c u)) Q E s)
section
open PySem.SeqAt
open PySem.AutoSeq1 (wpAny_loadPart')
open PySem.MeetsSeq PySem.MeetsSeq2 PySem.MeetsSeq3
def T6 (l b:Addr)(items items2:Array Value)(n n2:Nat)(dd dd2:Option Addr)(sl sl2:Array (Option Value))(ns ms:List Int)(hi:IntsAre items.toList ns)(hj:IntsAre items2.toList ms) :
  Meets (Builtin.«tuple.__lt__» ⟨[.ref l,.ref b],[]⟩)
   (λ_ R s=>s.heap.get? l=some {cls:=.type "tuple", dict:=dd,data:=.seq items n,slots:=sl}/\s.heap.get? b=some {cls:=.type "tuple", dict:=dd2,data:=.seq items2 n2,slots:=sl2}/\R (.ok (.ret (.bool (lexLt ns ms)))) s):=
 .of_wp λprog w A R s h=>by
  obtain⟨hp,g,d,tk,os⟩:=s;obtain⟨hl,hb,h⟩:=h;have f2:=AutoSeq1.sub_tuple_tuple;have z1:items.size=ns.length:=by rw[<-hi.length];simp
  have z2:items2.size=ms.length:=by rw[<-hj.length];simp
  wp_walk using kL hl,kL hb,wpAny_forIn_list _ (λrest b s'=>b.1=none/\s'=⟨hp,g,d,tk,os⟩/\∃(vs ws:List Value) (ns' ms':List Int),rest=vs.zip ws/\IntsAre vs ns'/\IntsAre ws ms'/\ns'.length+items2.size=ms'.length+items.size/\R (.ok (.ret (.bool (lexLt ns' ms')))) ⟨hp,g,d,tk,os⟩) _
  case turn=>
   rintro⟨y,x⟩ rest b s' ⟨hb',rfl,vs,ws,ns',ms',hz,hvi,hwi,hlen,hR⟩;cases hvi with
   |nil=>rw[List.zip_nil_left] at hz;cases hz
   |cons a t hvi' =>
    cases hwi with
    |nil=>rw[List.zip_nil_right] at hz;cases hz
    |cons c u hwi' =>
     rw[sD] at hz;injection hz with hyx hrest;injection hyx with hy hx;subst hy hx;rw[NQ] at hR;simp only[wU] at hlen;obtain⟨e,he,hiff⟩:=Mr A.in1 ⟨hp,g,d,tk,os⟩ a t c u;refine xi (he prog w _ _ ?_);cases e with
     |true=>
      rw[xK (hiff.mp rfl)] at hR
      wp_walk
      exact⟨rfl,rfl,_,_,_,_,hrest,hvi',hwi',by lia,hR⟩
     |false=>
      rw[xH (λq=>absurd (hiff.mpr q) wR)] at hR;have hri:=RZ A.in1 ⟨hp,g,d,tk,os⟩ a t c u prog w
      wp_walk using hri
      exact⟨_,rfl,by simpa using hR⟩
  case fin=>
   rintro⟨b1,b2⟩ s' ⟨hb',rfl,vs,ws,ns',ms',hz,hvi,hwi,hlen,hR⟩;simp only at hb';subst hb';have hv:lexLt ns' ms'=decide (items.size<items2.size):=by
    cases hvi with
    |nil=>
     cases hwi with
     |nil=>simp only[si] at hlen;rw[NU];exact(uX (by lia)).symm
     |cons c u hw=>simp only[si,wU] at hlen;rw[NS];exact(wI (by lia)).symm
    |cons a t hv=>
     cases hwi with
     |nil=>simp only[si,wU] at hlen;rw[NR];exact(uX (by lia)).symm
     |cons c u hw=>rw[sD] at hz;cases hz
   rw[hv] at hR
   wp_walk
   exact⟨_,rfl,by simpa [Builtin.Tuple.tupleCompareSizes] using hR⟩
  case h=>exact⟨rfl,rfl,items.toList,items2.toList,ns,ms,rfl,hi,hj,by lia,h⟩
end
section
variable {prog:Program} {w:World} {A:Around} {E:Value->Shared->Prop} {s:Shared}
def NY (hl:IsTup s.heap l items)(hb:IsTup s.heap b items2)(hi:IntsAre items.toList ns)(hj:IntsAre items2.toList ms)
  (hu:A.units<cLine) (h:Q (.bool (lexLt ns ms)) s):wpAny (model prog w) A (compareOp .Lt (.ref l) (.ref b)) Q E s:=by
 obtain⟨⟨cls,dd,data,sl⟩,ho,hc,n,hd⟩:=id hl;obtain⟨⟨cls2,dd2,data2,sl2⟩,ho2,hc2,n2,hd2⟩:=id hb;simp only at hc hd hc2 hd2;subst hc hd hc2 hd2;exact richCompare_meets_room (op:=.Lt) ⟨_,ho,rfl⟩ ⟨_,ho2,rfl⟩ PySem.F.slot_tuple_lt PySem.F.entry_tuple_lt (PySem.F.args_tuple_lt_2 _ _) (T6 l b items items2 n n2 dd dd2 sl sl2 ns ms hi hj)
  ⟨ho,ho2,show Value.bool (lexLt ns ms)≠Value.notImplemented/\Q (.bool (lexLt ns ms)) s from⟨(λx=>nomatch x),h⟩⟩ hu
def LH (ht:IsTup s.heap t vs.toArray)(hb:IsTup s.heap b ws.toArray)(hv:vs≠[])
  (h1:ws=[]->Q (.ref t) s) (h2:ws≠[]->Q (.ref s.heap.objs.size) {s with heap:=s.heap.push {cls:=.type "tuple", data:=.seq (vs++ws).toArray} })
  (hsz:vs.length+ws.length<=sizeLine):wpAny (model prog w) A (binaryOp .Add (.ref t) (.ref b)) Q E s:=by
 obtain⟨⟨cls,dd,data,sl⟩,ho,hc,n,hd⟩:=id ht;obtain⟨⟨cls2,dd2,data2,sl2⟩,ho2,hc2,n2,hd2⟩:=id hb;simp only at hc hd hc2 hd2;subst hc hd hc2 hd2;have e:vs.toArray++ws.toArray=(vs++ws).toArray:=by simp
 by_cases hw:ws=[]
 .exact concat_meets ⟨_,ho,rfl⟩ ⟨_,ho2,rfl⟩ KI seq_tuple_add KD KC (KA _ _)
   (tuple_addW1 t b vs.toArray ws.toArray n n2 dd dd2 sl sl2 (by simpa using hv) (by simp[hw])) ⟨ho,ho2,h1 hw⟩
 .refine concat_meets ⟨_,ho,rfl⟩ ⟨_,ho2,rfl⟩ KI seq_tuple_add KD KC (KA _ _)
   (tuple_addW2 t b vs.toArray ws.toArray n n2 dd dd2 sl sl2 (by simpa using hv) (by simpa using hw) (by rw[wm,wm];exact hsz)) ⟨ho,ho2,?_⟩
  rw[e];exact h2 hw
def yw (n d:Nat):Option Int->Nat
 |none=>d
 |some v=>if v<0 then(v+(n:Int)).toNat else min v.toNat n
def IX (n d:Nat):yw n d none=d:=rfl
def IW (n d k:Nat):yw n d (some (k:Int))=min k n:=by show(if (k:Int)<0 then((k:Int)+(n:Int)).toNat else min (k:Int).toNat n)=min k n;rw[xH (by lia),jI]
theorem So (n d:Nat)(hd:d<=n)(o:Option Int):yw n d o<=n:=by
 cases o with
 |none=>exact hd
 |some v=>
  show(if v<0 then(v+(n:Int)).toNat else min v.toNat n)<=n;by_cases hv:v<0
  .rw[xK hv];lia
  .rw[xH hv];exact Kx _ _
def EG (v:Int)(n d:Nat):(if v<0 then max (v+(n:Int)) 0 else min v (n:Int))=((yw n d (some v):Nat):Int):=by
 show(if v<0 then max (v+(n:Int)) 0 else min v (n:Int))=(((if v<0 then(v+(n:Int)).toNat else min v.toNat n):Nat):Int)
 by_cases hv:v<0
 .simp only[xK hv];lia
 .simp only[xH hv];lia
def KZ (lo hi:Option Int)(n:Nat):Builtin.Slice.sliceAdjust lo hi 1 (n:Int)=(((yw n 0 lo:Nat):Int),((yw n n hi:Nat):Int)):=by
 have h1:¬((1:Int)<0):=by lia
 unfold Builtin.Slice.sliceAdjust;simp only[h1,qQ];refine zL ?_ ?_
 .cases lo with
  |none=>rfl
  |some v=>exact EG v n 0
 .cases hi with
  |none=>rfl
  |some v=>exact EG v n n
def RI (i j:Nat):Builtin.Slice.slicePlaces (i:Int) (j:Int) 1=j-i:=by
 unfold Builtin.Slice.slicePlaces;have h1:(1:Int)>0:=by lia
 simp only[h1,sF,Int.ediv_one];split<;>lia
theorem Jr (p:IsPart v o)(h:Q o s):wpAny (model prog w) A (Builtin.Slice.slicePartIndex v) Q E s:=by
 cases p with
 |none=>exact slicePart_none h
 |int i t=>exact slicePart_int h
def Jq {sl:Addr}{vl vu:Value}{lo hi:Option Int}{n:Nat}{Q:Int×Int×Nat->Shared->Prop}(hs:s.heap.IsSliceOf sl vl vu .none)(pl:IsPart vl lo)(pu:IsPart vu hi)
  (h:Q (((yw n 0 lo:Nat):Int),1,yw n n hi-yw n 0 lo) s):wpAny (model prog w) A (Builtin.Slice.sliceApplied (.ref sl) (pure (n:Int))) Q E s:=by
 obtain⟨os,hos,hcs,hds⟩:=id hs;unfold Builtin.Slice.sliceApplied Builtin.Slice.sliceFields;refine xi (xi (vU hos hds (x:=vl) rfl (xi (vU hos hds (x:=vu) rfl (xi (vU hos hds (x:=.none) rfl (xN ?_)))))));refine xi (slicePart_none ?_);show wpAny _ _ (if ((1:Int)==0)=true then _ else _) _ _ s;rw[xH (by decide)];refine xi (Jr pl (xi (Jr pu (xi (xN ?_)))));show wpAny _ _ (match Builtin.Slice.sliceAdjust lo hi 1 (n:Int) with|(lo,hi)=>pure (lo,(1:Int),Builtin.Slice.slicePlaces lo hi 1)) _ _ s;rw[KZ lo hi n];show wpAny _ _ (pure (((yw n 0 lo:Nat):Int),(1:Int),Builtin.Slice.slicePlaces ((yw n 0 lo:Nat):Int) ((yw n n hi:Nat):Int) 1)) _ _ s;rw[RI];exact xN h
def RE (xs:Array Value)(i k:Nat):((List.range k).filterMap λ(m:Nat)=>xs[((i:Int)+(m:Int)*1).toNat]?).toArray=((xs.toList.drop i).take k).toArray:=by
 have e:(λ(m:Nat)=>xs[((i:Int)+(m:Int)*1).toNat]?)=λm=>xs[i+m]?:=by
  funext m;have:((i:Int)+(m:Int)*1).toNat=i+m:=by lia
  rw[this]
 rw[e];have:=pick_run xs i k;rw[List.filterMap_map] at this;have e2:((λx=>xs[x]?) ∘ λx=>i+x)=λm=>xs[i+m]?:=rfl;rw[e2] at this;rw[this]
def M1 {t sl:Addr}{items:Array Value}{vl vu:Value}{lo hi:Option Int}{Q:Value->Shared->Prop}(ht:IsTup s.heap t items)(hs:s.heap.IsSliceOf sl vl vu .none)(pl:IsPart vl lo)(pu:IsPart vu hi)
  (hw:¬(yw items.size 0 lo=0/\yw items.size items.size hi=items.size))
  (h:Q (.ref s.heap.objs.size) {s with heap:=s.heap.push {cls:=.type "tuple", data:=.seq ((items.toList.drop (yw items.size 0 lo)).take (yw items.size items.size hi-yw items.size 0 lo)).toArray} })
  (hsz:items.size<=sizeLine):wpAny (model prog w) A (getItem (.ref t) (.ref sl)) Q E s:=by
 have htake:sizeOk (.seq ((items.toList.drop (yw items.size 0 lo)).take (yw items.size items.size hi-yw items.size 0 lo)).toArray):=by show((items.toList.drop (yw items.size 0 lo)).take (yw items.size items.size hi-yw items.size 0 lo)).toArray.size<=sizeLine;rw[wm,uJ,qo,kJ];lia
 have hj:yw items.size items.size hi<=items.size:=So _ _ (yg _) hi;obtain⟨os,hos,hcs,hds⟩:=id hs;have hTs:s.TypeIs (.ref sl) "slice" := ⟨os,hos,hcs⟩
 unfold getItem
 try with_reducible refine kK ?_
 first|refine xi (xN ?_)|skip
 refine xi (wpAny_sequenceKey ht.typeIs (by decide) ?_);refine xi (jM (name:=Str.ofString "__getitem__") ht.typeIs mX (qq mX ht.typeIs entry_tuple_getitem ?_ (args_tuple_getitem _ _)))
 show wpAny _ _ (Builtin.Tuple.tupleItemsOf (.ref t)>>=_) _ _ s;refine xi (tupleItemsOf_ ht ?_);refine xi (wpAny_typeOf hTs ?_);rw[xK (by decide)];refine xi (Jq hs pl pu ?_);have hno:¬((((yw items.size 0 lo:Nat):Int)==0&&(1:Int)==1&&(yw items.size items.size hi-yw items.size 0 lo)==items.size)=true):=by intro q;rw[k_,k_] at q;have q1:((yw items.size 0 lo:Nat):Int)=0:=eq_of_beq q.1.1;have q2:yw items.size items.size hi-yw items.size 0 lo=items.size:=eq_of_beq q.2;exact hw ⟨by lia,by lia⟩
 show wpAny _ _ (if (((yw items.size 0 lo:Nat):Int)==0&&(1:Int)==1&&(yw items.size items.size hi-yw items.size 0 lo)==items.size)=true then _ else _) _ _ s;rw[xH hno,RE]
 first
  |exact xi (m:=Builtin.Tuple.tupleExact _) (vI (xN ⟨_,rfl,xN h⟩) htake)
  |exact xi (m:=Builtin.Tuple.tupleExact _) (vI (xi (xN (xN ⟨_,rfl,xN h⟩))) htake)
  |exact xi (xi (m:=Builtin.Tuple.tupleExact _) (vI (xN (xN ⟨_,rfl,xN h⟩)) htake))
  |exact xi (xi (m:=Builtin.Tuple.tupleExact _) (vI (xN ⟨_,rfl,xN h⟩) htake))
end
end HT
namespace L2
open PySem PySem.Spec PyProof.Rows
abbrev TO:=St->Hp->(Option Int->Hp->Prop)->Prop
def PO (X:Cx)(e:Option Expr)(t:TO):Prop:=
 ∀(xf:List (Addr×Obj)) (s:Shared) (σ:St) (H:Hp) (Q:Option Int->Hp->Prop),Inv X xf σ H s->t σ H Q->
  wpAny (model X.prog X.w) X.A (evalPart e X.env) (λu s'=>∃o H',Inv X xf σ H' s'/\IsPart u o/\Q o H') X.xe s
def JJ:TO:=λ_ H Q=>Q none H
def JQ (t:TE):TO:=λσ H Q=>t σ H λx H1=>∃i,x=.int i/\Q (some i) H1
theorem intsAre_of:∀ {us:List Value},yk (ns.map V.int) us->IntsAre us ns:=by
 induction ns with
 |nil=>intro us r;rw[fu] at r;cases r;exact .nil
 |cons n ns ih=>
  intro us r;rw[vS] at r;cases r with
  |cons r1 r2=>obtain⟨t,e⟩:=r1;subst e;exact .cons n t (ih r2)
section
variable {X:Cx} {e:Expr} {te:TE} {lo hi:Option Expr} {tl th:TO} {pos p2:Pos}
def g6:PO X none JJ:=by intro xf s σ H Q I h;rw[evalPart_none];exact xN ⟨none,H,I,.none,h⟩
def g9 (h:PE X e te):PO X (some e) (JQ te):=by intro xf s σ H Q I hw;rw[evalPart_some];refine yn (@h xf s σ H _ I hw) λu s1 ⟨x,H1,I1,r1,q1⟩=>?_;obtain⟨i,rfl,q⟩:=q1;obtain⟨t,rfl⟩:=r1;exact⟨some i,H1,I1,.int i t,q⟩
def SlR (X:Cx)(r:V->Option Int->Option Int->Hp->VK->Prop):Prop:=
 ∀(xf:List (Addr×Obj)) (s:Shared) (σ:St) (H:Hp) (x:V) (v vl vu:Value) (lo hi:Option Int) (sl:Addr) (Q:VK),Inv X xf σ H s->RelV x v->s.heap.IsSliceOf sl vl vu .none->IsPart vl lo->IsPart vu hi->r x lo hi H Q->
  ∃T id,typeLookup (.type T) "__getitem__" = pure (some (.builtin id))/\s.TypeIs v T/\wpAny (model X.prog X.w) X.A (getItem v (.ref sl)) (EP X xf σ Q) X.xe s
def tSl (r:V->Option Int->Option Int->Hp->VK->Prop)(te:TE)(tl th:TO):TE:=λσ H Q=>te σ H λx H1=>tl σ H1 λl H2=>th σ H2 λu H3=>r x l u H3 Q
def gY (hr:SlR X r)(he:PE X e te)(hl:PO X lo tl)(hu:PO X hi th):PE X (.Subscript e (.Slice lo hi none p2) pos) (tSl r te tl th):=by intro xf s σ H Q I h;refine Subscript_ (yn (@he xf s σ H _ I h) λv s1 ⟨x,H1,I1,r1,q1⟩=>?_);refine wpAny_Slice (yn (@hl xf s1 σ H1 _ I1 q1) λvl s2 ⟨l,H2,I2,pl,q2⟩=>yn (@hu xf s2 σ H2 _ I2 q2) λvu s3 ⟨u,H3,I3,pu,q3⟩=>?_);rw[evalPart_none];refine xN ?_;have I4:Inv X xf σ H3 {s3 with heap:=s3.heap.push {cls:=.type "slice", data:=.fields #[vl,vu,.none]} }:=I3.kept (t':=s3.toks) λb ob q=>yY _ q;obtain⟨T,id,hT,ht,hg⟩:=hr xf {s3 with heap:=s3.heap.push {cls:=.type "slice", data:=.fields #[vl,vu,.none]} } σ H3 x v vl vu l u s3.heap.objs.size Q I4 r1 (Heap.IsSliceOf.new ..) pl pu q3;show wpAny (model X.prog X.w) X.A (subscriptTail e (.Slice lo hi none p2) v (.ref s3.heap.objs.size)) (EP X xf σ Q) X.xe {s3 with heap:=s3.heap.push {cls:=.type "slice", data:=.fields #[vl,vu,.none]} };exact tail_any (ops:=[.ref s3.heap.objs.size,v]) ht hT hg (by with_unfolding_all rfl)
def qv (xs:List V)(lo hi:Option Int):List V:=(xs.drop (HT.yw xs.length 0 lo)).take (HT.yw xs.length xs.length hi-HT.yw xs.length 0 lo)
def EY (xs:List V)(lo hi:Option Int):(qv xs lo hi).length<=xs.length:=by unfold qv;rw[uJ,qo];lia
def RX (K:xt):V->Option Int->Option Int->Hp->VK->Prop:=λx lo hi H Q=>∃a xs,x=.ref a/\yR K H a xs/\
 ¬(HT.yw xs.length 0 lo=0/\HT.yw xs.length xs.length hi=xs.length)/\∀p,H p=none->Q (.ref p) (upd H p (.tup (qv xs lo hi)))
def Tx:SlR X (RX X.K):=by
 intro xf s σ H x v vl vu lo hi sl Q I rx hs pl pu h;obtain⟨a,xs,rfl,hx,hw,q⟩:=h;cases rx;obtain⟨xj,r,ht,hz⟩:=I.tuple hx;have hlen:xj.toArray.size=xs.length:=by rw[wm];exact r.length.symm
 refine⟨"tuple", _,mX.lookup,ht.typeIs,?_⟩;refine HT.M1 ht hs pl pu (by rw[hlen];exact hw) ?_ (by rw[hlen];exact hz);rw[hlen];refine⟨.ref s.heap.objs.size,_,I.laid (t':=s.toks) (o:=.tup (qv xs lo hi)) (λb ob q=>yY _ q) (yg _) ?_,rfl,q _ (I.hok.fresh (yg _))⟩;exact⟨wV (EY xs lo hi) hz,_,(r.drop (HT.yw xs.length 0 lo)).take (HT.yw xs.length xs.length hi-HT.yw xs.length 0 lo),mL _ _⟩
def Ip (K:xt):R2:=λx y H Q=>∃a b ns ms,x=.ref a/\y=.ref b/\yR K H a (ns.map V.int)/\yR K H b (ms.map V.int)/\Q (.bl (HT.lexLt ns ms)) H
def Qh (hu:X.A.units<cLine):zB X (compareOp .Lt) (Ip X.K):=by intro xf s σ H x y v u Q I rx ry h;obtain⟨a,b,ns,ms,rfl,rfl,ha,hb,q⟩:=h;cases rx;cases ry;obtain⟨xj,r1,p1,_⟩:=I.tuple ha;obtain⟨its2,r2,p2,_⟩:=I.tuple hb;have i1:IntsAre xj.toArray.toList ns:=intsAre_of r1;have i2:IntsAre its2.toArray.toList ms:=intsAre_of r2;exact HT.NY p1 p2 i1 i2 hu ⟨.bl (HT.lexLt ns ms),H,I,rfl,q⟩
def RW (K:xt):R2:=λx y H Q=>∃a b xs ys,x=.ref a/\y=.ref b/\yR K H a xs/\yR K H b ys/\xs≠[]/\xs.length+ys.length<=sizeLine/\
 (ys=[]->Q (.ref a) H)/\(ys≠[]->∀p,H p=none->Q (.ref p) (upd H p (.tup (xs++ys))))
theorem yk.nil_iff (r:yk xs us):us=[]↔xs=[]:=by
 cases r with
 |nil=>simp
 |cons _ _=>simp
def Qg:zB X (binaryOp .Add) (RW X.K):=by intro xf s σ H x y v u Q I rx ry h;obtain⟨a,b,xs,ys,rfl,rfl,ha,hb,hx,hz,q1,q2⟩:=h;cases rx;cases ry;obtain⟨xj,r1,p1,_⟩:=I.tuple ha;obtain⟨its2,r2,p2,_⟩:=I.tuple hb;refine HT.LH p1 p2 (λz=>hx (r1.nil_iff.mp z)) (λz=>⟨.ref a,H,I,rfl,q1 (r2.nil_iff.mp z)⟩) (λz=>?_) (by rw[<-r1.length,<-r2.length];exact hz);refine⟨.ref s.heap.objs.size,_,I.laid (t':=s.toks) (o:=.tup (xs++ys)) (λb ob q=>yY _ q) (yg _) ?_,rfl,q2 (λw=>z (r2.nil_iff.mpr w)) _ (I.hok.fresh (yg _))⟩;exact⟨by rw[zy];exact hz,_,r1.append r2,mL _ _⟩
end
def ixN (n:Nat)(i:Int):Option Nat:=if 0<=i then(if i<n then some i.toNat else none) else if -(n:Int)<=i then some (i+n).toNat else none
def atI (xs:List α)(i:Int):Option α:=(ixN xs.length i).bind λj=>xs[j]?
def Gy (h:ixN n i=some j):seqIndex? i n=some j/\j<n/\-(n:Int)<=i/\i<n:=by
 unfold ixN at h;by_cases h0:0<=i
 .rw[xK h0] at h;by_cases h1:i<n
  .rw[xK h1] at h;have e:i.toNat=j:=vH h;exact⟨by rw[seqIndex_of h0 h1,e],by lia,by lia,h1⟩
  .rw[xH h1] at h;cases h
 .rw[xH h0] at h;by_cases h1:-(n:Int)<=i
  .rw[xK h1] at h;have e:(i+n).toNat=j:=vH h;exact⟨by rw[seqIndex_neg (by lia) h1,e],by lia,h1,by lia⟩
  .rw[xH h1] at h;cases h
theorem oW (h:atI xs i=some v):∃j,seqIndex? i xs.length=some j/\xs[j]?=some v/\j<xs.length/\-(xs.length:Int)<=i/\i<xs.length:=by
 unfold atI at h;cases e:ixN xs.length i with
 |none=>rw[e] at h;cases h
 |some j=>rw[e] at h;obtain⟨h1,h2,h3,h4⟩:=Gy e;exact⟨j,h1,h,h2,h3,h4⟩
def La {α:Type}{xs:List α}{j:Nat}{v:α}(h:xs[j]?=some v):atI xs (j:Int)=some v:=by
 have hj:j<xs.length:=(zc.mp h).1;have e:ixN xs.length (j:Int)=some j:=by unfold ixN;rw[xK (by lia),xK (by lia)];simp
 unfold atI;rw[e];exact h
def K_ (xs:List α)(v:α):atI (xs++[v]) (-1)=some v:=by
 have hl:(xs++[v]).length=xs.length+1:=by simp
 have e:ixN (xs++[v]).length (-1)=some xs.length:=by unfold ixN;rw[hl,xH (by decide),xK (by lia)];congr 1;lia
 unfold atI;rw[e];show(xs++[v])[xs.length]?=some v;simp
def KU (b:Expr):Prop:=∀o i,subscripted b false o i=operate [o,i] (getItem o i)
def IxR (X:Cx)(r:R2):Prop:=
 ∀(value slice:Expr) (xf:List (Addr×Obj)) (s:Shared) (σ:St) (H:Hp) (x y:V) (v u:Value) (Q:VK),Inv X xf σ H s->RelV x v->RelV y u->r x y H Q->
  subscripted slice false v u=operate [v,u] (getItem v u)->wpAny (model X.prog X.w) X.A (subscriptTail value slice v u) (EP X xf σ Q) X.xe s
def MtR (X:Cx)(id:String)(r:V->List V->Hp->VK->Prop):Prop:=
 ∀(xf:List (Addr×Obj)) (s:Shared) (σ:St) (H:Hp) (x:V) (xs:List V) (v:Value) (us:List Value) (Q:VK),Inv X xf σ H s->RelV x v->yk xs us->r x xs H Q->
  wpAny (model X.prog X.w) X.A (call (.builtin id) (v::us)) (EP X xf σ Q) X.xe s
section
variable {X:Cx} {a b:Expr} {ta tb:TE} {pos:Pos}
def IxR.or (h:IxR X r)(h':IxR X r'):IxR X (λx y H Q=>r x y H Q\/r' x y H Q):=by
 intro value slice xf s σ H x y v u Q I rx ry q hs;rcases q with q|q
 .exact h value slice xf s σ H x y v u Q I rx ry q hs
 .exact h' value slice xf s σ H x y v u Q I rx ry q hs
def y8 {r:R2}(hr:IxR X r)(ha:PE X a ta)(hb:PE X b tb)(hs:KU b):PE X (.Subscript a b pos) (tOp r ta tb):=by intro xf s σ H Q I h;exact Subscript_ (oZ ha hb I h λv u s2 x y H2 I2 rx ry q=>hr a @b xf s2 σ H2 x y v u Q I2 rx ry q (hs _ _))
def Af (K:xt):R2:=λx y H Q=>∃p xs i v,x=.ref p/\y=.int i/\yt K H p xs/\atI xs i=some v/\Q v H
def Ik (K:xt):R2:=λx y H Q=>∃p xs i v,x=.ref p/\y=.int i/\yR K H p xs/\atI xs i=some v/\Q v H
def Ij:R2:=λx y H Q=>∃z i c,x=.str z/\y=.int i/\z.length<=sizeLine/\atI z.cps.toList i=some c/\Q (.str ⟨#[c]⟩) H
def Gz:IxR X (Af X.K):=by
 intro value slice xf s σ H x y v u Q I rx ry h hs;obtain⟨p,xs,i,z,rfl,rfl,hq,he,q⟩:=h;cases rx;obtain⟨t,rfl⟩:=ry;obtain⟨xj,r,pl,hz⟩:=I.list hq;obtain⟨j,h1,h2,h3,h4,h5⟩:=oW he;obtain⟨w,ew,rw'⟩:=r.get h2;have hl:=r.length;have hn:=tQ;have fin:EP X xf σ Q w s:=⟨z,H,I,rw',q⟩
 by_cases h0:0<=i
 .have hj:i.toNat=j:=by rw[seqIndex_of h0 h5] at h1;exact vH h1
  exact item_listR pl.isList h0 (by lia) (by rw[hj];simpa using ew) fin hs
 .have hj:(i+(xj.toArray.size:Int)).toNat=j:=by rw[seqIndex_neg (by lia) h4] at h1;rw[wm,<-hl];exact vH h1
  exact subscriptTail_builtinR (x:=w) pl.isList.typeIs slot_list_getitem.lookup
   (wpAny_getItem_list_neg (Q:=λr s'=>r=w/\EP X xf σ Q r s') pl.isList (by lia) (by rw[wm]<;>lia) (by lia) (by rw[hj];simpa using ew) ⟨rfl,fin⟩) hs
def Nv:IxR X (Ik X.K):=by
 intro value slice xf s σ H x y v u Q I rx ry h hs;obtain⟨p,xs,i,z,rfl,rfl,hq,he,q⟩:=h;cases rx;obtain⟨t,rfl⟩:=ry;obtain⟨xj,r,pl,hz⟩:=I.tuple hq;obtain⟨j,h1,h2,h3,h4,h5⟩:=oW he;obtain⟨w,ew,rw'⟩:=r.get h2;have hl:=r.length;have hn:=tQ;have fin:EP X xf σ Q w s:=⟨z,H,I,rw',q⟩
 exact subscriptTail_builtinR (x:=w) pl.typeIs slot_tuple_getitem.lookup
  (getItem_tuple (j:=j) (Q:=λr s'=>r=w/\EP X xf σ Q r s') pl (by lia) (by lia) (by rw[wm,<-hl];exact h1) (by simpa using ew) ⟨rfl,fin⟩) hs
def Nu:IxR X Ij:=by
 intro value slice xf s σ H x y v u Q I rx ry h hs;obtain⟨z,i,c,rfl,rfl,hz,he,q⟩:=h;obtain⟨t,rfl⟩:=rx;obtain⟨t',rfl⟩:=ry;obtain⟨j,h1,h2,h3,h4,h5⟩:=oW he;have hl:z.cps.toList.length=z.length:=by simp[Str.length]
 rw[hl] at h1 h4 h5;have hn:=tQ;exact tail_any (typeIs_str s z t) slot_str_getitem.lookup (getItem_str (c:=c) (by have e1:decide (i < -(2^63:Int))=false:=uX (by lia);have e2:decide (i>=2^63)=false:=uX (by lia);rw[e1,e2,Bool.or_false]) (by rw[h1];simpa using h2) ⟨.str ⟨#[c]⟩,H,I.tok _,⟨_,rfl⟩,q⟩) hs
def rIx (K:xt):R2:=λx y H Q=>Af K x y H Q\/Ik K x y H Q\/Ij x y H Q
def Nt:IxR X (rIx X.K):=Gz.or (Nv.or Nu)
def NZ (xj:List Value)(n j:Nat)(u:Value):Obj.mapSeq (·.setIfInBounds j u) {cls:=.type "list", data:=.seq xj.toArray n}={cls:=.type "list", data:=.seq (xj.set j u).toArray n}:=by simp[Obj.mapSeq]
theorem Inv.lst {xf:List (Addr×Obj)}{σ:St}{H:Hp}{s:Shared}{p:Addr}{xs:List V}(I:Inv X xf σ H s)(h:H p=some (.lst xs)) :
  ∃(xj:List Value) (n:Nat),yk xs xj/\s.heap.get? p=some {cls:=.type "list", data:=.seq xj.toArray n}/\xs.length<=sizeLine:=by
 obtain⟨z,xj,n,r,e⟩:=I.hok p _ h;exact⟨xj,n,r,e,z⟩
def Inv.lstUpd {xf:List (Addr×Obj)}{σ:St}{H:Hp}{s:Shared}{p:Addr}{xs ys:List V}{xj its':List Value}{n n':Nat}{f:Obj->Obj}(I:Inv X xf σ H s)(h:H p=some (.lst xs))
  (ho:s.heap.get? p=some {cls:=.type "list", data:=.seq xj.toArray n}) (hf:f {cls:=.type "list", data:=.seq xj.toArray n}={cls:=.type "list", data:=.seq its'.toArray n' }) (r:yk ys its') (hz:ys.length<=sizeLine) (t:Nat) :
  Inv X xf σ (upd H p (.lst ys)) {s with heap:=s.heap.update p f,toks:=t}:=by
 have e:(s.heap.update p f).get? p=some {cls:=.type "list", data:=.seq its'.toArray n' }:=by rw[pW f ho (by rw[hf]<;>rfl),hf]
 refine I.write (x:=p) (e:=p) (by rw[h];trivial) (.inl rfl) (λb u hb q=>(B9 _ _ (zK hb)).trans q) ⟨_,e⟩ ?_;exact⟨hz,its',n',r,e⟩
def Iw:V->V->V->Hp->(Hp->Prop)->Prop:=λo i v H Q=>∃p xs k j,o=.ref p/\i=.int k/\H p=some (.lst xs)/\ixN xs.length k=some j/\Q (upd H p (.lst (xs.set j v)))
def set_list:CY X Iw:=by
 intro xf s σ H o i v ov iv u Q I ro ri rv h;obtain⟨p,xs,k,j,rfl,rfl,hp,hj,q⟩:=h;cases ro;obtain⟨t,rfl⟩:=ri;obtain⟨xj,n,r,ho,hz⟩:=I.lst hp;obtain⟨h1,h2,h3,h4⟩:=Gy hj;have hl:=r.length;have hn:=tQ;have I':Inv X xf σ (upd H p (.lst (xs.set j v))) {s with heap:=s.heap.update p (Obj.mapSeq (·.setIfInBounds j u))}:=I.lstUpd hp ho (NZ xj n j u) (r.set rv j) (by rw[jc];exact hz) s.toks
 by_cases h0:0<=k
 .have hk:k.toNat=j:=by rw[seqIndex_of h0 h4] at h1;exact vH h1
  exact PySem.W.ki_setAt ho h0 (by lia) (by rw[wm,<-hl];exact h4) (by rw[hk];exact⟨_,I',q⟩)
 .have hk:(k+(xj.toArray.size:Int)).toNat=j:=by rw[seqIndex_neg (by lia) h3] at h1;rw[wm,<-hl];exact vH h1
  exact PySem.W.ki_setBack ho (by lia) (by rw[wm,<-hl];exact h3) (by lia) (by rw[hk];exact⟨_,I',q⟩)
def TC (lo hi:Option Int)(n:Nat):(sliceBounds lo hi none n).1=((HT.yw n 0 lo:Nat):Int)/\(sliceBounds lo hi none n).2.1=((HT.yw n n hi:Nat):Int)/\(sliceBounds lo hi none n).2.2=1:=by
 refine⟨?_,?_,rfl⟩
 .cases lo with
  |none=>simp[sliceBounds,HT.yw]
  |some i=>
   simp only[sliceBounds,HT.yw,Option.getD_none,show(1:Int)>0 by decide,sF];by_cases h:i<0
   .simp only[h,sF]<;>lia
   .simp only[h,qQ]<;>lia
 .cases hi with
  |none=>simp[sliceBounds,HT.yw]
  |some i=>
   simp only[sliceBounds,HT.yw,Option.getD_none,show(1:Int)>0 by decide,sF];by_cases h:i<0
   .simp only[h,sF]<;>lia
   .simp only[h,qQ]<;>lia
def TB (xj:List Value)(lo hi:Option Int):slicePick xj.toArray lo hi none=((xj.drop (HT.yw xj.length 0 lo)).take (HT.yw xj.length xj.length hi-HT.yw xj.length 0 lo)).toArray:=by obtain⟨h1,h2,h3⟩:=TC lo hi xj.toArray.size;unfold slicePick;rw[h1,h2,h3];simp only[sliceRange_one,pick_run,wm]<;>rfl
def t_ (K:xt):V->Option Int->Option Int->Hp->VK->Prop:=λx lo hi H Q=>∃a xs,x=.ref a/\yt K H a xs/\∀p,H p=none->Q (.ref p) (upd H p (.lst (qv xs lo hi)))
def Jp:SlR X (t_ X.K):=by intro xf s σ H x v vl vu lo hi sl Q I rx hs pl pu h;obtain⟨a,xs,rfl,hx,q⟩:=h;cases rx;obtain⟨xj,r,ht,hz⟩:=I.list hx;have hlen:=r.length;refine⟨"list", _,slot_list_getitem.lookup,ht.isList.typeIs,?_⟩;refine wpAny_getItem_list_slice ht.isList hs pl pu .none (by simp) ?_ (by rw[wm]<;>lia);rw[TB,<-hlen];refine⟨.ref s.heap.objs.size,_,I.laid (t':=s.toks) (o:=.lst (qv xs lo hi)) (λb ob q=>yY _ q) (yg _) ?_,rfl,q _ (I.hok.fresh (yg _))⟩;exact⟨wV (EY xs lo hi) hz,_,0,(r.drop (HT.yw xs.length 0 lo)).take (HT.yw xs.length xs.length hi-HT.yw xs.length 0 lo),wD _ rfl⟩
def Lr:vk X (.builtin "len") (λxs H Q=>∃p ys,xs=[.ref p]/\(yt X.K H p ys\/yR X.K H p ys)/\Q (.int ys.length) H):=by
 intro xf s σ H xs us Q I r h;obtain⟨p,ys,rfl,hq,q⟩:=h;obtain⟨u,rfl,rx⟩:=vals1 r;cases rx;have hn:=tQ;rcases hq with hq|hq
 .obtain⟨xj,r',pl,hz⟩:=I.list hq;have hlen:=r'.length;exact Calls.call_len_list pl.isList (by simp only[wm]<;>lia) ⟨.int ys.length,H,I.tok _,⟨s.toks+1,by rw[wm,hlen]⟩,q⟩
 .obtain⟨xj,r',pl,hz⟩:=I.tuple hq;have hlen:=r'.length;exact len_tuple pl (by simp only[wm]<;>lia) ⟨.int ys.length,H,I.tok _,⟨s.toks+1,by rw[wm,hlen]⟩,q⟩
def LC:vk X (.type "tuple") (λxs H Q=>∃p ys,xs=[.ref p]/\((yt X.K H p ys/\∀l,H l=none->Q (.ref l) (upd H l (.tup ys)))\/(yR X.K H p ys/\Q (.ref p) H))):=by
 intro xf s σ H xs us Q I r h;obtain⟨p,ys,rfl,h⟩:=h;obtain⟨u,rfl,rx⟩:=vals1 r;cases rx;rcases h with ⟨hq,q⟩|⟨hq,q⟩
 .obtain⟨xj,r',pl,hz⟩:=I.list hq;have hlen:=r'.length;refine call_tuple_list pl.isList (λh' kp=>?_) (by simp only[wm]<;>lia);have I1:Inv X xf σ H {s with heap:=h' }:=I.kept (t':=s.toks) kp;have I2:Inv X xf σ (upd H h'.objs.size (.tup ys)) {s with heap:=h'.push {cls:=.type "tuple", data:=.seq xj.toArray} }:=I1.laid (t':=s.toks) (λb o e=>yY _ e) (yg _) (show wq X.prog X.w _ _ _ (.tup ys) from⟨hz,xj,r',mL _ _⟩)
  exact⟨.ref h'.objs.size,_,I2,rfl,q _ (I1.hok.fresh (yg _))⟩
 .obtain⟨xj,r',pl,hz⟩:=I.tuple hq;exact call_tuple_same pl ⟨.ref p,H,I,rfl,q⟩
def tyV (K:xt)(T:String)(x:V)(H:Hp):Prop:=match x with
 |.str _=>T = "str"
 |.int _=>T = "int"
 |.ref p=>(T = "list" /\ ∃xs,yt K H p xs)\/(T = "tuple" /\ ∃o,K.lookup p=some o/\o.cls=.type "tuple" /\ o.dict=none)\/
   (T = "dict" /\ ((∃xJ,H p=some (.dK xJ))\/∃xJ,H p=some (.dT xJ)))\/(T = "set" /\ ∃S n,H p=some (.set S n))
 |_=>False
theorem JZ (I:Inv X xf σ H s)(r:RelV x v)(ty:tyV X.K T x H) :
  s.TypeIs v T/\∀a,v=.ref a->∃ob,s.heap.get? a=some ob/\ob.dict=none:=by
 cases x with
 |str z=>obtain⟨t,rfl⟩:=r;cases (show T = "str" from ty);exact⟨typeIs_str s z t,λ_ e=>nomatch e⟩
 |int i=>obtain⟨t,rfl⟩:=r;cases (show T = "int" from ty);exact⟨ou s i t,λ_ e=>nomatch e⟩
 |ref p=>
  cases r;rcases ty with ⟨rfl,xs,hq⟩|⟨rfl,o,hk,hc,hd⟩|⟨rfl,hk⟩|⟨rfl,S,n,hk⟩
  .obtain⟨xj,_,pl,_⟩:=I.list hq;refine⟨pl.isList.typeIs,λa e=>?_⟩;cases e;obtain⟨o,n,e,c,hd,_⟩:=pl;exact⟨o,e,hd⟩
  .refine⟨⟨o,I.kIn p o hk,hc⟩,λa e=>?_⟩;cases e;exact⟨o,I.kIn _ o hk,hd⟩
  .have z:∃o,s.heap.get? p=some o/\o.ExactDict:=by
    rcases hk with ⟨xJ,hk⟩|⟨xJ,hk⟩
    .obtain⟨_,_,_,_,o,_,_,e,ex,_⟩:=I.hok p _ hk;exact⟨o,e,ex⟩
    .obtain⟨_,_,_,_,o,_,_,e,ex,_⟩:=I.hok p _ hk;exact⟨o,e,ex⟩
   obtain⟨o,e,ex⟩:=z;refine⟨⟨o,e,ex.1⟩,λa e2=>?_⟩;cases e2;exact⟨o,e,ex.2.1⟩
  .obtain⟨o,_,_,_,e,ex,_⟩:=I.hok p _ hk;refine⟨⟨o,e,ex.1⟩,λa e2=>?_⟩;cases e2;exact⟨o,e,ex.2.1⟩
 |_=>exact False.elim ty
def BS (K:xt)(T:String)(r:V->List V->Hp->VK->Prop)(to:TE):TE:=λσ H Q=>to σ H λx H1=>tyV K T x H1/\r x [] H1 Q
def tBM (K:xt)(T:String)(r:V->List V->Hp->VK->Prop)(to:TE)(t:TA):TE:=λσ H Q=>to σ H λx H1=>tyV K T x H1/\t σ H1 λxs H2=>r x xs H2 Q
variable {o e:Expr} {es:List Expr} {to:TE} {t:TA} {name:Str} {apos cpos:Pos} {T id:String} {r:V->List V->Hp->VK->Prop}
def HL (pa:PlainAttrs T)(slot:Slot T name id)(hty:typeOf (.builtin id)=pure (.type "method_descriptor"))(hm:MtR X id r)(ho:PE X o to)
  (hbase:attributeBase o name X.env (eval o X.env)=eval o X.env:=by rfl) (hline:(apos.endLine==cpos.line)=true:=by rfl):PE X (.Call (.Attribute o name apos) [] [] cpos) (BS X.K T r to):=by
 intro xf s σ H Q I h;refine wpAny_Call_method0_late hbase hline (yn (@ho xf s σ H _ I h) λv s1 ⟨x,H1,I1,r1,ty,q1⟩=>?_);obtain⟨h1,h2⟩:=JZ I1 r1 ty;exact⟨T,id,pa,slot,hty,h1,h2,Calls.callWith_builtin rfl (PySem.evalArgs_none (@hm xf s1 σ H1 x [] v [] Q I1 r1 .nil q1))⟩
def qi (pa:PlainAttrs T)(slot:Slot T name id)(hty:typeOf (.builtin id)=pure (.type "method_descriptor"))(hm:MtR X id r)(ho:PE X o to)(ha:PA X (e::es) t)
  (hbase:attributeBase o name X.env (eval o X.env)=eval o X.env:=by rfl)
  (hfew:((backTo cpos (starEach (e::es) X.env)).all (λx=>!x.1)&&(backToKw cpos (keywordEach [] X.env)).all (λx=>x.1.isSome) && decide ((e::es).length+([]:List Keyword).length+(if ([]:List Keyword).isEmpty then 0 else 1)<30))=true:=by rfl)
  (hline:(apos.endLine==cpos.line)=true:=by rfl) (hs:starEach (e::es) X.env=(false,eval e X.env)::starEach es X.env:=by rfl) (hplain:(backTo cpos (starEach es X.env)).any (·.1)=false:=by rfl) :
  PE X (.Call (.Attribute o name apos) (e::es) [] cpos) (tBM X.K T r to t):=by
 intro xf s σ H Q I h;refine wpAny_Call_method_late hbase hfew hline rfl (yn (@ho xf s σ H _ I h) λv s1 ⟨x,H1,I1,r1,ty,q1⟩=>?_);obtain⟨h1,h2⟩:=JZ I1 r1 ty;refine⟨T,id,pa,slot,hty,h1,h2,?_⟩;have hA:=@ha cpos xf s1 σ H1 _ I1 q1;rw[hs] at hA ⊢;refine Calls.callWith_builtin (by show(false||(backTo cpos (starEach es X.env)).any (·.1))=false;rw[hplain]<;>rfl) (Calls.evalArgs_plain ?_);exact yn hA λus s2 ⟨vs,H2,I2,r2,q2⟩=>@hm xf s2 σ H2 x vs v us Q I2 r1 r2 q2
end
def MtM (X:Cx)(id:String)(r:V->List V->Hp->VK->Prop):Prop:=
 ∀(xf:List (Addr×Obj)) (s:Shared) (σ:St) (H:Hp) (x:V) (xs:List V) (v:Value) (us:List Value) (Q:VK),Inv X xf σ H s->RelV x v->yk xs us->r x xs H Q->
  wpAny (model X.prog X.w) X.A (call (.builtin id) (v::us)) (EP X xf σ Q) X.xe s
theorem yk.one:∀ {x:V} {us:List Value},yk [x] us->∃u,us=[u]/\RelV x u
 |_,_,.cons r .nil=>⟨_,rfl,r⟩
theorem yk.zero:∀ {us:List Value},yk [] us->us=[]
 |_,.nil=>rfl
theorem yk.rep (h:yk xs us):∀k:Nat,yk (List.replicate k xs).flatten (List.replicate k us).flatten
 |0=>.nil
 |k+1=>by rw[fA,fA,rB,rB];exact yk.append h (yk.rep h k)
theorem foldl_rep (xj:List Value):∀(k:Nat) (acc:List Value),
  List.foldl (λx1 x2=>x1++x2) acc.toArray (List.replicate k xj.toArray)=(acc++(List.replicate k xj).flatten).toArray
 |0,acc=>by simp
 |k+1,acc=>by
  have e:acc.toArray++xj.toArray=(acc++xj).toArray:=by simp
  have e2:(acc++xj)++(List.replicate k xj).flatten=acc++(List.replicate (k+1) xj).flatten:=by rw[fA,rB,v5]
  rw[<-e2,<-foldl_rep xj k (acc++xj),<-e,fA,qL]
section
variable {X:Cx} {xf:List (Addr×Obj)} {σ:St} {H:Hp} {s:Shared} {l b:Addr} {xs ys zs:List V}
def Inv.lset {xj its':List Value}{n:Nat}{f:Array Value->Array Value}{t':Nat}(I:Inv X xf σ H s)(hH:H l=some (.lst xs))
  (e:s.heap.get? l=some {cls:=.type "list", data:=.seq xj.toArray n}) (hf:f xj.toArray=its'.toArray) (hv:yk ys its') (hz:ys.length<=sizeLine) :
  Inv X xf σ (upd H l (.lst ys)) {s with heap:=s.heap.update l (Obj.mapSeq f),toks:=t' }:=by
 have q:=KE e f;rw[hf] at q;refine I.write (x:=l) (e:=l) (by rw[hH];exact trivial) (.inl rfl) (λb' u hb hu=>(B9 s.heap (Obj.mapSeq f) (zK hb)).trans hu) ⟨_,q⟩ ?_;exact⟨hz,its',_,hv,q⟩
def Inv.lnew (I:Inv X xf σ H s)(hv:yk ys xj)(hz:ys.length<=sizeLine) :
  Inv X xf σ (upd H s.heap.objs.size (.lst ys)) {s with heap:=s.heap.push {cls:=.type "list", data:=.seq xj.toArray},toks:=t' }:=
 I.laid (λ_ _ q=>yY _ q) (yg _) ⟨hz,xj,0,hv,wD _ rfl⟩
theorem Inv.fresh (I:Inv X xf σ H s):H s.heap.objs.size=none:=I.hok.fresh (yg _)
def Inv.lstM (I:Inv X xf σ H s)(hH:H l=some (.lst xs)):xs.length<=sizeLine/\∃(xj:List Value) (n:Nat),yk xs xj/\xs.length=xj.length/\s.heap.get? l=some {cls:=.type "list", data:=.seq xj.toArray n}:=by obtain⟨z,xj,n,r,e⟩:=I.hok l _ hH;exact⟨z,xj,n,r,r.length,e⟩
def Oo (h:n<=sizeLine):Builtin.List.listTooLong n=false:=by unfold Builtin.List.listTooLong;exact uX (by lia)
end
section
variable {X:Cx}
def Ia:V->List V->Hp->VK->Prop:=λx vs H Q=>∃l xs y,x=.ref l/\vs=[y]/\H l=some (.lst xs)/\xs.length<sizeLine/\Q .non (upd H l (.lst (xs++[y])))
def km:MtM X "list.append" Ia:=by intro xf s σ H x vs v us Q I rx rv h;obtain⟨l,xs,y,rfl,rfl,hH,hz,q⟩:=h;cases rx;obtain⟨u,rfl,ru⟩:=rv.one;obtain⟨z,xj,n,r,hl,e⟩:=I.lstM hH;refine fG Kc ⟨_,e,rfl⟩ Kb (Ka _ _) (KG l xj.toArray n u (by rw[wm];lia)) ⟨e,?_⟩;refine⟨.non,_,I.lset (its':=xj++[u]) hH e (by simp) (r.append (.cons ru .nil)) ?_,rfl,q⟩;rw[zy,gB];lia
def Ic:V->List V->Hp->VK->Prop:=λx vs H Q=>∃l xs,x=.ref l/\vs=[]/\H l=some (.lst xs)/\Q .non (upd H l (.lst []))
def Oa:MtM X "list.clear" Ic:=by intro xf s σ H x vs v us Q I rx rv h;obtain⟨l,xs,rfl,rfl,hH,q⟩:=h;cases rx;have hus:=rv.zero;subst hus;obtain⟨z,xj,n,r,hl,e⟩:=I.lstM hH;refine fG F.slot_list_clear ⟨_,e,rfl⟩ F.entry_list_clear (F.args_list_clear_1 _) (AutoSeq1.list_clear_list_0 l xj.toArray n (by rw[wm];lia)) ⟨e,?_⟩;exact⟨.non,_,I.lset (its':=[]) (ys:=[]) hH e rfl .nil (gD _),rfl,q⟩
def Ae:R2:=λx y H Q=>∃l b xs zs,x=.ref l/\y=.ref b/\H l=some (.lst xs)/\H b=some (.lst zs)/\xs.length+zs.length<=sizeLine/\∀p,H p=none->Q (.ref p) (upd H p (.lst (xs++zs)))
def cq:zB X (binaryOp .Add) Ae:=by
 intro xf s σ H x y v u Q I rx ry h;obtain⟨l,b,xs,zs,rfl,rfl,hH,hB,hz,q⟩:=h;cases rx;cases ry;obtain⟨z,xj,n,r,hl,e⟩:=I.lstM hH;obtain⟨z2,its2,n2,r2,hl2,e2⟩:=I.lstM hB;refine PySem.P.add_list e e2 ?_ (by rw[wm,wm];lia);have ea:xj.toArray++its2.toArray=(xj++its2).toArray:=by simp
 rw[ea];exact⟨.ref _,_,I.lnew (t':=s.toks) (r.append r2) (by rw[zy];lia),rfl,q _ I.fresh⟩
def Ak:R2:=λx y H Q=>∃l k xs,x=.ref l/\y=.int k/\H l=some (.lst xs)/\-(2^63)<=k/\k<2^63/\xs.length*k.toNat<=sizeLine/\
 ∀p,H p=none->Q (.ref p) (upd H p (.lst (List.replicate k.toNat xs).flatten))
theorem len_rep (xs:List α)(k:Nat):(List.replicate k xs).flatten.length=k*xs.length:=by
 induction k with
 |zero=>simp
 |succ k ih=>rw[fA,rB,zy,ih,Nat.succ_mul,Nat.add_comm]
def Hw:zB X (binaryOp .Mult) Ak:=by
 intro xf s σ H x y v u Q I rx ry h;obtain⟨l,k,xs,rfl,rfl,hH,h1,h2,hz,q⟩:=h;cases rx;obtain⟨t,rfl⟩:=ry;obtain⟨z,xj,n,r,hl,e⟩:=I.lstM hH;have hlen:xj.toArray.size*k.toNat<=sizeLine:=by rw[wm,<-hl];exact hz
 have hcap:¬xj.toArray.size*k.toNat>(2^63-1)/8:=by
  have:(sizeLine:Nat)<=(2^63-1)/8:=by decide
  lia
 have hfit:¬(!Builtin.List.listFitsIndex k)=true:=by rw[fitsIndex_both h1 h2];exact wR
 have hlong:¬Builtin.List.listTooLong (xj.toArray.size*k.toNat)=true:=by rw[Oo hlen];exact wR
 have hnew:List.foldl (λx1 x2=>x1++x2) #[] (List.replicate (if xj.toArray.isEmpty=true then 0 else k.toNat) xj.toArray)=(List.replicate k.toNat xj).flatten.toArray:=by
  have f0:∀m:Nat,List.foldl (λx1 x2=>x1++x2) #[] (List.replicate m xj.toArray)=(List.replicate m xj).flatten.toArray:=λm=>by have:=foldl_rep xj m [];rw[qM] at this;exact this
  rw[f0];cases xj with
  |nil=>simp
  |cons a r'=>rw[xH (by simp)]
 refine wpAny_binaryOp_repeat_ref (T := "list") (U := "int") (by decide) ⟨_,e,rfl⟩ (λs'=>ou s' k t) noFill_list_mul F.fills_int_mul B6 repeat_list F.slot_int_index.lookup
  (fG B6 (ou s k t) F.entry_int_rmul (F.args_int_rmul_2 _ _) (int___rmul___int_list k t l xj.toArray n) ⟨e,rfl,⟨_,e,rfl⟩,fG F.slot_list_mul ⟨_,e,rfl⟩ F.entry_list_mul (F.args_list_mul_2 _ _) (AutoListH.list___mul___list_int_3 l xj.toArray n k t hfit hcap hlong) ⟨e,?_⟩⟩)
 rw[hnew];exact⟨.ref _,_,I.lnew (t':=s.toks) (r.rep k.toNat) (by rw[len_rep,Nat.mul_comm];exact hz),rfl,q _ I.fresh⟩
end
section
variable {prog:Program} {w:World} {A:Around} {E:Value->Shared->Prop} {s:Shared}
end
section
variable {X:Cx}
end
end L2
namespace Att
open PySem PySem.W PySem.Calls PyProof.Rows
theorem Ng:∀(ns:List Int) (vs:List Value),WellAll P h vs (ns.map WData.int)->IntsAre vs ns:=by
 intro ns
 induction ns with
 |nil=>intro vs w;rw[fu] at w;cases w;exact .nil
 |cons n ns ih=>
  intro vs w;rw[vS] at w;cases w with
  |cons a b=>cases a;exact .cons _ _ (ih _ b)
theorem Ti {l:OpenLaw}{n:Nat}(hn:l.most=some n){P:Params}{h:Heap}{args:List WData}{vals:List Value}
  (hpre:l.row.toRowW.claim.pre args=true) (hwl:WellAll P h vals args) :
  ∃a vs ns,vals=[Value.ref a]/\args=[WData.list (ns.map WData.int)]/\h.get? a=some {cls:=.type "list", data:=.seq vs.toArray}/\IntsAre vs ns/\ns.length<=n:=by
 have hsh:WShape.hasAll [] args [.list .int]=true:=(pre_splitW hpre).1;have hc:l.pre.holds [] {args:=args}=true:=(pre_splitW hpre).2;obtain⟨d,r,rfl,h1,h2⟩:=hasAllW_cons hsh;obtain rfl:=hasAllW_nil h2;obtain⟨xs,rfl,h3⟩:=hasW_list h1;obtain⟨ns,rfl⟩:=items_int h3;have hlen:ns.length<=n:=by
  unfold OpenLaw.pre at hc;have h4:(WTm.not (.lt (.lit (.int (n:Int))) (.len (.arg 0)))).holds [] {args:=[.list (ns.map .int)]}=true:=by have h4:=(holds_andW hc).1;rw[hn] at h4;exact h4
  have h5:=condW_of h4 (w_not (w_lt w_lit (w_len_list (w_arg rfl))));rw[xO] at h5;refine Nat.le_of_not_lt λq=>?_;have q':(n:Int)<((ns.length:Nat):Int):=by lia
  first
   | (rw[wI q'] at h5;exact absurd h5 (by decide))
   | (simp at h5;lia)
 cases hwl with
 |cons w1 w2=>
  cases w2;cases w1 with
  |list ho hall=>exact⟨_,_,ns,rfl,rfl,ho,Ng ns _ hall,hlen⟩
def RL (l:OpenLaw)(args:List WData):l.row.toRowW.claim.post args (.bool true) args=true:=
 postW_of (r:=l.row.toRowW) (X:=(true==true))
  (show WShape.has [] (.bool true) .bool=true by first|rfl|decide|simp[WShape.has,WShape.arms,WShape.armsAll])
  (show(WTm.eq .res (.lit (.bool true))).value [] {args:=args,res:=some (.bool true),after:=args}=some (.bool (true==true)) from w_eq_bool (w_res rfl) w_lit) rfl
def Le {l:OpenLaw}{n:Nat}{q:Program}{loose:List Str}{XP:(Str->Option Value)->Heap->Prop}{YP:World->Heap->Prop}{d:DefRec}
  (hn:l.most=some n) (hdf:d.params.defaults=[])
  (call:∀(w:World) (s₀ s₁:Shared) (mg mb:Str->Option Value) (fa:Addr) (o:Obj) (pm cd doc:Value) (a:Addr) (vs:List Value) (ns:List Int),Ground q loose [] XP w s₀ mg mb s₁.heap->YP w s₁.heap->s₁.heap.get? fa=some o->o.data=.func (docDef d.name d.params d.body d.scope pm cd doc)->s₁.heap.CodeRec cd d.name->mg d.name=some (.ref fa)->s₁.heap.get? a=some {cls:=.type "list", data:=.seq vs.toArray}->IntsAre vs ns->ns.length<=n->s₁.gens = #[]->codeAny (model l.prog w) callerA (.call (.ref fa) ⟨[.ref a],[]⟩) (λr s'=>r=.ok (.ret (.bool true))/\OldK s₁.heap s'.heap/\s'.os=s₁.os/\AllBare s'.gens) s₁) :
  WalkO q loose XP YP l.row.toRowW d [] (λf vs=>PySem.call f vs):=by
 intro w s₀ s₁ mg mb G Y fa o pm cd doc dV kV ho hd hcd hD hmg hg args vals as hpre hlay hrd hwl hlo;obtain rfl:dV=.none:=Dflts.none hD hdf;obtain rfl:kV=.none:=Dflts.noKw hD;obtain⟨a,vs,ns,rfl,rfl,hobj,hints,hlen⟩:=Ti hn hpre hwl;refine enter_call (codeAny_mono (call w s₀ s₁ mg mb fa o pm cd doc a vs ns G Y ho (fd_plain hd) hcd hmg hobj hints hlen hg) λr s' hq=>?_);obtain⟨rfl,h2,h3,h4⟩:=hq;exact⟨.inl ⟨.bool true,.bool true,[],rfl,λ_=>rfl,.bool true,RL l _,λ_=>⟨List.Pairwise.nil,λ_ hm=>(nomatch hm)⟩⟩,h2,h3,h4⟩
section
variable {prog:Program} {w:World} {A:Around} {E:Value->Shared->Prop} {s:Shared} {K:Frag}
def ledger (h:Heap)(L d:Addr):List (Addr×Obj):=(List.range h.objs.size).filterMap λa=>if a=L\/a=d then none else(h.get? a).map λo=>(a,o)
end
end Att
namespace L2
open PySem PySem.Spec PyProof.Rows
theorem J5:∀ {vs:List Value} {ns:List Int},IntsAre vs ns->yk (ns.map V.int) vs
 |_,_,.nil=>.nil
 |_,_,.cons n t h=>.cons ⟨t,rfl⟩ (J5 h)
def oC (H:Hp):Prop:=∀b,H b=none\/∃o xs,H b=some (.frz o (.lst xs))
theorem NH {P:Program}{w:World}{K:xt}{mg mb:Str->Option Value}{CX:CXT}{k:Nat}{fa a:Addr}{fd:FuncData}{x:Str}{sp:Sp}{s₁:Shared}{vs:List Value}{ns:List Int}
  (KX:K.In s₁.heap) (hns:s₁.heap.Ns mainGlobals mg) (hb:s₁.heap.Ns builtinsNs mb) (hbb:∀x:Str,x ≠ "__name__" -> mb x=bootBuiltins x) (hlim:s₁.heap.NoLimit) (hg:s₁.gens = #[])
  (ha:s₁.heap.get? a=some {cls:=.type "list", data:=.seq vs.toArray}) (hi:IntsAre vs ns) (hl:ns.length<=sizeLine) (hr:wW k callerA)
  (F:∀base:Heap,K.In base->base.Ns mainGlobals mg->vm P w K mg base CX k fa fd [x] sp) (hbind:∀(s:Shared) (u:Value),BindsTo s fd ⟨[u],[]⟩ [(x,u)])
  (hsp:∀H:Hp,oC H->yt K H a (ns.map V.int)->sp [.ref a] H (λv _=>v=.bl true) λ_ _ _=>False)
  (hCX:∀H e s',CX [] H s₁ (λ_ _ _=>False) e s'->False) :
  codeAny (model P w) callerA (.call (.ref fa) ⟨[.ref a],[]⟩) (λr s'=>r=.ok (.ret (.bool true))/\OldK s₁.heap s'.heap/\s'.os=s₁.os/\AllBare s'.gens) s₁:=by
 have rv:=J5 hi;have lenV:=hi.length;have core:∀H:Hp,oC H->yt K H a (ns.map V.int)->wa P w H s₁.heap->(∀b,H b≠none->b=a)->(H a≠none->K.lookup a=none)->
   codeAny (model P w) callerA (.call (.ref fa) ⟨[.ref a],[]⟩) (λr s'=>r=.ok (.ret (.bool true))/\OldK s₁.heap s'.heap/\s'.os=s₁.os/\AllBare s'.gens) s₁:=by
  intro H hO hS hok hA hK;have base_of:∀ {b:Addr} {o:Obj},s₁.heap.get? b=some o->H b=none->(jW s₁.heap H).get? b=some o:=λe n=>M6 e n;have noA:∀ {b:Addr} {o:Obj} {es:Array DictEntry} {ep:Nat},s₁.heap.get? b=some o->o.data=.dict es ep->H b=none:=λ {b o es ep} e d=>by
   cases q:H b with
   |none=>rfl
   |some u=>have e':b=a:=hA b (by rw[q];simp);subst e';rw[ha] at e;cases e;have d':Data.seq vs.toArray _=Data.dict es ep:=d;cases d'
  have nsK:∀ {b:Addr} {m:Str->Option Value},s₁.heap.Ns b m->(jW s₁.heap H).Ns b m:=λ {b m} ⟨o,es,ep,e,d,r⟩=>⟨o,es,ep,base_of e (noA e d),d,r⟩
  have hKb:K.In (jW s₁.heap H):=λb o e=>base_of (KX b o e) (by
   cases q:H b with
   |none=>rfl
   |some u=>have e':b=a:=hA b (by rw[q];simp);subst e';rw[hK (by rw[q];simp)] at e;cases e)
  have hM:Mod K mg (jW s₁.heap H):=⟨hKb,nsK hns,⟨mb,nsK hb,hbb⟩,let ⟨mc,h1,h2⟩:=hlim;⟨mc,nsK h1,h2⟩⟩
  have e0:ng P w K mg (jW s₁.heap H) callerA [] s₁ H:=⟨rfl,hM,λb o e=>Oq e,Nat.le_of_eq (M7 _ _),trivial,λb hb=>absurd (show b∈([]:List Addr) from hb) (by simp),hok,.of_eq hg⟩
  refine codeAny_mono ((F _ hKb (nsK hns)).run callerA [] s₁ H ⟨[.ref a],[]⟩ [.ref a] [.ref a] _ _ hr e0 (hbind s₁ (.ref a)) (.cons rfl .nil) (hsp H hO hS)) λr s' h=>?_;cases r with
  |error e=>exact(hCX H e s' h).elim
  |ok fl=>
   cases fl with
   |next=>exact False.elim h
   |brk=>exact False.elim h
   |cont=>exact False.elim h
   |ret u=>
    obtain⟨v,H',os,bare,un,hok',r',q⟩:=h;have q':v=.bl true:=q;subst q';obtain rfl:u=Value.bool true:=r';refine⟨rfl,OldK.of_keep λb o e=>?_,os,bare⟩;cases q:H b with
    |none=>exact un.keep b o e q (by intro z;exact absurd (show b∈([]:List Addr) from z) (by simp)) (by simp)
    |some u=>
     rcases hO b with z|⟨ob,xs,z⟩
     .rw[q] at z;cases z
     .have z2:=un.frzs b ob _ z;obtain⟨e1,_⟩:=hok b _ z;obtain⟨e2,_⟩:=hok' b _ z2;rw[e] at e1;cases e1;exact e2
 cases hk:K.lookup a with
 |some o=>have e:=KX a o hk;rw[ha] at e;cases e;refine core (λ_=>none) (λ_=>.inl rfl) (.inr ⟨_,vs.toArray,_,hk,rfl,rfl,rfl,by rw[wm,lenV];exact hl,by simpa using rv⟩) (λb u z=>by have z':(none:Option HO)=some u:=z;cases z') (λb z=>absurd rfl z) λz=>absurd rfl z
 |none=>
  refine core (λb=>if b=a then some (.frz {cls:=.type "list", data:=.seq vs.toArray} (.lst (ns.map V.int))) else none) (λb=>?_) (.inl (.inr ⟨{cls:=.type "list", data:=.seq vs.toArray},xK rfl⟩)) (λb u z=>?_) (λb z=>?_) λ_=>hk
  .by_cases hb:b=a
   .exact .inr ⟨_,_,xK hb⟩
   .exact .inl (xH hb)
  .by_cases hb:b=a
   .have z':=(xK hb).symm.trans z;cases z';subst hb;exact⟨ha,by rw[xO];exact hl,vs,_,rv,ha⟩
   .have z':=(xH hb).symm.trans z;cases z'
  .by_cases hb:b=a
   .exact hb
   .exact absurd (xH hb) z
abbrev KOf {K:xt}{h:Heap}(_:K.In h):xt:=K
def Uj {l:PySem.W.OpenLaw}{n k:Nat}{q:Program}{loose:List Str}{XP:(Str->Option Value)->Heap->Prop}{YP:World->Heap->Prop}{d:DefRec}{K:Params->xt}{CX:World->CXT}{sp:World->Sp}{x:Str}
  (hn:l.most=some n) (hn2:n<=sizeLine) (hdf:d.params.defaults=[]) (hr:wW k callerA)
  (hY:∀(w:World) (h:Heap),YP w h->(K w.params).In h)
  (F:∀(w:World) (mg:Str->Option Value) (fa:Addr) (h:Heap),(K w.params).In h->h.Ns mainGlobals mg->mg d.name=some (.ref fa)->∃fd:FuncData,(∀(s:Shared) (u:Value),BindsTo s fd ⟨[u],[]⟩ [(x,u)])/\∀base:Heap,(K w.params).In base->base.Ns mainGlobals mg->vm l.prog w (K w.params) mg base (CX w) k fa fd [x] (sp w))
  (hsp:∀(w:World) (H:Hp) (a:Addr) (ns:List Int),ns.length<=n->oC H->yt (K w.params) H a (ns.map V.int)->sp w [.ref a] H (λv _=>v=.bl true) λ_ _ _=>False)
  (hCX:∀(w:World) (H:Hp) (s:Shared) (e:Value) (s':Shared),CX w [] H s (λ_ _ _=>False) e s'->False) :
  PySem.W.WalkO q loose XP YP l.row.toRowW d [] (λf vs=>PySem.call f vs):=by
 refine Att.Le hn hdf λw s₀ s₁ mg mb fa o pm cd doc a vs ns G Y ho hd hcd hmg hobj hints hlen hg=>?_;have KX:=hY w _ Y;obtain⟨fd,hb,hF⟩:=F w mg fa _ KX G.T.g hmg;exact NH KX G.T.g G.T.b G.T.builtins G.T.nolimit hg hobj hints (wV hlen hn2) hr hF hb (λH hO hS=>hsp w H a ns hlen hO hS) λH e s'=>hCX w H s₁ e s'
def qZ (s:Stmt):Arguments:=match s with
 |.FunctionDef _ a _ _ _ _ _ _ _ _=>a
 |_=>{posonlyargs:=[],args:=[],vararg:=none,kwonlyargs:=[],kw_defaults:=[],kwarg:=none,defaults:=[]}
def vo (s:Stmt):List Stmt:=match s with
 |.FunctionDef _ _ b _ _ _ _ _ _ _=>b
 |_=>[]
def xI (s:Stmt):Scope:=match s with
 |.FunctionDef _ _ _ _ _ _ sc _ _ _=>sc
 |_=>{kind:=.function,names:=[],isGenerator:=false,isCoroutine:=false}
abbrev CX0:CXT:=λ_ _ _ _ _ _=>False
abbrev E0:XK:=λ_ _ _=>False
def Ry:oD CX0 X E0:=λ_ _ _ _ _ _ _ h=>h.elim
structure Fun (K:xt)(x qual:Str)(st:Stmt)(f:Addr)(fd:FuncData):Prop where
 ex:∃(oc:Value) (od:Option Addr) (kV doc pm:Value) (an:Option Addr) (cdv ct:Value) (osl:Array (Option Value)),
  fd=PySem.W.fnOf x qual (qZ st) (vo st) (xI st) .none kV doc pm an cdv ct/\K.lookup f=some ⟨oc,od,.func fd,osl⟩/\PySem.W.codeIn K cdv qual=true
 kp:PySem.W.keepIn K (.ref f)=true
section
variable {P:Program} {w:World} {K:xt} {mg:Str->Option Value} {base:Heap}
def Fun.ok {x qual:Str}{st:Stmt}{f:Addr}{fd:FuncData}{N ps:List Str}{k:Nat}{sp:Sp}(F:Fun K x qual st f fd)(S:xX N ps (xI st))(len:∀vs H Q E,sp vs H Q E->vs.length=ps.length)
  (hbody:∀(cdv:Value) (A:Around) (outer:List Env) (s:Shared) (H:Hp) (vs:List V) (Q:VK) (E:XK),wW k (A.deeper (envOfC qual (xI st) s.heap.objs.size f cdv))->sp vs H Q E->∃t,PSs (kQ CX0 P w K mg base N qual (xI st) f cdv A outer s H E).nox (vo st) t/\t {nx:=λ_ H'=>Q .non H',rt:=Q} (start N vs) H):vm P w K mg base CX0 (k+1) f fd ps sp:=by
 obtain⟨oc,od,kV,doc,pm,an,cdv,ct,osl,rfl,lk,hcd⟩:=F.ex;refine ML lk hcd S len λA outer s H vs Q E hr hsp=>?_;obtain⟨t,h,q⟩:=hbody cdv A outer s H vs Q E hr hsp;exact⟨t,h.nox,q⟩
def Fun.binds {x qual:Str}{st:Stmt}{f:Addr}{fd:FuncData}{ps:List Str}(F:Fun K x qual st f fd)
  (h:∀(kV doc pm:Value) (an:Option Addr) (cdv ct:Value) (us:List Value),us.length=ps.length->bindArgs (PySem.W.fnOf x qual (qZ st) (vo st) (xI st) .none kV doc pm an cdv ct) ⟨us,[]⟩=pure (ps.zip us)):Binds K fd ps []:=by
 obtain⟨oc,od,kV,doc,pm,an,cdv,ct,osl,rfl,lk,hcd⟩:=F.ex;exact .all (h kV doc pm an cdv ct)
def FW {x qual:Str}{st:Stmt}{f:Addr}{oc:Value}{od an:Option Addr}{osl:Array (Option Value)}{kV doc pm cdv ct:Value}(l:K.lookup f=some ⟨oc,od,.func (PySem.W.fnOf x qual (qZ st) (vo st) (xI st) .none kV doc pm an cdv ct),osl⟩)
  (c:PySem.W.codeIn K cdv qual=true) (k:PySem.W.keepIn K (.ref f)=true):Fun K x qual st f (PySem.W.fnOf x qual (qZ st) (vo st) (xI st) .none kV doc pm an cdv ct):=⟨⟨oc,od,kV,doc,pm,an,cdv,ct,osl,rfl,l,c⟩,k⟩
end
def TF (h:n<=1000):n<sizeLine:=je h (by decide)
section
variable {X:Cx}
def pv (i:Nat)(hN:X.N[i]?=some x:=by rfl)(hv:Vis X.env.scope x:=by first|exact Or.inl rfl|exact Or.inr (Or.inl rfl)|exact Or.inr (Or.inr rfl))(hd:(x==("__debug__" : Str))=false:=by decide)
  (hcd:(x==("__classdict__" : Str))=false:=by decide):PE X (.Name x pos) (uk i):=RB hN hv hd hcd
end
def qd {A B:Prop}(h:B):if false=true then A else B:=by rw[xH wR];exact h
def kR {A B:Prop}(h:A):if true=true then A else B:=by rw[xK rfl];exact h
def Gv {c A B:Prop}[Decidable c](h1:c->A)(h2:¬c->B):if c then A else B:=by
 by_cases h:c
 .rw[xK h];exact h1 h
 .rw[xH h];exact h2 h
def w_ (env:Env):List (Str×NameKind)->List (Str×Addr)->List (Str×Addr)
 |[],cs=>cs
 | (n,k)::r,cs=>if k==NameKind.free then(match env.cells.lookup n with|some a=>w_ env r ((n,a)::cs)|none=>w_ env r cs) else w_ env r cs
theorem lh:∀(l:List (Str×NameKind)) (cs:List (Str×Addr)),(∀y∈l,y.2=NameKind.free->∃c,env.cells.lookup y.1=some c)->
  (forIn l cs (λ(x:Str×NameKind) (r:List (Str×Addr))=>(if (x.2==NameKind.free)=true then(do let a <-cellOf env x.1;pure (ForInStep.yield ((x.1,a)::r))) else pure (ForInStep.yield r):Sem (ForInStep (List (Str×Addr))))))=pure (w_ env l cs)
 |[],cs,_=>rfl
 | (n,k)::r,cs,h=>by
  rw[List.forIn_cons];have hr:∀y∈r,y.2=NameKind.free->∃c,env.cells.lookup y.1=some c:=λy hy=>h y (yJ _ hy);by_cases hk:k=NameKind.free
  .subst hk;obtain⟨c,hc⟩:=h (n,.free) xT rfl;have hc':env.cells.lookup n=some c:=hc;have e1:cellOf env n=pure c:=by unfold cellOf;rw[hc']
   have e2:w_ env ((n,.free)::r) cs=w_ env r ((n,c)::cs):=by show(if (NameKind.free==NameKind.free)=true then _ else _)=_;rw[xK (show(NameKind.free==NameKind.free)=true from rfl),hc']
   rw[e2,xK (show((NameKind.free==NameKind.free)=true) from rfl),e1,pure_bind,pure_bind];exact lh r _ hr
  .have hb:(k==NameKind.free)=false:=by simpa using hk
   have e2:w_ env ((n,k)::r) cs=w_ env r cs:=by show(if (k==NameKind.free)=true then _ else _)=_;rw[hb];rfl
   rw[e2,xH (by rw[hb];exact wR),pure_bind];exact lh r _ hr
def lj (h:∀y∈sc.names,y.2=NameKind.free->∃c,env.cells.lookup y.1=some c):closureFor sc env=pure (w_ env sc.names []):=by
 have q:=lh (env:=env) sc.names [] h;unfold closureFor;show(do let r <-forIn sc.names [] (λ(x:Str×NameKind) (r:List (Str×Addr))=>_);pure r)=_;rw[show(forIn sc.names ([]:List (Str×Addr)) (λ(x:Str×NameKind) (r:List (Str×Addr))=>match x with
   | (name,kind)=>if (kind==NameKind.free)=true then(do let a <-cellOf env name;pure (ForInStep.yield ((name,a)::r))) else pure (ForInStep.yield r)):Sem (List (Str×Addr)))=pure (w_ env sc.names []) from q]
 rfl
theorem jP:∀(l:List (Str×NameKind)) (cs:List (Str×Addr)),(w_ env l cs).lookup x=some c->(∀c,cs.lookup x=some c->env.cells.lookup x=some c)->env.cells.lookup x=some c
 |[],cs,h,hc=>hc c h
 | (n,k)::r,cs,h,hc=>by
  unfold w_ at h;split at h
  .split at h
   .rename_i a ha;refine jP r _ h λc' h'=>?_;rw[vx] at h';by_cases e:x==n
    .rw[e] at h';have:x=n:=by simpa using e
     rw[this,ha];exact h'
    .have e':(x==n)=false:=by simpa using e
     rw[e'] at h';exact hc c' h'
   .exact jP r _ h hc
  .exact jP r _ h hc
theorem nO (he:env.cells.lookup x=some c):∀(l:List (Str×NameKind)) (cs:List (Str×Addr)),cs.lookup x=some c->(w_ env l cs).lookup x=some c
 |[],cs,h=>h
 | (n,k)::r,cs,h=>by
  unfold w_;split
  .split
   .rename_i a ha;refine nO he r _ ?_;rw[vx];by_cases e:x==n
    .rw[e];have e':x=n:=by simpa using e
     rw[e',ha] at he;exact he
    .have e':(x==n)=false:=by simpa using e
     rw[e'];exact h
   .exact nO he r _ h
  .exact nO he r _ h
theorem sQ (he:env.cells.lookup x=some c):∀(l:List (Str×NameKind)) (cs:List (Str×Addr)),(x,NameKind.free)∈l->(w_ env l cs).lookup x=some c
 | (n,k)::r,cs,h=>by
  rcases xU.mp h with e|e
  .have e1:n=x:=zj (·.1) e.symm;have e2:k=.free:=zj (·.2) e.symm;subst e1 e2;unfold w_;rw[xK (show(NameKind.free==NameKind.free)=true from rfl),he];exact nO he r _ (by rw[vx];simp)
  .unfold w_;split
   .split
    .exact sQ he r _ e
    .exact sQ he r _ e
   .exact sQ he r _ e
def wx (X:Cx)(sc:Scope)(N:List Str)(C:Addr)(s:Shared)(H:Hp)(ex:List Addr):Cx:={X with N:=N,s₀:=s,H₀:=H,env:=compEnvC sc (w_ X.env sc.names []) C X.env,outer:=X.stack,stack:=X.stack,ex:=ex,fn:=λ_=>false,pn:=[],xe:=λ_ _=>False}
def EH (XN:List Str)(xs sc:Scope)(N:List Str)(xE:List (Option Nat)):Bool:=
 decide (sc.kind=.function)&&sc.names.all (λy=>decide (y.2≠.cell))&&sc.names.all (λy=>decide (y.2≠.local)||decide (sc.names.lookup y.1=some .local))&&decide N.Nodup&&decide (xE.length=N.length) &&
 (xE.zip N).all (λp=>match p.1 with|none=>true|some j=>decide (XN[j]?=some p.2)&&decide (sc.names.lookup p.2=some .free)) &&
 sc.names.all (λy=>decide (y.2≠.free)||decide (xs.names.lookup y.1=some .cell)||decide (xs.names.lookup y.1=some .free))&&decide (xs.kind=.function)
structure kM (X:Cx)(sc:Scope)(N:List Str)(xE:List (Option Nat)):Prop where
 kind:sc.kind=.function
 nocell:∀y∈sc.names,y.2≠.cell
 loc:∀y∈sc.names,y.2=.local->sc.names.lookup y.1=some .local
 nd:N.Nodup
 len:xE.length=N.length
 out:∀(i j:Nat) (x:Str),xE[i]?=some (some j)->N[i]?=some x->X.N[j]?=some x/\sc.names.lookup x=some .free
 fr:∀y∈sc.names,y.2=.free->X.env.scope.names.lookup y.1=some .cell\/X.env.scope.names.lookup y.1=some .free
 okind:X.env.scope.kind=.function
theorem zip_get:∀ {l:List α} {k:List β} {i:Nat} {a:α} {b:β},l[i]?=some a->k[i]?=some b->(a,b)∈l.zip k
 |[],_,_,_,_,h,_=>by simp at h
 |_::_,[],_,_,_,_,h=>by simp at h
 |x::l,y::k,0,a,b,h1,h2=>by simp at h1 h2;subst h1;subst h2;simp
 |x::l,y::k,i+1,a,b,h1,h2=>by have:=zip_get (l:=l) (k:=k) (i:=i) (by simpa using h1) (by simpa using h2);rw[sD];exact yJ _ this
def wJ (h:EH XN xs sc N xE=true)(h1:X.N=XN)(h2:X.env.scope=xs):kM X sc N xE:=by
 subst h1 h2;unfold EH at h;simp only[k_,jJ,qp,Bool.or_eq_true] at h;obtain⟨⟨⟨⟨⟨⟨⟨k,c⟩,l⟩,nd⟩,len⟩,out⟩,fr⟩,ok⟩:=h;refine⟨k,c,λy hy e=>(l y hy).resolve_left (λz=>z e),nd,len,λi j x e1 e2=>?_,λy hy e=>?_,ok⟩
 .have:=out _ (zip_get e1 e2);simpa using this
 .rcases fr y hy with (z|z)|z
  .exact absurd e z
  .exact .inl z
  .exact .inr z
def uN (xE:List (Option Nat))(σ:St):St:=xE.map λo=>match o with|some j=>(σ[j]?).getD none|none=>none
theorem Am {sc:Scope}{env:Env}:∀ {l:List (Str×NameKind)} {x:Str} {k:NameKind},
  (l.map λ(n,k)=>if (k==NameKind.free&&env.scope.kind == .function&&env.kindOf n==some .cell) then(n,NameKind.cell) else(n,k)).lookup x=some k->((∀y∈l,y.2≠NameKind.cell)->k≠.local->(x,NameKind.free)∈l\/l.lookup x=some k/\k≠.cell)
 |[],x,k,h=>by simp at h
 | (n,k')::r,x,k,h=>by
  intro nc nl;have ih:=@Am sc env r x k;have h:List.lookup x ((if (k' == NameKind.free&&env.scope.kind == .function&&env.kindOf n==some .cell)=true then(n,NameKind.cell) else(n,k'))::(r.map _))=some k:=h;by_cases hx:x=n
  .subst hx;by_cases hc:(k' == NameKind.free&&env.scope.kind == .function&&env.kindOf x==some .cell)=true
   .left;have:k'=.free:=by simp only[k_] at hc;simpa using hc.1.1
    subst this;exact xT
   .rw[xH hc,vx] at h;simp at h;subst h;right;exact⟨by rw[vx];simp,nc (x,k') xT⟩
  .have e:(x==n)=false:=by simpa using hx
   have h':List.lookup x (r.map λ(n,k)=>if (k==NameKind.free&&env.scope.kind == .function&&env.kindOf n==some .cell) then(n,NameKind.cell) else(n,k))=some k:=by
    split at h
    .rw[vx,e] at h;exact h
    .rw[vx,e] at h;exact h
   rcases ih h' (λy hy=>nc y (yJ _ hy)) nl with z|⟨z,w⟩
   .exact .inl (yJ _ z)
   .exact .inr ⟨by rw[vx,e];exact z,w⟩
section
variable {X:Cx} {sc:Scope} {N:List Str} {xE:List (Option Nat)} {xf:List (Addr×Obj)} {σ:St} {H:Hp} {s:Shared}
theorem kM.cells (k:kM X sc N xE)(ok:X.Ok):∀y∈sc.names,y.2=NameKind.free->∃c,X.env.cells.lookup y.1=some c:=λy hy e=>ok.has y.1 (k.fr y hy e)
def kM.vis (k:kM X sc N xE)(h:(relabel sc X.env).names.lookup x=some .cell\/(relabel sc X.env).names.lookup x=some .free):(x,NameKind.free)∈sc.names:=by
 rcases h with h|h
 .rcases Am (sc:=sc) (env:=X.env) (l:=sc.names) h k.nocell (by decide) with z|⟨_,z⟩
  .exact z
  .exact absurd rfl z
 .rcases Am (sc:=sc) (env:=X.env) (l:=sc.names) h k.nocell (by decide) with z|⟨z,_⟩
  .exact z
  .exact qP z
def EK (k:kM X sc N xE)(I:Inv X xf σ H s)(hf:∀b∈fp,vn X xf H b)(hob:∀b∈fp,∃o,s.heap.get? b=some o) :
  (wx X sc N (s.heap.objs.size+1) s H fp).Ok where
 mod:=I.ok.mod
 kind:=k.kind
 glob:=I.ok.glob
 blt:=I.ok.blt
 above:=sE _
 inj:=λx y c h1 h2=>I.ok.inj x y c (jP _ _ h1 λ_ z=>by simp at z) (jP _ _ h2 λ_ z=>by simp at z)
 has:=λx h=>by have m:=k.vis h;obtain⟨c,e⟩:=k.cells I.ok _ m rfl;exact⟨c,sQ e _ _ m⟩
 cab:=λx c h=>by cases h
 hd:=I.ok.hd
 frames:=I.ok.frames
 stk:=.inl rfl
 exf:=λb hb=>⟨λz=>by obtain⟨o,e⟩:=hob b hb;have l:=yH e;have z':b=s.heap.objs.size+1:=z;rw[z'] at l;exact qN _ (Nat.lt_of_succ_lt l),λx c h=>(hf b hb).2.2.2.2.1 x c (jP _ _ h λ_ z=>by simp at z)⟩
 bs:=I.bs
 bsz:=wV I.ok.bsz I.sz
 noex:=λb o e hb=>by
  rcases(hf b hb).2.2.2.1 with z|z
  .exact I.ok.noex b o e z
  .exact absurd (uW (yH (I.ok.bs b o e).1) z) (qN _)
 exfs:=λb hb z=>by
  rcases xU.mp (I.stkSub b z) with e|e
  .exact(hf b hb).2.1 e
  .exact(hf b hb).2.2.1 e
 funs:=I.stack
 frf:=I.stkFree
theorem bH {i:Nat}{v:V}(h:(uN xE σ)[i]?=some (some v)):∃j,xE[i]?=some (some j)/\σ[j]?=some (some v):=by
 unfold uN at h;rw[vh] at h;cases e:xE[i]? with
 |none=>rw[e] at h;cases h
 |some o=>
  rw[e] at h;cases o with
  |none=>cases h
  |some j=>
   have h':(σ[j]?).getD none=some v:=by simpa using h
   refine⟨j,rfl,?_⟩;cases q:σ[j]? with
   |none=>rw[q] at h';cases h'
   |some o'=>rw[q] at h';exact zj some h'
def LS (k:kM X sc N xE)(I:Inv X xf σ H s){fp:List Addr}(hf:∀b∈fp,vn X xf H b)(hob:∀b∈fp,∃o,s.heap.get? b=some o){h1:Heap}{t':Nat}
  (kp:∀b o,s.heap.get? b=some o->h1.get? b=some o) (hn:h1.Ns (s.heap.objs.size+1) (λ_=>none)) (hD:h1.get? s.heap.objs.size=some {cls:=.type "list", data:=.seq #[] 0}) :
  Inv (wx X sc N (s.heap.objs.size+1) s H fp) [(s.heap.objs.size,{cls:=.type "list", data:=.seq #[] 0})] (uN xE σ) H {s with heap:=h1,toks:=t' } where
 ok:=EK k I hf hob
 os:=rfl
 bare:=I.bare
 base:=Un.kept kp
 loc:=⟨_,hn,λi x v e1 e2 e3=>by
  obtain⟨j,t1,t2⟩:=bH e2;obtain⟨o1,o2⟩:=k.out i j x t1 e1;have m:(x,NameKind.free)∈sc.names:=qP o2;have hk:=k.fr _ m rfl;obtain⟨mm,hn',hl⟩:=I.loc;obtain⟨u,r,l⟩:=hl j x v o1 t2 (hk.elim (λz=>.inr (.inl z)) λz=>.inr (.inr z));refine⟨u,r,.inr ⟨?_,?_⟩⟩
  .rcases e3 with z|z|z
   .exfalso;have:∀ {l:List (Str×NameKind)},l.lookup x=some .free->(l.map λ(n,k)=>if (k==NameKind.free&&X.env.scope.kind == .function&&X.env.kindOf n==some .cell) then(n,NameKind.cell) else(n,k)).lookup x≠some .local:=by
     intro l
     induction l with
     |nil=>intro h;simp at h
     |cons y r ih=>
      obtain⟨n,k'⟩:=y;intro h q;have q:List.lookup x ((if (k' == NameKind.free&&X.env.scope.kind == .function&&X.env.kindOf n==some .cell)=true then(n,NameKind.cell) else(n,k'))::(r.map _))=some .local:=q;by_cases hx:x=n
      .subst hx;rw[vx] at h;simp at h;subst h;split at q
       .rw[vx] at q;simp at q
       .rw[vx] at q;simp at q
      .have e:(x==n)=false:=by simpa using hx
       rw[vx,e] at h;refine ih h ?_;split at q
       .rw[vx,e] at q;exact q
       .rw[vx,e] at q;exact q
    exact this o2 z
   .exact .inl z
   .exact .inr z
  .rcases l with ⟨z,_⟩|⟨_,c,ec,hc⟩
   .exfalso;have z:X.env.scope.names.lookup x=some .local:=z;rcases hk with q|q<;>rw[z] at q<;>cases q
   .obtain⟨o,ho,hd⟩:=hc;exact⟨c,sQ ec _ _ m,o,kp c o ho,hd⟩⟩
 cell:=λx c h=>by obtain⟨v,o,ho,hd⟩:=I.cell x c (jP _ _ h λ_ z=>by simp at z);exact⟨v,o,kp c o ho,hd⟩
 free:=I.hok.fresh (sE _)
 freeC:=λx c h=>I.freeC x c (jP _ _ h λ_ z=>by simp at z)
 pin:=λp hp=>by
  have e:p=(s.heap.objs.size,{cls:=.type "list", data:=.seq #[] 0}):=by simpa [wx] using hp
  subst e;refine⟨hD,I.hok.fresh (yg _),zV (mU _),λz=>?_,λv=>by simp⟩;rcases xU.mp (I.stkSub _ z) with e|e
  .exact absurd (e▸I.lt) (qN _)
  .exact I.nofs (yg _) e
 hok:=I.hok.kept kp
 len:=by show(uN xE σ).length=N.length;unfold uN;rw[xO];exact k.len
end
theorem EI (I:Nat->Shared->Prop)
  (turn:∀n s,I n s->wpAny (model prog w) A (pyNext it) (λr s₁=>match r with
   |none=>R (.ok .next) s₁
   |some v=>wpAny (model prog w) A (letOwnedTupleGo target it v) (λ_ s₀=>wpAny (model prog w) A (assign target env v) (λ_ s₂=>wpAny (model prog w) A (forIn ifs true λc r=>if r=true then do let ok <-isTrue c env (eval c env);pure (ForInStep.yield ok) else pure (ForInStep.yield r)) (λok s₃=>
      if ok=true then wpAny (model prog w) A (eval elt env) (λx s₄=>wpAny (model prog w) A (call (.builtin "list.append") [acc,x]) (λ_ s₅=>∃m,m<n/\I m s₅) (notedBy (model prog w) A env λe s'=>R (.error e) s') s₄) (notedBy (model prog w) A env λe s'=>R (.error e) s') s₃
      else ∃m,m<n/\I m s₃) (notedBy (model prog w) A env λe s'=>R (.error e) s') s₂) (notedBy (model prog w) A env λe s'=>R (.error e) s') s₀) (notedBy (model prog w) A env λe s'=>R (.error e) s') s₁) (notedBy (model prog w) A env λe s'=>R (.error e) s') s)
  (n:Nat) (h:I n s) :
  codeAny (model prog w) A (.compLoop (.ListComp elt [⟨target,iter,ifs,0⟩] scope pos) 0 it acc env) R s:=by
 refine codeAny_loop rfl I (λn s hI=>?_) n h;show wpAny _ A ((compTurn (.ListComp elt [⟨target,iter,ifs,0⟩] scope pos) 0 it acc env).onRaise (λx=>do noteFrame x env;theTreesLotGoes x)) _ _ s;refine wpAny_noted ?_;rw[compTurn_list];refine xi (rJ (xi (uD (turn n s hI) (λr s₁ h₁=>?_) λ_ _ h'=>h')));cases r with
 |none=>exact xN h₁
 |some v=>
  refine xi (uD h₁ (λ_ s₀ h₀=>?_) λ_ _ h'=>h');refine xi (uD h₀ (λ_ s₂ h₂=>xi (uD h₂ (λok s₃ h₃=>?_) λ_ _ h'=>h')) λ_ _ h'=>h');cases ok with
  |false=>exact xN ⟨rfl,h₃⟩
  |true=>exact xi (xi (uD h₃ (λx s₄ h₄=>xi (uD h₄ (λ_ s₅ h₅=>xN (xN ⟨rfl,h₅⟩)) λ_ _ h'=>h')) λ_ _ h'=>h'))
def PIf (Y:Cx)(ifs:List Expr)(t:TT):Prop:=
 ∀(xf:List (Addr×Obj)) (s:Shared) (σ:St) (H:Hp) (Q:Bool->Hp->Prop),Inv Y xf σ H s->t σ H Q->
  wpAny (model Y.prog Y.w) Y.A (forIn ifs true λc r=>if r=true then do let ok <-isTrue c Y.env (eval c Y.env);pure (ForInStep.yield ok) else pure (ForInStep.yield r)) (TP Y xf σ Q) Y.xe s
def JI:TT:=λ_ H Q=>Q true H
def qj:PIf Y [] JI:=λxf s σ H Q I h=>wpAny_tests_nil ⟨H,I,h⟩
def qC (h:PT Y c t):PIf Y [c] t:=λxf s σ H Q I q=>wpAny_tests_one (@h xf s σ H Q I q)
def Agree (xE:List (Option Nat))(σ σ2:St):Prop:=∀i j:Nat,xE[i]?=some (some j)->σ2[i]?=σ[i]?
def GA (xE:List (Option Nat))(g:TG):Prop:=∀x σ H Q,g x σ H Q->g x σ H (λσ2 H2=>Q σ2 H2/\Agree xE σ σ2)
def GAs (xE:List (Option Nat))(t:TGs):Prop:=∀xs σ H Q,t xs σ H Q->t xs σ H (λσ2 H2=>Q σ2 H2/\Agree xE σ σ2)
def vp (h:xE[i]?=some none):GA xE (qx i):=λx σ H Q q=>⟨q,λk j e=>by rw[rC];rintro rfl;rw[h] at e;cases e⟩
def jV:GAs xE bE:=λxs σ H Q q=>⟨q.1,q.2,λ_ _ _=>rfl⟩
def jU {K:xt}{n:Nat}{t:TGs}{xE:List (Option Nat)}(h:GAs xE t):GA xE (tI K n t):=λx σ H Q q=>by obtain⟨a,xs,e,sq,l,r⟩:=q;exact⟨a,xs,e,sq,l,h _ _ _ _ r⟩
def uM (h:xE[i]?=some none)(hu:GAs xE u):GAs xE (bC (qx i) u):=λxs σ H Q q=>by
 obtain⟨v,r,e,q⟩:=q;refine⟨v,r,e,?_⟩;have q':u r (σ.set i (some v)) H Q:=q;show u r (σ.set i (some v)) H _;have:=hu _ _ _ _ q';have e2:(λσ2 H2=>Q σ2 H2/\Agree xE (σ.set i (some v)) σ2)=(λσ2 H2=>Q σ2 H2/\Agree xE σ σ2):=by
  funext σ2 H2;have:Agree xE (σ.set i (some v)) σ2↔Agree xE σ σ2:=by
   have key:∀(k j:Nat),xE[k]?=some (some j)->(σ.set i (some v))[k]?=σ[k]?:=λk j e=>by rw[rC];rintro rfl;rw[h] at e;cases e
   constructor
   .intro z k j e;rw[z k j e,key k j e]
   .intro z k j e;rw[z k j e,key k j e]
  exact propext (and_congr_right λ_=>this)
 rw[<-e2];exact this
def pL (wi:TI)(xE:List (Option Nat))(g:TG)(tc:TT)(te:TE):TE:=λσ H Q=>wi σ H λJ H1=>
 ∃W:Nat->Nat->List V->Hp->Prop,(∃m,W 0 m [] H1)/\∀i m ys H,W i m ys H->
  (J.stop i H/\∀p,H p=none->Q (.ref p) (upd H p (.lst ys)))\/
  (J.go i H/\ys.length<sizeLine/\∀x H',J.yld i H x H'->g x (uN xE σ) H' λσ2 H2=>tc σ2 H2 λb H3=>if b=true then te σ2 H3 λy H4=>∃m',m' < m/\W (i+1) m' (ys++[y]) H4 else ∃m',m' < m/\W (i+1) m' ys H3)
section
variable {X:Cx} {sc:Scope} {N:List Str} {xE:List (Option Nat)} {xf:List (Addr×Obj)} {σ:St} {H:Hp} {s:Shared}
def EL (k:kM X sc N xE)(I:Inv X xf σ H s)(hf:∀b∈fp,vn X xf H b)
  (J:Inv (wx X sc N (s.heap.objs.size+1) s H fp) [(s.heap.objs.size,{cls:=.type "list", data:=.seq xj.toArray n})] σ' H' s') (rv:yk ys xj) (hz:ys.length<=sizeLine) :
  Inv X xf σ (upd H' s.heap.objs.size (.lst ys)) s'/\H' s.heap.objs.size=none/\(upd H' s.heap.objs.size (.lst ys)) (s.heap.objs.size+1)=none:=by
 obtain⟨pD,nD,_,_,_⟩:=J.pin (s.heap.objs.size,{cls:=.type "list", data:=.seq xj.toArray n}) (by simp[wx]);have nC:H' (s.heap.objs.size+1)=none:=J.free;have B:Un (frs X.stack) fp H H' s.heap s'.heap:=J.base;have ltD:∀b o,s.heap.get? b=some o->b≠s.heap.objs.size:=λb o e=>zV (yH e);refine⟨I.call' (ch:=fp) J.os ⟨B.keep,B.slot,λb o e n hx=>?_,B.there,λb xs e=>?_,λb o u e=>?_,λb ps e=>?_⟩ (λb u e=>?_) J.bare (λb hb=>?_),nD,?_⟩
 .rw[yl (ltD b o e)];exact B.free b o e n hx
 .have q:=B.tups b xs e;rw[yl (zq q nD)];exact q
 .have q:=B.frzs b o u e;rw[yl (zq q nD)];exact q
 .obtain⟨more,q⟩:=B.tbls b ps e;exact⟨more,by rw[yl (zq q nD)];exact q⟩
 .by_cases hb:b=s.heap.objs.size
  .subst hb;rw[zA] at e;cases e;exact⟨hz,xj,n,rv,pD⟩
  .rw[yl hb] at e;exact(J.hok b u e).stay (λc v _ q=>q) (λc q=>by rw[yl (zq q nD)];exact q) (λc xs q=>by rw[yl (zq q nD)];exact q) λc o u q=>by rw[yl (zq q nD)];exact q
 .obtain⟨_,f1,_,f3,f4,f5⟩:=hf b hb;exact⟨f3,f1,f4,f5⟩
 .rw[yl (jf (mU _))];exact nC
def lp (I0:Inv X xf σ H s)(I:Inv X xf σ' H' s')(hC:H' (s.heap.objs.size+1)=none)(hs:Heap.SameBut (s.heap.objs.size+1) s'.heap h') :
  Inv X xf σ' H' {s' with heap:=h' }:=by
 have lt:∀b o,s.heap.get? b=some o->b≠s.heap.objs.size+1:=λb o e=>zV (fE (yH e));refine I.turned (t':=s'.toks) (it:=s.heap.objs.size+1) (λb o hb e=>(hs.2 b hb).trans e) hC ?_ (.inr (wV I0.sz (sE _))) (λx c e=>?_) (λp hp=>?_)
 .exact jf (fE I0.lt)
 .obtain⟨v,o,ho,_⟩:=I0.cell x c e;exact lt c o ho
 .exact lt _ _ (I0.pin p hp).1
def EJ (k:kM X sc N xE)(hc:X.calm=true)(I:Inv X xf σ H s)
  (T:Turn X.prog X.w X.K tg J fp it tn) (st0:tn 0 s.heap) (hf:∀b∈fp,vn X xf H b) (hga:GA xE g)
  (hg:∀C s H ex,PG (wx X sc N C s H ex) tg g) (ht:∀C s H ex,PIf (wx X sc N C s H ex) ifs tc) (he:∀C s H ex,PE (wx X sc N C s H ex) elt te)
  {W:Nat->Nat->List V->Hp->Prop} {Z:List V->Hp->Prop} (w0:∃m,W 0 m [] H) (turn:∀i m ys H,W i m ys H->(J.stop i H/\Z ys H)\/ (J.go i H/\ys.length<sizeLine/\∀x H',J.yld i H x H'->g x (uN xE σ) H' λσ2 H2=>tc σ2 H2 λb H3=>if b=true then te σ2 H3 λy H4=>∃m',m' < m/\W (i+1) m' (ys++[y]) H4 else ∃m',m' < m/\W (i+1) m' ys H3))
  {E:Value->Shared->Prop} {RR:Value->Addr->Result->Shared->Prop}
  (fin:∀ σ' H' s' ys xj n,Inv (wx X sc N (s.heap.objs.size+1) s H fp) [(s.heap.objs.size,{cls:=.type "list", data:=.seq xj.toArray n})] σ' H' s'->yk ys xj->ys.length<=sizeLine->Z ys H'->RR (.ref s.heap.objs.size) (s.heap.objs.size+1) (.ok .next) s') :
  wpAny (model X.prog X.w) X.A (newList []) (λacc s₃=>wpAny (model X.prog X.w) X.A (newFunctionEnv sc X.env.globals (w_ X.env sc.names []) [] X.env.qual none .none (some X.env)) (λcenv s₄=>codeAny (model X.prog X.w) X.A (.compStart (.ListComp elt [⟨tg,iter,ifs,0⟩] sc pos) 0 (.ref it) acc {cenv with scope:=relabel sc X.env}) (RR acc cenv.locals) s₄) E s₃) E s:=by
 have hob:∀b∈fp,∃o,s.heap.get? b=some o:=λb hb=>let ⟨o,e,_⟩:=T.obj _ _ st0 b hb;⟨o,e⟩
 refine vI (wpAny_newFunctionEnv k.nocell (by intro y hy;simp at hy) (λh₁ hns₁ hsb₁=>?_) k.kind);dsimp only at hns₁ hsb₁ ⊢;generalize hH2:s.heap.push {cls:=.type "list", dict:=none,data:=.seq ([]:List Value).toArray}=H2 at hns₁ hsb₁ ⊢;have hC:H2.objs.size=s.heap.objs.size+1:=by rw[<-hH2,ft]
 have old:∀b o,s.heap.get? b=some o->h₁.get? b=some o:=λb o e=>hsb₁.extBut b o (by rw[hC];exact zV (fE (yH e))) (yY _ (hH2▸yY _ e));have hacc:h₁.get? s.heap.objs.size=some {cls:=.type "list", data:=.seq #[] 0}:=hsb₁.extBut _ _ (by rw[hC];exact zV (mU _)) (yY _ (hH2▸wD _ rfl));rw[hC] at hns₁ ⊢;have I1:Inv (wx X sc N (s.heap.objs.size+1) s H fp) [(s.heap.objs.size,{cls:=.type "list", data:=.seq #[] 0})] (uN xE σ) H {s with heap:=h₁,toks:=s.toks+([]:List (Str×Value)).length}:=LS k I hf hob old hns₁ hacc
 have st1:tn 0 h₁:=T.keep _ _ _ st0 λb _ o e=>old b o e;have ltD:∀b∈fp,b≠s.heap.objs.size:=λb hb=>by obtain⟨o,e⟩:=hob b hb;exact zV (yH e)
 have ltC:∀b∈fp,b≠s.heap.objs.size+1:=λb hb=>by obtain⟨o,e⟩:=hob b hb;exact zV (fE (yH e))
 have stat:∀ {H':Hp} {xj:List Value} {n:Nat},(∀b∈fp,H' b=none)->∀b∈fp,vn (wx X sc N (s.heap.objs.size+1) s H fp) [(s.heap.objs.size,{cls:=.type "list", data:=.seq xj.toArray n})] H' b:=λ {H' xj n} hn b hb=>by
  have cx:=EK (N:=N) k I hf hob;refine⟨hn b hb,ltC b hb,cx.exfs b hb,.inl hb,(cx.exf b hb).2,λp hp=>?_⟩;have e:p=(s.heap.objs.size,{cls:=.type "list", data:=.seq xj.toArray n}):=by simpa [wx] using hp
  subst e;exact zK (ltD b hb)
 obtain⟨m0,w0⟩:=w0;have loop:codeAny (model X.prog X.w) X.A (.compLoop (.ListComp elt [⟨tg,iter,ifs,0⟩] sc pos) 0 (.ref it) (.ref s.heap.objs.size) (compEnvC sc (w_ X.env sc.names []) (s.heap.objs.size+1) X.env)) (RR (.ref s.heap.objs.size) (s.heap.objs.size+1)) {s with heap:=h₁,toks:=s.toks+([]:List (Str×Value)).length}:=by
  refine EI (λm s'=>∃i ys H' xj n,Inv (wx X sc N (s.heap.objs.size+1) s H fp) [(s.heap.objs.size,{cls:=.type "list", data:=.seq xj.toArray n})] (uN xE σ) H' s'/\yk ys xj/\ys.length<=sizeLine/\tn i s'.heap/\(∀b∈fp,H' b=none)/\W i m ys H') ?_ m0
   ⟨0,[],H,[],0,I1,.nil,gD _,st1,λb hb=>(hf b hb).1,w0⟩
  rintro m s3 ⟨i,ys,H3,xj,n,I3,rv,hz,st3,fr3,w3⟩;rcases turn i m ys H3 w3 with ⟨stop,z⟩|⟨go,hlt,step⟩
  .refine uD (T.done (wx X sc N (s.heap.objs.size+1) s H fp) rfl rfl rfl hc i _ s3 _ H3 (λ_ _=>False) I3 (stat fr3) st3 stop) (λr s4 ⟨hr,I4⟩=>?_) λ_ _ f=>f.elim;subst hr;exact fin _ _ _ _ _ _ I4 rv hz z
  .refine uD (T.item (wx X sc N (s.heap.objs.size+1) s H fp) rfl rfl rfl hc i _ s3 _ H3 (λ_ _=>False) I3 (stat fr3) st3 go) (λr s4 ⟨u,hr,h4⟩=>?_) λ_ _ f=>f.elim;subst hr;refine uD h4 (λ_ s5 ⟨x,H5,I5,r5,y5,st5,fr5⟩=>?_) λ_ _ f=>f.elim;have I5':=I5.pinned (stat fr5) (T.obj _ _ st5);refine uD (hg _ _ _ _ _ s5 _ H5 x u _ I5' r5 (hga _ _ _ _ (step x H5 y5))) (λ_ s6 ⟨σ6,H6,I6,q6,ag⟩=>?_) λ_ _ f=>f.elim;refine uD (ht _ _ _ _ _ s6 σ6 H6 _ I6 q6) (λb s7 ⟨H7,I7,q7⟩=>?_) λ_ _ f=>f.elim;have back:∀ {H8:Hp} {s8:Shared},Inv (wx X sc N (s.heap.objs.size+1) s H fp) ([(s.heap.objs.size,{cls:=.type "list", data:=.seq xj.toArray n})]++gZ fp s5.heap) σ6 H8 s8->
     Inv (wx X sc N (s.heap.objs.size+1) s H fp) [(s.heap.objs.size,{cls:=.type "list", data:=.seq xj.toArray n})] (uN xE σ) H8 s8/\tn (i+1) s8.heap/\∀b∈fp,H8 b=none:=λ {H8 s8} I8=>by
    refine⟨I8.unpinned.weak (I1.len.trans I8.len.symm) λj v e=>?_,T.keep _ _ _ st5 λb hb o e=>(I8.pin (b,o) (zY _ (zY _ (ao hb e)))).1,λb hb=>?_⟩
    .obtain⟨j',t1,_⟩:=bH e;rw[ag j j' t1];exact e
    .obtain⟨o,e,d⟩:=T.obj _ _ st5 b hb;exact(I8.pin (b,o) (zY _ (zY _ (ao hb e)))).2.1
   cases b with
   |false=>obtain⟨m',hm,w7⟩:=q7;obtain⟨I8,st8,fr8⟩:=back I7;rw[xH wR];exact⟨m',hm,i+1,ys,H7,xj,n,I8,rv,hz,st8,fr8,w7⟩
   |true=>
    rw[xK rfl];refine uD (he _ _ _ _ s7 σ6 H7 _ I7 q7) (λy s8 ⟨yv,H8,I8,r8,m',hm,w8⟩=>?_) λ_ _ f=>f.elim;obtain⟨I9,st9,fr9⟩:=back I8;obtain⟨pD,nD,dL,dF,dC⟩:=I9.pin (s.heap.objs.size,{cls:=.type "list", data:=.seq xj.toArray n}) (by simp[wx]);refine fG Kc ⟨_,pD,rfl⟩ Kb (Ka _ _) (KG s.heap.objs.size xj.toArray n y (by rw[wm,<-rv.length];exact hz)) ⟨pD,?_⟩;have q:=KE pD (λx=>x.push y);obtain⟨n',q'⟩:∃n',(s8.heap.update s.heap.objs.size (Obj.mapSeq λx=>x.push y)).get? s.heap.objs.size=some {cls:=.type "list", data:=.seq (xj++[y]).toArray n' }:=⟨_,by rw[show(xj++[y]).toArray=xj.toArray.push y by simp];exact q⟩
    have kp:∀b o,b≠s.heap.objs.size->s8.heap.get? b=some o->(s8.heap.update s.heap.objs.size (Obj.mapSeq λx=>x.push y)).get? b=some o:=λb o hb e=>(B9 s8.heap _ (zK hb)).trans e;have I10:Inv (wx X sc N (s.heap.objs.size+1) s H fp) [] (uN xE σ) H8 s8:=I9.pins_of λp hp=>absurd hp (by simp);have I11:Inv (wx X sc N (s.heap.objs.size+1) s H fp) [] (uN xE σ) H8 {s8 with heap:=s8.heap.update s.heap.objs.size (Obj.mapSeq λx=>x.push y),toks:=s8.toks}:=
     I10.turned (it:=s.heap.objs.size) (t':=s8.toks) kp nD dL (.inr (yg _)) (λx c e z=>by obtain⟨v,o,ho,hd⟩:=I10.cell x c e;rw[z,pD] at ho;cases ho;cases hd) (λp hp=>absurd hp (by simp[wx]))
    refine⟨m',hm,i+1,ys++[yv],H8,xj++[y],n',I11.pins_of λp hp=>?_,rv.append (.cons r8 .nil),?_,T.keep _ _ _ st9 λb hb o e=>kp b o (ltD b hb) e,fr9,w8⟩
    .have e:p=(s.heap.objs.size,{cls:=.type "list", data:=.seq (xj++[y]).toArray n' }):=by simpa using hp
     subst e;exact⟨q',nD,dL,dF,λv=>by simp⟩
    .rw[zy,gB];exact hlt
 exact codeAny_compStart_list loop (T.self _ 0 _ _ _ st1 loop)
def uR (k:kM X sc N xE)(hc:X.calm=true)(hga:GA xE g)(hi:PI X tg iter wi)
  (hg:∀C s H ex,PG (wx X sc N C s H ex) tg g) (ht:∀C s H ex,PIf (wx X sc N C s H ex) ifs tc) (he:∀C s H ex,PE (wx X sc N C s H ex) elt te)
  (hs:∀x,foldedSetIterable iter X.env x=pure x:=by intro _;rfl):PE X (.ListComp elt [⟨tg,iter,ifs,0⟩] sc pos) (pL wi xE g tc te):=by
 intro xf s σ H Q I h;rw[eval_ListComp];refine KN (use:=none) rfl hs (lj (k.cells I.ok)) k.kind k.loc ?_;refine yn (@hi xf s σ H _ I h) λv s1 h1=>yn h1 λitv s2 h2=>?_;obtain⟨it,fp,tn,J,H2,e,I2,T,st2,f2,W,w0,turn⟩:=h2;subst e;refine EJ (RR:=λacc C=>compPost (model X.prog X.w) X.A X.xe none (EP X xf σ Q) acc C) (W:=W) (Z:=λys H'=>∀p,H' p=none->Q (.ref p) (upd H' p (.lst ys))) k hc I2 T st2 f2 hga hg ht he w0 turn ?_;intro σ' H' s' ys xj n J' rv hz z;obtain⟨I',hD,hC⟩:=EL k I2 f2 J' rv hz;obtain⟨m,hn,_⟩:=J'.loc;exact⟨m,hn,λh' hs'=>⟨.ref _,_,lp I2 I' hC hs',rfl,z _ hD⟩⟩
def t8 (hN:X.N.Nodup)(hi':X.N[i]?=some x)(hx:Loc X.env.scope x)(k:kM X sc N xE)(hc:X.calm=true)(hga:GA xE g)(hi:PI X tg iter wi)
  (hg:∀C s H ex,PG (wx X sc N C s H ex) tg g) (ht:∀C s H ex,PIf (wx X sc N C s H ex) ifs tc) (he:∀C s H ex,PE (wx X sc N C s H ex) elt te)
  (hsw:swapsWith (.ListComp elt [⟨tg,iter,ifs,0⟩] sc pos) (some (.Name x py)) spos.line X.env=pure true:=by rfl)
  (hs:∀x,foldedSetIterable iter X.env x=pure x:=by intro _;rfl) (hf:X.fn x=true\/X.env.scope.names.lookup x=some .local:=by first|exact .inl rfl|exact .inr rfl|assumption) :
  PS X (.Assign [.Name x py] (.ListComp elt [⟨tg,iter,ifs,0⟩] sc pos) spos) (jD (pL wi xE g tc te) (qx i)):=by
 intro xf s σ H D I h;rw[exec_Assign_Name_used _ _ _ _ hsw];refine xi (rJ (xi ?_));show wpAny _ X.A (do let _ <-comprehension (.ListComp elt [⟨tg,iter,ifs,0⟩] sc pos) sc X.env _ (newList []) false (eval iter X.env) (some (assign (.Name x py) X.env))) _ _ s;refine xi (uD (KN (use:=some (assign (.Name x py) X.env)) (Q:=λ_ s'=>SP X xf D .next s') rfl hs (lj (k.cells I.ok)) k.kind k.loc ?_) (λ_ s' q=>xN (xN q)) λ_ _ e=>e);refine yn (@hi xf s σ H _ I h) λv s1 h1=>yn h1 λitv s2 h2=>?_;obtain⟨it,fp,tn,J,H2,e,I2,T,st2,f2,W,w0,turn⟩:=h2;subst e;refine EJ (RR:=λacc C=>compPost (model X.prog X.w) X.A X.xe (some (assign (.Name x py) X.env)) (λ_ s'=>SP X xf D .next s') acc C) (W:=W) (Z:=λys H'=>∀p,H' p=none->D.nx (σ.set i (some (.ref p))) (upd H' p (.lst ys))) k hc I2 T st2 f2 hga hg ht he w0 turn ?_;intro σ' H' s' ys xj n J' rv hz z;obtain⟨I',hD,hC⟩:=EL k I2 f2 J' rv hz;obtain⟨m,hn,_⟩:=J'.loc;have hn:s'.heap.Ns (s2.heap.objs.size+1) m:=hn;refine KL (BQ (v:=.ref s2.heap.objs.size) I' hN hi' hx rfl (λs'' I'' ⟨a,sb,ha⟩=>?_) hf);refine⟨m,hn.sameBut sb ?_,λh' hs'=>⟨_,_,lp I2 I'' hC hs',z _ hD⟩⟩;rcases ha with ha|ha
 .rw[ha];exact jf (fE I2.lt)
 .obtain⟨v,o,ho,_⟩:=I2.cell x a ha;exact jf (fE (yH ho))
end
structure xV (P:Program)(w:World)(K:xt)(mg:Str->Option Value)(base:Heap)(k:Nat)(x:Str)(ps:List Str)(sp:Sp):Prop where
 ex:∃(f:Addr) (fd:FuncData),vm P w K mg base CX0 k f fd ps sp/\Binds K fd ps []/\PySem.W.keepIn K (.ref f)=true/\mg x=some (.ref f)
theorem xV.mono {P:Program}{w:World}{K:xt}{mg:Str->Option Value}{base:Heap}{j k:Nat}{x:Str}{ps:List Str}{sp:Sp}(h:xV P w K mg base j x ps sp)(hjk:j<=k):xV P w K mg base k x ps sp:=by obtain⟨f,fd,F,b,kp,m⟩:=h.ex;exact⟨f,fd,F.mono hjk,b,kp,m⟩
theorem xV.imp {P:Program}{w:World}{K:xt}{mg:Str->Option Value}{base:Heap}{k:Nat}{x:Str}{ps:List Str}{sp sp':Sp}(h:xV P w K mg base k x ps sp)(q:∀vs H Q E,sp' vs H Q E->sp vs H Q E):xV P w K mg base k x ps sp':=by obtain⟨f,fd,F,b,kp,m⟩:=h.ex;exact⟨f,fd,F.imp q,b,kp,m⟩
def mF (sp:Sp)(t:TA):TE:=λσ H Q=>t σ H λvs H1=>sp vs H1 Q E0
def xA (h:xV X.prog X.w X.K X.mg X.base j x ps sp)(hr:wW k X.A)(ha:PA X (e::es) t)(hjk:j<=k:=by decide)(hg:Gl X x:=by rfl)
  (hdb:(x==("__debug__" : Str))=false:=by decide) (he:starEach (e::es) X.env=(false,eval e X.env)::starEach es X.env:=by rfl) (hpl:(backTo pos (starEach es X.env)).any (·.1)=false:=by rfl) :
  PE X (.Call (.Name x p) (e::es) [] pos) (mF sp t):=by
 obtain⟨f,fd,F,b,kp,m⟩:=(h.mono hjk).ex;intro xf s σ H Q I q;refine Rz (E:=E0) F hr hg m kp b .nil Ry ha hdb he hpl s σ H Q I ?_;have e:(λ(vs:List V) (H1:Hp)=>sp (vs++[]) H1 Q E0)=λvs H1=>sp vs H1 Q E0:=by funext vs H1;rw[um]
 show t σ H λvs H1=>sp (vs++[]) H1 Q E0;rw[e];exact q
def t4 {P:Program}{w:World}{K:xt}{mg:Str->Option Value}{base:Heap}{k:Nat}{x qual:Str}{st:Stmt}{f:Addr}{fd:FuncData}{N ps:List Str}{sp:Sp}(F:Fun K x qual st f fd)(S:xX N ps (xI st))(mgx:mg x=some (.ref f))(b:Binds K fd ps [])
  (len:∀vs H Q E,sp vs H Q E->vs.length=ps.length)
  (body:∀(cdv:Value) (A:Around) (outer:List Env) (s:Shared) (H:Hp) (vs:List V) (Q:VK) (E:XK),wW k (A.deeper (envOfC qual (xI st) s.heap.objs.size f cdv))->sp vs H Q E->∃t,PSs (kQ CX0 P w K mg base N qual (xI st) f cdv A outer s H E).nox (vo st) t/\t {nx:=λ_ H'=>Q .non H',rt:=Q} (start N vs) H):xV P w K mg base (k+1) x ps sp:=
 ⟨f,fd,F.ok S len body,b,F.kp,mgx⟩
section
variable {X:Cx}
def CT (i j:Int):Prop:=0<j/\j.natAbs.log2<9000
def Hs:zB X (binaryOp .FloorDiv) (rI CT λi j=>.int (i/j)):=opI λi j _ _ _ _ _ hc q=>by refine floordiv_int (by have:=hc.1;lia) ?_ (.inl (PyProof.noPylong_of_log2 hc.2));rw[dY i (by have:=hc.1;lia)];exact q
def Ex (h0:0<j)(h:j<2^128):CT i j:=by
 refine⟨h0,?_⟩;have:j.natAbs<2^128:=by lia
 have:=Nat.log2_lt (n:=j.natAbs) (k:=128) (by lia);have h':j.natAbs.log2<128:=this.mpr (by lia);lia
def BR (n c:String):Bool:=n==c||(n == "bool" && c == "int")
def lX:List String:=["NoneType", "bool", "int", "str", "list", "tuple", "dict"]
def aj:List String:=["bool", "int", "str", "list", "tuple", "dict"]
def NF {K:xt}{n c:String}(hn:n∈lX)(hc:c∈aj):PySem.W.kitOne K (.type n) (.type c)=some (BR n c):=by simp only[lX,aj,xU,zi,zo] at hn hc;rcases hn with rfl|rfl|rfl|rfl|rfl|rfl|rfl<;>rcases hc with rfl|rfl|rfl|rfl|rfl|rfl<;>kernel_rfl
def tyN (H:Hp):V->Option String
 |.non=>some "NoneType"
 |.bl _=>some "bool"
 |.int _=>some "int"
 |.str _=>some "str"
 |.ref a=>match H a with
  |some (.lst _)=>some "list"
  |some (.frz _ (.lst _))=>some "list"
  |some (.tup _)=>some "tuple"
  |some (.dK _)=>some "dict"
  |_=>none
 |_=>none
theorem Ud {K:xt}{H:Hp}{x:V}{n:String}(h:tyN H x=some n):qt K H x (.type n)/\n∈lX:=by
 cases x with
 |non=>cases h;exact⟨.non,by decide⟩
 |bl b=>cases h;exact⟨.bl b,by decide⟩
 |int i=>cases h;exact⟨.int i,by decide⟩
 |str y=>cases h;exact⟨.str y,by decide⟩
 |ref a=>
  have h:(match H a with
   |some (.lst _)=>some "list"
   |some (.frz _ (.lst _))=>some "list"
   |some (.tup _)=>some "tuple"
   |some (.dK _)=>some "dict"
   |_=>none)=some n:=h
  split at h
  .rename_i xs e;cases h;exact⟨.lst e,by decide⟩
  .rename_i o xs e;cases h;exact⟨.frz e,by decide⟩
  .rename_i xs e;cases h;exact⟨.tup e,by decide⟩
  .rename_i xs e;cases h;exact⟨.dK e,by decide⟩
  .cases h
 |_=>cases h
def Ii (xs:List V)(H:Hp)(Q:VK):Prop:=∃x c n,xs=[x,.ty c]/\tyN H x=some n/\c∈aj/\Q (.bl (BR n c)) H
def qW:vk X (.builtin "isinstance") Ii:=by intro xf s σ H xs us Q I r h;obtain⟨x,c,n,rfl,ty,hc,q⟩:=h;obtain⟨u,w',rfl,rx,ry⟩:=vals2 r;cases ry;obtain⟨t1,t2⟩:=Ud (K:=X.K) ty;exact Nl I rx t1 (NF t2 hc) λtk=>⟨.bl _,H,I.tok tk,rfl,q⟩
theorem J4:∀ {bs:List Bool} {us:List Value},yk (bs.map V.bl) us->us=bs.map Value.bool
 |[],_,.nil=>rfl
 |c::cs,_,.cons r t=>by cases r;rw[J4 t];rfl
def Ai (K:xt)(xs:List V)(H:Hp)(Q:VK):Prop:=∃(p:Addr) (ns:List Int),xs=[.ref p]/\yt K H p (ns.map V.int)/\ns≠[]/\∀M,M∈ns->(∀a∈ns,a<=M)->Q (.int M) H
def Lx (hc:X.calm=true):vk X (.builtin "max") (Ai X.K):=by
 intro xf s σ H xs us Q I r h;obtain⟨p,ns,rfl,hl,hne,q⟩:=h;obtain⟨u,rfl,ru⟩:=vals1 r;cases ru;obtain⟨xj,rv,pl,hz⟩:=I.list hl;obtain⟨m,F⟩:=I.fr;have hi:=intsAre_of rv;obtain⟨xs',e⟩:=hi.allInts.items;have hns:ns=xs'.toList.map (·.1):=by rw[<-hi.numsOf,<-nums_intItems,<-e]
 have hsz:0<xs'.size:=by have h3:0<ns.length:=Ku.mpr hne;rw[hns,xO,kJ] at h3;exact h3
 have hl':=pl.isList;rw[e] at hl';refine max_intList (I.ok.hd hc) hl' hsz λv h' tk hv hk=>?_;obtain⟨t,rfl⟩:=intItems_at hv;obtain⟨h1,h2⟩:=argBest_gt (numAt xs') (xs'.size-1);refine⟨.int _,H,I.kept hk,⟨t,rfl⟩,q _ ?_ λa ha=>?_⟩
 .rw[hns,numAt_eq];exact getD_mem (by rw[xO,kJ];lia)
 .rw[hns] at ha;obtain⟨j,hj,rfl⟩:=mem_getD ha;rw[xO,kJ] at hj;rw[<-numAt_eq];exact h2 j (by lia)
def Ad (K:xt)(xs:List V)(H:Hp)(Q:VK):Prop:=∃(p:Addr) (bs:List Bool),xs=[.ref p]/\yt K H p (bs.map V.bl)/\Q (.bl (bs.all id)) H
def K5 {bs:List Bool}:(List.range bs.length).all (λi=>(bs[i]?).getD false)=bs.all id:=by
 rw[pS];simp only[jJ,oi,id];constructor
 .intro h b hb;obtain⟨i,hi,rfl⟩:=fw.mp hb;have:=h i hi;rw[yA hi] at this;exact this
 .intro h i hi;rw[yA hi];exact h _ (og hi)
def Lp (hc:X.calm=true):vk X (.builtin "all") (Ad X.K):=by
 intro xf s σ H xs us Q I r h;obtain⟨p,bs,rfl,hl,q⟩:=h;obtain⟨u,rfl,ru⟩:=vals1 r;cases ru;obtain⟨xj,rv,pl,hz⟩:=I.list hl;have e:=J4 rv;subst e;have hl':=pl.isList;refine call_all_walk (CN hl' ?_);have hlt:p<s.heap.objs.size:=by obtain⟨o,ho,_⟩:=id hl';exact yH ho
 have hne:p≠s.heap.objs.size:=zV hlt;refine⟨_,_,_,_,_,_,λi=>(bs[i]?).getD false,rfl,Walks.list (A:=X.A.in1) (I.ok.hd hc) _ p hne (bs.map Value.bool).toArray,⟨⟨_,wD _ rfl,rfl,rfl⟩,hl'.at λo e=>yY _ e⟩,?_,λh' tk hk=>?_⟩
 .intro i v s' Q' E' hP hq;have hP':(bs.map Value.bool)[i]?=some v:=by simpa using hP
  rw[vh] at hP';cases eb:bs[i]? with
  |none=>rw[eb] at hP';cases hP'
  |some b=>rw[eb] at hP';cases hP';simp only[eb,Option.getD_some] at hq;exact fH hq
 .have hk':=old_kept (l:=p) hk;refine⟨.bl (bs.all id),H,I.kept hk',?_,q⟩;show Value.bool _=Value.bool _;have:(bs.map Value.bool).toArray.size=bs.length:=by simp
  rw[this,K5]
end
structure yd (mg:Str->Option Value)(ns:List Str):Prop where
 all:∀x∈ns,mg x=none
def yd.get (B:yd mg ns)(x:Str)(h:x∈ns:=by decide +kernel):mg x=none:=B.all x h
def uY:bootBuiltins "len" = some (.builtin "len"):=by decide +kernel
def Er:bootBuiltins "max" = some (.builtin "max"):=by decide +kernel
def Es:bootBuiltins "min" = some (.builtin "min"):=by decide +kernel
def jk:bootBuiltins "abs" = some (.builtin "abs"):=by decide +kernel
def nG:bootBuiltins "all" = some (.builtin "all"):=by decide +kernel
def qU:bootBuiltins "isinstance" = some (.builtin "isinstance"):=by decide +kernel
def qV:bootBuiltins "tuple" = some (.type "tuple"):=by decide +kernel
def o6:bootBuiltins "list" = some (.type "list"):=by decide +kernel
def Ep:bootBuiltins "int" = some (.type "int"):=by decide +kernel
def Eo:bootBuiltins "bool" = some (.type "bool"):=by decide +kernel
def Ln:bootBuiltins "zip" = some (.type "zip"):=by decide +kernel
def oE (n:Int)(b:Bool):Prop:=0<=n/\(b=false->n<2147483647)
def v_ (p:Addr)(H:Hp):Prop:=∃(n:Int) (b:Bool),H p=some (.lst [.int n,.bl b])/\oE n b
structure SB (p:Addr)(H H':Hp):Prop where
 keep:∀(b:Addr) (o:HO),b≠p->H b=some o->H' b=some o
 st:v_ p H'
def TH (K:xt):Sp:=λvs H Q _=>∃(a:Addr) (ns:List Int) (k:Int),vs=[.ref a,.int k]/\yt K H a (ns.map V.int)/\ns.length<=63/\0<=k/\∀n:Int,Q (.int n) H
def Jt (K:xt):Sp:=λvs H Q _=>∃(a:Addr) (ns:List Int) (k:Int),vs=[.ref a,.int k]/\yt K H a (ns.map V.int)/\ns.length<=63/\0<=k/\
 ∀(p:Addr) (n:Int) (b:Bool),H p=none->oE n b->Q (.ref p) (upd H p (.lst [.int n,.bl b]))
def Ju:Sp:=λvs H Q _=>∃(p:Addr) (many:Int),vs=[.ref p,.int many]/\v_ p H/\0<many/\many<2^128/\∀(r:Int) (H':Hp),0<=r->r<many->SB p H H'->Q (.int r) H'
def K9 {ns:List Int}{k:Int}(h0:0<=k)(h:k<(ns.length:Int)):∃v:Int,atI (ns.map V.int) k=some (.int v):=by
 have hk:k.toNat<ns.length:=by lia
 have ek:k=((k.toNat:Nat):Int):=by lia
 have q:atI (ns.map V.int) ((k.toNat:Nat):Int)=some (.int ns[k.toNat]):=La (by rw[vh,yA hk]<;>rfl);rw[<-ek] at q;exact⟨_,q⟩
section
variable {X:Cx}
def gR (K:xt)(e:X.K=K:=by rfl):IxR X (Af K):=e▸Gz
def pJ (K:xt)(e:X.K=K:=by rfl):SlR X (t_ K):=e▸Jp
def Ly (K:xt)(hc:X.calm=true)(e:X.K=K:=by rfl):vk X (.builtin "max") (Ai K):=e▸Lx hc
def nJ (K:xt)(hc:X.calm=true)(e:X.K=K:=by rfl):vk X (.builtin "all") (Ad K):=e▸Lp hc
def Ag (K:xt)(xs:List V)(H:Hp)(Q:VK):Prop:=∃p ys,xs=[.ref p]/\(yt K H p ys\/yR K H p ys)/\Q (.int ys.length) H
def uZ (K:xt)(e:X.K=K:=by rfl):vk X (.builtin "len") (Ag K):=e▸Lr
def Al (K:xt)(xs:List V)(H:Hp)(Q:VK):Prop:=∃p ys,xs=[.ref p]/\((yt K H p ys/\∀l,H l=none->Q (.ref l) (upd H l (.tup ys)))\/(yR K H p ys/\Q (.ref p) H))
def rS (K:xt)(e:X.K=K:=by rfl):vk X (.type "tuple") (Al K):=e▸LC
def zJ (K:xt)(hc:X.calm=true)(h:PGs X es t)
  (hn:(assignEach es X.env).length=n:=by rfl) (hst:(assignEach es X.env).findIdx? (·.1)=none:=by rfl) (e:X.K=K:=by rfl):PG X (.Tuple es k pos) (tI K n t):=by
 subst e;exact RD hc h hn hst
end
theorem HG:∀ {l:List α} {k:List β} {i:Nat} {b:β},Paired F l k->k[i]?=some b->∃a,l[i]?=some a/\F a b
 |_,_,_,_,.nil,h=>by simp at h
 |_,_,0,_,.cons r _,h=>by simp at h;subst h;exact⟨_,rfl,r⟩
 |_,_,i+1,b,.cons _ t,h=>by obtain⟨a,e,f⟩:=HG (i:=i) t (by simpa using h);exact⟨a,by simpa using e,f⟩
def Ru (h:Paired F l k):l.length=k.length:=fF h
def eX (h:Paired F l k)(r:F a b):Paired F (l++[a]) (k++[b]):=CD h r
theorem HF:∀ {l l':List α} {k k':List β},Paired F l k->Paired F l' k'->Paired F (l++l') (k++k')
 |_,_,_,_,.nil,s=>s
 |_,_,_,_,.cons r t,s=>.cons r (HF t s)
theorem eW:∀(n:Nat) {l:List α} {k:List β},Paired F l k->Paired F (l.drop n) (k.drop n)
 |0,_,_,h=>h
 |_+1,_,_,.nil=>.nil
 |n+1,_,_,.cons _ t=>eW n t
theorem eY:∀(n:Nat) {l:List α} {k:List β},Paired F l k->Paired F (l.take n) (k.take n)
 |0,_,_,_=>.nil
 |_+1,_,_,.nil=>.nil
 |n+1,_,_,.cons r t=>.cons r (eY n t)
def take_succ {α:Type}{l:List α}{i:Nat}{a:α}(h:l[i]?=some a):l.take (i+1)=l.take i++[a]:=by rw[vT,h];rfl
def sz (h:n<=1000):n<=sizeLine:=mT (TF h)
open Builtin.SmallTypes (nextOf)
structure Drw (it a:Addr)(vs:List Value)(tn:Nat->Heap->Prop)(src:Heap->Prop):Prop where
 mv:∀i h h',tn i h->(∀o,h.get? it=some o->h'.get? it=some o)->tn i h'
 smv:∀h h',src h->(∀o,h.get? a=some o->h'.get? a=some o)->src h'
 ob:∀i h,tn i h->∃o,h.get? it=some o/\∀v,o.data≠.cell v
 item:∀(prog:Program) (w:World) (A:Around) (E:Value->Shared->Prop) (i:Nat) (x:Value) (s:Shared) (Q:Value->Shared->Prop),tn i s.heap->src s.heap->vs[i]?=some x->
  (∀h',tn (i+1) h'->Heap.SameBut it s.heap h'->Q x {s with heap:=h' })->wpAny (model prog w) A (nextOf (.ref it)) Q E s
 fin:∀(prog:Program) (w:World) (A:Around) (E:Value->Shared->Prop) (i:Nat) (s:Shared) (Q:Value->Shared->Prop),A.handled=none->tn i s.heap->src s.heap->vs[i]?=none->
  (∀h' e,Heap.ExtBut it s.heap h'->(∃o,h'.get? e=some o/\o.cls=.type "StopIteration")->E (.ref e) {s with heap:=h' })->wpAny (model prog w) A (nextOf (.ref it)) Q E s
def Mj (it a:Addr)(vs:List Value):Drw it a vs (λi h=>h.IsListIter it a i) (λh=>h.IsList a vs.toArray) where
 mv:=λi h h' t k=>t.at k
 smv:=λh h' t k=>t.at k
 ob:=λi h t=>let ⟨o,e,_,d⟩:=t;⟨o,e,λv z=>by rw[d] at z;cases z⟩
 item:=λprog w A E i x s Q t l e h=>wpAny_nextOf_list_item t l (by simpa using e) h
 fin:=λprog w A E i s Q hh t l e h=>wpAny_nextOf_list_end hh t l (by simpa using e) h
section
variable {prog:Program} {w:World} {A:Around} {E:Value->Shared->Prop} {s:Shared}
def Og {it a:Addr}{i:Nat}{vs:List Value}{x:Value}{Q:Value->Shared->Prop}(T:s.heap.IsTupleIter it a i)(S:s.heap.IsTuple a vs.toArray)(e:vs[i]?=some x)
  (h:∀h',h'.IsTupleIter it a (i+1)->Heap.SameBut it s.heap h'->Q x {s with heap:=h' }):wpAny (model prog w) A (nextOf (.ref it)) Q E s:=by
 obtain⟨ob,hob,hcl,hdt⟩:=id T;obtain⟨os,hos,_,nn,hsq⟩:=id S;have e':vs.toArray[i]?=some x:=by simpa using e
 unfold nextOf;refine xi (jM (name:=Str.ofString "__next__") T.typeIs B7 (qq B7 T.typeIs F.entry_tuple_iterator_next (xi (m:=field (.ref it) 0) (vU hob hdt (x:=.ref a) rfl ?_)) (F.args_tuple_iterator_next_1 _)));refine xi (m:=field (.ref it) 1) (vU hob hdt (x:=.int i 0) rfl (xi (m:=seqItems? (.ref a)) (sH hos hsq ?_)));simp only[jI,e'];refine xi (m7 hob hdt (by simp) (xN ⟨x,rfl,xN (h _ ⟨_,pW _ hob (Kz (mV hdt _)),(Ky ..).trans hcl,?_⟩ (fq ..))⟩));rw[mV hdt];simp[rawInt]
def Of {it a:Addr}{i:Nat}{vs:List Value}{Q:Value->Shared->Prop}(hn:A.handled=none)(T:s.heap.IsTupleIter it a i)(S:s.heap.IsTuple a vs.toArray)(e:vs[i]?=none)
  (h:∀h' x,Heap.ExtBut it s.heap h'->(∃o,h'.get? x=some o/\o.cls=.type "StopIteration")->E (.ref x) {s with heap:=h' }):wpAny (model prog w) A (nextOf (.ref it)) Q E s:=by
 obtain⟨ob,hob,hcl,hdt⟩:=id T;obtain⟨os,hos,_,nn,hsq⟩:=id S;have e':vs.toArray[i]?=none:=by simpa using e
 unfold nextOf;refine xi (jM (name:=Str.ofString "__next__") T.typeIs B7 (qq B7 T.typeIs F.entry_tuple_iterator_next (xi (m:=field (.ref it) 0) (vU hob hdt (x:=.ref a) rfl ?_)) (F.args_tuple_iterator_next_1 _)));refine xi (m:=field (.ref it) 1) (vU hob hdt (x:=.int i 0) rfl (xi (m:=seqItems? (.ref a)) (sH hos hsq ?_)));simp only[jI,e'];refine xi (sG (xi (m7 hob hdt (by simp) (xi ?_))));simp only[newExc,newTuple];refine xi (vI (xi (m:=firstArgMember _ _) (wpAny_of_eq (a:=Value.none) (by first|rfl|(simp only[firstArgMember];rfl)) (vI ?_ (by size_fits)))) (by size_fits));simp only[raiseNew];refine xi (wpAny_handled ?_)
 first|rw[show A.in1.handled=none from hn]|rw[hn]
 exact xi (xN (wpAny_throw (h _ _ (((fq ..).extBut.push _).push _) ⟨_,wD _ rfl,rfl⟩)))
end
def Mk (it a:Addr)(vs:List Value):Drw it a vs (λi h=>h.IsTupleIter it a i) (λh=>h.IsTuple a vs.toArray) where
 mv:=λi h h' t k=>t.at k
 smv:=λh h' t k=>let ⟨o,e,r⟩:=t;⟨o,k o e,r⟩
 ob:=λi h t=>let ⟨o,e,_,d⟩:=t;⟨o,e,λv z=>by rw[d] at z;cases z⟩
 item:=λprog w A E i x s Q t l e h=>Og t l e h
 fin:=λprog w A E i s Q hh t l e h=>Of hh t l e h
structure ZA (z ti to i1 i2 a1 a2:Addr):Prop where
 a:ti≠z/\to≠z/\i1≠z/\i2≠z/\ti≠to/\ti≠i1/\ti≠i2/\to≠i1/\to≠i2/\i1≠i2
 b:a1≠z/\a1≠to/\a1≠i1/\a1≠i2/\a2≠z/\a2≠to/\a2≠i1/\a2≠i2
section
variable {prog:Program} {w:World} {A:Around} {E:Value->Shared->Prop} {s:Shared} {z ti to i1 i2 a1 a2:Addr} {vs us:List Value} {t1 t2:Nat->Heap->Prop} {s1 s2:Heap->Prop}
def UA {k:Nat}{x y p q:Value}{Q:Value->Shared->Prop}(D:ZA z ti to i1 i2 a1 a2)(W1:Drw i1 a1 vs t1 s1)(W2:Drw i2 a2 us t2 s2)(Z:IsZip s.heap z ti to .none)(TI:IsPair s.heap ti (.ref i1) (.ref i2))(TO:IsPair s.heap to p q)
  (b1:t1 k s.heap) (b2:t2 k s.heap) (c1:s1 s.heap) (c2:s2 s.heap) (ex:vs[k]?=some x) (ey:us[k]?=some y)
  (h:∀h',IsZip h' z ti to (rawInt s.heap.objs.size)->IsPair h' to x y->t1 (k+1) h'->t2 (k+1) h'->IsPair h' s.heap.objs.size x y->(∀c o,c≠z->c≠to->c≠i1->c≠i2->s.heap.get? c=some o->h'.get? c=some o)->Q (.ref s.heap.objs.size) {s with heap:=h' }) :
  wpAny (model prog w) A (Builtin.«zip.__next__» ⟨[.ref z],[]⟩) (λfin s'=>∃v,fin=.done (.ret v)/\Q v s') E s:=by
 obtain⟨⟨d1,d2,d3,d4,d5,d6,d7,d8,d9,d10⟩,e1,e2,e3,e4,e5,e6,e7,e8⟩:=D;refine xi (m:=field (.ref z) 2) (vU Z rfl (x:=.bool false) rfl (xi (m:=field (.ref z) 3) (vU Z rfl (x:=.ref ti) rfl (xi (sH TI rfl ?_)))));refine xi (m:=Builtin.SmallTypes.ownedTupleIsFree (.ref z)) ?_;unfold Builtin.SmallTypes.ownedTupleIsFree;refine xi (vU Z rfl (x:=.none) rfl (xN ?_));simp only[sF];refine xi (sG (xi (vU Z rfl (x:=.ref to) rfl (xi (m9 Z (by simp) λg1 Z1 S1=>xi ?_)))))
 replace Z1:IsZip g1 z ti to .ellipsis:=Z1
 simp only[List.zipIdx_cons,List.zipIdx_nil,List.forIn_cons,List.forIn_nil];refine xi (xi (CL (xi (m:=nextOf (.ref i1)) ?_)));refine W1.item _ _ _ _ k x _ _ (W1.mv _ _ _ b1 λo=>S1.extBut _ o d3) (W1.smv _ _ c1 λo=>S1.extBut _ o e1) ex λg2 b12 S2=>xN ?_;have TO2:IsPair g2 to p q:=S2.extBut _ _ d8 (S1.extBut _ _ d2 TO);refine xi (sH TO2 rfl (xi (KQ TO2 λg3 TO3 S3=>xi (wpAny_letGo (xN ?_)))))
 replace TO3:IsPair g3 to x q:=TO3
 refine xi (xi (CL (xi (m:=nextOf (.ref i2)) ?_)));have k3:∀c o,c≠z->c≠to->c≠i1->s.heap.get? c=some o->g3.get? c=some o:=λc o n1 n2 n3 g=>S3.extBut _ _ n2 (S2.extBut _ _ n3 (S1.extBut _ _ n1 g));refine W2.item _ _ _ _ k y _ _ (W2.mv _ _ _ b2 λo=>k3 _ o d4 (zK d9) (zK d10)) (W2.smv _ _ c2 λo=>k3 _ o e5 e6 e7) ey λg4 b24 S4=>xN ?_;have TO4:IsPair g4 to x q:=S4.extBut _ _ d9 TO3;refine xi (sH TO4 rfl (xi (KQ TO4 λg5 TO5 S5=>xi (wpAny_letGo (xN (xN ?_))))))
 replace TO5:IsPair g5 to x y:=TO5
 refine xi (sH TO5 rfl (xi (wpAny_newTuple (xi (m:=Builtin.SmallTypes.ownedTupleHandOut (.ref z) (.ref g5.objs.size)) ?_))));have sz5:g5.objs.size=s.heap.objs.size:=by rw[S5.1,S4.1,S3.1,S2.1,S1.1]
 have k5:∀c o,c≠to->c≠i2->g3.get? c=some o->g5.get? c=some o:=λc o n1 n2 g=>S5.extBut _ _ n1 (S4.extBut _ _ n2 g);have Z5:IsZip g5 z ti to .ellipsis:=k5 _ _ (zK d2) (zK d4) (S3.extBut _ _ (zK d2) (S2.extBut _ _ (zK d3) Z1));have b15:t1 (k+1) g5:=W1.mv _ _ _ b12 λo g=>k5 _ o (zK d8) d10 (S3.extBut _ o (zK d8) g);have b25:t2 (k+1) g5:=W2.mv _ _ _ b24 λo g=>S5.extBut _ o (zK d9) g;have zlt:z<g5.objs.size:=yH Z5;unfold Builtin.SmallTypes.ownedTupleHandOut;refine xi (m9 (show IsZip (g5.push {cls:=.type "tuple", data:=.seq #[x,y]}) z ti to .ellipsis from yY _ Z5) (by simp) λg7 Z7 S7=>m9 (show IsZip g7 z ti to (rawInt g5.objs.size) from Z7) (by simp) λg8 Z8 S8=>?_)
 replace Z8:IsZip g8 z ti to (rawInt g5.objs.size):=Z8
 have up8:∀c o,c≠z->g5.get? c=some o->g8.get? c=some o:=λc o n g=>S8.extBut _ _ n (S7.extBut _ _ n (yY _ g));have T8:IsPair g8 g5.objs.size x y:=S8.extBut _ _ (jf zlt) (S7.extBut _ _ (jf zlt) (wD _ rfl));refine xN ⟨_,rfl,?_⟩;show Q (.ref g5.objs.size) _;rw[sz5] at Z8 T8 ⊢;exact h g8 Z8 (up8 _ _ d2 TO5) (W1.mv _ _ _ b15 λo g=>up8 _ o d3 g) (W2.mv _ _ _ b25 λo g=>up8 _ o d4 g) T8 λc o n1 n2 n3 n4 g=>up8 c o n1 (k5 c o n2 n4 (k3 c o n1 n2 n3 g))
theorem Uz (hn:A.handled=none)(D:ZA z ti to i1 i2 a1 a2)(W1:Drw i1 a1 vs t1 s1)(W2:Drw i2 a2 us t2 s2)(Z:IsZip s.heap z ti to .none)(TI:IsPair s.heap ti (.ref i1) (.ref i2))(TO:IsPair s.heap to p q)
  (b1:t1 k s.heap) (b2:t2 k s.heap) (c1:s1 s.heap) (c2:s2 s.heap) (end':vs[k]?=none\/us[k]?=none)
  (h:∀h' e,(∀c o,c≠z->c≠to->c≠i1->c≠i2->s.heap.get? c=some o->h'.get? c=some o)->(∃o,h'.get? e=some o/\o.cls=.type "StopIteration")->E (.ref e) {s with heap:=h' }) :
  wpAny (model prog w) A (Builtin.«zip.__next__» ⟨[.ref z],[]⟩) Q E s:=by
 obtain⟨⟨d1,d2,d3,d4,d5,d6,d7,d8,d9,d10⟩,e1,e2,e3,e4,e5,e6,e7,e8⟩:=D;refine xi (m:=field (.ref z) 2) (vU Z rfl (x:=.bool false) rfl (xi (m:=field (.ref z) 3) (vU Z rfl (x:=.ref ti) rfl (xi (sH TI rfl ?_)))));refine xi (m:=Builtin.SmallTypes.ownedTupleIsFree (.ref z)) ?_;unfold Builtin.SmallTypes.ownedTupleIsFree;refine xi (vU Z rfl (x:=.none) rfl (xN ?_));simp only[sF];refine xi (sG (xi (vU Z rfl (x:=.ref to) rfl (xi (m9 Z (by simp) λg1 Z1 S1=>xi ?_)))))
 replace Z1:IsZip g1 z ti to .ellipsis:=Z1
 simp only[List.zipIdx_cons,List.zipIdx_nil,List.forIn_cons,List.forIn_nil];refine xi (xi (CL (xi (m:=nextOf (.ref i1)) ?_)));have b1':=W1.mv _ _ _ b1 λo=>S1.extBut _ o d3;have c1':=W1.smv _ _ c1 λo=>S1.extBut _ o e1;cases ex:vs[k]? with
 |none=>
  refine W1.fin _ _ _ _ k _ _ hn b1' c1' ex λg2 e S2 he=>?_;obtain⟨oe,hoe,hce⟩:=he;have Z2:IsZip g2 z ti to .ellipsis:=S2 _ _ (zK d3) Z1;have ne:e≠z:=λy=>by subst y;rw[Z2] at hoe;cases hoe;simp at hce
  exact m9 Z2 (by simp) λg3 _ S3=>h g3 e (λc o n1 _ n3 _ g=>S3.extBut _ _ n1 (S2 _ _ n3 (S1.extBut _ _ n1 g))) ⟨oe,S3.extBut _ _ ne hoe,hce⟩
 |some x=>
  have ey:us[k]?=none:=end'.resolve_left (by rw[ex];exact λz=>nomatch z);refine W1.item _ _ _ _ k x _ _ b1' c1' ex λg2 b12 S2=>xN ?_;have TO2:IsPair g2 to p q:=S2.extBut _ _ d8 (S1.extBut _ _ d2 TO);refine xi (sH TO2 rfl (xi (KQ TO2 λg3 TO3 S3=>xi (wpAny_letGo (xN ?_)))));refine xi (xi (CL (xi (m:=nextOf (.ref i2)) ?_)));have k3:∀c o,c≠z->c≠to->c≠i1->s.heap.get? c=some o->g3.get? c=some o:=λc o n1 n2 n3 g=>S3.extBut _ _ n2 (S2.extBut _ _ n3 (S1.extBut _ _ n1 g));refine W2.fin _ _ _ _ k _ _ hn (W2.mv _ _ _ b2 λo=>k3 _ o d4 (zK d9) (zK d10)) (W2.smv _ _ c2 λo=>k3 _ o e5 e6 e7) ey λg4 e S4 he=>?_;obtain⟨oe,hoe,hce⟩:=he;have Z4:IsZip g4 z ti to .ellipsis:=S4 _ _ (zK d4) (S3.extBut _ _ (zK d2) (S2.extBut _ _ (zK d3) Z1));have ne:e≠z:=λy=>by subst y;rw[Z4] at hoe;cases hoe;simp at hce
  exact m9 Z4 (by simp) λg5 _ S5=>h g5 e (λc o n1 n2 n3 n4 g=>S5.extBut _ _ n1 (S4 _ _ n4 (k3 c o n1 n2 n3 g))) ⟨oe,S5.extBut _ _ ne hoe,hce⟩
end
end L2
namespace L2
open PySem PySem.Spec PyProof.Rows
section
variable {prog:Program} {w:World} {A:Around} {E:Value->Shared->Prop} {s:Shared}
end
def Uw (h1:a1<n)(h2:a2<n):ZA (n+4) (n+2) (n+3) n (n+1) a1 a2:=by
 have up:∀(x k:Nat),x<n->x≠n+k:=λx k h=>zV (uW h (fC n k));have ad:∀j k:Nat,j≠k->n+j≠n+k:=λj k h e=>h (Nat.add_left_cancel e);have a0:∀k:Nat,0≠k->n≠n+k:=λk h e=>h (Nat.add_left_cancel (n:=n) (by simpa using e));exact⟨⟨ad _ _ (by decide),ad _ _ (by decide),a0 _ (by decide),ad _ _ (by decide),ad _ _ (by decide),λe=>a0 2 (by decide) e.symm,ad _ _ (by decide),λe=>a0 3 (by decide) e.symm,ad _ _ (by decide),a0 _ (by decide)⟩,
  up _ _ h1,up _ _ h1,zV h1,up _ _ h1,up _ _ h2,up _ _ h2,zV h2,up _ _ h2⟩
def Sq2 (K:xt)(b:Bool)(H:Hp)(a:Addr)(xs:List V):Prop:=if b=true then yR K H a xs else yt K H a xs
def qS (b:Bool)(a:Addr)(vs:List Value)(h:Heap):Prop:=if b=true then h.IsTuple a vs.toArray else h.IsList a vs.toArray
def Tn2 (b:Bool)(it a:Addr)(i:Nat)(h:Heap):Prop:=if b=true then h.IsTupleIter it a i else h.IsListIter it a i
theorem u4 (b:Bool)(it a:Addr)(vs:List Value):Drw it a vs (Tn2 b it a) (qS b a vs):=by
 cases b with
 |true=>exact Mk it a vs
 |false=>exact Mj it a vs
theorem Inv.sq2 (I:Inv X xf σ H s)(h:Sq2 X.K b H a xs):∃vs:List Value,yk xs vs/\qS b a vs s.heap:=by
 cases b with
 |true=>obtain⟨vs,r,p,_⟩:=I.tuple (show yR X.K H a xs from h);exact⟨vs,r,p⟩
 |false=>obtain⟨vs,r,p,_⟩:=I.list (show yt X.K H a xs from h);exact⟨vs,r,p.isList⟩
section
variable {P:Program} {w:World} {K:xt} {z ti to i1 i2 a1 a2:Addr} {b:Bool} {xs ys:List V}
end
section
variable {X:Cx}
end
inductive Tr where
 |non|bl (b:Bool)|int (i:Int)|str (x:Str)|emp|tup (xs:List Tr)|lst (xs:List Tr)
mutual
def Rep (F:Addr->Prop)(H:Hp):Tr->V->Prop
 |.non,v=>v=.non
 |.bl b,v=>v=.bl b
 |.int i,v=>v=.int i
 |.str x,v=>v=.str x
 |.emp,v=>∃a,v=.ref a/\¬F a/\H a=some (.dK [])
 |.tup ts,v=>∃a ws,v=.ref a/\¬F a/\H a=some (.tup ws)/\yx F H ts ws
 |.lst ts,v=>∃a ws,v=.ref a/\¬F a/\H a=some (.lst ws)/\yx F H ts ws
def yx (F:Addr->Prop)(H:Hp):List Tr->List V->Prop
 |[],ws=>ws=[]
 |t::ts,ws=>∃w r,ws=w::r/\Rep F H t w/\yx F H ts r
end
theorem qE:∀ {ts:List Tr} {ws:List V},yx F H ts ws↔Paired (Rep F H) ts ws
 |[],ws=>by
  constructor
  .intro h;cases (show ws=[] from h);exact .nil
  .intro h;cases h;rfl
 |t::ts,ws=>by
  constructor
  .rintro⟨w,r,rfl,h1,h2⟩;exact .cons h1 (qE.mp h2)
  .intro h;cases h with
   |cons h1 h2=>exact⟨_,_,rfl,h1,qE.mpr h2⟩
def yx.len (h:yx F H ts ws):ts.length=ws.length:=Ru (qE.mp h)
def yx.app (h:yx F H ts ws)(h':yx F H ts' ws'):yx F H (ts++ts') (ws++ws'):=qE.mpr (HF (qE.mp h) (qE.mp h'))
def yx.get {F:Addr->Prop}{H:Hp}{ts:List Tr}{ws:List V}{i:Nat}{w:V}(h:yx F H ts ws)(e:ws[i]?=some w):∃t,ts[i]?=some t/\Rep F H t w:=HG (qE.mp h) e
def yx.getT {F:Addr->Prop}{H:Hp}:∀ {ts:List Tr} {ws:List V} {i:Nat} {t:Tr},yx F H ts ws->ts[i]?=some t->∃w,ws[i]?=some w/\Rep F H t w:=λ {ts ws i t} h e=>by
 have hl:=h.len;have hi:i<ws.length:=by have:=(zc.mp e).1;lia
 obtain⟨t',e',r⟩:=h.get (yA hi);rw[e] at e';cases e';exact⟨_,yA hi,r⟩
mutual
theorem wZ (m:∀a o,H a=some o->¬F a->H' a=some o/\¬F' a):∀(t:Tr) (v:V),Rep F H t v->Rep F' H' t v
 |.non,v,h=>h
 |.bl b,v,h=>h
 |.int i,v,h=>h
 |.str x,v,h=>h
 |.emp,v,h=>by obtain⟨a,e,n,k⟩:=h;exact⟨a,e,(m a _ k n).2,(m a _ k n).1⟩
 |.tup ts,v,h=>by obtain⟨a,ws,e,n,k,r⟩:=h;exact⟨a,ws,e,(m a _ k n).2,(m a _ k n).1,uA m ts ws r⟩
 |.lst ts,v,h=>by obtain⟨a,ws,e,n,k,r⟩:=h;exact⟨a,ws,e,(m a _ k n).2,(m a _ k n).1,uA m ts ws r⟩
theorem uA (m:∀a o,H a=some o->¬F a->H' a=some o/\¬F' a):∀(ts:List Tr) (ws:List V),yx F H ts ws->yx F' H' ts ws
 |[],ws,h=>h
 |t::ts,ws,h=>by obtain⟨w,r,e,h1,h2⟩:=h;exact⟨w,r,e,wZ m t w h1,uA m ts r h2⟩
end
def aV:Tr->Option V
 |.non=>some .non|.bl b=>some (.bl b)|.int i=>some (.int i)|.str x=>some (.str x)|_=>none
theorem dM (h:aV t=some v):Rep F H t v:=by
 cases t with
 |non=>cases h;rfl
 |bl b=>cases h;rfl
 |int i=>cases h;rfl
 |str x=>cases h;rfl
 |_=>cases h
inductive TV where
 |un|fz (t:Tr)|ow (ts:List Tr)|st|sc (ns:List Int)|ob (a:Addr)|od (ks:List (List Int×Tr))
abbrev xW:=List TV
def yp:xW->Nat->TV
 |[],_=>.un
 |x::_,0=>x
 |_::r,n+1=>yp r n
theorem bT:∀ {τ:xW} {i:Nat} (h:i<τ.length),yp τ i=τ[i]
 |[],_,h=>absurd h (by simp)
 |_::_,0,_=>rfl
 |_::r,i+1,h=>bT (τ:=r) (by simpa using h)
theorem j3:∀ {τ:xW} {i:Nat} (h:τ.length<=i),yp τ i=.un
 |[],_,_=>rfl
 |_::_,0,h=>absurd h (by simp)
 |_::r,i+1,h=>j3 (τ:=r) (by simpa using h)
theorem j4:∀ {τ:xW} {i:Nat} {x:TV} (h:i<τ.length),yp (τ.set i x) i=x
 |[],_,_,h=>absurd h (by simp)
 |_::_,0,_,_=>rfl
 |_::r,i+1,x,h=>j4 (τ:=r) (by simpa using h)
theorem vN:∀ {τ:xW} {i j:Nat} {x:TV} (h:j≠i),yp (τ.set i x) j=yp τ j
 |[],_,_,_,_=>rfl
 |_::_,0,0,_,h=>absurd rfl h
 |_::_,0,_+1,_,_=>rfl
 |_::_,_+1,0,_,_=>rfl
 |_::r,i+1,j+1,x,h=>vN (τ:=r) (λe=>h (by rw[e]))
structure FB where
 F0:Addr->Prop
 S0:Addr->Prop
 H0:Hp
 G0:List (Tr×V)
abbrev zg:=Nat->Option Addr
def Av (B:FB)(φ:zg)(a:Addr):Prop:=B.F0 a\/∃i,φ i=some a
def SA (B:FB)(φ:zg)(τ:xW)(a:Addr):Prop:=B.S0 a\/∃i,φ i=some a/\yp τ i=.st
def Wk (B:FB)(φ:zg)(τ:xW)(a:Addr):Prop:=B.F0 a\/SA B φ τ a
def AvB:Bool->FB->zg->xW->Addr->Prop
 |true,B,φ,_=>Av B φ
 |false,B,φ,τ=>Wk B φ τ
def tabOf (K:xt)(x:Str):Option Addr:=match PySem.W.nsIn K mainGlobals x with
 |some (some (.ref f))=>(match K.lookup f with
  |some ⟨_,_,.func fd,_⟩=>(match fd.code with
   |.ref c=>(match K.lookup c with
    |some ⟨_,_,.fields vs,_⟩=>(match vs.toList.getD 11 Value.none with
     |Value.ref P=>(match K.lookup P with
      |none=>some P
      |some _=>none)
     |_=>none)
    |_=>none)
   |_=>none)
  |_=>none)
 |_=>none
def BW (K:xt):Option (Addr×Str):=match K.lookup 4 with
 |none=>none
 |some _=>match tabOf K "law" with
  |some P=>some (P, "law.<locals>.<lambda>")
  |none=>match tabOf K "_law_sides_right" with
   |some P=>some (P, "_law_sides_right.<locals>.<lambda>")
   |none=>none
def gK (K:xt)(H:Hp):Prop:=∀P q,BW K=some (P,q)->H P=some (.tb q)
theorem gK.none {K:xt}{H:Hp}(h:BW K=Option.none):gK K H:=λP q e=>by rw[h] at e;cases e
def nq (K:xt)(H:Hp)(a:Addr)(ns:List Int):Prop:=((∃o,H a=some (.frz o (.lst (ns.map V.int))))\/∀H',yt K H' a (ns.map V.int))/\gK K H
def tP (ns:List Int):Tr:=.tup (ns.map Tr.int)
def KvR (F:Addr->Prop)(H:Hp)(ks:List (List Int×Tr))(hk:List (List Key×V)):Prop:=Paired (λ(p:List Int×Tr) (q:List Key×V)=>q.1=p.1.map Sum.inl/\Rep F H p.2 q.2) ks hk
def Owd:TV->Prop
 |.ow _=>True
 |.od _=>True
 |_=>False
def Ent (K:xt)(B:FB)(φ:zg)(H:Hp)(i:Nat)(o:Option (Option V)):TV->Prop
 |.un=>True
 |.fz t=>∃v,o=some (some v)/\Rep (Av B φ) H t v
 |.ow ts=>∃a ws,o=some (some (.ref a))/\φ i=some a/\B.H0 a=none/\H a=some (.lst ws)/\yx (Av B φ) H ts ws
 |.st=>∃p,o=some (some (.ref p))/\φ i=some p/\(B.S0 p\/B.H0 p=none)
 |.sc ns=>∃a,o=some (some (.ref a))/\ns.length<=63/\nq K H a ns
 |.ob a=>o=some (some (.ref a))
 |.od ks=>∃a hk,o=some (some (.ref a))/\φ i=some a/\B.H0 a=none/\H a=some (.dT hk)/\KvR (Av B φ) H ks hk
structure NT (o:Option HO):Prop where
 no:o≠none
 tp:∀ws,o≠some (.tup ws)
structure RS (K:xt)(B:FB)(φ:zg)(σ:St)(τ:xW)(H:Hp):Prop where
 fN:∀a,B.F0 a->NT (B.H0 a)
 s0:∀a,B.S0 a->B.F0 a
 ext:∀a o,B.H0 a=some o->¬B.S0 a->H a=some o
 sst:∀a,SA B φ τ a->v_ a H
 injG:∀i j a,Owd (yp τ i)->φ i=some a->φ j=some a->i=j
 oN:∀i a,φ i=some a->NT (H a)
 len:σ.length=τ.length
 ent:∀i,Ent K B φ H i (σ[i]?) (yp τ i)
 gh:∀p∈B.G0,Rep (Av B φ) H p.1 p.2
structure HX (B:FB)(φ:zg)(τ:xW)(H H':Hp):Prop where
 keep:∀a o,H a=some o->¬SA B φ τ a->H' a=some o
 st:∀a,SA B φ τ a->v_ a H'
section
variable {K:xt} {B:FB} {φ:zg} {σ:St} {τ:xW} {H H' H'':Hp}
def RS.f0 (R:RS K B φ σ τ H)(a:Addr)(h:B.F0 a):B.H0 a≠none:=(R.fN a h).no
def RS.ow (R:RS K B φ σ τ H)(i:Nat)(a:Addr)(h:φ i=some a):H a≠none:=(R.oN i a h).no
def RS.inj (R:RS K B φ σ τ H)(i j:Nat)(a:Addr)(ts:List Tr)(h:yp τ i=.ow ts):φ i=some a->φ j=some a->i=j:=R.injG i j a (by rw[h];trivial)
def v_.ne_none (h:v_ p H):H p≠none:=by obtain⟨n,b,e,_⟩:=h;rw[e];exact λz=>nomatch z
def v_.nt (h:v_ p H):NT (H p):=by obtain⟨n,b,e,_⟩:=h;rw[e];exact⟨(λz=>nomatch z),λ_ z=>nomatch z⟩
def RS.sAv (R:RS K B φ σ τ H)(h:SA B φ τ a):Av B φ a:=by
 rcases h with h|⟨i,h,_⟩
 .exact .inl (R.s0 a h)
 .exact .inr ⟨i,h⟩
def RS.wAv (R:RS K B φ σ τ H)(h:Wk B φ τ a):Av B φ a:=by
 rcases h with h|h
 .exact .inl h
 .exact R.sAv h
theorem RS.sB (R:RS K B φ σ τ H)(h:SA B φ τ a):AvB b B φ τ a:=by
 cases b with
 |true=>exact R.sAv h
 |false=>exact .inr h
def RS.dom (R:RS K B φ σ τ H)(h:Av B φ a):H a≠none:=by
 rcases h with h|⟨i,h⟩
 .by_cases s:B.S0 a
  .exact(R.sst a (.inl s)).ne_none
  .cases e:B.H0 a with
   |none=>exact absurd e (R.f0 a h)
   |some o=>rw[R.ext a o e s];exact λz=>nomatch z
 .exact R.ow i a h
theorem RS.domB (R:RS K B φ σ τ H)(h:AvB b B φ τ a):H a≠none:=by
 cases b with
 |true=>exact R.dom h
 |false=>exact R.dom (R.wAv h)
theorem RS.nt (R:RS K B φ σ τ H)(h:Av B φ a):NT (H a):=by
 rcases h with h|⟨i,h⟩
 .by_cases s:B.S0 a
  .exact(R.sst a (.inl s)).nt
  .cases e:B.H0 a with
   |none=>exact absurd e (R.f0 a h)
   |some o=>rw[R.ext a o e s,<-e];exact R.fN a h
 .exact R.oN i a h
theorem RS.ntB (R:RS K B φ σ τ H)(h:AvB b B φ τ a):NT (H a):=by
 cases b with
 |true=>exact R.nt h
 |false=>exact R.nt (R.wAv h)
def HX.refl (R:RS K B φ σ τ H):HX B φ τ H H:=⟨λ_ _ h _=>h,R.sst⟩
def HX.trans (h:HX B φ τ H H')(h':HX B φ τ H' H''):HX B φ τ H H'':=⟨λa o e n=>h'.keep a o (h.keep a o e n) n,h'.st⟩
theorem HX.none (h:HX B φ τ H H')(e:H' a=none):H a=none:=by
 cases q:H a with
 |none=>rfl
 |some o=>
  by_cases s:SA B φ τ a
  .exact absurd e (h.st a s).ne_none
  .rw[h.keep a o q s] at e;cases e
def HX.new (R:RS K B φ σ τ H)(hp:H p=Option.none)(o:HO):HX B φ τ H (upd H p o):=
 ⟨λa u e _=>by rw[yl (zq e hp)];exact e,λa s=>by obtain⟨n,b,e,z⟩:=R.sst a s;exact⟨n,b,by rw[yl (zq e hp)];exact e,z⟩⟩
def HX.rep (h:HX B φ τ H H')(hF:∀a,SA B φ τ a->F a)(r:Rep F H t v):Rep F H' t v:=wZ (λa o e n=>⟨h.keep a o e (λs=>n (hF a s)),n⟩) t v r
def HX.repL (h:HX B φ τ H H')(hF:∀a,SA B φ τ a->F a)(r:yx F H t v):yx F H' t v:=uA (λa o e n=>⟨h.keep a o e (λs=>n (hF a s)),n⟩) t v r
def lO (R:RS K B φ σ τ H)(e:H a=some (.frz o u)):¬SA B φ τ a:=λs=>by obtain⟨n,b,q,_⟩:=R.sst a s;rw[e] at q;cases q
def TX (R:RS K B φ σ τ H)(e:H a=some (.tb q)):¬SA B φ τ a:=λs=>by obtain⟨n,b,y,_⟩:=R.sst a s;rw[e] at y;cases y
def gK.hx (t:gK K H)(R:RS K B φ σ τ H)(h:HX B φ τ H H'):gK K H':=λP q e=>h.keep P _ (t P q e) (TX R (t P q e))
theorem RS.hx (R:RS K B φ σ τ H)(h:HX B φ τ H H'):RS K B φ σ τ H' where
 fN:=R.fN
 s0:=R.s0
 ext:=λa o e n=>by
  by_cases s:SA B φ τ a
  .have q:=R.ext a o e n;rcases s with s|⟨i,s,hi⟩
   .exact absurd s n
   .have en:=R.ent i;rw[hi] at en;obtain⟨p,_,e2,e3⟩:=en;rw[s] at e2;cases e2;rcases e3 with z|z
    .exact absurd z n
    .rw[z] at e;cases e
  .exact h.keep a o (R.ext a o e n) s
 sst:=h.st
 injG:=R.injG
 oN:=λi a e=>by
  by_cases s:SA B φ τ a
  .exact(h.st a s).nt
  .cases q:H a with
   |none=>exact absurd q (R.ow i a e)
   |some o=>rw[h.keep a o q s,<-q];exact R.oN i a e
 len:=R.len
 ent:=λi=>by
  have en:=R.ent i;revert en;cases hi:yp τ i with
  |un=>exact λ_=>trivial
  |fz t=>exact λ⟨v,e,r⟩=>⟨v,e,h.rep (λa s=>R.sAv s) r⟩
  |ow ts=>
   intro ⟨a,ws,e1,e2,e3,e4,r⟩;refine⟨a,ws,e1,e2,e3,?_,h.repL (λa s=>R.sAv s) r⟩;by_cases s:SA B φ τ a
   .rcases s with s|⟨j,s,hj⟩
    .exact absurd e3 (R.f0 a (R.s0 a s))
    .have:=R.inj i j a ts hi e2 s;subst this;rw[hi] at hj;cases hj
   .exact h.keep a _ e4 s
  |st=>exact λz=>z
  |ob a=>exact λz=>z
  |od ks=>
   intro ⟨a,hk,e1,e2,e3,e4,r⟩;refine⟨a,hk,e1,e2,e3,?_,Paired.mapP r λp q z=>⟨z.1,h.rep (λa s=>R.sAv s) z.2⟩⟩;by_cases s:SA B φ τ a
   .rcases s with s|⟨j,s,hj⟩
    .exact absurd e3 (R.f0 a (R.s0 a s))
    .have:=R.injG i j a (by rw[hi];trivial) e2 s;subst this;rw[hi] at hj;cases hj
   .exact h.keep a _ e4 s
  |sc ns=>
   intro ⟨a,e,l,q,tb⟩;refine⟨a,e,l,?_,tb.hx R h⟩;rcases q with ⟨o,q⟩|q
   .exact .inl ⟨o,h.keep a _ q (lO R q)⟩
   .exact .inr q
 gh:=λp hp=>h.rep (λa s=>R.sAv s) (R.gh p hp)
end
abbrev DE:=xW->(Tr->Prop)->Prop
abbrev DT:=xW->(Bool->Prop)->Prop
abbrev DA:=xW->(List Tr->Prop)->Prop
structure rN where
 nx:xW->Prop
 rt:Tr->Prop
 bk:xW->Prop:=λ_=>False
 ct:xW->Prop:=λ_=>False
abbrev DS:=rN->xW->Prop
abbrev DG:=Tr->xW->(xW->Prop)->Prop
abbrev DGs:=List Tr->xW->(xW->Prop)->Prop
def x_ (K:xt)(b:Bool)(te:TE)(d:DE):Prop:=∀(B:FB) (φ:zg) (σ:St) (τ:xW) (H:Hp) (Q:VK) (KK:Tr->Prop),RS K B φ σ τ H->d τ KK->
 (∀t v H',HX B φ τ H H'->KK t->Rep (AvB b B φ τ) H' t v->Q v H')->te σ H Q
def zp (K:xt)(te:TE)(d:DE):Prop:=∀(B:FB) (φ:zg) (σ:St) (τ:xW) (H:Hp) (Q:VK) (KK:Tr->Prop),RS K B φ σ τ H->d τ KK->
 (∀ts a ws H',HX B φ τ H H'->KK (.lst ts)->H a=none->H' a=some (.lst ws)->yx (λc=>Av B φ c\/c=a) H' ts ws->Q (.ref a) H')->te σ H Q
def OkT (K:xt)(t:TT)(d:DT):Prop:=∀(B:FB) (φ:zg) (σ:St) (τ:xW) (H:Hp) (Q:Bool->Hp->Prop) (KK:Bool->Prop),RS K B φ σ τ H->d τ KK->
 (∀b H',HX B φ τ H H'->KK b->Q b H')->t σ H Q
def OkA (K:xt)(b:Bool)(n:Nat)(ta:TA)(d:DA):Prop:=∀(B:FB) (φ:zg) (σ:St) (τ:xW) (H:Hp) (Q:List V->Hp->Prop) (KK:List Tr->Prop),RS K B φ σ τ H->d τ KK->
 (∀ts vs H',HX B φ τ H H'->KK ts->ts.length=n->yx (AvB b B φ τ) H' ts vs->Q vs H')->ta σ H Q
def HXA (B:FB)(φ:zg)(H H':Hp):Prop:=∀a o,H a=some o->¬Av B φ a->H' a=some o
def OkG (K:xt)(g:TG)(d:DG):Prop:=∀(B:FB) (φ:zg) (σ:St) (τ:xW) (H:Hp) (t:Tr) (v:V) (Q:St->Hp->Prop) (KK:xW->Prop),RS K B φ σ τ H->Rep (Av B φ) H t v->d t τ KK->
 (∀ φ' σ' τ' H',RS K B φ' σ' τ' H'->(∀a,Av B φ' a->Av B φ a)->HXA B φ H H'->KK τ'->Q σ' H')->g v σ H Q
def nj (K:xt)(g:TGs)(d:DGs):Prop:=∀(B:FB) (φ:zg) (σ:St) (τ:xW) (H:Hp) (t:List Tr) (v:List V) (Q:St->Hp->Prop) (KK:xW->Prop),RS K B φ σ τ H->yx (Av B φ) H t v->d t τ KK->
 (∀ φ' σ' τ' H',RS K B φ' σ' τ' H'->(∀a,Av B φ' a->Av B φ a)->HXA B φ H H'->KK τ'->Q σ' H')->g v σ H Q
def FrL (F:Addr->Prop)(H H':Hp)(t:Tr)(v:V):Prop:=∃a ts ws,v=.ref a/\t=.lst ts/\H a=none/\H' a=some (.lst ws)/\yx (λc=>F c\/c=a) H' ts ws
structure CV (B:FB)(H:Hp):Prop where
 ext:∀a o,B.H0 a=some o->¬B.S0 a->H a=some o
 st:∀a,B.S0 a->v_ a H
structure EOk (K:xt)(B:FB)(fr:Bool)(E:Ends)(G:rN):Prop where
 nx:∀ φ σ τ H,RS K B φ σ τ H->G.nx τ->E.nx σ H
 bk:∀ φ σ τ H,RS K B φ σ τ H->G.bk τ->E.bk σ H
 ct:∀ φ σ τ H,RS K B φ σ τ H->G.ct τ->E.ct σ H
 rt:∀t v H,Rep B.F0 H t v->CV B H->G.rt t->(fr=true->FrL B.F0 B.H0 H t v)->E.rt v H
def zM (K:xt)(fr:Bool)(T:TS)(D:DS):Prop:=∀(B:FB) (φ:zg) (σ:St) (τ:xW) (H:Hp) (E:Ends) (G:rN),RS K B φ σ τ H->D G τ->EOk K B fr E G->T E σ H
section
variable {K:xt} {B:FB} {φ:zg} {σ:St} {τ:xW} {H H' H'':Hp}
def RS.extB (R:RS K B φ σ τ H):CV B H:=⟨R.ext,λa s=>R.sst a (.inl s)⟩
theorem An (R:RS K B φ σ τ H)(h:Rep (AvB b B φ τ) H' t v):Rep (Wk B φ τ) H' t v:=by
 cases b with
 |true=>exact wZ (λa o e n=>⟨e,λw=>n (R.wAv w)⟩) t v h
 |false=>exact h
theorem R6 (R:RS K B φ σ τ H)(h:yx (AvB b B φ τ) H' t v):yx (Wk B φ τ) H' t v:=by
 cases b with
 |true=>exact uA (λa o e n=>⟨e,λw=>n (R.wAv w)⟩) t v h
 |false=>exact h
def x_.weak (h:x_ K b te d):x_ K false te d:=λB φ σ τ H Q KK R hd q=>h B φ σ τ H Q KK R hd λt v H' x k r=>q t v H' x k (An R r)
theorem zp.e (h:zp K te d):x_ K true te d:=λB φ σ τ H Q KK R hd q=>h B φ σ τ H Q KK R hd λts a ws H' x k e e' r=>q _ _ H' x k ⟨a,ws,rfl,λz=>R.dom z e,e',uA (λc o e n=>⟨e,λz=>n (.inl z)⟩) _ _ r⟩
def wL (i:Nat):DE:=λτ KK=>match yp τ i with|.fz t=>KK t|_=>False
def Fd (i:Nat):DE:=λτ KK=>match yp τ i with|.fz t=>KK t|.ow ts=>KK (.lst ts)|_=>False
def dC (t:Tr):DE:=λ_ KK=>KK t
theorem xc:x_ K true (uk i) (wL i):=λB φ σ τ H Q KK R hd q=>by
 have en:=R.ent i;unfold wL at hd;revert en hd;cases yp τ i with
 |fz t=>exact λk ⟨v,e,r⟩=>⟨v,e,q t v H (HX.refl R) k r⟩
 |_=>exact λz _=>z.elim
def Hx (R:RS K B φ σ τ H)(hi:yp τ i=.ow ts)(e2:φ i=some a)(e3:B.H0 a=none):¬Wk B φ τ a:=λz=>by
 rcases z with z|z|⟨j,z,hj⟩
 .exact R.f0 a z e3
 .exact R.f0 a (R.s0 a z) e3
 .have:=R.inj i j a ts hi e2 z;subst this;rw[hi] at hj;cases hj
theorem j7:x_ K false (uk i) (Fd i):=λB φ σ τ H Q KK R hd q=>by
 have en:=R.ent i;unfold Fd at hd;revert en hd;cases hi:yp τ i with
 |fz t=>exact λk ⟨v,e,r⟩=>⟨v,e,q t v H (HX.refl R) k (An (b:=true) R r)⟩
 |ow ts=>intro k ⟨a,ws,e1,e2,e3,e4,r⟩;exact⟨_,e1,q _ _ H (HX.refl R) k ⟨a,ws,rfl,Hx R hi e2 e3,e4,R6 (b:=true) R r⟩⟩
 |_=>exact λz _=>z.elim
def jA (h:aV t=some v:=by rfl):x_ K true (tC v) (dC t):=λB φ σ τ H Q KK R hd q=>q t v H (HX.refl R) hd (dM h)
def d2 (f:Tr->Tr->(Tr->Prop)->Prop)(da db:DE):DE:=λτ KK=>da τ λx=>db τ λy=>f x y KK
def OpS (r:R2)(f:Tr->Tr->(Tr->Prop)->Prop):Prop:=∀(F G:Addr->Prop) (H:Hp) (x y:V) (t u:Tr) (KK:Tr->Prop) (Q:VK),Rep F H t x->Rep G H u y->f t u KK->(∀w v,aV w=some v->KK w->Q v H)->r x y H Q
def xl (hr:OpS r f)(ha:x_ K b ta da)(hb:x_ K c tb db):x_ K true (tOp r ta tb) (d2 f da db):=λB φ σ τ H Q KK R hd q=>
 ha B φ σ τ H _ _ R hd λt v H1 x1 k1 r1=>hb B φ σ τ H1 _ _ (R.hx x1) k1 λu w H2 x2 k2 r2=>hr _ _ H2 v w t u KK Q (x2.rep (λa s=>R.sB s) r1) r2 k2 λz v' e k=>q z v' H2 (x1.trans x2) k (dM e)
def fI (C:Int->Int->Prop)(g:Int->Int->Tr)(x y:Tr)(KK:Tr->Prop):Prop:=match x,y with|.int i,.int j=>C i j/\KK (g i j)|_,_=>False
def fI0 (g:Int->Int->Tr)(x y:Tr)(KK:Tr->Prop):Prop:=match x,y with|.int i,.int j=>KK (g i j)|_,_=>False
def eR (h:∀i j,aV (g' i j)=some (g i j)):OpS (rI C g) (fI C g'):=by
 intro F G H x y t u KK Q r1 r2 hf q;unfold fI at hf;split at hf
 .rename_i i j;cases (show x=.int i from r1);cases (show y=.int j from r2);exact⟨i,j,rfl,rfl,hf.1,q _ _ (h i j) hf.2⟩
 .exact hf.elim
def tY (h:∀i j,aV (g' i j)=some (g i j)):OpS (rI0 g) (fI0 g'):=by
 intro F G H x y t u KK Q r1 r2 hf q;unfold fI0 at hf;split at hf
 .rename_i i j;cases (show x=.int i from r1);cases (show y=.int j from r2);exact⟨i,j,rfl,rfl,q _ _ (h i j) hf⟩
 .exact hf.elim
abbrev Mw:=fI0 λi j=>.int (i+j)
abbrev MD:=fI0 λi j=>.int (i-j)
abbrev fLe:=fI0 λi j=>.bl (decide (i<=j))
abbrev fGt:=fI0 λi j=>.bl (decide (j<i))
abbrev fGe:=fI0 λi j=>.bl (decide (j<=i))
def vt:OpS (rI0 λi j=>.int (i+j)) Mw:=tY λ_ _=>rfl
def wo:OpS (rI0 λi j=>.int (i-j)) MD:=tY λ_ _=>rfl
def hJ:OpS (rI0 λi j=>.bl (decide (i<=j))) fLe:=tY λ_ _=>rfl
def hG:OpS (rI0 λi j=>.bl (decide (j<i))) fGt:=tY λ_ _=>rfl
def Qj:OpS (rI0 λi j=>.bl (decide (j<=i))) fGe:=tY λ_ _=>rfl
def Bd (i:Int):Prop:=i.natAbs<2^2000
def fP (h1:-(10^100)<=i)(h2:i<=10^100):Bd i:=by
 have:i.natAbs<=10^100:=by lia
 exact je this (by decide +kernel)
def log2_lt_of (h:n<2^k)(hk:0<k):n.log2<k:=by
 by_cases h0:n=0
 .subst h0;simpa using hk
 .exact(Nat.log2_lt h0).mpr h
def Bd.bits (h:Bd i):Builtin.Int.intBits i<=2000:=by
 unfold Builtin.Int.intBits;split
 .exact gD _
 .have:=log2_lt_of h (by decide);lia
def CM (i j:Int):Prop:=Bd i/\Bd j
def CM.ok (h:CM i j):IntMulOk i j:=PyProof.Rows.mulOk_of_bits h.1.bits h.2.bits (by decide)
section
variable {X:Cx}
def yr:zB X (binaryOp .Mult) (rI CM λi j=>.int (i*j)):=opI λ_ _ _ _ _ _ _ hc q=>mul_int q hc.ok
def CDv (_i j:Int):Prop:=j≠0/\Bd j
def uF:zB X (binaryOp .FloorDiv) (rI CDv λi j=>.int (i.fdiv j)):=opI λi j _ _ _ _ _ hc q=>floordiv_int hc.1 q (.inl (PyProof.noPylong_of_log2 (Nat.lt_trans (log2_lt_of hc.2 (by decide)) (by decide))))
end
abbrev MC:=fI CM λi j=>.int (i*j)
abbrev n_:=fI CDv λi j=>.int (i.fdiv j)
abbrev MB:=fI (λ_ j=>j≠0) λi j=>.int (i.fmod j)
def yu:OpS (rI CM λi j=>.int (i*j)) MC:=eR λ_ _=>rfl
def uG:OpS (rI CDv λi j=>.int (i.fdiv j)) n_:=eR λ_ _=>rfl
def cB:OpS (rI (λ_ j=>j≠0) λi j=>.int (i.fmod j)) MB:=eR λ_ _=>rfl
def d1 (f:Tr->(Tr->Prop)->Prop)(da:DE):DE:=λτ KK=>da τ λx=>f x KK
def Fx (x:Tr)(KK:Tr->Prop):Prop:=match x with|.int i=>KK (.int (-i))|_=>False
def wN (ha:x_ K b ta da):x_ K true (tUn (rU λi=>.int (-i)) ta) (d1 Fx da):=λB φ σ τ H Q KK R hd q=>
 ha B φ σ τ H _ _ R hd λt v H1 x1 k1 r1=>by
  cases t with
  |int i=>cases (show v=.int i from r1);exact⟨i,rfl,q _ _ H1 x1 k1 rfl⟩
  |_=>exact k1.elim
def lT:Tr->Bool
 |.non=>true
 |_=>false
theorem IK (r:Rep F H t v):decide (v=.non)=lT t:=by
 cases t with
 |non=>cases (show v=.non from r);rfl
 |bl b=>cases (show v=.bl b from r);rfl
 |int b=>cases (show v=.int b from r);rfl
 |str b=>cases (show v=.str b from r);rfl
 |emp=>obtain⟨a,e,_⟩:=r;subst e;rfl
 |tup ts=>obtain⟨a,ws,e,_⟩:=r;subst e;rfl
 |lst ts=>obtain⟨a,ws,e,_⟩:=r;subst e;rfl
def tV (ha:x_ K b ta da):x_ K true (JF ta) (d1 (λx KK=>KK (.bl (lT x))) da):=λB φ σ τ H Q KK R hd q=>
 ha B φ σ τ H _ _ R hd λt v H1 x1 k1 r1=>by show Q (.bl (decide (v=.non))) H1;rw[IK r1];exact q _ _ H1 x1 k1 rfl
def Hf (ha:x_ K b ta da):x_ K true (JL ta) (d1 (λx KK=>KK (.bl (!lT x))) da):=λB φ σ τ H Q KK R hd q=>
 ha B φ σ τ H _ _ R hd λt v H1 x1 k1 r1=>by show Q (.bl (!decide (v=.non))) H1;rw[IK r1];exact q _ _ H1 x1 k1 rfl
def fB (x:Tr)(KK:Bool->Prop):Prop:=match x with|.bl b=>KK b|_=>False
def nW (d:DE):DT:=λτ KK=>d τ λx=>fB x KK
def zU (ha:x_ K b ta da):OkT K (tB ta) (nW da):=λB φ σ τ H Q KK R hd q=>
 ha B φ σ τ H _ _ R hd λt v H1 x1 k1 r1=>by
  cases t with
  |bl i=>cases (show v=.bl i from r1);exact⟨i,rfl,q _ H1 x1 k1⟩
  |_=>exact k1.elim
def yB (ha:x_ K b ta da):OkT K (BV ta) (nW da):=zU ha
def E3 (a b:DT):DT:=λτ KK=>a τ λc=>if c=true then b τ KK else KK false
def dOr (a b:DT):DT:=λτ KK=>a τ λc=>if c=true then KK true else b τ KK
def L9 (a:DT):DT:=λτ KK=>a τ λc=>KK (!c)
def jB (ha:OkT K ta da)(hb:OkT K tb db):OkT K (Jz ta tb) (E3 da db):=λB φ σ τ H Q KK R hd q=>
 ha B φ σ τ H _ _ R hd λc H1 x1 k1=>by
  cases c with
  |true=>exact kR (hb B φ σ τ H1 _ _ (R.hx x1) k1 λd H2 x2 k2=>q d H2 (x1.trans x2) k2)
  |false=>exact qd (q false H1 x1 k1)
def uc (ha:OkT K ta da)(hb:OkT K tb db):OkT K (tOr ta tb) (dOr da db):=λB φ σ τ H Q KK R hd q=>
 ha B φ σ τ H _ _ R hd λc H1 x1 k1=>by
  cases c with
  |false=>exact qd (hb B φ σ τ H1 _ _ (R.hx x1) k1 λd H2 x2 k2=>q d H2 (x1.trans x2) k2)
  |true=>exact kR (q true H1 x1 k1)
def uE (ha:OkT K ta da):OkT K (JK ta) (L9 da):=λB φ σ τ H Q KK R hd q=>ha B φ σ τ H _ _ R hd λc H1 x1 k1=>q (!c) H1 x1 k1
def L6 (a b:DE):DE:=λτ KK=>a τ λx=>fB x λc=>if c=true then b τ KK else KK (.bl false)
def Ma (a b:DE):DE:=λτ KK=>a τ λx=>fB x λc=>if c=true then KK (.bl true) else b τ KK
def L_ (a:DE):DE:=λτ KK=>a τ λx=>fB x λc=>KK (.bl (!c))
def aF (ha:x_ K b ta da)(hb:x_ K c tb db):x_ K c (JA ta tb) (L6 da db):=λB φ σ τ H Q KK R hd q=>
 ha B φ σ τ H _ _ R hd λt v H1 x1 k1 r1=>by
  cases t with
  |bl i=>
   cases (show v=.bl i from r1);refine⟨i,rfl,?_⟩;cases i with
   |true=>exact kR (hb B φ σ τ H1 _ _ (R.hx x1) k1 λd w H2 x2 k2 r2=>q d w H2 (x1.trans x2) k2 r2)
   |false=>exact qd (q _ _ H1 x1 k1 (dM rfl))
  |_=>exact k1.elim
def b8 (ha:x_ K b ta da)(hb:x_ K c tb db):x_ K c (JN ta tb) (Ma da db):=λB φ σ τ H Q KK R hd q=>
 ha B φ σ τ H _ _ R hd λt v H1 x1 k1 r1=>by
  cases t with
  |bl i=>
   cases (show v=.bl i from r1);refine⟨i,rfl,?_⟩;cases i with
   |false=>exact qd (hb B φ σ τ H1 _ _ (R.hx x1) k1 λd w H2 x2 k2 r2=>q d w H2 (x1.trans x2) k2 r2)
   |true=>exact kR (q _ _ H1 x1 k1 (dM rfl))
  |_=>exact k1.elim
def Hg (ha:x_ K b ta da):x_ K true (JM ta) (L_ da):=λB φ σ τ H Q KK R hd q=>
 ha B φ σ τ H _ _ R hd λt v H1 x1 k1 r1=>by
  cases t with
  |bl i=>cases (show v=.bl i from r1);exact⟨i,rfl,q _ _ H1 x1 k1 rfl⟩
  |_=>exact k1.elim
def L7 (f f':Tr->Tr->(Tr->Prop)->Prop)(da db dc:DE):DE:=λτ KK=>da τ λx=>db τ λy=>f x y λz=>fB z λk=>if k=true then dc τ λw=>f' y w KK else KK (.bl false)
def OZ (hr:OpS r f)(hr':OpS r' f')(ha:x_ K b1 ta da)(hb:x_ K b2 tb db)(hc:x_ K b3 tc dc) :
  x_ K true (JB r r' ta tb tc) (L7 f f' da db dc):=λB φ σ τ H Q KK R hd q=>
 ha B φ σ τ H _ _ R hd λt v H1 x1 k1 r1=>hb B φ σ τ H1 _ _ (R.hx x1) k1 λu w H2 x2 k2 r2=>
  hr _ _ H2 v w t u _ _ (x2.rep (λa s=>R.sB s) r1) r2 k2 λz v' e k=>by
   cases z with
   |bl i=>
    cases e;refine⟨i,rfl,?_⟩;cases i with
    |true=>exact kR (hc B φ σ τ H2 _ _ (R.hx (x1.trans x2)) k λw3 v3 H3 x3 k3 r3=>hr' _ _ H3 w v3 u w3 KK Q (x3.rep (λa s=>R.sB s) r2) r3 k3 λz' v'' e' k'=>q z' v'' H3 ((x1.trans x2).trans x3) k' (dM e'))
    |false=>exact qd (q _ _ H2 (x1.trans x2) k (dM rfl))
   |_=>exact k.elim
def js:DA:=λ_ KK=>KK []
def qY (a:DE)(r:DA):DA:=λτ KK=>a τ λx=>r τ λxs=>KK (x::xs)
def uP:OkA K b 0 vZ js:=λB φ σ τ H Q KK R hd q=>q [] [] H (HX.refl R) hd rfl rfl
def zw (he:x_ K b te de)(ha:OkA K b n ta da):OkA K b (n+1) (uB te ta) (qY de da):=λB φ σ τ H Q KK R hd q=>he B φ σ τ H _ _ R hd λt v H1 x1 k1 r1=>ha B φ σ τ H1 _ _ (R.hx x1) k1 λts vs H2 x2 k2 l2 r2=>q (t::ts) (v::vs) H2 (x1.trans x2) k2 (by rw[wU,l2]) ⟨v,vs,rfl,x2.rep (λa s=>R.sB s) r1,r2⟩
def E_ (a:DA):DE:=λτ KK=>a τ λxs=>KK (.tup xs)
def sV (a:DA):DE:=λτ KK=>a τ λxs=>KK (.lst xs)
def cI (hp:H p=none)(r:Rep F H t v):Rep F (upd H p o) t v:=wZ (λa u e n=>⟨by rw[yl (zq e hp)];exact e,n⟩) t v r
def k8 (hp:H p=none)(r:yx F H t v):yx F (upd H p o) t v:=uA (λa u e n=>⟨by rw[yl (zq e hp)];exact e,n⟩) t v r
def dJ (hp:H p=none)(r:yx F H t v):yx (λc=>F c\/c=p) (upd H p o) t v:=uA (λa u e n=>⟨by rw[yl (zq e hp)];exact e,λz=>z.elim n (zq e hp)⟩) t v r
def yF (ha:OkA K b n ta da)(hn:n<=sizeLine:=by decide):x_ K b (JR ta) (E_ da):=λB φ σ τ H Q KK R hd q=>
 ha B φ σ τ H _ _ R hd λts vs H1 x1 k1 l1 r1=>⟨by rw[<-r1.len,l1];exact hn,λp hp=>q _ _ _ (x1.trans (HX.new (R.hx x1) hp _)) k1 ⟨p,vs,rfl,λz=>(R.hx x1).domB z hp,zA,k8 hp r1⟩⟩
def kW (ha:OkA K true n ta da)(hn:n<=sizeLine:=by decide):zp K (BU ta) (sV da):=λB φ σ τ H Q KK R hd q=>
 ha B φ σ τ H _ _ R hd λts vs H1 x1 k1 l1 r1=>⟨by rw[<-r1.len,l1];exact hn,λp hp=>q ts p vs _ (x1.trans (HX.new (R.hx x1) hp _)) k1 (x1.none hp) zA (dJ hp r1)⟩
def vO (ha:OkA K b n ta da)(hn:n<=sizeLine:=by decide):x_ K b (BU ta) (sV da):=λB φ σ τ H Q KK R hd q=>
 ha B φ σ τ H _ _ R hd λts vs H1 x1 k1 l1 r1=>⟨by rw[<-r1.len,l1];exact hn,λp hp=>q _ _ _ (x1.trans (HX.new (R.hx x1) hp _)) k1 ⟨p,vs,rfl,λz=>(R.hx x1).domB z hp,zA,k8 hp r1⟩⟩
end
def getT:List α->Nat->Option α
 |[],_=>none
 |x::_,0=>some x
 |_::r,n+1=>getT r n
theorem tL:∀(l:List α) (n:Nat),getT l n=l[n]?
 |[],_=>by simp[getT]
 |_::_,0=>by simp[getT]
 |_::r,n+1=>by simp[getT,tL r n]
def atT (ts:List α):Int->Option α
 |.ofNat n=>getT ts n
 |.negSucc n=>if n<ts.length then getT ts (ts.length-1-n) else none
theorem Ef (ts:List α)(i:Int):atT ts i=atI ts i:=by
 unfold atI ixN;cases i with
 |ofNat n=>
  show getT ts n=_;rw[tL];have h0:(0:Int)<=Int.ofNat n:=Cg n;rw[xK h0];by_cases h:(Int.ofNat n)<(ts.length:Int)
  .rw[xK h];rfl
  .rw[xH h];have:ts.length<=n:=by have h':¬((n:Int)<(ts.length:Int)):=h;lia
   rw[sf this];rfl
 |negSucc n=>
  show(if n<ts.length then getT ts (ts.length-1-n) else none)=_;have h0:¬(0:Int)<=Int.negSucc n:=by lia
  rw[xH h0];by_cases h:n<ts.length
  .rw[xK h,tL,xK (by lia)];show ts[ts.length-1-n]?=ts[(Int.negSucc n+(ts.length:Int)).toNat]?;congr 1;lia
  .rw[xH h,xH (by lia)];rfl
section
variable {K:xt} {B:FB} {φ:zg} {σ:St} {τ:xW} {H H' H'':Hp}
theorem yx.at (r:yx F H ts ws)(h:atT ts i=some t):∃w,atI ws i=some w/\Rep F H t w:=by
 rw[Ef] at h;unfold atI at h ⊢;rw[<-r.len];cases e:ixN ts.length i with
 |none=>rw[e] at h;cases h
 |some j=>rw[e] at h;exact r.getT h
def wM (o:Option Tr)(KK:Tr->Prop):Prop:=match o with|some t=>KK t|none=>False
def fIx (x y:Tr)(KK:Tr->Prop):Prop:=match x,y with|.tup ts,.int i=>wM (atT ts i) KK|.lst ts,.int i=>wM (atT ts i) KK|_,_=>False
def wd (ha:x_ K b ta da)(hb:x_ K c tb db):x_ K b (tOp (rIx K) ta tb) (d2 fIx da db):=λB φ σ τ H Q KK R hd q=>
 ha B φ σ τ H _ _ R hd λt v H1 x1 k1 r1=>hb B φ σ τ H1 _ _ (R.hx x1) k1 λu w H2 x2 k2 r2=>by
  have r1':=x2.rep (λa s=>R.sB s) r1;unfold fIx at k2;split at k2
  .rename_i ts i;obtain⟨a,ws,e,n,ha',rl⟩:=r1';cases (show w=.int i from r2);subst e;cases e:atT ts i with
   |none=>rw[e] at k2;exact k2.elim
   |some z=>rw[e] at k2;obtain⟨y,e1,e2⟩:=rl.at e;exact .inr (.inl ⟨a,ws,i,y,rfl,rfl,yR.of ha',e1,q z y H2 (x1.trans x2) k2 e2⟩)
  .rename_i ts i;obtain⟨a,ws,e,n,ha',rl⟩:=r1';cases (show w=.int i from r2);subst e;cases e:atT ts i with
   |none=>rw[e] at k2;exact k2.elim
   |some z=>rw[e] at k2;obtain⟨y,e1,e2⟩:=rl.at e;exact .inl ⟨a,ws,i,y,rfl,rfl,yt.of ha',e1,q z y H2 (x1.trans x2) k2 e2⟩
  .exact k2.elim
def My (ts:List Tr)(y:Tr)(KK:Tr->Prop):Prop:=match y with|.int k=>wM (atT ts k) KK|_=>False
def E6 (i:Nat)(db:DE):DE:=λτ KK=>match yp τ i with|.ow ts=>db τ λy=>My ts y KK|_=>False
def tZ (R:RS K B φ σ τ H)(x:HX B φ τ H H')(hi:yp τ i=.ow ts)(e1:σ[i]?=some (some (.ref a))):∃ws,H' a=some (.lst ws)/\yx (Av B φ) H' ts ws/\φ i=some a/\B.H0 a=none:=by have en2:=(R.hx x).ent i;rw[hi] at en2;obtain⟨a',ws',e1',e2,e3,e4',r'⟩:=en2;rw[e1] at e1';cases e1';exact⟨ws',e4',r',e2,e3⟩
theorem dA (hb:x_ K c tb db):x_ K true (tOp (rIx K) (uk i) tb) (E6 i db):=λB φ σ τ H Q KK R hd q=>by
 have en:=R.ent i;unfold E6 at hd;revert en hd;cases hi:yp τ i with
 |ow ts=>
  intro hd ⟨a,ws,e1,e2,e3,e4,r⟩;refine⟨_,e1,hb B φ σ τ H _ _ R hd λu w H2 x2 k2 r2=>?_⟩;obtain⟨ws',e4',r',_⟩:=tZ R x2 hi e1;cases u with
  |int k=>
   cases (show w=.int k from r2);have k2:wM (atT ts k) KK:=k2;cases e:atT ts k with
   |none=>rw[e] at k2;exact k2.elim
   |some z=>rw[e] at k2;obtain⟨y,f1,f2⟩:=r'.at e;exact .inl ⟨a,ws',k,y,rfl,rfl,yt.of e4',f1,q z y H2 x2 k2 f2⟩
  |_=>exact k2.elim
 |_=>exact λz _=>z.elim
abbrev DO:=xW->(Option Int->Prop)->Prop
def OkO (K:xt)(t:TO)(d:DO):Prop:=∀(B:FB) (φ:zg) (σ:St) (τ:xW) (H:Hp) (Q:Option Int->Hp->Prop) (KK:Option Int->Prop),RS K B φ σ τ H->d τ KK->(∀o H',HX B φ τ H H'->KK o->Q o H')->t σ H Q
def lD:DO:=λ_ KK=>KK none
def lE (d:DE):DO:=λτ KK=>d τ λx=>match x with|.int i=>KK (some i)|_=>False
def gT:OkO K JJ lD:=λB φ σ τ H Q KK R hd q=>q none H (HX.refl R) hd
def gU (h:x_ K b te d):OkO K (JQ te) (lE d):=λB φ σ τ H Q KK R hd q=>
 h B φ σ τ H _ _ R hd λt v H1 x1 k1 r1=>by
  cases t with
  |int i=>cases (show v=.int i from r1);exact⟨i,rfl,q _ H1 x1 k1⟩
  |_=>exact k1.elim
def wK (xs:List α)(lo hi:Option Int):List α:=(xs.drop (HT.yw xs.length 0 lo)).take (HT.yw xs.length xs.length hi-HT.yw xs.length 0 lo)
def yx.cut (r:yx F H ts ws)(lo hi:Option Int):yx F H (wK ts lo hi) (qv ws lo hi):=by unfold wK qv;rw[<-r.len];exact qE.mpr (eY _ (eW _ (qE.mp r)))
def dSl (d:DE)(dl dh:DO):DE:=λτ KK=>d τ λx=>dl τ λlo=>dh τ λhi=>match x with|.tup ts=>KK (.tup (wK ts lo hi))|.lst ts=>KK (.lst (wK ts lo hi))|_=>False
def Mb (d:DE)(dl dh:DO):DE:=λτ KK=>d τ λx=>dl τ λlo=>dh τ λhi=>match x with|.lst ts=>KK (.lst (wK ts lo hi))|_=>False
def Hh {b:Bool}{te:TE}{tl th:TO}{d:DE}{dl dh:DO}(h:x_ K b te d)(hl:OkO K tl dl)(hh:OkO K th dh):x_ K b (tSl (t_ K) te tl th) (Mb d dl dh):=λB φ σ τ H Q KK R hd q=>
 h B φ σ τ H _ _ R hd λt v H1 x1 k1 r1=>hl B φ σ τ H1 _ _ (R.hx x1) k1 λlo H2 x2 k2=>hh B φ σ τ H2 _ _ (R.hx (x1.trans x2)) k2 λhi H3 x3 k3=>by
  have r3:=(x2.trans x3).rep (λa s=>R.sB s) r1;have x:=(x1.trans x2).trans x3;cases t with
  |lst ts=>obtain⟨a,ws,e,n,ha,rl⟩:=r3;exact⟨a,ws,e,yt.of ha,λp hp=>q _ _ _ (x.trans (HX.new (R.hx x) hp _)) k3 ⟨p,_,rfl,λz=>(R.hx x).domB z hp,zA,k8 hp (rl.cut lo hi)⟩⟩
  |_=>exact k3.elim
def E9 (i:Nat)(dl dh:DO):DE:=λτ KK=>match yp τ i with|.ow ts=>dl τ λlo=>dh τ λhi=>KK (.lst (wK ts lo hi))|_=>False
theorem Hj {i:Nat}{tl th:TO}{dl dh:DO}(hl:OkO K tl dl)(hh:OkO K th dh):zp K (tSl (t_ K) (uk i) tl th) (E9 i dl dh):=λB φ σ τ H Q KK R hd q=>by
 have en:=R.ent i;unfold E9 at hd;revert en hd;cases hi:yp τ i with
 |ow ts=>intro hd ⟨a,ws,e1,e2,e3,e4,r⟩;refine⟨_,e1,hl B φ σ τ H _ _ R hd λlo H2 x2 k2=>hh B φ σ τ H2 _ _ (R.hx x2) k2 λhi' H3 x3 k3=>?_⟩;have x:=x2.trans x3;obtain⟨ws',e4',r',_⟩:=tZ R x hi e1;exact⟨a,ws',rfl,yt.of e4',λp hp=>q _ _ _ _ (x.trans (HX.new (R.hx x) hp _)) k3 (x.none hp) zA (dJ hp (r'.cut lo hi'))⟩
 |_=>exact λz _=>z.elim
def Fq (x y:Tr)(KK:Tr->Prop):Prop:=match x,y with|.lst ts,.lst us=>ts.length+us.length<=sizeLine/\KK (.lst (ts++us))|_,_=>False
def eJ (ha:x_ K true ta da)(hb:x_ K true tb db):zp K (tOp Ae ta tb) (d2 Fq da db):=λB φ σ τ H Q KK R hd q=>
 ha B φ σ τ H _ _ R hd λt v H1 x1 k1 r1=>hb B φ σ τ H1 _ _ (R.hx x1) k1 λu w H2 x2 k2 r2=>by
  have r1':=x2.rep (F:=Av B φ) (λa s=>R.sAv s) r1;have x:=x1.trans x2;unfold Fq at k2;split at k2
  .rename_i ts us;obtain⟨a,ws,e,n,ha',rl⟩:=r1';obtain⟨a2,ws2,e2,n2,ha2,rl2⟩:=r2;exact⟨a,a2,ws,ws2,e,e2,ha',ha2,by rw[<-rl.len,<-rl2.len];exact k2.1,λp hp=>q _ _ _ _ (x.trans (HX.new (R.hx x) hp _)) k2.2 (x.none hp) zA (dJ hp (rl.app rl2))⟩
  .exact k2.elim
def Fy (x y:Tr)(KK:Tr->Prop):Prop:=match x,y with|.lst ts,.int k=>(0<=k/\k<2^63)/\ts.length*k.toNat<=sizeLine/\KK (.lst (List.replicate k.toNat ts).flatten)|_,_=>False
theorem cH (r:yx F H ts ws):∀n:Nat,yx F H (List.replicate n ts).flatten (List.replicate n ws).flatten
 |0=>rfl
 |n+1=>by rw[fA,fA,rB,rB];exact r.app (cH r n)
def P4 (ha:x_ K true ta da)(hb:x_ K c tb db):zp K (tOp Ak ta tb) (d2 Fy da db):=λB φ σ τ H Q KK R hd q=>
 ha B φ σ τ H _ _ R hd λt v H1 x1 k1 r1=>hb B φ σ τ H1 _ _ (R.hx x1) k1 λu w H2 x2 k2 r2=>by
  have r1':=x2.rep (F:=Av B φ) (λa s=>R.sAv s) r1;have x:=x1.trans x2;unfold Fy at k2;split at k2
  .rename_i ts k;obtain⟨a,ws,e,n,ha',rl⟩:=r1';exact⟨a,k,ws,e,r2,ha',by have:=k2.1.1;lia,k2.1.2,by rw[<-rl.len];exact k2.2.1,λp hp=>q _ _ _ _ (x.trans (HX.new (R.hx x) hp _)) k2.2.2 (x.none hp) zA (dJ hp (cH rl _))⟩
  .exact k2.elim
def dCB (f:List Tr->(Tr->Prop)->Prop)(da:DA):DE:=λτ KK=>da τ λxs=>f xs KK
def CbS (r:List V->Hp->VK->Prop)(f:List Tr->(Tr->Prop)->Prop):Prop:=∀(F:Addr->Prop) (H:Hp) (vs:List V) (ts:List Tr) (KK:Tr->Prop) (Q:VK),yx F H ts vs->f ts KK->(∀w v,aV w=some v->KK w->Q v H)->r vs H Q
def zO (hr:CbS r f)(ha:OkA K b n ta da):x_ K true (tCB r ta) (dCB f da):=λB φ σ τ H Q KK R hd q=>ha B φ σ τ H _ _ R hd λts vs H1 x1 k1 l1 r1=>hr _ H1 vs ts KK Q r1 k1 λw v e k=>q w v H1 x1 k (dM e)
def qD (h:yx F H [t] vs):∃v,vs=[v]/\Rep F H t v:=by obtain⟨w,r,e,h1,h2⟩:=h;cases (show r=[] from h2);exact⟨w,e,h1⟩
def aM (h:yx F H [t,u] vs):∃v w,vs=[v,w]/\Rep F H t v/\Rep F H u w:=by obtain⟨w,r,e,h1,h2⟩:=h;obtain⟨w',e',h3⟩:=qD h2;subst e';exact⟨w,w',e,h1,h3⟩
def Ft (xs:List Tr)(KK:Tr->Prop):Prop:=match xs with|[.tup ts]=>KK (.int ts.length)|[.lst ts]=>KK (.int ts.length)|_=>False
def vA:CbS (Ag K) Ft:=by
 intro F H vs ts KK Q r hf q;unfold Ft at hf;split at hf
 .rename_i ts;obtain⟨v,rfl,a,ws,e,n,ha,rl⟩:=qD r;exact⟨a,ws,by rw[e],.inr (yR.of ha),by rw[<-rl.len];exact q _ _ rfl hf⟩
 .rename_i ts;obtain⟨v,rfl,a,ws,e,n,ha,rl⟩:=qD r;exact⟨a,ws,by rw[e],.inl (yt.of ha),by rw[<-rl.len];exact q _ _ rfl hf⟩
 .exact hf.elim
def Fp (xs:List Tr)(KK:Tr->Prop):Prop:=match xs with|[.int i]=>KK (.int (if i<0 then -i else i))|_=>False
def jq:CbS (λxs H Q=>∃i,xs=[.int i]/\Q (.int (if i<0 then -i else i)) H) Fp:=by
 intro F H vs ts KK Q r hf q;unfold Fp at hf;split at hf
 .rename_i i;obtain⟨v,rfl,e⟩:=qD r;cases (show v=.int i from e);exact⟨i,rfl,q _ _ rfl hf⟩
 .exact hf.elim
def Fv (xs:List Tr)(KK:Tr->Prop):Prop:=match xs with|[.int i,.int j]=>KK (.int (if j>i then j else i))|_=>False
def LI:CbS (λxs H Q=>∃i j,xs=[.int i,.int j]/\Q (.int (if j>i then j else i)) H) Fv:=by
 intro F H vs ts KK Q r hf q;unfold Fv at hf;split at hf
 .rename_i i j;obtain⟨v,w,rfl,e,e'⟩:=aM r;cases (show v=.int i from e);cases (show w=.int j from e');exact⟨i,j,rfl,q _ _ rfl hf⟩
 .exact hf.elim
def Fw (xs:List Tr)(KK:Tr->Prop):Prop:=match xs with|[.int i,.int j]=>KK (.int (if j<i then j else i))|_=>False
def LK:CbS (λxs H Q=>∃i j,xs=[.int i,.int j]/\Q (.int (if j<i then j else i)) H) Fw:=by
 intro F H vs ts KK Q r hf q;unfold Fw at hf;split at hf
 .rename_i i j;obtain⟨v,w,rfl,e,e'⟩:=aM r;cases (show v=.int i from e);cases (show w=.int j from e');exact⟨i,j,rfl,q _ _ rfl hf⟩
 .exact hf.elim
theorem dI:∀ {ns:List Int} {ws:List V},yx F H (ns.map Tr.int) ws->ws=ns.map V.int
 |[],_,h=>h
 |n::ns,_,⟨w,r,e,h1,h2⟩=>by cases (show w=.int n from h1);rw[e,dI h2];rfl
theorem IH:∀ {ns:List Bool} {ws:List V},yx F H (ns.map Tr.bl) ws->ws=ns.map V.bl
 |[],_,h=>h
 |n::ns,_,⟨w,r,e,h1,h2⟩=>by cases (show w=.bl n from h1);rw[e,IH h2];rfl
def Mz (xs:List Tr)(KK:Tr->Prop):Prop:=∃ns:List Int,xs=[.lst (ns.map Tr.int)]/\ns≠[]/\∀M,M∈ns->(∀a∈ns,a<=M)->KK (.int M)
def LJ:CbS (Ai K) Mz:=by intro F H vs ts KK Q r hf q;obtain⟨ns,rfl,h0,h1⟩:=hf;obtain⟨v,rfl,a,ws,e,n,ha,rl⟩:=qD r;rw[dI rl] at ha;exact⟨a,ns,by rw[e],yt.of ha,h0,λM h2 h3=>q _ _ rfl (h1 M h2 h3)⟩
def Mx (xs:List Tr)(KK:Tr->Prop):Prop:=∃bs:List Bool,xs=[.lst (bs.map Tr.bl)]/\KK (.bl (bs.all id))
def nK:CbS (Ad K) Mx:=by intro F H vs ts KK Q r hf q;obtain⟨ns,rfl,h1⟩:=hf;obtain⟨v,rfl,a,ws,e,n,ha,rl⟩:=qD r;rw[IH rl] at ha;exact⟨a,ns,by rw[e],yt.of ha,q _ _ rfl h1⟩
def tyT:Tr->String
 |.non => "NoneType" |.bl _ => "bool" |.int _ => "int" |.str _ => "str" |.emp => "dict" |.tup _ => "tuple" |.lst _ => "list"
theorem R9 (r:Rep F H t v):tyN H v=some (tyT t):=by
 cases t with
 |non=>cases (show v=.non from r);rfl
 |bl b=>cases (show v=.bl b from r);rfl
 |int b=>cases (show v=.int b from r);rfl
 |str b=>cases (show v=.str b from r);rfl
 |emp=>obtain⟨a,e,_,h⟩:=r;subst e;simp only[tyN,h,tyT]
 |tup ts=>obtain⟨a,ws,e,_,h,_⟩:=r;subst e;simp only[tyN,h,tyT]
 |lst ts=>obtain⟨a,ws,e,_,h,_⟩:=r;subst e;simp only[tyN,h,tyT]
def Gu (c:String)(t:Tr):Bool:=match c,t with
 | "int", .int _=>true | "int", .bl _=>true | "bool", .bl _=>true | "str", .str _=>true | "tuple", .tup _=>true | "list", .lst _=>true | "dict", .emp=>true|_,_=>false
def Nk (h:c∈aj)(t:Tr):BR (tyT t) c=Gu c t:=by simp only[aj,xU,zi,zo] at h;rcases h with rfl|rfl|rfl|rfl|rfl|rfl<;>cases t<;>rfl
def L8 (c:String)(d:DE):DE:=λτ KK=>d τ λx=>KK (.bl (Gu c x))
def ko (h:x_ K b te d)(hc:c∈aj:=by decide):x_ K true (tCB Ii (uB te (uB (tC (.ty c)) vZ))) (L8 c d):=λB φ σ τ H Q KK R hd q=>h B φ σ τ H _ _ R hd λt v H1 x1 k1 r1=>⟨v,c,tyT t,rfl,R9 r1,hc,by rw[Nk hc];exact q _ _ H1 x1 k1 rfl⟩
def FC (xs:List Tr)(KK:Tr->Prop):Prop:=match xs with|[.tup ts]=>KK (.tup ts)|[.lst ts]=>KK (.tup ts)|_=>False
def eI (ha:OkA K b n ta da):x_ K b (tCB (Al K) ta) (dCB FC da):=λB φ σ τ H Q KK R hd q=>
 ha B φ σ τ H _ _ R hd λts vs H1 x1 k1 l1 r1=>by
  unfold FC at k1;split at k1
  .rename_i ts;obtain⟨v,rfl,r⟩:=qD r1;obtain⟨a,ws,e,n,ha,rl⟩:=id r;exact⟨a,ws,by rw[e],.inr ⟨yR.of ha,by rw[<-e];exact q _ _ H1 x1 k1 r⟩⟩
  .rename_i ts;obtain⟨v,rfl,a,ws,e,n,ha,rl⟩:=qD r1;exact⟨a,ws,by rw[e],.inl ⟨yt.of ha,λp hp=>q _ _ _ (x1.trans (HX.new (R.hx x1) hp _)) k1 ⟨p,_,rfl,λz=>(R.hx x1).domB z hp,zA,k8 hp rl⟩⟩⟩
  .exact k1.elim
def Fb (i:Nat):DE:=λτ KK=>match yp τ i with|.ow ts=>KK (.tup ts)|_=>False
theorem Hi:x_ K true (tCB (Al K) (uB (uk i) vZ)) (Fb i):=λB φ σ τ H Q KK R hd q=>by
 have en:=R.ent i;unfold Fb at hd;revert en hd;cases hi:yp τ i with
 |ow ts=>intro hd ⟨a,ws,e1,e2,e3,e4,r⟩;exact⟨_,e1,a,ws,rfl,.inl ⟨yt.of e4,λp hp=>q _ _ _ (HX.new R hp _) hd ⟨p,_,rfl,λz=>R.dom z hp,zA,k8 hp r⟩⟩⟩
 |_=>exact λz _=>z.elim
def E8 (i:Nat):DE:=λτ KK=>match yp τ i with|.sc ns=>ns.length<=63->KK (.int ns.length)|_=>False
theorem Pm:x_ K true (tCB (Ag K) (uB (uk i) vZ)) (E8 i):=λB φ σ τ H Q KK R hd q=>by
 have en:=R.ent i;unfold E8 at hd;revert en hd;cases hi:yp τ i with
 |sc ns=>
  intro hd ⟨a,e,l,so,_⟩;have sq:yt K H a (ns.map V.int):=by
   rcases so with ⟨o,h⟩|h
   .exact .inl (.inr ⟨o,h⟩)
   .exact h H
  refine⟨_,e,a,_,rfl,.inl sq,?_⟩;rw[xO];exact q _ _ H (HX.refl R) (hd l) rfl
 |_=>exact λz _=>z.elim
end
abbrev ye:=List Tr->(Tr->Prop)->Prop
def spT (n:Nat)(st fr:Bool)(sp:ye):Sp:=λvs H Q _=>∃(F S:Addr->Prop) (ts:List Tr) (KK:Tr->Prop) (us:List V),
 (match st with|true=>∃p,vs=.ref p::us/\S p|false=>vs=us)/\(∀a,F a->NT (H a))/\(∀a,S a->F a)/\(∀a,S a->v_ a H)/\yx F H ts us/\ts.length=n/\sp ts KK/\
 ∀t v H',KK t->(∀a o,H a=some o->¬S a->H' a=some o)->(∀a,S a->v_ a H')->Rep F H' t v->(fr=true->FrL F H H' t v)->Q v H'
def nU (sp:ye)(da:DA):DE:=λτ KK=>da τ λts=>sp ts KK
def E4 (i:Nat)(sp:ye)(da:DA):DE:=λτ KK=>match yp τ i with|.st=>da τ λts=>sp ts KK|_=>False
section
variable {K:xt} {B:FB} {φ:zg} {σ:St} {τ:xW} {H H' H'':Hp}
def xF (ha:OkA K b n ta da):x_ K b (mF (spT n false fr sp) ta) (nU sp da):=λB φ σ τ H Q KK R hd q=>ha B φ σ τ H _ _ R hd λts vs H1 x1 k1 l1 r1=>⟨AvB b B φ τ,SA B φ τ,ts,KK,vs,rfl,λa z=>(R.hx x1).ntB z,λa z=>R.sB z,x1.st,r1,l1,k1,λt v H' k e s r _=>q t v H' (x1.trans ⟨e,s⟩) k r⟩
def eL (ha:OkA K true n ta da):zp K (mF (spT n false true sp) ta) (nU sp da):=λB φ σ τ H Q KK R hd q=>
 ha B φ σ τ H _ _ R hd λts vs H1 x1 k1 l1 r1=>⟨Av B φ,SA B φ τ,ts,KK,vs,rfl,λa z=>(R.hx x1).nt z,λa z=>R.sAv z,x1.st,r1,l1,k1,λt v H' k e s r f=>by obtain⟨a,ts',ws,rfl,rfl,h1,h2,h3⟩:=f rfl;exact q ts' a ws H' (x1.trans ⟨e,s⟩) k (x1.none h1) h2 h3⟩
theorem vq (ha:OkA K b n ta da):x_ K b (mF (spT n true fr sp) (uB (uk i) ta)) (E4 i sp da):=λB φ σ τ H Q KK R hd q=>by
 have en:=R.ent i;unfold E4 at hd;revert en hd;cases hi:yp τ i with
 |st=>intro hd ⟨p,e1,e2,e3⟩;exact⟨_,e1,ha B φ σ τ H _ _ R hd λts vs H1 x1 k1 l1 r1=>⟨AvB b B φ τ,SA B φ τ,ts,KK,vs,⟨p,rfl,.inr ⟨i,e2,hi⟩⟩,λa z=>(R.hx x1).ntB z,λa z=>R.sB z,x1.st,r1,l1,k1,λt v H' k e s r _=>q t v H' (x1.trans ⟨e,s⟩) k r⟩⟩
 |_=>exact λz _=>z.elim
def zg.del (φ:zg)(i:Nat):zg:=λj=>if j=i then none else φ j
def zg.put (φ:zg)(i:Nat)(a:Addr):zg:=λj=>if j=i then some a else φ j
def jt (h:φ.del i j=some a):j≠i/\φ j=some a:=by
 unfold zg.del at h;by_cases e:j=i
 .rw[xK e] at h;cases h
 .rw[xH e] at h;exact⟨e,h⟩
def Fe (h:j≠i):φ.del i j=φ j:=xH h
def dH (h:φ.put i a j=some c):(j=i/\c=a)\/(j≠i/\φ j=some c):=by
 unfold zg.put at h;by_cases e:j=i
 .rw[xK e] at h;cases h;exact .inl ⟨e,rfl⟩
 .rw[xH e] at h;exact .inr ⟨e,h⟩
def Ac:φ.put i a i=some a:=xK rfl
def RV (h:j≠i):φ.put i a j=φ j:=xH h
def jj (h:Av B (φ.del i) a):Av B φ a:=by
 rcases h with h|⟨j,h⟩
 .exact .inl h
 .exact .inr ⟨j,(jt h).2⟩
theorem r9 (h:Ent K B φ H i o x)(hφ:φ' i=φ i)(hr:∀t v,Rep (Av B φ) H t v->Rep (Av B φ') H' t v)(hrl:∀t v,yx (Av B φ) H t v->yx (Av B φ') H' t v)
  (hl:∀a o,Owd x->φ i=some a->H a=some o->H' a=some o) (hs:∀a ns,nq K H a ns->nq K H' a ns):Ent K B φ' H' i o x:=by
 cases x with
 |un=>trivial
 |fz t=>obtain⟨v,e,r⟩:=h;exact⟨v,e,hr t v r⟩
 |ow ts=>obtain⟨a,ws,e1,e2,e3,e4,r⟩:=h;exact⟨a,ws,e1,hφ.trans e2,e3,hl a _ trivial e2 e4,hrl _ _ r⟩
 |st=>obtain⟨p,e1,e2,e3⟩:=h;exact⟨p,e1,hφ.trans e2,e3⟩
 |sc ns=>obtain⟨a,e,l,q⟩:=h;exact⟨a,e,l,hs a ns q⟩
 |ob a=>exact h
 |od ks=>obtain⟨a,hk,e1,e2,e3,e4,r⟩:=h;exact⟨a,hk,e1,hφ.trans e2,e3,hl a _ trivial e2 e4,Paired.mapP r λp q z=>⟨z.1,hr _ _ z.2⟩⟩
theorem RS.ow0 (R:RS K B φ σ τ H)(h:Owd (yp τ j))(e:φ j=some c):B.H0 c=none:=by
 have en:=R.ent j;cases hn:yp τ j with
 |ow ts=>rw[hn] at en;obtain⟨a,ws,_,q2,q3,_⟩:=en;rw[e] at q2;cases q2;exact q3
 |od ks=>rw[hn] at en;obtain⟨a,ws,_,q2,q3,_⟩:=en;rw[e] at q2;cases q2;exact q3
 |_=>rw[hn] at h;exact h.elim
def RS.setFz (R:RS K B φ σ τ H)(r:Rep (Av B φ) H t v):RS K B (φ.del i) (σ.set i (some v)) (τ.set i (.fz t)) H where
 fN:=R.fN
 s0:=R.s0
 ext:=R.ext
 sst:=λa s=>by
  rcases s with s|⟨j,s,hj⟩
  .exact R.sst a (.inl s)
  .obtain⟨hne,s'⟩:=jt s;rw[vN hne] at hj;exact R.sst a (.inr ⟨j,s',hj⟩)
 injG:=λj k a hj e1 e2=>by obtain⟨hne,e1⟩:=jt e1;rw[vN hne] at hj;exact R.injG j k a hj e1 (jt e2).2
 oN:=λj a e=>R.oN j a (jt e).2
 len:=by rw[jc,jc];exact R.len
 ent:=λj=>by
  have mono:∀t v,Rep (Av B φ) H t v->Rep (Av B (φ.del i)) H t v:=λt v=>wZ (λa o e n=>⟨e,λz=>n (jj z)⟩) t v;by_cases e:j=i
  .subst e;by_cases hl:j<τ.length
   .rw[j4 hl];exact⟨v,by rw[Co (by rw[R.len];exact hl)],mono _ _ r⟩
   .rw[j3 (by rw[jc];lia)];trivial
  .rw[vN e,rC (zK e)];exact r9 (R.ent j) (Fe e) mono (λt v=>uA (λa o e n=>⟨e,λz=>n (jj z)⟩) t v) (λ_ _ _ _ z=>z) λ_ _ z=>z
 gh:=λp hp=>wZ (λa o e n=>⟨e,λz=>n (jj z)⟩) _ _ (R.gh p hp)
def RS.setNew (R:RS K B φ σ τ H)(hx:HX B φ τ H H')(ha:H a=none)(ha':NT (H' a))(hst:x=.st->v_ a H')
  (hen:Ent K B (φ.put i a) H' i (some (some (.ref a))) x):RS K B (φ.put i a) (σ.set i (some (.ref a))) (τ.set i x) H':=by
 have R':=R.hx hx;have nav:∀c,c≠a->Av B (φ.put i a) c->Av B φ c:=λc hc z=>by
  rcases z with z|⟨j,z⟩
  .exact .inl z
  .rcases dH z with ⟨_,e⟩|⟨_,e⟩
   .exact absurd e hc
   .exact .inr ⟨j,e⟩
 have mv:∀c o,H c=some o->¬Av B φ c->H' c=some o/\¬Av B (φ.put i a) c:=λc o e n=>⟨hx.keep c o e λs=>n (R.sAv s),λz=>n (nav c (zq e ha) z)⟩
 refine⟨R.fN,R.s0,R'.ext,λc s=>?_,λj k c hj e1 e2=>?_,λj c e=>?_,?_,λj=>?_,λp hp=>wZ mv _ _ (R.gh p hp)⟩
 .rcases s with s|⟨j,s,hj⟩
  .exact R'.sst c (.inl s)
  .rcases dH s with ⟨rfl,rfl⟩|⟨hne,s'⟩
   .by_cases hl:j<τ.length
    .rw[j4 hl] at hj;exact hst hj
    .rw[j3 (by rw[jc];lia)] at hj;cases hj
   .rw[vN hne] at hj;exact R'.sst c (.inr ⟨j,s',hj⟩)
 .have key:∀j:Nat,φ j=some a->False:=λj e=>R.ow j a e ha;rcases dH e1 with ⟨z1,z2⟩|⟨n1,f1⟩
  .rcases dH e2 with ⟨z3,_⟩|⟨n2,f2⟩
   .rw[z1,z3]
   .exact(key k (by rw[<-z2];exact f2)).elim
  .rcases dH e2 with ⟨z3,z4⟩|⟨n2,f2⟩
   .exact(key j (by rw[<-z4];exact f1)).elim
   .rw[vN n1] at hj;exact R.injG j k c hj f1 f2
 .rcases dH e with ⟨_,rfl⟩|⟨_,e⟩
  .exact ha'
  .exact R'.oN j c e
 .rw[jc,jc];exact R.len
 .by_cases e:j=i
  .subst e;by_cases hl:j<τ.length
   .rw[j4 hl,Co (by rw[R.len];exact hl)];exact hen
   .rw[j3 (by rw[jc];lia)];trivial
  .rw[vN e,rC (zK e)];refine r9 (R.ent j) (RV e) (λt v=>wZ mv t v) (λt v=>uA mv t v) (λc o hj e1 e2=>?_) λc ns z=>?_
   .refine hx.keep c _ e2 λs=>?_;rcases s with s|⟨k,s,hk⟩
    .exact R.f0 c (R.s0 c s) (R.ow0 hj e1)
    .have:=R.injG j k c hj e1 s;subst this;rw[hk] at hj;exact hj.elim
   .refine⟨?_,z.2.hx R hx⟩;rcases z.1 with ⟨o,z⟩|z
    .exact .inl ⟨o,hx.keep c _ z (lO R z)⟩
    .exact .inr z
def RS.wrOw (R:RS K B φ σ τ H)(hi:yp τ i=.ow ts)(e1:σ[i]?=some (some (.ref a)))(r:yx (Av B φ) H ts' ws'):RS K B φ σ (τ.set i (.ow ts')) (upd H a (.lst ws')):=by
 have en:=R.ent i;rw[hi] at en;obtain⟨a',ws,e1',e2,e3,e4,_⟩:=en;rw[e1] at e1';cases e1';have hl:i<τ.length:=by
  by_cases h:i<τ.length
  .exact h
  .rw[j3 (by lia)] at hi;cases hi
 have mv:∀c o,H c=some o->¬Av B φ c->(upd H a (.lst ws')) c=some o/\¬Av B φ c:=λc o e n=>⟨by rw[yl (λz=>n (by rw[z];exact .inr ⟨i,e2⟩))];exact e,n⟩
 have nsa:∀c,SA B φ (τ.set i (.ow ts')) c->SA B φ τ c/\c≠a:=λc s=>by
  rcases s with s|⟨j,s,hj⟩
  .exact⟨.inl s,λz=>R.f0 a (R.s0 a (z▸s)) e3⟩
  .by_cases e:j=i
   .subst e;rw[j4 hl] at hj;cases hj
   .rw[vN e] at hj;exact⟨.inr ⟨j,s,hj⟩,λz=>e (R.inj i j a ts hi e2 (z▸s)).symm⟩
 refine⟨R.fN,R.s0,λc o e n=>?_,λc s=>?_,λj k c hj f1 f2=>?_,λj c e=>?_,by rw[jc];exact R.len,λj=>?_,λp hp=>wZ mv _ _ (R.gh p hp)⟩
 .rw[yl (zq e e3)];exact R.ext c o e n
 .obtain⟨s',hne⟩:=nsa c s;obtain⟨n,b,q,z⟩:=R.sst c s';exact⟨n,b,by rw[yl hne];exact q,z⟩
 .by_cases e:j=i
  .subst e;exact R.inj j k c ts hi f1 f2
  .rw[vN e] at hj;exact R.injG j k c hj f1 f2
 .by_cases z:c=a
  .rw[z,zA];exact⟨(λz=>nomatch z),λ_ z=>nomatch z⟩
  .rw[yl z];exact R.oN j c e
 .by_cases e:j=i
  .subst e;rw[j4 hl];exact⟨a,ws',e1,e2,e3,zA,uA mv _ _ r⟩
  .rw[vN e];refine r9 (R.ent j) rfl (λt v=>wZ mv t v) (λt v=>uA mv t v) (λc o hj f1 f2=>?_) λc ns z=>?_
   .rw[yl (λ(z:c=a)=>e (R.inj i j a ts hi e2 (by rw[<-z];exact f1)).symm)];exact f2
   .refine⟨?_,λP q h=>by rw[yl (ar (z.2 P q h) e4 (λq=>nomatch q))];exact z.2 P q h⟩;rcases z.1 with ⟨o,z⟩|z
    .exact .inl ⟨o,by rw[yl (ar z e4 (λq=>nomatch q))];exact z⟩
    .exact .inr z
def RS.freeze (R:RS K B φ σ τ H)(hi:yp τ i=.ow ts):RS K B (φ.del i) σ (τ.set i (.fz (.lst ts))) H:=by
 have en:=R.ent i;rw[hi] at en;obtain⟨a,ws,e1,e2,e3,e4,r⟩:=en;have hl:i<τ.length:=by
  by_cases h:i<τ.length
  .exact h
  .rw[j3 (by lia)] at hi;cases hi
 have na:¬Av B (φ.del i) a:=λz=>by
  rcases z with z|⟨j,z⟩
  .exact R.f0 a z e3
  .obtain⟨n,z⟩:=jt z;exact n (R.inj i j a ts hi e2 z).symm
 refine⟨R.fN,R.s0,R.ext,λc s=>?_,λj k c hj f1 f2=>?_,λj c e=>R.oN j c (jt e).2,by rw[jc];exact R.len,λj=>?_,λp hp=>wZ (λa o e n=>⟨e,λz=>n (jj z)⟩) _ _ (R.gh p hp)⟩
 .rcases s with s|⟨j,s,hj⟩
  .exact R.sst c (.inl s)
  .obtain⟨hne,s'⟩:=jt s;rw[vN hne] at hj;exact R.sst c (.inr ⟨j,s',hj⟩)
 .obtain⟨hne,f1⟩:=jt f1;rw[vN hne] at hj;exact R.injG j k c hj f1 (jt f2).2
 .by_cases e:j=i
  .subst e;rw[j4 hl];exact⟨.ref a,e1,a,ws,rfl,na,e4,uA (λa o e n=>⟨e,λz=>n (jj z)⟩) _ _ r⟩
  .rw[vN e];exact r9 (R.ent j) (Fe e) (λt v=>wZ (λa o e n=>⟨e,λz=>n (jj z)⟩) t v) (λt v=>uA (λa o e n=>⟨e,λz=>n (jj z)⟩) t v) (λ_ _ _ _ z=>z) λ_ _ z=>z
def OkN (K:xt)(g:TG)(d:DG):Prop:=∀(B:FB) (φ:zg) (σ:St) (τ:xW) (H:Hp) (F:Addr->Prop) (t:Tr) (v:V) (Q:St->Hp->Prop) (KK:xW->Prop),RS K B φ σ τ H->(∀a,Av B φ a->F a)->Rep F H t v->d t τ KK->
 (∀ φ' σ' τ',RS K B φ' σ' τ' H->(∀a,Av B φ' a->Av B φ a)->KK τ'->Q σ' H)->g v σ H Q
def rM (K:xt)(g:TGs)(d:DGs):Prop:=∀(B:FB) (φ:zg) (σ:St) (τ:xW) (H:Hp) (F:Addr->Prop) (t:List Tr) (v:List V) (Q:St->Hp->Prop) (KK:xW->Prop),RS K B φ σ τ H->(∀a,Av B φ a->F a)->yx F H t v->d t τ KK->
 (∀ φ' σ' τ',RS K B φ' σ' τ' H->(∀a,Av B φ' a->Av B φ a)->KK τ'->Q σ' H)->g v σ H Q
def eName (i:Nat):DG:=λt τ KK=>KK (τ.set i (.fz t))
def gP:DGs:=λts τ KK=>match ts with|[]=>KK τ|_=>False
def jR (d:DG)(r:DGs):DGs:=λts τ KK=>match ts with|t::us=>d t τ λτ'=>r us τ' KK|[]=>False
def Fm (n:Nat)(d:DGs):DG:=λt τ KK=>match t with|.tup ts=>ts.length=n/\d ts τ KK|_=>False
def xM:OkN K (qx i) (eName i):=λB φ σ τ H F t v Q KK R hF r hd q=>q (φ.del i) _ _ (R.setFz (wZ (λa o e n=>⟨e,λz=>n (hF a z)⟩) _ _ r)) (λa z=>jj z) hd
theorem zI:rM K bE gP:=λB φ σ τ H F t v Q KK R hF r hd q=>by
 cases t with
 |nil=>exact⟨r,q φ σ τ R (λ_ z=>z) hd⟩
 |cons _ _=>exact hd.elim
theorem yb (h:OkN K g d)(hs:rM K gs ds):rM K (bC g gs) (jR d ds):=λB φ σ τ H F t v Q KK R hF r hd q=>by
 cases t with
 |nil=>exact hd.elim
 |cons t ts=>obtain⟨w,r',e,h1,h2⟩:=r;exact⟨w,r',e,h B φ σ τ H F t w _ _ R hF h1 hd λφ' σ' τ' R' ha k=>hs B φ' σ' τ' H F ts r' Q KK R' (λa z=>hF a (ha a z)) h2 k λφ2 σ2 τ2 R2 ha2 k2=>q φ2 σ2 τ2 R2 (λa z=>ha a (ha2 a z)) k2⟩
theorem zP (h:rM K gs ds):OkN K (tI K n gs) (Fm n ds):=λB φ σ τ H F t v Q KK R hF r hd q=>by
 cases t with
 |tup ts=>obtain⟨a,ws,e,n,ha,rl⟩:=r;exact⟨a,ws,e,yR.of ha,by rw[<-rl.len];exact hd.1,h B φ σ τ H F ts ws Q KK R hF rl hd.2 q⟩
 |_=>exact hd.elim
theorem OkN.g {g:TG}{d:DG}(h:OkN K g d):OkG K g d:=λB φ σ τ H t v Q KK R r hd q=>h B φ σ τ H (Av B φ) t v Q KK R (λ_ z=>z) r hd λφ' σ' τ' R' ha k=>q φ' σ' τ' H R' ha (λ_ _ e _=>e) k
def mC (ts:List Tr)(t:Tr):Int->Option (List Tr)
 |.ofNat n=>if n<ts.length then some (ts.set n t) else none
 |.negSucc n=>if n<ts.length then some (ts.set (ts.length-1-n) t) else none
def n5 (i:Nat)(di:DE):DG:=λt τ KK=>match yp τ i with
 |.ow ts=>di τ λy=>match y with|.int k=>(match mC ts t k with|some us=>KK (τ.set i (.ow us))|none=>False)|_=>False
 |_=>False
theorem Tu (h:mC ts t k=some us):∃j,ixN ts.length k=some j/\us=ts.set j t:=by
 unfold ixN;cases k with
 |ofNat n=>
  have h:(if n<ts.length then some (ts.set n t) else none)=some us:=h;by_cases hn:n<ts.length
  .rw[xK hn] at h;cases h;refine⟨n,?_,rfl⟩;have h0:(0:Int)<=Int.ofNat n:=Cg n;have h1:Int.ofNat n<(ts.length:Int):=Int.ofNat_lt.mpr hn;rw[xK h0,xK h1];rfl
  .rw[xH hn] at h;cases h
 |negSucc n=>
  have h:(if n<ts.length then some (ts.set (ts.length-1-n) t) else none)=some us:=h;by_cases hn:n<ts.length
  .rw[xK hn] at h;cases h;refine⟨ts.length-1-n,?_,rfl⟩;rw[xH (by lia),xK (by lia)];congr 1;lia
  .rw[xH hn] at h;cases h
theorem II (r:Rep F H t v):∀ {ts:List Tr} {ws:List V} (j:Nat),yx F H ts ws->yx F H (ts.set j t) (ws.set j v)
 |[],_,_,h=>by cases (show _=[] from h);exact rfl
 |_::_,_,0,⟨w,r',e,h1,h2⟩=>⟨v,r',by rw[e];rfl,r,h2⟩
 |_::ts,_,j+1,⟨w,r',e,h1,h2⟩=>⟨w,r'.set j v,by rw[e];rfl,h1,II r j h2⟩
theorem eM (h:x_ K b ti di):OkG K (FZ (uk i) ti Iw) (n5 i di):=λB φ σ τ H t v Q KK R r hd q=>by
 have en:=R.ent i;unfold n5 at hd;revert en hd;cases hi:yp τ i with
 |ow ts=>
  intro hd ⟨a,ws,e1,e2,e3,e4,r0⟩;refine⟨_,e1,h B φ σ τ H _ _ R hd λu w H1 x1 k1 r1=>?_⟩;obtain⟨ws',f4,f5,_⟩:=tZ R x1 hi e1;cases u with
  |int k=>
   cases (show w=.int k from r1);cases e:mC ts t k with
   |none=>simp only[e] at k1
   |some us=>simp only[e] at k1;obtain⟨j,hj,rfl⟩:=Tu e;refine⟨a,ws',k,j,rfl,rfl,f4,by rw[<-f5.len];exact hj,?_⟩;exact q φ σ _ _ ((R.hx x1).wrOw hi e1 (II (x1.rep (λa s=>R.sAv s) r) j f5)) (λ_ z=>z) (λc o e n=>by rw[yl (λz=>n (by rw[z];exact .inr ⟨i,e2⟩))];exact x1.keep c o e λs=>n (R.sAv s)) k1
  |_=>exact k1.elim
 |_=>exact λz _=>z.elim
theorem P7:nj K bE gP:=λB φ σ τ H t v Q KK R r hd q=>by
 cases t with
 |nil=>exact⟨r,q φ σ τ H R (λ_ z=>z) (λ_ _ e _=>e) hd⟩
 |cons _ _=>exact hd.elim
theorem Hl (h:OkG K g d)(hs:nj K gs ds):nj K (bC g gs) (jR d ds):=λB φ σ τ H t v Q KK R r hd q=>by
 cases t with
 |nil=>exact hd.elim
 |cons t ts=>
  obtain⟨w,r',e,h1,h2⟩:=r;exact⟨w,r',e,h B φ σ τ H t w _ _ R h1 hd λφ' σ' τ' H' R' ha hx k=>hs B φ' σ' τ' H' ts r' Q KK R' (uA (λa o e n=>⟨hx a o e n,λz=>n (ha a z)⟩) _ _ h2) k λφ2 σ2 τ2 H2 R2 ha2 hx2 k2=>q φ2 σ2 τ2 H2 R2 (λa z=>ha a (ha2 a z)) (λa o e n=>hx2 a o (hx a o e n) λz=>n (ha a z)) k2⟩
theorem P6 (h:nj K gs ds):OkG K (tI K n gs) (Fm n ds):=λB φ σ τ H t v Q KK R r hd q=>by
 cases t with
 |tup ts=>obtain⟨a,ws,e,n,ha,rl⟩:=r;exact⟨a,ws,e,yR.of ha,by rw[<-rl.len];exact hd.1,h B φ σ τ H ts ws Q KK R rl hd.2 q⟩
 |_=>exact hd.elim
def dO:DS:=λG τ=>G.nx τ
def dP (a b:DS):DS:=λG τ=>a {G with nx:=b G} τ
def Sq:DS:=λ_ _=>False
def cN (d:DE):DS:=λG τ=>d τ G.rt
def sIf (c:DT)(a b:DS):DS:=λG τ=>c τ λk=>if k=true then a G τ else b G τ
def cO (i:Nat)(d:DE):DS:=λG τ=>d τ λt=>G.nx (τ.set i (.fz t))
def Sx (i:Nat)(d:DE):DS:=λG τ=>d τ λt=>match t with|.lst ts=>G.nx (τ.set i (.ow ts))|_=>False
def Sm (d:DE)(g:DG):DS:=λG τ=>d τ λt=>g t τ G.nx
def Ss (i j:Nat)(d:DA):DS:=λG τ=>d τ λts=>match ts with|[t,u]=>G.nx ((τ.set i (.fz t)).set j (.fz u))|_=>False
def Sn (d:DE):DS:=λG τ=>d τ λ_=>G.nx τ
def IQ (i:Nat)(d:DE):DS:=λG τ=>match yp τ i with|.ow ts=>d τ λt=>ts.length<sizeLine/\G.nx (τ.set i (.ow (ts++[t])))|_=>False
def IU (i:Nat)(a:DS):DS:=λG τ=>match yp τ i with|.ow ts=>a G (τ.set i (.fz (.lst ts)))|_=>False
variable {fr:Bool}
def yX:zM K fr JH dO:=λB φ σ τ H E G R hd e=>e.nx φ σ τ H R hd
def eP:zM K fr JG Sq:=λB φ σ τ H E G R hd e=>hd.elim
def xD (ha:zM K fr a da)(hb:zM K fr b db):zM K fr (pN a b) (dP da db):=λB φ σ τ H E G R hd e=>ha B φ σ τ H _ _ R hd ⟨λφ' σ' τ' H' R' k=>hb B φ' σ' τ' H' E G R' k e,e.bk,e.ct,e.rt⟩
def xY (h:x_ K b te d):zM K false (pM te) (cN d):=λB φ σ τ H E G R hd e=>h B φ σ τ H _ _ R hd λt v H1 x1 k1 r1=>e.rt t v H1 (wZ (λa o e n=>⟨e,λz=>n (.inl z)⟩) _ _ (An R r1)) (R.hx x1).extB k1 λz=>nomatch z
def dB (h:zp K te d):zM K fr (pM te) (cN d):=λB φ σ τ H E G R hd e=>
 h B φ σ τ H _ _ R hd λts a ws H1 x1 k1 h1 h2 h3=>by
  have z0:B.H0 a=none:=by
   cases q:B.H0 a with
   |none=>rfl
   |some o=>
    by_cases s:B.S0 a
    .exact absurd h1 (R.sst a (.inl s)).ne_none
    .rw[R.ext a o q s] at h1;cases h1
  have na:¬B.F0 a:=λz=>R.dom (.inl z) h1;have rr:yx (λc=>B.F0 c\/c=a) H1 ts ws:=uA (λc o e n=>⟨e,λz=>n (z.elim (λz=>.inl (.inl z)) .inr)⟩) _ _ h3;exact e.rt (.lst ts) _ H1 ⟨a,ws,rfl,na,h2,uA (λc o e n=>⟨e,λz=>n (.inl z)⟩) _ _ rr⟩ (R.hx x1).extB k1 λ_=>⟨a,ts,ws,rfl,rfl,z0,h2,rr⟩
def IY (i:Nat):DS:=λG τ=>match yp τ i with|.ow ts=>G.rt (.lst ts)|_=>False
theorem aG:zM K fr (pM (uk i)) (IY i):=λB φ σ τ H E G R hd e=>by
 have en:=R.ent i;unfold IY at hd;revert en hd;cases hi:yp τ i with
 |ow ts=>intro hd ⟨a,ws,e1,e2,e3,e4,r⟩;have na:¬B.F0 a:=λz=>R.f0 a z e3;have rr:yx (λc=>B.F0 c\/c=a) H ts ws:=uA (λc o e n=>⟨e,λz=>n (z.elim .inl λz=>.inr ⟨i,by rw[z];exact e2⟩)⟩) _ _ r;exact⟨_,e1,e.rt (.lst ts) _ H ⟨a,ws,rfl,na,e4,uA (λc o e n=>⟨e,λz=>n (.inl z)⟩) _ _ rr⟩ R.extB hd λ_=>⟨a,ts,ws,rfl,rfl,e3,e4,rr⟩⟩
 |_=>exact λz _=>z.elim
def yW (hc:OkT K c dc)(ha:zM K fr a da)(hb:zM K fr b db):zM K fr (JE c a b) (sIf dc da db):=λB φ σ τ H E G R hd e=>
 hc B φ σ τ H _ _ R hd λk H1 x1 k1=>by
  cases k with
  |true=>exact kR (ha B φ σ τ H1 E G (R.hx x1) k1 e)
  |false=>exact qd (hb B φ σ τ H1 E G (R.hx x1) k1 e)
def yE (h:x_ K true te d):zM K fr (jD te (qx i)) (cO i d):=λB φ σ τ H E G R hd e=>h B φ σ τ H _ _ R hd λt v H1 x1 k1 r1=>e.nx _ _ _ H1 ((R.hx x1).setFz r1) k1
def vX (h:zp K te d):zM K fr (jD te (qx i)) (Sx i d):=λB φ σ τ H E G R hd e=>
 h B φ σ τ H _ _ R hd λts a ws H1 x1 k1 h1 h2 h3=>by
  have z0:B.H0 a=none:=by
   cases q:B.H0 a with
   |none=>rfl
   |some o=>
    by_cases s:B.S0 a
    .exact absurd h1 (R.sst a (.inl s)).ne_none
    .rw[R.ext a o q s] at h1;cases h1
  refine e.nx _ _ _ H1 (R.setNew (x:=.ow ts) x1 h1 (by rw[h2];exact⟨(λz=>nomatch z),λ_ z=>nomatch z⟩) (λz=>nomatch z) ⟨a,ws,rfl,Ac,z0,h2,uA (λc o e n=>⟨e,λz=>n ?_⟩) _ _ h3⟩) k1;rcases z with z|⟨j,z⟩
  .exact .inl (.inl z)
  .rcases dH z with ⟨_,z⟩|⟨_,z⟩
   .exact .inr z
   .exact .inl (.inr ⟨j,z⟩)
def uQ (h:x_ K true te d)(hg:OkG K g dg):zM K fr (jD te g) (Sm d dg):=λB φ σ τ H E G R hd e=>h B φ σ τ H _ _ R hd λt v H1 x1 k1 r1=>hg B φ σ τ H1 t v _ _ (R.hx x1) r1 k1 λφ' σ' τ' H' R' _ _ k=>e.nx φ' σ' τ' H' R' k
def kX (h:OkA K true n ta da):zM K fr (JO i j ta) (Ss i j da):=λB φ σ τ H E G R hd e=>
 h B φ σ τ H _ _ R hd λts vs H1 x1 k1 l1 r1=>by
  cases ts with
  |nil=>exact k1.elim
  |cons t ts=>
   cases ts with
   |nil=>exact k1.elim
   |cons u ts=>
    cases ts with
    |cons _ _=>exact k1.elim
    |nil=>obtain⟨v,w,rfl,h1,h2⟩:=aM r1;exact⟨v,w,rfl,e.nx _ _ _ H1 (((R.hx x1).setFz h1).setFz (wZ (λa o e n=>⟨e,λz=>n (jj z)⟩) _ _ h2)) k1⟩
def Hn (h:x_ K b te d):zM K fr (aZ te) (Sn d):=λB φ σ τ H E G R hd e=>h B φ σ τ H _ _ R hd λt v H1 x1 k1 r1=>e.nx φ σ τ H1 (R.hx x1) k1
theorem kA (h:x_ K true te d):zM K fr (aZ (tBM K "list" Ia (uk i) (uB te vZ))) (IQ i d):=λB φ σ τ H E G R hd e=>by
 have en:=R.ent i;unfold IQ at hd;revert en hd;cases hi:yp τ i with
 |ow ts=>intro hd ⟨a,ws,e1,e2,e3,e4,r⟩;refine⟨_,e1,.inl ⟨rfl,_,yt.of e4⟩,h B φ σ τ H _ _ R hd λt v H1 x1 k1 r1=>?_⟩;obtain⟨ws',f4,f5,_⟩:=tZ R x1 hi e1;exact⟨a,ws',v,rfl,rfl,f4,by rw[<-f5.len];exact k1.1,e.nx φ σ _ _ ((R.hx x1).wrOw hi e1 (f5.app (show yx _ _ [t] [v] from⟨v,[],rfl,r1,rfl⟩))) k1.2⟩
 |_=>exact λz _=>z.elim
theorem Qa (h:zM K fr a da):zM K fr a (IU i da):=λB φ σ τ H E G R hd e=>by
 unfold IU at hd;revert hd;cases hi:yp τ i with
 |ow ts=>exact λhd=>h B _ σ _ H E G (R.freeze hi) hd e
 |_=>exact λz=>z.elim
end
abbrev DI:=xW->(List Tr->Prop)->Prop
def nh (H H':Hp):Prop:=H'=H\/∃q o,H q=none/\H'=upd H q o
structure ItC (F S:Addr->Prop)(J:It)(ts:List Tr)(Src:Hp->Prop):Prop where
 stab:∀H H',Src H->(∀a o,H a=some o->¬S a->H' a=some o)->Src H'
 go:∀i H,Src H->i<ts.length->J.go i H
 stop:∀H,Src H->J.stop ts.length H
 yld:∀i H x H',Src H->(∀a,F a->H a≠none)->i<ts.length->J.yld i H x H'->nh H H'/\∃t,ts[i]?=some t/\Rep F H' t x
structure ItL (J:It)(ts:List Tr)(G:List (Tr×V)):Prop where
 go:∀F H i,(∀p∈G,Rep F H p.1 p.2)->i<ts.length->J.go i H
 stop:∀F H,(∀p∈G,Rep F H p.1 p.2)->J.stop ts.length H
 yld:∀F i H x H',(∀p∈G,Rep F H p.1 p.2)->(∀a,F a->H a≠none)->i<ts.length->J.yld i H x H'->nh H H'/\∃t,ts[i]?=some t/\Rep F H' t x
def ItL.c (h:ItL J ts G)(hS:∀a,S a->F a):ItC F S J ts (λH=>∀p∈G,Rep F H p.1 p.2) where
 stab:=λH H' s k p hp=>wZ (λa o e n=>⟨k a o e λz=>n (hS a z),n⟩) _ _ (s p hp)
 go:=λi H s hi=>h.go F H i s hi
 stop:=λH s=>h.stop F H s
 yld:=λi H x H' s d hi y=>h.yld F i H x H' s d hi y
def OkI (K:xt)(b:Bool)(wi:TI)(d:DI):Prop:=∀(B:FB) (φ:zg) (σ:St) (τ:xW) (H:Hp) (R:It->Hp->Prop) (KK:List Tr->Prop),RS K B φ σ τ H->d τ KK->
 (∀J ts G H',HX B φ τ H H'->KK ts->ItL J ts G->(∀p∈G,Rep (AvB b B φ τ) H' p.1 p.2)->R J H')->wi σ H R
def nk (K:xt)(wi:TI)(d:DI):Prop:=∀(B:FB) (φ:zg) (σ:St) (τ:xW) (H:Hp) (R:It->Hp->Prop) (KK:List Tr->Prop),RS K B φ σ τ H->d τ KK->
 (∀J ts Src H',HX B φ τ H H'->KK ts->ItC (Av B φ) (SA B φ τ) J ts Src->Src H'->R J H')->wi σ H R
section
variable {K:xt} {B:FB} {φ:zg} {σ:St} {τ:xW} {H H' H'':Hp} {fr:Bool}
theorem OkI.c (h:OkI K true wi d):nk K wi d:=λB φ σ τ H R KK Rs hd q=>h B φ σ τ H R KK Rs hd λJ ts G H' x k i s=>q J ts _ H' x k (i.c λa z=>Rs.sAv z) s
def Gn (d:DE):DI:=λτ KK=>d τ λx=>match x with|.tup ts=>KK ts|.lst ts=>KK ts|_=>False
def Np:ItL (Itl K a) ts [(.lst ts,.ref a)] where
 go:=λF H i s hi=>by obtain⟨a',ws,e,n,h,r⟩:=s _ xT;cases e;obtain⟨w,e1,_⟩:=r.getT (yA hi);exact⟨ws,w,yt.of h,e1⟩
 stop:=λF H s=>by obtain⟨a',ws,e,n,h,r⟩:=s _ xT;cases e;exact⟨ws,yt.of h,by rw[<-r.len];exact yg _⟩
 yld:=λF i H x H' s d hi y=>by obtain⟨a',ws,e,n,h,r⟩:=s _ xT;cases e;obtain⟨rfl,y⟩:=y;obtain⟨t,e1,e2⟩:=r.get (y ws (yt.of h));exact⟨.inl rfl,t,e1,e2⟩
def Nq:ItL (Itt K a) ts [(.tup ts,.ref a)] where
 go:=λF H i s hi=>by obtain⟨a',ws,e,n,h,r⟩:=s _ xT;cases e;obtain⟨w,e1,_⟩:=r.getT (yA hi);exact⟨ws,w,yR.of h,e1⟩
 stop:=λF H s=>by obtain⟨a',ws,e,n,h,r⟩:=s _ xT;cases e;exact⟨ws,yR.of h,by rw[<-r.len];exact yg _⟩
 yld:=λF i H x H' s d hi y=>by obtain⟨a',ws,e,n,h,r⟩:=s _ xT;cases e;obtain⟨rfl,y⟩:=y;obtain⟨t,e1,e2⟩:=r.get (y ws (yR.of h));exact⟨.inl rfl,t,e1,e2⟩
def lR (i:Nat):DI:=λτ KK=>match yp τ i with|.ow ts=>KK ts|_=>False
theorem P8:nk K (M9 K (uk i)) (lR i):=λB φ σ τ H R KK Rs hd q=>by
 have en:=Rs.ent i;unfold lR at hd;revert en hd;cases hi:yp τ i with
 |ow ts=>
  intro hd ⟨a,ws,e1,e2,e3,e4,r⟩;refine⟨_,e1,a,rfl,⟨ws,yt.of e4⟩,q _ ts (λH=>H a=some (.lst ws)/\yx (Av B φ) H ts ws) H (HX.refl Rs) hd ⟨?_,?_,?_,?_⟩ ⟨e4,r⟩⟩
  .intro H1 H2 ⟨s1,s2⟩ k;exact⟨k a _ s1 λz=>Hx Rs hi e2 e3 (.inr z),uA (λc o e n=>⟨k c o e λz=>n (Rs.sAv z),n⟩) _ _ s2⟩
  .intro j H1 ⟨s1,s2⟩ hj;obtain⟨w,f1,_⟩:=s2.getT (yA hj);exact⟨ws,w,yt.of s1,f1⟩
  .intro H1 ⟨s1,s2⟩;exact⟨ws,yt.of s1,by rw[<-s2.len];exact yg _⟩
  .intro j H1 x H2 ⟨s1,s2⟩ _ hj ⟨f,y⟩;subst f;obtain⟨t,g1,g2⟩:=s2.get (y ws (yt.of s1));exact⟨.inl rfl,t,g1,g2⟩
 |_=>exact λz _=>z.elim
def qk (lo:Int)(n:Nat):List Tr:=(List.range n).map λ(k:Nat)=>Tr.int (lo+k)
def uS (lo:Int)(n:Nat):(qk lo n).length=n:=by unfold qk;rw[xO,List.length_range]
def h9 {lo:Int}{n i:Nat}(h:i<n):(qk lo n)[i]?=some (.int (lo+i)):=by unfold qk;rw[vh,List.getElem?_range h];rfl
def Gx {lo:Int}{n:Nat}:ItL (Itr lo n) (qk lo n) [] where
 go:=λF H i s hi=>by rw[uS] at hi;exact hi
 stop:=λF H s=>by rw[uS];exact yg _
 yld:=λF i H x H' s d hi y=>by rw[uS] at hi;obtain⟨rfl,rfl⟩:=y;exact⟨.inl rfl,_,h9 hi,rfl⟩
def M_ (d:DA):DI:=λτ KK=>d τ λxs=>match xs with|[.int j]=>(-(2^62)<=j/\j<2^62)/\KK (qk 0 j.toNat)|_=>False
def Na (d:DA):DI:=λτ KK=>d τ λxs=>match xs with|[.int i,.int j]=>(-(2^62)<=i/\i<2^62/\-(2^62)<=j/\j<2^62)/\KK (qk i (j-i).toNat)|_=>False
def j8 (h:OkA K b n ta da):OkI K true (Gk ta) (M_ da):=λB φ σ τ H R KK Rs hd q=>
 h B φ σ τ H _ _ Rs hd λts vs H1 x1 k1 l1 r1=>by
  split at k1
  .rename_i j;obtain⟨v,rfl,e⟩:=qD r1;exact⟨j,by rw[show v=.int j from e],k1.1.1,k1.1.2,q _ _ [] H1 x1 k1.2 Gx λp hp=>absurd hp (by simp)⟩
  .exact k1.elim
def Hm (h:OkA K b n ta da):OkI K true (Gm ta) (Na da):=λB φ σ τ H R KK Rs hd q=>
 h B φ σ τ H _ _ Rs hd λts vs H1 x1 k1 l1 r1=>by
  split at k1
  .rename_i i j;obtain⟨v,w,rfl,e,e'⟩:=aM r1;exact⟨i,j,by rw[show v=.int i from e,show w=.int j from e'],k1.1,q _ _ [] H1 x1 k1.2 Gx λp hp=>absurd hp (by simp)⟩
  .exact k1.elim
def jv (dg:DG)(body:DS)(G:rN):List Tr->xW->Prop
 |[],τ=>G.nx τ
 |x::xs,τ=>dg x τ λτ'=>body {G with nx:=jv dg body G xs,ct:=jv dg body G xs,bk:=G.nx} τ'
def cM (di:DI)(dg:DG)(body:DS):DS:=λG τ=>di τ λxs=>jv dg body G xs τ
def FB.more (B:FB)(G:List (Tr×V)):FB:={B with G0:=G++B.G0}
theorem RS.more (R:RS K B φ σ τ H)(h:∀p∈G,Rep (Av B φ) H p.1 p.2):RS K (B.more G) φ σ τ H:=⟨R.fN,R.s0,R.ext,R.sst,R.injG,R.oN,R.len,R.ent,λp hp=>(yy.mp hp).elim (h p) (R.gh p)⟩
def RS.less (R:RS K (B.more G) φ σ τ H):RS K B φ σ τ H/\∀p∈G,Rep (Av B φ) H p.1 p.2:=⟨⟨R.fN,R.s0,R.ext,R.sst,R.injG,R.oN,R.len,R.ent,λp hp=>R.gh p (zY _ hp)⟩,λp hp=>R.gh p (yZ _ hp)⟩
def nh.hx (R:RS K B φ σ τ H)(g:nh H H'):HX B φ τ H H':=by
 rcases g with rfl|⟨q,o,e,rfl⟩
 .exact HX.refl R
 .exact HX.new R e o
def zW (hi:OkI K true wi di)(hg:OkG K g dg)(hb:zM K fr tb db):zM K fr (JD wi g tb) (cM di dg db):=λB φ σ τ H E G R hd e=>
 hi B φ σ τ H _ _ R hd λJ ts Gh H1 x1 k1 it gh=>by
  let W:Nat->St->Hp->Prop:=λi σ' H'=>i<=ts.length/\∃ φ' τ',RS K (B.more Gh) φ' σ' τ' H'/\jv dg db G (ts.drop i) τ'
  refine⟨λi m σ' H'=>m=ts.length-i/\W i σ' H',⟨_,rfl,gD _,φ,τ,(R.hx x1).more gh,k1⟩,?_⟩;rintro i m σ' H' ⟨rfl,hle,φ',τ',R',f⟩;obtain⟨R0,g0⟩:=R'.less;by_cases hlt:i<ts.length
  .refine .inr ⟨it.go _ H' i g0 hlt,W (i+1),λσ2 H2 w=>⟨_,by lia,rfl,w⟩,λx H2 y=>?_⟩;obtain⟨gr,t,ht,rt⟩:=it.yld _ i H' x H2 g0 (λa z=>R0.dom z) hlt y;have hx:=gr.hx R';have R2:=R'.hx hx;have ed:ts.drop i=t::ts.drop (i+1):=by rw[rz hlt];rw[yA hlt] at ht;cases ht;rfl
   rw[ed] at f;refine hg (B.more Gh) φ' σ' τ' H2 t x _ _ R2 rt f λφ3 σ3 τ3 H3 R3 _ _ k3=>?_;exact hb (B.more Gh) φ3 σ3 τ3 H3 _ _ R3 k3 ⟨λφ4 σ4 τ4 H4 R4 k4=>⟨hlt,φ4,τ4,R4,k4⟩,λφ4 σ4 τ4 H4 R4 k4=>e.nx φ4 σ4 τ4 H4 R4.less.1 k4,λφ4 σ4 τ4 H4 R4 k4=>⟨hlt,φ4,τ4,R4,k4⟩,λt v H r x k f=>e.rt t v H r ⟨x.ext,x.st⟩ k f⟩
  .have ei:i=ts.length:=by lia
   subst ei;rw[List.drop_length] at f;exact .inl ⟨it.stop _ H' g0,e.nx φ' σ' τ' H' R0 f⟩
def dW (c:DT)(body:DS)(G:rN):Nat->xW->Prop
 |0,_=>False
 |n+1,τ=>c τ λb=>if b=true then body {G with nx:=dW c body G n,ct:=dW c body G n,bk:=G.nx} τ else G.nx τ
def Ja (c:DT)(body:DS):DS:=λG τ=>∃n,dW c body G n τ
theorem cj (hc:OkT K c dc)(hb:zM K fr tb db):zM K fr (JS c tb) (Ja dc db):=λB φ σ τ H E G R hd e=>by
 obtain⟨n,hd⟩:=hd;refine⟨λm σ' H'=>∃ φ' τ',RS K B φ' σ' τ' H'/\dW dc db G m τ',⟨n,φ,τ,R,hd⟩,?_⟩;rintro m σ' H' ⟨φ',τ',R',f⟩;cases m with
 |zero=>exact f.elim
 |succ m=>
  refine hc B φ' σ' τ' H' _ _ R' f λb H1 x1 k1=>?_;cases b with
  |true=>refine kR ⟨λσ2 H2=>∃ φ2 τ2,RS K B φ2 σ2 τ2 H2/\dW dc db G m τ2,λσ2 H2 w=>⟨m,by lia,w⟩,?_⟩;exact hb B φ' σ' τ' H1 _ _ (R'.hx x1) k1 ⟨λφ4 σ4 τ4 H4 R4 k4=>⟨φ4,τ4,R4,k4⟩,λφ4 σ4 τ4 H4 R4 k4=>e.nx φ4 σ4 τ4 H4 R4 k4,λφ4 σ4 τ4 H4 R4 k4=>⟨φ4,τ4,R4,k4⟩,e.rt⟩
  |false=>exact qd (e.nx φ' σ' τ' H1 (R'.hx x1) k1)
def jm (dg:DG)(dc:DT)(de:DE)(τi:xW)(KK:List Tr->Prop):List Tr->List Tr->Prop
 |[],acc=>KK acc
 |x::xs,acc=>dg x τi λτ2=>dc τ2 λb=>if b=true then de τ2 λy=>jm dg dc de τi KK xs (acc++[y]) else jm dg dc de τi KK xs acc
def Gq:TV->TV
 |.ow _=>.un
 |.od _=>.un
 |x=>x
def jX (xE:List (Option Nat))(τ:xW):xW:=xE.map λo=>match o with|some j=>Gq (yp τ j)|none=>.un
def E5 (xE:List (Option Nat))(di:DI)(dg:DG)(dc:DT)(de:DE):DE:=λτ KK=>di τ λxs=>xs.length<sizeLine/\jm dg dc de (jX xE τ) (λys=>KK (.lst ys)) xs []
def nV:DT:=λ_ KK=>KK true
def qg:OkT K JI nV:=λB φ σ τ H Q KK R hd q=>q true H (HX.refl R) hd
def FB.inner (B:FB)(φ:zg)(τ:xW)(H:Hp):FB:=⟨Av B φ,SA B φ τ,H,[]⟩
def ae (xE:List (Option Nat))(φ:zg)(τ:xW):zg:=λi=>match xE[i]? with|some (some j)=>(match yp τ j with|.st=>φ j|_=>none)|_=>none
def Ha:∀ {i:Nat},yp (jX xE τ) i=match xE[i]? with|some (some j)=>Gq (yp τ j)|_=>.un:=by
 intro i;by_cases h:i<xE.length
 .have h':i<(jX xE τ).length:=by unfold jX;rw[xO];exact h
  rw[bT h',yA h];simp only[jX,List.getElem_map];cases xE[i]<;>rfl
 .rw[j3 (by unfold jX;rw[xO];lia),sf (by lia)]
def bG {xE:List (Option Nat)}{i j:Nat}{v:V}(h:xE[i]?=some (some j))(e:σ[j]?=some (some v)):(uN xE σ)[i]?=some (some v):=by unfold uN;rw[vh,h];simp only[Option.map_some,e,Option.getD_some]
theorem RS.inner {xE:List (Option Nat)}(R:RS K B φ σ τ H):RS K (B.inner φ τ H) (ae xE φ τ) (uN xE σ) (jX xE τ) H:=by
 have hphi:∀i a,ae xE φ τ i=some a->∃j,xE[i]?=some (some j)/\yp τ j=.st/\φ j=some a:=λi a e=>by
  unfold ae at e;split at e
  .rename_i j hj;split at e
   .rename_i hs;exact⟨j,hj,hs,e⟩
   .cases e
  .cases e
 have hav:∀a,Av (B.inner φ τ H) (ae xE φ τ) a->Av B φ a:=λa z=>by
  rcases z with z|⟨i,z⟩
  .exact z
  .obtain⟨j,_,_,e⟩:=hphi i a z;exact .inr ⟨j,e⟩
 refine⟨λa z=>R.nt z,λa z=>R.sAv z,λa o e _=>e,λa s=>?_,λi j a hi e1 _=>?_,λi a e=>?_,?_,λi=>?_,λp hp=>absurd hp (by simp[FB.inner])⟩
 .rcases s with s|⟨i,s,_⟩
  .exact R.sst a s
  .obtain⟨j,_,hs,e⟩:=hphi i a s;exact R.sst a (.inr ⟨j,e,hs⟩)
 .exfalso;rw[Ha] at hi;split at hi
  .rename_i j hj;revert hi;cases yp τ j<;>intro hi<;>exact hi.elim
  .exact hi.elim
 .obtain⟨j,_,_,e⟩:=hphi i a e;exact R.oN j a e
 .unfold uN jX;rw[xO,xO]
 .rw[Ha];split
  .rename_i j hj;have en:=R.ent j;cases hn:yp τ j with
   |un=>trivial
   |ow ts=>trivial
   |od ks=>trivial
   |fz t=>rw[hn] at en;obtain⟨v,e,r⟩:=en;exact⟨v,bG hj e,wZ (λa o e n=>⟨e,λz=>n (hav a z)⟩) _ _ r⟩
   |st=>rw[hn] at en;obtain⟨p,e1,e2,e3⟩:=en;refine⟨p,bG hj e1,?_,.inl (.inr ⟨j,e2,hn⟩)⟩;unfold ae;simp only[hj,hn];exact e2
   |sc ns=>rw[hn] at en;obtain⟨a,e,l,q⟩:=en;exact⟨a,bG hj e,l,q⟩
   |ob a=>rw[hn] at en;exact bG hj en
  .trivial
def wy (hi:nk K wi di)(hg:OkN K g dg)(hc:OkT K tc dc)(he:x_ K b te de) :
  zp K (pL wi xE g tc te) (E5 xE di dg dc de):=λB φ σ τ H Q KK R hd q=>
 hi B φ σ τ H _ _ R hd λJ ts Src H1 x1 k1 it s1=>by
  refine⟨λi m ys H'=>m=ts.length-i/\i<=ts.length/\ys.length<=i/\HX B φ τ H H'/\Src H'/\∃acc,yx (Av B φ) H' acc ys/\jm dg dc de (jX xE τ) (λys=>KK (.lst ys)) (ts.drop i) acc,⟨_,rfl,gD _,gD _,x1,s1,[],rfl,k1.2⟩,?_⟩;rintro i m ys H' ⟨rfl,hle,hys,x,s,acc,ra,f⟩;have R':=R.hx x;by_cases hlt:i<ts.length
  .refine .inr ⟨it.go i H' s hlt,by have:=k1.1;lia,λv H2 y=>?_⟩;obtain⟨gr,t,ht,rt⟩:=it.yld i H' v H2 s (λa z=>R'.dom z) hlt y;have hx:=gr.hx R';have R2:=R'.hx hx;have ed:ts.drop i=t::ts.drop (i+1):=by rw[rz hlt];rw[yA hlt] at ht;cases ht;rfl
   rw[ed] at f;refine hg (B.inner φ τ H2) _ _ _ H2 (Av B φ) t v _ _ R2.inner (λa z=>?_) rt f λφ3 σ3 τ3 R3 ha k3=>?_
   .rcases z with z|⟨j,z⟩
    .exact z
    .unfold ae at z;split at z
     .split at z
      .exact .inr ⟨_,z⟩
      .cases z
     .cases z
   have hsa:∀a,SA (B.inner φ τ H2) φ3 τ3 a->SA B φ τ a:=λa z=>by
    rcases z with z|⟨j,z,hj⟩
    .exact z
    .have en:=R3.ent j;rw[hj] at en;obtain⟨p,e1,e2,e3⟩:=en;rw[z] at e2;cases e2;rcases e3 with e3|e3
     .exact e3
     .exact absurd e3 (R3.sst a (.inr ⟨j,z,hj⟩)).ne_none
   have hxo:∀ {H3 H4:Hp},HX (B.inner φ τ H2) φ3 τ3 H3 H4->HX B φ τ H3 H4:=λ {H3 H4} h=>⟨λa o e n=>h.keep a o e λz=>n (hsa a z),λa z=>h.st a (.inl z)⟩
   refine hc _ φ3 σ3 τ3 H2 _ _ R3 k3 λc H3 x3 k4=>?_;have x23:=hxo x3;have s3:=it.stab _ _ (it.stab _ _ s λa o e n=>hx.keep a o e n) λa o e n=>x23.keep a o e n;cases c with
   |false=>refine qd ⟨_,by lia,rfl,hlt,by lia,(x.trans hx).trans x23,s3,acc,(hx.trans x23).repL (λa z=>R.sAv z) ra,?_⟩;simpa using k4
   |true=>
    refine kR (he _ φ3 σ3 τ3 H3 _ _ (R3.hx x3) k4 λu w H4 x4 k5 r5=>?_);have x34:=hxo x4;refine⟨_,by lia,rfl,hlt,by rw[zy,gB];lia,((x.trans hx).trans x23).trans x34,it.stab _ _ s3 λa o e n=>x34.keep a o e n,acc++[u],(((hx.trans x23).trans x34).repL (λa z=>R.sAv z) ra).app (show yx _ _ [u] [w] from⟨w,[],rfl,?_,rfl⟩),k5⟩;refine wZ (λa o e n=>⟨e,λz=>n ?_⟩) _ _ r5;cases b with
    |true=>exact .inl z
    |false=>exact .inl z
  .have ei:i=ts.length:=by lia
   subst ei;rw[List.drop_length] at f;refine .inl ⟨it.stop H' s,λp hp=>q acc p ys _ (x.trans (HX.new R' hp _)) f (x.none hp) zA (dJ hp ra)⟩
end
def startT (N:List Str):Bool->List Tr->xW
 |true,ts=>.st::(ts.map TV.fz++List.replicate (N.length-(ts.length+1)) .un)
 |false,ts=>ts.map TV.fz++List.replicate (N.length-ts.length) .un
def ip {ts:List Tr}{n i:Nat}{x:TV}(h:yp (ts.map TV.fz++List.replicate n .un) i=x):x=.un\/∃t,ts[i]?=some t/\x=.fz t:=by
 by_cases hi:i<ts.length
 .right;rw[bT (by simp;lia),List.getElem_append_left (by simpa using hi),List.getElem_map] at h;exact⟨_,yA hi,h.symm⟩
 .left;by_cases h2:i<ts.length+n
  .rw[bT (by simp;lia),List.getElem_append_right (by simp;lia),List.getElem_replicate] at h;exact h.symm
  .rw[j3 (by simp;lia)] at h;exact h.symm
def pK {N:List Str}{vs:List V}{i:Nat}{v:V}(h:vs[i]?=some v):(start N vs)[i]?=some (some v):=by unfold start;have hi:=(zc.mp h).1;rw[oa (by simpa using hi),vh,h];rfl
def BP (h:vs.length<=N.length):(start N vs).length=N.length:=by unfold start;rw[zy,xO,Cr];lia
section
variable {P:Program} {w:World} {K:xt} {mg:Str->Option Value} {base:Heap} {k n:Nat} {x qual:Str} {st:Stmt} {f:Addr} {fd:FuncData} {N ps:List Str} {fr:Bool} {sp:ye}
def Sj {F S:Addr->Prop}{H:Hp}{ts:List Tr}{us:List V}(hF:∀a,F a->NT (H a))(hS:∀a,S a->F a)(hst:∀a,S a->v_ a H)(r:yx F H ts us)(hl:ts.length<=N.length) :
  RS K ⟨F,S,H,[]⟩ (λ_=>none) (start N us) (startT N false ts) H where
 fN:=hF
 s0:=hS
 ext:=λa o e _=>e
 sst:=λa s=>by
  rcases s with s|⟨i,s,_⟩
  .exact hst a s
  .cases s
 injG:=λi j a _ e=>by cases e
 oN:=λi a e=>by cases e
 len:=by have:=r.len;rw[BP (by lia)];simp[startT];lia
 ent:=λi=>by
  rcases ip (ts:=ts) (n:=N.length-ts.length) (i:=i) rfl with e|⟨t,h,e⟩
  .show Ent K _ _ H i _ (yp (ts.map TV.fz++List.replicate (N.length-ts.length) .un) i);rw[e];trivial
  .show Ent K _ _ H i _ (yp (ts.map TV.fz++List.replicate (N.length-ts.length) .un) i);rw[e];obtain⟨v,e1,e2⟩:=r.getT h;exact⟨v,pK e1,wZ (λa o e n=>⟨e,λz=>n (z.elim id λ⟨_,z⟩=>nomatch z)⟩) _ _ e2⟩
 gh:=λp hp=>absurd hp (by simp)
def Sk {F S:Addr->Prop}{H:Hp}{ts:List Tr}{us:List V}{p:Addr}(hp:S p)(hF:∀a,F a->NT (H a))(hS:∀a,S a->F a)(hst:∀a,S a->v_ a H)(r:yx F H ts us)(hl:ts.length+1<=N.length) :
  RS K ⟨F,S,H,[]⟩ (λi=>if i=0 then some p else none) (start N (.ref p::us)) (startT N true ts) H where
 fN:=hF
 s0:=hS
 ext:=λa o e _=>e
 sst:=λa s=>by
  rcases s with s|⟨i,s,_⟩
  .exact hst a s
  .have s:(if i=0 then some p else none)=some a:=s;by_cases e:i=0
   .rw[xK e] at s;cases s;exact hst _ hp
   .rw[xH e] at s;cases s
 injG:=λi j a hi e=>by
  exfalso;by_cases e0:i=0
  .subst e0;exact hi.elim
  .rw[xH e0] at e;cases e
 oN:=λi a e=>by
  by_cases e0:i=0
  .rw[xK e0] at e;cases e;exact(hst _ hp).nt
  .rw[xH e0] at e;cases e
 len:=by have:=r.len;rw[BP (by rw[wU];lia)];simp[startT];lia
 ent:=λi=>by
  cases i with
  |zero=>exact⟨p,pK (by rfl),xK rfl,.inl hp⟩
  |succ i=>
   show Ent K _ _ H (i+1) _ (yp (ts.map TV.fz++List.replicate (N.length-(ts.length+1)) .un) i);rcases ip (ts:=ts) (n:=N.length-(ts.length+1)) (i:=i) rfl with e|⟨t,h,e⟩
   .rw[e];trivial
   .rw[e];obtain⟨v,e1,e2⟩:=r.getT h;refine⟨v,pK (by rw[List.getElem?_cons_succ];exact e1),wZ (λa o e n=>⟨e,λz=>n ?_⟩) _ _ e2⟩;rcases z with z|⟨j,z⟩
    .exact z
    .have z:(if j=0 then some p else none)=some a:=z;by_cases e0:j=0
     .rw[xK e0] at z;cases z;exact hS _ hp
     .rw[xH e0] at z;cases z
 gh:=λp hp=>absurd hp (by simp)
def Hy (F:Fun K x qual st f fd)(S:xX N ps (xI st))(mgx:mg x=some (.ref f))(b:Binds K fd ps [])(hn:ps.length=n)
  (body:∀(cdv:Value) (A:Around) (outer:List Env) (s:Shared) (H:Hp) (E:XK),wW k (A.deeper (envOfC qual (xI st) s.heap.objs.size f cdv))->∃T D,PSs (kQ CX0 P w K mg base N qual (xI st) f cdv A outer s H E).nox (vo st) T/\zM K fr T D/\∀ts KK,ts.length=n->sp ts KK->D {nx:=λ_=>fr=false/\KK .non,rt:=KK} (startT N false ts)) :
  xV P w K mg base (k+1) x ps (spT n false fr sp):=by
 have hpl:ps.length<=N.length:=by have:=zj List.length S.pre;rw[uJ] at this;lia
 refine t4 F S mgx b (λvs H Q E h=>?_) (λcdv A outer s H vs Q E hr h=>?_)
 .obtain⟨F',S',ts,KK,us,e,_,_,_,r,l,_⟩:=h;cases (show vs=us from e);rw[<-r.len,l,hn]
 .obtain⟨F',S',ts,KK,us,e,hF,hS,hst,r,l,hsp,q⟩:=h;cases (show vs=us from e);obtain⟨T,D,ht,hd,h⟩:=body cdv A outer s H E hr;refine⟨T,ht,hd _ _ _ _ H _ _ (Sj hF hS hst r (by lia)) (h ts KK l hsp) ⟨λφ σ τ H1 R k=>?_,λ_ _ _ _ _ z=>z.elim,λ_ _ _ _ _ z=>z.elim,λt v H1 r1 x k fl=>?_⟩⟩
  .obtain⟨k1,k2⟩:=k;exact q .non .non H1 k2 R.ext (λa z=>R.sst a (.inl z)) rfl λz=>by rw[k1] at z;cases z
  .exact q t v H1 k x.ext x.st r1 fl
def Qk (F:Fun K x qual st f fd)(S:xX N ps (xI st))(mgx:mg x=some (.ref f))(b:Binds K fd ps [])(hn:ps.length=n+1)
  (body:∀(cdv:Value) (A:Around) (outer:List Env) (s:Shared) (H:Hp) (E:XK),wW k (A.deeper (envOfC qual (xI st) s.heap.objs.size f cdv))->∃T D,PSs (kQ CX0 P w K mg base N qual (xI st) f cdv A outer s H E).nox (vo st) T/\zM K fr T D/\∀ts KK,ts.length=n->sp ts KK->D {nx:=λ_=>fr=false/\KK .non,rt:=KK} (startT N true ts)) :
  xV P w K mg base (k+1) x ps (spT n true fr sp):=by
 have hpl:ps.length<=N.length:=by have:=zj List.length S.pre;rw[uJ] at this;lia
 refine t4 F S mgx b (λvs H Q E h=>?_) (λcdv A outer s H vs Q E hr h=>?_)
 .obtain⟨F',S',ts,KK,us,⟨p,e,_⟩,_,_,_,r,l,_⟩:=h;rw[e,wU,<-r.len,l,hn]
 .obtain⟨F',S',ts,KK,us,⟨p,e,hp⟩,hF,hS,hst,r,l,hsp,q⟩:=h;subst e;obtain⟨T,D,ht,hd,h⟩:=body cdv A outer s H E hr;refine⟨T,ht,hd _ _ _ _ H _ _ (Sk hp hF hS hst r (by lia)) (h ts KK l hsp) ⟨λφ σ τ H1 R k=>?_,λ_ _ _ _ _ z=>z.elim,λ_ _ _ _ _ z=>z.elim,λt v H1 r1 x k fl=>?_⟩⟩
  .obtain⟨k1,k2⟩:=k;exact q .non .non H1 k2 R.ext (λa z=>R.sst a (.inl z)) rfl λz=>by rw[k1] at z;cases z
  .exact q t v H1 k x.ext x.st r1 fl
def KS (H:Hp):Prop:=∀b,(H b=none\/∃o xs,H b=some (.frz o (.lst xs)))\/∃q,H b=some (.tb q)
def aY (K:xt):Sp:=λvs H Q _=>∃(a:Addr) (ns:List Int),vs=[.ref a]/\(KS H/\gK K H)/\yt K H a (ns.map V.int)/\ns.length<=63/\∀H',Q (.bl true) H'
def NI (F:Fun K x qual st f fd)(S:xX N ps (xI st))(hn:ps.length=1)
  (body:∀(cdv:Value) (A:Around) (outer:List Env) (s:Shared) (H:Hp) (E:XK),wW k (A.deeper (envOfC qual (xI st) s.heap.objs.size f cdv))->∃T D,PSs (kQ CX0 P w K mg base N qual (xI st) f cdv A outer s H E).nox (vo st) T/\zM K false T D/\∀ns:List Int,ns.length<=63->D {nx:=λ_=>False,rt:=λt=>t=.bl true} (.sc ns::List.replicate (N.length-1) .un)) :
  vm P w K mg base CX0 (k+1) f fd ps (aY K):=by
 have hpl:ps.length<=N.length:=by have:=zj List.length S.pre;rw[uJ] at this;lia
 refine F.ok S (λvs H Q E h=>?_) (λcdv A outer s H vs Q E hr h=>?_)
 .obtain⟨a,ns,rfl,_⟩:=h;exact hn.symm
 .obtain⟨a,ns,rfl,⟨hO,hT⟩,hS,hl,q⟩:=h;obtain⟨T,D,ht,hd,h⟩:=body cdv A outer s H E hr;have so:nq K H a ns:=by
   refine⟨?_,hT⟩;rcases hS with (z|⟨o,z⟩)|z
   .exfalso;rcases hO a with (y|⟨o,xs,y⟩)|⟨_,y⟩
    .rw[y] at z;cases z
    .rw[y] at z;cases z
    .rw[y] at z;cases z
   .exact .inl ⟨o,z⟩
   .exact .inr λ_=>.inr z
  have R:RS K ⟨λ_=>False,λ_=>False,H,[]⟩ (λ_=>none) (start N [.ref a]) (.sc ns::List.replicate (N.length-1) .un) H:=by
   refine⟨λ_ z=>z.elim,λ_ z=>z,λ_ _ e _=>e,λa s=>?_,λi j a us _ e=>(by cases e),λi a e=>(by cases e),?_,λi=>?_,λp hp=>absurd hp (by simp)⟩
   .rcases s with s|⟨i,s,_⟩
    .exact s.elim
    .cases s
   .rw[BP (by simp;lia)];simp;lia
   .cases i with
    |zero=>exact⟨a,pK rfl,hl,so⟩
    |succ i=>
     show Ent K _ _ H (i+1) _ (yp (List.replicate (N.length-1) .un) i);rcases ip (ts:=[]) (n:=N.length-1) (i:=i) rfl with e|⟨t,h,e⟩
     .rw[fu,qM] at e;rw[e];trivial
     .simp at h
  refine⟨T,ht,hd _ _ _ _ H _ _ R (h ns hl) ⟨λ_ _ _ _ _ z=>z.elim,λ_ _ _ _ _ z=>z.elim,λ_ _ _ _ _ z=>z.elim,λt v H1 r1 x k fl=>?_⟩⟩;cases (show t=.bl true from k);cases (show v=.bl true from r1);exact q H1
end
section
variable {K:xt} {fr:Bool}
def I_ (j i:Nat)(d:DE):DS:=λG τ=>match yp τ i with|.sc _=>d τ (λt=>match t with|.int k=>0<=k/\G.nx (τ.set j .st)|_=>False)|_=>False
theorem Qe (h:x_ K b te d):zM K fr (jD (mF (Jt K) (uB (uk i) (uB te vZ))) (qx j)) (I_ j i d):=λB φ σ τ H E G R hd e=>by
 have en:=R.ent i;unfold I_ at hd;revert en hd;cases hi:yp τ i with
 |sc ns=>
  intro hd ⟨a,e1,hl,so,_⟩;refine⟨_,e1,h B φ σ τ H _ _ R hd λt v H1 x1 k1 r1=>?_⟩;cases t with
  |int k=>
   cases (show v=.int k from r1);have sq:yt K H1 a (ns.map V.int):=by
    rcases so with ⟨o,q⟩|q
    .exact .inl (.inr ⟨o,x1.keep a _ q (lO R q)⟩)
    .exact q H1
   refine⟨a,ns,k,rfl,sq,hl,k1.1,λp n b hp hok=>?_⟩;have x2:=x1.trans (HX.new (R.hx x1) hp (.lst [.int n,.bl b]));have z0:B.H0 p=none:=by
    cases q:B.H0 p with
    |none=>rfl
    |some o=>
     by_cases s:B.S0 p
     .exact absurd hp ((R.hx x1).sst p (.inl s)).ne_none
     .rw[(R.hx x1).ext p o q s] at hp;cases hp
   refine e.nx _ _ _ _ (R.setNew (x:=.st) x2 (x1.none hp) (by rw[zA];exact⟨(λz=>nomatch z),λ_ z=>nomatch z⟩) (λ_=>⟨n,b,zA,hok⟩) ⟨p,rfl,Ac,.inr z0⟩) k1.2
  |_=>exact k1.elim
 |_=>exact λz _=>z.elim
def eU:ye:=λts KK=>match ts with|[.int many]=>(0<many/\many<2^128)/\∀r,0<=r->r<many->KK (.int r)|_=>False
def TU (h:xV P w K mg base k x ps Ju):xV P w K mg base k x ps (spT 1 true false eU):=h.imp λvs H Q E q=>by
 obtain⟨F,S,ts,KK,us,⟨p,e,hp⟩,hF,hS,hst,r,l,hsp,q⟩:=q;unfold eU at hsp;split at hsp
 .rename_i many;obtain⟨v,rfl,r1⟩:=qD r;cases (show v=.int many from r1);refine⟨p,many,e,hst p hp,hsp.1.1,hsp.1.2,λr H' h0 h1 sb=>q (.int r) (.int r) H' (hsp.2 r h0 h1) (λa o e n=>sb.keep a o (λz=>n (by rw[z];exact hp)) e) (λa s=>?_) rfl (λz=>nomatch z)⟩;by_cases ea:a=p
  .rw[ea];exact sb.st
  .obtain⟨n,b,e1,z⟩:=hst a s;exact⟨n,b,sb.keep a _ ea e1,z⟩
 .exact hsp.elim
end
mutual
def wH:Tr->PyData
 |.non=>.none|.bl b=>.bool b|.int i=>.int i|.str x=>.str x|.emp=>.dict []|.tup ts=>.tuple (w4 ts)|.lst ts=>.list (w4 ts)
def w4:List Tr->List PyData
 |[]=>[]
 |t::ts=>wH t::w4 ts
end
def zz (t u:Tr):Bool:=PyData.eqv (wH t) (wH u)
def pln (t:Tr):Bool:=(wH t).canLay0
def dep (t:Tr):Nat:=(wH t).depth
section
variable {X:Cx} {xf:List (Addr×Obj)} {σ:St} {H:Hp} {s:Shared}
mutual
theorem aO (I:Inv X xf σ H s):∀(t:Tr) (x:V) (a:Value),Rep F H t x->RelV x a->pln t=true->∃as,Reads s.heap a (wH t) as
 |.non,x,a,r,e,_=>by cases (show x=.non from r);cases e;exact⟨_,.none⟩
 |.bl b,x,a,r,e,_=>by cases (show x=.bl b from r);cases e;exact⟨_,.bool b⟩
 |.int i,x,a,r,e,_=>by cases (show x=.int i from r);obtain⟨t,rfl⟩:=e;exact⟨_,.int i t⟩
 |.str i,x,a,r,e,_=>by cases (show x=.str i from r);obtain⟨t,rfl⟩:=e;exact⟨_,.str i t⟩
 |.emp,x,a,r,e,h=>by cases h
 |.tup ts,x,a,r,e,h=>by obtain⟨p,ws,rfl,_,hp,rl⟩:=r;cases e;obtain⟨xj,rv,⟨o,ho,hc,n,hd⟩,_⟩:=I.tuple (yR.of hp);obtain⟨as,ra⟩:=md I ts ws xj rl rv h;exact⟨_,.tuple ho hc hd (by simpa using ra)⟩
 |.lst ts,x,a,r,e,h=>by obtain⟨p,ws,rfl,_,hp,rl⟩:=r;cases e;obtain⟨xj,rv,pl,_⟩:=I.list (yt.of hp);obtain⟨o,ho,hc,n,hd⟩:=pl.isList;obtain⟨as,ra⟩:=md I ts ws xj rl rv h;exact⟨_,.list ho hc hd (by simpa using ra)⟩
theorem md (I:Inv X xf σ H s):∀(ts:List Tr) (ws:List V) (us:List Value),yx F H ts ws->yk ws us->PyData.canLayAll0 (w4 ts)=true->∃as,ReadsAll s.heap us (w4 ts) as
 |[],ws,us,r,v,_=>by cases (show ws=[] from r);cases v;exact⟨_,.nil⟩
 |t::ts,ws,us,r,v,h=>by
  obtain⟨w,r',rfl,h1,h2⟩:=r;cases v with
  |cons v1 v2=>
   have h':pln t=true/\PyData.canLayAll0 (w4 ts)=true:=by have:(pln t&&PyData.canLayAll0 (w4 ts))=true:=h;simpa using this
   obtain⟨as,ra⟩:=aO I t w _ h1 v1 h'.1;obtain⟨bs,rb⟩:=md I ts r' _ h2 v2 h'.2;exact⟨_,.cons ra rb⟩
end
end
def gF (t u:Tr):Prop:=pln t=true/\pln u=true/\min (dep t) (dep u)<=64
def Ie:R2:=λx y H Q=>∃F G t u,Rep F H t x/\Rep G H u y/\gF t u/\Q (.bl (zz t u)) H
def Ir:R2:=λx y H Q=>∃F G t u,Rep F H t x/\Rep G H u y/\gF t u/\Q (.bl (!zz t u)) H
section
variable {X:Cx}
def ue (hu:X.A.units+64<cLine):zB X (compareOp .Eq) Ie:=by intro xf s σ H x y v u Q I rx ry h;obtain⟨F,G,t,t',r1,r2,⟨p1,p2,p3⟩,q⟩:=h;obtain⟨as,ra⟩:=aO I t x v r1 rx p1;obtain⟨bs,rb⟩:=aO I t' y u r2 ry p2;exact SeqAt.rcAt_reads ra rb p1 p2 (je (Kw p3 _) hu) X.prog X.w _ _ ⟨.bl _,H,I,rfl,q⟩
def wA (hu:X.A.units+64<cLine):zB X (compareOp .NotEq) Ir:=by intro xf s σ H x y v u Q I rx ry h;obtain⟨F,G,t,t',r1,r2,⟨p1,p2,p3⟩,q⟩:=h;obtain⟨as,ra⟩:=aO I t x v r1 rx p1;obtain⟨bs,rb⟩:=aO I t' y u r2 ry p2;exact SeqAt.rcNeAt_reads ra rb p1 p2 (je (Kw p3 _) hu) X.prog X.w _ _ ⟨.bl _,H,I,rfl,q⟩
def Ig (neg:Bool):R2:=λx y H Q=>∃F G t ts,Rep F H t x/\(Rep G H (.lst ts) y\/Rep G H (.tup ts) y)/\pln t=true/\PyData.canLayAll0 (w4 ts)=true/\dep t<=60/\Q (.bl (if neg then !(ts.any λu=>zz u t) else ts.any λu=>zz u t)) H
theorem oV (e:Value->Bool)(he:∀y d as,Reads h y d as->d.canLay0=true->e y=PyData.eqv d d0):∀(ts:List Tr) (us:List Value) (as:List Addr),ReadsAll h us (w4 ts) as->PyData.canLayAll0 (w4 ts)=true->us.any e=ts.any λu=>PyData.eqv (wH u) d0
 |[],us,as,r,_=>by cases r;rfl
 |t::ts,us,as,r,hl=>by
  have h':(wH t).canLay0=true/\PyData.canLayAll0 (w4 ts)=true:=by have:((wH t).canLay0&&PyData.canLayAll0 (w4 ts))=true:=hl;simpa using this
  generalize hg:w4 (t::ts)=ds at r;cases r with
  |nil=>cases hg
  |cons r1 r2=>have e1:wH t=_:=(List.cons.inj hg).1;have e2:w4 ts=_:=(List.cons.inj hg).2;subst e1 e2;rw[rp,rp,he _ _ _ r1 h'.1,oV e he ts _ _ r2 h'.2]
theorem G2:∀(ds:List PyData) (us:List Value) (as:List Addr),ReadsAll h us ds as->PyData.canLayAll0 ds=true->y∈us->∃d as,Reads h y d as/\d.canLay0=true
 |[],us,as,r,_,hm=>by cases r;exact absurd hm (by simp)
 |d::ds,us,as,r,hl,hm=>by
  have h':d.canLay0=true/\PyData.canLayAll0 ds=true:=by have:(d.canLay0&&PyData.canLayAll0 ds)=true:=hl;simpa using this
  cases r with
  |cons r1 r2=>
   rcases xU.mp hm with rfl|hm
   .exact⟨d,_,r1,h'.1⟩
   .exact G2 ds _ _ r2 h'.2 hm
open Classical in
def eBy (h:Heap)(d0:PyData)(y:Value):Bool:=if ∃d as,Reads h y d as/\d.canLay0=true/\PyData.eqv d d0=true then true else false
theorem lI (y:Value)(d:PyData)(as:List Addr)(r:Reads h y d as)(hl:d.canLay0=true):eBy h d0 y=PyData.eqv d d0:=by
 unfold eBy;cases hq:PyData.eqv d d0 with
 |true=>rw[xK ⟨d,as,r,hl,hq⟩]
 |false=>rw[xH];rintro⟨d',as',r',hl',hq'⟩;have:=SeqAt.Reads.unique d d' y as as' hl r r';subst this;rw[hq] at hq';cases hq'
def eQ (hu:X.A.units+64<cLine):zB X (compareOp .NotIn) (Ig true):=by
 intro xf s σ H x y v u Q I rx ry h;obtain⟨F,G,t,ts,r1,r2,p1,p2,p3,q⟩:=h;obtain⟨as,ra⟩:=aO I t x v r1 rx p1;have room:∀d:PyData,X.A.in1.units+min d.depth (wH t).depth<cLine:=λd=>by have h1:min d.depth (wH t).depth<=60:=wV (Kx _ _) p3;show X.A.units+1+_<_;lia
 have eqa:∀(ds:List PyData) (us:List Value) (bs:List Addr),ReadsAll s.heap us ds bs->PyData.canLayAll0 ds=true->∀z∈us,SeqAt.EqAt X.A.in1 s z v (eBy s.heap (wH t) z):=λds us bs rb hl z hz=>by obtain⟨d,cs,rd,hd⟩:=G2 ds us bs rb hl hz;rw[lI z d cs rd hd];exact SeqAt.eqAt_reads d (wH t) _ s z v _ _ rd ra hd p1 (room d)
 rcases r2 with r2|r2
 .obtain⟨p,ws,rfl,_,hp,rl⟩:=r2;cases ry;obtain⟨xj,rv,pl,_⟩:=I.list (yt.of hp);obtain⟨bs,rb⟩:=md I ts ws xj rl rv p2;refine SeqAt.notIn_listAt (eBy s.heap (wH t)) pl.isList (λz hz=>eqa _ _ _ rb p2 z (by simpa using hz)) ⟨.bl _,H,I,?_,q⟩;show Value.bool _=Value.bool _;rw[xK rfl,show(ts.any λu=>zz u t)=xj.toArray.any (eBy s.heap (wH t)) from by rw[show(xj.toArray.any (eBy s.heap (wH t)))=xj.any (eBy s.heap (wH t)) by simp];exact(oV (eBy s.heap (wH t)) (λy d as r hl=>lI y d as r hl) ts xj bs rb p2).symm]
 .obtain⟨p,ws,rfl,_,hp,rl⟩:=r2;cases ry;obtain⟨xj,rv,pl,_⟩:=I.tuple (yR.of hp);obtain⟨bs,rb⟩:=md I ts ws xj rl rv p2;refine SeqAt.notIn_tupleAt (eBy s.heap (wH t)) pl (λz hz=>eqa _ _ _ rb p2 z (by simpa using hz)) ⟨.bl _,H,I,?_,q⟩;show Value.bool _=Value.bool _;rw[xK rfl,show(ts.any λu=>zz u t)=xj.toArray.any (eBy s.heap (wH t)) from by rw[show(xj.toArray.any (eBy s.heap (wH t)))=xj.any (eBy s.heap (wH t)) by simp];exact(oV (eBy s.heap (wH t)) (λy d as r hl=>lI y d as r hl) ts xj bs rb p2).symm]
end
def tz (neg:Bool)(x y:Tr)(KK:Tr->Prop):Prop:=match x,y with
 |.int i,.int j=>KK (.bl (if neg then !decide (i=j) else decide (i=j)))
 |x,y=>gF x y/\KK (.bl (if neg then !zz x y else zz x y))
def Mt (i j:Int):gF (.int i) (.int j):=⟨rfl,rfl,by show min 0 0<=64;decide⟩
def Fs {neg:Bool}{x y:Tr}{KK:Tr->Prop}(h:tz neg x y KK):gF x y/\KK (.bl (if neg then !zz x y else zz x y)):=by
 unfold tz at h;split at h
 .exact⟨Mt _ _,h⟩
 .exact h
def os_eq:OpS Ie (tz false):=λF G H x y t u KK Q r1 r2 hf q=>by obtain⟨h1,h2⟩:=Fs hf;exact⟨F,G,t,u,r1,r2,h1,q _ _ rfl h2⟩
def wB:OpS Ir (tz true):=λF G H x y t u KK Q r1 r2 hf q=>by obtain⟨h1,h2⟩:=Fs hf;exact⟨F,G,t,u,r1,r2,h1,q _ _ rfl h2⟩
def fIn (neg:Bool)(x y:Tr)(KK:Tr->Prop):Prop:=match y with
 |.lst ts=>(pln x=true/\PyData.canLayAll0 (w4 ts)=true/\dep x<=60)/\KK (.bl (if neg then !(ts.any λu=>zz u x) else ts.any λu=>zz u x))
 |.tup ts=>(pln x=true/\PyData.canLayAll0 (w4 ts)=true/\dep x<=60)/\KK (.bl (if neg then !(ts.any λu=>zz u x) else ts.any λu=>zz u x))
 |_=>False
def eT:OpS (Ig neg) (fIn neg):=λF G H x y t u KK Q r1 r2 hf q=>by
 unfold fIn at hf;split at hf
 .exact⟨F,G,t,_,r1,.inl r2,hf.1.1,hf.1.2.1,hf.1.2.2,q _ _ rfl hf.2⟩
 .exact⟨F,G,t,_,r1,.inr r2,hf.1.1,hf.1.2.1,hf.1.2.2,q _ _ rfl hf.2⟩
 .exact hf.elim
end L2
namespace L2
open PySem PySem.Spec PyProof.Rows
def lQ (K:xt)(tl:TE):TI:=λσ H R=>tl σ H λx H1=>∃a,x=.ref a/\(((∃xs,yt K H1 a xs)/\R (Itl K a) H1)\/((∃xs,yR K H1 a xs)/\R (Itt K a) H1))
section
variable {X:Cx}
def zh (K:xt)(hl:PE X l tl)(e:X.K=K:=by rfl):PI X tg l (lQ K tl):=by
 subst e;intro xf s σ H R I h;refine yn (@hl xf s σ H _ I h) λv s1 ⟨x,H1,I1,r1,q1⟩=>?_;obtain⟨a,e,q⟩:=q1;subst e;cases r1;rcases q with ⟨⟨xs,hq⟩,q⟩|⟨⟨xs,hq⟩,q⟩
 .obtain⟨xj,rv,p,hz⟩:=I1.list hq;refine CN p.isList ?_;refine⟨s1.heap.objs.size,[s1.heap.objs.size],_,_,H1,rfl,I1.kept (t':=s1.toks) λb o e=>yY _ e,T_ a _,⟨_,wD _ rfl,rfl,rfl⟩,λb hb=>?_,q⟩;have e:b=s1.heap.objs.size:=by simpa using hb
  subst e;exact I1.fpOk (yg _) (I1.hok.fresh (yg _))
 .obtain⟨xj,rv,p,hz⟩:=I1.tuple hq;refine oy (show s1.heap.IsTuple a xj.toArray from p) ?_;refine⟨s1.heap.objs.size,[s1.heap.objs.size],_,_,H1,rfl,I1.kept (t':=s1.toks) λb o e=>yY _ e,Ub a _,⟨_,wD _ rfl,rfl,rfl⟩,λb hb=>?_,q⟩;have e:b=s1.heap.objs.size:=by simpa using hb
  subst e;exact I1.fpOk (yg _) (I1.hok.fresh (yg _))
end
section
variable {K:xt}
def zH (h:x_ K b te d):OkI K b (lQ K te) (Gn d):=λB φ σ τ H R KK Rs hd q=>
 h B φ σ τ H _ _ Rs hd λt v H1 x1 k1 r1=>by
  cases t with
  |lst ts=>
   obtain⟨a,ws,e,n,ha,rl⟩:=id r1;subst e;exact⟨a,rfl,.inl ⟨⟨ws,yt.of ha⟩,q _ ts _ H1 x1 k1 Np λp hp=>by cases zR.mp hp;exact r1⟩⟩
  |tup ts=>
   obtain⟨a,ws,e,n,ha,rl⟩:=id r1;subst e;exact⟨a,rfl,.inr ⟨⟨ws,yR.of ha⟩,q _ ts _ H1 x1 k1 Nq λp hp=>by cases zR.mp hp;exact r1⟩⟩
  |_=>exact k1.elim
def tW:nk K (lQ K (uk i)) (lR i):=λB φ σ τ H R KK Rs hd q=>by obtain⟨v,e,a,ea,s,r⟩:=P8 (i:=i) B φ σ τ H R KK Rs hd q;exact⟨v,e,a,ea,.inl ⟨s,r⟩⟩
end
def Ite (K:xt)(b:Bool)(a:Addr):It:=
 ⟨λi H=>∃xs x,Sq2 K b H a xs/\xs[i]?=some x,λi H v H'=>∃x q,(∀xs,Sq2 K b H a xs->xs[i]?=some x)/\v=.ref q/\H q=none/\H'=upd H q (.tup [.int i,x]),λi H=>∃xs,Sq2 K b H a xs/\xs.length<=i⟩
theorem Inv.sq2_inj (I:Inv X xf σ H s)(h:Sq2 X.K b H a xs)(h':Sq2 X.K b H a ys):xs=ys:=by
 cases b with
 |true=>exact I.tuple_inj (show yR X.K H a xs from h) h'
 |false=>exact I.list_inj (show yt X.K H a xs from h) h'
def Mi (D:Drw it a vs tn src)(hne:a≠it)(hh:A.handled=none) :
  Draws prog w A it [it,a] vs.length (λi x=>vs[i]?=some x) (λi h=>tn i h/\src h) where
 live:=λi h st=>let ⟨o,e,_⟩:=D.ob i h st.1;⟨o,e⟩
 frame:=λi h h' st k=>⟨D.mv _ _ _ st.1 (k it (by simp)),D.smv _ _ st.2 (k a (by simp))⟩
 item:=λi s Q E hi st hQ=>D.item prog w A E i vs[i] s Q st.1 st.2 (yA hi) λh' t' sb=>hQ _ h' s.toks (yA hi) ⟨t',D.smv _ _ st.2 λo e=>sb.extBut _ o hne e⟩ sb
 done:=λs Q E st hE=>D.fin prog w A E vs.length s Q hh st.1 st.2 (sf (yg _)) hE
section
variable {P:Program} {w:World} {K:xt} {e it a:Addr} {b:Bool}
def ESt (b:Bool)(e it a:Addr)(i:Nat)(h:Heap):Prop:=(∃old,IsEnum h e it i old)/\Tn2 b it a i h
def T9 (hei:e≠it)(hea:a≠e)(hia:a≠it):Turn P w K (.Tuple elts kk pp) (Ite K b a) [e,it] e (ESt b e it a) where
 mem:=by simp
 obj:=λi h st c hc=>by
  obtain⟨⟨old,s1⟩,s2⟩:=st;simp only[xU,zi,zo] at hc;rcases hc with z|z<;>subst z
  .exact⟨_,s1,λv=>by simp⟩
  .exact(u4 b _ a []).ob _ _ s2
 keep:=λi h h' st k=>by obtain⟨⟨old,s1⟩,s2⟩:=st;exact⟨⟨old,k _ (by simp) _ s1⟩,(u4 b it a []).mv _ _ _ s2 λo e=>k _ (by simp) o e⟩
 item:=by
  intro X hP hw hK hc i xf s σ H E I hf st hg;subst hP hw hK;obtain⟨⟨old,s1⟩,s2⟩:=st;obtain⟨xs,x,sq1,hx⟩:=hg;obtain⟨vs,rv,c1⟩:=I.sq2 sq1;obtain⟨xv,ex,rx⟩:=rv.get hx;have hi:i<vs.length:=(zc.mp ex).1;have fr:H s.heap.objs.size=none:=I.hok.fresh (yg _);have D:=Mi (prog:=X.prog) (w:=X.w) (A:=X.A.in1) (u4 b it a vs) hia (show X.A.in1.handled=none from I.ok.hd hc);refine wpAny_pyNext_enum_itemD D s1 ⟨s2,c1⟩ hi hei (by simp[hei,zK hea]) λxv' g tk hP ho st' hT hsz kp=>⟨_,rfl,?_⟩
  rw[ex] at hP;cases hP;refine wpAny_letOwnedTupleGo_enum ho λg2 he2 S2=>?_;have lte:e<s.heap.objs.size:=yH s1;have kp2:∀c o,c∉[e,it]->s.heap.get? c=some o->g2.get? c=some o:=λc o hc e=>by simp only[xU,zi,zo,not_or] at hc;exact S2.extBut _ _ hc.1 (kp c o hc.1 hc.2 e)
  have T2:=S2.extBut _ _ (jf lte) hT;have st2:ESt b e it a (i+1) g2:=⟨⟨_,by simpa using he2⟩,(u4 b it a vs).mv _ _ _ st'.1 λo q=>S2.extBut _ o (zK hei) q⟩
  have nfp:∀c u,H c=some u->c∉[e,it]:=λc u q hm=>by rw[(hf c hm).1] at q;cases q
  have nT:∀c o,s.heap.get? c=some o->c≠s.heap.objs.size:=λc o e=>zV (yH e);refine⟨.ref s.heap.objs.size,upd H s.heap.objs.size (.tup [.int i,x]),?_,rfl,⟨x,_,λxs' h'=>by rw[<-I.sq2_inj sq1 h'];exact hx,rfl,fr,rfl⟩,st2,λc hm=>?_⟩
  .show Inv X xf σ (upd H s.heap.objs.size (.tup [.int i,x])) {s with heap:=g2,gens:=s.gens,drawn:=s.drawn,toks:=tk+1};refine Inv.step (s:=s) (g':=s.gens) (d':=s.drawn) (t':=tk+1) (ch:=[e,it]) I (λc hm=>?_) (λc o _ _ hm e _=>kp2 c o hm e) (λc o _ _ hm e _=>⟨o.slots,kp2 c o hm e⟩) (λc o hm e n=>by rw[yl (nT c o e)];exact n) (λc o hm e=>⟨o,kp2 c o hm e⟩)
    (λc zs e=>by rw[yl (zq e fr)];exact e) (λc o u e=>by rw[yl (zq e fr)];exact e) (λc ps e=>⟨#[],by rw[yl (zq e fr),e];simp⟩) (λm hm=>?_) (λc u e=>?_) I.bare
   .obtain⟨_,f1,_,f3,f4,f5⟩:=hf c hm;exact⟨f3,f1,f4,f5⟩
   .obtain⟨o,es,ep,ho,r⟩:=hm;exact⟨o,es,ep,kp2 _ o (λz'=>(hf _ z').2.1 rfl) ho,r⟩
   .by_cases hc':c=s.heap.objs.size
    .subst hc';rw[zA] at e;cases e;exact⟨by show 2<=sizeLine;decide,[.int i tk,xv],.cons ⟨_,rfl⟩ (.cons rx .nil),_,T2,rfl,0,rfl⟩
    .rw[yl hc'] at e;refine(I.hok c u e).stay (λc' v hcc q'=>kp2 c' v ?_ q') (λc' q'=>by rw[yl (zq q' fr)];exact q') (λc' zs q'=>by rw[yl (zq q' fr)];exact q') λc' o u q'=>by rw[yl (zq q' fr)];exact q'
     rcases hcc with rfl|hcc
     .exact nfp _ _ e
     .exact nfp _ _ hcc
  .rw[yl]
   .exact(hf c hm).1
   .simp only[xU,zi,zo] at hm;rcases hm with z|z<;>subst z
    .exact nT _ _ s1
    .obtain⟨o,e,_⟩:=(u4 b _ a []).ob _ _ s2;exact nT _ _ e
 done:=by
  intro X hP hw hK hc i xf s σ H E I hf st hg;subst hP hw hK;obtain⟨⟨old,s1⟩,s2⟩:=st;obtain⟨xs,sq1,hend⟩:=hg;obtain⟨vs,rv,c1⟩:=I.sq2 sq1;have hT:s.TypeIs (.ref e) "enumerate" := ⟨_,s1,rfl⟩
  unfold pyNext;refine xi (rF (jM (name:=Str.ofString "__next__") hT F.slot_enumerate_next (qq F.slot_enumerate_next hT F.entry_enumerate_next ?_ (F.args_enumerate_next_1 _))));show wpAny _ _ (field (.ref e) 2>>=_) _ _ _;refine xi (vU s1 rfl (x:=.ref it) rfl ?_);refine xi ((u4 b it a vs).fin _ _ _ _ i s _ (I.ok.hd hc) s2 c1 (sf (by rw[<-rv.length];exact hend)) λg x kp hx'=>?_);obtain⟨o,ho,hcl⟩:=hx';refine xi (CJ (T := "StopIteration") (b:=true) ⟨o,ho,hcl⟩ CF (xN ⟨rfl,?_⟩));have kp2:∀c o,c∉[e,it]->s.heap.get? c=some o->g.get? c=some o:=λc o hc q=>by simp only[xU,zi,zo,not_or] at hc;exact kp c o hc.2 q
  have nfp:∀c u,H c=some u->c∉[e,it]:=λc u q hm=>by rw[(hf c hm).1] at q;cases q
  refine Inv.step (s:=s) (g':=s.gens) (d':=s.drawn) (t':=s.toks) (ch:=[e,it]) I (λc hm=>?_) (λc o _ _ hm e _=>kp2 c o hm e) (λc o _ _ hm e _=>⟨o.slots,kp2 c o hm e⟩) (λc o hm e n=>n) (λc o hm e=>⟨o,kp2 c o hm e⟩)
   (λc zs e=>e) (λc o u e=>e) (λc ps e=>⟨#[],by rw[e];simp⟩) (λm hm=>?_) (λc u e=>?_) I.bare
  .obtain⟨_,f1,_,f3,f4,f5⟩:=hf c hm;exact⟨f3,f1,f4,f5⟩
  .obtain⟨o,es,ep,ho,r⟩:=hm;exact⟨o,es,ep,kp2 _ o (λz'=>(hf _ z').2.1 rfl) ho,r⟩
  .refine(I.hok c u e).stay (λc' v hcc q'=>kp2 c' v ?_ q') (λ_ q'=>q') (λ_ _ q'=>q') λ_ _ _ q'=>q';rcases hcc with rfl|hcc
   .exact nfp _ _ e
   .exact nfp _ _ hcc
 self:=λA i s Q E st h=>by obtain⟨⟨old,s1⟩,_⟩:=st;exact wpAny_pyIter_enum s1 h
end
open AutoSeq1 (wpAny_loadPart') in
def N0 (l:Addr)(items:Array Value)(n:Nat)(dct:Option Addr)(sl:Array (Option Value)) :
  Meets (Builtin.«enumerate.__new__» ⟨[.type "enumerate", .ref l],[]⟩) (λ_ R s=>s.heap.get? l=some {cls:=.type "tuple", dict:=dct,data:=.seq items n,slots:=sl}/\R (.ok (.ret (.ref (s.heap.push {cls:=.type "tuple_iterator", data:=.fields #[.ref l,.int 0 0]}).objs.size))) {s with heap:=(s.heap.push {cls:=.type "tuple_iterator", data:=.fields #[.ref l,.int 0 0]}).push {cls:=.type "enumerate", data:=.fields #[.none,.bool false,.ref s.heap.objs.size,rawInt 0,.none,.none]} }):=
 .of_wp λprog w A R s h=>by
  obtain⟨hp,g,d,tk,os⟩:=s;obtain⟨hl,h⟩:=h;have hsub:=sub_enumerate;have hL:Heap.IsTuple (Shared.heap ⟨hp,g,d,tk,os⟩) l items:=⟨_,hl,rfl,n,rfl⟩
  wp_walk using kL hl
  refine wpAny_stack_any λst=>xN ?_;split
  .rename_i c _ _ _ _ _;cases (c==Value.type "enumerate")
   .wp_walk using kL hl,oy hL
    exact⟨_,rfl,h⟩
   .wp_walk using kL hl,oy hL
    exact⟨_,rfl,h⟩
  .wp_walk using kL hl,oy hL
   exact⟨_,rfl,h⟩
section
variable {prog:Program} {w:World} {A:Around} {E:Value->Shared->Prop} {s:Shared}
def Lq (hL:s.heap.IsTuple l items)
  (h:∀h',IsEnum h' (s.heap.objs.size+1) s.heap.objs.size 0 .none->h'.IsTupleIter s.heap.objs.size l 0->h'.objs.size=s.heap.objs.size+2->(∀b o,s.heap.get? b=some o->h'.get? b=some o)->Q (.ref (s.heap.objs.size+1)) {s with heap:=h' }) :
  wpAny (model prog w) A (call (.type "enumerate") [.ref l]) Q E s:=by
 obtain⟨⟨c,dct,dt,sl⟩,hl,hc,n,hd⟩:=hL
 replace hc:c=.type "tuple" := hc
 replace hd:dt=.seq items n:=hd
 subst hc hd;refine callType_new F.called_enumerate (by decide) (F.typeCall_enumerate_1 _) (F.newCall_enumerate_1 _) (λobj=>F.args_object_init_2 obj _) F.entry_enumerate_new
  (N0 l items n dct sl) ⟨hl,?_⟩
 have hz:(s.heap.push {cls:=.type "tuple_iterator", data:=.fields #[.ref l,.int 0 0]}).objs.size=s.heap.objs.size+1:=ft ..;show _/\_;rw[hz];have he:IsEnum ((s.heap.push {cls:=.type "tuple_iterator", data:=.fields #[.ref l,.int 0 0]}).push {cls:=.type "enumerate", data:=.fields #[.none,.bool false,.ref s.heap.objs.size,rawInt 0,.none,.none]}) (s.heap.objs.size+1) s.heap.objs.size 0 .none:=by
  have:=wD (s.heap.push {cls:=.type "tuple_iterator", data:=.fields #[.ref l,.int 0 0]})
   (o:={cls:=.type "enumerate", data:=.fields #[.none,.bool false,.ref s.heap.objs.size,rawInt 0,.none,.none]}) rfl
  rw[hz] at this;exact this
 refine⟨⟨_,he,rfl⟩,h _ he ⟨_,yY _ (wD _ rfl),rfl,rfl⟩ (by rw[ft,hz]) λb o x=>yY _ (yY _ x)⟩
end
def Lm:bootBuiltins "enumerate" = some (.type "enumerate"):=by decide +kernel
def Gj (K:xt)(ta:TA):TI:=λσ H R=>ta σ H λvs H1=>∃(b:Bool) (a:Addr) (xs:List V),vs=[.ref a]/\Sq2 K b H1 a xs/\R (Ite K b a) H1
section
variable {X:Cx}
theorem e_ (K:xt)(hg:Gl X "enumerate")(hm:X.mg "enumerate" = none)(ha:PA X [a] ta)(hs:starEach [a] X.env=[(false,eval a X.env)]:=by rfl)(eK:X.K=K:=by rfl) :
  PI X (.Tuple elts kk pp) (.Call (.Name "enumerate" p) [a] [] pos) (Gj K ta):=by
 subst eK;intro xf s σ H R I h;refine Call_ (f_ I hg hm Lm (ot (yn (@ha pos xf s σ H _ I h) λus s1 ⟨vs,H1,I1,r1,q1⟩=>?_) (by rw[hs];rfl) (by rfl)));obtain⟨bb,a1,xs,e,sq1,q⟩:=q1;subst e;obtain⟨u1,rfl,ru⟩:=vals1 r1;obtain rfl:u1=Value.ref a1:=ru;obtain⟨vs,rv,c1⟩:=I1.sq2 sq1;have mk:∀g,ESt bb (s1.heap.objs.size+1) s1.heap.objs.size a1 0 g->a1<s1.heap.objs.size->(∀c o,s1.heap.get? c=some o->g.get? c=some o)->
   wpAny (model X.prog X.w) X.A (pyIter (.ref (s1.heap.objs.size+1))) (PIE X xf σ (.Tuple elts kk pp) R) X.xe {s1 with heap:=g}:=λg st la kp=>by
  obtain⟨⟨old,he⟩,st2⟩:=st;refine wpAny_pyIter_enum he ⟨_,[s1.heap.objs.size+1,s1.heap.objs.size],ESt bb (s1.heap.objs.size+1) s1.heap.objs.size a1,_,H1,rfl,I1.kept (t':=s1.toks) kp,T9 (Nat.succ_ne_self _) (zV (fE la)) (zV la),⟨⟨old,he⟩,st2⟩,λb hb=>?_,q⟩
  simp only[xU,zi,zo] at hb;rcases hb with rfl|rfl
  .exact I1.fpOk (sE _) (I1.hok.fresh (sE _))
  .exact I1.fpOk (yg _) (I1.hok.fresh (yg _))
 cases bb with
 |true=>have c1:s1.heap.IsTuple a1 vs.toArray:=c1;refine Lq c1 ?_;intro g z1 z2 _ kp;refine mk g ⟨⟨_,z1⟩,z2⟩ ?_ kp;obtain⟨o,e,_⟩:=c1;exact yH e
 |false=>have c1:s1.heap.IsList a1 vs.toArray:=c1;refine call_enumerate_list c1 ?_;intro g z1 z2 _ kp;refine mk g ⟨⟨_,z1⟩,z2⟩ ?_ kp;obtain⟨o,e,_⟩:=c1;exact yH e
end
def sW:Nat->List Tr->List Tr
 |_,[]=>[]
 |k,t::ts=>.tup [.int k,t]::sW (k+1) ts
def vB (ts:List Tr):List Tr:=sW 0 ts
theorem fW:∀(k:Nat) (ts:List Tr),(sW k ts).length=ts.length
 |_,[]=>rfl
 |k,_::ts=>by show(sW (k+1) ts).length+1=_;rw[fW];rfl
theorem n6:∀ {k:Nat} {ts:List Tr} {i:Nat} {t:Tr},ts[i]?=some t->(sW k ts)[i]?=some (.tup [.int ((k+i:Nat):Int),t])
 |_,[],_,_,h=>by simp at h
 |k,x::ts,0,t,h=>by simp at h;subst h;rfl
 |k,x::ts,i+1,t,h=>by show(sW (k+1) ts)[i]?=_;rw[n6 (k:=k+1) (ts:=ts) (i:=i) (by simpa using h)];rw[show k+1+i=k+(i+1) by lia]
section
variable {K:xt}
def Nm:ItL (Ite K false a) (vB ts) [(.lst ts,.ref a)] where
 go:=λF H i s hi=>by obtain⟨a',ws,e,n,h,r⟩:=s _ xT;cases e;rw[show(vB ts).length=ts.length from fW 0 ts] at hi;obtain⟨w,e1,_⟩:=r.getT (yA hi);exact⟨ws,w,yt.of h,e1⟩
 stop:=λF H s=>by obtain⟨a',ws,e,n,h,r⟩:=s _ xT;cases e;exact⟨ws,yt.of h,by rw[show(vB ts).length=ts.length from fW 0 ts,<-r.len];exact yg _⟩
 yld:=λF i H x H' s d hi y=>by obtain⟨a',ws,e,n,h,r⟩:=s _ xT;cases e;obtain⟨v,q,hv,rfl,hq,rfl⟩:=y;obtain⟨t,e1,e2⟩:=r.get (hv ws (yt.of h));refine⟨.inr ⟨q,_,hq,rfl⟩,.tup [.int i,t],?_,q,_,rfl,λz=>d q z hq,zA,⟨_,_,rfl,rfl,_,_,rfl,cI hq e2,rfl⟩⟩;have:=n6 (k:=0) e1;rw[Nat.zero_add] at this;exact this
def Nn:ItL (Ite K true a) (vB ts) [(.tup ts,.ref a)] where
 go:=λF H i s hi=>by obtain⟨a',ws,e,n,h,r⟩:=s _ xT;cases e;rw[show(vB ts).length=ts.length from fW 0 ts] at hi;obtain⟨w,e1,_⟩:=r.getT (yA hi);exact⟨ws,w,yR.of h,e1⟩
 stop:=λF H s=>by obtain⟨a',ws,e,n,h,r⟩:=s _ xT;cases e;exact⟨ws,yR.of h,by rw[show(vB ts).length=ts.length from fW 0 ts,<-r.len];exact yg _⟩
 yld:=λF i H x H' s d hi y=>by obtain⟨a',ws,e,n,h,r⟩:=s _ xT;cases e;obtain⟨v,q,hv,rfl,hq,rfl⟩:=y;obtain⟨t,e1,e2⟩:=r.get (hv ws (yR.of h));refine⟨.inr ⟨q,_,hq,rfl⟩,.tup [.int i,t],?_,q,_,rfl,λz=>d q z hq,zA,⟨_,_,rfl,rfl,_,_,rfl,cI hq e2,rfl⟩⟩;have:=n6 (k:=0) e1;rw[Nat.zero_add] at this;exact this
def M8 (d:DA):DI:=λτ KK=>d τ λxs=>match xs with|[.tup ts]=>KK (vB ts)|[.lst ts]=>KK (vB ts)|_=>False
def eO (h:OkA K b n ta da):OkI K b (Gj K ta) (M8 da):=λB φ σ τ H R KK Rs hd q=>
 h B φ σ τ H _ _ Rs hd λts vs H1 x1 k1 l1 r1=>by
  split at k1
  .rename_i us;obtain⟨v,rfl,r⟩:=qD r1;obtain⟨a,ws,e,n,ha,rl⟩:=id r;subst e;exact⟨true,a,ws,rfl,yR.of ha,q _ _ _ H1 x1 k1 Nn λp hp=>by cases zR.mp hp;exact r⟩
  .rename_i us;obtain⟨v,rfl,r⟩:=qD r1;obtain⟨a,ws,e,n,ha,rl⟩:=id r;subst e;exact⟨false,a,ws,rfl,yt.of ha,q _ _ _ H1 x1 k1 Nm λp hp=>by cases zR.mp hp;exact r⟩
  .exact k1.elim
end
end L2
namespace L2
open PySem PySem.Spec PyProof.Rows
def Ib (K:xt):R2:=λx y H Q=>∃a b xs ys,x=.ref a/\y=.ref b/\yR K H a xs/\yR K H b ys/\xs.length+ys.length<=sizeLine/\
 (xs=[]->Q (.ref b) H)/\(xs≠[]->ys=[]->Q (.ref a) H)/\(xs≠[]->ys≠[]->∀p,H p=none->Q (.ref p) (upd H p (.tup (xs++ys))))
section
variable {X:Cx}
def Qf:zB X (binaryOp .Add) (Ib X.K):=by
 intro xf s σ H x y v u Q I rx ry h;obtain⟨a,b,xs,ys,rfl,rfl,ha,hb,hz,q0,q1,q2⟩:=h;by_cases hx:xs=[]
 .cases rx;cases ry;obtain⟨xj,r1,p1,_⟩:=I.tuple ha;obtain⟨its2,r2,p2,_⟩:=I.tuple hb;obtain⟨⟨cls,dd,data,sl⟩,ho,hc,n,hd⟩:=id p1;obtain⟨⟨cls2,dd2,data2,sl2⟩,ho2,hc2,n2,hd2⟩:=id p2;simp only at hc hd hc2 hd2;subst hc hd hc2 hd2;have hv:xj=[]:=r1.nil_iff.mpr hx;exact concat_meets ⟨_,ho,rfl⟩ ⟨_,ho2,rfl⟩ KI seq_tuple_add KD KC (KA _ _)
   (tuple_addW0 a b xj.toArray its2.toArray n n2 dd dd2 sl sl2 (by simp[hv])) ⟨ho,ho2,⟨.ref b,H,I,rfl,q0 hx⟩⟩
 .exact Qg xf s σ H _ _ _ _ Q I rx ry ⟨a,b,xs,ys,rfl,rfl,ha,hb,hx,hz,q1 hx,q2 hx⟩
def Iu (K:xt):R2:=λx y H Q=>∃a k xs,x=.ref a/\y=.int k/\yR K H a xs/\xs≠[]/\2<=k/\k<2^63/\xs.length*k.toNat<=sizeLine/\∀p,H p=none->Q (.ref p) (upd H p (.tup (List.replicate k.toNat xs).flatten))
end
def Oi:fillsNumberSlot (.type "tuple") "mul" = pure false:=PySem.fillsNumberSlot_seq (id := "tuple.__mul__") (r:=some (.builtin "tuple.__rmul__")) Kd.lookup (by decide +kernel) F.slot_tuple_rmul.lookup (by decide +kernel)
def R_:seqRepeat? (.type "tuple")=pure (some (.builtin "tuple.__mul__")):=by unfold seqRepeat?;rw[PySem.seqSlot_of (T := "tuple") (name := "__mul__") (id := "tuple.__mul__") Kd.lookup (by decide +kernel),PySem.seqSlot_of (T := "tuple") (name := "__rmul__") (id := "tuple.__rmul__") F.slot_tuple_rmul.lookup (by decide +kernel)];rfl
open AutoSeq1 (wpAny_loadPart') in
def Nf (a:Int)(t:Tok)(l:Addr)(items:Array Value)(n:Nat)(dd:Option Addr)(sl:Array (Option Value)) :
  Meets (Builtin.«int.__rmul__» ⟨[.int a t,.ref l],[]⟩) (λ_ R s=>s.heap.get? l=some {cls:=.type "tuple", dict:=dd,data:=.seq items n,slots:=sl}/\R (.ok (.ret Value.notImplemented)) s):=
 .of_wp λprog w A R s h=>by obtain⟨hp,g,d,tk,os⟩:=s;obtain⟨hl,h⟩:=h;wp_walk using kL hl;exact⟨_,rfl,h⟩
open AutoSeq1 (wpAny_loadPart') in
def T7 (l:Addr)(items:Array Value)(n:Nat)(dd:Option Addr)(sl:Array (Option Value))(x:Int)(u:Tok)(h0:¬items.isEmpty=true)(h1:2<=x)(h2:x<2^63)(h3:items.size*x.toNat<=sizeLine) :
  Meets (Builtin.«tuple.__mul__» ⟨[.ref l,.int x u],[]⟩) (λ_ R s=>s.heap.get? l=some {cls:=.type "tuple", dict:=dd,data:=.seq items n,slots:=sl}/\R (.ok (.ret (.ref s.heap.objs.size))) {s with heap:=s.heap.push {cls:=.type "tuple", data:=.seq ((List.replicate x.toNat items).foldl (·++·) #[])} }):=
 .of_wp λprog w A R s h=>by
  obtain⟨hp,g,d,tk,os⟩:=s;obtain⟨hl,h⟩:=h;have f1:=AutoSeq1.idx_int;have c1:¬(decide (x < -(2^63))||decide (x>=2^63))=true:=by simp;lia
  have c2:¬(items.isEmpty||x==1)=true:=by simp;constructor;simpa using h0;lia
  have c3:¬(decide (x<=0)||items.isEmpty)=true:=by simp;constructor;lia;simpa using h0
  wp_walk using kL hl
  rw[xH c1]
  wp_walk using kL hl
  rw[xH c2];show wpAny _ _ (if (decide (x<=0)||items.isEmpty)=true then _ else _) _ _ _;rw[xH c3];have c4:¬((items.size:Int)*x>(2^63-1)/8):=by
   have e:(items.size:Int)*x=((items.size*x.toNat:Nat):Int):=by rw[Int.natCast_mul,Ko (by lia)]
   rw[e];have:items.size*x.toNat<=16777216:=h3;lia
  show wpAny _ _ (if (items.size:Int)*x>(2^63-1)/8 then _ else _) _ _ _;rw[xH c4];have c5:¬Builtin.Tuple.tupleTooMany ((items.size:Int)*x)=true:=by
   unfold Builtin.Tuple.tupleTooMany;have e:(items.size:Int)*x=((items.size*x.toNat:Nat):Int):=by rw[Int.natCast_mul,Ko (by lia)]
   rw[e];intro z;have z':=yV z;have:(sizeLine:Int)<((items.size*x.toNat:Nat):Int):=z';have h4:((items.size*x.toNat:Nat):Int)<=(sizeLine:Int):=Int.ofNat_le.mpr h3;exact absurd this (rm.mpr h4)
  show wpAny _ _ (if Builtin.Tuple.tupleTooMany ((items.size:Int)*x)=true then _ else _) _ _ _;rw[xH c5];have hsz:(List.foldl (λx1 x2=>x1++x2) #[] (List.replicate x.toNat items)).size<=sizeLine:=by
   have f0:=foldl_rep items.toList x.toNat [];rw[qM] at f0;have f1:List.foldl (λx1 x2=>x1++x2) #[] (List.replicate x.toNat items)=(List.replicate x.toNat items.toList).flatten.toArray:=by simpa using f0
   rw[f1,wm,len_rep,Nat.mul_comm,kJ];exact h3
  exact xi (m:=Builtin.Tuple.tupleExact _) (vI (xN ⟨_,rfl,h⟩) hsz)
section
variable {X:Cx}
def Qi:zB X (binaryOp .Mult) (Iu X.K):=by
 intro xf s σ H x y v u Q I rx ry h;obtain⟨a,k,xs,rfl,rfl,ha,hx,h1,h2,hz,q⟩:=h;cases rx;obtain⟨t,rfl⟩:=ry;obtain⟨xj,r,p1,_⟩:=I.tuple ha;obtain⟨⟨cls,dd,data,sl⟩,ho,hc,n,hd⟩:=id p1;simp only at hc hd;subst hc hd;have hlen:=r.length;have hne:¬xj.toArray.isEmpty=true:=by
  intro z;have:xj=[]:=by simpa using z
  exact hx (r.nil_iff.mp this)
 refine wpAny_binaryOp_repeat_ref (T := "tuple") (U := "int") (by decide) ⟨_,ho,rfl⟩ (λs'=>ou s' k t) Oi F.fills_int_mul B6 R_ F.slot_int_index.lookup
  (fG B6 (ou s k t) F.entry_int_rmul (F.args_int_rmul_2 _ _) (Nf k t a xj.toArray n dd sl) ⟨ho,rfl,⟨_,ho,rfl⟩,fG Kd ⟨_,ho,rfl⟩ F.entry_tuple_mul (F.args_tuple_mul_2 _ _) (T7 a xj.toArray n dd sl k t hne h1 h2 (by rw[wm,<-hlen];exact hz)) ⟨ho,?_⟩⟩)
 have hnew:List.foldl (λx1 x2=>x1++x2) #[] (List.replicate k.toNat xj.toArray)=(List.replicate k.toNat xj).flatten.toArray:=by have:=foldl_rep xj k.toNat [];rw[qM] at this;exact this
 rw[hnew];refine⟨.ref s.heap.objs.size,_,I.laid (t':=s.toks) (o:=.tup (List.replicate k.toNat xs).flatten) (λb ob q=>yY _ q) (yg _) ?_,rfl,q _ (I.hok.fresh (yg _))⟩;exact⟨by rw[len_rep,Nat.mul_comm];exact hz,_,r.rep k.toNat,mL _ _⟩
def H_ (K:xt):R2:=λx y H Q=>(rI0 λi j=>.int (i+j)) x y H Q\/Ae x y H Q\/Ib K x y H Q
def aH (K:xt)(e:X.K=K:=by rfl):zB X (binaryOp .Add) (H_ K):=by subst e;exact ud.or (cq.or Qf)
def Iq (K:xt):R2:=λx y H Q=>(rI CM λi j=>.int (i*j)) x y H Q\/Ak x y H Q\/Iu K x y H Q
def kY (K:xt)(e:X.K=K:=by rfl):zB X (binaryOp .Mult) (Iq K):=by subst e;exact yr.or (Hw.or Qi)
def Io (K:xt):R2:=λx y H Q=>(rI0 λi j=>.bl (decide (i<j))) x y H Q\/Ip K x y H Q
def kB (K:xt)(hu:X.A.units+64<cLine)(e:X.K=K:=by rfl):zB X (compareOp .Lt) (Io K):=by subst e;exact Hu.or (Qh (je (fC _ _) hu))
end
section
variable {prog:Program} {w:World} {A:Around} {E:Value->Shared->Prop} {s:Shared}
def M2 {t sl:Addr}{items:Array Value}{vl vu:Value}{lo hi:Option Int}{Q:Value->Shared->Prop}(ht:IsTup s.heap t items)(hs:s.heap.IsSliceOf sl vl vu .none)(pl:IsPart vl lo)(pu:IsPart vu hi)
  (hw:HT.yw items.size 0 lo=0/\HT.yw items.size items.size hi=items.size) (h:Q (.ref t) s):wpAny (model prog w) A (getItem (.ref t) (.ref sl)) Q E s:=by
 obtain⟨os,hos,hcs,hds⟩:=id hs;have hTs:s.TypeIs (.ref sl) "slice" := ⟨os,hos,hcs⟩
 unfold getItem
 try with_reducible refine kK ?_
 first|refine xi (xN ?_)|skip
 refine xi (wpAny_sequenceKey ht.typeIs (by decide) ?_);refine xi (jM (name:=Str.ofString "__getitem__") ht.typeIs mX (qq mX ht.typeIs entry_tuple_getitem ?_ (args_tuple_getitem _ _)))
 show wpAny _ _ (Builtin.Tuple.tupleItemsOf (.ref t)>>=_) _ _ s;refine xi (tupleItemsOf_ ht ?_);refine xi (wpAny_typeOf hTs ?_);rw[xK (by decide)];refine xi (HT.Jq hs pl pu ?_);have hyes:(((HT.yw items.size 0 lo:Nat):Int)==0&&(1:Int)==1&&(HT.yw items.size items.size hi-HT.yw items.size 0 lo)==items.size)=true:=by rw[hw.1,hw.2];simp
 show wpAny _ _ (if (((HT.yw items.size 0 lo:Nat):Int)==0&&(1:Int)==1&&(HT.yw items.size items.size hi-HT.yw items.size 0 lo)==items.size)=true then _ else _) _ _ s;rw[xK hyes];have hex:∀ {Q':Bool->Shared->Prop} {E':Value->Shared->Prop} {A':Around},Q' true s->wpAny (model prog w) A' (Builtin.Tuple.tupleIsExact (.ref t)) Q' E' s:=λ {Q' E' A'} hq=>by
  unfold Builtin.Tuple.tupleIsExact;refine xi (wpAny_typeOf ht.typeIs (xN ?_));have e:(Value.type "tuple" == Value.type "tuple")=true:=by decide
  rw[e];exact hq
 refine xi (hex ?_);rw[xK rfl];exact xi (sG (xN ⟨_,rfl,xN h⟩))
end
section
variable {X:Cx}
def Iz (K:xt):V->Option Int->Option Int->Hp->VK->Prop:=λx lo hi H Q=>∃a xs,x=.ref a/\yR K H a xs/\
 (qv xs lo hi=xs->Q (.ref a) H)/\∀p,H p=none->Q (.ref p) (upd H p (.tup (qv xs lo hi)))
def Tz:SlR X (Iz X.K):=by
 intro xf s σ H x v vl vu lo hi sl Q I rx hs pl pu h;obtain⟨a,xs,rfl,hx,q0,q⟩:=h;by_cases hw:HT.yw xs.length 0 lo=0/\HT.yw xs.length xs.length hi=xs.length
 .cases rx;obtain⟨xj,r,ht,hz⟩:=I.tuple hx;have hlen:xj.toArray.size=xs.length:=by rw[wm];exact r.length.symm
  refine⟨"tuple", _,mX.lookup,ht.typeIs,?_⟩;refine M2 ht hs pl pu (by rw[hlen];exact hw) ⟨.ref a,H,I,rfl,q0 ?_⟩;unfold qv;rw[hw.1,hw.2,p8,CC,mS]
 .exact Tx xf s σ H _ v vl vu lo hi sl Q I rx hs pl pu ⟨a,xs,rfl,hx,hw,q⟩
def Iy (K:xt):V->Option Int->Option Int->Hp->VK->Prop:=λx lo hi H Q=>t_ K x lo hi H Q\/Iz K x lo hi H Q
def pI (K:xt)(e:X.K=K:=by rfl):SlR X (Iy K):=by
 subst e;intro xf s σ H x v vl vu lo hi sl Q I rx hs pl pu h;rcases h with h|h
 .exact Jp xf s σ H x v vl vu lo hi sl Q I rx hs pl pu h
 .exact Tz xf s σ H x v vl vu lo hi sl Q I rx hs pl pu h
def Ih:V->List V->Hp->VK->Prop:=λx vs H Q=>∃(l:Addr) (xs:List V) (y:V) (k:Nat),x=.ref l/\vs=[.int k,y]/\H l=some (.lst xs)/\xs.length<sizeLine/\k<=xs.length/\Q .non (upd H l (.lst (xs.take k++[y]++xs.drop k)))
def Nd (I:Inv X xf σ H s)(hH:H l=some (.lst xs))(hz:xs.length<sizeLine)(ki:Int)(k:Nat)(t1:Tok)(hk1:0<=ki)(hk3:ki<=(xs.length:Int))(hkt:ki.toNat=k)
  (ru:RelV y u2) (q:Q .non (upd H l (.lst (xs.take k++[y]++xs.drop k)))):wpAny (model X.prog X.w) X.A (call (.builtin "list.insert") [.ref l,.int ki t1,u2]) (EP X xf σ Q) X.xe s:=by
 obtain⟨z,xj,n,r,hl,e⟩:=I.lstM hH;have hk2:ki<2^63:=by have:xs.length<=16777216:=z;lia
 have hfit:¬(!Builtin.List.listFitsIndex ki)=true:=by rw[fitsIndex_both (by lia) hk2];exact wR
 have hsz:xj.toArray.size<=sizeLine:=by rw[wm];lia
 have hk':k<=xj.length:=by lia
 refine fG F.slot_list_insert ⟨_,e,rfl⟩ F.entry_list_insert (F.args_list_insert_3 _ _ _) (AutoSeq1.list_insert_list_int_val_1 l xj.toArray n ki t1 u2 hfit hsz) ⟨e,?_⟩;refine⟨.non,_,I.lset (its':=xj.take k++[u2]++xj.drop k) hH e ?_ ((yk.append (r.take k) (.cons ru .nil)).append (r.drop k)) ?_,rfl,q⟩
 .have e1:(if ki<0 then(ki+(xj.toArray.size:Int)).toNat else min ki.toNat xj.toArray.size)=k:=by rw[xH (by lia),hkt,wm,Nat.min_eq_left hk']
  show((xj.toArray.extract 0 (if ki<0 then(ki+(xj.toArray.size:Int)).toNat else min ki.toNat xj.toArray.size)).push u2++xj.toArray.extract (if ki<0 then(ki+(xj.toArray.size:Int)).toNat else min ki.toNat xj.toArray.size))=_;rw[e1];apply Array.toList_inj.mp;simp;exact uK (by rw[qo];exact yg _)
 .simp only[zy,uJ,qo,gB];lia
def Ob:MtM X "list.insert" Ih:=by intro xf s σ H x vs v us Q I rx rv h;obtain⟨l,xs,y,k,rfl,rfl,hH,hz,hk,q⟩:=h;cases rx;obtain⟨u1,u2,rfl,⟨t1,rfl⟩,ru⟩:=vals2 rv;have hk1:(0:Int)<=(k:Int):=Cg k;have hk3:(k:Int)<=(xs.length:Int):=Int.ofNat_le.mpr hk;have hkt:(k:Int).toNat=k:=jI k;generalize (k:Int)=ki at hk1 hk3 hkt ⊢;exact Nd I hH hz ki k t1 hk1 hk3 hkt ru q
end
section
variable {K:xt} {fr:Bool}
def tw (x y:Tr)(KK:Tr->Prop):Prop:=match x,y with
 |.int i,.int j=>KK (.int (i+j))
 |.lst ts,.lst us=>ts.length+us.length<=sizeLine/\KK (.lst (ts++us))
 |.tup ts,.tup us=>ts.length+us.length<=sizeLine/\KK (.tup (ts++us))
 |_,_=>False
def aE (ha:x_ K b ta da)(hb:x_ K b tb db):x_ K b (tOp (H_ K) ta tb) (d2 tw da db):=λB φ σ τ H Q KK R hd q=>
 ha B φ σ τ H _ _ R hd λt v H1 x1 k1 r1=>hb B φ σ τ H1 _ _ (R.hx x1) k1 λu w H2 x2 k2 r2=>by
  have r1':=x2.rep (λa s=>R.sB s) r1;have x:=x1.trans x2
  replace k2:tw t u KK:=k2
  unfold tw at k2;split at k2
  .rename_i i j;cases (show v=.int i from r1');cases (show w=.int j from r2);exact .inl ⟨i,j,rfl,rfl,q _ _ H2 x k2 rfl⟩
  .rename_i ts us;obtain⟨a,ws,e,n,ha',rl⟩:=r1';obtain⟨a2,ws2,e2,n2,ha2,rl2⟩:=r2;exact .inr (.inl ⟨a,a2,ws,ws2,e,e2,ha',ha2,by rw[<-rl.len,<-rl2.len];exact k2.1,λp hp=>q _ _ _ (x.trans (HX.new (R.hx x) hp _)) k2.2 ⟨p,_,rfl,λz=>(R.hx x).domB z hp,zA,k8 hp (rl.app rl2)⟩⟩)
  .rename_i ts us;obtain⟨a,ws,e,n,ha',rl⟩:=id r1';obtain⟨a2,ws2,e2,n2,ha2,rl2⟩:=id r2;refine .inr (.inr ⟨a,a2,ws,ws2,e,e2,yR.of ha',yR.of ha2,by rw[<-rl.len,<-rl2.len];exact k2.1,λz=>?_,λ_ z=>?_,λ_ _ p hp=>q _ _ _ (x.trans (HX.new (R.hx x) hp _)) k2.2 ⟨p,_,rfl,λz=>(R.hx x).domB z hp,zA,k8 hp (rl.app rl2)⟩⟩)
   .have e0:ts=[]:=by have:=rl.len;rw[z] at this;exact mR.mp this
    subst e0;rw[<-e2];exact q _ _ H2 x k2.2 (by rw[qM];exact r2)
   .have e0:us=[]:=by have:=rl2.len;rw[z] at this;exact mR.mp this
    subst e0;rw[<-e];exact q _ _ H2 x k2.2 (by rw[um];exact r1')
  .exact k2.elim
def tE (x y:Tr)(KK:Tr->Prop):Prop:=match x,y with
 |.int i,.int j=>CM i j/\KK (.int (i*j))
 |.lst ts,.int k=>(0<=k/\k<2^63)/\ts.length*k.toNat<=sizeLine/\KK (.lst (List.replicate k.toNat ts).flatten)
 |.tup ts,.int k=>ts≠[]/\(2<=k/\k<2^63)/\ts.length*k.toNat<=sizeLine/\KK (.tup (List.replicate k.toNat ts).flatten)
 |_,_=>False
def kU (ha:x_ K b ta da)(hb:x_ K b tb db):x_ K b (tOp (Iq K) ta tb) (d2 tE da db):=λB φ σ τ H Q KK R hd q=>
 ha B φ σ τ H _ _ R hd λt v H1 x1 k1 r1=>hb B φ σ τ H1 _ _ (R.hx x1) k1 λu w H2 x2 k2 r2=>by
  have r1':=x2.rep (λa s=>R.sB s) r1;have x:=x1.trans x2
  replace k2:tE t u KK:=k2
  unfold tE at k2;split at k2
  .rename_i i j;cases (show v=.int i from r1');cases (show w=.int j from r2);exact .inl ⟨i,j,rfl,rfl,k2.1,q _ _ H2 x k2.2 rfl⟩
  .rename_i ts k;obtain⟨a,ws,e,n,ha',rl⟩:=r1';exact .inr (.inl ⟨a,k,ws,e,r2,ha',by have:=k2.1.1;lia,k2.1.2,by rw[<-rl.len];exact k2.2.1,λp hp=>q _ _ _ (x.trans (HX.new (R.hx x) hp _)) k2.2.2 ⟨p,_,rfl,λz=>(R.hx x).domB z hp,zA,k8 hp (cH rl _)⟩⟩)
  .rename_i ts k;obtain⟨a,ws,e,n,ha',rl⟩:=r1';refine .inr (.inr ⟨a,k,ws,e,r2,yR.of ha',λz=>k2.1 ?_,k2.2.1.1,k2.2.1.2,by rw[<-rl.len];exact k2.2.2.1,λp hp=>q _ _ _ (x.trans (HX.new (R.hx x) hp _)) k2.2.2.2 ⟨p,_,rfl,λz=>(R.hx x).domB z hp,zA,k8 hp (cH rl _)⟩⟩);have:=rl.len;rw[z] at this;exact mR.mp this
  .exact k2.elim
def Fu (x y:Tr)(KK:Tr->Prop):Prop:=match x,y with
 |.int i,.int j=>KK (.bl (decide (i<j)))
 |x,y=>∃ns ms:List Int,x=.tup (ns.map Tr.int)/\y=.tup (ms.map Tr.int)/\KK (.bl (HT.lexLt ns ms))
def kC:OpS (Io K) Fu:=λF G H x y t u KK Q r1 r2 hf q=>by
 unfold Fu at hf;split at hf
 .rename_i i j;cases (show x=.int i from r1);cases (show y=.int j from r2);exact .inl ⟨i,j,rfl,rfl,q _ _ rfl hf⟩
 .obtain⟨ns,ms,rfl,rfl,k⟩:=hf;obtain⟨a,ws,e,n,ha,rl⟩:=r1;obtain⟨a2,ws2,e2,n2,ha2,rl2⟩:=r2;rw[dI rl] at ha;rw[dI rl2] at ha2;exact .inr ⟨a,a2,ns,ms,e,e2,yR.of ha,yR.of ha2,q _ _ rfl k⟩
def LZ {F:Addr->Prop}{H:Hp}{ts:List Tr}{ws:List V}{lo hi:Option Int}(r:yx F H ts ws)(h:qv ws lo hi=ws):wK ts lo hi=ts:=by
 unfold wK;unfold qv at h;rw[<-r.len] at h;have h1:((ts.drop (HT.yw ts.length 0 lo)).take (HT.yw ts.length ts.length hi-HT.yw ts.length 0 lo)).length=ts.length:=by have:=zj List.length h;rw[uJ,qo] at this ⊢;rw[<-r.len] at this;exact this
 have h2:HT.yw ts.length 0 lo=0\/ts.length=0:=by rw[uJ,qo] at h1;lia
 rcases h2 with h2|h2
 .rw[h2,p8,CC];rw[h2,uJ,p8,CC] at h1;exact uK (by lia)
 .have:ts=[]:=mR.mp h2;subst this;simp
def b_ {b:Bool}{te:TE}{tl th:TO}{d:DE}{dl dh:DO}(h:x_ K b te d)(hl:OkO K tl dl)(hh:OkO K th dh):x_ K b (tSl (Iy K) te tl th) (dSl d dl dh):=λB φ σ τ H Q KK R hd q=>
 h B φ σ τ H _ _ R hd λt v H1 x1 k1 r1=>hl B φ σ τ H1 _ _ (R.hx x1) k1 λlo H2 x2 k2=>hh B φ σ τ H2 _ _ (R.hx (x1.trans x2)) k2 λhi H3 x3 k3=>by
  have r3:=(x2.trans x3).rep (λa s=>R.sB s) r1;have x:=(x1.trans x2).trans x3;cases t with
  |lst ts=>obtain⟨a,ws,e,n,ha,rl⟩:=r3;exact .inl ⟨a,ws,e,yt.of ha,λp hp=>q _ _ _ (x.trans (HX.new (R.hx x) hp _)) k3 ⟨p,_,rfl,λz=>(R.hx x).domB z hp,zA,k8 hp (rl.cut lo hi)⟩⟩
  |tup ts=>obtain⟨a,ws,e,n,ha,rl⟩:=id r3;refine .inr ⟨a,ws,e,yR.of ha,λz=>?_,λp hp=>q _ _ _ (x.trans (HX.new (R.hx x) hp _)) k3 ⟨p,_,rfl,λz=>(R.hx x).domB z hp,zA,k8 hp (rl.cut lo hi)⟩⟩;rw[<-e];exact q _ _ H3 x k3 (by rw[LZ rl z];exact r3)
  |_=>exact k3.elim
def IV (i:Nat)(dk d:DE):DS:=λG τ=>match yp τ i with
 |.ow ts=>dk τ λk=>d τ λt=>∃n:Nat,k=.int n/\n<=ts.length/\ts.length<sizeLine/\G.nx (τ.set i (.ow (ts.take n++[t]++ts.drop n)))
 |_=>False
def R8 (n:Nat)(r:yx F H ts ws):yx F H (ts.take n) (ws.take n):=qE.mpr (eY n (qE.mp r))
def R7 (n:Nat)(r:yx F H ts ws):yx F H (ts.drop n) (ws.drop n):=qE.mpr (eW n (qE.mp r))
theorem Qb (hk:x_ K b tk dk)(h:x_ K true te d):zM K fr (aZ (tBM K "list" Ih (uk i) (uB tk (uB te vZ)))) (IV i dk d):=λB φ σ τ H E G R hd e=>by
 have en:=R.ent i;unfold IV at hd;revert en hd;cases hi:yp τ i with
 |ow ts=>intro hd ⟨a,ws,e1,e2,e3,e4,r⟩;refine⟨_,e1,.inl ⟨rfl,_,yt.of e4⟩,hk B φ σ τ H _ _ R hd λt0 v0 H0 x0 k0 r0=>h B φ σ τ H0 _ _ (R.hx x0) k0 λt v H1 x1 k1 r1=>?_⟩;obtain⟨n,rfl,hn,hz,k1⟩:=k1;cases (show v0=.int n from r0);obtain⟨ws',f4,f5,_⟩:=tZ R (x0.trans x1) hi e1;exact⟨a,ws',v,n,rfl,rfl,f4,by rw[<-f5.len];exact hz,by rw[<-f5.len];exact hn,e.nx φ σ _ _ ((R.hx (x0.trans x1)).wrOw hi e1 (((R8 n f5).app (show yx _ _ [t] [v] from⟨v,[],rfl,r1,rfl⟩)).app (R7 n f5))) k1⟩
 |_=>exact λz _=>z.elim
end
end L2
namespace L2
open PySem PySem.Spec PyProof.Rows
def lU (b:Bool):String:=if b then "tuple_iterator" else "list_iterator"
abbrev za1 (b:Bool)(h:Heap)(a:Addr):Heap:=h.push {cls:=.type (lU b),data:=.fields #[.ref a,.int 0 0]}
abbrev za2 (b c:Bool)(h:Heap)(a d:Addr):Heap:=(za1 b h a).push {cls:=.type (lU c),data:=.fields #[.ref d,.int 0 0]}
abbrev za3 (b c:Bool)(h:Heap)(a d:Addr):Heap:=(za2 b c h a d).push {cls:=.type "tuple", data:=.seq #[.ref h.objs.size,.ref (za1 b h a).objs.size]}
abbrev za4 (b c:Bool)(h:Heap)(a d:Addr):Heap:=(za3 b c h a d).push {cls:=.type "tuple", data:=.seq #[.none,.none]}
abbrev za5 (b c:Bool)(h:Heap)(a d:Addr):Heap:=(za4 b c h a d).push {cls:=.type "zip", data:=.fields #[.none,.bool false,.bool false,.ref (za2 b c h a d).objs.size,.ref (za3 b c h a d).objs.size]}
theorem H9 (h:qS b a vs s.heap)(q:Q (.ref s.heap.objs.size) {s with heap:=za1 b s.heap a}):wpAny (model prog w) A (pyIter (.ref a)) Q E s:=by
 cases b with
 |true=>exact oy (show s.heap.IsTuple a vs.toArray from h) q
 |false=>exact CN (show s.heap.IsList a vs.toArray from h) q
def TK (s:qS b a vs h)(o:Obj):qS b a vs (h.push o):=(u4 b 0 a vs).smv _ _ s λo' e=>yY _ e
def Uy (b c:Bool)(a d:Addr)(xs ys:List Value):Meets (Builtin.«zip.__new__» ⟨[.type "zip", .ref a,.ref d],[]⟩) (λ_ R s=>qS b a xs s.heap/\qS c d ys s.heap/\R (.ok (.ret (.ref (za4 b c s.heap a d).objs.size))) {s with heap:=za5 b c s.heap a d}):=
 .of_wp λprog w A R s h=>by
  obtain⟨hp,g,dd,tk,os⟩:=s;obtain⟨ha,hb,h⟩:=h;have hsub:=sub_zip;have A1:qS b a xs (Shared.heap ⟨hp,g,dd,tk,os⟩):=ha;have B1:qS c d ys (Shared.heap ⟨hp.push {cls:=.type (lU b),data:=.fields #[.ref a,.int 0 0]},g,dd,tk,os⟩):=TK hb _
  wp_walk using H9 A1,H9 B1
  exact⟨_,rfl,h⟩
section
variable {prog:Program} {w:World} {A:Around} {E:Value->Shared->Prop} {s:Shared}
def LD (ha:qS b a xs s.heap)(hb:qS c d ys s.heap)
  (h:∀g,IsZip g (s.heap.objs.size+4) (s.heap.objs.size+2) (s.heap.objs.size+3) .none->IsPair g (s.heap.objs.size+2) (.ref s.heap.objs.size) (.ref (s.heap.objs.size+1))->IsPair g (s.heap.objs.size+3) .none .none->Tn2 b s.heap.objs.size a 0 g->Tn2 c (s.heap.objs.size+1) d 0 g->(∀c o,s.heap.get? c=some o->g.get? c=some o)->Q (.ref (s.heap.objs.size+4)) {s with heap:=g}) :
  wpAny (model prog w) A (call (.type "zip") [.ref a,.ref d]) Q E s:=by
 refine callType_new F.called_zip (by decide) (F.typeCall_zip_2 _ _) (F.newCall_zip_2 _ _) (λobj=>F.args_object_init_3 obj _ _) F.entry_zip_new (Uy b c a d xs ys) ⟨ha,hb,?_⟩;have n1:(za1 b s.heap a).objs.size=s.heap.objs.size+1:=ft ..;have n2:(za2 b c s.heap a d).objs.size=s.heap.objs.size+2:=by rw[ft,n1]
 have n3:(za3 b c s.heap a d).objs.size=s.heap.objs.size+3:=by rw[ft,n2]
 have n4:(za4 b c s.heap a d).objs.size=s.heap.objs.size+4:=by rw[ft,n3]
 have o5:(za5 b c s.heap a d).get? (za4 b c s.heap a d).objs.size=some _:=wD _ rfl;have o4:(za5 b c s.heap a d).get? (za3 b c s.heap a d).objs.size=some _:=yY _ (wD _ rfl);have o3:(za5 b c s.heap a d).get? (za2 b c s.heap a d).objs.size=some _:=yY _ (yY _ (wD _ rfl));have o2:(za5 b c s.heap a d).get? (za1 b s.heap a).objs.size=some _:=yY _ (yY _ (yY _ (wD _ rfl)));have o1:(za5 b c s.heap a d).get? s.heap.objs.size=some _:=yY _ (yY _ (yY _ (yY _ (wD _ rfl))));show _/\_;rw[n2,n3,n4] at o5;rw[n1,n2] at o3;rw[n3] at o4;rw[n1] at o2;rw[n4];refine⟨⟨_,o5,rfl⟩,h _ o5 o3 o4 ?_ ?_ λc o g=>yY _ (yY _ (yY _ (yY _ (yY _ g))))⟩
 .cases b with
  |true=>exact⟨_,o1,rfl,rfl⟩
  |false=>exact⟨_,o1,rfl,rfl⟩
 .cases c with
  |true=>exact⟨_,o2,rfl,rfl⟩
  |false=>exact⟨_,o2,rfl,rfl⟩
end
def oA (K:xt)(b c:Bool)(a1 a2:Addr):It:=
 ⟨λi H=>∃xs ys x y,Sq2 K b H a1 xs/\Sq2 K c H a2 ys/\xs[i]?=some x/\ys[i]?=some y,λi H v H'=>∃x y q,(∀xs,Sq2 K b H a1 xs->xs[i]?=some x)/\(∀ys,Sq2 K c H a2 ys->ys[i]?=some y)/\v=.ref q/\H q=none/\H'=upd H q (.tup [x,y]),λi H=>∃xs ys,Sq2 K b H a1 xs/\Sq2 K c H a2 ys/\(xs.length<=i\/ys.length<=i)⟩
section
variable {P:Program} {w:World} {K:xt} {z ti to i1 i2 a1 a2:Addr} {b c':Bool}
def ZS2 (b c:Bool)(z ti to i1 i2 a1 a2:Addr)(i:Nat)(h:Heap):Prop:=IsZip h z ti to .none/\IsPair h ti (.ref i1) (.ref i2)/\(∃p q,IsPair h to p q)/\Tn2 b i1 a1 i h/\Tn2 c i2 a2 i h
def Uc (D:ZA z ti to i1 i2 a1 a2):Turn P w K (.Tuple elts kk pp) (oA K b c' a1 a2) [z,ti,to,i1,i2] z (ZS2 b c' z ti to i1 i2 a1 a2) where
 mem:=by simp
 obj:=λi h st c hc=>by
  obtain⟨s1,s2,⟨p,q,s3⟩,s4,s5⟩:=st;simp only[xU,zi,zo] at hc;rcases hc with e|e|e|e|e<;>subst e
  .exact⟨_,s1,λv=>by simp⟩
  .exact⟨_,s2,λv=>by simp⟩
  .exact⟨_,s3,λv=>by simp⟩
  .exact(u4 b _ a1 []).ob _ _ s4
  .exact(u4 c' _ a2 []).ob _ _ s5
 keep:=λi h h' st k=>by obtain⟨s1,s2,⟨p,q,s3⟩,s4,s5⟩:=st;exact⟨k _ (by simp) _ s1,k _ (by simp) _ s2,⟨p,q,k _ (by simp) _ s3⟩,(u4 b i1 a1 []).mv _ _ _ s4 λo e=>k _ (by simp) o e,(u4 c' i2 a2 []).mv _ _ _ s5 λo e=>k _ (by simp) o e⟩
 item:=by
  intro X hP hw hK hc i xf s σ H E I hf st hg;subst hP hw hK;obtain⟨Z,TI,⟨p,q,TO⟩,b1,b2⟩:=st;obtain⟨xs,ys,x,y,sq1,sq2,hx,hy⟩:=hg;obtain⟨vs,rv,c1⟩:=I.sq2 sq1;obtain⟨us,ru,c2⟩:=I.sq2 sq2;obtain⟨xv,ex,rx⟩:=rv.get hx;obtain⟨yv,ey,ry⟩:=ru.get hy;have hT:s.TypeIs (.ref z) "zip" := ⟨_,Z,rfl⟩
  have fr:H s.heap.objs.size=none:=I.hok.fresh (yg _);unfold pyNext;refine xi (rF (jM (name:=Str.ofString "__next__") hT B8 (qq B8 hT F.entry_zip_next (UA D (u4 b i1 a1 vs) (u4 c' i2 a2 us) Z TI TO b1 b2 c1 c2 ex ey λg Z' TO' b1' b2' T' kp=>?_) (F.args_zip_next_1 _))));refine xN ⟨_,rfl,wpAny_letOwnedTupleGo_zip Z' λg2 Z2 S2=>?_⟩;obtain⟨⟨d1,d2,d3,d4,d5,d6,d7,d8,d9,d10⟩,_⟩:=D;have ltz:z<s.heap.objs.size:=yH Z;have kp2:∀c o,c∉[z,ti,to,i1,i2]->s.heap.get? c=some o->g2.get? c=some o:=λc o hc e=>by simp only[xU,zi,zo,not_or] at hc;exact S2.extBut _ _ hc.1 (kp c o hc.1 hc.2.2.1 hc.2.2.2.1 hc.2.2.2.2 e)
  have TI2:IsPair g2 ti (.ref i1) (.ref i2):=S2.extBut _ _ d1 (kp _ _ d1 d5 d6 d7 TI);have T2:IsPair g2 s.heap.objs.size xv yv:=S2.extBut _ _ (jf ltz) T';have st2:ZS2 b c' z ti to i1 i2 a1 a2 (i+1) g2:=⟨Z2,TI2,⟨_,_,S2.extBut _ _ d2 TO'⟩,(u4 b i1 a1 vs).mv _ _ _ b1' λo=>S2.extBut _ o d3,(u4 c' i2 a2 us).mv _ _ _ b2' λo=>S2.extBut _ o d4⟩
  have nfp:∀c u,H c=some u->c∉[z,ti,to,i1,i2]:=λc u e hm=>by rw[(hf c hm).1] at e;cases e
  have nT:∀c o,s.heap.get? c=some o->c≠s.heap.objs.size:=λc o e=>zV (yH e);refine⟨.ref s.heap.objs.size,upd H s.heap.objs.size (.tup [x,y]),?_,rfl,⟨x,y,_,λxs' h'=>by rw[<-I.sq2_inj sq1 h'];exact hx,λys' h'=>by rw[<-I.sq2_inj sq2 h'];exact hy,rfl,fr,rfl⟩,st2,λc hm=>?_⟩
  .show Inv X xf σ (upd H s.heap.objs.size (.tup [x,y])) {s with heap:=g2,gens:=s.gens,drawn:=s.drawn,toks:=s.toks};refine Inv.step (s:=s) (g':=s.gens) (d':=s.drawn) (t':=s.toks) (ch:=[z,ti,to,i1,i2]) I (λc hm=>?_) (λc o _ _ hm e _=>kp2 c o hm e) (λc o _ _ hm e _=>⟨o.slots,kp2 c o hm e⟩) (λc o hm e n=>by rw[yl (nT c o e)];exact n) (λc o hm e=>⟨o,kp2 c o hm e⟩)
    (λc zs e=>by rw[yl (zq e fr)];exact e) (λc o u e=>by rw[yl (zq e fr)];exact e) (λc ps e=>⟨#[],by rw[yl (zq e fr),e];simp⟩) (λm hm=>?_) (λc u e=>?_) I.bare
   .obtain⟨_,f1,_,f3,f4,f5⟩:=hf c hm;exact⟨f3,f1,f4,f5⟩
   .obtain⟨o,es,ep,ho,r⟩:=hm;exact⟨o,es,ep,kp2 _ o (λz'=>(hf _ z').2.1 rfl) ho,r⟩
   .by_cases hc':c=s.heap.objs.size
    .subst hc';rw[zA] at e;cases e;exact⟨by show 2<=sizeLine;decide,[xv,yv],.cons rx (.cons ry .nil),_,T2,rfl,0,rfl⟩
    .rw[yl hc'] at e;refine(I.hok c u e).stay (λc' v hcc q'=>kp2 c' v ?_ q') (λc' q'=>by rw[yl (zq q' fr)];exact q') (λc' zs q'=>by rw[yl (zq q' fr)];exact q') λc' o u q'=>by rw[yl (zq q' fr)];exact q'
     rcases hcc with rfl|hcc
     .exact nfp _ _ e
     .exact nfp _ _ hcc
  .rw[yl]
   .exact(hf c hm).1
   .simp only[xU,zi,zo] at hm;rcases hm with e|e|e|e|e<;>subst e
    .exact nT _ _ Z
    .exact nT _ _ TI
    .exact nT _ _ TO
    .obtain⟨o,e,_⟩:=(u4 b _ a1 []).ob _ _ b1;exact nT _ _ e
    .obtain⟨o,e,_⟩:=(u4 c' _ a2 []).ob _ _ b2;exact nT _ _ e
 done:=by
  intro X hP hw hK hc i xf s σ H E I hf st hg;subst hP hw hK;obtain⟨Z,TI,⟨p,q,TO⟩,b1,b2⟩:=st;obtain⟨xs,ys,sq1,sq2,hend⟩:=hg;obtain⟨vs,rv,c1⟩:=I.sq2 sq1;obtain⟨us,ru,c2⟩:=I.sq2 sq2;have hT:s.TypeIs (.ref z) "zip" := ⟨_,Z,rfl⟩
  have he:vs[i]?=none\/us[i]?=none:=hend.imp (λh=>List.getElem?_eq_none_iff.mpr (by rw[<-rv.length];exact h)) (λh=>List.getElem?_eq_none_iff.mpr (by rw[<-ru.length];exact h));unfold pyNext;refine xi (rF (jM (name:=Str.ofString "__next__") hT B8 (qq B8 hT F.entry_zip_next (Uz (I.ok.hd hc) D (u4 b i1 a1 vs) (u4 c' i2 a2 us) Z TI TO b1 b2 c1 c2 he λg e kp ho=>?_) (F.args_zip_next_1 _))));obtain⟨o,ho,hcl⟩:=ho;refine xi (CJ (T := "StopIteration") (b:=true) ⟨o,ho,hcl⟩ CF (xN ⟨rfl,?_⟩));have kp2:∀c o,c∉[z,ti,to,i1,i2]->s.heap.get? c=some o->g.get? c=some o:=λc o hc e=>by simp only[xU,zi,zo,not_or] at hc;exact kp c o hc.1 hc.2.2.1 hc.2.2.2.1 hc.2.2.2.2 e
  have nfp:∀c u,H c=some u->c∉[z,ti,to,i1,i2]:=λc u e hm=>by rw[(hf c hm).1] at e;cases e
  refine Inv.step (s:=s) (g':=s.gens) (d':=s.drawn) (t':=s.toks) (ch:=[z,ti,to,i1,i2]) I (λc hm=>?_) (λc o _ _ hm e _=>kp2 c o hm e) (λc o _ _ hm e _=>⟨o.slots,kp2 c o hm e⟩) (λc o hm e n=>n) (λc o hm e=>⟨o,kp2 c o hm e⟩)
   (λc zs e=>e) (λc o u e=>e) (λc ps e=>⟨#[],by rw[e];simp⟩) (λm hm=>?_) (λc u e=>?_) I.bare
  .obtain⟨_,f1,_,f3,f4,f5⟩:=hf c hm;exact⟨f3,f1,f4,f5⟩
  .obtain⟨o,es,ep,ho,r⟩:=hm;exact⟨o,es,ep,kp2 _ o (λz'=>(hf _ z').2.1 rfl) ho,r⟩
  .refine(I.hok c u e).stay (λc' v hcc q'=>kp2 c' v ?_ q') (λ_ q'=>q') (λ_ _ q'=>q') λ_ _ _ q'=>q';rcases hcc with rfl|hcc
   .exact nfp _ _ e
   .exact nfp _ _ hcc
 self:=λA i s Q E st h=>wpAny_pyIter_zip st.1 h
end
def Gp (K:xt)(ta:TA):TI:=λσ H R=>ta σ H λvs H1=>∃(b c:Bool) (a1 a2:Addr) (xs ys:List V),vs=[.ref a1,.ref a2]/\Sq2 K b H1 a1 xs/\Sq2 K c H1 a2 ys/\R (oA K b c a1 a2) H1
section
variable {X:Cx}
def cD (K:xt)(hg:Gl X "zip")(hm:X.mg "zip" = none)(ha:PA X [a,b] ta)(hs:starEach [a,b] X.env=[(false,eval a X.env),(false,eval b X.env)]:=by rfl)(hs2:starEach [b] X.env=[(false,eval b X.env)]:=by rfl)(eK:X.K=K:=by rfl) :
  PI X (.Tuple elts kk pp) (.Call (.Name "zip" p) [a,b] [] pos) (Gp K ta):=by
 subst eK;intro xf s σ H R I h;refine Call_ (f_ I hg hm Ln (ot (yn (@ha pos xf s σ H _ I h) λus s1 ⟨vs,H1,I1,r1,q1⟩=>?_) (by rw[hs,hs2]) (by rw[hs2];rfl)));obtain⟨bb,cc,a1,a2,xs,ys,e,sq1,sq2,q⟩:=q1;subst e;obtain⟨u1,u2,rfl,e1,e2⟩:=vals2 r1;obtain rfl:u1=Value.ref a1:=e1;obtain rfl:u2=Value.ref a2:=e2;obtain⟨vs,rv,c1⟩:=I1.sq2 sq1;obtain⟨us,ru,c2⟩:=I1.sq2 sq2;have fp:∀k:Nat,vn X xf H1 (s1.heap.objs.size+k):=λk=>I1.fpOk (fC _ _) (I1.hok.fresh (fC _ _));have lt:∀(b:Bool) (a:Addr) (vs:List Value),qS b a vs s1.heap->a<s1.heap.objs.size:=λb a vs h=>by
  cases b with
  |true=>obtain⟨o,e,_⟩:=(show s1.heap.IsTuple a vs.toArray from h);exact yH e
  |false=>obtain⟨o,e,_⟩:=(show s1.heap.IsList a vs.toArray from h);exact yH e
 refine LD c1 c2 ?_;intro g z1 z2 z3 z4 z5 kp;have st:ZS2 bb cc (s1.heap.objs.size+4) (s1.heap.objs.size+2) (s1.heap.objs.size+3) s1.heap.objs.size (s1.heap.objs.size+1) a1 a2 0 g:=⟨z1,z2,⟨_,_,z3⟩,z4,z5⟩
 refine wpAny_pyIter_zip st.1 ⟨_,_,_,_,H1,rfl,I1.kept (t':=s1.toks) kp,Uc (Uw (lt _ _ _ c1) (lt _ _ _ c2)),st,λc hc=>?_,q⟩;simp only[xU,zi,zo] at hc;rcases hc with e|e|e|e|e<;>subst e
 .exact fp 4
 .exact fp 2
 .exact fp 3
 .exact fp 0
 .exact fp 1
end
def qI:List Tr->List Tr->List Tr
 |t::ts,u::us=>.tup [t,u]::qI ts us
 |_,_=>[]
theorem B2:∀(ts us:List Tr),(qI ts us).length=min ts.length us.length
 |[],_=>by simp[qI]
 |_::_,[]=>by simp[qI]
 |_::ts,_::us=>by simp only[qI,wU,B2 ts us];lia
theorem J9:∀ {ts us:List Tr} {i:Nat} {t u:Tr},ts[i]?=some t->us[i]?=some u->(qI ts us)[i]?=some (.tup [t,u])
 |[],_,_,_,_,h,_=>by simp at h
 |_::_,[],_,_,_,_,h=>by simp at h
 |_::_,_::_,0,_,_,h,h'=>by simp at h h';subst h h';rfl
 |_::ts,_::us,i+1,t,u,h,h'=>by show(qI ts us)[i]?=_;exact J9 (by simpa using h) (by simpa using h')
def sqT (b:Bool)(ts:List Tr):Tr:=if b then .tup ts else .lst ts
section
variable {K:xt}
theorem g_ (h:Rep F H (sqT b ts) (.ref a)):∃ws,Sq2 K b H a ws/\yx F H ts ws:=by
 cases b with
 |true=>
  obtain⟨a',ws,e,n,h,r⟩:=(show Rep F H (.tup ts) (.ref a) from h)
  cases e;exact⟨ws,yR.of h,r⟩
 |false=>
  obtain⟨a',ws,e,n,h,r⟩:=(show Rep F H (.lst ts) (.ref a) from h)
  cases e;exact⟨ws,yt.of h,r⟩
def Nr:ItL (oA K b c a1 a2) (qI ts us) [(sqT b ts,.ref a1),(sqT c us,.ref a2)] where
 go:=λF H i s hi=>by obtain⟨ws,h1,r1⟩:=g_ (K:=K) (s _ xT);obtain⟨ws2,h2,r2⟩:=g_ (K:=K) (s _ (yJ _ xT));rw[B2] at hi;obtain⟨w,e1,_⟩:=r1.getT (yA (i:=i) (by lia));obtain⟨w2,e2,_⟩:=r2.getT (yA (i:=i) (by lia));exact⟨ws,ws2,w,w2,h1,h2,e1,e2⟩
 stop:=λF H s=>by obtain⟨ws,h1,r1⟩:=g_ (K:=K) (s _ xT);obtain⟨ws2,h2,r2⟩:=g_ (K:=K) (s _ (yJ _ xT));refine⟨ws,ws2,h1,h2,?_⟩;rw[B2,<-r1.len,<-r2.len];lia
 yld:=λF i H x H' s d hi y=>by obtain⟨ws,h1,r1⟩:=g_ (K:=K) (s _ xT);obtain⟨ws2,h2,r2⟩:=g_ (K:=K) (s _ (yJ _ xT));obtain⟨v,v2,q,hv,hv2,rfl,hq,rfl⟩:=y;obtain⟨t,e1,g1⟩:=r1.get (hv ws h1);obtain⟨u,e2,g2⟩:=r2.get (hv2 ws2 h2);exact⟨.inr ⟨q,_,hq,rfl⟩,.tup [t,u],J9 e1 e2,q,_,rfl,λz=>d q z hq,zA,⟨_,_,rfl,cI hq g1,_,_,rfl,cI hq g2,rfl⟩⟩
def BM:Tr->Option (Bool×List Tr)
 |.tup ts=>some (true,ts)
 |.lst ts=>some (false,ts)
 |_=>none
def Nb (d:DA):DI:=λτ KK=>d τ λxs=>match xs with
 |[x,y]=>(match BM x,BM y with|some p,some q=>KK (qI p.2 q.2)|_,_=>False)
 |_=>False
theorem Jn (h:BM x=some p):x=sqT p.1 p.2:=by
 cases x with
 |tup ts=>cases h;rfl
 |lst ts=>cases h;rfl
 |_=>cases h
theorem IL (h:Rep F H (sqT b ts) v):∃a,v=.ref a:=by
 cases b with
 |true=>obtain⟨a,ws,e,_⟩:=(show Rep F H (.tup ts) v from h);exact⟨a,e⟩
 |false=>obtain⟨a,ws,e,_⟩:=(show Rep F H (.lst ts) v from h);exact⟨a,e⟩
def cg (h:OkA K b n ta da):OkI K b (Gp K ta) (Nb da):=λB φ σ τ H R KK Rs hd q=>
 h B φ σ τ H _ _ Rs hd λts vs H1 x1 k1 l1 r1=>by
  split at k1
  .rename_i x y;split at k1
   .rename_i p p' e1 e2;obtain⟨v,w,rfl,g1,g2⟩:=aM r1;rw[Jn e1] at g1;rw[Jn e2] at g2;obtain⟨a1,rfl⟩:=IL g1;obtain⟨a2,rfl⟩:=IL g2;obtain⟨ws,s1,_⟩:=g_ (K:=K) g1;obtain⟨ws2,s2,_⟩:=g_ (K:=K) g2;refine⟨p.1,p'.1,a1,a2,ws,ws2,rfl,s1,s2,q _ _ _ H1 x1 k1 Nr λz hz=>?_⟩;simp only[xU,zi,zo] at hz;rcases hz with rfl|rfl
    .exact g1
    .exact g2
   .exact k1.elim
  .exact k1.elim
end
def zD (K:xt)(e:X.K=K:=by rfl):IxR X (rIx K):=e▸Nt
theorem Fz (W:List Tr->xW->Prop)(h0:∀ τ,W [] τ->G.nx τ)
  (h1:∀x xs τ (N:xW->Prop),W (x::xs) τ->(∀ τ',W xs τ'->N τ')->dg x τ λτ'=>body {G with nx:=N,ct:=N,bk:=G.nx} τ'):∀xs τ,W xs τ->jv dg body G xs τ
 |[],τ,w=>h0 τ w
 |x::xs,τ,w=>h1 x xs τ (jv dg body G xs) w (Fz W h0 h1 xs)
def u5 (W:Nat->xW->Prop)(w0:W 0 τ)
  (h1:∀i x τ (N:xW->Prop),all[i]?=some x->W i τ->(∀ τ',W (i+1) τ'->N τ')->dg x τ λτ'=>body {G with nx:=N,ct:=N,bk:=G.nx} τ')
  (h0:∀ τ,W all.length τ->G.nx τ):jv dg body G all τ:=by
 refine Fz (λxs τ=>∃i,xs=all.drop i/\i<=all.length/\W i τ) (λτ ⟨i,e,hi,w⟩=>h0 τ ?_) (λx xs τ N ⟨i,e,hi,w⟩ hN=>?_) all τ ⟨0,rfl,gD _,w0⟩
 .have:all.length<=i:=by have:=zj List.length e;rw[qo] at this;simp at this;lia
  have:i=all.length:=by lia
  rw[<-this];exact w
 .have hlt:i<all.length:=by have:=zj List.length e;rw[qo] at this;simp at this;lia
  rw[rz hlt] at e;injection e with e1 e2;exact h1 i x τ N (by rw[e1];exact yA hlt) w λτ' w'=>hN τ' ⟨i+1,e2,hlt,w'⟩
theorem J6 (W:Nat->xW->Prop)
  (h:∀n τ (N:xW->Prop),W n τ->(∀m τ',m<n->W m τ'->N τ')->c τ λb=>if b=true then body {G with nx:=N,ct:=N,bk:=G.nx} τ else G.nx τ):∀k n τ,n<k->W n τ->dW c body G k τ
 |0,_,_,hk,_=>absurd hk (by lia)
 |k+1,n,τ,hk,w=>h n τ (dW c body G k) w λm τ' hm w'=>J6 W h k m τ' (by lia) w'
def pR (W:Nat->xW->Prop)(n:Nat)(w0:W n τ)
  (h:∀n τ (N:xW->Prop),W n τ->(∀m τ',m<n->W m τ'->N τ')->c τ λb=>if b=true then body {G with nx:=N,ct:=N,bk:=G.nx} τ else G.nx τ):Ja c body G τ:=
 ⟨n+1,J6 W h (n+1) n τ (mU n) w0⟩
theorem rQ {dg:DG}{dc:DT}{de:DE}{τi:xW}{KK:List Tr->Prop}(W:List Tr->List Tr->Prop)(h0:∀acc,W [] acc->KK acc)
  (h1:∀x xs acc (N:List Tr->Prop),W (x::xs) acc->(∀acc',W xs acc'->N acc')->dg x τi λτ2=>dc τ2 λb=>if b=true then de τ2 λy=>N (acc++[y]) else N acc):∀xs acc,W xs acc->jm dg dc de τi KK xs acc
 |[],acc,w=>h0 acc w
 |x::xs,acc,w=>h1 x xs acc (jm dg dc de τi KK xs) w (rQ W h0 h1 xs)
def sP {dg:DG}{de:DE}{τi:xW}{KK:List Tr->Prop}{xs:List Tr}(g:Tr->Tr)(h1:∀x∈xs,∀N:Tr->Prop,N (g x)->dg x τi λτ2=>de τ2 N)(h0:KK (xs.map g)):jm dg nV de τi KK xs []:=by
 refine rQ (λys acc=>∃zs,xs=zs++ys/\acc=zs.map g) (λacc ⟨zs,e,e2⟩=>?_) (λx ys acc N ⟨zs,e,e2⟩ hN=>?_) xs [] ⟨[],rfl,rfl⟩
 .rw[um] at e;subst e e2;exact h0
 .subst e2;have hx:x∈xs:=by rw[e];simp
  exact h1 x hx (λy=>N (zs.map g++[y])) (hN _ ⟨zs++[x],by rw[e];simp,by simp⟩)
theorem u9 {α:Type}{f:α->Tr}{l:List α}{i:Nat}{t:Tr}(h:(l.map f)[i]?=some t):∃x,l[i]?=some x/\t=f x:=by
 rw[vh] at h;cases e:l[i]? with
 |none=>rw[e] at h;cases h
 |some x=>rw[e] at h;cases h;exact⟨x,rfl,rfl⟩
def fO (ts:List α)(n:Nat):atT ts (n:Int)=ts[n]?:=tL ts n
def rP (ts:List α)(t:α):atT (ts++[t]) (-1)=some t:=by rw[Ef];exact K_ ts t
def zF (h:n<=1000000):n<sizeLine:=je h (by decide)
def BO (h:n<=1000000):n<=sizeLine:=mT (zF h)
def qb {a b:Int}(h:0<=b):a.fdiv b=a/b:=dY a h
def FP {a b:Int}(h:0<=b):a.fmod b=a%b:=Int.fmod_eq_emod_of_nonneg a h
section
variable {prog:Program} {w:World} {A:Around} {E:Value->Shared->Prop} {s:Shared}
theorem Fg (hne:t≠it):∀(n i:Nat) (s:Shared) (Q:List Value->Shared->Prop),s.heap.IsListIter it t i->s.heap.IsList t items->i+n<=items.size->
  (∀h',h'.IsListIter it t (i+n)->Heap.SameBut it s.heap h'->Q ((items.toList.drop i).take n) {s with heap:=h' })->wpAny (model prog w) A (draw (.ref it) n) Q E s
 |0,i,s,Q,hit,_,_,hQ=>by show wpAny _ _ (pure []) Q E s;exact xN (by simpa using hQ s.heap hit (Heap.SameBut.refl ..))
 |n+1,i,s,Q,hit,ht,hle,hQ=>by
  have hlt:i<items.size:=by lia
  show wpAny _ _ (pyNext (.ref it)>>=_) Q E s;refine xi (wpAny_pyNext_list_item hit ht (x:=items[i]) (by simp[hlt]) λh₁ hit₁ hs₁=>?_);refine xi (kK (Fg hne n (i+1) _ _ hit₁ (ht.extBut hs₁.extBut hne) (by lia) λh₂ hit₂ hs₂=>xN ?_));have hd:items.toList.drop i=items[i]::items.toList.drop (i+1):=by simp[rz,hlt]
  have:=hQ h₂ (by rw[show i+(n+1)=i+1+n by lia];exact hit₂) (hs₁.trans hs₂);rw[hd,List.take_succ_cons] at this;exact this
def Ue (hh:A.handled=none)(ht:s.heap.IsList t items)
  (hQ:∀h',Heap.ExtBut s.heap.objs.size s.heap h'->Q items.toList {s with heap:=h' }):wpAny (model prog w) A (unpackItems (.ref t) items.size none) Q E s:=by
 have hlt:t≠s.heap.objs.size:=by obtain⟨o,ho,_⟩:=ht;exact zV (yH ho)
 unfold unpackItems;refine xi ?_
 .unfold notIterableAtAll;refine xi (wpAny_specialOf ht.typeIs slot_list_iter.lookup ?_);refine xN ?_;simp only[rf,qQ];refine xi (kK (CN ht ?_));refine xi (kK (Fg hlt items.size 0 _ _ ⟨_,wD _ rfl,rfl,rfl⟩ (ht.push _) (by lia) λh₁ hit₁ hs₁=>?_));have hall:List.take items.size (List.drop 0 items.toList)=items.toList:=by rw[p8];exact uK (by simp)
  rw[hall];rw[xH (by simp)];have ht₁:h₁.IsList t items:=(ht.push _).extBut hs₁.extBut hlt;refine xi (kK (wpAny_pyNext_list_end hh hit₁ ht₁ (by simp) λh₂ he₂=>?_));simp only[Option.isSome_none,rf,qQ];refine xN (hQ h₂ λb o hb e=>he₂ b o hb (hs₁.extBut b o hb (yY _ e)))
def Ug (hh:A.handled=none)(ht:s.heap.IsList t items)
  (hn:targets.length=items.size) (hstar:targets.findIdx? (·.1)=none)
  (h:∀h',Heap.ExtBut s.heap.objs.size s.heap h'->wpAny (model prog w) A (assignInOrder (targets.map (·.2)) items.toList) Q E {s with heap:=h' }) :
  wpAny (model prog w) A (unpack (.ref t) targets) Q E s:=by
 unfold unpack;rw[hn,hstar];exact xi (kK (Ue hh ht h))
def K8 (hh:A.handled=none)(ht:s.heap.IsList t items)
  (hn:(assignEach elts env).length=items.size) (hstar:(assignEach elts env).findIdx? (·.1)=none)
  (h:∀h',Heap.ExtBut s.heap.objs.size s.heap h'->wpAny (model prog w) A (assignInOrder ((assignEach elts env).map (·.2)) items.toList) Q E {s with heap:=h' }) :
  wpAny (model prog w) A (assign (.Tuple elts x1 pos) env (.ref t)) Q E s:=by
 rw[assign_Tuple];exact xi (rJ (Ug hh ht hn hstar h))
end
def FY (K:xt)(n:Nat)(t:TGs):TG:=λv σ H Q=>∃a xs,v=.ref a/\yt K H a xs/\xs.length=n/\t xs σ H Q
section
variable {X:Cx}
def RC (K:xt)(hc:X.calm=true)(h:PGs X es t)
  (hn:(assignEach es X.env).length=n:=by rfl) (hst:(assignEach es X.env).findIdx? (·.1)=none:=by rfl) (e:X.K=K:=by rfl):PG X (.Tuple es k pos) (FY K n t):=by
 subst e;intro xf s σ H v u Q I r hw;obtain⟨a,xs,e1,hq,hl,hw⟩:=hw;subst e1;cases r;obtain⟨xj,rv,⟨o,m,ho,hcl,hd,hs⟩,hz⟩:=I.list hq;refine K8 (I.ok.hd hc) (items:=xj.toArray) ⟨o,ho,hcl,m,hs⟩ (by simp[hn,<-hl,rv.length]) hst λh' hx=>?_;have I1:Inv X xf σ H {s with heap:=h' }:=I.kept (t':=s.toks) λb o e=>hx b o (zV (yH e)) e;exact @h xf _ σ H xs _ Q I1 (by simpa using rv) hw
end
section
variable {K:xt}
def Mp (n:Nat)(d:DGs):DG:=λt τ KK=>match t with|.lst ts=>ts.length=n/\d ts τ KK|_=>False
theorem P9 (h:rM K gs ds):OkN K (FY K n gs) (Mp n ds):=λB φ σ τ H F t v Q KK R hF r hd q=>by
 cases t with
 |lst ts=>obtain⟨a,ws,e,n,ha,rl⟩:=r;exact⟨a,ws,e,yt.of ha,by rw[<-rl.len];exact hd.1,h B φ σ τ H F ts ws Q KK R hF rl hd.2 q⟩
 |_=>exact hd.elim
end
theorem yi {b:Bool}{A B:Prop}(h1:b=true->A)(h0:b=false->B):if b=true then A else B:=by
 cases b with
 |true=>exact kR (h1 rfl)
 |false=>exact qd (h0 rfl)
end L2
namespace Pol
abbrev R3:=Int×Int×Int
def val (r p:R3):Int:=r.1*p.1+r.2.1*p.2.1-r.2.2*p.2.2
def det (u v w:R3):Int:=u.1*(v.2.1*w.2.2-v.2.2*w.2.1)-u.2.1*(v.1*w.2.2-v.2.2*w.1)+u.2.2*(v.1*w.2.1-v.2.1*w.1)
def add (u v:R3):R3:=(u.1+v.1,u.2.1+v.2.1,u.2.2+v.2.2)
def mul (k:Int)(u:R3):R3:=(k*u.1,k*u.2.1,k*u.2.2)
def ext3 {u v:R3}(h1:u.1=v.1)(h2:u.2.1=v.2.1)(h3:u.2.2=v.2.2):u=v:=zL h1 (zL h2 h3)
def val_add (r p q:R3):val r (add p q)=val r p+val r q:=by simp only[val,add];grind
def val_mul (r p:R3)(k:Int):val r (mul k p)=k*val r p:=by simp only[val,mul];grind
def qw (u v w:R3):det u v w=det v w u:=by simp only[det];grind
def nX (u v w:R3):det u w v = - det u v w:=by simp only[det];grind
def fV (u v:R3):det u v v=0:=by simp only[det];grind
def rX (u v:R3):det u u v=0:=by simp only[det];grind
def rY (u v:R3):det u v u=0:=by simp only[det];grind
def lG (u v p q:R3):det u v (add p q)=det u v p+det u v q:=by simp only[det,add];grind
def fU (u v p:R3)(k:Int):det u v (mul k p)=k*det u v p:=by simp only[det,mul];grind
def four (r a b c d:R3):det b c d*val r a+det a b d*val r c=det a c d*val r b+det a b c*val r d:=by simp only[det,val];grind
def ET (u v w p:R3):mul (det u v w) p=add (mul (det p v w) u) (add (mul (det u p w) v) (mul (det u v p) w)):=by apply ext3<;>simp only[det,mul,add]<;>grind
def Sh (r u w z p:R3)(hu:val r u=0)(hw:val r w=0):val r p*det u w z=val r z*det u w p:=by have h:=zj (val r) (ET u w z p);rw[val_mul,val_add,val_add,val_mul,val_mul,val_mul,hu,hw] at h;rw[vQ (val r p)];rw[h];grind
def pp {a b:Int}(h:0<a)(k:0<b):0<a*b:=gz h k
def pz {a b:Int}(h:0<=a)(k:0<=b):0<=a*b:=Cf h k
def pn {a b:Int}(h:0<=a)(k:b<=0):a*b<=0:=Int.mul_nonpos_of_nonneg_of_nonpos h k
def np {a b:Int}(h:a<=0)(k:0<=b):a*b<=0:=UG h k
def nn {a b:Int}(h:a<=0)(k:b<=0):0<=a*b:=Int.mul_nonneg_of_nonpos_of_nonpos h k
def hX {a b:Int}(h:0<a)(k:0<a*b):0<b:=by
 rcases y_ 0 b with z|z
 .exact z
 .have:=pn (yo h) z;lia
def du {a b:Int}(h:0<a)(k:0<=a*b):0<=b:=by
 rcases y_ b 0 with z|z
 .have:=jH h z;lia
 .exact z
def Om {a b:Int}(h:0<a)(k:a*b<=0):b<=0:=by
 rcases y_ 0 b with z|z
 .have:=pp h z;lia
 .exact z
def J8 {a b:Int}(h:0<a)(k:a*b=0):b=0:=(vf.mp k).resolve_left (by lia)
inductive Cn (l:List R3):R3->Prop
 |zero:Cn l (0,0,0)
 |mem {v}:v∈l->Cn l v
 |add {p q}:Cn l p->Cn l q->Cn l (add p q)
theorem Cn.nsmul {l:List R3}{p:R3}(h:Cn l p):∀k:Nat,Cn l (mul k p)
 |0=>by
  have:mul ((0:Nat):Int) p=(0,0,0):=by apply ext3<;>simp[mul]
  rw[this];exact .zero
 |k+1=>by
  have:mul ((k+1:Nat):Int) p=Pol.add (mul k p) p:=by apply ext3<;>simp only[mul,Pol.add]<;>grind
  rw[this];exact(h.nsmul k).add h
def Cn.smul (h:Cn l p)(hk:0<=k):Cn l (mul k p):=by have:=h.nsmul k.toNat;rwa [Ko hk] at this
theorem Cn.mono (h:Cn l p)(hl:∀v∈l,Cn l' v):Cn l' p:=by
 induction h with
 |zero=>exact .zero
 |mem m=>exact hl _ m
 |add _ _ h1 h2=>exact h1.add h2
theorem Cn.lin (h:Cn l p)(g:R3->Int)(g0:g (0,0,0)=0)(ga:∀p q,g (Pol.add p q)=g p+g q)(hl:∀v∈l,0<=g v):0<=g p:=by
 induction h with
 |zero=>lia
 |mem m=>exact hl _ m
 |add _ _ h1 h2=>rw[ga];lia
def Cn.valGe (h:Cn l p)(r:R3)(hl:∀v∈l,0<=Pol.val r v):0<=Pol.val r p:=h.lin (Pol.val r) (by simp[Pol.val]) (val_add r) hl
theorem Cn.det (h:Cn l p)(u v:R3)(hl:∀w∈l,0<=Pol.det u v w):0<=Pol.det u v p:=h.lin (Pol.det u v) (by simp[Pol.det]) (lG u v) hl
theorem Cn.bot {l:List R3}{p:R3}(h:Cn l p)(hl:∀v∈l,0<v.2.2):p=(0,0,0)\/0<p.2.2:=by
 induction h with
 |zero=>exact .inl rfl
 |mem m=>exact .inr (hl _ m)
 |@add p q _ _ h1 h2=>
  rcases h1 with rfl|h1
  .have:Pol.add (0,0,0) q=q:=by apply ext3<;>simp[Pol.add]
   rw[this];exact h2
  .right;show 0<p.2.2+q.2.2;rcases h2 with rfl|h2
   .simpa using h1
   .lia
theorem Cn.zeros (h:Cn l p)(r:R3)(hl:∀v∈l,0<=Pol.val r v)(h0:Pol.val r p<=0):Cn (l.filter λv=>Pol.val r v=0) p:=by
 induction h with
 |zero=>exact .zero
 |@mem v m=>exact .mem (uV.mpr ⟨m,by have:=hl v m;simp;lia⟩)
 |@add p q hp hq h1 h2=>rw[val_add] at h0;have a:=hp.valGe r hl;have b:=hq.valGe r hl;exact(h1 (by lia)).add (h2 (by lia))
theorem Cn.pair {u v p:R3}(h:Cn [u,v] p):∃a b:Int,0<=a/\0<=b/\p=Pol.add (mul a u) (mul b v):=by
 induction h with
 |zero=>exact⟨0,0,by lia,by lia,by apply ext3<;>simp[Pol.add,mul]⟩
 |mem m=>
  simp only[xU,zi,zo] at m;rcases m with rfl|rfl
  .exact⟨1,0,by lia,by lia,by apply ext3<;>simp[Pol.add,mul]⟩
  .exact⟨0,1,by lia,by lia,by apply ext3<;>simp[Pol.add,mul]⟩
 |add _ _ h1 h2=>obtain⟨a,b,a0,b0,rfl⟩:=h1;obtain⟨c,d,c0,d0,rfl⟩:=h2;exact⟨a+c,b+d,by lia,by lia,by apply ext3<;>simp only[Pol.add,mul]<;>grind⟩
def InC (l:List R3)(p:R3):Prop:=∃m:Int,0<m/\Cn l (mul m p)
structure Ccw (l:List R3):Prop where
 tri:∀u v w:R3,List.Sublist [u,v,w] l->0<det u v w
 nd:l.Nodup
theorem Jv (h:[u,v,w]=l1++l2):(l1=[]/\l2=[u,v,w])\/(l1=[u]/\l2=[v,w])\/(l1=[u,v]/\l2=[w])\/(l1=[u,v,w]/\l2=[]):=by
 cases l1 with
 |nil=>exact .inl ⟨rfl,h.symm⟩
 |cons a t=>
  injection h with h1 h2;subst h1;cases t with
  |nil=>exact .inr (.inl ⟨rfl,h2.symm⟩)
  |cons b t=>
   injection h2 with h1 h2;subst h1;cases t with
   |nil=>exact .inr (.inr (.inl ⟨rfl,h2.symm⟩))
   |cons c t=>injection h2 with h1 h2;subst h1;have:=List.append_eq_nil_iff.mp h2.symm;rw[this.1,this.2];exact .inr (.inr (.inr ⟨rfl,rfl⟩))
def Ccw.rot (h:Ccw (a++b)):Ccw (b++a):=by
 refine⟨λu v w s=>?_,?_⟩
 .obtain⟨l1,l2,e,s1,s2⟩:=Cy.mp s;have s3:=List.Sublist.append s2 s1;rcases Jv e with ⟨rfl,rfl⟩|⟨rfl,rfl⟩|⟨rfl,rfl⟩|⟨rfl,rfl⟩
  .exact h.tri _ _ _ (by simpa using s3)
  .have:=h.tri _ _ _ (show List.Sublist [v,w,u] (a++b) by simpa using s3);rw[qw];exact this
  .have:=h.tri _ _ _ (show List.Sublist [w,u,v] (a++b) by simpa using s3);rw[<-qw];exact this
  .exact h.tri _ _ _ (by simpa using s3)
 .have:=h.nd;rw[sj] at this ⊢;exact⟨this.2.1,this.1,λx hx y hy e=>this.2.2 y hy x hx e.symm⟩
def Ccw.alt {l:List R3}(h:Ccw l)(r:R3){a b c d:R3}(s:List.Sublist [a,b,c,d] l):¬(0<val r a/\val r b<=0/\0<val r c/\val r d<=0)/\¬(val r a<=0/\0<val r b/\val r c<=0/\0<val r d):=by
 have h1:=h.tri b c d (p6 (List.Sublist.cons _ (mM _)) s);have h2:=h.tri a b d (p6 (by simp) s);have h3:=h.tri a c d (p6 (by simp) s);have h4:=h.tri a b c (p6 (by simp) s);have e:=four r a b c d;constructor
 .rintro⟨x1,x2,x3,x4⟩;have:=pp h1 x1;have:=pp h2 x3;have:=pn (yo h3) x2;have:=pn (yo h4) x4;lia
 .rintro⟨x1,x2,x3,x4⟩;have:=pn (yo h1) x1;have:=pn (yo h2) x3;have:=pp h3 x2;have:=pp h4 x4;lia
def BN (f:R3->Bool):∀l:List R3,l=l.takeWhile f++l.dropWhile f:=λl=>(List.takeWhile_append_dropWhile (p:=f) (l:=l)).symm
theorem ie:∀ {l:List R3},x∈l.takeWhile f->f x=true:=λ {l} h=>by
 induction l with
 |nil=>simp at h
 |cons a t ih=>
  rw[List.takeWhile_cons] at h;split at h
  .rcases xU.mp h with rfl|h
   .assumption
   .exact ih h
  .simp at h
theorem lH:∀ {l:List R3},l.dropWhile f=x::t->f x=false:=λ {l} h=>by
 induction l with
 |nil=>simp at h
 |cons a l ih=>
  rw[List.dropWhile_cons] at h;split at h
  .exact ih h
  .rename_i hn;injection h with h1 h2;subst h1;simpa using hn
theorem Ccw.parts (h:Ccw l)(r:R3):∃a b P Q,l=a++b/\b++a=P++Q/\(∀v∈P,0<val r v)/\∀v∈Q,val r v<=0:=by
 have e1:=BN (λv=>decide (val r v<=0)) l;have m1:∀v∈l.takeWhile λv=>decide (val r v<=0),val r v<=0:=λv hv=>yV (ie hv);revert e1 m1;generalize l.takeWhile (λv=>decide (val r v<=0))=N1;cases hd:l.dropWhile (λv=>decide (val r v<=0)) with
 |nil=>intro e1 m1;rw[um] at e1;exact⟨[],l,[],l,rfl,by simp,λv hv=>absurd hv (by simp),λv hv=>m1 v (e1▸hv)⟩
 |cons p R=>
  intro e1 m1;have hp:0<val r p:=by have:=lH hd;have:=zZ this;lia
  have e2:=BN (λv=>decide (0<val r v)) R;have m2:∀v∈R.takeWhile λv=>decide (0<val r v),0<val r v:=λv hv=>yV (ie hv);revert e2 m2;generalize R.takeWhile (λv=>decide (0<val r v))=P1;cases hd2:R.dropWhile (λv=>decide (0<val r v)) with
  |nil=>
   intro e2 m2;rw[um] at e2;subst e2;refine⟨N1,p::R,p::R,N1,e1,rfl,λv hv=>?_,m1⟩;rcases xU.mp hv with rfl|hv
   .exact hp
   .exact m2 v hv
  |cons q S=>
   intro e2 m2;have hq:val r q<=0:=by have:=lH hd2;have:=zZ this;lia
   have mp:∀v∈p::P1,0<val r v:=λv hv=>by
    rcases xU.mp hv with rfl|hv
    .exact hp
    .exact m2 v hv
   cases N1 with
   |cons n0 N=>
    refine⟨n0::N,p::R,p::P1,q::S++(n0::N),e1,by rw[e2];simp,mp,λv hv=>?_⟩;rcases yy.mp hv with hv|hv
    .rcases xU.mp hv with rfl|hv
     .exact hq
     .rcases y_ 0 (val r v) with z|z
      .exfalso;have s:List.Sublist [n0,p,q,v] l:=by rw[e1,e2];have s1:List.Sublist [v] S:=vG.mpr hv;have s2:List.Sublist [q,v] (q::S):=s1.cons_cons q;have s3:List.Sublist [q,v] (P1++q::S):=s2.trans (rE _ _);have s4:List.Sublist [p,q,v] (p::(P1++q::S)):=s3.cons_cons p;have s5:List.Sublist [n0] (n0::N):=vG.mpr xT;exact s5.append s4
       exact(h.alt r s).2 ⟨m1 n0 xT,hp,hq,z⟩
      .exact z
    .exact m1 v hv
   |nil=>
    have e3:=BN (λv=>decide (val r v<=0)) S;have m3:∀v∈S.takeWhile λv=>decide (val r v<=0),val r v<=0:=λv hv=>yV (ie hv);have hd3:∀v∈S.dropWhile (λv=>decide (val r v<=0)),0<val r v:=λv hv=>by
     cases hc:S.dropWhile (λv=>decide (val r v<=0)) with
     |nil=>rw[hc] at hv;simp at hv
     |cons p2 S2=>
      have hp2:0<val r p2:=by have:=lH hc;have:=zZ this;lia
      rw[hc] at hv;rcases xU.mp hv with rfl|hv
      .exact hp2
      .rcases y_ 0 (val r v) with z|z
       .exact z
       .exfalso;have s:List.Sublist [p,q,p2,v] l:=by rw[e1,qM,e2,e3,hc];have s1:List.Sublist [v] S2:=vG.mpr hv;have s2:List.Sublist [p2,v] (p2::S2):=s1.cons_cons p2;have s3:=s2.trans (rE (S.takeWhile λv=>decide (val r v<=0)) _);have s4:=s3.cons_cons q;have s5:=s4.trans (rE P1 _);exact s5.cons_cons p
        exact(h.alt r s).1 ⟨hp,hq,hp2,z⟩
    refine⟨p::P1++q::S.takeWhile (λv=>decide (val r v<=0)),S.dropWhile (λv=>decide (val r v<=0)),S.dropWhile (λv=>decide (val r v<=0))++p::P1,q::S.takeWhile (λv=>decide (val r v<=0)),?_,?_,λv hv=>?_,λv hv=>?_⟩
    .rw[e1,qM,e2]
     conv=>lhs;rw[e3]
     simp
    .simp
    .rcases yy.mp hv with hv|hv
     .exact hd3 v hv
     .exact mp v hv
    .rcases xU.mp hv with rfl|hv
     .exact hq
     .exact m3 v hv
def xu:R3->List R3->R3
 |p,[]=>p
 |_,x::xs=>xu x xs
def ju (u v w:R3):det u v w=det w u v:=by simp only[det];grind
def Md (u v w:R3):det u v w = - det v u w:=by simp only[det];grind
theorem lY (p q:R3):∀(xs ys:List R3),xu p (xs++q::ys)=xu q ys
 |[],_=>rfl
 |x::xs,ys=>lY x q xs ys
def GI (p q:R3)(xs:List R3):xu p (xs++[q])=q:=lY p q xs []
theorem u6 (p:R3):∀(xs:List R3),xu p xs∈p::xs
 |[]=>by simp[xu]
 |x::xs=>yJ _ (u6 x xs)
theorem mE (p:R3):∀(xs:List R3),∃ys,p::xs=ys++[xu p xs]
 |[]=>⟨[],rfl⟩
 |x::xs=>by obtain⟨ys,e⟩:=mE x xs;exact⟨p::ys,zj (p::·) e⟩
def chain:R3->List R3->List (R3×R3)
 |_,[]=>[]
 |p,x::xs=>(p,x)::chain x xs
theorem nN (p:R3):∀(xs ys:List R3),chain p (xs++ys)=chain p xs++chain (xu p xs) ys
 |[],_=>rfl
 |x::xs,ys=>by show(p,x)::chain x (xs++ys)=(p,x)::(chain x xs++chain (xu x xs) ys);rw[nN x xs ys]
def y9:List R3->List (R3×R3)
 |[]=>[]
 |x::xs=>chain (xu x xs) (x::xs)
def sU:y9 ((x::xs)++(y::ys))=chain (xu y ys) (x::xs)++chain (xu x xs) (y::ys):=by show chain (xu x (xs++y::ys)) ((x::xs)++(y::ys))=_;rw[lY,nN];rfl
theorem E2 (a b:List R3):∃c d,y9 (a++b)=c++d/\y9 (b++a)=d++c:=by
 cases a with
 |nil=>exact⟨[],y9 b,by simp,by simp⟩
 |cons x xs=>
  cases b with
  |nil=>exact⟨[],y9 (x::xs),by simp,by simp⟩
  |cons y ys=>exact⟨_,_,sU,sU⟩
def N7 (h:p∈y9 (b++a)):p∈y9 (a++b):=by obtain⟨c,d,e1,e2⟩:=E2 a b;rw[e2] at h;rw[e1];exact yy.mpr ((yy.mp h).symm)
theorem bL:∀ {p:R3} {l:List R3},(x,y)∈chain p l->∃s t,p::l=s++x::y::t
 |_,[],h=>by simp[chain] at h
 |p,z::l,h=>by
  rcases xU.mp h with e|h
  .injection e with e1 e2;subst e1 e2;exact⟨[],l,rfl⟩
  .obtain⟨s,t,e⟩:=bL h;exact⟨p::s,t,by rw[e];rfl⟩
theorem o9:∀ {s:List R3} {p:R3} {l t:List R3},p::l=s++x::y::t->(x,y)∈chain p l
 |[],p,l,t,h=>by injection h with h1 h2;subst h1 h2;exact xT
 |a::s,p,l,t,h=>by
  injection h with h1 h2;subst h1;cases l with
  |nil=>cases s<;>cases h2
  |cons z l=>exact yJ _ (o9 (s:=s) h2)
theorem Ccw.edge (h:Ccw l)(he:(u,v)∈y9 l)(hw:w∈l):0<=det u v w:=by
 cases l with
 |nil=>simp at hw
 |cons x xs=>
  have he:(u,v)∈(xu x xs,x)::chain x xs:=he;rcases xU.mp he with e|he
  .injection e with e1 e2;subst e1 e2;obtain⟨ys,e⟩:=mE v xs;generalize xu v xs=L at e ⊢;cases ys with
   |nil=>injection e with e1 e2;rw[<-e1,rX];exact wF _
   |cons y ys=>
    injection e with e1 e2;subst e1;have e2:xs=ys++[L]:=e2;rw[e2] at hw;rcases xU.mp hw with rfl|hw
    .rw[fV];exact wF _
    .rcases yy.mp hw with hw|hw
     .have:=h.tri v w L (by rw[e2];exact((vG.mpr hw).append (mM [L])).cons_cons v)
      rw[ju] at this;exact yo this
     .have:w=L:=by simpa using hw
      rw[this,rY];exact wF _
  .obtain⟨s,t,e⟩:=bL he;rw[e] at hw;rcases yy.mp hw with hw|hw
   .have:=h.tri w u v (by rw[e];exact(vG.mpr hw).append ((mM [u,v]).trans (by simp)))
    rw[qw] at this;lia
   .rcases xU.mp hw with rfl|hw
    .rw[rY];exact wF _
    .rcases xU.mp hw with rfl|hw
     .rw[fV];exact wF _
     .have:=h.tri u v w (by rw[e];exact((((vG.mpr hw).cons_cons v).cons_cons u)).trans (rE s _))
      lia
theorem fan (x p:R3):∀(y:R3) (ys:List R3),(∀u v,(u,v)∈chain y ys->0<det x u v/\0<=det u v p)->0<=det x y p->det x (xu y ys) p<=0->ys≠[]->∃u v,(u,v)∈chain y ys/\0<=det x u p/\det x v p<=0
 |y,[],_,_,_,h=>absurd rfl h
 |y,z::ys,hc,h0,h1,_=>by
  rcases y_ 0 (det x z p) with c|c
  .cases ys with
   |nil=>exact absurd h1 (by show ¬det x z p<=0;lia)
   |cons a ys=>obtain⟨u,v,m,h2,h3⟩:=fan x p z (a::ys) (λu v m=>hc u v (yJ _ m)) (yo c) h1 (by simp);exact⟨u,v,yJ _ m,h2,h3⟩
  .exact⟨y,z,xT,h0,c⟩
theorem Ccw.incone (h:Ccw l)(h3:3<=l.length)(hp:∀u v,(u,v)∈y9 l->0<=det u v p):InC l p:=by
 match l,h,h3,hp with
 |x::y::z::t,h,_,hp=>
  have he:∀u v,(u,v)∈chain y (z::t)->0<det x u v/\0<=det u v p:=λu v m=>by obtain⟨s,s2,e⟩:=bL m;refine⟨h.tri x u v ?_,hp u v (yJ _ (yJ _ m))⟩;rw[e];exact(((mM [u,v]).trans (show List.Sublist [u,v] (u::v::s2) by simp)).trans (rE s _)).cons_cons x
  have h0:0<=det x y p:=hp x y (yJ _ xT);have h1:0<=det (xu x (y::z::t)) x p:=hp _ _ xT;have h1':det x (xu y (z::t)) p<=0:=by have e:det x (xu y (z::t)) p = - det (xu x (y::z::t)) x p:=Md _ _ _;lia
  obtain⟨u,v,m,h2,h3⟩:=fan x p y (z::t) he h0 h1' (by simp);obtain⟨d1,d2⟩:=he u v m;have mem:∀w,w=u\/w=v->w∈x::y::z::t:=λw hw=>by
   obtain⟨s,s2,e⟩:=bL m;have:w∈y::z::t:=by rw[e];rcases hw with rfl|rfl<;>simp
   exact yJ _ this
  refine⟨det x u v,d1,?_⟩;rw[ET x u v p];have c1:0<=det p u v:=by rw[qw];exact d2
  have c2:0<=det x p v:=by rw[nX];lia
  exact((Cn.mem xT).smul c1).add (((Cn.mem (mem u (.inl rfl))).smul c2).add ((Cn.mem (mem v (.inr rfl))).smul h2))
def turn (r s:R3):Int:=r.1*s.2.1-r.2.1*s.1
def yN (w:R3):Nat:=Int.gcd (Int.gcd w.1 w.2.1:Int) w.2.2
def red (w:R3):R3:=(w.1/yN w,w.2.1/yN w,w.2.2/yN w)
def F_ (w:R3):(yN w:Int)∣w.1/\(yN w:Int)∣w.2.1/\(yN w:Int)∣w.2.2:=by have h1:(yN w:Int)∣(Int.gcd w.1 w.2.1:Int):=gg ..;exact⟨Int.dvd_trans h1 (gg ..),Int.dvd_trans h1 (dZ ..),dZ ..⟩
def Mo (h1:d∣w.1)(h2:d∣w.2.1)(h3:d∣w.2.2):d∣(yN w:Int):=jG (jG h1 h2) h3
def aa (h:0<w.2.2):0<(yN w:Int):=by have:=mJ (Int.gcd w.1 w.2.1:Int) (show w.2.2≠0 by lia);unfold yN;lia
def bR:mul (yN w) (red w)=w:=by obtain⟨h1,h2,h3⟩:=F_ w;exact ext3 (d_ h1) (d_ h2) (d_ h3)
def IE (h:0<w.2.2):0<(red w).2.2:=by have e:(yN w:Int)*(red w).2.2=w.2.2:=zj (·.2.2) (bR (w:=w));exact hX (aa h) (by rw[e];exact h)
def MT (h:0<w.2.2):yN (red w)=1:=by
 obtain⟨h1,h2,h3⟩:=F_ (red w);have g:=aa h;have d:(yN w:Int)*(yN (red w):Int)∣(yN w:Int):=by
  have e:=bR (w:=w);refine Mo ?_ ?_ ?_
  .conv=>rhs;rw[<-e]
   exact Kl _ h1
  .conv=>rhs;rw[<-e]
   exact Kl _ h2
  .conv=>rhs;rw[<-e]
   exact Kl _ h3
 have d2:(yN (red w):Int)∣1:=by
  have:(yN w:Int)*(yN (red w):Int)∣(yN w:Int)*1:=by rw[gy];exact d
  exact Int.dvd_of_mul_dvd_mul_left (by lia) this
 have:=Int.le_of_dvd (by decide) d2;have p:=aa (IE h);lia
def lu (hg:yN v=1)(hz:0<v.2.2)(hs:val s v=0)(ht:val t v=0)(hn:turn s t≠0) :
  v.2.2<=(turn s t).natAbs/\v.1.natAbs<=(s.2.2*t.2.1-t.2.2*s.2.1).natAbs/\v.2.1.natAbs<=(t.2.2*s.1-s.2.2*t.1).natAbs:=by
 have e1:turn s t*v.1=v.2.2*(s.2.2*t.2.1-t.2.2*s.2.1):=by
  have:turn s t*v.1=v.2.2*(s.2.2*t.2.1-t.2.2*s.2.1)+t.2.1*val s v-s.2.1*val t v:=by simp only[turn,val];grind
  rw[hs,ht] at this;rw[this];grind
 have e2:turn s t*v.2.1=v.2.2*(t.2.2*s.1-s.2.2*t.1):=by
  have:turn s t*v.2.1=v.2.2*(t.2.2*s.1-s.2.2*t.1)+s.1*val t v-t.1*val s v:=by simp only[turn,val];grind
  rw[hs,ht] at this;rw[this];grind
 have dv:v.2.2∣turn s t:=by
  have h1:v.2.2∣turn s t*v.1:=⟨_,e1⟩
  have h2:v.2.2∣turn s t*v.2.1:=⟨_,e2⟩
  have h3:v.2.2∣turn s t*v.2.2:=Kf ..;have g12:v.2.2∣turn s t*(Int.gcd v.1 v.2.1:Int):=by
   have:=jG h1 h2;rw[Ca] at this;have h4:((turn s t).natAbs*Int.gcd v.1 v.2.1:Nat)=((turn s t*(Int.gcd v.1 v.2.1:Int)).natAbs:Nat):=by rw[uU];rfl
   rw[h4] at this;exact pX.mp this
  have g3:=jG g12 h3;rw[Ca] at g3;have hg':Int.gcd (Int.gcd v.1 v.2.1:Int) v.2.2=1:=hg;rw[hg',Nat.mul_one] at g3;exact pX.mp g3
 have zl:v.2.2<=(turn s t).natAbs:=by have h:=Int.le_of_dvd (show(0:Int)<((turn s t).natAbs:Int) by lia) (pX.mpr dv);exact h
 refine⟨zl,?_,?_⟩
 .have h:=zj Int.natAbs e1;rw[uU,uU] at h;rcases CA (s.2.2*t.2.1-t.2.2*s.2.1).natAbs v.1.natAbs with c|c
  .exfalso;have h1:v.2.2.natAbs<=(turn s t).natAbs:=by lia
   have h2:0<v.2.2.natAbs:=by lia
   have h3:v.2.2.natAbs*(s.2.2*t.2.1-t.2.2*s.2.1).natAbs<v.2.2.natAbs*v.1.natAbs:=Nat.mul_lt_mul_of_pos_left c h2;have h4:v.2.2.natAbs*v.1.natAbs<=(turn s t).natAbs*v.1.natAbs:=CB _ h1;lia
  .exact c
 .have h:=zj Int.natAbs e2;rw[uU,uU] at h;rcases CA (t.2.2*s.1-s.2.2*t.1).natAbs v.2.1.natAbs with c|c
  .exfalso;have h1:v.2.2.natAbs<=(turn s t).natAbs:=by lia
   have h2:0<v.2.2.natAbs:=by lia
   have h3:v.2.2.natAbs*(t.2.2*s.1-s.2.2*t.1).natAbs<v.2.2.natAbs*v.2.1.natAbs:=Nat.mul_lt_mul_of_pos_left c h2;have h4:v.2.2.natAbs*v.2.1.natAbs<=(turn s t).natAbs*v.2.1.natAbs:=CB _ h1;lia
  .exact c
def abs (i:Int):Int:=if i<0 then -i else i
def cw (r u v:R3):R3:=add (mul (abs (val r v)) u) (mul (abs (val r u)) v)
def ya (r u v:R3):R3:=red (cw r u v)
def EZ (r u v:R3):cw r u v=cw r v u:=by apply ext3<;>simp only[cw,add]<;>lia
structure Bt (u v x:R3)(a b g:Int):Prop where
 pa:0<a
 pb:0<b
 pg:0<g
 e:mul g x=add (mul a u) (mul b v)
def rV (hu:0<u.2.2)(hv:0<v.2.2)(h:val r u*val r v<0):Bt u v (ya r u v) (abs (val r v)) (abs (val r u)) (yN (cw r u v))/\val r (ya r u v)=0/\0<(ya r u v).2.2/\yN (ya r u v)=1:=by
 have sg:(val r u<0/\0<val r v)\/(0<val r u/\val r v<0):=by
  rcases gk (val r u) 0 with c|c|c
  .rcases y_ 0 (val r v) with d|d
   .exact .inl ⟨c,d⟩
   .have:=nn (yo c) d;lia
  .rw[c] at h;simp at h
  .rcases y_ (val r v) 0 with d|d
   .exact .inr ⟨c,d⟩
   .have:=pz (yo c) d;lia
 have p1:0<abs (val r v):=by unfold abs;split<;>lia
 have p2:0<abs (val r u):=by unfold abs;split<;>lia
 have hz:0<(cw r u v).2.2:=by show 0<abs (val r v)*u.2.2+abs (val r u)*v.2.2;have:=pp p1 hu;have:=pp p2 hv;lia
 have v0:val r (cw r u v)=0:=by
  unfold cw;rw[val_add,val_mul,val_mul];rcases sg with ⟨c,d⟩|⟨c,d⟩
  .have e1:abs (val r v)=val r v:=by unfold abs;rw[xH (by lia)]
   have e2:abs (val r u) = - val r u:=by unfold abs;rw[xK c]
   rw[e1,e2];grind
  .have e1:abs (val r v) = - val r v:=by unfold abs;rw[xK d]
   have e2:abs (val r u)=val r u:=by unfold abs;rw[xH (by lia)]
   rw[e1,e2];grind
 refine⟨⟨p1,p2,aa hz,bR⟩,?_,IE hz,MT hz⟩;have:=zj (val r) (bR (w:=cw r u v));rw[val_mul,v0] at this;exact J8 (aa hz) this
theorem Bt.val (h:Bt u v x a b g)(r:R3):g*Pol.val r x=a*Pol.val r u+b*Pol.val r v:=by have:=zj (Pol.val r) h.e;rwa [val_mul,val_add,val_mul,val_mul] at this
theorem Bt.det (h:Bt u v x a b g)(p q:R3):g*Pol.det p q x=a*Pol.det p q u+b*Pol.det p q v:=by have:=zj (Pol.det p q) h.e;rwa [fU,lG,fU,fU] at this
def Bt.kept (h:Bt u v x a b g)(hu:Pol.val r u<=0)(hv:Pol.val r v<=0):Pol.val r x<=0:=by have:=h.val r;have:=pn (yo h.pa) hu;have:=pn (yo h.pb) hv;exact Om h.pg (by lia)
def Bt.tight (h:Bt u v x a b g)(hu:Pol.val r u=0)(hv:Pol.val r v=0):Pol.val r x=0:=by have:=h.val r;rw[hu,hv] at this;exact J8 h.pg (by lia)
def unlike (hs:s.1≠0\/s.2.1≠0)(hu:0<u.2.2)(hv:0<v.2.2)(su:val s u=0)(sv:val s v=0)(h:val r u*val r v<0):turn s r≠0:=by
 intro z;have e:s.1*(val r u*v.2.2-val r v*u.2.2)=r.1*(val s u*v.2.2-val s v*u.2.2)+turn s r*(u.2.1*v.2.2-v.2.1*u.2.2):=by simp only[val,turn];grind
 have e':s.2.1*(val r u*v.2.2-val r v*u.2.2)=r.2.1*(val s u*v.2.2-val s v*u.2.2)-turn s r*(u.1*v.2.2-v.1*u.2.2):=by simp only[val,turn];grind
 rw[z,su,sv] at e e';have k:val r u*v.2.2-val r v*u.2.2=0:=by
  rcases hs with c|c
  .have e:s.1*(val r u*v.2.2-val r v*u.2.2)=0:=by rw[e];grind
   exact(vf.mp e).resolve_left c
  .have e':s.2.1*(val r u*v.2.2-val r v*u.2.2)=0:=by rw[e'];grind
   exact(vf.mp e').resolve_left c
 rcases gk (val r u) 0 with c|c|c
 .have d:0<val r v:=by
   rcases y_ 0 (val r v) with d|d
   .exact d
   .have:=nn (yo c) d;lia
  have:=pZ c hv;have:=pp d hu;lia
 .rw[c] at h;simp at h
 .have d:val r v<0:=by
   rcases y_ (val r v) 0 with d|d
   .exact d
   .have:=pz (yo c) d;lia
  have:=pZ d hu;have:=pp c hv;lia
def seg (r:R3)(p:R3×R3):List R3:=(if val r p.1*val r p.2<0 then[ya r p.1 p.2] else[])++(if val r p.2<=0 then[p.2] else[])
def wY (r:R3)(l:List R3):List R3:=(y9 l).flatMap (seg r)
def lB (r:R3)(a b:List R3):∃c d,wY r (a++b)=c++d/\wY r (b++a)=d++c:=by obtain⟨c,d,e1,e2⟩:=E2 a b;exact⟨c.flatMap (seg r),d.flatMap (seg r),by unfold wY;rw[e1,p_],by unfold wY;rw[e2,p_]⟩
theorem lb:∀ {p:R3} {P:List R3},0<val r p->(∀v∈P,0<val r v)->(chain p P).flatMap (seg r)=[]
 |p,[],_,_=>rfl
 |p,x::P,hp,h=>by
  have hx:=h x xT;show seg r (p,x)++(chain x P).flatMap (seg r)=[]
  rw[lb hx λv hv=>h v (yJ _ hv),um];unfold seg;rw[xH (show ¬val r p*val r x<0 by have:=pp hp hx;lia),xH (show ¬val r x<=0 by lia)];rfl
theorem o_:∀ {p:R3} {Q:List R3},val r p<=0->(∀v∈Q,val r v<=0)->(chain p Q).flatMap (seg r)=Q
 |p,[],_,_=>rfl
 |p,x::Q,hp,h=>by have hx:=h x xT;show seg r (p,x)++(chain x Q).flatMap (seg r)=x::Q;rw[o_ hx λv hv=>h v (yJ _ hv)];unfold seg;rw[xH (show ¬val r p*val r x<0 by have:=nn hp hx;lia),xK (show val r (p,x).2<=0 from hx)];rfl
def bef (r p q:R3):List R3:=if val r q<0 then[ya r p q] else[]
def Tq (hp:0<val r p)(hq:val r q<=0):seg r (p,q)=bef r p q++[q]:=by
 unfold seg bef;rw[xK (show val r (p,q).2<=0 from hq)];by_cases c:val r q<0
 .rw[xK c,xK (show val r (p,q).1*val r (p,q).2<0 from jH hp c)]
 .rw[xH c,xH (show ¬val r (p,q).1*val r (p,q).2<0 from by
   have e:val r q=0:=by lia
   show ¬val r p*val r q<0;rw[e];simp)]
def Ts (hp:0<val r p)(hq:val r q<=0):seg r (q,p)=bef r p q:=by
 unfold seg bef;rw[xH (show ¬val r (q,p).2<=0 from by show ¬val r p<=0;lia),um];by_cases c:val r q<0
 .rw[xK c,xK (show val r (q,p).1*val r (q,p).2<0 from pZ c hp)];unfold ya;rw[EZ]
 .rw[xH c,xH (show ¬val r (q,p).1*val r (q,p).2<0 from by
   have e:val r q=0:=by lia
   show ¬val r q*val r p<0;rw[e];simp)]
def EW (hP:∀v∈p1::P,0<val r v)(hQ:∀v∈q1::Q,val r v<=0) :
  wY r ((p1::P)++(q1::Q))=bef r p1 (xu q1 Q)++(bef r (xu p1 P) q1++q1::Q):=by
 unfold wY;rw[sU,p_];have h1:=hP p1 xT;have h2:=hQ q1 xT;have h3:=hQ _ (u6 q1 Q);have h4:=hP _ (u6 p1 P);have e1:(chain (xu q1 Q) (p1::P)).flatMap (seg r)=bef r p1 (xu q1 Q):=by show seg r (xu q1 Q,p1)++(chain p1 P).flatMap (seg r)=_;rw[lb h1 λv hv=>hP v (yJ _ hv),um,Ts h1 h3]
 have e2:(chain (xu p1 P) (q1::Q)).flatMap (seg r)=bef r (xu p1 P) q1++q1::Q:=by show seg r (xu p1 P,q1)++(chain q1 Q).flatMap (seg r)=_;rw[o_ h2 λv hv=>hQ v (yJ _ hv),Tq h4 h2,v5];rfl
 rw[e1,e2]
structure Good (Ls l:List R3):Prop where
 ccw:Ccw l
 bot:∀v∈l,0<v.2.2
 prim:∀v∈l,yN v=1
 kept:∀v∈l,∀s∈Ls,val s v<=0
 edge:∀u v,(u,v)∈y9 l->u≠v->∃s∈Ls,val s u=0/\val s v=0
 two:∀v∈l,∃s∈Ls,∃t∈Ls,val s v=0/\val t v=0/\turn s t≠0
 all:∀p:R3,0<p.2.2->(∀s∈Ls,val s p<=0)->InC l p
theorem Good.rot (h:Good Ls (a++b)):Good Ls (b++a) where
 ccw:=h.ccw.rot
 bot:=λv hv=>h.bot v (by simpa [or_comm] using hv)
 prim:=λv hv=>h.prim v (by simpa [or_comm] using hv)
 kept:=λv hv=>h.kept v (by simpa [or_comm] using hv)
 edge:=λu v e=>h.edge u v (N7 e)
 two:=λv hv=>h.two v (by simpa [or_comm] using hv)
 all:=λp h0 h1=>by obtain⟨m,hm,c⟩:=h.all p h0 h1;exact⟨m,hm,c.mono λv hv=>.mem (by simpa [or_comm] using hv)⟩
theorem Mv:∀ {l:List R3},List.Sublist [a,b] l->3<=l.length->∃c,List.Sublist [c,a,b] l\/List.Sublist [a,c,b] l\/List.Sublist [a,b,c] l
 |[],_,h=>absurd h (by simp)
 |x::l,s,h=>by
  cases s with
  |cons _ s=>exact⟨x,.inl (s.cons_cons x)⟩
  |cons_cons _ s=>
   have hl:2<=l.length:=by simpa using h
   have hb:b∈l:=vG.mp s;obtain⟨s1,s2,e⟩:=List.append_of_mem hb;cases s1 with
   |cons c s1=>refine⟨c,.inr (.inl ?_)⟩;rw[e];have:List.Sublist [c,b] (c::s1++b::s2):=(vG.mpr xT).append (vG.mpr xT);exact this.cons_cons a
   |nil=>
    cases s2 with
    |nil=>rw[e] at hl;simp at hl
    |cons c s2=>refine⟨c,.inr (.inr ?_)⟩;rw[e];simp
def G_ (h:∀u v w:R3,List.Sublist [u,v,w] l->0<det u v w)(h3:3<=l.length):l.Nodup:=by
 refine sA.mpr λ {a b} s e=>?_;subst e;obtain⟨c,s|s|s⟩:=Mv s h3
 .have:=h _ _ _ s;rw[fV] at this;lia
 .have:=h _ _ _ s;rw[rY] at this;lia
 .have:=h _ _ _ s;rw[rX] at this;lia
theorem GJ (h:P≠[]):List.Sublist [p,xu p P] (p::P):=by
 cases P with
 |nil=>exact absurd rfl h
 |cons y ys=>exact(vG.mpr (show xu p (y::ys)∈y::ys from u6 y ys)).cons_cons p
structure Bw (u v x:R3)(a b g:Int):Prop where
 pa:0<=a
 pb:0<b
 pg:0<g
 e:mul g x=add (mul a u) (mul b v)
def Bt.w (h:Bt u v x a b g):Bw u v x a b g:=⟨yo h.pa,h.pb,h.pg,h.e⟩
def Bw.self (u v:R3):Bw u v v 0 1 1:=⟨by lia,by lia,by lia,by apply ext3<;>simp[mul,add]⟩
theorem Bw.det (h:Bw u v x a b g)(p q:R3):g*Pol.det p q x=a*Pol.det p q u+b*Pol.det p q v:=by have:=zj (Pol.det p q) h.e;rwa [fU,lG,fU,fU] at this
section
variable {Ls P Q:List R3} {r p1 q1:R3}
structure gJ (Ls:List R3)(r p1 q1:R3)(P Q:List R3):Prop where
 good:Good Ls ((p1::P)++(q1::Q))
 hP:∀v∈p1::P,0<val r v
 hQ:∀v∈q1::Q,val r v<=0
 three:P≠[]\/Q≠[]
 dir:∀s∈Ls,s.1≠0\/s.2.1≠0
namespace gJ
variable (S:gJ Ls r p1 q1 P Q)
include S
def q1le:val r q1<=0:=S.hQ q1 xT
def qmle:val r (xu q1 Q)<=0:=S.hQ _ (u6 q1 Q)
def p1gt:0<val r p1:=S.hP p1 xT
def pkgt:0<val r (xu p1 P):=S.hP _ (u6 p1 P)
def botQ (h:v∈q1::Q):0<v.2.2:=S.good.bot v (zY _ h)
def botP (h:v∈p1::P):0<v.2.2:=S.good.bot v (yZ _ h)
def pqq (hp:p∈p1::P)(s:List.Sublist [x,y] (q1::Q)):0<det p x y:=S.good.ccw.tri p x y ((vG.mpr hp).append s)
def ppq (hp:List.Sublist [p,p'] (p1::P))(hx:x∈q1::Q):0<det p p' x:=S.good.ccw.tri p p' x (hp.append (vG.mpr hx))
def qqq (s:List.Sublist [x,y,z] (q1::Q)):0<det x y z:=S.good.ccw.tri x y z (s.trans (rE _ _))
theorem q1xy (s:List.Sublist [x,y] (q1::Q)):0<=det q1 x y:=by
 cases s with
 |cons _ s=>exact yo (S.qqq (s.cons_cons q1))
 |cons_cons _ s=>rw[rX];exact wF _
theorem xyqm (s:List.Sublist [x,y] (q1::Q)):0<=det x y (xu q1 Q):=by
 obtain⟨ys,e⟩:=mE q1 Q;have s':=s;rw[e] at s';obtain⟨l1,l2,e2,s1,s2⟩:=Cy.mp s';cases l2 with
 |nil=>rw[um] at e2;subst e2;have:=S.qqq (x:=x) (y:=y) (z:=xu q1 Q) (by rw[e];exact s1.append (mM [xu q1 Q]));lia
 |cons b l2=>
  have hb:b=xu q1 Q/\l2=[]:=by
   cases s2 with
   |cons _ s2=>cases s2
   |cons_cons _ s2=>cases s2;exact⟨rfl,rfl⟩
  obtain⟨hb,rfl⟩:=hb;have:y=b:=by
   cases l1 with
   |nil=>cases e2
   |cons c l1=>
    cases l1 with
    |nil=>injection e2 with _ e2;injection e2
    |cons d l1=>injection e2 with _ e2;injection e2 with _ e2;simp at e2
  rw[this,hb,fV];exact wF _
theorem nd:((p1::P)++(q1::Q)).Nodup:=S.good.ccw.nd
def p1pkx (hx:x∈q1::Q):0<=det p1 (xu p1 P) x/\(P≠[]->0<det p1 (xu p1 P) x):=by
 by_cases h:P=[]
 .subst h;exact⟨by show 0<=det p1 p1 x;rw[rX];exact wF _,λz=>absurd rfl z⟩
 .have:=S.ppq (GJ h) hx;exact⟨by lia,λ_=>this⟩
def pq1x (hp:p∈p1::P)(hx:x∈q1::Q):0<=det p q1 x/\(x≠q1->0<det p q1 x):=by
 rcases xU.mp hx with rfl|hx
 .exact⟨by rw[fV];exact wF _,λz=>absurd rfl z⟩
 .have:=S.pqq hp ((vG.mpr hx).cons_cons q1);exact⟨by lia,λ_=>this⟩
def pxqm (hp:p∈p1::P)(hx:x∈q1::Q):0<=det p x (xu q1 Q)/\(x≠xu q1 Q->0<det p x (xu q1 Q)):=by
 obtain⟨ys,e⟩:=mE q1 Q;rw[e] at hx;rcases yy.mp hx with hx|hx
 .have:=S.pqq (x:=x) (y:=xu q1 Q) hp (by rw[e];exact(vG.mpr hx).append (mM [xu q1 Q]));exact⟨by lia,λ_=>this⟩
 .have:x=xu q1 Q:=by simpa using hx
  rw[this];exact⟨by rw[fV];exact wF _,λz=>absurd rfl z⟩
def q1xqm (hx:x∈q1::Q):0<=det q1 x (xu q1 Q):=by
 rcases xU.mp hx with rfl|hx
 .rw[rX];exact wF _
 .exact S.xyqm ((vG.mpr hx).cons_cons q1)
def q1ne (h:Q≠[]):q1≠xu q1 Q:=by have s:=GJ (p:=q1) h;have nd:=(sj.mp S.nd).2.1;exact sA.mp nd s
def w1 (r p1 q1:R3)(P:List R3):R3:=if val r q1<0 then ya r (xu p1 P) q1 else q1
def u1 (r p1 q1:R3)(Q:List R3):R3:=if val r (xu q1 Q)<0 then ya r p1 (xu q1 Q) else xu q1 Q
def X1 (h:val r q1<0):Bt (xu p1 P) q1 (ya r (xu p1 P) q1) (abs (val r q1)) (abs (val r (xu p1 P))) (yN (cw r (xu p1 P) q1))/\val r (ya r (xu p1 P) q1)=0/\0<(ya r (xu p1 P) q1).2.2/\yN (ya r (xu p1 P) q1)=1:=rV (S.botP (u6 p1 P)) (S.botQ xT) (jH S.pkgt h)
def X2 (h:val r (xu q1 Q)<0):Bt p1 (xu q1 Q) (ya r p1 (xu q1 Q)) (abs (val r (xu q1 Q))) (abs (val r p1)) (yN (cw r p1 (xu q1 Q)))/\val r (ya r p1 (xu q1 Q))=0/\0<(ya r p1 (xu q1 Q)).2.2/\yN (ya r p1 (xu q1 Q))=1:=rV (S.botP xT) (S.botQ (u6 q1 Q)) (jH S.p1gt h)
def w1b:∃a b g,Bw (xu p1 P) q1 (w1 r p1 q1 P) a b g/\(val r q1<0->0<a)/\val r (w1 r p1 q1 P)=0:=by
 unfold w1;by_cases h:val r q1<0
 .rw[xK h];obtain⟨b,z,_⟩:=S.X1 h;exact⟨_,_,_,b.w,λ_=>b.pa,z⟩
 .rw[xH h];exact⟨_,_,_,Bw.self _ _,λz=>absurd z h,by have:=S.q1le;lia⟩
def u1b:∃a b g,Bw p1 (xu q1 Q) (u1 r p1 q1 Q) a b g/\(val r (xu q1 Q)<0->0<a)/\val r (u1 r p1 q1 Q)=0:=by
 unfold u1;by_cases h:val r (xu q1 Q)<0
 .rw[xK h];obtain⟨b,z,_⟩:=S.X2 h;exact⟨_,_,_,b.w,λ_=>b.pa,z⟩
 .rw[xH h];exact⟨_,_,_,Bw.self _ _,λz=>absurd z h,by have:=S.qmle;lia⟩
def close (hc:val r q1<0\/Q≠[])(hp:val r p<=0):0<=det (u1 r p1 q1 Q) (w1 r p1 q1 P) p:=by
 obtain⟨a,b,g,bw,ha,hw⟩:=S.w1b;obtain⟨c,d,g',bu,hcc,hu⟩:=S.u1b;have e1:=bu.det p1 (w1 r p1 q1 P);rw[rY,vR,mK] at e1;have e2:=bw.det (xu q1 Q) p1;have d1:det (xu q1 Q) p1 (xu p1 P)=det p1 (xu p1 P) (xu q1 Q):=qw _ _ _;have d2:det (xu q1 Q) p1 q1=det p1 q1 (xu q1 Q):=qw _ _ _;rw[d1,d2] at e2;obtain⟨f1,f2⟩:=S.p1pkx (u6 q1 Q);obtain⟨f3,f4⟩:=S.pq1x (p:=p1) xT (u6 q1 Q);have k1:0<det (xu q1 Q) p1 (w1 r p1 q1 P):=by
  refine hX bw.pg ?_;rw[e2];have n1:=pz bw.pa f1;have n2:=pz (yo bw.pb) f3;by_cases hq:Q=[]
  .have hp':P≠[]:=S.three.resolve_right (λz=>z hq);have h0:val r q1<0:=hc.resolve_right (λz=>z hq);have:=pp (ha h0) (f2 hp');lia
  .have:=pp bw.pb (f4 (zK (S.q1ne hq)));lia
 have d3:det p1 (w1 r p1 q1 P) (xu q1 Q)=det (xu q1 Q) p1 (w1 r p1 q1 P):=ju _ _ _;rw[d3] at e1;have k2:0<det p1 (w1 r p1 q1 P) (u1 r p1 q1 Q):=by refine hX bu.pg ?_;rw[e1];exact pp bu.pb k1
 have e3:=Sh r (u1 r p1 q1 Q) (w1 r p1 q1 P) p1 p hu hw;have d4:det (u1 r p1 q1 Q) (w1 r p1 q1 P) p1 = - det p1 (w1 r p1 q1 P) (u1 r p1 q1 Q):=by rw[ju,nX]
 rw[d4] at e3;refine du S.p1gt ?_;rw[<-e3];exact nn hp (by lia)
def left (r p1 q1:R3)(P Q:List R3):List R3:=bef r (xu p1 P) q1++(q1::Q)++bef r p1 (xu q1 Q)
theorem mem_left (h:v∈left r p1 q1 P Q):(v∈q1::Q)\/(val r q1<0/\v=ya r (xu p1 P) q1)\/(val r (xu q1 Q)<0/\v=ya r p1 (xu q1 Q)):=by
 unfold left bef at h;rcases yy.mp h with h|h
 .rcases yy.mp h with h|h
  .split at h
   .exact .inr (.inl ⟨by assumption,by simpa using h⟩)
   .simp at h
  .exact .inl h
 .split at h
  .exact .inr (.inr ⟨by assumption,by simpa using h⟩)
  .simp at h
theorem sub_bef (h:List.Sublist l (bef r p q)):l=[]\/(val r q<0/\l=[ya r p q]):=by
 unfold bef at h;split at h
 .cases h with
  |cons _ h=>cases h;exact .inl rfl
  |cons_cons _ h=>cases h;exact .inr ⟨by assumption,rfl⟩
 .cases h;exact .inl rfl
def tri (s:List.Sublist [u,v,w] (left r p1 q1 P Q)):0<det u v w:=by
 unfold left at s;rw[v5] at s;obtain⟨l1,l2,e,s1,s2⟩:=Cy.mp s;obtain⟨l3,l4,e2,s3,s4⟩:=Cy.mp s2;have b1:=S.sub_bef s1;have b4:=S.sub_bef s4;subst e2;rcases b1 with rfl|⟨h1,rfl⟩
 .rcases b4 with rfl|⟨h4,rfl⟩
  .have:[u,v,w]=l3:=by simpa using e
   subst this;exact S.qqq s3
  ·-- q q X2
   obtain⟨bt,_⟩:=S.X2 h4;have:l3=[u,v]/\w=ya r p1 (xu q1 Q):=by
    rcases Jv (show[u,v,w]=l3++[ya r p1 (xu q1 Q)] from e) with ⟨_,z⟩|⟨_,z⟩|⟨z1,z⟩|⟨_,z⟩
    .cases z
    .cases z
    .cases z;exact⟨z1,rfl⟩
    .cases z
   obtain⟨rfl,rfl⟩:=this;have e3:=bt.det u v;have k1:0<det u v p1:=by rw[ju];exact S.pqq xT s3
   have k2:=S.xyqm s3;have:=pp bt.pa k1;have:=pz (yo bt.pb) k2;exact hX bt.pg (by lia)
 .obtain⟨bt,_⟩:=S.X1 h1;rcases b4 with rfl|⟨h4,rfl⟩
  .have:u=ya r (xu p1 P) q1/\l3=[v,w]:=by injection e with e1 e2;exact⟨e1,by simpa using e2.symm⟩
   obtain⟨rfl,rfl⟩:=this;have e3:=bt.det v w;have k1:0<det v w (xu p1 P):=by rw[ju];exact S.pqq (u6 p1 P) s3
   have k2:0<=det v w q1:=by rw[ju];exact S.q1xy s3
   have:=pp bt.pa k1;have:=pz (yo bt.pb) k2;rw[qw];exact hX bt.pg (by lia)
  .obtain⟨bu,_⟩:=S.X2 h4;have:u=ya r (xu p1 P) q1/\l3=[v]/\w=ya r p1 (xu q1 Q):=by
    injection e with e1 e;have e:[v,w]=l3++[ya r p1 (xu q1 Q)]:=e;cases l3 with
    |nil=>cases e
    |cons a l3=>
     injection e with e2 e;cases l3 with
     |nil=>injection e with e3 _;exact⟨e1,by rw[e2],e3⟩
     |cons b l3=>injection e with _ e;simp at e
   obtain⟨rfl,rfl,rfl⟩:=this;have hv:v∈q1::Q:=vG.mp s3;have e3:=bu.det (ya r (xu p1 P) q1) v;have e4:=bt.det v p1;have e5:=bt.det v (xu q1 Q);have r1:det v p1 (xu p1 P)=det p1 (xu p1 P) v:=qw _ _ _;have r2:det v p1 q1=det p1 q1 v:=qw _ _ _;have r3:det v (xu q1 Q) (xu p1 P)=det (xu p1 P) v (xu q1 Q):=ju _ _ _;have r4:det v (xu q1 Q) q1=det q1 v (xu q1 Q):=ju _ _ _;rw[r1,r2] at e4;rw[r3,r4] at e5;obtain⟨f1,f2⟩:=S.p1pkx hv;obtain⟨f3,f4⟩:=S.pq1x (p:=p1) xT hv;obtain⟨f5,f6⟩:=S.pxqm (p:=xu p1 P) (u6 p1 P) hv;have f7:=S.q1xqm hv;have n1:=pz (yo bt.pa) f1;have n2:=pz (yo bt.pb) f3;have n3:=pz (yo bt.pa) f5;have n4:=pz (yo bt.pb) f7;have g1:0<=det v p1 (ya r (xu p1 P) q1):=du bt.pg (by lia);have g2:0<=det v (xu q1 Q) (ya r (xu p1 P) q1):=du bt.pg (by lia);have some:0<det v p1 (ya r (xu p1 P) q1)\/0<det v (xu q1 Q) (ya r (xu p1 P) q1):=by
    by_cases hq:Q=[]
    .have hp':P≠[]:=S.three.resolve_right (λz=>z hq);left;have:=pp bt.pa (f2 hp');exact hX bt.pg (by lia)
    .by_cases hv1:v=q1
     .right;have:=pp bt.pa (f6 (by rw[hv1];exact S.q1ne hq));exact hX bt.pg (by lia)
     .left;have:=pp bt.pb (f4 hv1);exact hX bt.pg (by lia)
   have m1:det (ya r (xu p1 P) q1) v p1=det v p1 (ya r (xu p1 P) q1):=qw _ _ _;have m2:det (ya r (xu p1 P) q1) v (xu q1 Q)=det v (xu q1 Q) (ya r (xu p1 P) q1):=qw _ _ _;rw[m1,m2] at e3;refine hX bu.pg ?_;rw[e3];have t1:=pz (yo bu.pa) g1;have t2:=pz (yo bu.pb) g2;rcases some with z|z
   .have:=pp bu.pa z;lia
   .have:=pp bu.pb z;lia
end gJ
end
end Pol
open Pol
namespace Pol
section
variable {Ls P Q:List R3} {r p1 q1:R3}
namespace gJ
variable (S:gJ Ls r p1 q1 P Q)
include S
theorem pairs (h:(u,v)∈y9 (left r p1 q1 P Q)):(u=u1 r p1 q1 Q/\v=w1 r p1 q1 P)\/(val r q1<0/\u=ya r (xu p1 P) q1/\v=q1)\/(val r (xu q1 Q)<0/\u=xu q1 Q/\v=ya r p1 (xu q1 Q))\/(u,v)∈chain q1 Q:=by
 unfold left bef at h;unfold u1 w1;by_cases h1:val r q1<0
 .by_cases h2:val r (xu q1 Q)<0
  .simp only[xK h1,xK h2,gA,qM] at h ⊢;have e:y9 (ya r (xu p1 P) q1::q1::(Q++[ya r p1 (xu q1 Q)]))=(ya r p1 (xu q1 Q),ya r (xu p1 P) q1)::(ya r (xu p1 P) q1,q1)::(chain q1 Q++[(xu q1 Q,ya r p1 (xu q1 Q))]):=by show(xu q1 (Q++[_]),_)::(_,q1)::chain q1 (Q++[_])=_;rw[GI,nN];rfl
   rw[e] at h;rcases xU.mp h with h|h
   .injection h with a b;exact .inl ⟨a,b⟩
   .rcases xU.mp h with h|h
    .injection h with a b;exact .inr (.inl ⟨h1,a,b⟩)
    .rcases yy.mp h with h|h
     .exact .inr (.inr (.inr h))
     .have h:=zR.mp h;injection h with a b;exact .inr (.inr (.inl ⟨h2,a,b⟩))
  .simp only[xK h1,xH h2,gA,qM,um] at h ⊢;have e:y9 (ya r (xu p1 P) q1::q1::Q)=(xu q1 Q,ya r (xu p1 P) q1)::(ya r (xu p1 P) q1,q1)::chain q1 Q:=rfl;rw[e] at h;rcases xU.mp h with h|h
   .injection h with a b;exact .inl ⟨a,b⟩
   .rcases xU.mp h with h|h
    .injection h with a b;exact .inr (.inl ⟨h1,a,b⟩)
    .exact .inr (.inr (.inr h))
 .by_cases h2:val r (xu q1 Q)<0
  .simp only[xH h1,xK h2,gA,qM] at h ⊢;have e:y9 (q1::(Q++[ya r p1 (xu q1 Q)]))=(ya r p1 (xu q1 Q),q1)::(chain q1 Q++[(xu q1 Q,ya r p1 (xu q1 Q))]):=by show(xu q1 (Q++[_]),_)::chain q1 (Q++[_])=_;rw[GI,nN];rfl
   rw[e] at h;rcases xU.mp h with h|h
   .injection h with a b;exact .inl ⟨a,b⟩
   .rcases yy.mp h with h|h
    .exact .inr (.inr (.inr h))
    .have h:=zR.mp h;injection h with a b;exact .inr (.inr (.inl ⟨h2,a,b⟩))
  .simp only[xH h1,xH h2,gA,qM,um] at h ⊢;have e:y9 (q1::Q)=(xu q1 Q,q1)::chain q1 Q:=rfl;rw[e] at h;rcases xU.mp h with h|h
   .injection h with a b;exact .inl ⟨a,b⟩
   .exact .inr (.inr (.inr h))
theorem old1:(xu p1 P,q1)∈y9 ((p1::P)++(q1::Q)):=by rw[sU];exact zY _ xT
theorem old2:(xu q1 Q,p1)∈y9 ((p1::P)++(q1::Q)):=by rw[sU];exact yZ _ xT
theorem old3 (h:(u,v)∈chain q1 Q):(u,v)∈y9 ((p1::P)++(q1::Q)):=by rw[sU];exact zY _ (yJ _ h)
def pk_ne:xu p1 P≠q1:=λe=>by have:=S.pkgt;have:=S.q1le;rw[e] at *;lia
def p1_ne:xu q1 Q≠p1:=λe=>by have:=S.p1gt;have:=S.qmle;rw[e] at *;lia
theorem len_left:(val r q1<0\/val r (xu q1 Q)<0\/2<=Q.length)->3<=(left r p1 q1 P Q).length:=by
 intro h;unfold left bef;by_cases hq:Q=[]
 .subst hq;have h':val r q1<0:=by
   rcases h with h|h|h
   .exact h
   .exact h
   .simp at h
  rw[xK h',xK (show val r (xu q1 [])<0 from h')];simp
 .have l1:1<=Q.length:=by
   cases Q with
   |nil=>exact absurd rfl hq
   |cons _ _=>simp
  rcases h with h|h|h
  .rw[xK h];simp;lia
  .rw[xK h];simp;lia
  .simp;lia
def small (h:¬(val r q1<0\/val r (xu q1 Q)<0\/2<=Q.length)):left r p1 q1 P Q=q1::Q/\∀v∈q1::Q,val r v=0:=by
 have h1:¬val r q1<0:=λz=>h (.inl z);have h2:¬val r (xu q1 Q)<0:=λz=>h (.inr (.inl z));have h3:¬2<=Q.length:=λz=>h (.inr (.inr z));refine⟨by unfold left bef;rw[xH h1,xH h2];simp,λv hv=>?_⟩;have a:=S.q1le;have b:=S.qmle;rcases xU.mp hv with rfl|hv
 .lia
 .match Q,hv,h3,b,h2 with
  |[x],hv,_,b,h2=>
   have:v=x:=by simpa using hv
   subst this;have b:val r v<=0:=b;have h2:¬val r v<0:=h2;lia
  |_::_::_,_,h3,_,_=>exact absurd (by simp) h3
def good_left:Good (Ls++[r]) (left r p1 q1 P Q):=by
 have keptOld:∀s∈Ls,∀v∈(p1::P)++(q1::Q),val s v<=0:=λs hs v hv=>S.good.kept v hv s hs;have mP:∀ {v},v∈p1::P->v∈(p1::P)++(q1::Q):=λh=>yZ _ h;have mQ:∀ {v},v∈q1::Q->v∈(p1::P)++(q1::Q):=λh=>zY _ h;refine⟨⟨λu v w s=>S.tri s,?_⟩,λv hv=>?_,λv hv=>?_,λv hv s hs=>?_,λu v he hne=>?_,λv hv=>?_,λp h0 hp=>?_⟩
 .by_cases c:val r q1<0\/val r (xu q1 Q)<0\/2<=Q.length
  .exact G_ (λu v w s=>S.tri s) (S.len_left c)
  .rw[(S.small c).1];exact(sj.mp S.nd).2.1
 .rcases S.mem_left hv with hv|⟨h,rfl⟩|⟨h,rfl⟩
  .exact S.botQ hv
  .exact(S.X1 h).2.2.1
  .exact(S.X2 h).2.2.1
 .rcases S.mem_left hv with hv|⟨h,rfl⟩|⟨h,rfl⟩
  .exact S.good.prim v (mQ hv)
  .exact(S.X1 h).2.2.2
  .exact(S.X2 h).2.2.2
 .rcases yy.mp hs with hs|hs
  .rcases S.mem_left hv with hv|⟨h,rfl⟩|⟨h,rfl⟩
   .exact keptOld s hs v (mQ hv)
   .exact(S.X1 h).1.kept (keptOld s hs _ (mP (u6 p1 P))) (keptOld s hs _ (mQ xT))
   .exact(S.X2 h).1.kept (keptOld s hs _ (mP xT)) (keptOld s hs _ (mQ (u6 q1 Q)))
  .have:s=r:=by simpa using hs
   subst this;rcases S.mem_left hv with hv|⟨h,rfl⟩|⟨h,rfl⟩
   .exact S.hQ v hv
   .rw[(S.X1 h).2.1];exact wF _
   .rw[(S.X2 h).2.1];exact wF _
 .rcases S.pairs he with ⟨rfl,rfl⟩|⟨h,rfl,rfl⟩|⟨h,rfl,rfl⟩|h
  .obtain⟨_,_,_,_,_,e1⟩:=S.w1b;obtain⟨_,_,_,_,_,e2⟩:=S.u1b;exact⟨r,by simp,e2,e1⟩
  .obtain⟨s,hs,a,b⟩:=S.good.edge _ _ S.old1 S.pk_ne;exact⟨s,yZ _ hs,(S.X1 h).1.tight a b,b⟩
  .obtain⟨s,hs,a,b⟩:=S.good.edge _ _ S.old2 S.p1_ne;exact⟨s,yZ _ hs,a,(S.X2 h).1.tight b a⟩
  .obtain⟨s,hs,a,b⟩:=S.good.edge _ _ (S.old3 h) hne;exact⟨s,yZ _ hs,a,b⟩
 .rcases S.mem_left hv with hv|⟨h,rfl⟩|⟨h,rfl⟩
  .obtain⟨s,hs,t,ht,a,b,c⟩:=S.good.two v (mQ hv);exact⟨s,yZ _ hs,t,yZ _ ht,a,b,c⟩
  .obtain⟨s,hs,a,b⟩:=S.good.edge _ _ S.old1 S.pk_ne;exact⟨s,yZ _ hs,r,by simp,(S.X1 h).1.tight a b,(S.X1 h).2.1,unlike (S.dir s hs) (S.botP (u6 p1 P)) (S.botQ xT) a b (jH S.pkgt h)⟩
  .obtain⟨s,hs,a,b⟩:=S.good.edge _ _ S.old2 S.p1_ne;exact⟨s,yZ _ hs,r,by simp,(S.X2 h).1.tight b a,(S.X2 h).2.1,unlike (S.dir s hs) (S.botP xT) (S.botQ (u6 q1 Q)) b a (jH S.p1gt h)⟩
 .have hpL:∀s∈Ls,val s p<=0:=λs hs=>hp s (yZ _ hs);have hpr:val r p<=0:=hp r (by simp);obtain⟨m,hm,cn⟩:=S.good.all p h0 hpL;by_cases c:val r q1<0\/val r (xu q1 Q)<0\/2<=Q.length
  .have he:∀u v,(u,v)∈y9 ((p1::P)++(q1::Q))->0<=det u v p:=λu v h=>by have:=cn.det u v λw hw=>S.good.ccw.edge h hw;rw[fU] at this;exact du hm this
   refine Ccw.incone ⟨λu v w s=>S.tri s,G_ (λu v w s=>S.tri s) (S.len_left c)⟩ (S.len_left c) λu v hm'=>?_;rcases S.pairs hm' with ⟨e1,e2⟩|⟨h,e1,e2⟩|⟨h,e1,e2⟩|h
   .rw[e1,e2];refine S.close ?_ hpr;rcases c with c|c|c
    .exact .inl c
    .by_cases hq:Q=[]
     .subst hq;exact .inl c
     .exact .inr hq
    .right;intro z;subst z;simp at c
   .rw[e1,e2];have bt:=(S.X1 h).1;have e:=bt.det q1 p;have r1:det q1 p (xu p1 P)=det (xu p1 P) q1 p:=ju _ _ _;rw[r1,rY,vR,rh] at e;have k:=pz (yo bt.pa) (he _ _ S.old1);rw[qw];exact du bt.pg (by lia)
   .rw[e1,e2];have bt:=(S.X2 h).1;have e:=bt.det p (xu q1 Q);have r1:det p (xu q1 Q) p1=det (xu q1 Q) p1 p:=qw _ _ _;rw[r1,fV,vR,rh] at e;have k:=pz (yo bt.pa) (he _ _ S.old2);rw[ju];exact du bt.pg (by lia)
   .exact he u v (S.old3 h)
  .obtain⟨e,z⟩:=S.small c;refine⟨m,hm,?_⟩;have ge:∀v∈(p1::P)++(q1::Q),0<=val r v:=λv hv=>by
    rcases yy.mp hv with hv|hv
    .have:=S.hP v hv;lia
    .have:=z v hv;lia
   have:=cn.zeros r ge (by rw[val_mul];exact pn (yo hm) hpr);rw[e];refine this.mono λv hv=>?_;obtain⟨hv,hv0⟩:=uV.mp hv;have hv0:val r v=0:=by simpa using hv0
   rcases yy.mp hv with hv|hv
   .have:=S.hP v hv;lia
   .exact .mem hv
end gJ
end
end Pol
namespace Pol
def zT (r:R3)(left:List R3)(p:R3×R3):List R3:=
 let l1:=if val r p.1*val r p.2<0 then(if ya r p.1 p.2∈left then left else left++[ya r p.1 p.2]) else left
 if val r p.2<=0 then l1++[p.2] else l1
def uL (l:List R3)(r:R3):List R3:=(y9 l).foldl (zT r) []
def TN (h:(acc++seg r p).Nodup):zT r acc p=acc++seg r p:=by
 unfold zT seg at *
 by_cases c:val r p.1*val r p.2<0
 .rw[xK c] at h ⊢;have hn:ya r p.1 p.2∉acc:=λz=>by have:=(sj.mp h).2.2 _ z _ (yZ _ (zR.mpr rfl));exact this rfl
  simp only[xH hn];split<;>simp
 .rw[xH c] at h ⊢;simp only;split<;>simp
theorem FU:∀ {ps:List (R3×R3)} {acc:List R3},(acc++ps.flatMap (seg r)).Nodup->ps.foldl (zT r) acc=acc++ps.flatMap (seg r)
 |[],acc,_=>by simp
 |p::ps,acc,h=>by have h':(acc++(seg r p++ps.flatMap (seg r))).Nodup:=h;rw[<-v5] at h';rw[qL,TN (sj.mp h').1,FU h',v5];rfl
def sT (h:(wY r l).Nodup):uL l r=wY r l:=by unfold uL;rw[FU (by simpa [wY] using h)];rfl
theorem fS (h:∀v∈l,val r v<=0):wY r l=l:=by
 cases l with
 |nil=>rfl
 |cons x xs=>exact o_ (h _ (u6 x xs)) h
theorem rW (h:∀v∈l,0<val r v):wY r l=[]:=by
 cases l with
 |nil=>rfl
 |cons x xs=>exact lb (h _ (u6 x xs)) h
def bF (g:Good Ls l)(h:∀v∈l,val r v<=0):Good (Ls++[r]) l where
 ccw:=g.ccw
 bot:=g.bot
 prim:=g.prim
 kept:=λv hv s hs=>by
  rcases yy.mp hs with hs|hs
  .exact g.kept v hv s hs
  .have:s=r:=by simpa using hs
   subst this;exact h v hv
 edge:=λu v he hn=>by obtain⟨s,hs,a⟩:=g.edge u v he hn;exact⟨s,yZ _ hs,a⟩
 two:=λv hv=>by obtain⟨s,hs,t,ht,a⟩:=g.two v hv;exact⟨s,yZ _ hs,t,yZ _ ht,a⟩
 all:=λp h0 hp=>g.all p h0 λs hs=>hp s (yZ _ hs)
def tM (g:Good Ls l)(h:∀v∈l,0<=val r v)(hs:List.Sublist l' l)(hl:l'.length<=1)(h0:∀v∈l',val r v=0)(h1:∀v∈l,val r v=0->v∈l'):Good (Ls++[r]) l' where
 ccw:=⟨λu v w s=>by have:=s.length_le;simp at this;lia,g.ccw.nd.sublist hs⟩
 bot:=λv hv=>g.bot v (hs.subset hv)
 prim:=λv hv=>g.prim v (hs.subset hv)
 kept:=λv hv s hs'=>by
  rcases yy.mp hs' with h'|h'
  .exact g.kept v (hs.subset hv) s h'
  .have:s=r:=by simpa using h'
   subst this;rw[h0 v hv];exact wF _
 edge:=λu v he hn=>by
  exfalso
  match l',hl,he with
  |[x],_,he=>
   have:(u,v)=(x,x):=by simpa [y9,chain,xu] using he
   injection this with a b;exact hn (by rw[a,b])
  |[],_,he=>simp[y9] at he
  |_::_::_,hl,_=>simp at hl
 two:=λv hv=>by obtain⟨s,hs',t,ht,a⟩:=g.two v (hs.subset hv);exact⟨s,yZ _ hs',t,yZ _ ht,a⟩
 all:=λp hz hp=>by
  obtain⟨m,hm,c⟩:=g.all p hz λs hs=>hp s (yZ _ hs);refine⟨m,hm,(c.zeros r h ?_).mono λv hv=>?_⟩
  .rw[val_mul];exact pn (yo hm) (hp r (by simp))
  .obtain⟨a,b⟩:=uV.mp hv;exact .mem (h1 v a (by simpa using b))
def Gf (g:Good Ls [u,v])(dir:∀s∈Ls,s.1≠0\/s.2.1≠0)(hu:0<val r u)(hv:val r v<0)(hx:x=ya r u v):Good (Ls++[r]) [x,v]:=by
 subst hx;have bu:=g.bot u (by simp);have bv:=g.bot v (by simp);obtain⟨bt,x0,xb,xp⟩:=rV (r:=r) bu bv (jH hu hv);have ne:u≠v:=λe=>by rw[e] at hu;lia
 obtain⟨s,hs,su,sv⟩:=g.edge u v (by simp[y9,chain,xu]) ne;have nx:ya r u v≠v:=λe=>by rw[e] at x0;lia
 have sx:=bt.tight su sv;refine⟨⟨λa b c h=>by have:=h.length_le;simp at this,by simp[nx]⟩,λw hw=>?_,λw hw=>?_,λw hw t ht=>?_,λa b he hn=>?_,λw hw=>?_,λp hz hp=>?_⟩
 .simp only[xU,zi,zo] at hw;rcases hw with rfl|rfl
  .exact xb
  .exact bv
 .simp only[xU,zi,zo] at hw;rcases hw with rfl|rfl
  .exact xp
  .exact g.prim w (by simp)
 .simp only[xU,zi,zo] at hw;rcases yy.mp ht with ht|ht
  .rcases hw with rfl|rfl
   .exact bt.kept (g.kept u (by simp) t ht) (g.kept v (by simp) t ht)
   .exact g.kept w (by simp) t ht
  .have:t=r:=by simpa using ht
   subst this;rcases hw with rfl|rfl
   .rw[x0];exact wF _
   .exact yo hv
 .have he:(a,b)=(v,ya r u v)\/(a,b)=(ya r u v,v):=by simpa [y9,chain,xu] using he
  rcases he with e|e<;>injection e with e1 e2<;>subst e1 e2
  .exact⟨s,yZ _ hs,sv,sx⟩
  .exact⟨s,yZ _ hs,sx,sv⟩
 .simp only[xU,zi,zo] at hw;rcases hw with rfl|rfl
  .exact⟨s,yZ _ hs,r,by simp,sx,x0,unlike (dir s hs) bu bv su sv (jH hu hv)⟩
  .obtain⟨s,hs',t,ht,a⟩:=g.two w (by simp);exact⟨s,yZ _ hs',t,yZ _ ht,a⟩
 .obtain⟨m,hm,c⟩:=g.all p hz λs hs=>hp s (yZ _ hs);obtain⟨a,b,a0,b0,e⟩:=c.pair;have hr:val r (mul m p)<=0:=by rw[val_mul];exact pn (yo hm) (hp r (by simp))
  rw[e,val_add,val_mul,val_mul] at hr;have av:abs (val r v) = - val r v:=by unfold abs;rw[xK hv]
  have au:abs (val r u)=val r u:=by unfold abs;rw[xH (by lia)]
  refine⟨(- val r v)*m,pp (by lia) hm,?_⟩;have e2:mul ((- val r v)*m) p=add (mul (a*(yN (cw r u v):Int)) (ya r u v)) (mul (b*(- val r v)-a*val r u) v):=by
   have e3:mul ((- val r v)*m) p=mul (- val r v) (mul m p):=by apply ext3<;>simp only[mul]<;>grind
   have e4:mul (a*(yN (cw r u v):Int)) (ya r u v)=mul a (mul (yN (cw r u v)) (ya r u v)):=by apply ext3<;>simp only[mul]<;>grind
   rw[e3,e,e4,bt.e,av,au];apply ext3<;>simp only[mul,add]<;>grind
  rw[e2];have k:0<=b*(- val r v)-a*val r u:=by
   have:b*(- val r v)-a*val r u = - (a*val r u+b*val r v):=by grind
   lia
  exact((Cn.mem (by simp)).smul (pz a0 (yo bt.pg))).add ((Cn.mem (by simp)).smul k)
def Good.sw (g:Good Ls [u,v]):Good Ls [v,u]:=Good.rot (a:=[u]) (b:=[v]) g
theorem Gc (g:Good Ls l)(dir:∀s∈Ls,s.1≠0\/s.2.1≠0):Good (Ls++[r]) (uL l r):=by
 match l,g with
 |[],g=>show Good (Ls++[r]) [];exact bF g λv hv=>by simp at hv
 |[v],g=>
  by_cases h:val r v<=0
  .have hk:∀w∈[v],val r w<=0:=λw hw=>by rw[zR.mp hw];exact h
   rw[sT (by rw[fS hk];simp),fS hk];exact bF g hk
  .have hk:∀w∈[v],0<val r w:=λw hw=>by rw[zR.mp hw];lia
   rw[sT (by rw[rW hk];simp),rW hk];exact tM g (λw hw=>yo (hk w hw)) (List.nil_sublist _) (by simp) (λw hw=>by simp at hw) λw hw h0=>by have:=hk w hw;lia
 |[u,v],g=>
  have ne:u≠v:=by have:=g.ccw.nd;simp at this;exact this
  have cy:y9 [u,v]=[(v,u),(u,v)]:=rfl;unfold uL;rw[cy];simp only[qL,List.foldl_nil];by_cases c:val r u*val r v<0
  .have c':val r v*val r u<0:=by rw[vQ];exact c
   have ex:ya r v u=ya r u v:=by unfold ya;rw[EZ]
   have hu0:val r u≠0:=λz=>by rw[z] at c;simp at c
   have hv0:val r v≠0:=λz=>by rw[z] at c;simp at c
   by_cases hu:val r u<=0
   .have hv:0<val r v:=by
     rcases y_ 0 (val r v) with z|z
     .exact z
     .have:=nn hu z;lia
    have e1:zT r [] (v,u)=[ya r v u,u]:=by unfold zT;simp only[xK c',xK hu];simp
    have e2:zT r [ya r v u,u] (u,v)=[ya r v u,u]:=by unfold zT;simp only[xK c,xH (show ¬val r v<=0 by lia)];rw[xK (by rw[<-ex];simp)]
    rw[e1,e2];exact Gf g.sw dir hv (by lia) rfl
   .have hv:val r v<0:=by
     rcases y_ (val r v) 0 with z|z
     .exact z
     .have:=pz (by lia:0<=val r u) z;lia
    have e1:zT r [] (v,u)=[ya r v u]:=by unfold zT;simp only[xK c',xH hu];simp
    have e2:zT r [ya r v u] (u,v)=[ya r v u,v]:=by unfold zT;simp only[xK c,xK (show val r v<=0 by lia)];rw[xK (by rw[<-ex];simp)];rfl
    rw[e1,e2];exact Gf g dir (by lia) hv ex
  .have c':¬val r v*val r u<0:=by rw[vQ];exact c
   have e1:zT r [] (v,u)=if val r u<=0 then[u] else[]:=by unfold zT;simp only[xH c'];split<;>simp
   have e2:∀l,zT r l (u,v)=if val r v<=0 then l++[v] else l:=λl=>by unfold zT;simp only[xH c]
   rw[e1,e2];by_cases hu:val r u<=0
   .rw[xK hu];by_cases hv:val r v<=0
    .rw[xK hv];show Good (Ls++[r]) [u,v];exact bF g λw hw=>by simp only[xU,zi,zo] at hw;rcases hw with rfl|rfl<;>assumption
    .rw[xH hv];have hu0:val r u=0:=by
      rcases y_ (val r u) 0 with z|z
      .have:=pZ z (show 0<val r v by lia);lia
      .lia
     exact tM g (λw hw=>by
      simp only[xU,zi,zo] at hw;rcases hw with rfl|rfl<;>lia) (by simp) (by simp) (λw hw=>by rw[zR.mp hw];exact hu0) λw hw h0=>by
       simp only[xU,zi,zo] at hw;rcases hw with rfl|rfl
       .simp
       .lia
   .rw[xH hu];by_cases hv:val r v<=0
    .rw[xK hv];have hv0:val r v=0:=by
      rcases y_ (val r v) 0 with z|z
      .have:=jH (show 0<val r u by lia) z;lia
      .lia
     exact tM g (λw hw=>by
      simp only[xU,zi,zo] at hw;rcases hw with rfl|rfl<;>lia) (by simp) (by simp) (λw hw=>by
       have:w=v:=by simpa using hw
       rw[this];exact hv0) λw hw h0=>by
       simp only[xU,zi,zo] at hw;rcases hw with rfl|rfl
       .lia
       .simp
    .rw[xH hv];exact tM g (λw hw=>by
      simp only[xU,zi,zo] at hw;rcases hw with rfl|rfl<;>lia) (by simp) (by simp) (λw hw=>by simp at hw) λw hw h0=>by simp only[xU,zi,zo] at hw;rcases hw with rfl|rfl<;>lia
 |x::y::z::t,g=>
  obtain⟨a,b,P,Q,e1,e2,hP,hQ⟩:=g.ccw.parts r;have e0:x::y::z::t=a++b:=e1;rw[e0] at g ⊢;have gr:Good Ls (b++a):=g.rot;have mem:∀v,v∈a++b->v∈P++Q:=λv hv=>by rw[<-e2];simpa [or_comm] using hv
  have hlen:(P++Q).length=t.length+3:=by rw[<-e2,zy,Nat.add_comm,<-zy,<-e0];simp
  cases P with
  |nil=>have hk:∀v∈a++b,val r v<=0:=λv hv=>hQ v (by simpa using mem v hv);rw[sT (by rw[fS hk];exact g.ccw.nd),fS hk];exact bF g hk
  |cons p1 P=>
   cases Q with
   |nil=>have hk:∀v∈a++b,0<val r v:=λv hv=>hP v (by simpa using mem v hv);rw[sT (by rw[rW hk];simp),rW hk];exact tM g (λw hw=>yo (hk w hw)) (List.nil_sublist _) (by simp) (λw hw=>by simp at hw) λw hw h0=>by have:=hk w hw;lia
   |cons q1 Q=>
    have S:gJ Ls r p1 q1 P Q:=⟨by rw[<-e2];exact gr,hP,hQ,by
     rcases Classical.em (P=[]) with h|h
     .right;intro h';subst h h';simp at hlen
     .exact .inl h,dir⟩
    have gl:=S.good_left;unfold gJ.left at gl;have g2:=Good.rot (a:=bef r (xu p1 P) q1++q1::Q) (b:=bef r p1 (xu q1 Q)) gl;rw[<-EW hP hQ,<-e2] at g2;obtain⟨c,d,f1,f2⟩:=lB r a b;rw[f2] at g2;have g3:=g2.rot;rw[<-f1] at g3;rw[sT g3.ccw.nd];exact g3
def yI:Int:=60001
def box:List R3:=[(-yI,-yI,1),(yI,-yI,1),(yI,yI,1),(-yI,yI,1)]
def qT:List R3:=[(-1,0,yI),(1,0,yI),(0,-1,yI),(0,1,yI)]
theorem TQ {a b c d u v w:R3}(s:List.Sublist [u,v,w] [a,b,c,d]):(u=a/\v=b/\w=c)\/(u=a/\v=b/\w=d)\/(u=a/\v=c/\w=d)\/(u=b/\v=c/\w=d):=by
 have full:∀ {x y z u v w:R3},List.Sublist [u,v,w] [x,y,z]->u=x/\v=y/\w=z:=λ {x y z u v w} s=>by have:=s.eq_of_length (by simp);injection this with h1 h2;injection h2 with h2 h3;injection h3 with h3 _;exact⟨h1,h2,h3⟩
 cases s with
 |cons _ s=>exact .inr (.inr (.inr (full s)))
 |cons_cons _ s=>
  have two:∀ {x y z v w:R3},List.Sublist [v,w] [x,y,z]->(v=x/\w=y)\/(v=x/\w=z)\/(v=y/\w=z):=λ {x y z v w} s=>by
   cases s with
   |cons _ s=>have:=s.eq_of_length (by simp);injection this with h1 h2;injection h2 with h2 _;exact .inr (.inr ⟨h1,h2⟩)
   |cons_cons _ s=>
    have:w∈[y,z]:=vG.mp s;simp only[xU,zi,zo] at this;rcases this with rfl|rfl
    .exact .inl ⟨rfl,rfl⟩
    .exact .inr (.inl ⟨rfl,rfl⟩)
  rcases two s with ⟨h1,h2⟩|⟨h1,h2⟩|⟨h1,h2⟩
  .exact .inl ⟨rfl,h1,h2⟩
  .exact .inr (.inl ⟨rfl,h1,h2⟩)
  .exact .inr (.inr (.inl ⟨rfl,h1,h2⟩))
def Ew:Ccw box:=by refine⟨λu v w s=>?_,by decide⟩;rcases TQ s with ⟨rfl,rfl,rfl⟩|⟨rfl,rfl,rfl⟩|⟨rfl,rfl,rfl⟩|⟨rfl,rfl,rfl⟩<;>decide
def Gb:Good qT box:=by
 refine⟨Ew,by decide,by decide,by decide,λu v h _=>?_,by decide,λp hz hp=>?_⟩
 .have h:(u,v)∈[((-yI,yI,1),(-yI,-yI,1)),((-yI,-yI,1),(yI,-yI,1)),((yI,-yI,1),(yI,yI,1)),((yI,yI,1),(-yI,yI,1))]:=h;simp only[xU,zi,zo] at h;rcases h with h|h|h|h<;>injection h with h1 h2<;>subst h1 h2
  .exact⟨(-1,0,yI),by decide,by decide,by decide⟩
  .exact⟨(0,-1,yI),by decide,by decide,by decide⟩
  .exact⟨(1,0,yI),by decide,by decide,by decide⟩
  .exact⟨(0,1,yI),by decide,by decide,by decide⟩
 .have h1:=hp (-1,0,yI) (by decide);have h2:=hp (1,0,yI) (by decide);have h3:=hp (0,-1,yI) (by decide);have h4:=hp (0,1,yI) (by decide);simp only[val,yI] at h1 h2 h3 h4;refine Ew.incone (by decide) λu v h=>?_;have h:(u,v)∈[((-yI,yI,1),(-yI,-yI,1)),((-yI,-yI,1),(yI,-yI,1)),((yI,-yI,1),(yI,yI,1)),((yI,yI,1),(-yI,yI,1))]:=h;simp only[xU,zi,zo] at h;rcases h with h|h|h|h<;>injection h with h5 h6<;>subst h5 h6<;>simp only[det,yI]<;>lia
def pieces (xa:List R3):List R3:=xa.foldl uL box
theorem Gd:∀(xa Ls l:List R3),Good Ls l->(∀s∈Ls,s.1≠0\/s.2.1≠0)->(∀s∈xa,s.1≠0\/s.2.1≠0)->Good (Ls++xa) (xa.foldl uL l)
 |[],Ls,l,g,_,_=>by simpa using g
 |r::xa,Ls,l,g,d1,d2=>by
  rw[qL];have:=Gd xa (Ls++[r]) (uL l r) (Gc g d1) (λs hs=>by
   rcases yy.mp hs with h|h
   .exact d1 s h
   .rw[zR.mp h];exact d2 r xT) (λs hs=>d2 s (yJ _ hs))
  rwa [v5] at this
def qy (d:∀s∈xa,s.1≠0\/s.2.1≠0):Good (qT++xa) (pieces xa):=Gd xa qT box Gb (by decide) d
def GR (xa:List R3):Prop:=∀u v:Int,(u≠0\/v≠0)->∃r∈xa,0<r.1*u+r.2.1*v
theorem best {xa:List R3}(f g:R3->Int)(h:∃r∈xa,0<g r):∃i∈xa,0<g i/\∀r∈xa,0<g r->f r*g i<=f i*g r:=by
 induction xa with
 |nil=>obtain⟨r,hr,_⟩:=h;simp at hr
 |cons x xa ih=>
  by_cases hx:0<g x
  .by_cases hr:∃r∈xa,0<g r
   .obtain⟨i,hi,gi,hb⟩:=ih hr;rcases y_ (f i*g x) (f x*g i) with c|c
    .refine⟨x,xT,hx,λr hr gr=>?_⟩;rcases xU.mp hr with rfl|hr
     .exact wF _
     .have h1:=hb r hr gr;have h2:(f r*g i)*g x<=(f i*g r)*g x:=zf h1 (yo hx);have h3:(f i*g x)*g r<=(f x*g i)*g r:=zf (yo c) (yo gr);have h4:g i*(f r*g x)<=g i*(f x*g r):=by
       have e1:g i*(f r*g x)=(f r*g i)*g x:=by grind
       have e2:(f i*g r)*g x=(f i*g x)*g r:=by grind
       have e3:(f x*g i)*g r=g i*(f x*g r):=by grind
       lia
      exact Cc h4 gi
    .refine⟨i,yJ _ hi,gi,λr hr gr=>?_⟩;rcases xU.mp hr with rfl|hr
     .exact c
     .exact hb r hr gr
   .refine⟨x,xT,hx,λr hr' gr=>?_⟩;rcases xU.mp hr' with rfl|h'
    .exact wF _
    .exact absurd ⟨r,h',gr⟩ hr
  .obtain⟨r,hr,gr⟩:=h;rcases xU.mp hr with rfl|hr
   .exact absurd gr hx
   .obtain⟨i,hi,gi,hb⟩:=ih ⟨r,hr,gr⟩;refine⟨i,yJ _ hi,gi,λr hr gr=>?_⟩;rcases xU.mp hr with rfl|hr
    .exact absurd gr hx
    .exact hb r hr gr
def En {xa:List R3}(h:GR xa)(hb:∀r∈xa,(-30<=r.2.1/\r.2.1<=30)/\r.2.2<=1000){p:R3}(hz:0<p.2.2)(hp:∀r∈xa,val r p<=0):p.1<=60000*p.2.2:=by
 by_cases hc:∃r∈xa,r.2.1=0/\0<r.1
 .obtain⟨r,hr,r0,r1⟩:=hc;have h1:=hp r hr;have h2:=(hb r hr).2;simp only[val,r0,jb,rh] at h1;rcases y_ 0 p.1 with c|c
  .have h3:p.1<=r.1*p.1:=by have:1*p.1<=r.1*p.1:=zf (by lia) (yo c);lia
   have h4:r.2.2*p.2.2<=1000*p.2.2:=zf h2 (yo hz);lia
  .lia
 .obtain⟨i,hi,gi,mi⟩:=best (xa:=xa) (λr=>r.1) (λr=>r.2.1) (by obtain⟨r,hr,h1⟩:=h 0 1 (.inr (by decide));exact⟨r,hr,by simpa using h1⟩)
  obtain⟨j,hj,gj,mj⟩:=best (xa:=xa) (λr=>r.1) (λr=>- r.2.1) (by obtain⟨r,hr,h1⟩:=h 0 (-1) (.inr (by decide));exact⟨r,hr,by simp at h1;lia⟩)
  have pos:0<(- j.2.1)*i.1+i.2.1*j.1:=by
   rcases y_ 0 ((- j.2.1)*i.1+i.2.1*j.1) with c|c
   .exact c
   .exfalso;obtain⟨r,hr,h1⟩:=h i.2.1 (- i.1) (.inl (by lia));rcases gk r.2.1 0 with d|d|d
    .have h2:=mj r hr (by lia);have h3:i.2.1*(r.1*(- j.2.1))<=i.2.1*(j.1*(- r.2.1)):=we h2 (yo gi);have h4:(- r.2.1)*((- j.2.1)*i.1+i.2.1*j.1)<=0:=pn (by lia) c;have h5:(- j.2.1)*(r.1*i.2.1+r.2.1*(- i.1))<=0:=by
      have e:(- j.2.1)*(r.1*i.2.1+r.2.1*(- i.1))=i.2.1*(r.1*(- j.2.1))-i.2.1*(j.1*(- r.2.1))+(- r.2.1)*((- j.2.1)*i.1+i.2.1*j.1):=by grind
      lia
     have h6:0<(- j.2.1)*(r.1*i.2.1+r.2.1*(- i.1)):=pp gj h1;lia
    .rw[d] at h1;simp only[jb,rh] at h1;have:0<r.1:=by
      rcases y_ 0 r.1 with z|z
      .exact z
      .have:=np z (yo gi);lia
     exact hc ⟨r,hr,d,this⟩
    .have h2:=mi r hr d;have e:r.1*i.2.1+r.2.1*(- i.1)=r.1*i.2.1-i.1*r.2.1:=by grind
     lia
  have h1:=hp i hi;have h2:=hp j hj;obtain⟨⟨b1,b2⟩,b3⟩:=hb i hi;obtain⟨⟨b4,b5⟩,b6⟩:=hb j hj;have k1:(- j.2.1)*val i p<=0:=pn (yo gj) h1;have k2:i.2.1*val j p<=0:=pn (yo gi) h2;have k3:((- j.2.1)*i.1+i.2.1*j.1)*p.1<=((- j.2.1)*i.2.2+i.2.1*j.2.2)*p.2.2:=by
   have e:((- j.2.1)*i.1+i.2.1*j.1)*p.1-((- j.2.1)*i.2.2+i.2.1*j.2.2)*p.2.2=(- j.2.1)*val i p+i.2.1*val j p:=by simp only[val];grind
   lia
  have k4:(- j.2.1)*i.2.2<=30000:=by have:(- j.2.1)*i.2.2<=(- j.2.1)*1000:=we b3 (yo gj);lia
  have k5:i.2.1*j.2.2<=30000:=by have:i.2.1*j.2.2<=i.2.1*1000:=we b6 (yo gi);lia
  have k6:((- j.2.1)*i.2.2+i.2.1*j.2.2)*p.2.2<=60000*p.2.2:=zf (by lia) (yo hz);rcases y_ 0 p.1 with c|c
  .have:1*p.1<=((- j.2.1)*i.1+i.2.1*j.1)*p.1:=zf (by lia) (yo c);lia
  .lia
def w5 (r:R3):Prop:=((-30<=r.1/\r.1<=30)/\(-30<=r.2.1/\r.2.1<=30))/\(-1000<=r.2.2/\r.2.2<=1000)
def Lk (h:GR xa)(hb:∀r∈xa,w5 r)(hz:0<p.2.2)(hp:∀r∈xa,val r p<=0) :
  (-(60000*p.2.2)<=p.1/\p.1<=60000*p.2.2)/\(-(60000*p.2.2)<=p.2.1/\p.2.1<=60000*p.2.2):=by
 have tr:∀(f:R3->R3) (q:R3),(∀r,val (f r) q=val r p)->q.2.2=p.2.2->(∀r∈xa,(-30<=(f r).2.1/\(f r).2.1<=30)/\(f r).2.2<=1000)->GR (xa.map f)->q.1<=60000*p.2.2:=λf q h1 h2 h3 h4=>by
  have:=En (xa:=xa.map f) (p:=q) h4 (λr hr=>by
   obtain⟨r0,hr0,rfl⟩:=zQ.mp hr;exact h3 r0 hr0) (by rw[h2];exact hz) (λr hr=>by
   obtain⟨r0,hr0,rfl⟩:=zQ.mp hr;rw[h1];exact hp r0 hr0)
  rwa [h2] at this
 have gm:∀(f:R3->R3) (m:Int->Int->Int×Int),(∀u v,(u≠0\/v≠0)->((m u v).1≠0\/(m u v).2≠0))->(∀r u v,(f r).1*u+(f r).2.1*v=r.1*(m u v).1+r.2.1*(m u v).2)->GR (xa.map f):=λf m h1 h2 u v hn=>by obtain⟨r,hr,h3⟩:=h _ _ (h1 u v hn);exact⟨f r,zQ.mpr ⟨r,hr,rfl⟩,by rw[h2];exact h3⟩
 refine⟨⟨?_,?_⟩,?_,?_⟩
 .have:=tr (λr=>(- r.1,r.2.1,r.2.2)) (- p.1,p.2.1,p.2.2) (λr=>by simp only[val];grind) rfl (λr hr=>⟨(hb r hr).1.2,(hb r hr).2.2⟩)
   (gm _ (λu v=>(- u,v)) (λu v hn=>by simp only;lia) (λr u v=>by simp only;grind))
  simp only at this;lia
 .exact En h (λr hr=>⟨(hb r hr).1.2,(hb r hr).2.2⟩) hz hp
 .have:=tr (λr=>(- r.2.1,r.1,r.2.2)) (- p.2.1,p.1,p.2.2) (λr=>by simp only[val];grind) rfl (λr hr=>⟨(hb r hr).1.1,(hb r hr).2.2⟩)
   (gm _ (λu v=>(v,- u)) (λu v hn=>by simp only;lia) (λr u v=>by simp only;grind))
  simp only at this;lia
 .exact tr (λr=>(r.2.1,r.1,r.2.2)) (p.2.1,p.1,p.2.2) (λr=>by simp only[val];grind) rfl (λr hr=>⟨(hb r hr).1.1,(hb r hr).2.2⟩)
   (gm _ (λu v=>(v,u)) (λu v hn=>by simp only;lia) (λr u v=>by simp only;grind))
structure IsC (xa:List R3)(p:R3):Prop where
 kept:∀r∈xa,val r p<=0
 two:∃s∈xa,∃t∈xa,val s p=0/\val t p=0/\turn s t≠0
def qr (p q:R3):Prop:=p.1*q.2.2=q.1*p.2.2/\p.2.1*q.2.2=q.2.1*p.2.2
def ic (hn:turn s t≠0)(p1:val s p=0)(p2:val t p=0)(q1:val s q=0)(q2:val t q=0):qr p q:=by
 have e1:turn s t*(p.1*q.2.2-q.1*p.2.2)=(t.2.1*val s p-s.2.1*val t p)*q.2.2-(t.2.1*val s q-s.2.1*val t q)*p.2.2:=by simp only[turn,val];grind
 have e2:turn s t*(p.2.1*q.2.2-q.2.1*p.2.2)=(s.1*val t p-t.1*val s p)*q.2.2-(s.1*val t q-t.1*val s q)*p.2.2:=by simp only[turn,val];grind
 rw[p1,p2,q1,q2] at e1 e2;have e1:turn s t*(p.1*q.2.2-q.1*p.2.2)=0:=by rw[e1];grind
 have e2:turn s t*(p.2.1*q.2.2-q.2.1*p.2.2)=0:=by rw[e2];grind
 have:=(vf.mp e1).resolve_left hn;have:=(vf.mp e2).resolve_left hn;exact⟨by lia,by lia⟩
section
variable {xa more:List R3}
structure qR (xa more:List R3):Prop where
 box:∀ {p:R3},0<p.2.2->(∀r∈more,val r p<=0)->∀s∈qT,val s p<0
 fr:∀r∈xa,w5 r
 sub:∀r∈xa,r∈more
 dir:∀r∈more,r.1≠0\/r.2.1≠0
def bj (gr:GR xa)(fr:∀r∈xa,w5 r)(sub:∀r∈xa,r∈more)(dir:∀r∈more,r.1≠0\/r.2.1≠0):qR xa more:=⟨λ {p} hz hp s hs=>by obtain⟨⟨h1,h2⟩,h3,h4⟩:=Lk gr fr hz λr hr=>hp r (sub r hr);simp only[qT,xU,zi,zo] at hs;rcases hs with rfl|rfl|rfl|rfl<;>simp only[val,yI]<;>lia,fr,sub,dir⟩
def qR.corner (F:qR xa more)(hv:v∈pieces more):0<v.2.2/\yN v=1/\IsC more v:=by
 have g:=qy F.dir;have hz:=g.bot v hv;have hk:∀r∈more,val r v<=0:=λr hr=>g.kept v hv r (zY _ hr);have nb:=F.box hz hk;obtain⟨s,hs,t,ht,a,b,c⟩:=g.two v hv;have in':∀x∈qT++more,val x v=0->x∈more:=λx hx h0=>by
  rcases yy.mp hx with h|h
  .have:=nb x h;lia
  .exact h
 exact⟨hz,g.prim v hv,hk,s,in' s hs a,t,in' t ht b,a,b,c⟩
def qR.incone (F:qR xa more)(hz:0<p.2.2)(hp:∀r∈more,val r p<=0):InC (pieces more) p:=by
 have g:=qy F.dir;refine g.all p hz λs hs=>?_;rcases yy.mp hs with h|h
 .exact yo (F.box hz hp s h)
 .exact hp s h
def val_neg (r p:R3):val (- r.1,- r.2.1,- r.2.2) p = - val r p:=by simp only[val];grind
theorem qR.found (F:qR xa more)(hz:0<p.2.2)(hp:IsC more p):∃v∈pieces more,qr v p:=by
 obtain⟨m,hm,c⟩:=F.incone hz hp.kept;obtain⟨s,hs,t,ht,a,b,hn⟩:=hp.two;have g:=qy F.dir;have kept:∀v∈pieces more,∀r∈more,val r v<=0:=λv hv r hr=>g.kept v hv r (zY _ hr);have c1:=c.zeros (- s.1,- s.2.1,- s.2.2) (λv hv=>by rw[val_neg];have:=kept v hv s hs;lia) (by rw[val_neg,val_mul,a];simp);have c2:=c1.zeros (- t.1,- t.2.1,- t.2.2) (λv hv=>by rw[val_neg];have:=kept v (uV.mp hv).1 t ht;lia) (by rw[val_neg,val_mul,b];simp);cases e:((pieces more).filter λv=>val (- s.1,- s.2.1,- s.2.2) v=0).filter (λv=>val (- t.1,- t.2.1,- t.2.2) v=0) with
 |nil=>
  rw[e] at c2;exfalso;rcases c2.bot (λv hv=>by simp at hv) with h|h
  .have:m*p.2.2=0:=zj (·.2.2) h;have:=pp hm hz;lia
  .have:∀q:R3,Cn [] q->q=(0,0,0):=λq hq=>by
    induction hq with
    |zero=>rfl
    |mem h=>simp at h
    |add _ _ h1 h2=>rw[h1,h2];rfl
   rw[this _ c2] at h;simp at h
 |cons v r=>
  have hv:v∈((pieces more).filter λv=>val (- s.1,- s.2.1,- s.2.2) v=0).filter (λv=>val (- t.1,- t.2.1,- t.2.2) v=0):=by rw[e];exact xT
  obtain⟨h1,h2⟩:=uV.mp hv;obtain⟨h3,h4⟩:=uV.mp h1;have h2:val (- t.1,- t.2.1,- t.2.2) v=0:=by simpa using h2
  have h4:val (- s.1,- s.2.1,- s.2.2) v=0:=by simpa using h4
  rw[val_neg] at h2 h4;exact⟨v,h3,ic hn (by lia) (by lia) a b⟩
end
def dot (r s:R3):Int:=r.1*s.1+r.2.1*s.2.1
def FD (sg:Int)(last:Option R3)(x:R3):Bool:=match last with|none=>true|some l=>decide (0<sg*turn l x)
def qa (r:R3)(sg:Int)(last:Option R3)(x:R3):Option R3:=if 0<sg*turn r x/\FD sg last x=true then some x else last
def far (r:R3)(sg:Int)(rs:List R3):Option R3:=rs.foldl (qa r sg) none
def back (r:R3)(rs:List R3):Bool:=rs.any λx=>decide (turn r x=0)&&decide (dot r x<0)
def q8:List R3->Bool
 |[]=>false
 |r::rs=>match far r 1 (r::rs),far r (-1) (r::rs) with
  |some l,some k=>decide (0<turn l k)||back r (r::rs)
  |_,_=>false
def HU {a b:Int}(h:0<a)(k:a*b<=0):b<=0:=by
 rcases y_ 0 b with z|z
 .have:=pp h z;lia
 .exact z
def plk (r l k z:R3):turn r l*turn k z-turn r k*turn l z+turn r z*turn l k=0:=by obtain⟨a,b,_⟩:=r;obtain⟨c,d,_⟩:=l;obtain⟨e,f,_⟩:=k;obtain⟨g,h,_⟩:=z;simp only[turn];grind
def Lf (r l z:R3):z.1*turn r l=r.1*turn z l+l.1*turn r z:=by obtain⟨a,b,_⟩:=r;obtain⟨c,d,_⟩:=l;obtain⟨g,h,_⟩:=z;simp only[turn];grind
def Lg (r l z:R3):z.2.1*turn r l=r.2.1*turn z l+l.2.1*turn r z:=by obtain⟨a,b,_⟩:=r;obtain⟨c,d,_⟩:=l;obtain⟨g,h,_⟩:=z;simp only[turn];grind
def sM (r l:R3):turn l r = - turn r l:=by obtain⟨a,b,_⟩:=r;obtain⟨c,d,_⟩:=l;simp only[turn];grind
def proj (r x z:R3):dot r r*turn x z=dot r x*turn r z-turn r x*dot r z:=by obtain⟨a,b,_⟩:=r;obtain⟨c,d,_⟩:=x;obtain⟨g,h,_⟩:=z;simp only[turn,dot];grind
def sq {a:Int}(h:a≠0):0<a*a:=by
 rcases y_ 0 a with z|z
 .exact pp z z
 .have:0<(-a)*(-a):=pp (by lia) (by lia);rwa [Int.neg_mul_neg] at this
def sq0 (a:Int):0<=a*a:=by
 rcases y_ 0 a with z|z
 .exact pz (by lia) (by lia)
 .exact nn z z
def r6 {r:R3}(h:r.1≠0\/r.2.1≠0):0<dot r r:=by
 unfold dot;have h1:=sq0 r.1;have h2:=sq0 r.2.1;rcases h with h|h
 .have:=sq h;lia
 .have:=sq h;lia
def Ux (h:turn r l≠0)(h1:turn r z=0)(h2:turn l z=0):z.1=0/\z.2.1=0:=by have b1:=Lf r l z;have b2:=Lg r l z;have a1:=sM l z;rw[h2] at a1;rw[a1,h1] at b1 b2;simp only[vR,Int.neg_zero,rh] at b1 b2;exact⟨(vf.mp b1).resolve_right h,(vf.mp b2).resolve_right h⟩
structure gG (r:R3)(s:Int)(rs:List R3)(l:R3):Prop where
 mem:l∈rs
 left:0<s*turn r l
 all:∀x∈rs,0<s*turn r x->s*turn l x<=0
def RK (s:Int)(r l k z:R3):(s*turn r l)*(s*turn k z)=(s*turn r k)*(s*turn l z)-(s*turn r z)*(s*turn l k):=by have:=plk r l k z;grind
def CW (r:R3)(s:Int)(done:List R3):Option R3->Prop
 |none=>∀x∈done,s*turn r x<=0
 |some l=>gG r s done l
theorem lK {r:R3}{s:Int}:∀(rs done:List R3) (o:Option R3),CW r s done o->CW r s (done++rs) (rs.foldl (qa r s) o)
 |[],done,o,h=>by simpa using h
 |y::rs,done,o,h=>by
  rw[qL];have ih:=lK (r:=r) (s:=s) rs (done++[y]) (qa r s o y) (by
   unfold qa;by_cases c:0<s*turn r y/\FD s o y=true
   .rw[xK c];obtain⟨c1,c2⟩:=c;refine⟨by simp,c1,λx hx hp=>?_⟩;rcases yy.mp hx with hx|hx
    .cases o with
     |none=>exact absurd (show s*turn r x<=0 from h x hx) (by lia)
     |some l=>have h:gG r s done l:=h;have c2:0<s*turn l y:=yV c2;have hl:s*turn l x<=0:=h.all x hx hp;have e:=RK s r l y x;have p1:=pn (yo c1) hl;have p2:=pp hp c2;exact HU h.left (by rw[e];lia)
    .have:x=y:=by simpa using hx
     subst this;have:turn x x=0:=by unfold turn;grind
     rw[this];simp
   .rw[xH c];cases o with
    |none=>
     intro x hx;rcases yy.mp hx with hx|hx
     .exact h x hx
     .have:x=y:=by simpa using hx
      subst this;have c':¬0<s*turn r x:=λz=>c ⟨z,rfl⟩;lia
    |some l=>
     have h:gG r s done l:=h;refine⟨yZ _ h.mem,h.left,λx hx hp=>?_⟩;rcases yy.mp hx with hx|hx
     .exact h.all x hx hp
     .have:x=y:=by simpa using hx
      subst this;have c':¬0<s*turn l x:=λz=>c ⟨hp,wI z⟩;lia)
  rwa [v5] at ih
def FE (h:far r s rs=none):∀x∈rs,s*turn r x<=0:=by have:=lK (r:=r) (s:=s) rs [] none (λx hx=>by simp at hx);unfold far at h;rw[h] at this;intro x hx;exact this x (by simpa using hx)
def sX (h:far r s rs=some l):gG r s rs l:=by have:=lK (r:=r) (s:=s) rs [] none (λx hx=>by simp at hx);unfold far at h;rw[h,qM] at this;exact this
def Sg (hr:r∈rs)(r0:r.1≠0\/r.2.1≠0)(hl:gG r 1 rs l)(hk:gG r (-1) rs k)(h:0<turn l k\/back r rs=true)(hz:∀x∈rs,turn x z<=0):z.1=0/\z.2.1=0:=by
 have l1:0<turn r l:=by have:=hl.left;lia
 have k1:turn r k<0:=by have:=hk.left;lia
 have zr:=hz r hr;have zl:=hz l hl.mem;have zk:=hz k hk.mem;have e:=plk r l k z;have p1:=pn (yo l1) zk;have p2:=nn (yo k1) zl;have hz0:turn r z=0:=by
  rcases h with h|h
  .have p3:=np zr (yo h);have p4:turn r z*turn l k=0:=by lia
   exact(vf.mp p4).resolve_right (by lia)
  .unfold back at h;rw[rq] at h;obtain⟨b,hb,c⟩:=h;simp only[k_,qp] at c;have q:=proj r b z;rw[c.1] at q;simp only[jb,Cj] at q;have q1:=pn (yo (r6 r0)) (hz b hb);have q2:=nn (yo c.2) zr;have q3:dot r b*turn r z=0:=by lia
   exact(vf.mp q3).resolve_left (by have:=c.2;lia)
 rw[hz0] at e;simp only[jb,rh] at e;have p5:turn r k*turn l z=0:=by lia
 exact Ux (by lia) hz0 ((vf.mp p5).resolve_left (by lia))
def Sf (r0:∀x∈rs,x.1≠0\/x.2.1≠0)(hr:r∈rs)(hl:gG r 1 rs l)(hk:gG r (-1) rs k)(h:¬0<turn l k)(hb:back r rs=false):∀x∈rs,turn l x<=0:=by
 intro x hx;have l1:0<turn r l:=by have:=hl.left;lia
 have k1:turn r k<0:=by have:=hk.left;lia
 rcases gk (turn r x) 0 with c|c|c
 .have kx:0<=turn k x:=by have:=hk.all x hx (by lia);lia
  have e:=plk r l k x;have p1:=pz (yo l1) kx;have p2:=nn (yo c) (by lia:turn l k<=0);have p3:0<=turn r k*turn l x:=by lia
  rcases y_ 0 (turn l x) with z|z
  .have p4:turn r k*turn l x<0:=pZ k1 z;lia
  .exact z
 .have q:=proj r x l;rw[c] at q;simp only[jb,Cj] at q;have d0:0<=dot r x:=by
   rcases y_ (dot r x) 0 with z|z
   .exfalso;have:back r rs=true:=by unfold back;rw[rq];exact⟨x,hx,by rw[wI c,wI z];rfl⟩
    rw[this] at hb;cases hb
   .exact z
  have q1:=pz d0 (yo l1);have q2:=r6 (r0 r hr);have a:=sM x l;rw[a];have:0<=turn x l:=by
   rcases y_ (turn x l) 0 with z|z
   .have:=jH q2 z;lia
   .exact z
  lia
 .have:=hl.all x hx (by lia);lia
def RA (rs:List R3):Prop:=∀z∈rs,∀s:Int,(s=1\/s = -1)->∃x∈rs,0<s*turn z x
def M5 (r0:∀x∈rs,x.1≠0\/x.2.1≠0)(h:GR rs):RA rs:=λz hz s hs=>by
 have key:∀x:R3,x.1*(s * -z.2.1)+x.2.1*(s*z.1)=s*turn z x:=λx=>by unfold turn;grind
 obtain⟨x,hx,p⟩:=h (s * -z.2.1) (s*z.1) (by have:=r0 z hz;rcases hs with e|e<;>subst e<;>lia);exact⟨x,hx,by rw[key x] at p;exact p⟩
theorem RY (r0:∀x∈rs,x.1≠0\/x.2.1≠0)(ne:rs≠[])(h:RA rs):q8 rs=true:=by
 have no:∀z:R3,z∈rs->∀s:Int,(s=1\/s = -1)->(∀x∈rs,s*turn z x<=0)->False:=λz hz s hs hx=>by obtain⟨x,hxm,p⟩:=h z hz s hs;have:=hx x hxm;lia
 cases rs with
 |nil=>exact absurd rfl ne
 |cons r t=>
  have hr:r∈r::t:=xT;have e:q8 (r::t)=match far r 1 (r::t),far r (-1) (r::t) with
   |some l,some k=>decide (0<turn l k)||back r (r::t)
   |_,_=>false:=rfl
  rw[e];cases e1:far r 1 (r::t) with
  |none=>exact(no r hr 1 (.inl rfl) (FE e1)).elim
  |some l=>
   cases e2:far r (-1) (r::t) with
   |none=>exact(no r hr (-1) (.inr rfl) (FE e2)).elim
   |some k=>
    show(decide (0<turn l k)||back r (r::t))=true;have hl:=sX e1;have hk:=sX e2;rcases Classical.em ((decide (0<turn l k)||back r (r::t))=true) with q|q
    .exact q
    .exfalso;simp only[Bool.or_eq_true,qp,not_or,Bool.not_eq_true] at q;exact no l hl.mem 1 (.inl rfl) (λx hx=>by have:=Sf r0 hr hl hk q.1 q.2 x hx;lia)
theorem cJ (r0:∀x∈rs,x.1≠0\/x.2.1≠0)(h:q8 rs=true):GR rs:=by
 cases rs with
 |nil=>cases h
 |cons r t=>
  have hr:r∈r::t:=xT;have e:q8 (r::t)=match far r 1 (r::t),far r (-1) (r::t) with
   |some l,some k=>decide (0<turn l k)||back r (r::t)
   |_,_=>false:=rfl
  rw[e] at h;cases e1:far r 1 (r::t) with
  |none=>rw[e1] at h;cases h
  |some l=>
   cases e2:far r (-1) (r::t) with
   |none=>rw[e1,e2] at h;cases h
   |some k=>
    rw[e1,e2] at h;have c:(decide (0<turn l k)||back r (r::t))=true:=h;have hl:=sX e1;have hk:=sX e2;have c':0<turn l k\/back r (r::t)=true:=by simpa using c
    intro u v uv;rcases Classical.em (∃x∈r::t,0<x.1*u+x.2.1*v) with q|q
    .exact q
    .exfalso;have key:∀x:R3,turn x (-v,u,0)=x.1*u+x.2.1*v:=λx=>by simp only[turn];grind
     have z:=Sg hr (r0 r hr) hl hk c' (z:=(-v,u,0)) (λx hx=>by
      rw[key x];rcases y_ 0 (x.1*u+x.2.1*v) with w|w
      .exact absurd ⟨x,hx,w⟩ q
      .exact w)
     simp only at z;lia
def M4 (h:GR rs):rs≠[]:=λe=>by obtain⟨r,hr,_⟩:=h 1 0 (.inl (by decide));rw[e] at hr;simp at hr
def Jx (r:R3)(acc:List R3)(p:R3×R3):(zT r acc p).length<=acc.length+(seg r p).length:=by
 unfold zT seg;by_cases c:val r p.1*val r p.2<0
 .by_cases m:ya r p.1 p.2∈acc
  .simp only[xK c,xK m];split<;>simp<;>lia
  .simp only[xK c,xH m];split<;>simp<;>lia
 .simp only[xH c];split<;>simp
theorem FT (r:R3):∀(ps:List (R3×R3)) (acc:List R3),(ps.foldl (zT r) acc).length<=acc.length+(ps.flatMap (seg r)).length
 |[],acc=>by simp
 |p::ps,acc=>by rw[qL,Kr,zy];have:=FT r ps (zT r acc p);have:=Jx r acc p;lia
def Eg (r p q:R3):(bef r p q).length<=1:=by unfold bef;split<;>simp
theorem nQ (h:Ccw l)(r:R3):(wY r l).length<=l.length+2:=by
 obtain⟨a,b,P,Q,e1,e2,hP,hQ⟩:=h.parts r;obtain⟨c,d,f1,f2⟩:=lB r a b;have el:(wY r l).length=(wY r (P++Q)).length:=by rw[e1,f1,<-e2,f2,zy,zy];lia
 have ll:l.length=(P++Q).length:=by rw[e1,<-e2,zy,zy];lia
 rw[el,ll];cases P with
 |nil=>rw[qM,fS hQ];lia
 |cons p P=>
  cases Q with
  |nil=>rw[um,rW hP];simp
  |cons q Q=>rw[EW hP hQ];simp only[zy,wU];have:=Eg r p (xu q Q);have:=Eg r (xu p P) q;lia
def L3 (h:Ccw l)(r:R3):(uL l r).length<=l.length+2:=by
 have:=FT r (y9 l) [];have:=nQ h r;unfold uL wY at *
 simp at *
 lia
theorem FQ:∀(xa Ls l:List R3),Good Ls l->(∀s∈Ls,s.1≠0\/s.2.1≠0)->(∀s∈xa,s.1≠0\/s.2.1≠0)->(xa.foldl uL l).length<=l.length+2*xa.length
 |[],Ls,l,_,_,_=>by simp
 |r::xa,Ls,l,g,d,d'=>by
  rw[qL];have h1:=L3 g.ccw r;have dr:=d' r xT;have h2:=FQ xa (Ls++[r]) (uL l r) (Gc g d) (λs hs=>by
   rcases yy.mp hs with h|h
   .exact d s h
   .rw[zR.mp h];exact dr) (λs hs=>d' s (yJ _ hs))
  rw[wU];lia
def Aa (d:∀s∈xa,s.1≠0\/s.2.1≠0):(pieces xa).length<=4+2*xa.length:=FQ xa qT box Gb (by decide) d
theorem ED (p:R3):∀l:List R3,(chain p l).length=l.length
 |[]=>rfl
 |x::l=>by show(chain x l).length+1=_;rw[ED x l];rfl
theorem lC:∀l:List R3,(y9 l).length=l.length
 |[]=>rfl
 |x::l=>ED _ _
theorem EC (p:R3):∀(l:List R3) (i:Nat) (v:R3),l[i]?=some v->∃u,(p::l)[i]?=some u/\(chain p l)[i]?=some (u,v)
 |[],i,v,h=>by simp at h
 |x::l,0,v,h=>by simp at h;subst h;exact⟨p,rfl,rfl⟩
 |x::l,i+1,v,h=>by
  have h':l[i]?=some v:=by simpa using h
  obtain⟨u,e1,e2⟩:=EC x l i v h';exact⟨u,by simpa using e1,by show(chain x l)[i]?=_;exact e2⟩
theorem E1 (h:l[i]?=some v):∃u,u∈l/\(y9 l)[i]?=some (u,v)/\((i=0/\∃ys,l=ys++[u])\/(0<i/\l[i-1]?=some u)):=by
 cases l with
 |nil=>simp at h
 |cons x l=>
  obtain⟨u,e1,e2⟩:=EC (xu x l) (x::l) i v h;cases i with
  |zero=>
   have:xu x l=u:=by simpa using e1
   subst this;obtain⟨ys,e⟩:=mE x l;exact⟨_,u6 x l,e2,.inl ⟨rfl,ys,e⟩⟩
  |succ i=>
   have e1:(x::l)[i]?=some u:=by simpa using e1
   exact⟨u,zG e1,e2,.inr ⟨by lia,by simpa using e1⟩⟩
def bz {α β:Type}(f:β->α->β)(b:β){l:List α}{i:Nat}{x:α}(h:l[i]?=some x):(l.take (i+1)).foldl f b=f ((l.take i).foldl f b) x:=by have hi:=(zc.mp h).1;rw[vT,h,se];rfl
def Ah (p q:R3):Prop:=p.1*q.2.2<q.1*p.2.2\/p.1*q.2.2=q.1*p.2.2/\p.2.1*q.2.2<q.2.1*p.2.2
def ib {a x b y c z:Int}(hx:0<x)(hy:0<y)(hz:0<z)(h1:a*y<b*x)(h2:b*z<=c*y):a*z<c*x:=by
 have e1:a*y*z<b*x*z:=Km h1 hz;have e2:b*z*x<=c*y*x:=zf h2 (by lia);have:a*z*y<c*x*y:=by
  have e3:a*z*y=a*y*z:=by grind
  have e4:c*x*y=c*y*x:=by grind
  have e5:b*x*z=b*z*x:=by grind
  lia
 exact Kk this (by lia)
def NK {a x b y c z:Int}(hx:0<x)(hy:0<y)(hz:0<z)(h1:a*y<=b*x)(h2:b*z<c*y):a*z<c*x:=by
 have e1:a*y*z<=b*x*z:=zf h1 (by lia);have e2:b*z*x<c*y*x:=Km h2 hx;have:a*z*y<c*x*y:=by
  have e3:a*z*y=a*y*z:=by grind
  have e4:c*x*y=c*y*x:=by grind
  have e5:b*x*z=b*z*x:=by grind
  lia
 exact Kk this (by lia)
def Mu {a x b y c z:Int}(hy:0<y)(h1:a*y=b*x)(h2:b*z=c*y):a*z=c*x:=by
 have:a*z*y=c*x*y:=by grind
 exact gf (by lia) this
def Ah.irrefl (p:R3):¬Ah p p:=by rintro(h|h)<;>lia
def Ah.trans {p q w:R3}(hp:0<p.2.2)(hq:0<q.2.2)(hw:0<w.2.2)(h1:Ah p q)(h2:Ah q w):Ah p w:=by
 rcases h1 with a|⟨a,b⟩
 .rcases h2 with c|⟨c,d⟩
  .exact .inl (ib hp hq hw a (by lia))
  .exact .inl (ib hp hq hw a (by lia))
 .rcases h2 with c|⟨c,d⟩
  .exact .inl (NK hp hq hw (by lia) c)
  .exact .inr ⟨Mu hq a c,ib hp hq hw b (by lia)⟩
def Ah.total (h1:¬Ah p q)(h2:¬Ah q p):qr p q:=by unfold Ah at h1 h2;unfold qr;lia
def fJ (l:List R3):Prop:=∀h t,l=h::t->∀v∈l,¬Ah v h
def o8 (h:Ccw l)(ha:l[k]?=some a)(hb:l[k+1]?=some b):(∀w∈l,0<=det a b w)/\∀j c,k+1<j->l[j]?=some c->det a c b<0:=by
 have hk:=(zc.mp hb).1;have hk0:k<l.length:=by lia
 have ea:l[k]=a:=by rw[yA hk0] at ha;exact vH ha
 have eb:l[k+1]=b:=by rw[yA hk] at hb;exact vH hb
 have sp:l=l.take k++a::b::l.drop (k+2):=by rw[<-ea,<-eb,<-rz hk,<-rz hk0,sC]
 constructor
 .intro w hw;refine h.edge ?_ hw;cases l with
  |nil=>simp at hk
  |cons x t=>
   cases k with
   |zero=>have:chain (xu x t) (x::t)=(xu x t,x)::chain x t:=rfl;show(a,b)∈chain (xu x t) (x::t);rw[this];refine yJ _ (o9 (s:=[]) (t:=(x::t).drop 2) ?_);simpa using sp
   |succ k=>
    have e:t=(x::t).tail:=rfl;show(a,b)∈chain (xu x t) (x::t);exact o9 (s:=xu x t::(x::t).take (k+1)) (t:=(x::t).drop (k+1+2)) (by rw[gA];exact zj (List.cons _) sp)
 .intro j c hj hc;have s:List.Sublist [a,b,c] l:=by
   rw[sp];refine p6 ?_ (rE _ _);refine List.Sublist.cons₂ _ (List.Sublist.cons₂ _ (vG.mpr ?_));have:(l.drop (k+2))[j-(k+2)]?=some c:=by rw[Ks,<-hc];congr 1;lia
   exact zG this
  have:=h.tri a b c s;have e:=nX a b c;lia
theorem FK:∀ {l:List α},l.Nodup->a∈l->(∀x∈l,p x=true↔x=a)->l.filter p=[a]
 |[],_,h,_=>by simp at h
 |x::l,nd,h,hp=>by
  obtain⟨n1,n2⟩:=rD.mp nd;by_cases e:x=a
  .subst e;rw[mN ((hp x xT).mpr rfl)];congr 1;rw[p9];intro y hy py;have:=(hp y (yJ _ hy)).mp py;subst this;exact n1 hy
  .rw[rA (λpy=>e ((hp x xT).mp py))];exact FK n2 ((xU.mp h).resolve_left λz=>e z.symm) λy hy=>hp y (yJ _ hy)
def l5:∀ {l k:List α},l.Nodup->k.Nodup->(∀x,x∈l↔x∈k)->l.length=k.length:=λ {l k} h1 h2 h=>((List.perm_ext_iff_of_nodup h1 h2).mpr h).length_eq
def zN (s t:R3):R3:=if turn s t<0 then(-(s.2.2*t.2.1-s.2.1*t.2.2),-(s.1*t.2.2-s.2.2*t.1),-turn s t) else(s.2.2*t.2.1-s.2.1*t.2.2,s.1*t.2.2-s.2.2*t.1,turn s t)
def gO (h:turn s t≠0):0<(zN s t).2.2/\val s (zN s t)=0/\val t (zN s t)=0:=by
 unfold zN;split
 .refine⟨by simp only;lia,?_,?_⟩<;>simp only[val,turn]<;>grind
 .refine⟨by simp only;lia,?_,?_⟩<;>simp only[val,turn]<;>grind
def LX (h:turn s t≠0)(h1:val s v=0)(h2:val t v=0):qr (zN s t) v:=ic h (gO h).2.1 (gO h).2.2 h1 h2
end Pol
namespace L2
open PySem PySem.Spec PyProof.Rows
def Bk (k:Nat)(i:Int):Prop:=i.natAbs<2^k
def Bk.mono (h:Bk k i)(hk:k<=m):Bk m i:=uW h (Nat.pow_le_pow_right (by decide) hk)
def Bk.mul (h:Bk k i)(h':Bk m j):Bk (k+m) (i*j):=by
 unfold Bk at *
 rw[uU,Nat.pow_add];exact Nat.mul_lt_mul'' h h'
def Bk.add {k:Nat}{i j:Int}(h:Bk k i)(h':Bk k j):Bk (k+1) (i+j):=by
 unfold Bk at *
 rw[Nat.pow_succ];have:=Int.natAbs_add_le i j;lia
def Bk.neg (h:Bk k i):Bk k (-i):=by unfold Bk at *;rw[Int.natAbs_neg];exact h
def Bk.sub (h:Bk k i)(h':Bk k j):Bk (k+1) (i-j):=by rw[Int.sub_eq_add_neg];exact h.add h'.neg
def Bk.bd (h:Bk k i)(hk:k<=2000:=by decide):Bd i:=h.mono hk
def Bk.abs (h:Bk k i):Bk k (if i<0 then -i else i):=by split;exact h.neg;exact h
def Bk.le (h:Bk k i)(hl:j.natAbs<=i.natAbs):Bk k j:=je hl h
def yM (k:Nat)(r:Pol.R3):Prop:=(Bk k r.1/\Bk k r.2.1)/\Bk k r.2.2
theorem yM.mono (h:yM k r)(hk:k<=m):yM m r:=⟨⟨h.1.1.mono hk,h.1.2.mono hk⟩,h.2.mono hk⟩
def B3 (r:Pol.R3):Prop:=(Bd r.1/\Bd r.2.1)/\Bd r.2.2
def yM.b3 (h:yM k r)(hk:k<=2000:=by decide):B3 r:=h.mono hk
theorem yM.val (h:yM k r)(h':yM m p):Bk (k+m+2) (val r p):=((h.1.1.mul h'.1.1).add (h.1.2.mul h'.1.2)).sub ((h.2.mul h'.2).mono (sE _))
def ah:Tr->Bool
 |.int _=>true
 |_=>false
def frT (n d:Int):Tr:=.tup [.int n,.int d]
def vC (t b:Int):Int:=t/(Int.gcd t b:Int)
def uO (t b:Int):Int:=b/(Int.gcd t b:Int)
def xh (r:Pol.R3):Tr:=.tup [.int r.1,.int r.2.1,.int r.2.2]
def xG (v:Pol.R3):Tr:=.tup [frT (vC v.1 v.2.2) (uO v.1 v.2.2),frT (vC v.2.1 v.2.2) (uO v.2.1 v.2.2)]
def cF (p:Pol.R3):pln (xh p)=true:=rfl
def JX (p q:Pol.R3):zz (xh p) (xh q)=decide (p=q):=by
 have e:zz (xh p) (xh q)=(decide (p.1=q.1)&&(decide (p.2.1=q.2.1)&&(decide (p.2.2=q.2.2)&&true))):=rfl;rw[e];by_cases h:p=q
 .subst h;simp
 .rw[uX h];by_cases h1:p.1=q.1
  .by_cases h2:p.2.1=q.2.1
   .by_cases h3:p.2.2=q.2.2
    .exact absurd (ext3 h1 h2 h3) h
    .simp[h3]
   .simp[h2]
  .simp[h1]
theorem jo (f:α->Tr)(h:∀x,pln (f x)=true):∀l:List α,PyData.canLayAll0 (w4 (l.map f))=true
 |[]=>rfl
 |x::l=>by show((wH (f x)).canLay0&&PyData.canLayAll0 (w4 (l.map f)))=true;rw[jo f h l,show(wH (f x)).canLay0=true from h x];rfl
def Ee (l:List Pol.R3)(c:Pol.R3):((l.map xh).any λu=>zz u (xh c))=decide (c∈l):=by
 rw[pS,rq,qp];constructor
 .rintro⟨u,hu,h⟩;obtain⟨x,hx,rfl⟩:=zQ.mp hu;rw[JX,qp] at h;subst h;exact hx
 .intro h;exact⟨xh c,jd h,by rw[JX];simp⟩
def MV (hx:0<=x)(hy:0<=y):Int.gcd y (x%y)=Int.gcd x y:=by obtain⟨n,rfl⟩:=Int.eq_ofNat_of_zero_le hy;obtain⟨m,rfl⟩:=Int.eq_ofNat_of_zero_le hx;show Nat.gcd n (((m%n:Nat):Int)).natAbs=Nat.gcd m n;rw[Int.natAbs_natCast,Nat.gcd_comm m n,Nat.gcd_rec n m,Nat.gcd_comm]
def oX (hb:b≠0)(h:Bd b):Bd (Int.gcd t b:Int):=by unfold Bd;refine je ?_ h;have:=Int.gcd_le_natAbs_right (a:=t) hb;lia
def HC:ye:=λts KK=>∃t,ts=[t]/\KK (.bl (ah t))
def Qm:ye:=λts KK=>∃t,ts=[t]/\∃us,(t=.tup us\/t=.lst us)/\us.length<sizeLine/\KK (.bl (us.all ah))
def HA:ye:=λts KK=>∃a b:Int,ts=[.int a,.int b]/\KK (.int (Int.gcd a b))
def QW:ye:=λts KK=>∃t b:Int,ts=[.int t,.int b]/\b≠0/\Bd b/\KK (frT (vC t b) (uO t b))
def Qp:ye:=λts KK=>∃r p:Pol.R3,ts=[xh r,xh p]/\B3 r/\B3 p/\KK (.int (val r p))
def Qt:ye:=λts KK=>∃r u v:Pol.R3,ts=[xh r,xh u,xh v]/\(yM 100 r/\yM 800 u/\yM 800 v)/\(0<u.2.2/\0<v.2.2)/\val r u*val r v<0/\KK (xh (ya r u v))
def ahead (p q:Pol.R3):Bool:=decide (p.1*q.2.2<q.1*p.2.2\/p.1*q.2.2=q.1*p.2.2/\p.2.1*q.2.2<q.2.1*p.2.2)
def Ql:ye:=λts KK=>∃p q:Pol.R3,ts=[xh p,xh q]/\B3 p/\B3 q/\KK (.bl (ahead p q))
def Hz:ye:=λts KK=>∃(l:List Pol.R3) (r:Pol.R3),ts=[.lst (l.map xh),xh r]/\yM 100 r/\(∀v∈l,yM 800 v/\0<v.2.2)/\l.length<=100000/\KK (.lst ((uL l r).map xh))
def ux (l:List Pol.R3)(s i:Nat):Nat:=if ahead (l.getD i (0,0,0)) (l.getD s (0,0,0))=true then i else s
def kS (l:List Pol.R3):Nat:=(List.range l.length).foldl (ux l) 0
def uw (l:List Pol.R3):List Pol.R3:=l.drop (kS l)++l.take (kS l)
def Qx:ye:=λts KK=>∃l:List Pol.R3,ts=[.lst (l.map xh)]/\(∀v∈l,B3 v)/\l.length<=100000/\KK (.lst ((uw l).map xh))
structure kN (xa:List Pol.R3):Prop where
 dir:∀r∈xa,r.1≠0\/r.2.1≠0
 sm:∀r∈xa,yM 100 r
 len:xa.length<=10000
def Qu:ye:=λts KK=>∃(t:Tr) (r0 xa:List Pol.R3),ts=[.lst ((pieces r0).map xh),t]/\(t=.tup (xa.map xh)\/t=.lst (xa.map xh))/\kN (r0++xa)/\KK (.lst ((pieces (r0++xa)).map xh))
def Rc:ye:=λts KK=>∃(t:Tr) (xa:List Pol.R3),ts=[t]/\(t=.tup (xa.map xh)\/t=.lst (xa.map xh))/\kN xa/\KK (.lst ((pieces xa).map xh))
def Rf:ye:=λts KK=>∃l:List Pol.R3,ts=[.lst (l.map xh)]/\(∀v∈l,yM 800 v/\0<v.2.2)/\l.length<=100000/\KK (.lst ((uw l).map xG))
def Qs:ye:=λts KK=>∃(t:Tr) (xa:List Pol.R3),ts=[t]/\(t=.tup (xa.map xh)\/t=.lst (xa.map xh))/\kN xa/\KK (.lst ((uw (pieces xa)).map xG))
def kG:Tr->Option Pol.R3
 |.tup [.int a,.int b,.int c]=>some (a,b,c)
 |_=>none
def tO (t:Tr):Bool:=match kG t with|some r=>decide (r.1≠0\/r.2.1≠0)|none=>false
def QF:ye:=λts KK=>∃t,ts=[t]/\KK (.bl (tO t))
def Ro:ye:=λts KK=>∃(a b c d:Int) (x y:List Tr),ts=[.tup (.int a::.int b::x),.tup (.int c::.int d::y)]/\((Bd a/\Bd b)/\Bd c/\Bd d)/\KK (.int (a*d-b*c))
def eS:Option Pol.R3->Tr
 |some r=>xh r
 |none=>.non
def Qy:ye:=λts KK=>∃(r:Pol.R3) (xa:List Pol.R3) (s:Int),ts=[xh r,.tup (xa.map xh),.int s]/\(s=1\/s = -1)/\yM 900 r/\(∀x∈xa,yM 900 x)/\KK (eS (far r s xa))
def Qn:ye:=λts KK=>∃(r:Pol.R3) (xa:List Pol.R3),ts=[xh r,.tup (xa.map xh)]/\yM 900 r/\(∀x∈xa,yM 900 x)/\KK (.bl (Pol.back r xa))
def Qz:ye:=λts KK=>∃xa:List Pol.R3,ts=[.tup (xa.map xh)]/\(∀x∈xa,yM 900 x)/\KK (.bl (q8 xa))
instance (r:Pol.R3):Decidable (w5 r):=by unfold w5;infer_instance
def jz (t:Tr):Bool:=match kG t with|some r=>decide ((r.1≠0\/r.2.1≠0)/\w5 r)|none=>false
def QD:ye:=λts KK=>∃t,ts=[t]/\KK (.bl (jz t))
def nearF (n d:Int):Bool:=decide (-(12*d)<=n/\n<=12*d)
def QE:ye:=λts KK=>∃fs:List (Int×Int),ts=[.tup (fs.map λf=>frT f.1 f.2)]/\fs.length<=1000/\(∀f∈fs,Bd f.2)/\KK (.bl (fs.all λf=>nearF f.1 f.2))
def j2 (v:Pol.R3):Bool:=nearF (vC v.1 v.2.2) (uO v.1 v.2.2)&&nearF (vC v.2.1 v.2.2) (uO v.2.1 v.2.2)
def rowsOf:List Tr->Option (List Pol.R3)
 |[]=>some []
 |t::ts=>match kG t,rowsOf ts with|some r,some rs=>some (r::rs)|_,_=>none
def yD (xa:List Pol.R3):Bool:=decide (3<=xa.length/\xa.length<=8)&&(xa.all λr=>decide ((r.1≠0\/r.2.1≠0)/\w5 r))&&q8 xa&&(pieces xa).all j2
def isField:Tr->Bool
 |.tup us=>match rowsOf us with|some xa=>yD xa|none=>false
 |_=>false
def QC:ye:=λts KK=>∃t,ts=[t]/\KK (.bl (isField t))
def nR (ts:List α)(s:Nat):wK ts (some (s:Int)) none=ts.drop s:=by
 unfold wK;rw[HT.IW,HT.IX];by_cases h:s<=ts.length
 .rw[Nat.min_eq_left h,uK (by rw[qo];lia)]
 .rw[Nat.min_eq_right (by lia),List.drop_eq_nil_of_le (yg _),List.drop_eq_nil_of_le (by lia)];simp
def nS (ts:List α)(s:Nat):wK ts none (some (s:Int))=ts.take s:=by
 unfold wK;rw[HT.IW,HT.IX,p8,CC];by_cases h:s<=ts.length
 .rw[Nat.min_eq_left h]
 .rw[Nat.min_eq_right (by lia),uK (yg _),uK (by lia)]
def lJ {α:Type}{f:α->Tr}{l:List α}{i:Nat}{x:Tr}(h:(vB (l.map f))[i]?=some x):∃v,l[i]?=some v/\x=.tup [.int i,f v]:=by
 have hi:i<l.length:=by have:=(zc.mp h).1;unfold vB at this;rw[fW,xO] at this;exact this
 have e:(l.map f)[i]?=some (f l[i]):=by rw[vh,yA hi];rfl
 unfold vB at h;rw[n6 e] at h;refine⟨l[i],yA hi,?_⟩;have:=vH h;rw[<-this];simp
def r_ (f:α->Tr)(l:List α):(vB (l.map f)).length=l.length:=by unfold vB;rw[fW,xO]
def Lc {l:List Pol.R3}{i:Nat}{v:Pol.R3}(h:l[i]?=some v):∃u,u∈l/\(y9 l)[i]?=some (u,v)/\atT (l.map xh) ((i:Int)-1)=some (xh u):=by
 obtain⟨u,hu,hc,hw⟩:=E1 h;refine⟨u,hu,hc,?_⟩;rcases hw with ⟨rfl,ys,e⟩|⟨h0,e⟩
 .rw[e,uo];exact rP (ys.map xh) (xh u)
 .rw[show((i:Int)-1)=((i-1:Nat):Int) by lia,fO,vh,e];rfl
def M3 (g:Good Ls l)(hs:∀s∈Ls,yM k s):∀v∈l,yM (2*k+1) v:=λv hv=>by obtain⟨s,hs1,t,ht1,e1,e2,hn⟩:=g.two v hv;have z:=g.bot v hv;obtain⟨b1,b2,b3⟩:=lu (g.prim v hv) z e1 e2 hn;have S:=hs s hs1;have T:=hs t ht1;have m:∀ {x y z w:Int},Bk k x->Bk k y->Bk k z->Bk k w->Bk (2*k+1) (x*y-z*w):=λh1 h2 h3 h4=>((h1.mul h2).sub (h3.mul h4)).mono (by lia);refine⟨⟨(m S.2 T.1.2 T.2 S.1.2).le b2,(m T.2 S.1.1 S.2 T.1.1).le b3⟩,?_⟩;have:=m S.1.1 T.1.2 S.1.2 T.1.1;refine this.le ?_;unfold Pol.turn at b1;lia
def Ll:∀s∈qT,yM 100 s:=λs hs=>by have h:s∈qT:=hs;simp only[qT,xU,zi,zo] at h;unfold yM Bk;rcases h with rfl|rfl|rfl|rfl<;>simp only[yI]<;>decide
def kN.good (h:kN xa)(i:Nat):Good (qT++xa.take i) ((xa.take i).foldl uL box):=qy (xa:=xa.take i) λs hs=>h.dir s (gC hs)
def kN.small (h:kN xa)(i:Nat):∀v∈(xa.take i).foldl uL box,yM 800 v/\0<v.2.2:=λv hv=>by
 have g:=h.good i;refine⟨(M3 g (k:=100) (λs hs=>?_) v hv).mono (by decide),g.bot v hv⟩;rcases yy.mp hs with z|z
 .exact Ll s z
 .exact h.sm s (gC z)
def kN.plen (h:kN xa)(i:Nat):((xa.take i).foldl uL box).length<=100000:=by
 have:=Aa (xa:=xa.take i) λs hs=>h.dir s (gC hs);unfold pieces at this;have l:(xa.take i).length<=xa.length:=by rw[uJ];lia
 have:=h.len;lia
def q_ (h:v∈uw l):v∈l:=by
 unfold uw at h;rcases yy.mp h with h|h
 .exact List.mem_of_mem_drop h
 .exact gC h
def K3 (p:Pol.R3->Bool)(l:List Pol.R3):(uw l).all p=l.all p:=by unfold uw;rw[List.all_append,Bool.and_comm,<-List.all_append,sC]
def bJ (l:List Pol.R3):(uw l).length=l.length:=by unfold uw;rw[zy,qo,uJ];lia
def NP (a b c d:Int):HT.lexLt [a,b] [c,d]=decide (a<c\/a=c/\b<d):=by
 simp only[HT.lexLt];by_cases h:a<c
 .simp[h];lia
 .by_cases h2:a=c
  .subst h2;simp;lia
  .simp[h,h2]
def NO {α:Type}{l:List α}{n:Nat}(e:l.length=n)(h:n<=1000000:=by decide):l.length<sizeLine:=zF (by lia)
def Li (hz:0<z)(h:Bd z):Bd (uO i z):=by
 unfold uO;have g:(0:Int)<(Int.gcd i z:Int):=by have:=mJ i (show z≠0 by lia);lia
 have h1:=Int.ediv_le_self (Int.gcd i z:Int) (show 0<=z by lia);have h2:=B_ (show 0<=z by lia) (show 0<=(Int.gcd i z:Int) by lia);unfold Bd at *
 lia
def cK (h:kG t=some r):t=xh r:=by
 unfold kG at h;split at h
 .cases h;rfl
 .cases h
theorem Ao (xa:List Pol.R3):rowsOf (xa.map xh)=some xa:=by
 induction xa with
 |nil=>rfl
 |cons r xa ih=>show(match kG (xh r),rowsOf (xa.map xh) with|some r,some rs=>some (r::rs)|_,_=>none)=_;rw[ih];rfl
theorem cL:∀ {us:List Tr} {xa:List Pol.R3},rowsOf us=some xa->us=xa.map xh
 |[],xa,h=>by cases h;rfl
 |t::us,xa,h=>by
  unfold rowsOf at h;cases e1:kG t with
  |none=>rw[e1] at h;cases h
  |some r=>
   cases e2:rowsOf us with
   |none=>rw[e1,e2] at h;cases h
   |some rs=>rw[e1,e2] at h;cases h;rw[cK e1,cL e2];rfl
theorem Si (h:us.all jz=true):∃xa:List Pol.R3,us=xa.map xh/\∀r∈xa,(r.1≠0\/r.2.1≠0)/\w5 r:=by
 induction us with
 |nil=>exact⟨[],rfl,λr hr=>by simp at hr⟩
 |cons t us ih=>
  rw[List.all_cons,k_] at h;obtain⟨xa,e,hr⟩:=ih h.2;have ht:=h.1;unfold jz at ht;cases e1:kG t with
  |none=>rw[e1] at ht;cases ht
  |some r=>
   rw[e1] at ht;have ht:=yV ht;refine⟨r::xa,by rw[cK e1,e];rfl,λx hx=>?_⟩;rcases xU.mp hx with z|z
   .rw[z];exact ht
   .exact hr x z
def FV (h:w5 r):yM 100 r:=by obtain⟨⟨⟨a,b⟩,c,d⟩,e,f⟩:=h;refine⟨⟨?_,?_⟩,?_⟩<;>unfold Bk<;>lia
def K4 (xa:List Pol.R3):(xa.map xh).all jz=xa.all λr=>decide ((r.1≠0\/r.2.1≠0)/\w5 r):=by rw[p7];rfl
theorem Ni (h:us.all jz=false):isField (.tup us)=false:=by
 show(match rowsOf us with|some xa=>yD xa|none=>false)=false;cases e:rowsOf us with
 |none=>rfl
 |some xa=>rw[cL e,K4] at h;show yD xa=false;unfold yD;rw[h];simp
end L2
namespace Fra
def gd (a b:Int):Int:=(Int.gcd a b:Int)
def low (n d:Int):Int×Int:=(n/gd n d,d/gd n d)
def Ga (a b:Int):0<=gd a b:=Cg _
def qc (h:a≠0\/b≠0):0<gd a b:=by
 unfold gd;have:0<Int.gcd a b:=by
  rcases h with h|h
  .exact Int.gcd_pos_of_ne_zero_left _ h
  .exact mJ _ h
 lia
def tJ (a b:Int):gd a b∣a:=gg ..
def tK (a b:Int):gd a b∣b:=dZ ..
def M0 (a:Int):gd a 0=if a<0 then -a else a:=by unfold gd;rw[Int.gcd_zero_right];split<;>lia
def MW (h:∀k:Int,(k∣a/\k∣b)↔(k∣c/\k∣d)):gd a b=gd c d:=by have e1:gd a b∣gd c d:=jG ((h _).mp ⟨tJ a b,tK a b⟩).1 ((h _).mp ⟨tJ a b,tK a b⟩).2;have e2:gd c d∣gd a b:=jG ((h _).mpr ⟨tJ c d,tK c d⟩).1 ((h _).mpr ⟨tJ c d,tK c d⟩).2;exact Ke (Ga _ _) (Ga _ _) e1 e2
def MZ (a b q:Int):gd b (a-b*q)=gd a b:=by
 refine MW λk=>⟨λ⟨h1,h2⟩=>⟨?_,h1⟩,λ⟨h1,h2⟩=>⟨h2,?_⟩⟩
 .have:=Int.dvd_add h2 (Int.dvd_mul_of_dvd_left (c:=q) h1);rwa [Int.sub_add_cancel] at this
 .exact Int.dvd_sub h1 (Int.dvd_mul_of_dvd_left h2)
def MX (a b:Int):gd b (a.fmod b)=gd a b:=by rw[Int.fmod_def];exact MZ a b _
def MK {a b:Int}(h:b≠0):(a.fmod b).natAbs<b.natAbs:=by
 by_cases hb:0<b
 .have h1:=Kj a hb;have h2:=Ki a hb;lia
 .have hn:0 < -b:=by lia
  have e:a.fmod b = - ((-a).fmod (-b)):=by rw[Int.neg_fmod_neg];lia
  have h1:=Kj (-a) hn;have h2:=Ki (-a) hn;lia
def GY (n d:Int):(low n d).1*gd n d=n:=Kh (tJ n d)
def ia (n d:Int):(low n d).2*gd n d=d:=Kh (tK n d)
def dj (n d:Int):(low n d).1*d=n*(low n d).2:=by have h1:=GY n d;have h2:=ia n d;grind
def qz (h:0<d):0<(low n d).2:=by
 have h2:=ia n d;have g:=qc (a:=n) (b:=d) (.inr (by lia));generalize gd n d=k at *
 generalize (low n d).2=m at *
 by_cases hm:0<m
 .exact hm
 .have:m*k<=0:=UG (by lia) (by lia);lia
def bK (h:0<d):Int.gcd (low n d).1 (low n d).2=1:=by
 have g:=qc (a:=n) (b:=d) (.inr (by lia));unfold low gd at *
 exact Int.gcd_ediv_gcd_ediv_gcd (by lia)
def Fi (h:b∣a*d)(g:Int.gcd b a=1):b∣d:=by
 have h':b.natAbs∣a.natAbs*d.natAbs:=by rw[<-uU];exact Int.natAbs_dvd_natAbs.mpr h
 exact Int.natAbs_dvd_natAbs.mp (Nat.Coprime.dvd_of_dvd_mul_left (show Nat.Coprime b.natAbs a.natAbs from g) h')
def EN (h1:Int.gcd a b=1)(h2:Int.gcd c d=1)(hb:0<b)(hd:0<d)(e:a*d=c*b):a=c/\b=d:=by
 have k1:b∣d:=by
  have:b∣a*d:=⟨c,by rw[e,vQ]⟩
  exact Fi this (by rw[Int.gcd_comm];exact h1)
 have k2:d∣b:=by
  have:d∣c*b:=⟨a,by rw[<-e,vQ]⟩
  exact Fi this (by rw[Int.gcd_comm];exact h2)
 have ebd:b=d:=Ke (by lia) (by lia) k1 k2;subst ebd;exact⟨gf (by lia) e,rfl⟩
def tS (h:0<d)(h':0<d')(e:n*d'=n'*d):low n d=low n' d':=by
 have c1:=bK (n:=n) h;have c2:=bK (n:=n') h';have p1:=qz (n:=n) h;have p2:=qz (n:=n') h';have x1:=dj n d;have x2:=dj n' d';have key:(low n d).1*(low n' d').2=(low n' d').1*(low n d).2:=by
  generalize (low n d).1=a at *
  generalize (low n d).2=b at *
  generalize (low n' d').1=c at *
  generalize (low n' d').2=f at *
  have:(a*f)*(d*d')=(c*b)*(d*d'):=by grind
  exact gf (by have:=gz h h';lia) this
 obtain⟨u,v⟩:=EN c1 c2 p1 p2 key;exact zL u v
def Uh (hx:0<x1)(hy:0<y1) :
  low ((low (a*x0) x1).1*(low (b*y0) y1).2+(low (b*y0) y1).1*(low (a*x0) x1).2) ((low (a*x0) x1).2*(low (b*y0) y1).2)=low (a*x0*y1+b*y0*x1) (x1*y1):=by
 have p1:=qz (n:=a*x0) hx;have p2:=qz (n:=b*y0) hy;have e1:=dj (a*x0) x1;have e2:=dj (b*y0) y1;refine tS (gz p1 p2) (gz hx hy) ?_;generalize (low (a*x0) x1).1=p at *
 generalize (low (a*x0) x1).2=q at *
 generalize (low (b*y0) y1).1=r at *
 generalize (low (b*y0) y1).2=t at *
 grind
def l_ (n:Int):low n 1=(n,1):=by
 have g:gd n 1=1:=by unfold gd;simp
 unfold low;rw[g];simp
end Fra
namespace L2
open PySem PySem.Spec PyProof.Rows
abbrev F2:=Int×Int
abbrev P2:=F2×F2
def fT (f:F2):Tr:=frT f.1 f.2
def pT (p:P2):Tr:=.tup [fT p.1,fT p.2]
def lfr (t b:Int):F2:=if b<0 then Fra.low (-t) (-b) else Fra.low t b
def q9 (h:0<b):lfr t b=Fra.low t b:=by unfold lfr;rw[xH (by lia)]
def GS (h:b<0):lfr t b=Fra.low (-t) (-b):=by unfold lfr;rw[xK h]
def xn (v:Pol.R3):P2:=(Fra.low v.1 v.2.2,Fra.low v.2.1 v.2.2)
def fh (v:Pol.R3):xG v=pT (xn v):=rfl
def zm (r:Pol.R3)(p:P2):F2:=lfr (r.1*p.1.1*p.2.2+r.2.1*p.2.1*p.1.2) (p.1.2*p.2.2)
def ur (f g:F2):Bool:=decide (f.1*g.2<g.1*f.2)
def fmin (f g:F2):F2:=lfr (f.1*g.2-g.1*f.2) (f.2*g.2)
def ua (f g:F2):F2:=lfr (f.1*g.1) (f.2*g.2)
def vW (f g:F2):F2:=lfr (f.1*g.2+g.1*f.2) (f.2*g.2)
def gQ (p q w:P2):Int:=(fmin (ua (fmin q.1 p.1) (fmin w.2 p.2)) (ua (fmin q.2 p.2) (fmin w.1 p.1))).1
def jw (r:Pol.R3)(p:P2):Bool:=decide ((zm r p).1<=r.2.2*(zm r p).2)
structure Fk (k:Nat)(f:F2):Prop where
 top:Bk k f.1
 bot:Bk k f.2
 pos:0<f.2
theorem Fk.mono (h:Fk k f)(hk:k<=m):Fk m f:=⟨h.top.mono hk,h.bot.mono hk,h.pos⟩
def tR (h:0<b)(ht:Bk k t)(hb:Bk k b):Fk k (Fra.low t b):=by
 have g:=Fra.qc (a:=t) (b:=b) (.inr (by lia));refine⟨ht.le ?_,hb.le ?_,Fra.qz h⟩
 .have e:=Fra.GY t b;generalize (Fra.low t b).1=x at *
  generalize Fra.gd t b=y at *
  rw[<-e,uU];exact Nat.le_mul_of_pos_right _ (by lia)
 .have e:=Fra.ia t b;generalize (Fra.low t b).2=x at *
  generalize Fra.gd t b=y at *
  have:b.natAbs=x.natAbs*y.natAbs:=by rw[<-uU,e]
  rw[this];exact Nat.le_mul_of_pos_right _ (by lia)
def jZ (h:b≠0)(ht:Bk k t)(hb:Bk k b):Fk k (lfr t b):=by
 unfold lfr;split
 .exact tR (by lia) ht.neg hb.neg
 .exact tR (by lia) ht hb
structure Sd (f:F2)(N D:Int):Prop where
 pf:0<f.2
 pd:0<D
 e:f.1*D=N*f.2
def aW (h:0<b):Sd (Fra.low t b) t b:=⟨Fra.qz h,h,Fra.dj t b⟩
def Jl (h:0<f.2):Sd f f.1 f.2:=⟨h,h,rfl⟩
theorem Sd.lfr (hb:0<b)(hD:0<D)(e:t*D=N*b)(hf:f=L2.lfr t b):Sd f N D:=by
 subst hf;rw[q9 hb];refine⟨Fra.qz hb,hD,?_⟩;have h:=Fra.dj t b;generalize (Fra.low t b).1=x at *
 generalize (Fra.low t b).2=y at *
 have:(x*D)*b=(N*y)*b:=by grind
 exact gf (by lia) this
def Sd.minus (h:Sd f N D)(h':Sd g M E):Sd (fmin f g) (N*E-M*D) (D*E):=by refine Sd.lfr (Pol.pp h.pf h'.pf) (Pol.pp h.pd h'.pd) ?_ rfl;have:=h.e;have:=h'.e;grind
def Sd.plus (h:Sd f N D)(h':Sd g M E):Sd (vW f g) (N*E+M*D) (D*E):=by refine Sd.lfr (Pol.pp h.pf h'.pf) (Pol.pp h.pd h'.pd) ?_ rfl;have:=h.e;have:=h'.e;grind
def Sd.times (h:Sd f N D)(h':Sd g M E):Sd (ua f g) (N*M) (D*E):=by refine Sd.lfr (Pol.pp h.pf h'.pf) (Pol.pp h.pd h'.pd) ?_ rfl;have:=h.e;have:=h'.e;grind
def bP {a b k:Int}(hk:0<k):a*k<=b*k↔a<=b:=⟨λh=>ja h hk,λh=>zf h (by lia)⟩
def ik {a b k:Int}(hk:0<k):a*k<b*k↔a<b:=⟨λh=>Kk h (by lia),λh=>Km h hk⟩
def G5 {a b k:Int}(hk:0<k):a*k=b*k↔a=b:=⟨λh=>gf (by lia) h,λh=>by rw[h]⟩
def tT {a k:Int}(hk:0<k):a*k<0↔a<0:=by have:=ik (a:=a) (b:=0) hk;rwa [jb] at this
def Sd.le {f:F2}{N D:Int}(h:Sd f N D)(c:Int):f.1<=c*f.2↔N<=c*D:=by have e:=h.e;rw[<-bP h.pd,e,show c*f.2*D=(c*D)*f.2 by grind,bP h.pf]
def Sd.neg {f:F2}{N D:Int}(h:Sd f N D):f.1<0↔N<0:=by have e:=h.e;rw[<-tT h.pd,e,tT h.pf]
def Sd.lt {f g:F2}{N D M E:Int}(h:Sd f N D)(h':Sd g M E):f.1*g.2<g.1*f.2↔N*E<M*D:=by have e:=h.e;have e':=h'.e;rw[<-ik (Pol.pp h.pd h'.pd),show f.1*g.2*(D*E)=(N*E)*(f.2*g.2) by grind,show g.1*f.2*(D*E)=(M*D)*(f.2*g.2) by grind,ik (Pol.pp h.pf h'.pf)]
def Sd.eq {f g:F2}{N D M E:Int}(h:Sd f N D)(h':Sd g M E):f.1*g.2=g.1*f.2↔N*E=M*D:=by have e:=h.e;have e':=h'.e;rw[<-G5 (Pol.pp h.pd h'.pd),show f.1*g.2*(D*E)=(N*E)*(f.2*g.2) by grind,show g.1*f.2*(D*E)=(M*D)*(f.2*g.2) by grind,G5 (Pol.pp h.pf h'.pf)]
section
variable {p q v w:Pol.R3}
def sdx (h:0<v.2.2):Sd (xn v).1 v.1 v.2.2:=aW h
def sdy (h:0<v.2.2):Sd (xn v).2 v.2.1 v.2.2:=aW h
def bA (r:Pol.R3)(h:0<v.2.2):Sd (zm r (xn v)) (r.1*v.1+r.2.1*v.2.1) v.2.2:=by have a:=sdx h;have b:=sdy h;refine Sd.lfr (Pol.pp a.pf b.pf) h ?_ rfl;have:=a.e;have:=b.e;grind
def lN (r:Pol.R3)(h:0<v.2.2):jw r (xn v)=decide (val r v<=0):=by unfold jw;rw[mZ,(bA r h).le];unfold val;lia
def FG (hp:0<p.2.2)(hq:0<q.2.2)(hw:0<w.2.2):gQ (xn p) (xn q) (xn w)<0↔det p q w<0:=by
 unfold gQ;have s:=(((sdx hq).minus (sdx hp)).times ((sdy hw).minus (sdy hp))).minus (((sdy hq).minus (sdy hp)).times ((sdx hw).minus (sdx hp)));rw[s.neg];have D:0<q.2.2*p.2.2*(w.2.2*p.2.2):=Pol.pp (Pol.pp hq hp) (Pol.pp hw hp);have e:(q.1*p.2.2-p.1*q.2.2)*(w.2.1*p.2.2-p.2.1*w.2.2)*(q.2.2*p.2.2*(w.2.2*p.2.2))-(q.2.1*p.2.2-p.2.1*q.2.2)*(w.1*p.2.2-p.1*w.2.2)*(q.2.2*p.2.2*(w.2.2*p.2.2))
   = det p q w*(p.2.2*(q.2.2*p.2.2*(w.2.2*p.2.2))):=by unfold det;grind
 rw[e,tT (Pol.pp hp D)]
def HR (hp:0<p.2.2)(hq:0<q.2.2)(h:qr p q):xn p=xn q:=by unfold xn;rw[Fra.tS hp hq h.1,Fra.tS hp hq h.2]
def RJ (hp:0<p.2.2)(hq:0<q.2.2)(h:xn p=xn q):qr p q:=by have a:=(sdx hp).eq (sdx hq);have b:=(sdy hp).eq (sdy hq);rw[h] at a b;exact⟨a.mp rfl,b.mp rfl⟩
def aL (hp:0<p.2.2)(hq:0<q.2.2)(gp:yN p=1)(gq:yN q=1)(h:qr p q):p=q:=by
 have key:∀ {p q:Pol.R3},0<p.2.2->0<q.2.2->yN p=1->qr p q->p.2.2∣q.2.2:=λ {p q} hp hq gp h=>by
  have h1:p.2.2∣q.2.2*p.1:=⟨q.1,by have:=h.1;grind⟩
  have h2:p.2.2∣q.2.2*p.2.1:=⟨q.2.1,by have:=h.2;grind⟩
  have h3:p.2.2∣q.2.2*p.2.2:=Kf ..;have g12:p.2.2∣q.2.2*(Int.gcd p.1 p.2.1:Int):=by
   have:=jG h1 h2;rw[Ca] at this;have h4:((q.2.2).natAbs*Int.gcd p.1 p.2.1:Nat)=((q.2.2*(Int.gcd p.1 p.2.1:Int)).natAbs:Nat):=by rw[uU];rfl
   rw[h4] at this;exact pX.mp this
  have g3:=jG g12 h3;rw[Ca] at g3;have hg':Int.gcd (Int.gcd p.1 p.2.1:Int) p.2.2=1:=gp;rw[hg',Nat.mul_one] at g3;exact pX.mp g3
 have ez:p.2.2=q.2.2:=Ke (by lia) (by lia) (key hp hq gp h) (key hq hp gq ⟨h.1.symm,h.2.symm⟩);have h1:=h.1;have h2:=h.2;rw[ez] at h1 h2;exact ext3 (gf (by lia) h1) (gf (by lia) h2) ez
def cE (h:0<v.2.2)(hb:yM k v):Fk k (xn v).1/\Fk k (xn v).2:=⟨tR h hb.1.1 hb.2,tR h hb.1.2 hb.2⟩
end
def aK (p:P2):pln (pT p)=true:=rfl
def a_ (f g:F2):zz (fT f) (fT g)=decide (f=g):=by
 have e:zz (fT f) (fT g)=(decide (f.1=g.1)&&(decide (f.2=g.2)&&true)):=rfl;rw[e];by_cases h1:f.1=g.1
 .by_cases h2:f.2=g.2
  .simp[h1,h2,mW]
  .simp[h1,h2,mW]
 .simp[h1,mW]
def JU (p q:P2):zz (pT p) (pT q)=decide (p=q):=by
 have e:zz (pT p) (pT q)=(zz (fT p.1) (fT q.1)&&(zz (fT p.2) (fT q.2)&&true)):=rfl;rw[e,a_,a_];by_cases h1:p.1=q.1
 .by_cases h2:p.2=q.2
  .simp[h1,h2,mW]
  .simp[h1,h2,mW]
 .simp[h1,mW]
def oU (l:List P2)(c:P2):((l.map pT).any λu=>zz u (pT c))=decide (c∈l):=by
 rw[pS,rq,qp];constructor
 .rintro⟨u,hu,h⟩;obtain⟨x,hx,rfl⟩:=zQ.mp hu;rw[JU,qp] at h;subst h;exact hx
 .intro h;exact⟨pT c,jd h,by rw[JU];simp⟩
def qu {α:Type}{dg:DG}{dc:DT}{de:DE}{τi:xW}{KK:List Tr->Prop}{f:α->Tr}{l:List α}(p:α->Bool)(g:α->Tr)
  (h1:∀a∈l,∀(N:Tr->Prop) (M:Prop),(p a=true->N (g a))->(p a=false->M)->dg (f a) τi λτ2=>dc τ2 λb=>if b=true then de τ2 N else M) (h0:KK ((l.filter p).map g)):jm dg dc de τi KK (l.map f) []:=by
 refine rQ (λys acc=>∃zs us,l=zs++us/\ys=us.map f/\acc=(zs.filter p).map g) (λacc ⟨zs,us,e,ey,e2⟩=>?_) (λx ys acc N ⟨zs,us,e,ey,e2⟩ hN=>?_) _ [] ⟨[],l,rfl,rfl,rfl⟩
 .cases us with
  |nil=>rw[um] at e;subst e e2;exact h0
  |cons u us=>cases ey
 .cases us with
  |nil=>cases ey
  |cons u us=>
   injection ey with ex ey;subst ex ey e2;have hu:u∈l:=by rw[e];simp
   refine h1 u hu (λy=>N ((zs.filter p).map g++[y])) (N ((zs.filter p).map g)) (λhp=>hN _ ⟨zs++[u],us,by rw[e];simp,rfl,?_⟩) (λhp=>hN _ ⟨zs++[u],us,by rw[e];simp,rfl,?_⟩)
   .rw[List.filter_append,mN hp];simp
   .rw[List.filter_append,rA (by rw[hp];exact wR)];simp
def rR {α:Type}{dg:DG}{de:DE}{τi:xW}{KK:List Tr->Prop}{f:α->Tr}{l:List α}(g:α->Tr)(h1:∀a∈l,∀N:Tr->Prop,N (g a)->dg (f a) τi λτ2=>de τ2 N)(h0:KK (l.map g)):jm dg nV de τi KK (l.map f) []:=by
 refine rQ (λys acc=>∃zs us,l=zs++us/\ys=us.map f/\acc=zs.map g) (λacc ⟨zs,us,e,ey,e2⟩=>?_) (λx ys acc N ⟨zs,us,e,ey,e2⟩ hN=>?_) _ [] ⟨[],l,rfl,rfl,rfl⟩
 .cases us with
  |nil=>rw[um] at e;subst e e2;exact h0
  |cons u us=>cases ey
 .cases us with
  |nil=>cases ey
  |cons u us=>injection ey with ex ey;subst ex ey e2;exact h1 u (by rw[e];simp) (λy=>N (zs.map g++[y])) (hN _ ⟨zs++[u],us,by rw[e];simp,rfl,by simp⟩)
def TY (xs:List Tr):zz (.lst xs) (.lst [])=xs.isEmpty:=by cases xs<;>rfl
def tj (h:PyData.canLayAll0 (w4 xs)=true):gF (.lst xs) (.lst []):=⟨h,rfl,wV (Kx _ _) (by decide)⟩
def tD {neg:Bool}{xs:List Tr}{KK:Tr->Prop}(h:PyData.canLayAll0 (w4 xs)=true)(k:KK (.bl (if neg then !xs.isEmpty else xs.isEmpty))):tz neg (.lst xs) (.lst []) KK:=⟨tj h,by rw[TY];exact k⟩
def LG (l:List P2):PyData.canLayAll0 (w4 (l.map pT))=true:=jo pT aK l
theorem filter_empty (p:α->Bool)(l:List α):(l.filter p).isEmpty=l.all λx=>!p x:=by
 induction l with
 |nil=>rfl
 |cons x l ih=>
  by_cases h:p x=true
  .rw[mN h,List.all_cons,h];rfl
  .rw[rA h,ih,List.all_cons];have:p x=false:=by simpa using h
   rw[this];rfl
def QT:ye:=λts KK=>∃t b:Int,ts=[.int t,.int b]/\b≠0/\Bd b/\KK (fT (lfr t b))
def lz (s t:Pol.R3):Tr:=if Pol.turn s t=0 then .non else xG (zN s t)
def QK:ye:=λts KK=>∃s t:Pol.R3,ts=[xh s,xh t]/\yM 900 s/\yM 900 t/\KK (lz s t)
def QQ:ye:=λts KK=>∃(r:Pol.R3) (p:P2),ts=[xh r,pT p]/\yM 200 r/\Fk 600 p.1/\Fk 600 p.2/\KK (.bl (jw r p))
def QS:ye:=λts KK=>∃f g:F2,ts=[fT f,fT g]/\Fk 1000 f/\Fk 1000 g/\KK (.bl (ur f g))
def QU:ye:=λts KK=>∃f g:F2,ts=[fT f,fT g]/\Fk 900 f/\Fk 900 g/\KK (fT (fmin f g))
def QX:ye:=λts KK=>∃f g:F2,ts=[fT f,fT g]/\Fk 900 f/\Fk 900 g/\KK (fT (vW f g))
def Q1:ye:=λts KK=>∃f g:F2,ts=[fT f,fT g]/\Fk 900 f/\Fk 900 g/\KK (fT (ua f g))
def Pk (k:Nat)(p:P2):Prop:=Fk k p.1/\Fk k p.2
def QJ:ye:=λts KK=>∃p q w:P2,ts=[pT p,pT q,pT w]/\Pk 200 p/\Pk 200 q/\Pk 200 w/\KK (.int (gQ p q w))
structure ji (n:Nat)(l:List Pol.R3):Prop where
 ccw:Ccw l
 pos:∀v∈l,0<v.2.2
 prim:∀v∈l,yN v=1
 sm:∀v∈l,yM 190 v
 least:fJ l
 len:l.length<=n
abbrev KW:=ji 900
structure zd (xa:List Pol.R3):Prop where
 fine:qR xa xa
 len:xa.length<=8
def xS (xa:List Pol.R3):List Pol.R3:=uw (pieces xa)
def QI:ye:=λts KK=>∃xa:List Pol.R3,ts=[.tup (xa.map xh)]/\zd xa/\KK (.lst ((xS xa).map xG))
def l6 (h:b≠0):0<(lfr t b).2:=by
 unfold lfr;split
 .exact Fra.qz (by lia)
 .exact Fra.qz (by lia)
def Fk.min (h:Fk k f)(h':Fk k g):Fk (2*k+1) (fmin f g):=by
 unfold fmin;refine jZ (by have:=Pol.pp h.pos h'.pos;lia) ?_ ?_
 .exact((h.top.mul h'.bot).sub (h'.top.mul h.bot)).mono (by lia)
 .exact(h.bot.mul h'.bot).mono (by lia)
def Fk.tim (h:Fk k f)(h':Fk k g):Fk (2*k) (ua f g):=by
 unfold ua;refine jZ (by have:=Pol.pp h.pos h'.pos;lia) ?_ ?_
 .exact(h.top.mul h'.top).mono (by lia)
 .exact(h.bot.mul h'.bot).mono (by lia)
def Eb (p q:Pol.R3):ahead p q=true↔Ah p q:=by unfold ahead Ah;exact m5
theorem lZ (l:List Pol.R3)(hl:l≠[]):∀n,n<=l.length->(List.range n).foldl (ux l) 0<l.length
 |0,_=>by simp;exact Ku.mpr hl
 |n+1,h=>by rw[List.range_succ,se];have ih:=lZ l hl n (by lia);generalize (List.range n).foldl (ux l) 0=m at ih ⊢;show ux l m n<_;unfold ux;split<;>lia
theorem GL (l:List Pol.R3)(hp:∀v∈l,0<v.2.2)(hl:l≠[]):∀n,n<=l.length->∀j,j<n->¬Ah (l.getD j (0,0,0)) (l.getD ((List.range n).foldl (ux l) 0) (0,0,0))
 |0,_=>λj hj=>by lia
 |n+1,h=>λj hj=>by
  rw[List.range_succ,se];have ih:=GL l hp hl n (by lia);have s:=lZ l hl n (by lia);have g:∀i,i<l.length->0<(l.getD i (0,0,0)).2.2:=λi hi=>by rw[jK,yA hi];exact hp _ (og hi)
  generalize (List.range n).foldl (ux l) 0=m at ih s ⊢;show ¬Ah _ (l.getD (ux l m n) (0,0,0));by_cases c:ahead (l.getD n (0,0,0)) (l.getD m (0,0,0))=true
  .have e:ux l m n=n:=by unfold ux;rw[xK c]
   rw[e];have c:=(Eb _ _).mp c;by_cases hjn:j=n
   .rw[hjn];exact Ah.irrefl _
   .intro z;exact ih j (by lia) (z.trans (g j (by lia)) (g n (by lia)) (g m s) c)
  .have e:ux l m n=m:=by unfold ux;rw[xH c]
   rw[e];by_cases hjn:j=n
   .rw[hjn];exact λz=>c ((Eb _ _).mpr z)
   .exact ih j (by lia)
def s_ (hp:∀v∈l,0<v.2.2):fJ (uw l):=by
 intro h t e v hv;have hl:l≠[]:=λz=>by rw[z] at e;unfold uw at e;simp at e
 have s:=lZ l hl l.length (yg _);have ok:=GL l hp hl l.length (yg _);have hh:h=l.getD (kS l) (0,0,0):=by unfold uw at e;rw[rz (show kS l<l.length from s),gA] at e;injection e with e1 e2;rw[<-e1,jK,yA (show kS l<l.length from s)];rfl
 have hv:=q_ hv;obtain⟨j,hj,rfl⟩:=fw.mp hv;have:=ok j hj;rw[hh];rw[jK,yA hj] at this;exact this
def dm:v∈uw l↔v∈l:=by unfold uw;rw[yy,Or.comm,<-yy,sC]
def sZ (h:Ccw l):Ccw (uw l):=by unfold uw;apply Ccw.rot;rw[sC];exact h
def zd.rows {xa:List Pol.R3}(h:zd xa):kN xa:=⟨h.fine.dir,λr hr=>FV (h.fine.fr r hr),by have:=h.len;lia⟩
def jT (h:w5 r):yM 10 r:=by obtain⟨⟨⟨a,b⟩,c,d⟩,e,f⟩:=h;refine⟨⟨?_,?_⟩,?_⟩<;>unfold Bk<;>lia
theorem zd.corner {xa:List Pol.R3}(h:zd xa){v:Pol.R3}(hv:v∈xS xa):(0<v.2.2/\yN v=1/\IsC xa v)/\yM 21 v:=by have hv:v∈pieces xa:=q_ hv;have c:=h.fine.corner hv;refine⟨c,?_⟩;obtain⟨hz,g,⟨_,s,hs,t,ht,e1,e2,hn⟩⟩:=c;obtain⟨b1,b2,b3⟩:=lu g hz e1 e2 hn;have S:=jT (h.fine.fr s hs);have T:=jT (h.fine.fr t ht);have m:∀ {x y z w:Int},Bk 10 x->Bk 10 y->Bk 10 z->Bk 10 w->Bk 21 (x*y-z*w):=λh1 h2 h3 h4=>(h1.mul h2).sub (h3.mul h4);refine⟨⟨(m S.2 T.1.2 T.2 S.1.2).le b2,(m T.2 S.1.1 S.2 T.1.1).le b3⟩,?_⟩;refine(m S.1.1 T.1.2 S.1.2 T.1.1).le ?_;unfold Pol.turn at b1;lia
def zd.ring {xa:List Pol.R3}(h:zd xa):KW (xS xa) where
 ccw:=sZ (qy h.fine.dir).ccw
 pos:=λv hv=>(h.corner hv).1.1
 prim:=λv hv=>(h.corner hv).1.2.1
 sm:=λv hv=>(h.corner hv).2.mono (by decide)
 least:=s_ (qy h.fine.dir).bot
 len:=by unfold xS;rw[bJ];have:=Aa h.fine.dir;have:=h.len;lia
def zd.crossing {xa:List Pol.R3}(h:zd xa){s t:Pol.R3}(hs:s∈xa)(ht:t∈xa)(hn:Pol.turn s t≠0)(hk:∀r∈xa,val r (zN s t)<=0):∃v∈xS xa,xG (zN s t)=xG v:=by obtain⟨z,e1,e2⟩:=gO hn;obtain⟨v,hv,sm⟩:=h.fine.found z ⟨hk,s,hs,t,ht,e1,e2,hn⟩;refine⟨v,dm.mpr hv,?_⟩;rw[fh,fh,HR z (h.fine.corner hv).1 ⟨sm.1.symm,sm.2.symm⟩]
def zd.tightPt {xa:List Pol.R3}(h:zd xa){s t v:Pol.R3}(hv:v∈xS xa)(hn:Pol.turn s t≠0)(h1:val s v=0)(h2:val t v=0):xG (zN s t)=xG v/\∀r∈xa,val r (zN s t)<=0:=by
 obtain⟨⟨hz,_,hc⟩,_⟩:=h.corner hv;obtain⟨z,e1,e2⟩:=gO hn;have sm:=LX hn h1 h2;refine⟨by rw[fh,fh,HR z hz sm],λr hr=>?_⟩;have k:=hc.kept r hr;have e:val r (zN s t)*v.2.2=val r v*(zN s t).2.2:=by have a:=sm.1;have b:=sm.2;unfold val;grind
 have:val r (zN s t)*v.2.2<=0:=by rw[e];exact np k (by lia)
 rcases y_ 0 (val r (zN s t)) with q|q
 .have:=Pol.pp q hz;lia
 .exact q
def BY (hp:0<p.2.2)(hq:0<q.2.2)(gp:yN p=1)(gq:yN q=1)(h:xn p=xn q):p=q:=aL hp hq gp gq (RJ hp hq h)
def LW (h:Pol.turn s t≠0):xG (zN s t)=pT (lfr (s.2.2*t.2.1-s.2.1*t.2.2) (Pol.turn s t),lfr (s.1*t.2.2-s.2.2*t.1) (Pol.turn s t)):=by rw[fh];congr 1;unfold zN lfr xn;split<;>rfl
def EU (h:Pol.turn s t=0):lz s t=.non:=xK h
def EV (h:Pol.turn s t≠0):lz s t=xG (zN s t):=xH h
def MP (hx:Fk 600 p.1)(hy:Fk 600 p.2)(hr:yM 200 r):Bd (zm r p).2:=by
 unfold zm;have:=jZ (k:=1500) (t:=r.1*p.1.1*p.2.2+r.2.1*p.2.1*p.1.2) (b:=p.1.2*p.2.2) (by have:=Pol.pp hx.pos hy.pos;lia)
  (((hr.1.1.mul hx.top |>.mul hy.bot).add (hr.1.2.mul hy.top |>.mul hx.bot)).mono (by decide)) ((hx.bot.mul hy.bot).mono (by decide))
 exact this.bot.bd
structure fK (ss done:List Pol.R3):Prop where
 nd:ss.Nodup
 mem:∀v,v∈ss↔v∈done
 least:fJ ss
def wX (ss:List Pol.R3)(p:Pol.R3):Nat:=(ss.filter λv=>ur (xn v).1 (xn p).1).length+(ss.filter λv=>decide ((xn v).1=(xn p).1)&&ur (xn v).2 (xn p).2).length
def GO (hp:0<p.2.2)(hq:0<q.2.2):ur (xn p).1 (xn q).1=true↔p.1*q.2.2<q.1*p.2.2:=by unfold ur;rw[m5];exact(sdx hp).lt (sdx hq)
def GP (hp:0<p.2.2)(hq:0<q.2.2):ur (xn p).2 (xn q).2=true↔p.2.1*q.2.2<q.2.1*p.2.2:=by unfold ur;rw[m5];exact(sdy hp).lt (sdy hq)
def Fn (hp:0<p.2.2)(hq:0<q.2.2):(xn p).1=(xn q).1↔p.1*q.2.2=q.1*p.2.2:=⟨λe=>((sdx hp).eq (sdx hq)).mp (by rw[e]),λe=>Fra.tS hp hq e⟩
def K1 (hs:∀v∈ss,0<v.2.2)(hp:0<p.2.2)(h:wX ss p=0):∀v∈ss,¬Ah v p:=λv hv a=>by
 unfold wX at h;have h1:(ss.filter λv=>ur (xn v).1 (xn p).1)=[]:=mR.mp (by lia);have h2:(ss.filter λv=>decide ((xn v).1=(xn p).1)&&ur (xn v).2 (xn p).2)=[]:=mR.mp (by lia);rw[p9] at h1 h2;rcases a with a|⟨a,b⟩
 .exact h1 v hv ((GO (hs v hv) hp).mpr a)
 .exact h2 v hv (by rw[wI ((Fn (hs v hv) hp).mpr a),(GP (hs v hv) hp).mpr b];rfl)
def K0 (hs:∀v∈ss,0<v.2.2)(hp:0<p.2.2)(h:wX ss p≠0):∃v∈ss,Ah v p:=by
 unfold wX at h;by_cases h1:(ss.filter λv=>ur (xn v).1 (xn p).1)=[]
 .by_cases h2:(ss.filter λv=>decide ((xn v).1=(xn p).1)&&ur (xn v).2 (xn p).2)=[]
  .rw[h1,h2] at h;exact absurd rfl h
  .obtain⟨v,hv⟩:=List.exists_mem_of_ne_nil _ h2;obtain⟨m,c⟩:=uV.mp hv;rw[k_,qp] at c;exact⟨v,m,.inr ⟨(Fn (hs v m) hp).mp c.1,(GP (hs v m) hp).mp c.2⟩⟩
 .obtain⟨v,hv⟩:=List.exists_mem_of_ne_nil _ h1;obtain⟨m,c⟩:=uV.mp hv;exact⟨v,m,.inl ((GO (hs v m) hp).mp c)⟩
theorem FL {α:Type}{P Q:α->Bool}(h:∀x,P x=true->Q x=true->False):∀l:List α,(l.filter P).length+(l.filter Q).length<=l.length
 |[]=>yg _
 |x::l=>by
  have ih:=FL h l;by_cases h1:P x=true
  .rw[mN h1,rA (h x h1),wU,wU];lia
  .rw[rA h1];by_cases h2:Q x=true
   .rw[mN h2,wU,wU];lia
   .rw[rA h2,wU];lia
def Ec {ss:List Pol.R3}{p:Pol.R3}:wX ss p<=ss.length:=by unfold wX;refine FL (λv h1 z=>?_) ss;rw[k_,qp] at z;unfold ur at h1;rw[z.1,qp] at h1;lia
def fK.ins {ss done:List Pol.R3}{p:Pol.R3}(h:fK ss done)(hs:∀v∈ss,0<v.2.2)(hp:0<p.2.2)(hn:p∉ss) :
  fK (ss.take (wX ss p)++[p]++ss.drop (wX ss p)) (done++[p]):=by
 have perm:(ss.take (wX ss p)++[p]++ss.drop (wX ss p)).Perm (p::ss):=by
  have e:p::ss=p::(ss.take (wX ss p)++ss.drop (wX ss p)):=by rw[sC]
  rw[e,v5];exact List.perm_middle
 have memp:∀v,v∈ss.take (wX ss p)++[p]++ss.drop (wX ss p)↔v=p\/v∈ss:=λv=>by rw[perm.mem_iff,xU]
 refine⟨perm.nodup_iff.mpr (rD.mpr ⟨hn,h.nd⟩),λv=>?_,λx t e v hv=>?_⟩
 .rw[memp,yy,zR,h.mem,Or.comm]
 .by_cases h0:wX ss p=0
  .have z:=K1 hs hp h0;rw[h0,om,qM,gA] at e;injection e with e1 e2;rw[<-e1];rcases(memp v).mp hv with q|q
   .rw[q];exact Ah.irrefl p
   .exact z v q
  .obtain⟨w,hw,aw⟩:=K0 hs hp h0;cases ss with
   |nil=>simp at hw
   |cons y ys=>
    obtain⟨m,hm⟩:∃m,wX (y::ys) p=m+1:=⟨wX (y::ys) p-1,by lia⟩
    rw[hm,List.take_succ_cons,gA,gA] at e;injection e with e1 e2;rw[<-e1];have ly:=h.least y ys rfl;rcases(memp v).mp hv with q|q
    .rw[q];intro z;exact ly w hw (aw.trans (hs w hw) hp (hs y xT) z)
    .exact ly v q
def fK.stay (h:fK ss done)(hp:p∈ss):fK ss (done++[p]):=⟨h.nd,λv=>by rw[yy,zR,<-h.mem];exact⟨.inl,λz=>z.elim id λe=>e▸hp⟩,h.least⟩
theorem Gi (hr:ji m l)(hm:∀v,v∈ss↔v∈l)(hl:fJ ss):ss.head?=l.head?:=by
 cases ss with
 |nil=>
  cases l with
  |nil=>rfl
  |cons a t=>exact absurd ((hm a).mpr xT) (by simp)
 |cons b u=>
  cases l with
  |nil=>exact absurd ((hm b).mp xT) (by simp)
  |cons a t=>have hb:=(hm b).mp xT;have ha:=(hm a).mpr xT;have h1:=hr.least a t rfl b hb;have h2:=hl b u rfl a ha;have:=aL (hr.pos b hb) (hr.pos a xT) (hr.prim b hb) (hr.prim a xT) (Ah.total h1 h2);rw[this];rfl
def Sb (hr:ji m l)(nd:ss.Nodup)(hm:∀v,v∈ss↔v∈l)(hl:fJ ss)(h3:ss.length<3):ss=l:=by
 have hh:=Gi hr hm hl;have len:=l5 nd hr.ccw.nd hm;rcases ss with _|⟨a,_|⟨b,_|⟨e,t⟩⟩⟩
 .rcases l with _|⟨c,u⟩
  .rfl
  .cases len
 .rcases l with _|⟨c,_|⟨d,u⟩⟩
  .cases len
  .simpa using hh
  .cases len
 .rcases l with _|⟨c,_|⟨d,_|⟨g,u⟩⟩⟩
  .cases len
  .cases len
  .have e:a=c:=by simpa using hh
   subst e;have hb:=(hm b).mp (by simp);have:b≠a:=λz=>by subst z;simp at nd
   simp[this] at hb;rw[hb]
  .cases len
 .exact absurd h3 (by simp)
def Sa {m:Nat}{l ss:List Pol.R3}(hr:ji m l)(nd:ss.Nodup)(hm:∀v,v∈ss↔v∈l){k:Nat}{a b:Pol.R3}(ha:l[k]?=some a)(hb:l[k+1]?=some b) :
  ss.filter (λv=>!decide (xn v∈(l.take (k+1)).map xn)&&(ss.map xn).all λw=>!decide (gQ (xn a) (xn v) w<0))=[b]:=by
 have ham:=zG ha;have hbm:=zG hb;have hk:=(zc.mp hb).1;obtain⟨c1,c2⟩:=o8 hr.ccw ha hb;have inj:∀ {x y},x∈l->y∈l->xn x=xn y->x=y:=λhx hy e=>BY (hr.pos _ hx) (hr.pos _ hy) (hr.prim _ hx) (hr.prim _ hy) e;have ix:∀ {i j:Nat} {x:Pol.R3},l[i]?=some x->l[j]?=some x->i=j:=λ {i j x} h1 h2=>by have hi:=(zc.mp h1).1;exact(List.getElem?_inj hi hr.ccw.nd).mp (h1.trans h2.symm)
 have tk:∀ {j:Nat} {x:Pol.R3},l[j]?=some x->(xn x∈(l.take (k+1)).map xn↔j<k+1):=λ {j x} hj=>by
  have hxm:=zG hj;constructor
  .intro z;obtain⟨y,hy,e⟩:=zQ.mp z;have:=inj (gC hy) hxm e;subst this;obtain⟨i,hi,e⟩:=fw.mp hy;rw[List.getElem_take] at e;have hi':i<k+1:=by rw[uJ] at hi;lia
   have:l[i]?=some y:=by rw[yA (by rw[uJ] at hi;lia),e]
   have:=ix this hj;lia
  .intro z;refine jd ?_;have:(l.take (k+1))[j]?=some x:=by rw[List.getElem?_take_of_lt z,hj]
   exact zG this
 refine FK nd ((hm b).mpr hbm) λx hx=>?_;have hxl:=(hm x).mp hx;obtain⟨j,hj,ej⟩:=fw.mp hxl;have hj':l[j]?=some x:=by rw[yA hj,ej]
 rw[k_,Bool.not_eq_true',decide_eq_false_iff_not,tk hj',p7,jJ];constructor
 .rintro⟨h1,h2⟩;by_cases e:j=k+1
  .subst e;rw[hj'] at hb;exact vH hb
  .exfalso;have:=c2 j x (by lia) hj';have:=h2 b ((hm b).mpr hbm);simp at this;have:=FG (hr.pos a ham) (hr.pos x hxl) (hr.pos b hbm);lia
 .rintro rfl;refine⟨?_,λw hw=>?_⟩
  .have:=ix hj' hb;lia
  .have hwl:=(hm w).mp hw;have:=c1 w hwl;have:=FG (hr.pos a ham) (hr.pos x hbm) (hr.pos w hwl);simp;lia
def FA (h:fT f=fT g):f=g:=by have e:=a_ f g;unfold fT frT at h;injection h with h;injection h with h1 h;injection h with h2 h;injection h1 with h1;injection h2 with h2;exact zL h1 h2
def Rl (h:pT p=pT q):p=q:=by unfold pT at h;injection h with h;injection h with h1 h;injection h with h2 h;exact zL (FA h1) (FA h2)
def pO (l:List Pol.R3):l.map xG=(l.map xn).map pT:=by rw[vy];rfl
def Ed {l:List Pol.R3}(hp:∀v∈l,0<v.2.2)(hg:∀v∈l,yN v=1){ss:List Pol.R3}(hs:∀v∈ss,v∈l){p:Pol.R3}(h:p∈l):((ss.map xG).any λu=>zz u (xG p))=decide (p∈ss):=by
 rw[pO,fh,oU,mZ];constructor
 .intro z;obtain⟨y,hy,e⟩:=zQ.mp z;rw[<-BY (hp y (hs y hy)) (hp p h) (hg y (hs y hy)) (hg p h) e];exact hy
 .intro z;exact jd z
def o7 (l:List Pol.R3):PyData.canLayAll0 (w4 (l.map xG))=true:=jo xG (λv=>aK (xn v)) l
def yO (P:xW->Prop)(hB:∀ τ',P τ'->B G τ')(hA:∀N:xW->Prop,(∀ τ',P τ'->N τ')->A {G with nx:=N} τ):dP A B G τ:=hA (B G) hB
def qF (all:List Tr)(W:Nat->xW->Prop)(hd:∀KK:List Tr->Prop,KK all->di τ KK)(w0:W 0 τ)
  (h1:∀i x τ (N:xW->Prop),all[i]?=some x->W i τ->(∀ τ',W (i+1) τ'->N τ')->dg x τ λτ'=>body {G with nx:=N,ct:=N,bk:=G.nx} τ')
  (h0:∀ τ,W all.length τ->G.nx τ):cM di dg body G τ:=hd _ (u5 W w0 h1 h0)
abbrev TV9:=TV×TV×TV×TV×TV×TV×TV×TV×TV
def Js (f:α->β)(l:List α)(x:α):(l++[x]).map f=l.map f++[f x]:=by rw[uo];rfl
def kO (h:-1000000<=i/\i<=1000000):Bd i:=fP (by lia) (by lia)
def qX (h:-1000000<=i/\i<=1000000)(h':-1000000<=j/\j<=1000000):CM i j:=⟨kO h,kO h'⟩
def tk {m:Int}(h:0<m/\m<1000000):0<m/\m<2^128:=⟨h.1,by lia⟩
structure LF0 (xa:List Pol.R3):Prop where
 l3:3<=xa.length
 l8:xa.length<=8
 sm:∀r∈xa,((-14<=r.1/\r.1<=14)/\(-14<=r.2.1/\r.2.1<=14))/\(-100<=r.2.2/\r.2.2<=100)
 dir:∀r∈xa,r.1≠0\/r.2.1≠0
 gr:GR xa
 near:∀p:Pol.R3,0<p.2.2->(∀r∈xa,val r p<=0)->(-(9*p.2.2)<=p.1/\p.1<=9*p.2.2)/\(-(9*p.2.2)<=p.2.1/\p.2.1<=9*p.2.2)
structure LF (xa:List Pol.R3):Prop where
 l3:3<=xa.length
 l8:xa.length<=8
 sm:∀r∈xa,((-14<=r.1/\r.1<=14)/\(-14<=r.2.1/\r.2.1<=14))/\(-200<=r.2.2/\r.2.2<=200)
 dir:∀r∈xa,r.1≠0\/r.2.1≠0
 gr:GR xa
 near:∀p:Pol.R3,0<p.2.2->(∀r∈xa,val r p<=0)->(-(12*p.2.2)<=p.1/\p.1<=12*p.2.2)/\(-(12*p.2.2)<=p.2.1/\p.2.1<=12*p.2.2)
def QN:ye:=λts KK=>ts=[]/\∀xa,LF xa->KK (.tup (xa.map xh))
def j1 (u v:Int)(r:Pol.R3):Pol.R3:=(r.1,r.2.1,r.2.2+r.1*u+r.2.1*v)
def aq (h1:-m<=a)(h2:a<=m)(h3:-n<=b)(h4:b<=n)(hm:0<=m)(hn:0<=n):-(m*n)<=a*b/\a*b<=m*n:=by
 have key:(a*b).natAbs<=(m*n).natAbs:=by rw[uU,uU];exact oq (by lia) (by lia)
 have:=Pol.pz hm hn;lia
def LF0.moved (h:LF0 xa)(hu:-3<=u/\u<=3)(hv:-3<=v/\v<=3):LF (xa.map (j1 u v)) where
 l3:=by rw[xO];exact h.l3
 l8:=by rw[xO];exact h.l8
 sm:=λr hr=>by obtain⟨s,hs,rfl⟩:=zQ.mp hr;obtain⟨⟨⟨a1,a2⟩,b1,b2⟩,c1,c2⟩:=h.sm s hs;have x:=aq a1 a2 hu.1 hu.2 (by decide) (by decide);have y:=aq b1 b2 hv.1 hv.2 (by decide) (by decide);simp only[j1];lia
 dir:=λr hr=>by obtain⟨s,hs,rfl⟩:=zQ.mp hr;exact h.dir s hs
 gr:=λx y hn=>by obtain⟨r,hr,p⟩:=h.gr x y hn;exact⟨j1 u v r,jd hr,p⟩
 near:=λp hz hk=>by
  have:=h.near (p.1-u*p.2.2,p.2.1-v*p.2.2,p.2.2) hz λr hr=>by
   have:=hk _ (jd hr);have e:val r (p.1-u*p.2.2,p.2.1-v*p.2.2,p.2.2)=val (j1 u v r) p:=by simp only[val,j1];grind
   rw[e];exact this
  simp only at this;have x:=zf hu.1 (show 0<=p.2.2 by lia);have x':=zf hu.2 (show 0<=p.2.2 by lia);have y:=zf hv.1 (show 0<=p.2.2 by lia);have y':=zf hv.2 (show 0<=p.2.2 by lia);lia
def LF.rot (h:LF xa)(n:Nat):LF (xa.drop n++xa.take n):=by
 have mem:∀r,r∈xa.drop n++xa.take n↔r∈xa:=λr=>by rw[yy,Or.comm,<-yy,sC]
 have len:(xa.drop n++xa.take n).length=xa.length:=by rw[zy,qo,uJ];lia
 exact⟨by rw[len];exact h.l3,by rw[len];exact h.l8,λr hr=>h.sm r ((mem r).mp hr),λr hr=>h.dir r ((mem r).mp hr),
  λu v hn=>let ⟨r,hr,p⟩:=h.gr u v hn;⟨r,(mem r).mpr hr,p⟩,λp hz hk=>h.near p hz λr hr=>hk r ((mem r).mpr hr)⟩
def LF.frow (h:LF xa):∀r∈xa,w5 r:=λr hr=>by have:=h.sm r hr;unfold w5;lia
def LF.fine (h:LF xa):zd xa:=⟨⟨λ {p} hz hp s hs=>by have:=h.near p hz hp;simp only[qT,xU,zi,zo] at hs;rcases hs with rfl|rfl|rfl|rfl<;>simp only[val,yI]<;>lia,h.frow,λ_ h=>h,h.dir⟩,h.l8⟩
def G6 (hd:0<d):nearF (vC n d) (uO n d)=true↔-(12*d)<=n/\n<=12*d:=by
 have s:=aW (t:=n) (b:=d) hd;unfold nearF;rw[m5];have h1:=s.le 12;have h2:-(12*uO n d)<=vC n d↔-(12*d)<=n:=by have e:=s.e;have p:=s.pf;show -(12*(Fra.low n d).2)<=(Fra.low n d).1↔_;rw[<-bP hd,e,show -(12*(Fra.low n d).2)*d=(-(12*d))*(Fra.low n d).2 by grind,bP p]
 have h3:vC n d<=12*uO n d↔n<=12*d:=h1;rw[h2,h3]
def G7 (hz:0<v.2.2):j2 v=true↔(-(12*v.2.2)<=v.1/\v.1<=12*v.2.2)/\(-(12*v.2.2)<=v.2.1/\v.2.1<=12*v.2.2):=by unfold j2;rw[k_,G6 hz,G6 hz]
def LF.field (h:LF xa):isField (.tup (xa.map xh))=true:=by
 show(match rowsOf (xa.map xh) with|some xa=>yD xa|none=>false)=true;rw[Ao];show yD xa=true;unfold yD;rw[wI ⟨h.l3,h.l8⟩,RY h.dir (M4 h.gr) (M5 h.dir h.gr)];have e1:(xa.all λr=>decide ((r.1≠0\/r.2.1≠0)/\w5 r))=true:=by rw[jJ];intro r hr;exact wI ⟨h.dir r hr,h.frow r hr⟩
 have e2:(pieces xa).all j2=true:=by rw[jJ];intro v hv;obtain⟨hz,_,hc⟩:=h.fine.fine.corner hv;exact(G7 hz).mpr (h.near v hz hc.kept)
 rw[e1,e2];rfl
structure oz (b1 c1 b2 c2 b3 c3 b4 c4:Int):Prop where
 h1:(1<=b1/\b1<=3)/\0<=c1/\c1<=5*b1
 h2:(1<=b2/\b2<=3)/\0<=c2/\c2<=5*b2
 h3:(1<=b3/\b3<=3)/\0<=c3/\c3<=5*b3
 h4:(1<=b4/\b4<=3)/\0<=c4/\c4<=5*b4
def nY {b c x z:Int}(hb:1<=b)(hc:c<=5*b)(hz:0<z)(h:b*x<=c*z):x<=5*z:=by
 have h1:c*z<=5*b*z:=zf hc (by lia);have h2:b*x<=b*(5*z):=by
  have:b*(5*z)=5*b*z:=by grind
  lia
 exact Cc h2 (by lia)
def Extra (r:Pol.R3):Prop:=(((-6<=r.1/\r.1<=6)/\(-6<=r.2.1/\r.2.1<=6))/\(-40<=r.2.2/\r.2.2<=40))/\(r.1≠0\/r.2.1≠0)
def oz.lf {b1 c1 b2 c2 b3 c3 b4 c4:Int}(B:oz b1 c1 b2 c2 b3 c3 b4 c4){ex:List Pol.R3}(hx:∀r∈ex,Extra r)(hl:ex.length<=4):LF0 ([(-b1,0,c1),(b2,0,c2),(0,-b3,c3),(0,b4,c4)]++ex):=by
 obtain⟨h1,h2,h3,h4⟩:=B;have four:∀r∈([(-b1,0,c1),(b2,0,c2),(0,-b3,c3),(0,b4,c4)]++ex:List Pol.R3),r=(-b1,0,c1)\/r=(b2,0,c2)\/r=(0,-b3,c3)\/r=(0,b4,c4)\/Extra r:=λr hr=>by
  rcases yy.mp hr with h|h
  .simp only[xU,zi,zo] at h;rcases h with h|h|h|h
   .exact .inl h
   .exact .inr (.inl h)
   .exact .inr (.inr (.inl h))
   .exact .inr (.inr (.inr (.inl h)))
  .exact .inr (.inr (.inr (.inr (hx r h))))
 have m1:(-b1,0,c1)∈([(-b1,0,c1),(b2,0,c2),(0,-b3,c3),(0,b4,c4)]++ex:List Pol.R3):=yZ _ xT;have m2:(b2,0,c2)∈([(-b1,0,c1),(b2,0,c2),(0,-b3,c3),(0,b4,c4)]++ex:List Pol.R3):=yZ _ (yJ _ xT);have m3:(0,-b3,c3)∈([(-b1,0,c1),(b2,0,c2),(0,-b3,c3),(0,b4,c4)]++ex:List Pol.R3):=yZ _ (yJ _ (yJ _ xT));have m4:(0,b4,c4)∈([(-b1,0,c1),(b2,0,c2),(0,-b3,c3),(0,b4,c4)]++ex:List Pol.R3):=yZ _ (yJ _ (yJ _ (yJ _ xT)));refine⟨by simp,by simp;lia,λr hr=>?_,λr hr=>?_,λu v hn=>?_,λp hz hk=>?_⟩
 .rcases four r hr with h|h|h|h|h
  .subst h;simp only;lia
  .subst h;simp only;lia
  .subst h;simp only;lia
  .subst h;simp only;lia
  .unfold Extra at h;lia
 .rcases four r hr with h|h|h|h|h
  .subst h;exact .inl (by simp only;lia)
  .subst h;exact .inl (by simp only;lia)
  .subst h;exact .inr (by simp only;lia)
  .subst h;exact .inr (by simp only;lia)
  .exact h.2
 .rcases gk u 0 with c|c|c
  .refine⟨_,m1,?_⟩;simp only;have:=gz (show 0<b1 by lia) (show 0 < -u by lia);grind
  .rcases gk v 0 with d|d|d
   .refine⟨_,m3,?_⟩;simp only;have:=gz (show 0<b3 by lia) (show 0 < -v by lia);grind
   .lia
   .refine⟨_,m4,?_⟩;simp only;have:=gz (show 0<b4 by lia) d;grind
  .refine⟨_,m2,?_⟩;simp only;have:=gz (show 0<b2 by lia) c;grind
 .have k1:=hk _ m1;have k2:=hk _ m2;have k3:=hk _ m3;have k4:=hk _ m4;simp only[val] at k1 k2 k3 k4;have e1:=nY (x:=-p.1) h1.1.1 h1.2.2 hz (by grind);have e2:=nY (x:=p.1) h2.1.1 h2.2.2 hz (by grind);have e3:=nY (x:=-p.2.1) h3.1.1 h3.2.2 hz (by grind);have e4:=nY (x:=p.2.1) h4.1.1 h4.2.2 hz (by grind);lia
def gE (xa:List Pol.R3):Prop:=∃b1 c1 b2 c2 b3 c3 b4 c4,xa=[(-b1,0,c1),(b2,0,c2),(0,-b3,c3),(0,b4,c4)]/\oz b1 c1 b2 c2 b3 c3 b4 c4
def gE.last (h:gE xa)(hx:∀r∈ex,Extra r):∃ini l,xa++ex=ini++[l]/\Extra (0-l.1,0-l.2.1,0-l.2.2):=by
 obtain⟨b1,c1,b2,c2,b3,c3,b4,c4,rfl,B⟩:=h;rcases List.eq_nil_or_concat ex with rfl|⟨ini,l,rfl⟩
 .refine⟨[(-b1,0,c1),(b2,0,c2),(0,-b3,c3)],(0,b4,c4),by simp,?_⟩;have:=B.h4;unfold Extra;simp only;lia
 .rw[List.concat_eq_append] at hx ⊢;refine⟨_++ini,l,by rw[v5],?_⟩;have:=hx l (by simp);unfold Extra at *
  simp only;lia
def gE.len (h:gE xa):xa.length=4:=by obtain⟨b1,c1,b2,c2,b3,c3,b4,c4,rfl,B⟩:=h;rfl
theorem gE.lf (h:gE xa)(hx:∀r∈ex,Extra r)(hl:ex.length<=4):LF0 (xa++ex):=by obtain⟨b1,c1,b2,c2,b3,c3,b4,c4,rfl,B⟩:=h;exact B.lf hx hl
def rZ:List (Int×Int):=[(-1,0),(1,0),(0,-1),(0,1)]
def dT (d:Int×Int):Tr:=.tup [.int d.1,.int d.2]
def sI (i:Nat)(xa:List Pol.R3):Prop:=xa.length=i/\∀(j:Nat) (r:Pol.R3) (d:Int×Int),xa[j]?=some r->rZ[j]?=some d->∃b c:Int,((1<=b/\b<=3)/\0<=c/\c<=5*b)/\r=(d.1*b,d.2*b,c)
def sI.step (h:sI i xa)(hd:rZ[i]?=some d)(hb:(1<=b/\b<=3)/\0<=c/\c<=5*b):sI (i+1) (xa++[(d.1*b,d.2*b,c)]):=by
 refine⟨by rw[zy,h.1];rfl,λj r d' hr hd'=>?_⟩;by_cases hj:j<i
 .rw[oa (by rw[h.1];exact hj)] at hr;exact h.2 j r d' hr hd'
 .have hl:=(zc.mp hr).1;rw[zy,h.1,gB] at hl;have:j=i:=by lia
  subst this;rw[mO (by rw[h.1];exact yg _),h.1,Nat.sub_self] at hr;rw[hd] at hd';cases hr;cases hd';exact⟨b,c,hb,rfl⟩
def sI.box (h:sI 4 xa):gE xa:=by
 obtain⟨hl,h⟩:=h;rcases xa with _|⟨r1,_|⟨r2,_|⟨r3,_|⟨r4,_|⟨r5,rs⟩⟩⟩⟩⟩
 .cases hl
 .cases hl
 .cases hl
 .cases hl
 .obtain⟨b1,c1,g1,e1⟩:=h 0 r1 (-1,0) rfl rfl;obtain⟨b2,c2,g2,e2⟩:=h 1 r2 (1,0) rfl rfl;obtain⟨b3,c3,g3,e3⟩:=h 2 r3 (0,-1) rfl rfl;obtain⟨b4,c4,g4,e4⟩:=h 3 r4 (0,1) rfl rfl;subst e1 e2 e3 e4;refine⟨b1,c1,b2,c2,b3,c3,b4,c4,?_,g1,g2,g3,g4⟩;simp only[List.cons.injEq,Prod.mk.injEq,and_true];lia
 .cases hl
def Me {i:Nat}{d:Int×Int}(h:rZ[i]?=some d):(-1<=d.1/\d.1<=1)/\(-1<=d.2/\d.2<=1):=by have:=zG h;simp only[rZ,xU,zi,zo] at this;rcases this with rfl|rfl|rfl|rfl<;>decide
def Drawn (d:Int×Int)(y:Tr):Prop:=∃c:Int,(0<=c/\c<8)/\y=.tup [.int d.1,.int d.2,.int c]
theorem Fh {d1 d2 d3:Int×Int}{ys:List Tr}(h:Paired Drawn [d1,d2,d3] ys):∃c1 c2 c3:Int,((0<=c1/\c1<=7)/\(0<=c2/\c2<=7)/\(0<=c3/\c3<=7))/\ys=[(d1.1,d1.2,c1),(d2.1,d2.2,c2),(d3.1,d3.2,c3)].map xh:=by
 cases h with
 |cons h1 h=>
  cases h with
  |cons h2 h=>
   cases h with
   |cons h3 h=>cases h;obtain⟨c1,g1,rfl⟩:=h1;obtain⟨c2,g2,rfl⟩:=h2;obtain⟨c3,g3,rfl⟩:=h3;exact⟨c1,c2,c3,by lia,rfl⟩
def Eu {α:Type}{dg:DG}{de:DE}{τi:xW}{KK:List Tr->Prop}{f:α->Tr}{l:List α}(R:α->Tr->Prop)(h1:∀a∈l,∀N:Tr->Prop,(∀y,R a y->N y)->dg (f a) τi λτ2=>de τ2 N)
  (h0:∀ys,Paired R l ys->KK ys):jm dg nV de τi KK (l.map f) []:=by
 refine rQ (λys acc=>∃zs us,l=zs++us/\ys=us.map f/\Paired R zs acc) (λacc ⟨zs,us,e,ey,e2⟩=>?_) (λx ys acc N ⟨zs,us,e,ey,e2⟩ hN=>?_) _ [] ⟨[],l,rfl,rfl,.nil⟩
 .cases us with
  |nil=>rw[um] at e;subst e;exact h0 acc e2
  |cons u us=>cases ey
 .cases us with
  |nil=>cases ey
  |cons u us=>injection ey with ex ey;subst ex ey;exact h1 u (by rw[e];simp) (λy=>N (acc++[y])) λy hy=>hN _ ⟨zs++[u],us,by rw[e];simp,rfl,eX e2 hy⟩
def TJ (h1:1<=k)(h7:k<=7):LF0 [(-1,0,0),(1,-2*k,0),(1,2*k,2*k)]:=by
 refine⟨by simp,by simp,λr hr=>?_,λr hr=>?_,λu v hn=>?_,λp hz hk=>?_⟩
 .simp only[xU,zi,zo] at hr;rcases hr with rfl|rfl|rfl<;>simp only<;>lia
 .simp only[xU,zi,zo] at hr;rcases hr with rfl|rfl|rfl<;>simp only<;>lia
 .rcases y_ u 0 with c|c
  .exact⟨_,xT,by simp only;lia⟩
  .rcases gk v 0 with d|d|d
   .refine⟨(1,-2*k,0),by simp,?_⟩;simp only;have:=gz (show 0<k by lia) (show 0 < -v by lia);grind
   .refine⟨(1,2*k,2*k),by simp,?_⟩;simp only;subst d;lia
   .refine⟨(1,2*k,2*k),by simp,?_⟩;simp only;have:=gz (show 0<k by lia) d;grind
 .have k1:=hk (-1,0,0) (by simp);have k2:=hk (1,-2*k,0) (by simp);have k3:=hk (1,2*k,2*k) (by simp);simp only[val] at k1 k2 k3;have e2:p.1<=2*(k*p.2.1):=by grind
  have e3:p.1+2*(k*p.2.1)<=2*(k*p.2.2):=by grind
  have kz:k*p.2.2<=7*p.2.2:=zf h7 (by lia);have y0:0<=p.2.1:=du (show 0<k by lia) (by lia);have y1:p.2.1<=p.2.2:=by
   have:k*p.2.1<=k*p.2.2:=by lia
   exact Cc this (by lia)
  lia
def sO (h:0<=c/\c<=7):-100<=c/\c<=100:=by lia
def T1 (h1:0<=c1/\c1<=7)(h2:0<=c2/\c2<=7)(h3:0<=c3/\c3<=7):LF0 [(-2,1,c1),(1,-3,c2),(2,3,c3)]:=by
 refine⟨by simp,by simp,λr hr=>?_,λr hr=>?_,λu v hn=>?_,λp hz hk=>?_⟩
 .simp only[xU,zi,zo] at hr;rcases hr with rfl|rfl|rfl
  .exact⟨by simp only;decide,sO h1⟩
  .exact⟨by simp only;decide,sO h2⟩
  .exact⟨by simp only;decide,sO h3⟩
 .simp only[xU,zi,zo] at hr;rcases hr with rfl|rfl|rfl<;>exact .inl (by simp only;decide)
 .rcases y_ 0 (-2*u+1*v) with c|c
  .exact⟨(-2,1,c1),by simp,c⟩
  .rcases y_ 0 (1*u+-3*v) with d|d
   .exact⟨(1,-3,c2),by simp,d⟩
   .exact⟨(2,3,c3),by simp,by simp only;lia⟩
 .have k1:=hk (-2,1,c1) (by simp);have k2:=hk (1,-3,c2) (by simp);have k3:=hk (2,3,c3) (by simp);simp only[val] at k1 k2 k3;have z1:c1*p.2.2<=7*p.2.2:=zf h1.2 (by lia);have z2:c2*p.2.2<=7*p.2.2:=zf h2.2 (by lia);have z3:c3*p.2.2<=7*p.2.2:=zf h3.2 (by lia);lia
def T3 (h1:0<=c1/\c1<=7)(h2:0<=c2/\c2<=7)(h3:0<=c3/\c3<=7):LF0 [(-3,-2,c1),(3,-1,c2),(1,4,c3)]:=by
 refine⟨by simp,by simp,λr hr=>?_,λr hr=>?_,λu v hn=>?_,λp hz hk=>?_⟩
 .simp only[xU,zi,zo] at hr;rcases hr with rfl|rfl|rfl
  .exact⟨by simp only;decide,sO h1⟩
  .exact⟨by simp only;decide,sO h2⟩
  .exact⟨by simp only;decide,sO h3⟩
 .simp only[xU,zi,zo] at hr;rcases hr with rfl|rfl|rfl<;>exact .inl (by simp only;decide)
 .rcases y_ 0 (-3*u+-2*v) with c|c
  .exact⟨(-3,-2,c1),by simp,c⟩
  .rcases y_ 0 (3*u+-1*v) with d|d
   .exact⟨(3,-1,c2),by simp,d⟩
   .exact⟨(1,4,c3),by simp,by simp only;lia⟩
 .have k1:=hk (-3,-2,c1) (by simp);have k2:=hk (3,-1,c2) (by simp);have k3:=hk (1,4,c3) (by simp);simp only[val] at k1 k2 k3;have z1:c1*p.2.2<=7*p.2.2:=zf h1.2 (by lia);have z2:c2*p.2.2<=7*p.2.2:=zf h2.2 (by lia);have z3:c3*p.2.2<=7*p.2.2:=zf h3.2 (by lia);lia
def Gs:isField (.tup (xa.map xh))=yD xa:=by show(match rowsOf (xa.map xh) with|some xa=>yD xa|none=>false)=_;rw[Ao]
def DD (K:xt)(x:Str)(st:Stmt):Prop:=∃f fd,PySem.W.nsIn K mainGlobals x=some (some (.ref f))/\Fun K x x st f fd
def dd {K:xt}{x:Str}{st:Stmt}{f:Addr}{oc:Value}{od an:Option Addr}{sl:Array (Option Value)}{kV dc pm cd ct:Value}(a:PySem.W.nsIn K mainGlobals x=some (some (.ref f)))
  (l:K.lookup f=some ⟨oc,od,.func (PySem.W.fnOf x x (qZ st) (vo st) (xI st) .none kV dc pm an cd ct),sl⟩) (c:PySem.W.codeIn K cd x=true) (k:PySem.W.keepIn K (.ref f)=true):DD K x st:=⟨f,_,a,FW l c k⟩
def wu {K:xt}{x qual:Str}(p1:Str){st:Stmt}{f:Addr}{fd:FuncData}(F:Fun K x qual st f fd)(h:∀(kV doc pm:Value) (an:Option Addr) (cdv ct u1:Value),bindArgs (PySem.W.fnOf x qual (qZ st) (vo st) (xI st) .none kV doc pm an cdv ct) ⟨[u1],[]⟩=pure [(p1,u1)]:=by intros;rfl):Binds K fd [p1] []:=F.binds λa b c d e g us hl=>match us,hl with|[u1],_=>h a b c d e g u1
def ze {K:xt}{x qual:Str}(p1 p2:Str){st:Stmt}{f:Addr}{fd:FuncData}(F:Fun K x qual st f fd)(h:∀(kV doc pm:Value) (an:Option Addr) (cdv ct u1 u2:Value),bindArgs (PySem.W.fnOf x qual (qZ st) (vo st) (xI st) .none kV doc pm an cdv ct) ⟨[u1,u2],[]⟩=pure [(p1,u1),(p2,u2)]:=by intros;rfl):Binds K fd [p1,p2] []:=F.binds λa b c d e g us hl=>match us,hl with|[u1,u2],_=>h a b c d e g u1 u2
def gM {K:xt}{x qual:Str}(p1 p2 p3:Str){st:Stmt}{f:Addr}{fd:FuncData}(F:Fun K x qual st f fd)(h:∀(kV doc pm:Value) (an:Option Addr) (cdv ct u1 u2 u3:Value),bindArgs (PySem.W.fnOf x qual (qZ st) (vo st) (xI st) .none kV doc pm an cdv ct) ⟨[u1,u2,u3],[]⟩=pure [(p1,u1),(p2,u2),(p3,u3)]:=by intros;rfl):Binds K fd [p1,p2,p3] []:=F.binds λa b c d e g us hl=>match us,hl with|[u1,u2,u3],_=>h a b c d e g u1 u2 u3
def tH (w:Int)(f:F2):F2:=Fra.low (w*f.1) f.2
def Rg:ye:=λts KK=>∃f g:F2,ts=[fT f,fT g]/\Fk 900 f/\Fk 900 g/\KK (fT (vW f g))
def Rn:ye:=λts KK=>∃(w:Int) (f:F2),ts=[.int w,fT f]/\Bk 900 w/\Fk 900 f/\KK (fT (tH w f))
def Rq:ye:=λts KK=>∃(a b:Int) (x:List Tr) (p:P2),ts=[.tup (.int a::.int b::x),pT p]/\Bk 200 a/\Bk 200 b/\Pk 600 p/\KK (fT (zm (a,b,0) p))
def fY (r:Pol.R3)(p:P2):Bool:=decide ((zm r p).1=r.2.2*(zm r p).2)
def QG:ye:=λts KK=>∃(r:Pol.R3) (p:P2),ts=[xh r,pT p]/\yM 200 r/\Pk 600 p/\KK (.bl (fY r p))
def Q5:ye:=λts KK=>∃t,ts=[t]/\isField t=true/\KK .non
def Qr:ye:=λts KK=>∃xa:List Pol.R3,ts=[.tup (xa.map xh)]/\yD xa=true/\zd xa/\KK (.lst ((xS xa).map xG))
def uC (xa:List Pol.R3)(p:P2):List Nat:=(List.range xa.length).filter λi=>fY (xa.getD i (0,0,0)) p
def vM (n:Nat):Tr:=.int n
def Rm:ye:=λts KK=>∃(xa:List Pol.R3) (p:P2),ts=[.tup (xa.map xh),pT p]/\xa.length<=1000/\(∀r∈xa,yM 200 r)/\Pk 600 p/\KK (.tup ((uC xa p).map vM))
def brk (v:Pol.R3):Bool:=!decide ((xn v).1.2=1) || !decide ((xn v).2.2=1)
def QA:ye:=λts KK=>∃v:Pol.R3,ts=[xG v]/\KK (.bl (brk v))
def Qq:ye:=λts KK=>∃xa:List Pol.R3,ts=[.tup (xa.map xh)]/\yD xa=true/\zd xa/\KK (.lst (((xS xa).filter brk).map xG))
def wG (h:yD xa=true):(3<=xa.length/\xa.length<=8)/\(∀r∈xa,(r.1≠0\/r.2.1≠0)/\w5 r)/\q8 xa=true/\∀v∈pieces xa,j2 v=true:=by unfold yD at h;simp only[k_,qp,jJ] at h;exact⟨h.1.1.1,h.1.1.2,h.1.2,h.2⟩
def Nj (h:yD xa=true):isField (.tup (xa.map xh))=true:=by rw[Gs];exact h
def LF.isf (h:LF xa):yD xa=true:=by rw[<-Gs];exact h.field
def GQ (h:0<b):frT (vC t b) (uO t b)=fT (lfr t b):=by rw[q9 h];rfl
def Fk.timW (hw:Bk k w)(h:Fk m f):Fk (k+m) (tH w f):=tR h.pos (hw.mul h.top) (h.bot.mono (by lia))
def MS (hx:0<p.1.2)(hy:0<p.2.2):vW (tH a p.1) (tH b p.2)=zm (a,b,0) p:=by unfold vW tH zm;rw[q9 (Pol.pp (Fra.qz hx) (Fra.qz hy)),q9 (Pol.pp hx hy)];exact Fra.Uh hx hy
def MQ (hr:yM 200 r)(hp:Pk 600 p):Fk 1500 (zm r p):=by unfold zm;exact jZ (k:=1500) (by have:=Pol.pp hp.1.pos hp.2.pos;lia) (((hr.1.1.mul hp.1.top |>.mul hp.2.bot).add (hr.1.2.mul hp.2.top |>.mul hp.1.bot)).mono (by decide)) ((hp.1.bot.mul hp.2.bot).mono (by decide))
def Mq {α:Type}(f:α->Tr)(l:List α)(d:α):vB (l.map f)=(List.range l.length).map λi=>.tup [.int (i:Nat),f (l.getD i d)]:=by
 apply List.ext_getElem?;intro i;by_cases h:i<l.length
 .have e1:i<(vB (l.map f)).length:=by rw[r_];exact h
  obtain⟨v,hv,e⟩:=lJ (yA e1);rw[yA e1,e,vh,List.getElem?_range h];simp[jK,hv]
 .rw[sf (by rw[r_];lia),sf (by simp;lia)]
def getD_mem {α:Type}{l:List α}{i:Nat}(d:α)(h:i<l.length):l.getD i d∈l:=by rw[jK,yA h];exact og h
def ER (h:zd xa):(xS xa).length<=900:=h.ring.len
def jS (a b:Int)(best:Option F2)(p:P2):Option F2:=match best with
 |none=>some (zm (a,b,0) p)
 |some f=>if ur f (zm (a,b,0) p)=true then some (zm (a,b,0) p) else some f
def lM (a b:Int)(ps:List P2):Option F2:=ps.foldl (jS a b) none
def Q2:ye:=λts KK=>∃(a b:Int) (x:List Tr) (p:P2),ts=[.tup (.int a::.int b::x),pT p]/\Bk 200 a/\Bk 200 b/\Fk 600 p.1/\Fk 600 p.2/\KK (fT (zm (a,b,0) p))
def MF (d:ur f (zm (a,b,0) p)=true):jS a b (some f) p=some (zm (a,b,0) p):=by show(if ur f (zm (a,b,0) p)=true then some (zm (a,b,0) p) else some f)=_;rw[xK d]
def ME (d:ur f (zm (a,b,0) p)=false):jS a b (some f) p=some f:=by show(if ur f (zm (a,b,0) p)=true then some (zm (a,b,0) p) else some f)=_;rw[xH (by rw[d];exact wR)]
def zd.pk2 {xa:List Pol.R3}(h:zd xa){v:Pol.R3}(hv:v∈xS xa):Pk 100 (xn v):=by have:=h.corner hv;have:=cE this.1.1 this.2;exact⟨this.1.mono (by decide),this.2.mono (by decide)⟩
def zd.pk {xa:List Pol.R3}(h:zd xa){v:Pol.R3}(hv:v∈xS xa):Pk 600 (xn v):=⟨(h.pk2 hv).1.mono (by decide),(h.pk2 hv).2.mono (by decide)⟩
def zd.pkm {xa:List Pol.R3}(h:zd xa){p:P2}(hp:p∈(xS xa).map xn):Pk 100 p:=by obtain⟨v,hv,rfl⟩:=zQ.mp hp;exact h.pk2 hv
def MR (ha:Bk k a)(hb:Bk k b)(hp:Pk m p)(h:k+m+m+1<=n):Fk n (zm (a,b,c) p):=by unfold zm;exact jZ (k:=n) (by have:=Pol.pp hp.1.pos hp.2.pos;lia) (((ha.mul hp.1.top |>.mul hp.2.bot).add (hb.mul hp.2.top |>.mul hp.1.bot)).mono h) ((hp.1.bot.mul hp.2.bot).mono (by lia))
theorem FI {a b:Int}{best:Option F2}{p:P2}{f:F2}(h:jS a b best p=some f):best=some f\/f=zm (a,b,0) p:=by
 unfold jS at h;cases best with
 |none=>exact .inr (vH h).symm
 |some g=>
  simp only at h;split at h
  .exact .inr (vH h).symm
  .exact .inl h
theorem FJ (ps:List P2):∀best,ps.foldl (jS a b) best=some f->best=some f\/∃p∈ps,f=zm (a,b,0) p:=by
 induction ps with
 |nil=>exact λbest h=>.inl h
 |cons p ps ih=>
  intro best h;rcases ih _ h with q|⟨p',hp,e⟩
  .rcases FI q with q|q
   .exact .inl q
   .exact .inr ⟨p,xT,q⟩
  .exact .inr ⟨p',yJ _ hp,e⟩
def FX (h:0<p.1.2/\0<p.2.2):0<(zm (a,b,c) p).2:=l6 (by have:=Pol.pp h.1 h.2;show p.1.2*p.2.2≠0;lia)
theorem zd.pos {xa:List Pol.R3}(h:zd xa):∀p∈(xS xa).map xn,0<p.1.2/\0<p.2.2:=λp hp=>⟨(h.pkm hp).1.pos,(h.pkm hp).2.pos⟩
section
variable {P:Program} {w:World} {K:xt} {mg:Str->Option Value} {base:Heap} {N:List Str} {qual:Str} {scope:Scope} {f:Addr} {cd:Value} {A:Around} {outer:List Env} {s:Shared} {H H':Hp} {E:XK}
end
end L2
namespace L2
open PySem PySem.Spec PySem.Calls PyProof.Rows
section
variable {prog:Program} {w:World} {A:Around} {E:Value->Shared->Prop} {s:Shared} {K:xt} {ea C:Addr}
end
section
variable {P:Program} {w:World}
variable {X:Cx} {xf:List (Addr×Obj)} {σ:St} {H H':Hp} {s s':Shared} {ea C:Addr}
end
section
variable {X:Cx} {xf:List (Addr×Obj)} {σ:St} {H H':Hp} {s s':Shared} {ea C:Addr}
end
section
variable {X:Cx} {xf:List (Addr×Obj)} {σ:St} {H:Hp} {s:Shared} {c P:Addr} {params:Arguments} {body:Expr} {scope:Scope} {pos:Pos} {clos:List (Str×Addr)} {E:Value->Shared->Prop} {Q:Value->Shared->Prop} {q:Str}
end
section
variable {X:Cx} {xf:List (Addr×Obj)} {σ:St} {H:Hp} {s:Shared}
end
end L2
namespace L2
open PySem PySem.Spec PyProof.Rows
section
variable {K:xt} {B:FB} {φ:zg} {σ:St} {τ:xW} {H H' H'':Hp} {EX:Hp->Prop}
end
section
variable {P:Program} {w:World} {K:xt} {mg:Str->Option Value} {base:Heap} {k n:Nat} {x qual:Str} {st:Stmt} {f:Addr} {fd:FuncData} {N ps:List Str} {C:Addr} {R:List Tr->Prop}
end
section
variable {K:xt}
def UH (hd:zM K true T D)(h:D {nx:=λ_=>False,rt:=λt=>t=.lst [.int j]} [.un,.ob ea,.un,.un])
  (q:∀H2 a,(∀b o,H b=some o->H2 b=some o)->H a=none->H2 a=some (.lst [.int j])->Q (.ref a) H2):T {nx:=λ_ H'=>Q .non H',rt:=Q} [some g,some (.ref ea),none,none] H:=by
 refine hd ⟨λ_=>False,λ_=>False,H,[]⟩ (λ_=>none) _ _ H _ _ ⟨λ_ z=>z.elim,λ_ z=>z.elim,λa o e _=>e,λa z=>?_,λi j a _ z=>(nomatch z),λi a z=>(nomatch z),rfl,λi=>?_,λp z=>absurd z (by simp)⟩ h ⟨λ_ _ _ _ _ z=>z.elim,λ_ _ _ _ _ z=>z.elim,λ_ _ _ _ _ z=>z.elim,λt v H2 r x e fl=>?_⟩
 .rcases z with z|⟨i,z,_⟩
  .exact z.elim
  .cases z
 .match i with
  |0=>trivial
  |1=>rfl
  |2=>trivial
  |3=>trivial
  |n+4=>trivial
 .obtain⟨a,ts,ws,rfl,rfl,h1,h2,h3⟩:=fl rfl;cases e;obtain⟨v,vs,rfl,e1,e2⟩:=h3;cases e1;cases e2;exact q H2 a (λb o e=>x.ext b o e λz=>z) h1 h2
end
section
variable {X:Cx} {ea C D:Addr}
end
section
variable {P:Program} {w:World} {K:xt} {mg:Str->Option Value} {base:Heap} {k:Nat} {x qual:Str} {st:Stmt} {f:Addr} {fd:FuncData} {N ps:List Str}
end
end L2
namespace L2
open PySem
def drT (a b:Int):Tr:=.tup [.int a,.int b]
def jy:Tr->Bool
 |.tup [.int a,.int b]=>!decide (a=0) || !decide (b=0)
 |_=>false
def Gr (h:jy t=true):∃x y:Int,t=drT x y:=by
 unfold jy at h;split at h
 .exact⟨_,_,rfl⟩
 .cases h
def nA (t:Tr):Prop:=∀us,t=.tup us->us.length<sizeLine
def tn (a b c d:Int):Int:=a*d-b*c
def L24 (i:Int):Prop:=-(10^24)<=i/\i<=10^24
def L24.bd (h:L24 i):Bd i:=fP (by unfold L24 at h;lia) (by unfold L24 at h;lia)
def L4 (a b c d:Int):Prop:=(L24 a/\L24 b)/\L24 c/\L24 d
def bO {a b:Int}{m n:Nat}(h1:-(m:Int)<=a/\a<=m)(h2:-(n:Int)<=b/\b<=n):-((m*n:Nat):Int)<=a*b/\a*b<=((m*n:Nat):Int):=by
 have h:=uU a b;have h3:a.natAbs<=m:=by lia
 have h4:b.natAbs<=n:=by lia
 have h5:=oq h3 h4;lia
def TZ (h:L4 a b c d):Bd (tn a b c d):=by obtain⟨⟨h1,h2⟩,h3,h4⟩:=h;have x:=bO (m:=10^24) (n:=10^24) h1 h4;have y:=bO (m:=10^24) (n:=10^24) h2 h3;unfold tn;refine fP ?_ ?_<;>lia
def QB:ye:=λts KK=>∃t,ts=[t]/\nA t/\KK (.bl (jy t))
def Q6:ye:=λts KK=>∃a b c d:Int,ts=[drT a b,drT c d]/\L4 a b c d/\0<tn a b c d/\KK (.int (tn a b c d))
def j0 (n d:Int):Tr:=frT (vC n d) (uO n d)
def gW (a b c d:Int):Tr->Tr
 |.tup [.int x,.int y]=>if x=0/\y=0 then .non else if tn x y c d<0\/tn a b x y<0 then .non else .tup [j0 (tn x y c d) (tn a b c d),j0 (tn a b x y) (tn a b c d)]
 |_=>.non
def GX (h:0<d):j0 n d=fT (lfr n d):=by rw[q9 h];rfl
def KR:Tr->Prop
 |.tup [.int x,.int y]=>L24 x/\L24 y
 |_=>True
def Rb:ye:=λts KK=>∃(a b c d:Int) (t:Tr),ts=[drT a b,drT c d,t]/\L4 a b c d/\nA t/\KR t/\0<tn a b c d/\KK (gW a b c d t)
def T5 (h:us.length<=100000):nA (.tup us):=λvs e=>by cases e;exact zF (by lia)
def T4 (x y:Int):nA (drT x y):=T5 (by simp)
end L2
namespace L2
open PySem PySem.Spec PyProof.Rows
section
variable {X:Cx} {pos:Pos}
def JP (i j k:Nat)(ta:TA):TS:=λD σ H=>ta σ H λvs H1=>∃u v w,vs=[u,v,w]/\D.nx (((σ.set i (some u)).set j (some v)).set k (some w)) H1
def HV {i j k:Nat}{x y z:Str}{a b c:Expr}{ta:TA}{px py pz pt:Pos}{kt k2 pt2}(hc:X.calm=true)(hN:X.N.Nodup)(hi:X.N[i]?=some x)(hj:X.N[j]?=some y)(hk:X.N[k]?=some z)(hij:i≠j/\i≠k/\j≠k)
  (hx:X.env.scope.names.lookup x=some .local) (hy:X.env.scope.names.lookup y=some .local) (hz:X.env.scope.names.lookup z=some .local) (ha:PA X [a,b,c] ta)
  (hw:swappedStores [.Tuple [.Name x px,.Name y py,.Name z pz] kt pt] (.Tuple [a,b,c] k2 pt2) X.env=pure (some [x,y,z]))
  (hs:swapsWithSole [.Tuple [.Name x px,.Name y py,.Name z pz] kt pt] (.Tuple [a,b,c] k2 pt2) pos.line X.env=pure false:=by rfl) :
  PS X (.Assign [.Tuple [.Name x px,.Name y py,.Name z pz] kt pt] (.Tuple [a,b,c] k2 pt2) pos) (JP i j k ta):=by
 intro xf s σ H D I h;rw[exec_Assign_arm];refine xi (rJ ?_);rw[hs];refine xi (xN ?_);rw[xH (by decide)];refine xi (Tuple_ (yn (@ha _ xf s σ H _ I h) λus s1 ⟨vs,H1,I1,r1,q1⟩=>?_));obtain⟨v,w,t,e1,q1⟩:=q1;subst e1;obtain⟨u1,u2,u3,rfl,rv,rw',rt⟩:∃u1 u2 u3,us=[u1,u2,u3]/\RelV v u1/\RelV w u2/\RelV t u3:=by
  cases r1 with
  |cons p q=>
   cases q with
   |cons p' q' =>
    cases q' with
    |cons p2 q2=>cases q2;exact⟨_,_,_,rfl,p,p',p2⟩
 refine vI ?_ (by show 3<=sizeLine;decide);have I2:Inv X xf σ H1 {s1 with heap:=s1.heap.push {cls:=.type "tuple", data:=.seq [u1,u2,u3].toArray} }:=I1.kept (t':=s1.toks) λb o e=>yY _ e;rw[hw];refine xi (xN ?_);show wpAny (model X.prog X.w) X.A (do rule "assign.swapped-stores"; let items <-unpackItems (.ref s1.heap.objs.size) 3 none;assignInOrder [λv=>bindName X.env z v,λv=>bindName X.env y v,λv=>bindName X.env x v] items.reverse;pure Flow.next) _ _ _;refine xi (sG (xi (unpackItems_tuple (items := #[u1,u2,u3]) (I.ok.hd hc) (mL s1.heap _) λh' hx'=>?_)));have I3:=I2.kept (h':=h') (t':=s1.toks) λb o e=>hx' b o (zV (yH e)) e;show wpAny _ _ (assignInOrder [λv=>bindName X.env z v,λv=>bindName X.env y v,λv=>bindName X.env x v] [u3,u2,u1]>>=λ_=>pure Flow.next) _ _ _;refine xi (mY (ox (dU I3 hN hk (.inl hz) rt (λs2 I4=>?_) (.inr hz))));refine mY (ox (dU I4 hN hj (.inl hy) rw' (λs3 I5=>?_) (.inr hy)));refine mY (ox (dU I5 hN hi (.inl hx) rv (λs4 I6=>KH (xN ?_)) (.inr hx)));rw[Cw _ _ (zK hij.1),Cw _ _ (zK hij.2.1),Cw _ _ (zK hij.2.2)] at I6;exact⟨_,H1,I6,q1⟩
end
section
variable {K:xt} {fr:Bool}
def Sw (i j k:Nat)(d:DA):DS:=λG τ=>d τ λts=>match ts with|[t,u,v]=>G.nx (((τ.set i (.fz t)).set j (.fz u)).set k (.fz v))|_=>False
def R5 (h:yx F H [t,u,x] vs):∃v w y,vs=[v,w,y]/\Rep F H t v/\Rep F H u w/\Rep F H x y:=by obtain⟨v,vs,rfl,h1,h2⟩:=h;obtain⟨w,y,rfl,h3,h4⟩:=aM h2;exact⟨v,w,y,rfl,h1,h3,h4⟩
def Hq (h:OkA K true n ta da):zM K fr (JP i j k ta) (Sw i j k da):=λB φ σ τ H E G R hd e=>
 h B φ σ τ H _ _ R hd λts vs H1 x1 k1 l1 r1=>by
  match ts,k1,r1 with
  |[t,u,z],k1,r1=>obtain⟨v,w,y,rfl,h1,h2,h3⟩:=R5 r1;have m:∀ {φ':zg} {i:Nat} {t:Tr} {v:V},Rep (Av B φ') H1 t v->Rep (Av B (φ'.del i)) H1 t v:=λr=>wZ (λa o e n=>⟨e,λz=>n (jj z)⟩) _ _ r;exact⟨v,w,y,rfl,e.nx _ _ _ H1 ((((R.hx x1).setFz h1).setFz (m h2)).setFz (m (m h3))) k1⟩
end
end L2
namespace L2
open PySem
def af:Tr->Bool
 |.tup [.int a,.int b]=>decide (1<=b)&&decide (Int.gcd a b=1)
 |_=>false
structure Wt (w:F2):Prop where
 pos:0<w.2
 cop:Int.gcd w.1 w.2=1
 nn:0<=w.1
 sm:Fk 40 w
def Cop (f:F2):Prop:=0<f.2/\Int.gcd f.1 f.2=1
def nP (h:0<b):Cop (lfr t b):=by rw[q9 h];exact⟨Fra.qz h,Fra.bK h⟩
theorem Sd.low (h:Sd f N D)(c:Cop f):L2.lfr N D=f:=by
 rw[q9 h.pd];have:=Fra.EN (Fra.bK h.pd) c.2 (Fra.qz h.pd) c.1 (by
  have e:=h.e;have l:=Fra.dj N D;generalize (Fra.low N D).1=x at *
  generalize (Fra.low N D).2=y at *
  have hD:=h.pd;have:(x*f.2)*D=(f.1*y)*D:=by grind
  exact gf (by lia) this)
 exact zL this.1 this.2
def Sd.plusD (h:Sd f N D)(h':Sd g M D):Sd (vW f g) (N+M) D:=by refine Sd.lfr (Pol.pp h.pf h'.pf) h.pd ?_ rfl;have:=h.e;have:=h'.e;grind
def kI (k:Pol.R3->Int)(f:F2)(x:Pol.R3×F2):F2:=vW f (ua x.2 (k x.1,1))
def wsum (k:Pol.R3->Int)(l:List (Pol.R3×F2)):F2:=l.foldl (kI k) (0,1)
def ls (k:Pol.R3->Int)(l:List (Pol.R3×F2))(h:∀x∈l,0<x.2.2):Cop (wsum k l):=by
 unfold wsum;have go:∀(l:List (Pol.R3×F2)) (f:F2),Cop f->(∀x∈l,0<x.2.2)->Cop (l.foldl (kI k) f):=λl=>by
  induction l with
  |nil=>exact λf c _=>c
  |cons x l ih=>intro f c h;refine ih _ ?_ λy hy=>h y (yJ _ hy);have hx:=h x xT;have:0<(ua x.2 (k x.1,1)).2:=l6 (by show x.2.2*1≠0;lia);exact nP (Pol.pp c.1 this)
 exact go l (0,1) ⟨by decide,by decide⟩ h
def BL (hw:0<w.2)(hD:0<D)(e:w.2*q=D):Sd (ua w (r,1)) (q*w.1*r) D:=by
 refine Sd.lfr (by show 0<w.2*1;lia) hD ?_ rfl;show w.1*r*D=q*w.1*r*(w.2*1)
 rw[<-e];grind
def Fk.plus2 (h:Fk k f)(h':Fk m g):Fk (k+m+1) (vW f g):=by
 unfold vW;refine jZ (by have:=Pol.pp h.pos h'.pos;lia) ?_ ?_
 .exact(h.top.mul h'.bot).add ((h'.top.mul h.bot).mono (by lia))
 .exact(h.bot.mul h'.bot).mono (by lia)
def Fk.timI (h:Fk k f)(hr:Bk m r):Fk (k+m) (ua f (r,1)):=by unfold ua;refine jZ (by have:=h.pos;show f.2*1≠0;lia) (h.top.mul hr) ?_;show Bk (k+m) (f.2*1);rw[gy];exact h.bot.mono (by lia)
def J7 (k:Pol.R3->Int):∀(l:List (Pol.R3×F2)),(∀x∈l,Fk 40 x.2/\Bk 10 (k x.1))->Fk (1+51*l.length) (wsum k l):=by
 have go:∀(l:List (Pol.R3×F2)) (f:F2) (n:Nat),Fk n f->(∀x∈l,Fk 40 x.2/\Bk 10 (k x.1))->Fk (n+51*l.length) (l.foldl (kI k) f):=λl=>by
  induction l with
  |nil=>exact λf n c _=>c
  |cons x l ih=>intro f n c h;have hx:=h x xT;have:=ih (kI k f x) (n+51) (c.plus2 (hx.1.timI hx.2)) λy hy=>h y (yJ _ hy);rw[wU];exact this.mono (by lia)
 exact λl h=>go l (0,1) 1 ⟨by unfold Bk;decide,by unfold Bk;decide,by decide⟩ h
def wsum_snoc (k:Pol.R3->Int)(l:List (Pol.R3×F2))(x:Pol.R3×F2):wsum k (l++[x])=kI k (wsum k l) x:=by unfold wsum;rw[se];rfl
def k0 (r:Pol.R3):Int:=r.1
def k1 (r:Pol.R3):Int:=r.2.1
def k2 (r:Pol.R3):Int:=r.2.2
def Jy (l:List (Pol.R3×F2)):Tr:=.tup [fT (wsum k0 l),fT (wsum k1 l),fT (wsum k2 l)]
structure WS (xa:List Pol.R3)(ws:List F2):Prop where
 len:xa.length=ws.length
 l100:xa.length<=8
 sm:∀r∈xa,yM 10 r
 wt:∀w∈ws,Wt w
theorem WS.zip (h:WS xa ws)(hx:x∈xa.zip ws):yM 10 x.1/\Wt x.2:=by obtain⟨a,b⟩:=x;have:=oj hx;exact⟨h.sm a this.1,h.wt b this.2⟩
def Rt:ye:=λts KK=>∃(xa:List Pol.R3) (ws:List F2),ts=[.tup (xa.map xh),.tup (ws.map fT)]/\WS xa ws/\
 ∀a b c D:Int,Sd (wsum k0 (xa.zip ws)) a D->Sd (wsum k1 (xa.zip ws)) b D->Sd (wsum k2 (xa.zip ws)) c D->Bd D->KK (.tup [.lst [.int a,.int b,.int c],.int D])
def Rk:ye:=λts KK=>∃(xa:List Pol.R3) (ws:List F2),ts=[.tup (xa.map xh),.tup (ws.map fT)]/\WS xa ws/\KK (Jy (xa.zip ws))
def jQ (a b:F2):Prop:=a.2=1/\b.2=1/\¬(a.1=0/\b.1=0)
def Qv:ye:=λts KK=>∃a b c:F2,ts=[.tup [fT a,fT b,fT c]]/\(0<c.2/\Bd c.2)/\jQ a b/\KK (xh (a.1,b.1,c.1.fdiv c.2))
def Q0:ye:=λts KK=>∃(xa:List Pol.R3) (ws:List F2),ts=[.tup (xa.map xh),.tup (ws.map fT)]/\WS xa ws/\KK (Jy (xa.zip ws))
theorem B4 (f:α->Tr)(g:β->Tr):∀(l:List α) (m:List β),qI (l.map f) (m.map g)=(l.zip m).map λx=>.tup [f x.1,g x.2]
 |[],_=>rfl
 |_::_,[]=>rfl
 |x::l,y::m=>by show Tr.tup [f x,g y]::qI (l.map f) (m.map g)=_;rw[B4 f g l m];rfl
def Uu (ht:0<=t/\t<=1000000)(hb:1<=b/\b<=1000000):Wt (lfr t b):=by
 have c:=nP (t:=t) (b:=b) (by lia);have s:Sd (lfr t b) t b:=by rw[q9 (by lia)];exact aW (by lia)
 refine⟨c.1,c.2,?_,jZ (by lia) (by unfold Bk;lia) (by unfold Bk;lia)⟩;refine rm.mp λz=>?_;have:=s.neg.mp z;lia
theorem Cop.lfr (c:Cop f):L2.lfr f.1 f.2=f:=Sd.low (Jl c.1) c
def rwT (x:Pol.R3×F2):Tr:=.tup [xh x.1,fT x.2]
def jF (x:Pol.R3×F2):Bool:=!decide (x.2.1=0)
def Ut (c:Cop f)(h:Wt x.2)(hz:x.2.1=0):kI k f x=f:=by
 have e:x.2=(0,1):=by have g:=h.cop;rw[hz,Int.gcd_zero_left] at g;have p:=h.pos;exact zL hz (by show x.2.2=1;lia)
 unfold kI;rw[e];have e2:ua (0,1) (k x.1,1)=(0,1):=by
  unfold ua;show L2.lfr (0*k x.1) (1*1)=(0,1)
  rw[jb];decide
 rw[e2];unfold vW;show L2.lfr (f.1*1+0*f.2) (f.2*1)=f;rw[gy,jb,rh,gy];exact c.lfr
def BZ (k:Pol.R3->Int)(l:List (Pol.R3×F2))(h:∀x∈l,Wt x.2):wsum k (l.filter jF)=wsum k l:=by
 have go:∀(l:List (Pol.R3×F2)) (f:F2),Cop f->(∀x∈l,Wt x.2)->(l.filter jF).foldl (kI k) f=l.foldl (kI k) f:=λl=>by
  induction l with
  |nil=>exact λf c _=>rfl
  |cons x l ih=>
   intro f c h;have hx:=h x xT;have hl:=λy hy=>h y (yJ x hy);have c':Cop (kI k f x):=nP (Pol.pp c.1 (l6 (by have:=hx.pos;show x.2.2*1≠0;lia)));by_cases z:x.2.1=0
   .rw[rA (by simp[jF,z]),ih f c hl,qL,Ut c hx z]
   .rw[mN (by simp[jF,z]),qL,qL,ih _ c' hl]
 exact go l (0,1) ⟨by decide,by decide⟩ h
def NJ (hD:0<D)(hw:0<w):0<D/(Int.gcd D w:Nat)*w/\D∣D/(Int.gcd D w:Nat)*w/\w∣D/(Int.gcd D w:Nat)*w/\(D/(Int.gcd D w:Nat)*w).natAbs<=(D*w).natAbs:=by
 have g0:(0:Int)<(Int.gcd D w:Nat):=by have:=mJ D (show w≠0 by lia);lia
 have dl:=gg D w;have dr:=dZ D w;generalize ((Int.gcd D w:Nat):Int)=g at *
 obtain⟨q,rfl⟩:=dl;obtain⟨p,rfl⟩:=dr;rw[pY q (show g≠0 by lia)];have q0:0<q:=Kn hD g0;refine⟨Pol.pp q0 hw,⟨p,by grind⟩,Kf ..,?_⟩;rw[uU,uU (g*q)];refine CB _ ?_;have:1*q<=g*q:=zf (by lia) (by lia);lia
theorem IJ (x:α):∀n:Nat,(List.replicate n [x]).flatten=List.replicate n x
 |0=>rfl
 |n+1=>by rw[fA,rB,IJ x n];rfl
def Fl {α:Type}{f:α->Tr}{i n:Nat}{di:DE}{τ:xW}{KK:xW->Prop}{l:List α}{w:α}(h:yp τ i=.ow (l.map f))(hn:n<l.length)(hd:∀KK':Tr->Prop,KK' (.int n)->di τ KK')(k:KK (τ.set i (.ow ((l.set n w).map f)))):n5 i di (f w) τ KK:=by
 unfold n5;rw[h];refine hd _ ?_;have e:mC (l.map f) (f w) (n:Int)=some ((l.set n w).map f):=by show(if n<(l.map f).length then some ((l.map f).set n (f w)) else none)=_;rw[xK (by rw[xO];exact hn),List.map_set]
 show match mC (l.map f) (f w) (n:Int) with|some us=>KK (τ.set i (.ow us))|none=>False
 rw[e];exact k
instance (a b:F2):Decidable (jQ a b):=by unfold jQ;infer_instance
def jr (l:List (Pol.R3×F2)):Tr:=xh ((wsum k0 l).1,(wsum k1 l).1,(wsum k2 l).1.fdiv (wsum k2 l).2)
def QL:ye:=λts KK=>∃(xa:List Pol.R3) (ws:List F2),ts=[.tup (xa.map xh),.tup (ws.map fT)]/\WS xa ws/\KK (if jQ (wsum k0 (xa.zip ws)) (wsum k1 (xa.zip ws)) then jr (xa.zip ws) else .non)
theorem WS.bot (H:WS xa ws):0<(wsum k2 (xa.zip ws)).2/\Bd (wsum k2 (xa.zip ws)).2:=by
 have f:=J7 k2 (xa.zip ws) λx hx=>⟨(H.zip hx).2.sm,(H.zip hx).1.2⟩
 have:(xa.zip ws).length<=8:=by rw[List.length_zip];have:=H.l100;lia
 exact⟨f.pos,(f.bot.mono (show 1+51*(xa.zip ws).length<=500 by lia)).bd⟩
def wsT (ws:List F2):Tr:=.tup (ws.map fT)
def GW (n:Nat)(ws:List F2):Prop:=ws.length=n/\∀w∈ws,Wt w
end L2
namespace Trn
abbrev D2:=Int×Int
def cr (p q:D2):Int:=p.1*q.2-p.2*q.1
def sc (m:Int)(p:D2):D2:=(m*p.1,m*p.2)
def ad (p q:D2):D2:=(p.1+q.1,p.2+q.2)
def sb (p q:D2):D2:=(p.1-q.1,p.2-q.2)
def uq (p:D2):cr p p=0:=by unfold cr;grind
def kP (p q:D2):cr q p = - cr p q:=by unfold cr;grind
def gN (w p q:D2):cr w (ad p q)=cr w p+cr w q:=by unfold cr ad;grind
def vL (w p:D2)(m:Int):cr w (sc m p)=m*cr w p:=by unfold cr sc;grind
def sS (w p q:D2):cr w (sb p q)=cr w p-cr w q:=by unfold cr sb;grind
def oT (w p q:D2):cr (ad p q) w=cr p w+cr q w:=by unfold cr ad;grind
def ff (w p:D2)(m:Int):cr (sc m p) w=m*cr p w:=by unfold cr sc;grind
def fb (w p q:D2):cr (sb p q) w=cr p w-cr q w:=by unfold cr sb;grind
def nI (h:cr p q=1)(x:D2):x=ad (sc (cr x q) p) (sc (cr p x) q):=by
 have e1:cr x q*p.1+cr p x*q.1=x.1*cr p q:=by unfold cr;grind
 have e2:cr x q*p.2+cr p x*q.2=x.2*cr p q:=by unfold cr;grind
 rw[h] at e1 e2;apply zL
 .show x.1=cr x q*p.1+cr p x*q.1;lia
 .show x.2=cr x q*p.2+cr p x*q.2;lia
structure wc (h:List D2):Prop where
 one:∀i p q,h[i]?=some p->h[i+1]?=some q->cr p q=1
 mid:∀i p q r,h[i]?=some p->h[i+1]?=some q->h[i+2]?=some r->∃m,2<=m/\ad p r=sc m q
def ig {m a:Int}(h:2<=m)(ha:0<=a):2*a<=m*a:=zf h ha
theorem wc.right {h:List D2}(C:wc h)(w:D2){i:Nat}{p0 q0:D2}(hp:h[i]?=some p0)(hq:h[i+1]?=some q0)(h0:0<=cr w q0)(h1:cr w p0<=cr w q0) :
  ∀k p q,h[i+k]?=some p->h[i+k+1]?=some q->0<=cr w q/\cr w p<=cr w q
 |0,p,q,ep,eq=>by rw[show i+0=i from rfl] at ep eq;rw[hp] at ep;rw[hq] at eq;cases ep;cases eq;exact⟨h0,h1⟩
 |k+1,p,q,ep,eq=>by
  have il:i+k<h.length:=by have:=(zc.mp ep).1;lia
  obtain⟨a,b⟩:=C.right w hp hq h0 h1 k h[i+k] p (yA il) ep;obtain⟨m,hm,e⟩:=C.mid (i+k) _ p q (yA il) ep eq;have e':=zj (cr w) e;rw[gN,vL] at e';have:=ig hm a;lia
theorem wc.left {h:List D2}(C:wc h)(w:D2){i:Nat}{p0 q0:D2}(hp:h[i]?=some p0)(hq:h[i+1]?=some q0)(h0:0<=cr w p0)(h1:cr w q0<=cr w p0) :
  ∀k j p q,j+k=i->h[j]?=some p->h[j+1]?=some q->0<=cr w p/\cr w q<=cr w p
 |0,j,p,q,e,ep,eq=>by cases (show j=i by lia);rw[hp] at ep;rw[hq] at eq;cases ep;cases eq;exact⟨h0,h1⟩
 |k+1,j,p,q,ej,ep,eq=>by
  have il:j+2<h.length:=by have:=(zc.mp hq).1;lia
  obtain⟨a,b⟩:=C.left w hp hq h0 h1 k (j+1) q h[j+2] (by lia) eq (yA il);obtain⟨m,hm,e⟩:=C.mid j p q _ ep eq (yA il);have e':=zj (cr w) e;rw[gN,vL] at e';have:=ig hm a;lia
def wc.ge1 {h:List D2}(C:wc h){i:Nat}{p q:D2}(hp:h[i]?=some p)(hq:h[i+1]?=some q){j:Nat}{x:D2}(hx:h[j]?=some x):1<=cr (sb p q) x:=by
 have one:=C.one i p q hp hq;have gp:cr (sb p q) p=1:=by rw[fb,uq,kP p q];lia
 have gq:cr (sb p q) q=1:=by rw[fb,uq];lia
 have jl:=(zc.mp hx).1;have ql:=(zc.mp hq).1;have R:∀k y,h[i+k+1]?=some y->1<=cr (sb p q) y:=λk=>by
  induction k with
  |zero=>intro y ey;rw[hq] at ey;cases ey;lia
  |succ k ih=>
   intro y ey;have il:i+k+1<h.length:=by have:=(zc.mp ey).1;lia
   have a:=ih _ (yA il);have b:=C.right (sb p q) hp hq (by lia) (by lia) (k+1) _ y (yA il) ey;lia
 have L:∀k j y,j+k=i->h[j]?=some y->1<=cr (sb p q) y:=λk=>by
  induction k with
  |zero=>intro j y ej ey;cases (show j=i by lia);rw[hp] at ey;cases ey;lia
  |succ k ih=>
   intro j y ej ey;have il:j+1<h.length:=by lia
   have a:=ih (j+1) _ (by lia) (yA il);have b:=C.left (sb p q) hp hq (by lia) (by lia) (k+1) j y _ ej ey (yA il);lia
 by_cases c:j<=i
 .exact L (i-j) j x (by lia) hx
 .exact R (j-i-1) x (by rw[show i+(j-i-1)+1=j by lia];exact hx)
def wc.order {h:List D2}(C:wc h){i j:Nat}{p x:D2}(hp:h[i]?=some p)(hx:h[j]?=some x)(hij:i<j):1<=cr p x:=by
 have jl:=(zc.mp hx).1;have il:i+1<h.length:=by lia
 have hq:=yA il;have one:=C.one i p _ hp hq;have R:∀k y,h[i+k+1]?=some y->1<=cr p y:=λk=>by
  induction k with
  |zero=>intro y ey;rw[hq] at ey;cases ey;lia
  |succ k ih=>
   intro y ey;have il:i+k+1<h.length:=by have:=(zc.mp ey).1;lia
   have a:=ih _ (yA il);have b:=C.right p hp hq (by lia) (by rw[uq];lia) (k+1) _ y (yA il) ey;lia
 exact R (j-i-1) x (by rw[show i+(j-i-1)+1=j by lia];exact hx)
def InC (u v x:D2):Prop:=0<=cr u x/\0<=cr x v
def wc.made (C:wc h)(h2:2<=h.length)(hf:h[0]?=some f)(hl:h[h.length-1]?=some l)(hx:InC f l x) :
  ∃i p q,h[i]?=some p/\h[i+1]?=some q/\0<=cr x q/\0<=cr p x:=by
 have go:∀k i p,i+k=h.length-1->h[i]?=some p->0<=cr p x->i<h.length-1->∃i p q,h[i]?=some p/\h[i+1]?=some q/\0<=cr x q/\0<=cr p x:=λk=>by
  induction k with
  |zero=>intro i p e _ _ z;lia
  |succ k ih=>
   intro i p e hp h0 il;have jl:i+1<h.length:=by lia
   have hq:=yA jl;by_cases c:0<=cr x h[i+1]
   .exact⟨i,p,_,hp,hq,c,h0⟩
   .have s:=kP h[i+1] x;by_cases d:i+1=h.length-1
    .have e2:h[i+1]=l:=by rw[<-d,hq] at hl;cases hl;rfl
     rw[e2] at c;exact absurd hx.2 c
    .exact ih (i+1) _ (by lia) hq (by lia) (by lia)
 exact go (h.length-1) 0 f (by lia) hf hx.1 (by lia)
def wc.get_pair {h:List D2}(h2:2<=h.length){j:Nat}{x:D2}(hx:h[j]?=some x):∃i p q,h[i]?=some p/\h[i+1]?=some q/\(x=p\/x=q):=by
 have jl:=(zc.mp hx).1;by_cases c:j+1<h.length
 .exact⟨j,x,_,hx,yA c,.inl rfl⟩
 .have il:j-1<h.length:=by lia
  exact⟨j-1,_,x,yA il,by rw[show j-1+1=j by lia];exact hx,.inr rfl⟩
def bQ {a b:Int}(ha:0<=a)(hb:0<=b):0<=a*b:=Cf ha hb
def bN {a b:Int}(ha:0<=a)(hb:1<=b):a<=a*b:=by have:=we hb ha;lia
def wc.pos {h:List D2}(C:wc h){f l x:D2}(h2:2<=h.length)(hf:h[0]?=some f)(hl:h[h.length-1]?=some l)(hx:InC f l x)(nz:x≠(0,0)){i:Nat}{p q:D2}(hp:h[i]?=some p)(hq:h[i+1]?=some q) :
  1<=cr (sb p q) x:=by
 obtain⟨j,a,b,ha,hb,c1,c2⟩:=C.made h2 hf hl hx;have e:=nI (C.one j a b ha hb) x;have g1:=C.ge1 hp hq ha;have g2:=C.ge1 hp hq hb;have e':=zj (cr (sb p q)) e;rw[gN,vL,vL] at e';have m1:=bN c1 g1;have m2:=bN c2 g2;have:¬(cr x b=0/\cr a x=0):=λz=>by rw[z.1,z.2] at e;apply nz;rw[e];simp[ad,sc]
 lia
def ni (u v x:D2):Prop:=(InC u v x/\x≠(0,0))/\∀y z,InC u v y->InC u v z->y≠(0,0)->z≠(0,0)->x≠ad y z
def wc.inC {h:List D2}(C:wc h){f l x:D2}(hf:h[0]?=some f)(hl:h[h.length-1]?=some l){j:Nat}(hx:h[j]?=some x):InC f l x:=by
 have jl:=(zc.mp hx).1;constructor
 .by_cases c:j=0
  .subst c;rw[hf] at hx;cases hx;rw[uq];lia
  .have:=C.order hf hx (by lia);lia
 .by_cases c:j=h.length-1
  .rw[<-c] at hl;rw[hl] at hx;cases hx;rw[uq];lia
  .have:=C.order hx hl (by lia);lia
def wc.nz {h:List D2}(C:wc h)(h2:2<=h.length){j:Nat}{x:D2}(hx:h[j]?=some x):x≠(0,0):=λz=>by obtain⟨i,p,q,hp,hq,e⟩:=wc.get_pair h2 hx;have:=C.one i p q hp hq;rcases e with rfl|rfl<;>rw[z] at this<;>simp[cr] at this
def wc.least {h:List D2}(C:wc h){f l x:D2}(h2:2<=h.length)(hf:h[0]?=some f)(hl:h[h.length-1]?=some l):(∃j:Nat,h[j]?=some x)↔ni f l x:=by
 constructor
 .rintro⟨j,hx⟩;refine⟨⟨C.inC hf hl hx,C.nz h2 hx⟩,λy z hy hz ny nz' e=>?_⟩;obtain⟨i,p,q,hp,hq,ex⟩:=wc.get_pair h2 hx;have one:=C.one i p q hp hq;have gx:cr (sb p q) x=1:=by
   rcases ex with rfl|rfl
   .rw[fb,uq,kP x q];lia
   .rw[fb,uq];lia
  have g1:=C.pos h2 hf hl hy ny hp hq;have g2:=C.pos h2 hf hl hz nz' hp hq;rw[e,gN] at gx;lia
 .rintro⟨⟨hc,nz⟩,hs⟩;obtain⟨j,a,b,ha,hb,c1,c2⟩:=C.made h2 hf hl hc;have e:=nI (C.one j a b ha hb) x;have ca:=C.inC hf hl ha;have cb:=C.inC hf hl hb;generalize cr x b=al at e c1;generalize cr a x=be at e c2;have inc:∀s t:Int,0<=s->0<=t->InC f l (ad (sc s a) (sc t b)):=λs t hs ht=>by
   refine⟨?_,?_⟩
   .rw[gN,vL,vL];have:=bQ hs ca.1;have:=bQ ht cb.1;lia
   .rw[oT,ff,ff];have:=bQ hs ca.2;have:=bQ ht cb.2;lia
  have one:=C.one j a b ha hb;have nz2:∀s t:Int,ad (sc s a) (sc t b)=(0,0)->s=0/\t=0:=λs t z=>by
   have z1:cr (ad (sc s a) (sc t b)) b=0:=by rw[z];simp[cr]
   have z2:cr a (ad (sc s a) (sc t b))=0:=by rw[z];simp[cr]
   rw[oT,ff,ff,uq,one] at z1;rw[gN,vL,vL,uq,one] at z2;lia
  by_cases c:al+be<=1
  .have:(al=0/\be=0)\/(al=1/\be=0)\/(al=0/\be=1):=by lia
   rcases this with ⟨rfl,rfl⟩|⟨rfl,rfl⟩|⟨rfl,rfl⟩
   .exact absurd (by rw[e];simp[ad,sc]) nz
   .exact⟨j,by rw[ha,e];simp[ad,sc]⟩
   .exact⟨j+1,by rw[hb,e];simp[ad,sc]⟩
  .exfalso;by_cases d:1<=al
   .refine hs a (ad (sc (al-1) a) (sc be b)) ca (inc _ _ (by lia) c2) (C.nz h2 ha) (λz=>?_) ?_
    .have:=nz2 _ _ z;lia
    .rw[e];simp only[ad,sc];apply zL<;>simp only<;>grind
   .refine hs b (ad (sc al a) (sc (be-1) b)) cb (inc _ _ c1 (by lia)) (C.nz h2 hb) (λz=>?_) ?_
    .have:=nz2 _ _ z;lia
    .rw[e];simp only[ad,sc];apply zL<;>simp only<;>grind
def wc.snoc (C:wc (h0++[p,q]))(hm:2<=m):wc (h0++[p,q]++[sb (sc m q) p]):=by
 have ep:(h0++[p,q])[h0.length]?=some p:=by simp
 have eq':(h0++[p,q])[h0.length+1]?=some q:=by rw[mO (by lia)];simp[show h0.length+1-h0.length=1 by lia]
 have one:=C.one _ _ _ ep eq';have new:∀ {i x},(h0++[p,q]++[sb (sc m q) p])[i]?=some x->(i<h0.length+2/\(h0++[p,q])[i]?=some x)\/(i=h0.length+2/\x=sb (sc m q) p):=λ {i x} h=>by
  have l2:(h0++[p,q]).length=h0.length+2:=by simp
  by_cases c:i<h0.length+2
  .rw[oa (by lia)] at h;exact .inl ⟨c,h⟩
  .rw[mO (by lia),l2] at h;have il:=(zc.mp h).1;simp at il;have:i=h0.length+2:=by lia
   rw[this] at h;simp at h;exact .inr ⟨this,h.symm⟩
 refine⟨λi x y hx hy=>?_,λi x y z hx hy hz=>?_⟩
 .rcases new hy with ⟨c,hy⟩|⟨c,rfl⟩
  .rcases new hx with ⟨_,hx⟩|⟨d,_⟩
   .exact C.one i x y hx hy
   .lia
  .rcases new hx with ⟨_,hx⟩|⟨d,_⟩
   .rw[show i=h0.length+1 by lia,eq'] at hx;cases hx;rw[sS,vL,uq,kP p q];lia
   .lia
 .rcases new hz with ⟨c,hz⟩|⟨c,rfl⟩
  .rcases new hx with ⟨_,hx⟩|⟨d,_⟩
   .rcases new hy with ⟨_,hy⟩|⟨d,_⟩
    .exact C.mid i x y z hx hy hz
    .lia
   .lia
  .rcases new hx with ⟨_,hx⟩|⟨d,_⟩
   .rcases new hy with ⟨_,hy⟩|⟨d,_⟩
    .rw[show i=h0.length by lia,ep] at hx;cases hx;rw[show i+1=h0.length+1 by lia,eq'] at hy;cases hy;exact⟨m,hm,by apply zL<;>simp only[ad,sb,sc]<;>lia⟩
    .lia
   .lia
def Bx (n:Int)(p:D2):Prop:=(-n<=p.1/\p.1<=n)/\-n<=p.2/\p.2<=n
def nF (hD:0<D)(e:x*D=T*a+S*b)(hT:0<=T/\T<=D)(hS:0<=S/\S<=D)(ha:-M<=a/\a<=M)(hb:-M<=b/\b<=M):-(2*M)<=x/\x<=2*M:=by
 have hM:0<=M:=by lia
 have t1:T*a<=D*M:=Int.le_trans (we ha.2 hT.1) (zf hT.2 hM);have s1:S*b<=D*M:=Int.le_trans (we hb.2 hS.1) (zf hS.2 hM);have t2:-(D*M)<=T*a:=by
  have:=we ha.1 hT.1;have:=zf hT.2 hM;rw[qJ] at *
  lia
 have s2:-(D*M)<=S*b:=by
  have:=we hb.1 hS.1;have:=zf hS.2 hM;rw[qJ] at *
  lia
 constructor
 .refine ja (a:=D) ?_ hD;rw[e,qK,show 2*M*D=D*M+D*M by grind];lia
 .refine ja (a:=D) ?_ hD;rw[e,show 2*M*D=D*M+D*M by grind];lia
def fQ (f l x:D2):x.1*cr f l=cr x l*f.1+cr f x*l.1/\x.2*cr f l=cr x l*f.2+cr f x*l.2:=by unfold cr;constructor<;>grind
structure Run (f l:D2)(M:Int)(h0:List D2)(p q:D2):Prop where
 chn:wc (h0++[p,q])
 fst:(h0++[p,q])[0]?=some f
 s:0<=cr f p/\cr f p<cr f q
 t:0<=cr q l/\cr q l<cr p l/\cr p l<=cr f l
 len:(h0.length:Int)+cr q l<=cr f l
 bd:∀x∈h0++[p,q],Bx (2*M) x
theorem Run.one (R:Run f l M h0 p q):cr p q=1:=by refine R.chn.one h0.length p q (by simp) ?_;rw[mO (by lia)];simp[show h0.length+1-h0.length=1 by lia]
def cdiv (hb:0<b):0<=-((-a).fdiv b)*b-a/\-((-a).fdiv b)*b-a<b:=by rw[dY _ (by lia)];have h1:=dX (-a) (show b≠0 by lia);have h2:=rj (-a) hb;have h3:=Int.mul_ediv_add_emod (-a) b;rw[qK,vQ];lia
def Run.step (R:Run f l M h0 p q)(hf:Bx M f)(hl:Bx M l)(h0':0<cr q l)(em:m = -((-(cr p l)).fdiv (cr q l))) :
  2<=m/\m<=cr f l/\Run f l M (h0++[p]) q (sb (sc m q) p)/\cr (sb (sc m q) p) l<cr q l:=by
 obtain⟨t1,t2,t3⟩:=R.t;obtain⟨s1,s2⟩:=R.s;obtain⟨d1,d2⟩:=cdiv (a:=cr p l) h0';rw[<-em] at d1 d2;have m2:2<=m:=by refine rm.mp λz=>?_;have:m*cr q l<=1*cr q l:=zf (by lia) (by lia);lia
 have mD:m<=cr f l:=by refine rm.mp λz=>?_;have a:(cr f l+1)*cr q l<=m*cr q l:=zf (by lia) (by lia);have b:cr f l*1<=cr f l*cr q l:=we (by lia) (by lia);rw[Int.add_mul] at a;lia
 have sr:cr f (sb (sc m q) p)=m*cr f q-cr f p:=by rw[sS,vL]
 have tr:cr (sb (sc m q) p) l=m*cr q l-cr p l:=by rw[fb,ff]
 have sg:=ig m2 (show 0<=cr f q by lia);have C:=R.chn.snoc m2;rw[show h0++[p,q]++[sb (sc m q) p]=(h0++[p])++[q,sb (sc m q) p] by simp] at C;have key:wc (h0++[p]++[q,sb (sc m q) p])/\(0<=cr f q/\cr f q<cr f (sb (sc m q) p))/\(0<=cr (sb (sc m q) p) l/\cr (sb (sc m q) p) l<cr q l/\cr q l<=cr f l):=⟨C,⟨by lia,by lia⟩,by lia,by lia,by lia⟩
 have one':cr q (sb (sc m q) p)=1:=by rw[sS,vL,uq,kP p q,R.one];lia
 have sle:cr f (sb (sc m q) p)<=cr f l:=by have e:=zj (cr f) (nI one' l);rw[gN,vL,vL,kP (sb (sc m q) p) l] at e;have a:(cr (sb (sc m q) p) l+1)*cr f (sb (sc m q) p)<=cr q l*cr f (sb (sc m q) p):=zf (by lia) (by lia);have b:cr (sb (sc m q) p) l*cr f q<=cr (sb (sc m q) p) l*cr f (sb (sc m q) p):=we (by lia) (by lia);rw[Int.add_mul] at a;rw[qK] at e;lia
 refine⟨m2,mD,⟨C,?_,key.2.1,key.2.2,?_,λx hx=>?_⟩,by lia⟩
 .have e:h0++[p]++[q,sb (sc m q) p]=(h0++[p,q])++[sb (sc m q) p]:=by simp
  rw[e,oa (by simp)];exact R.fst
 .have:=R.len;simp only[zy,gB];lia
 .have e:h0++[p]++[q,sb (sc m q) p]=(h0++[p,q])++[sb (sc m q) p]:=by simp
  rw[e] at hx;rcases yy.mp hx with hx|hx
  .exact R.bd x hx
  .rw[zR.mp hx];obtain⟨e1,e2⟩:=fQ f l (sb (sc m q) p);exact⟨nF (by lia) e1 ⟨by lia,by lia⟩ ⟨by lia,sle⟩ hf.1 hl.1,nF (by lia) e2 ⟨by lia,by lia⟩ ⟨by lia,sle⟩ hf.2 hl.2⟩
def Run.stop (R:Run f l M h0 p q)(hg:Int.gcd l.1 l.2=1):cr q l=0↔q=l:=by
 constructor
 .intro z;have e:=nI R.one l;rw[kP q l,z] at e;have e1:l.1=cr p l*q.1:=by have:=zj Prod.fst e;simp only[ad,sc] at this;lia
  have e2:l.2=cr p l*q.2:=by have:=zj Prod.snd e;simp only[ad,sc] at this;lia
  have d:cr p l∣((Int.gcd l.1 l.2:Nat):Int):=jG ⟨q.1,e1⟩ ⟨q.2,e2⟩;rw[hg] at d;have t:=R.t;have:cr p l=1:=Int.eq_one_of_dvd_one (by lia) d;rw[this] at e1 e2;exact zL (by lia) (by lia)
 .intro e;rw[e,uq]
def gd (p:D2):Int:=(Int.gcd p.1 p.2:Nat)
def yL (p:D2):D2:=(p.1/gd p,p.2/gd p)
def qc (h:p≠(0,0)):0<gd p:=by
 unfold gd;have:0<Int.gcd p.1 p.2:=Int.gcd_pos_iff.mpr (by
  by_cases c:p.1=0
  .exact .inr λz=>h (zL c z)
  .exact .inl c)
 lia
def fi (h:p≠(0,0)):p=sc (gd p) (yL p):=by
 apply zL
 .exact(d_ (gg p.1 p.2)).symm
 .exact(d_ (dZ p.1 p.2)).symm
def J1 (h:p≠(0,0)):Int.gcd (yL p).1 (yL p).2=1:=by have g0:=qc h;unfold gd at g0;exact Int.gcd_ediv_gcd_ediv_gcd (by lia)
def pP (h:p≠(0,0))(b:Bx n p):Bx n (yL p):=by
 have g0:=qc h;have e:=fi h;have k:∀ {a c g:Int},a=g*c->0<g->(-n<=a/\a<=n)->-n<=c/\c<=n:=λ {a c g} e hg hb=>by
  by_cases z:0<=c
  .have:1*c<=g*c:=zf (by lia) z;lia
  .have:g*c<=1*c:=Int.mul_le_mul_of_nonpos_right (by lia) (by lia);lia
 exact⟨k (zj Prod.fst e) g0 b.1,k (zj Prod.snd e) g0 b.2⟩
def sR (h:0<cr u v):u≠(0,0)/\v≠(0,0):=by constructor<;>intro z<;>rw[z] at h<;>simp[cr] at h
def J0 (h:0<cr u v):cr u v=gd u*(gd v*cr (yL u) (yL v))/\0<cr (yL u) (yL v):=by
 obtain⟨hu,hv⟩:=sR h;have e:cr u v=gd u*(gd v*cr (yL u) (yL v)):=by
  conv=>lhs;rw[fi hu,fi hv]
  rw[ff,vL]
 refine⟨e,?_⟩;have a:=qc hu;have b:=qc hv;rw[e] at h;exact Kn (Kn h a) b
def HS {g a:Int}(h:0<g):0<=g*a↔0<=a:=by
 constructor
 .intro z;refine rm.mp λc=>?_;have:=jH h c;lia
 .exact λz=>Cf (yo h) z
def fZ {u v x:D2}(h:0<cr u v):InC (yL u) (yL v) x↔InC u v x:=by obtain⟨hu,hv⟩:=sR h;unfold InC;have e1:cr u x=gd u*cr (yL u) x:=(zj (λy=>cr y x) (fi hu)).trans (ff _ _ _);have e2:cr x v=gd v*cr x (yL v):=(zj (λy=>cr x y) (fi hv)).trans (vL _ _ _);rw[e1,e2,HS (qc hu),HS (qc hv)]
def inS (u v x:D2):Bool:=decide (((0<=cr x v/\cr x v<=cr u v)/\0<=cr u x/\cr u x<=cr u v)/\x≠(0,0))
def ni.parts (h:0<cr f l)(L:ni f l x):cr x l<=cr f l/\cr f x<=cr f l:=by
 obtain⟨⟨⟨c1,c2⟩,nz⟩,hs⟩:=L;obtain⟨nf,nl⟩:=sR h;have e:∀a b:D2,a=ad b (sb a b):=λa b=>by apply zL<;>simp only[ad,sb]<;>lia
 constructor
 .refine rm.mp λz=>hs f (sb x f) ⟨by rw[uq];lia,by lia⟩ ⟨by rw[sS,uq];lia,by rw[fb];lia⟩ nf (λw=>?_) (e x f);have:cr (sb x f) l=0:=by rw[w];simp[cr]
  rw[fb] at this;lia
 .refine rm.mp λz=>hs l (sb x l) ⟨by lia,by rw[uq];lia⟩ ⟨by rw[sS];lia,by rw[fb,uq];lia⟩ nl (λw=>?_) (e x l);have:cr f (sb x l)=0:=by rw[w];simp[cr]
  rw[sS] at this;lia
def tN (h:inS u v x=true):InC u v x/\x≠(0,0):=by have h:=yV h;exact⟨⟨h.1.2.1,h.1.1.1⟩,h.2⟩
def NL (h:0<cr u v):(inS u v x=true/\∀p,inS u v p=true->inS u v (sb x p)=true->False)↔ni (yL u) (yL v) x:=by
 obtain⟨eD,hD⟩:=J0 h;obtain⟨hu,hv⟩:=sR h;constructor
 .rintro⟨hx,hs⟩;refine⟨⟨(fZ h).mpr (tN hx).1,(tN hx).2⟩,λy z hy hz ny nz e=>?_⟩;have hy:=(fZ h).mp hy;have hz:=(fZ h).mp hz;have hx:=yV hx;have ez:sb x y=z:=by rw[e];apply zL<;>simp only[ad,sb]<;>lia
  have e1:cr x v=cr y v+cr z v:=by rw[e,oT]
  have e2:cr u x=cr u y+cr u z:=by rw[e,gN]
  obtain⟨hy1,hy2⟩:=hy;obtain⟨hz1,hz2⟩:=hz;refine hs y (wI ⟨⟨⟨hy2,by lia⟩,hy1,by lia⟩,ny⟩) ?_;rw[ez];exact wI ⟨⟨⟨hz2,by lia⟩,hz1,by lia⟩,nz⟩
 .intro L;obtain⟨p1,p2⟩:=L.parts hD;have c:=(fZ h).mp L.1.1;have e1:cr x v=gd v*cr x (yL v):=(zj (λy=>cr x y) (fi hv)).trans (vL _ _ _);have e2:cr u x=gd u*cr (yL u) x:=(zj (λy=>cr y x) (fi hu)).trans (ff _ _ _);have gu:=qc hu;have gv:=qc hv;have b1:cr x v<=cr u v:=by rw[e1,eD];have a1:gd v*cr x (yL v)<=gd v*cr (yL u) (yL v):=we p1 (by lia);have a2:=bN (a:=gd v*cr (yL u) (yL v)) (b:=gd u) (Cf (by lia) (by lia)) (by lia);rw[vQ _ (gd u)] at a2;lia
  have b2:cr u x<=cr u v:=by rw[e2,eD];have a1:gd u*cr (yL u) x<=gd u*cr (yL u) (yL v):=we p2 (by lia);have a2:=bN (a:=cr (yL u) (yL v)) (b:=gd v) (by lia) (by lia);rw[vQ _ (gd v)] at a2;have a3:=we a2 (show 0<=gd u by lia);lia
  refine⟨wI ⟨⟨⟨c.2,b1⟩,c.1,b2⟩,L.1.2⟩,λp hp hq=>?_⟩;have hp:=tN hp;have hq:=tN hq;refine L.2 p (sb x p) ((fZ h).mpr hp.1) ((fZ h).mpr hq.1) hp.2 hq.2 ?_;apply zL<;>simp only[ad,sb]<;>lia
structure v9 (u v:D2)(h:List D2):Prop where
 chn:wc h
 l2:2<=h.length
 len:h.length<=100000
 fst:h[0]?=some (yL u)
 lst:h[h.length-1]?=some (yL v)
 bd:∀x∈h,Bx 1000 x
def v9.mem {u v x:D2}{h:List D2}(hD:0<cr u v)(B:v9 u v h):x∈h↔(inS u v x=true/\∀p,inS u v p=true->inS u v (sb x p)=true->False):=by rw[NL hD,<-B.chn.least B.l2 B.fst B.lst];exact List.mem_iff_getElem?
end Trn
namespace L2
open PySem Trn
def y7 (p:D2):Tr:=drT p.1 p.2
def Et (hn:n<=1000000)(hu:Bx n u)(hv:Bx n v):L4 u.1 u.2 v.1 v.2:=by unfold Bx at hu hv;unfold L4 L24;lia
def sN (hn:n<=1000000)(hu:Bx n u):Bd u.1/\Bd u.2:=⟨kO (by unfold Bx at hu;lia),kO (by unfold Bx at hu;lia)⟩
def _root_.Trn.Bx.mono (h:Bx n u)(hm:n<=m):Bx m u:=by unfold Bx at *;lia
def nH (hu:Bx n u)(hv:Bx n v):-(2*(n*n))<=cr u v/\cr u v<=2*(n*n):=by
 obtain⟨k,rfl⟩:∃k:Nat,n=(k:Int):=⟨n.toNat,by unfold Bx at hu;lia⟩
 have a:=bO hu.1 hv.2;have b:=bO hu.2 hv.1;rw[Int.natCast_mul] at a b;unfold cr;lia
def Rp:ye:=λts KK=>∃p:D2,ts=[y7 p]/\p≠(0,0)/\Bx 1000 p/\KK (y7 (yL p))
def Q4:ye:=λts KK=>∃a b:Int,ts=[.int a,.int b]/\((-200<=a/\a<=200)/\-200<=b/\b<=200)/\Int.gcd a b=1/\∀p q:Int,a*p+b*q=1->Bk 1700 p->Bk 1700 q->KK (.tup [.int p,.int q])
def Q8:ye:=λts KK=>∃f l:D2,ts=[y7 f,y7 l]/\Bx 200 f/\Bx 200 l/\Int.gcd f.1 f.2=1/\0<cr f l/\∀q:D2,cr f q=1->0<=cr q l->cr q l<cr f l->KK (y7 q)
def Q7:ye:=λts KK=>∃p q l:D2,ts=[y7 p,y7 q,y7 l]/\(Bx 1000 p/\Bx 1000 q/\Bx 1000 l)/\0<cr q l/\KK (y7 (sb (sc (-((-(cr p l)).fdiv (cr q l))) q) p))
def Qo:ye:=λts KK=>∃u v:D2,ts=[y7 u,y7 v]/\Bx 200 u/\Bx 200 v/\0<cr u v/\∀h,v9 u v h->KK (.lst (h.map y7))
def JT (p q:D2):zz (y7 p) (y7 q)=decide (p=q):=a_ p q
def Ms (p q:D2):gF (y7 p) (y7 q):=⟨rfl,rfl,by show min 1 1<=64;decide⟩
def FO {a b:Int}(hb:b≠0):(a.fmod b).natAbs<b.natAbs:=by
 rw[Int.fmod_eq_emod];have h1:=dX a hb;have h2:=Int.emod_lt a hb;split
 .lia
 .rename_i c;have hn:¬0<=b:=λz=>c (.inl z);have:a%b≠0:=λz=>c (.inr (Kg z));lia
def bh {a b:Int}(hb:b≠0):(a.fdiv b).natAbs<=a.natAbs+1:=by
 have e:=Int.mul_fdiv_add_fmod a b;have m:=FO (a:=a) hb;have e2:(b*a.fdiv b).natAbs=b.natAbs*(a.fdiv b).natAbs:=uU _ _;have e3:(b*a.fdiv b).natAbs<=a.natAbs+b.natAbs:=by lia
 rw[e2] at e3;refine Nat.not_lt.mp λz=>?_;have h1:b.natAbs*(a.natAbs+2)<=b.natAbs*(a.fdiv b).natAbs:=Nat.mul_le_mul_left _ (by lia);have h2:1*a.natAbs<=b.natAbs*a.natAbs:=CB _ (by lia);rw[Nat.mul_add] at h1;lia
def fmod_eq (a b:Int):a-a.fdiv b*b=a.fmod b:=by have e:=Int.mul_fdiv_add_fmod a b;rw[vQ] at e;lia
def MU (a b:Int):Int.gcd b (a.fmod b)=Int.gcd a b:=by
 rw[<-fmod_eq,Int.gcd_comm a b];apply Nat.dvd_antisymm
 .refine Int.dvd_gcd (gg _ _) ?_;have h1:=gg b (a-a.fdiv b*b);have h2:=dZ b (a-a.fdiv b*b);have:=Int.dvd_add h2 (Int.dvd_mul_of_dvd_right (b:=a.fdiv b) h1);rwa [show a-a.fdiv b*b+a.fdiv b*b=a by lia] at this
 .exact Int.dvd_gcd (gg _ _) (Int.dvd_sub (dZ _ _) (Int.dvd_mul_of_dvd_right (gg _ _)))
def Ld (ts:List α)(x y:α):atT (ts++[x,y]) (-2)=some x:=by
 show(if 1<(ts++[x,y]).length then getT (ts++[x,y]) ((ts++[x,y]).length-1-1) else none)=_;have e:(ts++[x,y]).length=ts.length+2:=by simp
 rw[e,xK (by lia),tL,show ts.length+2-1-1=ts.length by lia];simp
def yf (xa:List Pol.R3)(i:Nat):Pol.R3:=xa.getD i (0,0,0)
def xg (xa:List Pol.R3)(i:Nat):D2:=((yf xa i).1,(yf xa i).2.1)
def me (h:i<xa.length):xa[i]?=some (yf xa i):=by unfold yf;rw[jK,yA h];rfl
def qm (h:i<xa.length):yf xa i∈xa:=zG (me h)
def ub (xa:List Pol.R3)(n:Nat)(acc:Option Nat)(o:Nat):Option Nat:=if 0<cr (xg xa n) (xg xa o) then(match acc with|none=>some o|some m=>if 0<cr (xg xa o) (xg xa m) then some o else some m) else acc
def dq (xa:List Pol.R3)(nums:List Nat)(n:Nat):Option Nat:=nums.foldl (ub xa n) none
theorem bS:∀(nums:List Nat) (acc:Option Nat),(∀m,acc=some m->0<cr (xg xa n) (xg xa m))->
  (∀m,nums.foldl (ub xa n) acc=some m->0<cr (xg xa n) (xg xa m)/\(m∈nums\/acc=some m))/\((acc≠none\/∃o∈nums,0<cr (xg xa n) (xg xa o))->nums.foldl (ub xa n) acc≠none)
 |[],acc,h=>⟨λm e=>⟨h m e,.inr e⟩,λz=>z.elim id λ⟨o,ho,_⟩=>absurd ho (by simp)⟩
 |o::nums,acc,h=>by
  have h':∀m,ub xa n acc o=some m->0<cr (xg xa n) (xg xa m)/\(m=o\/acc=some m):=λm e=>by
   unfold ub at e;split at e
   .rename_i c;cases acc with
    |none=>cases e;exact⟨c,.inl rfl⟩
    |some k=>
     dsimp only at e;split at e
     .cases e;exact⟨c,.inl rfl⟩
     .cases e;exact⟨h _ rfl,.inr rfl⟩
   .exact⟨h m e,.inr e⟩
  obtain⟨g1,g2⟩:=bS nums (ub xa n acc o) λm e=>(h' m e).1;refine⟨λm e=>?_,λz=>g2 ?_⟩
  .obtain⟨p,q⟩:=g1 m e;refine⟨p,?_⟩;rcases q with q|q
   .exact .inl (yJ _ q)
   .rcases(h' m q).2 with r|r
    .exact .inl (by rw[r];exact xT)
    .exact .inr r
  .have keep:acc≠none->ub xa n acc o≠none:=λa=>by
    unfold ub;split
    .cases acc with
     |none=>exact absurd rfl a
     |some k=>dsimp only;split<;>exact λz=>nomatch z
    .exact a
   rcases z with z|⟨o',ho,c⟩
   .exact .inl (keep z)
   .rcases xU.mp ho with rfl|ho
    .left;unfold ub;rw[xK c];cases acc with
     |none=>exact λz=>nomatch z
     |some k=>dsimp only;split<;>exact λz=>nomatch z
    .exact .inr ⟨o',ho,c⟩
def ve (xa:List Pol.R3)(nums:List Nat):List (Nat×Nat):=nums.filterMap λn=>(dq xa nums n).map λm=>(n,m)
theorem aX (h:ij∈ve xa nums):ij.1∈nums/\ij.2∈nums/\0<cr (xg xa ij.1) (xg xa ij.2):=by
 obtain⟨n,hn,e⟩:=Ct.mp h;cases q:dq xa nums n with
 |none=>rw[q] at e;cases e
 |some m=>rw[q] at e;cases e;obtain⟨p,r⟩:=(bS (xa:=xa) (n:=n) nums none (λm e=>nomatch e)).1 m q;exact⟨hn,r.resolve_right (λz=>nomatch z),p⟩
def fj (n i j:Nat)(p q:Int):List Int:=((List.replicate n (0:Int)).set i p).set j q
def wtw (n i j:Nat)(p q T:Int):List F2:=(fj n i j p q).map λm=>lfr m T
def lin (k:Pol.R3->Int)(xa:List Pol.R3)(ns:List Int):Int:=((xa.zip ns).map λx=>x.2*k x.1).sum
theorem GU (k:Pol.R3->Int):∀(xa:List Pol.R3) (n:Nat),lin k xa (List.replicate n 0)=0
 |[],n=>by simp[lin]
 |r::xa,0=>by simp[lin]
 |r::xa,n+1=>by
  have:=GU k xa n;unfold lin at *
  simp only[fA,sD,vS,Cz];lia
theorem l7 (k:Pol.R3->Int):∀(xa:List Pol.R3) (ns:List Int) (i:Nat) (p:Int),i<ns.length->i<xa.length->lin k xa (ns.set i p)=lin k xa ns+(p-ns.getD i 0)*k (yf xa i)
 |[],_,_,_,_,h=>by simp at h
 |_::_,[],_,_,h,_=>by simp at h
 |r::xa,m::ns,0,p,_,_=>by simp only[lin,List.set_cons_zero,sD,vS,Cz,yf,List.getD_cons_zero];rw[Int.sub_mul];lia
 |r::xa,m::ns,i+1,p,h1,h2=>by
  have:=l7 k xa ns i p (by simpa using h1) (by simpa using h2);simp only[lin,List.set_cons_succ,sD,vS,Cz,yf,List.getD_cons_succ] at *
  lia
def NW (k:Pol.R3->Int)(p q:Int)(hi:i<xa.length)(hj:j<xa.length)(ne:i≠j):lin k xa (fj xa.length i j p q)=p*k (yf xa i)+q*k (yf xa j):=by
 unfold fj;rw[l7 k xa _ j q (by simp;lia) hj,l7 k xa _ i p (by simp;lia) hi,GU];have e1:(List.replicate xa.length (0:Int)).getD i 0=0:=by rw[jK,Kt,xK hi];rfl
 have e2:((List.replicate xa.length (0:Int)).set i p).getD j 0=0:=by rw[jK,rC ne,Kt,xK hj];rfl
 rw[e1,e2,Cj,Cj];lia
def Tn (hT:0<T):Sd (lfr m T) m T:=by rw[q9 hT];exact aW hT
def To (h:Sd w n D):Sd (ua w (r,1)) (n*r) D:=by
 refine Sd.lfr (by have:=h.pf;show 0<w.2*1;lia) h.pd ?_ rfl;have:=h.e;show w.1*r*D=n*r*(w.2*1)
 grind
def Tp (k:Pol.R3->Int)(hT:0<T)(xa:List Pol.R3)(ns:List Int):Sd (wsum k (xa.zip (ns.map λm=>lfr m T))) (lin k xa ns) T:=by
 have go:∀(xa:List Pol.R3) (ns:List Int) (f:F2) (N:Int),Sd f N T->Sd ((xa.zip (ns.map λm=>lfr m T)).foldl (kI k) f) (N+lin k xa ns) T:=λxa=>by
  induction xa with
  |nil=>intro ns f N h;simpa [lin] using h
  |cons r xa ih=>
   intro ns f N h;cases ns with
   |nil=>simpa [lin] using h
   |cons m ns=>
    have:=ih ns (kI k f (r,lfr m T)) (N+m*k r) (h.plusD (To (Tn hT)));rw[vS,sD,qL];have e:N+lin k (r::xa) (m::ns)=N+m*k r+lin k xa ns:=by simp only[lin,sD,vS,Cz];lia
    rw[e];exact this
 have:=go xa ns (0,1) 0 ⟨by decide,hT,by show(0:Int)*T=0*1;lia⟩;rw[mK] at this;exact this
def Sd.floor (h:Sd f N D):f.1/f.2=N/D:=by have e:=h.e;have a:f.1/f.2=(f.1*D)/(f.2*D):=(Cd f.1 f.2 h.pd).symm;rw[a,e,vQ f.2 D];exact Cd N D h.pf
def EM (n:Int):Cop (n,1):=⟨by show(0:Int)<1;decide,by show Int.gcd n 1=1;simp⟩
end L2
namespace L2
open PySem PySem.Spec PyProof.Rows
open Builtin.SmallTypes (nextOf)
section
variable {prog:Program} {w:World} {A:Around} {E:Value->Shared->Prop} {s:Shared} {z ti to i1 i2 i3 a1 a2 a3:Addr} {vs us ws:List Value} {t1 t2 t3:Nat->Heap->Prop} {s1 s2 s3:Heap->Prop}
end
end L2
namespace L2
open PySem PySem.Spec PyProof.Rows
section
variable {prog:Program} {w:World} {A:Around} {E:Value->Shared->Prop} {s:Shared}
end
section
variable {P:Program} {w:World} {K:xt} {z ti to i1 i2 i3 a1 a2 a3:Addr} {b c' e':Bool}
end
section
variable {X:Cx}
end
section
variable {K:xt}
end
open Builtin.SmallTypes (nextOf)
section
variable {prog:Program} {w:World} {A:Around} {E:Value->Shared->Prop} {s:Shared} {z ti to i1 i2 a1 a2:Addr} {vs us:List Value} {t1 t2:Nat->Heap->Prop} {s1 s2:Heap->Prop}
end
section
variable {P:Program} {w:World} {K:xt} {z ti to i1 i2 a1 a2:Addr} {b c':Bool}
end
section
variable {X:Cx}
end
end L2
namespace L2
open PySem Trn
def Rx (nz:x≠(0,0))(c:Trn.InC u v x):gW u.1 u.2 v.1 v.2 (y7 x)=.tup [j0 (cr x v) (cr u v),j0 (cr u x) (cr u v)]:=by
 have e1:gW u.1 u.2 v.1 v.2 (y7 x)=if x.1=0/\x.2=0 then .non else if tn x.1 x.2 v.1 v.2<0\/tn u.1 u.2 x.1 x.2<0 then .non else .tup [j0 (tn x.1 x.2 v.1 v.2) (tn u.1 u.2 v.1 v.2),j0 (tn u.1 u.2 x.1 x.2) (tn u.1 u.2 v.1 v.2)]:=rfl
 rw[e1,xH (λz=>nz (zL z.1 z.2)),xH]
 .rfl
 .have a:tn x.1 x.2 v.1 v.2=cr x v:=rfl;have b:tn u.1 u.2 x.1 x.2=cr u x:=rfl;rw[a,b];have:=c.1;have:=c.2;lia
def Lo (hn:n<=1000000)(hu:Bx n u):L24 u.1/\L24 u.2:=by unfold Bx at hu;unfold L24;lia
end L2
namespace L2
open PySem PySem.Spec PySem.Calls PyProof.Rows
section
variable {X:Cx} {xf:List (Addr×Obj)} {σ:St} {H H':Hp} {s s':Shared} {ea C:Addr}
end
end L2
namespace L2
open PySem PySem.Spec PyProof.Rows
section
variable {X:Cx} {a b:Expr} {rest:List Expr} {ta tb:TE} {pos:Pos}
end
section
variable {K:xt} {fr:Bool}
end
section
variable {P:Program} {w:World} {K:xt} {mg:Str->Option Value} {base:Heap} {k n:Nat} {x qual:Str} {st:Stmt} {f:Addr} {fd:FuncData} {N ps:List Str} {fr:Bool} {sp:ye}
end
end L2
namespace L2
open PySem
theorem wG.ws {xa:List Pol.R3}{ws:List F2}(hf:yD xa=true)(h:GW xa.length ws):WS xa ws:=⟨h.1.symm,(wG hf).1.2,λr hr=>jT ((wG hf).2.1 r hr).2,h.2⟩
def QO:ye:=λts KK=>∃t,ts=[t]/\KK (.bl (af t))
end L2
namespace Pol
def sw (p:R3):R3:=(p.2.1,p.1,p.2.2)
end Pol
namespace L2
open PySem PySem.Spec PyProof.Rows
structure PSd (p:P2)(v:Pol.R3):Prop where
 x:Sd p.1 v.1 v.2.2
 y:Sd p.2 v.2.1 v.2.2
def RN (h:0<v.2.2):PSd (xn v) v:=⟨sdx h,sdy h⟩
def PSd.val (h:PSd p v)(r:Pol.R3):Sd (zm r p) (r.1*v.1+r.2.1*v.2.1) v.2.2:=by refine Sd.lfr (Pol.pp h.x.pf h.y.pf) h.x.pd ?_ rfl;have:=h.x.e;have:=h.y.e;grind
def mid (p q:P2)(f:F2):P2:=(vW (ua p.1 (fmin (1,1) f)) (ua q.1 f),vW (ua p.2 (fmin (1,1) f)) (ua q.2 f))
def Lb {f:Pol.R3->Tr}{l:List Pol.R3}{i:Nat}{v:Pol.R3}(h:l[i]?=some v):∃u,u∈l/\(y9 l)[i]?=some (u,v)/\atT (l.map f) ((i:Int)-1)=some (f u):=by
 obtain⟨u,hu,hc,hw⟩:=E1 h;refine⟨u,hu,hc,?_⟩;rcases hw with ⟨rfl,ys,e⟩|⟨h0,e⟩
 .rw[e,uo];exact rP (ys.map f) (f u)
 .rw[show((i:Int)-1)=((i-1:Nat):Int) by lia,fO,vh,e];rfl
def FN {f g h:F2}(pf:0<f.2)(pg:0<g.2)(ph:0<h.2)(h1:f.1*g.2<=g.1*f.2)(h2:g.1*h.2<=h.1*g.2):f.1*h.2<=h.1*f.2:=by
 have e1:(f.1*g.2)*h.2<=(g.1*f.2)*h.2:=zf h1 (by lia);have e2:(g.1*h.2)*f.2<=(h.1*g.2)*f.2:=zf h2 (by lia);have e3:(f.1*h.2)*g.2<=(h.1*f.2)*g.2:=by
  have:(f.1*g.2)*h.2=(f.1*h.2)*g.2:=by grind
  have:(g.1*f.2)*h.2=(g.1*h.2)*f.2:=by grind
  have:(h.1*g.2)*f.2=(h.1*f.2)*g.2:=by grind
  lia
 exact ja e3 pg
theorem FH {a b:Int}{best:Option F2}{p:P2}:∃h,jS a b best p=some h/\(zm (a,b,0) p).1*h.2<=h.1*(zm (a,b,0) p).2/\∀g,best=some g->g.1*h.2<=h.1*g.2:=by
 cases best with
 |none=>exact⟨_,rfl,wF _,λg z=>nomatch z⟩
 |some f=>
  cases d:ur f (zm (a,b,0) p) with
  |true=>refine⟨_,MF d,wF _,λg z=>?_⟩;cases z;have:=yV d;lia
  |false=>
   refine⟨_,ME d,?_,λg z=>?_⟩
   .have:=zZ d;lia
   .cases z;exact wF _
theorem MG {a b:Int}(ps:List P2)(hp:∀p∈ps,0<p.1.2/\0<p.2.2):∀(best:Option F2) (f:F2),(∀g,best=some g->0<g.2)->ps.foldl (jS a b) best=some f->(∀g,best=some g->g.1*f.2<=f.1*g.2)/\∀p∈ps,(zm (a,b,0) p).1*f.2<=f.1*(zm (a,b,0) p).2:=by
 induction ps with
 |nil=>intro best f hb h;refine⟨λg hg=>?_,λp hp=>by simp at hp⟩;have h:best=some f:=h;rw[h] at hg;cases hg;exact wF _
 |cons p ps ih=>
  intro best f hb h;obtain⟨s,hs,h1,h2⟩:=FH (a:=a) (b:=b) (best:=best) (p:=p);rw[qL,hs] at h;have pp:=FX (a:=a) (b:=b) (c:=0) (hp p xT);have sp:0<s.2:=by
   rcases FI hs with q|q
   .exact hb s q
   .rw[q];exact pp
  have fp:0<f.2:=by
   rcases FJ ps (some s) h with q|⟨p',hm,e⟩
   .cases q;exact sp
   .rw[e];exact FX (hp p' (yJ _ hm))
  obtain⟨k1,k2⟩:=ih (λq hq=>hp q (yJ _ hq)) (some s) f (λg hg=>by cases hg;exact sp) h;have k1:=k1 s rfl;refine⟨λg hg=>FN (hb g hg) sp fp (h2 g hg) k1,λq hq=>?_⟩;rcases xU.mp hq with e|hq
  .rw[e];exact FN pp sp fp h1 k1
  .exact k2 q hq
def MO (h:0<v.2.2):fY r (xn v)=true↔val r v=0:=by unfold fY;rw[qp];have s:=(RN h).val r;have e:=s.eq (Jl (f:=(r.2.2,1)) (by show(0:Int)<1;decide));simp only[gy] at e;rw[e];unfold val;lia
section
variable {xa:List Pol.R3} (FR:zd xa) {r v:Pol.R3} (hr:r∈xa) (hv:v∈xS xa) (ht:fY r (xn v)=true)
include FR hr
include hv ht
end
end L2
namespace L2
open PySem Trn
abbrev SX:=(Nat×Nat)×D2
def vF (xa:List Pol.R3)(x:SX):List F2:=wtw xa.length x.1.1 x.1.2 (cr x.2 (xg xa x.1.2)) (cr (xg xa x.1.1) x.2) (cr (xg xa x.1.1) (xg xa x.1.2))
def yS (xa:List Pol.R3)(x:SX):Pol.R3:=((wsum k0 (xa.zip (vF xa x))).1,(wsum k1 (xa.zip (vF xa x))).1,(wsum k2 (xa.zip (vF xa x))).1.fdiv (wsum k2 (xa.zip (vF xa x))).2)
def ug (xa:List Pol.R3)(x:SX):Tr:=.tup [wsT (vF xa x),xh (yS xa x)]
structure z_ (xa:List Pol.R3)(x:SX):Prop where
 i1:x.1.1<xa.length
 i2:x.1.2<xa.length
 pos:0<cr (xg xa x.1.1) (xg xa x.1.2)
 inc:Trn.InC (xg xa x.1.1) (xg xa x.1.2) x.2
 nz:x.2≠(0,0)
 bx:Bx 1000 x.2
def k7 (hf:yD xa=true)(h:i<xa.length):Bx 30 (xg xa i):=by obtain⟨⟨a,b⟩,_⟩:=((wG hf).2.1 _ (qm h)).2;exact⟨a,b⟩
def z_.ne (G:z_ xa x):x.1.1≠x.1.2:=λe=>by have:=G.pos;rw[e,uq] at this;lia
def Ul (h:m∈fj n i j p q):m=0\/m=p\/m=q:=by
 unfold fj at h;rcases List.mem_or_eq_of_mem_set h with h|h
 .rcases List.mem_or_eq_of_mem_set h with h|h
  .exact .inl (List.mem_replicate.mp h).2
  .exact .inr (.inl h)
 .exact .inr (.inr h)
def lx (hu:Bx 30 u)(hv:Bx 1000 v):-60000<=cr u v/\cr u v<=60000:=by
 have go:∀ {a b:Int},(-30<=a/\a<=30)->(-1000<=b/\b<=1000)->-30000<=a*b/\a*b<=30000:=λ {a b} ha hb=>by
  have h1:(a*b).natAbs<=30*1000:=by rw[uU];exact oq (by lia) (by lia)
  lia
 have:=go hu.1 hv.2;have:=go hu.2 hv.1;unfold cr;lia
def z_.sm (hf:yD xa=true)(G:z_ xa x):(cr x.2 (xg xa x.1.2)<=60000/\cr (xg xa x.1.1) x.2<=60000)/\cr (xg xa x.1.1) (xg xa x.1.2)<=60000:=by have a:=lx (k7 hf G.i2) G.bx;have b:=lx (k7 hf G.i1) G.bx;have c:=lx (k7 hf G.i1) ((k7 hf G.i2).mono (by decide));rw[kP] at a;lia
def z_.gw (hf:yD xa=true)(G:z_ xa x):GW xa.length (vF xa x):=by refine⟨by simp[vF,wtw,fj],λw hw=>?_⟩;obtain⟨m,hm,rfl⟩:=zQ.mp hw;have S:=G.sm hf;have p:=G.pos;have i:=G.inc;refine Uu ?_ (by lia);unfold Trn.InC at i;rcases Ul hm with rfl|rfl|rfl<;>lia
def z_.lin (G:z_ xa x)(k:Pol.R3->Int):Sd (wsum k (xa.zip (vF xa x))) (cr x.2 (xg xa x.1.2)*k (yf xa x.1.1)+cr (xg xa x.1.1) x.2*k (yf xa x.1.2)) (cr (xg xa x.1.1) (xg xa x.1.2)):=by have:=Tp k G.pos xa (fj xa.length x.1.1 x.1.2 (cr x.2 (xg xa x.1.2)) (cr (xg xa x.1.1) x.2));rw[NW k _ _ G.i1 G.i2 G.ne] at this;exact this
def Jm (h:Sd f (n*T) T)(c:Cop f):f=(n,1):=by have a:=h.low c;have b:=(⟨Int.zero_lt_one,h.pd,by show n*T=n*T*1;lia⟩:Sd (n,1) (n*T) T).low (EM n);rw[<-a,b]
def z_.pos2 (hf:yD xa=true)(G:z_ xa x):∀y∈xa.zip (vF xa x),0<y.2.2:=λy hy=>((G.gw hf).2 _ (oj hy).2).pos
def z_.a (hf:yD xa=true)(G:z_ xa x):wsum k0 (xa.zip (vF xa x))=(x.2.1,1):=by refine Jm (T:=cr (xg xa x.1.1) (xg xa x.1.2)) ?_ (ls _ _ (G.pos2 hf));have:=G.lin k0;have e:=(fQ (xg xa x.1.1) (xg xa x.1.2) x.2).1;rw[e];exact this
def z_.b {xa:List Pol.R3}{x:SX}(hf:yD xa=true)(G:z_ xa x):wsum k1 (xa.zip (vF xa x))=(x.2.2,1):=by refine Jm (T:=cr (xg xa x.1.1) (xg xa x.1.2)) ?_ (ls _ _ (G.pos2 hf));have:=G.lin k1;have e:=(fQ (xg xa x.1.1) (xg xa x.1.2) x.2).2;rw[e];exact this
def z_.cut (hf:yD xa=true)(G:z_ xa x):jQ (wsum k0 (xa.zip (vF xa x))) (wsum k1 (xa.zip (vF xa x))):=by rw[G.a hf,G.b hf];exact⟨rfl,rfl,λz=>G.nz (zL z.1 z.2)⟩
structure gH (xa:List Pol.R3)(S:List (Nat×Nat))(L:List SX):Prop where
 good:∀x∈L,x.1∈S/\z_ xa x
 all:∀ij∈S,∃h,v9 (xg xa ij.1) (xg xa ij.2) h/\∀d∈h,(ij,d)∈L
 len:L.length<=S.length*100000
def Ge (hi:i<xa.length)(hj:j<xa.length)(hp:0<cr (xg xa i) (xg xa j))(B:v9 (xg xa i) (xg xa j) h)(hd:d∈h):z_ xa ((i,j),d):=by have c:=tN ((B.mem hp).mp hd).1;exact⟨hi,hj,hp,c.1,c.2,B.bd d hd⟩
def jE (hz:0<v.2.2):i∈uC xa (xn v)↔i<xa.length/\val (yf xa i) v=0:=by unfold uC;rw[uV,oi];exact and_congr_right λ_=>MO hz
def BX (h:i∈uC xa p):i<xa.length:=oi.mp (uV.mp h).1
def gL {xa:List Pol.R3}{i:Nat}(h:i<xa.length):atT (xa.map xh) (i:Int)=some (xh (yf xa i)):=by rw[fO,vh,me h];rfl
def wG.bd {xa:List Pol.R3}(hf:yD xa=true){i:Nat}(h:i<xa.length):Bd (yf xa i).1/\Bd (yf xa i).2.1:=sN (n:=30) (by decide) (k7 hf h)
def JY:(uC xa p).length<=xa.length:=by have:=Cq (λi=>fY (xa.getD i (0,0,0)) p) (List.range xa.length);rw[List.length_range] at this;exact this
def Tv:(ve xa nums).length<=nums.length:=List.length_filterMap_le _ _
def Tw {xa:List Pol.R3}{nums:List Nat}{i n:Nat}(h:nums[i]?=some n)(F:Nat->Option (Nat×Nat)):(nums.take (i+1)).filterMap F=(nums.take i).filterMap F++(F n).toList:=by rw[vT,h,List.filterMap_append];cases e:F n<;>simp[e]
def wG.b200 {xa:List Pol.R3}(hf:yD xa=true):∀r∈xa,yM 200 r:=λr hr=>(jT ((wG hf).2.1 r hr).2).mono (by decide)
def NV (h:0<T):lfr 0 T=(0,1):=(⟨Int.zero_lt_one,h,by show(0:Int)*T=0*1;lia⟩:Sd (0,1) 0 T).low (EM 0)
def Uv (h:0<T):wtw n i j p q T=((List.replicate n ((0:Int),(1:Int))).set i (lfr p T)).set j (lfr q T):=by unfold wtw fj;rw[List.map_set,List.map_set,List.map_replicate,NV h]
def z_.r200 (hf:yD xa=true)(G:z_ xa x):yM 200 (yS xa x):=by
 have S:=G.lin k2;have F:=S.floor;have sm:=G.sm hf;have i:=G.inc;have c1:=((wG hf).2.1 _ (qm G.i1)).2.2;have c2:=((wG hf).2.1 _ (qm G.i2)).2.2;have bx:=G.bx;have go:∀ {a c:Int},(0<=a/\a<=60000)->(-1000<=c/\c<=1000)->-60000000<=a*c/\a*c<=60000000:=λ {a c} ha hb=>by
  have h1:(a*c).natAbs<=60000*1000:=by rw[uU];exact oq (by lia) (by lia)
  lia
 have u1:=go (a:=cr x.2 (xg xa x.1.2)) ⟨i.2,sm.1.1⟩ c1;have u2:=go (a:=cr (xg xa x.1.1) x.2) ⟨i.1,sm.1.2⟩ c2;have er:yS xa x=(x.2.1,x.2.2,(cr x.2 (xg xa x.1.2)*k2 (yf xa x.1.1)+cr (xg xa x.1.1) x.2*k2 (yf xa x.1.2))/cr (xg xa x.1.1) (xg xa x.1.2)):=by unfold yS;rw[G.a hf,G.b hf,dY _ (by have:=S.pf;lia),F]
 rw[er];have pT:=G.pos;have e2:k2 (yf xa x.1.1)=(yf xa x.1.1).2.2:=rfl;have e3:k2 (yf xa x.1.2)=(yf xa x.1.2).2.2:=rfl;rw[e2,e3];have u3:-120000000<=cr x.2 (xg xa x.1.2)*(yf xa x.1.1).2.2+cr (xg xa x.1.1) x.2*(yf xa x.1.2).2.2/\cr x.2 (xg xa x.1.2)*(yf xa x.1.1).2.2+cr (xg xa x.1.1) x.2*(yf xa x.1.2).2.2<=120000000:=by lia
 generalize cr x.2 (xg xa x.1.2)*(yf xa x.1.1).2.2+cr (xg xa x.1.1) x.2*(yf xa x.1.2).2.2=N at *
 generalize cr (xg xa x.1.1) (xg xa x.1.2)=T at *
 have f1:=bh (a:=N) (b:=T) (by lia);rw[dY _ (by lia)] at f1;unfold Bx at bx;refine⟨⟨?_,?_⟩,?_⟩<;>unfold Bk<;>simp only<;>lia
def gH.snoc (P:gH xa A L)(hi:i<xa.length)(hj:j<xa.length)(hp:0<cr (xg xa i) (xg xa j))(B:v9 (xg xa i) (xg xa j) h):gH xa (A++[(i,j)]) (L++h.map λd=>((i,j),d)) where
 good:=λx hx=>by
  rcases yy.mp hx with hx|hx
  .exact⟨yZ _ (P.good x hx).1,(P.good x hx).2⟩
  .obtain⟨d,hd,rfl⟩:=zQ.mp hx;exact⟨zY _ xT,Ge hi hj hp B hd⟩
 all:=λij hij=>by
  rcases yy.mp hij with hij|hij
  .obtain⟨h',B',m'⟩:=P.all ij hij;exact⟨h',B',λd hd=>yZ _ (m' d hd)⟩
  .rw[zR.mp hij];exact⟨h,B,λd hd=>zY _ (zQ.mpr ⟨d,hd,rfl⟩)⟩
 len:=by have:=P.len;have:=B.len;simp only[zy,xO,wU,si];lia
def Fj {KK:xW->Prop}(h:d t τ λτ'=>r us τ' KK):jR d r (t::us) τ KK:=h
def Wt.isFr (h:Wt w):af (fT w)=true:=by show(decide (1<=w.2)&&decide (Int.gcd w.1 w.2=1))=true;rw[wI (show 1<=w.2 by have:=h.pos;lia),wI h.cop];rfl
def qh (ij:Nat×Nat):Tr:=.tup [vM ij.1,vM ij.2]
def optN:Option Nat->Tr
 |none=>.non
 |some m=>vM m
def Q9:ye:=λts KK=>∃(xa:List Pol.R3) (nums:List Nat) (n:Nat),ts=[.tup (xa.map xh),.tup (nums.map vM),vM n]/\yD xa=true/\(∀m∈nums,m<xa.length)/\n<xa.length/\KK (optN (dq xa nums n))
def Ri:ye:=λts KK=>∃(xa:List Pol.R3) (nums:List Nat),ts=[.tup (xa.map xh),.tup (nums.map vM)]/\yD xa=true/\(∀m∈nums,m<xa.length)/\nums.length<=1000/\KK (.lst ((ve xa nums).map qh))
def Rj:ye:=λts KK=>∃(xa:List Pol.R3) (p:P2),ts=[.tup (xa.map xh),pT p]/\yD xa=true/\Pk 600 p/\KK (.lst ((ve xa (uC xa p)).map qh))
def Qw:ye:=λts KK=>∃(a b:Int) (x:List Tr),ts=[.tup (.int a::.int b::x)]/\KK (drT a b)
def Rr:ye:=λts KK=>∃(xa:List Pol.R3) (x:SX),ts=[.tup (xa.map xh),qh x.1,y7 x.2]/\yD xa=true/\z_ xa x/\KK (wsT (vF xa x))
def Q_:ye:=λts KK=>∃(xa:List Pol.R3) (ws:List F2),ts=[.tup (xa.map xh),wsT ws]/\WS xa ws/\jQ (wsum k0 (xa.zip ws)) (wsum k1 (xa.zip ws))/\KK (.tup [wsT ws,jr (xa.zip ws)])
end L2
namespace Pol
theorem G4:∀l:List R3,l≠[]->(∀r∈l,0<turn r d)->∃i∈l,∀r∈l,turn i r<=0
 |[],h,_=>absurd rfl h
 |x::l,_,h=>by
  by_cases e:l=[]
  .subst e;exact⟨x,xT,λr hr=>by rw[zR.mp hr];simp only[turn];grind⟩
  obtain⟨i,hi,hm⟩:=G4 l e λr hr=>h r (yJ _ hr);have self:turn x x<=0:=by simp only[turn];grind
  by_cases c:turn i x<=0
  .exact⟨i,yJ _ hi,λr hr=>(xU.mp hr).elim (λz=>by rw[z];exact c) (hm r)⟩
  .refine⟨x,xT,λr hr=>(xU.mp hr).elim (λz=>by rw[z];exact self) λhr=>?_⟩;have p:=plk i x r d;have hx:=h x xT;have hi':=h i (yJ _ hi);have hr':=h r (yJ _ hr);have a:0<=turn i x*turn r d:=pz (by lia) (by lia);have b:0<=-turn i r*turn x d:=pz (by have:=hm r hr;lia) (by lia);rw[qK] at b;exact HU hi' (by lia)
def MI (gr:GR xa)(d0:d.1≠0\/d.2.1≠0)(hd:∀r∈xa,turn r d≠0)(r0:∀r∈xa,r.1≠0\/r.2.1≠0):∃i∈xa,∃j∈xa,0<turn i j/\0<turn i d/\0<turn d j:=by
 obtain⟨x,hx,px⟩:=gr d.2.1 (-d.1) (by lia);have ex:0<turn x d:=by simp only[turn];rw[qJ] at px;lia
 obtain⟨i,hi,hm⟩:=G4 (d:=d) (xa.filter λr=>decide (0<turn r d)) (λz=>by have:x∈xa.filter λr=>decide (0<turn r d):=uV.mpr ⟨hx,wI ex⟩;rw[z] at this;simp at this) λr hr=>yV (uV.mp hr).2;obtain⟨hi,pi⟩:=uV.mp hi;have pi:=yV pi;obtain⟨j,hj,pj⟩:=gr (-i.2.1) i.1 (by have:=r0 i hi;lia);have ej:0<turn i j:=by simp only[turn];rw[qJ,vQ j.1,vQ j.2.1] at pj;lia
 refine⟨i,hi,j,hj,ej,pi,?_⟩;have n:=hd j hj;have a:=sM d j;rcases y_ 0 (turn j d) with c|c
 .have:=hm j (uV.mpr ⟨hj,wI c⟩);lia
 .lia
theorem G3 (N T:α->Int):∀l:List α,l≠[]->(∀x∈l,0<T x)->∃m∈l,∀x∈l,N m*T x<=N x*T m
 |[],h,_=>absurd rfl h
 |x::l,_,h=>by
  by_cases e:l=[]
  .subst e;exact⟨x,xT,λr hr=>by rw[zR.mp hr];exact wF _⟩
  obtain⟨m,hm,hl⟩:=G3 N T l e λr hr=>h r (yJ _ hr);by_cases c:N m*T x<=N x*T m
  .exact⟨m,yJ _ hm,λr hr=>(xU.mp hr).elim (λz=>by rw[z];exact c) (hl r)⟩
  .refine⟨x,xT,λr hr=>(xU.mp hr).elim (λz=>by rw[z];exact wF _) λhr=>?_⟩;have tx:=h x xT;have tm:=h m (yJ _ hm);have tr:=h r (yJ _ hr);have a:=hl r hr;have b:N x*T m*T r<=N m*T x*T r:=zf (by lia) (by lia);have c':N m*T r*T x<=N r*T m*T x:=zf a (by lia);refine ja (a:=T m) ?_ tm;have e1:N x*T m*T r=N x*T r*T m:=by grind
   have e2:N m*T x*T r=N m*T r*T x:=by grind
   have e3:N r*T m*T x=N r*T x*T m:=by grind
   lia
def dN (d i j:R3):Int:=turn d j*i.2.2+turn i d*j.2.2
def lA (h:0<turn i j):zN i j=(i.2.2*j.2.1-i.2.1*j.2.2,i.1*j.2.2-i.2.2*j.1,turn i j):=by unfold zN;rw[xH (by lia)]
def RF (h:0<turn i j):dN d i j*turn k j-dN d k j*turn i j=turn d j*val k (zN i j):=by rw[lA h];simp only[dN,turn,val];grind
def RG (h:0<turn i j):dN d i j*turn i k-dN d i k*turn i j=turn i d*val k (zN i j):=by rw[lA h];simp only[dN,turn,val];grind
def Oj (h:0<turn i j):turn i j*val k w=turn k j*val i w+turn i k*val j w+w.2.2*val k (zN i j):=by rw[lA h];simp only[turn,val];grind
def Lj (gr:GR xa)(d0:d.1≠0\/d.2.1≠0)(hd:∀r∈xa,turn r d≠0)(r0:∀r∈xa,r.1≠0\/r.2.1≠0)(hw:0<w.2.2)(kw:∀r∈xa,val r w<=0):∃i∈xa,∃j∈xa,(0<turn i j/\0<turn i d/\0<turn d j)/\∀r∈xa,val r (zN i j)<=0:=by
 obtain⟨i,hi,j,hj,hp⟩:=MI gr d0 hd r0
 let P:=(xa.flatMap λi=>xa.map λj=>(i,j)).filter λp=>decide (0<turn p.1 p.2/\0<turn p.1 d/\0<turn d p.2)
 have mP:∀p:R3×R3,p∈P↔(p.1∈xa/\p.2∈xa)/\(0<turn p.1 p.2/\0<turn p.1 d/\0<turn d p.2):=λp=>by
  show p∈List.filter _ _↔_;rw[uV,qp,List.mem_flatMap];refine and_congr_left λ_=>⟨λ⟨a,ha,hm⟩=>?_,λ⟨a,b⟩=>⟨p.1,a,zQ.mpr ⟨p.2,b,rfl⟩⟩⟩
  obtain⟨b,hb,rfl⟩:=zQ.mp hm;exact⟨ha,hb⟩
 obtain⟨m,hm,hmin⟩:=G3 (λp:R3×R3=>dN d p.1 p.2) (λp=>turn p.1 p.2) P (λz=>by have:=(mP (i,j)).mpr ⟨⟨hi,hj⟩,hp⟩;rw[z] at this;simp at this) λx hx=>((mP x).mp hx).2.1;obtain⟨⟨mi,mj⟩,t1,t2,t3⟩:=(mP m).mp hm;obtain⟨i,j⟩:=m;refine⟨i,mi,j,mj,⟨t1,t2,t3⟩,λk hk=>?_⟩;simp only at *
 refine gc λno=>?_;have no:0<val k (zN i j):=by lia
 have id:turn k d*turn i j=turn k j*turn i d-turn i k*turn d j:=by simp only[turn];grind
 have nd:=hd k hk;have ad:=sM d k;have byJ:0<turn k j->0<turn k d->False:=λa b=>by
  have:=hmin (k,j) ((mP _).mpr ⟨⟨hk,mj⟩,a,b,t3⟩);have e:=RF (d:=d) (k:=k) t1;have:=pp t3 no;simp only at *
  lia
 have byI:0<turn i k->turn k d<0->False:=λa b=>by
  have:=hmin (i,k) ((mP _).mpr ⟨⟨mi,hk⟩,a,t2,show 0<turn d k by lia⟩);have e:=RG (d:=d) (k:=k) t1;have:=pp t2 no;simp only at *
  lia
 by_cases t:0<turn k j
 .rcases y_ 0 (turn k d) with c|c
  .exact byJ t c
  .by_cases s:0<turn i k
   .exact byI s (by lia)
   .have a:=pp t t2;have b:0<=-turn i k*turn d j:=pz (by lia) (by lia);rw[qK] at b;have:turn k d*turn i j<=0:=by have:=pz (a:=-turn k d) (b:=turn i j) (by lia) (by lia);rw[qK] at this;lia
    lia
 .by_cases s:0<turn i k
  .refine byI s ?_;rcases y_ (turn k d) 0 with c|c
   .exact c
   .have a:=pp s t3;have b:0<=-turn k j*turn i d:=pz (by lia) (by lia);rw[qK] at b;have:=pz (a:=turn k d) (b:=turn i j) (by lia) (by lia);lia
  .have e:=Oj (k:=k) (w:=w) t1;have a:0<=turn k j*val i w:=nn (by lia) (kw i mi);have b:0<=turn i k*val j w:=nn (by lia) (kw j mj);have c:=pp hw no;have:=kw k hk;have:turn i j*val k w<=0:=by have:=pz (a:=turn i j) (b:=-val k w) (by lia) (by lia);rw[qJ] at this;lia
   lia
theorem Eh (f:R3->Int):∀l:List R3,∃M:Int,0<M/\∀r∈l,f r<M/\-M<f r
 |[]=>⟨1,by decide,λr h=>by simp at h⟩
 |x::l=>by
  obtain⟨M,h0,h⟩:=Eh f l;refine⟨M+(f x).natAbs,by lia,λr hr=>?_⟩;rcases xU.mp hr with rfl|hr
  .lia
  .have:=h r hr;lia
def oY (gr:GR xa)(d0:d.1≠0\/d.2.1≠0)(r0:∀r∈xa,r.1≠0\/r.2.1≠0)(hw:0<w.2.2)(kw:∀r∈xa,val r w<=0):∃i∈xa,∃j∈xa,(0<turn i j/\0<=turn i d/\0<=turn d j)/\∀r∈xa,val r (zN i j)<=0:=by
 obtain⟨M,h0,hM⟩:=Eh (λr=>dot r d) xa;have tr:∀r:R3,turn r (M*d.1-d.2.1,M*d.2.1+d.1,0)=M*turn r d+dot r d:=λr=>by simp only[turn,dot];grind
 have step:∀r∈xa,(0<M*turn r d+dot r d->0<=turn r d)/\(M*turn r d+dot r d<0->turn r d<=0):=λr hr=>by
  have b:=hM r hr;refine⟨λz=>?_,λz=>?_⟩
  .rcases y_ (turn r d) 0 with c|c
   .have:M*turn r d<=M*(-1):=we (by lia) (by lia);lia
   .exact c
  .rcases y_ 0 (turn r d) with c|c
   .have:M*1<=M*turn r d:=we (by lia) (by lia);lia
   .exact c
 have nz:∀r∈xa,turn r (M*d.1-d.2.1,M*d.2.1+d.1,0)≠0:=λr hr z=>by
  rw[tr] at z;have b:=hM r hr;have t0:turn r d=0:=by
   rcases gk (turn r d) 0 with c|c|c
   .have:M*turn r d<=M*(-1):=we (by lia) (by lia);lia
   .exact c
   .have:M*1<=M*turn r d:=we (by lia) (by lia);lia
  rw[t0,vR,mK] at z;have e:dot r r*dot d d=dot r d*dot r d+turn r d*turn r d:=by simp only[turn,dot];grind
  rw[z,t0] at e;have:=pp (r6 (r0 r hr)) (r6 d0);lia
 have d1:(M*d.1-d.2.1≠0\/M*d.2.1+d.1≠0):=by
  refine gc λno=>?_;have e1:M*d.1=d.2.1:=by lia
  have e2:M*d.2.1 = -d.1:=by lia
  have:=r6 d0;have z:dot d d=0:=by
   have:dot d d=d.1*d.1+(M*d.1)*(M*d.1):=by unfold dot;rw[e1]
   have q:M*(M*d.1) = -d.1:=by rw[e1];exact e2
   have:(M*M+1)*d.1=0:=by grind
   rcases vf.mp this with y|y
   .have:=sq0 M;lia
   .unfold dot;rw[<-e1,y];simp
  lia
 obtain⟨i,hi,j,hj,⟨t1,t2,t3⟩,k⟩:=Lj (d:=(M*d.1-d.2.1,M*d.2.1+d.1,0)) gr d1 nz r0 hw kw;refine⟨i,hi,j,hj,⟨t1,(step i hi).1 (by rw[<-tr];exact t2),?_⟩,k⟩;have a:=sM j (M*d.1-d.2.1,M*d.2.1+d.1,0);rw[a,tr] at t3;have:=(step j hj).2 (by lia);have:=sM j d;lia
end Pol
namespace L2
open PySem PySem.Spec PyProof.Rows
abbrev two (elt t1 i1:Expr)(f1:List Expr)(t2 i2:Expr)(f2:List Expr)(sc:Scope)(pos:Pos):Expr:=.ListComp elt [⟨t1,i1,f1,0⟩,⟨t2,i2,f2,0⟩] sc pos
section
variable {prog:Program} {w:World} {A:Around} {R:Result->Shared->Prop} {s:Shared} {elt t1 i1 t2 i2:Expr} {f1 f2:List Expr} {sc:Scope} {pos:Pos} {it acc:Value} {env:Env}
end
abbrev lo (xj:List Value)(n:Nat):Obj:={cls:=.type "list", data:=.seq xj.toArray n}
def K6 (I:Inv Y ((D,lo xj n)::pl) σ H s)(h1:D∈Y.ex\/Y.s₀.heap.objs.size<=D)(h2:∀p∈Y.pn++pl,p.1≠D)(hz:xj.length<=sizeLine)
  {Q:Shared->Prop} (q:∀s' n',Inv Y ((D,lo (xj++[y]) n')::pl) σ H s'->(∀b o,b≠D->s.heap.get? b=some o->s'.heap.get? b=some o)->Q s'):wpAny (model Y.prog Y.w) Y.A (call (.builtin "list.append") [.ref D,y]) (λ_ s'=>Q s') E s:=by
 obtain⟨pD,nD,dL,dF,dC⟩:=I.pin (D,lo xj n) (by simp);refine fG Kc ⟨_,pD,rfl⟩ Kb (Ka _ _) (KG D xj.toArray n y (by rw[wm];exact hz)) ⟨pD,?_⟩;have q0:=KE pD (λx=>x.push y);obtain⟨n',q'⟩:∃n',(s.heap.update D (Obj.mapSeq λx=>x.push y)).get? D=some (lo (xj++[y]) n'):=⟨_,by rw[show(lo (xj++[y]) _)=({cls:=.type "list", data:=.seq (xj.toArray.push y) _}:Obj) by simp[lo];rfl];exact q0⟩
 have kp:∀b o,b≠D->s.heap.get? b=some o->(s.heap.update D (Obj.mapSeq λx=>x.push y)).get? b=some o:=λb o hb e=>(B9 s.heap _ (zK hb)).trans e;have I10:Inv Y pl σ H s:=I.pins_of λp hp=>I.pin p (by simp only[yy,xU];exact .inr (.inr hp));have I11:Inv Y pl σ H {s with heap:=s.heap.update D (Obj.mapSeq λx=>x.push y),toks:=s.toks}:=
  I10.turned (it:=D) (t':=s.toks) kp nD dL h1 (λx c e z=>by obtain⟨v,o,ho,hd⟩:=I10.cell x c e;rw[z,pD] at ho;cases ho;cases hd) h2
 refine q _ n' (I11.pins_of λp hp=>?_) kp;rcases xU.mp hp with rfl|hp
 .exact⟨q',nD,dL,dF,λv=>by simp⟩
 .exact I11.pin p (zY _ hp)
section
variable {X:Cx} {sc:Scope} {N:List Str} {xE tid:List (Option Nat)} {xf:List (Addr×Obj)} {σ:St} {H:Hp} {s:Shared}
end
section
variable {K:xt} {B:FB} {φ:zg} {σ:St} {τ:xW} {H H' H'':Hp} {fr:Bool}
end
end L2
namespace L2
open PySem Trn
def ES (n o m p:D2):cr n m*cr o p=cr n o*cr m p+cr n p*cr o m:=by unfold cr;grind
theorem G8:∀(nums:List Nat) (acc:Option Nat) (P:Nat->Prop),(∀m,acc=some m->0<cr (xg xa n) (xg xa m)/\∀o,P o->0<cr (xg xa n) (xg xa o)->0<=cr (xg xa m) (xg xa o))->(acc=none->∀o,P o->¬0<cr (xg xa n) (xg xa o))->
  ∀m,nums.foldl (ub xa n) acc=some m->∀o,(P o\/o∈nums)->0<cr (xg xa n) (xg xa o)->0<=cr (xg xa m) (xg xa o)
 |[],acc,P,h,h0,m,e,o,ho,c=>(h m e).2 o (ho.resolve_right (by simp)) c
 |x::nums,acc,P,h,h0,m,e,o,ho,c=>by
  refine G8 nums (ub xa n acc x) (λo=>P o\/o=x) (λm e=>?_) (λe o ho c=>?_) m e o (ho.elim (λz=>.inl (.inl z)) λz=>(xU.mp z).elim (λz=>.inl (.inr z)) .inr) c
  .unfold ub at e;split at e
   .rename_i cx;cases acc with
    |none=>cases e;exact⟨cx,λo ho c=>ho.elim (λz=>absurd c (h0 rfl o z)) λz=>by rw[z,uq];exact wF _⟩
    |some k=>
     obtain⟨k1,k2⟩:=h k rfl;dsimp only at e;split at e
     .rename_i cm;cases e;refine⟨cx,λo ho c=>ho.elim (λz=>?_) λz=>by rw[z,uq];exact wF _⟩;have id:=ES (xg xa n) (xg xa x) (xg xa k) (xg xa o);have a:=Pol.pz (yo cx) (k2 o z c);have b:=Pol.pz (yo c) (yo cm);rcases y_ (cr (xg xa x) (xg xa o)) 0 with y|y
      .have:=Pol.pp k1 (show 0 < -cr (xg xa x) (xg xa o) by lia);rw[qJ] at this;lia
      .exact y
     .rename_i cm;cases e;refine⟨k1,λo ho c=>ho.elim (λz=>k2 o z c) λz=>?_⟩;rw[z,kP];lia
   .rename_i cx;obtain⟨k1,k2⟩:=h m e;exact⟨k1,λo ho c=>ho.elim (λz=>k2 o z c) λz=>by rw[z] at c;exact absurd c cx⟩
  .unfold ub at e;split at e
   .cases acc with
    |none=>cases e
    |some k=>dsimp only at e;split at e<;>cases e
   .rename_i cx;rcases ho with z|z
    .exact h0 e o z c
    .rw[z] at c;exact cx c
def Oh (e:dq xa nums n=some m)(ho:o∈nums)(c:0<cr (xg xa n) (xg xa o)):0<=cr (xg xa m) (xg xa o):=G8 nums none (λ_=>False) (λ_ z=>nomatch z) (λ_ _ z=>z.elim) m e o (.inr ho) c
theorem filter_lt {α:Type}{p q:α->Bool}(imp:∀o,p o=true->q o=true){n:α}:∀ {l:List α},n∈l->q n=true->p n=false->(l.filter p).length<(l.filter q).length
 |x::l,h,hq,hp=>by
  have le:∀l:List α,(l.filter p).length<=(l.filter q).length:=λl=>by
   induction l with
   |nil=>simp
   |cons y l ih=>
    simp only[List.filter_cons];by_cases e:p y=true
    .rw[xK e,xK (imp y e),wU,wU];lia
    .rw[xH e];split
     .rw[wU];lia
     .exact ih
  simp only[List.filter_cons];rcases xU.mp h with e|h
  .subst e;rw[hp,hq];have:=le l;simp;lia
  .have:=filter_lt imp h hq hp;by_cases e:p x=true
   .rw[xK e,xK (imp x e),wU,wU];lia
   .rw[xH e];split
    .rw[wU];lia
    .exact this
theorem adj {xa:List Pol.R3}{nums:List Nat}{d:D2}:∀(k:Nat) (a m:Nat),a∈nums->m∈nums->0<cr (xg xa a) (xg xa m)->Trn.InC (xg xa a) (xg xa m) d->(nums.filter λo=>decide (0<cr (xg xa a) (xg xa o)/\0<=cr (xg xa o) (xg xa m))).length<=k->∃ij∈ve xa nums,Trn.InC (xg xa ij.1) (xg xa ij.2) d:=λk=>by
 induction k with
 |zero=>intro a m ha hm c _ l;have:m∈nums.filter λo=>decide (0<cr (xg xa a) (xg xa o)/\0<=cr (xg xa o) (xg xa m)):=uV.mpr ⟨hm,wI ⟨c,by rw[uq];exact wF _⟩⟩;have:=List.length_pos_of_mem this;lia
 |succ k ih=>
  intro a m ha hm c hd l;have ex:=(bS (xa:=xa) (n:=a) nums none (λm e=>nomatch e)).2 (.inr ⟨m,hm,c⟩);cases q:dq xa nums a with
  |none=>exact absurd q ex
  |some n=>
   obtain⟨p,r⟩:=(bS (xa:=xa) (n:=a) nums none (λm e=>nomatch e)).1 n q;have hn:n∈nums:=r.resolve_right (λz=>nomatch z);have nm:=Oh q hm c;have sd:(a,n)∈ve xa nums:=Ct.mpr ⟨a,ha,by rw[q];rfl⟩;by_cases z:0<=cr d (xg xa n)
   .exact⟨_,sd,hd.1,z⟩
   .have dn:0<cr (xg xa n) d:=by rw[kP];lia
    have nm':0<cr (xg xa n) (xg xa m):=by
     have id:=ES (xg xa a) d (xg xa n) (xg xa m);rw[kP (xg xa n) d] at id;have t1:=Pol.pz hd.1 nm;have t2:=Pol.pp c dn;have h2:=hd.2;rcases y_ 0 (cr (xg xa n) (xg xa m)) with y|y
     .exact y
     .have y0:cr (xg xa n) (xg xa m)=0:=by lia
      rw[y0,vR,mK,qJ] at id;have:=Pol.pz (yo p) h2;lia
    refine ih n m hn hm nm' ⟨by lia,hd.2⟩ ?_;have sub:((nums.filter λo=>decide (0<cr (xg xa n) (xg xa o)/\0<=cr (xg xa o) (xg xa m))).length)<(nums.filter λo=>decide (0<cr (xg xa a) (xg xa o)/\0<=cr (xg xa o) (xg xa m))).length:=by
     have imp:∀o,(0<cr (xg xa n) (xg xa o)/\0<=cr (xg xa o) (xg xa m))->(0<cr (xg xa a) (xg xa o)/\0<=cr (xg xa o) (xg xa m)):=λo ⟨o1,o2⟩=>by
      refine⟨?_,o2⟩;have id:cr (xg xa a) (xg xa o)*cr (xg xa n) (xg xa m)=cr (xg xa o) (xg xa m)*cr (xg xa a) (xg xa n)+cr (xg xa n) (xg xa o)*cr (xg xa a) (xg xa m):=by unfold cr;grind
      have t1:=Pol.pz o2 (yo p);have t2:=Pol.pp o1 c;rcases y_ 0 (cr (xg xa a) (xg xa o)) with y|y
      .exact y
      .have:=Pol.pz (a:=-cr (xg xa a) (xg xa o)) (b:=cr (xg xa n) (xg xa m)) (by lia) (by lia);rw[qK] at this;lia
     exact filter_lt (λo h=>wI (imp o (yV h))) hn (wI ⟨p,yo nm'⟩) (uX λz=>by have:=z.1;rw[uq] at this;lia)
    lia
def Jc (hp:0<p.2.2)(s:qr v p)(h:val r p=0):val r v=0:=by
 have e:val r v*p.2.2=val r p*v.2.2:=by have:=s.1;have:=s.2;simp only[val];grind
 rw[h,jb] at e;exact(vf.mp e).resolve_right (by lia)
def IP (h:r∈xa):∃i,i<xa.length/\yf xa i=r:=by obtain⟨i,hi,rfl⟩:=fw.mp h;refine⟨i,hi,?_⟩;have:=me hi;rw[yA hi] at this;exact(vH this).symm
def L0 (hf:yD xa=true)(FR:zd xa)(hw:w∈xS xa)(nz:d≠(0,0)):∃v∈xS xa,∃ij∈ve xa (uC xa (xn v)),Trn.InC (xg xa ij.1) (xg xa ij.2) d:=by
 obtain⟨_,dir,gr,_⟩:=wG hf;have r0:∀r∈xa,r.1≠0\/r.2.1≠0:=λr hr=>(dir r hr).1;obtain⟨⟨hz,_,C⟩,_⟩:=FR.corner hw;obtain⟨i,hi,j,hj,⟨t1,t2,t3⟩,k⟩:=oY (d:=(d.1,d.2,0)) (cJ r0 gr) (by refine gc λno=>nz ?_;exact zL (by simp only at no;show d.1=0;lia) (by simp only at no;show d.2=0;lia)) r0 hz C.kept
 obtain⟨z,e1,e2⟩:=gO (show Pol.turn i j≠0 by lia);obtain⟨v,hv,sm⟩:=FR.fine.found z ⟨k,i,hi,j,hj,e1,e2,by lia⟩;have hv:v∈xS xa:=dm.mpr hv;obtain⟨⟨vz,_,_⟩,_⟩:=FR.corner hv;obtain⟨a,ha,ea⟩:=IP hi;obtain⟨b,hb,eb⟩:=IP hj;have ma:a∈uC xa (xn v):=(jE vz).mpr ⟨ha,by rw[ea];exact Jc z sm e1⟩;have mb:b∈uC xa (xn v):=(jE vz).mpr ⟨hb,by rw[eb];exact Jc z sm e2⟩;refine⟨v,hv,?_⟩;refine adj _ a b ma mb ?_ ⟨?_,?_⟩ (yg _)
 .unfold xg;rw[ea,eb];exact t1
 .unfold xg;rw[ea];exact t2
 .unfold xg;rw[eb];exact t3
def z_.dual {xa:List Pol.R3}{x:SX}(u:Pol.R3):cr (xg xa x.1.1) (xg xa x.1.2)*(x.2.1*u.1+x.2.2*u.2.1)-(cr x.2 (xg xa x.1.2)*k2 (yf xa x.1.1)+cr (xg xa x.1.1) x.2*k2 (yf xa x.1.2))*u.2.2=cr x.2 (xg xa x.1.2)*val (yf xa x.1.1) u+cr (xg xa x.1.1) x.2*val (yf xa x.1.2) u:=by
 have e1:=fQ (xg xa x.1.1) (xg xa x.1.2) x.2;have ea:=e1.1;have eb:=e1.2;generalize cr x.2 (xg xa x.1.2)=p at *
 generalize cr (xg xa x.1.1) x.2=q at *
 generalize cr (xg xa x.1.1) (xg xa x.1.2)=T at *
 have d1:(xg xa x.1.1)=((yf xa x.1.1).1,(yf xa x.1.1).2.1):=rfl;have d2:(xg xa x.1.2)=((yf xa x.1.2).1,(yf xa x.1.2).2.1):=rfl;rw[d1,d2] at ea eb;simp only[val,k2] at *
 grind
theorem MH (h:ps≠[]):∃f,lM a b ps=some f:=by
 have key:∀(ps:List P2) (f:F2),∃g,ps.foldl (jS a b) (some f)=some g:=λps=>by
  induction ps with
  |nil=>exact λf=>⟨f,rfl⟩
  |cons p ps ih=>intro f;obtain⟨g,hg,_⟩:=FH (a:=a) (b:=b) (best:=some f) (p:=p);rw[qL,hg];exact ih g
 cases ps with
 |nil=>exact absurd rfl h
 |cons p ps=>exact key ps _
def eZ (hf:yD xa=true)(G:z_ xa x):yS xa x=(x.2.1,x.2.2,(cr x.2 (xg xa x.1.2)*k2 (yf xa x.1.1)+cr (xg xa x.1.1) x.2*k2 (yf xa x.1.2))/cr (xg xa x.1.1) (xg xa x.1.2)):=by have S:=G.lin k2;unfold yS;rw[G.a hf,G.b hf,dY _ (by have:=S.pf;lia),S.floor]
def Gg (hf:yD xa=true)(FR:zd xa)(hv:v∈xS xa)(hx:x.1∈ve xa (uC xa (xn v)))(G:z_ xa x)(e:lM x.2.1 x.2.2 ((xS xa).map xn)=some f):yS xa x=(x.2.1,x.2.2,f.1.fdiv f.2):=by
 obtain⟨⟨vz,_,_⟩,_⟩:=FR.corner hv;obtain⟨m1,m2,_⟩:=aX hx;have D:=λu=>z_.dual (xa:=xa) (x:=x) u;have inc:=G.inc;have pT:=G.pos;rw[eZ hf G];rcases FJ _ none e with z|⟨p,hp,ef⟩
 .cases z
 obtain⟨u,hu,rfl⟩:=zQ.mp hp;obtain⟨⟨uz,_,Cu⟩,_⟩:=FR.corner hu;have Su:Sd f (x.2.1*u.1+x.2.2*u.2.1) u.2.2:=by rw[ef];exact bA (x.2.1,x.2.2,0) uz
 have Sv:Sd (zm (x.2.1,x.2.2,0) (xn v)) (x.2.1*v.1+x.2.2*v.2.1) v.2.2:=bA (x.2.1,x.2.2,0) vz;have ge:=(MG _ FR.pos none f (λg z=>nomatch z) e).2 (xn v) (jd hv);have lt:=Su.lt Sv;have Dv:=D v;have Du:=D u;rw[((jE vz).mp m1).2,((jE vz).mp m2).2,vR,vR] at Dv;have n1:0<=cr x.2 (xg xa x.1.2) * -val (yf xa x.1.1) u:=Pol.pz inc.2 (by have:=Cu.kept _ (qm G.i1);lia);have n2:0<=cr (xg xa x.1.1) x.2 * -val (yf xa x.1.2) u:=Pol.pz inc.1 (by have:=Cu.kept _ (qm G.i2);lia);rw[qJ] at n1 n2;have S:Sd f (cr x.2 (xg xa x.1.2)*k2 (yf xa x.1.1)+cr (xg xa x.1.1) x.2*k2 (yf xa x.1.2)) (cr (xg xa x.1.1) (xg xa x.1.2)):=by
  generalize cr x.2 (xg xa x.1.2)*k2 (yf xa x.1.1)+cr (xg xa x.1.1) x.2*k2 (yf xa x.1.2)=N at *
  generalize cr (xg xa x.1.1) (xg xa x.1.2)=T at *
  generalize x.2.1*u.1+x.2.2*u.2.1=U at *
  generalize x.2.1*v.1+x.2.2*v.2.1=V at *
  refine⟨Su.pf,pT,?_⟩;have ge':V*u.2.2<=U*v.2.2:=by
   have:¬(U*v.2.2<V*u.2.2):=λz=>by have:=lt.mpr z;lia
   lia
  have a1:T*(V*u.2.2)<=T*(U*v.2.2):=we ge' (by lia);have a2:T*U<=N*u.2.2:=by lia
  have a3:T*U*v.2.2<=N*u.2.2*v.2.2:=zf a2 (by lia);have a4:T*V=N*v.2.2:=by lia
  have a5:T*V*u.2.2=N*v.2.2*u.2.2:=by rw[a4]
  have a6:T*U*v.2.2=N*u.2.2*v.2.2:=by
   have:T*(V*u.2.2)=T*V*u.2.2:=by grind
   have:T*(U*v.2.2)=T*U*v.2.2:=by grind
   have:N*v.2.2*u.2.2=N*u.2.2*v.2.2:=by grind
   lia
  have a7:T*U=N*u.2.2:=gf (by lia) a6;have eu:=Su.e;refine gf (a:=u.2.2) (by lia) ?_;have:f.1*T*u.2.2=T*U*f.2:=by grind
  rw[this,a7];grind
 rw[dY _ (by have:=S.pf;lia),S.floor]
theorem EF (C:wc h)(w:D2)(hp:h[i]?=some p0)(hq:h[i+1]?=some q0)(h0:0<=cr w q0)(h1:cr w p0<=cr w q0):∀k q,h[i+1+k]?=some q->cr w q0<=cr w q
 |0,q,e=>by rw[show i+1+0=i+1 from rfl,hq] at e;cases e;exact wF _
 |k+1,q,e=>by
  have il:i+1+k<h.length:=by have:=(zc.mp e).1;lia
  have ek:h[i+1+k]?=some h[i+1+k]:=yA il;have:=EF C w hp hq h0 h1 k _ ek;have r:=(C.right w hp hq h0 h1 (k+1) h[i+1+k] q (by rw[show i+(k+1)=i+1+k by lia];exact ek) (by rw[show i+(k+1)+1=i+1+(k+1) by lia];exact e)).2;lia
theorem EE (C:wc h)(w:D2)(hp:h[i]?=some p0)(hq:h[i+1]?=some q0)(h0:0<=cr w p0)(h1:cr w q0<=cr w p0):∀k j p,j+k=i->h[j]?=some p->cr w p0<=cr w p
 |0,j,p,e,ep=>by cases (show j=i by lia);rw[hp] at ep;cases ep;exact wF _
 |k+1,j,p,e,ep=>by
  have il:j+1<h.length:=by have:=(zc.mp hq).1;lia
  have ek:h[j+1]?=some h[j+1]:=yA il;have:=EE C w hp hq h0 h1 k (j+1) _ (by lia) ek;have r:=(C.left w hp hq h0 h1 (k+1) j p _ e ep ek).2;lia
theorem LP (C:wc h)(w:D2)(hM:0<=M)(hf:h[0]?=some f)(hl:h[h.length-1]?=some l)(bf:cr w f<=M)(bl:cr w l<=M)(hx:x∈h):cr w x<=M:=by
 obtain⟨j,hj,rfl⟩:=fw.mp hx;have ej:h[j]?=some h[j]:=yA hj;refine gc λno=>?_;have no:M<cr w h[j]:=by lia
 cases j with
 |zero=>rw[ej] at hf;cases hf;lia
 |succ i=>
  have ei:h[i]?=some h[i]:=yA (by lia);rcases Int.le_total (cr w h[i]) (cr w h[i+1]) with c|c
  .have:=EF C w ei ej (by lia) c (h.length-1-(i+1)) l (by rw[show i+1+(h.length-1-(i+1))=h.length-1 by lia];exact hl);lia
  .have:=EE C w ei ej (by lia) c i 0 f (by lia) hf;lia
def v9.bM (h0:0<=M)(hD:0<cr u v)(B:v9 u v h)(hu:Bx M u)(hv:Bx M v):∀x∈h,Bx M x:=λx hx=>by obtain⟨nu,nv⟩:=sR hD;have bu:=pP nu hu;have bv:=pP nv hv;unfold Bx at bu bv;have key:∀w:D2,cr w (yL u)<=M->cr w (yL v)<=M->cr w x<=M:=λw a b=>LP B.chn w h0 B.fst B.lst a b hx;have k1:=key (0,-1) (by unfold cr;simp only;lia) (by unfold cr;simp only;lia);have k2:=key (0,1) (by unfold cr;simp only;lia) (by unfold cr;simp only;lia);have k3:=key (1,0) (by unfold cr;simp only;lia) (by unfold cr;simp only;lia);have k4:=key (-1,0) (by unfold cr;simp only;lia) (by unfold cr;simp only;lia);unfold cr at k1 k2 k3 k4;simp only at k1 k2 k3 k4;unfold Bx;lia
def v9.b30 (hD:0<cr u v)(B:v9 u v h)(hu:Bx 30 u)(hv:Bx 30 v):∀x∈h,Bx 30 x:=v9.bM (by decide) hD B hu hv
def dv (d:D2)(p:Pol.R3):Int:=d.1*p.1+d.2*p.2.1
def zC (d:D2)(v:Pol.R3):Int:=dv d v/v.2.2
def mG (d:D2)(c:Int)(p:Pol.R3):val (d.1,d.2,c) p=dv d p-c*p.2.2:=rfl
def tF (d:D2)(h:0<v.2.2):zC d v*v.2.2<=dv d v:=Int.ediv_mul_le _ (by lia)
def bI (h:0<v.2.2)(hc:c*v.2.2<=dv d v):c<=zC d v:=(Cb h).mpr hc
def lr {xa:List Pol.R3}{x:SX}(pos:0<cr (xg xa x.1.1) (xg xa x.1.2))(inc:Trn.InC (xg xa x.1.1) (xg xa x.1.2) x.2){v p:Pol.R3}(vz:0<v.2.2)(pz:0<p.2.2)
  (v1:val (yf xa x.1.1) v=0) (v2:val (yf xa x.1.2) v=0) (p1:val (yf xa x.1.1) p<=0) (p2:val (yf xa x.1.2) p<=0):dv x.2 p*v.2.2<=dv x.2 v*p.2.2:=by
 have Dv:=z_.dual (xa:=xa) (x:=x) v;have Dp:=z_.dual (xa:=xa) (x:=x) p;rw[v1,v2,vR,vR] at Dv;have n1:0<=cr x.2 (xg xa x.1.2) * -val (yf xa x.1.1) p:=Pol.pz inc.2 (by lia);have n2:0<=cr (xg xa x.1.1) x.2 * -val (yf xa x.1.2) p:=Pol.pz inc.1 (by lia);rw[qJ] at n1 n2;change cr (xg xa x.1.1) (xg xa x.1.2)*dv x.2 v-_=_ at Dv;change cr (xg xa x.1.1) (xg xa x.1.2)*dv x.2 p-_=_ at Dp;generalize cr x.2 (xg xa x.1.2)*k2 (yf xa x.1.1)+cr (xg xa x.1.1) x.2*k2 (yf xa x.1.2)=N at *
 generalize cr (xg xa x.1.1) (xg xa x.1.2)=T at *
 generalize dv x.2 v=V at *
 generalize dv x.2 p=U at *
 have a1:T*U<=N*p.2.2:=by lia
 have a2:T*V=N*v.2.2:=by lia
 have a3:T*U*v.2.2<=N*p.2.2*v.2.2:=zf a1 (by lia);have a4:N*p.2.2*v.2.2=T*(V*p.2.2):=by
  have:N*p.2.2*v.2.2=N*v.2.2*p.2.2:=by grind
  rw[this,<-a2];grind
 rw[a4] at a3;have a5:T*(U*v.2.2)<=T*(V*p.2.2):=by
  have:T*(U*v.2.2)=T*U*v.2.2:=by grind
  lia
 exact Cc a5 pos
def HH (hf:yD xa=true)(G:z_ xa x)(vz:0<v.2.2)(v1:val (yf xa x.1.1) v=0)(v2:val (yf xa x.1.2) v=0):yS xa x=(x.2.1,x.2.2,zC x.2 v):=by
 rw[eZ hf G];have Dv:=z_.dual (xa:=xa) (x:=x) v;rw[v1,v2,vR,vR] at Dv;change cr (xg xa x.1.1) (xg xa x.1.2)*dv x.2 v-_=_ at Dv;have pT:=G.pos;unfold zC;generalize cr x.2 (xg xa x.1.2)*k2 (yf xa x.1.1)+cr (xg xa x.1.1) x.2*k2 (yf xa x.1.2)=N at *
 generalize cr (xg xa x.1.1) (xg xa x.1.2)=T at *
 generalize dv x.2 v=V at *
 have e:T*V=N*v.2.2:=by lia
 have:N/T=V/v.2.2:=by have h1:N/T=(N*v.2.2)/(T*v.2.2):=(Cd N T vz).symm;rw[h1,<-e,vQ T v.2.2,vQ T V];exact Cd V v.2.2 pT
 rw[this]
def l_ (hb:0<b)(h:(Fra.low t b).2=1):b∣t:=by
 have h:b/((Int.gcd t b:Nat):Int)=1:=h;have d:((Int.gcd t b:Nat):Int)∣b:=dZ ..;have e:b=((Int.gcd t b:Nat):Int):=by have:=Kh d;rw[h,Int.one_mul] at this;exact this.symm
 have dt:((Int.gcd t b:Nat):Int)∣t:=gg ..;rw[<-e] at dt;exact dt
def Uk (vz:0<v.2.2)(g:yN v=1)(hb:brk v=false):v.2.2=1:=by
 unfold brk at hb;simp only[Bool.or_eq_false_iff,Bool.not_eq_false',qp] at hb;have d1:=l_ vz hb.1;have d2:=l_ vz hb.2;have d3:v.2.2∣((Int.gcd v.1 v.2.1:Nat):Int):=jG d1 d2;have d4:v.2.2∣((Int.gcd ((Int.gcd v.1 v.2.1:Nat):Int) v.2.2:Nat):Int):=jG d3 (Int.dvd_refl _);have e:((Int.gcd ((Int.gcd v.1 v.2.1:Nat):Int) v.2.2:Nat):Int)=1:=by have:Int.gcd ((Int.gcd v.1 v.2.1:Nat):Int) v.2.2=1:=g;rw[this];rfl
 rw[e] at d4;exact Int.eq_one_of_dvd_one (by lia) d4
theorem Se (hf:yD xa=true)(FR:zd xa)(pz:0<p.2.2)(kp:∀r∈xa,val r p<=0)
  (hc:∀v∈xS xa,brk v=true->∀ij∈ve xa (uC xa (xn v)),∃h,v9 (xg xa ij.1) (xg xa ij.2) h/\∀d∈h,val (d.1,d.2,zC d v) p<=0)
  {w:Pol.R3} (hw:w∈xS xa) {d:D2} (nz:d≠(0,0)):∃v∈xS xa,val (d.1,d.2,zC d v) p<=0:=by
 obtain⟨v,hv,ij,hij,inc⟩:=L0 hf FR hw nz;refine⟨v,hv,?_⟩;obtain⟨⟨vz,vg,_⟩,_⟩:=FR.corner hv;obtain⟨m1,m2,hp⟩:=aX hij;obtain⟨i1,v1⟩:=(jE vz).mp m1;obtain⟨i2,v2⟩:=(jE vz).mp m2;rw[mG];cases hb:brk v with
 |false=>have z1:=Uk vz vg hb;have:=lr (xa:=xa) (x:=(ij,d)) hp inc vz pz v1 v2 (kp _ (qm i1)) (kp _ (qm i2));unfold zC;rw[z1,Int.ediv_one];rw[z1,gy] at this;have this:dv d p<=dv d v*p.2.2:=this;lia
 |true=>
  obtain⟨h,B,all⟩:=hc v hv hb ij hij;obtain⟨i,a,b,ea,eb,c1,c2⟩:=B.chn.made B.l2 B.fst B.lst ((fZ hp).mpr inc);have one:=B.chn.one i a b ea eb;have ka:=all a (zG ea);have kb:=all b (zG eb);rw[mG] at ka kb;have be:=fQ a b d;rw[one,gy,gy] at be;have lin:∀u:Pol.R3,dv d u=cr d b*dv a u+cr a d*dv b u:=λu=>by unfold dv;rw[be.1,be.2];grind
  have f1:cr d b*zC a v+cr a d*zC b v<=zC d v:=by
   refine bI vz ?_;rw[lin v];have x1:=we (tF a vz) c1;have x2:=we (tF b vz) c2;have:(cr d b*zC a v+cr a d*zC b v)*v.2.2=cr d b*(zC a v*v.2.2)+cr a d*(zC b v*v.2.2):=by grind
   lia
  have y1:=we (show dv a p<=zC a v*p.2.2 by lia) c1;have y2:=we (show dv b p<=zC b v*p.2.2 by lia) c2;have y3:=zf f1 (show 0<=p.2.2 by lia);have:(cr d b*zC a v+cr a d*zC b v)*p.2.2=cr d b*(zC a v*p.2.2)+cr a d*(zC b v*p.2.2):=by grind
  rw[lin p];lia
end L2
namespace Pol
def GR.mono (h:GR xa)(s:∀r∈xa,r∈more):GR more:=λu v n=>let ⟨r,hr,c⟩:=h u v n;⟨r,s r hr,c⟩
def Jb (hp:0<p.2.2)(s:qr v p)(h:val r p=0):val r v=0:=by
 have e:val r v*p.2.2=val r p*v.2.2:=by have:=s.1;have:=s.2;simp only[val];grind
 rw[h,jb] at e;exact(vf.mp e).resolve_right (by lia)
def lS (gr:GR m2)(dir:∀r∈m2,r.1≠0\/r.2.1≠0)(le:∀p:R3,0<p.2.2->(∀r∈m2,val r p<=0)->∀r∈m1,val r p<=0)(vz:0<v.2.2)(k2:∀r∈m2,val r v<=0)(C:IsC m1 v):IsC m2 v:=by
 obtain⟨_,s,hs,t,ht,s0,t0,hn⟩:=C;have d0:(s.1+t.1)≠0\/(s.2.1+t.2.1)≠0:=by
  refine gc λno=>hn ?_;have e1:t.1 = -s.1:=by lia
  have e2:t.2.1 = -s.2.1:=by lia
  simp only[turn];rw[e1,e2];grind
 obtain⟨i,hi,j,hj,⟨t1,t2,t3⟩,ku⟩:=oY (d:=(s.1+t.1,s.2.1+t.2.1,0)) gr d0 dir vz k2;obtain⟨uz,ui,uj⟩:=gO (show turn i j≠0 by lia);have su:=le _ uz ku s hs;have tu:=le _ uz ku t ht;have vi:=k2 i hi;have vj:=k2 j hj;generalize zN i j=u at *
 have key:turn i j*((s.1+t.1)*v.1+(s.2.1+t.2.1)*v.2.1)=turn (s.1+t.1,s.2.1+t.2.1,0) j*(val i v+i.2.2*v.2.2)+turn i (s.1+t.1,s.2.1+t.2.1,0)*(val j v+j.2.2*v.2.2):=by simp only[turn,val];grind
 have key2:turn i j*((s.1+t.1)*u.1+(s.2.1+t.2.1)*u.2.1)=turn (s.1+t.1,s.2.1+t.2.1,0) j*(val i u+i.2.2*u.2.2)+turn i (s.1+t.1,s.2.1+t.2.1,0)*(val j u+j.2.2*u.2.2):=by simp only[turn,val];grind
 rw[ui,uj,mK,mK] at key2;have ev:(s.1+t.1)*v.1+(s.2.1+t.2.1)*v.2.1=(s.2.2+t.2.2)*v.2.2:=by simp only[val] at s0 t0;grind
 have eu:(s.1+t.1)*u.1+(s.2.1+t.2.1)*u.2.1=val s u+val t u+(s.2.2+t.2.2)*u.2.2:=by simp only[val];grind
 rw[ev] at key;rw[eu] at key2;generalize turn (s.1+t.1,s.2.1+t.2.1,0) j=A at *
 generalize turn i (s.1+t.1,s.2.1+t.2.1,0)=B at *
 generalize hT:turn i j=T at *
 have n1:0<=A * -val i v:=pz t3 (by lia);have n2:0<=B * -val j v:=pz t2 (by lia);have f:T*((val s u+val t u)*v.2.2)=(A * -val i v+B * -val j v)*u.2.2:=by
  have a:T*((s.2.2+t.2.2)*v.2.2)*u.2.2=(A*(val i v+i.2.2*v.2.2)+B*(val j v+j.2.2*v.2.2))*u.2.2:=by rw[key]
  have b:T*(val s u+val t u+(s.2.2+t.2.2)*u.2.2)*v.2.2=(A*(i.2.2*u.2.2)+B*(j.2.2*u.2.2))*v.2.2:=by rw[key2]
  grind
 have g:0<=T*((val s u+val t u)*v.2.2):=by rw[f];exact pz (by lia) (by lia)
 have hsum:val s u+val t u=0:=by
  have l:(val s u+val t u)*v.2.2<=0:=by have:=pz (a:=-(val s u+val t u)) (b:=v.2.2) (by lia) (by lia);rw[qK] at this;lia
  have z:(val s u+val t u)*v.2.2=0:=by refine gc λno=>?_;have:=pp t1 (show 0 < -((val s u+val t u)*v.2.2) by lia);rw[qJ] at this;lia
  exact(vf.mp z).resolve_right (by lia)
 have sm:qr v u:=ic hn s0 t0 (by lia) (by lia);exact⟨k2,i,hi,j,hj,Jb uz sm ui,Jb uz sm uj,by rw[hT];lia⟩
def IM (Cl:Ccw l)(Ck:Ccw k)(hl:fJ l)(hk:fJ k)(pr:∀p∈l,∀q∈l,qr p q->p=q)(hm:∀v,v∈l↔v∈k):l=k:=by
 have len:l.length=k.length:=l5 Cl.nd Ck.nd hm;have go:∀n:Nat,∀i:Nat,i<=n->l[i]?=k[i]?:=λn=>by
  induction n with
  |zero=>
   intro i hi;cases (show i=0 by lia);cases l with
   |nil=>cases k with
    |nil=>rfl
    |cons b k=>simp at len
   |cons a l=>cases k with
    |nil=>simp at len
    |cons b k=>have ma:a∈b::k:=(hm a).mp xT;have mb:b∈a::l:=(hm b).mpr xT;have:=pr a xT b mb (Ah.total (hk b k rfl a ma) (hl a l rfl b mb));rw[this];rfl
  |succ n ih=>
   intro i hi;by_cases c:i<=n
   .exact ih i c
   cases (show i=n+1 by lia);by_cases lt:n+1<l.length
   .have eb:l[n+1]?=some l[n+1]:=yA lt;have ec:k[n+1]?=some k[n+1]:=yA (by lia);have ea:l[n]?=some l[n]:=yA (by lia);have ea':k[n]?=some l[n]:=by rw[<-ih n (yg _)];exact ea
    rw[eb,ec];congr 1;have cl:k[n+1]∈l:=(hm _).mpr (zG ec);have bk:l[n+1]∈k:=(hm _).mp (zG eb);obtain⟨a1,a2⟩:=o8 Cl ea eb;obtain⟨b1,_⟩:=o8 Ck ea' ec;have d1:=a1 _ cl;have d2:=b1 _ bk;have sw:=nX l[n] l[n+1] k[n+1];obtain⟨j,hj,ej⟩:=fw.mp cl;have ej':l[j]?=some k[n+1]:=by rw[yA hj,ej]
    rcases Nat.lt_trichotomy j (n+1) with q|q|q
    .exfalso;have e:=ih j (by lia);rw[ej'] at e;have:=(List.getElem_inj (h₀:=by lia) (h₁:=by lia) Ck.nd (i:=j) (j:=n+1)).mp (by have h1:k[j]?=some k[j]:=yA (by lia);rw[h1] at e;exact(vH e).symm)
     lia
    .subst q;exact ej
    .exfalso;have:=a2 j _ q ej';lia
   .rw[sf (by lia),sf (by lia)]
 refine List.ext_getElem? λi=>go i i (yg _)
end Pol
namespace L2
open PySem Trn
def BxM (xa:List Pol.R3)(x:SX):Prop:=∀M:Int,0<=M->(∀i,i<xa.length->Bx M (xg xa i))->Bx M x.2
structure RP (xa:List Pol.R3)(Ls:List SX):Prop where
 snd:∀x∈Ls,z_ xa x/\Bx 30 x.2/\∃v∈xS xa,brk v=true/\x.1∈ve xa (uC xa (xn v))
 all:∀v∈xS xa,brk v=true->∃L,gH xa (ve xa (uC xa (xn v))) L/\∀x∈L,∃y∈Ls,yS xa y=yS xa x
 len:Ls.length<=4000
 few:(∀i,i<xa.length->Bx 14 (xg xa i))->Ls.length<=1000
def RR (xa:List Pol.R3)(Ls:List SX):List Pol.R3:=xa++Ls.map (yS xa)
def Kp (xa:List Pol.R3)(p:Pol.R3):Prop:=∀r∈xa,val r p<=0
def vY (xa:List Pol.R3)(Ls:List SX):List Pol.R3:=uw (pieces (RR xa Ls))
section
variable {xa:List Pol.R3} {Ls:List SX} (hf:yD xa=true) (FR:zd xa) (R:RP xa Ls)
include hf FR
theorem HE (hv:v∈xS xa)(h:ij∈ve xa (uC xa (xn v))):val (yf xa ij.1) v=0/\val (yf xa ij.2) v=0/\ij.1<xa.length/\ij.2<xa.length:=by obtain⟨⟨vz,_,_⟩,_⟩:=FR.corner hv;obtain⟨m1,m2,_⟩:=aX h;exact⟨((jE vz).mp m1).2,((jE vz).mp m2).2,((jE vz).mp m1).1,((jE vz).mp m2).1⟩
include R
def RP.at (hx:x∈Ls):∃v∈xS xa,0<v.2.2/\val (yf xa x.1.1) v=0/\val (yf xa x.1.2) v=0/\yS xa x=(x.2.1,x.2.2,zC x.2 v):=by obtain⟨G,_,v,hv,_,hs⟩:=R.snd x hx;obtain⟨v1,v2,_,_⟩:=HE hf FR hv hs;have vz:=(FR.corner hv).1.1;exact⟨v,hv,vz,v1,v2,HH hf G vz v1 v2⟩
def RP.main (pz:0<p.2.2)(kp:Kp (RR xa Ls) p)(hw:w∈xS xa)(nz:d≠(0,0)):∃v∈xS xa,val (d.1,d.2,zC d v) p<=0:=by refine Se hf FR pz (λr hr=>kp r (yZ _ hr)) (λv hv hb ij hij=>?_) hw nz;obtain⟨L,PL,all⟩:=R.all v hv hb;obtain⟨h,B,hm⟩:=PL.all ij hij;refine⟨h,B,λd hd=>?_⟩;obtain⟨y,hy,e⟩:=all _ (hm d hd);obtain⟨v1,v2,_,_⟩:=HE hf FR hv hij;have c:=HH hf (PL.good _ (hm d hd)).2 (FR.corner hv).1.1 v1 v2;have:=kp (yS xa y) (zY _ (jd hy));rw[e,c] at this;exact this
def RP.whole (p1:p.2.2=1)(kp:Kp xa p):Kp (RR xa Ls) p:=λr hr=>by
 rcases yy.mp hr with hr|hr
 .exact kp r hr
 .obtain⟨x,hx,rfl⟩:=zQ.mp hr;obtain⟨G,_⟩:=R.snd x hx;obtain⟨v,hv,vz,v1,v2,e⟩:=R.at hf FR hx;have:=lr G.pos G.inc vz (by lia) v1 v2 (kp _ (qm G.i1)) (kp _ (qm G.i2));rw[p1,gy] at this;have:=bI vz this;rw[e,mG,p1];lia
end
def EO (hf:yD xa=true)(FR:zd xa)(pz:0<p.2.2)(kp:Kp xa p):∃w,w∈xS xa:=by obtain⟨_,dir,gr,_⟩:=wG hf;have r0:∀r∈xa,r.1≠0\/r.2.1≠0:=λr hr=>(dir r hr).1;obtain⟨i,hi,j,hj,⟨t1,_,_⟩,k⟩:=oY (d:=(1,0,0)) (cJ r0 gr) (.inl (by decide)) r0 pz kp;obtain⟨z,e1,e2⟩:=gO (show Pol.turn i j≠0 by lia);obtain⟨v,hv,_⟩:=FR.fine.found z ⟨k,i,hi,j,hj,e1,e2,by lia⟩;exact⟨v,dm.mpr hv⟩
def RP.within (hf:yD xa=true)(FR:zd xa)(R:RP xa Ls)(hf2:yD rows2=true)(FR2:zd rows2)(R2:RP rows2 Ls2)(sub:∀p:Pol.R3,0<p.2.2->Kp rows2 p->Kp xa p)
  {p:Pol.R3} (pz:0<p.2.2) (kp:Kp (RR rows2 Ls2) p):Kp (RR xa Ls) p:=λr hr=>by
 have k2:Kp rows2 p:=λr hr=>kp r (yZ _ hr);rcases yy.mp hr with hr|hr
 .exact sub p pz k2 r hr
 .obtain⟨x,hx,rfl⟩:=zQ.mp hr;obtain⟨G,_⟩:=R.snd x hx;obtain⟨v,hv,vz,v1,v2,e⟩:=R.at hf FR hx;obtain⟨w,hw⟩:=EO hf2 FR2 pz k2;obtain⟨u,hu,ku⟩:=R2.main hf2 FR2 pz kp hw G.nz;obtain⟨⟨uz,_,Cu⟩,_⟩:=FR2.corner hu;have ku1:=sub u uz Cu.kept;have le:=lr G.pos G.inc vz uz v1 v2 (ku1 _ (qm G.i1)) (ku1 _ (qm G.i2));have fl:zC x.2 u<=zC x.2 v:=by
   refine bI vz ?_;have a:=zf (tF x.2 uz) (show 0<=v.2.2 by lia);have b:zC x.2 u*u.2.2*v.2.2=zC x.2 u*v.2.2*u.2.2:=by grind
   have c:zC x.2 u*v.2.2*u.2.2<=dv x.2 v*u.2.2:=by lia
   exact ja c uz
  rw[mG] at ku;rw[e,mG];have:=zf fl (show 0<=p.2.2 by lia);lia
def Em (ha:-30<=a/\a<=30)(hx:-(12*M)<=x/\x<=12*M):-(360*M)<=a*x/\a*x<=360*M:=by
 have hM:0<=12*M:=by lia
 have e:∀b y:Int,0<=b->b<=30->y<=12*M->b*y<=360*M:=λb y b0 b1 hy=>by have h1:=we hy b0;have h2:=zf b1 hM;lia
 rcases Int.le_total 0 a with c|c
 .have h1:=e a x c ha.2 hx.2;have h2:=e a (-x) c ha.2 (by lia);rw[qJ] at h2;lia
 .have h1:=e (-a) (-x) (by lia) (by lia) (by lia);have h2:=e (-a) x (by lia) (by lia) hx.2;rw[Int.neg_mul_neg] at h1;rw[qK] at h2;lia
section
variable {xa:List Pol.R3} {Ls:List SX} (hf:yD xa=true) (FR:zd xa) (R:RP xa Ls)
include hf
def Oe (hv:v∈xS xa)(vz:0<v.2.2):(-(12*v.2.2)<=v.1/\v.1<=12*v.2.2)/\(-(12*v.2.2)<=v.2.1/\v.2.1<=12*v.2.2):=by exact(G7 vz).mp ((wG hf).2.2.2 v (q_ hv))
include FR R
def RP.frow:∀r∈RR xa Ls,w5 r/\(r.1≠0\/r.2.1≠0):=λr hr=>by
 rcases yy.mp hr with hr|hr
 .have:=(wG hf).2.1 r hr;exact⟨this.2,this.1⟩
 .obtain⟨x,hx,rfl⟩:=zQ.mp hr;obtain⟨G,bx,_⟩:=R.snd x hx;obtain⟨v,hv,vz,_,_,e⟩:=R.at hf FR hx;have nr:=Oe hf hv vz;rw[e];have nz:x.2.1≠0\/x.2.2≠0:=gc λno=>G.nz (zL (by show x.2.1=0;lia) (by show x.2.2=0;lia));refine⟨?_,nz⟩;obtain⟨⟨b1,b2⟩,b3,b4⟩:=bx;have m1:=Em ⟨b1,b2⟩ nr.1;have m2:=Em ⟨b3,b4⟩ nr.2;have lo:-720<=zC x.2 v:=bI vz (by unfold dv;lia);have hi:zC x.2 v<=720:=by
   have:=tF x.2 vz;have:zC x.2 v*v.2.2<=720*v.2.2:=by unfold dv at this;lia
   exact ja this vz
  unfold w5;simp only;lia
def RP.fine:qR xa (RR xa Ls):=by obtain⟨_,dir,gr,_⟩:=wG hf;exact bj (cJ (λr hr=>(dir r hr).1) gr) (λr hr=>(dir r hr).2) (λr hr=>yZ _ hr) λr hr=>(R.frow hf FR r hr).2
theorem RP.gr:GR (RR xa Ls):=by obtain⟨_,dir,gr,_⟩:=wG hf;exact(cJ (λr hr=>(dir r hr).1) gr).mono λr hr=>yZ _ hr
theorem RP.corner (hv:v∈vY xa Ls):(0<v.2.2/\yN v=1/\IsC (RR xa Ls) v):=(R.fine hf FR).corner (q_ hv)
theorem RP.found (pz:0<p.2.2)(pg:yN p=1)(C:IsC (RR xa Ls) p):p∈vY xa Ls:=by obtain⟨v,hv,sm⟩:=(R.fine hf FR).found pz C;have c:=(R.fine hf FR).corner hv;rw[<-aL c.1 pz c.2.1 pg sm];exact dm.mpr hv
end
def RP.same (hf:yD xa=true)(FR:zd xa)(R:RP xa Ls)(hf2:yD rows2=true)(FR2:zd rows2)(R2:RP rows2 Ls2)(eq:∀p:Pol.R3,0<p.2.2->(Kp rows2 p↔Kp xa p)):vY xa Ls=vY rows2 Ls2:=by
 have l1:∀p:Pol.R3,0<p.2.2->Kp (RR rows2 Ls2) p->Kp (RR xa Ls) p:=λp pz=>R.within hf FR hf2 FR2 R2 (λp pz=>(eq p pz).mp) pz;have l2:∀p:Pol.R3,0<p.2.2->Kp (RR xa Ls) p->Kp (RR rows2 Ls2) p:=λp pz=>R2.within hf2 FR2 hf FR R (λp pz=>(eq p pz).mpr) pz;have g1:=qy (R.fine hf FR).dir;have g2:=qy (R2.fine hf2 FR2).dir;refine IM (sZ g1.ccw) (sZ g2.ccw) (s_ g1.bot) (s_ g2.bot) (λp hp q hq sm=>?_) λv=>⟨λhv=>?_,λhv=>?_⟩
 .obtain⟨a1,a2,_⟩:=R.corner hf FR hp;obtain⟨b1,b2,_⟩:=R.corner hf FR hq;exact aL a1 b1 a2 b2 sm
 .obtain⟨a1,a2,C⟩:=R.corner hf FR hv;exact R2.found hf2 FR2 a1 a2 (lS (R2.gr hf2 FR2) (R2.fine hf2 FR2).dir l1 a1 (l2 v a1 C.kept) C)
 .obtain⟨a1,a2,C⟩:=R2.corner hf2 FR2 hv;exact R.found hf FR a1 a2 (lS (R.gr hf FR) (R.fine hf FR).dir l2 a1 (l1 v a1 C.kept) C)
end L2
namespace L2
open PySem PySem.Spec PyProof.Rows
section
variable {X:Cx} {e:Expr} {te:TE}
end
theorem jO:∀(names:List (Str×NameKind)) (n:Nat) (acc:List (Str×Addr)),cellsFrom n names acc=cellsFrom n names []++acc
 |[],n,acc=>rfl
 | (x,k)::r,n,acc=>by
  unfold cellsFrom;split
  .rw[jO r (n+1) ((x,n)::acc),jO r (n+1) [(x,n)],v5];rfl
  .exact jO r n acc
theorem ak:∀(l k:List (Str×α)) (x:Str),(l++k).lookup x=(l.lookup x).or (k.lookup x)
 |[],k,x=>rfl
 | (y,v)::l,k,x=>by
  rw[gA,vx,vx];cases h:x==y with
  |true=>rfl
  |false=>exact ak l k x
theorem nM:∀(names:List (Str×NameKind)) (n:Nat) {x:Str} {c:Addr},(x,c)∈cellsFrom n names []->(x,NameKind.cell)∈names/\n<=c
 |[],n,x,c,h=>by simp[cellsFrom] at h
 | (y,k)::r,n,x,c,h=>by
  unfold cellsFrom at h;split at h
  .rename_i hk;have hk:k=.cell:=by simpa using hk
   rw[jO] at h;rcases yy.mp h with h|h
   .obtain⟨a,b⟩:=nM r (n+1) h;exact⟨yJ _ a,by lia⟩
   .have e:=zR.mp h;cases e;exact⟨by rw[hk];exact xT,yg _⟩
  .obtain⟨a,b⟩:=nM r n h;exact⟨yJ _ a,b⟩
theorem nL:∀(names:List (Str×NameKind)) (n:Nat) {x:Str},(x,NameKind.cell)∈names->∃c,(cellsFrom n names []).lookup x=some c
 |[],n,x,h=>by simp at h
 | (y,k)::r,n,x,h=>by
  unfold cellsFrom;rcases xU.mp h with e|h
  .injection e with e1 e2;subst e1 e2;rw[xK (show(NameKind.cell==NameKind.cell)=true from rfl),jO,ak];cases q:(cellsFrom (n+1) r []).lookup x with
   |some c=>exact⟨c,rfl⟩
   |none=>exact⟨n,by simp⟩
  .split
   .rw[jO,ak];obtain⟨c,hc⟩:=nL r (n+1) h;exact⟨c,by rw[hc];rfl⟩
   .exact nL r n h
theorem GV (g:Str->NameKind->NameKind):∀(l:List (Str×NameKind)) (x:Str),(l.map λy=>(y.1,g y.1 y.2)).lookup x=(l.lookup x).map (g x)
 |[],x=>rfl
 | (n,k)::l,x=>by
  rw[vS,vx,vx];cases h:x==n with
  |true=>
   have e:x=n:=by simpa using h
   rw[e];rfl
  |false=>exact GV g l x
def IF (sc:Scope)(env:Env)(x:Str):(relabel sc env).names.lookup x=(sc.names.lookup x).map λk=>if (k==NameKind.free&&env.scope.kind == .function&&env.kindOf x==some .cell)=true then NameKind.cell else k:=by
 have e:(relabel sc env).names=sc.names.map λy=>(y.1,if (y.2==NameKind.free&&env.scope.kind == .function&&env.kindOf y.1==some .cell)=true then NameKind.cell else y.2):=by unfold relabel;apply List.map_congr_left;rintro⟨n,k⟩ _;dsimp only;split<;>rfl
 rw[e,GV (λn k=>if (k==NameKind.free&&env.scope.kind == .function&&env.kindOf n==some .cell)=true then NameKind.cell else k)]
def fR (X:Cx)(sc:Scope)(C:Addr):List (Str×Addr):=cellsFrom (C+1) sc.names (w_ X.env sc.names [])
def vV (X:Cx)(sc:Scope)(N:List Str)(C:Addr)(s:Shared)(H:Hp)(ex:List Addr):Cx:={X with N:=N,s₀:=s,H₀:=H,env:=compEnvC sc (fR X sc C) C X.env,outer:=X.stack,stack:=X.stack,ex:=ex,fn:=λx=>decide (sc.names.lookup x=some .cell),pn:=[],xe:=λ_ _=>False}
def Ey (XN:List Str)(xs sc:Scope)(N:List Str)(xE:List (Option Nat)):Bool:=
 decide (sc.kind=.function)&&decide ((sc.names.map (·.1)).Nodup)&&decide N.Nodup&&decide (xE.length=N.length) &&
 (xE.zip N).all (λp=>match p.1 with|none=>true|some j=>decide (XN[j]?=some p.2)&&decide (sc.names.lookup p.2=some .free)) &&
 sc.names.all (λy=>decide (y.2≠.free)||decide (xs.names.lookup y.1=some .cell)||decide (xs.names.lookup y.1=some .free))&&decide (xs.kind=.function)
structure vJ (X:Cx)(sc:Scope)(N:List Str)(xE:List (Option Nat)):Prop where
 kind:sc.kind=.function
 uniq:(sc.names.map (·.1)).Nodup
 nd:N.Nodup
 len:xE.length=N.length
 out:∀(i j:Nat) (x:Str),xE[i]?=some (some j)->N[i]?=some x->X.N[j]?=some x/\sc.names.lookup x=some .free
 fr:∀y∈sc.names,y.2=.free->X.env.scope.names.lookup y.1=some .cell\/X.env.scope.names.lookup y.1=some .free
 okind:X.env.scope.kind=.function
def Ez (h:Ey XN xs sc N xE=true)(h1:X.N=XN)(h2:X.env.scope=xs):vJ X sc N xE:=by
 subst h1 h2;unfold Ey at h;simp only[k_,jJ,qp,Bool.or_eq_true] at h;obtain⟨⟨⟨⟨⟨⟨k,u⟩,nd⟩,len⟩,out⟩,fr⟩,ok⟩:=h;refine⟨k,u,nd,len,λi j x e1 e2=>?_,λy hy e=>?_,ok⟩
 .have:=out _ (zip_get e1 e2);simpa using this
 .rcases fr y hy with (z|z)|z
  .exact absurd e z
  .exact .inl z
  .exact .inr z
theorem l9 {l:List (Str×NameKind)}(h:(l.map (·.1)).Nodup){x:Str}{k:NameKind}(hm:(x,k)∈l):l.lookup x=some k:=by
 induction l with
 |nil=>simp at hm
 |cons y r ih=>
  obtain⟨n,k'⟩:=y;rw[vS,rD] at h;rw[vx];rcases xU.mp hm with e|hm
  .cases e;simp
  .have:x≠n:=λe=>h.1 (by rw[<-e];exact zQ.mpr ⟨_,hm,rfl⟩);rw[show(x==n)=false by simpa using this];exact ih h.2 hm
section
variable {X:Cx} {sc:Scope} {N:List Str} {xE:List (Option Nat)} {xf:List (Addr×Obj)} {σ:St} {H:Hp} {s:Shared}
def vJ.loc (k:vJ X sc N xE):∀y∈sc.names,y.2=.local->sc.names.lookup y.1=some .local:=λy hy e=>l9 k.uniq (by rw[<-e];exact hy)
theorem vJ.cells (k:vJ X sc N xE)(ok:X.Ok):∀y∈sc.names,y.2=NameKind.free->∃c,X.env.cells.lookup y.1=some c:=λy hy e=>ok.has y.1 (k.fr y hy e)
theorem vJ.cs (k:vJ X sc N xE){C:Addr}{x:Str}{c:Addr}(h:(fR X sc C).lookup x=some c):(sc.names.lookup x=some .cell/\(x,c)∈cellsFrom (C+1) sc.names []/\C+1<=c)\/(sc.names.lookup x≠some .cell/\X.env.cells.lookup x=some c):=by
 unfold fR at h;rw[jO,ak] at h;cases q:(cellsFrom (C+1) sc.names []).lookup x with
 |some c' =>rw[q] at h;cases (show some c'=some c from h);have m:=qP q;obtain⟨a,b⟩:=nM _ _ m;exact .inl ⟨l9 k.uniq a,m,b⟩
 |none=>rw[q] at h;refine .inr ⟨λz=>?_,jP _ _ (show(w_ X.env sc.names []).lookup x=some c from h) λ_ z=>by simp at z⟩;obtain⟨c',hc⟩:=nL sc.names (C+1) (qP z);rw[hc] at q;cases q
def vJ.own (k:vJ X sc N xE)(h:sc.names.lookup x=some .cell):∃c,(fR X sc C).lookup x=some c:=by obtain⟨c,hc⟩:=nL sc.names (C+1) (qP h);exact⟨c,by unfold fR;rw[jO,ak,hc];rfl⟩
theorem vJ.seen (k:vJ X sc N xE){C:Addr}{x:Str}{c:Addr}(h:sc.names.lookup x=some .free)(hc:X.env.cells.lookup x=some c):(fR X sc C).lookup x=some c:=by
 unfold fR;rw[jO,ak];cases q:(cellsFrom (C+1) sc.names []).lookup x with
 |some c' =>obtain⟨a,_⟩:=nM _ _ (qP q);rw[l9 k.uniq a] at h;cases h
 |none=>exact sQ hc _ _ (qP h)
def EA (k:vJ X sc N xE)(I:Inv X xf σ H s)(hf:∀b∈fp,vn X xf H b)(hob:∀b∈fp,∃o,s.heap.get? b=some o)(ap:(cellsFrom (s.heap.objs.size+1+1) sc.names []).Pairwise λx y=>x.2≠y.2) :
  (vV X sc N (s.heap.objs.size+1) s H fp).Ok where
 mod:=I.ok.mod
 kind:=k.kind
 glob:=I.ok.glob
 blt:=I.ok.blt
 above:=sE _
 inj:=λx y c h1 h2=>by
  have old:∀ {x:Str} {c:Addr},X.env.cells.lookup x=some c->c<s.heap.objs.size:=λ {x c} e=>let ⟨v,q⟩:=I.cell x c e;q.lt;rcases k.cs h1 with ⟨_,a1,b1⟩|⟨_,a1⟩<;>rcases k.cs h2 with ⟨_,a2,b2⟩|⟨_,a2⟩
  .exact name_of_addr ap a1 a2
  .exact absurd (uW (old a2) (wV (fC _ 2) b1)) (qN _)
  .exact absurd (uW (old a1) (wV (fC _ 2) b2)) (qN _)
  .exact I.ok.inj x y c a1 a2
 has:=λx h=>by
  have e:=IF sc X.env x;have h:(relabel sc X.env).names.lookup x=some .cell\/(relabel sc X.env).names.lookup x=some .free:=h;cases q:sc.names.lookup x with
  |none=>rw[e,q] at h;simp at h
  |some kd=>
   cases kd with
   |cell=>exact k.own q
   |free=>obtain⟨c,hc⟩:=k.cells I.ok _ (qP q) rfl;exact⟨c,k.seen q hc⟩
   |_=>rw[e,q] at h;simp at h
 cab:=λx c h hc=>by
  have h:=yV h;rcases k.cs hc with ⟨_,_,b⟩|⟨n,_⟩
  .exact wV (fC _ 2) b
  .exact absurd h n
 hd:=I.ok.hd
 frames:=I.ok.frames
 stk:=.inl rfl
 exf:=λb hb=>by
  obtain⟨o,e⟩:=hob b hb;have l:=yH e;refine⟨λz=>?_,λx c h z=>?_⟩
  .have z':b=s.heap.objs.size+1:=z;rw[z'] at l;exact qN _ (Nat.lt_of_succ_lt l)
  .rcases k.cs h with ⟨_,_,q⟩|⟨_,q⟩
   .rw[z] at q;exact absurd (uW l (wV (fC _ 2) q)) (qN _)
   .exact(hf b hb).2.2.2.2.1 x c q z
 bs:=I.bs
 bsz:=wV I.ok.bsz I.sz
 noex:=λb o e hb=>by
  rcases(hf b hb).2.2.2.1 with z|z
  .exact I.ok.noex b o e z
  .exact absurd (uW (yH (I.ok.bs b o e).1) z) (qN _)
 exfs:=λb hb z=>by
  rcases xU.mp (I.stkSub b z) with e|e
  .exact(hf b hb).2.1 e
  .exact(hf b hb).2.2.1 e
 funs:=I.stack
 frf:=I.stkFree
def LO (k:vJ X sc N xE)(I:Inv X xf σ H s)(hf:∀b∈fp,vn X xf H b)(hob:∀b∈fp,∃o,s.heap.get? b=some o)
  (kp:∀b o,s.heap.get? b=some o->h1.get? b=some o) (hn:h1.Ns (s.heap.objs.size+1) (λ_=>none)) (hD:h1.get? s.heap.objs.size=some {cls:=.type "list", data:=.seq #[] 0})
  (ck:CellsOk h1 (s.heap.objs.size+1+1) (cellsFrom (s.heap.objs.size+1+1) sc.names [])) :
  Inv (vV X sc N (s.heap.objs.size+1) s H fp) [(s.heap.objs.size,lo [] 0)] (uN xE σ) H {s with heap:=h1,toks:=t' } where
 ok:=EA k I hf hob ck.apart
 os:=rfl
 bare:=I.bare
 base:=Un.kept kp
 loc:=⟨_,hn,λi x v e1 e2 e3=>by
  obtain⟨j,t1,t2⟩:=bH e2;obtain⟨o1,o2⟩:=k.out i j x t1 e1;have m:(x,NameKind.free)∈sc.names:=qP o2;have hk:=k.fr _ m rfl;obtain⟨mm,hn',hl⟩:=I.loc;obtain⟨u,r,l⟩:=hl j x v o1 t2 (hk.elim (λz=>.inr (.inl z)) λz=>.inr (.inr z));have e:=IF sc X.env x;rw[o2] at e;refine⟨u,r,.inr ⟨?_,?_⟩⟩
  .show(relabel sc X.env).names.lookup x=some .cell\/(relabel sc X.env).names.lookup x=some .free;rw[e];simp only[Option.map_some];split
   .exact .inl rfl
   .exact .inr rfl
  .rcases l with ⟨z,_⟩|⟨_,c,ec,hc⟩
   .exfalso;have z:X.env.scope.names.lookup x=some .local:=z;rcases hk with q|q<;>rw[z] at q<;>cases q
   .obtain⟨o,ho,hd⟩:=hc;exact⟨c,k.seen o2 ec,o,kp c o ho,hd⟩⟩
 cell:=λx c h=>by
  rcases k.cs h with ⟨_,a,_⟩|⟨_,a⟩
  .exact⟨_,(ck.empty x c a).1⟩
  .obtain⟨v,o,ho,hd⟩:=I.cell x c a;exact⟨v,o,kp c o ho,hd⟩
 free:=I.hok.fresh (sE _)
 freeC:=λx c h=>by
  rcases k.cs h with ⟨_,_,b⟩|⟨_,a⟩
  .exact I.hok.fresh (wV (fC _ 2) b)
  .exact I.freeC x c a
 pin:=λp hp=>by
  have e:p=(s.heap.objs.size,lo [] 0):=by simpa [vV] using hp
  subst e;refine⟨hD,I.hok.fresh (yg _),zV (mU _),λz=>?_,λv=>by simp⟩;rcases xU.mp (I.stkSub _ z) with e|e
  .exact absurd (e▸I.lt) (qN _)
  .exact I.nofs (yg _) e
 hok:=I.hok.kept kp
 len:=by show(uN xE σ).length=N.length;unfold uN;rw[xO];exact k.len
end
def LU (hc:Y.calm=true)(hx:Y.xe=λ_ _=>False)(hg:PG Y tg g)(ht:PIf Y ifs tc)(he:PE Y elt te)(hga:GA xE g)
  {it:Addr} {fp:List Addr} {tn:Nat->Heap->Prop} {J:It} (T:Turn Y.prog Y.w Y.K tg J fp it tn) {xj:List Value} {n:Nat} {ys:List V} {σ0:St} {H:Hp} {s:Shared} (I:Inv Y ((D,lo xj n)::pl) σ0 H s) (hτ:∀(i:Nat) (v:V),σ0[i]?=some (some v)->∃j,xE[i]?=some (some j)) (rv:yk ys xj) (hz:ys.length<=sizeLine) (h1:D∈Y.ex\/Y.s₀.heap.objs.size<=D) (h2:∀p∈Y.pn++pl,p.1≠D)
  (st0:tn 0 s.heap) (fo:∀b∈fp,vn Y ((D,lo xj n)::pl) H b) {W:Nat->Nat->List V->Hp->Prop} {Z:List V->Hp->Prop} (w0:∃m,W 0 m ys H) (turn:∀i m ys H,W i m ys H->(J.stop i H/\Z ys H)\/ (J.go i H/\ys.length<sizeLine/\∀x H',J.yld i H x H'->g x σ0 H' λσ2 H2=>tc σ2 H2 λb H3=>if b=true then te σ2 H3 λy H4=>∃m',m' < m/\W (i+1) m' (ys++[y]) H4 else ∃m',m' < m/\W (i+1) m' ys H3))
  {R:Result->Shared->Prop} (fin:∀H' s' ys' its' n',Inv Y ((D,lo its' n')::pl) σ0 H' s'->yk ys' its'->ys'.length<=sizeLine->Z ys' H'->R (.ok .next) s') :
  codeAny (model Y.prog Y.w) Y.A (.compStart (.ListComp elt [⟨tg,iter,ifs,0⟩] sc pos) 0 (.ref it) (.ref D) Y.env) R s:=by
 obtain⟨m0,w0⟩:=w0;have fD:∀b∈fp,b≠D:=λb hb=>zK ((fo b hb).2.2.2.2.2 (D,lo xj n) (by simp));have stat:∀ {H':Hp} {its':List Value} {n':Nat},(∀b∈fp,H' b=none)->∀b∈fp,vn Y ((D,lo its' n')::pl) H' b:=λ {H' its' n'} hn b hb=>by
  obtain⟨_,a1,a2,a3,a4,a5⟩:=fo b hb;refine⟨hn b hb,a1,a2,a3,a4,λp hp=>?_⟩;rcases yy.mp hp with hp|hp
  .exact a5 p (yZ _ hp)
  .rcases xU.mp hp with rfl|hp
   .exact zK (fD b hb)
   .exact a5 p (zY _ (yJ _ hp))
 have loop:codeAny (model Y.prog Y.w) Y.A (.compLoop (.ListComp elt [⟨tg,iter,ifs,0⟩] sc pos) 0 (.ref it) (.ref D) Y.env) R s:=by
  refine EI (λm s'=>∃i ys' H' its' n',Inv Y ((D,lo its' n')::pl) σ0 H' s'/\yk ys' its'/\ys'.length<=sizeLine/\tn i s'.heap/\(∀b∈fp,H' b=none)/\W i m ys' H') ?_ m0
   ⟨0,ys,H,xj,n,I,rv,hz,st0,λb hb=>(fo b hb).1,w0⟩
  rintro m s3 ⟨i,ys3,H3,its3,n3,I3,rv3,hz3,st3,fr3,w3⟩;rcases turn i m ys3 H3 w3 with ⟨stop,z⟩|⟨go,hlt,step⟩
  .refine uD (T.done Y rfl rfl rfl hc i _ s3 _ H3 (λ_ _=>False) I3 (stat fr3) st3 stop) (λr s4 ⟨hr,I4⟩=>?_) λ_ _ f=>f.elim;subst hr;exact fin _ _ _ _ _ I4 rv3 hz3 z
  .refine uD (T.item Y rfl rfl rfl hc i _ s3 _ H3 (λ_ _=>False) I3 (stat fr3) st3 go) (λr s4 ⟨u,hr,h4⟩=>?_) λ_ _ f=>f.elim;subst hr;refine uD h4 (λ_ s5 ⟨x,H5,I5,r5,y5,st5,fr5⟩=>?_) λ_ _ f=>f.elim;have I5':=I5.pinned (stat fr5) (T.obj _ _ st5);have g5:=hg _ s5 _ H5 x u _ I5' r5 (hga _ _ _ _ (step x H5 y5));rw[hx] at g5;refine uD g5 (λ_ s6 ⟨σ6,H6,I6,q6,ag⟩=>?_) λ_ _ f=>f.elim;have t6:=ht _ s6 σ6 H6 _ I6 q6;rw[hx] at t6;refine uD t6 (λb s7 ⟨H7,I7,q7⟩=>?_) λ_ _ f=>f.elim;have back:∀ {H8:Hp} {s8:Shared} {its8:List Value} {n8:Nat},Inv Y ((D,lo its8 n8)::(pl++gZ fp s5.heap)) σ6 H8 s8->Inv Y ((D,lo its8 n8)::pl) σ0 H8 s8/\tn (i+1) s8.heap/\∀b∈fp,H8 b=none:=λ {H8 s8 its8 n8} I8=>by
    have I8':Inv Y (((D,lo its8 n8)::pl)++gZ fp s5.heap) σ6 H8 s8:=I8;refine⟨I8'.unpinned.weak (I.len.trans I8.len.symm) λj v e=>?_,T.keep _ _ _ st5 λb hb o e=>(I8'.pin (b,o) (zY _ (zY _ (ao hb e)))).1,λb hb=>?_⟩
    .obtain⟨j',t1⟩:=hτ j v e;rw[ag j j' t1];exact e
    .obtain⟨o,e,d⟩:=T.obj _ _ st5 b hb;exact(I8'.pin (b,o) (zY _ (zY _ (ao hb e)))).2.1
   cases b with
   |false=>obtain⟨m',hm,w7⟩:=q7;obtain⟨I8,st8,fr8⟩:=back I7;rw[xH wR];exact⟨m',hm,i+1,ys3,H7,its3,n3,I8,rv3,hz3,st8,fr8,w7⟩
   |true=>
    rw[xK rfl];have e7:=@he _ s7 σ6 H7 _ I7 q7;rw[hx] at e7;refine uD e7 (λy s8 ⟨yv,H8,I8,r8,m',hm,w8⟩=>?_) λ_ _ f=>f.elim;refine K6 (pl:=pl++gZ fp s5.heap) I8 h1 (λp hp=>?_) (by rw[<-rv3.length];exact hz3) λs9 n9 I9 _=>?_
    .rw[<-v5] at hp;rcases yy.mp hp with hp|hp
     .exact h2 p hp
     .exact fD _ (Hc hp).1
    .obtain⟨I10,st10,fr10⟩:=back I9;exact⟨m',hm,i+1,ys3++[yv],H8,its3++[y],n9,I10,rv3.append (.cons r8 .nil),by rw[zy,gB];exact hlt,st10,fr10,w8⟩
 exact codeAny_compStart_list loop (T.self _ 0 _ _ _ st0 loop)
section
variable {X:Cx} {sc:Scope} {N:List Str} {xE:List (Option Nat)} {xf:List (Addr×Obj)} {σ:St} {H:Hp} {s:Shared}
def LN (k:vJ X sc N xE)(I:Inv X xf σ H s)(hf:∀b∈fp,vn X xf H b)
  (J:Inv (vV X sc N (s.heap.objs.size+1) s H fp) [(s.heap.objs.size,lo xj n)] σ' H' s') (rv:yk ys xj) (hz:ys.length<=sizeLine) :
  Inv X xf σ (upd H' s.heap.objs.size (.lst ys)) s'/\H' s.heap.objs.size=none/\(upd H' s.heap.objs.size (.lst ys)) (s.heap.objs.size+1)=none:=by
 obtain⟨pD,nD,_,_,_⟩:=J.pin (s.heap.objs.size,lo xj n) (by simp[vV]);have nC:H' (s.heap.objs.size+1)=none:=J.free;have B:Un (frs X.stack) fp H H' s.heap s'.heap:=J.base;have ltD:∀b o,s.heap.get? b=some o->b≠s.heap.objs.size:=λb o e=>zV (yH e);refine⟨I.call' (ch:=fp) J.os ⟨B.keep,B.slot,λb o e n hx=>?_,B.there,λb xs e=>?_,λb o u e=>?_,λb ps e=>?_⟩ (λb u e=>?_) J.bare (λb hb=>?_),nD,?_⟩
 .rw[yl (ltD b o e)];exact B.free b o e n hx
 .have q:=B.tups b xs e;rw[yl (zq q nD)];exact q
 .have q:=B.frzs b o u e;rw[yl (zq q nD)];exact q
 .obtain⟨more,q⟩:=B.tbls b ps e;exact⟨more,by rw[yl (zq q nD)];exact q⟩
 .by_cases hb:b=s.heap.objs.size
  .subst hb;rw[zA] at e;cases e;exact⟨hz,xj,n,rv,pD⟩
  .rw[yl hb] at e;exact(J.hok b u e).stay (λc v _ q=>q) (λc q=>by rw[yl (zq q nD)];exact q) (λc xs q=>by rw[yl (zq q nD)];exact q) λc o u q=>by rw[yl (zq q nD)];exact q
 .obtain⟨_,f1,_,f3,f4,f5⟩:=hf b hb;exact⟨f3,f1,f4,f5⟩
 .rw[yl (jf (mU _))];exact nC
def LM {elt tg iter:Expr}{ifs:List Expr}{g:TG}{tc:TT}{te:TE}{pos:Pos}(k:vJ X sc N xE)(hc:X.calm=true)(I:Inv X xf σ H s){it:Addr}{fp:List Addr}{tn:Nat->Heap->Prop}{J:It}
  (T:Turn X.prog X.w X.K tg J fp it tn) (st0:tn 0 s.heap) (hf:∀b∈fp,vn X xf H b) (hga:GA xE g)
  (hg:∀C s H ex,PG (vV X sc N C s H ex) tg g) (ht:∀C s H ex,PIf (vV X sc N C s H ex) ifs tc) (he:∀C s H ex,PE (vV X sc N C s H ex) elt te)
  {W:Nat->Nat->List V->Hp->Prop} {Z:List V->Hp->Prop} (w0:∃m,W 0 m [] H) (turn:∀i m ys H,W i m ys H->(J.stop i H/\Z ys H)\/ (J.go i H/\ys.length<sizeLine/\∀x H',J.yld i H x H'->g x (uN xE σ) H' λσ2 H2=>tc σ2 H2 λb H3=>if b=true then te σ2 H3 λy H4=>∃m',m' < m/\W (i+1) m' (ys++[y]) H4 else ∃m',m' < m/\W (i+1) m' ys H3))
  {E:Value->Shared->Prop} {RR:Value->Addr->Result->Shared->Prop}
  (fin:∀ σ' H' s' ys xj n,Inv (vV X sc N (s.heap.objs.size+1) s H fp) [(s.heap.objs.size,lo xj n)] σ' H' s'->yk ys xj->ys.length<=sizeLine->Z ys H'->RR (.ref s.heap.objs.size) (s.heap.objs.size+1) (.ok .next) s') :
  wpAny (model X.prog X.w) X.A (newList []) (λacc s₃=>wpAny (model X.prog X.w) X.A (newFunctionEnv sc X.env.globals (w_ X.env sc.names []) [] X.env.qual none .none (some X.env)) (λcenv s₄=>codeAny (model X.prog X.w) X.A (.compStart (.ListComp elt [⟨tg,iter,ifs,0⟩] sc pos) 0 (.ref it) acc {cenv with scope:=relabel sc X.env}) (RR acc cenv.locals) s₄) E s₃) E s:=by
 have hob:∀b∈fp,∃o,s.heap.get? b=some o:=λb hb=>let ⟨o,e,_⟩:=T.obj _ _ st0 b hb;⟨o,e⟩
 refine vI ?_;simp only[newFunctionEnv,Option.isSome_some,sF];refine xi (wpAny_alloc ?_);refine xi (wpAny_layCells _ (λname kind cells=>by cases hkc:kind==NameKind.cell<;>simp[hkc]) _ _ _ _ ?_);rw[List.forIn_nil];refine xi (xN (xN ?_));have e1:(s.heap.push {cls:=.type "list", dict:=none,data:=.seq ([]:List Value).toArray}).objs.size=s.heap.objs.size+1:=ft ..;have e2:((s.heap.push {cls:=.type "list", dict:=none,data:=.seq ([]:List Value).toArray}).push {cls:=.type "dict", data:=.dict #[]}).objs.size=s.heap.objs.size+1+1:=by rw[ft,e1]
 dsimp only;rw[e1,e2];generalize hh:(s.heap.push {cls:=.type "list", dict:=none,data:=.seq ([]:List Value).toArray})=hA at e1 e2 ⊢;have oldA:∀b o,s.heap.get? b=some o->hA.get? b=some o:=λb o e=>hh▸yY _ e;have ck:=cellsFrom_ok sc.names (hA.push {cls:=.type "dict", data:=.dict #[]}) (s.heap.objs.size+1+1) [] ⟨λ_ _ hm=>(nomatch hm),List.Pairwise.nil⟩ (by rw[e2];exact yg _);rw[e2] at ck;have old:∀b o,s.heap.get? b=some o->(pushCells (hA.push {cls:=.type "dict", data:=.dict #[]}) sc.names).get? b=some o:=λb o e=>pushCells_keeps _ _ b o (yY _ (oldA b o e));have hns:(pushCells (hA.push {cls:=.type "dict", data:=.dict #[]}) sc.names).Ns (s.heap.objs.size+1) (λ_=>none):=by have:=(Heap.Ns.new hA (.type "dict")).keeps (pushCells_keeps sc.names _);rw[e1] at this;exact this
 have hacc:(pushCells (hA.push {cls:=.type "dict", data:=.dict #[]}) sc.names).get? s.heap.objs.size=some (lo [] 0):=pushCells_keeps _ _ _ _ (yY _ (hh▸wD _ rfl));have I1:=LO (t':=s.toks) k I hf hob old hns hacc ck;have ltD:∀b∈fp,b≠s.heap.objs.size:=λb hb=>by obtain⟨o,e⟩:=hob b hb;exact zV (yH e)
 have cx:=EA (N:=N) k I hf hob ck.apart;refine LU (Y:=vV X sc N (s.heap.objs.size+1) s H fp) (D:=s.heap.objs.size) (pl:=[]) (xE:=xE) hc rfl (hg _ _ _ _) (ht _ _ _ _) (he _ _ _ _) hga T I1 (λi v e=>let ⟨j,a,_⟩:=bH e;⟨j,a⟩) .nil (gD _) (.inr (yg _)) (λp hp=>by simp[vV] at hp) (T.keep _ _ _ st0 λb _ o e=>old b o e) (λb hb=>?_) w0 turn λH' s' ys' its' n' J' rv' hz' z=>fin _ _ _ _ _ _ J' rv' hz' z;refine⟨(hf b hb).1,(cx.exf b hb).1,cx.exfs b hb,.inl hb,(cx.exf b hb).2,λp hp=>?_⟩;have e:p=(s.heap.objs.size,lo [] 0):=by simpa [vV] using hp
 subst e;exact zK (ltD b hb)
def HW (hN:X.N.Nodup)(hi':X.N[i]?=some x)(hx:Loc X.env.scope x)(k:vJ X sc N xE)(hc:X.calm=true)(hga:GA xE g)(hi:PI X tg iter wi)
  (hg:∀C s H ex,PG (vV X sc N C s H ex) tg g) (ht:∀C s H ex,PIf (vV X sc N C s H ex) ifs tc) (he:∀C s H ex,PE (vV X sc N C s H ex) elt te)
  (hsw:swapsWith (.ListComp elt [⟨tg,iter,ifs,0⟩] sc pos) (some (.Name x py)) spos.line X.env=pure true:=by rfl)
  (hs:∀x,foldedSetIterable iter X.env x=pure x:=by intro _;rfl) (hf:X.fn x=true\/X.env.scope.names.lookup x=some .local:=by first|exact .inl rfl|exact .inr rfl|assumption) :
  PS X (.Assign [.Name x py] (.ListComp elt [⟨tg,iter,ifs,0⟩] sc pos) spos) (jD (pL wi xE g tc te) (qx i)):=by
 intro xf s σ H D I h;rw[exec_Assign_Name_used _ _ _ _ hsw];refine xi (rJ (xi ?_));show wpAny _ X.A (do let _ <-comprehension (.ListComp elt [⟨tg,iter,ifs,0⟩] sc pos) sc X.env _ (newList []) false (eval iter X.env) (some (assign (.Name x py) X.env))) _ _ s;refine xi (uD (KN (use:=some (assign (.Name x py) X.env)) (Q:=λ_ s'=>SP X xf D .next s') rfl hs (lj (k.cells I.ok)) k.kind k.loc ?_) (λ_ s' q=>xN (xN q)) λ_ _ e=>e);refine yn (@hi xf s σ H _ I h) λv s1 h1=>yn h1 λitv s2 h2=>?_;obtain⟨it,fp,tn,J,H2,e,I2,T,st2,f2,W,w0,turn⟩:=h2;subst e;refine LM (RR:=λacc C=>compPost (model X.prog X.w) X.A X.xe (some (assign (.Name x py) X.env)) (λ_ s'=>SP X xf D .next s') acc C) (W:=W) (Z:=λys H'=>∀p,H' p=none->D.nx (σ.set i (some (.ref p))) (upd H' p (.lst ys))) k hc I2 T st2 f2 hga hg ht he w0 turn ?_;intro σ' H' s' ys xj n J' rv hz z;obtain⟨I',hD,hC⟩:=LN k I2 f2 J' rv hz;obtain⟨m,hn,_⟩:=J'.loc;have hn:s'.heap.Ns (s2.heap.objs.size+1) m:=hn;refine KL (BQ (v:=.ref s2.heap.objs.size) I' hN hi' hx rfl (λs'' I'' ⟨a,sb,ha⟩=>?_) hf);refine⟨m,hn.sameBut sb ?_,λh' hs'=>⟨_,_,lp I2 I'' hC hs',z _ hD⟩⟩;rcases ha with ha|ha
 .rw[ha];exact jf (fE I2.lt)
 .obtain⟨v,o,ho,_⟩:=I2.cell x a ha;exact jf (fE (yH ho))
end
section
variable {K:xt} {fr:Bool} {H:Hp}
theorem MM (R:RS K B φ σ τ H)(h:H a=none):B.H0 a=none:=by
 cases q:B.H0 a with
 |none=>rfl
 |some o=>
  by_cases s:B.S0 a
  .exact absurd h (R.sst a (.inl s)).ne_none
  .rw[R.ext a o q s] at h;cases h
end
end L2
namespace L2
open PySem Trn
def wp (p:D2):P2:=((p.1,1),(p.2,1))
def wpT (p:D2):Tr:=pT (wp p)
def MJ (h:Bk k a)(hk:1<=k):Fk k (a,1):=⟨h,(show Bk 1 (1:Int) by unfold Bk;decide).mono hk,by show(0:Int)<1;decide⟩
def RH (h:Bx 1000 p):Pk 30 (wp p):=by have b:∀a:Int,-1000<=a/\a<=1000->Fk 30 (a,1):=λa ha=>MJ (by unfold Bk;lia) (by decide);exact⟨b _ h.1,b _ h.2⟩
end L2
namespace L2
open PySem PySem.Spec PyProof.Rows
def MY {l:List Int}{j:Nat}(h:j<l.length):l.getD j 0∈l:=by rw[jK,yA h];exact og _
section
variable {X:Cx}
def Aj (K:xt)(xs:List V)(H:Hp)(Q:VK):Prop:=∃(p:Addr) (ns:List Int),xs=[.ref p]/\yt K H p (ns.map V.int)/\ns≠[]/\∀M,M∈ns->(∀a∈ns,M<=a)->Q (.int M) H
def LA (hc:X.calm=true):vk X (.builtin "min") (Aj X.K):=by
 intro xf s σ H xs us Q I r h;obtain⟨p,ns,rfl,hl,hne,q⟩:=h;obtain⟨u,rfl,ru⟩:=vals1 r;cases ru;obtain⟨xj,rv,pl,hz⟩:=I.list hl;obtain⟨m,F⟩:=I.fr;have hi:=intsAre_of rv;obtain⟨xs',e⟩:=hi.allInts.items;have hns:ns=xs'.toList.map (·.1):=by rw[<-hi.numsOf,<-nums_intItems,<-e]
 have hsz:0<xs'.size:=by have h3:0<ns.length:=Ku.mpr hne;rw[hns,xO,kJ] at h3;exact h3
 have hl':=pl.isList;rw[e] at hl';refine min_intList (I.ok.hd hc) hl' hsz λv h' tk hv hk=>?_;obtain⟨t,rfl⟩:=intItems_at hv;obtain⟨h1,h2⟩:=argBest_lt (numAt xs') (xs'.size-1);refine⟨.int _,H,I.kept hk,⟨t,rfl⟩,q _ ?_ λa ha=>?_⟩
 .rw[hns,numAt_eq];exact MY (by rw[xO,kJ];lia)
 .rw[hns] at ha;obtain⟨j,hj,rfl⟩:=mem_getD ha;rw[xO,kJ] at hj;rw[<-numAt_eq];exact h2 j (by lia)
def LB (K:xt)(hc:X.calm=true)(e:X.K=K:=by rfl):vk X (.builtin "min") (Aj K):=e▸LA hc
end
section
variable {K:xt}
def MA (xs:List Tr)(KK:Tr->Prop):Prop:=∃ns:List Int,xs=[.lst (ns.map Tr.int)]/\ns≠[]/\∀M,M∈ns->(∀a∈ns,M<=a)->KK (.int M)
def LL:CbS (Aj K) MA:=by intro F H vs ts KK Q r hf q;obtain⟨ns,rfl,h0,h1⟩:=hf;obtain⟨v,rfl,a,ws,e,n,ha,rl⟩:=qD r;rw[dI rl] at ha;exact⟨a,ns,by rw[e],yt.of ha,h0,λM h2 h3=>q _ _ rfl (h1 M h2 h3)⟩
end
end L2
namespace L2
open PySem Trn
section
variable {xa:List Pol.R3} {ws:List F2}
end
def rL (xa:List Pol.R3)(p:D2):Prop:=∀r∈xa,r.1*p.1+r.2.1*p.2<=r.2.2
def Q3:ye:=λts KK=>∃xa:List Pol.R3,ts=[.tup (xa.map xh),.lst ((xS xa).map xG)]/\LF xa/\∀ps:List D2,(∀p∈ps,Bx 1000 p/\rL xa p)->ps.length<=2000->KK (.lst (ps.map wpT))
def LF.floors (h:LF xa)(hv:v∈xS xa):(-12<=(xn v).1.1.fdiv (xn v).1.2/\(xn v).1.1.fdiv (xn v).1.2<=12)/\(-12<=(xn v).2.1.fdiv (xn v).2.2/\(xn v).2.1.fdiv (xn v).2.2<=12):=by
 obtain⟨⟨vz,_,C⟩,_⟩:=h.fine.corner hv;have nr:=h.near v vz C.kept;have go:∀ {t:Int},-(12*v.2.2)<=t/\t<=12*v.2.2->-12<=(Fra.low t v.2.2).1.fdiv (Fra.low t v.2.2).2/\(Fra.low t v.2.2).1.fdiv (Fra.low t v.2.2).2<=12:=λ {t} hn=>by
  have S:=aW (t:=t) vz;have:=S.pf;rw[dY _ (by lia),S.floor];constructor
  .rw[Cb vz];lia
  .have a:=Int.ediv_mul_le t (show v.2.2≠0 by lia);exact ja (a:=v.2.2) (by lia) vz
 exact⟨go nr.1,go nr.2⟩
end L2
namespace L2
open PySem PySem.Spec PyProof.Rows
section
variable {κ:Type} [DecidableEq κ]
def qH (xJ:List (κ×V))(k:κ):Option V:=(xJ.find? λkv=>decide (kv.1=k)).map (·.2)
def putK (xJ:List (κ×V))(k:κ)(v:V):List (κ×V):=if (xJ.any λkv=>decide (kv.1=k))=true then xJ.map (λkv=>if kv.1=k then(kv.1,v) else kv) else xJ++[(k,v)]
def J3 {p:κ×V}{r:List (κ×V)}{k:κ}(e:p.1=k):qH (p::r) k=some p.2:=by simp[qH,Cm,e]
def J2 {p:κ×V}{r:List (κ×V)}{k:κ}(e:¬p.1=k):qH (p::r) k=qH r k:=by simp[qH,Cm,e]
theorem pQ (k:κ):∀xJ:List (κ×V),(xJ.any λkv=>decide (kv.1=k))=(qH xJ k).isSome
 |[]=>rfl
 |p::r=>by
  rw[rp];by_cases e:p.1=k
  .simp only[J3 e,wI e,Bool.true_or,Option.isSome_some]
  .rw[J2 e,uX e,Bool.false_or];exact pQ k r
def GN (xJ:List (κ×V))(k:κ)(v:V):(putK xJ k v).length<=xJ.length+1:=by
 unfold putK;split
 .rw[xO];lia
 .rw[zy,wU,si];lia
theorem sJ.isSome_eq (r:sJ o u):o.isSome=u.isSome:=by
 cases o with
 |none=>cases u with
  |none=>rfl
  |some _=>exact(show False from r).elim
 |some _=>cases u with
  |none=>exact(show False from r).elim
  |some _=>rfl
theorem KV.any (r:KV xJ vs)(k:κ):(xJ.any λkv=>decide (kv.1=k))=vs.any λkv=>decide (kv.1=k):=by
 unfold KV at r
 induction r with
 |nil=>rfl
 |cons h t ih=>rw[rp,rp,ih,h.1]
theorem KV.repl (r:KV xJ vs)(k:κ)(ry:RelV y u) :
  KV (xJ.map λkv=>if kv.1=k then(kv.1,y) else kv) (vs.map λkv=>if kv.1=k then(kv.1,u) else kv):=by
 unfold KV at r ⊢
 induction r with
 |nil=>exact .nil
 |@cons p q ps qs h t ih=>
  rw[vS,vS];refine .cons ?_ ih;obtain⟨h1,h2⟩:=h;by_cases e:p.1=k
  .rw[xK e,xK (h1.symm.trans e)];exact⟨h1,ry⟩
  .rw[xH e,xH (λz=>e (h1.trans z))];exact⟨h1,h2⟩
def KV.put (r:KV xJ vs)(k:κ)(ry:RelV y u):KV (putK xJ k y) (stored vs k u):=by
 unfold putK stored;rw[r.any k];by_cases e:(vs.any λkv=>decide (kv.1=k))=true
 .rw[xK e,xK e];exact r.repl k ry
 .rw[xH e,xH e];exact CD r ⟨rfl,ry⟩
theorem KV.length (r:KV xJ vs):xJ.length=vs.length:=fF r
end
theorem GB (r:RelV (kV k) u):(qA P w).is k u=true:=by
 cases k with
 |inl i=>obtain⟨t,e⟩:=(show ∃t,u=Value.int i t from r);subst e;exact N9 P w i t
 |inr x=>obtain⟨t,e⟩:=(show ∃t,u=Value.str x t from r);subst e;exact N_ P w x t
theorem Gw:∀ {ks:List Key} {us:List Value},yk (ks.map kV) us->ItemsAre (qA P w) ks us
 |[],_,r=>by rw[fu] at r;cases r;exact .nil
 |k::ks,_,r=>by
  rw[vS] at r;cases r with
  |cons h t=>exact .cons (GB h) (Gw t)
abbrev KT (H:Hp):List (List Key×V)->List (List Key×Addr×Value)->Prop:=Paired λp q=>p.1=q.1/\H q.2.1=some (.tup (p.1.map kV))/\RelV p.2 q.2.2
theorem KT.val {H:Hp}{xJ:List (List Key×V)}{xs:List (List Key×Addr×Value)}(r:KT H xJ xs)(k:List Key):sJ (qH xJ k) ((atKey xs k).map (·.2)):=by
 induction r with
 |nil=>exact True.intro
 |@cons p q ps qs h t ih=>
  obtain⟨h1,_,h2⟩:=h;by_cases e:p.1=k
  .have e':q.1=k:=h1.symm.trans e;have b:atKey (q::qs) k=some q.2:=by simp[atKey,Cm,e']
   rw[J3 e,b];exact h2
  .have e':¬q.1=k:=λz=>e (h1.trans z);have b:atKey (q::qs) k=atKey qs k:=by simp[atKey,Cm,e']
   rw[J2 e,b];exact ih
theorem KT.repl (r:KT H xJ xs)(k:List Key)(ry:RelV y u) :
  KT H (xJ.map λkv=>if kv.1=k then(kv.1,y) else kv) (xs.map (putAt k u)):=by
 induction r with
 |nil=>exact .nil
 |@cons p q ps qs h t ih=>
  rw[vS,vS];refine .cons ?_ ih;obtain⟨h1,h2,h3⟩:=h;unfold putAt;by_cases e:p.1=k
  .rw[xK e,xK (h1.symm.trans e)];exact⟨h1,h2,ry⟩
  .rw[xH e,xH (λz=>e (h1.trans z))];exact⟨h1,h2,h3⟩
def KT.put (r:KT H xJ xs)(k:List Key)(hb:H b=some (.tup (k.map kV)))(ry:RelV y u) :
  KT H (putK xJ k y) (storedH xs k b u):=by
 have e:(xJ.any λkv=>decide (kv.1=k))=(atKey xs k).isSome:=by rw[pQ,(r.val k).isSome_eq,Option.isSome_map]
 unfold putK storedH;rw[e];by_cases q:(atKey xs k).isSome=true
 .rw[xK q,xK q];exact r.repl k ry
 .rw[xH q,xH q];exact CD r ⟨rfl,hb,ry⟩
def KT.keeps (r:KT H xJ xs)(ht:∀b ys,H b=some (.tup ys)->H' b=some (.tup ys)):KT H' xJ xs:=Paired.mapP r λ_ _ z=>⟨z.1,ht _ _ z.2.1,z.2.2⟩
section
variable {P:Program} {w:World} {H:Hp} {h:Heap} {a:Addr}
def ID (ok:wa P w H h)(e:Rd H a u):wq P w H h a u:=e.ok ok
def Mh (ok:wa P w H h)(e:Rd H a (.dK xJ)):xJ.length<=sizeLine/\(a==sysModules)=false/\∃vs,KV xJ vs/\h.DictOf (qA P w) a vs:=show wq P w H h a (.dK xJ) from ID ok e
def Mg (ok:wa P w H h)(e:H a=some (.dK xJ)):xJ.length<=sizeLine/\(a==sysModules)=false/\∃vs,KV xJ vs/\h.DictOf (qA P w) a vs:=Mh ok (.inl e)
def lW (ok:wa P w H h)(e:H a=some (.tup (ks.map kV))):(tupleKind (qA P w)).is h ks a:=by
 obtain⟨_,xj,r,o,h1,h2,n,h3⟩:=(show wq P w H h a (.tup (ks.map kV)) from ok a _ e)
 exact⟨o,xj.toArray,n,h1,h2,h3,by simpa using Gw r⟩
def Mn (ok:wa P w H h)(e:Rd H a (.dT xJ)):xJ.length<=sizeLine/\(a==sysModules)=false/\
  ∃xs,KT H xJ xs/\h.DictOfH (tupleKind (qA P w)) a xs:=by
 obtain⟨z,y,xs,r,o,es,ep,h1,h2,h3,h4,h5⟩:=(show wq P w H h a (.dT xJ) from ID ok e)
 refine⟨z,y,xs,r,o,es,ep,h1,h2,h3,h4,λx hx=>?_,h5⟩;have all:∀ {l:List (List Key×V)} {m:List (List Key×Addr×Value)},KT H l m->∀x∈m,(tupleKind (qA P w)).is h x.1 x.2.1:=by
  intro l m q
  induction q with
  |nil=>intro x hx;exact nomatch hx
  |@cons p q ps qs hq t ih=>
   intro x hx;rcases xU.mp hx with e|hx
   .subst e;exact lW ok (by rw[<-hq.1];exact hq.2.1)
   .exact ih x hx
 exact all r x hx
def nZ (ok:wa P w H h)(e:H a=some (.dT xJ)):xJ.length<=sizeLine/\(a==sysModules)=false/\
  ∃xs,KT H xJ xs/\h.DictOfH (tupleKind (qA P w)) a xs:=Mn ok (.inl e)
end
def rK (H:Hp)(a:Addr)(y v:V)(H':Hp):Prop:=
 (∃xJ k,H a=some (.dK xJ)/\y=kV k/\xJ.length<sizeLine/\H'=upd H a (.dK (putK xJ k v)))\/
 ∃xJ k b,H a=some (.dT xJ)/\y=.ref b/\H b=some (.tup (k.map kV))/\xJ.length<sizeLine/\H'=upd H a (.dT (putK xJ k v))
def rK.t (e:H a=some (.dT xJ))(eb:H b=some (.tup (k.map kV)))(hl:xJ.length<sizeLine) :
  rK H a (.ref b) v (upd H a (.dT (putK xJ k v))):=.inr ⟨xJ,k,b,e,rfl,eb,hl,rfl⟩
section
variable {X:Cx} {xf:List (Addr×Obj)} {σ:St} {H:Hp} {s:Shared} {a:Addr} {y v:V} {u r:Value} {o:Option V} {A:Around} {E:Value->Shared->Prop}
def Inv.big (I:Inv X xf σ H s):sysModules<s.heap.objs.size:=by have h:mainGlobals<s.heap.objs.size:=(I.mod.glob.keeps I.bk).lt;exact Nat.lt_trans (by decide) h
def lF (I:Inv X xf σ H s)(mu:Mut (H a))(hs:Heap.SameBut a s.heap h')(he:∃q,h'.get? a=some q)(new:wq X.prog X.w (upd H a ob) h' a ob) :
  Inv X xf σ (upd H a ob) {s with heap:=h',toks:=t' }:=
 I.write (x:=a) (e:=a) mu (.inl rfl) (λb q hb z=>(hs.2 b hb).trans z) he new
def Mf (z:xJ.length<=sizeLine)(hd:(a==sysModules)=false)(rel:KV xJ vs)(dd:h'.DictOf (qA P w) a vs) :
  wq P w H' h' a (.dK xJ):=⟨z,hd,vs,rel,dd⟩
def Mc (hu:A.units+1<cLine)(I:Inv X xf σ H s)(g:rK H a y v H')(ry:RelV y u)(rv:RelV v r)(h:∀s',Inv X xf σ H' s'->Q () s') :
  wpAny (model X.prog X.w) A (setItem (.ref a) u r) Q E s:=by
 rcases g with ⟨xJ,k,e,ey,l,eH⟩|⟨xJ,k,b,e,ey,eb,l,eH⟩
 .subst ey eH;obtain⟨z,hd,vs,rel,dd⟩:=Mg I.hok e;have hz:vs.length<=sizeLine:=by rw[<-rel.length];exact z
  have hl:(putK xJ k v).length<=sizeLine:=by have:=GN xJ k v;lia
  refine wpAny_setItem_pairs (hsz:=hz) (GB ry) dd λh' dd' hs=>h _ ?_;have he:∃q,h'.get? a=some q:=let ⟨q,_,_,hq,_⟩:=dd';⟨q,hq⟩
  exact lF I (by rw[e];exact True.intro) hs he (Mf hl hd (rel.put k rv) dd')
 .subst ey eH;cases (show u=Value.ref b from ry);obtain⟨z,hd,xs,rel,dd⟩:=nZ I.hok e;have hz:xs.length<=sizeLine:=by rw[<-fF rel];exact z
  have hl:(putK xJ k v).length<=sizeLine:=by have:=GN xJ k v;lia
  refine wpAny_setItem_heap (hsz:=hz) (tupleKind_room_in1 hu) (lW I.hok eb) dd λh' dd' hs=>h _ ?_;obtain⟨q,es,ep,hq,h2,h3,h4,_,h5⟩:=dd';refine lF I (by rw[e];exact True.intro) hs ⟨q,hq⟩ ⟨hl,hd,_,(rel.put k eb rv).keeps λc ys ec=>?_,q,es,ep,hq,h2,h3,h4,h5⟩;rw[yl (ar ec e (λz=>nomatch z))];exact ec
end
section
variable {X:Cx} {xf:List (Addr×Obj)} {σ:St} {H:Hp} {s:Shared} {a:Addr} {xJ:List (Key×V)} {k:Key} {u:Value} {A:Around} {E:Value->Shared->Prop}
end
def IT (td ty tv:TE):TS:=λD σ H=>tv σ H λv H1=>td σ H1 λx H2=>ty σ H2 λy H3=>∃a H4,x=.ref a/\rK H3 a y v H4/\D.nx σ H4
section
variable {X:Cx} {o i e value:Expr} {pos pos' tpos:Pos} {td ty tv:TE}
def RM (hu:X.A.units+1<cLine)(ho:PE X o td)(hi:PE X i ty)(hv:PE X value tv)(hs:swapsWith value (some (.Subscript o i pos')) pos.line X.env=pure false) :
  PS X (.Assign [.Subscript o i pos'] value pos) (IT td ty tv):=by
 intro xf s σ H D I h;refine wpAny_Assign_Subscript (yn (@hv xf s σ H _ I h) λr s1 ⟨v,H1,I1,rv,q1⟩=>yn (@ho xf s1 σ H1 _ I1 q1) λu s2 ⟨x,H2,I2,rx,q2⟩=>yn (@hi xf s2 σ H2 _ I2 q2) λiv s3 ⟨y,H3,I3,ry,a,H4,ex,g,q3⟩=>?_) hs;subst ex;obtain rfl:u=Value.ref a:=rx;exact Mc hu I3 g ry rv λs4 I4=>⟨σ,H4,I4,q3⟩
end
def Mm (h:Heap)(hb:sysModules<h.objs.size):wq P w H (h.push {cls:=.type "dict", data:=.dict #[]}) h.objs.size (.dT []):=⟨gD _,beq_eq_false_iff_ne.mpr (zK (zV hb)),[],.nil,_,#[],0,wD _ rfl,⟨rfl,rfl,rfl⟩,rfl,rfl,List.nodup_nil⟩
def JC:TE:=λ_ H Q=>∀p,H p=none->Q (.ref p) (upd H p (.dT []))
section
variable {X:Cx} {pos:Pos}
def HM:PE X (.Dict [] [] pos) JC:=λxf s σ H Q I h=>wpAny_Dict_empty ⟨.ref s.heap.objs.size,_,I.laid (a:=s.heap.objs.size) (o:=.dT []) (t':=s.toks) (λ_ _ q=>yY _ q) (yg _) (Mm s.heap I.big),rfl,h _ (I.hok.fresh (yg _))⟩
end
section
variable {X:Cx} {xf:List (Addr×Obj)} {σ:St} {H:Hp} {s:Shared} {a:Addr} {y d:V} {u r:Value} {o:Option V} {A:Around} {E:Value->Shared->Prop}
end
section
variable {X:Cx} {o e f:Expr} {apos cpos:Pos} {td ty tx:TE}
end
section
variable {X:Cx} {xf:List (Addr×Obj)} {σ:St} {H:Hp} {s:Shared} {a:Addr} {xJ:List (Key×V)} {A:Around} {E:Value->Shared->Prop}
end
section
variable {X:Cx} {xf:List (Addr×Obj)} {σ:St} {H:Hp} {s:Shared} {a:Addr} {y:V} {u:Value} {A:Around} {E:Value->Shared->Prop}
end
section
variable {prog:Program} {w:World} {A:Around} {E:Value->Shared->Prop} {s:Shared}
def Uo (hv:s.heap.IsValuesView v d)(hod:s.heap.get? d=some od)(hoc:od.ExactDict)(hdd:od.data=.dict es ep)
  (hQ:Q (.ref s.heap.objs.size) {s with heap:=s.heap.push {cls:=.type "dict_valueiterator", data:=.fields #[.ref d,.int 0 0,.int es.size 0,.int ep 0]} }) :
  wpAny (model prog w) A (pyIter (.ref v)) Q E s:=by
 obtain⟨ov,hov,hcv,hdv⟩:=id hv;refine wpAny_pyIter_slot hv.typeIs F.slot_dict_values_iter (qq F.slot_dict_values_iter hv.typeIs F.entry_dict_values_iter ?_ (F.args_dict_values_iter_1 _));unfold Builtin.«dict_values.__iter__»;refine xi (xN ?_);refine xi ?_;unfold Builtin.Dict_items.dictOf;refine xi (vU hov hdv (x:=.ref d) rfl (xN ?_));refine xi ?_;unfold Builtin.Dict_items.newIterator;refine xi (rG hod hdd ?_);refine xi (m6 hod hdd ?_);have hsz:es.size=es.size:=rfl;have hown:Builtin.Dict_items.ownsTuple "dict_valueiterator" = false:=by decide
 simp only[hown,rf,qQ];refine vI (xN ⟨_,rfl, "dict_valueiterator", _,⟨_,wD _ rfl,rfl⟩,pV.lookup,?_⟩);simpa [rawInt,hsz] using hQ
def Us (hit:s.heap.IsValIter it d i es.size ep)
  (hod:s.heap.get? d=some od) (hoc:od.ExactDict) (hdd:od.data=.dict es ep) (hx:es[i]?=some en)
  (hQ:∀h',h'.IsValIter it d (i+1) es.size ep->Heap.SameBut it s.heap h'->Q (some en.val) {s with heap:=h' }) :
  wpAny (model prog w) A (pyNext (.ref it)) Q E s:=by
 obtain⟨o,ho,hc,hd⟩:=id hit;unfold pyNext;refine xi (rF (jM (name:=Str.ofString "__next__") hit.typeIs pV (qq pV hit.typeIs UE ?_ (UC _))))
 refine xi (xN ?_);refine xi ?_;refine xi ?_
 first|refine xi (CP hit.typeIs (xN ?_))|refine xi (CS hit.typeIs (xN ?_))
 refine xi (CH ho hd ?_);have hown:Builtin.Dict_items.ownsTuple "dict_valueiterator" = false:=by decide
 simp only[hown,rf,qQ];show wpAny _ _ (if (Value.ref d==Value.none)=true then _ else _) _ _ s;rw[xH (show ¬((Value.ref d==Value.none)=true) from wR)];refine xi (xN ?_);refine xi (rG hod hdd ?_);have hsz:es.size=es.size:=rfl;rw[xH (by simp)];refine xi (xN ?_);refine xi (m6 hod hdd ?_);rw[xH (by simp)];refine xN ?_;have hlt:i<es.size:=by
  rcases CA i es.size with h|h
  .exact h
  .rw[B5 h] at hx;cases hx
 have hlt':i<es.size:=hlt;have hval:es[i].val=en.val:=by rw[mI hlt'] at hx;cases hx;rfl
 simp only[show ¬((i:Int)<0) from by lia,qQ,jI,mI hlt'];refine xi ?_
 first|refine xi (CP hit.typeIs (xN ?_))|refine xi (CS hit.typeIs (xN ?_))
 refine xi (KO hit.typeIs ?_);show wpAny _ _ (setField (.ref it) 1 (rawInt ((i:Int)+1))>>=_) _ _ s;refine xi (m7 ho hd (by simp) ?_);have hit':(s.heap.update it (Obj.mapFields (·.setIfInBounds 1 (rawInt ((i:Int)+1))))).IsValIter it d (i+1) es.size ep:=⟨_,pW _ ho (Kz (mV hd _)),(Ky ..).trans hc,by rw[mV hd];simp[rawInt]⟩
 refine xi (kK ?_);refine xi (KO (s:={s with heap:=s.heap.update it (Obj.mapFields (·.setIfInBounds 1 (rawInt ((i:Int)+1))))}) hit'.typeIs ?_);refine xi (KO (s:={s with heap:=s.heap.update it (Obj.mapFields (·.setIfInBounds 1 (rawInt ((i:Int)+1))))}) hit'.typeIs ?_);show wpAny _ _ (pure es[i].val) _ _ _;exact xN (xN ⟨_,rfl,xN (hval▸hQ _ hit' (fq ..))⟩)
def Ur (hh:A.handled=none)(hit:s.heap.IsValIter it d i es.size ep)
  (hod:s.heap.get? d=some od) (hoc:od.ExactDict) (hdd:od.data=.dict es ep) (hx:es[i]?=none)
  (hQ:∀h',Heap.ExtBut it s.heap h'->Q none {s with heap:=h' }):wpAny (model prog w) A (pyNext (.ref it)) Q E s:=by
 obtain⟨o,ho,hc,hd⟩:=id hit;unfold pyNext;refine xi (rF (jM (name:=Str.ofString "__next__") hit.typeIs pV (qq pV hit.typeIs UE ?_ (UC _))))
 refine xi (xN ?_);refine xi ?_;refine xi ?_
 first|refine xi (CP hit.typeIs (xN ?_))|refine xi (CS hit.typeIs (xN ?_))
 refine xi (CH ho hd ?_);have hown:Builtin.Dict_items.ownsTuple "dict_valueiterator" = false:=by decide
 simp only[hown,rf,qQ];show wpAny _ _ (if (Value.ref d==Value.none)=true then _ else _) _ _ s;rw[xH (show ¬((Value.ref d==Value.none)=true) from wR)];refine xi (xN ?_);refine xi (rG hod hdd ?_);have hsz:es.size=es.size:=rfl;rw[xH (by simp)];refine xi (xN ?_);refine xi (m6 hod hdd ?_);rw[xH (by simp)];refine xN ?_;have hge:es.size<=i:=by simpa using hx
 simp only[show ¬((i:Int)<0) from by lia,qQ,jI,B5 hge];refine xi ?_
 first|refine xi (CP hit.typeIs (xN ?_))|refine xi (CS hit.typeIs (xN ?_))
 show wpAny _ _ (setField (.ref it) 0 .none>>=_) _ _ s;refine xi (m7 ho hd (by simp) ?_);show wpAny _ _ (newExc (.type "StopIteration") []>>=_) _ _ _;refine xi ?_;simp only[newExc,newTuple];refine xi (vI ?_ (by size_fits));refine xi (m:=firstArgMember _ _) (wpAny_of_eq (a:=Value.none) (by first|rfl|(simp only[firstArgMember];rfl)) ?_);refine vI ?_ (by size_fits);simp only[raiseNew];refine xi (wpAny_handled ?_);rw[show A.in1.handled=none from hh];refine xi (xN (wpAny_throw ?_));refine xi (CJ (T := "StopIteration") (b:=true) ⟨_,wD _ rfl,rfl⟩ CF ?_);exact xN (hQ _ (((fq ..).extBut.push _).push _))
def Um (hd:(d==sysModules)=false)(hod:s.heap.get? d=some od)(hoc:od.ExactDict)(hdd:od.data=.dict es ep)
  (hQ:Q (.ref s.heap.objs.size) {s with heap:=s.heap.push {cls:=.type "dict_keyiterator", data:=.fields #[.ref d,.int 0 0,.int es.size 0,.int ep 0]} }) :
  wpAny (model prog w) A (pyIter (.ref d)) Q E s:=by
 have hT:s.TypeIs (.ref d) "dict" := (⟨od,hod,hoc.1⟩:s.TypeIs (.ref d) "dict")
 refine wpAny_pyIter_slot hT F.slot_dict_iter (qq F.slot_dict_iter hT F.entry_dict_iter ?_ (F.args_dict_iter_1 _));unfold Builtin.«dict.__iter__»;refine xi ?_;unfold Builtin.Dict.dictSlotNone;refine xi (KP hT ?_);show wpAny _ _ (pure (Value.ref d)) _ _ s;refine xN ?_;show wpAny _ _ (Builtin.Dict.showsAll d>>=_) _ _ s;unfold Builtin.Dict.showsAll;rw[xH (by rw[hd];exact wR)];refine xi (xN ?_);refine xi (rG hod hdd ?_);refine xi (m6 hod hdd ?_);have hsz:es.size=es.size:=rfl;refine xi (vI (xN ⟨_,rfl, "dict_keyiterator", _,⟨_,wD _ rfl,rfl⟩,pU.lookup,?_⟩));simpa [rawInt,hsz] using hQ
def Uq (hit:s.heap.IsKeyIter it d i es.size ep)
  (hod:s.heap.get? d=some od) (hoc:od.ExactDict) (hdd:od.data=.dict es ep) (hx:es[i]?=some en)
  (hQ:∀h',h'.IsKeyIter it d (i+1) es.size ep->Heap.SameBut it s.heap h'->Q (some en.key) {s with heap:=h' }) :
  wpAny (model prog w) A (pyNext (.ref it)) Q E s:=by
 obtain⟨o,ho,hc,hd⟩:=id hit;unfold pyNext;refine xi (rF (jM (name:=Str.ofString "__next__") hit.typeIs pU (qq pU hit.typeIs UD ?_ (UB _))))
 refine xi (xN ?_);refine xi ?_;refine xi ?_
 first|refine xi (CO hit.typeIs (xN ?_))|refine xi (CQ hit.typeIs (xN ?_))
 refine xi (CH ho hd ?_);have hown:Builtin.Dict_items.ownsTuple "dict_keyiterator" = false:=by decide
 simp only[hown,rf,qQ];show wpAny _ _ (if (Value.ref d==Value.none)=true then _ else _) _ _ s;rw[xH (show ¬((Value.ref d==Value.none)=true) from wR)];refine xi (xN ?_);refine xi (rG hod hdd ?_);have hsz:es.size=es.size:=rfl;rw[xH (by simp)];refine xi (xN ?_);refine xi (m6 hod hdd ?_);rw[xH (by simp)];refine xN ?_;have hlt:i<es.size:=by
  rcases CA i es.size with h|h
  .exact h
  .rw[B5 h] at hx;cases hx
 have hlt':i<es.size:=hlt;have hkey:es[i].key=en.key:=by rw[mI hlt'] at hx;cases hx;rfl
 simp only[show ¬((i:Int)<0) from by lia,qQ,jI,mI hlt'];refine xi ?_
 first|refine xi (CO hit.typeIs (xN ?_))|refine xi (CQ hit.typeIs (xN ?_))
 refine xi (wpAny_isOneOf_keyiter hit.typeIs ?_);show wpAny _ _ (setField (.ref it) 1 (rawInt ((i:Int)+1))>>=_) _ _ s;refine xi (m7 ho hd (by simp) ?_);have hit':(s.heap.update it (Obj.mapFields (·.setIfInBounds 1 (rawInt ((i:Int)+1))))).IsKeyIter it d (i+1) es.size ep:=⟨_,pW _ ho (Kz (mV hd _)),(Ky ..).trans hc,by rw[mV hd];simp[rawInt]⟩
 refine xi (kK ?_);refine xi (wpAny_isOneOf_keyiter (s:={s with heap:=s.heap.update it (Obj.mapFields (·.setIfInBounds 1 (rawInt ((i:Int)+1))))}) hit'.typeIs ?_);show wpAny _ _ (pure es[i].key) _ _ _;exact xN (xN ⟨_,rfl,xN (hkey▸hQ _ hit' (fq ..))⟩)
def Up (hh:A.handled=none)(hit:s.heap.IsKeyIter it d i es.size ep)
  (hod:s.heap.get? d=some od) (hoc:od.ExactDict) (hdd:od.data=.dict es ep) (hx:es[i]?=none)
  (hQ:∀h',Heap.ExtBut it s.heap h'->Q none {s with heap:=h' }):wpAny (model prog w) A (pyNext (.ref it)) Q E s:=by
 obtain⟨o,ho,hc,hd⟩:=id hit;unfold pyNext;refine xi (rF (jM (name:=Str.ofString "__next__") hit.typeIs pU (qq pU hit.typeIs UD ?_ (UB _))))
 refine xi (xN ?_);refine xi ?_;refine xi ?_
 first|refine xi (CO hit.typeIs (xN ?_))|refine xi (CQ hit.typeIs (xN ?_))
 refine xi (CH ho hd ?_);have hown:Builtin.Dict_items.ownsTuple "dict_keyiterator" = false:=by decide
 simp only[hown,rf,qQ];show wpAny _ _ (if (Value.ref d==Value.none)=true then _ else _) _ _ s;rw[xH (show ¬((Value.ref d==Value.none)=true) from wR)];refine xi (xN ?_);refine xi (rG hod hdd ?_);have hsz:es.size=es.size:=rfl;rw[xH (by simp)];refine xi (xN ?_);refine xi (m6 hod hdd ?_);rw[xH (by simp)];refine xN ?_;have hge:es.size<=i:=by simpa using hx
 simp only[show ¬((i:Int)<0) from by lia,qQ,jI,B5 hge];refine xi ?_
 first|refine xi (CO hit.typeIs (xN ?_))|refine xi (CQ hit.typeIs (xN ?_))
 show wpAny _ _ (setField (.ref it) 0 .none>>=_) _ _ s;refine xi (m7 ho hd (by simp) ?_);show wpAny _ _ (newExc (.type "StopIteration") []>>=_) _ _ _;refine xi ?_;simp only[newExc,newTuple];refine xi (vI ?_ (by size_fits));refine xi (m:=firstArgMember _ _) (wpAny_of_eq (a:=Value.none) (by first|rfl|(simp only[firstArgMember];rfl)) ?_);refine vI ?_ (by size_fits);simp only[raiseNew];refine xi (wpAny_handled ?_);rw[show A.in1.handled=none from hh];refine xi (xN (wpAny_throw ?_));refine xi (CJ (T := "StopIteration") (b:=true) ⟨_,wD _ rfl,rfl⟩ CF ?_);exact xN (hQ _ (((fq ..).extBut.push _).push _))
end
section
variable {prog:Program} {w:World} {κ:Type} [DecidableEq κ] {knd:HeapKind prog w κ} {A:Around} {E:Value->Shared->Prop} {s:Shared}
def Ml (hu:knd.room A)(hkey:knd.is s.heap k a)(hm:s.heap.DictOfH knd d xs)
  (hthere:∀p,atKey xs k=some p->Q p.2 {s with toks:=s.toks+knd.draws k})
  (hnew:atKey xs k=none->∀h',h'.DictOfH knd d (xs++[(k,a,v)])->Heap.SameBut d s.heap h'->Q v {s with heap:=h',toks:=s.toks+knd.draws k}) (hsz:xs.length<=sizeLine) :
  wpAny (model prog w) A (dictSetDefault d (.ref a) v) Q E s:=by
 obtain⟨o,es,ep,ho,hc,hd,he,his,hn⟩:=hm;unfold dictSetDefault
 try with_reducible refine kK ?_
 refine xi (knd.pyHash hu hkey ?_);refine xi (wpAny_dictFind_heap (s:={s with toks:=s.toks+knd.draws k}) hu hkey ho hd he his hn ?_ ?_)
 .intro hno;have hnot:k∉xs.map (·.1):=not_mem_keys_of_get hno;refine xi (sG (xi (wpAny_updateDictKeys (hz:=by have e:=size_of_entries he;lia) (s:={s with toks:=s.toks+knd.draws k}) ho hd (xN (hnew (atKey_none_of_get hno) _ ⟨_,_,ep+1,pW _ ho (Obj.isFreed_of_dict (Obj.data_mapDictKeys hd _)),
   hc.mapDictKeys _,Obj.data_mapDictKeys hd _,?_,?_,?_⟩ (fq ..))))))
  .simp[he,entryOfKey]
  .intro x hx;rcases yy.mp hx with hx|hx
   .exact knd.keeps (his x hx) ho hd (fq ..)
   .simp only[zR] at hx;subst hx;exact knd.keeps hkey ho hd (fq ..)
  .rw[uo,sj];refine⟨hn,by simp,?_⟩;intro x hx y hy;simp only[vS,fu,zR] at hy;subst hy;exact λe=>hnot (e▸hx)
 .intro j p hj;refine xi (rG (s:={s with toks:=s.toks+knd.draws k}) ho hd ?_);rw[entry_at he j,hj];exact xi (sG (xN (hthere p (atKey_of_get hn hj))))
end
section
variable {X:Cx}
def Iv:V->List V->Hp->VK->Prop:=λx vs H Q=>∃d b xJ k v,x=.ref d/\vs=[.ref b,v]/\H d=some (.dT xJ)/\H b=some (.tup (k.map kV))/\xJ.length<sizeLine/\
 (∀u,qH xJ k=some u->Q u H)/\(qH xJ k=none->Q v (upd H d (.dT (xJ++[(k,v)]))))
def Oc (hu:X.A.units+1<cLine):MtM X "dict.setdefault" Iv:=by
 intro xf s σ H x vs v us Q I rx rv h;obtain⟨d,b,xJ,k,y,rfl,rfl,hH,hB,hz,q1,q2⟩:=h;cases rx;obtain⟨u1,u2,rfl,r1,r2⟩:=vals2 rv;cases (show u1=Value.ref b from r1);obtain⟨z,hd,xs,rel,dd⟩:=nZ I.hok hH;have hl:xs.length<=sizeLine:=by rw[<-fF rel];exact z
 refine qq F.slot_dict_setdefault dd.typeIs F.entry_dict_setdefault ?_ (F.args_dict_setdefault_3 _ _ _);show wpAny _ _ (Builtin.Dict.keyAndDefault "setdefault" ⟨[.ref d,.ref b,u2],[]⟩ >>= _) _ _ s;unfold Builtin.Dict.keyAndDefault;refine xi (xi (KP dd.typeIs ?_));refine xN ?_;show wpAny _ _ (if (d==sysModules)=true then _ else(dictSetDefault d (.ref b) u2>>=_)) _ _ s;rw[xH (by rw[hd];exact wR)];have rk:=rel.val k;refine xi (Ml (tupleKind_room_in1 hu) (lW I.hok hB) dd (λp hp=>?_) (λhn h' dd' hs=>?_) hl)
 .rw[hp] at rk;cases e:qH xJ k with
  |none=>rw[e] at rk;exact rk.elim
  |some u=>rw[e] at rk;exact xN ⟨_,rfl,u,H,I.tok _,rk,q1 u e⟩
 .rw[hn] at rk;have e:qH xJ k=none:=by
   cases e:qH xJ k with
   |none=>rfl
   |some u=>rw[e] at rk;exact rk.elim
  refine xN ⟨_,rfl,y,_,?_,r2,q2 e⟩;obtain⟨q,es,ep,hq,h2,h3,h4,_,h5⟩:=dd';refine lF I (by rw[hH];exact True.intro) hs ⟨q,hq⟩ ⟨by rw[zy,gB];lia,hd,_,KT.keeps (CD rel ⟨rfl,hB,r2⟩) λc ys ec=>?_,q,es,ep,hq,h2,h3,h4,h5⟩;rw[yl (ar ec hH (λz=>nomatch z))];exact ec
end
end L2
namespace L2
open PySem PySem.Spec PyProof.Rows PySem.W
def gI (h:Heap)(d:Addr)(es:Array DictEntry)(ep:Nat):Prop:=∃od,h.get? d=some od/\od.ExactDict/\od.data=.dict es ep
section
variable {prog:Program} {w:World} {A:Around}
def gI.at (x:gI h d es ep)(k:∀o,h.get? d=some o->h'.get? d=some o):gI h' d es ep:=let ⟨o,e,r⟩:=x;⟨o,k o e,r⟩
def Ui (hh:A.handled=none)(I d:Addr)(hne:d≠I)(es:Array DictEntry)(ep:Nat) :
  Walks prog w A I [I,d] [I] es.size (λi v=>∃en,es[i]?=some en/\v=en.val) (λi h=>h.IsValIter I d i es.size ep/\gI h d es ep) where
 sub:=λb hb=>xU.mpr (.inl (zR.mp hb))
 frame:=λ_ _ _ st hk=>⟨let ⟨o,e,r⟩:=st.1;⟨o,hk I (by simp) o e,r⟩,st.2.at λo e=>hk d (by simp) o e⟩
 item:=λi s Q E hi st hQ=>by obtain⟨od,e1,e2,e3⟩:=st.2;have hx:es[i]?=some es[i]:=mI hi;refine Us st.1 e1 e2 e3 hx λh' hit' hs'=>?_;exact hQ _ h' s.toks ⟨_,hx,rfl⟩ ⟨hit',st.2.at λo e=>(hs'.2 d hne).trans e⟩ λb o hb e=>(hs'.2 b λz=>hb (by simp[z])).trans e
 done:=λs Q E st hQ=>by obtain⟨od,e1,e2,e3⟩:=st.2;exact Ur hh st.1 e1 e2 e3 (by simp) λh' he'=>hQ h' s.toks λb o hb e=>he' b o (λz=>hb (by simp[z])) e
 self:=λ_ _ _ _ st hQ=>wpAny_pyIter_valiter st.1 hQ
def ND (hh:A.handled=none)(I d:Addr)(hne:d≠I)(es:Array DictEntry)(ep:Nat) :
  Walks prog w A I [I,d] [I] es.size (λi v=>∃en,es[i]?=some en/\v=en.key) (λi h=>h.IsKeyIter I d i es.size ep/\gI h d es ep) where
 sub:=λb hb=>xU.mpr (.inl (zR.mp hb))
 frame:=λ_ _ _ st hk=>⟨let ⟨o,e,r⟩:=st.1;⟨o,hk I (by simp) o e,r⟩,st.2.at λo e=>hk d (by simp) o e⟩
 item:=λi s Q E hi st hQ=>by obtain⟨od,e1,e2,e3⟩:=st.2;have hx:es[i]?=some es[i]:=mI hi;refine Uq st.1 e1 e2 e3 hx λh' hit' hs'=>?_;exact hQ _ h' s.toks ⟨_,hx,rfl⟩ ⟨hit',st.2.at λo e=>(hs'.2 d hne).trans e⟩ λb o hb e=>(hs'.2 b λz=>hb (by simp[z])).trans e
 done:=λs Q E st hQ=>by obtain⟨od,e1,e2,e3⟩:=st.2;exact Up hh st.1 e1 e2 e3 (by simp) λh' he'=>hQ h' s.toks λb o hb e=>he' b o (λz=>hb (by simp[z])) e
 self:=λ_ _ _ _ st hQ=>wpAny_pyIter_keyiter st.1 hQ
def TM:KdlSrc prog w "dict_values" r d es.size (λi v=>∃en,es[i]?=some en/\v=en.val) (λh=>h.IsValuesView r d/\gI h d es ep) where
 type:=λ_ hm=>hm.1.typeIs
 there:=λ_ hm=>⟨let ⟨_,ho,_⟩:=hm.1;yH ho,let ⟨_,ho,_⟩:=hm.2;yH ho⟩
 keep:=λ_ _ hm hk=>⟨let ⟨o,ho,x⟩:=hm.1;⟨o,hk r (.inl rfl) o ho,x⟩,hm.2.at λo e=>hk d (.inr rfl) o e⟩
 notList:=by decide
 notTuple:=by decide
 hint:=λ_ _ _ _ hm hq=>kdl_hint_values hm.1.typeIs hq
 iter:=λ_ s hh hm=>by obtain⟨od,e1,e2,e3⟩:=hm.2;exact⟨_,_,(λ_ _ hq=>Uo hm.1 e1 e2 e3 hq),Ui hh _ d (zV (yH e1)) es ep,⟨⟨_,wD _ rfl,rfl,rfl⟩,hm.2.at λo e=>yY _ e⟩⟩
def TL (lo:(d==sysModules)=false):KdlSrc prog w "dict" d d es.size (λi v=>∃en,es[i]?=some en/\v=en.key) (λh=>gI h d es ep) where
 type:=λ_ hm=>let ⟨_,e1,e2,_⟩:=hm;⟨_,e1,e2.1⟩
 there:=λ_ hm=>let ⟨_,e1,_⟩:=hm;⟨yH e1,yH e1⟩
 keep:=λ_ _ hm hk=>hm.at λo e=>hk d (.inl rfl) o e
 notList:=by decide
 notTuple:=by decide
 hint:=λ_ _ _ _ hm hq=>let ⟨_,e1,e2,_⟩:=hm;kdl_hint_dict ⟨_,e1,e2.1⟩ hq
 iter:=λ_ s hh hm=>by obtain⟨od,e1,e2,e3⟩:=id hm;exact⟨_,_,(λ_ _ hq=>Um lo e1 e2 e3 hq),ND hh _ d (zV (yH e1)) es ep,⟨⟨_,wD _ rfl,rfl,rfl⟩,hm.at λo e=>yY _ e⟩⟩
end
section
variable {X:Cx}
def mH (v d:Addr):HO:=.ext λh=>h.IsValuesView v d
def IA:V->List V->Hp->VK->Prop:=λx vs H Q=>∃d xJ,x=.ref d/\vs=[]/\H d=some (.dT xJ)/\∀v,H v=none->Q (.ref v) (upd H v (mH v d))
def Od:MtM X "dict.values" IA:=by intro xf s σ H x vs v us Q I rx rv h;obtain⟨d,xJ,rfl,rfl,hH,q⟩:=h;cases rx;have hus:=rv.zero;subst hus;obtain⟨z,hd,xs,rel,dd⟩:=nZ I.hok hH;refine qq F.slot_dict_values dd.typeIs F.entry_dict_values ?_ (F.args_dict_values_1 _);refine xi ?_;unfold Builtin.Dict.noArgs;refine xi (KP dd.typeIs ?_);show wpAny _ _ (pure d) _ _ s;refine xN ?_;show wpAny _ _ (Builtin.Dict.showsAll d>>=_) _ _ s;unfold Builtin.Dict.showsAll;rw[xH (by rw[hd];exact wR)];refine xi (xN ?_);refine xi (vI (xN ⟨_,rfl,.ref s.heap.objs.size,_,I.laid (t':=s.toks) (o:=mH s.heap.objs.size d) (λb ob q=>yY _ q) (yg _) ?_,rfl,q _ (I.hok.fresh (yg _))⟩));have at0:(s.heap.push {cls:=.type "dict_values", data:=.fields #[.ref d]}).get? s.heap.objs.size=some {cls:=.type "dict_values", data:=.fields #[.ref d]}:=wD _ rfl;exact⟨⟨_,at0,rfl,rfl⟩,⟨_,at0⟩,λh1 h2 x k=>let ⟨o,e,r⟩:=x;⟨o,k o e,r⟩⟩
theorem HD:∀ {l:List α} {m:List β},Paired F l m->∀ {i:Nat} {y:β},m[i]?=some y->∃x,l[i]?=some x/\F x y
 |_,_,.nil,i,y,h=>by simp at h
 |_,_,.cons r t,0,y,h=>by cases h;exact⟨_,rfl,r⟩
 |_,_,.cons r t,i+1,y,h=>HD t (i:=i) (by simpa using h)
theorem eV:∀ {l:List α} {m:List β},l.length=m.length->(∀(i:Nat) (a:α) (b:β),l[i]?=some a->m[i]?=some b->F a b)->Paired F l m
 |[],[],_,_=>.nil
 |[],_::_,h,_=>by simp at h
 |_::_,[],h,_=>by simp at h
 |a::l,b::m,h,f=>.cons (f 0 a b rfl rfl) (eV (by simpa using h) λi x y h1 h2=>f (i+1) x y (by simpa using h1) (by simpa using h2))
theorem IC (ok:wa P w H h)(e:H d=some (.dT xJ)):∃(es:Array DictEntry) (ep:Nat),gI h d es ep/\es.size=xJ.length/\(d==sysModules)=false/\xJ.length<=sizeLine/\
  (∀(i:Nat) (en:DictEntry),es[i]?=some en->∃kv:List Key×V,xJ[i]?=some kv/\RelV kv.2 en.val/\∃q,en.key=.ref q/\H q=some (.tup (kv.1.map kV))):=by
 obtain⟨z,hd,xs,rel,o,es,ep,h1,h2,h3,h4,_⟩:=nZ ok e;have len:xJ.length=xs.length:=fF rel;have hs:es.size=xs.length:=by rw[<-kJ,h4,xO]
 refine⟨es,ep,⟨o,h1,h2,h3⟩,by lia,hd,z,λi en hi=>?_⟩;have hi':es.toList[i]?=some en:=by rw[J_];exact hi
 rw[h4,vh] at hi';cases ex:xs[i]? with
 |none=>rw[ex] at hi';cases hi'
 |some x=>rw[ex] at hi';cases hi';obtain⟨kv,ekv,r1,r2,r3⟩:=HD rel ex;exact⟨kv,ekv,r3,x.2.1,rfl,r2⟩
def Im (xs:List V)(H:Hp)(Q:VK):Prop:=∃v d xJ,xs=[.ref v]/\H v=some (mH v d)/\H d=some (.dT xJ)/\∀p,H p=none->Q (.ref p) (upd H p (.lst (xJ.map (·.2))))
def Lv (hc:X.calm=true):vk X (.type "list") Im:=by
 intro xf s σ H xs us Q I r h;obtain⟨v,d,xJ,rfl,hv,hH,q⟩:=h;obtain⟨u,rfl,ru⟩:=vals1 r;cases ru;obtain⟨es,ep,raw,sz,hd,z,all⟩:=IC I.hok hH;obtain⟨vw,_,_⟩:=(show wq X.prog X.w H s.heap v (mH v d) from I.hok v _ hv)
 refine kdl_call TM (I.ok.hd hc) ⟨vw,raw⟩ (by lia) λh' tk acc' c' hk hD hacc=>?_;refine⟨.ref s.heap.objs.size,_,I.laid (t':=tk) (o:=.lst (xJ.map (·.2))) hk (yg _) ⟨by rw[xO];exact z,acc'.toList,c',?_,by rw[Array.toArray_toList];exact hD⟩,rfl,q _ (I.hok.fresh (yg _))⟩;refine eV (by have e1:=hacc.1;have e2:acc'.toList.length=acc'.size:=kJ;rw[xO,e2];lia) λi a b ha hb=>?_;rw[vh] at ha;rw[J_] at hb;obtain⟨en,e1,rfl⟩:=hacc.2 i b hb;obtain⟨kv,e2,e3,_⟩:=all i en e1;rw[e2] at ha;cases ha;exact e3
def Il (xs:List V)(H:Hp)(Q:VK):Prop:=∃d xJ,xs=[.ref d]/\H d=some (.dT xJ)/\∀p qs,H p=none->Paired (λ(kv:List Key×V) (q:Addr)=>H q=some (.tup (kv.1.map kV))) xJ qs->Q (.ref p) (upd H p (.lst (qs.map V.ref)))
theorem Lu (hc:X.calm=true):vk X (.type "list") Il:=by
 intro xf s σ H xs us Q I r h;obtain⟨d,xJ,rfl,hH,q⟩:=h;obtain⟨u,rfl,ru⟩:=vals1 r;cases ru;obtain⟨es,ep,raw,sz,hd,z,all⟩:=IC I.hok hH;refine kdl_call (TL hd) (I.ok.hd hc) raw (by lia) λh' tk acc' c' hk hD hacc=>?_;have e2:acc'.toList.length=acc'.size:=kJ;have e1:=hacc.1;have ex:∀(i:Nat) (b:Value),acc'.toList[i]?=some b->∃q,b=.ref q/\∃kv,xJ[i]?=some kv/\H q=some (.tup (kv.1.map kV)):=λi b hb=>by rw[J_] at hb;obtain⟨en,e1,rfl⟩:=hacc.2 i b hb;obtain⟨kv,e2,_,q,e3,e4⟩:=all i en e1;exact⟨q,e3,kv,e2,e4⟩
 have split:∀(xJ:List (List Key×V)) (bs:List Value),xJ.length=bs.length->(∀(i:Nat) (b:Value),bs[i]?=some b->∃q,b=.ref q/\∃kv,xJ[i]?=some kv/\H q=some (.tup (kv.1.map kV)))->
   ∃qs:List Addr,bs=qs.map Value.ref/\Paired (λ(kv:List Key×V) (q:Addr)=>H q=some (.tup (kv.1.map kV))) xJ qs:=λxJ=>by
  induction xJ with
  |nil=>intro bs hl _;cases bs with
   |nil=>exact⟨[],rfl,.nil⟩
   |cons _ _=>simp at hl
  |cons kv xJ ih=>intro bs hl hx;cases bs with
   |nil=>simp at hl
   |cons b bs=>
    obtain⟨q,rfl,kv',e1,e2⟩:=hx 0 b rfl;cases e1;obtain⟨qs,rfl,r⟩:=ih bs (by simpa using hl) λi c hc=>by simpa using hx (i+1) c (by simpa using hc)
    exact⟨q::qs,rfl,.cons e2 r⟩
 obtain⟨qs,eq,pr⟩:=split xJ acc'.toList (by lia) ex;have lq:qs.length=xJ.length:=(fF pr).symm;refine⟨.ref s.heap.objs.size,_,I.laid (t':=tk) (o:=.lst (qs.map V.ref)) hk (yg _) ⟨by rw[xO];lia,acc'.toList,c',?_,by rw[Array.toArray_toList];exact hD⟩,rfl,q _ qs (I.hok.fresh (yg _)) pr⟩;rw[eq];refine eV (by rw[xO,xO]) λi a b ha hb=>?_;rw[vh] at ha hb;cases e:qs[i]? with
 |none=>rw[e] at ha;cases ha
 |some q=>rw[e] at ha hb;cases ha;cases hb;rfl
end
end L2
namespace L2
open PySem PySem.Spec PyProof.Rows
section
variable {K:xt} {B:FB} {φ:zg} {σ:St} {τ:xW} {H H' H'':Hp} {fr:Bool}
def RS.wrOd (R:RS K B φ σ τ H)(hi:yp τ i=.od ks)(e1:σ[i]?=some (some (.ref a)))(r:KvR (Av B φ) H ks' hk'):RS K B φ σ (τ.set i (.od ks')) (upd H a (.dT hk')):=by
 have en:=R.ent i;rw[hi] at en;have ow:Owd (yp τ i):=by rw[hi];trivial
 obtain⟨a',hk,e1',e2,e3,e4,_⟩:=en;rw[e1] at e1';cases e1';have hl:i<τ.length:=by
  by_cases h:i<τ.length
  .exact h
  .rw[j3 (by lia)] at hi;cases hi
 have mv:∀c o,H c=some o->¬Av B φ c->(upd H a (.dT hk')) c=some o/\¬Av B φ c:=λc o e n=>⟨by rw[yl (λz=>n (by rw[z];exact .inr ⟨i,e2⟩))];exact e,n⟩
 have nsa:∀c,SA B φ (τ.set i (.od ks')) c->SA B φ τ c/\c≠a:=λc s=>by
  rcases s with s|⟨j,s,hj⟩
  .exact⟨.inl s,λz=>R.f0 a (R.s0 a (z▸s)) e3⟩
  .by_cases e:j=i
   .subst e;rw[j4 hl] at hj;cases hj
   .rw[vN e] at hj;exact⟨.inr ⟨j,s,hj⟩,λz=>e (R.injG i j a ow e2 (z▸s)).symm⟩
 refine⟨R.fN,R.s0,λc o e n=>?_,λc s=>?_,λj k c hj f1 f2=>?_,λj c e=>?_,by rw[jc];exact R.len,λj=>?_,λp hp=>wZ mv _ _ (R.gh p hp)⟩
 .rw[yl (zq e e3)];exact R.ext c o e n
 .obtain⟨s',hne⟩:=nsa c s;obtain⟨n,b,q,z⟩:=R.sst c s';exact⟨n,b,by rw[yl hne];exact q,z⟩
 .by_cases e:j=i
  .subst e;exact R.injG j k c ow f1 f2
  .rw[vN e] at hj;exact R.injG j k c hj f1 f2
 .by_cases z:c=a
  .rw[z,zA];exact⟨(λz=>nomatch z),λ_ z=>nomatch z⟩
  .rw[yl z];exact R.oN j c e
 .by_cases e:j=i
  .subst e;rw[j4 hl];exact⟨a,hk',e1,e2,e3,zA,Paired.mapP r λp q z=>⟨z.1,wZ mv _ _ z.2⟩⟩
  .rw[vN e];refine r9 (R.ent j) rfl (λt v=>wZ mv t v) (λt v=>uA mv t v) (λc o hj f1 f2=>?_) λc ns z=>?_
   .rw[yl (λ(z:c=a)=>e (R.injG i j a ow e2 (by rw[<-z];exact f1)).symm)];exact f2
   .refine⟨?_,λP q h=>by rw[yl (ar (z.2 P q h) e4 (λq=>nomatch q))];exact z.2 P q h⟩;rcases z.1 with ⟨o,z⟩|z
    .exact .inl ⟨o,by rw[yl (ar z e4 (λq=>nomatch q))];exact z⟩
    .exact .inr z
def Hb (R:RS K B φ σ τ H)(x:HX B φ τ H H')(hi:yp τ i=.od ks)(e1:σ[i]?=some (some (.ref a))):∃hk,H' a=some (.dT hk)/\KvR (Av B φ) H' ks hk:=by have en:=(R.hx x).ent i;rw[hi] at en;obtain⟨a',hk,q1,_,_,q4,r⟩:=en;rw[e1] at q1;cases q1;exact⟨hk,q4,r⟩
theorem Jo:∀(τ:xW) (i:Nat),τ.set i (yp τ i)=τ
 |[],_=>rfl
 |x::r,0=>rfl
 |x::r,i+1=>by show x::r.set i (yp r i)=_;rw[Jo r i]
def Sr (i:Nat):DS:=λG τ=>G.nx (τ.set i (.od []))
def Ho:zM K fr (jD JC (qx i)) (Sr i):=λB φ σ τ H E G R hd e p hp=>e.nx _ _ _ _ (R.setNew (x:=.od []) (HX.new R hp _) hp (by rw[zA];exact⟨(λz=>nomatch z),λ_ z=>nomatch z⟩) (λz=>nomatch z) ⟨p,[],rfl,Ac,MM R hp,zA,.nil⟩) hd
def putD (ks:List (List Int×Tr))(k:List Int)(t:Tr):List (List Int×Tr):=if (ks.any λp=>decide (p.1=k))=true then ks else ks++[(k,t)]
theorem GC (r:KvR F H ks hk)(k:List Int):(ks.any λp=>decide (p.1=k))=(qH hk (k.map Sum.inl)).isSome:=by
 rw[<-pQ]
 induction r with
 |nil=>rfl
 |cons h t ih=>
  rw[rp,rp,ih,h.1];congr 1;rw[mZ];constructor
  .intro e;rw[e]
  .intro e;exact(List.map_inj_right λx y h=>Sum.inl.inj h).mp e
def lV (k:List Int):(k.map (Sum.inl:Int->Key)).map kV=k.map V.int:=by rw[vy];rfl
def IZ (i:Nat)(dk d:DE):DS:=λG τ=>match yp τ i with
 |.od ks=>dk τ λk=>d τ λt=>∃ns:List Int,k=tP ns/\ks.length<sizeLine/\G.nx (τ.set i (.od (putD ks ns t)))
 |_=>False
theorem Qd {i:Nat}{tk te:TE}{dk d:DE}(hk:x_ K true tk dk)(h:x_ K true te d):zM K fr (aZ (tBM K "dict" Iv (uk i) (uB tk (uB te vZ)))) (IZ i dk d):=λB φ σ τ H E G R hd e=>by
 have en:=R.ent i;unfold IZ at hd;revert en hd;cases hi:yp τ i with
 |od ks=>
  intro hd ⟨a,hk0,e1,e2,e3,e4,r⟩;refine⟨_,e1,.inr (.inr (.inl ⟨rfl,.inr ⟨_,e4⟩⟩)),hk B φ σ τ H _ _ R hd λt0 v0 H0 x0 k0 r0=>h B φ σ τ H0 _ _ (R.hx x0) k0 λt v H1 x1 k1 r1=>?_⟩;obtain⟨ns,rfl,hz,k1⟩:=k1;obtain⟨hk',f4,f5⟩:=Hb R (x0.trans x1) hi e1;obtain⟨b,ws,rfl,_,hb,rl⟩:=x1.rep (F:=Av B φ) (λa s=>R.sAv s) r0;rw[dI rl] at hb;have an:=GC f5 ns;refine⟨a,b,hk',ns.map Sum.inl,v,rfl,rfl,f4,by rw[lV];exact hb,by rw[<-fF f5];exact hz,λu hu=>?_,λhn=>?_⟩
  .have ep:putD ks ns t=ks:=xK (by rw[an,hu];rfl);rw[ep] at k1;have es:τ.set i (.od ks)=τ:=by rw[<-hi];exact Jo τ i
   rw[es] at k1;exact e.nx φ σ _ _ (R.hx (x0.trans x1)) k1
  .have ep:putD ks ns t=ks++[(ns,t)]:=xH (by rw[an,hn];exact wR);rw[ep] at k1;exact e.nx φ σ _ _ ((R.hx (x0.trans x1)).wrOd hi e1 (eX (a:=(ns,t)) (b:=(ns.map Sum.inl,v)) f5 ⟨rfl,r1⟩)) k1
 |_=>exact λz _=>z.elim
def Fc (i:Nat):DE:=λτ KK=>match yp τ i with|.od ks=>KK (.lst (ks.map (·.2)))|_=>False
theorem GG:∀ {ks:List (List Int×Tr)} {hk:List (List Key×V)},KvR F H ks hk->yx F H (ks.map (·.2)) (hk.map (·.2))
 |_,_,.nil=>rfl
 |_,_,.cons h t=>⟨_,_,rfl,h.2,GG t⟩
theorem P5:zp K (tCB Im (uB (BS K "dict" IA (uk i)) vZ)) (Fc i):=λB φ σ τ H Q KK R hd q=>by
 have en:=R.ent i;unfold Fc at hd;revert en hd;cases hi:yp τ i with
 |od ks=>
  intro hd ⟨a,hk,e1,e2,e3,e4,r⟩;refine⟨_,e1,.inr (.inr (.inl ⟨rfl,.inr ⟨_,e4⟩⟩)),a,hk,rfl,rfl,e4,λv hv=>?_⟩;have va:v≠a:=λz=>by rw[z,e4] at hv;cases hv
  refine⟨v,a,hk,rfl,zA,by rw[yl va.symm];exact e4,λp hp=>?_⟩;have x1:HX B φ τ H (upd H v (mH v a)):=HX.new R hv _;have pn:H p=none:=x1.none hp;have x2:=HX.new (R.hx x1) hp (.lst (hk.map (·.2)));exact q _ p _ _ (x1.trans x2) hd pn zA (dJ hp (x1.repL (F:=Av B φ) (λa s=>R.sAv s) (GG r)))
 |_=>exact λz _=>z.elim
def huR (hr:wW k A):A.units+1<cLine:=je (Kw (by decide:1<=64) _) hr.units
end
section
variable {prog:Program} {w:World} {A:Around} {E:Value->Shared->Prop} {s:Shared}
end
section
variable {X:Cx} {e:Expr} {te:TE}
end
section
variable {K:xt}
end
end L2
namespace L2
open PySem Trn
def Ra:ye:=λts KK=>∃(xa:List Pol.R3) (p:P2),ts=[.tup (xa.map xh),pT p]/\yD xa=true/\Pk 600 p/\∀L,gH xa (ve xa (uC xa p)) L->(∀x∈L,Bx 30 x.2/\BxM xa x)->KK (.lst (L.map (ug xa)))
def Rh:ye:=λts KK=>∃xa:List Pol.R3,ts=[.tup (xa.map xh)]/\yD xa=true/\zd xa/\∀Ls,RP xa Ls->KK (.lst (Ls.map (ug xa)))
theorem Ff (f:α->Tr)(h:∀x,dep (f x)<=n):∀l:List α,PyData.depthAll (w4 (l.map f))<=n
 |[]=>gD _
 |x::l=>Nat.max_le.mpr ⟨h x,Ff f h l⟩
def Fo {α:Type}(f:α->Tr)(p:∀x,pln (f x)=true)(d:∀x,dep (f x)<=60)(l m:List α):gF (.lst (l.map f)) (.lst (m.map f)):=⟨jo f p l,jo f p m,wV (Nat.min_le_left _ _) (by have:=Ff f d l;show PyData.depthAll (w4 (l.map f))+1<=64;lia)⟩
def JW (h:pln t=true):zz t t=true:=SeqAt.eqv_refl _ h
def JV (l:List Pol.R3):zz (.lst (l.map xG)) (.lst (l.map xG))=true:=JW (jo xG (λv=>aK (xn v)) l)
theorem tU:∀(n:Nat) (l:List Nat),l.Nodup->(∀x∈l,x<n)->l.length<=n
 |0,l,_,h=>by
  cases l with
  |nil=>exact yg _
  |cons a l=>exact absurd (h a xT) (by lia)
 |n+1,l,nd,h=>by
  by_cases m:n∈l
  .have:=tU n (l.erase n) (nd.erase n) λx hx=>by have:=(nd.mem_erase_iff).mp hx;have:=h x this.2;lia
   rw[List.length_erase_of_mem m] at this;lia
  .have:=tU n l nd λx hx=>by have:=h x hx;have:x≠n:=λe=>m (e▸hx);lia
   lia
def RS1 (xa:List Pol.R3)(x:SX):Prop:=z_ xa x/\Bx 30 x.2/\∃v∈xS xa,brk v=true/\x.1∈ve xa (uC xa (xn v))
theorem HI (hf:yD xa=true)(FR:zd xa)(hx:RS1 xa x)(hy:RS1 xa y)(e:x.2=y.2):yS xa x=yS xa y:=by
 obtain⟨G,_,v,hv,_,hs⟩:=hx;obtain⟨G',_,v',hv',_,hs'⟩:=hy;cases ef:lM x.2.1 x.2.2 ((xS xa).map xn) with
 |none=>obtain⟨f,hf'⟩:=MH (a:=x.2.1) (b:=x.2.2) (ps:=(xS xa).map xn) (λz=>by rw[List.map_eq_nil_iff] at z;rw[z] at hv;cases hv);rw[ef] at hf';cases hf'
 |some f=>rw[Gg hf FR hv hs G ef,Gg hf FR hv' hs' G' (by rw[<-e];exact ef),e]
def HJ {xa:List Pol.R3}(hf:yD xa=true)(FR:zd xa){Ls:List SX}(h:∀x∈Ls,RS1 xa x)(nd:(Ls.map (yS xa)).Nodup):Ls.length<=4000:=by
 have nd2:(Ls.map λx=>((x.2.1+30)*61+(x.2.2+30)).toNat).Nodup:=by rw[List.Nodup,Kv] at nd ⊢;refine(sA.mpr λ {a b} s=>?_);have ma:a∈Ls:=s.subset xT;have mb:b∈Ls:=s.subset (yJ _ xT);have ne:=sA.mp nd s;intro e;refine ne (HI hf FR (h a ma) (h b mb) ?_);obtain⟨_,⟨⟨a1,a2⟩,a3,a4⟩,_⟩:=h a ma;obtain⟨_,⟨⟨b1,b2⟩,b3,b4⟩,_⟩:=h b mb;exact zL (by lia) (by lia)
 have:=tU 3721 _ nd2 λn hn=>by obtain⟨x,hx,rfl⟩:=zQ.mp hn;obtain⟨_,⟨⟨a1,a2⟩,a3,a4⟩,_⟩:=h x hx;lia
 rw[xO] at this;lia
def Rw {xa:List Pol.R3}(hf:yD xa=true)(FR:zd xa){Ls:List SX}(h:∀x∈Ls,RS1 xa x)(nd:(Ls.map (yS xa)).Nodup)(h14:∀x∈Ls,Bx 14 x.2):Ls.length<=1000:=by
 have nd2:(Ls.map λx=>((x.2.1+14)*29+(x.2.2+14)).toNat).Nodup:=by rw[List.Nodup,Kv] at nd ⊢;refine(sA.mpr λ {a b} s=>?_);have ma:a∈Ls:=s.subset xT;have mb:b∈Ls:=s.subset (yJ _ xT);have ne:=sA.mp nd s;intro e;refine ne (HI hf FR (h a ma) (h b mb) ?_);obtain⟨⟨a1,a2⟩,a3,a4⟩:=h14 a ma;obtain⟨⟨b1,b2⟩,b3,b4⟩:=h14 b mb;exact zL (by lia) (by lia)
 have:=tU 841 _ nd2 λn hn=>by obtain⟨x,hx,rfl⟩:=zQ.mp hn;obtain⟨⟨a1,a2⟩,a3,a4⟩:=h14 x hx;lia
 rw[xO] at this;lia
def kyR (r:Pol.R3):List Int:=[r.1,r.2.1,r.2.2]
def kF (xa:List Pol.R3)(Ls:List SX)(x:SX):List SX:=if yS xa x∈Ls.map (yS xa) then Ls else Ls++[x]
def kvX (xa:List Pol.R3)(Ls:List SX):List (List Int×Tr):=Ls.map λx=>(kyR (yS xa x),ug xa x)
def GH (h:kyR r=kyR s):r=s:=by unfold kyR at h;injection h with h1 h2;injection h2 with h2 h3;injection h3 with h3 h4;exact zL h1 (zL h2 h3)
def RQ (xa:List Pol.R3)(Ls:List SX)(x:SX):putD (kvX xa Ls) (kyR (yS xa x)) (ug xa x)=kvX xa (kF xa Ls x):=by
 unfold putD kF;have e:((kvX xa Ls).any λp=>decide (p.1=kyR (yS xa x)))=decide (yS xa x∈Ls.map (yS xa)):=by
  rw[pS,rq,m5,zQ];constructor
  .rintro⟨p,hp,e⟩;obtain⟨y,hy,rfl⟩:=zQ.mp hp;exact⟨y,hy,GH (yV e)⟩
  .rintro⟨y,hy,e⟩;exact⟨_,jd hy,wI (by rw[<-e])⟩
 rw[e];by_cases m:yS xa x∈Ls.map (yS xa)
 .rw[xK (wI m),xK m]
 .rw[xH (by rw[uX m];exact wR),xH m];unfold kvX;rw[uo];rfl
def HY (h:y∈kF xa Ls x):y∈Ls\/y=x:=by
 unfold kF at h;split at h
 .exact .inl h
 .rcases yy.mp h with h|h
  .exact .inl h
  .exact .inr (zR.mp h)
def HZ (h:y∈Ls):y∈kF xa Ls x:=by
 unfold kF;split
 .exact h
 .exact yZ _ h
def RU (xa:List Pol.R3)(Ls:List SX)(x:SX):∃y∈kF xa Ls x,yS xa y=yS xa x:=by
 unfold kF;split
 .rename_i h;obtain⟨y,hy,e⟩:=zQ.mp h;exact⟨y,hy,e⟩
 .exact⟨x,zY _ (zR.mpr rfl),rfl⟩
def RT (x:SX)(nd:(Ls.map (yS xa)).Nodup):((kF xa Ls x).map (yS xa)).Nodup:=by
 unfold kF;split
 .exact nd
 .rename_i h;rw[uo,sj];refine⟨nd,by simp,λa ha b hb e=>?_⟩;rw[vS,fu,zR] at hb;rw[e,hb] at ha;exact h ha
structure RPi (xa vs:List Pol.R3)(Ls:List SX):Prop where
 bx:∀x∈Ls,BxM xa x
 snd:∀x∈Ls,RS1 xa x
 nd:(Ls.map (yS xa)).Nodup
 all:∀v∈vs,∃L,gH xa (ve xa (uC xa (xn v))) L/\∀x∈L,∃y∈Ls,yS xa y=yS xa x
def RPi.nil (xa:List Pol.R3):RPi xa [] []:=⟨λx hx=>(by cases hx),λx hx=>(by cases hx),(by simp),λv hv=>(by cases hv)⟩
def RPi.put (h:RPi xa vs Ls)(hx:RS1 xa x)(bx:BxM xa x):RPi xa vs (kF xa Ls x):=by
 refine⟨λy hy=>?_,λy hy=>?_,RT x h.nd,λv hv=>?_⟩
 .rcases HY hy with hy|rfl
  .exact h.bx y hy
  .exact bx
 .rcases HY hy with hy|rfl
  .exact h.snd y hy
  .exact hx
 .obtain⟨L,PL,a⟩:=h.all v hv;exact⟨L,PL,λx hx=>let ⟨y,hy,e⟩:=a x hx;⟨y,HZ hy,e⟩⟩
def RPi.done {xa:List Pol.R3}(hf:yD xa=true)(FR:zd xa){Ls:List SX}(h:RPi xa ((xS xa).filter brk) Ls):RP xa Ls:=⟨h.snd,λv hv hb=>h.all v (uV.mpr ⟨hv,hb⟩),HJ hf FR h.snd h.nd,λq=>Rw hf FR h.snd h.nd λx hx=>h.bx x hx 14 (by decide) q⟩
def Rv (hf:yD xa=true)(hv:v∈xS xa)(hb:brk v=true)(PL:gH xa (ve xa (uC xa (xn v))) L)(hx:x∈L)(bx:Bx 30 x.2):RS1 xa x:=⟨(PL.good x hx).2,bx,v,hv,hb,(PL.good x hx).1⟩
end L2
namespace L2
open PySem PySem.Spec PyProof.Rows
section
variable {K:xt} {B:FB} {φ:zg} {σ:St} {τ:xW} {H H' H'':Hp} {fr:Bool}
def mB (ks:List (List Int×Tr))(k:List Int)(t:Tr):List (List Int×Tr):=if (ks.any λp=>decide (p.1=k))=true then ks.map (λp=>if p.1=k then(p.1,t) else p) else ks++[(k,t)]
def Ap (i:Nat)(dk d:DE):DS:=λG τ=>match yp τ i with
 |.od ks=>d τ λt=>dk τ λk=>∃ns:List Int,k=tP ns/\ks.length<sizeLine/\G.nx (τ.set i (.od (mB ks ns t)))
 |_=>False
theorem GF (rt:Rep F H t v):∀ {ks:List (List Int×Tr)} {hk:List (List Key×V)},KvR F H ks hk->KvR F H (ks.map λp=>if p.1=ns then(p.1,t) else p) (hk.map λkv=>if kv.1=ns.map Sum.inl then(kv.1,v) else kv)
 |_,_,.nil=>.nil
 |p::_,q::_,.cons h r=>by
  refine .cons ?_ (GF rt r);dsimp only;by_cases c:p.1=ns
  .rw[xK c,xK (by rw[h.1,c])];exact⟨h.1,rt⟩
  .rw[xH c,xH (λz=>c ((List.map_inj_right λx y e=>Sum.inl.inj e).mp (by rw[<-h.1];exact z)))];exact h
def NG (r:KvR F H ks hk)(ns:List Int)(rt:Rep F H t v):KvR F H (mB ks ns t) (putK hk (ns.map Sum.inl) v):=by
 have an:=GC r ns;rw[<-pQ] at an;unfold mB putK;rw[an];split
 .exact GF rt r
 .exact eX (a:=(ns,t)) (b:=(ns.map Sum.inl,v)) r ⟨rfl,rt⟩
theorem Qc {i:Nat}{tk te:TE}{dk d:DE}(hk:x_ K true tk dk)(h:x_ K true te d):zM K fr (IT (uk i) tk te) (Ap i dk d):=λB φ σ τ H E G R hd e=>by
 have en:=R.ent i;unfold Ap at hd;revert en hd;cases hi:yp τ i with
 |od ks=>
  intro hd ⟨a,hk0,e1,e2,e3,e4,r⟩;refine h B φ σ τ H _ _ R hd λt v H1 x1 k1 r1=>⟨_,e1,?_⟩
  refine hk B φ σ τ H1 _ _ (R.hx x1) k1 λt0 v0 H2 x2 k2 r0=>?_;obtain⟨ns,rfl,hz,k2⟩:=k2;obtain⟨hk',f4,f5⟩:=Hb R (x1.trans x2) hi e1;obtain⟨b,ws,rfl,_,hb,rl⟩:=r0;rw[dI rl] at hb;have rv:=x2.rep (F:=Av B φ) (λa s=>R.sAv s) r1;exact⟨a,_,rfl,rK.t f4 (by rw[lV];exact hb) (by rw[<-fF f5];exact hz),e.nx φ σ _ _ ((R.hx (x1.trans x2)).wrOd hi e1 (NG f5 ns rv)) k2⟩
 |_=>exact λz _=>z.elim
def E7 (i:Nat):DE:=λτ KK=>match yp τ i with|.od ks=>KK (.lst (ks.map λp=>tP p.1))|_=>False
theorem IG:∀ns:List Int,yx F H (ns.map Tr.int) (ns.map V.int)
 |[]=>rfl
 |n::ns=>⟨_,_,rfl,rfl,IG ns⟩
theorem GD (nt:∀a,F a->NT (H a)):∀ {ks:List (List Int×Tr)} {hk:List (List Key×V)} {qs:List Addr},KvR F H ks hk->Paired (λ(kv:List Key×V) (q:Addr)=>H q=some (.tup (kv.1.map kV))) hk qs->yx F H (ks.map λp=>tP p.1) (qs.map V.ref)
 |_,_,_,.nil,.nil=>rfl
 |p::_,_,q::_,.cons h t,.cons e s=>⟨_,_,rfl,⟨q,p.1.map V.int,rfl,λz=>(nt _ z).tp _ e,by rw[e,h.1,lV],IG p.1⟩,GD nt t s⟩
theorem P0:zp K (tCB Il (uB (uk i) vZ)) (E7 i):=λB φ σ τ H Q KK R hd q=>by
 have en:=R.ent i;unfold E7 at hd;revert en hd;cases hi:yp τ i with
 |od ks=>intro hd ⟨a,hk,e1,e2,e3,e4,r⟩;exact⟨_,e1,a,hk,rfl,e4,λp qs hp pr=>q _ p _ _ (HX.new R hp _) hd hp zA (dJ hp (GD (λa z=>R.nt z) r pr))⟩
 |_=>exact λz _=>z.elim
def IS (i:Nat):DS:=λG τ=>match yp τ i with|.ow _=>G.nx (τ.set i (.ow []))|_=>False
theorem P_:zM K fr (aZ (BS K "list" Ic (uk i))) (IS i):=λB φ σ τ H E G R hd e=>by
 have en:=R.ent i;unfold IS at hd;revert en hd;cases hi:yp τ i with
 |ow ts=>intro hd ⟨a,ws,e1,e2,e3,e4,r⟩;exact⟨_,e1,.inl ⟨rfl,_,yt.of e4⟩,a,ws,rfl,rfl,e4,e.nx φ σ _ _ (R.wrOw hi e1 (ts':=[]) (ws':=[]) rfl) hd⟩
 |_=>exact λz _=>z.elim
end
end L2
namespace L2
open PySem Trn
def sqy (h:n<=16000000):n<sizeLine:=je h (by decide)
def Jw (h:n<=16000000):n<=sizeLine:=mT (sqy h)
def HQ (S:List Pol.R3)(r:Pol.R3):pieces (S++[r])=uL (pieces S) r:=by unfold pieces;rw[se];rfl
def N8 (acc:List Pol.R3)(p:Pol.R3×Pol.R3):v∈zT r acc p↔v∈acc\/v∈seg r p:=by
 have h1:v∈(if val r p.1*val r p.2<0 then(if ya r p.1 p.2∈acc then acc else acc++[ya r p.1 p.2]) else acc)↔v∈acc\/v∈(if val r p.1*val r p.2<0 then[ya r p.1 p.2] else[]):=by
  split
  .split
   .rename_i c;rw[zR];exact⟨.inl,λz=>z.elim id λe=>e▸c⟩
   .rw[yy]
  .simp
 unfold zT seg;simp only;split
 .rw[yy,h1,yy,or_assoc]
 .rw[h1,um]
theorem G1:∀(ps:List (Pol.R3×Pol.R3)) (acc:List Pol.R3),v∈ps.foldl (zT r) acc↔v∈acc\/v∈ps.flatMap (seg r)
 |[],acc=>by simp
 |p::ps,acc=>by rw[qL,G1 ps,N8,Kr,yy,or_assoc]
def N6:v∈wY r (xS S)↔v∈xS (S++[r]):=by unfold xS;rw[dm,HQ];unfold uL;rw[G1];generalize pieces S=l;show _↔v∈[]\/v∈wY r l;unfold uw;obtain⟨c,d,e1,e2⟩:=lB r (l.take (kS l)) (l.drop (kS l));rw[sC] at e1;rw[e1,e2];simp only[yy,zi,false_or];exact Or.comm
def LR (h:∀v∈xS S,val r v<=0)(nd:(pieces S).Nodup):xS (S++[r])=xS S:=by unfold xS;rw[HQ];have h:∀v∈pieces S,val r v<=0:=λv hv=>h v (dm.mpr hv);rw[sT (by rw[fS h];exact nd),fS h]
theorem nQ (r:Pol.R3)(l:List Pol.R3):(wY r l).length<=2*l.length:=by
 unfold wY;rw[<-lC l];generalize y9 l=ps
 induction ps with
 |nil=>exact yg _
 |cons p ps ih=>
  rw[Kr,zy,wU];have:(seg r p).length<=2:=by unfold seg;split<;>split<;>simp
  lia
def LY (r:Pol.R3)(l:List Pol.R3)(h:(y9 l)[i]?=some p):((y9 l).take (i+1)).flatMap (seg r)=((y9 l).take i).flatMap (seg r)++seg r p:=by rw[vT,h,p_];simp
def sY (f g:F2):F2:=lfr (f.1*g.2) (f.2*g.1)
def QV:ye:=λts KK=>∃f g:F2,ts=[fT f,fT g]/\Fk 900 f/\Fk 900 g/\g.1≠0/\KK (fT (sY f g))
def Sd.to (h:Sd f N D)(eN:N=N')(eD:D=D'):Sd f N' D':=by subst eN eD;exact h
def Tj (c:Int):Sd (c,1) c 1:=⟨by show(0:Int)<1;decide,by decide,rfl⟩
def Sd.top_pos (h:Sd f N D)(hN:0<N):0<f.1:=by
 have e:=h.e;rcases y_ 0 f.1 with q|q
 .exact q
 .have:=Pol.pp hN h.pf;have:=np q (yo h.pd);lia
def Sd.top_neg (h:Sd f N D)(hN:N<0):f.1<0:=h.neg.mpr hN
def Sd.over (h:Sd f N D)(h':Sd g M E)(hM:0<M):Sd (sY f g) (N*E) (D*M):=by refine Sd.lfr (Pol.pp h.pf (h'.top_pos hM)) (Pol.pp h.pd hM) ?_ rfl;have:=h.e;have:=h'.e;grind
def Sd.overN (h:Sd f N D)(h':Sd g M E)(hM:M<0):Sd (sY f g) (-(N*E)) (-(D*M)):=by
 have gn:=h'.top_neg hM;have p1:0 < -(f.2*g.1):=by have:=Pol.pp h.pf (show 0 < -g.1 by lia);rw[qJ] at this;exact this
 have p2:0 < -(D*M):=by have:=Pol.pp h.pd (show 0 < -M by lia);rw[qJ] at this;exact this
 refine Sd.lfr (t:=-(f.1*g.2)) (b:=-(f.2*g.1)) p1 p2 ?_ ?_
 .have:=h.e;have:=h'.e;grind
 .unfold sY;rw[GS (by lia),q9 p1]
def uu (r:Pol.R3)(p:P2):F2:=fmin (r.2.2,1) (zm r p)
def fX (r:Pol.R3)(h:0<v.2.2):Sd (uu r (xn v)) (-val r v) v.2.2:=((Tj r.2.2).minus (bA r h)).to (by unfold val;lia) (by lia)
def fat (s x y:F2):F2:=vW x (ua s (fmin y x))
def tG (r:Pol.R3)(p q:P2):F2:=sY (uu r p) (fmin (uu r p) (uu r q))
def lL (r:Pol.R3)(p q:P2):P2:=(fat (tG r p q) p.1 q.1,fat (tG r p q) p.2 q.2)
def MN (hu:0<u.2.2)(hv:0<v.2.2)(h:val r u*val r v<0):Sd (tG r (xn u) (xn v)) (abs (val r u)*(u.2.2*v.2.2)) (u.2.2*(abs (val r u)*v.2.2+abs (val r v)*u.2.2)):=by
 have a:=fX r hu;have b:=fX r hv;have d:=a.minus b;unfold tG;generalize val r u=A at *
 generalize val r v=B at *
 unfold abs;rcases gk A 0 with q|q|q
 .have hB:0<B:=by
   rcases y_ 0 B with z|z
   .exact z
   .have:=Pol.nn (yo q) z;lia
  rw[xK q,xH (by lia)];have M:0 < -A*v.2.2 - -B*u.2.2:=by have h1:=Pol.pp (show 0 < -A by lia) hv;have h2:=Pol.pp hB hu;rw[qK B];lia
  exact(a.over d M).to rfl (by grind)
 .rw[q,jb] at h;lia
 .have hB:B<0:=by
   rcases y_ B 0 with z|z
   .exact z
   .have:=Pol.pz (yo q) z;lia
  rw[xH (by lia),xK hB];have M:-A*v.2.2 - -B*u.2.2<0:=by have h1:=Pol.pp q hv;have h2:=Pol.pp (show 0 < -B by lia) hu;rw[qK A];lia
  exact(a.overN d M).to (by grind) (by grind)
def FF (ss:Sd s N D)(sx:Sd x a z)(sy:Sd y b w)(hZ:0<Z)(e:(a*(D*(w*z))+N*(b*z-a*w)*z)*Z=X*(z*(D*(w*z)))):fat s x y=Fra.low X Z:=by have S:=sx.plus (ss.times (sy.minus sx));have C:Cop (fat s x y):=nP (Pol.pp sx.pf (ss.times (sy.minus sx)).pf);have:=S.low C;have p:=S.pd;rw[q9 p] at this;show vW x (ua s (fmin y x))=_;rw[<-show Fra.low _ _=vW x (ua s (fmin y x)) from this];exact Fra.tS p hZ e
def L5 (hu:0<u.2.2)(hv:0<v.2.2)(h:val r u*val r v<0):lL r (xn u) (xn v)=xn (ya r u v):=by
 have S:=MN hu hv h;obtain⟨B,_,cz,_⟩:=rV hu hv h;have e:=B.e;have pg:=B.pg;unfold lL;generalize tG r (xn u) (xn v)=s at *
 generalize ya r u v=x at *
 generalize hA:abs (val r u)=A at *
 generalize hB:abs (val r v)=C at *
 generalize (yN (cw r u v):Int)=g at *
 have e1:g*x.1=C*u.1+A*v.1:=zj (·.1) e;have e2:g*x.2.1=C*u.2.1+A*v.2.1:=zj (·.2.1) e;have e3:g*x.2.2=C*u.2.2+A*v.2.2:=zj (·.2.2) e;refine zL (FF S (sdx hu) (sdx hv) cz ?_) (FF S (sdy hu) (sdy hv) cz ?_)
 .refine Int.eq_of_mul_eq_mul_left (a:=g) (by lia) ?_;have k1:g*((u.1*(u.2.2*(A*v.2.2+C*u.2.2)*(v.2.2*u.2.2))+A*(u.2.2*v.2.2)*(v.1*u.2.2-u.1*v.2.2)*u.2.2)*x.2.2)=(u.1*(u.2.2*(A*v.2.2+C*u.2.2)*(v.2.2*u.2.2))+A*(u.2.2*v.2.2)*(v.1*u.2.2-u.1*v.2.2)*u.2.2)*(g*x.2.2):=by grind
  have k2:g*(x.1*(u.2.2*(u.2.2*(A*v.2.2+C*u.2.2)*(v.2.2*u.2.2))))=(g*x.1)*(u.2.2*(u.2.2*(A*v.2.2+C*u.2.2)*(v.2.2*u.2.2))):=by grind
  rw[k1,k2,e1,e3];grind
 .refine Int.eq_of_mul_eq_mul_left (a:=g) (by lia) ?_;have k1:g*((u.2.1*(u.2.2*(A*v.2.2+C*u.2.2)*(v.2.2*u.2.2))+A*(u.2.2*v.2.2)*(v.2.1*u.2.2-u.2.1*v.2.2)*u.2.2)*x.2.2)=(u.2.1*(u.2.2*(A*v.2.2+C*u.2.2)*(v.2.2*u.2.2))+A*(u.2.2*v.2.2)*(v.2.1*u.2.2-u.2.1*v.2.2)*u.2.2)*(g*x.2.2):=by grind
  have k2:g*(x.2.1*(u.2.2*(u.2.2*(A*v.2.2+C*u.2.2)*(v.2.2*u.2.2))))=(g*x.2.1)*(u.2.2*(u.2.2*(A*v.2.2+C*u.2.2)*(v.2.2*u.2.2))):=by grind
  rw[k1,k2,e2,e3];grind
def He (hu:0<u.2.2)(hv:0<v.2.2):((uu r (xn u)).1*(uu r (xn v)).1<0↔val r u*val r v<0):=by
 have a:=fX r hu;have b:=fX r hv;have e:(uu r (xn u)).1*(uu r (xn v)).1*(u.2.2*v.2.2)=val r u*val r v*((uu r (xn u)).2*(uu r (xn v)).2):=by have:=a.e;have:=b.e;grind
 rw[<-tT (Pol.pp hu hv),e,tT (Pol.pp a.pf b.pf)]
def Hd (hv:0<v.2.2):(0<=(uu r (xn v)).1↔val r v<=0):=by have b:=(fX r hv).neg;lia
def off_ne (hu:0<u.2.2)(hv:0<v.2.2)(h:val r u*val r v<0):(fmin (uu r (xn u)) (uu r (xn v))).1≠0:=by
 have d:=(fX r hu).minus (fX r hv);generalize val r u=A at *
 generalize val r v=B at *
 rcases gk A 0 with q|q|q
 .have hB:0<B:=by
   rcases y_ 0 B with z|z
   .exact z
   .have:=Pol.nn (yo q) z;lia
  have h1:=Pol.pp (show 0 < -A by lia) hv;have h2:=Pol.pp hB hu;have:=d.top_pos (by rw[qK B];lia);lia
 .rw[q,jb] at h;lia
 .have hB:B<0:=by
   rcases y_ B 0 with z|z
   .exact z
   .have:=Pol.pz (yo q) z;lia
  have h1:=Pol.pp q hv;have h2:=Pol.pp (show 0 < -B by lia) hu;have:=d.top_neg (by rw[qK A];lia);lia
def Fk.over (h:Fk k f)(h':Fk m g)(g0:g.1≠0):Fk (k+m) (sY f g):=jZ (λz=>by
 rcases vf.mp z with z|z
 .have:=h.pos;lia
 .exact g0 z) (h.top.mul h'.bot) (h.bot.mul h'.top)
def yK (s t:Pol.R3):Int:=abs (t.1*s.2.1-t.2.1*s.1)
def ckU (s t:Pol.R3)(p q:Int):Int:=p*t.1+q*s.1
def ckV (s t:Pol.R3)(p q:Int):Int:=p*t.2.1+q*s.2.1
def ckN (s t:Pol.R3)(p q:Int):Int:=p*t.2.2+q*s.2.2
def rT (s t:Pol.R3)(p q:Int):Prop:=ckU s t p q%yK s t=0/\ckV s t p q%yK s t=0/\(ckU s t p q≠0\/ckV s t p q≠0)
def ckR (s t:Pol.R3)(p q:Int):Pol.R3:=(ckU s t p q/yK s t,ckV s t p q/yK s t,ckN s t p q/yK s t)
structure CK (s t k:Pol.R3)(p q:Int):Prop where
 p0:0<=p
 p1:p<yK s t
 q0:0<=q
 q1:q<yK s t
 ok:rT s t p q
 e:k=ckR s t p q
structure AC (xa L:List Pol.R3):Prop where
 snd:∀k∈L,∃s∈xa,∃t∈xa,∃p q,CK s t k p q
 all:∀(i j:Nat) (s t:Pol.R3),i<j->xa[i]?=some s->xa[j]?=some t->∀p q,CK s t (ckR s t p q) p q->ckR s t p q∈L
def CK.eqs (h:CK s t k p q):yK s t*k.1=ckU s t p q/\yK s t*k.2.1=ckV s t p q/\k.2.2=ckN s t p q/yK s t/\(k.1≠0\/k.2.1≠0):=by
 obtain⟨_,_,_,_,⟨o1,o2,o3⟩,rfl⟩:=h;have e1:yK s t*(ckU s t p q/yK s t)=ckU s t p q:=d_ (Kg o1);have e2:yK s t*(ckV s t p q/yK s t)=ckV s t p q:=d_ (Kg o2);refine⟨e1,e2,rfl,?_⟩;refine gc λno=>?_;have z1:ckU s t p q/yK s t=0:=gc λz=>no (.inl z);have z2:ckV s t p q/yK s t=0:=gc λz=>no (.inr z);rw[z1,vR] at e1;rw[z2,vR] at e2;rcases o3 with o|o
 .exact o e1.symm
 .exact o e2.symm
def lg (p0:0<=p)(p1:p<b)(q0:0<=q)(q1:q<b)(hx:-m<=x/\x<=m)(hy:-m<=y/\y<=m)(m0:0<=m):-(2*m)*b<=p*x+q*y/\p*x+q*y<=(2*m)*b:=by
 have g:∀ {p x:Int},0<=p->p<b->-m<=x/\x<=m->-(m*b)<=p*x/\p*x<=m*b:=λ {p x} p0 p1 hx=>by have h1:=we hx.2 p0;have h2:=we hx.1 p0;have h3:=zf (yo p1) m0;rw[qJ] at h2;have h4:b*m=m*b:=vQ ..;lia
 have g1:=g p0 p1 hx;have g2:=g q0 q1 hy;have e1:-(2*m)*b = -(m*b)+-(m*b):=by grind
 have e2:2*m*b=m*b+m*b:=by grind
 lia
def LQ (hF:LF xa)(hs:s∈xa)(ht:t∈xa):0<=yK s t/\yK s t<=392:=by obtain⟨⟨s1,s2⟩,s3⟩:=hF.sm s hs;obtain⟨⟨t1,t2⟩,t3⟩:=hF.sm t ht;have a:=aq t1.1 t1.2 s2.1 s2.2 (by decide) (by decide);have b:=aq t2.1 t2.2 s1.1 s1.2 (by decide) (by decide);unfold yK abs;split<;>lia
def AC.snd_sm (hF:LF xa)(hk:∃s∈xa,∃t∈xa,∃p q,CK s t k p q):((-28<=k.1/\k.1<=28)/\(-28<=k.2.1/\k.2.1<=28))/\(-400<=k.2.2/\k.2.2<=400)/\(k.1≠0\/k.2.1≠0):=by
 obtain⟨s,hs,t,ht,p,q,C⟩:=hk;obtain⟨e1,e2,e3,nz⟩:=C.eqs;obtain⟨p0,p1,q0,q1,_,_⟩:=C;obtain⟨⟨s1,s2⟩,s3⟩:=hF.sm s hs;obtain⟨⟨t1,t2⟩,t3⟩:=hF.sm t ht;have b0:0<yK s t:=by lia
 have u:=lg p0 p1 q0 q1 t1 s1 (by decide);have v:=lg p0 p1 q0 q1 t2 s2 (by decide);have n:=lg p0 p1 q0 q1 t3 s3 (by decide);change _<=ckU s t p q/\ckU s t p q<=_ at u;change _<=ckV s t p q/\ckV s t p q<=_ at v;change _<=ckN s t p q/\ckN s t p q<=_ at n;generalize yK s t=b at *
 have lo:∀ {x m:Int},m*b<=b*x->m<=x:=λ {x m} h=>ja (by rw[vQ x b];exact h) b0;have hi:∀ {x m:Int},b*x<=m*b->x<=m:=λ {x m} h=>ja (by rw[vQ x b];exact h) b0;rw[<-e1] at u;rw[<-e2] at v;refine⟨⟨⟨lo u.1,hi u.2⟩,⟨lo v.1,hi v.2⟩⟩,⟨?_,?_⟩,nz⟩
 .rw[e3];exact(Cb b0).mpr n.1
 .rw[e3];have:=Int.ediv_mul_le (ckN s t p q) (show b≠0 by lia);exact ja (Int.le_trans this n.2) b0
def AC.frow (hF:LF xa)(A:AC xa L)(hk:k∈L):w5 k/\(k.1≠0\/k.2.1≠0):=by obtain⟨⟨a,b⟩,c,d⟩:=AC.snd_sm hF (A.snd k hk);exact⟨⟨⟨by lia,by lia⟩,by lia⟩,d⟩
def AC.of_round (hf:yD xa=true)(FR:zd xa)(R:RP xa Ls)(A:AC xa L)(pz:0<P.2.2)(kp:Kp (RR xa Ls) P):Kp (xa++L) P:=λk hk=>by
 have kr:Kp xa P:=λr hr=>kp r (yZ _ hr);rcases yy.mp hk with hk|hk
 .exact kr k hk
 obtain⟨s,hs,t,ht,p,q,C⟩:=A.snd k hk;obtain⟨e1,e2,e3,nz⟩:=C.eqs;obtain⟨p0,p1,q0,q1,_,_⟩:=C;have b0:0<yK s t:=by lia
 obtain⟨w,hw⟩:=EO hf FR pz kr;obtain⟨v,hv,kv⟩:=R.main hf FR pz kp hw (d:=(k.1,k.2.1)) (λz=>by have z1:k.1=0:=zj (·.1) z;have z2:k.2.1=0:=zj (·.2) z;lia)
 obtain⟨⟨vz,_,Cv⟩,_⟩:=FR.corner hv;have tv:=we (Cv.kept t ht) p0;have sv:=we (Cv.kept s hs) q0;have fl:=tF (k.1,k.2.1) vz;have le:zC (k.1,k.2.1) v<=k.2.2:=by
  rw[e3];refine(Cb b0).mpr ?_;have key:yK s t*dv (k.1,k.2.1) v=p*(val t v+t.2.2*v.2.2)+q*(val s v+s.2.2*v.2.2):=by
   have:yK s t*dv (k.1,k.2.1) v=(yK s t*k.1)*v.1+(yK s t*k.2.1)*v.2.1:=by unfold dv;grind
   rw[this,e1,e2];unfold ckU ckV val;grind
  have m:=we fl (yo b0);have e:p*(val t v+t.2.2*v.2.2)+q*(val s v+s.2.2*v.2.2)=p*val t v+q*val s v+ckN s t p q*v.2.2:=by unfold ckN;grind
  rw[vR] at tv sv;have f:zC (k.1,k.2.1) v*yK s t*v.2.2<=ckN s t p q*v.2.2:=by
   have:zC (k.1,k.2.1) v*yK s t*v.2.2=yK s t*(zC (k.1,k.2.1) v*v.2.2):=by grind
   lia
  exact ja f vz
 have m:=zf le (yo pz);have a:val (k.1,k.2.1,zC (k.1,k.2.1) v) P=val k P+k.2.2*P.2.2-zC (k.1,k.2.1) v*P.2.2:=by unfold val;simp only;lia
 change val (k.1,k.2.1,zC (k.1,k.2.1) v) P<=0 at kv;lia
def AC.to_round (hf:yD xa=true)(FR:zd xa)(R:RP xa Ls)(A:AC xa L)(pz:0<P.2.2)(kp:Kp (xa++L) P):Kp (RR xa Ls) P:=λr hr=>by
 have kr:Kp xa P:=λr hr=>kp r (yZ _ hr);rcases yy.mp hr with hr|hr
 .exact kr r hr
 obtain⟨x,hx,rfl⟩:=zQ.mp hr;obtain⟨G,_⟩:=R.snd x hx;have ki:=kr _ (qm G.i1);have kj:=kr _ (qm G.i2);have gi:=me G.i1;have gj:=me G.i2;rw[eZ hf G];have T0:0<cr (xg xa x.1.1) (xg xa x.1.2):=G.pos;have A0:0<=cr x.2 (xg xa x.1.2):=G.inc.2;have B0:0<=cr (xg xa x.1.1) x.2:=G.inc.1;have be:=fQ (xg xa x.1.1) (xg xa x.1.2) x.2;have ne:x.1.1≠x.1.2:=λe=>by rw[e] at T0;unfold cr at T0;grind
 generalize hi:x.1.1=i at *
 generalize hj:x.1.2=j at *
 generalize ei:yf xa i=s at *
 generalize ej:yf xa j=t at *
 have hs:xg xa i=(s.1,s.2.1):=by unfold xg;rw[ei]
 have ht:xg xa j=(t.1,t.2.1):=by unfold xg;rw[ej]
 simp only[hs,ht] at T0 A0 B0 be ⊢;have hk:k2 s=s.2.2:=rfl;have hk':k2 t=t.2.2:=rfl;rw[hk,hk'];generalize hT:cr (s.1,s.2.1) (t.1,t.2.1)=T at *
 generalize hA:cr x.2 (t.1,t.2.1)=a at *
 generalize hB:cr (s.1,s.2.1) x.2=b at *
 obtain⟨be1,be2⟩:=be;have da:=Int.emod_add_mul_ediv a T;have db:=Int.emod_add_mul_ediv b T;have a1:=dX a (show T≠0 by lia);have a2:=rj a T0;have b1:=dX b (show T≠0 by lia);have b2:=rj b T0;have a3:0<=a/T:=B_ A0 (by lia);have b3:0<=b/T:=B_ B0 (by lia);generalize a%T=a0 at *
 generalize a/T=a9 at *
 generalize b%T=b0 at *
 generalize b/T=b9 at *
 have d1:T*(x.2.1-a9*s.1-b9*t.1)=a0*s.1+b0*t.1:=by
  have:T*(x.2.1-a9*s.1-b9*t.1)=x.2.1*T-(T*a9)*s.1-(T*b9)*t.1:=by grind
  rw[this,be1,<-da,<-db];grind
 have d2:T*(x.2.2-a9*s.2.1-b9*t.2.1)=a0*s.2.1+b0*t.2.1:=by
  have:T*(x.2.2-a9*s.2.1-b9*t.2.1)=x.2.2*T-(T*a9)*s.2.1-(T*b9)*t.2.1:=by grind
  rw[this,be2,<-da,<-db];grind
 have eN:(a*s.2.2+b*t.2.2)/T=a9*s.2.2+b9*t.2.2+(a0*s.2.2+b0*t.2.2)/T:=by
  have:a*s.2.2+b*t.2.2=(a0*s.2.2+b0*t.2.2)+T*(a9*s.2.2+b9*t.2.2):=by rw[<-da,<-db];grind
  rw[this,Int.add_mul_ediv_left _ _ (show T≠0 by lia)];lia
 rw[eN];have n1:=we ki a3;have n2:=we kj b3;rw[vR] at n1 n2;have split:val (x.2.1,x.2.2,a9*s.2.2+b9*t.2.2+(a0*s.2.2+b0*t.2.2)/T) P=a9*val s P+b9*val t P+val (x.2.1-a9*s.1-b9*t.1,x.2.2-a9*s.2.1-b9*t.2.1,(a0*s.2.2+b0*t.2.2)/T) P:=by unfold val;simp only;grind
 rw[split]
 suffices h:val (x.2.1-a9*s.1-b9*t.1,x.2.2-a9*s.2.1-b9*t.2.1,(a0*s.2.2+b0*t.2.2)/T) P<=0 by lia
 generalize x.2.1-a9*s.1-b9*t.1=u at *
 generalize x.2.2-a9*s.2.1-b9*t.2.1=v at *
 by_cases z:u=0/\v=0
 .obtain⟨rfl,rfl⟩:=z;rw[vR] at d1 d2;have za:a0*T=0:=by rw[<-hT];unfold cr;simp only;grind
  have zb:b0*T=0:=by rw[<-hT];unfold cr;simp only;grind
  have za:=(vf.mp za).resolve_right (by lia);have zb:=(vf.mp zb).resolve_right (by lia);rw[za,zb];simp[val]
 have nz:u≠0\/v≠0:=by lia
 refine kp _ (zY _ ?_);have uT:a0*s.1+b0*t.1≠0\/a0*s.2.1+b0*t.2.1≠0:=by
  rw[<-d1,<-d2];rcases nz with z|z
  .exact .inl λe=>z ((vf.mp e).resolve_left (by lia))
  .exact .inr λe=>z ((vf.mp e).resolve_left (by lia))
 have hT':s.1*t.2.1-s.2.1*t.1=T:=hT;rcases Nat.lt_or_gt_of_ne ne with lt|lt
 .have eb:yK s t=T:=by unfold yK abs;rw[xK (by grind)];grind
  have eu:ckU s t b0 a0=T*u:=by rw[d1];unfold ckU;lia
  have ev:ckV s t b0 a0=T*v:=by rw[d2];unfold ckV;lia
  have en:ckN s t b0 a0=a0*s.2.2+b0*t.2.2:=by unfold ckN;lia
  have er:ckR s t b0 a0=(u,v,(a0*s.2.2+b0*t.2.2)/T):=by unfold ckR;rw[eb,eu,ev,en,pY _ (by lia),pY _ (by lia)]
  rw[<-er];refine A.all i j s t lt gi gj _ _ ⟨b1,by lia,a1,by lia,⟨?_,?_,?_⟩,rfl⟩
  .rw[eb,eu];exact Ce ..
  .rw[eb,ev];exact Ce ..
  .rw[eu,ev,d1,d2];exact uT
 .have eb:yK t s=T:=by unfold yK abs;rw[xH (by grind)];grind
  have eu:ckU t s a0 b0=T*u:=by rw[d1];rfl
  have ev:ckV t s a0 b0=T*v:=by rw[d2];rfl
  have er:ckR t s a0 b0=(u,v,(a0*s.2.2+b0*t.2.2)/T):=by unfold ckR;rw[eb,eu,ev,pY _ (by lia),pY _ (by lia)];rfl
  rw[<-er];refine A.all j i t s lt gj gi _ _ ⟨a1,by lia,b1,by lia,⟨?_,?_,?_⟩,rfl⟩
  .rw[eb,eu];exact Ce ..
  .rw[eb,ev];exact Ce ..
  .rw[eu,ev,d1,d2];exact uT
def LV (gr:GR xa)(fr:∀r∈xa,w5 r)(s1:∀r∈xa,r∈m1)(s2:∀r∈xa,r∈m2)(d1:∀r∈m1,r.1≠0\/r.2.1≠0)(d2:∀r∈m2,r.1≠0\/r.2.1≠0)
  (eq:∀p:Pol.R3,0<p.2.2->(Kp m1 p↔Kp m2 p)):xS m1=xS m2:=by
 have F1:=bj gr fr s1 d1;have F2:=bj gr fr s2 d2;have g1:=qy d1;have g2:=qy d2;have fd:∀ {m1 m2:List Pol.R3},qR xa m1->qR xa m2->(∀r∈xa,r∈m2)->(∀r∈m2,r.1≠0\/r.2.1≠0)->(∀p:Pol.R3,0<p.2.2->(Kp m1 p↔Kp m2 p))->∀v∈xS m1,v∈xS m2:=λ {m1 m2} F1 F2 s2 d2 eq v hv=>by obtain⟨a1,a2,C⟩:=F1.corner (q_ hv);have k2:=(eq v a1).mp C.kept;obtain⟨u,hu,sm⟩:=F2.found a1 (lS (gr.mono s2) d2 (λp pz kp=>(eq p pz).mpr kp) a1 k2 C);have c:=F2.corner hu;rw[<-aL c.1 a1 c.2.1 a2 sm];exact dm.mpr hu
 refine IM (sZ g1.ccw) (sZ g2.ccw) (s_ g1.bot) (s_ g2.bot) (λp hp q hq sm=>?_) λv=>⟨fd F1 F2 s2 d2 eq v,fd F2 F1 s1 d1 (λp pz=>(eq p pz).symm) v⟩
 obtain⟨a1,a2,_⟩:=F1.corner (q_ hp);obtain⟨b1,b2,_⟩:=F1.corner (q_ hq);exact aL a1 b1 a2 b2 sm
def AC.round (hF:LF xa)(hf:yD xa=true)(FR:zd xa)(R:RP xa Ls)(A:AC xa L):xS (xa++L)=vY xa Ls:=by
 have dir:=hF.dir;refine LV (m2:=RR xa Ls) hF.gr FR.fine.fr (λr hr=>yZ _ hr) (λr hr=>yZ _ hr) (λr hr=>?_) (λr hr=>(R.frow hf FR r hr).2) λp pz=>⟨A.to_round hf FR R pz,A.of_round hf FR R pz⟩
 rcases yy.mp hr with hr|hr
 .exact dir r hr
 .exact(A.frow hF hr).2
def HB:ye:=λts KK=>∃(p q:P2) (ws:List P2),ts=[pT p,pT q,.lst (ws.map pT)]/\Pk 200 p/\Pk 200 q/\(∀w∈ws,Pk 200 w)/\ws.length<=12000000/\KK (.bl (ws.all λw=>!decide (gQ p q w<0)))
def QY:ye:=λts KK=>∃ps l:List Pol.R3,ts=[.lst (ps.map xG)]/\(∀v,v∈ps↔v∈l)/\ps.length<=12000000/\ji 6000000 l/\KK (.lst (l.map xG))
def ji.up (h:ji n l)(hn:n<=m):ji m l:=⟨h.ccw,h.pos,h.prim,h.sm,h.least,wV h.len hn⟩
structure vK (xa C:List Pol.R3):Prop where
 lf:LF xa
 sm:∀k∈C,w5 k/\(k.1≠0\/k.2.1≠0)
 len:C.length<=2700000
def QH:ye:=λts KK=>∃(xa C:List Pol.R3) (r:Pol.R3),ts=[.lst ((xS (xa++C)).map xG),xh r]/\vK xa (C++[r])/\KK (.lst ((xS (xa++(C++[r]))).map xG))
def QM:ye:=λts KK=>∃xa:List Pol.R3,ts=[.tup (xa.map xh)]/\LF xa/\∀L,AC xa L->L.length<=2700000->KK (.lst (L.map xh))
def QZ:ye:=λts KK=>∃xa:List Pol.R3,ts=[.tup (xa.map xh)]/\LF xa/\∀L,AC xa L->L.length<=2700000->KK (.lst ((xS (xa++L)).map xG))
def QR:ye:=λts KK=>∃(xa:List Pol.R3) (Ls:List SX),ts=[.tup (xa.map xh),.lst (Ls.map (ug xa))]/\LF xa/\RP xa Ls/\KK (.lst ((vY xa Ls).map xG))
def QP:ye:=λts KK=>∃(xa:List Pol.R3) (ws:List F2),ts=[.tup (xa.map xh),.tup [wsT ws,jr (xa.zip ws)]]/\yD xa=true/\GW xa.length ws/\jQ (wsum k0 (xa.zip ws)) (wsum k1 (xa.zip ws))/\KK (.bl true)
def vK.fine (h:vK xa C):qR xa (xa++C):=bj h.lf.gr (λr hr=>h.lf.frow r hr) (λr hr=>yZ _ hr) λr hr=>by
 rcases yy.mp hr with hr|hr
 .exact h.lf.dir r hr
 .exact(h.sm r hr).2
def vK.b {xa C:List Pol.R3}(h:vK xa C):∀r∈xa++C,yM 10 r:=λr hr=>by
 rcases yy.mp hr with hr|hr
 .exact jT (h.lf.frow r hr)
 .exact jT (h.sm r hr).1
def vK.b21 (h:vK xa C)(hv:v∈xS (xa++C)):yM 21 v:=by obtain⟨hz,g,⟨_,s,hs,t,ht,e1,e2,hn⟩⟩:=h.fine.corner (q_ hv);obtain⟨b1,b2,b3⟩:=lu g hz e1 e2 hn;have S:=h.b s hs;have T:=h.b t ht;have m:∀ {x y z w:Int},Bk 10 x->Bk 10 y->Bk 10 z->Bk 10 w->Bk 21 (x*y-z*w):=λh1 h2 h3 h4=>(h1.mul h2).sub (h3.mul h4);refine⟨⟨(m S.2 T.1.2 T.2 S.1.2).le b2,(m T.2 S.1.1 S.2 T.1.1).le b3⟩,?_⟩;refine(m S.1.1 T.1.2 S.1.2 T.1.1).le ?_;unfold Pol.turn at b1;lia
def vK.ring (h:vK xa C):ji 6000000 (xS (xa++C)) where
 ccw:=sZ (qy h.fine.dir).ccw
 pos:=λv hv=>(h.fine.corner (q_ hv)).1
 prim:=λv hv=>(h.fine.corner (q_ hv)).2.1
 sm:=λv hv=>(h.b21 hv).mono (by decide)
 least:=s_ (qy h.fine.dir).bot
 len:=by
  unfold xS;rw[bJ];have:=Aa h.fine.dir;have:=h.lf.l8;have:=h.len;rw[zy] at *
  lia
def vK.sub (h:vK xa (C++C')):vK xa C:=⟨h.lf,λk hk=>h.sm k (yZ _ hk),by have:=h.len;rw[zy] at this;lia⟩
def vK.pk (h:vK xa C)(hv:v∈xS (xa++C)):Pk 21 (xn v):=cE (h.ring.pos v hv) (h.b21 hv)
def AC.cuts (hF:LF xa)(A:AC xa L)(ln:L.length<=2700000):vK xa L:=⟨hF,λk hk=>A.frow hF hk,ln⟩
def RP.cuts {xa:List Pol.R3}{Ls:List SX}(hF:LF xa)(R:RP xa Ls):vK xa (Ls.map (yS xa)):=⟨hF,λk hk=>R.frow hF.isf hF.fine k (zY _ hk),by have:=R.len;rw[xO];lia⟩
structure CI (xa keys:List Pol.R3)(P:Nat->Nat->Int->Int->Prop):Prop where
 nd:keys.Nodup
 snd:∀k∈keys,∃s∈xa,∃t∈xa,∃p q,CK s t k p q
 cov:∀(i j:Nat) (s t:Pol.R3) (p q:Int),i<j->xa[i]?=some s->xa[j]?=some t->CK s t (ckR s t p q) p q->P i j p q->ckR s t p q∈keys
def CI.mono (h:CI xa keys P)(m:∀i j s t p q,i<j->xa[i]?=some s->xa[j]?=some t->CK s t (ckR s t p q) p q->P' i j p q->P i j p q):CI xa keys P':=⟨h.nd,h.snd,λi j s t p q lt a b c d=>h.cov i j s t p q lt a b c (m i j s t p q lt a b c d)⟩
def fM (keys:List Pol.R3)(k:Pol.R3):List Pol.R3:=if k∈keys then keys else keys++[k]
def GZ:v∈fM keys k↔v∈keys\/v=k:=by
 unfold fM;split
 .rename_i h;exact⟨.inl,λz=>z.elim id λe=>e▸h⟩
 .rw[yy,zR]
def kvK (keys:List Pol.R3):List (List Int×Tr):=keys.map λk=>(kyR k,Tr.bl true)
def Tt (keys:List Pol.R3)(k:Pol.R3):mB (kvK keys) (kyR k) (.bl true)=kvK (fM keys k):=by
 unfold mB fM;have e:((kvK keys).any λp=>decide (p.1=kyR k))=decide (k∈keys):=by
  rw[pS,rq,m5];constructor
  .rintro⟨p,hp,e⟩;obtain⟨y,hy,rfl⟩:=zQ.mp hp;rw[<-GH (yV e)];exact hy
  .intro h;exact⟨_,jd h,wI rfl⟩
 rw[e];by_cases m:k∈keys
 .rw[xK (wI m),xK m];unfold kvK;rw[vy];refine List.map_congr_left λx _=>?_;show(if kyR x=kyR k then(kyR x,Tr.bl true) else(kyR x,Tr.bl true))=_;split<;>rfl
 .rw[xH (by rw[uX m];exact wR),xH m];unfold kvK;rw[uo];rfl
def CI.put (h:CI xa keys P)(hs:xa[i]?=some s)(ht:xa[j]?=some t)(c:CK s t (ckR s t p q) p q)
  (m:∀i' j' p' q',P' i' j' p' q'->P i' j' p' q'\/i'=i/\j'=j/\p'=p/\q'=q):CI xa (fM keys (ckR s t p q)) P':=by
 refine⟨?_,λk hk=>?_,λi' j' s' t' p' q' lt a b c' d=>?_⟩
 .unfold fM;split
  .exact h.nd
  .rename_i no;rw[sj];refine⟨h.nd,by simp,λa ha b hb e=>?_⟩;rw[e,zR.mp hb] at ha;exact no ha
 .rcases GZ.mp hk with hk|rfl
  .exact h.snd k hk
  .exact⟨s,zG hs,t,zG ht,p,q,c⟩
 .rw[GZ];rcases m i' j' p' q' d with d|⟨rfl,rfl,rfl,rfl⟩
  .exact .inl (h.cov i' j' s' t' p' q' lt a b c' d)
  .rw[hs] at a;rw[ht] at b;cases a;cases b;exact .inr rfl
def CI.skip (h:CI xa keys P)(hs:xa[i]?=some s)(ht:xa[j]?=some t)(c:¬rT s t p q)
  (m:∀i' j' p' q',P' i' j' p' q'->P i' j' p' q'\/i'=i/\j'=j/\p'=p/\q'=q):CI xa keys P':=by
 refine⟨h.nd,h.snd,λi' j' s' t' p' q' lt a b c' d=>?_⟩;rcases m i' j' p' q' d with d|⟨rfl,rfl,rfl,rfl⟩
 .exact h.cov i' j' s' t' p' q' lt a b c' d
 .rw[hs] at a;rw[ht] at b;cases a;cases b;exact absurd c'.ok c
def CI.ac (h:CI xa keys P)(m:∀i j s t p q,xa[i]?=some s->xa[j]?=some t->CK s t (ckR s t p q) p q->P i j p q):AC xa keys:=⟨h.snd,λi j s t lt a b p q c=>h.cov i j s t p q lt a b c (m i j s t p q a b c)⟩
def CI.len (hF:LF xa)(h:CI xa keys P):keys.length<=2700000:=by
 have sm:∀k∈keys,((-28<=k.1/\k.1<=28)/\(-28<=k.2.1/\k.2.1<=28))/\(-400<=k.2.2/\k.2.2<=400):=λk hk=>by have:=AC.snd_sm hF (h.snd k hk);exact⟨this.1,this.2.1⟩
 have nd2:(keys.map λk:Pol.R3=>(((k.1+28)*57+(k.2.1+28))*801+(k.2.2+400)).toNat).Nodup:=by have nd:=h.nd;rw[List.Nodup,Kv];refine(sA.mpr λ {a b} s=>?_);have ma:=sm a (s.subset xT);have mb:=sm b (s.subset (yJ _ xT));have ne:=sA.mp nd s;intro e;refine ne (zL ?_ (zL ?_ ?_))<;>lia
 have:=tU 2602449 _ nd2 λn hn=>by obtain⟨x,hx,rfl⟩:=zQ.mp hn;have:=sm x hx;lia
 rw[xO] at this;lia
end L2
namespace L2
open PySem
def xC (K:xt)(i:Nat)(e:X.K=K:=by rfl)(hN:X.N[i]?=some x:=by rfl)(hv:Vis X.env.scope x:=by first|exact Or.inl rfl|exact Or.inr (Or.inl rfl)|exact Or.inr (Or.inr rfl))(hd:(x==("__debug__" : Str))=false:=by decide)
  (hcd:(x==("__classdict__" : Str))=false:=by decide):PE X (.Subscript (.Name x p) (.Constant (.int n) j q) r) (tOp (rIx K) (uk i) (tC (.int n))):=y8 (zD K e) (pv i hN hv hd hcd) xm (λ_ _=>rfl)
def xB {K:xt}:x_ K true (tOp (rIx K) (uk i) (tC (.int n))) (d2 fIx (wL i) (dC (Tr.int n))):=wd xc (jA (t:=Tr.int _))
def xP (a:PE X e te)(h:starEach [e] X.env=(false,eval e X.env)::starEach [] X.env:=by rfl):PA X [e] (uB te vZ):=y4 a uf h
def xk (a:PE X e te)(b:PE X f tf)(h:starEach [f] X.env=(false,eval f X.env)::starEach [] X.env:=by rfl)(g:starEach [e,f] X.env=(false,eval e X.env)::starEach [f] X.env:=by rfl):PA X [e,f] (uB te (uB tf vZ)):=y4 a (y4 b uf h) g
def xR {K:xt}(h:x_ K b te de):OkA K b 1 (uB te vZ) (qY de js):=zw h uP
def xo {K:xt}(h:x_ K b te de)(g:x_ K b tf df):OkA K b 2 (uB te (uB tf vZ)) (qY de (qY df js)):=zw h (zw g uP)
def xq {K:xt}:x_ K true (tC (.int i)) (dC (.int i)):=jA
def vc {K:xt}:x_ K true (tC (.bl i)) (dC (.bl i)):=jA
def yh (h:sc.kind=.function/\sc.isCoroutine=false/\sc.isGenerator=false/\N.Nodup/\N.take P.length=P/\(∀x∈P,sc.names.lookup x=some .local\/sc.names.lookup x=some .cell)/\∀y∈sc.names,y.2≠.free:=by decide +kernel):xX N P sc:=⟨h.1,h.2.1,h.2.2.1,h.2.2.2.1,h.2.2.2.2.1,h.2.2.2.2.2.1,h.2.2.2.2.2.2⟩
def ym (i:Nat)(hN:X.N.Nodup)(hi:X.N[i]?=some x:=by rfl)(hx:X.env.scope.names.lookup x=some .local:=by rfl):PG X (.Name x pos) (qx i):=yU hN hi (.inl hx) (.inr hx)
def yC (i:Nat)(hN:X.N.Nodup)(he:PE X e te)(hi:X.N[i]?=some x:=by rfl)(hx:X.env.scope.names.lookup x=some .local:=by rfl)(hs:swapsWith e (some (.Name x pos')) pos.line X.env=pure false:=by rfl):PS X (.Assign [.Name x pos'] e pos) (jD te (qx i)):=kE hN hi (.inl hx) he hs (.inr hx)
end L2
namespace K17
open PySem L2 Trn
structure DF (K:xt)(mg:Str->Option Value)(x:Str)(st:Stmt)(f:Addr)(fd:FuncData)(ps:List Str):Prop where
 F:Fun K x x st f fd
 m:mg x=some (.ref f)
 b:Binds K fd ps []
def yq {P:Program}{w:World}{K:xt}{mg:Str->Option Value}{base:Heap}{k n:Nat}{x:Str}{st:Stmt}{f:Addr}{fd:FuncData}{N ps:List Str}{fr:Bool}{sp:ye}{T:TS}{D:DS}(F:DF K mg x st f fd ps)(S:xX N ps (xI st))(pe:∀ {cdv:Value} {A:Around} {outer:List Env} {s:Shared} {H:Hp} {E:XK},wW k (A.deeper (PyProof.Rows.envOfC x (xI st) s.heap.objs.size f cdv))->PSs (kQ CX0 P w K mg base N x (xI st) f cdv A outer s H E).nox (vo st) T)(ok:zM K fr T D)(rd:∀ts KK,ts.length=n->sp ts KK->D {nx:=λ_=>fr=false/\KK .non,rt:=KK} (startT N false ts))(hn:ps.length=n:=by rfl):xV P w K mg base (k+1) x ps (spT n false fr sp):=Hy F.1 S F.2 F.3 hn λ_ _ _ _ _ _ hr=>⟨T,D,pe hr,ok,rd⟩
section
variable (P:Program) (w:World) (K:xt) (mg:Str->Option Value) (base:Heap)
abbrev C2:=xV P w K mg base 1 "_law_cell_at" ["_law_script", "_law_k"] (TH K)
abbrev De:=xV P w K mg base 2 "_law_state" ["_law_script", "_law_k"] (Jt K)
abbrev DJ:=xV P w K mg base 1 "is_whole" ["thing"] (spT 1 false false HC)
abbrev oO:=xV P w K mg base 2 "are_whole" ["things"] (spT 1 false false Qm)
abbrev rO:=xV P w K mg base 1 "greatest_divisor" ["one", "other"] (spT 2 false false HA)
abbrev sL:=xV P w K mg base 2 "lowest" ["top", "bottom"] (spT 2 false false QW)
abbrev DX:=xV P w K mg base 3 "plus" ["one", "other"] (spT 2 false false Rg)
abbrev D6:=xV P w K mg base 3 "times" ["whole", "fraction"] (spT 2 false false Rn)
abbrev DW:=xV P w K mg base 3 "places_of" ["piece"] (spT 1 false true Rf)
abbrev DV:=xV P w K mg base 5 "piece_left" ["rows"] (spT 1 false false Rc)
abbrev oQ:=xV P w K mg base 6 "corners_left" ["rows"] (spT 1 false true Qs)
abbrev Dl:=xV P w K mg base 4 "cut_down" ["piece", "rows"] (spT 2 false false Qu)
abbrev Dn:=xV P w K mg base 3 "cut_piece" ["piece", "row"] (spT 2 false false Hz)
abbrev Dq:=xV P w K mg base 2 "from_least" ["piece"] (spT 1 false true Qx)
abbrev D_:=xV P w K mg base 2 "where_crossed" ["row", "one", "other"] (spT 3 false false Qt)
abbrev oP:=xV P w K mg base 1 "beyond" ["row", "corner"] (spT 2 false false Qp)
abbrev Dt:=xV P w K mg base 1 "is_ahead" ["one", "other"] (spT 2 false false Ql)
abbrev DC:=xV P w K mg base 3 "is_row" ["thing"] (spT 1 false false QF)
abbrev D8:=xV P w K mg base 4 "value" ["row", "place"] (spT 2 false false Rq)
abbrev DH:=xV P w K mg base 5 "is_tight" ["row", "place"] (spT 2 false false QG)
abbrev jN:=xV P w K mg base 1 "turn_to" ["one", "other"] (spT 2 false false Ro)
abbrev Dr:=xV P w K mg base 2 "furthest" ["first", "rows", "sign"] (spT 3 false false Qy)
abbrev DY:=xV P w K mg base 2 "points_back" ["first", "rows"] (spT 2 false false Qn)
abbrev Ds:=xV P w K mg base 3 "go_round" ["rows"] (spT 1 false false Qz)
abbrev DB:=xV P w K mg base 1 "is_near" ["place"] (spT 1 false false QE)
abbrev Dz:=xV P w K mg base 4 "is_field_row" ["thing"] (spT 1 false false QD)
abbrev Dy:=xV P w K mg base 7 "is_field" ["thing"] (spT 1 false false QC)
abbrev DL:=xV P w K mg base 8 "need_field" ["thing"] (spT 1 false false Q5)
abbrev Dk:=xV P w K mg base 9 "corners" ["field"] (spT 1 false true Qr)
abbrev D5:=xV P w K mg base 6 "tight_numbers" ["rows", "place"] (spT 2 false false Rm)
abbrev Dw:=xV P w K mg base 1 "is_broken" ["place"] (spT 1 false false QA)
abbrev Dj:=xV P w K mg base 10 "broken" ["field"] (spT 1 false true Qq)
abbrev oS:=xV P w K mg base 2 "need_turn" ["one", "other"] (spT 2 false false Q6)
abbrev Dx:=xV P w K mg base 3 "is_direction" ["thing"] (spT 1 false false QB)
abbrev DU:=xV P w K mg base 4 "parts" ["one", "other", "thing"] (spT 3 false false Rb)
abbrev D7:=xV P w K mg base 2 "undivided" ["direction"] (spT 1 false false Rp)
abbrev DN:=xV P w K mg base 2 "next_least" ["first", "last"] (spT 2 false false Q8)
abbrev DM:=xV P w K mg base 2 "next_behind" ["before", "here", "last"] (spT 3 false false Q7)
abbrev Di:=xV P w K mg base 3 "between" ["one", "other"] (spT 2 false true Qo)
abbrev DK:=xV P w K mg base 1 "makes_one" ["a", "b"] (spT 2 false false Q4)
abbrev Ea:=xV P w K mg base 2 "whole_sum" ["rows", "weights"] (spT 2 false false Rt)
abbrev D4:=xV P w K mg base 3 "sum_of" ["rows", "weights"] (spT 2 false false Rk)
abbrev Dm:=xV P w K mg base 1 "cut_of" ["totals"] (spT 1 false false Qv)
abbrev D0:=xV P w K mg base 3 "sides_among" ["rows", "numbers"] (spT 2 false true Ri)
abbrev D3:=xV P w K mg base 7 "sides_at" ["field", "place"] (spT 2 false false Rj)
abbrev DP:=xV P w K mg base 2 "next_to_the_left" ["rows", "numbers", "number"] (spT 3 false false Q9)
abbrev oR:=xV P w K mg base 1 "direction_of" ["row"] (spT 1 false false Qw)
abbrev D9:=xV P w K mg base 5 "weights_towards" ["field", "pair", "direction"] (spT 3 false false Rr)
abbrev DQ:=xV P w K mg base 4 "paper_of" ["field", "weights"] (spT 2 false false Q_)
abbrev DR:=xV P w K mg base 8 "papers_at" ["field", "place"] (spT 2 false true Ra)
abbrev DZ:=xV P w K mg base 11 "round_papers" ["field"] (spT 1 false true Rh)
abbrev C6:=xV P w K mg base 2 "_law_field" ["_law_state_here"] (spT 0 true false QN)
abbrev oG:=xV P w K mg base 1 "_law_divisor" ["_law_one", "_law_other"] (spT 2 false false HA)
abbrev fL:=xV P w K mg base 2 "_law_low" ["_law_top", "_law_bottom"] (spT 2 false false QT)
abbrev C4:=xV P w K mg base 3 "_law_crossing" ["_law_one", "_law_other"] (spT 2 false false QK)
abbrev oM:=xV P w K mg base 3 "_law_value" ["_law_row", "_law_place"] (spT 2 false false Q2)
abbrev oH:=xV P w K mg base 4 "_law_keeps" ["_law_row", "_law_place"] (spT 2 false false QQ)
abbrev C_:=xV P w K mg base 1 "_law_less" ["_law_one", "_law_other"] (spT 2 false false QS)
abbrev oI:=xV P w K mg base 3 "_law_minus" ["_law_one", "_law_other"] (spT 2 false false QU)
abbrev nE:=xV P w K mg base 3 "_law_times" ["_law_one", "_law_other"] (spT 2 false false Q1)
abbrev C3:=xV P w K mg base 4 "_law_cross" ["_law_one", "_law_other", "_law_third"] (spT 3 false false QJ)
abbrev C1:=xV P w K mg base 5 "_law_all_left" ["_law_here", "_law_place", "_law_some"] (spT 3 false false HB)
abbrev oK:=xV P w K mg base 6 "_law_ring" ["_law_places"] (spT 1 false false QY)
abbrev nB:=xV P w K mg base 7 "_law_corners" ["_law_rows"] (spT 1 false false QI)
abbrev oJ:=xV P w K mg base 3 "_law_plus" ["_law_one", "_law_other"] (spT 2 false false QX)
abbrev Df:=xV P w K mg base 4 "_law_summed" ["_law_rows", "_law_weights"] (spT 2 false false Q0)
abbrev C5:=xV P w K mg base 5 "_law_cut" ["_law_rows", "_law_weights"] (spT 2 false false QL)
abbrev Dg:=xV P w K mg base 1 "_law_whole" ["_law_thing"] (spT 1 false false HC)
abbrev C7:=xV P w K mg base 2 "_law_is_fraction" ["_law_thing"] (spT 1 false false QO)
abbrev Dh:=xV P w K mg base 1 "_law_whole_left" ["_law_rows", "_law_places"] (spT 2 false false Q3)
abbrev C0:=xV P w K mg base 1 "_law_all_cuts" ["_law_rows"] (spT 1 false true QM)
abbrev Dc:=xV P w K mg base 3 "_law_over" ["_law_one", "_law_other"] (spT 2 false false QV)
abbrev oF:=xV P w K mg base 7 "_law_clipped" ["_law_places", "_law_row"] (spT 2 false false QH)
abbrev Dd:=xV P w K mg base 8 "_law_round" ["_law_rows"] (spT 1 false false QZ)
abbrev C9:=xV P w K mg base 8 "_law_left" ["_law_field_here", "_law_papers"] (spT 2 false false QR)
abbrev C8:=xV P w K mg base 6 "_law_is_paper" ["_law_field_here", "_law_thing"] (spT 2 false false QP)
end
def top (i:Nat):Stmt:=PySem.Challenge.pw_roundcuts_k17_papers_of_a_round.main.body.getD i (.Pass ⟨0,0,0,0⟩)
abbrev Ba:Stmt:=top 6
abbrev cT:Stmt:=top 7
abbrev A4:Stmt:=top 8
abbrev Bb:Stmt:=top 9
abbrev Bo:Stmt:=top 10
abbrev Bu:Stmt:=top 11
abbrev AS:Stmt:=top 14
abbrev Bn:Stmt:=top 15
abbrev AU:Stmt:=top 16
abbrev cW:Stmt:=top 17
abbrev AW:Stmt:=top 18
abbrev AQ:Stmt:=top 19
abbrev cZ:Stmt:=top 20
abbrev AY:Stmt:=top 21
abbrev A5:Stmt:=top 22
abbrev A9:Stmt:=top 24
abbrev Bz:Stmt:=top 25
abbrev A_:Stmt:=top 26
abbrev Bv:Stmt:=top 27
abbrev A3:Stmt:=top 28
abbrev AZ:Stmt:=top 29
abbrev Bp:Stmt:=top 30
abbrev mh:Stmt:=top 32
abbrev A8:Stmt:=top 33
abbrev cV:Stmt:=top 34
abbrev Be:Stmt:=top 35
abbrev AR:Stmt:=top 37
abbrev cY:Stmt:=top 38
abbrev cU:Stmt:=top 39
abbrev A6:Stmt:=top 40
abbrev Bm:Stmt:=top 42
abbrev Bf:Stmt:=top 43
abbrev A7:Stmt:=top 44
abbrev AO:Stmt:=top 45
abbrev By:Stmt:=top 46
abbrev Bh:Stmt:=top 47
abbrev Bg:Stmt:=top 48
abbrev Bc:Stmt:=top 49
abbrev Bs:Stmt:=top 51
abbrev Br:Stmt:=top 52
abbrev Bi:Stmt:=top 53
abbrev AX:Stmt:=top 54
abbrev BA:Stmt:=top 55
abbrev cX:Stmt:=top 57
abbrev mo:Stmt:=top 58
abbrev AV:Stmt:=top 59
abbrev Bj:Stmt:=top 60
abbrev Bq:Stmt:=top 62
abbrev Bl:Stmt:=top 63
abbrev Ar:Stmt:=top 65
abbrev AI:Stmt:=top 66
abbrev AK:Stmt:=top 67
abbrev mf:Stmt:=top 68
abbrev Ax:Stmt:=top 69
abbrev AD:Stmt:=top 70
abbrev Au:Stmt:=top 71
abbrev AM:Stmt:=top 72
abbrev Az:Stmt:=top 73
abbrev AB:Stmt:=top 74
abbrev AE:Stmt:=top 75
abbrev AL:Stmt:=top 76
abbrev As:Stmt:=top 77
abbrev aP:Stmt:=top 78
abbrev cP:Stmt:=top 79
abbrev cR:Stmt:=top 80
abbrev Aq:Stmt:=top 81
abbrev AG:Stmt:=top 82
abbrev AF:Stmt:=top 83
abbrev cQ:Stmt:=top 84
abbrev AH:Stmt:=top 85
abbrev AJ:Stmt:=top 86
abbrev Aw:Stmt:=top 87
abbrev AN:Stmt:=top 88
abbrev Ay:Stmt:=top 89
abbrev aQ:Stmt:=top 90
abbrev cS:Stmt:=top 91
abbrev AA:Stmt:=top 92
abbrev kH:Stmt:=top 93
def S6:xX ["thing"] ["thing"] (xI Ba):=yh
def SM:xX ["things"] ["things"] (xI cT):=yh
def BG:xX ["one", "other"] ["one", "other"] (xI A4):=yh
def Jh:xX ["top", "bottom", "shared"] ["top", "bottom"] (xI Bb):=yh
def Tc:xX ["one", "other"] ["one", "other"] (xI Bo):=yh
def Tf:xX ["whole", "fraction"] ["whole", "fraction"] (xI Bu):=yh
def SQ:xX ["rows"] ["rows"] (xI AS):=yh
def Ta:xX ["rows"] ["rows"] (xI Bn):=yh
def BF:xX ["piece", "rows", "row"] ["piece", "rows"] (xI AU):=yh
def Tb:xX ["piece"] ["piece"] (xI cW):=yh
def aS:xX ["piece", "row", "left", "at", "corner", "before", "crossing"] ["piece", "row"] (xI AW):=yh
def dQ:xX ["row", "corner", "a", "b", "c", "x", "y", "bottom"] ["row", "corner"] (xI AQ):=yh
def dS:xX ["row", "one", "other", "one_off", "other_off", "x", "y", "bottom", "shared"] ["row", "one", "other"] (xI cZ):=yh
def my:xX ["piece", "start", "at", "corner"] ["piece"] (xI AY):=yh
def SS:xX ["one", "other"] ["one", "other"] (xI A5):=yh
def SY:xX ["thing"] ["thing"] (xI A9):=yh
def Th:xX ["row", "place"] ["row", "place"] (xI Bz):=yh
def BI:xX ["row", "place", "top", "bottom"] ["row", "place"] (xI A_):=yh
def Tg:xX ["one", "other"] ["one", "other"] (xI Bv):=yh
def pB:xX ["rows", "first", "left", "right"] ["rows"] (xI A3):=yh
def pA:xX ["first", "rows", "sign", "last", "row"] ["first", "rows", "sign"] (xI AZ):=yh
def Jk:xX ["first", "rows", "row"] ["first", "rows"] (xI Bp):=yh
def SV:xX ["thing"] ["thing"] (xI mh):=yh
def pC:xX ["thing", "a", "b", "c"] ["thing"] (xI A8):=yh
def SW:xX ["place"] ["place"] (xI cV):=yh
def S9:xX ["thing"] ["thing"] (xI Be):=yh
def SO:xX ["field"] ["field"] (xI AR):=yh
def Te:xX ["rows", "place"] ["rows", "place"] (xI cY):=yh
def SN:xX ["field"] ["field"] (xI cU):=yh
def BH:xX ["place", "x", "y"] ["place"] (xI A6):=yh
def BJ:xX ["one", "other", "thing", "turn", "of_one", "of_other"] ["one", "other", "thing"] (xI Bm):=yh
def Ji:xX ["one", "other", "turn"] ["one", "other"] (xI Bf):=yh
def SU:xX ["thing"] ["thing"] (xI A7):=yh
def BE:xX ["one", "other", "first", "last", "found"] ["one", "other"] (xI AO):=yh
def pH:xX ["direction", "a", "b", "shared"] ["direction"] (xI By):=yh
def aT:xX ["first", "last", "a", "b", "p", "q", "back"] ["first", "last"] (xI Bh):=yh
def Jj:xX ["before", "here", "last", "many"] ["before", "here", "last"] (xI Bg):=yh
def dR:xX ["a", "b", "here", "p", "q", "ahead", "next_p", "next_q", "many"] ["a", "b"] (xI Bc):=yh
def Td:xX ["field", "place"] ["field", "place"] (xI Bs):=yh
def pG:xX ["rows", "numbers", "pairs", "number", "beside"] ["rows", "numbers"] (xI Br):=yh
def pE:xX ["rows", "numbers", "number", "nearest", "other"] ["rows", "numbers", "number"] (xI Bi):=yh
def SR:xX ["row"] ["row"] (xI AX):=yh
def mz:xX ["field", "pair", "direction", "one", "other", "shares", "weights"] ["field", "pair", "direction"] (xI BA):=yh
def BK:xX ["rows", "weights", "tops", "bottom"] ["rows", "weights"] (xI cX):=yh
def k9:xX ["rows", "weights", "used", "bottom", "row", "weight", "tops", "many"] ["rows", "weights"] (xI mo):=yh
def pq:xX ["totals", "a", "b", "c"] ["totals"] (xI AV):=yh
def S_:xX ["field", "weights"] ["field", "weights"] (xI Bj):=yh
def pF:xX ["field", "papers", "place", "paper"] ["field"] (xI Bq):=yh
def aU:xX ["field", "place", "papers", "pair", "one", "other", "direction"] ["field", "place"] (xI Bl):=yh
def Sz:xX ["_law_script", "_law_k"] ["_law_script", "_law_k"] (xI Ar):=yh
def Jg:xX ["_law_script", "_law_k", "_law_cell"] ["_law_script", "_law_k"] (xI AI):=yh
def c_:xX ["_law_state_here", "_law_many", "_law_found", "_law_stirred"] ["_law_state_here", "_law_many"] (xI AK):=yh
def vv:xX ["_law_state_here", "_law_way", "_law_rows", "_law_a", "_law_b", "_law_by", "_law_turn", "_law_near", "_law_k", "_law_some", "_law_u", "_law_v"] ["_law_state_here"] (xI mf):=yh
def Je:xX ["_law_one", "_law_other"] ["_law_one", "_law_other"] (xI Ax):=yh
def BC:xX ["_law_top", "_law_bottom", "_law_by"] ["_law_top", "_law_bottom"] (xI AD):=yh
def BB:xX ["_law_one", "_law_other", "_law_by", "_law_x"] ["_law_one", "_law_other"] (xI Au):=yh
def BD:xX ["_law_row", "_law_place", "_law_x", "_law_y"] ["_law_row", "_law_place"] (xI AM):=yh
def Jf:xX ["_law_row", "_law_place", "_law_here"] ["_law_row", "_law_place"] (xI Az):=yh
def SF:xX ["_law_one", "_law_other"] ["_law_one", "_law_other"] (xI AB):=yh
def SG:xX ["_law_one", "_law_other"] ["_law_one", "_law_other"] (xI AE):=yh
def SJ:xX ["_law_one", "_law_other"] ["_law_one", "_law_other"] (xI AL):=yh
def Jd:xX ["_law_one", "_law_other", "_law_third", "_law_first"] ["_law_one", "_law_other", "_law_third"] (xI As):=yh
def h_:xX ["_law_places", "_law_some", "_law_place", "_law_ahead", "_law_found", "_law_k", "_law_here"] ["_law_places"] (xI aP):=yh
def Sy:xX ["_law_here", "_law_place", "_law_some"] ["_law_here", "_law_place", "_law_some"] (xI cP):=yh
def mq:xX ["_law_rows", "_law_found", "_law_at", "_law_other", "_law_place"] ["_law_rows"] (xI cR):=yh
def qG:xX ["_law_rows", "_law_found", "_law_at", "_law_a", "_law_b", "_law_c", "_law_d", "_law_e", "_law_f", "_law_by", "_law_p", "_law_q", "_law_u", "_law_v"] ["_law_rows"] (xI Aq):=yh
def SI:xX ["_law_one", "_law_other"] ["_law_one", "_law_other"] (xI AG):=yh
def SH:xX ["_law_one", "_law_other"] ["_law_one", "_law_other"] (xI AF):=yh
def fc:xX ["_law_places", "_law_row", "_law_found", "_law_at", "_law_one", "_law_other", "_law_here", "_law_there", "_law_share", "_law_x"] ["_law_places", "_law_row"] (xI cQ):=yh
def c9:xX ["_law_rows", "_law_places", "_law_row"] ["_law_rows"] (xI AH):=yh
def mw:xX ["_law_rows", "_law_weights", "_law_found", "_law_row", "_law_weight", "_law_at"] ["_law_rows", "_law_weights"] (xI AJ):=yh
def c7:xX ["_law_rows", "_law_weights", "_law_a", "_law_b", "_law_c"] ["_law_rows", "_law_weights"] (xI Aw):=yh
def SK:xX ["_law_thing"] ["_law_thing"] (xI AN):=yh
def SD:xX ["_law_thing"] ["_law_thing"] (xI Ay):=yh
def aR:xX ["_law_rows", "_law_places", "_law_lows", "_law_highs", "_law_found", "_law_x", "_law_y"] ["_law_rows", "_law_places"] (xI aQ):=yh
def SE:xX ["_law_field_here", "_law_thing"] ["_law_field_here", "_law_thing"] (xI cS):=yh
def mr:xX ["_law_field_here", "_law_papers", "_law_places", "_law_weights", "_law_row"] ["_law_field_here", "_law_papers"] (xI AA):=yh
def fg:xX ["_law_script", "_law_k", "_law_state_here", "_law_field_here", "_law_papers", "_law_due", "_law_x", "_law_y"] ["_law_script"] (xI kH):=yh
abbrev bn:List Str:=["len", "range", "max", "min", "abs", "isinstance", "tuple", "list", "int", "bool", "str", "dict", "all", "zip", "enumerate", "ValueError"]
section
variable (P:Program) (w:World) {K:xt} {mg:Str->Option Value} (base:Heap) {f:Addr} {fd:FuncData}
def Ov (B:yd mg bn)(D:DF K mg "_law_cell_at" Ar f fd ["_law_script", "_law_k"]):C2 P w K mg base:=by
 refine t4 D.1 Sz D.2 D.3 (λvs H Q E h=>?_) (λcdv A outer s H vs Q E hr h=>?_)
 .obtain⟨a,ns,k,rfl,_⟩:=h;rfl
 obtain⟨a,ns,k,rfl,hS,h63,h0,q⟩:=h;refine⟨_,(xw (yP (yz Hu (pv 1) (yT (uZ K) rfl (B.get "len") uY (y4 (pv 0) uf)) (yc _)) (xy (xQ (y8 (gR K) (pv 0) (pv 1) (λ_ _=>rfl)))) yQ) (xy (xQ xm))),?_⟩
 refine⟨_,rfl,_,rfl,a,_,rfl,.inl hS,_,_,rfl,rfl,_,rfl,?_⟩;have hl:(ns.map V.int).length=ns.length:=xO _;refine Gv (λc=>?_) (λc=>?_)
 .have c':=yV c;rw[hl] at c';obtain⟨v,hv⟩:=K9 h0 c';exact⟨_,rfl,_,rfl,a,_,_,_,rfl,rfl,hS,hv,q v⟩
 .exact q 0
def OO (F:Fun K "_law_state" "_law_state" AI f fd)(m:mg "_law_state" = some (.ref f))(b:Binds K fd ["_law_script", "_law_k"] [])(iu:C2 P w K mg base) :
  De P w K mg base:=by
 refine t4 F Jg m b (λvs H Q E h=>?_) (λcdv A outer s H vs Q E hr h=>?_)
 .obtain⟨a,ns,k,rfl,_⟩:=h;rfl
 obtain⟨a,ns,k,rfl,hS,h63,h0,q⟩:=h;refine⟨_,(xw (kE (i:=2) Jg.nd rfl (Or.inl rfl) (xA iu hr (y4 (pv 0) (y4 (pv 1) uf)))) (xw (yP (yz Ht (pv 2) (xr Hv xm xm) (yc _)) (xy (xQ (wk (y4 (xr wj (pv 2) (xr Hv xm xm)) (y4 uH uf))))) yQ) (xy (xQ (wk (y4 (xr aI (pv 2) xm) (y4 uH uf))))))),?_⟩
 refine⟨_,rfl,_,rfl,a,ns,k,rfl,hS,h63,h0,λn=>?_⟩;have pw:CU 10 18:=⟨by decide,by decide,by decide⟩
 refine⟨_,rfl,_,_,rfl,rfl,pw,_,_,rfl,rfl,_,rfl,?_⟩;refine Gv (λc=>?_) (λc=>?_)
 .have c':n>=10^(18:Int).toNat:=yV c;refine⟨_,rfl,_,_,rfl,rfl,pw,_,_,rfl,rfl,(by show 2<=sizeLine;decide),λp hp=>q p _ _ hp ⟨?_,λz=>by cases z⟩⟩;show 0<=n-10^(18:Int).toNat;lia
 .refine⟨_,rfl,_,_,rfl,rfl,(by show(0:Int)<2147483647;decide),(by show 2<=sizeLine;decide),λp hp=>q p _ _ hp ⟨?_,λ_=>?_⟩⟩
  .show 0<=n%2147483647;lia
  .show n%2147483647<2147483647;lia
theorem OQ (F:Fun K "_law_take" "_law_take" AK f fd)(m:mg "_law_take" = some (.ref f))(b:Binds K fd ["_law_state_here", "_law_many"] []):xV P w K mg base 1 "_law_take" ["_law_state_here", "_law_many"] Ju:=by
 refine t4 F c_ m b (λvs H Q E h=>?_) (λcdv A outer s H vs Q E hr h=>?_)
 .obtain⟨p,k,rfl,_⟩:=h;rfl
 obtain⟨p,many,rfl,⟨n,bb,hp,hn,hb⟩,h0,h1,q⟩:=h;refine⟨_,(xw (yP (wC (y8 (gR K) (pv 0) xm (λ_ _=>rfl))) (xw (kE (i:=2) c_.nd rfl (Or.inl rfl) (xr aI (y8 (gR K) (pv 0) xm (λ_ _=>rfl)) (pv 1))) (xw (uy (xr Hs (y8 (gR K) (pv 0) xm (λ_ _=>rfl)) (pv 1)) (t7 (pv 0) xm set_list)) (xy (xQ (pv 2))))) yQ) (xw (uy (xr aI (xr ud (xr tX (y8 (gR K) (pv 0) xm (λ_ _=>rfl)) xm) xm) xm) (t7 (pv 0) xm set_list)) (xw (kE (i:=3) c_.nd rfl (Or.inl rfl) (xr aI (xr ud (xr ud (xr tX (y8 (gR K) (pv 0) xm (λ_ _=>rfl)) (y8 (gR K) (pv 0) xm (λ_ _=>rfl))) (xr tX xm (y8 (gR K) (pv 0) xm (λ_ _=>rfl)))) xm) xm)) (xw (kE (i:=3) c_.nd rfl (Or.inl rfl) (xr aI (xr ud (xr tX (pv 3) (pv 3)) (xr tX xm (pv 3))) xm)) (xy (xQ (xr aI (xr Hs (pv 3) xm) (pv 1)))))))),?_⟩
 refine⟨_,rfl,p,_,_,_,rfl,rfl,yt.of hp,rfl,bb,rfl,?_⟩;have fin:∀(r n':Int),0<=r->r<many->oE n' bb->Q (.int r) (upd H p (.lst [.int n',.bl bb])):=λr n' h2 h3 h4=>q r _ h2 h3 ⟨λb o hb k=>by rw[yl hb];exact k,n',bb,zA,h4⟩;cases bb with
 |true=>refine kR ?_;refine⟨_,rfl,p,_,_,_,rfl,rfl,yt.of hp,rfl,_,rfl,_,_,rfl,rfl,h0,?_⟩;refine⟨_,rfl,p,_,_,_,rfl,rfl,yt.of hp,rfl,_,rfl,_,_,rfl,rfl,Ex h0 h1,?_⟩;refine⟨_,rfl,p,_,_,0,rfl,rfl,hp,rfl,?_⟩;refine⟨_,rfl,?_⟩;exact fin _ _ (dX _ (by lia)) (rj _ h0) ⟨B_ hn (by lia),λz=>by cases z⟩
 |false=>
  refine qd ?_;have hb':=hb rfl;have cm:∀(i j:Int),0<=i->i<2147483700->m_ i j:=λi j a b=>.inl ⟨by lia,by lia⟩;refine⟨_,rfl,p,_,_,_,rfl,rfl,yt.of hp,rfl,_,_,rfl,rfl,cm _ _ hn (by lia),_,_,rfl,rfl,_,_,rfl,rfl,(by show(0:Int)<2147483647;decide),?_⟩;refine⟨_,rfl,p,_,_,0,rfl,rfl,hp,rfl,?_⟩;have hz:∃z:Int,(n*48271+29)%2147483647=z/\0<=z/\z<2147483647:=⟨_,rfl,by lia,by lia⟩
  obtain⟨z,ez,z0,z1⟩:=hz;have hp':(upd H p (.lst [.int z,.bl false])) p=some (.lst [.int z,.bl false]):=zA;show pN _ _ _ _ (upd H p (.lst [.int ((n*48271+29)%2147483647),.bl false]));rw[ez];refine⟨_,rfl,p,_,_,_,rfl,rfl,yt.of hp',rfl,_,rfl,p,_,_,_,rfl,rfl,yt.of hp',rfl,_,_,rfl,rfl,cm _ _ z0 (by lia),?_⟩;refine⟨_,rfl,p,_,_,_,rfl,rfl,yt.of hp',rfl,_,_,rfl,rfl,.inl ⟨by decide,by decide⟩,_,_,rfl,rfl,_,_,rfl,rfl,_,_,rfl,rfl,(by show(0:Int)<2147483629;decide),?_⟩;have hy:∃y:Int,(z*z+39373*z+7)%2147483629=y/\0<=y/\y<2147483629:=⟨_,rfl,dX _ (by decide),rj _ (by decide)⟩
  obtain⟨y,ey,y0,y1⟩:=hy;show pN _ _ _ [_,_,_,some (.int ((z*z+39373*z+7)%2147483629))] _;rw[ey];refine⟨_,rfl,_,rfl,_,_,rfl,rfl,cm _ _ y0 (by lia),_,rfl,_,_,rfl,rfl,.inl ⟨by decide,by decide⟩,_,_,rfl,rfl,_,_,rfl,rfl,(by show(0:Int)<2147483587;decide),?_⟩;refine⟨_,rfl,_,_,rfl,rfl,Ex (by decide) (by decide),_,rfl,_,_,rfl,rfl,h0,?_⟩;exact fin _ _ (dX _ (by lia)) (rj _ h0) ⟨z0,λ_=>z1⟩
end
section
variable (P:Program) (w:World) {K:xt} {mg:Str->Option Value} (base:Heap) {f:Addr} {fd:FuncData}
def Pj (B:yd mg bn)(D:DF K mg "is_whole" Ba f fd ["thing"])  :
  DJ P w K mg base:=by
 refine yq D S6 (λhr=>(xy (xQ (aJ (yT qW rfl (B.get "isinstance") qU (xk (pv 0) (kD (v:=V.ty "int") rfl (B.get "int") Ep rfl))) (hU (HN (yT qW rfl (B.get "isinstance") qU (xk (pv 0) (kD (v:=V.ty "bool") rfl (B.get "bool") Eo rfl)))))))))
  (xY (aF (ko xc) (Hg (ko xc)))) λts KK hl h=>?_
 obtain⟨t,rfl,k⟩:=h;cases t<;>exact k
def OV (B:yd mg bn)(D:DF K mg "are_whole" cT f fd ["things"])(iY:DJ P w K mg base) :
  oO P w K mg base:=by
 refine yq D SM (λhr=>(xy (xQ (yT (nJ K rfl) rfl (B.get "all") nG (xP (uR (wJ (N:=["thing"]) (xE:=[none]) (XN:=["things"]) (xs:=xI cT) (by decide +kernel) rfl rfl) rfl (vp rfl) (zh K (pv 0)) (λ_ _ _ _=>(yU (i:=0) (show(["thing"]:List Str).Nodup by decide +kernel) rfl (Or.inl rfl))) (λ_ _ _ _=>qj) (λ_ _ _ _=>(xA iY hr (xP (pv 0))))))))))
  (xY (zO nK (xR (zp.e (wy (zH xc).c xM qg (xF (xR xc))))))) λts KK hl h=>?_
 obtain⟨t,rfl,us,hs,hz,k⟩:=h;rcases hs with rfl|rfl
 .refine⟨hz,sP (λx=>.bl (ah x)) (λx _ N hN=>⟨x,rfl,hN⟩) ⟨us.map ah,by rw[vy];rfl,?_⟩⟩;simpa using k
 .refine⟨hz,sP (λx=>.bl (ah x)) (λx _ N hN=>⟨x,rfl,hN⟩) ⟨us.map ah,by rw[vy];rfl,?_⟩⟩;simpa using k
def O_ (B:yd mg bn)(D:DF K mg "greatest_divisor" A4 f fd ["one", "other"])  :
  rO P w K mg base:=by
 refine yq D BG (λhr=>(xw (kZ (i:=0) (j:=1) rfl BG.nd rfl rfl (by decide) rfl rfl (xk (yT jn rfl (B.get "abs") jk (xP (pv 0))) (yT jn rfl (B.get "abs") jk (xP (pv 1)))) (by rfl))
  (xw (cG zS (yz (wA hr.units) (pv 1) xm (yc _)) (xy (kZ (i:=0) (j:=1) rfl BG.nd rfl rfl (by decide) rfl rfl (xk (pv 1) (xr cA (pv 0) (pv 1))) (by rfl))))
  (xy (xQ (pv 0))))))
  (xD (kX (xo (zO jq (xR xc)) (zO jq (xR xc)))) (xD (cj (yB (xl wB xc xq)) (kX (xo xc (xl cB xc xc)))) (xY xc))) λts KK hl h=>?_
 obtain⟨a,c,rfl,k⟩:=h;refine pR (λn τ=>∃x y:Int,τ=[.fz (.int x),.fz (.int y)]/\0<=x/\0<=y/\n=y.toNat/\Int.gcd x y=Int.gcd a c) c.natAbs ⟨_,_,rfl,by split<;>lia,by split<;>lia,by split<;>lia,?_⟩ ?_
 .have e1:(if a<0 then -a else a)=(a.natAbs:Int):=by split<;>lia
  have e2:(if c<0 then -c else c)=(c.natAbs:Int):=by split<;>lia
  rw[e1,e2];simp[Int.gcd]
 .rintro n τ N ⟨x,y,rfl,hx,hy,rfl,hg⟩ hN;refine yi (b:=!decide (y=0)) (λc0=>?_) (λc0=>?_)
  .have c0:y≠0:=by simpa using c0
   have e:x.fmod y=x%y:=FP hy;have l:=rj x (show 0<y by lia);have l0:=dX x c0;refine⟨c0,hN (x%y).toNat _ (by lia) ⟨_,_,rfl,hy,by rw[e];exact l0,by rw[e],?_⟩⟩;rw[e,<-hg,MV hx hy]
  .have c0:y=0:=by simpa using c0
   subst c0;have:(Int.gcd a c:Int)=x:=by rw[<-hg];simp[Int.gcd];lia
   exact this▸k
def Pn (B:yd mg bn)(D:DF K mg "lowest" Bb f fd ["top", "bottom"])(qB:rO P w K mg base) :
  sL P w K mg base:=by
 refine yq D Jh (λhr=>(xw (yC 2 Jh.nd (xA qB hr (xk (pv 0) (pv 1)))) (xy (xQ (yG (xk (xr uF (pv 0) (pv 2)) (xr uF (pv 1) (pv 2))))))))
  (xD (yE (xF (xo xc xc))) (xY (yF (b:=true) (xo (xl uG xc xc) (xl uG xc xc))))) λts KK hl h=>?_
 obtain⟨t,bo,rfl,hb,bd,k⟩:=h;have gp:(0:Int)<(Int.gcd t bo:Int):=by have:=mJ t hb;lia
 have gb:=oX (t:=t) hb bd;refine⟨t,bo,rfl,⟨by lia,gb⟩,⟨by lia,gb⟩,?_⟩;show KK (.tup [.int (t.fdiv (Int.gcd t bo)),.int (bo.fdiv (Int.gcd t bo))]);rw[qb (by lia),qb (by lia)];exact k
def PD (B:yd mg bn)(D:DF K mg "plus" Bo f fd ["one", "other"])(vD:sL P w K mg base) :
  DX P w K mg base:=by
 refine yq D Tc (λhr=>(xy (xQ (xA vD hr (xk (xr ud (xr yr (xC K 0) (xC K 1)) (xr yr (xC K 1) (xC K 0))) (xr yr (xC K 0) (xC K 1)))))))
  (xY (xF (xo (xl vt (xl yu xB xB) (xl yu xB xB)) (xl yu xB xB)))) λts KK hl h=>?_
 obtain⟨f,g,rfl,hf,hg,k⟩:=h;have z:=Pol.pp hf.pos hg.pos;refine⟨⟨hf.top.bd,hg.bot.bd⟩,⟨hg.top.bd,hf.bot.bd⟩,⟨hf.bot.bd,hg.bot.bd⟩,_,_,rfl,by lia,(hf.bot.mul hg.bot).bd,?_⟩;rw[GQ z];exact k
def PQ (B:yd mg bn)(D:DF K mg "times" Bu f fd ["whole", "fraction"])(vD:sL P w K mg base) :
  D6 P w K mg base:=by
 refine yq D Tf (λhr=>(xy (xQ (xA vD hr (xk (xr yr (pv 0) (xC K 1)) (xC K 1))))))
  (xY (xF (xo (xl yu xc xB) xB))) λts KK hl h=>?_
 obtain⟨w,f,rfl,hw,hf,k⟩:=h;exact⟨⟨hw.bd,hf.top.bd⟩,_,_,rfl,by have:=hf.pos;lia,hf.bot.bd,k⟩
def O2 (B:yd mg bn)(D:DF K mg "corners_left" AS f fd ["rows"])(ee:DW P w K mg base)(i_:DV P w K mg base) :
  oQ P w K mg base:=by
 refine yq D SQ (λhr=>(xy (xQ (xA ee hr (xP (xA i_ hr (xP (pv 0))))))))
  (dB (eL (xR (xF (xR xc))))) λts KK hl h=>?_
 obtain⟨t,xa,rfl,ht,hr,k⟩:=h;have sm:=hr.small xa.length;have pl:=hr.plen xa.length;rw[uK (yg _)] at sm pl;exact⟨t,xa,rfl,ht,hr,_,rfl,sm,pl,k⟩
def Pz (B:yd mg bn)(D:DF K mg "piece_left" Bn f fd ["rows"]){t_FAR:Tok}(jx:mg "FAR" = some (.int 60001 t_FAR))(iL:Dl P w K mg base) :
  DV P w K mg base:=by
 refine yq D Ta (λhr=>(xy (xQ (xA iL hr (xk (wk (y4 (yG (y4 (wO wQ (gX (v:=V.int 60001) rfl jx ⟨_,rfl⟩)) (xk (wO wQ (gX (v:=V.int 60001) rfl jx ⟨_,rfl⟩)) xm))) (y4 (yG (y4 (gX (v:=V.int 60001) rfl jx ⟨_,rfl⟩) (xk (wO wQ (gX (v:=V.int 60001) rfl jx ⟨_,rfl⟩)) xm))) (xk (yG (y4 (gX (v:=V.int 60001) rfl jx ⟨_,rfl⟩) (xk (gX (v:=V.int 60001) rfl jx ⟨_,rfl⟩) xm))) (yG (y4 (wO wQ (gX (v:=V.int 60001) rfl jx ⟨_,rfl⟩)) (xk (gX (v:=V.int 60001) rfl jx ⟨_,rfl⟩) xm))))))) (pv 0))))))
  (xY (xF (xo (vO (b:=true) (zw (yF (b:=true) (zw (wN xq) (xo (wN xq) xq))) (zw (yF (b:=true) (zw xq (xo (wN xq) xq))) (xo (yF (b:=true) (zw xq (xo xq xq))) (yF (b:=true) (zw (wN xq) (xo xq xq))))))) xc))) λts KK hl h=>?_
 obtain⟨t,xa,rfl,ht,hr,k⟩:=h;exact⟨t,[],xa,rfl,ht,hr,k⟩
def O3 (B:yd mg bn)(D:DF K mg "cut_down" AU f fd ["piece", "rows"])(iN:Dn P w K mg base) :
  Dl P w K mg base:=by
 refine yq D BF (λhr=>(xw (zX zS rfl (zh K (pv 1)) (ym 2 BF.nd) (xy (yC 0 BF.nd (xA iN hr (xk (pv 0) (pv 2)))))) (xy (xQ (pv 0)))))
  (xD (zW (zH xc) xM.g (yE (xF (xo xc xc)))) (xY xc)) λts KK hl h=>?_
 obtain⟨t,r0,xa,rfl,ht,hr,k⟩:=h;have tk:∀i,((r0++xa).take (r0.length+i)).foldl uL box=(xa.take i).foldl uL (pieces r0):=λi=>by rw[List.take_append,uK (by lia),show r0.length+i-r0.length=i by lia,se];rfl
 have main:jv (eName 2) (cO 0 (nU Hz (qY (wL 0) (qY (wL 2) js)))) {nx:=cN (wL 0) {nx:=λx=>false=false/\KK Tr.non,rt:=KK},rt:=KK} (xa.map xh) [.fz (.lst ((pieces r0).map xh)),.fz t,.un]:=by
  refine u5 (λi τ=>∃x2,τ=[.fz (.lst (((xa.take i).foldl uL (pieces r0)).map xh)),.fz t,x2]) ⟨_,rfl⟩ ?_ ?_
  .rintro i x τ N hx ⟨x2,rfl⟩ hN;obtain⟨r,hri,rfl⟩:=u9 hx;rw[bz _ _ hri] at hN;have sm:=hr.small (r0.length+i);have pl:=hr.plen (r0.length+i);rw[tk] at sm pl;exact⟨_,r,rfl,hr.sm r (zY _ (zG hri)),sm,pl,hN _ ⟨_,rfl⟩⟩
  .rintro τ ⟨x2,rfl⟩;rw[xO,uK (yg _)];unfold pieces at k ⊢;rw[se] at k;exact k
 rcases ht with rfl|rfl<;>exact main
def PB (B:yd mg bn)(D:DF K mg "places_of" cW f fd ["piece"])(vD:sL P w K mg base)(iO:Dq P w K mg base) :
  DW P w K mg base:=by
 refine yq D Tb (λhr=>(xy (xQ (uR (wJ (N:=["x", "y", "bottom"]) (xE:=[none,none,none]) (XN:=["piece"]) (xs:=xI cW) (by decide +kernel) rfl rfl) rfl (jU (uM rfl (uM rfl (uM rfl jV)))) (zh K (xA iO hr (xP (pv 0)))) (λ_ _ _ _=>(zJ K (n:=3) rfl (xZ (yU (i:=0) (show(["x", "y", "bottom"]:List Str).Nodup by decide +kernel) rfl (Or.inl rfl)) (xZ (yU (i:=1) (show(["x", "y", "bottom"]:List Str).Nodup by decide +kernel) rfl (Or.inl rfl)) (xZ (yU (i:=2) (show(["x", "y", "bottom"]:List Str).Nodup by decide +kernel) rfl (Or.inl rfl)) zE))))) (λ_ _ _ _=>qj) (λ_ _ _ _=>(yG (xk (xA vD hr (xk (pv 0) (pv 2))) (xA vD hr (xk (pv 1) (pv 2))))))))))
  (dB (wy (zH (xF (xR xc))).c (zP (yb xM (yb xM (yb xM zI)))) qg (yF (b:=true) (xo (xF (xo xc xc)) (xF (xo xc xc)))))) λts KK hl h=>?_
 obtain⟨l,rfl,sm,pl,k⟩:=h;refine⟨l,rfl,λv hv=>(sm v hv).1.b3,pl,?_,?_⟩
 .rw[xO,bJ];exact zF (by lia)
 .refine sP (λx=>match kG x with|some v=>xG v|none=>.non) (λx hx N hN=>?_) ?_
  .obtain⟨v,hv,rfl⟩:=zQ.mp hx;have hb:=sm v (q_ hv);exact⟨rfl,_,_,rfl,by lia,hb.1.2.bd,_,_,rfl,by lia,hb.1.2.bd,hN⟩
  .rw[vy];exact k
def O5 (B:yd mg bn)(D:DF K mg "cut_piece" AW f fd ["piece", "row"])(eF:D_ P w K mg base)(j6:oP P w K mg base) :
  Dn P w K mg base:=by
 refine yq D aS (λhr=>(xw (yC 2 aS.nd (wk uf)) (xw (zX zS rfl (e_ K rfl (B.get "enumerate") (xP (pv 0))) (zJ K (n:=2) rfl (xZ (ym 3 aS.nd) (xZ (ym 4 aS.nd) zE))) (xw (yC 5 aS.nd (y8 (zD K) (pv 0) (xr wj (pv 3) xm) (λ_ _=>rfl))) (xw (yP (yz (kB K hr.units) (xr yr (xA j6 hr (xk (pv 1) (pv 5))) (xA j6 hr (xk (pv 1) (pv 4)))) xm (yc _)) (xw (yC 6 aS.nd (xA eF hr (y4 (pv 1) (xk (pv 5) (pv 4))))) (xy (yP (yz (eQ hr.units) (pv 6) (pv 2) (by with_unfolding_all rfl)) (xy (vE (qi qO jg jh km (pv 2) (xP (pv 6))))) yQ))) yQ)
  (xy (yP (yz j_ (xA j6 hr (xk (pv 1) (pv 4))) xm (yc _)) (xy (vE (qi qO jg jh km (pv 2) (xP (pv 4))))) yQ)))))
  (xy (xQ (pv 2))))))
  (xD (vX (kW uP)) (xD (zW (eO (xR xc)) (zP (yb xM (yb xM zI))).g (xD (yE (wd xc (xl wo xc xq))) (xD (yW (yB (xl kC (xl yu (xF (xo xc xc)) (xF (xo xc xc))) xq)) (xD (yE (xF (zw xc (xo xc xc)))) (yW (yB (xl eT xc j7)) (kA xc) yX)) yX) (yW (yB (xl hJ (xF (xo xc xc)) xq)) (kA xc) yX)))) aG)) λts KK hl h=>?_
 obtain⟨l,r,rfl,hr,hl',hz,k⟩:=h;refine u5 (all:=vB (l.map xh)) (λi τ=>∃x3 x4 x5 x6,τ=[.fz (.lst (l.map xh)),.fz (xh r),.ow ((((y9 l).take i).foldl (zT r) []).map xh),x3,x4,x5,x6]/\(((y9 l).take i).foldl (zT r) []).length<=2*i)
  ⟨_,_,_,_,rfl,yg _⟩ ?_ ?_
 .rintro i x τ N hx ⟨x3,x4,x5,x6,rfl,hlen⟩ hN;obtain⟨v,hv,rfl⟩:=lJ hx;obtain⟨u,hu,hc,ha⟩:=Lc hv;have hvm:=zG hv;have hi:=(zc.mp hv).1;have fold:=bz (zT r) [] hc;generalize hacc:((y9 l).take i).foldl (zT r) []=acc at fold hlen ⊢;have leaf:∀(ts:List Tr) (y6:TV),ts=(zT r acc (u,v)).map xh->N [.fz (.lst (l.map xh)),.fz (xh r),.ow ts,.fz (.int i),.fz (xh v),.fz (xh u),y6]:=λts y6 e=>by
   rw[fold] at hN;refine hN _ ⟨_,_,_,y6,by rw[e],?_⟩
   .have:=Jx r acc (u,v);have s2:(seg r (u,v)).length<=2:=by unfold seg;split<;>split<;>simp
    lia
  have bu:=hl' u hu;have bv:=hl' v hvm;have len0:∀n:Nat,n<=acc.length+1->n<sizeLine:=λn hn=>zF (by lia);refine⟨rfl,?_⟩;show wM (atT (l.map xh) ((i:Int)-1)) _;rw[ha];refine⟨r,u,rfl,hr.b3,bu.1.b3,r,v,rfl,hr.b3,bv.1.b3,⟨(hr.val bu.1).bd,(hr.val bv.1).bd⟩,?_⟩;refine yi (b:=decide (val r u*val r v<0)) (λc=>?_) (λc=>?_)
  .have c:=yV c;refine⟨r,u,v,rfl,⟨hr,bu.1,bv.1⟩,⟨bu.2,bv.2⟩,c,⟨cF _,jo xh cF acc,(by show(1:Nat)<=60;decide)⟩,?_⟩;refine yi (b:=!((acc.map xh).any λt=>zz t (xh (ya r u v)))) (λd=>?_) (λd=>?_)
   .rw[Ee] at d;have d:ya r u v∉acc:=by simpa using d
    refine⟨len0 _ (by simp),r,v,rfl,hr.b3,bv.1.b3,?_⟩;refine yi (b:=decide (val r v<=0)) (λe=>?_) (λe=>?_)
    .have e:=yV e;exact⟨len0 _ (by simp),leaf _ _ (by simp[zT,c,d,e])⟩
    .have e:=zZ e;exact leaf _ _ (by simp[zT,c,d,e])
   .rw[Ee] at d;have d:ya r u v∈acc:=by simpa using d
    refine⟨r,v,rfl,hr.b3,bv.1.b3,?_⟩;refine yi (b:=decide (val r v<=0)) (λe=>?_) (λe=>?_)
    .have e:=yV e;exact⟨len0 _ (by simp),leaf _ _ (by simp[zT,c,d,e])⟩
    .have e:=zZ e;exact leaf _ _ (by simp[zT,c,d,e])
  .have c:=zZ c;refine⟨r,v,rfl,hr.b3,bv.1.b3,?_⟩;refine yi (b:=decide (val r v<=0)) (λe=>?_) (λe=>?_)
   .have e:=yV e;exact⟨len0 _ (by simp),leaf _ _ (by simp[zT,c,e])⟩
   .have e:=zZ e;exact leaf _ _ (by simp[zT,c,e])
 .rintro τ ⟨x3,x4,x5,x6,rfl,hlen⟩;rw[r_,uK (by rw[lC];exact yg _)];exact k
def OX (B:yd mg bn)(D:DF K mg "beyond" AQ f fd ["row", "corner"])  :
  oP P w K mg base:=by
 refine yq D dQ (λhr=>(xw (uy (pv 0) (zJ K (n:=3) rfl (xZ (ym 2 dQ.nd) (xZ (ym 3 dQ.nd) (xZ (ym 4 dQ.nd) zE))))) (xw (uy (pv 1) (zJ K (n:=3) rfl (xZ (ym 5 dQ.nd) (xZ (ym 6 dQ.nd) (xZ (ym 7 dQ.nd) zE))))) (xy (xQ (xr wj (xr ud (xr yr (pv 2) (pv 5)) (xr yr (pv 3) (pv 6))) (xr yr (pv 4) (pv 7))))))))
  (xD (uQ xc (zP (yb xM (yb xM (yb xM zI)))).g) (xD (uQ xc (zP (yb xM (yb xM (yb xM zI)))).g) (xY (xl wo (xl vt (xl yu xc xc) (xl yu xc xc)) (xl yu xc xc))))) λts KK hl h=>?_
 obtain⟨r,p,rfl,hr,hp,k⟩:=h;exact⟨rfl,rfl,⟨hr.1.1,hp.1.1⟩,⟨hr.1.2,hp.1.2⟩,⟨hr.2,hp.2⟩,k⟩
def PY (B:yd mg bn)(D:DF K mg "where_crossed" cZ f fd ["row", "one", "other"])(qB:rO P w K mg base)(j6:oP P w K mg base) :
  D_ P w K mg base:=by
 refine yq D dS (λhr=>(xw (uy (yG (xk (yT jn rfl (B.get "abs") jk (xP (xA j6 hr (xk (pv 0) (pv 1))))) (yT jn rfl (B.get "abs") jk (xP (xA j6 hr (xk (pv 0) (pv 2))))))) (zJ K (n:=2) rfl (xZ (yU (i:=3) dS.nd rfl (Or.inr rfl)) (xZ (yU (i:=4) dS.nd rfl (Or.inr rfl)) zE)))) (xw (uy (uR (wJ (N:=["here", "there", "other_off", "one_off"]) (xE:=[none,none,some 4,some 3]) (XN:=["row", "one", "other", "one_off", "other_off", "x", "y", "bottom", "shared"]) (xs:=xI cZ) (by decide +kernel) rfl rfl) rfl (jU (uM rfl (uM rfl jV))) (cD K rfl (B.get "zip") (xk (pv 1) (pv 2))) (λ_ _ _ _=>(zJ K (n:=2) rfl (xZ (yU (i:=0) (show(["here", "there", "other_off", "one_off"]:List Str).Nodup by decide +kernel) rfl (Or.inl rfl)) (xZ (yU (i:=1) (show(["here", "there", "other_off", "one_off"]:List Str).Nodup by decide +kernel) rfl (Or.inl rfl)) zE)))) (λ_ _ _ _=>qj) (λ_ _ _ _=>(xr ud (xr yr (pv 2) (pv 0)) (xr yr (pv 3) (pv 1))))) (RC K (n:=3) rfl (xZ (ym 5 dS.nd) (xZ (ym 6 dS.nd) (xZ (ym 7 dS.nd) zE)))))
  (xw (yC 8 dS.nd (xA qB hr (xk (xA qB hr (xk (pv 5) (pv 6))) (pv 7)))) (xy (xQ (yG (y4 (xr uF (pv 5) (pv 8)) (xk (xr uF (pv 6) (pv 8)) (xr uF (pv 7) (pv 8)))))))))))
  (xD (uQ (yF (b:=true) (xo (zO jq (xR (xF (xo xc xc)))) (zO jq (xR (xF (xo xc xc)))))) (zP (yb xM (yb xM zI))).g) (xD (uQ (zp.e (wy (cg (xo xc xc)).c (zP (yb xM (yb xM zI))) qg (xl vt (xl yu xc xc) (xl yu xc xc)))) (P9 (yb xM (yb xM (yb xM zI)))).g) (xD (yE (xF (xo (xF (xo xc xc)) xc))) (xY (yF (b:=true) (zw (xl uG xc xc) (xo (xl uG xc xc) (xl uG xc xc)))))))) λts KK hl h=>?_
 obtain⟨r,u,v,rfl,⟨hr,hu,hv⟩,⟨zu,zv⟩,hn,k⟩:=h;have au:Bk 1000 (abs (val r u)):=((hr.val hu).mono (by decide)).abs;have av:Bk 1000 (abs (val r v)):=((hr.val hv).mono (by decide)).abs;have cu:∀ {i},Bk 800 i->CM (abs (val r v)) i:=λh=>⟨av.bd,h.bd⟩
 have cv:∀ {i},Bk 800 i->CM (abs (val r u)) i:=λh=>⟨au.bd,h.bd⟩
 obtain⟨b,_,_,_⟩:=rV zu zv hn;have wz:0<(cw r u v).2.2:=by have h1:=Pol.pp b.pa zu;have h2:=Pol.pp b.pb zv;show 0<abs (val r v)*u.2.2+abs (val r u)*v.2.2;lia
 have wb:Bd (cw r u v).2.2:=((av.mul hu.2).add (au.mul hv.2)).bd;have gp:=aa wz;have gb:Bd (yN (cw r u v):Int):=oX (by lia) wb;refine⟨r,u,rfl,hr.b3,hu.b3,r,v,rfl,hr.b3,hv.b3,rfl,zF (show(3:Nat)<=1000000 by decide),rfl,cu hu.1.1,cv hv.1.1,rfl,cu hu.1.2,cv hv.1.2,rfl,cu hu.2,cv hv.2,rfl,_,_,rfl,_,_,rfl,⟨?_,gb⟩,⟨?_,gb⟩,⟨?_,gb⟩,?_⟩
 .show(yN (cw r u v):Int)≠0;lia
 .show(yN (cw r u v):Int)≠0;lia
 .show(yN (cw r u v):Int)≠0;lia
 show KK (.tup [.int ((cw r u v).1.fdiv (yN (cw r u v))),.int ((cw r u v).2.1.fdiv (yN (cw r u v))),.int ((cw r u v).2.2.fdiv (yN (cw r u v)))]);rw[qb (by lia),qb (by lia),qb (by lia)];exact k
def O7 (B:yd mg bn)(D:DF K mg "from_least" AY f fd ["piece"])(iQ:Dt P w K mg base) :
  Dq P w K mg base:=by
 refine yq D my (λhr=>(xw (yC 1 my.nd xm) (xw (zX zS rfl (e_ K rfl (B.get "enumerate") (xP (pv 0))) (zJ K (n:=2) rfl (xZ (ym 2 my.nd) (xZ (ym 3 my.nd) zE))) (xy (yP (wC (xA iQ hr (xk (pv 3) (y8 (zD K) (pv 0) (pv 1) (λ_ _=>rfl))))) (xy (yC 1 my.nd (pv 2))) yQ))) (xy (xQ (xr cq (gY (pJ K) (pv 0) (g9 (pv 1)) g6) (gY (pJ K) (pv 0) g6 (g9 (pv 1)))))))))
  (xD (yE xq) (xD (zW (eO (xR xc)) (zP (yb xM (yb xM zI))).g (yW (zU (xF (xo xc (wd xc xc)))) (yE xc) yX)) (dB (eJ (Hh xc (gU xc) gT) (Hh xc gT (gU xc)))))) λts KK hl h=>?_
 obtain⟨l,rfl,hl',hz,k⟩:=h;refine u5 (all:=vB (l.map xh)) (λi τ=>∃x2 x3,τ=[.fz (.lst (l.map xh)),.fz (.int ((List.range i).foldl (ux l) 0:Nat)),x2,x3]/\((List.range i).foldl (ux l) 0<l.length\/l=[]))
  ⟨_,_,rfl,?_⟩ ?_ ?_
 .cases l with
  |nil=>exact .inr rfl
  |cons a t=>exact .inl (by simp)
 .rintro i x τ N hx ⟨x2,x3,rfl,hlen⟩ hN;obtain⟨v,hv,rfl⟩:=lJ hx;have hvm:=zG hv;have hi:=(zc.mp hv).1;have fold:(List.range (i+1)).foldl (ux l) 0=ux l ((List.range i).foldl (ux l) 0) i:=by rw[List.range_succ,se];rfl
  generalize hs:(List.range i).foldl (ux l) 0=s at fold hlen ⊢;have hs':s<l.length:=hlen.resolve_right (λz=>by rw[z] at hi;simp at hi);have eu:atT (l.map xh) (s:Int)=some (xh l[s]):=by rw[fO,vh,yA hs'];rfl
  refine⟨rfl,?_⟩;show wM (atT (l.map xh) (s:Int)) _;rw[eu];have ev:l.getD i (0,0,0)=v:=by rw[jK,hv];rfl
  have es:l.getD s (0,0,0)=l[s]:=by rw[jK,yA hs'];rfl
  refine⟨v,l[s],rfl,hl' _ hvm,hl' _ (og hs'),?_⟩;refine yi (b:=ahead v l[s]) (λc=>?_) (λc=>?_)
  .have f2:ux l s i=i:=by unfold ux;rw[ev,es,xK c]
   rw[fold,f2] at hN;exact hN _ ⟨_,_,rfl,.inl hi⟩
  .have c':¬ahead v l[s]=true:=by rw[c];exact wR
   have f2:ux l s i=s:=by unfold ux;rw[ev,es,xH c']
   rw[fold,f2] at hN;exact hN _ ⟨_,_,rfl,.inl hs'⟩
 .rintro τ ⟨x2,x3,rfl,hlen⟩;rw[r_];show(wK (l.map xh) (some ((kS l:Nat):Int)) none).length+(wK (l.map xh) none (some ((kS l:Nat):Int))).length<=sizeLine/\KK (.lst (wK (l.map xh) (some ((kS l:Nat):Int)) none++wK (l.map xh) none (some ((kS l:Nat):Int))));rw[nR,nS];refine⟨BO (by simp;lia),?_⟩;unfold uw at k;rw[uo,oh,Cs] at k;exact k
def Pa (B:yd mg bn)(D:DF K mg "is_ahead" A5 f fd ["one", "other"])  :
  Dt P w K mg base:=by
 refine yq D SS (λhr=>(xy (xQ (vd (kB K hr.units) (yG (xk (xr yr (xC K 0) (xC K 1)) (xr yr (xC K 0) (xC K 1)))) (yG (xk (xr yr (xC K 1) (xC K 0)) (xr yr (xC K 1) (xC K 0)))) (yc _)))))
  (xY (xl kC (yF (b:=true) (xo (xl yu xB xB) (xl yu xB xB))) (yF (b:=true) (xo (xl yu xB xB) (xl yu xB xB))))) λts KK hl h=>?_
 obtain⟨p,q,rfl,hp,hq,k⟩:=h;refine⟨⟨hp.1.1,hq.2⟩,⟨hp.1.2,hq.2⟩,⟨hq.1.1,hp.2⟩,⟨hq.1.2,hp.2⟩,[p.1*q.2.2,p.2.1*q.2.2],[q.1*p.2.2,q.2.1*p.2.2],rfl,rfl,?_⟩;rw[NP];exact k
theorem Pg (B:yd mg bn)(D:DF K mg "is_row" A9 f fd ["thing"])(aB:oO P w K mg base) :
  DC P w K mg base:=by
 refine yq D SY (λhr=>(xw (yP (PW.pt (uh (uI (wC (yT qW rfl (B.get "isinstance") qU (xk (pv 0) (kD (v:=V.ty "tuple") rfl (B.get "tuple") qV rfl))))) (uh (yz (wA hr.units) (yT (uZ K) rfl (B.get "len") uY (xP (pv 0))) xm (yc _)) (vP (uI (wC (xA aB hr (xP (pv 0))))))))) (xy (xQ uH)) yQ) (xy (xQ (cC (vd (wA hr.units) (xC K 0) xm (yc _)) (hU (vd (wA hr.units) (xC K 0) xm (yc _))))))))
  (xD (yW (uc (uE (zU (ko xc))) (uc (yB (xl wB (zO vA (xR xc)) xq)) (uE (zU (xF (xR xc)))))) (xY vc) yX) (xY (b8 (xl wB xB xq) (xl wB xB xq)))) λts KK hl h=>?_
 obtain⟨t,rfl,k⟩:=h;cases t with
 |tup us=>
  refine yi (b:=!decide ((us.length:Int)=3)) (λc=>?_) (λc=>?_)
  .have c:¬(us.length:Int)=3:=by simpa using c
   have e:tO (.tup us)=false:=by
    unfold tO;cases e:kG (.tup us) with
    |none=>rfl
    |some r=>have:=cK e;unfold xh at this;injection this with this;rw[this] at c;exact absurd rfl c
   rw[e] at k;exact k
  .have c:us.length=3:=by simp at c;lia
   obtain⟨x,y,z,rfl⟩:∃x y z,us=[x,y,z]:=by
    match us,c with
    |[x,y,z],_=>exact⟨x,y,z,rfl⟩
   refine⟨_,rfl,_,.inl rfl,NO c,?_⟩;cases x with
   |int a=>
    cases y with
    |int b=>
     cases z with
     |int d=>
      show if (!decide (a=0))=true then KK (.bl true) else KK (.bl (!decide (b=0)))
      by_cases ha:a=0<;>by_cases hb:b=0<;>simp[ha,hb,tO,kG] at k ⊢<;>exact k
     |_=>exact k
    |_=>exact k
   |_=>exact k
 |_=>exact k
def PV (B:yd mg bn)(D:DF K mg "value" Bz f fd ["row", "place"])(eg:DX P w K mg base)(bZ:D6 P w K mg base) :
  D8 P w K mg base:=by
 refine yq D Th (λhr=>(xy (xQ (xA eg hr (xk (xA bZ hr (xk (xC K 0) (xC K 1))) (xA bZ hr (xk (xC K 0) (xC K 1))))))))
  (xY (xF (xo (xF (xo xB xB)) (xF (xo xB xB))))) λts KK hl h=>?_
 obtain⟨a,c,x,p,rfl,ha,hc,hp,k⟩:=h;have h1:=(Fk.timW ha hp.1).mono (show 800<=900 by decide);have h2:=(Fk.timW hc hp.2).mono (show 800<=900 by decide);refine⟨a,p.1,rfl,ha.mono (by decide),hp.1.mono (by decide),c,p.2,rfl,hc.mono (by decide),hp.2.mono (by decide),_,_,rfl,h1,h2,?_⟩;rw[MS hp.1.pos hp.2.pos];exact k
def Ph (B:yd mg bn)(D:DF K mg "is_tight" A_ f fd ["row", "place"])(eC:D8 P w K mg base) :
  DH P w K mg base:=by
 refine yq D BI (λhr=>(xw (uy (xA eC hr (xk (pv 0) (pv 1))) (zJ K (n:=2) rfl (xZ (ym 2 BI.nd) (xZ (ym 3 BI.nd) zE)))) (xy (xQ (vd (ue hr.units) (pv 2) (xr yr (xC K 0) (pv 3)) (yc _))))))
  (xD (uQ (xF (xo xc xc)) (zP (yb xM (yb xM zI))).g) (xY (xl os_eq xc (xl yu xB xc)))) λts KK hl h=>?_
 obtain⟨r,p,rfl,hr,hp,k⟩:=h;refine⟨r.1,r.2.1,[.int r.2.2],p,rfl,hr.1.1,hr.1.2,hp,rfl,⟨hr.2.bd,(MQ hr hp).bot.bd⟩,k⟩
def PR (B:yd mg bn)(D:DF K mg "turn_to" Bv f fd ["one", "other"])  :
  jN P w K mg base:=by
 refine yq D Tg (λhr=>(xy (xQ (xr wj (xr yr (xC K 0) (xC K 1)) (xr yr (xC K 0) (xC K 1))))))
  (xY (xl wo (xl yu xB xB) (xl yu xB xB))) λts KK hl h=>?_
 obtain⟨a,b,c,d,x,y,rfl,hb,k⟩:=h;exact⟨⟨hb.1.1,hb.2.2⟩,⟨hb.1.2,hb.2.1⟩,k⟩
theorem O9 (B:yd mg bn)(D:DF K mg "go_round" A3 f fd ["rows"])(bX:Dr P w K mg base)(eh:DY P w K mg base)(wg:jN P w K mg base) :
  Ds P w K mg base:=by
 refine yq D pB (λhr=>(xw (yP (yz (ue hr.units) (yT (uZ K) rfl (B.get "len") uY (xP (pv 0))) xm (yc _)) (xy (xQ uH)) yQ) (xw (yC 1 pB.nd (xC K 0)) (xw (yC 2 pB.nd (xA bX hr (y4 (pv 1) (xk (pv 0) xm)))) (xw (yC 3 pB.nd (xA bX hr (y4 (pv 1) (xk (pv 0) (wO wQ xm))))) (xw (yP (PW.pt (uh (dG (t5 (pv 2))) (vP (dG (t5 (pv 3)))))) (xy (xQ uH)) yQ) (xy (xQ (cC (vd j9 (xA wg hr (xk (pv 2) (pv 3))) xm (yc _)) (hU (xA eh hr (xk (pv 1) (pv 0)))))))))))))
  (xD (yW (yB (xl os_eq (zO vA (xR xc)) xq)) (xY vc) yX) (xD (yE xB) (xD (yE (xF (zw xc (xo xc xq)))) (xD (yE (xF (zw xc (xo xc (wN xq))))) (xD (yW (uc (zU (tV xc)) (zU (tV xc))) (xY vc) yX) (xY (b8 (xl hG (xF (xo xc xc)) xq) (xF (xo xc xc))))))))) λts KK hl h=>?_
 obtain⟨xa,rfl,hx,k⟩:=h;cases xa with
 |nil=>exact k
 |cons r t=>
  have hr:=hx r xT;refine⟨r,r::t,1,rfl,.inl rfl,hr,hx,r,r::t,-1,rfl,.inr rfl,hr,hx,?_⟩;have e:q8 (r::t)=match far r 1 (r::t),far r (-1) (r::t) with
   |some l,some k=>decide (0<Pol.turn l k)||Pol.back r (r::t)
   |_,_=>false:=rfl
  rw[e] at k;cases e1:far r 1 (r::t) with
  |none=>rw[e1] at k;exact k
  |some l=>
   cases e2:far r (-1) (r::t) with
   |none=>rw[e1,e2] at k;exact k
   |some q=>
    rw[e1,e2] at k;have hl2:=hx l (sX e1).mem;have hq2:=hx q (sX e2).mem;refine⟨l.1,l.2.1,q.1,q.2.1,_,_,rfl,⟨⟨hl2.1.1.bd,hl2.1.2.bd⟩,hq2.1.1.bd,hq2.1.2.bd⟩,?_⟩;have k:KK (.bl (decide (0<Pol.turn l q)||Pol.back r (r::t))):=k;refine yi (b:=decide (0<Pol.turn l q)) (λc=>?_) (λc=>?_)
    .rw[c] at k;exact k
    .rw[c,Bool.false_or] at k;exact⟨r,r::t,rfl,hr,hx,k⟩
def O8 (B:yd mg bn)(D:DF K mg "furthest" AZ f fd ["first", "rows", "sign"])(wg:jN P w K mg base) :
  Dr P w K mg base:=by
 refine yq D pA (λhr=>(xw (yC 3 pA.nd dE) (xw (zX zS rfl (zh K (pv 1)) (ym 4 pA.nd) (xy (yP (PW.pt (jC (yz j9 (xr yr (pv 2) (xA wg hr (xk (pv 0) (pv 4)))) xm (yc _)) (h8 (PW.pt (uh (dG (t5 (pv 3))) (vP (yz j9 (xr yr (pv 2) (xA wg hr (xk (pv 3) (pv 4)))) xm (yc _)))))))) (xy (yC 3 pA.nd (pv 4))) yQ))) (xy (xQ (pv 3))))))
  (xD (yE (jA (t:=Tr.non))) (xD (zW (zH xc) xM.g (yW (jB (yB (xl hG (xl yu xc (xF (xo xc xc))) xq)) (uc (zU (tV xc)) (yB (xl hG (xl yu xc (xF (xo xc xc))) xq)))) (yE xc) yX)) (xY xc))) λts KK hl h=>?_
 obtain⟨r,xa,s,rfl,hs,hr,hx,k⟩:=h;have tb:∀ {p q:Pol.R3},yM 900 p->yM 900 q->Bk 1801 (Pol.turn p q):=λhp hq=>(hp.1.1.mul hq.1.2).sub (hp.1.2.mul hq.1.1);have sb:Bd s:=by rcases hs with rfl|rfl<;>exact fP (by decide) (by decide)
 refine u5 (all:=xa.map xh) (λi τ=>∃x4,τ=[.fz (xh r),.fz (.tup (xa.map xh)),.fz (.int s),.fz (eS ((xa.take i).foldl (qa r s) none)),x4]/\∀y,(xa.take i).foldl (qa r s) none=some y->yM 900 y) ⟨_,rfl,λy hy=>by cases hy⟩ ?_ ?_
 .rintro i x τ N hxi ⟨x4,rfl,hb⟩ hN;obtain⟨y,hyi,rfl⟩:=u9 hxi;have hy:=hx y (zG hyi);have fold:=bz (qa r s) none hyi;generalize hacc:(xa.take i).foldl (qa r s) none=acc at fold hb ⊢;have leaf:∀o:Option Pol.R3,o=qa r s acc y->N [.fz (xh r),.fz (.tup (xa.map xh)),.fz (.int s),.fz (eS o),.fz (xh y)]:=λo e=>by
   rw[fold] at hN;refine hN _ ⟨_,by rw[e],?_⟩
   .unfold qa;split
    .intro z hz;cases hz;exact hy
    .exact hb
  refine⟨r.1,r.2.1,y.1,y.2.1,_,_,rfl,⟨⟨hr.1.1.bd,hr.1.2.bd⟩,hy.1.1.bd,hy.1.2.bd⟩,⟨sb,(tb hr hy).bd⟩,?_⟩;refine yi (b:=decide (0<s*Pol.turn r y)) (λc=>?_) (λc=>?_)
  .have c:=yV c;cases acc with
   |none=>exact leaf (some y) (by unfold qa;rw[xK ⟨c,rfl⟩])
   |some z=>
    have hz:=hb z rfl;refine⟨z.1,z.2.1,y.1,y.2.1,_,_,rfl,⟨⟨hz.1.1.bd,hz.1.2.bd⟩,hy.1.1.bd,hy.1.2.bd⟩,⟨sb,(tb hz hy).bd⟩,?_⟩;refine yi (b:=decide (0<s*Pol.turn z y)) (λd=>?_) (λd=>?_)
    .exact leaf (some y) (by unfold qa;rw[xK ⟨c,d⟩])
    .refine leaf (some z) ?_;unfold qa;rw[xH (λw=>by have w2:decide (0<s*Pol.turn z y)=true:=w.2;rw[d] at w2;cases w2)]
  .have c:=zZ c;exact leaf acc (by unfold qa;rw[xH λw=>c w.1])
 .rintro τ ⟨x4,rfl,_⟩;rw[xO,uK (yg _)];exact k
def PF (B:yd mg bn)(D:DF K mg "points_back" Bp f fd ["first", "rows"])(wg:jN P w K mg base) :
  DY P w K mg base:=by
 refine yq D Jk (λhr=>(xw (zX zS rfl (zh K (pv 1)) (ym 2 Jk.nd) (xy (yP (PW.pt (jC (yz (ue hr.units) (xA wg hr (xk (pv 0) (pv 2))) xm (yc _)) (h8 (yz (kB K hr.units) (xr ud (xr yr (xC K 0) (xC K 2)) (xr yr (xC K 0) (xC K 2))) xm (yc _))))) (xy (xQ uH)) yQ))) (xy (xQ uH))))
  (xD (zW (zH xc) xM.g (yW (jB (yB (xl os_eq (xF (xo xc xc)) xq)) (yB (xl kC (xl vt (xl yu xB xB) (xl yu xB xB)) xq))) (xY vc) yX)) (xY vc)) λts KK hl h=>?_
 obtain⟨r,xa,rfl,hr,hx,k⟩:=h;refine u5 (all:=xa.map xh) (λi τ=>∃x2,τ=[.fz (xh r),.fz (.tup (xa.map xh)),x2]/\∀y∈xa.take i,¬(Pol.turn r y=0/\dot r y<0)) ⟨_,rfl,λy hy=>by simp at hy⟩ ?_ ?_
 .rintro i x τ N hxi ⟨x2,rfl,hb⟩ hN;obtain⟨y,hyi,rfl⟩:=u9 hxi;have hym:=zG hyi;have hy:=hx y hym;have leaf:¬(Pol.turn r y=0/\dot r y<0)->N [.fz (xh r),.fz (.tup (xa.map xh)),.fz (xh y)]:=λc=>hN _ ⟨_,rfl,λz hz=>by
   rw[vT,hyi] at hz;rcases yy.mp hz with q|q
   .exact hb z q
   .have:z=y:=by simpa using q
    rw[this];exact c⟩
  refine⟨r.1,r.2.1,y.1,y.2.1,_,_,rfl,⟨⟨hr.1.1.bd,hr.1.2.bd⟩,hy.1.1.bd,hy.1.2.bd⟩,?_⟩;refine yi (b:=decide (Pol.turn r y=0)) (λc=>?_) (λc=>?_)
  .have c:=yV c;refine⟨⟨hr.1.1.bd,hy.1.1.bd⟩,⟨hr.1.2.bd,hy.1.2.bd⟩,?_⟩;refine yi (b:=decide (dot r y<0)) (λd=>?_) (λd=>?_)
   .have d:=yV d;have:Pol.back r xa=true:=by unfold Pol.back;rw[rq];exact⟨y,hym,by simp[c,d]⟩
    rw[this] at k;exact k
   .have d:=zZ d;exact leaf λw=>d w.2
  .have c:=zZ c;exact leaf λw=>c w.1
 .rintro τ ⟨x2,rfl,hb⟩;rw[xO,uK (yg _)] at hb;have:Pol.back r xa=false:=by unfold Pol.back;rw[List.any_eq_false];intro y hy w;simp at w;exact hb y hy w
  rw[this] at k;exact k
theorem Pd (B:yd mg bn)(D:DF K mg "is_field" mh f fd ["thing"])(iP:Ds P w K mg base)(iV:DB P w K mg base)(aC:oQ P w K mg base)(iU:Dz P w K mg base) :
  Dy P w K mg base:=by
 refine yq D SV (λhr=>(xw (yP (PW.pt (uh (uI (wC (yT qW rfl (B.get "isinstance") qU (xk (pv 0) (kD (v:=V.ty "tuple") rfl (B.get "tuple") qV rfl))))) (vP (uI (RO j_ j_ xm (yT (uZ K) rfl (B.get "len") uY (xP (pv 0))) xm))))) (xy (xQ uH)) yQ) (xw (yP (PW.pt (uh (uI (wC (yT (nJ K rfl) rfl (B.get "all") nG (xP (uR (wJ (N:=["row"]) (xE:=[none]) (XN:=["thing"]) (xs:=xI mh) (by decide +kernel) rfl rfl) rfl (vp rfl) (zh K (pv 0)) (λ_ _ _ _=>(yU (i:=0) (show(["row"]:List Str).Nodup by decide +kernel) rfl (Or.inl rfl))) (λ_ _ _ _=>qj) (λ_ _ _ _=>(xA iU hr (xP (pv 0))))))))) (vP (uI (wC (xA iP hr (xP (pv 0)))))))) (xy (xQ uH)) yQ)
  (xy (xQ (yT (nJ K rfl) rfl (B.get "all") nG (xP (uR (wJ (N:=["place"]) (xE:=[none]) (XN:=["thing"]) (xs:=xI mh) (by decide +kernel) rfl rfl) rfl (vp rfl) (zh K (xA aC hr (xP (pv 0)))) (λ_ _ _ _=>(yU (i:=0) (show(["place"]:List Str).Nodup by decide +kernel) rfl (Or.inl rfl))) (λ_ _ _ _=>qj) (λ_ _ _ _=>(xA iV hr (xP (pv 0))))))))))))
  (xD (yW (uc (uE (zU (ko xc))) (uE (yB (OZ hJ hJ xq (zO vA (xR xc)) xq)))) (xY vc) yX) (xD (yW (uc (uE (zU (zO nK (xR (zp.e (wy (zH xc).c xM qg (xF (xR xc)))))))) (uE (zU (xF (xR xc))))) (xY vc) yX) (xY (zO nK (xR (zp.e (wy (zH (xF (xR xc))).c xM qg (xF (xR xc))))))))) λts KK hl h=>?_
 obtain⟨t,rfl,k⟩:=h;cases t with
 |tup us=>
  refine yi (b:=decide ((3:Int)<=us.length)) (λc1=>?_) (λc1=>?_)
  .have c1:=yV c1;refine yi (b:=!decide ((us.length:Int)<=8)) (λc2=>?_) (λc2=>?_)
   .have c2:8<us.length:=by simp at c2;lia
    have e:isField (.tup us)=false:=by
     show(match rowsOf us with|some xa=>yD xa|none=>false)=false;cases e:rowsOf us with
     |none=>rfl
     |some xa=>show yD xa=false;unfold yD;rw[cL e,xO] at c2;rw[uX (by lia)];rfl
    rw[e] at k;exact k
   .have c2:us.length<=8:=by simp at c2;lia
    refine⟨zF (by lia),sP (λx=>.bl (jz x)) (λx _ N hN=>⟨x,rfl,hN⟩) ⟨us.map jz,by rw[vy];rfl,?_⟩⟩;rw[p7];show if (!us.all jz)=true then _ else _
    refine yi (λc=>?_) (λc=>?_)
    .rw[Ni (by simpa using c)] at k;exact k
    .have c:us.all jz=true:=by simpa using c
     obtain⟨xa,rfl,hrows⟩:=Si c;rw[xO] at c1 c2;have ea:(xa.all λr=>decide ((r.1≠0\/r.2.1≠0)/\w5 r))=true:=by rw[jJ];intro r hr;exact wI (hrows r hr)
     have ef:isField (.tup (xa.map xh))=(q8 xa&&(pieces xa).all j2):=by show(match rowsOf (xa.map xh) with|some xa=>yD xa|none=>false)=_;rw[Ao];show yD xa=_;unfold yD;rw[ea,wI (by lia)];simp
     rw[ef] at k;have ok:kN xa:=⟨λr hr=>(hrows r hr).1,λr hr=>FV (hrows r hr).2,by lia⟩
     refine⟨xa,rfl,λr hr=>(ok.sm r hr).mono (by decide),?_⟩;refine yi (b:=!q8 xa) (λd=>?_) (λd=>?_)
     .have d:q8 xa=false:=by simpa using d
      rw[d] at k;exact k
     .have d:q8 xa=true:=by simpa using d
      rw[d,Bool.true_and] at k;have sm:=ok.small xa.length;have pl:=ok.plen xa.length;rw[uK (yg _)] at sm pl;refine⟨_,xa,rfl,.inl rfl,ok,?_,?_⟩
      .rw[xO,bJ];exact zF (by have:(pieces xa).length<=100000:=pl;lia)
      .refine sP (λx=>match x with|.tup [.tup [.int n,.int d],.tup [.int n2,.int d2]]=>.bl (nearF n d&&nearF n2 d2)|_=>.non) (λx hx N hN=>?_) ?_
       .obtain⟨v,hv,rfl⟩:=zQ.mp hx;have hb:=sm v (q_ hv);have ld:∀i,Bd (uO i v.2.2):=λi=>Li hb.2 hb.1.2.bd;refine⟨[(vC v.1 v.2.2,uO v.1 v.2.2),(vC v.2.1 v.2.2,uO v.2.1 v.2.2)],rfl,(show(2:Nat)<=1000 by decide),λf hf=>?_,?_⟩
        .simp only[xU,zi,zo] at hf;rcases hf with rfl|rfl<;>exact ld _
        .have e:([(vC v.1 v.2.2,uO v.1 v.2.2),(vC v.2.1 v.2.2,uO v.2.1 v.2.2)].all λf=>nearF f.1 f.2)=(nearF (vC v.1 v.2.2) (uO v.1 v.2.2)&&nearF (vC v.2.1 v.2.2) (uO v.2.1 v.2.2)):=by simp
         rw[e];exact hN
       .refine⟨(uw (pieces xa)).map j2,by rw[vy,vy];rfl,?_⟩;rw[p7];have e:=K3 j2 (pieces xa);show KK (.bl ((uw (pieces xa)).all j2));rw[e];exact k
  .have c1:us.length<3:=by have:=zZ c1;lia
   have e:isField (.tup us)=false:=by
    show(match rowsOf us with|some xa=>yD xa|none=>false)=false;cases e:rowsOf us with
    |none=>rfl
    |some xa=>show yD xa=false;unfold yD;rw[cL e,xO] at c1;rw[uX (by lia)];rfl
   rw[e] at k;exact k
 |_=>exact k
theorem Pe (B:yd mg bn)(D:DF K mg "is_field_row" A8 f fd ["thing"])(iW:DC P w K mg base) :
  Dz P w K mg base:=by
 refine yq D pC (λhr=>(xw (yP (uI (wC (xA iW hr (xP (pv 0))))) (xy (xQ uH)) yQ) (xw (uy (pv 0) (zJ K (n:=3) rfl (xZ (ym 1 pC.nd) (xZ (ym 2 pC.nd) (xZ (ym 3 pC.nd) zE))))) (xy (xQ (aJ (vd j_ (yT jn rfl (B.get "abs") jk (xP (pv 1))) xm (yc _)) (aJ (vd j_ (yT jn rfl (B.get "abs") jk (xP (pv 2))) xm (yc _)) (hU (vd j_ (yT jn rfl (B.get "abs") jk (xP (pv 3))) xm (yc _))))))))))
  (xD (yW (uE (zU (xF (xR xc)))) (xY vc) yX) (xD (uQ xc (zP (yb xM (yb xM (yb xM zI)))).g) (xY (aF (xl hJ (zO jq (xR xc)) xq) (aF (xl hJ (zO jq (xR xc)) xq) (xl hJ (zO jq (xR xc)) xq)))))) λts KK hl h=>?_
 obtain⟨t,rfl,k⟩:=h;refine⟨t,rfl,?_⟩;unfold tO;unfold jz at k;cases e:kG t with
 |none=>rw[e] at k;exact k
 |some r=>
  rw[e] at k;cases cK e;have k:KK (.bl (decide ((r.1≠0\/r.2.1≠0)/\w5 r))):=k;refine yi (b:=!decide (r.1≠0\/r.2.1≠0)) (λc=>?_) (λc=>?_)
  .have c:¬(r.1≠0\/r.2.1≠0):=by simpa using c
   rw[uX λw=>c w.1] at k;exact k
  .have c:r.1≠0\/r.2.1≠0:=by simp at c;lia
   refine⟨rfl,?_⟩;have ab:∀i m:Int,(if i<0 then -i else i)<=m↔-m<=i/\i<=m:=λi m=>by split<;>lia
   refine yi (b:=decide ((if r.1<0 then -r.1 else r.1)<=30)) (λd=>?_) (λd=>?_)
   .have d:=(ab _ _).mp (yV d);refine yi (b:=decide ((if r.2.1<0 then -r.2.1 else r.2.1)<=30)) (λd2=>?_) (λd2=>?_)
    .have d2:=(ab _ _).mp (yV d2);show KK (.bl (decide ((if r.2.2<0 then -r.2.2 else r.2.2)<=1000)));have e3:decide ((r.1≠0\/r.2.1≠0)/\w5 r)=decide ((if r.2.2<0 then -r.2.2 else r.2.2)<=1000):=by rw[mZ,ab];exact⟨λw=>w.2.2,λw=>⟨c,⟨d,d2⟩,w⟩⟩
     rw[<-e3];exact k
    .have d2:=λw=>zZ d2 ((ab _ _).mpr w);rw[uX λw=>d2 w.2.1.2] at k;exact k
   .have d:=λw=>zZ d ((ab _ _).mpr w);rw[uX λw=>d w.2.1.1] at k;exact k
def Pf (B:yd mg bn)(D:DF K mg "is_near" cV f fd ["place"])  :
  DB P w K mg base:=by
 refine yq D SW (λhr=>(xy (xQ (yT (nJ K rfl) rfl (B.get "all") nG (xP (uR (wJ (N:=["top", "bottom"]) (xE:=[none,none]) (XN:=["place"]) (xs:=xI cV) (by decide +kernel) rfl rfl) rfl (jU (uM rfl (uM rfl jV))) (zh K (pv 0)) (λ_ _ _ _=>(zJ K (n:=2) rfl (xZ (yU (i:=0) (show(["top", "bottom"]:List Str).Nodup by decide +kernel) rfl (Or.inl rfl)) (xZ (yU (i:=1) (show(["top", "bottom"]:List Str).Nodup by decide +kernel) rfl (Or.inl rfl)) zE)))) (λ_ _ _ _=>qj) (λ_ _ _ _=>(vd j_ (yT jn rfl (B.get "abs") jk (xP (pv 0))) (xr yr xm (pv 1)) (yc _)))))))))
  (xY (zO nK (xR (zp.e (wy (zH xc).c (zP (yb xM (yb xM zI))) qg (xl hJ (zO jq (xR xc)) (xl yu xq xc))))))) λts KK hl h=>?_
 obtain⟨fs,rfl,hz,hb,k⟩:=h;refine⟨by rw[xO];exact zF (by lia),?_⟩;have ab:∀i m:Int,decide ((if i<0 then -i else i)<=12*m)=nearF i m:=λi m=>by unfold nearF;rw[mZ];split<;>lia
 refine sP (λx=>match x with|.tup [.int n,.int d]=>.bl (nearF n d)|_=>.non) (λx hx N hN=>?_) ?_
 .obtain⟨f,hf,rfl⟩:=zQ.mp hx;refine⟨rfl,⟨fP (by decide) (by decide),hb f hf⟩,?_⟩;show N (.bl (decide ((if f.1<0 then -f.1 else f.1)<=12*f.2)));rw[ab];exact hN
 .refine⟨fs.map λf=>nearF f.1 f.2,by rw[vy,vy];rfl,?_⟩;rw[p7];exact k
def Pp (B:yd mg bn)(D:DF K mg "need_field" Be f fd ["thing"])(iT:Dy P w K mg base) :
  DL P w K mg base:=by
 refine yq D S9 (λhr=>(xy (yP (uI (wC (xA iT hr (xP (pv 0))))) (xy Ab) yQ)))
  (yW (uE (zU (xF (xR xc)))) eP yX) λts KK hl h=>?_
 obtain⟨t,rfl,hf,k⟩:=h;refine⟨t,rfl,?_⟩;rw[hf];exact⟨rfl,k⟩
def O1 (B:yd mg bn)(D:DF K mg "corners" AR f fd ["field"])(i0:DL P w K mg base)(aC:oQ P w K mg base) :
  Dk P w K mg base:=by
 refine yq D SO (λhr=>(xw (vE (xA i0 hr (xP (pv 0)))) (xy (xQ (xA aC hr (xP (pv 0)))))))
  (xD (Hn (xF (xR xc))) (dB (eL (xR xc)))) λts KK hl h=>?_
 obtain⟨xa,rfl,hf,FR,k⟩:=h;exact⟨_,rfl,Nj hf,_,xa,rfl,.inl rfl,FR.rows,k⟩
def PN (B:yd mg bn)(D:DF K mg "tight_numbers" cY f fd ["rows", "place"])(iX:DH P w K mg base) :
  D5 P w K mg base:=by
 refine yq D Te (λhr=>(xy (xQ (dD (rS K) rfl (B.get "tuple") qV (xP (uR (wJ (N:=["number", "row", "place"]) (xE:=[none,none,some 1]) (XN:=["rows", "place"]) (xs:=xI cY) (by decide +kernel) rfl rfl) rfl (jU (uM rfl (uM rfl jV))) (e_ K rfl (B.get "enumerate") (xP (pv 0))) (λ_ _ _ _=>(zJ K (n:=2) rfl (xZ (yU (i:=0) (show(["number", "row", "place"]:List Str).Nodup by decide +kernel) rfl (Or.inl rfl)) (xZ (yU (i:=1) (show(["number", "row", "place"]:List Str).Nodup by decide +kernel) rfl (Or.inl rfl)) zE)))) (λ_ _ _ _=>(qC (wC (xA iX hr (xk (pv 1) (pv 2)))))) (λ_ _ _ _=>(pv 0))))))))
  (xY (eI (xR (zp.e (wy (eO (xR xc)).c (zP (yb xM (yb xM zI))) (zU (xF (xo xc xc))) xc))))) λts KK hl h=>?_
 obtain⟨xa,p,rfl,hl',hr,hp,k⟩:=h;refine⟨by rw[r_];exact zF (by lia),?_⟩;rw[Mq xh xa (0,0,0)];refine qu (λi=>fY (xa.getD i (0,0,0)) p) vM (λi hi N M h1 h0=>?_) ?_
 .exact⟨rfl,_,_,rfl,hr _ (getD_mem _ (oi.mp hi)),hp,yi h1 h0⟩
 .exact k
def OY (B:yd mg bn)(D:DF K mg "broken" cU f fd ["field"])(iK:Dk P w K mg base)(iR:Dw P w K mg base) :
  Dj P w K mg base:=by
 refine yq D SN (λhr=>(xy (xQ (uR (wJ (N:=["place"]) (xE:=[none]) (XN:=["field"]) (xs:=xI cU) (by decide +kernel) rfl rfl) rfl (vp rfl) (zh K (xA iK hr (xP (pv 0)))) (λ_ _ _ _=>(yU (i:=0) (show(["place"]:List Str).Nodup by decide +kernel) rfl (Or.inl rfl))) (λ_ _ _ _=>(qC (wC (xA iR hr (xP (pv 0)))))) (λ_ _ _ _=>(pv 0))))))
  (dB (wy (zH (xF (xR xc))).c xM (zU (xF (xR xc))) xc)) λts KK hl h=>?_
 obtain⟨xa,rfl,hf,FR,k⟩:=h;refine⟨xa,rfl,hf,FR,by rw[xO];exact zF (by have:=ER FR;lia),?_⟩;exact qu brk xG (λv hv N M h1 h0=>⟨v,rfl,yi h1 h0⟩) k
theorem Pb (B:yd mg bn)(D:DF K mg "is_broken" A6 f fd ["place"])  :
  Dw P w K mg base:=by
 refine yq D BH (λhr=>(xw (uy (pv 0) (zJ K (n:=2) rfl (xZ (ym 1 BH.nd) (xZ (ym 2 BH.nd) zE)))) (xy (xQ (cC (vd (wA hr.units) (xC K 1) xm (yc _)) (hU (vd (wA hr.units) (xC K 2) xm (yc _))))))))
  (xD (uQ xc (zP (yb xM (yb xM zI))).g) (xY (b8 (xl wB xB xq) (xl wB xB xq)))) λts KK hl h=>?_
 obtain⟨v,rfl,k⟩:=h;refine⟨rfl,?_⟩;show if (!decide ((xn v).1.2=1))=true then KK (.bl true) else KK (.bl (!decide ((xn v).2.2=1)))
 unfold brk at k;cases e:decide ((xn v).1.2=1) with
 |true=>rw[e] at k;exact qd k
 |false=>rw[e] at k;exact kR k
end
section
variable (P:Program) (w:World) {K:xt} {mg:Str->Option Value} (base:Heap) {f:Addr} {fd:FuncData}
def Py (B:yd mg bn)(D:DF K mg "parts" Bm f fd ["one", "other", "thing"])(aD:oS P w K mg base)(iS:Dx P w K mg base)(wg:jN P w K mg base)(vD:sL P w K mg base) :
  DU P w K mg base:=by
 refine yq D BJ (λhr=>(xw (yC 3 BJ.nd (xA aD hr (xk (pv 0) (pv 1)))) (xw (yP (uI (wC (xA iS hr (xP (pv 2))))) (xy (xQ dE)) yQ) (xw (kZ (i:=4) (j:=5) rfl BJ.nd rfl rfl (by decide) rfl rfl (xk (xA wg hr (xk (pv 2) (pv 1))) (xA wg hr (xk (pv 0) (pv 2)))) (by rfl))
  (xw (yP (PW.pt (uh (yz (kB K hr.units) (pv 4) xm (yc _)) (vP (yz (kB K hr.units) (pv 5) xm (yc _))))) (xy (xQ dE)) yQ) (xy (xQ (yG (xk (xA vD hr (xk (pv 4) (pv 3))) (xA vD hr (xk (pv 5) (pv 3))))))))))))
  (xD (yE (xF (xo xc xc))) (xD (yW (uE (zU (xF (xR xc)))) (xY (jA (t:=Tr.non))) yX) (xD (kX (xo (xF (xo xc xc)) (xF (xo xc xc)))) (xD (yW (uc (yB (xl kC xc xq)) (yB (xl kC xc xq))) (xY (jA (t:=Tr.non))) yX) (xY (yF (b:=true) (xo (xF (xo xc xc)) (xF (xo xc xc))))))))) λts KK hl h=>?_
 obtain⟨a,b',c,d,t,rfl,hl2,hs,hd,hp,k⟩:=h;refine⟨a,b',c,d,rfl,hl2,hp,?_⟩;refine⟨t,rfl,hs,?_⟩;have no:jy t=false->gW a b' c d t=.non:=λe=>by
  unfold gW;split
  .rename_i x y;have:x=0/\y=0:=by simp[jy] at e;lia
   rw[xK this]
  .rfl
 refine yi (b:=!jy t) (λe=>?_) (λe=>?_)
 .rw[no (by simpa using e)] at k;exact k
 have e:jy t=true:=by simpa using e
 obtain⟨x,y,rfl⟩:=Gr e;have nz:¬(x=0/\y=0):=λz=>by simp[jy,drT,z.1,z.2] at e
 obtain⟨hx,hy⟩:L24 x/\L24 y:=hd;refine⟨x,y,c,d,[],[],rfl,⟨⟨hx.bd,hy.bd⟩,hl2.2.1.bd,hl2.2.2.bd⟩,a,b',x,y,[],[],rfl,⟨⟨hl2.1.1.bd,hl2.1.2.bd⟩,hx.bd,hy.bd⟩,?_⟩;have kk:KK (if tn x y c d<0\/tn a b' x y<0 then .non else .tup [j0 (tn x y c d) (tn a b' c d),j0 (tn a b' x y) (tn a b' c d)]):=by
  have e1:gW a b' c d (drT x y)=_:=(xH nz)
  rw[e1] at k;exact k
 refine yi (b:=decide (tn x y c d<0)) (λe1=>?_) (λe1=>?_)
 .rw[xK (.inl (yV e1))] at kk;exact kk
 refine yi (b:=decide (tn a b' x y<0)) (λe2=>?_) (λe2=>?_)
 .rw[xK (.inr (yV e2))] at kk;exact kk
 rw[xH (by have:=zZ e1;have:=zZ e2;lia)] at kk;have hb:=TZ hl2;exact⟨_,_,rfl,by lia,hb,_,_,rfl,by lia,hb,kk⟩
def Pq (B:yd mg bn)(D:DF K mg "need_turn" Bf f fd ["one", "other"])(wg:jN P w K mg base) :
  oS P w K mg base:=by
 refine yq D Ji (λhr=>(xw (yC 2 Ji.nd (xA wg hr (xk (pv 0) (pv 1)))) (xw (yP (yz j_ (pv 2) xm (yc _)) (xy Ab) yQ) (xy (xQ (pv 2))))))
  (xD (yE (xF (xo xc xc))) (xD (yW (yB (xl hJ xc xq)) eP yX) (xY xc))) λts KK hl h=>?_
 obtain⟨a,b',c,d,rfl,hl2,hp,k⟩:=h;refine⟨a,b',c,d,[],[],rfl,⟨⟨hl2.1.1.bd,hl2.1.2.bd⟩,hl2.2.1.bd,hl2.2.2.bd⟩,?_⟩;exact yi (b:=decide (tn a b' c d<=0)) (λe=>by have:=yV e;lia) (λ_=>k)
theorem Pc (B:yd mg bn)(D:DF K mg "is_direction" A7 f fd ["thing"])(aB:oO P w K mg base) :
  Dx P w K mg base:=by
 refine yq D SU (λhr=>(xw (yP (PW.pt (uh (uI (wC (yT qW rfl (B.get "isinstance") qU (xk (pv 0) (kD (v:=V.ty "tuple") rfl (B.get "tuple") qV rfl))))) (uh (yz (wA hr.units) (yT (uZ K) rfl (B.get "len") uY (xP (pv 0))) xm (yc _)) (vP (uI (wC (xA aB hr (xP (pv 0))))))))) (xy (xQ uH)) yQ) (xy (xQ (cC (vd (wA hr.units) (xC K 0) xm (yc _)) (hU (vd (wA hr.units) (xC K 0) xm (yc _))))))))
  (xD (yW (uc (uE (zU (ko xc))) (uc (yB (xl wB (zO vA (xR xc)) xq)) (uE (zU (xF (xR xc)))))) (xY vc) yX) (xY (b8 (xl wB xB xq) (xl wB xB xq)))) λts KK hl h=>?_
 obtain⟨t,rfl,hs,k⟩:=h;cases t with
 |tup us=>
  refine yi (b:=!decide ((us.length:Int)=2)) (λc=>?_) (λc=>?_)
  .have c:¬(us.length:Int)=2:=by simpa using c
   have e:jy (.tup us)=false:=by refine Bool.eq_false_iff.mpr λh=>?_;obtain⟨x,y,z⟩:=Gr h;injection z with z;rw[z] at c;exact c rfl
   rw[e] at k;exact k
  .have c:us.length=2:=by simp at c;lia
   obtain⟨x,y,rfl⟩:∃x y,us=[x,y]:=by
    match us,c with
    |[x,y],_=>exact⟨x,y,rfl⟩
   refine⟨_,rfl,_,.inl rfl,hs _ rfl,?_⟩;cases x with
   |int a=>
    cases y with
    |int b=>
     show if (!decide (a=0))=true then KK (.bl true) else KK (.bl (!decide (b=0)))
     by_cases ha:a=0<;>by_cases hb:b=0<;>simp[ha,hb,jy] at k ⊢<;>exact k
    |_=>exact k
   |_=>exact k
 |_=>exact k
def OW (B:yd mg bn)(D:DF K mg "between" AO f fd ["one", "other"])(aD:oS P w K mg base)(b7:D7 P w K mg base)(i5:DN P w K mg base)(i4:DM P w K mg base) :
  Di P w K mg base:=by
 refine yq D BE (λhr=>(xw (vE (xA aD hr (xk (pv 0) (pv 1)))) (xw (kZ (i:=2) (j:=3) rfl BE.nd rfl rfl (by decide) rfl rfl (xk (xA b7 hr (xP (pv 0))) (xA b7 hr (xP (pv 1)))) (by rfl))
  (xw (yC 4 BE.nd (wk (xk (pv 2) (xA i5 hr (xk (pv 2) (pv 3)))))) (xw (cG zS (yz (wA hr.units) (y8 (zD K) (pv 4) (wO wQ xm) (λ_ _=>rfl)) (pv 3) (yc _)) (xy (vE (qi qO jg jh km (pv 4) (xP (xA i4 hr (y4 (y8 (zD K) (pv 4) (wO wQ xm) (λ_ _=>rfl)) (xk (y8 (zD K) (pv 4) (wO wQ xm) (λ_ _=>rfl)) (pv 3))))))))) (xy (xQ (pv 4))))))))
  (xD (Hn (xF (xo xc xc))) (xD (kX (xo (xF (xR xc)) (xF (xR xc)))) (xD (vX (kW (xo xc (xF (xo xc xc))))) (xD (cj (yB (xl wB (dA (wN xq)) xc)) (kA (xF (zw (dA (wN xq)) (xo (dA (wN xq)) xc))))) aG)))) λts KK hl h=>?_
 obtain⟨⟨a,b'⟩,⟨c,d⟩,rfl,hu,hv,hp,k⟩:=h;obtain⟨nu,nv⟩:=sR hp;refine⟨a,b',c,d,rfl,Et (by decide) hu hv,hp,?_⟩;refine⟨(a,b'),rfl,nu,hu.mono (by decide),(c,d),rfl,nv,hv.mono (by decide),?_⟩;have hf:=pP nu hu;have hl2:=pP nv hv;have hD:=(J0 hp).2;have gl:=J1 nv;refine⟨yL (a,b'),yL (c,d),rfl,hf,hl2,J1 nu,hD,λq q1 q2 q3=>?_⟩;have DD:=nH (n:=200) hf hl2;have R0:Run (yL (a,b')) (yL (c,d)) 200 [] (yL (a,b')) q:=by
  refine⟨⟨λi x y hx hy=>?_,λi x y z hx hy hz=>?_⟩,rfl,?_,⟨q2,q3,by lia⟩,?_,λx hx=>?_⟩
  .match i with
   |0=>cases hx;cases hy;exact q1
   |i+1=>simp at hy
  .simp at hz
  .rw[uq];lia
  .simp only[si];lia
  .rcases xU.mp hx with rfl|hx
   .exact hf.mono (by decide)
   .rw[zR.mp hx];obtain⟨e1,e2⟩:=fQ (yL (a,b')) (yL (c,d)) q;exact⟨nF hD e1 ⟨q2,by lia⟩ ⟨by lia,by lia⟩ hf.1 hl2.1,nF hD e2 ⟨q2,by lia⟩ ⟨by lia,by lia⟩ hf.2 hl2.2⟩
 refine pR (λn τ=>∃(h0:List D2) (x y:D2),τ=[.fz (y7 (a,b')),.fz (y7 (c,d)),.fz (y7 (yL (a,b'))),.fz (y7 (yL (c,d))),.ow ((h0++[x,y]).map y7)]/\Run (yL (a,b')) (yL (c,d)) 200 h0 x y/\n=(cr y (yL (c,d))).toNat) _ ⟨[],_,q,rfl,R0,rfl⟩ ?_;rintro n τ N ⟨h0,x,y,rfl,R,rfl⟩ hN;have at1:atT ((h0++[x,y]).map y7) (-1)=some (y7 y):=by rw[show h0++[x,y]=(h0++[x])++[y] by simp,uo];exact rP _ _
 have at2:atT ((h0++[x,y]).map y7) (-2)=some (y7 x):=by rw[uo];exact Ld _ _ _
 show wM (atT ((h0++[x,y]).map y7) (-1)) _;rw[at1];refine⟨Ms _ _,?_⟩;have st:=R.stop gl;refine yi (b:=!zz (y7 y) (y7 (yL (c,d)))) (λc0=>?_) (λc0=>?_)
 .rw[JT] at c0;have c0:y≠yL (c,d):=by simpa using c0
  have y0:0<cr y (yL (c,d)):=by have:=R.t.1;have:cr y (yL (c,d))≠0:=λz=>c0 (st.mp z);lia
  obtain⟨m2,mD,R',lt⟩:=R.step hf hl2 y0 rfl;have bx:=R.bd x (by simp);have by':=R.bd y (by simp)
  show wM (atT ((h0++[x,y]).map y7) (-2)) _;rw[at2];show wM (atT ((h0++[x,y]).map y7) (-1)) _;rw[at1];refine⟨x,y,yL (c,d),rfl,⟨bx.mono (by decide),by'.mono (by decide),hl2.mono (by decide)⟩,y0,?_⟩;have len:=R.len;refine⟨by rw[xO,zy];exact zF (by simp only[wU,si];lia),hN _ _ ?_ ⟨h0++[x],y,_,?_,R',rfl⟩⟩
  .lia
  .simp
 .rw[JT] at c0;have c0:y=yL (c,d):=by simpa using c0
  have len:=R.len;refine k (h0++[x,y]) ⟨R.chn,by simp,by simp only[zy,wU,si];have:=R.t.1;lia,R.fst,?_,λz hz=>(R.bd z hz).mono (by decide)⟩;rw[c0,show(h0++[x,yL (c,d)]).length-1=h0.length+1 by simp,mO (by lia)];simp[show h0.length+1-h0.length=1 by lia]
def PU (B:yd mg bn)(D:DF K mg "undivided" By f fd ["direction"])(qB:rO P w K mg base) :
  D7 P w K mg base:=by
 refine yq D pH (λhr=>(xw (uy (pv 0) (zJ K (n:=2) rfl (xZ (ym 1 pH.nd) (xZ (ym 2 pH.nd) zE)))) (xw (yC 3 pH.nd (xA qB hr (xk (pv 1) (pv 2)))) (xy (xQ (yG (xk (xr uF (pv 1) (pv 3)) (xr uF (pv 2) (pv 3)))))))))
  (xD (uQ xc (zP (yb xM (yb xM zI))).g) (xD (yE (xF (xo xc xc))) (xY (yF (b:=true) (xo (xl uG xc xc) (xl uG xc xc)))))) λts KK hl h=>?_
 obtain⟨⟨a,c⟩,rfl,nz,bx,k⟩:=h;have g0:=qc nz;have gb:Bd (gd (a,c)):=by
  have u:=fi nz;refine kO ⟨by lia,?_⟩;show((Int.gcd a c:Nat):Int)<=1000000;unfold Bx at bx;simp only at bx;by_cases ha:a=0
  .have:c≠0:=λz=>nz (by rw[ha,z]);have:=Int.gcd_le_natAbs_right a this;lia
  .have:=Int.gcd_le_natAbs_left c ha;lia
 have g1:gd (a,c)≠0:=by lia
 refine⟨rfl,a,c,rfl,⟨g1,gb⟩,⟨g1,gb⟩,?_⟩;have e:∀x:Int,x.fdiv ((Int.gcd a c:Nat):Int)=x/gd (a,c):=λx=>qb (yo g0);show KK (.tup [.int (a.fdiv ((Int.gcd a c:Nat):Int)),.int (c.fdiv ((Int.gcd a c:Nat):Int))]);rw[e,e];exact k
def Pt (B:yd mg bn)(D:DF K mg "next_least" Bh f fd ["first", "last"])(iZ:DK P w K mg base)(wg:jN P w K mg base) :
  DN P w K mg base:=by
 refine yq D aT (λhr=>(xw (uy (pv 0) (zJ K (n:=2) rfl (xZ (ym 2 aT.nd) (xZ (ym 3 aT.nd) zE)))) (xw (uy (xA iZ hr (xk (pv 2) (pv 3))) (zJ K (n:=2) rfl (xZ (ym 4 aT.nd) (xZ (ym 5 aT.nd) zE)))) (xw (yC 6 aT.nd (xr uF (xA wg hr (xk (yG (xk (wO wQ (pv 5)) (pv 4))) (pv 1))) (xA wg hr (xk (pv 0) (pv 1))))) (xy (xQ (yG (xk (xr wj (wO wQ (pv 5)) (xr yr (pv 6) (pv 2))) (xr wj (pv 4) (xr yr (pv 6) (pv 3)))))))))))
  (xD (uQ xc (zP (yb xM (yb xM zI))).g) (xD (uQ (xF (xo xc xc)) (zP (yb xM (yb xM zI))).g) (xD (yE (xl uG (xF (xo (yF (b:=true) (xo (wN xc) xc)) xc)) (xF (xo xc xc)))) (xY (yF (b:=true) (xo (xl wo (wN xc) (xl yu xc xc)) (xl wo xc (xl yu xc xc)))))))) λts KK hl h=>?_
 obtain⟨⟨a,b'⟩,⟨c,d⟩,rfl,hf,hl2,g,hp,k⟩:=h;have bf:=sN (by decide) hf;have bl:=sN (by decide) hl2;refine⟨rfl,a,b',rfl,hf,g,λp q e bp bq=>?_⟩;refine⟨rfl,?_⟩;have D:=nH hf hl2;have bD:Bd (cr (a,b') (c,d)):=kO (by lia);refine⟨_,_,_,_,[],[],rfl,⟨⟨bq.neg.bd,bp.bd⟩,bl.1,bl.2⟩,a,b',c,d,[],[],rfl,⟨⟨bf.1,bf.2⟩,bl.1,bl.2⟩,⟨Ci hp,bD⟩,?_⟩;have e0:-q*d-p*c=cr (-q,p) (c,d):=rfl;have e1:a*d-b'*c=cr (a,b') (c,d):=rfl;rw[e0,e1];have dpos:0<=cr (a,b') (c,d):=yo hp;have bt:Bk 1800 (cr (-q,p) (c,d)):=by
  have c6:Bk 20 c:=by unfold Bk;unfold Bx at hl2;simp only at hl2;lia
  have d6:Bk 20 d:=by unfold Bk;unfold Bx at hl2;simp only at hl2;lia
  exact((bq.neg.mul d6).sub (bp.mul c6)).mono (by decide)
 have nb:Bd ((cr (-q,p) (c,d)).fdiv (cr (a,b') (c,d))):=by have:=bh (a:=cr (-q,p) (c,d)) (b:=cr (a,b') (c,d)) (Ci hp);unfold Bd;unfold Bk at bt;have:=Nat.pow_lt_pow_right (a:=2) (m:=1800) (n:=2000) (by decide) (by decide);exact je ‹_› (by generalize 2^1800=X at *;generalize 2^2000=Y at *;lia)
 refine⟨⟨nb,bf.1⟩,⟨nb,bf.2⟩,k (-q-(cr (-q,p) (c,d)).fdiv (cr (a,b') (c,d))*a,p-(cr (-q,p) (c,d)).fdiv (cr (a,b') (c,d))*b') ?_ ?_ ?_⟩
 all_goals
  have fe:=fmod_eq (cr (-q,p) (c,d)) (cr (a,b') (c,d));have f0:=Kj (cr (-q,p) (c,d)) hp;have f1:=Ki (cr (-q,p) (c,d)) hp;generalize (cr (-q,p) (c,d)).fdiv (cr (a,b') (c,d))=m at *
 .unfold cr;simp only;grind
 .have:cr (-q-m*a,p-m*b') (c,d)=cr (-q,p) (c,d)-m*cr (a,b') (c,d):=by unfold cr;simp only;grind
  lia
 .have:cr (-q-m*a,p-m*b') (c,d)=cr (-q,p) (c,d)-m*cr (a,b') (c,d):=by unfold cr;simp only;grind
  lia
def Pr (B:yd mg bn)(D:DF K mg "next_behind" Bg f fd ["before", "here", "last"])(wg:jN P w K mg base) :
  DM P w K mg base:=by
 refine yq D Jj (λhr=>(xw (yC 3 Jj.nd (wO wQ (xr uF (wO wQ (xA wg hr (xk (pv 0) (pv 2)))) (xA wg hr (xk (pv 1) (pv 2)))))) (xy (xQ (yG (xk (xr wj (xr yr (pv 3) (xC K 1)) (xC K 0)) (xr wj (xr yr (pv 3) (xC K 1)) (xC K 0))))))))
  (xD (yE (wN (xl uG (wN (xF (xo xc xc))) (xF (xo xc xc))))) (xY (yF (b:=true) (xo (xl wo (xl yu xc xB) xB) (xl wo (xl yu xc xB) xB))))) λts KK hl h=>?_
 obtain⟨⟨a,b'⟩,⟨c,d⟩,⟨e,f'⟩,rfl,⟨h1,h2,h3⟩,hp,k⟩:=h;have b1:=sN (by decide) h1;have b2:=sN (by decide) h2;have b3:=sN (by decide) h3;have D1:=nH (n:=1000) h1 h3;have D2:=nH (n:=1000) h2 h3;refine⟨a,b',e,f',[],[],rfl,⟨⟨b1.1,b1.2⟩,b3.1,b3.2⟩,c,d,e,f',[],[],rfl,⟨⟨b2.1,b2.2⟩,b3.1,b3.2⟩,⟨Ci hp,fP (by show _<=cr (c,d) (e,f');lia) (by show cr (c,d) (e,f')<=_;lia)⟩,?_⟩;have mb:=bh (a:=-(cr (a,b') (e,f'))) (b:=cr (c,d) (e,f')) (Ci hp);have bm:Bd (-((-(cr (a,b') (e,f'))).fdiv (cr (c,d) (e,f')))):=fP (by lia) (by lia);exact⟨⟨bm,b2.1⟩,⟨bm,b2.2⟩,k⟩
def Po (B:yd mg bn)(D:DF K mg "makes_one" Bc f fd ["a", "b"])  :
  DK P w K mg base:=by
 refine yq D dR (λhr=>(xw (HV (i:=2) (j:=3) (k:=4) rfl dR.nd rfl rfl rfl (by decide) rfl rfl rfl (y4 (pv 0) (xk xm xm)) (by rfl))
  (xw (HV (i:=5) (j:=6) (k:=7) rfl dR.nd rfl rfl rfl (by decide) rfl rfl rfl (y4 (pv 1) (xk xm xm)) (by rfl))
  (xw (cG zS (yz (wA hr.units) (pv 5) xm (yc _)) (xw (yC 8 dR.nd (xr uF (pv 2) (pv 5))) (xw (kZ (i:=2) (j:=5) rfl dR.nd rfl rfl (by decide) rfl rfl (xk (pv 5) (xr wj (pv 2) (xr yr (pv 8) (pv 5)))) (by rfl))
  (xw (kZ (i:=3) (j:=6) rfl dR.nd rfl rfl (by decide) rfl rfl (xk (pv 6) (xr wj (pv 3) (xr yr (pv 8) (pv 6)))) (by rfl))
  (xy (kZ (i:=4) (j:=7) rfl dR.nd rfl rfl (by decide) rfl rfl (xk (pv 7) (xr wj (pv 4) (xr yr (pv 8) (pv 7)))) (by rfl)))))))
  (xy (xQ (yG (xk (xr yr (pv 2) (pv 3)) (xr yr (pv 2) (pv 4))))))))))
  (xD (Hq (zw xc (xo xq xq))) (xD (Hq (zw xc (xo xq xq))) (xD (cj (yB (xl wB xc xq)) (xD (yE (xl uG xc xc)) (xD (kX (xo xc (xl wo xc (xl yu xc xc)))) (xD (kX (xo xc (xl wo xc (xl yu xc xc)))) (kX (xo xc (xl wo xc (xl yu xc xc)))))))) (xY (yF (b:=true) (xo (xl yu xc xc) (xl yu xc xc))))))) λts KK hl h=>?_
 obtain⟨a,b',rfl,hb,hg,k⟩:=h;refine pR (λn τ=>∃(x p q y r s:Int) (z:TV),τ=[.fz (.int a),.fz (.int b'),.fz (.int x),.fz (.int p),.fz (.int q),.fz (.int y),.fz (.int r),.fz (.int s),z]/\n=y.natAbs/\(x.natAbs<=200/\y.natAbs<=200)/\(x=a*p+b'*q/\y=a*r+b'*s)/\Int.gcd x y=1/\(p.natAbs<=2^(8*(200-n))/\q.natAbs<=2^(8*(200-n))/\r.natAbs<=2^(8*(200-n))/\s.natAbs<=2^(8*(200-n)))) b'.natAbs ?_ ?_
 .have:=Nat.one_le_two_pow (n:=8*(200-b'.natAbs));exact⟨a,1,0,b',0,1,_,rfl,rfl,⟨by lia,by lia⟩,⟨by lia,by lia⟩,hg,this,by lia,by lia,this⟩
 .rintro n τ N ⟨x,p,q,y,r,s',z,rfl,rfl,⟨x2,y2⟩,⟨e1,e2⟩,g,p1,q1,r1,s1⟩ hN;have bk:∀ {i:Int},i.natAbs<=2^(8*(200-y.natAbs))->Bk 1650 i:=λh=>je h (Nat.pow_lt_pow_right (by decide) (by lia));refine yi (b:=!decide (y=0)) (λc0=>?_) (λc0=>?_)
  .have c0:y≠0:=by simpa using c0
   have fm:=FO (a:=x) c0;have fd':=bh (a:=x) c0;have mb:Bd (x.fdiv y):=kO (by lia);refine⟨⟨c0,kO (by lia)⟩,⟨mb,kO (by lia)⟩,⟨mb,(bk r1).bd⟩,⟨mb,(bk s1).bd⟩,?_⟩;have ey:=fmod_eq x y;have pw:2^(8*(200-y.natAbs))*256<=2^(8*(200-(x.fmod y).natAbs)):=by rw[show(256:Nat)=2^8 from rfl,<-Nat.pow_add];exact Nat.pow_le_pow_right (by decide) (by lia)
   have big:∀ {i j:Int},i.natAbs<=2^(8*(200-y.natAbs))->j.natAbs<=2^(8*(200-y.natAbs))->(i-x.fdiv y*j).natAbs<=2^(8*(200-(x.fmod y).natAbs)):=λ {i j} h1 h2=>by have m1:(x.fdiv y*j).natAbs=(x.fdiv y).natAbs*j.natAbs:=uU _ _;have m2:(x.fdiv y).natAbs*j.natAbs<=201*2^(8*(200-y.natAbs)):=oq (by lia) h2;have:=Int.natAbs_sub_le i (x.fdiv y*j);lia
   have le:∀ {i:Int},i.natAbs<=2^(8*(200-y.natAbs))->i.natAbs<=2^(8*(200-(x.fmod y).natAbs)):=λh=>wV h (by lia);refine hN (x.fmod y).natAbs _ fm ⟨y,r,s',x-x.fdiv y*y,p-x.fdiv y*r,q-x.fdiv y*s',_,rfl,by rw[ey],⟨y2,by rw[ey];lia⟩,⟨e2,?_⟩,?_,le r1,le s1,big p1 r1,big q1 s1⟩
   .generalize x.fdiv y=m;rw[e1,e2];grind
   .rw[ey,MU];exact g
  .have c0:y=0:=by simpa using c0
   have gx:x.natAbs=1:=by rw[c0,Int.gcd_zero_right] at g;exact g
   have xx:x*x=1:=by rcases(show x=1\/x = -1 by lia) with rfl|rfl<;>rfl
   refine⟨⟨kO (by lia),(bk p1).bd⟩,⟨kO (by lia),(bk q1).bd⟩,k _ _ ?_ ?_ ?_⟩
   .rw[show a*(x*p)+b'*(x*q)=x*(a*p+b'*q) by grind,<-e1,xx]
   .have:(x*p).natAbs=p.natAbs:=by rw[uU,gx,Nat.one_mul]
    exact((bk p1).le (by lia)).mono (by decide)
   .have:(x*q).natAbs=q.natAbs:=by rw[uU,gx,Nat.one_mul]
    exact((bk q1).le (by lia)).mono (by decide)
end
section
variable (P:Program) (w:World) {K:xt} {mg:Str->Option Value} (base:Heap) {f:Addr} {fd:FuncData}
def PM (B:yd mg bn)(D:DF K mg "sum_of" cX f fd ["rows", "weights"])(eG:Ea P w K mg base)(vD:sL P w K mg base) :
  D4 P w K mg base:=by
 refine yq D BK (λhr=>(xw (uy (xA eG hr (xk (pv 0) (pv 1))) (zJ K (n:=2) rfl (xZ (ym 2 BK.nd) (xZ (yU (i:=3) BK.nd rfl (Or.inr rfl)) zE)))) (xy (xQ (dD (rS K) rfl (B.get "tuple") qV (xP (uR (wJ (N:=["top", "bottom"]) (xE:=[none,some 3]) (XN:=["rows", "weights", "tops", "bottom"]) (xs:=xI cX) (by decide +kernel) rfl rfl) rfl (vp rfl) (zh K (pv 2)) (λ_ _ _ _=>(yU (i:=0) (show(["top", "bottom"]:List Str).Nodup by decide +kernel) rfl (Or.inl rfl))) (λ_ _ _ _=>qj) (λ_ _ _ _=>(xA vD hr (xk (pv 0) (pv 1)))))))))))
  (xD (uQ (xF (xo xc xc)) (zP (yb xM (yb xM zI))).g) (xY (eI (xR (zp.e (wy (zH xc).c xM qg (xF (xo xc xc)))))))) λts KK hl h=>?_
 obtain⟨xa,ws,rfl,H0,k⟩:=h;refine⟨xa,ws,rfl,H0,λa b' c D ha hb hc hD=>?_⟩;refine⟨rfl,zF (by show 3<=1000000;decide),?_⟩;have hz:∀x∈xa.zip ws,0<x.2.2:=λx hx=>(H0.zip hx).2.pos;have nz:D≠0:=by have:=ha.pd;lia
 refine⟨_,_,rfl,nz,hD,_,_,rfl,nz,hD,_,_,rfl,nz,hD,?_⟩;have e:∀ {k:Pol.R3->Int} {n:Int},Sd (wsum k (xa.zip ws)) n D->frT (vC n D) (uO n D)=fT (wsum k (xa.zip ws)):=λ {k n} h=>by rw[GQ h.pd,h.low (ls k _ hz)]
 rw[e ha,e hb,e hc];exact k
def PZ (B:yd mg bn)(D:DF K mg "whole_sum" mo f fd ["rows", "weights"])(qB:rO P w K mg base) :
  Ea P w K mg base:=by
 refine yq D k9 (λhr=>(xw (t8 (i:=2) k9.nd rfl (Or.inl rfl) (wJ (N:=["row", "weight"]) (xE:=[none,none]) (XN:=["rows", "weights", "used", "bottom", "row", "weight", "tops", "many"]) (xs:=xI mo) (by decide +kernel) rfl rfl) rfl (jU (uM rfl (uM rfl jV))) (cD K rfl (B.get "zip") (xk (pv 0) (pv 1))) (λ_ _ _ _=>(zJ K (n:=2) rfl (xZ (yU (i:=0) (show(["row", "weight"]:List Str).Nodup by decide +kernel) rfl (Or.inl rfl)) (xZ (yU (i:=1) (show(["row", "weight"]:List Str).Nodup by decide +kernel) rfl (Or.inl rfl)) zE)))) (λ_ _ _ _=>(qC (yz (wA hr.units) (xC K 1) xm (yc _)))) (λ_ _ _ _=>(yG (xk (pv 0) (pv 1)))))
  (xw (yC 3 k9.nd xm) (xw (zX zS rfl (zh K (pv 2)) (zJ K (n:=2) rfl (xZ (ym 4 k9.nd) (xZ (ym 5 k9.nd) zE))) (xy (yC 3 k9.nd (xr yr (xr uF (pv 3) (xA qB hr (xk (pv 3) (xC K 5)))) (xC K 5))))) (xw (yC 6 k9.nd (wk (y4 xm (xk xm xm)))) (xw (zX zS rfl (zh K (pv 2)) (zJ K (n:=2) rfl (xZ (ym 4 k9.nd) (xZ (ym 5 k9.nd) zE))) (xw (kE (i:=7) k9.nd rfl (Or.inr rfl) (xr yr (xr uF (pv 3) (xC K 5)) (xC K 5))) (xy (t8 (i:=6) k9.nd rfl (Or.inl rfl) (wJ (N:=["top", "number", "many"]) (xE:=[none,none,some 7]) (XN:=["rows", "weights", "used", "bottom", "row", "weight", "tops", "many"]) (xs:=xI mo) (by decide +kernel) rfl rfl) rfl (jU (uM rfl (uM rfl jV))) (cD K rfl (B.get "zip") (xk (pv 6) (pv 4))) (λ_ _ _ _=>(zJ K (n:=2) rfl (xZ (yU (i:=0) (show(["top", "number", "many"]:List Str).Nodup by decide +kernel) rfl (Or.inl rfl)) (xZ (yU (i:=1) (show(["top", "number", "many"]:List Str).Nodup by decide +kernel) rfl (Or.inl rfl)) zE)))) (λ_ _ _ _=>qj) (λ_ _ _ _=>(xr ud (pv 0) (xr yr (pv 2) (pv 1))))))))
  (xy (xQ (yG (xk (pv 6) (pv 3)))))))))))
  (xD (yE (zp.e (wy (cg (xo xc xc)).c (zP (yb xM (yb xM zI))) (yB (xl wB xB xq)) (yF (b:=true) (xo xc xc))))) (xD (yE xq) (xD (zW (zH xc) (zP (yb xM (yb xM zI))).g (yE (xl yu (xl uG xc (xF (xo xc xB))) xB))) (xD (yE (vO (b:=true) (zw xq (xo xq xq)))) (xD (zW (zH xc) (zP (yb xM (yb xM zI))).g (xD (yE (xl yu (xl uG xc xB) xB)) (yE (zp.e (wy (cg (xo xc xc)).c (zP (yb xM (yb xM zI))) qg (xl vt xc (xl yu xc xc))))))) (xY (yF (b:=true) (xo xc xc)))))))) λts KK hl h=>?_
 obtain⟨xa,ws,rfl,H0,k⟩:=h;have hl8:=H0.l100;have hlen:=H0.len;have zl:(xa.zip ws).length=xa.length:=by rw[List.length_zip];lia
 have hz:=λx hx=>H0.zip (x:=x) hx;have hu:∀x∈(xa.zip ws).filter jF,yM 10 x.1/\Wt x.2:=λx hx=>hz x (uV.mp hx).1;have ul:((xa.zip ws).filter jF).length<=8:=by have:=Cq jF (xa.zip ws);lia
 refine yO (λτ=>τ=[.fz (.tup (xa.map xh)),.fz (.tup (ws.map fT)),.fz (.lst (((xa.zip ws).filter jF).map rwT)),.un,.un,.un,.un,.un]) ?_ (λN hN=>?_)
 rotate_left
 .show(qI (xa.map xh) (ws.map fT)).length<sizeLine/\_;rw[B4];refine⟨by rw[xO];exact zF (by lia),qu jF rwT (λx hx N M h1 h0=>?_) (hN _ rfl)⟩;exact⟨rfl,yi (b:=!decide (x.2.1=0)) h1 h0⟩
 rintro _ rfl;rw[<-BZ k0 _ λx hx=>(hz x hx).2,<-BZ k1 _ λx hx=>(hz x hx).2,<-BZ k2 _ λx hx=>(hz x hx).2] at k;generalize (xa.zip ws).filter jF=U at hu ul k;refine yO (λτ=>τ=[.fz (.tup (xa.map xh)),.fz (.tup (ws.map fT)),.fz (.lst (U.map rwT)),.fz (.int 1),.un,.un,.un,.un]) ?_ (λN hN=>hN _ rfl);rintro _ rfl;refine yO (λτ=>∃(D:Int) (x4 x5:TV),(0<D/\Bk 330 D/\∀x∈U,x.2.2∣D)/\τ=[.fz (.tup (xa.map xh)),.fz (.tup (ws.map fT)),.fz (.lst (U.map rwT)),.fz (.int D),x4,x5,.un,.un]) ?_ (λN hN=>?_)
 rotate_left
 .refine qF (U.map rwT) (λi τ=>∃(D:Int) (x4 x5:TV),(0<D/\Bk (1+40*i) D/\∀x∈U.take i,x.2.2∣D)/\τ=[.fz (.tup (xa.map xh)),.fz (.tup (ws.map fT)),.fz (.lst (U.map rwT)),.fz (.int D),x4,x5,.un,.un]) (λKK h=>h) ⟨1,_,_,⟨by decide,by unfold Bk;decide,λx hx=>by simp at hx⟩,rfl⟩ ?_ (λτ h=>?_)
  rotate_left
  .obtain⟨D,x4,x5,⟨d1,d2,d3⟩,rfl⟩:=h;rw[xO] at d2 d3;rw[mS] at d3;exact hN _ ⟨D,_,_,⟨d1,d2.mono (by lia),d3⟩,rfl⟩
  rintro i x τ N2 hx ⟨D,x4,x5,⟨d1,d2,d3⟩,rfl⟩ hN2;obtain⟨y,hy,rfl⟩:=u9 hx;have il:i<U.length:=(zc.mp hy).1;obtain⟨hr,hw⟩:=hu y (zG hy);have bD:Bk 330 D:=d2.mono (by lia);obtain⟨s1,s2,s3,s4⟩:=NJ d1 hw.pos;have g0:(0:Int)<(Int.gcd D y.2.2:Nat):=by have:=mJ D (show y.2.2≠0 by have:=hw.pos;lia);lia
  have bg:Bd (Int.gcd D y.2.2:Nat):=by have:=Int.gcd_le_natAbs_left y.2.2 (show D≠0 by lia);exact(bD.le (by lia)).bd
  have bq:Bk 330 (D.fdiv (Int.gcd D y.2.2:Nat)):=by rw[qb (by lia)];exact bD.le (Int.natAbs_ediv_le_natAbs _ _)
  refine⟨rfl,D,y.2.2,rfl,⟨by lia,bg⟩,⟨bq.bd,hw.sm.bot.bd⟩,?_⟩;have e:D.fdiv (Int.gcd D y.2.2:Nat)*y.2.2=D/(Int.gcd D y.2.2:Nat)*y.2.2:=by rw[qb (by lia)]
  refine hN2 _ ⟨D/(Int.gcd D y.2.2:Nat)*y.2.2,.fz (xh y.1),.fz (fT y.2),⟨s1,?_,λz hz'=>?_⟩,by rw[<-e];rfl⟩
  .exact((d2.mul hw.sm.bot).le s4).mono (by lia)
  .rw[vT,hy] at hz';rcases yy.mp hz' with h|h
   .exact Int.dvd_trans (d3 z h) s2
   .simp at h;rw[h];exact s3
 rintro _ ⟨D,x4,x5,⟨d1,d2,d3⟩,rfl⟩;refine yO (λτ=>τ=[.fz (.tup (xa.map xh)),.fz (.tup (ws.map fT)),.fz (.lst (U.map rwT)),.fz (.int D),x4,x5,.fz (.lst [.int 0,.int 0,.int 0]),.un]) ?_ (λN hN=>hN _ rfl);rintro _ rfl;refine yO (λτ=>∃(a b c:Int) (x4 x5 x7:TV),(Sd (wsum k0 U) a D/\Sd (wsum k1 U) b D/\Sd (wsum k2 U) c D)/\τ=[.fz (.tup (xa.map xh)),.fz (.tup (ws.map fT)),.fz (.lst (U.map rwT)),.fz (.int D),x4,x5,.fz (.lst [.int a,.int b,.int c]),x7]) ?_ (λN hN=>?_)
 .rintro _ ⟨a,b',c,x4,x5,x7,⟨h1,h2,h3⟩,rfl⟩;exact k a b' c D h1 h2 h3 d2.bd
 have z0:∀k:Pol.R3->Int,Sd (wsum k []) 0 D:=λk=>⟨by show(0:Int)<1;decide,d1,by show(0:Int)*D=0*1;lia⟩
 refine qF (U.map rwT) (λi τ=>∃(a b c:Int) (x4 x5 x7:TV),(Sd (wsum k0 (U.take i)) a D/\Sd (wsum k1 (U.take i)) b D/\Sd (wsum k2 (U.take i)) c D)/\τ=[.fz (.tup (xa.map xh)),.fz (.tup (ws.map fT)),.fz (.lst (U.map rwT)),.fz (.int D),x4,x5,.fz (.lst [.int a,.int b,.int c]),x7]) (λKK h=>h) ⟨0,0,0,_,_,_,⟨z0 _,z0 _,z0 _⟩,rfl⟩ ?_ (λτ h=>?_)
 rotate_left
 .obtain⟨a,b',c,x4,x5,x7,hs,rfl⟩:=h;rw[xO,mS] at hs;exact hN _ ⟨a,b',c,_,_,_,hs,rfl⟩
 rintro i x τ N2 hx ⟨a,b',c,x4,x5,x7,⟨h1,h2,h3⟩,rfl⟩ hN2;obtain⟨y,hy,rfl⟩:=u9 hx;obtain⟨hr,hw⟩:=hu y (zG hy);have dv:=d3 y (zG hy);have qe:y.2.2*D.fdiv y.2.2=D:=by rw[qb (yo hw.pos)];exact d_ dv
 have bq:Bk 330 (D.fdiv y.2.2):=by rw[qb (yo hw.pos)];exact d2.le (Int.natAbs_ediv_le_natAbs _ _)
 have bm:=bq.mul hw.sm.top;have tk1:U.take (i+1)=U.take i++[y]:=by rw[vT,hy];rfl
 refine⟨rfl,⟨by have:=hw.pos;show y.2.2≠0;lia,hw.sm.bot.bd⟩,⟨bq.bd,hw.sm.top.bd⟩,zF (by show 3<=1000000;decide),?_⟩;refine⟨rfl,⟨bm.bd,hr.1.1.bd⟩,rfl,⟨bm.bd,hr.1.2.bd⟩,rfl,⟨bm.bd,hr.2.bd⟩,?_⟩;refine hN2 _ ⟨_,_,_,_,_,_,⟨?_,?_,?_⟩,rfl⟩
 .rw[tk1,wsum_snoc];exact h1.plusD (BL hw.pos d1 qe)
 .rw[tk1,wsum_snoc];exact h2.plusD (BL hw.pos d1 qe)
 .rw[tk1,wsum_snoc];exact h3.plusD (BL hw.pos d1 qe)
def O4 (B:yd mg bn)(D:DF K mg "cut_of" AV f fd ["totals"])  :
  Dm P w K mg base:=by
 refine yq D pq (λhr=>(xw (uy (pv 0) (zJ K (n:=3) rfl (xZ (ym 1 pq.nd) (xZ (ym 2 pq.nd) (xZ (ym 3 pq.nd) zE))))) (xw (yP (PW.pt (uh (yz (wA hr.units) (xC K 1) xm (yc _)) (uh (yz (wA hr.units) (xC K 2) xm (yc _)) (vP (PW.pt (jC (yz (ue hr.units) (xC K 1) xm (yc _)) (h8 (yz (ue hr.units) (xC K 2) xm (yc _))))))))) (xy Ab) yQ) (xy (xQ (yG (y4 (xC K 1) (xk (xC K 2) (xr uF (xC K 3) (xC K 3))))))))))
  (xD (uQ xc (zP (yb xM (yb xM (yb xM zI)))).g) (xD (yW (uc (yB (xl wB xB xq)) (uc (yB (xl wB xB xq)) (jB (yB (xl os_eq xB xq)) (yB (xl os_eq xB xq))))) eP yX) (xY (yF (b:=true) (zw xB (xo xB (xl uG xB xB))))))) λts KK hl h=>?_
 obtain⟨a,b',c,rfl,hc,⟨h1,h2,h3⟩,k⟩:=h;refine⟨rfl,?_⟩;have cn:c.2≠0:=by lia
 refine yi (b:=!decide (a.2=1)) (λz=>?_) (λ_=>?_)
 .simp[h1] at z
 refine yi (b:=!decide (b'.2=1)) (λz=>?_) (λ_=>?_)
 .simp[h2] at z
 refine yi (b:=decide (a.1=0)) (λz=>?_) (λ_=>?_)
 .have z:=yV z;refine yi (b:=decide (b'.1=0)) (λz2=>?_) (λ_=>?_)
  .exact absurd ⟨z,yV z2⟩ h3
  .exact⟨⟨cn,hc.2⟩,k⟩
 .exact⟨⟨cn,hc.2⟩,k⟩
end
section
variable (P:Program) (w:World) {K:xt} {mg:Str->Option Value} (base:Heap) {f:Addr} {fd:FuncData}
def PK (B:yd mg bn)(D:DF K mg "sides_at" Bs f fd ["field", "place"])(eo:D0 P w K mg base)(eB:D5 P w K mg base) :
  D3 P w K mg base:=by
 refine yq D Td (λhr=>(xy (xQ (xA eo hr (xk (pv 0) (xA eB hr (xk (pv 0) (pv 1))))))))
  (xY (xF (xo xc (xF (xo xc xc))))) λts KK hl h=>?_
 obtain⟨xa,p,rfl,hf,hp,k⟩:=h;have l8:=(wG hf).1.2;have:=JY (xa:=xa) (p:=p);exact⟨xa,p,rfl,by lia,wG.b200 hf,hp,xa,uC xa p,rfl,hf,λm hm=>BX hm,by lia,k⟩
def PJ (B:yd mg bn)(D:DF K mg "sides_among" Br f fd ["rows", "numbers"])(i6:DP P w K mg base) :
  D0 P w K mg base:=by
 refine yq D pG (λhr=>(xw (yC 2 pG.nd (wk uf)) (xw (zX zS rfl (zh K (pv 1)) (ym 3 pG.nd) (xw (yC 4 pG.nd (xA i6 hr (y4 (pv 0) (xk (pv 1) (pv 3))))) (xy (yP (dG (HK (pv 4))) (xy (vE (qi qO jg jh km (pv 2) (xP (yG (xk (pv 3) (pv 4))))))) yQ)))) (xy (xQ (pv 2))))))
  (xD (vX (kW uP)) (xD (zW (zH xc) xM.g (xD (yE (xF (zw xc (xo xc xc)))) (yW (zU (Hf xc)) (kA (yF (b:=true) (xo xc xc))) yX))) aG)) λts KK hl h=>?_
 obtain⟨xa,nums,rfl,hf,hm,hl',k⟩:=h;refine u5 (all:=nums.map vM) (λi τ=>∃x3 x4,τ=[.fz (.tup (xa.map xh)),.fz (.tup (nums.map vM)),.ow (((nums.take i).filterMap λn=>(dq xa nums n).map λm=>(n,m)).map qh),x3,x4]) ⟨_,_,rfl⟩ ?_ ?_
 .rintro i x τ N hxi ⟨x3,x4,rfl⟩ hN;obtain⟨n,hyi,rfl⟩:=u9 hxi;have hn:=hm n (zG hyi);rw[Tw (xa:=xa) hyi] at hN;refine⟨xa,nums,n,rfl,hf,hm,hn,?_⟩;cases q:dq xa nums n with
  |none=>rw[q] at hN;exact hN _ ⟨_,_,by rw[show(Option.map (λm=>(n,m)) none).toList=([]:List (Nat×Nat)) from rfl,um];rfl⟩
  |some m=>rw[q] at hN;refine⟨by rw[xO];exact zF (wV (List.length_filterMap_le _ _) (by rw[uJ];lia)),hN _ ⟨_,_,by rw[uo];rfl⟩⟩
 .rintro τ ⟨x3,x4,rfl⟩;rw[xO,uK (yg _)];exact k
def Pu (B:yd mg bn)(D:DF K mg "next_to_the_left" Bi f fd ["rows", "numbers", "number"])(wg:jN P w K mg base) :
  DP P w K mg base:=by
 refine yq D pE (λhr=>(xw (yC 3 pE.nd dE) (xw (zX zS rfl (zh K (pv 1)) (ym 4 pE.nd) (xy (yP (yz j9 (xA wg hr (xk (y8 (zD K) (pv 0) (pv 2) (λ_ _=>rfl)) (y8 (zD K) (pv 0) (pv 4) (λ_ _=>rfl)))) xm (yc _)) (xy (yP (PW.pt (uh (dG (t5 (pv 3))) (vP (yz j9 (xA wg hr (xk (y8 (zD K) (pv 0) (pv 4) (λ_ _=>rfl)) (y8 (zD K) (pv 0) (pv 3) (λ_ _=>rfl)))) xm (yc _))))) (xy (yC 3 pE.nd (pv 4))) yQ)) yQ))) (xy (xQ (pv 3))))))
  (xD (yE (jA (t:=Tr.non))) (xD (zW (zH xc) xM.g (yW (yB (xl hG (xF (xo (wd xc xc) (wd xc xc))) xq)) (yW (uc (zU (tV xc)) (yB (xl hG (xF (xo (wd xc xc) (wd xc xc))) xq))) (yE xc) yX) yX)) (xY xc))) λts KK hl h=>?_
 obtain⟨xa,nums,n,rfl,hf,hm,hn,k⟩:=h;refine u5 (all:=nums.map vM) (λi τ=>∃x4,τ=[.fz (.tup (xa.map xh)),.fz (.tup (nums.map vM)),.fz (vM n),.fz (optN ((nums.take i).foldl (ub xa n) none)),x4]/\∀y,(nums.take i).foldl (ub xa n) none=some y->y<xa.length) ⟨_,rfl,λy hy=>by cases hy⟩ ?_ ?_
 .rintro i x τ N hxi ⟨x4,rfl,hb⟩ hN;obtain⟨o,hyi,rfl⟩:=u9 hxi;have ho:=hm o (zG hyi);have fold:=bz (ub xa n) none hyi;generalize hacc:(nums.take i).foldl (ub xa n) none=acc at fold hb ⊢;have leaf:∀oo:Option Nat,oo=ub xa n acc o->N [.fz (.tup (xa.map xh)),.fz (.tup (nums.map vM)),.fz (vM n),.fz (optN oo),.fz (vM o)]:=λoo e=>by
   rw[fold] at hN;refine hN _ ⟨_,by rw[e],?_⟩
   .unfold ub;split
    .split
     .intro z hz;cases hz;exact ho
     .split
      .intro z hz;cases hz;exact ho
      .intro z hz;cases hz;exact hb _ rfl
    .exact hb
  show wM (atT (xa.map xh) (n:Int)) _;rw[gL hn];show wM (atT (xa.map xh) (o:Int)) _;rw[gL ho];refine⟨(yf xa n).1,(yf xa n).2.1,(yf xa o).1,(yf xa o).2.1,_,_,rfl,⟨wG.bd hf hn,wG.bd hf ho⟩,?_⟩;refine yi (b:=decide (0<cr (xg xa n) (xg xa o))) (λc=>?_) (λc=>?_)
  .have c:=yV c;cases acc with
   |none=>exact leaf (some o) (by unfold ub;rw[xK c])
   |some z=>
    have hz:=hb z rfl;show wM (atT (xa.map xh) (o:Int)) _;rw[gL ho];show wM (atT (xa.map xh) (z:Int)) _;rw[gL hz];refine⟨(yf xa o).1,(yf xa o).2.1,(yf xa z).1,(yf xa z).2.1,_,_,rfl,⟨wG.bd hf ho,wG.bd hf hz⟩,?_⟩;refine yi (b:=decide (0<cr (xg xa o) (xg xa z))) (λd=>?_) (λd=>?_)
    .exact leaf (some o) (by unfold ub;rw[xK c];exact(xK (yV d)).symm)
    .exact leaf (some z) (by unfold ub;rw[xK c];exact(xH (zZ d)).symm)
  .have c:=zZ c;exact leaf acc (by unfold ub;rw[xH c])
 .rintro τ ⟨x4,rfl,_⟩;rw[xO,uK (yg _)];exact k
def O6 (B:yd mg bn)(D:DF K mg "direction_of" AX f fd ["row"])  :
  oR P w K mg base:=by
 refine yq D SR (λhr=>(xy (xQ (yG (xk (xC K 0) (xC K 0))))))
  (xY (yF (b:=true) (xo xB xB))) λts KK hl h=>?_
 obtain⟨a,b',x,rfl,k⟩:=h;exact k
def PX (B:yd mg bn)(D:DF K mg "weights_towards" BA f fd ["field", "pair", "direction"])(i9:DU P w K mg base)(gS:oR P w K mg base) :
  D9 P w K mg base:=by
 refine yq D mz (λhr=>(xw (uy (pv 1) (zJ K (n:=2) rfl (xZ (ym 3 mz.nd) (xZ (ym 4 mz.nd) zE)))) (xw (yC 5 mz.nd (xA i9 hr (y4 (xA gS hr (xP (y8 (zD K) (pv 0) (pv 3) (λ_ _=>rfl)))) (xk (xA gS hr (xP (y8 (zD K) (pv 0) (pv 4) (λ_ _=>rfl)))) (pv 2))))) (xw (yP (dG (t5 (pv 5))) (xy (xQ dE)) yQ) (xw (yC 6 mz.nd (xr Hw (wk (xP (yG (xk xm xm)))) (yT (uZ K) rfl (B.get "len") uY (xP (pv 0))))) (xw (uy (pv 5) (zJ K (n:=2) rfl (xZ (t7 (pv 6) (pv 3) set_list) (xZ (t7 (pv 6) (pv 4) set_list) zE)))) (xy (xQ (dD (rS K) rfl (B.get "tuple") qV (xP (pv 6)))))))))))
  (xD (uQ xc (zP (yb xM (yb xM zI))).g) (xD (yE (xF (zw (xF (xR (wd xc xc))) (xo (xF (xR (wd xc xc))) xc)))) (xD (yW (zU (tV xc)) (xY (jA (t:=Tr.non))) yX) (xD (vX (P4 (vO (b:=true) (xR (yF (b:=true) (xo xq xq)))) (zO vA (xR xc)))) (xD (uQ xc (P6 (Hl (eM xc) (Hl (eM xc) P7)))) (xY Hi)))))) λts KK hl h=>?_
 obtain⟨xa,x,rfl,hf,G,k⟩:=h;obtain⟨⟨i,j⟩,d⟩:=x;have i1:=G.i1;have i2:=G.i2;have l8:=(wG hf).1.2;have ml:(xa.map xh).length=xa.length:=xO _;refine yO (λτ=>τ=[.fz (.tup (xa.map xh)),.fz (qh (i,j)),.fz (y7 d),.fz (.int (i:Nat)),.fz (.int (j:Nat)),.un,.un]) ?_ (λN hN=>⟨rfl,hN _ rfl⟩);rintro _ rfl;refine yO (λτ=>τ=[.fz (.tup (xa.map xh)),.fz (qh (i,j)),.fz (y7 d),.fz (.int (i:Nat)),.fz (.int (j:Nat)),.fz (.tup [fT (lfr (cr d (xg xa j)) (cr (xg xa i) (xg xa j))),fT (lfr (cr (xg xa i) d) (cr (xg xa i) (xg xa j)))]),.un]) ?_ (λN hN=>?_)
 rotate_left
 .show wM (atT (xa.map xh) (i:Int)) _;rw[gL i1];refine⟨(yf xa i).1,(yf xa i).2.1,_,rfl,?_⟩;show wM (atT (xa.map xh) (j:Int)) _;rw[gL i2];refine⟨(yf xa j).1,(yf xa j).2.1,_,rfl,?_⟩;have b1:=k7 hf i1;have b2:=k7 hf i2;refine⟨_,_,_,_,_,rfl,Et (n:=30) (u:=xg xa i) (v:=xg xa j) (by decide) b1 b2,?_,?_,G.pos,?_⟩
  .exact T4 _ _
  .exact Lo (by decide) G.bx
  have e:gW (xg xa i).1 (xg xa i).2 (xg xa j).1 (xg xa j).2 (y7 d)=_:=Rx G.nz G.inc;have e1:=GX (n:=cr d (xg xa j)) G.pos;have e2:=GX (n:=cr (xg xa i) d) G.pos;refine hN _ ?_;show([.fz (.tup (xa.map xh)),.fz (qh (i,j)),.fz (y7 d),.fz (.int (i:Nat)),.fz (.int (j:Nat)),.fz (gW (xg xa i).1 (xg xa i).2 (xg xa j).1 (xg xa j).2 (y7 d)),.un]:xW)=_;rw[e,e1,e2]
 rintro _ rfl;refine yO (λτ=>τ=[.fz (.tup (xa.map xh)),.fz (qh (i,j)),.fz (y7 d),.fz (.int (i:Nat)),.fz (.int (j:Nat)),.fz (.tup [fT (lfr (cr d (xg xa j)) (cr (xg xa i) (xg xa j))),fT (lfr (cr (xg xa i) d) (cr (xg xa i) (xg xa j)))]),.un]) ?_ (λN hN=>hN _ rfl);rintro _ rfl;refine yO (λτ=>τ=[.fz (.tup (xa.map xh)),.fz (qh (i,j)),.fz (y7 d),.fz (.int (i:Nat)),.fz (.int (j:Nat)),.fz (.tup [fT (lfr (cr d (xg xa j)) (cr (xg xa i) (xg xa j))),fT (lfr (cr (xg xa i) d) (cr (xg xa i) (xg xa j)))]),.ow ((List.replicate xa.length ((0:Int),(1:Int))).map fT)]) ?_ (λN hN=>⟨⟨by lia,by rw[ml];lia⟩,BO (by simp;lia),hN _ (by show([.fz (.tup (xa.map xh)),.fz (qh (i,j)),.fz (y7 d),.fz (.int (i:Nat)),.fz (.int (j:Nat)),.fz (.tup [fT (lfr (cr d (xg xa j)) (cr (xg xa i) (xg xa j))),fT (lfr (cr (xg xa i) d) (cr (xg xa i) (xg xa j)))]),.ow (List.replicate (xa.map xh).length [fT (0,1)]).flatten]:xW)=_;rw[IJ,List.map_replicate,ml])⟩)
 rintro _ rfl;refine yO (λτ=>τ=[.fz (.tup (xa.map xh)),.fz (qh (i,j)),.fz (y7 d),.fz (.int (i:Nat)),.fz (.int (j:Nat)),.fz (.tup [fT (lfr (cr d (xg xa j)) (cr (xg xa i) (xg xa j))),fT (lfr (cr (xg xa i) d) (cr (xg xa i) (xg xa j)))]),.ow ((vF xa ((i,j),d)).map fT)]) ?_ (λN hN=>?_)
 .rintro _ rfl;exact k
 refine⟨rfl,?_⟩;refine Fj ?_;refine Fl (f:=fT) (n:=i) (l:=List.replicate xa.length ((0:Int),(1:Int))) rfl (by rw[Cr];exact i1) (λ_ h=>h) ?_;refine Fj ?_;refine Fl (f:=fT) (n:=j) (l:=(List.replicate xa.length ((0:Int),(1:Int))).set i (lfr (cr d (xg xa j)) (cr (xg xa i) (xg xa j)))) rfl (by rw[jc,Cr];exact i2) (λ_ h=>h) ?_;refine hN _ ?_;show _=([.fz (.tup (xa.map xh)),.fz (qh (i,j)),.fz (y7 d),.fz (.int (i:Nat)),.fz (.int (j:Nat)),.fz (.tup [fT (lfr (cr d (xg xa j)) (cr (xg xa i) (xg xa j))),fT (lfr (cr (xg xa i) d) (cr (xg xa i) (xg xa j)))]),.ow ((wtw xa.length i j (cr d (xg xa j)) (cr (xg xa i) d) (cr (xg xa i) (xg xa j))).map fT)]:xW)
 rw[Uv G.pos];rfl
def Pw (B:yd mg bn)(D:DF K mg "paper_of" Bj f fd ["field", "weights"])(iM:Dm P w K mg base)(eA:D4 P w K mg base) :
  DQ P w K mg base:=by
 refine yq D S_ (λhr=>(xy (xQ (yG (xk (pv 1) (xA iM hr (xP (xA eA hr (xk (pv 0) (pv 1))))))))))
  (xY (yF (b:=true) (xo xc (xF (xR (xF (xo xc xc))))))) λts KK hl h=>?_
 obtain⟨xa,ws,rfl,H0,hc,k⟩:=h;have hb:=H0.bot;exact⟨xa,ws,rfl,H0,_,_,_,rfl,hb,hc,k⟩
def Px (B:yd mg bn)(D:DF K mg "papers_at" Bl f fd ["field", "place"])(et:D3 P w K mg base)(iI:Di P w K mg base)(gS:oR P w K mg base)(i7:DQ P w K mg base)(eE:D9 P w K mg base) :
  DR P w K mg base:=by
 refine yq D aU (λhr=>(xw (yC 2 aU.nd (wk uf)) (xw (zX zS rfl (zh K (xA et hr (xk (pv 0) (pv 1)))) (ym 3 aU.nd) (xw (uy (pv 3) (zJ K (n:=2) rfl (xZ (ym 4 aU.nd) (xZ (ym 5 aU.nd) zE)))) (xy (zX zS rfl (zh K (xA iI hr (xk (xA gS hr (xP (y8 (zD K) (pv 0) (pv 4) (λ_ _=>rfl)))) (xA gS hr (xP (y8 (zD K) (pv 0) (pv 5) (λ_ _=>rfl))))))) (ym 6 aU.nd) (xy (vE (qi qO jg jh km (pv 2) (xP (xA i7 hr (xk (pv 0) (xA eE hr (y4 (pv 0) (xk (pv 3) (pv 6)))))))))))))) (xy (xQ (pv 2))))))
  (xD (vX (kW uP)) (xD (zW (zH (xF (xo xc xc))) xM.g (xD (uQ xc (zP (yb xM (yb xM zI))).g) (zW (zH (xF (xo (xF (xR (wd xc xc))) (xF (xR (wd xc xc)))))) xM.g (kA (xF (xo xc (xF (zw xc (xo xc xc))))))))) aG)) λts KK hl h=>?_
 obtain⟨xa,p,rfl,hf,hp,k⟩:=h;have l8:=(wG hf).1.2;have sl:(ve xa (uC xa p)).length<=8:=wV Tv (wV JY l8);have sm:∀ij∈ve xa (uC xa p),ij.1<xa.length/\ij.2<xa.length/\0<cr (xg xa ij.1) (xg xa ij.2):=λij h=>⟨BX (aX h).1,BX (aX h).2.1,(aX h).2.2⟩
 refine⟨xa,p,rfl,hf,hp,?_⟩;generalize ve xa (uC xa p)=S at k sl sm ⊢;refine u5 (all:=S.map qh) (λi τ=>∃(L:List SX) (x3 x4 x5 x6:TV),gH xa (S.take i) L/\(∀x∈L,Bx 30 x.2/\BxM xa x)/\τ=[.fz (.tup (xa.map xh)),.fz (pT p),.ow (L.map (ug xa)),x3,x4,x5,x6]) ⟨[],_,_,_,_,⟨λx hx=>by simp at hx,λx hx=>by simp at hx,by simp⟩,(λx hx=>by cases hx),rfl⟩ ?_ ?_
 .rintro i x τ N hxi ⟨L,x3,x4,x5,x6,hL,b30,rfl⟩ hN;obtain⟨⟨a,b'⟩,hyi,rfl⟩:=u9 hxi;obtain⟨i1,i2,hp'⟩:=sm _ (zG hyi);refine⟨rfl,?_⟩;show wM (atT (xa.map xh) (a:Int)) _;rw[gL i1];refine⟨(yf xa a).1,(yf xa a).2.1,_,rfl,?_⟩;show wM (atT (xa.map xh) (b':Int)) _;rw[gL i2];refine⟨(yf xa b').1,(yf xa b').2.1,_,rfl,?_⟩;refine⟨xg xa a,xg xa b',rfl,(k7 hf i1).mono (by decide),(k7 hf i2).mono (by decide),hp',λh B=>?_⟩;have tl:(S.take i).length<=8:=by rw[uJ];lia
  have L1:=hL.len;refine u5 (all:=h.map y7) (λj τ=>∃x6:TV,τ=[.fz (.tup (xa.map xh)),.fz (pT p),.ow ((L++(h.take j).map λd=>((a,b'),d)).map (ug xa)),.fz (qh (a,b')),.fz (.int (a:Nat)),.fz (.int (b':Nat)),x6]) ⟨x6,by rw[om,fu,um];rfl⟩ ?_ ?_
  .rintro j y τ N2 hyj ⟨x6,rfl⟩ hN2;obtain⟨d,hdj,rfl⟩:=u9 hyj;have G:=Ge i1 i2 hp' B (zG hdj);refine⟨xa,((a,b'),d),rfl,hf,G,xa,vF xa ((a,b'),d),rfl,wG.ws hf (G.gw hf),G.cut hf,?_⟩;have B1:=B.len;refine⟨by rw[xO,zy,xO,uJ];exact zF (by lia),hN2 _ ⟨.fz (y7 d),?_⟩⟩;rw[vT,hdj];simp only[uo,Option.toList,vS,fu,<-v5];rfl
  .rintro τ ⟨x6,rfl⟩;rw[xO,uK (yg _)];refine hN _ ⟨_,_,_,_,_,?_,λx hx=>?_,rfl⟩
   .rw[vT,hyi];exact hL.snoc i1 i2 hp' B
   .rcases yy.mp hx with hx|hx
    .exact b30 x hx
    .obtain⟨d,hd,rfl⟩:=zQ.mp hx;exact⟨L2.v9.b30 hp' B (k7 hf i1) (k7 hf i2) d hd,λM h0 hb=>L2.v9.bM h0 hp' B (hb _ i1) (hb _ i2) d hd⟩
 .rintro τ ⟨L,x3,x4,x5,x6,hL,b30,rfl⟩;rw[xO,uK (yg _)] at hL;exact k L hL b30
end
section
variable (P:Program) (w:World) {K:xt} {mg:Str->Option Value} (base:Heap) {f:Addr} {fd:FuncData}
def PH (B:yd mg bn)(D:DF K mg "round_papers" Bq f fd ["field"])(iJ:Dj P w K mg base)(i8:DR P w K mg base) :
  DZ P w K mg base:=by
 refine yq D pF (λhr=>(xw (yC 1 pF.nd HM) (xw (zX zS rfl (zh K (xA iJ hr (xP (pv 0)))) (ym 2 pF.nd) (xy (zX zS rfl (zh K (xA i8 hr (xk (pv 0) (pv 2)))) (ym 3 pF.nd) (xy (vE (qi PySem.F.plainAttrs_dict PySem.F.slot_dict_setdefault PySem.F.type_dict_setdefault (Oc (huR hr)) (pv 1) (xk (xC K 3) (pv 3)))))))) (xy (xQ (dD (Lv rfl) rfl (B.get "list") o6 (xP (HL PySem.F.plainAttrs_dict PySem.F.slot_dict_values PySem.F.type_dict_values Od (pv 1)))))))))
  (xD Ho (xD (zW (zH (xF (xR xc))) xM.g (zW (zH (xF (xo xc xc))) xM.g (Qd xB xc))) (dB P5))) λts KK hl h=>?_
 obtain⟨xa,rfl,hf,FR,k⟩:=h;refine yO (λτ=>τ=[.fz (.tup (xa.map xh)),.od (kvX xa []),.un,.un]) ?_ (λN hN=>hN _ rfl);rintro _ rfl;refine yO (λτ=>∃(Ls:List SX) (x2 x3:TV),RPi xa ((xS xa).filter brk) Ls/\τ=[.fz (.tup (xa.map xh)),.od (kvX xa Ls),x2,x3]) ?_ (λN hN=>?_)
 .rintro _ ⟨Ls,x2,x3,P,rfl⟩;have:=k Ls (P.done hf FR);show KK (.lst ((kvX xa Ls).map (·.2)));unfold kvX;rw[vy];exact this
 refine qF (((xS xa).filter brk).map xG) (λi τ=>∃(Ls:List SX) (x2 x3:TV),RPi xa (((xS xa).filter brk).take i) Ls/\τ=[.fz (.tup (xa.map xh)),.od (kvX xa Ls),x2,x3]) (λKK h=>⟨xa,rfl,hf,FR,h⟩) ⟨[],_,_,RPi.nil xa,rfl⟩ ?_ (λτ ⟨Ls,x2,x3,P,e⟩=>hN _ ⟨Ls,x2,x3,by rw[xO,mS] at P;exact P,e⟩);rintro i x τ N2 hx ⟨Ls,x2,x3,P,rfl⟩ hN2;obtain⟨v,hvi,rfl⟩:=u9 hx;obtain⟨mv,bv⟩:=uV.mp (zG hvi);refine⟨xa,xn v,rfl,hf,FR.pk mv,λL PL b30=>?_⟩;refine u5 (all:=L.map (ug xa)) (λj τ=>∃(Ls:List SX) (x3:TV),RPi xa (((xS xa).filter brk).take i) Ls/\(∀x∈L.take j,∃y∈Ls,yS xa y=yS xa x)/\τ=[.fz (.tup (xa.map xh)),.od (kvX xa Ls),.fz (xG v),x3]) ⟨Ls,x3,P,λx hx=>(by rw[om] at hx;cases hx),rfl⟩ ?_ ?_
 .clear P;rintro j y τ N3 hy ⟨Ls,x3,P,Q,rfl⟩ hN3;obtain⟨x,hxj,rfl⟩:=u9 hy;have mx:=zG hxj;have R1:=Rv hf mv bv PL mx (b30 x mx).1;have ln:=HJ hf FR P.snd P.nd;refine⟨kyR (yS xa x),rfl,by unfold kvX;rw[xO];exact zF (by lia),hN3 _ ⟨kF xa Ls x,.fz (ug xa x),P.put R1 (b30 x mx).2,λz hz=>?_,?_⟩⟩
  .rw[vT,hxj] at hz;rcases yy.mp hz with hz|hz
   .obtain⟨y,hy,e⟩:=Q z hz;exact⟨y,HZ hy,e⟩
   .rw[zR.mp hz];exact RU xa Ls x
  .show([.fz (.tup (xa.map xh)),.od (putD (kvX xa Ls) (kyR (yS xa x)) (ug xa x)),.fz (xG v),.fz (ug xa x)]:xW)=_;rw[RQ]
 .rintro τ ⟨Ls,x3,P,Q,rfl⟩;rw[xO,mS] at Q;refine hN2 _ ⟨Ls,_,_,⟨P.bx,P.snd,P.nd,λu hu=>?_⟩,rfl⟩;rw[vT,hvi] at hu;rcases yy.mp hu with hu|hu
  .exact P.all u hu
  .rw[zR.mp hu];exact⟨L,PL,Q⟩
end
section
variable (P:Program) (w:World) {K:xt} {mg:Str->Option Value} (base:Heap) {f:Addr} {fd:FuncData}
def OC (B:yd mg bn)(D:DF K mg "_law_field" mf f fd ["_law_state_here"])(vb:xV P w K mg base 1 "_law_take" ["_law_state_here", "_law_many"] (spT 1 true false eU)) :
  C6 P w K mg base:=by
 refine Qk D.1 vv D.2 D.3 rfl (λ_ _ _ _ _ _ hr=>⟨_,_,(xw (yC 1 vv.nd (xA vb hr (xk (pv 0) xm))) (xw (yC 2 vv.nd (wk uf)) (xw (yP (yz (kB K hr.units) (pv 1) xm (yc _)) (xw (zX zS rfl (zh K (wk (y4 (yG (xk (wO wQ xm) xm)) (y4 (yG (xk xm xm)) (xk (yG (xk xm (wO wQ xm))) (yG (xk xm xm))))))) (zJ K (n:=2) rfl (xZ (ym 3 vv.nd) (xZ (ym 4 vv.nd) zE))) (xw (yC 5 vv.nd (xr ud xm (xA vb hr (xk (pv 0) xm)))) (xy (vE (qi qO jg jh km (pv 2) (xP (yG (y4 (xr yr (pv 3) (pv 5)) (xk (xr yr (pv 4) (pv 5)) (xr ud (xr yr (pv 5) (xA vb hr (xk (pv 0) xm))) (xA vb hr (xk (pv 0) (pv 5))))))))))))) (xw (zX zS rfl (hV rfl (B.get "range") (xP (xA vb hr (xk (pv 0) xm)))) (ym 6 vv.nd) (xw (kZ (i:=3) (j:=4) rfl vv.nd rfl rfl (by decide) rfl rfl (xk (xr wj (xA vb hr (xk (pv 0) xm)) xm) (xr wj (xA vb hr (xk (pv 0) xm)) xm)) (by rfl))
  (xw (yP (PW.pt (jC (yz (ue hr.units) (pv 3) xm (yc _)) (h8 (yz (ue hr.units) (pv 4) xm (yc _))))) (xy (yC 3 vv.nd xm)) yQ) (xw (yC 7 vv.nd (xr ud (xr yr (pv 3) (xr wj (xA vb hr (xk (pv 0) xm)) xm)) (xr yr (pv 4) (xr wj (xA vb hr (xk (pv 0) xm)) xm)))) (xy (vE (qi qO jg jh km (pv 2) (xP (yG (y4 (pv 3) (xk (pv 4) (xr wj (xr ud (pv 7) (xA vb hr (xk (pv 0) xm))) xm))))))))))))
  (xy (yP (yz (ue hr.units) (xA vb hr (xk (pv 0) xm)) xm (yc _)) (xy (vE (qi qO jg jh km (pv 2) (xP (yG (y4 (xr wj xm (y8 (zD K) (y8 (zD K) (pv 2) (wO wQ xm) (λ_ _=>rfl)) xm (λ_ _=>rfl))) (xk (xr wj xm (y8 (zD K) (y8 (zD K) (pv 2) (wO wQ xm) (λ_ _=>rfl)) xm (λ_ _=>rfl))) (xr wj xm (y8 (zD K) (y8 (zD K) (pv 2) (wO wQ xm) (λ_ _=>rfl)) xm (λ_ _=>rfl)))))))))) yQ)))) yQ)
  (xw (yP (yz (ue hr.units) (pv 1) xm (yc _)) (xw (yC 8 vv.nd (xr ud xm (xA vb hr (xk (pv 0) xm)))) (xy (yC 2 vv.nd (wk (y4 (yG (y4 (wO wQ xm) (xk xm xm))) (xk (yG (y4 xm (xk (xr yr (wO wQ xm) (pv 8)) xm))) (yG (y4 xm (xk (xr yr xm (pv 8)) (xr yr xm (pv 8))))))))))) yQ) (xw (yP (yz (ue hr.units) (pv 1) xm (yc _)) (xw (yC 9 vv.nd (y8 (zD K) (wk (xk (wk (y4 (yG (xk (wO wQ xm) xm)) (xk (yG (xk xm (wO wQ xm))) (yG (xk xm xm))))) (wk (y4 (yG (xk (wO wQ xm) (wO wQ xm))) (xk (yG (xk xm (wO wQ xm))) (yG (xk xm xm))))))) (xA vb hr (xk (pv 0) xm)) (λ_ _=>rfl))) (xy (t8 (i:=2) vv.nd rfl (Or.inl rfl) (wJ (N:=["_law_a", "_law_b", "_law_state_here"]) (xE:=[none,none,some 0]) (XN:=["_law_state_here", "_law_way", "_law_rows", "_law_a", "_law_b", "_law_by", "_law_turn", "_law_near", "_law_k", "_law_some", "_law_u", "_law_v"]) (xs:=xI mf) (by decide +kernel) rfl rfl) rfl (jU (uM rfl (uM rfl jV))) (zh K (pv 9)) (λ_ _ _ _=>(zJ K (n:=2) rfl (xZ (yU (i:=0) (show(["_law_a", "_law_b", "_law_state_here"]:List Str).Nodup by decide +kernel) rfl (Or.inl rfl)) (xZ (yU (i:=1) (show(["_law_a", "_law_b", "_law_state_here"]:List Str).Nodup by decide +kernel) rfl (Or.inl rfl)) zE)))) (λ_ _ _ _=>qj) (λ_ _ _ _=>(yG (y4 (pv 0) (xk (pv 1) (xA vb hr (xk (pv 2) xm))))))))) yQ)
  (xw (uy (yG (xk (xr wj (xA vb hr (xk (pv 0) xm)) xm) (xr wj (xA vb hr (xk (pv 0) xm)) xm))) (zJ K (n:=2) rfl (xZ (yU (i:=10) vv.nd rfl (Or.inr rfl)) (xZ (yU (i:=11) vv.nd rfl (Or.inr rfl)) zE)))) (xw (t8 (i:=2) vv.nd rfl (Or.inl rfl) (wJ (N:=["_law_a", "_law_b", "_law_c", "_law_v", "_law_u"]) (xE:=[none,none,none,some 11,some 10]) (XN:=["_law_state_here", "_law_way", "_law_rows", "_law_a", "_law_b", "_law_by", "_law_turn", "_law_near", "_law_k", "_law_some", "_law_u", "_law_v"]) (xs:=xI mf) (by decide +kernel) rfl rfl) rfl (jU (uM rfl (uM rfl (uM rfl jV)))) (zh K (pv 2)) (λ_ _ _ _=>(zJ K (n:=3) rfl (xZ (yU (i:=0) (show(["_law_a", "_law_b", "_law_c", "_law_v", "_law_u"]:List Str).Nodup by decide +kernel) rfl (Or.inl rfl)) (xZ (yU (i:=1) (show(["_law_a", "_law_b", "_law_c", "_law_v", "_law_u"]:List Str).Nodup by decide +kernel) rfl (Or.inl rfl)) (xZ (yU (i:=2) (show(["_law_a", "_law_b", "_law_c", "_law_v", "_law_u"]:List Str).Nodup by decide +kernel) rfl (Or.inl rfl)) zE))))) (λ_ _ _ _=>qj) (λ_ _ _ _=>(yG (y4 (pv 0) (xk (pv 1) (xr ud (xr ud (pv 2) (xr yr (pv 0) (pv 4))) (xr yr (pv 1) (pv 3))))))))
  (xw (yC 6 vv.nd (xA vb hr (xk (pv 0) (yT (uZ K) rfl (B.get "len") uY (xP (pv 2)))))) (xy (xQ (dD (rS K) rfl (B.get "tuple") qV (xP (xr cq (gY (pJ K) (pv 2) (g9 (pv 6)) g6) (gY (pJ K) (pv 2) g6 (g9 (pv 6)))))))))))))))),
  (xD (yE (vq (xR xq))) (xD (vX (kW uP)) (xD (yW (yB (xl kC xc xq)) (xD (zW (zH (vO (b:=true) (zw (yF (b:=true) (xo (wN xq) xq)) (zw (yF (b:=true) (xo xq xq)) (xo (yF (b:=true) (xo xq (wN xq))) (yF (b:=true) (xo xq xq))))))) (zP (yb xM (yb xM zI))).g (xD (yE (xl vt xq (vq (xR xq)))) (kA (yF (b:=true) (zw (xl yu xc xc) (xo (xl yu xc xc) (xl vt (xl yu xc (vq (xR xq))) (vq (xR xc))))))))) (xD (zW (j8 (xR (vq (xR xq)))) xM.g (xD (kX (xo (xl wo (vq (xR xq)) xq) (xl wo (vq (xR xq)) xq))) (xD (yW (jB (yB (xl os_eq xc xq)) (yB (xl os_eq xc xq))) (yE xq) yX) (xD (yE (xl vt (xl yu xc (xl wo (vq (xR xq)) xq)) (xl yu xc (xl wo (vq (xR xq)) xq)))) (kA (yF (b:=true) (zw xc (xo xc (xl wo (xl vt xc (vq (xR xq))) xq))))))))) (yW (yB (xl os_eq (vq (xR xq)) xq)) (kA (yF (b:=true) (zw (xl wo xq (wd (dA (wN xq)) xq)) (xo (xl wo xq (wd (dA (wN xq)) xq)) (xl wo xq (wd (dA (wN xq)) xq)))))) yX))) yX) (xD (yW (yB (xl os_eq xc xq)) (xD (yE (xl vt xq (vq (xR xq)))) (vX (kW (zw (yF (b:=true) (zw (wN xq) (xo xq xq))) (xo (yF (b:=true) (zw xq (xo (xl yu (wN xq) xc) xq))) (yF (b:=true) (zw xq (xo (xl yu xq xc) (xl yu xq xc))))))))) yX) (xD (yW (yB (xl os_eq xc xq)) (xD (yE (wd (vO (b:=true) (xo (vO (b:=true) (zw (yF (b:=true) (xo (wN xq) xq)) (xo (yF (b:=true) (xo xq (wN xq))) (yF (b:=true) (xo xq xq))))) (vO (b:=true) (zw (yF (b:=true) (xo (wN xq) (wN xq))) (xo (yF (b:=true) (xo xq (wN xq))) (yF (b:=true) (xo xq xq))))))) (vq (xR xq)))) (vX (wy (zH xc).c (zP (yb xM (yb xM zI))) qg (yF (b:=true) (zw xc (xo xc (vq (xR xq)))))))) yX) (xD (uQ (yF (b:=true) (xo (xl wo (vq (xR xq)) xq) (xl wo (vq (xR xq)) xq))) (zP (yb xM (yb xM zI))).g) (xD (vX (wy tW (zP (yb xM (yb xM (yb xM zI)))) qg (yF (b:=true) (zw xc (xo xc (xl vt (xl vt xc (xl yu xc xc)) (xl yu xc xc))))))) (xD (yE (vq (xR (zO vA (xR j7))))) (xY (eI (xR (zp.e (eJ (zp.e (Hj (gU xc) gT)) (zp.e (Hj gT (gU xc)))))))))))))))),λts KK hl h=>?_⟩)
 obtain⟨rfl,k⟩:=h;refine⟨tk (by decide),λw w0 w6=>?_⟩;dsimp only;refine yO (λτ=>τ=[.st,.fz (.int w),.ow [],.un,.un,.un,.un,.un,.un,.un,.un,.un]) ?_ (λN hN=>hN _ rfl);rintro _ rfl;refine yO (λτ=>∃(xa:List Pol.R3) (x:TV9),τ=[.st,.fz (.int w),.ow (xa.map xh),x.1,x.2.1,x.2.2.1,x.2.2.2.1,x.2.2.2.2.1,x.2.2.2.2.2.1,x.2.2.2.2.2.2.1,x.2.2.2.2.2.2.2.1,x.2.2.2.2.2.2.2.2]/\(w<4->LF0 xa)) ?_ ?_
 rotate_left
 .intro N hN;refine yi (b:=decide (w<4)) (λc=>?_) (λc=>hN _ ⟨[],⟨_,_,_,_,_,_,_,_,_⟩,rfl,λz=>absurd z (zZ c)⟩);refine yO (λτ=>∃(xa:List Pol.R3) (x:TV9),τ=[.st,.fz (.int w),.ow (xa.map xh),x.1,x.2.1,x.2.2.1,x.2.2.2.1,x.2.2.2.2.1,x.2.2.2.2.2.1,x.2.2.2.2.2.2.1,x.2.2.2.2.2.2.2.1,x.2.2.2.2.2.2.2.2]/\gE xa) ?_ ?_
  rotate_left
  .intro N hN;refine qF (rZ.map dT) (λi τ=>∃(xa:List Pol.R3) (x:TV9),τ=[.st,.fz (.int w),.ow (xa.map xh),x.1,x.2.1,x.2.2.1,x.2.2.2.1,x.2.2.2.2.1,x.2.2.2.2.2.1,x.2.2.2.2.2.2.1,x.2.2.2.2.2.2.2.1,x.2.2.2.2.2.2.2.2]/\sI i xa) (λKK h=>h) ⟨[],⟨_,_,_,_,_,_,_,_,_⟩,rfl,rfl,λj r d h=>by simp at h⟩ ?_ ?_
   .rintro i it τ N2 hx ⟨xa,x,rfl,hu⟩ hN2;obtain⟨d,hd,rfl⟩:=u9 hx;have ds:=Me hd;have hi:=(zc.mp hd).1;have hi:i<4:=hi;refine⟨rfl,tk (by decide),λr a1 a2=>⟨qX (by lia) (by lia),qX (by lia) (by lia),tk (by decide),λs a3 a4=>⟨qX (by lia) (by lia),tk (by lia),λq a5 a6=>⟨by rw[xO,hu.1];exact zF (by lia),?_⟩⟩⟩⟩;have x1:=Pol.pz (show 0<=1+r by lia) a3;have x2:(1+r)*s<=(1+r)*4:=we (by lia) (by lia);have st:=hu.step hd (b:=1+r) (c:=(1+r)*s+q) (by lia);have e:xa.map xh++[Tr.tup [.int (d.1*(1+r)),.int (d.2*(1+r)),.int ((1+r)*s+q)]]=(xa++[(d.1*(1+r),d.2*(1+r),(1+r)*s+q)]).map xh:=by rw[uo];rfl
    show N2 [.st,.fz (.int w),.ow (xa.map xh++[Tr.tup [.int (d.1*(1+r)),.int (d.2*(1+r)),.int ((1+r)*s+q)]]),_,_,_,_,_,_,_,_,_];rw[e];exact hN2 _ ⟨_,⟨_,_,_,_,_,_,_,_,_⟩,rfl,st⟩
   .rintro τ ⟨xa,x,rfl,hu⟩;exact hN _ ⟨xa,⟨_,_,_,_,_,_,_,_,_⟩,rfl,hu.box⟩
  rintro _ ⟨four,x,rfl,hB⟩;have fl:=hB.len;refine yO (λτ=>∃(ex:List Pol.R3) (x:TV9),τ=[.st,.fz (.int w),.ow ((four++ex).map xh),x.1,x.2.1,x.2.2.1,x.2.2.2.1,x.2.2.2.2.1,x.2.2.2.2.2.1,x.2.2.2.2.2.2.1,x.2.2.2.2.2.2.2.1,x.2.2.2.2.2.2.2.2]/\ex.length<=3/\∀r∈ex,Extra r) ?_ ?_
  rotate_left
  .intro N hN;refine⟨tk (by decide),λn n0 n4=>⟨⟨by lia,by lia⟩,?_⟩⟩;refine u5 (λi τ=>∃(ex:List Pol.R3) (x:TV9),τ=[.st,.fz (.int w),.ow ((four++ex).map xh),x.1,x.2.1,x.2.2.1,x.2.2.2.1,x.2.2.2.2.1,x.2.2.2.2.2.1,x.2.2.2.2.2.2.1,x.2.2.2.2.2.2.2.1,x.2.2.2.2.2.2.2.2]/\ex.length=i/\∀r∈ex,Extra r) ⟨[],⟨_,_,_,_,_,_,_,_,_⟩,by rw[um],rfl,λr hr=>by simp at hr⟩ ?_ ?_
   .rintro i it τ N2 hx ⟨ex,x,rfl,hl,he⟩ hN2;have hi:i<n.toNat:=by have:=(zc.mp hx).1;rw[uS] at this;exact this
    show dP _ _ _ ([.st,.fz (.int w),.ow ((four++ex).map xh),x.1,x.2.1,x.2.2.1,.fz it,x.2.2.2.2.1,x.2.2.2.2.2.1,x.2.2.2.2.2.2.1,x.2.2.2.2.2.2.2.1,x.2.2.2.2.2.2.2.2]:xW);refine yO (λτ=>∃a b:Int,τ=[.st,.fz (.int w),.ow ((four++ex).map xh),.fz (.int a),.fz (.int b),x.2.2.1,.fz it,x.2.2.2.2.1,x.2.2.2.2.2.1,x.2.2.2.2.2.2.1,x.2.2.2.2.2.2.2.1,x.2.2.2.2.2.2.2.2]/\((-6<=a/\a<=6)/\(-6<=b/\b<=6))) ?_ (λN3 hN3=>⟨tk (by decide),λa a0 a1=>⟨tk (by decide),λb b0 b1=>hN3 _ ⟨a-6,b-6,rfl,by lia⟩⟩⟩);rintro _ ⟨a,b,rfl,hab⟩;refine yO (λτ=>∃a b:Int,τ=[.st,.fz (.int w),.ow ((four++ex).map xh),.fz (.int a),.fz (.int b),x.2.2.1,.fz it,x.2.2.2.2.1,x.2.2.2.2.2.1,x.2.2.2.2.2.2.1,x.2.2.2.2.2.2.2.1,x.2.2.2.2.2.2.2.2]/\((-6<=a/\a<=6)/\(-6<=b/\b<=6))/\(a≠0\/b≠0)) ?_ ?_
    rotate_left
    .intro N3 hN3;refine yi (b:=decide (a=0)) (λc=>?_) (λc=>?_)
     .refine yi (b:=decide (b=0)) (λd=>?_) (λd=>?_)
      .exact hN3 _ ⟨2,b,rfl,by lia,.inl (by decide)⟩
      .exact hN3 _ ⟨a,b,rfl,by lia,.inr (zZ d)⟩
     .exact qd (hN3 _ ⟨a,b,rfl,by lia,.inl (zZ c)⟩)
    rintro _ ⟨a,b,rfl,hab,hne⟩;refine⟨tk (by decide),λs s0 s5=>⟨qX (by lia) (by lia),tk (by decide),λq q0 q5=>⟨qX (by lia) (by lia),tk (by decide),λt t0 t9=>⟨by rw[xO,zy];exact zF (by lia),?_⟩⟩⟩⟩;have m1:=aq hab.1.1 hab.1.2 (show -2<=s-2 by lia) (show s-2<=2 by lia) (by decide) (by decide);have m2:=aq hab.2.1 hab.2.2 (show -2<=q-2 by lia) (show q-2<=2 by lia) (by decide) (by decide);have e:(four++ex).map xh++[Tr.tup [.int a,.int b,.int (a*(s-2)+b*(q-2)+t-1)]]=(four++(ex++[(a,b,a*(s-2)+b*(q-2)+t-1)])).map xh:=by rw[<-v5,Js];rfl
    show N2 [.st,.fz (.int w),.ow ((four++ex).map xh++[Tr.tup [.int a,.int b,.int (a*(s-2)+b*(q-2)+t-1)]]),_,_,_,_,_,_,_,_,_];rw[e];refine hN2 _ ⟨ex++[(a,b,a*(s-2)+b*(q-2)+t-1)],⟨.fz (.int a),.fz (.int b),x.2.2.1,.fz it,.fz (.int (a*(s-2)+b*(q-2))),x.2.2.2.2.2.1,x.2.2.2.2.2.2.1,x.2.2.2.2.2.2.2.1,x.2.2.2.2.2.2.2.2⟩,rfl,by simp[hl],λr hr=>?_⟩;rcases yy.mp hr with h|h
    .exact he r h
    .rw[zR.mp h];unfold Extra;simp only;lia
   .rintro τ ⟨ex,x,rfl,hl,he⟩;rw[uS] at hl;exact hN _ ⟨ex,⟨_,_,_,_,_,_,_,_,_⟩,rfl,by lia,he⟩
  rintro _ ⟨ex,x,rfl,hl,he⟩;refine⟨tk (by decide),λe e0 e8=>?_⟩;refine yi (b:=decide (e=0)) (λc=>?_) (λc=>?_)
  .obtain⟨ini,l,el,hx⟩:=hB.last he;have la:atT ((four++ex).map xh) (-1)=some (xh l):=by rw[el,uo];exact rP _ _
   show wM (atT ((four++ex).map xh) (-1)) _;rw[la];show wM (atT ((four++ex).map xh) (-1)) _;rw[la];show wM (atT ((four++ex).map xh) (-1)) _;rw[la];have e:(four++ex).map xh++[Tr.tup [.int (0-l.1),.int (0-l.2.1),.int (0-l.2.2)]]=(four++(ex++[(0-l.1,0-l.2.1,0-l.2.2)])).map xh:=by rw[<-v5,Js];rfl
   refine⟨by rw[xO,zy];exact zF (by lia),?_⟩;show N [.st,.fz (.int w),.ow ((four++ex).map xh++[Tr.tup [.int (0-l.1),.int (0-l.2.1),.int (0-l.2.2)]]),_,_,_,_,_,_,_,_,_];rw[e];refine hN _ ⟨_,⟨_,_,_,_,_,_,_,_,_⟩,rfl,λ_=>hB.lf (λr hr=>?_) (by simp;lia)⟩;rcases yy.mp hr with h|h
   .exact he r h
   .rw[zR.mp h];exact hx
  .exact hN _ ⟨_,⟨_,_,_,_,_,_,_,_,_⟩,rfl,λ_=>hB.lf he (by lia)⟩
 rintro _ ⟨xa,x,rfl,h4⟩;refine yO (λτ=>∃(xa:List Pol.R3) (x:TV9),τ=[.st,.fz (.int w),.ow (xa.map xh),x.1,x.2.1,x.2.2.1,x.2.2.2.1,x.2.2.2.2.1,x.2.2.2.2.2.1,x.2.2.2.2.2.2.1,x.2.2.2.2.2.2.2.1,x.2.2.2.2.2.2.2.2]/\(w<5->LF0 xa)) ?_ ?_
 rotate_left
 .intro N hN;refine yi (b:=decide (w=4)) (λc=>?_) (λc=>hN _ ⟨_,⟨_,_,_,_,_,_,_,_,_⟩,rfl,λz=>h4 (by have:=zZ c;lia)⟩);refine⟨tk (by decide),λr a1 a2=>⟨qX (by lia) (by lia),qX (by lia) (by lia),qX (by lia) (by lia),?_⟩⟩;exact hN _ ⟨[(-1,0,0),(1,-2*(1+r),0),(1,2*(1+r),2*(1+r))],⟨x.1,x.2.1,x.2.2.1,x.2.2.2.1,x.2.2.2.2.1,.fz (.int (1+r)),x.2.2.2.2.2.2.1,x.2.2.2.2.2.2.2.1,x.2.2.2.2.2.2.2.2⟩,rfl,λ_=>TJ (by lia) (by lia)⟩
 rintro _ ⟨xa,x,rfl,h5⟩;refine yO (λτ=>∃(xa:List Pol.R3) (x:TV9),τ=[.st,.fz (.int w),.ow (xa.map xh),x.1,x.2.1,x.2.2.1,x.2.2.2.1,x.2.2.2.2.1,x.2.2.2.2.2.1,x.2.2.2.2.2.2.1,x.2.2.2.2.2.2.2.1,x.2.2.2.2.2.2.2.2]/\LF0 xa) ?_ ?_
 rotate_left
 .intro N hN;refine yi (b:=decide (w=5)) (λc=>?_) (λc=>hN _ ⟨_,⟨_,_,_,_,_,_,_,_,_⟩,rfl,h5 (by have:=zZ c;lia)⟩);refine⟨tk (by decide),λe e0 e2=>?_⟩;obtain rfl|rfl:e=0\/e=1:=by lia
  .refine⟨zF (show(3:Nat)<=1000000 by decide),Eu (f:=dT) (l:=[(-2,1),(1,-3),(2,3)]) Drawn (λd _ N2 h2=>?_) (λys hy=>?_)⟩
   .exact⟨rfl,tk (by decide),λc c0 c8=>h2 _ ⟨c,⟨c0,c8⟩,rfl⟩⟩
   .obtain⟨d1,d2,d3,g,rfl⟩:=Fh hy;exact hN _ ⟨[(-2,1,d1),(1,-3,d2),(2,3,d3)],⟨x.1,x.2.1,x.2.2.1,x.2.2.2.1,x.2.2.2.2.1,x.2.2.2.2.2.1,.fz (.lst (([(-2,1),(1,-3),(2,3)]:List (Int×Int)).map dT)),x.2.2.2.2.2.2.2.1,x.2.2.2.2.2.2.2.2⟩,rfl,T1 g.1 g.2.1 g.2.2⟩
  .refine⟨zF (show(3:Nat)<=1000000 by decide),Eu (f:=dT) (l:=[(-3,-2),(3,-1),(1,4)]) Drawn (λd _ N2 h2=>?_) (λys hy=>?_)⟩
   .exact⟨rfl,tk (by decide),λc c0 c8=>h2 _ ⟨c,⟨c0,c8⟩,rfl⟩⟩
   .obtain⟨d1,d2,d3,g,rfl⟩:=Fh hy;exact hN _ ⟨[(-3,-2,d1),(3,-1,d2),(1,4,d3)],⟨x.1,x.2.1,x.2.2.1,x.2.2.2.1,x.2.2.2.2.1,x.2.2.2.2.2.1,.fz (.lst (([(-3,-2),(3,-1),(1,4)]:List (Int×Int)).map dT)),x.2.2.2.2.2.2.2.1,x.2.2.2.2.2.2.2.2⟩,rfl,T3 g.1 g.2.1 g.2.2⟩
 rintro _ ⟨xa,x,rfl,hF⟩;have l3:=hF.l3;have l8:=hF.l8;refine⟨tk (by decide),λu u0 u7=>⟨tk (by decide),λv v0 v7=>⟨rfl,?_⟩⟩⟩;refine⟨by rw[xO];exact zF (by lia),rR (f:=xh) (λr=>xh (j1 (u-3) (v-3) r)) (λr hr N hN=>?_) ?_⟩
 .have:=hF.sm r hr;exact⟨rfl,qX (by lia) (by lia),qX (by lia) (by lia),hN⟩
 have hM:=hF.moved (u:=u-3) (v:=v-3) (by lia) (by lia);have em:xa.map (λr=>xh (j1 (u-3) (v-3) r))=(xa.map (j1 (u-3) (v-3))).map xh:=by rw[vy];rfl
 rw[em];generalize xa.map (j1 (u-3) (v-3))=mv at hM;have m3:=hM.l3;have m8:=hM.l8;refine⟨tk (by rw[xO];lia),λt t0 t1=>?_⟩;obtain⟨n,rfl⟩:∃n:Nat,t=(n:Int):=⟨t.toNat,by lia⟩
 show(wK (mv.map xh) (some (n:Int)) none).length+(wK (mv.map xh) none (some (n:Int))).length<=sizeLine/\KK (.tup (wK (mv.map xh) (some (n:Int)) none++wK (mv.map xh) none (some (n:Int))));rw[nR,nS];refine⟨BO (by simp;lia),?_⟩;have:=k _ (hM.rot n);rw[uo,oh,Cs] at this;exact this
def OB (B:yd mg bn)(D:DF K mg "_law_divisor" Ax f fd ["_law_one", "_law_other"])  :
  oG P w K mg base:=by
 refine yq D Je (λhr=>(xw (cG zS (yz (wA hr.units) (pv 1) xm (yc _)) (xy (kZ (i:=0) (j:=1) rfl Je.nd rfl rfl (by decide) rfl rfl (xk (pv 1) (xr cA (pv 0) (pv 1))) (by rfl))))
  (xy (xQ (yT jn rfl (B.get "abs") jk (xP (pv 0)))))))
  (xD (cj (yB (xl wB xc xq)) (kX (xo xc (xl cB xc xc)))) (xY (zO jq (xR xc)))) λts KK hl h=>?_
 obtain⟨a,c,rfl,k⟩:=h;refine pR (λn τ=>∃x y:Int,τ=[.fz (.int x),.fz (.int y)]/\n=y.natAbs/\Fra.gd x y=Fra.gd a c) c.natAbs ⟨_,_,rfl,rfl,rfl⟩ ?_;rintro n τ N ⟨x,y,rfl,rfl,hg⟩ hN;refine yi (b:=!decide (y=0)) (λc0=>?_) (λc0=>?_)
 .have c0:y≠0:=by simpa using c0
  exact⟨c0,hN (x.fmod y).natAbs _ (Fra.MK c0) ⟨_,_,rfl,rfl,by rw[Fra.MX];exact hg⟩⟩
 .have c0:y=0:=by simpa using c0
  subst c0;rw[Fra.M0] at hg;have k:KK (.int (Fra.gd a c)):=k;rw[<-hg] at k;exact k
def OI (B:yd mg bn)(D:DF K mg "_law_low" AD f fd ["_law_top", "_law_bottom"])(ay:oG P w K mg base) :
  fL P w K mg base:=by
 refine yq D BC (λhr=>(xw (yC 2 BC.nd (xA ay hr (xk (pv 0) (pv 1)))) (xw (yP (yz (kB K hr.units) (pv 1) xm (yc _)) (xy (yC 2 BC.nd (xr wj xm (pv 2)))) yQ) (xy (xQ (yG (xk (xr uF (pv 0) (pv 2)) (xr uF (pv 1) (pv 2)))))))))
  (xD (yE (xF (xo xc xc))) (xD (yW (yB (xl kC xc xq)) (yE (xl wo xq xc)) yX) (xY (yF (b:=true) (xo (xl uG xc xc) (xl uG xc xc)))))) λts KK hl h=>?_
 obtain⟨t,b,rfl,hb,bd,k⟩:=h;refine⟨t,b,rfl,?_⟩;have gp:=Fra.qc (a:=t) (b:=b) (.inr hb);have gb:Bd (Fra.gd t b):=oX hb bd;refine yi (b:=decide (b<0)) (λc=>?_) (λc=>?_)
 .have c:=yV c;rw[GS c] at k;have gn:Bd (0-Fra.gd t b):=by unfold Bd at *;lia
  have e1:∀x:Int,x.fdiv (0-Fra.gd t b)=(-x)/Fra.gd t b:=λx=>by have h:=Int.neg_fdiv_neg (-x) (Fra.gd t b);rw[Int.neg_neg] at h;rw[show 0-Fra.gd t b = -(Fra.gd t b) by lia,h,qb (by lia)]
  have e2:Fra.low (-t) (-b)=((-t)/Fra.gd t b,(-b)/Fra.gd t b):=by unfold Fra.low;rw[show Fra.gd (-t) (-b)=Fra.gd t b by unfold Fra.gd;simp]
  rw[e2,<-e1,<-e1] at k;exact⟨⟨by show(0-Fra.gd t b)≠0;lia,gn⟩,⟨by show(0-Fra.gd t b)≠0;lia,gn⟩,k⟩
 .have c:=zZ c;rw[q9 (by lia)] at k;refine⟨⟨by show Fra.gd t b≠0;lia,gb⟩,⟨by show Fra.gd t b≠0;lia,gb⟩,?_⟩;show KK (.tup [.int (t.fdiv (Fra.gd t b)),.int (b.fdiv (Fra.gd t b))]);rw[qb (by lia),qb (by lia)];exact k
def Oz (B:yd mg bn)(D:DF K mg "_law_crossing" Au f fd ["_law_one", "_law_other"])(u_:fL P w K mg base) :
  C4 P w K mg base:=by
 refine yq D BB (λhr=>(xw (yC 2 BB.nd (xr wj (xr yr (xC K 0) (xC K 1)) (xr yr (xC K 0) (xC K 1)))) (xw (yP (yz (ue hr.units) (pv 2) xm (yc _)) (xy (xQ dE)) yQ) (xw (yC 3 BB.nd (xA u_ hr (xk (xr wj (xr yr (xC K 0) (xC K 1)) (xr yr (xC K 0) (xC K 1))) (pv 2)))) (xy (xQ (yG (xk (pv 3) (xA u_ hr (xk (xr wj (xr yr (xC K 0) (xC K 1)) (xr yr (xC K 0) (xC K 1))) (pv 2)))))))))))
  (xD (yE (xl wo (xl yu xB xB) (xl yu xB xB))) (xD (yW (yB (xl os_eq xc xq)) (xY (jA (t:=Tr.non))) yX) (xD (yE (xF (xo (xl wo (xl yu xB xB) (xl yu xB xB)) xc))) (xY (yF (b:=true) (xo xc (xF (xo (xl wo (xl yu xB xB) (xl yu xB xB)) xc)))))))) λts KK hl h=>?_
 obtain⟨s,t,rfl,hs,ht,k⟩:=h;refine⟨⟨hs.1.1.bd,ht.1.2.bd⟩,⟨hs.1.2.bd,ht.1.1.bd⟩,?_⟩;refine yi (b:=decide (Pol.turn s t=0)) (λc=>?_) (λc=>?_)
 .rw[EU (yV c)] at k;exact k
 .have c:=zZ c;have bt:Bd (Pol.turn s t):=((hs.1.1.mul ht.1.2).sub (hs.1.2.mul ht.1.1)).bd;rw[EV c,LW c] at k;exact⟨⟨hs.2.bd,ht.1.2.bd⟩,⟨hs.1.2.bd,ht.2.bd⟩,_,_,rfl,c,bt,⟨hs.1.1.bd,ht.2.bd⟩,⟨hs.2.bd,ht.1.1.bd⟩,_,_,rfl,c,bt,k⟩
def OS (B:yd mg bn)(D:DF K mg "_law_value" AM f fd ["_law_row", "_law_place"])(u_:fL P w K mg base) :
  oM P w K mg base:=by
 refine yq D BD (λhr=>(xw (uy (pv 1) (zJ K (n:=2) rfl (xZ (ym 2 BD.nd) (xZ (ym 3 BD.nd) zE)))) (xy (xQ (xA u_ hr (xk (xr ud (xr yr (xr yr (xC K 0) (xC K 2)) (xC K 3)) (xr yr (xr yr (xC K 0) (xC K 3)) (xC K 2))) (xr yr (xC K 2) (xC K 3))))))))
  (xD (uQ xc (zP (yb xM (yb xM zI))).g) (xY (xF (xo (xl vt (xl yu (xl yu xB xB) xB) (xl yu (xl yu xB xB) xB)) (xl yu xB xB))))) λts KK hl h=>?_
 obtain⟨a,c,x,p,rfl,ha,hc,hx,hy,k⟩:=h;exact⟨rfl,⟨ha.bd,hx.top.bd⟩,⟨(ha.mul hx.top).bd,hy.bot.bd⟩,⟨hc.bd,hy.top.bd⟩,⟨(hc.mul hy.top).bd,hx.bot.bd⟩,⟨hx.bot.bd,hy.bot.bd⟩,_,_,rfl,by have:=Pol.pp hx.pos hy.pos;lia,(hx.bot.mul hy.bot).bd,k⟩
def OF (B:yd mg bn)(D:DF K mg "_law_keeps" Az f fd ["_law_row", "_law_place"])(dz:oM P w K mg base) :
  oH P w K mg base:=by
 refine yq D Jf (λhr=>(xw (yC 2 Jf.nd (xA dz hr (xk (pv 0) (pv 1)))) (xy (xQ (vd j_ (xC K 2) (xr yr (xC K 0) (xC K 2)) (yc _))))))
  (xD (yE (xF (xo xc xc))) (xY (xl hJ xB (xl yu xB xB)))) λts KK hl h=>?_
 obtain⟨r,p,rfl,hr,hx,hy,k⟩:=h;exact⟨r.1,r.2.1,[.int r.2.2],p,rfl,hr.1.1,hr.1.2,hx,hy,⟨hr.2.bd,(show Bd (zm r p).2 from MP hx hy hr)⟩,k⟩
def OH (B:yd mg bn)(D:DF K mg "_law_less" AB f fd ["_law_one", "_law_other"])  :
  C_ P w K mg base:=by
 refine yq D SF (λhr=>(xy (xQ (vd (kB K hr.units) (xr yr (xC K 0) (xC K 1)) (xr yr (xC K 1) (xC K 0)) (yc _)))))
  (xY (xl kC (xl yu xB xB) (xl yu xB xB))) λts KK hl h=>?_
 obtain⟨f,g,rfl,hf,hg,k⟩:=h;exact⟨⟨hf.top.bd,hg.bot.bd⟩,⟨hg.top.bd,hf.bot.bd⟩,k⟩
def OJ (B:yd mg bn)(D:DF K mg "_law_minus" AE f fd ["_law_one", "_law_other"])(u_:fL P w K mg base) :
  oI P w K mg base:=by
 refine yq D SG (λhr=>(xy (xQ (xA u_ hr (xk (xr wj (xr yr (xC K 0) (xC K 1)) (xr yr (xC K 1) (xC K 0))) (xr yr (xC K 0) (xC K 1)))))))
  (xY (xF (xo (xl wo (xl yu xB xB) (xl yu xB xB)) (xl yu xB xB)))) λts KK hl h=>?_
 obtain⟨f,g,rfl,hf,hg,k⟩:=h;exact⟨⟨hf.top.bd,hg.bot.bd⟩,⟨hg.top.bd,hf.bot.bd⟩,⟨hf.bot.bd,hg.bot.bd⟩,_,_,rfl,by have:=Pol.pp hf.pos hg.pos;lia,(hf.bot.mul hg.bot).bd,k⟩
def OR (B:yd mg bn)(D:DF K mg "_law_times" AL f fd ["_law_one", "_law_other"])(u_:fL P w K mg base) :
  nE P w K mg base:=by
 refine yq D SJ (λhr=>(xy (xQ (xA u_ hr (xk (xr yr (xC K 0) (xC K 1)) (xr yr (xC K 0) (xC K 1)))))))
  (xY (xF (xo (xl yu xB xB) (xl yu xB xB)))) λts KK hl h=>?_
 obtain⟨f,g,rfl,hf,hg,k⟩:=h;exact⟨⟨hf.top.bd,hg.top.bd⟩,⟨hf.bot.bd,hg.bot.bd⟩,_,_,rfl,by have:=Pol.pp hf.pos hg.pos;lia,(hf.bot.mul hg.bot).bd,k⟩
def Oy (B:yd mg bn)(D:DF K mg "_law_cross" As f fd ["_law_one", "_law_other", "_law_third"])(kT:nE P w K mg base)(qf:oI P w K mg base) :
  C3 P w K mg base:=by
 refine yq D Jd (λhr=>(xw (yC 3 Jd.nd (xA kT hr (xk (xA qf hr (xk (xC K 1) (xC K 0))) (xA qf hr (xk (xC K 2) (xC K 0)))))) (xy (xQ (y8 (zD K) (xA qf hr (xk (pv 3) (xA kT hr (xk (xA qf hr (xk (xC K 1) (xC K 0))) (xA qf hr (xk (xC K 2) (xC K 0))))))) xm (λ_ _=>rfl))))))
  (xD (yE (xF (xo (xF (xo xB xB)) (xF (xo xB xB))))) (xY (wd (xF (xo xc (xF (xo (xF (xo xB xB)) (xF (xo xB xB)))))) xq))) λts KK hl h=>?_
 obtain⟨p,q,w,rfl,hp,hq,hw,k⟩:=h;have m:∀ {f g:F2},Fk 200 f->Fk 200 g->Fk 401 (fmin f g):=λh1 h2=>h1.min h2;have t:∀ {f g:F2},Fk 401 f->Fk 401 g->Fk 900 (ua f g):=λh1 h2=>(h1.tim h2).mono (by decide);have u:∀ {k:Nat} {f:F2},Fk k f->k<=900->Fk 900 f:=λh hk=>h.mono hk;exact⟨q.1,p.1,rfl,u hq.1 (by decide),u hp.1 (by decide),w.2,p.2,rfl,u hw.2 (by decide),u hp.2 (by decide),_,_,rfl,u (m hq.1 hp.1) (by decide),u (m hw.2 hp.2) (by decide),
  q.2,p.2,rfl,u hq.2 (by decide),u hp.2 (by decide),w.1,p.1,rfl,u hw.1 (by decide),u hp.1 (by decide),_,_,rfl,u (m hq.2 hp.2) (by decide),u (m hw.1 hp.1) (by decide),
  _,_,rfl,t (m hq.1 hp.1) (m hw.2 hp.2),t (m hq.2 hp.2) (m hw.1 hp.1),k⟩
def OM (B:yd mg bn)(D:DF K mg "_law_ring" aP f fd ["_law_places"])(bV:C_ P w K mg base)(ir:C1 P w K mg base) :
  oK P w K mg base:=by
 refine Hy D.1 h_ D.2 D.3 rfl (λ_ _ _ _ _ _ hr=>⟨_,_,(xw (kE (i:=1) h_.nd rfl (Or.inr rfl) (wk uf)) (xw (zX zS rfl (zh K (pv 0)) (yU (i:=2) h_.nd rfl (Or.inr rfl)) (xw (t8 (i:=3) h_.nd rfl (Or.inl rfl) (wJ (N:=["_law_one", "_law_place"]) (xE:=[none,some 2]) (XN:=["_law_places", "_law_some", "_law_place", "_law_ahead", "_law_found", "_law_k", "_law_here"]) (xs:=xI aP) (by decide +kernel) rfl rfl) rfl (vp rfl) (zh K (pv 1)) (λ_ _ _ _=>(yU (i:=0) (show(["_law_one", "_law_place"]:List Str).Nodup by decide +kernel) rfl (Or.inl rfl))) (λ_ _ _ _=>(qC (wC (xA bV hr (xk (xC K 0) (xC K 1)))))) (λ_ _ _ _=>(pv 0)))
  (xw (yC 3 h_.nd (xr cq (pv 3) (uR (wJ (N:=["_law_one", "_law_place"]) (xE:=[none,some 2]) (XN:=["_law_places", "_law_some", "_law_place", "_law_ahead", "_law_found", "_law_k", "_law_here"]) (xs:=xI aP) (by decide +kernel) rfl rfl) rfl (vp rfl) (zh K (pv 1)) (λ_ _ _ _=>(yU (i:=0) (show(["_law_one", "_law_place"]:List Str).Nodup by decide +kernel) rfl (Or.inl rfl))) (λ_ _ _ _=>(qC (PW.pt (jC (yz (ue hr.units) (xC K 0) (xC K 1) (yc _)) (h8 (wC (xA bV hr (xk (xC K 0) (xC K 1))))))))) (λ_ _ _ _=>(pv 0)))))
  (xy (yP (yz (eQ hr.units) (pv 2) (pv 1) (by with_unfolding_all rfl)) (xy (vE (qi qO PySem.F.slot_list_insert PySem.F.type_list_insert Ob (pv 1) (xk (yT (uZ K) rfl (B.get "len") uY (xP (pv 3))) (pv 2))))) yQ)))))
  (xw (yP (yz (kB K hr.units) (yT (uZ K) rfl (B.get "len") uY (xP (pv 1))) xm (yc _)) (xy (xQ (pv 1))) yQ) (xw (kE (i:=4) h_.nd rfl (Or.inr rfl) (gY (pI K) (pv 1) g6 (g9 xm))) (xw (zX zS rfl (hV rfl (B.get "range") (xP (xr wj (yT (uZ K) rfl (B.get "len") uY (xP (pv 1))) xm))) (ym 5 h_.nd) (xw (kE (i:=6) h_.nd rfl (Or.inr rfl) (y8 (zD K) (pv 4) (wO wQ xm) (λ_ _=>rfl))) (xy (kE (i:=4) h_.nd rfl (Or.inr rfl) (xr (aH K) (pv 4) (gY (pI K) (uR (wJ (N:=["_law_place", "_law_found", "_law_here", "_law_some"]) (xE:=[none,some 4,some 6,some 1]) (XN:=["_law_places", "_law_some", "_law_place", "_law_ahead", "_law_found", "_law_k", "_law_here"]) (xs:=xI aP) (by decide +kernel) rfl rfl) rfl (vp rfl) (zh K (pv 1)) (λ_ _ _ _=>(yU (i:=0) (show(["_law_place", "_law_found", "_law_here", "_law_some"]:List Str).Nodup by decide +kernel) rfl (Or.inl rfl))) (λ_ _ _ _=>(qC (PW.pt (jC (yz (eQ hr.units) (pv 0) (pv 1) (by with_unfolding_all rfl)) (h8 (wC (xA ir hr (y4 (pv 2) (xk (pv 0) (pv 3)))))))))) (λ_ _ _ _=>(pv 0))) g6 (g9 xm)))))))
  (xy (xQ (pv 4)))))))),
  (xD (vX (kW uP)) (xD (zW (zH xc) xM.g (xD (yE (zp.e (wy tW xM (zU (xF (xo xB xB))) xc))) (xD (yE (zp.e (eJ xc (zp.e (wy tW xM (jB (yB (xl os_eq xB xB)) (zU (xF (xo xB xB)))) xc))))) (yW (yB (xl eT xc j7)) (Qb (zO vA (xR xc)) xc) yX)))) (xD (yW (yB (xl kC (zO vA (xR j7)) xq)) aG yX) (xD (Qa (i:=1) (yE (b_ xc gT (gU xq)))) (xD (zW (j8 (xR (xl wo (zO vA (xR xc)) xq))) xM.g (xD (yE (wd xc (wN xq))) (yE (aE xc (b_ (zp.e (wy (zH xc).c xM (jB (yB (xl eT xc xc)) (zU (xF (zw xc (xo xc xc))))) xc)) gT (gU xq)))))) (xY xc)))))),λts KK hl h=>?_⟩)
 obtain⟨ps,l,rfl,hm,hl',hr,k⟩:=h;have inl:∀ {i v},v∈ps.take i->v∈l:=λhv=>(hm _).mp (gC hv);have pk:∀ {v},v∈l->Pk 190 (xn v):=λ {v} hv=>cE (hr.pos v hv) (hr.sm v hv);refine u5 (all:=ps.map xG) (λi τ=>∃(ss:List Pol.R3) (x2 x3 x4 x5 x6:TV),τ=[.fz (.lst (ps.map xG)),.ow (ss.map xG),x2,x3,x4,x5,x6]/\fK ss (ps.take i)/\ss.length<=i)
  ⟨[],_,_,_,_,_,rfl,⟨List.nodup_nil,λv=>by simp,λh t e=>by cases e⟩,yg _⟩ ?_ ?_
 .rintro i x τ N hx ⟨ss,x2,x3,x4,x5,x6,rfl,hs,hlen⟩ hN;obtain⟨p,hp,rfl⟩:=u9 hx;have hpl:=(hm p).mp (zG hp);have hi:=(zc.mp hp).1;have tk:ps.take (i+1)=ps.take i++[p]:=by rw[vT,hp];rfl
  have sl:∀v∈ss,v∈l:=λv hv=>inl ((hs.mem v).mp hv);have sp:∀v∈ss,0<v.2.2:=λv hv=>hr.pos v (sl v hv);have z:∀n,n<=15000000->n<sizeLine:=λn hn=>sqy (by lia);have fk1:∀ {v},v∈l->Fk 1000 (xn v).1:=λhv=>(pk hv).1.mono (by decide);have fk2:∀ {v},v∈l->Fk 1000 (xn v).2:=λhv=>(pk hv).2.mono (by decide);refine⟨by rw[xO];exact z _ (by lia),qu (f:=xG) (λv=>ur (xn v).1 (xn p).1) xG (λv hv N M h1 h0=>?_) ?_⟩
  .exact⟨(xn v).1,(xn p).1,rfl,fk1 (sl v hv),fk1 hpl,yi h1 h0⟩
  refine⟨by rw[xO];exact z _ (by lia),qu (f:=xG) (λv=>decide ((xn v).1=(xn p).1)&&ur (xn v).2 (xn p).2) xG (λv hv N M h1 h0=>?_) ?_⟩
  .refine⟨⟨rfl,rfl,by show min 1 1<=64;decide⟩,?_⟩;refine yi (b:=zz (fT (xn v).1) (fT (xn p).1)) (λc=>?_) (λc=>?_)
   .rw[a_] at c;refine⟨(xn v).2,(xn p).2,rfl,fk2 (sl v hv),fk2 hpl,?_⟩;exact yi (λd=>h1 (by rw[c,d];rfl)) (λd=>h0 (by rw[c,d];rfl))
   .rw[a_] at c;exact qd (h0 (by rw[c];rfl))
  have f1:=Cq (λv=>ur (xn v).1 (xn p).1) ss;have f2:=Cq (λv=>decide ((xn v).1=(xn p).1)&&ur (xn v).2 (xn p).2) ss;refine⟨Jw (by rw[xO,xO];have:=Ec (ss:=ss) (p:=p);unfold wX at this;lia),?_⟩;refine⟨⟨rfl,o7 ss,by show(2:Nat)<=60;decide⟩,?_⟩;refine yi (b:=!((ss.map xG).any λu=>zz u (xG p))) (λc=>?_) (λc=>?_)
  .rw[Ed hr.pos hr.prim sl hpl] at c;have c:p∉ss:=by simpa using c
   refine⟨wX ss p,?_,?_,?_,?_⟩
   .unfold wX;rw[zy,xO,xO]
   .rw[xO];exact Ec
   .rw[xO];exact z _ (by lia)
   .have hh:=hs.ins sp (hr.pos p hpl) c;rw[<-tk] at hh;have e:(ss.map xG).take (wX ss p)++[xG p]++(ss.map xG).drop (wX ss p)=(ss.take (wX ss p)++[p]++ss.drop (wX ss p)).map xG:=by rw[uo,uo,Cs,oh];rfl
    rw[e];refine hN _ ⟨_,_,_,_,_,_,rfl,hh,?_⟩;rw[zy,zy,uJ,qo,gB];lia
  .rw[Ed hr.pos hr.prim sl hpl] at c;have c:p∈ss:=by simpa using c
   have hh:=hs.stay c;rw[<-tk] at hh;exact hN _ ⟨ss,_,_,_,_,_,rfl,hh,by lia⟩
 .rintro τ ⟨ss,x2,x3,x4,x5,x6,rfl,hs,hlen⟩;rw[xO,uK (yg _)] at hs;have hml:∀v,v∈ss↔v∈l:=λv=>(hs.mem v).trans (hm v);have eqlen:=l5 hs.nd hr.ccw.nd hml;refine yi (b:=decide (((ss.map xG).length:Int)<3)) (λc=>?_) (λc=>?_)
  .have c:=yV c;rw[xO] at c;rw[<-Sb hr hs.nd hml hs.least (by lia)] at k;exact k
  .have c:=zZ c;rw[xO] at c;have hh:=Gi hr hml hs.least;have tk1:(ss.map xG).take 1=(l.take 1).map xG:=by
    rw[<-Cs];congr 1;cases ss with
    |nil=>simp at c
    |cons a t=>
     cases l with
     |nil=>simp at eqlen
     |cons b u=>simp at hh;rw[hh];rfl
   have z:∀n,n<=15000000->n<sizeLine:=λn hn=>sqy (by lia);have hln:=hr.len;have sl:∀v∈ss,v∈l:=λv hv=>(hml v).mp hv;have pk2:∀ {v},v∈l->Pk 200 (xn v):=λhv=>⟨(pk hv).1.mono (by decide),(pk hv).2.mono (by decide)⟩
   have rn:(((ss.map xG).length:Int)-1).toNat=l.length-1:=by rw[xO];lia
   have main:jv (eName 5) (dP (cO 6 (d2 fIx (wL 4) (d1 Fx (dC (Tr.int 1))))) (cO 4 (d2 tw (wL 4) (dSl (E5 [none,some 4,some 6,some 1] (Gn (wL 1)) (eName 0) (E3 (nW (d2 (fIn true) (wL 0) (wL 1))) (nW (nU HB (qY (wL 2) (qY (wL 0) (qY (wL 3) js)))))) (wL 0)) lD (lE (dC (Tr.int 1))))))) {nx:=cN (wL 4) {nx:=λx=>false=false/\KK Tr.non,rt:=KK},rt:=KK} (qk 0 (l.length-1))
         [.fz (.lst (ps.map xG)),.fz (.lst (ss.map xG)),x2,x3,.fz (.lst ((l.take 1).map xG)),x5,x6]:=by
    refine u5 (λi τ=>∃(x5 x6:TV),τ=[.fz (.lst (ps.map xG)),.fz (.lst (ss.map xG)),x2,x3,.fz (.lst ((l.take (i+1)).map xG)),x5,x6]) ⟨_,_,rfl⟩ ?_ ?_
    .rintro i x τ N hx ⟨x5,x6,rfl⟩ hN;have hi:i<l.length-1:=by have:=(zc.mp hx).1;rw[uS] at this;exact this
     have ha:l[i]?=some l[i]:=yA (by lia);have hb:l[i+1]?=some l[i+1]:=yA (by lia);generalize ea:l[i]=a at ha;generalize eb:l[i+1]=b at hb;have ham:=zG ha;have t1:l.take (i+1)=l.take i++[a]:=by rw[vT,ha];rfl
     have t2:l.take (i+1+1)=l.take (i+1)++[b]:=by rw[vT,hb];rfl
     have last:atT ((l.take (i+1)).map xG) (-1)=some (xG a):=by rw[t1,uo];exact rP _ _
     show wM (atT ((l.take (i+1)).map xG) (-1)) _;rw[last];refine⟨by rw[xO];exact z _ (by lia),?_⟩;refine qu (f:=xG) (λv=>!decide (xn v∈(l.take (i+1)).map xn)&&(ss.map xn).all λw=>!decide (gQ (xn a) (xn v) w<0)) xG (λv hv N M h1 h0=>?_) ?_
     .refine⟨⟨rfl,o7 _,by show(2:Nat)<=60;decide⟩,?_⟩;refine yi (b:=!(((l.take (i+1)).map xG).any λu=>zz u (xG v))) (λd=>?_) (λd=>?_)
      .rw[pO,fh,oU] at d;refine⟨xn a,xn v,ss.map xn,by rw[<-pO];rfl,pk2 ham,pk2 (sl v hv),λw hw=>?_,by rw[xO];lia,?_⟩
       .obtain⟨y,hy,rfl⟩:=zQ.mp hw;exact pk2 (sl y hy)
       .exact yi (λe=>h1 (by rw[d,e];rfl)) (λe=>h0 (by rw[d,e];rfl))
      .rw[pO,fh,oU] at d;exact qd (h0 (by rw[d];rfl))
     .rw[Sa hr hs.nd hml ha hb];have e1:wK (List.map xG [b]) none (some 1)=[xG b]:=nS _ 1;dsimp only[lD,lE,dC];rw[e1];rw[t2] at hN;refine⟨Jw (by simp;lia),hN _ ⟨.fz x,.fz (xG a),?_⟩⟩;rw[uo];rfl
    .rintro τ ⟨x5,x6,rfl⟩;rw[uS,show l.length-1+1=l.length by lia,uK (yg _)];exact k
   refine⟨⟨by have:=hr.len;simp;lia,by have:=hr.len;simp;lia⟩,?_⟩;rw[rn];have e1:wK (ss.map xG) none (some 1)=(l.take 1).map xG:=(nS _ 1).trans tk1;rw[<-e1] at main;exact main
def Ou (B:yd mg bn)(D:DF K mg "_law_all_left" cP f fd ["_law_here", "_law_place", "_law_some"])(iw:C3 P w K mg base) :
  C1 P w K mg base:=by
 refine yq D Sy (λhr=>(xy (xQ (vd (ue hr.units) (uR (wJ (N:=["_law_one", "_law_here", "_law_place"]) (xE:=[none,some 0,some 1]) (XN:=["_law_here", "_law_place", "_law_some"]) (xs:=xI cP) (by decide +kernel) rfl rfl) rfl (vp rfl) (zh K (pv 2)) (λ_ _ _ _=>(yU (i:=0) (show(["_law_one", "_law_here", "_law_place"]:List Str).Nodup by decide +kernel) rfl (Or.inl rfl))) (λ_ _ _ _=>(qC (yz (kB K hr.units) (xA iw hr (y4 (pv 1) (xk (pv 2) (pv 0)))) xm (yc _)))) (λ_ _ _ _=>(pv 0))) (wk uf) (yc _)))))
  (xY (xl os_eq (zp.e (wy (zH xc).c xM (yB (xl kC (xF (zw xc (xo xc xc))) xq)) xc)) (vO (b:=true) uP))) λts KK hl h=>?_
 obtain⟨p,q,ws,rfl,hp,hq,hw,hl',k⟩:=h;refine⟨by rw[xO];exact sqy (by lia),qu (λw=>decide (gQ p q w<0)) pT (λw hwm N M h1 h0=>?_) ?_⟩
 .refine⟨p,q,w,rfl,hp,hq,hw w hwm,?_⟩;exact yi (b:=decide (gQ p q w<0)) h1 h0
 .refine tD (LG _) ?_;rw[Cp,filter_empty];exact k
def Ox (B:yd mg bn)(D:DF K mg "_law_corners" cR f fd ["_law_rows"])(aA:oK P w K mg base)(iy:C4 P w K mg base)(az:oH P w K mg base) :
  nB P w K mg base:=by
 refine yq D mq (λhr=>(xw (yC 1 mq.nd (wk uf)) (xw (zX zS rfl (hV rfl (B.get "range") (xP (yT (uZ K) rfl (B.get "len") uY (xP (pv 0))))) (ym 2 mq.nd) (xy (zX zS rfl (zh K (gY (pI K) (pv 0) (g9 (xr ud (pv 2) xm)) g6)) (ym 3 mq.nd) (xw (kE (i:=4) mq.nd rfl (Or.inr rfl) (xA iy hr (xk (y8 (zD K) (pv 0) (pv 2) (λ_ _=>rfl)) (pv 3)))) (xy (yP (PW.pt (jC (dG (HK (pv 4))) (h8 (yz (ue hr.units) (uR (wJ (N:=["_law_row", "_law_place"]) (xE:=[none,some 4]) (XN:=["_law_rows", "_law_found", "_law_at", "_law_other", "_law_place"]) (xs:=xI cR) (by decide +kernel) rfl rfl) rfl (vp rfl) (zh K (pv 0)) (λ_ _ _ _=>(yU (i:=0) (show(["_law_row", "_law_place"]:List Str).Nodup by decide +kernel) rfl (Or.inl rfl))) (λ_ _ _ _=>(qC (uI (wC (xA az hr (xk (pv 0) (pv 1))))))) (λ_ _ _ _=>(pv 0))) (wk uf) (yc _))))) (xy (vE (qi qO jg jh km (pv 1) (xP (pv 4))))) yQ))))))
  (xy (xQ (xA aA hr (xP (pv 1))))))))
  (xD (vX (kW uP)) (xD (zW (j8 (xR (zO vA (xR xc)))) xM.g (zW (zH (b_ xc (gU (xl vt xc xq)) gT)) xM.g (xD (yE (xF (xo (wd xc xc) xc))) (yW (jB (zU (Hf xc)) (yB (xl os_eq (zp.e (wy (zH xc).c xM (uE (zU (xF (xo xc xc)))) xc)) (vO (b:=true) uP)))) (kA xc) yX)))) (xY (xF (xR j7))))) λts KK hl h=>?_
 obtain⟨xa,rfl,hr,k⟩:=h;have ring:=hr.ring;have rl:=hr.len;have r3:∀r∈xa,yM 10 r:=λr hm=>jT (hr.fine.fr r hm);have cl:(xS xa).length<=900:=ring.len
 let W:Nat->Nat->List Pol.R3->Prop:=λi j ps=>(∀v∈ps,v∈xS xa)/\ps.length<=i*8+j/\∀v∈xS xa,∀a b s t,a<b->xa[a]?=some s->xa[b]?=some t->val s v=0->val t v=0->Pol.turn s t≠0->(a<i\/a=i/\b<i+1+j)->v∈ps
 refine⟨⟨by rw[xO];lia,by rw[xO];lia⟩,?_⟩;rw[xO,jI];refine u5 (λi τ=>∃(ps:List Pol.R3) (x2 x3 x4:TV),τ=[.fz (.tup (xa.map xh)),.ow (ps.map xG),x2,x3,x4]/\W i 0 ps) ⟨[],_,_,_,rfl,by simp,by simp,?_⟩ ?_ ?_
 .intro v hv a b s t hab ha hb e1 e2 hn hc;lia
 .rintro i x τ N hx ⟨ps,x2,x3,x4,rfl,hW⟩ hN;have hi:i<xa.length:=by have:=(zc.mp hx).1;rw[uS] at this;exact this
  rw[h9 hi] at hx;cases hx;have es:xa[i]?=some xa[i]:=yA hi;generalize egen:xa[i]=s at es;have hs:=zG es;show jv _ _ _ (wK (xa.map xh) (some ((0:Int)+i+1)) none) _;rw[show(0:Int)+(i:Int)+1=((i+1:Nat):Int) by lia,nR,<-oh];refine u5 (λj τ=>∃(ps:List Pol.R3) (x3 x4:TV),τ=[.fz (.tup (xa.map xh)),.ow (ps.map xG),.fz (.int ((0:Int)+i)),x3,x4]/\W i j ps) ⟨ps,_,_,rfl,hW⟩ ?_ ?_
  .rintro j y τ N2 hy ⟨ps,x3,x4,rfl,hW⟩ hN2;obtain⟨t,ht,rfl⟩:=u9 hy;rw[Ks] at ht;have htm:=zG ht;have hj:=(zc.mp ht).1;have at0:atT (xa.map xh) ((0:Int)+i)=some (xh s):=by rw[show(0:Int)+(i:Int)=((i:Nat):Int) by lia,fO,vh,es];rfl
   show wM (atT (xa.map xh) ((0:Int)+i)) _;rw[at0];have step:∀qs:List Pol.R3,(∀v∈qs,v∈xS xa)->(∀v∈ps,v∈qs)->qs.length<=ps.length+1->(∀v∈xS xa,val s v=0->val t v=0->Pol.turn s t≠0->v∈qs)->W i (j+1) qs:=λqs h1 h2 h3 h4=>by
    refine⟨h1,by have:=hW.2.1;lia,λv hv a b s' t' hab ha hb e1 e2 hn hc=>?_⟩;by_cases q:a=i/\b=i+1+j
    .obtain⟨rfl,rfl⟩:=q;rw[es] at ha;rw[ht] at hb;cases ha;cases hb;exact h4 v hv e1 e2 hn
    .exact h2 v (hW.2.2 v hv a b s' t' hab ha hb e1 e2 hn (by lia))
   refine⟨s,t,rfl,(r3 s hs).mono (by decide),(r3 t htm).mono (by decide),?_⟩;by_cases hn:Pol.turn s t=0
   .rw[EU hn];exact hN2 _ ⟨ps,_,_,rfl,step ps hW.1 (λv h=>h) (by lia) (λv hv e1 e2 h=>absurd hn h)⟩
   .rw[EV hn];obtain⟨cz,c1,c2⟩:=gO hn;have cb:yM 21 (zN s t):=by
     have S:=r3 s hs;have T:=r3 t htm;have m:∀ {x y z w:Int},Bk 10 x->Bk 10 y->Bk 10 z->Bk 10 w->Bk 21 (x*y-z*w):=λh1 h2 h3 h4=>(h1.mul h2).sub (h3.mul h4);unfold zN Pol.turn;split
     .exact⟨⟨(m S.2 T.1.2 S.1.2 T.2).neg,(m S.1.1 T.2 S.2 T.1.1).neg⟩,(m S.1.1 T.1.2 S.1.2 T.1.1).neg⟩
     .exact⟨⟨m S.2 T.1.2 S.1.2 T.2,m S.1.1 T.2 S.2 T.1.1⟩,m S.1.1 T.1.2 S.1.2 T.1.1⟩
    have pk:=cE cz cb;refine⟨by rw[xO];exact zF (by lia),qu (f:=xh) (λr=>!jw r (xn (zN s t))) xh (λr hm N M h1 h0=>?_) ?_⟩
    .refine⟨r,xn (zN s t),rfl,(r3 r hm).mono (by decide),pk.1.mono (by decide),pk.2.mono (by decide),?_⟩;exact yi (b:=!jw r (xn (zN s t))) h1 h0
    .dsimp only[sV,js];refine tD (jo xh cF _) ?_;rw[Cp,filter_empty];have ek:(xa.all λr=>!!jw r (xn (zN s t)))=true↔∀r∈xa,val r (zN s t)<=0:=by
      rw[jJ];refine⟨λh r hm=>?_,λh r hm=>?_⟩
      .have:=h r hm;rw[Bool.not_not,lN r cz] at this;exact yV this
      .rw[Bool.not_not,lN r cz];exact wI (h r hm)
     refine yi (b:=xa.all λr=>!!jw r (xn (zN s t))) (λc=>?_) (λc=>?_)
     .have c:=ek.mp c;obtain⟨v,hv,e⟩:=hr.crossing hs htm hn c;refine⟨by rw[xO];exact zF (by have:=hW.2.1;lia),?_⟩;have e2:ps.map xG++[xG (zN s t)]=(ps++[v]).map xG:=by rw[e,uo];rfl
      show N2 _;rw[e2];refine hN2 _ ⟨ps++[v],_,_,rfl,step _ ?_ (λw hw=>yZ _ hw) (by simp) (λw hw e1 e2 _=>?_)⟩
      .intro w hw;rcases yy.mp hw with q|q
       .exact hW.1 w q
       .rw[zR.mp q];exact hv
      .have e3:=(hr.tightPt hw hn e1 e2).1;have:w=v:=by have p1:=hr.corner hw;have p2:=hr.corner hv;refine BY p1.1.1 p2.1.1 p1.1.2.1 p2.1.2.1 ?_;have e4:xG w=xG v:=e3.symm.trans e;exact Rl e4
       rw[this];simp
     .exact hN2 _ ⟨ps,_,_,rfl,step ps hW.1 (λv h=>h) (by lia) (λv hv e1 e2 _=>by have:=ek.mpr (hr.tightPt hv hn e1 e2).2;rw[c] at this;cases this)⟩
  .rintro τ ⟨ps,x3,x4,rfl,hW⟩;refine hN _ ⟨ps,_,_,_,rfl,hW.1,?_,λv hv a b s' t' hab ha hb e1 e2 hn hc=>?_⟩
   .have:=hW.2.1;rw[xO,qo] at this;lia
   .refine hW.2.2 v hv a b s' t' hab ha hb e1 e2 hn ?_;have:=(zc.mp hb).1;rw[xO,qo];lia
 .rintro τ ⟨ps,x2,x3,x4,rfl,hW⟩;rw[uS] at hW;refine⟨ps,xS xa,rfl,λv=>⟨hW.1 v,λhv=>?_⟩,by have:=hW.2.1;lia,ring.up (by decide),k⟩;obtain⟨⟨_,_,hc⟩,_⟩:=hr.corner hv;obtain⟨s,hs,t,ht,e1,e2,hn⟩:=hc.two;obtain⟨a,ha,ea⟩:=fw.mp hs;obtain⟨b,hb,eb⟩:=fw.mp ht;have ha':xa[a]?=some s:=by rw[yA ha,ea]
  have hb':xa[b]?=some t:=by rw[yA hb,eb]
  rcases Nat.lt_trichotomy a b with q|q|q
  .exact hW.2.2 v hv a b s t q ha' hb' e1 e2 hn (.inl ha)
  .subst q;rw[ha'] at hb';cases hb';unfold Pol.turn at hn;grind
  .exact hW.2.2 v hv b a t s q hb' ha' e2 e1 (λz=>hn (by unfold Pol.turn at *;grind)) (.inl hb)
def OL (B:yd mg bn)(D:DF K mg "_law_plus" AG f fd ["_law_one", "_law_other"])(u_:fL P w K mg base) :
  oJ P w K mg base:=by
 refine yq D SI (λhr=>(xy (xQ (xA u_ hr (xk (xr ud (xr yr (xC K 0) (xC K 1)) (xr yr (xC K 1) (xC K 0))) (xr yr (xC K 0) (xC K 1)))))))
  (xY (xF (xo (xl vt (xl yu xB xB) (xl yu xB xB)) (xl yu xB xB)))) λts KK hl h=>?_
 obtain⟨f,g,rfl,hf,hg,k⟩:=h;exact⟨⟨hf.top.bd,hg.bot.bd⟩,⟨hg.top.bd,hf.bot.bd⟩,⟨hf.bot.bd,hg.bot.bd⟩,_,_,rfl,by have:=Pol.pp hf.pos hg.pos;lia,(hf.bot.mul hg.bot).bd,k⟩
def OP (B:yd mg bn)(D:DF K mg "_law_summed" AJ f fd ["_law_rows", "_law_weights"])(dw:oJ P w K mg base)(kT:nE P w K mg base) :
  Df P w K mg base:=by
 refine yq D mw (λhr=>(xw (yC 2 mw.nd (wk (y4 (yG (xk xm xm)) (xk (yG (xk xm xm)) (yG (xk xm xm)))))) (xw (zX zS rfl (cD K rfl (B.get "zip") (xk (pv 0) (pv 1))) (zJ K (n:=2) rfl (xZ (ym 3 mw.nd) (xZ (ym 4 mw.nd) zE))) (xy (zX zS rfl (hV rfl (B.get "range") (xP xm)) (ym 5 mw.nd) (xy (uy (xA dw hr (xk (y8 (zD K) (pv 2) (pv 5) (λ_ _=>rfl)) (xA kT hr (xk (pv 4) (yG (xk (y8 (zD K) (pv 3) (pv 5) (λ_ _=>rfl)) xm)))))) (t7 (pv 2) (pv 5) set_list)))))) (xy (xQ (dD (rS K) rfl (B.get "tuple") qV (xP (pv 2))))))))
  (xD (vX (kW (zw (yF (b:=true) (xo xq xq)) (xo (yF (b:=true) (xo xq xq)) (yF (b:=true) (xo xq xq)))))) (xD (zW (cg (xo xc xc)) (zP (yb xM (yb xM zI))).g (zW (j8 (xR xq)) xM.g (uQ (xF (xo (dA xc) (xF (xo xc (yF (b:=true) (xo (wd xc xc) xq)))))) (eM xc)))) (xY Hi))) λts KK hl h=>?_
 obtain⟨xa,ws,rfl,H0,k⟩:=h;have hl8:=H0.l100;have hlen:=H0.len;have zl:(xa.zip ws).length=xa.length:=by rw[List.length_zip];lia
 have hz:=λx hx=>H0.zip (x:=x) hx;refine yO (λτ=>τ=[.fz (.tup (xa.map xh)),.fz (.tup (ws.map fT)),.ow [fT (0,1),fT (0,1),fT (0,1)],.un,.un,.un]) ?_ (λN hN=>hN _ rfl);rintro _ rfl;refine yO (λτ=>∃x3 x4 x5:TV,τ=[.fz (.tup (xa.map xh)),.fz (.tup (ws.map fT)),.ow [fT (wsum k0 (xa.zip ws)),fT (wsum k1 (xa.zip ws)),fT (wsum k2 (xa.zip ws))],x3,x4,x5]) ?_ (λN hN=>?_)
 .rintro _ ⟨x3,x4,x5,rfl⟩;exact k
 show cM _ _ _ _ _;have zt:qI (xa.map xh) (ws.map fT)=(xa.zip ws).map rwT:=B4 xh fT xa ws;refine qF ((xa.zip ws).map rwT) (λi τ=>∃x3 x4 x5:TV,τ=[.fz (.tup (xa.map xh)),.fz (.tup (ws.map fT)),.ow [fT (wsum k0 ((xa.zip ws).take i)),fT (wsum k1 ((xa.zip ws).take i)),fT (wsum k2 ((xa.zip ws).take i))],x3,x4,x5]) (λKK h=>by rw[<-zt] at h;exact h) ⟨_,_,_,rfl⟩ ?_ (λτ ⟨x3,x4,x5,e⟩=>hN _ ⟨x3,x4,x5,by rw[e,xO,mS]⟩);rintro i x τ N2 hx ⟨x3,x4,x5,rfl⟩ hN2;obtain⟨y,hy,rfl⟩:=u9 hx;have il:=(zc.mp hy).1;obtain⟨hr,hw⟩:=hz y (zG hy);have tk1:(xa.zip ws).take (i+1)=(xa.zip ws).take i++[y]:=by rw[vT,hy];rfl
 have fk:∀(k:Pol.R3->Int),(∀r,yM 10 r->Bk 10 (k r))->Fk 900 (wsum k ((xa.zip ws).take i)):=λk hk=>(J7 k _ λx hx=>⟨(hz x (gC hx)).2.sm,hk _ (hz x (gC hx)).1⟩).mono (by rw[uJ];lia)
 have f0:=fk k0 λr h=>h.1.1;have f1:=fk k1 λr h=>h.1.2;have f2:=fk k2 λr h=>h.2;rw[tk1,wsum_snoc,wsum_snoc,wsum_snoc] at hN2;generalize wsum k0 ((xa.zip ws).take i)=A0 at f0 hN2;generalize wsum k1 ((xa.zip ws).take i)=A1 at f1 hN2;generalize wsum k2 ((xa.zip ws).take i)=A2 at f2 hN2;refine⟨rfl,?_⟩;have one9:∀ {n:Int},Bk 10 n->Fk 900 (n,1):=λh=>⟨h.mono (by decide),by show Bk 900 1;unfold Bk;decide,by show(0:Int)<1;decide⟩
 have w9:Fk 900 y.2:=hw.sm.mono (by decide);have t9:∀ {n:Int},Bk 10 n->Fk 900 (ua y.2 (n,1)):=λh=>(hw.sm.timI h).mono (by decide);refine⟨⟨by decide,by decide⟩,?_⟩;refine⟨y.2,(y.1.1,1),rfl,w9,one9 hr.1.1,A0,_,rfl,f0,t9 hr.1.1,?_⟩;refine⟨y.2,(y.1.2.1,1),rfl,w9,one9 hr.1.2,A1,_,rfl,f1,t9 hr.1.2,?_⟩;refine⟨y.2,(y.1.2.2,1),rfl,w9,one9 hr.2,A2,_,rfl,f2,t9 hr.2,?_⟩;exact hN2 _ ⟨_,_,_,rfl⟩
def OA (B:yd mg bn)(D:DF K mg "_law_cut" Aw f fd ["_law_rows", "_law_weights"])(iG:Df P w K mg base) :
  C5 P w K mg base:=by
 refine yq D c7 (λhr=>(xw (uy (xA iG hr (xk (pv 0) (pv 1))) (zJ K (n:=3) rfl (xZ (ym 2 c7.nd) (xZ (ym 3 c7.nd) (xZ (ym 4 c7.nd) zE))))) (xw (yP (PW.pt (uh (yz (wA hr.units) (xC K 2) xm (yc _)) (uh (yz (wA hr.units) (xC K 3) xm (yc _)) (vP (PW.pt (jC (yz (ue hr.units) (xC K 2) xm (yc _)) (h8 (yz (ue hr.units) (xC K 3) xm (yc _))))))))) (xy (xQ dE)) yQ) (xy (xQ (yG (y4 (xC K 2) (xk (xC K 3) (xr uF (xC K 4) (xC K 4))))))))))
  (xD (uQ (xF (xo xc xc)) (zP (yb xM (yb xM (yb xM zI)))).g) (xD (yW (uc (yB (xl wB xB xq)) (uc (yB (xl wB xB xq)) (jB (yB (xl os_eq xB xq)) (yB (xl os_eq xB xq))))) (xY (jA (t:=Tr.non))) yX) (xY (yF (b:=true) (zw xB (xo xB (xl uG xB xB))))))) λts KK hl h=>?_
 obtain⟨xa,ws,rfl,H0,k⟩:=h;obtain⟨p0,pb⟩:=H0.bot;refine⟨xa,ws,rfl,H0,?_⟩;refine⟨rfl,?_⟩;have cn:(wsum k2 (xa.zip ws)).2≠0:=by lia
 have ce:jr (xa.zip ws)=xh ((wsum k0 (xa.zip ws)).1,(wsum k1 (xa.zip ws)).1,(wsum k2 (xa.zip ws)).1.fdiv (wsum k2 (xa.zip ws)).2):=rfl;rw[ce] at k;generalize wsum k0 (xa.zip ws)=a at *
 generalize wsum k1 (xa.zip ws)=b' at *
 generalize wsum k2 (xa.zip ws)=c at *
 have no:¬jQ a b'->KK .non:=λh=>by rw[xH h] at k;exact k
 have yes:jQ a b'->KK (xh (a.1,b'.1,c.1.fdiv c.2)):=λh=>by rw[xK h] at k;exact k
 refine yi (b:=!decide (a.2=1)) (λz=>no λy=>?_) (λz1=>?_)
 .simp[y.1] at z
 have z1:a.2=1:=by simpa using z1
 refine yi (b:=!decide (b'.2=1)) (λz=>no λy=>?_) (λz2=>?_)
 .simp[y.2.1] at z
 have z2:b'.2=1:=by simpa using z2
 refine yi (b:=decide (a.1=0)) (λz=>?_) (λz3=>?_)
 .have z3:=yV z;refine yi (b:=decide (b'.1=0)) (λz4=>?_) (λz4=>?_)
  .exact no λy=>y.2.2 ⟨z3,yV z4⟩
  .exact⟨⟨cn,pb⟩,yes ⟨z1,z2,λy=>zZ z4 y.2⟩⟩
 .exact⟨⟨cn,pb⟩,yes ⟨z1,z2,λy=>zZ z3 y.1⟩⟩
def OT (B:yd mg bn)(D:DF K mg "_law_whole" AN f fd ["_law_thing"])  :
  Dg P w K mg base:=by
 refine yq D SK (λhr=>(xy (xQ (aJ (yT qW rfl (B.get "isinstance") qU (xk (pv 0) (kD (v:=V.ty "int") rfl (B.get "int") Ep rfl))) (hU (HN (yT qW rfl (B.get "isinstance") qU (xk (pv 0) (kD (v:=V.ty "bool") rfl (B.get "bool") Eo rfl)))))))))
  (xY (aF (ko xc) (Hg (ko xc)))) λts KK hl h=>?_
 obtain⟨t,rfl,k⟩:=h;cases t<;>exact k
theorem OD (B:yd mg bn)(D:DF K mg "_law_is_fraction" Ay f fd ["_law_thing"])(bW:Dg P w K mg base)(ay:oG P w K mg base) :
  C7 P w K mg base:=by
 refine yq D SD (λhr=>(xw (yP (PW.pt (uh (uI (wC (yT qW rfl (B.get "isinstance") qU (xk (pv 0) (kD (v:=V.ty "tuple") rfl (B.get "tuple") qV rfl))))) (uh (yz (wA hr.units) (yT (uZ K) rfl (B.get "len") uY (xP (pv 0))) xm (yc _)) (uh (uI (wC (xA bW hr (xP (xC K 0))))) (vP (uI (wC (xA bW hr (xP (xC K 0)))))))))) (xy (xQ uH)) yQ) (xy (xQ (aJ (vd j9 (xC K 0) xm (yc _)) (hU (vd (ue hr.units) (xA ay hr (xk (xC K 0) (xC K 0))) xm (yc _))))))))
  (xD (yW (uc (uE (zU (ko xc))) (uc (yB (xl wB (zO vA (xR xc)) xq)) (uc (uE (zU (xF (xR xB)))) (uE (zU (xF (xR xB))))))) (xY vc) yX) (xY (aF (xl hG xB xq) (xl os_eq (xF (xo xB xB)) xq)))) λts KK hl h=>?_
 obtain⟨t,rfl,k⟩:=h;cases t with
 |tup us=>
  refine yi (b:=!decide ((us.length:Int)=2)) (λc=>?_) (λc=>?_)
  .have c:¬(us.length:Int)=2:=by simpa using c
   have e:af (.tup us)=false:=by
    unfold af;split
    .rename_i z;injection z with z;rw[z] at c;exact absurd rfl c
    .rfl
   rw[e] at k;exact k
  .have c:us.length=2:=by simp at c;lia
   obtain⟨x,y,rfl⟩:∃x y,us=[x,y]:=by
    match us,c with
    |[x,y],_=>exact⟨x,y,rfl⟩
   refine⟨x,rfl,?_⟩;cases x with
   |int a=>
    refine⟨y,rfl,?_⟩;cases y with
    |int b=>
     have e:af (.tup [.int a,.int b])=(decide (1<=b)&&decide (Int.gcd a b=1)):=rfl;rw[e] at k;refine yi (b:=decide (0<b)) (λc1=>?_) (λc1=>?_)
     .have c1:=yV c1;rw[wI (show 1<=b by lia),Bool.true_and] at k;refine⟨a,b,rfl,?_⟩;have e2:decide (((Int.gcd a b:Nat):Int)=1)=decide (Int.gcd a b=1):=by rw[mZ];lia
      show KK (.bl (decide (((Int.gcd a b:Nat):Int)=1)));rw[e2];exact k
     .have c1:=zZ c1;rw[uX (show ¬1<=b by lia),Bool.false_and] at k;exact k
    |_=>exact k
   |_=>exact k
 |_=>exact k
def OU (B:yd mg bn)(D:DF K mg "_law_whole_left" aQ f fd ["_law_rows", "_law_places"])  :
  Dh P w K mg base:=by
 refine yq D aR (λhr=>(xw (yP (yz (ue hr.units) (pv 1) (wk uf) (yc _)) (xy (xQ (wk uf))) yQ) (xw (HW (i:=2) aR.nd rfl (Or.inl rfl) (Ez (N:=["_law_at", "_law_places"]) (xE:=[none,some 1]) (XN:=["_law_rows", "_law_places", "_law_lows", "_law_highs", "_law_found", "_law_x", "_law_y"]) (xs:=xI aQ) (by decide +kernel) rfl rfl) rfl (vp rfl) (zh K (yG (xk xm xm))) (λ_ _ _ _=>(yU (i:=0) (show(["_law_at", "_law_places"]:List Str).Nodup by decide +kernel) rfl (Or.inr rfl))) (λ_ _ _ _=>qj) (λ_ _ _ _=>(yT (LB K rfl) rfl (B.get "min") Es (xP (uR (wJ (N:=["_law_place", "_law_at"]) (xE:=[none,some 0]) (XN:=["_law_at", "_law_places"]) (xs:=_) (by kernel_rfl) rfl rfl) rfl (vp rfl) (zh K (pv 1)) (λ_ _ _ _=>(yU (i:=0) (show(["_law_place", "_law_at"]:List Str).Nodup by decide +kernel) rfl (Or.inl rfl))) (λ_ _ _ _=>qj) (λ_ _ _ _=>(xr uF (y8 (zD K) (y8 (zD K) (pv 0) (pv 1) (λ_ _=>rfl)) xm (λ_ _=>rfl)) (y8 (zD K) (y8 (zD K) (pv 0) (pv 1) (λ_ _=>rfl)) xm (λ_ _=>rfl)))))))))
  (xw (HW (i:=3) aR.nd rfl (Or.inl rfl) (Ez (N:=["_law_at", "_law_places"]) (xE:=[none,some 1]) (XN:=["_law_rows", "_law_places", "_law_lows", "_law_highs", "_law_found", "_law_x", "_law_y"]) (xs:=xI aQ) (by decide +kernel) rfl rfl) rfl (vp rfl) (zh K (yG (xk xm xm))) (λ_ _ _ _=>(yU (i:=0) (show(["_law_at", "_law_places"]:List Str).Nodup by decide +kernel) rfl (Or.inr rfl))) (λ_ _ _ _=>qj) (λ_ _ _ _=>(yT (Ly K rfl) rfl (B.get "max") Er (xP (uR (wJ (N:=["_law_place", "_law_at"]) (xE:=[none,some 0]) (XN:=["_law_at", "_law_places"]) (xs:=_) (by kernel_rfl) rfl rfl) rfl (vp rfl) (zh K (pv 1)) (λ_ _ _ _=>(yU (i:=0) (show(["_law_place", "_law_at"]:List Str).Nodup by decide +kernel) rfl (Or.inl rfl))) (λ_ _ _ _=>qj) (λ_ _ _ _=>(xr uF (y8 (zD K) (y8 (zD K) (pv 0) (pv 1) (λ_ _=>rfl)) xm (λ_ _=>rfl)) (y8 (zD K) (y8 (zD K) (pv 0) (pv 1) (λ_ _=>rfl)) xm (λ_ _=>rfl)))))))))
  (xw (yC 4 aR.nd (wk uf)) (xw (zX zS rfl (HP rfl (B.get "range") (xk (xC K 2) (xr ud (xC K 3) xm))) (yU (i:=5) aR.nd rfl (Or.inr rfl)) (xy (zX zS rfl (HP rfl (B.get "range") (xk (xC K 2) (xr ud (xC K 3) xm))) (yU (i:=6) aR.nd rfl (Or.inr rfl)) (xy (yP (yz (ue hr.units) (uR (wJ (N:=["_law_row", "_law_x", "_law_y"]) (xE:=[none,some 5,some 6]) (XN:=["_law_rows", "_law_places", "_law_lows", "_law_highs", "_law_found", "_law_x", "_law_y"]) (xs:=xI aQ) (by decide +kernel) rfl rfl) rfl (vp rfl) (zh K (pv 0)) (λ_ _ _ _=>(yU (i:=0) (show(["_law_row", "_law_x", "_law_y"]:List Str).Nodup by decide +kernel) rfl (Or.inl rfl))) (λ_ _ _ _=>(qC (yz j9 (xr ud (xr yr (xC K 0) (pv 1)) (xr yr (xC K 0) (pv 2))) (xC K 0) (yc _)))) (λ_ _ _ _=>(pv 0))) (wk uf) (yc _)) (xy (vE (qi qO jg jh km (pv 4) (xP (yG (xk (yG (xk (pv 5) xm)) (yG (xk (pv 6) xm)))))))) yQ)))))
  (xy (xQ (pv 4)))))))))
  (xD (yW (yB (xl os_eq xc (vO (b:=true) uP))) (xY (vO (b:=true) uP)) yX) (xD (yE (zp.e (wy (zH (yF (b:=true) (xo xq xq))).c xM qg (zO LL (xR (zp.e (wy (zH xc).c xM qg (xl uG (wd (wd xc xc) xq) (wd (wd xc xc) xq))))))))) (xD (yE (zp.e (wy (zH (yF (b:=true) (xo xq xq))).c xM qg (zO LJ (xR (zp.e (wy (zH xc).c xM qg (xl uG (wd (wd xc xc) xq) (wd (wd xc xc) xq))))))))) (xD (vX (kW uP)) (xD (zW (Hm (xo xB (xl vt xB xq))) xM.g (zW (Hm (xo xB (xl vt xB xq))) xM.g (yW (yB (xl os_eq (zp.e (wy (zH xc).c xM (yB (xl hG (xl vt (xl yu xB xc) (xl yu xB xc)) xB)) xc)) (vO (b:=true) uP))) (kA (yF (b:=true) (xo (yF (b:=true) (xo xc xq)) (yF (b:=true) (xo xc xq))))) yX))) aG))))) λts KK hl h=>?_
 obtain⟨xa,rfl,hF,k⟩:=h;have cl:=ER hF.fine;have l8:=hF.l8;refine yO (λτ=>xS xa≠[]/\τ=[.fz (.tup (xa.map xh)),.fz (.lst ((xS xa).map xG)),.un,.un,.un,.un,.un]) ?_ (λN hN=>?_)
 rotate_left
 .cases e:xS xa with
  |nil=>exact⟨tj rfl,k [] (by simp) (by simp)⟩
  |cons v vs=>exact⟨tj (jo xG (λv=>aK (xn v)) _),hN _ ⟨by rw[e];simp,by rw[e];rfl⟩⟩
 rintro _ ⟨ne,rfl⟩;have fk:∀v∈xS xa,((xn v).1.2≠0/\Bd (xn v).1.2)/\((xn v).2.2≠0/\Bd (xn v).2.2):=λv hv=>by have P:=hF.fine.pk2 hv;have a:=P.1.pos;have b:=P.2.pos;exact⟨⟨by lia,P.1.bot.bd⟩,⟨by lia,P.2.bot.bd⟩⟩
 have fx:∀M∈(xS xa).map (λv=>(xn v).1.1.fdiv (xn v).1.2),-12<=M/\M<=12:=λM hM=>by obtain⟨v,hv,rfl⟩:=zQ.mp hM;exact(hF.floors hv).1
 have fy:∀M∈(xS xa).map (λv=>(xn v).2.1.fdiv (xn v).2.2),-12<=M/\M<=12:=λM hM=>by obtain⟨v,hv,rfl⟩:=zQ.mp hM;exact(hF.floors hv).2
 refine yO (λτ=>∃a b:Int,((-12<=a/\a<=12)/\(-12<=b/\b<=12))/\τ=[.fz (.tup (xa.map xh)),.fz (.lst ((xS xa).map xG)),.fz (.lst [.int a,.int b]),.un,.un,.un,.un]) ?_ (λN hN=>?_)
 rotate_left
 .refine⟨zF (by decide),?_⟩;refine⟨by rw[xO];exact zF (by lia),rR (λv=>.int ((xn v).1.1.fdiv (xn v).1.2)) (λv hv N h=>⟨(fk v hv).1,h⟩) ?_⟩;refine⟨(xS xa).map (λv=>(xn v).1.1.fdiv (xn v).1.2),by rw[vy];rfl,by simpa using ne,λa ha _=>?_⟩;refine⟨by rw[xO];exact zF (by lia),rR (λv=>.int ((xn v).2.1.fdiv (xn v).2.2)) (λv hv N h=>⟨(fk v hv).2,h⟩) ?_⟩;refine⟨(xS xa).map (λv=>(xn v).2.1.fdiv (xn v).2.2),by rw[vy];rfl,by simpa using ne,λb hb _=>?_⟩;exact hN _ ⟨a,b,⟨fx a ha,fy b hb⟩,rfl⟩
 rintro _ ⟨a,b',⟨ba,bb⟩,rfl⟩;refine yO (λτ=>∃c d:Int,((-12<=c/\c<=12)/\(-12<=d/\d<=12))/\τ=[.fz (.tup (xa.map xh)),.fz (.lst ((xS xa).map xG)),.fz (.lst [.int a,.int b']),.fz (.lst [.int c,.int d]),.un,.un,.un]) ?_ (λN hN=>?_)
 rotate_left
 .refine⟨zF (by decide),?_⟩;refine⟨by rw[xO];exact zF (by lia),rR (λv=>.int ((xn v).1.1.fdiv (xn v).1.2)) (λv hv N h=>⟨(fk v hv).1,h⟩) ?_⟩;refine⟨(xS xa).map (λv=>(xn v).1.1.fdiv (xn v).1.2),by rw[vy];rfl,by simpa using ne,λc hc _=>?_⟩;refine⟨by rw[xO];exact zF (by lia),rR (λv=>.int ((xn v).2.1.fdiv (xn v).2.2)) (λv hv N h=>⟨(fk v hv).2,h⟩) ?_⟩;refine⟨(xS xa).map (λv=>(xn v).2.1.fdiv (xn v).2.2),by rw[vy];rfl,by simpa using ne,λd hd _=>?_⟩;exact hN _ ⟨c,d,⟨fx c hc,fy d hd⟩,rfl⟩
 rintro _ ⟨c,d,⟨bc,bd'⟩,rfl⟩;refine yO (λτ=>τ=[.fz (.tup (xa.map xh)),.fz (.lst ((xS xa).map xG)),.fz (.lst [.int a,.int b']),.fz (.lst [.int c,.int d]),.ow [],.un,.un]) ?_ (λN hN=>hN _ rfl);rintro _ rfl;refine yO (λτ=>∃(ps:List D2) (x5 x6:TV),(∀p∈ps,Bx 1000 p/\rL xa p)/\ps.length<=2000/\τ=[.fz (.tup (xa.map xh)),.fz (.lst ((xS xa).map xG)),.fz (.lst [.int a,.int b']),.fz (.lst [.int c,.int d]),.ow (ps.map wpT),x5,x6]) ?_ (λN hN=>?_)
 .rintro _ ⟨ps,x5,x6,h1,h2,rfl⟩;exact k ps h1 h2
 refine qF (qk a (c+1-a).toNat) (λi τ=>i<=25/\∃(ps:List D2) (x5 x6:TV),(∀p∈ps,Bx 1000 p/\rL xa p)/\ps.length<=25*i/\τ=[.fz (.tup (xa.map xh)),.fz (.lst ((xS xa).map xG)),.fz (.lst [.int a,.int b']),.fz (.lst [.int c,.int d]),.ow (ps.map wpT),x5,x6]) (λKK h=>⟨⟨by lia,by lia,by lia,by lia⟩,h⟩) ⟨by decide,[],_,_,by simp,by simp,rfl⟩ ?_ (λτ ⟨i25,ps,x5,x6,h1,h2,e⟩=>hN _ ⟨ps,x5,x6,h1,by lia,e⟩);rintro i x τ N2 hx ⟨_,ps,x5,x6,h1,h2,rfl⟩ hN2;have hi:=(zc.mp hx).1;rw[uS] at hi;rw[h9 hi] at hx;cases hx;have bx:-12<=a+(i:Int)/\a+(i:Int)<=12:=by lia
 have i24:i<=24:=by lia
 generalize a+(i:Int)=X at bx;show cM _ _ _ _ ([.fz (.tup (xa.map xh)),.fz (.lst ((xS xa).map xG)),.fz (.lst [.int a,.int b']),.fz (.lst [.int c,.int d]),.ow (ps.map wpT),.fz (.int X),x6]:xW);refine qF (qk b' (d+1-b').toNat) (λj τ=>j<=25/\∃(ps:List D2) (x6:TV),(∀p∈ps,Bx 1000 p/\rL xa p)/\ps.length<=25*i+j/\τ=[.fz (.tup (xa.map xh)),.fz (.lst ((xS xa).map xG)),.fz (.lst [.int a,.int b']),.fz (.lst [.int c,.int d]),.ow (ps.map wpT),.fz (.int X),x6]) (λKK h=>⟨⟨by lia,by lia,by lia,by lia⟩,h⟩) ⟨by decide,ps,_,h1,by lia,rfl⟩ ?_ (λτ ⟨j25,ps,x6,h1,h2,e⟩=>hN2 _ ⟨by lia,ps,_,x6,h1,by lia,e⟩);clear h1 h2 ps;rintro j y τ N3 hy ⟨_,ps,x6,h1,h2,rfl⟩ hN3;have hj:=(zc.mp hy).1;rw[uS] at hj;rw[h9 hj] at hy;cases hy;have by':-12<=b'+(j:Int)/\b'+(j:Int)<=12:=by lia
 have j24:j<=24:=by lia
 generalize b'+(j:Int)=Y at by'
 refine⟨by rw[xO];exact zF (by lia),qu (λr=>decide (r.1*X+r.2.1*Y>r.2.2)) xh (λr hr N M h1 h0=>?_) ?_⟩
 .have br:=hF.sm r hr;exact⟨qX (by lia) (by lia),qX (by lia) (by lia),yi h1 h0⟩
 dsimp only[sV,js];refine tD (jo xh (λr=>rfl) _) ?_;rw[Cp,filter_empty];refine yi (b:=xa.all λr=>!decide (r.1*X+r.2.1*Y>r.2.2)) (λc=>?_) (λc=>?_)
 .have kp:rL xa (X,Y):=λr hr=>by
   have:=jJ.mp c r hr;have:¬(r.1*X+r.2.1*Y>r.2.2):=by simpa using this
   show r.1*X+r.2.1*Y<=r.2.2;lia
  refine⟨by rw[xO];exact zF (by lia),hN3 _ ⟨by lia,ps++[(X,Y)],.fz (.int Y),λp hp=>?_,by rw[zy,gB];lia,?_⟩⟩
  .rcases yy.mp hp with z|z
   .exact h1 p z
   .rw[zR.mp z];exact⟨by unfold Bx;simp only;lia,kp⟩
  .rw[uo];rfl
 .exact hN3 _ ⟨by lia,ps,.fz (.int Y),h1,by lia,rfl⟩
end
section
variable (P:Program) (w:World) {K:xt} {mg:Str->Option Value} (base:Heap) {f:Addr} {fd:FuncData}
def Ot (B:yd mg bn)(D:DF K mg "_law_all_cuts" Aq f fd ["_law_rows"])  :
  C0 P w K mg base:=by
 refine yq D qG (λhr=>(xw (yC 1 qG.nd HM) (xw (zX zS rfl (hV rfl (B.get "range") (xP (yT (uZ K) rfl (B.get "len") uY (xP (pv 0))))) (ym 2 qG.nd) (xy (zX zS rfl (zh K (gY (pI K) (pv 0) (g9 (xr (aH K) (pv 2) xm)) g6)) (zJ K (n:=3) rfl (xZ (ym 3 qG.nd) (xZ (ym 4 qG.nd) (xZ (ym 5 qG.nd) zE)))) (xw (uy (y8 (zD K) (pv 0) (pv 2) (λ_ _=>rfl)) (zJ K (n:=3) rfl (xZ (ym 6 qG.nd) (xZ (ym 7 qG.nd) (xZ (ym 8 qG.nd) zE))))) (xw (yC 9 qG.nd (yT jn rfl (B.get "abs") jk (xP (xr wj (xr (kY K) (pv 3) (pv 7)) (xr (kY K) (pv 4) (pv 6)))))) (xy (zX zS rfl (hV rfl (B.get "range") (xP (pv 9))) (ym 10 qG.nd) (xy (zX zS rfl (hV rfl (B.get "range") (xP (pv 9))) (ym 11 qG.nd) (xw (kZ (i:=12) (j:=13) rfl qG.nd rfl rfl (by decide) rfl rfl (xk (xr (aH K) (xr (kY K) (pv 10) (pv 3)) (xr (kY K) (pv 11) (pv 6))) (xr (aH K) (xr (kY K) (pv 10) (pv 4)) (xr (kY K) (pv 11) (pv 7)))) (by rfl))
  (xy (yP (PW.pt (jC (yz (ue hr.units) (xr cA (pv 12) (pv 9)) xm (yc _)) (jC (yz (ue hr.units) (xr cA (pv 13) (pv 9)) xm (yc _)) (h8 (PW.pt (uh (yz (wA hr.units) (pv 12) xm (yc _)) (vP (yz (wA hr.units) (pv 13) xm (yc _))))))))) (xy (RM (huR hr) (pv 1) (yG (y4 (xr uF (pv 12) (pv 9)) (xk (xr uF (pv 13) (pv 9)) (xr uF (xr (aH K) (xr (kY K) (pv 10) (pv 5)) (xr (kY K) (pv 11) (pv 8))) (pv 9))))) uH (by rfl))) yQ))))))))))))
  (xy (xQ (dD (Lu rfl) rfl (B.get "list") o6 (xP (pv 1))))))))
  (xD Ho (xD (zW (j8 (xR (zO vA (xR xc)))) xM.g (zW (zH (b_ xc (gU (aE xc xq)) gT)) (zP (yb xM (yb xM (yb xM zI)))).g (xD (uQ (wd xc xc) (zP (yb xM (yb xM (yb xM zI)))).g) (xD (yE (zO jq (xR (xl wo (kU xc xc) (kU xc xc))))) (zW (j8 (xR xc)) xM.g (zW (j8 (xR xc)) xM.g (xD (kX (xo (aE (kU xc xc) (kU xc xc)) (aE (kU xc xc) (kU xc xc)))) (yW (jB (yB (xl os_eq (xl cB xc xc) xq)) (jB (yB (xl os_eq (xl cB xc xc) xq)) (uc (yB (xl wB xc xq)) (yB (xl wB xc xq))))) (Qc (yF (b:=true) (zw (xl uG xc xc) (xo (xl uG xc xc) (xl uG (aE (kU xc xc) (kU xc xc)) xc)))) vc) yX)))))))) (dB P0))) λts KK hl h=>?_
 obtain⟨xa,rfl,hF,k⟩:=h;have l8:=hF.l8;have ml:(xa.map xh).length=xa.length:=xO _;refine yO (λτ=>τ=[.fz (.tup (xa.map xh)),.od (kvK []),.un,.un,.un,.un,.un,.un,.un,.un,.un,.un,.un,.un]) ?_ (λN hN=>hN _ rfl);rintro _ rfl;refine yO (λτ=>∃(keys:List Pol.R3) (x2 x3 x4 x5 x6 x7 x8 x9 x10 x11 x12 x13:TV),CI xa keys (λi _ _ _=>i<xa.length)/\τ=[.fz (.tup (xa.map xh)),.od (kvK keys),x2,x3,x4,x5,x6,x7,x8,x9,x10,x11,x12,x13]) ?_ (λN hN=>?_)
 .rintro _ ⟨keys,x2,x3,x4,x5,x6,x7,x8,x9,x10,x11,x12,x13,I,rfl⟩;have:=k keys (I.ac λi j s t p q a b c=>(zc.mp a).1) (I.len hF);show KK (.lst ((kvK keys).map λp=>tP p.1));unfold kvK;rw[vy];exact this
 refine qF (qk 0 xa.length) (λi τ=>∃(keys:List Pol.R3) (x2 x3 x4 x5 x6 x7 x8 x9 x10 x11 x12 x13:TV),CI xa keys (λi' _ _ _=>i' < i)/\τ=[.fz (.tup (xa.map xh)),.od (kvK keys),x2,x3,x4,x5,x6,x7,x8,x9,x10,x11,x12,x13]) (λKK h=>⟨⟨by lia,by rw[ml];lia⟩,by rw[ml,jI];exact h⟩) ⟨[],_,_,_,_,_,_,_,_,_,_,_,_,⟨List.nodup_nil,λk hk=>absurd hk (by simp),λi j s t p q _ _ _ _ z=>absurd z (Nat.not_lt_zero _)⟩,rfl⟩ ?_ (λτ ⟨keys,x2,x3,x4,x5,x6,x7,x8,x9,x10,x11,x12,x13,I,e⟩=>hN _ ⟨keys,x2,x3,x4,x5,x6,x7,x8,x9,x10,x11,x12,x13,by rw[uS] at I;exact I,e⟩);rintro i x τ N2 hx ⟨keys,x2,x3,x4,x5,x6,x7,x8,x9,x10,x11,x12,x13,I,rfl⟩ hN2;have hi:=(zc.mp hx).1;rw[uS] at hi;rw[h9 hi] at hx;cases hx;have hs:xa[i]?=some xa[i]:=yA hi;generalize xa[i]=s at hs;have sm:=zG hs;have bs:=hF.sm s sm;dsimp only[dO,jR,eName,gP];have ct:wK (xa.map xh) (some ((0:Int)+i+1)) none=(xa.drop (i+1)).map xh:=by rw[show(0:Int)+(i:Int)+1=((i+1:Nat):Int) by lia,nR,<-oh]
 refine qF ((xa.drop (i+1)).map xh) (λj τ=>∃(keys:List Pol.R3) (x3 x4 x5 x6 x7 x8 x9 x10 x11 x12 x13:TV),CI xa keys (λi' j' _ _=>i' < i\/i'=i/\j' < i+1+j)/\τ=[.fz (.tup (xa.map xh)),.od (kvK keys),.fz (.int ((0:Int)+i)),x3,x4,x5,x6,x7,x8,x9,x10,x11,x12,x13]) (λKK h=>?_) ⟨keys,_,_,_,_,_,_,_,_,_,_,_,I.mono λi' j' s' t' p' q' lt a b' c d=>?_,rfl⟩ ?_ (λτ ⟨keys,x3,x4,x5,x6,x7,x8,x9,x10,x11,x12,x13,I,e⟩=>hN2 _ ⟨keys,_,x3,x4,x5,x6,x7,x8,x9,x10,x11,x12,x13,I.mono λi' j' s' t' p' q' lt a b' c d=>?_,e⟩)
 .show KK (wK (xa.map xh) (some ((0:Int)+i+1)) none);rw[ct];exact h
 .lia
 rotate_left
 .have:=(zc.mp b').1;rw[xO,qo];lia
 clear I;rintro j y τ N3 hy ⟨keys,x3,x4,x5,x6,x7,x8,x9,x10,x11,x12,x13,I,rfl⟩ hN3;obtain⟨t,htj,rfl⟩:=u9 hy;rw[Ks] at htj;have tm:=zG htj;have S:=jT (hF.frow s sm);have T:=jT (hF.frow t tm);have bB:=LQ hF sm tm;refine⟨rfl,?_⟩;dsimp only[dO,jR,eName,gP];have at0:atT (xa.map xh) ((0:Int)+i)=some (xh s):=by rw[show(0:Int)+(i:Int)=((i:Nat):Int) by lia,fO,vh,hs];rfl
 show dP _ _ _ ([.fz (.tup (xa.map xh)),.od (kvK keys),.fz (.int ((0:Int)+i)),.fz (.int t.1),.fz (.int t.2.1),.fz (.int t.2.2),x6,x7,x8,x9,x10,x11,x12,x13]:xW);refine yO (λτ=>τ=[.fz (.tup (xa.map xh)),.od (kvK keys),.fz (.int ((0:Int)+i)),.fz (.int t.1),.fz (.int t.2.1),.fz (.int t.2.2),.fz (.int s.1),.fz (.int s.2.1),.fz (.int s.2.2),x9,x10,x11,x12,x13]) ?_ (λN hN=>?_)
 rotate_left
 .show wM (atT (xa.map xh) ((0:Int)+i)) _;rw[at0];exact⟨rfl,hN _ rfl⟩
 rintro _ rfl;refine yO (λτ=>τ=[.fz (.tup (xa.map xh)),.od (kvK keys),.fz (.int ((0:Int)+i)),.fz (.int t.1),.fz (.int t.2.1),.fz (.int t.2.2),.fz (.int s.1),.fz (.int s.2.1),.fz (.int s.2.2),.fz (.int (yK s t)),x10,x11,x12,x13]) ?_ (λN hN=>?_)
 rotate_left
 .exact⟨⟨T.1.1.bd,S.1.2.bd⟩,⟨T.1.2.bd,S.1.1.bd⟩,hN _ rfl⟩
 rintro _ rfl;refine qF (qk 0 (yK s t).toNat) (λn τ=>∃(keys:List Pol.R3) (x10 x11 x12 x13:TV),CI xa keys (λi' j' p' _=>i' < i\/i'=i/\(j' < i+1+j\/j'=i+1+j/\p' < n))/\τ=[.fz (.tup (xa.map xh)),.od (kvK keys),.fz (.int ((0:Int)+i)),.fz (.int t.1),.fz (.int t.2.1),.fz (.int t.2.2),.fz (.int s.1),.fz (.int s.2.1),.fz (.int s.2.2),.fz (.int (yK s t)),x10,x11,x12,x13]) (λKK h=>⟨⟨by lia,by lia⟩,h⟩) ⟨keys,_,_,_,_,I.mono λi' j' s' t' p' q' lt a b' c d=>(by have:=c.p0;lia),rfl⟩ ?_ (λτ ⟨keys,x10,x11,x12,x13,I,e⟩=>hN3 _ ⟨keys,_,_,_,_,_,_,_,x10,x11,x12,x13,I.mono λi' j' s' t' p' q' lt a b' c d=>?_,e⟩)
 rotate_left
 .rw[uS];by_cases q:i'=i/\j'=i+1+j
  .obtain⟨rfl,rfl⟩:=q;rw[hs] at a;rw[htj] at b';cases a;cases b';have:=c.p1;lia
  .lia
 clear I;rintro n z τ N4 hz ⟨keys,x10,x11,x12,x13,I,rfl⟩ hN4;have hn:=(zc.mp hz).1;rw[uS] at hn;rw[h9 hn] at hz;cases hz;dsimp only[dO,jR,eName,gP];rw[show(0:Int)+(n:Int)=(n:Int) by lia];refine qF (qk 0 (yK s t).toNat) (λm τ=>∃(keys:List Pol.R3) (x11 x12 x13:TV),CI xa keys (λi' j' p' q'=>i' < i\/i'=i/\(j' < i+1+j\/j'=i+1+j/\(p' < n\/p'=n/\q' < m)))/\τ=[.fz (.tup (xa.map xh)),.od (kvK keys),.fz (.int ((0:Int)+i)),.fz (.int t.1),.fz (.int t.2.1),.fz (.int t.2.2),.fz (.int s.1),.fz (.int s.2.1),.fz (.int s.2.2),.fz (.int (yK s t)),.fz (.int (n:Int)),x11,x12,x13]) (λKK h=>⟨⟨by lia,by lia⟩,h⟩) ⟨keys,_,_,_,I.mono λi' j' s' t' p' q' lt a b' c d=>(by have:=c.q0;lia),rfl⟩ ?_ (λτ ⟨keys,x11,x12,x13,I,e⟩=>hN4 _ ⟨keys,_,x11,x12,x13,I.mono λi' j' s' t' p' q' lt a b' c d=>?_,e⟩)
 rotate_left
 .rw[uS];by_cases q:i'=i/\j'=i+1+j
  .obtain⟨rfl,rfl⟩:=q;rw[hs] at a;rw[htj] at b';cases a;cases b';have:=c.q1;lia
  .lia
 clear I;rintro o z τ N5 hz ⟨keys,x11,x12,x13,I,rfl⟩ hN5;have ho:=(zc.mp hz).1;rw[uS] at ho;rw[h9 ho] at hz;cases hz;dsimp only[dO,jR,eName,gP];rw[show(0:Int)+(o:Int)=(o:Int) by lia];have b0:0<yK s t:=by lia
 have bk:∀ {x:Int},0<=x->x<=392->Bk 10 x:=λ {x} h1 h2=>by unfold Bk;lia
 have nb:Bk 10 (n:Int):=bk (by lia) (by lia);have ob:Bk 10 (o:Int):=bk (by lia) (by lia);have bb:Bd (yK s t):=(bk bB.1 bB.2).bd;have grow:∀i' j' (p' q':Int),(i' < i\/i'=i/\(j' < i+1+j\/j'=i+1+j/\(p' < n\/p'=n/\q' < ((o+1:Nat):Int))))->(i' < i\/i'=i/\(j' < i+1+j\/j'=i+1+j/\(p' < n\/p'=n/\q' < (o:Int))))\/i'=i/\j'=i+1+j/\p'=n/\q'=o:=λi' j' p' q' d=>by lia
 have no:¬rT s t n o->N5 ([.fz (.tup (xa.map xh)),.od (kvK keys),.fz (.int ((0:Int)+i)),.fz (.int t.1),.fz (.int t.2.1),.fz (.int t.2.2),.fz (.int s.1),.fz (.int s.2.1),.fz (.int s.2.2),.fz (.int (yK s t)),.fz (.int (n:Int)),.fz (.int (o:Int)),.fz (.int (ckU s t n o)),.fz (.int (ckV s t n o))]:xW):=λc=>hN5 _ ⟨keys,_,_,_,I.skip hs htj c grow,rfl⟩;have yes:rT s t n o->N5 ([.fz (.tup (xa.map xh)),.od (kvK (fM keys (ckR s t n o))),.fz (.int ((0:Int)+i)),.fz (.int t.1),.fz (.int t.2.1),.fz (.int t.2.2),.fz (.int s.1),.fz (.int s.2.1),.fz (.int s.2.2),.fz (.int (yK s t)),.fz (.int (n:Int)),.fz (.int (o:Int)),.fz (.int (ckU s t n o)),.fz (.int (ckV s t n o))]:xW):=λc=>hN5 _ ⟨_,_,_,_,I.put hs htj ⟨by lia,by lia,by lia,by lia,c,rfl⟩ grow,rfl⟩;refine yO (λτ=>τ=[.fz (.tup (xa.map xh)),.od (kvK keys),.fz (.int ((0:Int)+i)),.fz (.int t.1),.fz (.int t.2.1),.fz (.int t.2.2),.fz (.int s.1),.fz (.int s.2.1),.fz (.int s.2.2),.fz (.int (yK s t)),.fz (.int (n:Int)),.fz (.int (o:Int)),.fz (.int (ckU s t n o)),.fz (.int (ckV s t n o))]) ?_ (λN hN=>?_)
 rotate_left
 .exact⟨⟨nb.bd,T.1.1.bd⟩,⟨ob.bd,S.1.1.bd⟩,⟨nb.bd,T.1.2.bd⟩,⟨ob.bd,S.1.2.bd⟩,hN _ rfl⟩
 rintro _ rfl;have fm:∀x:Int,x.fmod (yK s t)=x%yK s t:=λx=>FP bB.1;have fd:∀x:Int,x.fdiv (yK s t)=x/yK s t:=λx=>qb bB.1;have put:rT s t n o->Ap 1 (E_ (qY (d2 n_ (wL 12) (wL 9)) (qY (d2 n_ (wL 13) (wL 9)) (qY (d2 n_ (d2 tw (d2 tE (wL 10) (wL 5)) (d2 tE (wL 11) (wL 8))) (wL 9)) js)))) (dC (Tr.bl true)) {nx:=N5,rt:=KK,bk:=N4,ct:=N5} ([.fz (.tup (xa.map xh)),.od (kvK keys),.fz (.int ((0:Int)+i)),.fz (.int t.1),.fz (.int t.2.1),.fz (.int t.2.2),.fz (.int s.1),.fz (.int s.2.1),.fz (.int s.2.2),.fz (.int (yK s t)),.fz (.int (n:Int)),.fz (.int (o:Int)),.fz (.int (ckU s t n o)),.fz (.int (ckV s t n o))]:xW):=λc=>by
  have kl:=I.len hF;refine⟨⟨by lia,bb⟩,⟨by lia,bb⟩,⟨nb.bd,T.2.bd⟩,⟨ob.bd,S.2.bd⟩,⟨by lia,bb⟩,kyR (ckR s t n o),?_,by unfold kvK;rw[xO];exact sqy (by lia),?_⟩
  .show Tr.tup [.int ((ckU s t n o).fdiv (yK s t)),.int ((ckV s t n o).fdiv (yK s t)),.int ((ckN s t n o).fdiv (yK s t))]=_;rw[fd,fd,fd];rfl
  .rw[Tt];exact yes c
 refine⟨by lia,yi (b:=decide ((ckU s t n o).fmod (yK s t)=0)) (λc1=>?_) (λc1=>no λz=>?_)⟩
 rotate_left
 .have:=zZ c1;rw[fm] at this;exact this z.1
 have c1:=yV c1;rw[fm] at c1;refine⟨by lia,yi (b:=decide ((ckV s t n o).fmod (yK s t)=0)) (λc2=>?_) (λc2=>no λz=>?_)⟩
 rotate_left
 .have:=zZ c2;rw[fm] at this;exact this z.2.1
 have c2:=yV c2;rw[fm] at c2;refine yi (b:=!decide (ckU s t n o=0)) (λc3=>?_) (λc3=>?_)
 .exact put ⟨c1,c2,.inl (by simpa using c3)⟩
 .refine yi (b:=!decide (ckV s t n o=0)) (λc4=>?_) (λc4=>no λz=>?_)
  .exact put ⟨c1,c2,.inr (by simpa using c4)⟩
  .have c3:ckU s t n o=0:=by simpa using c3
   have c4:ckV s t n o=0:=by simpa using c4
   exact z.2.2.elim (λh=>h c3) λh=>h c4
def OK (B:yd mg bn)(D:DF K mg "_law_over" AF f fd ["_law_one", "_law_other"])(u_:fL P w K mg base) :
  Dc P w K mg base:=by
 refine yq D SH (λhr=>(xy (xQ (xA u_ hr (xk (xr yr (xC K 0) (xC K 1)) (xr yr (xC K 0) (xC K 1)))))))
  (xY (xF (xo (xl yu xB xB) (xl yu xB xB)))) λts KK hl h=>?_
 obtain⟨f,g,rfl,hf,hg,g0,k⟩:=h;exact⟨⟨hf.top.bd,hg.bot.bd⟩,⟨hf.bot.bd,hg.top.bd⟩,_,_,rfl,λz=>by
  rcases vf.mp z with z|z
  .have:=hf.pos;lia
  .exact g0 z,(hf.bot.mul hg.top).bd,k⟩
def Ow (B:yd mg bn)(D:DF K mg "_law_clipped" cQ f fd ["_law_places", "_law_row"])(aA:oK P w K mg base)(qf:oI P w K mg base)(dz:oM P w K mg base)(iD:Dc P w K mg base)(dw:oJ P w K mg base)(kT:nE P w K mg base)(az:oH P w K mg base) :
  oF P w K mg base:=by
 refine yq D fc (λhr=>(xw (yP (yz (ue hr.units) (uR (wJ (N:=["_law_place", "_law_row"]) (xE:=[none,some 1]) (XN:=["_law_places", "_law_row", "_law_found", "_law_at", "_law_one", "_law_other", "_law_here", "_law_there", "_law_share", "_law_x"]) (xs:=xI cQ) (by decide +kernel) rfl rfl) rfl (vp rfl) (zh K (pv 0)) (λ_ _ _ _=>(yU (i:=0) (show(["_law_place", "_law_row"]:List Str).Nodup by decide +kernel) rfl (Or.inl rfl))) (λ_ _ _ _=>(qC (uI (wC (xA az hr (xk (pv 1) (pv 0))))))) (λ_ _ _ _=>(pv 0))) (wk uf) (yc _)) (xy (xQ (pv 0))) yQ)
  (xw (yC 2 fc.nd (wk uf)) (xw (zX zS rfl (hV rfl (B.get "range") (xP (yT (uZ K) rfl (B.get "len") uY (xP (pv 0))))) (ym 3 fc.nd) (xw (kZ (i:=4) (j:=5) rfl fc.nd rfl rfl (by decide) rfl rfl (xk (y8 (zD K) (pv 0) (xr wj (pv 3) xm) (λ_ _=>rfl)) (y8 (zD K) (pv 0) (pv 3) (λ_ _=>rfl))) (by rfl))
  (xw (yC 6 fc.nd (xA qf hr (xk (yG (xk (xC K 1) xm)) (xA dz hr (xk (pv 1) (pv 4)))))) (xw (yC 7 fc.nd (xA qf hr (xk (yG (xk (xC K 1) xm)) (xA dz hr (xk (pv 1) (pv 5)))))) (xw (yP (yz (kB K hr.units) (xr (kY K) (xC K 6) (xC K 7)) xm (yc _)) (xw (yC 8 fc.nd (xA iD hr (xk (pv 6) (xA qf hr (xk (pv 6) (pv 7)))))) (xw (yC 9 fc.nd (xA dw hr (xk (xC K 4) (xA kT hr (xk (pv 8) (xA qf hr (xk (xC K 5) (xC K 4)))))))) (xy (vE (qi qO jg jh km (pv 2) (xP (yG (xk (pv 9) (xA dw hr (xk (xC K 4) (xA kT hr (xk (pv 8) (xA qf hr (xk (xC K 5) (xC K 4))))))))))))))) yQ) (xy (yP (yz Ht (xC K 7) xm (yc _)) (xy (vE (qi qO jg jh km (pv 2) (xP (pv 5))))) yQ)))))))
  (xy (xQ (xA aA hr (xP (pv 2)))))))))
  (xD (yW (yB (xl os_eq (zp.e (wy (zH xc).c xM (uE (zU (xF (xo xc xc)))) xc)) (vO (b:=true) uP))) (xY xc) yX) (xD (vX (kW uP)) (xD (zW (j8 (xR (zO vA (xR xc)))) xM.g (xD (kX (xo (wd xc (xl wo xc xq)) (wd xc xc))) (xD (yE (xF (xo (yF (b:=true) (xo xB xq)) (xF (xo xc xc))))) (xD (yE (xF (xo (yF (b:=true) (xo xB xq)) (xF (xo xc xc))))) (xD (yW (yB (xl kC (kU xB xB) xq)) (xD (yE (xF (xo xc (xF (xo xc xc))))) (xD (yE (xF (xo xB (xF (xo xc (xF (xo xB xB))))))) (kA (yF (b:=true) (xo xc (xF (xo xB (xF (xo xc (xF (xo xB xB))))))))))) yX) (yW (yB (xl Qj xB xq)) (kA xc) yX)))))) (xY (xF (xR j7)))))) λts KK hl h=>?_
 obtain⟨xa,C,r,rfl,O,k⟩:=h;have O0:=O.sub;have rg:=O0.ring;have ln:=rg.len;have rb:yM 10 r:=O.b r (zY _ (zY _ xT));have e2:xS (xa++(C++[r]))=xS (xa++C++[r]):=by rw[v5]
 rw[e2] at k;have r2:ji 6000000 (xS (xa++C++[r])):=by rw[<-e2];exact O.ring
 have nd:(pieces (xa++C)).Nodup:=(qy O0.fine.dir).ccw.nd;have pk:∀ {v},v∈xS (xa++C)->Pk 21 (xn v):=λhv=>O0.pk hv;have ps:=rg.pos;have cl:∀v,v∈wY r (xS (xa++C))↔v∈xS (xa++C++[r]):=λv=>N6;have keep:(∀v∈xS (xa++C),val r v<=0)->xS (xa++C++[r])=xS (xa++C):=λh=>LR h nd;generalize xS (xa++C++[r])=m at *
 generalize xS (xa++C)=l at *
 refine yO (λτ=>τ=[.fz (.lst (l.map xG)),.fz (xh r),.un,.un,.un,.un,.un,.un,.un,.un]) ?_ (λN hN=>?_)
 rotate_left
 .refine⟨by rw[xO];exact sqy (by lia),qu (f:=xG) (λv=>!jw r (xn v)) xG (λv hv N M h1 h0=>?_) ?_⟩
  .exact⟨r,xn v,rfl,rb.mono (by decide),(pk hv).1.mono (by decide),(pk hv).2.mono (by decide),yi (b:=!jw r (xn v)) h1 h0⟩
  .dsimp only[sV,js];refine tD (o7 _) ?_;rw[Cp,filter_empty];refine yi (b:=l.all λv=>!!jw r (xn v)) (λc=>?_) (λc=>hN _ rfl);rw[jJ] at c;rw[keep λv hv=>by have:=c v hv;rw[Bool.not_not,lN r (ps v hv)] at this;exact yV this] at k
   exact k
 rintro _ rfl;refine yO (λτ=>τ=[.fz (.lst (l.map xG)),.fz (xh r),.ow [],.un,.un,.un,.un,.un,.un,.un]) ?_ (λN hN=>hN _ rfl);rintro _ rfl;refine yO (λτ=>∃x3 x4 x5 x6 x7 x8 x9:TV,τ=[.fz (.lst (l.map xG)),.fz (xh r),.ow ((wY r l).map xG),x3,x4,x5,x6,x7,x8,x9]) ?_ (λN hN=>?_)
 .rintro _ ⟨x3,x4,x5,x6,x7,x8,x9,rfl⟩;have:=nQ r l;exact⟨wY r l,m,rfl,cl,by lia,r2,k⟩
 have cy:(y9 l).length=l.length:=lC l;refine qF (qk 0 l.length) (λi τ=>∃x3 x4 x5 x6 x7 x8 x9:TV,τ=[.fz (.lst (l.map xG)),.fz (xh r),.ow ((((y9 l).take i).flatMap (seg r)).map xG),x3,x4,x5,x6,x7,x8,x9]) (λKK h=>⟨⟨by lia,by rw[xO];lia⟩,by rw[xO,jI];exact h⟩) ⟨_,_,_,_,_,_,_,rfl⟩ ?_ (λτ ⟨x3,x4,x5,x6,x7,x8,x9,e⟩=>hN _ ⟨x3,x4,x5,x6,x7,x8,x9,by rw[uS,uK (by lia)] at e;exact e⟩);rintro i x τ N2 hx ⟨x3,x4,x5,x6,x7,x8,x9,rfl⟩ hN2;have hi:=(zc.mp hx).1;rw[uS] at hi;rw[h9 hi] at hx;cases hx;have hv:l[i]?=some l[i]:=yA hi;generalize l[i]=v at hv;obtain⟨u,hu,hc,at1⟩:=Lb (f:=xG) hv;have hvm:=zG hv;have at2:atT (l.map xG) (i:Int)=some (xG v):=by rw[fO,vh,hv];rfl
 have tk1:=LY r l hc;have fl:(((y9 l).take i).flatMap (seg r)).length<=12000000:=by
  have h1:=nQ r l;have h2:(((y9 l).take i).flatMap (seg r)).length<=(wY r l).length:=by
   unfold wY
   conv=>rhs;rw[<-sC i (y9 l),p_,zy]
   lia
  lia
 rw[tk1] at hN2;generalize ((y9 l).take i).flatMap (seg r)=acc at *
 dsimp only[dO,jR,eName,gP];show dP _ _ _ ([.fz (.lst (l.map xG)),.fz (xh r),.ow (acc.map xG),.fz (.int ((0:Int)+i)),x4,x5,x6,x7,x8,x9]:xW);rw[show(0:Int)+(i:Int)=(i:Int) by lia];refine yO (λτ=>τ=[.fz (.lst (l.map xG)),.fz (xh r),.ow (acc.map xG),.fz (.int (i:Int)),.fz (xG u),.fz (xG v),x6,x7,x8,x9]) ?_ (λN hN=>?_)
 rotate_left
 .show wM (atT (l.map xG) ((i:Int)-1)) _;rw[at1];show wM (atT (l.map xG) (i:Int)) _;rw[at2];exact hN _ rfl
 rintro _ rfl;have one1:∀ {n:Nat},Bk (n+1) 1:=λ {n}=>by unfold Bk;have:=Nat.one_le_two_pow (n:=n);lia
 have cf:Fk 53 (r.2.2,1):=⟨rb.2.mono (by decide),one1,by show(0:Int)<1;decide⟩
 have fv:∀ {v},v∈l->Fk 53 (zm r (xn v)):=λ {v} hv=>MR (c:=r.2.2) rb.1.1 rb.1.2 (pk hv) (by decide);have fo:∀ {v},v∈l->Fk 107 (uu r (xn v)):=λ {v} hv=>Fk.min cf (fv hv);have uz:=ps u hu;have vz:=ps v hvm;refine yO (λτ=>τ=[.fz (.lst (l.map xG)),.fz (xh r),.ow (acc.map xG),.fz (.int (i:Int)),.fz (xG u),.fz (xG v),.fz (fT (uu r (xn u))),x7,x8,x9]) ?_ (λN hN=>⟨r.1,r.2.1,[.int r.2.2],xn u,rfl,rb.1.1.mono (by decide),rb.1.2.mono (by decide),(pk hu).1.mono (by decide),(pk hu).2.mono (by decide),(r.2.2,1),zm r (xn u),rfl,cf.mono (by decide),(fv hu).mono (by decide),hN _ rfl⟩);rintro _ rfl;refine yO (λτ=>τ=[.fz (.lst (l.map xG)),.fz (xh r),.ow (acc.map xG),.fz (.int (i:Int)),.fz (xG u),.fz (xG v),.fz (fT (uu r (xn u))),.fz (fT (uu r (xn v))),x8,x9]) ?_ (λN hN=>⟨r.1,r.2.1,[.int r.2.2],xn v,rfl,rb.1.1.mono (by decide),rb.1.2.mono (by decide),(pk hvm).1.mono (by decide),(pk hvm).2.mono (by decide),(r.2.2,1),zm r (xn v),rfl,cf.mono (by decide),(fv hvm).mono (by decide),hN _ rfl⟩);rintro _ rfl;refine yO (λτ=>∃x8 x9:TV,τ=[.fz (.lst (l.map xG)),.fz (xh r),.ow ((acc++if val r u*val r v<0 then[ya r u v] else[]).map xG),.fz (.int (i:Int)),.fz (xG u),.fz (xG v),.fz (fT (uu r (xn u))),.fz (fT (uu r (xn v))),x8,x9]) ?_ (λN hN=>?_)
 rotate_left
 .refine⟨⟨(fo hu).top.bd,(fo hvm).top.bd⟩,?_⟩;refine yi (b:=decide ((uu r (xn u)).1*(uu r (xn v)).1<0)) (λc=>?_) (λc=>?_)
  .have c:=(He uz vz).mp (yV c);rw[xK c] at hN;have d0:=off_ne uz vz c;have dk:=(fo hu).min (fo hvm);have sk:=(fo hu).over dk d0;have dx:=((pk hvm).1).min (pk hu).1;have dy:=((pk hvm).2).min (pk hu).2;have tx:=(sk.mono (show _<=430 by decide)).tim (dx.mono (show _<=430 by decide));have ty:=(sk.mono (show _<=430 by decide)).tim (dy.mono (show _<=430 by decide));refine⟨_,_,rfl,(fo hu).mono (by decide),(fo hvm).mono (by decide),_,_,rfl,(fo hu).mono (by decide),dk.mono (by decide),d0,?_⟩;refine⟨_,_,rfl,(pk hvm).1.mono (by decide),(pk hu).1.mono (by decide),_,_,rfl,sk.mono (by decide),dx.mono (by decide),_,_,rfl,(pk hu).1.mono (by decide),tx.mono (by decide),?_⟩;refine⟨_,_,rfl,(pk hvm).2.mono (by decide),(pk hu).2.mono (by decide),_,_,rfl,sk.mono (by decide),dy.mono (by decide),_,_,rfl,(pk hu).2.mono (by decide),ty.mono (by decide),?_⟩;have e3:(acc++[ya r u v]).map xG=acc.map xG++[pT (lL r (xn u) (xn v))]:=by rw[L5 uz vz c,uo];rfl
   rw[e3] at hN;exact⟨by rw[xO];exact sqy (by lia),hN _ ⟨_,_,rfl⟩⟩
  .have c:¬val r u*val r v<0:=λz=>zZ c ((He uz vz).mpr z);rw[xH c,um] at hN;exact hN _ ⟨_,_,rfl⟩
 rintro _ ⟨x8,x9,rfl⟩;refine yi (b:=decide ((uu r (xn v)).1>=0)) (λc=>?_) (λc=>?_)
 .have c:=(Hd vz).mp (yV c);refine⟨by
   rw[xO,zy];have:(if val r u*val r v<0 then[ya r u v] else[]).length<=1:=by split<;>simp
   exact sqy (by lia),?_⟩
  have e4:(acc++seg r (u,v)).map xG=(acc++if val r u*val r v<0 then[ya r u v] else[]).map xG++[xG v]:=by unfold seg;rw[xK c,<-v5,uo (l₂:=[v])];rfl
  rw[e4] at hN2;exact hN2 _ ⟨_,_,_,_,_,_,_,rfl⟩
 .have c:¬val r v<=0:=λz=>zZ c ((Hd vz).mpr z);have e4:(acc++seg r (u,v)).map xG=(acc++if val r u*val r v<0 then[ya r u v] else[]).map xG:=by unfold seg;rw[xH c,um]
  rw[e4] at hN2;exact hN2 _ ⟨_,_,_,_,_,_,_,rfl⟩
def ON (B:yd mg bn)(D:DF K mg "_law_round" AH f fd ["_law_rows"])(j5:nB P w K mg base)(iq:C0 P w K mg base)(ax:oF P w K mg base) :
  Dd P w K mg base:=by
 refine yq D c9 (λhr=>(xw (yC 1 c9.nd (xA j5 hr (xP (pv 0)))) (xw (zX zS rfl (zh K (xA iq hr (xP (pv 0)))) (ym 2 c9.nd) (xy (yC 1 c9.nd (xA ax hr (xk (pv 1) (pv 2)))))) (xy (xQ (pv 1))))))
  (xD (yE (xF (xR xc))) (xD (zW (zH (xF (xR xc))) xM.g (yE (xF (xo xc xc)))) (xY xc))) λts KK hl h=>?_
 obtain⟨xa,rfl,hF,k⟩:=h;refine⟨xa,rfl,hF.fine,xa,rfl,hF,λL A ln=>?_⟩;have O:=A.cuts hF ln;refine u5 (all:=L.map xh) (λi τ=>∃x2:TV,τ=[.fz (.tup (xa.map xh)),.fz (.lst ((xS (xa++L.take i)).map xG)),x2]) ⟨_,by rw[om,um];rfl⟩ ?_ ?_
 .rintro i x τ N hx ⟨x2,rfl⟩ hN;obtain⟨r,hr,rfl⟩:=u9 hx;have tk1:L.take (i+1)=L.take i++[r]:=by rw[vT,hr];rfl
  have tl:(L.take i++[r]).length<=2700000:=by rw[<-tk1,uJ];lia
  refine⟨xa,L.take i,r,rfl,⟨hF,λq hq=>O.sm q (gC (i:=i+1) (by rw[tk1];exact hq)),tl⟩,?_⟩;rw[<-tk1];exact hN _ ⟨_,rfl⟩
 .rintro τ ⟨x2,rfl⟩;rw[xO,uK (yg _)];exact k L A ln
def OG (B:yd mg bn)(D:DF K mg "_law_left" AA f fd ["_law_field_here", "_law_papers"])(j5:nB P w K mg base)(ax:oF P w K mg base) :
  C9 P w K mg base:=by
 refine yq D mr (λhr=>(xw (yC 2 mr.nd (xA j5 hr (xP (pv 0)))) (xw (zX zS rfl (zh K (pv 1)) (zJ K (n:=2) rfl (xZ (ym 3 mr.nd) (xZ (ym 4 mr.nd) zE))) (xy (yC 2 mr.nd (xA ax hr (xk (pv 2) (pv 4)))))) (xy (xQ (pv 2))))))
  (xD (yE (xF (xR xc))) (xD (zW (zH xc) (zP (yb xM (yb xM zI))).g (yE (xF (xo xc xc)))) (xY xc))) λts KK hl h=>?_
 obtain⟨xa,Ls,rfl,hF,R,k⟩:=h;have O:=R.cuts hF;refine⟨xa,rfl,hF.fine,?_⟩;refine u5 (all:=Ls.map (ug xa)) (λi τ=>∃x3 x4:TV,τ=[.fz (.tup (xa.map xh)),.fz (.lst (Ls.map (ug xa))),.fz (.lst ((xS (xa++(Ls.take i).map (yS xa))).map xG)),x3,x4]) ⟨_,_,by rw[om,fu,um];rfl⟩ ?_ ?_
 .rintro i x τ N hx ⟨x3,x4,rfl⟩ hN;obtain⟨y,hy,rfl⟩:=u9 hx;have tk1:(Ls.take (i+1)).map (yS xa)=(Ls.take i).map (yS xa)++[yS xa y]:=by rw[vT,hy,uo];rfl
  refine⟨rfl,xa,(Ls.take i).map (yS xa),yS xa y,rfl,⟨hF,λq hq=>O.sm q ?_,?_⟩,?_⟩
  .rw[<-tk1] at hq;obtain⟨z,hz,rfl⟩:=zQ.mp hq;exact jd (gC hz)
  .have:=R.len;rw[<-tk1,xO,uJ];lia
  rw[<-tk1];exact hN _ ⟨_,_,rfl⟩
 .rintro τ ⟨x3,x4,rfl⟩;rw[xO,uK (yg _)];exact k
def OE (B:yd mg bn)(D:DF K mg "_law_is_paper" cS f fd ["_law_field_here", "_law_thing"])(iz:C5 P w K mg base)(iB:C7 P w K mg base) :
  C8 P w K mg base:=by
 refine yq D SE (λhr=>(xw (yP (PW.pt (uh (uI (wC (yT qW rfl (B.get "isinstance") qU (xk (pv 1) (kD (v:=V.ty "tuple") rfl (B.get "tuple") qV rfl))))) (uh (yz (wA hr.units) (yT (uZ K) rfl (B.get "len") uY (xP (pv 1))) xm (yc _)) (vP (uI (wC (yT qW rfl (B.get "isinstance") qU (xk (xC K 1) (kD (v:=V.ty "tuple") rfl (B.get "tuple") qV rfl))))))))) (xy (xQ uH)) yQ) (xw (yP (PW.pt (uh (yz (wA hr.units) (yT (uZ K) rfl (B.get "len") uY (xP (xC K 1))) (yT (uZ K) rfl (B.get "len") uY (xP (pv 0))) (yc _)) (vP (yz (wA hr.units) (uR (wJ (N:=["_law_one"]) (xE:=[none]) (XN:=["_law_field_here", "_law_thing"]) (xs:=xI cS) (by decide +kernel) rfl rfl) rfl (vp rfl) (zh K (xC K 1)) (λ_ _ _ _=>(yU (i:=0) (show(["_law_one"]:List Str).Nodup by decide +kernel) rfl (Or.inl rfl))) (λ_ _ _ _=>(qC (PW.pt (uh (uI (wC (xA iB hr (xP (pv 0))))) (vP (yz (kB K hr.units) (xC K 0) xm (yc _))))))) (λ_ _ _ _=>(pv 0))) (wk uf) (yc _))))) (xy (xQ uH)) yQ)
  (xy (xQ (aJ (yT qW rfl (B.get "isinstance") qU (xk (xC K 1) (kD (v:=V.ty "tuple") rfl (B.get "tuple") qV rfl))) (hU (vd (ue hr.units) (xA iz hr (xk (pv 0) (xC K 1))) (xC K 1) (yc _)))))))))
  (xD (yW (uc (uE (zU (ko xc))) (uc (yB (xl wB (zO vA (xR xc)) xq)) (uE (zU (ko xB))))) (xY vc) yX) (xD (yW (uc (yB (xl wB (zO vA (xR xB)) (zO vA (xR xc)))) (yB (xl wB (zp.e (wy (zH xB).c xM (uc (uE (zU (xF (xR xc)))) (yB (xl kC xB xq))) xc)) (vO (b:=true) uP)))) (xY vc) yX) (xY (aF (ko xB) (xl os_eq (xF (xo xc xB)) xB))))) λts KK hl h=>?_
 obtain⟨xa,ws,rfl,hf,g,co,k⟩:=h;have l8:=(wG hf).1.2;have ml:(xa.map xh).length=xa.length:=xO _;have WSx:=wG.ws hf g;have wl:(ws.map fT).length=xa.length:=by rw[xO];exact g.1
 refine yO (λτ=>τ=[.fz (.tup (xa.map xh)),.fz (.tup [wsT ws,jr (xa.zip ws)])]) ?_ (λN hN=>hN _ rfl);rintro _ rfl;refine yO (λτ=>τ=[.fz (.tup (xa.map xh)),.fz (.tup [wsT ws,jr (xa.zip ws)])]) ?_ (λN hN=>?_)
 rotate_left
 .refine yi (b:=!decide (((ws.map fT).length:Int)=((xa.map xh).length:Nat))) (λc=>?_) (λc=>?_)
  .have c:¬((ws.map fT).length:Int)=((xa.map xh).length:Nat):=by simpa using c
   exact absurd (by rw[wl,ml]) c
  refine⟨by rw[wl];exact zF (by lia),qu (λ_=>false) fT (λw' hw N M h1 h0=>?_) ?_⟩
  .have W':=g.2 w' hw;have e:=W'.isFr;have nn:=W'.nn;refine⟨_,rfl,?_⟩;refine yi (b:=!af (fT w')) (λc=>by rw[e] at c;cases c) (λ_=>?_);exact yi (b:=decide (w'.1<0)) (λc=>by have:=yV c;lia) (λ_=>h0 rfl)
  .dsimp only[sV,js];rw[show ws.filter (λ_=>false)=[] from p9.mpr λ_ _=>wR];exact tD rfl (hN _ rfl)
 rintro _ rfl;refine⟨xa,ws,rfl,WSx,?_⟩;rw[xK co];refine⟨⟨rfl,rfl,wV (Nat.min_le_left _ _) (by show(1:Nat)<=64;decide)⟩,?_⟩;have e:zz (jr (xa.zip ws)) (jr (xa.zip ws))=true:=JW (cF _);show KK (.bl (zz (jr (xa.zip ws)) (jr (xa.zip ws))));rw[e];exact k
end
section
variable (P:Program) (w:World) {K:xt} {mg:Str->Option Value} (base:Heap) {f:Addr} {fd:FuncData}
def Pl (B:yd mg bn)(F:Fun K "law" "law" kH f fd)(iF:De P w K mg base)(iA:C6 P w K mg base)(bY:DZ P w K mg base)(iE:Dd P w K mg base)(iH:Dh P w K mg base)(bU:C9 P w K mg base)(j5:nB P w K mg base)(iC:C8 P w K mg base) :
  vm P w K mg base CX0 12 f fd ["_law_script"] (aY K):=by
 refine NI F fg rfl (λ_ _ _ _ _ _ hr=>⟨_,_,(xw (zX zS rfl (hV rfl (B.get "range") (xP (yT (Lw rfl) rfl (B.get "max") Er (xk xm (yT (Lz rfl) rfl (B.get "min") Es (xk (yT (uZ K) rfl (B.get "len") uY (xP (pv 0))) xm)))))) (ym 1 fg.nd) (xw (yC 2 fg.nd (xA iF hr (xk (pv 0) (pv 1)))) (xw (kE (i:=3) fg.nd rfl (Or.inr rfl) (xA iA hr (xP (pv 2)))) (xw (yC 4 fg.nd (xA bY hr (xP (pv 3)))) (xw (yP (PW.pt (uh (uI (wC (yT qW rfl (B.get "isinstance") qU (xk (pv 4) (kD (v:=V.ty "list") rfl (B.get "list") o6 rfl))))) (vP (yz j9 (yT (uZ K) rfl (B.get "len") uY (xP (pv 4))) xm (yc _))))) (xy (xQ uH)) yQ) (xw (yP (yz (wA hr.units) (uR (wJ (N:=["_law_paper", "_law_field_here"]) (xE:=[none,some 3]) (XN:=["_law_script", "_law_k", "_law_state_here", "_law_field_here", "_law_papers", "_law_due", "_law_x", "_law_y"]) (xs:=xI kH) (by decide +kernel) rfl rfl) rfl (vp rfl) (zh K (pv 4)) (λ_ _ _ _=>(yU (i:=0) (show(["_law_paper", "_law_field_here"]:List Str).Nodup by decide +kernel) rfl (Or.inl rfl))) (λ_ _ _ _=>(qC (uI (wC (xA iC hr (xk (pv 1) (pv 0))))))) (λ_ _ _ _=>(pv 0))) (wk uf) (yc _)) (xy (xQ uH)) yQ)
  (xw (yC 5 fg.nd (xA iE hr (xP (pv 3)))) (xw (yP (yz (wA hr.units) (xA bU hr (xk (pv 3) (pv 4))) (pv 5) (yc _)) (xy (xQ uH)) yQ) (xw (zX zS rfl (zh K (xA iH hr (xk (pv 3) (xA j5 hr (xP (pv 3)))))) (zJ K (n:=2) rfl (xZ (yU (i:=6) fg.nd rfl (Or.inr rfl)) (xZ (yU (i:=7) fg.nd rfl (Or.inr rfl)) zE))) (xy (yP (yz (wA hr.units) (uR (wJ (N:=["_law_weights", "_law_row", "_law_x", "_law_y"]) (xE:=[none,none,some 6,some 7]) (XN:=["_law_script", "_law_k", "_law_state_here", "_law_field_here", "_law_papers", "_law_due", "_law_x", "_law_y"]) (xs:=xI kH) (by decide +kernel) rfl rfl) rfl (jU (uM rfl (uM rfl jV))) (zh K (pv 4)) (λ_ _ _ _=>(zJ K (n:=2) rfl (xZ (yU (i:=0) (show(["_law_weights", "_law_row", "_law_x", "_law_y"]:List Str).Nodup by decide +kernel) rfl (Or.inl rfl)) (xZ (yU (i:=1) (show(["_law_weights", "_law_row", "_law_x", "_law_y"]:List Str).Nodup by decide +kernel) rfl (Or.inl rfl)) zE)))) (λ_ _ _ _=>(qC (yz j9 (xr (aH K) (xr (kY K) (xC K 1) (xC K 2)) (xr (kY K) (xC K 1) (xC K 3))) (xC K 1) (yc _)))) (λ_ _ _ _=>(pv 1))) (wk uf) (yc _)) (xy (xQ uH)) yQ)))
  (xw (vE (HL qO PySem.F.slot_list_clear PySem.F.type_list_clear Oa (pv 4))) (xy (yP (yz (wA hr.units) (xA bU hr (xk (pv 3) (xA bY hr (xP (pv 3))))) (pv 5) (yc _)) (xy (xQ uH)) yQ))))))))))))
  (xy (xQ uH))),
  (xD (zW (j8 (xR (zO LI (xo xq (zO LK (xo Pm xq)))))) xM.g (xD (Qe xc) (xD (yE (vq (b:=true) uP)) (xD (vX (eL (xR xc))) (xD (yW (uc (uE (zU (ko j7))) (yB (xl hG (zO vA (xR j7)) xq))) (xY vc) yX) (xD (yW (yB (xl wB (zp.e (wy tW xM (uE (zU (xF (xo xc xc)))) xc)) (vO (b:=true) uP))) (xY vc) yX) (xD (yE (xF (xR xc))) (xD (yW (yB (xl wB (xF (xo (x_.weak xc) j7)) xc)) (xY vc) yX) (xD (zW (zH (xF (xo xc (xF (xR xc))))) (zP (yb xM (yb xM zI))).g (yW (yB (xl wB (zp.e (wy tW (zP (yb xM (yb xM zI))) (yB (xl hG (aE (kU xB xB) (kU xB xB)) xB)) xc)) (vO (b:=true) uP))) (xY vc) yX)) (xD P_ (yW (yB (xl wB (xF (xo xc (xF (xR xc)))) xc)) (xY vc) yX))))))))))) (xY vc)),λns hl=>?_⟩)
 refine yO (λτ=>True) (λτ _=>rfl) (λN hN=>?_);refine qF _ (λi τ=>∃(x1 x2 x3 x4 x5 x6 x7:TV),τ=[.sc ns,x1,x2,x3,x4,x5,x6,x7]) (λKK h=>λ_=>⟨⟨by split<;>split<;>lia,by split<;>split<;>lia⟩,h⟩) ⟨_,_,_,_,_,_,_,rfl⟩ ?_ (λτ _=>hN _ trivial);rintro i x τ N2 hx ⟨x1,x2,x3,x4,x5,x6,x7,rfl⟩ hN2;have hi:=(zc.mp hx).1;rw[uS] at hi;rw[h9 hi] at hx;cases hx;dsimp only[dO,jR,eName,gP];have hk:(0:Int)<=(0:Int)+i:=by lia
 generalize (0:Int)+i=kk at hk;show dP _ _ _ ([.sc ns,.fz (.int kk),x2,x3,x4,x5,x6,x7]:xW);refine yO (λτ=>τ=[.sc ns,.fz (.int kk),.st,x3,x4,x5,x6,x7]) ?_ (λN hN=>⟨hk,hN _ rfl⟩);rintro _ rfl;refine yO (λτ=>∃xa,LF xa/\τ=[.sc ns,.fz (.int kk),.st,.fz (.tup (xa.map xh)),x4,x5,x6,x7]) ?_ (λN hN=>⟨rfl,λxa hF=>hN _ ⟨xa,hF,rfl⟩⟩);rintro _ ⟨xa,hF,rfl⟩;have FR:=hF.fine;have hf:=hF.isf;refine yO (λτ=>∃Ls,RP xa Ls/\τ=[.sc ns,.fz (.int kk),.st,.fz (.tup (xa.map xh)),.ow (Ls.map (ug xa)),x5,x6,x7]) ?_ (λN hN=>⟨xa,rfl,hf,FR,λLs R=>hN _ ⟨Ls,R,rfl⟩⟩);rintro _ ⟨Ls,R,rfl⟩;have ln:Ls.length<=1000:=R.few λj hj=>(hF.sm _ (qm hj)).1;have pm:(Ls.map (ug xa)).length=Ls.length:=xO _;refine yO (λτ=>τ=[.sc ns,.fz (.int kk),.st,.fz (.tup (xa.map xh)),.ow (Ls.map (ug xa)),x5,x6,x7]) ?_ (λN hN=>?_)
 rotate_left
 .refine yi (b:=decide (((Ls.map (ug xa)).length:Int)>2000)) (λc=>?_) (λ_=>hN _ rfl);have:=yV c;rw[pm] at this;lia
 rintro _ rfl;refine yO (λτ=>τ=[.sc ns,.fz (.int kk),.st,.fz (.tup (xa.map xh)),.ow (Ls.map (ug xa)),x5,x6,x7]) ?_ (λN hN=>?_)
 rotate_left
 .refine⟨by rw[pm];exact zF (by lia),qu (λ_=>false) (ug xa) (λx hx N M h1 h0=>?_) ?_⟩
  .have G:=(R.snd x hx).1;exact⟨xa,vF xa x,rfl,hf,G.gw hf,G.cut hf,h0 rfl⟩
  .rw[p9.mpr (λ_ _=>wR)];exact⟨tj rfl,hN _ rfl⟩
 rintro _ rfl;refine yO (λτ=>τ=[.sc ns,.fz (.int kk),.st,.fz (.tup (xa.map xh)),.ow (Ls.map (ug xa)),.fz (.lst ((vY xa Ls).map xG)),x6,x7]) ?_ (λN hN=>⟨xa,rfl,hF,λL A _=>?_⟩)
 rotate_left
 .rw[A.round hF hf FR R];exact hN _ rfl
 rintro _ rfl;refine yO (λτ=>τ=[.sc ns,.fz (.int kk),.st,.fz (.tup (xa.map xh)),.ow (Ls.map (ug xa)),.fz (.lst ((vY xa Ls).map xG)),x6,x7]) ?_ (λN hN=>⟨xa,Ls,rfl,hF,R,?_⟩)
 rotate_left
 .refine⟨Fo xG (λv=>aK (xn v)) (λv=>by show 2<=60;decide) _ _,?_⟩;exact yi (b:=!zz (.lst ((vY xa Ls).map xG)) (.lst ((vY xa Ls).map xG))) (λc=>by rw[JV] at c;cases c) (λ_=>hN _ rfl)
 rintro _ rfl;refine yO (λτ=>∃x6 x7:TV,τ=[.sc ns,.fz (.int kk),.st,.fz (.tup (xa.map xh)),.ow (Ls.map (ug xa)),.fz (.lst ((vY xa Ls).map xG)),x6,x7]) ?_ (λN hN=>?_)
 rotate_left
 .refine⟨xa,rfl,FR,xa,rfl,hF,λps hps _=>?_⟩;refine u5 (all:=ps.map wpT) (λj τ=>∃x6 x7:TV,τ=[.sc ns,.fz (.int kk),.st,.fz (.tup (xa.map xh)),.ow (Ls.map (ug xa)),.fz (.lst ((vY xa Ls).map xG)),x6,x7]) ⟨_,_,rfl⟩ ?_ (λτ h=>hN _ h);rintro j y τ N3 hy ⟨x6,x7,rfl⟩ hN3;obtain⟨p,hp,rfl⟩:=u9 hy;obtain⟨bp,kp⟩:=hps p (zG hp);have pk:=RH bp;refine⟨rfl,?_⟩;refine⟨by rw[pm];exact zF (by lia),qu (λ_=>false) (λx=>xh (yS xa x)) (λx hx N M h1 h0=>?_) ?_⟩
  .have b2:=(R.snd x hx).1.r200 hf;have wh:=R.whole hf FR (p:=(p.1,p.2,1)) rfl (λr hr=>by have:=kp r hr;simp only[val];lia) (yS xa x) (zY _ (jd hx));refine⟨rfl,⟨b2.1.1.bd,pk.1.top.bd⟩,⟨b2.1.2.bd,pk.2.top.bd⟩,?_⟩;refine yi (b:=decide ((yS xa x).1*p.1+(yS xa x).2.1*p.2>(yS xa x).2.2)) (λc=>?_) (λ_=>h0 rfl);have:=yV c;simp only[val] at wh;lia
  .rw[p9.mpr (λ_ _=>wR)];exact⟨tj rfl,hN3 _ ⟨_,_,rfl⟩⟩
 rintro _ ⟨x6,x7,rfl⟩;refine yO (λτ=>τ=[.sc ns,.fz (.int kk),.st,.fz (.tup (xa.map xh)),.ow [],.fz (.lst ((vY xa Ls).map xG)),x6,x7]) ?_ (λN hN=>hN _ rfl);rintro _ rfl;refine⟨xa,rfl,hf,FR,λLs' R'=>⟨xa,Ls',rfl,hF,R',?_⟩⟩;rw[R'.same hf FR hf FR R (λp pz=>Iff.rfl)];refine⟨Fo xG (λv=>aK (xn v)) (λv=>by show 2<=60;decide) _ _,?_⟩;exact yi (b:=!zz (.lst ((vY xa Ls).map xG)) (.lst ((vY xa Ls).map xG))) (λc=>by rw[JV] at c;cases c) (λ_=>hN2 _ ⟨_,_,_,_,_,_,_,rfl⟩)
end
def all_mk {l:PySem.W.OpenLaw}{w:World}{K:xt}{h:Heap}{mg:Str->Option Value}{fa:Addr}{fn:Addr}{od an:Option Addr}{sl:Array (Option Value)}{oc kV dc pm cd ct:Value}{tc1:Tok}(X:K.In h)(G:h.Ns mainGlobals mg)(hfa:mg "law" = some (.ref fa))
  (d1:DD K "is_whole" Ba) (d2:DD K "greatest_divisor" A4) (d3:DD K "beyond" AQ) (d4:DD K "is_ahead" A5) (d5:DD K "turn_to" Bv) (d6:DD K "is_near" cV) (d7:DD K "is_broken" A6) (d8:DD K "makes_one" Bc) (d9:DD K "direction_of" AX) (d10:DD K "cut_of" AV) (d11:DD K "_law_cell_at" Ar) (d12:DD K "_law_take" AK) (d13:DD K "_law_divisor" Ax) (d14:DD K "_law_less" AB) (d15:DD K "_law_all_cuts" Aq) (d16:DD K "_law_whole" AN) (d17:DD K "_law_whole_left" aQ) (d18:DD K "are_whole" cT) (d19:DD K "lowest" Bb) (d20:DD K "where_crossed" cZ) (d21:DD K "from_least" AY) (d22:DD K "furthest" AZ) (d23:DD K "points_back" Bp) (d24:DD K "need_turn" Bf) (d25:DD K "undivided" By) (d26:DD K "next_least" Bh) (d27:DD K "next_behind" Bg) (d28:DD K "next_to_the_left" Bi) (d29:DD K "whole_sum" mo) (d30:DD K "_law_state" AI) (d31:DD K "_law_field" mf) (d32:DD K "_law_low" AD) (d33:DD K "_law_is_fraction" Ay) (d34:DD K "plus" Bo) (d35:DD K "times" Bu) (d36:DD K "places_of" cW) (d37:DD K "cut_piece" AW) (d38:DD K "is_row" A9) (d39:DD K "go_round" A3) (d40:DD K "is_direction" A7) (d41:DD K "between" AO) (d42:DD K "sides_among" Br) (d43:DD K "sum_of" cX) (d44:DD K "_law_crossing" Au) (d45:DD K "_law_value" AM) (d46:DD K "_law_minus" AE) (d47:DD K "_law_times" AL) (d48:DD K "_law_plus" AG) (d49:DD K "_law_over" AF) (d50:DD K "cut_down" AU) (d51:DD K "value" Bz) (d52:DD K "is_field_row" A8) (d53:DD K "parts" Bm) (d54:DD K "paper_of" Bj) (d55:DD K "_law_keeps" Az) (d56:DD K "_law_cross" As) (d57:DD K "_law_summed" AJ) (d58:DD K "piece_left" Bn) (d59:DD K "is_tight" A_) (d60:DD K "weights_towards" BA) (d61:DD K "_law_all_left" cP) (d62:DD K "_law_cut" Aw) (d63:DD K "corners_left" AS) (d64:DD K "tight_numbers" cY) (d65:DD K "_law_ring" aP) (d66:DD K "_law_is_paper" cS) (d67:DD K "is_field" mh) (d68:DD K "sides_at" Bs) (d69:DD K "_law_corners" cR) (d70:DD K "_law_clipped" cQ) (d71:DD K "need_field" Be) (d72:DD K "papers_at" Bl) (d73:DD K "_law_round" AH) (d74:DD K "_law_left" AA) (d75:DD K "corners" AR) (d76:DD K "broken" cU) (d77:DD K "round_papers" Bq)
  (aN:PySem.W.nsIn K mainGlobals "law" = some (some (.ref fn))) (ln:K.lookup fn=some ⟨oc,od,.func (PySem.W.fnOf "law" "law" (qZ kH) (vo kH) (xI kH) .none kV dc pm an cd ct),sl⟩) (cn:PySem.W.codeIn K cd "law" = true) (kn:PySem.W.keepIn K (.ref fn)=true)
  (z1:PySem.W.nsIn K mainGlobals "len" = some none)
  (z2:PySem.W.nsIn K mainGlobals "range" = some none)
  (z3:PySem.W.nsIn K mainGlobals "max" = some none)
  (z4:PySem.W.nsIn K mainGlobals "min" = some none)
  (z5:PySem.W.nsIn K mainGlobals "abs" = some none)
  (z6:PySem.W.nsIn K mainGlobals "isinstance" = some none)
  (z7:PySem.W.nsIn K mainGlobals "tuple" = some none)
  (z8:PySem.W.nsIn K mainGlobals "list" = some none)
  (z9:PySem.W.nsIn K mainGlobals "int" = some none)
  (z10:PySem.W.nsIn K mainGlobals "bool" = some none)
  (z11:PySem.W.nsIn K mainGlobals "str" = some none)
  (z12:PySem.W.nsIn K mainGlobals "dict" = some none)
  (z13:PySem.W.nsIn K mainGlobals "all" = some none)
  (z14:PySem.W.nsIn K mainGlobals "zip" = some none)
  (z15:PySem.W.nsIn K mainGlobals "enumerate" = some none)
  (z16:PySem.W.nsIn K mainGlobals "ValueError" = some none)
  (y1:PySem.W.nsIn K mainGlobals "FAR" = some (some (.int 60001 tc1))) :
  ∃fd:FuncData,(∀(s:Shared) (v:Value),BindsTo s fd ⟨[v],[]⟩ [("_law_script", v)])/\∀base:Heap,K.In base->base.Ns mainGlobals mg->vm l.prog w K mg base CX0 12 fa fd ["_law_script"] (aY K):=by
 have e:=hfa.symm.trans (yj X G aN);cases e;obtain⟨f1,e1,a1,F1⟩:=d1;obtain⟨f2,e2,a2,F2⟩:=d2;obtain⟨f3,e3,a3,F3⟩:=d3;obtain⟨f4,e4,a4,F4⟩:=d4;obtain⟨f5,e5,a5,F5⟩:=d5;obtain⟨f6,e6,a6,F6⟩:=d6;obtain⟨f7,e7,a7,F7⟩:=d7;obtain⟨f8,e8,a8,F8⟩:=d8;obtain⟨f9,e9,a9,F9⟩:=d9;obtain⟨f10,e10,a10,F10⟩:=d10;obtain⟨f11,e11,a11,F11⟩:=d11;obtain⟨f12,e12,a12,F12⟩:=d12;obtain⟨f13,e13,a13,F13⟩:=d13;obtain⟨f14,e14,a14,F14⟩:=d14;obtain⟨f15,e15,a15,F15⟩:=d15;obtain⟨f16,e16,a16,F16⟩:=d16;obtain⟨f17,e17,a17,F17⟩:=d17;obtain⟨f18,e18,a18,F18⟩:=d18;obtain⟨f19,e19,a19,F19⟩:=d19;obtain⟨f20,e20,a20,F20⟩:=d20;obtain⟨f21,e21,a21,F21⟩:=d21;obtain⟨f22,e22,a22,F22⟩:=d22;obtain⟨f23,e23,a23,F23⟩:=d23;obtain⟨f24,e24,a24,F24⟩:=d24;obtain⟨f25,e25,a25,F25⟩:=d25;obtain⟨f26,e26,a26,F26⟩:=d26;obtain⟨f27,e27,a27,F27⟩:=d27;obtain⟨f28,e28,a28,F28⟩:=d28;obtain⟨f29,e29,a29,F29⟩:=d29;obtain⟨f30,e30,a30,F30⟩:=d30;obtain⟨f31,e31,a31,F31⟩:=d31;obtain⟨f32,e32,a32,F32⟩:=d32;obtain⟨f33,e33,a33,F33⟩:=d33;obtain⟨f34,e34,a34,F34⟩:=d34;obtain⟨f35,e35,a35,F35⟩:=d35;obtain⟨f36,e36,a36,F36⟩:=d36;obtain⟨f37,e37,a37,F37⟩:=d37;obtain⟨f38,e38,a38,F38⟩:=d38;obtain⟨f39,e39,a39,F39⟩:=d39;obtain⟨f40,e40,a40,F40⟩:=d40;obtain⟨f41,e41,a41,F41⟩:=d41;obtain⟨f42,e42,a42,F42⟩:=d42;obtain⟨f43,e43,a43,F43⟩:=d43;obtain⟨f44,e44,a44,F44⟩:=d44;obtain⟨f45,e45,a45,F45⟩:=d45;obtain⟨f46,e46,a46,F46⟩:=d46;obtain⟨f47,e47,a47,F47⟩:=d47;obtain⟨f48,e48,a48,F48⟩:=d48;obtain⟨f49,e49,a49,F49⟩:=d49;obtain⟨f50,e50,a50,F50⟩:=d50;obtain⟨f51,e51,a51,F51⟩:=d51;obtain⟨f52,e52,a52,F52⟩:=d52;obtain⟨f53,e53,a53,F53⟩:=d53;obtain⟨f54,e54,a54,F54⟩:=d54;obtain⟨f55,e55,a55,F55⟩:=d55;obtain⟨f56,e56,a56,F56⟩:=d56;obtain⟨f57,e57,a57,F57⟩:=d57;obtain⟨f58,e58,a58,F58⟩:=d58;obtain⟨f59,e59,a59,F59⟩:=d59;obtain⟨f60,e60,a60,F60⟩:=d60;obtain⟨f61,e61,a61,F61⟩:=d61;obtain⟨f62,e62,a62,F62⟩:=d62;obtain⟨f63,e63,a63,F63⟩:=d63;obtain⟨f64,e64,a64,F64⟩:=d64;obtain⟨f65,e65,a65,F65⟩:=d65;obtain⟨f66,e66,a66,F66⟩:=d66;obtain⟨f67,e67,a67,F67⟩:=d67;obtain⟨f68,e68,a68,F68⟩:=d68;obtain⟨f69,e69,a69,F69⟩:=d69;obtain⟨f70,e70,a70,F70⟩:=d70;obtain⟨f71,e71,a71,F71⟩:=d71;obtain⟨f72,e72,a72,F72⟩:=d72;obtain⟨f73,e73,a73,F73⟩:=d73;obtain⟨f74,e74,a74,F74⟩:=d74;obtain⟨f75,e75,a75,F75⟩:=d75;obtain⟨f76,e76,a76,F76⟩:=d76;obtain⟨f77,e77,a77,F77⟩:=d77;have F78:=FW (st:=kH) ln cn kn;have B:yd mg bn:=⟨λx hx=>by
  simp only[bn,xU,zi,zo] at hx;rcases hx with rfl|rfl|rfl|rfl|rfl|rfl|rfl|rfl|rfl|rfl|rfl|rfl|rfl|rfl|rfl|rfl
  .exact v8 X G z1
  .exact v8 X G z2
  .exact v8 X G z3
  .exact v8 X G z4
  .exact v8 X G z5
  .exact v8 X G z6
  .exact v8 X G z7
  .exact v8 X G z8
  .exact v8 X G z9
  .exact v8 X G z10
  .exact v8 X G z11
  .exact v8 X G z12
  .exact v8 X G z13
  .exact v8 X G z14
  .exact v8 X G z15
  .exact v8 X G z16⟩
 have jx:=yj X G y1;refine⟨PySem.W.fnOf "law" "law" (qZ kH) (vo kH) (xI kH) .none kV dc pm an cd ct,λs v=>.of_eq rfl,λbase XB _=>?_⟩;have iY:=Pj l.prog w base B ⟨F1,yj X G a1,wu "thing" F1⟩;have qB:=O_ l.prog w base B ⟨F2,yj X G a2,ze "one" "other" F2⟩;have j6:=OX l.prog w base B ⟨F3,yj X G a3,ze "row" "corner" F3⟩;have iQ:=Pa l.prog w base B ⟨F4,yj X G a4,ze "one" "other" F4⟩;have wg:=PR l.prog w base B ⟨F5,yj X G a5,ze "one" "other" F5⟩;have iV:=Pf l.prog w base B ⟨F6,yj X G a6,wu "place" F6⟩;have iR:=Pb l.prog w base B ⟨F7,yj X G a7,wu "place" F7⟩;have iZ:=Po l.prog w base B ⟨F8,yj X G a8,ze "a" "b" F8⟩;have gS:=O6 l.prog w base B ⟨F9,yj X G a9,wu "row" F9⟩;have iM:=O4 l.prog w base B ⟨F10,yj X G a10,wu "totals" F10⟩;have iu:=Ov l.prog w base B ⟨F11,yj X G a11,ze "_law_script" "_law_k" F11⟩;have vb:=TU (OQ l.prog w base F12 (yj X G a12) (ze "_law_state_here" "_law_many" F12));have ay:=OB l.prog w base B ⟨F13,yj X G a13,ze "_law_one" "_law_other" F13⟩;have bV:=OH l.prog w base B ⟨F14,yj X G a14,ze "_law_one" "_law_other" F14⟩;have iq:=Ot l.prog w base B ⟨F15,yj X G a15,wu "_law_rows" F15⟩;have bW:=OT l.prog w base B ⟨F16,yj X G a16,wu "_law_thing" F16⟩;have iH:=OU l.prog w base B ⟨F17,yj X G a17,ze "_law_rows" "_law_places" F17⟩;have aB:=OV l.prog w base B ⟨F18,yj X G a18,wu "things" F18⟩ iY;have vD:=Pn l.prog w base B ⟨F19,yj X G a19,ze "top" "bottom" F19⟩ qB;have eF:=PY l.prog w base B ⟨F20,yj X G a20,gM "row" "one" "other" F20⟩ qB j6;have iO:=O7 l.prog w base B ⟨F21,yj X G a21,wu "piece" F21⟩ iQ;have bX:=O8 l.prog w base B ⟨F22,yj X G a22,gM "first" "rows" "sign" F22⟩ wg;have eh:=PF l.prog w base B ⟨F23,yj X G a23,ze "first" "rows" F23⟩ wg;have aD:=Pq l.prog w base B ⟨F24,yj X G a24,ze "one" "other" F24⟩ wg;have b7:=PU l.prog w base B ⟨F25,yj X G a25,wu "direction" F25⟩ qB;have i5:=Pt l.prog w base B ⟨F26,yj X G a26,ze "first" "last" F26⟩ iZ wg;have i4:=Pr l.prog w base B ⟨F27,yj X G a27,gM "before" "here" "last" F27⟩ wg;have i6:=Pu l.prog w base B ⟨F28,yj X G a28,gM "rows" "numbers" "number" F28⟩ wg;have eG:=PZ l.prog w base B ⟨F29,yj X G a29,ze "rows" "weights" F29⟩ qB;have iF:=OO l.prog w base F30 (yj X G a30) (ze "_law_script" "_law_k" F30) iu;have iA:=OC l.prog w base B ⟨F31,yj X G a31,wu "_law_state_here" F31⟩ vb;have u_:=OI l.prog w base B ⟨F32,yj X G a32,ze "_law_top" "_law_bottom" F32⟩ ay;have iB:=OD l.prog w base B ⟨F33,yj X G a33,wu "_law_thing" F33⟩ bW ay;have eg:=PD l.prog w base B ⟨F34,yj X G a34,ze "one" "other" F34⟩ vD;have bZ:=PQ l.prog w base B ⟨F35,yj X G a35,ze "whole" "fraction" F35⟩ vD;have ee:=PB l.prog w base B ⟨F36,yj X G a36,wu "piece" F36⟩ vD iO;have iN:=O5 l.prog w base B ⟨F37,yj X G a37,ze "piece" "row" F37⟩ eF j6;have iW:=Pg l.prog w base B ⟨F38,yj X G a38,wu "thing" F38⟩ aB;have iP:=O9 l.prog w base B ⟨F39,yj X G a39,wu "rows" F39⟩ bX eh wg;have iS:=Pc l.prog w base B ⟨F40,yj X G a40,wu "thing" F40⟩ aB;have iI:=OW l.prog w base B ⟨F41,yj X G a41,ze "one" "other" F41⟩ aD b7 i5 i4;have eo:=PJ l.prog w base B ⟨F42,yj X G a42,ze "rows" "numbers" F42⟩ i6;have eA:=PM l.prog w base B ⟨F43,yj X G a43,ze "rows" "weights" F43⟩ eG vD;have iy:=Oz l.prog w base B ⟨F44,yj X G a44,ze "_law_one" "_law_other" F44⟩ u_;have dz:=OS l.prog w base B ⟨F45,yj X G a45,ze "_law_row" "_law_place" F45⟩ u_;have qf:=OJ l.prog w base B ⟨F46,yj X G a46,ze "_law_one" "_law_other" F46⟩ u_;have kT:=OR l.prog w base B ⟨F47,yj X G a47,ze "_law_one" "_law_other" F47⟩ u_;have dw:=OL l.prog w base B ⟨F48,yj X G a48,ze "_law_one" "_law_other" F48⟩ u_;have iD:=OK l.prog w base B ⟨F49,yj X G a49,ze "_law_one" "_law_other" F49⟩ u_;have iL:=O3 l.prog w base B ⟨F50,yj X G a50,ze "piece" "rows" F50⟩ iN;have eC:=PV l.prog w base B ⟨F51,yj X G a51,ze "row" "place" F51⟩ eg bZ;have iU:=Pe l.prog w base B ⟨F52,yj X G a52,wu "thing" F52⟩ iW;have i9:=Py l.prog w base B ⟨F53,yj X G a53,gM "one" "other" "thing" F53⟩ aD iS wg vD;have i7:=Pw l.prog w base B ⟨F54,yj X G a54,ze "field" "weights" F54⟩ iM eA;have az:=OF l.prog w base B ⟨F55,yj X G a55,ze "_law_row" "_law_place" F55⟩ dz;have iw:=Oy l.prog w base B ⟨F56,yj X G a56,gM "_law_one" "_law_other" "_law_third" F56⟩ kT qf;have iG:=OP l.prog w base B ⟨F57,yj X G a57,ze "_law_rows" "_law_weights" F57⟩ dw kT;have i_:=Pz l.prog w base B ⟨F58,yj X G a58,wu "rows" F58⟩ jx iL;have iX:=Ph l.prog w base B ⟨F59,yj X G a59,ze "row" "place" F59⟩ eC;have eE:=PX l.prog w base B ⟨F60,yj X G a60,gM "field" "pair" "direction" F60⟩ i9 gS;have ir:=Ou l.prog w base B ⟨F61,yj X G a61,gM "_law_here" "_law_place" "_law_some" F61⟩ iw;have iz:=OA l.prog w base B ⟨F62,yj X G a62,ze "_law_rows" "_law_weights" F62⟩ iG;have aC:=O2 l.prog w base B ⟨F63,yj X G a63,wu "rows" F63⟩ ee i_;have eB:=PN l.prog w base B ⟨F64,yj X G a64,ze "rows" "place" F64⟩ iX;have aA:=OM l.prog w base B ⟨F65,yj X G a65,wu "_law_places" F65⟩ bV ir;have iC:=OE l.prog w base B ⟨F66,yj X G a66,ze "_law_field_here" "_law_thing" F66⟩ iz iB;have iT:=Pd l.prog w base B ⟨F67,yj X G a67,wu "thing" F67⟩ iP iV aC iU;have et:=PK l.prog w base B ⟨F68,yj X G a68,ze "field" "place" F68⟩ eo eB;have j5:=Ox l.prog w base B ⟨F69,yj X G a69,wu "_law_rows" F69⟩ aA iy az;have ax:=Ow l.prog w base B ⟨F70,yj X G a70,ze "_law_places" "_law_row" F70⟩ aA qf dz iD dw kT az;have i0:=Pp l.prog w base B ⟨F71,yj X G a71,wu "thing" F71⟩ iT;have i8:=Px l.prog w base B ⟨F72,yj X G a72,ze "field" "place" F72⟩ et iI gS i7 eE;have iE:=ON l.prog w base B ⟨F73,yj X G a73,wu "_law_rows" F73⟩ j5 iq ax;have bU:=OG l.prog w base B ⟨F74,yj X G a74,ze "_law_field_here" "_law_papers" F74⟩ j5 ax;have iK:=O1 l.prog w base B ⟨F75,yj X G a75,wu "field" F75⟩ i0 aC;have iJ:=OY l.prog w base B ⟨F76,yj X G a76,wu "field" F76⟩ iK iR;have bY:=PH l.prog w base B ⟨F77,yj X G a77,wu "field" F77⟩ iJ i8;exact Pl l.prog w base B F78 iF iA bY iE iH bU j5 iC
def walk {l:PySem.W.OpenLaw}{q:Program}{loose:List Str}{XP:(Str->Option Value)->Heap->Prop}{YP:World->Heap->Prop}{d:DefRec}{K:Params->xt}(hn:l.most=some 63)(hdf:d.params.defaults=[])
  (hY:∀(w:World) (h:Heap),YP w h->(K w.params).In h) (hT:∀P,BW (K P)=none)
  (F:∀(w:World) (mg:Str->Option Value) (fa:Addr) (h:Heap),(K w.params).In h->h.Ns mainGlobals mg->mg d.name=some (.ref fa)->∃fd:FuncData,(∀(s:Shared) (u:Value),BindsTo s fd ⟨[u],[]⟩ [("_law_script", u)])/\∀base:Heap,(K w.params).In base->base.Ns mainGlobals mg->vm l.prog w (K w.params) mg base CX0 12 fa fd ["_law_script"] (aY (K w.params))) :
  PySem.W.WalkO q loose XP YP l.row.toRowW d [] (λf vs=>PySem.call f vs):=
 L2.Uj (n:=63) (k:=12) (x := "_law_script") (CX:=λ_=>CX0) (sp:=λw=>aY (K w.params)) hn (by decide) hdf ⟨rfl,by decide,by decide⟩ hY F (λ_ _ a ns hl hO hS=>⟨a,ns,rfl,⟨λb=>.inl (hO b),gK.none (hT _)⟩,hS,hl,λ_=>rfl⟩) λ_ _ _ _ _ z=>z
def ke (k:Str)(t:Nat)(v:Value):Str×Nat×Value:=(k,t,v)
def kd (P:Params)(n:Nat)(l:List (Str×Nat×Value)):Obj:=⟨.type "dict", none,.dict ⟨l.map λe=>⟨PyData.keyHash P e.1,.str e.1 e.2.1,e.2.2⟩⟩ n,#[]⟩
def kf (x:Str)(st:Stmt)(cd:Nat)(m:Str)(t:Nat):Obj:=⟨.type "function", none,.func (PySem.W.fnOf x x (qZ st) (vo st) (xI st) .none .none .none (.str m t) none (.ref cd) .none),#[]⟩
def kp (x:Str)(st:Stmt):Obj:=⟨.none,none,.func {name:=x,qualname:=x,params:=qZ st,body:=.stmts (vo st),scope:=xI st,globals:=0,closure:=[],defaults:=.none,kwdefaults:=.none},#[]⟩
def kc (x:Str)(a l n m c d:Nat)(u v:Value)(e t f:Nat):Obj:=⟨.type "code", none,.fields ⟨[.str x a,.str x (a+1),.str "/claim/cut.py" (a+2),.int l 0,.int n 0,.int 0 0,.int 0 0,.int m 0,.ref c,.bool true,.int 181 0,.ref d,.none,u,v,.ref e,.int t 0,.int l 0,.str "/claim/cut.py" f]⟩,#[]⟩
def k0:Obj:=⟨.none,none,.fields ⟨[]⟩,#[]⟩
def k1 (l:List Value):Obj:=⟨.type "tuple", none,.seq ⟨l⟩ 0,#[]⟩
def tp (p:Program)(i:Nat):Stmt:=p.main.body.getD i (.Pass ⟨0,0,0,0⟩)
def tq:List (Int×Nat):=[(2,20),(4,33),(6,45),(8,57),(11,69),(13,74),(15,81),(20,88),(23,95),(25,102),(29,109),(31,116),(33,123),(37,128),(39,135),(50,142),(54,147),(59,154),(65,161),(68,168),(72,175),(74,182),(77,189),(79,196),(88,203),(94,210),(100,215),(106,222),(111,227),(113,234),(117,241),(120,246),(122,251),(124,258),(128,265),(136,272),(141,279),(145,286),(152,293),(156,300),(161,307),(164,314),(174,321),(176,328),(183,335),(190,342),(192,349),(201,354),(204,359),(214,366),(219,373),(222,380),(228,387),(236,394),(240,401),(245,408),(254,413),(279,420),(283,427),(288,434),(294,441),(297,448),(300,455),(302,462),(304,469),(306,476),(309,481),(323,486),(325,491),(333,498),(345,505),(347,512),(349,517),(364,524),(369,531),(375,538),(380,545),(382,552),(386,557),(397,562),(403,569),(408,574)]
def tl (n:Nat):Obj:=⟨.none,none,.fields ⟨(tq.take n).flatMap λx=>[.int x.1 0,.int 0 0,.ref x.2]⟩,#[]⟩
def kx (n:Str)(b a s m p q:Nat):Obj:=⟨.type "type", none,.cls {name:=n,bases:=[.ref b],mro:=[.ref a,.ref b,.type "ValueError", .type "Exception", .type "BaseException", .type "object"],ns:=s,qualname:=n,hasDict:=true,slotNames:=[],subclasses:=[],abstract:=false,hasDel:=false},⟨[some (.ref m),none,some (.str n p),some (.str n q),some (.builtin "ValueError.__new__"),some (.bool true)]⟩⟩
def ky (x:Str)(a b c:Nat)(l:Int)(d e:Nat)(i j:Int)(k:Nat):Obj:=⟨.type "code", none,.fields ⟨[.str x a,.str x b,.str "/claim/cut.py" c,.int l 0,.int 0 0,.int 0 0,.int 0 0,.int 0 0,.ref d,.bool false,.int 181 0,.ref e,.none,.none,.none,.none,.int i 0,.int j 0,.str "/claim/cut.py" k]⟩,#[]⟩
def kz (a b c:Nat)(x:Str)(d e:Nat):Obj:=⟨.type "frame", none,.plain,⟨[some (.ref a),some (.ref b),some (.ref c),none,some (.str x d),none,some (.ref e)]⟩⟩
def kv (x:String)(v:Value):Obj:=⟨.type "builtin_function_or_method", none,.fields ⟨[.builtin x,v]⟩,#[]⟩
def kq (a:Nat)(x:Str)(b c:Nat)(y:Str)(d e:Nat)(i:Int)(f g h:Nat):List (Str×Nat×Value):=ke "__module__" a (.str x b)::ke "__qualname__" c (.str y d)::ke "__firstlineno__" e (.int i f)::ke "__static_attributes__" g (.ref h)::[]
def kr (a:Nat)(x:Str)(b e:Nat)(i:Int)(f g h d:Nat):List (Str×Nat×Value):=ke "__module__" a (.str x b)::ke "__firstlineno__" e (.int i f)::ke "__static_attributes__" g (.ref h)::ke "__doc__" d .none::[]
def lw:Str := "law_roundcuts_k17_papers_of_a_round"
def lw0:Str := "roundcuts.corners"
def lw1:Str := "roundcuts.errors"
def lw2:Str := "roundcuts.fields"
def lw3:Str := "roundcuts.fractions"
def lw4:Str := "roundcuts.pieces"
def lw6:Str := "roundcuts.rows"
def lw7:Str := "roundcuts.sides"
def lw8:Str := "roundcuts.sums"
def lw9:Str := "roundcuts.turns"
def mn:List (Str×Nat×Value):=ke "__name__" 165 (.str lw 711)::ke "__doc__" 166 .none::ke "__package__" 167 .none::ke "__loader__" 168 (.builtin "__main__.__loader__#opaque")::ke "__spec__" 169 .none::ke "__annotations__" 170 (.ref 6)::ke "__builtins__" 171 (.ref 4)::ke "__file__" 173 (.str "/claim/cut.py" 172)::ke "__cached__" 174 .none::ke "CutError" 206 (.ref 24)::ke "NoField" 222 (.ref 37)::ke "NoCut" 238 (.ref 49)::ke "NoTurn" 254 (.ref 61)::ke "is_whole" 263 (.ref 70)::ke "are_whole" 269 (.ref 75)::ke "greatest_divisor" 277 (.ref 82)::ke "lowest" 286 (.ref 89)::ke "plus" 294 (.ref 96)::ke "times" 302 (.ref 103)::ke "FAR" 306 (.int 60001 305)::ke "corners_left" 313 (.ref 110)::ke "piece_left" 320 (.ref 117)::ke "cut_down" 329 (.ref 124)::ke "places_of" 335 (.ref 129)::ke "cut_piece" 348 (.ref 136)::ke "beyond" 362 (.ref 143)::ke "where_crossed" 368 (.ref 148)::ke "from_least" 378 (.ref 155)::ke "is_ahead" 386 (.ref 162)::ke "is_row" 395 (.ref 169)::ke "value" 403 (.ref 176)::ke "is_tight" 413 (.ref 183)::ke "turn_to" 421 (.ref 190)::ke "go_round" 431 (.ref 197)::ke "furthest" 442 (.ref 204)::ke "points_back" 451 (.ref 211)::ke "is_field" 459 (.ref 216)::ke "is_field_row" 469 (.ref 223)::ke "is_near" 475 (.ref 228)::ke "need_field" 482 (.ref 235)::ke "corners" 491 (.ref 242)::ke "tight_numbers" 497 (.ref 247)::ke "broken" 503 (.ref 252)::ke "is_broken" 512 (.ref 259)::ke "parts" 526 (.ref 266)::ke "need_turn" 535 (.ref 273)::ke "is_direction" 542 (.ref 280)::ke "between" 553 (.ref 287)::ke "undivided" 563 (.ref 294)::ke "next_least" 576 (.ref 301)::ke "next_behind" 586 (.ref 308)::ke "makes_one" 601 (.ref 315)::ke "sides_at" 611 (.ref 322)::ke "sides_among" 622 (.ref 329)::ke "next_to_the_left" 633 (.ref 336)::ke "direction_of" 640 (.ref 343)::ke "weights_towards" 653 (.ref 350)::ke "sum_of" 661 (.ref 355)::ke "whole_sum" 667 (.ref 360)::ke "cut_of" 677 (.ref 367)::ke "paper_of" 685 (.ref 374)::ke "round_papers" 697 (.ref 381)::ke "papers_at" 710 (.ref 388)::ke "_law_cell_at" 720 (.ref 395)::ke "_law_state" 729 (.ref 402)::ke "_law_take" 739 (.ref 409)::ke "_law_field" 745 (.ref 414)::ke "_law_divisor" 753 (.ref 421)::ke "_law_low" 762 (.ref 428)::ke "_law_crossing" 772 (.ref 435)::ke "_law_value" 782 (.ref 442)::ke "_law_keeps" 791 (.ref 449)::ke "_law_less" 799 (.ref 456)::ke "_law_minus" 807 (.ref 463)::ke "_law_times" 815 (.ref 470)::ke "_law_cross" 825 (.ref 477)::ke "_law_ring" 831 (.ref 482)::ke "_law_all_left" 837 (.ref 487)::ke "_law_corners" 843 (.ref 492)::ke "_law_all_cuts" 863 (.ref 499)::ke "_law_plus" 871 (.ref 506)::ke "_law_over" 879 (.ref 513)::ke "_law_clipped" 885 (.ref 518)::ke "_law_round" 894 (.ref 525)::ke "_law_summed" 906 (.ref 532)::ke "_law_cut" 917 (.ref 539)::ke "_law_whole" 924 (.ref 546)::ke "_law_is_fraction" 931 (.ref 553)::ke "_law_whole_left" 937 (.ref 558)::ke "_law_is_paper" 943 (.ref 563)::ke "_law_left" 954 (.ref 570)::ke "law" 960 (.ref 575)::[]
def kn:List Str->Nat->List Value
 |[],_=>[]
 |v::vs,a=>.str v a::kn vs (a+1)
def kg (p:Program)(x:Str)(i a l n c:Nat)(m:Str)(t:Nat)(vs:List Str)(r:List Obj):List Obj:=k1 []::k0::k1 (kn vs (a+3))::k1 []::kp x (tp p i)::kc x a l n 3 c (c+1) (.ref (c+2)) (.ref (c+3)) (c+4) (a+3+vs.length) (a+4+vs.length)::kf x (tp p i) (c+5) m t::r
def kh (p:Program)(x:Str)(i a l n c:Nat)(m:Str)(t:Nat)(r:List Obj):List Obj:=k1 []::k0::kp x (tp p i)::kc x a l n 3 c (c+1) .none .none (c+2) (a+3) (a+4)::kf x (tp p i) (c+3) m t::r
def ob (p:Program)(P:Params):List Obj:=k1 []::tl 82::ky "<module>" 182 183 184 1 11 12 185 1 186::kz 13 3 3 "__main__" 164 0::k1 [(.type "ValueError")]::kv "type.__prepare__" (.type "type")::kd P 4 (kq 196 lw1 187 198 "CutError" 197 200 2 199 201 22)::k1 []::k0::ky "CutError" 191 192 193 2 18 19 194 2 195::kz 20 3 17 lw1 187 0::k1 []::kd P 3 (ke "__module__" 196 (.str lw1 187)::ke "__firstlineno__" 200 (.int 2 199)::ke "__static_attributes__" 201 (.ref 22)::ke "__weakref__" 203 (.ref 25)::ke "__doc__" 204 .none::[])::⟨(.type "type"),none,.cls {name := "CutError", bases:=[(.type "ValueError")],mro:=[(.ref 24),(.type "ValueError"),(.type "Exception"),(.type "BaseException"),(.type "object")],ns:=23,qualname := "CutError", hasDict:=true,slotNames:=[],subclasses:=[(.ref 37),(.ref 49),(.ref 61)],abstract:=false,hasDel:=false},⟨[some (.ref 15),none,some (.str "CutError" 189),some (.str "CutError" 197),some (.builtin "ValueError.__new__"),some (.bool true)]⟩⟩::⟨(.type "getset_descriptor"),none,.fields ⟨[(.str "__weakref__" 202),(.ref 24),(.builtin "ExceptionGroup.__weakref__"),.none]⟩,#[]⟩::⟨(.type "super"),none,.fields ⟨[(.ref 24),(.ref 24),(.ref 24)]⟩,#[]⟩::kv "object.__init_subclass__" (.ref 24)::k1 [(.ref 24)]::kv "type.__prepare__" (.type "type")::kd P 4 (kq 214 lw1 187 216 "NoField" 215 218 4 217 219 35)::k1 []::k0::ky "NoField" 209 210 211 4 31 32 212 4 213::kz 33 3 30 lw1 187 0::k1 []::kd P 2 (kr 214 lw1 187 218 4 217 219 35 220)::kx "NoField" 24 37 36 28 207 215::⟨(.type "super"),none,.fields ⟨[(.ref 37),(.ref 37),(.ref 37)]⟩,#[]⟩::kv "object.__init_subclass__" (.ref 37)::k1 [(.ref 24)]::kv "type.__prepare__" (.type "type")::kd P 4 (kq 230 lw1 187 232 "NoCut" 231 234 6 233 235 47)::k1 []::k0::ky "NoCut" 225 226 227 6 43 44 228 6 229::kz 45 3 42 lw1 187 0::k1 []::kd P 2 (kr 230 lw1 187 234 6 233 235 47 236)::kx "NoCut" 24 49 48 40 223 231::⟨(.type "super"),none,.fields ⟨[(.ref 49),(.ref 49),(.ref 49)]⟩,#[]⟩::kv "object.__init_subclass__" (.ref 49)::k1 [(.ref 24)]::kv "type.__prepare__" (.type "type")::kd P 4 (kq 246 lw1 187 248 "NoTurn" 247 250 8 249 251 59)::k1 []::k0::ky "NoTurn" 241 242 243 8 55 56 244 8 245::kz 57 3 54 lw1 187 0::k1 []::kd P 2 (kr 246 lw1 187 250 8 249 251 59 252)::kx "NoTurn" 24 61 60 52 239 247::⟨(.type "super"),none,.fields ⟨[(.ref 61),(.ref 61),(.ref 61)]⟩,#[]⟩::kv "object.__init_subclass__" (.ref 61)::kg p "is_whole" 6 257 11 1 64 lw3 255 ["thing"] (kh p "are_whole" 7 264 13 1 71 lw3 255 (kg p "greatest_divisor" 8 270 15 2 76 lw3 255 ["one", "other"] (kg p "lowest" 9 278 20 2 83 lw3 255 ["top", "bottom", "shared"] (kg p "plus" 10 287 23 2 90 lw3 255 ["one", "other"] (kg p "times" 11 295 25 2 97 lw3 255 ["whole", "fraction"] (kg p "corners_left" 14 307 29 1 104 lw4 303 ["rows"] (kg p "piece_left" 15 314 31 1 111 lw4 303 ["rows"] (kg p "cut_down" 16 321 33 2 118 lw4 303 ["piece", "rows", "row"] (kh p "places_of" 17 330 37 1 125 lw4 303 (kg p "cut_piece" 18 336 39 2 130 lw4 303 ["piece", "row", "left", "at", "corner", "before", "crossing"] (kg p "beyond" 19 349 50 2 137 lw4 303 ["row", "corner", "a", "b", "c", "x", "y", "bottom"] (kh p "where_crossed" 20 363 54 3 144 lw4 303 (kg p "from_least" 21 369 59 1 149 lw4 303 ["piece", "start", "at", "corner"] (kg p "is_ahead" 22 379 65 2 156 lw4 303 ["one", "other"] (kg p "is_row" 24 389 68 1 163 lw6 387 ["thing"] (kg p "value" 25 396 72 2 170 lw6 387 ["row", "place"] (kg p "is_tight" 26 404 74 2 177 lw6 387 ["row", "place", "top", "bottom"] (kg p "turn_to" 27 414 77 2 184 lw6 387 ["one", "other"] (kg p "go_round" 28 422 79 1 191 lw6 387 ["rows", "first", "left", "right"] (kg p "furthest" 29 432 88 3 198 lw6 387 ["first", "rows", "sign", "last", "row"] (kg p "points_back" 30 443 94 2 205 lw6 387 ["first", "rows", "row"] (kh p "is_field" 32 454 100 1 212 lw2 452 (kg p "is_field_row" 33 460 106 1 217 lw2 452 ["thing", "a", "b", "c"] (kh p "is_near" 34 470 111 1 224 lw2 452 (kg p "need_field" 35 476 113 1 229 lw2 452 ["thing"] (kg p "corners" 37 485 117 1 236 lw0 483 ["field"] (kh p "tight_numbers" 38 492 120 2 243 lw0 483 (kh p "broken" 39 498 122 1 248 lw0 483 (kg p "is_broken" 40 504 124 1 253 lw0 483 ["place", "x", "y"] (kg p "parts" 42 515 128 3 260 lw9 513 ["one", "other", "thing", "turn", "of_one", "of_other"] (kg p "need_turn" 43 527 136 2 267 lw9 513 ["one", "other", "turn"] (kg p "is_direction" 44 536 141 1 274 lw9 513 ["thing"] (kg p "between" 45 543 145 2 281 lw9 513 ["one", "other", "first", "last", "found"] (kg p "undivided" 46 554 152 1 288 lw9 513 ["direction", "a", "b", "shared"] (kg p "next_least" 47 564 156 2 295 lw9 513 ["first", "last", "a", "b", "p", "q", "back"] (kg p "next_behind" 48 577 161 3 302 lw9 513 ["before", "here", "last", "many"] (kg p "makes_one" 49 587 164 2 309 lw9 513 ["a", "b", "here", "p", "q", "ahead", "next_p", "next_q", "many"] (kg p "sides_at" 51 604 174 2 316 lw7 602 ["field", "place"] (kg p "sides_among" 52 612 176 2 323 lw7 602 ["rows", "numbers", "pairs", "number", "beside"] (kg p "next_to_the_left" 53 623 183 3 330 lw7 602 ["rows", "numbers", "number", "nearest", "other"] (kg p "direction_of" 54 634 190 1 337 lw7 602 ["row"] (kg p "weights_towards" 55 641 192 3 344 lw7 602 ["field", "pair", "direction", "one", "other", "shares", "weights"] (kh p "sum_of" 57 656 201 2 351 lw8 654 (kh p "whole_sum" 58 662 204 2 356 lw8 654 (kg p "cut_of" 59 668 214 1 361 lw8 654 ["totals", "a", "b", "c"] (kg p "paper_of" 60 678 219 2 368 lw8 654 ["field", "weights"] (kg p "round_papers" 62 688 222 1 375 "roundcuts.rounds" 686 ["field", "papers", "place", "paper"] (kg p "papers_at" 63 698 228 2 382 "roundcuts.rounds" 686 ["field", "place", "papers", "pair", "one", "other", "direction"] (kg p "_law_cell_at" 65 713 236 2 389 lw 711 ["_law_script", "_law_k"] (kg p "_law_state" 66 721 240 2 396 lw 711 ["_law_script", "_law_k", "_law_cell"] (kg p "_law_take" 67 730 245 2 403 lw 711 ["_law_state_here", "_law_many", "_law_found", "_law_stirred"] (kh p "_law_field" 68 740 254 1 410 lw 711 (kg p "_law_divisor" 69 746 279 2 415 lw 711 ["_law_one", "_law_other"] (kg p "_law_low" 70 754 283 2 422 lw 711 ["_law_top", "_law_bottom", "_law_by"] (kg p "_law_crossing" 71 763 288 2 429 lw 711 ["_law_one", "_law_other", "_law_by", "_law_x"] (kg p "_law_value" 72 773 294 2 436 lw 711 ["_law_row", "_law_place", "_law_x", "_law_y"] (kg p "_law_keeps" 73 783 297 2 443 lw 711 ["_law_row", "_law_place", "_law_here"] (kg p "_law_less" 74 792 300 2 450 lw 711 ["_law_one", "_law_other"] (kg p "_law_minus" 75 800 302 2 457 lw 711 ["_law_one", "_law_other"] (kg p "_law_times" 76 808 304 2 464 lw 711 ["_law_one", "_law_other"] (kg p "_law_cross" 77 816 306 3 471 lw 711 ["_law_one", "_law_other", "_law_third", "_law_first"] (kh p "_law_ring" 78 826 309 1 478 lw 711 (kh p "_law_all_left" 79 832 323 3 483 lw 711 (kh p "_law_corners" 80 838 325 1 488 lw 711 (kg p "_law_all_cuts" 81 844 333 1 493 lw 711 ["_law_rows", "_law_found", "_law_at", "_law_a", "_law_b", "_law_c", "_law_d", "_law_e", "_law_f", "_law_by", "_law_p", "_law_q", "_law_u", "_law_v"] (kg p "_law_plus" 82 864 345 2 500 lw 711 ["_law_one", "_law_other"] (kg p "_law_over" 83 872 347 2 507 lw 711 ["_law_one", "_law_other"] (kh p "_law_clipped" 84 880 349 2 514 lw 711 (kg p "_law_round" 85 886 364 1 519 lw 711 ["_law_rows", "_law_places", "_law_row"] (kg p "_law_summed" 86 895 369 2 526 lw 711 ["_law_rows", "_law_weights", "_law_found", "_law_row", "_law_weight", "_law_at"] (kg p "_law_cut" 87 907 375 2 533 lw 711 ["_law_rows", "_law_weights", "_law_a", "_law_b", "_law_c"] (kg p "_law_whole" 88 918 380 1 540 lw 711 ["_law_thing"] (kg p "_law_is_fraction" 89 925 382 1 547 lw 711 ["_law_thing"] (kh p "_law_whole_left" 90 932 386 2 554 lw 711 (kh p "_law_is_paper" 91 938 397 2 559 lw 711 (kg p "_law_left" 92 944 403 2 564 lw 711 ["_law_field_here", "_law_papers", "_law_places", "_law_weights", "_law_row"] (k1 []::k0::kp "law" (tp p 93)::kc "law" 955 408 1 3 571 572 .none .none 573 958 959::kf "law" (tp p 93) 574 lw 711::[])))))))))))))))))))))))))))))))))))))))))))))))))))))))))))))))))))))))))))))
def hp (p:Program)(P:Params)(n:Nat)(m:List (Str×Nat×Value))(e:Nat)(c:List (Nat×Obj)):List Obj:=c.foldl (λl x=>l.set x.1 x.2) ((PySem.W.boot_heap P).objs.toList.set 3 (kd P e m)++(ob p P).take n)
def sh (p:Program)(w:World)(os:OsState)(n:Nat)(m:List (Str×Nat×Value))(e:Nat)(c:List (Nat×Obj))(k:Nat):Shared:=⟨⟨⟨hp p w.params n m e c⟩,{}⟩,⟨[]⟩,{},k,os⟩
def hf (p:Program)(P:Params):Heap:=⟨⟨hp p P 565 mn 92 []⟩,{}⟩
abbrev as:List Addr:=[3,69,70,74,75,81,82,88,89,95,96,102,103,109,110,116,117,123,124,128,129,135,136,142,143,147,148,154,155,161,162,168,169,175,176,182,183,189,190,196,197,203,204,210,211,215,216,222,223,227,228,234,235,241,242,246,247,251,252,258,259,265,266,272,273,279,280,286,287,293,294,300,301,307,308,314,315,321,322,328,329,335,336,342,343,349,350,354,355,359,360,366,367,373,374,380,381,387,388,394,395,401,402,408,409,413,414,420,421,427,428,434,435,441,442,448,449,455,456,462,463,469,470,476,477,481,482,486,487,491,492,498,499,505,506,512,513,517,518,524,525,531,532,538,539,545,546,552,553,557,558,562,563,569,570,574,575]
def Kp (p:Program)(P:Params):xt:=as.map λa=>(a,(hp p P 565 mn 92 []).getD a k0)
abbrev pg:Program:=PySem.Challenge.pw_roundcuts_k17_papers_of_a_round
abbrev K (P:Params):xt:=Kp pg P
def K7 (p:Program)(P:Params):as=(Kp p P).map (·.1):=by unfold Kp;rw[vy];exact(List.map_id _).symm
abbrev Hk (p:Program):PySem.W.Hook:=PySem.W.kHook (Kp p) as (K7 p)
abbrev keep:List Nat:=[1,2,3,4,6,7,8,9,10,11,13,14,15,16,17,18,19,20,21,22,24,25,26,27,28,29,30,32,33,34,35,37,38,39,40,42,43,44,45,46,47,48,49,51,52,53,54,55,57,58,59,60,62,63,65,66,67,68,69,70,71,72,73,74,75,76,77,78,79,80,81,82,83,84,85,86,87,88,89,90,91,92,93]
abbrev vw:Program:=PySem.W.view pg keep
def dk {P:Params}{x:Str}{st:Stmt}{f cd t:Nat}{m:Str}(a:PySem.W.nsIn (K P) mainGlobals x=some (some (.ref f)))(l:(K P).lookup f=some (kf x st cd m t))(c:PySem.W.codeIn (K P) (.ref cd) x=true):DD (K P) x st:=dd a l c (by unfold PySem.W.keepIn;dsimp only;rw[l];rfl)
def dl {P:Params}{x:Str}{st:Stmt}(f cd:Nat)(m:Str)(t:Nat)(a:PySem.W.nsIn (K P) mainGlobals x=some (some (.ref f)):=by kernel_rfl)(l:(K P).lookup f=some (kf x st cd m t):=by kernel_rfl)(c:PySem.W.codeIn (K P) (.ref cd) x=true:=by kernel_rfl):DD (K P) x st:=dk a l c
end K17
set_option maxHeartbeats 0 in
lay_quick PySem.Challenge.pw_roundcuts_k17_papers_of_a_round
namespace K17
open PySem L2 PySem.W
abbrev tb:=PySem.W.Fast.tw14364793385576792824
abbrev p':=PySem.W.Fast.tw819400666731962852
abbrev v':=view p' keep
abbrev im:=PySem.W.Fast.tw5923862056798008813 p'.main.body
abbrev ann:Option Value:=some (.ref 6)
abbrev q:Pos:=⟨0,0,0,0⟩
abbrev bd:=behindTheImports p'
abbrev env:Env:={scope:=p'.main.scope,locals:=mainNs,globals:=mainNs,cells:=[],code:=(.ref 13),frame:=some 14}
abbrev cb:Code:=.body bd env
def r0 (w:World)(os:OsState):topGo tb p' w 11 ann 12 ⟨boot_heap w.params,⟨[]⟩,boot_drawn,boot_toks,os⟩ (topStub p')=some ((sh p' w os 4 ((mn.take 9).set 0 (ke "__name__" 165 (.str "__main__" 164))) 9 [(12,k0)] 187),⟨denote tb cb,cb,⟨0,0,0,0⟩,[topFrame q]⟩):=by kernel_rfl
def r1 (w:World)(os:OsState):segRun tb p' w 11 ann 1 1 (sh p' w os 4 ((mn.take 9).set 0 (ke "__name__" 165 (.str "__main__" 164))) 9 [(12,k0)] 187) (blockOf bd env cb ⟨0,0,0,0⟩ [topFrame q])=some (.next,(sh p' w os 4 ((mn.take 9).set 0 (ke "__name__" 165 (.str "__main__" 164))) 9 [(12,k0)] 187),cb,⟨0,0,0,0⟩):=by kernel_rfl
def c0 (w:World)(os:OsState):segRun tb p' w 11 ann 1 626 (sh p' w os 4 ((mn.take 9).set 0 (ke "__name__" 165 (.str "__main__" 164))) 9 [(12,k0)] 187) (piecesOf ((bd.drop 0).take 4) env cb ⟨0,0,0,0⟩ [topFrame q])=some (.next,(sh p' w os 41 ((mn.take 12).set 0 (ke "__name__" 165 (.str lw1 187))) 12 [(12,tl 3),(24,⟨(.type "type"),none,.cls {name := "CutError", bases:=[(.type "ValueError")],mro:=[(.ref 24),(.type "ValueError"),(.type "Exception"),(.type "BaseException"),(.type "object")],ns:=23,qualname := "CutError", hasDict:=true,slotNames:=[],subclasses:=[(.ref 37),(.ref 49)],abstract:=false,hasDel:=false},⟨[some (.ref 15),none,some (.str "CutError" 189),some (.str "CutError" 197),some (.builtin "ValueError.__new__"),some (.bool true)]⟩⟩)] 239),cb,⟨6,0,7,8⟩):=by kernel_rfl
def c1 (w:World)(os:OsState):segRun tb p' w 11 ann 1 720 (sh p' w os 41 ((mn.take 12).set 0 (ke "__name__" 165 (.str lw1 187))) 12 [(12,tl 3),(24,⟨(.type "type"),none,.cls {name := "CutError", bases:=[(.type "ValueError")],mro:=[(.ref 24),(.type "ValueError"),(.type "Exception"),(.type "BaseException"),(.type "object")],ns:=23,qualname := "CutError", hasDict:=true,slotNames:=[],subclasses:=[(.ref 37),(.ref 49)],abstract:=false,hasDel:=false},⟨[some (.ref 15),none,some (.str "CutError" 189),some (.str "CutError" 197),some (.builtin "ValueError.__new__"),some (.bool true)]⟩⟩)] 239) (piecesOf ((bd.drop 4).take 20) env cb ⟨6,0,7,8⟩ [topFrame q])=some (.next,(sh p' w os 152 ((mn.take 29).set 0 (ke "__name__" 165 (.str lw6 387))) 29 [(12,tl 19)] 389),cb,⟨67,0,67,8⟩):=by kernel_rfl
def c2 (w:World)(os:OsState):segRun tb p' w 11 ann 1 721 (sh p' w os 152 ((mn.take 29).set 0 (ke "__name__" 165 (.str lw6 387))) 29 [(12,tl 19)] 389) (piecesOf ((bd.drop 24).take 25) env cb ⟨67,0,67,8⟩ [topFrame q])=some (.next,(sh p' w os 298 ((mn.take 51).set 0 (ke "__name__" 165 (.str lw9 513))) 51 [(12,tl 41)] 587),cb,⟨161,0,163,67⟩):=by kernel_rfl
def c3 (w:World)(os:OsState):segRun tb p' w 11 ann 1 715 (sh p' w os 298 ((mn.take 51).set 0 (ke "__name__" 165 (.str lw9 513))) 51 [(12,tl 41)] 587) (piecesOf ((bd.drop 49).take 25) env cb ⟨161,0,163,67⟩ [topFrame q])=some (.next,(sh p' w os 439 (mn.take 72) 72 [(12,tl 62)] 792),cb,⟨297,0,299,53⟩):=by kernel_rfl
def c4 (w:World)(os:OsState):segRun tb p' w 11 ann 1 616 (sh p' w os 439 (mn.take 72) 72 [(12,tl 62)] 792) (piecesOf ((bd.drop 74).take 20) env cb ⟨297,0,299,53⟩ [topFrame q])=some (.next,(sh p' w os 565 mn 92 [] 961),cb,⟨408,0,426,15⟩):=by kernel_rfl
def Lh:bd=(((bd.drop 0).take 4)++(((bd.drop 4).take 20)++(((bd.drop 24).take 25)++(((bd.drop 49).take 25)++(((bd.drop 74).take 20)++[]))))):=by kernel_rfl
def cl (w:World)(os:OsState):topRun tb p' w 11 ann 2 (sh p' w os 565 mn 92 [] 961) ⟨doneF .next,cb,⟨408,0,426,15⟩,[topFrame q]⟩=some (sh p' w os 565 mn 92 [] 961):=by kernel_rfl
def run (w:World)(os:OsState):topRun tb p' w 11 ann (12+(1+(626+(720+(721+(715+(616+2))))))) ⟨boot_heap w.params,⟨[]⟩,boot_drawn,boot_toks,os⟩ (topStub p')=some ⟨hf p' w.params,⟨[]⟩,{},961,os⟩:=go_top (r0 w os) (piece_block (r1 w os) (Lh▸(piece_app (c0 w os) (piece_app (c1 w os) (piece_app (c2 w os) (piece_app (c3 w os) (piece_app (c4 w os) (piece_nil (cl w os)))))))))
def z0 (w:World):((boot_heap w.params).isNs mainGlobals&&(⟨[]⟩:Array GenState).size==0,(boot_heap w.params).objs.size,(boot_heap w.params).nsMap mainGlobals "__annotations__")=(true,11,ann):=by kernel_rfl
def z1 (w:World)(os:OsState):(staticsOk im (boot_heap w.params) (hf p' w.params)&&namesBound p' (hf p' w.params)&&gensDone ⟨hf p' w.params,⟨[]⟩,{},961,os⟩&&laidKept (boot_heap w.params) (hf p' w.params))=true:=by kernel_rfl
abbrev zx (w:World)(os:OsState):=PySem.W.Fast.tw4187177175401517315 v' [] im (λs=>xlAt v' [] s&&recOk [] s) true ⟨hf p' w.params,⟨[]⟩,{},961,os⟩
def z20 (w os):(zx w os).1=PyProof.Rows.expectedOf v':=by kernel_rfl
def z21 (w os):(zx w os).2.1=bltViewBooted:=by kernel_rfl
def z22 (w os):(zx w os).2.2.1=true:=by kernel_rfl
def z23 (w os):(zx w os).2.2.2.1=true:=by kernel_rfl
def z24 (w os):(zx w os).2.2.2.2.1=pinGoodD (PyProof.Rows.drecsOf v'):=by kernel_rfl
def z25 (w os):(zx w os).2.2.2.2.2.1=PyProof.Rows.plainGoodE v' (looseW v' []):=by kernel_rfl
def z26 (w os):(zx w os).2.2.2.2.2.2.1=PyProof.Rows.plainGoodD v' []:=by kernel_rfl
def z27 (w os):(zx w os).2.2.2.2.2.2.2.1=wideGood v':=by kernel_rfl
def z28 (w os):(zx w os).2.2.2.2.2.2.2.2=clsGoodW v' []:=by kernel_rfl
def z2 (w os):zx w os=openGood v' []:=zL (z20 w os) (zL (z21 w os) (zL (z22 w os) (zL (z23 w os) (zL (z24 w os) (zL (z25 w os) (zL (z26 w os) (zL (z27 w os) (z28 w os))))))))
def z3 (w:World)(os:OsState):Hook.obs (Hk p') ⟨hf p' w.params,⟨[]⟩,{},961,os⟩=Hook.val (Hk p') w:=by kernel_rfl
def NM:LeftO p' v' [] (λs=>xlAt v' [] s&&recOk [] s) (Hook.obs (Hk p')) (Hook.val (Hk p')) 6724:=by
 have h1:=run;have h2:=z1;have h3:=z2;unfold zx at h3;rw[show tb=treeTable from PySem.W.Fast.te14364793385576792824.symm] at h1;rw[show im=importedModules p'.main.body from congrFun PySem.W.Fast.te5923862056798008813.symm _] at h2 h3;rw[show PySem.W.Fast.tw4187177175401517315=openSeen from PySem.W.Fast.te4187177175401517315.symm] at h3;exact LeftO.of_pieces (boot_open rfl rfl λ_=>rfl) z0 h1 (by decide) λw=>funext λos=>by rw[h2 w os,h3 w os,z3 w os]
def NN (p:Program)(h:p=p'):LeftO p (view p keep) [] (λs=>xlAt (view p keep) [] s&&recOk [] s) (Hook.obs (Hk p)) (Hook.val (Hk p)) 6724:=by subst h;exact NM
def left:LeftO pg vw [] (λs=>xlAt vw [] s&&recOk [] s) (Hook.obs (Hk pg)) (Hook.val (Hk pg)) 6724:=NN pg PySem.W.Fast.te819400666731962852
end K17
namespace K17
open PySem L2 Trn
def there {l:PySem.W.OpenLaw}{w:World}{P:Params}{h:Heap}{mg:Str->Option Value}{fa:Addr}(X:(K P).In h)(G:h.Ns mainGlobals mg)(hfa:mg "law" = some (.ref fa)) :
  ∃fd:FuncData,(∀(s:Shared) (v:Value),BindsTo s fd ⟨[v],[]⟩ [("_law_script", v)])/\∀base:Heap,(K P).In base->base.Ns mainGlobals mg->vm l.prog w (K P) mg base CX0 12 fa fd ["_law_script"] (aY (K P)):=
 all_mk X G hfa (dl 70 69 lw3 255)
  (dl 82 81 lw3 255)
  (dl 143 142 lw4 303)
  (dl 162 161 lw4 303)
  (dl 190 189 lw6 387)
  (dl 228 227 lw2 452)
  (dl 259 258 lw0 483)
  (dl 315 314 lw9 513)
  (dl 343 342 lw7 602)
  (dl 367 366 lw8 654)
  (dl 395 394 lw 711)
  (dl 409 408 lw 711)
  (dl 421 420 lw 711)
  (dl 456 455 lw 711)
  (dl 499 498 lw 711)
  (dl 546 545 lw 711)
  (dl 558 557 lw 711)
  (dl 75 74 lw3 255)
  (dl 89 88 lw3 255)
  (dl 148 147 lw4 303)
  (dl 155 154 lw4 303)
  (dl 204 203 lw6 387)
  (dl 211 210 lw6 387)
  (dl 273 272 lw9 513)
  (dl 294 293 lw9 513)
  (dl 301 300 lw9 513)
  (dl 308 307 lw9 513)
  (dl 336 335 lw7 602)
  (dl 360 359 lw8 654)
  (dl 402 401 lw 711)
  (dl 414 413 lw 711)
  (dl 428 427 lw 711)
  (dl 553 552 lw 711)
  (dl 96 95 lw3 255)
  (dl 103 102 lw3 255)
  (dl 129 128 lw4 303)
  (dl 136 135 lw4 303)
  (dl 169 168 lw6 387)
  (dl 197 196 lw6 387)
  (dl 280 279 lw9 513)
  (dl 287 286 lw9 513)
  (dl 329 328 lw7 602)
  (dl 355 354 lw8 654)
  (dl 435 434 lw 711)
  (dl 442 441 lw 711)
  (dl 463 462 lw 711)
  (dl 470 469 lw 711)
  (dl 506 505 lw 711)
  (dl 513 512 lw 711)
  (dl 124 123 lw4 303)
  (dl 176 175 lw6 387)
  (dl 223 222 lw2 452)
  (dl 266 265 lw9 513)
  (dl 374 373 lw8 654)
  (dl 449 448 lw 711)
  (dl 477 476 lw 711)
  (dl 532 531 lw 711)
  (dl 117 116 lw4 303)
  (dl 183 182 lw6 387)
  (dl 350 349 lw7 602)
  (dl 487 486 lw 711)
  (dl 539 538 lw 711)
  (dl 110 109 lw4 303)
  (dl 247 246 lw0 483)
  (dl 482 481 lw 711)
  (dl 563 562 lw 711)
  (dl 216 215 lw2 452)
  (dl 322 321 lw7 602)
  (dl 492 491 lw 711)
  (dl 518 517 lw 711)
  (dl 235 234 lw2 452)
  (dl 388 387 "roundcuts.rounds" 686)
  (dl 525 524 lw 711)
  (dl 570 569 lw 711)
  (dl 242 241 lw0 483)
  (dl 252 251 lw0 483)
  (dl 381 380 "roundcuts.rounds" 686)
  (by kernel_rfl:PySem.W.nsIn (K P) mainGlobals "law" = some (some (.ref 575))) (by kernel_rfl:(K P).lookup 575=some (kf "law" kH 574 lw 711)) (by kernel_rfl:PySem.W.codeIn (K P) (.ref 574) "law" = true) (by kernel_rfl) (by kernel_rfl) (by kernel_rfl) (by kernel_rfl) (by kernel_rfl) (by kernel_rfl) (by kernel_rfl) (by kernel_rfl) (by kernel_rfl) (by kernel_rfl) (by kernel_rfl) (by kernel_rfl) (by kernel_rfl) (by kernel_rfl) (by kernel_rfl) (by kernel_rfl) (by kernel_rfl) ((by kernel_rfl:PySem.W.nsIn (K P) mainGlobals "FAR" = some (some (.int 60001 305))))
end K17
end
open PySem PySem.W PyProof.Rows
set_option maxRecDepth 100000 in
set_option maxHeartbeats 0 in
theorem PySem.Challenge.cw_roundcuts_k17_papers_of_a_round_holds : PySem.Challenge.rw_roundcuts_k17_papers_of_a_round.Holds := by
 w_on;o_law
 refine holds_open (q:=K17.vw) (XP:=XL K17.vw []) (YP:=Hook.says (K17.Hk _)) K17.left (Hook.of _) (Hook.keeps _) (fun s e=>xl_of s (Bool.and_eq_true_iff.mp e).1)
  XL.keeps rfl rfl rfl (fun s e=>recFacts_of (Bool.and_eq_true_iff.mp e).2) rfl (by assumption) (by decide +kernel) ⟨rfl,rfl,rfl,rfl,rfl,by decide +kernel⟩ ?hw ?hc
 case hw=>w_witness2
 exact K17.walk (l:=PySem.Challenge.rw_roundcuts_k17_papers_of_a_round) rfl rfl (fun w h Y=>PySem.W.kIn_of Y) (fun P=>by kernel_rfl) (fun w mg fa h X G e=>K17.there X G e)
