import PyProof.Rows.All
import Wide.All
import OpenK.AllK
import Wide.FinOn
import Lean
import PyProof.EqAt
import PyProof.EqKinds
import PyProof.TupleCall
import PyProof.ZipIter
import PyProof.NeData
import PyProof.P3Eq
import PyProof.EnumFor
import PyProof.EnumMake
import PyProof.Draws
import KE.KTryMore
import KE.KIsAll
import PyProof.ExcAttrAll.ValueError
import KE.KLam
import PyProof.Cells
import KE.KDictList
import PySem.Challenge.RW_roundcuts_k18_papers_against_places
set_option Elab.async false
set_option linter.all false
set_option maxRecDepth 100000
set_option maxHeartbeats 4000000
set_option exponentiation.threshold 3000
set_option bootstrap.genMatcherCode false
set_option genSizeOfSpec false
set_option genInjectivity false
abbrev xj:=@PySem.wpAny_bind
abbrev xw:=@PySem.W.Frag
abbrev xG:=@if_neg
abbrev xJ:=@if_pos
abbrev xO:=@PySem.wpAny_pure
abbrev xP:=@List.length_map
abbrev xU:=@List.mem_cons_self
abbrev xX:=@List.mem_cons
abbrev yd:=@PySem.W.mg_of
abbrev yl:=@Int.le_of_lt
abbrev ym:=@Nat.le_refl
abbrev yz:=@List.mem_append
abbrev yC:=@List.getElem?_eq_getElem
abbrev yI:=@List.mem_cons_of_mem
abbrev yK:=@PySem.Heap.lt_size
abbrev yU:=@of_decide_eq_true
abbrev yZ:=@PySem.Heap.get?_push_of_some
abbrev y4:=@Int.lt_or_le
abbrev y8:=@List.getElem?_eq_some_iff
abbrev y9:=@List.not_mem_nil
abbrev ze:=@List.length_append
abbrev zf:=@List.mem_append_left
abbrev zg:=@congrArg
abbrev zh:=@or_false
abbrev zj:=@Int.mul_le_mul_of_nonneg_right
abbrev zq:=@List.mem_of_getElem?
abbrev zC:=@Prod.ext
abbrev zF:=@List.mem_singleton
abbrev zG:=@PySem.PassesOwn.never
abbrev zT:=@List.mem_map
abbrev zY:=@Ne.symm
abbrev zZ:=@of_decide_eq_false
abbrev wd:=@Int.mul_le_mul_of_nonneg_left
abbrev we:=@Nat.ne_of_lt
abbrev wo:=@List.size_toArray
abbrev wB:=@Int.le_refl
abbrev wC:=@List.length_cons
abbrev wD:=@List.map_append
abbrev wF:=@decide_eq_true
abbrev wJ:=@PySem.Heap.get?_push_size
abbrev wZ:=@List.mem_append_right
abbrev ue:=@List.getElem?_map
abbrev uG:=@Bool.false_ne_true
abbrev uH:=@List.append_nil
abbrev uQ:=@List.length_take
abbrev uR:=@List.mem_filter
abbrev uS:=@List.take_of_length_le
abbrev uU:=@decide_eq_false
abbrev u9:=@Int.natAbs_mul
abbrev vi:=@List.map_map
abbrev vp:=@Int.mul_eq_zero
abbrev vq:=@List.singleton_sublist
abbrev vt:=@Nat.le_trans
abbrev vG:=@Int.mul_comm
abbrev vH:=@Int.mul_zero
abbrev vI:=@List.take_succ
abbrev vJ:=@Nat.lt_of_lt_of_le
abbrev vK:=@Option.some.inj
abbrev vL:=@PySem.wpAny_field
abbrev vM:=@PySem.wpAny_newObj_type
abbrev vQ:=@PySem.W.mg_none_of
abbrev vR:=@PySem.wpAny_mono
abbrev v_:=@List.length_drop
abbrev qa:=@List.map_cons
abbrev qb:=@PySem.wpAny_call_entry
abbrev qz:=@List.append_assoc
abbrev qA:=@List.foldl_cons
abbrev qB:=@List.lookup_cons
abbrev qC:=@List.nil_append
abbrev qD:=@PySem.F.plainAttrs_list
abbrev qE:=@decide_eq_true_eq
abbrev qF:=@if_false
abbrev qY:=@Int.mul_neg
abbrev qZ:=@Int.neg_mul
abbrev q8:=@List.length_set
abbrev q9:=@PySem.F.slot_list_append
abbrev q_:=@PySem.F.type_list_append
abbrev km:=@PySem.wpAny_holding
abbrev ko:=@PySem.wpAny_loadPart'
abbrev kZ:=@Nat.lt_of_le_of_lt
abbrev ju:=@Bool.and_eq_true
abbrev jv:=@Int.dvd_coe_gcd
abbrev jw:=@Int.mul_neg_of_pos_of_neg
abbrev jx:=@Int.toNat_natCast
abbrev jy:=@Int.zero_mul
abbrev jz:=@List.getD_eq_getElem?_getD
abbrev jA:=@List.mem_map_of_mem
abbrev jB:=@PySem.W.kia_one
abbrev jC:=@PySem.wpAny_callSpecial?_slot
abbrev j4:=@Int.eq_of_mul_eq_mul_right
abbrev j5:=@Int.gcd_dvd_left
abbrev j6:=@Int.le_of_mul_le_mul_right
abbrev j7:=@Int.lt_trichotomy
abbrev j8:=@Int.mul_pos
abbrev j9:=@List.all_eq_true
abbrev j_:=@List.getElem?_eq_none
abbrev hG:=@List.length_nil
abbrev gZ:=@PySem.Heap.SameBut.update
abbrev g6:=@Int.mul_one
abbrev g9:=@List.cons_append
abbrev g_:=@List.length_singleton
abbrev fb:=@List.mem_of_mem_take
abbrev fc:=@List.mem_range
abbrev ff:=@List.replicate_succ
abbrev fg:=@Nat.ne_of_gt
abbrev fh:=@PySem.Paired.length
abbrev fi:=@PySem.wpAny_truthy_bool
abbrev fZ:=@Classical.byContradiction
abbrev f_:=@Int.emod_nonneg
abbrev dj:=@Int.gcd_dvd_right
abbrev dm:=@Int.mul_ediv_cancel'
abbrev dq:=@List.foldl_append
abbrev du:=@List.map_nil
abbrev dw:=@List.mem_iff_getElem
abbrev dz:=@List.nodup_append
abbrev dA:=@List.pairwise_iff_forall_sublist
abbrev dB:=@List.take_append_drop
abbrev dD:=@List.zip_cons_cons
abbrev dE:=@Nat.lt_irrefl
abbrev dG:=@PySem.wpAny_rule
abbrev dH:=@PySem.wpAny_seqItems
abbrev aC:=@Array.length_toList
abbrev aD:=@Bool.false_eq_true
abbrev aE:=@PySem.Heap.size_push
abbrev aF:=@Int.add_zero
abbrev aG:=@Int.emod_lt_of_pos
abbrev aH:=@Int.not_lt
abbrev aI:=@List.any_cons
abbrev aJ:=@List.any_eq_true
abbrev aK:=@List.drop_eq_getElem_cons
abbrev aL:=@List.filter_cons_of_neg
abbrev aM:=@List.flatten_cons
abbrev aO:=@List.getElem?_set_ne
abbrev aP:=@List.length_replicate
abbrev aQ:=@List.sublist_append_right
abbrev aR:=@List.take_length
abbrev aS:=@Nat.lt_succ_of_lt
abbrev aT:=@Nat.zero_le
abbrev aU:=@PySem.mem_of_lookup
abbrev aV:=@PySem.call_meets
abbrev aW:=@decide_eq_decide
abbrev aX:=@if_true
abbrev aY:=@PySem.wpAny_attempt
abbrev aZ:=@PySem.wpAny_dictEntries
abbrev a_:=@PySem.wpAny_passesOwn
abbrev me:=@Array.getElem?_eq_getElem
abbrev mf:=@Int.gcd_pos_of_ne_zero_right
abbrev mh:=@PyProof.Rows.IsTup.new
abbrev mo:=@List.Sublist.refl
abbrev mq:=@List.filter_cons_of_pos
abbrev mr:=@List.getElem?_append_right
abbrev mw:=@List.length_eq_zero_iff
abbrev mz:=@List.nodup_cons
abbrev mB:=@List.of_mem_zip
abbrev mC:=@Nat.le_of_lt
abbrev mE:=@Nat.le_succ
abbrev mF:=@PySem.Obj.data_mapFields
abbrev mG:=@Prod.ext_iff
abbrev mH:=@PyProof.Rows.slot_tuple_getitem
abbrev mI:=@PyProof.Rows.assignInOrder_cons
abbrev mJ:=@decide_eq_true_iff
abbrev mK:=@PySem.wpAny_dictEpoch
abbrev mL:=@PySem.wpAny_setField
abbrev mM:=@PySem.wpAny_setField_rec
abbrev mN:=@PySem.wpAny_standAt
abbrev cV:=@Bool.eq_iff_iff
abbrev cW:=@PySem.F.slot_dict_keyiterator_next
abbrev cX:=@PySem.F.slot_dict_valueiterator_next
abbrev cY:=@PySem.Heap.get?_update_self
abbrev cZ:=@Int.dvd_natAbs
abbrev c7:=@Int.fdiv_eq_ediv_of_nonneg
abbrev c9:=@Int.mul_ediv_cancel_left
abbrev c_:=@Int.mul_neg_of_neg_of_pos
abbrev pq:=@Int.zero_add
abbrev pA:=@List.Sublist.trans
abbrev pB:=@List.all_map
abbrev pC:=@List.drop_zero
abbrev pE:=@List.flatMap_append
abbrev pF:=@List.getElem?_append_left
abbrev pG:=@List.isEmpty_map
abbrev pH:=@List.map_drop
abbrev pI:=@List.take_zero
abbrev pJ:=@PySem.typeIs_int
abbrev pK:=@PySem.wpAny_bindName
abbrev pL:=@PySem.wpAny_pyIter_tuple
abbrev BG:=@Array.getElem?_eq_none
abbrev BH:=@Bool.not_not
abbrev BI:=@PySem.F.slot_int_rmul
abbrev BJ:=@PySem.F.slot_tuple_iterator_next
abbrev BK:=@PySem.F.slot_zip_next
abbrev BL:=@Int.ediv_nonneg
abbrev BM:=@Int.gcd_mul_left
abbrev BN:=@Int.le_of_mul_le_mul_left
abbrev BO:=@Int.mul_ediv_mul_of_pos_left
abbrev BP:=@Int.mul_emod_right
abbrev BQ:=@Int.mul_nonneg
abbrev BR:=@Int.natCast_nonneg
abbrev BS:=@Int.ne_of_gt
abbrev BU:=@Int.sub_zero
abbrev BV:=@List.find?_cons
abbrev BW:=@List.getElem?_range
abbrev BX:=@List.getElem?_replicate
abbrev BY:=@List.getElem?_set_self
abbrev BZ:=@List.getElem_mem
abbrev B2:=@List.length_filter_le
abbrev B4:=@List.length_range
abbrev B5:=@List.map_replicate
abbrev B6:=@List.map_set
abbrev B7:=@List.map_take
abbrev B8:=@List.mem_filterMap
abbrev B9:=@List.set_comm
abbrev B_:=@List.sublist_append_iff
abbrev Ca:=@List.sum_cons
abbrev Cb:=@Nat.le_add_right
abbrev Cc:=@Nat.lt_or_ge
abbrev Cd:=@Nat.lt_succ_self
abbrev Ce:=@Nat.mul_le_mul
abbrev Cf:=@Nat.mul_le_mul_right
abbrev Cg:=@Nat.sub_zero
abbrev Ci:=@PySem.Paired.snoc
abbrev Cj:=@PyProof.Rows.callWith_type1
abbrev Ck:=@PySem.isSubtype_stop
abbrev Cm:=@PySem.wpAny_execs_nil
abbrev Co:=@PySem.wpAny_fieldsOf
abbrev Cp:=@PySem.wpAny_isInstance
abbrev Cq:=@PySem.wpAny_onRaise
abbrev Cr:=@PySem.wpAny_pyIter_list
abbrev Cs:=@PySem.wpAny_typeNameOfWhole_keyiter
abbrev Ct:=@PySem.wpAny_typeNameOfWhole_valiter
abbrev Cw:=@PySem.wpAny_typeNameOf_keyiter
abbrev Cy:=@PySem.wpAny_typeNameOf_valiter
abbrev JT:=@Array.getElem?_toList
abbrev JU:=@PySem.F.slot_tuple_mul
abbrev JV:=@PySem.Heap.get?_update_other
abbrev JW:=@Int.dvd_antisymm
abbrev JX:=@Int.dvd_mul_left
abbrev JY:=@Int.dvd_of_emod_eq_zero
abbrev JZ:=@Int.ediv_mul_cancel
abbrev J0:=@Int.fmod_lt_of_pos
abbrev J1:=@Int.fmod_nonneg_of_pos
abbrev J2:=@Int.le_ediv_iff_mul_le
abbrev J3:=@Int.lt_of_mul_lt_mul_right
abbrev J4:=@Int.mul_dvd_mul_left
abbrev J5:=@Int.mul_lt_mul_of_pos_right
abbrev J6:=@Int.pos_of_mul_pos_right
abbrev J7:=@Int.toNat_of_nonneg
abbrev J8:=@List.ext_getElem?
abbrev J9:=@List.filterMap_cons
abbrev J_:=@List.filter_eq_nil_iff
abbrev Ka:=@List.flatMap_cons
abbrev Kb:=@List.getElem?_drop
abbrev Kc:=@List.map_congr_left
abbrev Kd:=@List.mem_or_eq_of_mem_set
abbrev Ke:=@List.pairwise_map
abbrev Kf:=@Nat.add_le_add_left
abbrev Kg:=@Nat.min_le_right
abbrev Kh:=@PySem.Obj.cls_mapFields
abbrev Ki:=@PySem.Obj.isFreed_of_fields
abbrev Kj:=@PySem.F.args_tuple_add_2
abbrev Kk:=@PySem.F.entry_tuple_add
abbrev Kl:=@PySem.F.slot_tuple_add
abbrev Km:=@PyProof.Rows.assignInOrder_nil
abbrev Kn:=@PySem.noFill_tuple_add
abbrev Ko:=@PySem.wpAny_Call_Name_kw
abbrev Kq:=@PySem.wpAny_isOneOf_valiter
abbrev Kr:=@PySem.wpAny_notOrdered_dict
abbrev Ks:=@PySem.wpAny_updateSeq_pair
abbrev Ug:=@PySem.F.args_dict_keyiterator_next_1
abbrev Uh:=@PySem.F.args_dict_valueiterator_next_1
abbrev Ui:=@PySem.F.entry_dict_keyiterator_next
abbrev Uj:=@PySem.F.entry_dict_valueiterator_next
abbrev Uk:=@Int.mul_nonpos_of_nonpos_of_nonneg
local macro_rules|`(tactic|lia)=>`(tactic|omega)
noncomputable section
namespace L2
open PySem PySem.Spec PyProof.Rows
abbrev Key:=Sum Int Str
def sE:Key->Value->Bool
 |.inl k,v=>Value.isInt k v
 |.inr x,v=>Value.isStrOf x v
def M1 (w:World):Key->Int
 |.inl k=>hashInt k
 |.inr x=>hashStr w x
theorem jM:∀ {k:Key} {v:Value},sE k v=true->(∃i t,k=Sum.inl i/\v=Value.int i t)\/(∃x t,k=Sum.inr x/\v=Value.str x t)
 |.inl i,v,h=>by obtain⟨t,e⟩:=Value.isInt_shape (k:=i) (v:=v) h;exact .inl ⟨i,t,rfl,e⟩
 |.inr x,v,h=>by obtain⟨t,e⟩:=Value.isStrOf_shape (x:=x) (v:=v) h;exact .inr ⟨x,t,rfl,e⟩
def M2 (i:Int)(t:Tok):sE (.inl i) (.int i t)=true:=by simp[sE,Value.isInt]
def M3 (x:Str)(t:Tok):sE (.inr x) (.str x t)=true:=by simp[sE,Value.isStrOf]
def M4 (a b:Int):decide ((Sum.inl a:Key)=Sum.inl b)=(a==b):=by
 by_cases e:a=b
 .subst e;simp
 .have h:¬(Sum.inl a:Key)=Sum.inl b:=λq=>e (Sum.inl.inj q);rw[uU h];exact(beq_eq_false_iff_ne.mpr e).symm
def M7 (a b:Str):decide ((Sum.inr a:Key)=Sum.inr b)=decide (a=b):=by
 by_cases e:a=b
 .subst e;simp
 .have h:¬(Sum.inr a:Key)=Sum.inr b:=λq=>e (Sum.inr.inj q);rw[uU h,uU e]
def M5 (a:Int)(b:Str):decide ((Sum.inl a:Key)=Sum.inr b)=false:=uU (λq=>nomatch q)
def M6 (a:Str)(b:Int):decide ((Sum.inr a:Key)=Sum.inl b)=false:=uU (λq=>nomatch q)
def qm (prog:Program)(w:World):PySem.KeyKind prog w Key where
 is:=sE
 hash:=M1 w
 inj:=λv a b ha hb=>by
  rcases jM ha with ⟨i,t,rfl,rfl⟩|⟨x,t,rfl,rfl⟩
  .rcases jM hb with ⟨j,u,rfl,e⟩|⟨y,u,rfl,e⟩
   .injection e with e1 _;rw[e1]
   .exact nomatch e
  .rcases jM hb with ⟨j,u,rfl,e⟩|⟨y,u,rfl,e⟩
   .exact nomatch e
   .injection e with e1 _;rw[e1]
 byValue:=λk v h=>by rcases jM h with ⟨i,t,rfl,rfl⟩|⟨x,t,rfl,rfl⟩<;>rfl
 pyHash:=λhv h=>by
  rcases jM hv with ⟨i,t,rfl,rfl⟩|⟨x,t,rfl,rfl⟩
  .exact wpAny_pyHash_int h
  .exact wpAny_pyHash_str h
 eqBool:=λhu hv h=>by
  rcases jM hu with ⟨i,t,rfl,rfl⟩|⟨x,t,rfl,rfl⟩
  .rcases jM hv with ⟨j,u,rfl,rfl⟩|⟨y,u,rfl,rfl⟩
   .rw[M4] at h;exact wpAny_eqBool_int h
   .rw[M5] at h;exact SeqAt.EqAt.int_str i t y u _ _ _ _ h
  .rcases jM hv with ⟨j,u,rfl,rfl⟩|⟨y,u,rfl,rfl⟩
   .rw[M6] at h;exact SeqAt.EqAt.str_int x t j u _ _ _ _ h
   .rw[M7] at h;exact wpAny_eqBool_str h
 «strs» := λk x t v h=>by
  rcases jM h with ⟨i,u,rfl,e⟩|⟨y,u,rfl,e⟩
  .exact nomatch e
  .injection e with e1 _;subst e1;cases v<;>rfl
def NA (prog:Program)(w:World)(i:Int)(t:Tok):(qm prog w).is (.inl i) (.int i t)=true:=M2 i t
def NB (prog:Program)(w:World)(x:Str)(t:Tok):(qm prog w).is (.inr x) (.str x t)=true:=M3 x t
inductive V where
 |non|bl (b:Bool)|int (i:Int)|str (x:Str)|byt (b:Array UInt8)|flt (b:UInt64)|ref (a:Addr)|ty (n:String)
 deriving DecidableEq
def RelV:V->Value->Prop
 |.non,u=>u=Value.none
 |.bl b,u=>u=Value.bool b
 |.int i,u=>∃t,u=Value.int i t
 |.str x,u=>∃t,u=Value.str x t
 |.byt b,u=>∃t,u=Value.bytes b t
 |.flt b,u=>∃t,u=Value.float b t
 |.ref a,u=>u=Value.ref a
 |.ty n,u=>u=Value.type n
abbrev yn:List V->List Value->Prop:=Paired RelV
theorem yn.length (r:yn xs us):xs.length=us.length:=fh r
theorem yn.get:∀ {xs:List V} {us:List Value} {i:Nat} {x:V},yn xs us->xs[i]?=some x->∃u,us[i]?=some u/\RelV x u
 |_,_,_,_,.nil,e=>by simp at e
 |_,_,0,_,.cons r _,e=>by simp at e;subst e;exact⟨_,rfl,r⟩
 |_,_,i+1,x,.cons _ t,e=>by obtain⟨u,h1,h2⟩:=yn.get (i:=i) (x:=x) t (by simpa using e);exact⟨u,by simpa using h1,h2⟩
theorem yn.set (r:RelV x u):∀ {xs:List V} {us:List Value} (i:Nat),yn xs us->yn (xs.set i x) (us.set i u)
 |_,_,_,.nil=>.nil
 |_,_,0,.cons _ t=>.cons r t
 |_,_,i+1,.cons q t=>.cons q (yn.set r i t)
theorem yn.append:∀ {xs ys:List V} {us ws:List Value},yn xs us->yn ys ws->yn (xs++ys) (us++ws)
 |_,_,_,_,.nil,s=>s
 |_,_,_,_,.cons r t,s=>.cons r (yn.append t s)
theorem yn.take:∀ {xs:List V} {us:List Value} (n:Nat),yn xs us->yn (xs.take n) (us.take n)
 |_,_,0,_=>.nil
 |_,_,_+1,.nil=>.nil
 |_,_,n+1,.cons r t=>.cons r (yn.take n t)
theorem yn.drop:∀ {xs:List V} {us:List Value} (n:Nat),yn xs us->yn (xs.drop n) (us.drop n)
 |_,_,0,r=>r
 |_,_,_+1,.nil=>.nil
 |_,_,n+1,.cons _ t=>yn.drop n t
def dJ:Option V->Option Value->Prop
 |some v,some u=>RelV v u
 |none,none=>True
 |_,_=>False
def KV:List (κ×V)->List (κ×Value)->Prop:=Paired λ(p:κ×V) (q:κ×Value)=>p.1=q.1/\RelV p.2 q.2
def kV:Key->V
 |.inl i=>.int i
 |.inr x=>.str x
inductive HO where
  |lst (xs:List V)
  |tup (xs:List V)
  |dK (xI:List (Key×V))|dT (xI:List (List Key×V))
  |set (S:Int->Bool) (n:Nat)
  |ins (C dx:Addr) (fs:List (Str×V))
  |own (x:Addr)
  |xd (fs:List (Str×V))
  |met (f x:Addr)
  |rng (lo hi:Int)
  |frz (o:Obj) (u:HO)
  |tbl (ps:Array Value)
 |tb (q:Str)
  |ext (φ:Heap->Prop)
abbrev Hp:=Addr->Option HO
def upd (H:Hp)(a:Addr)(o:HO):Hp:=λb=>if b=a then some o else H b
def zp:upd H a o a=some o:=by unfold upd;rw[xJ rfl]
def yx (h:b≠a):upd H a o b=H b:=by unfold upd;rw[xG h]
def sI {H:Hp}{a b:Addr}{o u:HO}(h:H a=some o)(h':H b=some u)(d:o≠u):a≠b:=by intro e;subst e;rw[h] at h';exact d (vK h')
def zP {H:Hp}{a b:Addr}{o:HO}(h:H a=some o)(h':H b=none):a≠b:=by intro e;subst e;rw[h] at h';cases h'
section
variable (P:Program) (w:World)
def wq (H:Hp)(h:Heap)(a:Addr):HO->Prop
 |.lst xs=>xs.length<=sizeLine/\∃(xm:List Value) (n:Nat),yn xs xm/\h.get? a=some {cls:=.type "list", data:=.seq xm.toArray n}
 |.tup xs=>xs.length<=sizeLine/\∃xm:List Value,yn xs xm/\IsTup h a xm.toArray
 |.dK xI=>xI.length<=sizeLine/\(a==sysModules)=false/\∃vs,KV xI vs/\h.DictOf (qm P w) a vs
 |.dT xI=>xI.length<=sizeLine/\(a==sysModules)=false/\∃xs:List (List Key×Addr×Value),
   Paired (λ(p:List Key×V) (q:List Key×Addr×Value)=>p.1=q.1/\H q.2.1=some (.tup (p.1.map kV))/\RelV p.2 q.2.2) xI xs/\
   ∃o es ep,h.get? a=some o/\o.ExactDict/\o.data=.dict es ep/\es.toList=xs.map (entryOfKey (tupleKind (qm P w)))/\(xs.map (·.1)).Nodup
 |.set S n=>h.SetOf (intKind P w) a S n
 |.ins C dx fs=>H dx=some (.own a)/\fs.length<=1000/\dx≠a/\h.get? a=some (PySem.W.instObj C dx)/\
   ∃mA,h.Ns1 dx mA/\(∀f,dJ (fs.lookup f) (mA f))/\PySem.Within mA (fs.map (·.1))
 |.own _=>∃o,h.get? a=some o
 |.xd fs=>∃mA,h.Ns1 a mA/\∀f,dJ (fs.lookup f) (mA f)
 |.rng lo hi=>∃t u v,h.get? a=some {cls:=.type "range", data:=.fields #[.int lo t,.int hi u,.int 1 v]}
 |.frz o u=>h.get? a=some o/\wq H h a u
 |.tbl ps=>h.get? a=some {cls:=.none,data:=.fields ps}
 |.tb q=>∃ps:Array Value,h.get? a=some {cls:=.none,data:=.fields ps}/\TriplesOk ps.toList/\∀pos cv,codeAmong pos ps.toList=some cv->
   ∃c oc vs t,cv=.ref c/\H c=some (.frz oc (.own c))/\oc.data=.fields vs/\vs[1]?=some (.str q t)
 |.met f x=>h.get? a=some (PySem.W.methodObj (.ref f) (.ref x))
 |.ext φ=>φ h/\(∃o,h.get? a=some o)/\∀h1 h2:Heap,φ h1->(∀o,h1.get? a=some o->h2.get? a=some o)->φ h2
def z_ (H:Hp)(h:Heap):Prop:=∀a o,H a=some o->wq P w H h a o
end
section
variable {P:Program} {w:World} {H H':Hp} {h h':Heap} {a:Addr} {o:HO}
theorem wq.lt (x:wq P w H h a o):a<h.objs.size:=by
 cases o with
 |lst xs=>obtain⟨_,_,_,_,e⟩:=x;exact yK e
 |tup xs=>obtain⟨_,_,_,p⟩:=x;exact p.lt
 |dK xI=>obtain⟨_,_,_,_,o,_,_,e,_⟩:=x;exact yK e
 |dT xI=>obtain⟨_,_,_,_,o,_,_,e,_⟩:=x;exact yK e
 |set S n=>obtain⟨o,_,_,_,e,_⟩:=x;exact yK e
 |ins C dx fs=>obtain⟨_,_,_,e,_⟩:=x;exact yK e
 |own y=>obtain⟨_,e⟩:=x;exact yK e
 |xd fs=>obtain⟨_,⟨_,_,_,e,_⟩,_⟩:=x;exact yK e
 |rng lo hi=>obtain⟨_,_,_,e⟩:=x;exact yK e
 |frz ob u=>obtain⟨e,_⟩:=x;exact yK e
 |tbl ps=>exact yK (show h.get? a=some _ from x)
 |tb q=>obtain⟨_,e,_⟩:=x;exact yK e
 |met f y=>exact yK (show h.get? a=some _ from x)
 |ext φ=>obtain⟨_,⟨_,e⟩,_⟩:=x;exact yK e
theorem Paired.mapP:∀ {l₁:List α} {l₂:List β},Paired F l₁ l₂->(∀a b,F a b->G a b)->Paired G l₁ l₂
 |_,_,.nil,_=>.nil
 |_,_,.cons r t,f=>.cons (f _ _ r) (Paired.mapP t f)
theorem wq.stay (x:wq P w H h a o)(k:∀b u,(b=a\/H b=some (.own a))->h.get? b=some u->h'.get? b=some u)
  (ho:∀b,H b=some (.own a)->H' b=some (.own a)) (ht:∀b xs,H b=some (.tup xs)->H' b=some (.tup xs)) (hf:∀b o u,H b=some (.frz o u)->H' b=some (.frz o u)):wq P w H' h' a o:=by
 induction o with
 |lst xs=>obtain⟨z,xm,n,r,e⟩:=x;exact⟨z,xm,n,r,k _ _ (.inl rfl) e⟩
 |tup xs=>obtain⟨z,xm,r,ob,e,c⟩:=x;exact⟨z,xm,r,ob,k _ _ (.inl rfl) e,c⟩
 |dK xI=>obtain⟨z,y,vs,r,ob,es,ep,e,c⟩:=x;exact⟨z,y,vs,r,ob,es,ep,k _ _ (.inl rfl) e,c⟩
 |dT xI=>obtain⟨z,y,xs,r,ob,es,ep,e,c⟩:=x;exact⟨z,y,xs,Paired.mapP r λp q z=>⟨z.1,ht _ _ z.2.1,z.2.2⟩,ob,es,ep,k _ _ (.inl rfl) e,c⟩
 |set S n=>obtain⟨ob,es,ep,t,e,c⟩:=x;exact⟨ob,es,ep,t,k _ _ (.inl rfl) e,c⟩
 |ins C dx fs=>obtain⟨d,z,ne,e,mA,⟨od,es,ep,e2,c⟩,r⟩:=x;exact⟨ho _ d,z,ne,k _ _ (.inl rfl) e,mA,⟨od,es,ep,k _ _ (.inr d) e2,c⟩,r⟩
 |own y=>obtain⟨ob,e⟩:=x;exact⟨ob,k _ _ (.inl rfl) e⟩
 |xd fs=>obtain⟨mA,⟨od,es,ep,e,c⟩,r⟩:=x;exact⟨mA,⟨od,es,ep,k _ _ (.inl rfl) e,c⟩,r⟩
 |rng lo hi=>obtain⟨t,u,v,e⟩:=x;exact⟨t,u,v,k _ _ (.inl rfl) e⟩
 |frz ob u ih=>obtain⟨e,q⟩:=x;exact⟨k _ _ (.inl rfl) e,ih q⟩
 |tbl ps=>have e:h.get? a=some {cls:=.none,data:=.fields ps}:=x;show h'.get? a=some {cls:=.none,data:=.fields ps};exact k a _ (.inl rfl) e
 |tb q=>obtain⟨ps,e,z,y⟩:=x;exact⟨ps,k _ _ (.inl rfl) e,z,λpos cv e=>let ⟨c,oc,vs,t,e1,e2,e3⟩:=y pos cv e;⟨c,oc,vs,t,e1,hf _ _ _ e2,e3⟩⟩
 |met f y=>have e:h.get? a=some (PySem.W.methodObj (.ref f) (.ref y)):=x;show h'.get? a=some (PySem.W.methodObj (.ref f) (.ref y));exact k a _ (.inl rfl) e
 |ext φ=>obtain⟨p,⟨o,e⟩,st⟩:=x;exact⟨st _ _ p λo q=>k _ _ (.inl rfl) q,⟨o,k _ _ (.inl rfl) e⟩,st⟩
theorem z_.lt (x:z_ P w H h)(e:H a=some o):a<h.objs.size:=(x a o e).lt
theorem z_.fresh (x:z_ P w H h)(e:h.objs.size<=a):H a=none:=by
 cases q:H a with
 |none=>rfl
 |some u=>exact absurd (vJ (x.lt q) e) (dE _)
def z_.kept (x:z_ P w H h)(k:∀b u,h.get? b=some u->h'.get? b=some u):z_ P w H h':=λa o e=>(x a o e).stay (λb u _ q=>k b u q) (λ_ q=>q) (λ_ _ q=>q) λ_ _ _ q=>q
def z_.laid (x:z_ P w H h)(k:∀b u,h.get? b=some u->h'.get? b=some u)(hp:h.objs.size<=a)(new:wq P w (upd H a o) h' a o):z_ P w (upd H a o) h':=λb u e=>by
 have hn:=x.fresh hp;by_cases hb:b=a
 .subst hb;rw[zp] at e;cases e;exact new
 .rw[yx hb] at e;exact(x b u e).stay (λc v _ q=>k c v q) (λc q=>by rw[yx (zP q hn)];exact q) (λc xs q=>by rw[yx (zP q hn)];exact q) λc o u q=>by rw[yx (zP q hn)];exact q
end
def Rd (H:Hp)(a:Addr)(u:HO):Prop:=H a=some u\/∃o,H a=some (.frz o u)
def Rd.ok (r:Rd H a u)(x:z_ P w H h):wq P w H h a u:=by
 rcases r with r|⟨o,r⟩
 .exact x a u r
 .obtain⟨_,q⟩:=x a _ r;exact q
def Mut:Option HO->Prop
 |some (.lst _)=>True
 |some (.dK _)=>True
 |some (.dT _)=>True
 |some (.set _ _)=>True
 |some (.ins _ _ _)=>True
 |some (.ext _)=>True
 |some (.tb _)=>True
 |_=>False
section
variable {P:Program} {w:World} {H:Hp} {h h':Heap} {x e:Addr} {o':HO}
def z_.write (ok:z_ P w H h)(mu:Mut (H x))(he:e=x\/H e=some (.own x))(k:∀b u,b≠e->h.get? b=some u->h'.get? b=some u)(heo:∃u,h'.get? e=some u)
  (new:wq P w (upd H x o') h' x o'):z_ P w (upd H x o') h':=λb u q=>by
 have nown:∀c y,H c=some (.own y)->c≠x:=λc y r z=>by subst z;rw[r] at mu;exact mu
 have ntup:∀c xs,H c=some (.tup xs)->c≠x:=λc xs r z=>by subst z;rw[r] at mu;exact mu
 have nfrz:∀c o u,H c=some (.frz o u)->c≠x:=λc o u r z=>by subst z;rw[r] at mu;exact mu
 by_cases hb:b=x
 .subst hb;rw[zp] at q;cases q;exact new
 .rw[yx hb] at q;by_cases hbe:b=e
  .have q':H b=some (.own x):=by
    rcases he with z|z
    .exact absurd (hbe.trans z) hb
    .rw[hbe];exact z
   rw[q] at q';cases q';obtain⟨v,hv⟩:=heo;exact⟨v,by rw[hbe];exact hv⟩
  .refine(ok b u q).stay (λc v hc r=>k c v ?_ r) (λc r=>by rw[yx (nown c b r)];exact r) (λc xs r=>by rw[yx (ntup c xs r)];exact r) λc o u r=>by rw[yx (nfrz c o u r)];exact r
   rcases hc with rfl|hc
   .exact hbe
   .rintro rfl;rcases he with z|z
    .exact nown c b hc z
    .rw[hc] at z;cases z;exact hb rfl
end
structure Un (fs ex:List Addr)(H H':Hp)(h h':Heap):Prop where
 keep:∀b o,h.get? b=some o->H b=none->b∉fs->b∉ex->h'.get? b=some o
 slot:∀b o,h.get? b=some o->H b=none->b∈fs->b∉ex->∃sl,h'.get? b=some {o with slots:=sl}
 free:∀b o,h.get? b=some o->H b=none->b∉ex->H' b=none
 there:∀b o,h.get? b=some o->b∉ex->∃o',h'.get? b=some o'
 tups:∀b xs,H b=some (.tup xs)->H' b=some (.tup xs)
 frzs:∀b o u,H b=some (.frz o u)->H' b=some (.frz o u)
 tbls:∀b ps,H b=some (.tbl ps)->∃more,H' b=some (.tbl (ps++more))
section
variable {fs fs' ex ex':List Addr} {H H1 H2:Hp} {h h1 h2 h':Heap} {a x e:Addr} {o:HO}
def Un.any (u:Un fs ex H H1 h h1)(q:h.get? b=some ob)(n:H b=none)(hx:b∉ex):∃sl,h1.get? b=some {ob with slots:=sl}:=by
 by_cases hb:b∈fs
 .exact u.slot b ob q n hb hx
 .exact⟨ob.slots,u.keep b ob q n hb hx⟩
def Un.kept (k:∀b u,h.get? b=some u->h'.get? b=some u):Un fs ex H H h h' :=⟨λb ob q _ _ _=>k b ob q,λb ob q _ _ _=>⟨ob.slots,k b ob q⟩,λ_ _ _ n _=>n,λb ob q _=>⟨ob,k b ob q⟩,λ_ _ q=>q,λ_ _ _ q=>q,λ_ ps q=>⟨#[],by rw[q];simp⟩⟩
def Un.refl:Un fs ex H H h h:=Un.kept λ_ _ q=>q
def Un.laid (k:∀b u,h.get? b=some u->h'.get? b=some u)(hp:h.objs.size<=a)(hn:H a=none):Un fs ex H (upd H a o) h h' where
 keep:=λb u q _ _ _=>k b u q
 slot:=λb u q _ _ _=>⟨u.slots,k b u q⟩
 free:=λb u q n _=>by rw[yx (we (vJ (yK q) hp))];exact n
 there:=λb u q _=>⟨u,k b u q⟩
 tups:=λb xs q=>by rw[yx (zP q hn)];exact q
 frzs:=λb u xs q=>by rw[yx (zP q hn)];exact q
 tbls:=λb ps q=>⟨#[],by rw[yx (zP q hn),q];simp⟩
def Un.write (mu:Mut (H x))(he:e=x\/H e=some (.own x))(k:∀b u,b≠e->h.get? b=some u->h'.get? b=some u)(heo:∃u,h'.get? e=some u):Un fs ex H (upd H x o) h h':=by
 have hx:∀b,H b=none->b≠x:=λb n z=>by subst z;rw[n] at mu;exact mu
 have hb:∀b,H b=none->b≠e:=λb n z=>by
  subst z;rcases he with r|r
  .exact hx b n r
  .rw[n] at r;cases r
 have hm:∀b u,H b=some u->¬Mut (some u)->b≠x:=λb u q nm z=>by subst z;rw[q] at mu;exact nm mu
 refine⟨λb u q n _ _=>k b u (hb b n) q,λb u q n _ _=>⟨u.slots,k b u (hb b n) q⟩,λb u q n _=>by rw[yx (hx b n)];exact n,λb u q _=>?_,
  λb xs q=>by rw[yx (hm b _ q λz=>z)];exact q,λb u xs q=>by rw[yx (hm b _ q λz=>z)];exact q,λb ps q=>⟨#[],by rw[yx (hm b _ q λz=>z),q];simp⟩⟩
 by_cases hbe:b=e
 .subst hbe;exact heo
 .exact⟨u,k b u hbe q⟩
end
def trk (h:Heap)(H:Hp):List Addr:=(List.range h.objs.size).filter λa=>(H a).isSome
def jK (h:Heap)(H:Hp):Heap:=PySem.W.hideAll h (trk h H)
def ME (h:Heap)(H:Hp):(jK h H).objs.size=h.objs.size:=PySem.W.hideAll_size _ _
def MD (e:h.get? b=some o)(n:H b=none):(jK h H).get? b=some o:=
 PySem.W.hideAll_get _ e λhm=>by have q:(H b).isSome=true:=(uR.mp hm).2;rw[n] at q;simp at q
theorem NP (e:(jK h H).get? b=some o):h.get? b=some o/\H b=none:=by
 have e':h.get? b=some o:=PySem.W.of_hideAll (trk h H) e;refine⟨e',?_⟩;cases q:H b with
 |none=>rfl
 |some x=>have hm:b∈trk h H:=uR.mpr ⟨fc.mpr (yK e'),by simp[q]⟩;have z:(jK h H).get? b=none:=PySem.W.hideAll_none (trk h H) hm;rw[z] at e;cases e
def KC (g h:Heap)(L:Addr):List (Addr×Obj):=(List.range h.objs.size).filterMap λa=>if a=L\/(g.get? a).isSome=true then none else(h.get? a).map λo=>(a,o)
def rest (g h:Heap)(L d:Addr):List (Addr×Obj):=(KC g h L).filter λp=>decide (p.1≠d)
structure Mod (K:xw)(mg:Str->Option Value)(base:Heap):Prop where
 kin:K.In base
 glob:base.Ns mainGlobals mg
 blt:∃mb,base.Ns builtinsNs mb/\∀x:Str,x ≠ "__name__" -> mb x=bootBuiltins x
 nolimit:base.NoLimit
structure Cx where
 prog:Program
 w:World
 K:xw
 mg:Str->Option Value
 base:Heap
 A:Around
 N:List Str
 s₀:Shared
 H₀:Hp
 env:Env
 outer:List Env
 stack:List Env
 ex:List Addr
 fn:Str->Bool
 calm:Bool
 pn:List (Addr×Obj)
 xe:Value->Shared->Prop
def frs (l:List Env):List Addr:=l.filterMap (·.frame)
abbrev Cx.fs (X:Cx):List Addr:=frs X.outer
def Vis (sc:Scope)(x:Str):Prop:=sc.names.lookup x=some .local\/sc.names.lookup x=some .cell\/sc.names.lookup x=some .free
def Loc (sc:Scope)(x:Str):Prop:=sc.names.lookup x=some .local\/sc.names.lookup x=some .cell
def Look (env:Env)(h:Heap)(m:Str->Option Value)(x:Str)(u:Value):Prop:=(env.kindOf x=some .local/\m x=some u)\/((env.kindOf x=some .cell\/env.kindOf x=some .free)/\∃c,env.cells.lookup x=some c/\h.IsCell c (some u))
structure Cx.Ok (X:Cx):Prop where
 mod:Mod X.K X.mg X.base
 kind:X.env.scope.kind=.function
 glob:X.env.globals=mainGlobals
 blt:X.env.builtins=builtinsNs
 above:X.s₀.heap.objs.size<=X.env.locals
 inj:∀x y c,X.env.cells.lookup x=some c->X.env.cells.lookup y=some c->x=y
 has:∀x,(X.env.kindOf x=some .cell\/X.env.kindOf x=some .free)->∃c,X.env.cells.lookup x=some c
 cab:∀x c,X.fn x=true->X.env.cells.lookup x=some c->X.s₀.heap.objs.size<=c
 hd:X.calm=true->X.A.handled=none
 frames:X.A.frames=some X.stack
 stk:X.stack=X.outer\/(X.stack=X.env::X.outer/\X.env.frame=some X.env.locals)
 exf:∀b∈X.ex,b≠X.env.locals/\∀x c,X.env.cells.lookup x=some c->c≠b
 bs:∀b o,X.base.get? b=some o->X.s₀.heap.get? b=some o/\X.H₀ b=none
 bsz:X.base.objs.size<=X.s₀.heap.objs.size
 noex:∀b o,X.base.get? b=some o->b∉X.ex
 exfs:∀b∈X.ex,b∉X.fs
 funs:X.s₀.heap.FunFrames X.base X.outer
 frf:∀b∈X.fs,X.H₀ b=none
structure Inv (X:Cx)(xf:List (Addr×Obj))(σ:List (Option V))(H:Hp)(s:Shared):Prop where
 ok:X.Ok
 os:s.os=X.s₀.os
 bare:AllBare s.gens
 base:Un X.fs X.ex X.H₀ H X.s₀.heap s.heap
 loc:∃m,s.heap.Ns X.env.locals m/\∀(i:Nat) (x:Str) (v:V),X.N[i]?=some x->σ[i]?=some (some v)->Vis X.env.scope x->∃u,RelV v u/\Look X.env s.heap m x u
 cell:∀x c,X.env.cells.lookup x=some c->∃v,s.heap.IsCell c v
 free:H X.env.locals=none
 freeC:∀x c,X.env.cells.lookup x=some c->H c=none
 pin:∀p∈X.pn++xf,s.heap.get? p.1=some p.2/\H p.1=none/\p.1≠X.env.locals/\p.1∉X.fs/\∀v,p.2.data≠.cell v
 hok:z_ X.prog X.w H s.heap
 len:σ.length=X.N.length
section
variable {X:Cx} {xf:List (Addr×Obj)} {σ:List (Option V)} {H H':Hp} {s:Shared} {h':Heap}
def Cx.Ok.nofr (ok:X.Ok)(e:X.base.get? b=some o):b∉X.fs:=λhb=>by have:=(ok.funs.mem hb).1;rw[e] at this;cases this
theorem Inv.bs (I:Inv X xf σ H s):∀b o,X.base.get? b=some o->s.heap.get? b=some o/\H b=none:=λb o e=>⟨I.base.keep b o (I.ok.bs b o e).1 (I.ok.bs b o e).2 (I.ok.nofr e) (I.ok.noex b o e),I.base.free b o (I.ok.bs b o e).1 (I.ok.bs b o e).2 (I.ok.noex b o e)⟩
def Inv.bk (I:Inv X xf σ H s):∀b o,X.base.get? b=some o->s.heap.get? b=some o:=λb o e=>(I.bs b o e).1
theorem Inv.mod (I:Inv X xf σ H s):Mod X.K X.mg X.base:=I.ok.mod
def Inv.kIn (I:Inv X xf σ H s):X.K.In s.heap:=I.ok.mod.kin.keeps I.bk
theorem Inv.lt (I:Inv X xf σ H s):X.env.locals<s.heap.objs.size:=let ⟨_,hn,_⟩:=I.loc;hn.lt
def Inv.sz (I:Inv X xf σ H s):X.s₀.heap.objs.size<=s.heap.objs.size:=vt I.ok.above (mC I.lt)
def Inv.nofs (I:Inv X xf σ H s)(h:s.heap.objs.size<=a):a∉X.fs:=λhb=>by obtain⟨_,o,ho,_⟩:=I.ok.funs.mem hb;exact absurd (vJ (yK ho) (vt I.sz h)) (dE _)
def Inv.cne (I:Inv X xf σ H s):∀x c,X.env.cells.lookup x=some c->c≠X.env.locals:=λx c e z=>by obtain⟨v,o,ho,hd⟩:=I.cell x c e;obtain⟨m,⟨o',es,ep,ho',hd',_⟩,_⟩:=I.loc;rw[z,ho'] at ho;cases ho;rw[hd'] at hd;cases hd
theorem Inv.funs (I:Inv X xf σ H s):s.heap.FunFrames X.base X.outer:=by
 have all:∀(l:List Env),(∀b∈frs l,b∈X.fs)->X.s₀.heap.FunFrames X.base l->s.heap.FunFrames X.base l:=by
  intro l
  induction l with
  |nil=>intro _ _;trivial
  |cons env r ih=>intro hs hl;obtain⟨hk,⟨L,o,hf,hn,ho,hd⟩,hr⟩:=hl;have hL:L∈X.fs:=hs L (by unfold frs;rw[J9,hf];exact xU);obtain⟨sl,e⟩:=I.base.slot L o ho (I.ok.frf L hL) hL λz=>I.ok.exfs L z hL;exact⟨hk,⟨L,_,hf,hn,e,hd⟩,ih (λb hb=>hs b (by unfold frs;rw[J9,hf];exact yI _ hb)) hr⟩
 exact all X.outer (λ_ hb=>hb) I.ok.funs
theorem Inv.stack (I:Inv X xf σ H s):s.heap.FunFrames X.base X.stack:=by
 rcases I.ok.stk with e|⟨e,hf⟩
 .rw[e];exact I.funs
 .rw[e];obtain⟨m,hn,_⟩:=I.loc;refine .cons (by rw[I.ok.kind];decide) hf hn ?_ I.funs;exact Heap.get?_none_of_le (vt I.ok.bsz I.ok.above)
def Inv.stkSub (I:Inv X xf σ H s):∀b∈frs X.stack,b∈X.env.locals::X.fs:=λb hb=>by
 rcases I.ok.stk with e|⟨e,hf⟩
 .rw[e] at hb;exact yI _ hb
 .rw[e] at hb;unfold frs at hb;rw[J9,hf] at hb;exact hb
def Inv.stkFree (I:Inv X xf σ H s):∀b∈frs X.stack,H b=none:=λb hb=>by
 rcases xX.mp (I.stkSub b hb) with e|hb
 .rw[e];exact I.free
 .obtain⟨_,o,ho,_⟩:=I.ok.funs.mem hb;exact I.base.free b o ho (I.ok.frf b hb) λz=>I.ok.exfs b z hb
def Inv.step {g':Array GenState}{t':Nat}{d':Drawn}{ch:List Addr}(I:Inv X xf σ H s)
  (hch:∀b∈ch,(b∈X.ex\/X.s₀.heap.objs.size<=b)/\b≠X.env.locals/\(∀x c,X.env.cells.lookup x=some c->c≠b)/\∀p∈X.pn++xf,p.1≠b)
  (keep:∀b o,b≠X.env.locals->b∉X.fs->b∉ch->s.heap.get? b=some o->H b=none->h'.get? b=some o)
  (slot:∀b o,b≠X.env.locals->b∈X.fs->b∉ch->s.heap.get? b=some o->H b=none->∃sl,h'.get? b=some {o with slots:=sl}) (free:∀b o,b∉ch->s.heap.get? b=some o->H b=none->H' b=none)
  (there:∀b o,b∉ch->s.heap.get? b=some o->∃o',h'.get? b=some o')
  (tups:∀b xs,H b=some (.tup xs)->H' b=some (.tup xs)) (frzs:∀b o u,H b=some (.frz o u)->H' b=some (.frz o u)) (tbls:∀b ps,H b=some (.tbl ps)->∃more,H' b=some (.tbl (ps++more)))
  (ns:∀m,s.heap.Ns X.env.locals m->h'.Ns X.env.locals m) (hok:z_ X.prog X.w H' h') (hg:AllBare g') :
  Inv X xf σ H' {s with heap:=h',gens:=g',drawn:=d',toks:=t' }:=by
 have neL:∀b o,X.s₀.heap.get? b=some o->b≠X.env.locals:=λb o e=>we (vJ (yK e) I.ok.above);have neC:∀b o,X.s₀.heap.get? b=some o->b∉X.ex->b∉ch:=λb o e hx hb=>by
  rcases(hch b hb).1 with z|z
  .exact hx z
  .exact absurd (vJ (yK e) z) (dE _)
 have cellK:∀x c,X.env.cells.lookup x=some c->∀v,s.heap.IsCell c v->h'.IsCell c v:=λx c e v ⟨o,ho,hd⟩=>by
  have nch:c∉ch:=λz=>(hch c z).2.2.1 x c e rfl;by_cases hc:c∈X.fs
  .obtain⟨sl,q⟩:=slot c o (I.cne x c e) hc nch ho (I.freeC x c e);exact⟨_,q,hd⟩
  .exact⟨o,keep c o (I.cne x c e) hc nch ho (I.freeC x c e),hd⟩
 refine⟨I.ok,I.os,hg,⟨λb o e n hb hx=>?_,λb o e n hb hx=>?_,λb o e n hx=>?_,λb o e hx=>?_,λb xs e=>tups b xs (I.base.tups b xs e),λb o xs e=>frzs b o xs (I.base.frzs b o xs e),λb ps e=>?_⟩,?_,λx c e=>?_,?_,λx c e=>?_,λp hp=>?_,hok,I.len⟩
 .exact keep b o (neL b o e) hb (neC b o e hx) (I.base.keep b o e n hb hx) (I.base.free b o e n hx)
 .obtain⟨sl,e1⟩:=I.base.slot b o e n hb hx;obtain⟨sl',e2⟩:=slot b _ (neL b o e) hb (neC b o e hx) e1 (I.base.free b o e n hx);exact⟨sl',e2⟩
 .obtain⟨o',e1⟩:=I.base.there b o e hx;exact free b o' (neC b o e hx) e1 (I.base.free b o e n hx)
 .obtain⟨o',e1⟩:=I.base.there b o e hx;exact there b o' (neC b o e hx) e1
 .obtain⟨m1,e1⟩:=I.base.tbls b ps e;obtain⟨m2,e2⟩:=tbls b _ e1;exact⟨m1++m2,by rw[e2,Array.append_assoc]⟩
 .obtain⟨m,hn,hl⟩:=I.loc;refine⟨m,ns m hn,λi x v e1 e2 e3=>?_⟩;obtain⟨u,r,l⟩:=hl i x v e1 e2 e3;refine⟨u,r,?_⟩;rcases l with l|⟨k,c,e,z⟩
  .exact .inl l
  .exact .inr ⟨k,c,e,cellK x c e _ z⟩
 .obtain⟨v,z⟩:=I.cell x c e;exact⟨v,cellK x c e v z⟩
 .obtain⟨m,⟨o,_,_,ho,_⟩,_⟩:=I.loc;exact free _ o (λz=>(hch _ z).2.1 rfl) ho I.free
 .obtain⟨v,o,ho,hd⟩:=I.cell x c e;exact free c o (λz=>(hch c z).2.2.1 x c e rfl) ho (I.freeC x c e)
 .obtain⟨e,n,ne,nf,d⟩:=I.pin p hp;have nch:p.1∉ch:=λz=>(hch p.1 z).2.2.2 p hp rfl;exact⟨keep p.1 p.2 ne nf nch e n,free p.1 p.2 nch e n,ne,nf,d⟩
def Inv.un {t':Nat}(I:Inv X xf σ H s)(u:Un X.fs [] H H' s.heap h')(hok:z_ X.prog X.w H' h'):Inv X xf σ H' {s with heap:=h',toks:=t' }:=by
 obtain⟨m,⟨o,es,ep,ho,r⟩,_⟩:=id I.loc;obtain⟨sl,hL⟩:=u.any ho I.free (by simp);exact I.step (g':=s.gens) (d':=s.drawn) (ch:=[]) (λ_ z=>nomatch z) (λb o _ hb _ e n=>u.keep b o e n hb (by simp)) (λb o _ hb _ e n=>u.slot b o e n hb (by simp)) (λb o _ e n=>u.free b o e n (by simp)) (λb o _ e=>u.there b o e (by simp)) u.tups u.frzs u.tbls (λm' hm=>by obtain⟨o',es',ep',ho',r'⟩:=hm;rw[ho] at ho';cases ho';exact⟨_,es',ep',hL,r'⟩) hok I.bare
def Inv.call {g':Array GenState}{t':Nat}{d':Drawn}{ch:List Addr}(I:Inv X xf σ H s)(u:Un (frs X.stack) ch H H' s.heap h')(hok:z_ X.prog X.w H' h')(hg:AllBare g')
  (hch:∀b∈ch,(b∈X.ex\/X.s₀.heap.objs.size<=b)/\b≠X.env.locals/\(∀x c,X.env.cells.lookup x=some c->c≠b)/\∀p∈X.pn++xf,p.1≠b) :
  Inv X xf σ H' {s with heap:=h',gens:=g',drawn:=d',toks:=t' }:=by
 obtain⟨m,⟨o,es,ep,ho,r⟩,_⟩:=id I.loc;obtain⟨sl,hL⟩:=u.any ho I.free λz=>(hch _ z).2.1 rfl;exact I.step (ch:=ch) hch (λb o hL hb hc e n=>u.keep b o e n (λz=>(xX.mp (I.stkSub b z)).elim hL hb) hc) (λb o _ _ hc e n=>u.any e n hc) (λb o hc e n=>u.free b o e n hc) (λb o hc e=>u.there b o e hc) u.tups u.frzs u.tbls (λm' hm=>by obtain⟨o',es',ep',ho',r'⟩:=hm;rw[ho] at ho';cases ho';exact⟨_,es',ep',hL,r'⟩) hok hg
def Inv.turned {t':Nat}{it:Addr}(I:Inv X xf σ H s)(k:∀b o,b≠it->s.heap.get? b=some o->h'.get? b=some o)(hn:H it=none)(hL:it≠X.env.locals)
  (h1:it∈X.ex\/X.s₀.heap.objs.size<=it) (h2:∀x c,X.env.cells.lookup x=some c->c≠it) (h3:∀p∈X.pn++xf,p.1≠it):Inv X xf σ H {s with heap:=h',toks:=t' }:=by
 have nit:∀b u,H b=some u->b≠it:=λb u e z=>by rw[z,hn] at e;cases e
 refine I.step (g':=s.gens) (d':=s.drawn) (ch:=[it]) (λb hb=>?_) (λb o _ _ hc e _=>k b o (λz=>hc (by simp[z])) e) (λb o _ _ hc e _=>⟨o.slots,k b o (λz=>hc (by simp[z])) e⟩) (λ_ _ _ _ n=>n)
  (λb o hc e=>⟨o,k b o (λz=>hc (by simp[z])) e⟩) (λ_ _ e=>e) (λ_ _ _ e=>e) (λb ps e=>⟨#[],by rw[e];simp⟩) (λm hm=>?_) (λb u e=>?_) I.bare
 .have e:b=it:=by simpa using hb
  subst e;exact⟨h1,hL,h2,h3⟩
 .obtain⟨o,es,ep,ho,r⟩:=hm;exact⟨o,es,ep,k _ o (zY hL) ho,r⟩
 .refine(I.hok b u e).stay (λc v hc q=>k c v ?_ q) (λ_ q=>q) (λ_ _ q=>q) λ_ _ _ q=>q;rcases hc with z|z
  .rw[z];exact nit b u e
  .exact nit c _ z
def Inv.tok (I:Inv X xf σ H s)(t:Nat):Inv X xf σ H {s with toks:=t}:=I.un (h':=s.heap) (t':=t) Un.refl I.hok
theorem Inv.kept (I:Inv X xf σ H s)(k:∀b u,s.heap.get? b=some u->h'.get? b=some u):Inv X xf σ H {s with heap:=h',toks:=t' }:=I.un (Un.kept k) (I.hok.kept k)
theorem Inv.laid (I:Inv X xf σ H s)(k:∀b u,s.heap.get? b=some u->h'.get? b=some u)(hp:s.heap.objs.size<=a)(new:wq X.prog X.w (upd H a o) h' a o) :
  Inv X xf σ (upd H a o) {s with heap:=h',toks:=t' }:=I.un (Un.laid k hp (I.hok.fresh hp)) (I.hok.laid k hp new)
theorem Inv.write (I:Inv X xf σ H s)(mu:Mut (H x))(he:e=x\/H e=some (.own x))(k:∀b u,b≠e->s.heap.get? b=some u->h'.get? b=some u)(heo:∃u,h'.get? e=some u)
  (new:wq X.prog X.w (upd H x o) h' x o):Inv X xf σ (upd H x o) {s with heap:=h',toks:=t' }:=I.un (Un.write mu he k heo) (I.hok.write mu he k heo new)
def Inv.weak (I:Inv X xf σ H s)(hl:σ'.length=σ.length)(w:∀(i:Nat) v,σ'[i]?=some (some v)->σ[i]?=some (some v)):Inv X xf σ' H s:=⟨I.ok,I.os,I.bare,I.base,let ⟨m,hn,hl'⟩:=I.loc;⟨m,hn,λi x v e1 e2 e3=>hl' i x v e1 (w i v e2) e3⟩,I.cell,I.free,I.freeC,I.pin,I.hok,hl.trans I.len⟩
def Inv.pins_of (I:Inv X xf σ H s)(h:∀p∈pins',s.heap.get? p.1=some p.2/\H p.1=none/\p.1≠X.env.locals/\p.1∉X.fs/\∀v,p.2.data≠.cell v):Inv X pins' σ H s:=⟨I.ok,I.os,I.bare,I.base,I.loc,I.cell,I.free,I.freeC,λp hp=>(yz.mp hp).elim (λz=>I.pin p (zf _ z)) (h p),I.hok,I.len⟩
def GS {N:List Str}(hN:N.Nodup){i j:Nat}{x:Str}(a:N[i]?=some x)(b:N[j]?=some x):i=j:=by obtain⟨h1,e1⟩:=y8.mp a;obtain⟨h2,e2⟩:=y8.mp b;exact(List.getElem_inj hN).mp (e1.trans e2.symm)
def Je {M:Model}{A:Around}{E:Value->Shared->Prop}{i:Nat}{x:Str}{v:V}{u:Value}{Q:Unit->Shared->Prop}(I:Inv X xf σ H s)(hN:X.N.Nodup)(hi:X.N[i]?=some x)(hx:Loc X.env.scope x)(r:RelV v u)
  (h:∀s',Inv X xf (σ.set i (some v)) H s'->(∃a,Heap.SameBut a s.heap s'.heap/\(a=X.env.locals\/X.env.cells.lookup x=some a))->Q () s') (hf:X.fn x=true\/X.env.scope.names.lookup x=some .local:=by first|exact .inl rfl|exact .inr rfl|assumption):wpAny M A (storeName X.env x u) Q E s:=by
 obtain⟨m,hn,hl⟩:=id I.loc;have hcls:(X.env.scope.kind == .class||(X.env.scope.kind == .module&&X.env.locals != X.env.globals))=false:=by rw[I.ok.kind];rfl
 have hiσ:i<σ.length:=by rw[I.len];exact(y8.mp hi).1
 have cne:=I.cne;have tracked:∀ {a:Addr} {h':Heap},(∃o,s.heap.get? a=some o/\H a=none)->Heap.SameBut a s.heap h'->z_ X.prog X.w H h':=λ {a h'} ha hs b ob e=>by
  obtain⟨_,_,hfree⟩:=ha;refine(I.hok b ob e).stay (λc w' hc q=>(hs.2 c ?_).trans q) (λ_ q=>q) (λ_ _ q=>q) λ_ _ _ q=>q;rintro rfl;rcases hc with rfl|hc
  .rw[hfree] at e;cases e
  .rw[hfree] at hc;cases hc
 rcases hx with hk|hk
 .refine wpAny_storeName_local hk hn (λh' hn' hs=>?_) hcls;obtain⟨oL,_,_,hoL,_⟩:=id hn;refine h _ ⟨I.ok,I.os,I.bare,⟨λb o e n hb hx=>?_,λb o e n hb hx=>?_,I.base.free,λb o e hx=>?_,I.base.tups,I.base.frzs,I.base.tbls⟩,⟨_,hn',λj y v' e1 e2 e3=>?_⟩,λy c e=>?_,I.free,I.freeC,λp hp=>?_,tracked ⟨oL,hoL,I.free⟩ hs,by simpa using I.len⟩ ⟨_,hs,.inl rfl⟩
  .exact(hs.2 b (we (vJ (yK e) I.ok.above))).trans (I.base.keep b o e n hb hx)
  .obtain⟨sl,e1⟩:=I.base.slot b o e n hb hx;exact⟨sl,(hs.2 b (we (vJ (yK e) I.ok.above))).trans e1⟩
  .obtain⟨o',e1⟩:=I.base.there b o e hx;exact⟨o',(hs.2 b (we (vJ (yK e) I.ok.above))).trans e1⟩
  .by_cases hj:j=i
   .subst hj;rw[hi] at e1;cases e1;rw[BY hiσ] at e2;cases e2;exact⟨u,r,.inl ⟨hk,by simp⟩⟩
   .rw[aO (zY hj)] at e2;obtain⟨u',r',q⟩:=hl j y v' e1 e2 e3;refine⟨u',r',?_⟩;rcases q with ⟨k,e⟩|⟨k,c,e,z⟩
    .refine .inl ⟨k,?_⟩;have:y≠x:=λe=>hj (GS hN e1 (e▸hi));simp[this,e]
    .exact .inr ⟨k,c,e,z.sameBut hs (cne y c e)⟩
  .obtain⟨w',z⟩:=I.cell y c e;exact⟨w',z.sameBut hs (cne y c e)⟩
  .obtain⟨e,n,ne,nf,d⟩:=I.pin p hp;exact⟨(hs.2 p.1 ne).trans e,n,ne,nf,d⟩
 .have hfn:X.fn x=true:=by
   rcases hf with z|z
   .exact z
   .rw[z] at hk;cases hk
  obtain⟨c,hc⟩:=I.ok.has x (.inl hk);obtain⟨w',z⟩:=I.cell x c hc;refine wpAny_storeName_cell I.ok.kind hk hc z (λh' hc' hs=>?_);obtain⟨oc,hoc,hocd⟩:=id z;refine h {s with heap:=h' } ⟨I.ok,I.os,I.bare,⟨λb o e n hb hx=>?_,λb o e n hb hx=>?_,I.base.free,λb o e hx=>?_,I.base.tups,I.base.frzs,I.base.tbls⟩,⟨m,hn.sameBut hs (zY (cne x c hc)),λj y v' e1 e2 e3=>?_⟩,λy c' e=>?_,I.free,I.freeC,λp hp=>?_,tracked ⟨oc,hoc,I.freeC x c hc⟩ hs,by simpa using I.len⟩ ⟨c,hs,.inr hc⟩
  .exact(hs.2 b (we (vJ (yK e) (I.ok.cab x c hfn hc)))).trans (I.base.keep b o e n hb hx)
  .obtain⟨sl,e1⟩:=I.base.slot b o e n hb hx;exact⟨sl,(hs.2 b (we (vJ (yK e) (I.ok.cab x c hfn hc)))).trans e1⟩
  .obtain⟨o',e1⟩:=I.base.there b o e hx;exact⟨o',(hs.2 b (we (vJ (yK e) (I.ok.cab x c hfn hc)))).trans e1⟩
  .by_cases hj:j=i
   .subst hj;rw[hi] at e1;cases e1;rw[BY hiσ] at e2;cases e2;exact⟨u,r,.inr ⟨.inl hk,c,hc,hc'⟩⟩
   .rw[aO (zY hj)] at e2;obtain⟨u',r',q⟩:=hl j y v' e1 e2 e3;refine⟨u',r',?_⟩;rcases q with q|⟨k,c',e,z'⟩
    .exact .inl q
    .refine .inr ⟨k,c',e,z'.sameBut hs ?_⟩;rintro rfl;exact hj (GS hN e1 (I.ok.inj _ _ _ e hc▸hi))
  .by_cases hcc:c'=c
   .subst hcc;exact⟨_,hc'⟩
   .obtain⟨w2,z2⟩:=I.cell y c' e;exact⟨w2,z2.sameBut hs hcc⟩
  .obtain⟨e,n,ne,nf,d⟩:=I.pin p hp;refine⟨(hs.2 p.1 ?_).trans e,n,ne,nf,d⟩;intro q;rw[q,hoc] at e;have q':oc=p.2:=vK e;exact d w' (by rw[<-q'];exact hocd)
def fX (I:Inv X xf σ H s)(hN:X.N.Nodup)(hi:X.N[i]?=some x)(hx:Loc X.env.scope x)(r:RelV v u)
  (h:∀s',Inv X xf (σ.set i (some v)) H s'->Q () s') (hf:X.fn x=true\/X.env.scope.names.lookup x=some .local:=by first|exact .inl rfl|exact .inr rfl|assumption):wpAny M A (storeName X.env x u) Q E s:=
 Je I hN hi hx r (λs' I' _=>h s' I') hf
def Inv.call' (I:Inv X xf σ H s)(ho:s'.os=s.os)(u:Un (frs X.stack) ch H H' s.heap s'.heap)(hok:z_ X.prog X.w H' s'.heap)(hg:AllBare s'.gens)
  (hch:∀b∈ch,(b∈X.ex\/X.s₀.heap.objs.size<=b)/\b≠X.env.locals/\(∀x c,X.env.cells.lookup x=some c->c≠b)/\∀p∈X.pn++xf,p.1≠b):Inv X xf σ H' s':=by
 obtain⟨h',g',d',t',o'⟩:=s';have e:o'=s.os:=ho;subst e;exact I.call (g':=g') (t':=t') (d':=d') u hok hg hch
end
abbrev XK:=Value->Option Addr->Hp->Prop
abbrev St:=List (Option V)
abbrev VK:=V->Hp->Prop
abbrev TE:=St->Hp->VK->Prop
abbrev TT:=St->Hp->(Bool->Hp->Prop)->Prop
abbrev TA:=St->Hp->(List V->Hp->Prop)->Prop
structure Ends where
 nx:St->Hp->Prop
 rt:VK
 bk:St->Hp->Prop:=λ_ _=>False
 ct:St->Hp->Prop:=λ_ _=>False
abbrev TS:=Ends->St->Hp->Prop
def EP (X:Cx)(xf:List (Addr×Obj))(σ:St)(Q:VK)(u:Value)(s':Shared):Prop:=∃v H',Inv X xf σ H' s'/\RelV v u/\Q v H'
def TP (X:Cx)(xf:List (Addr×Obj))(σ:St)(Q:Bool->Hp->Prop)(b:Bool)(s':Shared):Prop:=∃H',Inv X xf σ H' s'/\Q b H'
def AP (X:Cx)(xf:List (Addr×Obj))(σ:St)(Q:List V->Hp->Prop)(us:List Value)(s':Shared):Prop:=∃vs H',Inv X xf σ H' s'/\yn vs us/\Q vs H'
def SP (X:Cx)(xf:List (Addr×Obj))(D:Ends)(f:Flow)(s':Shared):Prop:=
 match f with
 |.next=>∃ σ' H',Inv X xf σ' H' s'/\D.nx σ' H'
 |.brk=>∃ σ' H',Inv X xf σ' H' s'/\D.bk σ' H'
 |.cont=>∃ σ' H',Inv X xf σ' H' s'/\D.ct σ' H'
 |.ret u=>∃v σ' H',Inv X xf σ' H' s'/\RelV v u/\D.rt v H'
def PE (X:Cx)(e:Expr)(t:TE):Prop:=∀ ⦃xf:List (Addr×Obj)⦄ (s:Shared) (σ:St) (H:Hp) (Q:VK),Inv X xf σ H s->t σ H Q->wpAny (model X.prog X.w) X.A (eval e X.env) (EP X xf σ Q) X.xe s
def PT (X:Cx)(e:Expr)(t:TT):Prop:=∀ ⦃xf:List (Addr×Obj)⦄ (s:Shared) (σ:St) (H:Hp) (Q:Bool->Hp->Prop),Inv X xf σ H s->t σ H Q->wpAny (model X.prog X.w) X.A (isTrue e X.env (eval e X.env)) (TP X xf σ Q) X.xe s
def PW (X:Cx)(e:Expr)(t:TT):Prop:=∀ ⦃whole:Sem Value⦄ (xf:List (Addr×Obj)) (s:Shared) (σ:St) (H:Hp) (Q:Bool->Hp->Prop),Inv X xf σ H s->t σ H Q->wpAny (model X.prog X.w) X.A (isTrue e X.env whole) (TP X xf σ Q) X.xe s
def PW.pt (h:PW X e t):PT X e t:=@h _
def PA (X:Cx)(es:List Expr)(t:TA):Prop:=∀ ⦃pos:Pos⦄ (xf:List (Addr×Obj)) (s:Shared) (σ:St) (H:Hp) (Q:List V->Hp->Prop),Inv X xf σ H s->t σ H Q->wpAny (model X.prog X.w) X.A (spliced (backTo pos (starEach es X.env))) (AP X xf σ Q) X.xe s
def PS (X:Cx)(st:Stmt)(t:TS):Prop:=∀ ⦃xf:List (Addr×Obj)⦄ (s:Shared) (σ:St) (H:Hp) (D:Ends),Inv X xf σ H s->t D σ H->wpAny (model X.prog X.w) X.A (exec st X.env) (SP X xf D) X.xe s
def PSs (X:Cx)(st:List Stmt)(t:TS):Prop:=∀ ⦃xf:List (Addr×Obj)⦄ (s:Shared) (σ:St) (H:Hp) (D:Ends),Inv X xf σ H s->t D σ H->wpAny (model X.prog X.w) X.A (execs st X.env) (SP X xf D) X.xe s
def yp (h:wpAny M A t Q E s)(hQ:∀a s,Q a s->Q' a s):wpAny M A t Q' E s:=vR h hQ λ_ _ x=>x
section
variable {X:Cx}
def uD (i:Nat):TE:=λσ H Q=>∃v,σ[i]?=some (some v)/\Q v H
def tC (v:V):TE:=λ_ H Q=>Q v H
def Ra (hN:X.N[i]?=some x)(hv:Vis X.env.scope x)(hd:(x==("__debug__" : Str))=false:=by decide)(hcd:(x==("__classdict__" : Str))=false:=by decide):PE X (.Name x pos) (uD i):=by
 intro xf s σ H Q I h;obtain⟨v,e,h⟩:=h;obtain⟨m,hn,hl⟩:=I.loc;obtain⟨u,r,l⟩:=hl i x v hN e hv;have fin:EP X xf σ Q u s:=⟨v,H,I,r,h⟩
 rcases l with ⟨hk,hm⟩|⟨hk,c,hc,hcell⟩
 .exact wpAny_Name (wpAny_loadName_local I.ok.kind hk hn hm fin) hd
 .rcases hk with hk|hk
  .exact wpAny_Name (wpAny_loadName_cell I.ok.kind hk hc hcell fin) hd
  .exact wpAny_Name (wpAny_loadName_free I.ok.kind hk hc hcell fin hcd) hd
def xl:PE X (.Constant (.int i) j pos) (tC (.int i)):=λ_ _ _ H _ I h=>wpAny_Constant_int ⟨.int i,H,I.tok _,⟨_,rfl⟩,h⟩
def ve:PE X (.Constant (.bool b) j pos) (tC (.bl b)):=λ_ _ _ H _ I h=>Constant_bool ⟨.bl b,H,I,rfl,h⟩
def gJ:PE X (.Constant .none j pos) (tC .non):=λ_ _ _ H _ I h=>Constant_none ⟨.non,H,I,rfl,h⟩
def Gl (X:Cx)(x:Str):Prop:=X.env.kindOf x=some .globalImplicit
def Gs (I:Inv X xf σ H s)(hg:Gl X x)(hm:X.mg x=some u)(h:Q u s)
  (hd:(x==("__debug__" : Str))=false:=by decide):wpAny (model X.prog X.w) X.A (eval (.Name x pos) X.env) Q E s:=
 Calls.Name_function_global I.ok.kind hg (Calls.loadGlobal_global (by rw[I.ok.glob];exact I.mod.glob.keeps I.bk) hm h) hd
def sG (I:Inv X xf σ H s)(hg:Gl X x)(hm:X.mg x=none)(hv:bootBuiltins x=some u)(h:Q u s)
  (hn:x ≠ "__name__" := by decide) (hd:(x==("__debug__" : Str))=false:=by decide):wpAny (model X.prog X.w) X.A (eval (.Name x pos) X.env) Q E s:=by
 obtain⟨mb,h1,h2⟩:=I.mod.blt;exact Calls.Name_function_global I.ok.kind hg (Calls.loadGlobal_builtin (by rw[I.ok.glob];exact I.mod.glob.keeps I.bk) hm (by rw[I.ok.blt];exact h1.keeps I.bk) ((h2 x hn).trans hv) h) hd
def gI (hg:Gl X x)(hm:X.mg x=some u)(r:RelV v u)(hd:(x==("__debug__" : Str))=false:=by decide):PE X (.Name x pos) (tC v):=λ_ _ _ H _ I h=>Gs I hg hm ⟨v,H,I,r,h⟩ hd
def kP (hg:Gl X x)(hm:X.mg x=none)(hv:bootBuiltins x=some u)(r:RelV v u)(hn:x ≠ "__name__" := by decide)(hd:(x==("__debug__" : Str))=false:=by decide):PE X (.Name x pos) (tC v):=λ_ _ _ H _ I h=>sG I hg hm hv ⟨v,H,I,r,h⟩ hn hd
variable {a b:Expr} {ta tb:TE} {pos:Pos}
def PC (X:Cx)(op:CmpOp)(a b:Expr)(t:TE):Prop:=
 ∀(xf:List (Addr×Obj)) (s:Shared) (σ:St) (H:Hp) (Q:VK),Inv X xf σ H s->t σ H Q->
  wpAny (model X.prog X.w) X.A (eval a X.env) (λv s₁=>wpAny (model X.prog X.w) X.A (eval b X.env) (λu s₂=>wpAny (model X.prog X.w) X.A (compareOp op v u) (EP X xf σ Q) X.xe s₂) X.xe s₁) X.xe s
def NM (b:Expr)(h:op≠.In)(h2:op≠.NotIn):behindInMarks op b=false:=by
 have e1:(op==CmpOp.In)=false:=by cases op<;>first|rfl|exact absurd rfl h
 have e2:(op==CmpOp.NotIn)=false:=by cases op<;>first|rfl|exact absurd rfl h2
 cases b<;>simp[behindInMarks,e1,e2]
def Jn (ta:TE):TE:=λσ H Q=>ta σ H λx H1=>Q (.bl (decide (x=.non))) H1
def Jt (ta:TE):TE:=λσ H Q=>ta σ H λx H1=>Q (.bl (!decide (x=.non))) H1
theorem RelV.none_iff (r:RelV x v):(v==Value.none)=decide (x=.non):=by
 cases x with
 |non=>cases r;rfl
 |bl _=>cases r;rfl
 |int _=>obtain⟨t,rfl⟩:=r;rfl
 |str _=>obtain⟨t,rfl⟩:=r;rfl
 |byt _=>obtain⟨t,rfl⟩:=r;rfl
 |flt _=>obtain⟨t,rfl⟩:=r;rfl
 |ref _=>cases r;rfl
 |ty _=>cases r;rfl
def tK (ha:PE X a ta):PC X .Is a (.Constant .none j pos') (Jn ta):=by intro xf s σ H Q I h;refine yp (@ha xf s σ H _ I h) λv s1 ⟨x,H1,I1,r1,q1⟩=>?_;exact Constant_none (is_none_gen ⟨.bl _,H1,I1,by rw[r1.none_iff];rfl,q1⟩)
def eh (ha:PE X a ta):PC X .IsNot a (.Constant .none j pos') (Jt ta):=by intro xf s σ H Q I h;refine yp (@ha xf s σ H _ I h) λv s1 ⟨x,H1,I1,r1,q1⟩=>?_;exact Constant_none (isnot_none_gen ⟨.bl _,H1,I1,by rw[r1.none_iff];rfl,q1⟩)
def tB (t:TE):TT:=λσ H Q=>t σ H λx H1=>∃c,x=.bl c/\Q c H1
def gN (h:PC X op a b t)(h1:behindInMarks op b=false:=by first|exact NM _ (by decide) (by decide)|rfl):PT X (.Compare a [op] [b] pos) (tB t):=by intro xf s σ H Q I hw;refine wpAny_isTrue_Compare1 (yp (@h xf s σ H _ I hw) λv s1 h1=>yp h1 λu s2 h2=>yp h2 λc s3 ⟨x,H1,I1,r1,q1⟩=>?_) h1;obtain⟨d,rfl,q⟩:=q1;cases r1;exact fi ⟨H1,I1,q⟩
def wm (h:PE X e t)(he:∀whole,isTrue e X.env whole=(do let v <-whole;standAt e.pos;holding [v] (truthy v)):=by intro _;rfl):PT X e (tB t):=by intro xf s σ H Q I hw;refine isTrue_plain (yp (@h xf s σ H _ I hw) λv s1 ⟨x,H1,I1,r1,q1⟩=>?_) (he _);obtain⟨d,rfl,q⟩:=q1;cases r1;exact fi ⟨H1,I1,q⟩
variable {tA tB':TT} {rest:List Expr}
def Jg (t u:TT):TT:=λσ H Q=>t σ H λc H1=>if c=true then u σ H1 Q else Q false H1
def tOr (t u:TT):TT:=λσ H Q=>t σ H λc H1=>if c=true then Q true H1 else u σ H1 Q
def Js (t:TT):TT:=λσ H Q=>t σ H λc H1=>Q (!c) H1
theorem jZ (ha:PT X a tA):PW X (.BoolOp .And [a] pos) tA:=by
 intro wh xf s σ H Q I h;refine isTrue_and (yp (@ha xf s σ H Q I h) λc s1 e=>?_);cases c with
 |true=>exact isTrue_and_nil e
 |false=>exact e
theorem vF (ha:PT X a tA):PW X (.BoolOp .Or [a] pos) tA:=by
 intro wh xf s σ H Q I h;refine isTrue_or (yp (@ha xf s σ H Q I h) λc s1 e=>?_);cases c with
 |false=>exact isTrue_or_nil e
 |true=>exact e
theorem jq (ha:PT X a tA)(hb:PW X (.BoolOp .And (b::rest) pos) tB'):PW X (.BoolOp .And (a::b::rest) pos) (Jg tA tB'):=by
 intro wh xf s σ H Q I h;refine isTrue_and (yp (@ha xf s σ H _ I h) λc s1 ⟨H1,I1,q1⟩=>?_);cases c with
 |true=>exact @hb wh xf s1 σ H1 Q I1 q1
 |false=>exact⟨H1,I1,q1⟩
theorem uc (ha:PT X a tA)(hb:PW X (.BoolOp .Or (b::rest) pos) tB'):PW X (.BoolOp .Or (a::b::rest) pos) (tOr tA tB'):=by
 intro wh xf s σ H Q I h;refine isTrue_or (yp (@ha xf s σ H _ I h) λc s1 ⟨H1,I1,q1⟩=>?_);cases c with
 |true=>exact⟨H1,I1,q1⟩
 |false=>exact @hb wh xf s1 σ H1 Q I1 q1
def uA (ha:PT X a tA):PT X (.UnaryOp .Not a pos) (Js tA):=by intro xf s σ H Q I h;exact isTrue_not (@ha xf s σ H (λc H1=>Q (!c) H1) I h)
def Jh (ta tb:TE):TE:=λσ H Q=>ta σ H λx H1=>∃c,x=.bl c/\if c=true then tb σ H1 Q else Q (.bl false) H1
def Jv (ta tb:TE):TE:=λσ H Q=>ta σ H λx H1=>∃c,x=.bl c/\if c=true then Q (.bl true) H1 else tb σ H1 Q
def Ju (ta:TE):TE:=λσ H Q=>ta σ H λx H1=>∃c,x=.bl c/\Q (.bl (!c)) H1
def jX (h:PE X a t):PE X (.BoolOp op [a] pos) t:=λxf s σ H Q I hw=>BoolOp_one (@h xf s σ H Q I hw)
theorem aa (ha:PE X a ta)(hb:PE X (.BoolOp .And (b::rest) pos) tb):PE X (.BoolOp .And (a::b::rest) pos) (Jh ta tb):=by
 intro xf s σ H Q I h;refine BoolOp_and (yp (@ha xf s σ H _ I h) λv s1 ⟨x,H1,I1,r1,q1⟩=>?_);obtain⟨c,rfl,q1⟩:=q1;cases r1;refine fi ?_;cases c with
 |true=>exact @hb xf s1 σ H1 Q I1 q1
 |false=>exact⟨.bl false,H1,I1,rfl,q1⟩
theorem bN (ha:PE X a ta)(hb:PE X (.BoolOp .Or (b::rest) pos) tb):PE X (.BoolOp .Or (a::b::rest) pos) (Jv ta tb):=by
 intro xf s σ H Q I h;refine BoolOp_or (yp (@ha xf s σ H _ I h) λv s1 ⟨x,H1,I1,r1,q1⟩=>?_);obtain⟨c,rfl,q1⟩:=q1;cases r1;refine fi ?_;cases c with
 |false=>exact @hb xf s1 σ H1 Q I1 q1
 |true=>exact⟨.bl true,H1,I1,rfl,q1⟩
def Hx (ha:PE X a ta):PE X (.UnaryOp .Not a pos) (Ju ta):=by intro xf s σ H Q I h;refine UnaryOp_ (yp (@ha xf s σ H _ I h) λv s1 ⟨x,H1,I1,r1,q1⟩=>?_);obtain⟨c,rfl,q1⟩:=q1;cases r1;exact not_of (fi ⟨.bl (!c),H1,I1,rfl,q1⟩)
end
def yw (K:xw)(H:Hp)(a:Addr)(xs:List V):Prop:=
 Rd H a (.lst xs)\/
  ∃(o:Obj) (xm:Array Value) (n:Nat),K.lookup a=some o/\o.cls=.type "list" /\ o.dict=none/\o.data=.seq xm n/\xm.size<=sizeLine/\yn xs xm.toList
def yM (K:xw)(H:Hp)(a:Addr)(xs:List V):Prop:=
 Rd H a (.tup xs)\/
  ∃(o:Obj) (xm:Array Value) (n:Nat),K.lookup a=some o/\o.cls=.type "tuple" /\ o.data=.seq xm n/\xm.size<=sizeLine/\yn xs xm.toList
def Kx:Value->Option V
 |.none=>some .non
 |.bool b=>some (.bl b)
 |.int i _=>some (.int i)
 |.str x _=>some (.str x)
 |.bytes b _=>some (.byt b)
 |.float b _=>some (.flt b)
 |.ref a=>some (.ref a)
 |.type n=>some (.ty n)
 |_=>none
theorem RelV.abs (r:RelV x u):Kx u=some x:=by
 cases x with
 |non=>cases r;rfl
 |bl _=>cases r;rfl
 |int _=>obtain⟨t,rfl⟩:=r;rfl
 |str _=>obtain⟨t,rfl⟩:=r;rfl
 |byt _=>obtain⟨t,rfl⟩:=r;rfl
 |flt _=>obtain⟨t,rfl⟩:=r;rfl
 |ref _=>cases r;rfl
 |ty _=>cases r;rfl
def RelV.inj (r:RelV x u)(q:RelV y u):x=y:=vK (r.abs.symm.trans q.abs)
theorem yn.inj:∀ {xs ys:List V} {us:List Value},yn xs us->yn ys us->xs=ys
 |_,_,_,.nil,.nil=>rfl
 |_,_,_,.cons r t,.cons r' t'=>by rw[r.inj r',yn.inj t t']
section
variable {X:Cx} {xf:List (Addr×Obj)} {σ:St} {H:Hp} {s:Shared} {a:Addr} {xs ys:List V}
def yw.of {K:xw}(h:H a=some (.lst xs)):yw K H a xs:=.inl (.inl h)
def yM.of {K:xw}(h:H a=some (.tup xs)):yM K H a xs:=.inl (.inl h)
def Inv.list (I:Inv X xf σ H s)(h:yw X.K H a xs):∃xm:List Value,yn xs xm/\PlainL s.heap a xm.toArray/\xs.length<=sizeLine:=by
 rcases h with h|⟨o,xm,n,hk,hc,hd,hs,hz,r⟩
 .obtain⟨z,xm,n,r,e⟩:=h.ok I.hok;exact⟨xm,r,⟨_,n,e,rfl,rfl,rfl⟩,z⟩
 .refine⟨xm.toList,r,⟨o,n,I.kIn a o hk,hc,hd,by simpa using hs⟩,?_⟩;have e:=r.length;simp only[aC] at e;lia
def Inv.tuple (I:Inv X xf σ H s)(h:yM X.K H a xs):∃xm:List Value,yn xs xm/\IsTup s.heap a xm.toArray/\xs.length<=sizeLine:=by
 rcases h with h|⟨o,xm,n,hk,hc,hs,hz,r⟩
 .obtain⟨z,xm,r,p⟩:=h.ok I.hok;exact⟨xm,r,p,z⟩
 .refine⟨xm.toList,r,⟨o,I.kIn a o hk,hc,n,by simpa using hs⟩,?_⟩;have e:=r.length;simp only[aC] at e;lia
def Inv.list_inj (I:Inv X xf σ H s)(h:yw X.K H a xs)(h':yw X.K H a ys):xs=ys:=by
 obtain⟨xm,r,⟨o,n,e,_,_,d⟩,_⟩:=I.list h;obtain⟨its',r',⟨o',n',e',_,_,d'⟩,_⟩:=I.list h';rw[e] at e';cases e';rw[d] at d';injection d' with d1 _;have:xm=its':=by simpa using zg Array.toList d1
 subst this;exact r.inj r'
def Inv.tuple_inj (I:Inv X xf σ H s)(h:yM X.K H a xs)(h':yM X.K H a ys):xs=ys:=by
 obtain⟨xm,r,⟨o,e,_,n,d⟩,_⟩:=I.tuple h;obtain⟨its',r',⟨o',e',_,n',d'⟩,_⟩:=I.tuple h';rw[e] at e';cases e';rw[d] at d';injection d' with d1 _;have:xm=its':=by simpa using zg Array.toList d1
 subst this;exact r.inj r'
end
abbrev Cx.wish (X:Cx)(E:Value->Shared->Prop):Cx:={X with xe:=E}
abbrev Cx.nox (X:Cx):Cx:=X.wish λ_ _=>False
theorem Cx.Ok.wish {X:Cx}(ok:X.Ok)(E:Value->Shared->Prop):(X.wish E).Ok:=⟨ok.mod,ok.kind,ok.glob,ok.blt,ok.above,ok.inj,ok.has,ok.cab,ok.hd,ok.frames,ok.stk,ok.exf,ok.bs,ok.bsz,ok.noex,ok.exfs,ok.funs,ok.frf⟩
def Cx.Ok.unwish {X:Cx}{E:Value->Shared->Prop}(ok:(X.wish E).Ok):X.Ok:=⟨ok.mod,ok.kind,ok.glob,ok.blt,ok.above,ok.inj,ok.has,ok.cab,ok.hd,ok.frames,ok.stk,ok.exf,ok.bs,ok.bsz,ok.noex,ok.exfs,ok.funs,ok.frf⟩
section
variable {X:Cx} {xf:List (Addr×Obj)} {σ:St} {H:Hp} {s:Shared} {E:Value->Shared->Prop}
theorem Inv.wish (I:Inv X xf σ H s)(E:Value->Shared->Prop):Inv (X.wish E) xf σ H s:=⟨I.ok.wish E,I.os,I.bare,I.base,I.loc,I.cell,I.free,I.freeC,I.pin,I.hok,I.len⟩
theorem Inv.unwish (I:Inv (X.wish E) xf σ H s):Inv X xf σ H s:=⟨I.ok.unwish,I.os,I.bare,I.base,I.loc,I.cell,I.free,I.freeC,I.pin,I.hok,I.len⟩
theorem SP.unwish (h:SP (X.wish E) xf D f s'):SP X xf D f s':=by
 cases f with
 |next=>obtain⟨σ',H',I,q⟩:=h;exact⟨σ',H',I.unwish,q⟩
 |brk=>obtain⟨σ',H',I,q⟩:=h;exact⟨σ',H',I.unwish,q⟩
 |cont=>obtain⟨σ',H',I,q⟩:=h;exact⟨σ',H',I.unwish,q⟩
 |ret u=>obtain⟨v,σ',H',I,r,q⟩:=h;exact⟨v,σ',H',I.unwish,r,q⟩
theorem PSs.nox {st:List Stmt}{t:TS}(h:PSs X.nox st t):PSs X st t:=λxf s σ H D I hw=>vR (@h xf s σ H D (I.wish _) hw) (λ_ _ q=>q.unwish) λ_ _ z=>False.elim z
end
section
variable {X:Cx} {st:Stmt} {rest:List Stmt} {t u:TS} {e:Expr} {te:TE} {pos:Pos}
def Jp:TS:=λD σ H=>D.nx σ H
def cR (t u:TS):TS:=λD σ H=>t {D with nx:=u D} σ H
def yT:PSs X [] Jp:=λ_ _ σ H _ I h=>Cm ⟨σ,H,I,h⟩
theorem xA (h1:PS X st t)(h2:PSs X rest u):PSs X (st::rest) (cR t u):=by
 intro xf s σ H D I h;refine wpAny_execs_cons (yp (@h1 xf s σ H {D with nx:=u D} I h) λf s1 q=>?_);cases f with
 |next=>obtain⟨σ',H',I',q⟩:=q;exact @h2 xf s1 σ' H' D I' q
 |ret v=>exact q
 |brk=>exact q
 |cont=>exact q
theorem xy (h1:PS X st t):PSs X [st] t:=by
 intro xf s σ H D I h;refine wpAny_execs_cons (yp (@h1 xf s σ H D I h) λf s1 q=>?_);cases f with
 |next=>exact Cm q
 |ret v=>exact q
 |brk=>exact q
 |cont=>exact q
def Inv.quiet (I:Inv X xf σ H s):interactive X.env=false:=by simp[interactive,I.ok.kind]
def t8 (te:TE):TS:=λD σ H=>te σ H λ_ H1=>D.nx σ H1
def vf (he:PE X e te)(hs:swapsWith e none pos.line X.env=pure false:=by rfl):PS X (.Expr e pos) (t8 te):=by intro xf s σ H D I h;exact wpAny_Expr_any (yp (@he xf s σ H _ I h) λv s1 ⟨x,H1,I1,r1,q1⟩=>⟨σ,H1,I1,q1⟩) I.quiet hs
def cQ (te:TE):TS:=λD σ H=>te σ H D.rt
def xR (he:PE X e te):PS X (.Return (some e) pos) (cQ te):=by intro xf s σ H D I h;exact wpAny_Return_some (yp (@he xf s σ H _ I h) λv s1 ⟨x,H1,I1,r1,q1⟩=>⟨x,σ,H1,I1,r1,q1⟩)
def Jm (c:TT)(t u:TS):TS:=λD σ H=>c σ H λb H1=>if b=true then t D σ H1 else u D σ H1
theorem yR (hc:PT X c tc)(ha:PSs X a t)(hb:PSs X b u):PS X (.If c a b pos) (Jm tc t u):=by
 intro xf s σ H D I h;refine wpAny_If (yp (@hc xf s σ H _ I h) λd s1 ⟨H1,I1,q1⟩=>?_);cases d with
 |true=>exact @ha xf s1 σ H1 D I1 q1
 |false=>exact @hb xf s1 σ H1 D I1 q1
def Jo:TS:=λ_ _ _=>False
def eA:PS X st Jo:=λ_ _ _ _ _ _ h=>h.elim
end
abbrev TG:=V->St->Hp->(St->Hp->Prop)->Prop
abbrev TGs:=List V->St->Hp->(St->Hp->Prop)->Prop
def PG (X:Cx)(target:Expr)(t:TG):Prop:=
 ∀(xf:List (Addr×Obj)) (s:Shared) (σ:St) (H:Hp) (v:V) (u:Value) (Q:St->Hp->Prop),Inv X xf σ H s->RelV v u->t v σ H Q->
  wpAny (model X.prog X.w) X.A (assign target X.env u) (λ_ s'=>∃ σ' H',Inv X xf σ' H' s'/\Q σ' H') X.xe s
def PGs (X:Cx)(ts:List Expr)(t:TGs):Prop:=
 ∀(xf:List (Addr×Obj)) (s:Shared) (σ:St) (H:Hp) (vs:List V) (us:List Value) (Q:St->Hp->Prop),Inv X xf σ H s->yn vs us->t vs σ H Q->
  wpAny (model X.prog X.w) X.A (assignInOrder ((assignEach ts X.env).map (·.2)) us) (λ_ s'=>∃ σ' H',Inv X xf σ' H' s'/\Q σ' H') X.xe s
abbrev CF:=V->V->V->Hp->(Hp->Prop)->Prop
def CD (X:Cx)(t:CF):Prop:=
 ∀(xf:List (Addr×Obj)) (s:Shared) (σ:St) (H:Hp) (o i v:V) (ov iv u:Value) (Q:Hp->Prop),Inv X xf σ H s->RelV o ov->RelV i iv->RelV v u->t o i v H Q->
  wpAny (model X.prog X.w) X.A (setItem ov iv u) (λ_ s'=>∃H',Inv X xf σ H' s'/\Q H') X.xe s
section
variable {X:Cx} {pos:Pos}
def qM (i:Nat):TG:=λv σ H Q=>Q (σ.set i (some v)) H
def zi (hN:X.N.Nodup)(hi:X.N[i]?=some x)(hx:Loc X.env.scope x)(hf:X.fn x=true\/X.env.scope.names.lookup x=some .local:=by first|exact .inl rfl|exact .inr rfl|assumption):PG X (.Name x pos) (qM i):=by intro xf s σ H v u Q I r h;exact wpAny_assign_Name (fX I hN hi hx r (λs' I'=>⟨_,H,I',h⟩) hf)
def nS:TGs:=λvs σ H Q=>vs=[]/\Q σ H
def nR (t:TG)(u:TGs):TGs:=λvs σ H Q=>∃v r,vs=v::r/\t v σ H λσ' H'=>u r σ' H' Q
def zD:PGs X [] nS:=by intro xf s σ H vs us Q I r h;obtain⟨e,h⟩:=h;subst e;cases r;exact Km ⟨σ,H,I,h⟩
theorem ye (h1:PG X e t)(h2:PGs X es u)
  (hs:(assignEach (e::es) X.env).map (·.2)=assign e X.env::(assignEach es X.env).map (·.2):=by rfl):PGs X (e::es) (nR t u):=by
 intro xf s σ H vs us Q I r h;obtain⟨v,vr,e1,h⟩:=h;subst e1;cases r with
 |cons r rr=>rw[hs];refine mI (yp (@h1 xf s σ H _ _ _ I r h) λ_ s1 ⟨σ1,H1,I1,q1⟩=>?_);exact @h2 xf s1 σ1 H1 _ _ Q I1 rr q1
def rS (K:xw)(n:Nat)(t:TGs):TG:=λv σ H Q=>∃a xs,v=.ref a/\yM K H a xs/\xs.length=n/\t xs σ H Q
def Rc (hc:X.calm=true)(h:PGs X es t)
  (hn:(assignEach es X.env).length=n:=by rfl) (hst:(assignEach es X.env).findIdx? (·.1)=none:=by rfl):PG X (.Tuple es k pos) (rS X.K n t):=by
 intro xf s σ H v u Q I r hw;obtain⟨a,xs,e1,hq,hl,hw⟩:=hw;subst e1;cases r;obtain⟨xm,rv,ht,hz⟩:=I.tuple hq;refine assign_Tuple_tuple (I.ok.hd hc) ht (by simp[hn,<-hl,rv.length]) hst λh' hx=>?_;have I1:Inv X xf σ H {s with heap:=h' }:=I.kept (t':=s.toks) λb o e=>hx b o (we (yK e)) e;exact @h xf _ σ H xs _ Q I1 (by simpa using rv) hw
def FH (to ti:TE)(t:CF):TG:=λv σ H Q=>to σ H λo H1=>ti σ H1 λi H2=>t o i v H2 λH3=>Q σ H3
def ae (ho:PE X o to)(hi:PE X i ti)(hs:CD X t)
  (ha:∀v,assign (.Subscript o i pos) X.env v=(do
   let ov <-holding [v] (eval o X.env)
   let iv <-holding [v,ov] (eval i X.env)
   standAt pos
   holding [v,ov,iv] (setItem ov iv v)
   release [v,ov,iv] []):=by intro _;rfl):PG X (.Subscript o i pos) (FH to ti t):=by
 intro xf s σ H v u Q I r h;rw[ha];refine xj (km (yp (@ho xf s σ H _ I h) λov s1 ⟨x,H1,I1,r1,q1⟩=>?_));refine xj (km (yp (@hi xf s1 σ H1 _ I1 q1) λiv s2 ⟨y,H2,I2,r2,q2⟩=>?_));refine xj (mN (xj (km (yp (@hs xf s2 σ H2 x y v ov iv u _ I2 r1 r2 r q2) λ_ s3 ⟨H3,I3,q3⟩=>?_))));exact wpAny_release ⟨σ,H3,I3,q3⟩
def j3 (te:TE)(g:TG):TS:=λD σ H=>te σ H λx H1=>g x σ H1 D.nx
def wX (he:PE X e te)(hg:PG X tg g)(hs:swapsWithSole [tg] e pos.line X.env=pure false:=by rfl)(hw:swappedStores [tg] e X.env=pure none:=by rfl)
  (h1:(assignEach [tg] X.env).map (·.2)=[assign tg X.env]:=by rfl):PS X (.Assign [tg] e pos) (j3 te g):=by
 intro xf s σ H D I h;refine wpAny_Assign_stores (yp (@he xf s σ H _ I h) λv s1 ⟨x,H1,I1,r1,q1⟩=>?_) hs hw;rw[h1];exact yp (@hg xf s1 σ H1 x v _ I1 r1 q1) λ_ s2 q=>q
def kT (hN:X.N.Nodup)(hi:X.N[i]?=some x)(hx:Loc X.env.scope x)(he:PE X e te)(hs:swapsWith e (some (.Name x pos')) pos.line X.env=pure false:=by rfl)(hf:X.fn x=true\/X.env.scope.names.lookup x=some .local:=by first|exact .inl rfl|exact .inr rfl|assumption) :
  PS X (.Assign [.Name x pos'] e pos) (j3 te (qM i)):=by
 intro xf s σ H D I h;refine wpAny_Assign_Name (yp (@he xf s σ H _ I h) λv s1 ⟨y,H1,I1,r1,q1⟩=>?_) hs;exact fX I1 hN hi hx r1 (λs2 I2=>⟨_,H1,I2,q1⟩) hf
def Jw (i j:Nat)(ta:TA):TS:=λD σ H=>ta σ H λvs H1=>∃v w,vs=[v,w]/\D.nx ((σ.set i (some v)).set j (some w)) H1
def qU (hc:X.calm=true)(hN:X.N.Nodup)(hi:X.N[i]?=some x)(hj:X.N[j]?=some y)(hij:i≠j)
  (hx:X.env.scope.names.lookup x=some .local) (hy:X.env.scope.names.lookup y=some .local) (ha:PA X [a,b] ta)
  (hw:swappedStores [.Tuple [.Name x px,.Name y py] kt pt] (.Tuple [a,b] k2 pt2) X.env=pure (some [x,y]))
  (hs:swapsWithSole [.Tuple [.Name x px,.Name y py] kt pt] (.Tuple [a,b] k2 pt2) pos.line X.env=pure false:=by rfl) :
  PS X (.Assign [.Tuple [.Name x px,.Name y py] kt pt] (.Tuple [a,b] k2 pt2) pos) (Jw i j ta):=by
 intro xf s σ H D I h;rw[exec_Assign_arm];refine xj (mN ?_);rw[hs];refine xj (xO ?_);rw[xG (by decide)];refine xj (Tuple_ (yp (@ha _ xf s σ H _ I h) λus s1 ⟨vs,H1,I1,r1,q1⟩=>?_));obtain⟨v,w,e1,q1⟩:=q1;subst e1;obtain⟨u1,u2,rfl,rv,rw'⟩:∃u1 u2,us=[u1,u2]/\RelV v u1/\RelV w u2:=by
  cases r1 with
  |cons p q=>
   cases q with
   |cons p' q' =>cases q';exact⟨_,_,rfl,p,p'⟩
 refine vM ?_ (by show 2<=sizeLine;decide);have I2:Inv X xf σ H1 {s1 with heap:=s1.heap.push {cls:=.type "tuple", data:=.seq [u1,u2].toArray} }:=I1.kept (t':=s1.toks) λb o e=>yZ _ e;rw[hw];refine xj (xO ?_);show wpAny (model X.prog X.w) X.A (do rule "assign.swapped-stores"; let items <-unpackItems (.ref s1.heap.objs.size) 2 none;assignInOrder [λv=>bindName X.env y v,λv=>bindName X.env x v] items.reverse;pure Flow.next) _ _ _;refine xj (dG (xj (unpackItems_tuple (items := #[u1,u2]) (I.ok.hd hc) (mh s1.heap _) λh' hx'=>?_)));have I3:=I2.kept (h':=h') (t':=s1.toks) λb o e=>hx' b o (we (yK e)) e;show wpAny _ _ (assignInOrder [λv=>bindName X.env y v,λv=>bindName X.env x v] [u2,u1]>>=λ_=>pure Flow.next) _ _ _;refine xj (mI (pK (fX I3 hN hj (.inl hy) rw' (λs2 I4=>?_) (.inr hy))));refine mI (pK (fX I4 hN hi (.inl hx) rv (λs3 I5=>Km (xO ?_)) (.inr hx)));rw[B9 _ _ (zY hij)] at I5;exact⟨_,H1,I5,q1⟩
end
section
variable {X:Cx} {pos:Pos}
def JA (c:TT)(tb:TS):TS:=λD σ H=>∃W:Nat->St->Hp->Prop,(∃m,W m σ H)/\∀m σ H,W m σ H->
 c σ H λb H1=>if b=true then ∃N:St->Hp->Prop,(∀ σ' H',N σ' H'->∃m',m' < m/\W m' σ' H')/\tb {D with nx:=N,ct:=N,bk:=D.nx} σ H1 else D.nx σ H1
theorem bP (hp:PassesOwn (model X.prog X.w) X.A X.env X.xe)(hc:PT X c tc)(hb:PSs X body tb):PS X (.While c body [] pos) (JA tc tb):=by
 intro xf s σ H D I h;obtain⟨W,⟨m0,w0⟩,turn⟩:=h;refine wpAny_While (codeAny_whileLoop (λn s'=>∃ σ' H',Inv X xf σ' H' s'/\W n σ' H') ?_ m0 ⟨σ,H,I,w0⟩);rintro n s1 ⟨σ1,H1,I1,w1⟩;refine a_ hp (yp (@hc xf s1 σ1 H1 _ I1 (turn n σ1 H1 w1)) λb s2 ⟨H2,I2,q2⟩=>?_);cases b with
 |true=>
  obtain⟨N,hN,q2⟩:=q2;rw[xJ rfl];refine a_ hp (yp (@hb xf s2 σ1 H2 _ I2 q2) λf s3 q3=>?_);cases f with
  |next=>obtain⟨σ3,H3,I3,n3⟩:=q3;obtain⟨m',hm,w3⟩:=hN σ3 H3 n3;exact⟨m',hm,σ3,H3,I3,w3⟩
  |cont=>obtain⟨σ3,H3,I3,n3⟩:=q3;obtain⟨m',hm,w3⟩:=hN σ3 H3 n3;exact⟨m',hm,σ3,H3,I3,w3⟩
  |brk=>exact q3
  |ret v=>exact q3
 |false=>rw[xG uG];exact Cm ⟨σ1,H2,I2,q2⟩
end
structure It where
 go:Nat->Hp->Prop
 yld:Nat->Hp->V->Hp->Prop
 stop:Nat->Hp->Prop
def qG (X:Cx)(xf:List (Addr×Obj))(H:Hp)(b:Addr):Prop:=H b=none/\b≠X.env.locals/\b∉X.fs/\(b∈X.ex\/X.s₀.heap.objs.size<=b)/\(∀x c,X.env.cells.lookup x=some c->c≠b)/\∀p∈X.pn++xf,p.1≠b
def Inv.fpOk (I:Inv X xf σ H s)(hb:s.heap.objs.size<=b)(hn:H' b=none):qG X xf H' b:=by
 refine⟨hn,fg (vJ I.lt hb),I.nofs hb,.inr (vt I.sz hb),λx c e z=>?_,λp hp z=>?_⟩
 .obtain⟨v,q⟩:=I.cell x c e;exact absurd (vJ q.lt (by rw[z];exact hb)) (dE _)
 .exact absurd (vJ (yK (I.pin p hp).1) (by rw[z];exact hb)) (dE _)
structure Turn (P:Program)(w:World)(K:xw)(tg:Expr)(J:It)(fp:List Addr)(it:Addr)(tn:Nat->Heap->Prop):Prop where
 mem:it∈fp
 obj:∀i h,tn i h->∀b∈fp,∃o,h.get? b=some o/\∀v,o.data≠.cell v
 keep:∀i h h',tn i h->(∀b∈fp,∀o,h.get? b=some o->h'.get? b=some o)->tn i h'
 item:∀(X:Cx),X.prog=P->X.w=w->X.K=K->X.calm=true->∀(i:Nat) (xf:List (Addr×Obj)) (s:Shared) (σ:St) (H:Hp) (E:Value->Shared->Prop),Inv X xf σ H s->(∀b∈fp,qG X xf H b)->tn i s.heap->J.go i H->
  wpAny (model P w) X.A (pyNext (.ref it)) (λr s1=>∃u,r=some u/\wpAny (model P w) X.A (letOwnedTupleGo tg (.ref it) u) (λ_ s2=>∃x H',Inv X xf σ H' s2/\RelV x u/\J.yld i H x H'/\tn (i+1) s2.heap/\∀b∈fp,H' b=none) E s1) E s
 done:∀(X:Cx),X.prog=P->X.w=w->X.K=K->X.calm=true->∀(i:Nat) (xf:List (Addr×Obj)) (s:Shared) (σ:St) (H:Hp) (E:Value->Shared->Prop),Inv X xf σ H s->(∀b∈fp,qG X xf H b)->tn i s.heap->J.stop i H->
  wpAny (model P w) X.A (pyNext (.ref it)) (λr s1=>r=none/\Inv X xf σ H s1) E s
 self:∀(A:Around) (i:Nat) (s:Shared) (Q:Value->Shared->Prop) (E:Value->Shared->Prop),tn i s.heap->Q (.ref it) s->wpAny (model P w) A (pyIter (.ref it)) Q E s
abbrev TI:=St->Hp->(It->Hp->Prop)->Prop
def PIE (X:Cx)(xf:List (Addr×Obj))(σ:St)(tg:Expr)(R:It->Hp->Prop)(itv:Value)(s2:Shared):Prop:=∃(it:Addr) (fp:List Addr) (tn:Nat->Heap->Prop) (J:It) (H':Hp),itv=.ref it/\Inv X xf σ H' s2/\Turn X.prog X.w X.K tg J fp it tn/\tn 0 s2.heap/\(∀b∈fp,qG X xf H' b)/\R J H'
def PI (X:Cx)(tg iter:Expr)(wi:TI):Prop:=
 ∀(xf:List (Addr×Obj)) (s:Shared) (σ:St) (H:Hp) (R:It->Hp->Prop),Inv X xf σ H s->wi σ H R->
  wpAny (model X.prog X.w) X.A (eval iter X.env) (λv s1=>wpAny (model X.prog X.w) X.A (pyIter v) (PIE X xf σ tg R) X.xe s1) X.xe s
def o7 (ho:s.heap.get? it=some o)(hc:o.cls=.type n)(hd:o.data=.fields vs)
  (hn:["enumerate", "zip", "dict_itemiterator", "dict_reverseitemiterator", "odict_iterator", "itertools.zip_longest", "itertools.pairwise"].contains n=false) (hQ:Q () s):wpAny M A (letOwnedTupleGo tg (.ref it) u) Q E s:=by
 unfold letOwnedTupleGo;cases tg<;>first
  |exact xO hQ
  | (cases u<;>first
    |exact xO hQ
    | (refine xj (wpAny_load ho ?_)
       rw[hc,hd];show wpAny M A (if (["enumerate", "zip", "dict_itemiterator", "dict_reverseitemiterator", "odict_iterator", "itertools.zip_longest", "itertools.pairwise"].contains n&&vs[0]? == some (rawInt _))=true then _ else _) Q E s;rw[xG (by intro h;rw[hn,Bool.false_and] at h;cases h)];exact xO hQ))
def Itl (K:xw)(a:Addr):It:=⟨λi H=>∃xs x,yw K H a xs/\xs[i]?=some x,λi H x H'=>H'=H/\∀xs,yw K H a xs->xs[i]?=some x,λi H=>∃xs,yw K H a xs/\xs.length<=i⟩
def Itt (K:xw)(a:Addr):It:=⟨λi H=>∃xs x,yM K H a xs/\xs[i]?=some x,λi H x H'=>H'=H/\∀xs,yM K H a xs->xs[i]?=some x,λi H=>∃xs,yM K H a xs/\xs.length<=i⟩
def Itr (lo:Int)(n:Nat):It:=⟨λi _=>i<n,λi H x H'=>H'=H/\x=.int (lo+i),λi _=>n<=i⟩
def TC {P:Program}{w:World}{K:xw}{tg:Expr}(a it:Addr):Turn P w K tg (Itl K a) [it] it (λi h=>h.IsListIter it a i) where
 mem:=by simp
 obj:=λi h st b hb=>by
  have e:b=it:=by simpa using hb
  subst e;obtain⟨o,e,c,d⟩:=st;exact⟨o,e,λv z=>by rw[d] at z;cases z⟩
 keep:=λi h h' st k=>st.at λo e=>k it (by simp) o e
 item:=by intro X hP hw hK hc i xf s σ H E I hf st hg;subst hP hw hK;obtain⟨xs,x,hq,hx⟩:=hg;obtain⟨xm,rv,p,hz⟩:=I.list hq;obtain⟨u,hu,ru⟩:=rv.get hx;obtain⟨f0,f1,f2,f3,f4,f5⟩:=hf it (by simp);refine wpAny_pyNext_list_item st p.isList (x:=u) (by simpa using hu) λh' st' sb=>?_;have I1:Inv X xf σ H {s with heap:=h' }:=I.turned (t':=s.toks) (λb o hb e=>(sb.2 b hb).trans e) f0 f1 f3 f4 f5;obtain⟨o,e,c,d⟩:=id st';exact⟨u,rfl,o7 (s:={s with heap:=h' }) e c d (by decide) ⟨x,H,I1,ru,⟨rfl,λys hy=>by rw[I.list_inj hy hq];exact hx⟩,st',λb hb=>(hf b hb).1⟩⟩
 done:=by intro X hP hw hK hc i xf s σ H E I hf st hg;subst hP hw hK;obtain⟨xs,hq,hx⟩:=hg;obtain⟨xm,rv,p,hz⟩:=I.list hq;obtain⟨f0,f1,f2,f3,f4,f5⟩:=hf it (by simp);have hl:=rv.length;exact wpAny_pyNext_list_end (I.ok.hd hc) st p.isList (by simp;lia) λh' eb=>⟨rfl,I.turned (t':=s.toks) (λb o hb e=>eb b o hb e) f0 f1 f3 f4 f5⟩
 self:=λ_ _ _ _ _ st h=>wpAny_pyIter_listiter st h
def TH {P:Program}{w:World}{K:xw}{tg:Expr}(a it:Addr):Turn P w K tg (Itt K a) [it] it (λi h=>h.IsTupleIter it a i) where
 mem:=by simp
 obj:=λi h st b hb=>by
  have e:b=it:=by simpa using hb
  subst e;obtain⟨o,e,c,d⟩:=st;exact⟨o,e,λv z=>by rw[d] at z;cases z⟩
 keep:=λi h h' st k=>st.at λo e=>k it (by simp) o e
 item:=by intro X hP hw hK hc i xf s σ H E I hf st hg;subst hP hw hK;obtain⟨xs,x,hq,hx⟩:=hg;obtain⟨xm,rv,p,hz⟩:=I.tuple hq;obtain⟨u,hu,ru⟩:=rv.get hx;obtain⟨f0,f1,f2,f3,f4,f5⟩:=hf it (by simp);refine wpAny_pyNext_tuple_item st (show s.heap.IsTuple a xm.toArray from p) (x:=u) (by simpa using hu) λh' st' sb=>?_;have I1:Inv X xf σ H {s with heap:=h' }:=I.turned (t':=s.toks) (λb o hb e=>(sb.2 b hb).trans e) f0 f1 f3 f4 f5;obtain⟨o,e,c,d⟩:=id st';exact⟨u,rfl,o7 (s:={s with heap:=h' }) e c d (by decide) ⟨x,H,I1,ru,⟨rfl,λys hy=>by rw[I.tuple_inj hy hq];exact hx⟩,st',λb hb=>(hf b hb).1⟩⟩
 done:=by intro X hP hw hK hc i xf s σ H E I hf st hg;subst hP hw hK;obtain⟨xs,hq,hx⟩:=hg;obtain⟨xm,rv,p,hz⟩:=I.tuple hq;obtain⟨f0,f1,f2,f3,f4,f5⟩:=hf it (by simp);have hl:=rv.length;exact wpAny_pyNext_tuple_end (I.ok.hd hc) st (show s.heap.IsTuple a xm.toArray from p) (by simp;lia) λh' eb=>⟨rfl,I.turned (t':=s.toks) (λb o hb e=>eb b o hb e) f0 f1 f3 f4 f5⟩
 self:=λ_ _ _ _ _ st h=>wpAny_pyIter_tupleiter st h
def TF {P:Program}{w:World}{K:xw}{tg:Expr}(it:Addr)(lo:Int)(n:Nat):Turn P w K tg (Itr lo n) [it] it (λi h=>IsRangeIter h it (lo+(i:Nat)*1) ((n:Int)-(i:Nat)) 1) where
 mem:=by simp
 obj:=λi h st b hb=>by
  have e:b=it:=by simpa using hb
  subst e;exact⟨_,st,λv z=>by have z':Data.fields _=Data.cell v:=z;cases z'⟩
 keep:=λi h h' st k=>k it (by simp) _ st
 item:=by intro X hP hw hK hc i xf s σ H E I hf st hg;subst hP hw hK;obtain⟨f0,f1,f2,f3,f4,f5⟩:=hf it (by simp);have W:=Walks.range (prog:=X.prog) (w:=X.w) (I.ok.hd hc) it lo 1 n;refine W.item i s _ _ hg st λv h' tk hv st' kk=>?_;obtain⟨t,rfl⟩:=hv;have I1:Inv X xf σ H {s with heap:=h',toks:=tk}:=I.turned (λb o hb e=>kk b o (by simpa using hb) e) f0 f1 f3 f4 f5;refine⟨_,rfl,o7 (s:={s with heap:=h',toks:=tk}) (n := "range_iterator") st' rfl rfl (by decide) ⟨.int (lo+i),H,I1,⟨t,?_⟩,⟨rfl,rfl⟩,st',λb hb=>(hf b hb).1⟩⟩;rw[g6]
 done:=by intro X hP hw hK hc i xf s σ H E I hf st hg;subst hP hw hK;obtain⟨f0,f1,f2,f3,f4,f5⟩:=hf it (by simp);exact wpAny_pyNext_range_end (I.ok.hd hc) st (by have:n<=i:=hg;lia) λh' eb=>⟨rfl,I.turned (t':=s.toks) (λb o hb e=>eb b o hb e) f0 f1 f3 f4 f5⟩
 self:=λ_ _ _ _ _ st h=>wpAny_pyIter_rangeiter st h
section
variable {X:Cx} {tg:Expr}
def MG (K:xw)(tl:TE):TI:=λσ H R=>tl σ H λx H1=>∃a,x=.ref a/\(∃xs,yw K H1 a xs)/\R (Itl K a) H1
def Rx {xf:List (Addr×Obj)}{σ:St}{H:Hp}{s:Shared}{R:It->Hp->Prop}{E:Value->Shared->Prop}{lo hi:Int}{t u v:Tok}{tk:Nat}(I:Inv X xf σ H s)(h1:-(2^62)<=lo)(h2:lo<2^62)(h3:-(2^62)<=hi)(h4:hi<2^62)
  (q:R (Itr lo (hi-lo).toNat) H):wpAny (model X.prog X.w) X.A (pyIter (.ref s.heap.objs.size)) (PIE X xf σ tg R) E {s with heap:=s.heap.push {cls:=.type "range", data:=.fields #[.int lo t,.int hi u,.int 1 v]},toks:=tk}:=by
 refine wpAny_pyIter_range (IsRange.new ..) (small_one h1 h2 h3 h4) ?_;have I1:Inv X xf σ H {s with heap:=s.heap.push {cls:=.type "range", data:=.fields #[.int lo t,.int hi u,.int 1 v]},toks:=tk}:=I.kept λb o e=>yZ _ e;refine⟨(s.heap.push {cls:=.type "range", data:=.fields #[.int lo t,.int hi u,.int 1 v]}).objs.size,[(s.heap.push {cls:=.type "range", data:=.fields #[.int lo t,.int hi u,.int 1 v]}).objs.size],_,_,H,rfl,I1.kept (t':=tk) λb o e=>yZ _ e,TF _ lo (hi-lo).toNat,?_,λb hb=>?_,q⟩
 .have e1:lo+((0:Nat):Int)*1=lo:=by simp
  have e2:(((hi-lo).toNat:Nat):Int)-((0:Nat):Int)=Builtin.Range.rangeSize lo hi 1:=by rw[rangeSize_one];split<;>lia
  show IsRangeIter _ _ (lo+((0:Nat):Int)*1) ((((hi-lo).toNat:Nat):Int)-((0:Nat):Int)) 1;rw[e1,e2];exact wJ _ rfl
 .have e:b=(s.heap.push {cls:=.type "range", data:=.fields #[.int lo t,.int hi u,.int 1 v]}).objs.size:=by simpa using hb
  subst e;exact I1.fpOk (ym _) (I1.hok.fresh (ym _))
def FV (ta:TA):TI:=λσ H R=>ta σ H λvs H1=>∃j:Int,vs=[.int j]/\-(2^62)<=j/\j<2^62/\R (Itr 0 j.toNat) H1
theorem kQ {a:Expr}{ta:TA}{p pos:Pos}(hg:Gl X "range")(hm:X.mg "range" = none)(ha:PA X [a] ta)(hs:starEach [a] X.env=[(false,eval a X.env)]:=by rfl):PI X tg (.Call (.Name "range" p) [a] [] pos) (FV ta):=by
 intro xf s σ H R I h;refine Call_ (sG I hg hm boot_range (Cj (yp (@ha pos xf s σ H _ I h) λus s1 ⟨vs,H1,I1,r1,q1⟩=>?_) hs rfl));obtain⟨j,e,q1,q2,q⟩:=q1;subst e;cases r1 with
 |cons r rr=>cases rr;obtain⟨t,rfl⟩:=r;exact call_range_1 (Rx I1 (by lia) (by lia) q1 q2 (by simpa using q))
def Jl (wi:TI)(g:TG)(tb:TS):TS:=λD σ H=>wi σ H λJ H1=>∃W:Nat->Nat->St->Hp->Prop,(∃m,W 0 m σ H1)/\∀i m σ H,W i m σ H->
 (J.stop i H/\D.nx σ H)\/(J.go i H/\∃N:St->Hp->Prop,(∀ σ' H',N σ' H'->∃m',m' < m/\W (i+1) m' σ' H')/\∀x H',J.yld i H x H'->g x σ H' λσ2 H2=>tb {D with nx:=N,ct:=N,bk:=D.nx} σ2 H2)
def tL (fp:List Addr)(h:Heap):List (Addr×Obj):=fp.filterMap λb=>(h.get? b).map λo=>(b,o)
def n5 (hb:b∈fp)(e:h.get? b=some o):(b,o)∈tL fp h:=B8.mpr ⟨b,hb,by rw[e];rfl⟩
theorem NQ (hp:p∈tL fp h):p.1∈fp/\h.get? p.1=some p.2:=by
 obtain⟨b,hb,e⟩:=B8.mp hp;cases q:h.get? b with
 |none=>rw[q] at e;cases e
 |some o=>rw[q] at e;have e':(b,o)=p:=vK e;subst e';exact⟨hb,q⟩
def Inv.pinned (I:Inv X xf σ H s)(hf:∀b∈fp,qG X xf H b)(ho:∀b∈fp,∃o,s.heap.get? b=some o/\∀v,o.data≠.cell v):Inv X (xf++tL fp s.heap) σ H s:=
 I.pins_of λp hp=>(yz.mp hp).elim (λz=>I.pin p (wZ _ z)) λz=>by obtain⟨hb,e⟩:=NQ z;obtain⟨f0,f1,f2,_⟩:=hf p.1 hb;obtain⟨o,e',d⟩:=ho p.1 hb;rw[e] at e';cases e';exact⟨e,f0,f1,f2,d⟩
def Inv.unpinned (I:Inv X (xf++pl) σ H s):Inv X xf σ H s:=I.pins_of λp hp=>I.pin p (wZ _ (zf _ hp))
def zX (hp:PassesOwn (model X.prog X.w) X.A X.env X.xe)(hc:X.calm=true)(hi:PI X tg iter wi)(hg:PG X tg g)(hb:PSs X body tb)
  (hs:∀x,foldedSetIterable iter X.env x=pure x:=by intro _;rfl):PS X (.For tg iter body [] pos) (Jl wi g tb):=by
 intro xf s σ H D I h;refine wpAny_For (yp (@hi xf s σ H _ I h) λv s1 h1=>yp h1 λitv s2 h2=>?_) hs;obtain⟨it,fp,tn,J,H2,e,I2,T,st2,f2,W,⟨m0,w0⟩,turn⟩:=h2;subst e;have stat:∀ {H':Hp},(∀b∈fp,H' b=none)->∀b∈fp,qG X xf H' b:=λhn b hb=>⟨hn b hb,(f2 b hb).2⟩
 refine codeAny_forLoop_any (λn s'=>∃i σ' H',Inv X xf σ' H' s'/\tn i s'.heap/\(∀b∈fp,H' b=none)/\W i n σ' H') ?_ m0 ⟨0,σ,H2,I2,st2,λb hb=>(f2 b hb).1,w0⟩;rintro n s3 ⟨i,σ3,H3,I3,st3,fr3,w3⟩;rcases turn i n σ3 H3 w3 with ⟨stop,qn⟩|⟨go,N,hN,step⟩
 .refine a_ hp (yp (T.done X rfl rfl rfl hc i xf s3 σ3 H3 X.xe I3 (stat fr3) st3 stop) λr s4 ⟨hr,I4⟩=>?_);subst hr;exact Cm ⟨σ3,H3,I4,qn⟩
 .refine a_ hp (yp (T.item X rfl rfl rfl hc i xf s3 σ3 H3 X.xe I3 (stat fr3) st3 go) λr s4 ⟨u,hr,h4⟩=>?_);subst hr;refine a_ hp (yp h4 λ_ s5 ⟨x,H5,I5,r5,y5,st5,fr5⟩=>?_);have I5':=I5.pinned (stat fr5) (T.obj _ _ st5);refine a_ hp (yp (hg _ s5 σ3 H5 x u _ I5' r5 (step x H5 y5)) λ_ s6 ⟨σ6,H6,I6,q6⟩=>?_);refine a_ hp (yp (@hb _ s6 σ6 H6 _ I6 q6) λf s7 q7=>?_);have again:∀ {σ7:St} {H7:Hp},Inv X (xf++tL fp s5.heap) σ7 H7 s7->N σ7 H7->∃m,m<n/\∃i σ' H',Inv X xf σ' H' s7/\tn i s7.heap/\(∀b∈fp,H' b=none)/\W i m σ' H':=λ {σ7 H7} I7 n7=>by obtain⟨m',hm,w7⟩:=hN σ7 H7 n7;refine⟨m',hm,i+1,σ7,H7,I7.unpinned,T.keep _ _ _ st5 λb hb o e=>(I7.pin (b,o) (wZ _ (wZ _ (n5 hb e)))).1,λb hb=>?_,w7⟩;obtain⟨o,e,d⟩:=T.obj _ _ st5 b hb;exact(I7.pin (b,o) (wZ _ (wZ _ (n5 hb e)))).2.1
  cases f with
  |next=>obtain⟨σ7,H7,I7,n7⟩:=q7;exact again I7 n7
  |cont=>obtain⟨σ7,H7,I7,n7⟩:=q7;exact again I7 n7
  |brk=>obtain⟨σ7,H7,I7,q7⟩:=q7;exact⟨σ7,H7,I7.unpinned,q7⟩
  |ret v=>obtain⟨x7,σ7,H7,I7,r7,q7⟩:=q7;exact⟨x7,σ7,H7,I7.unpinned,r7,q7⟩
end
abbrev R2:=V->V->Hp->VK->Prop
def zy (X:Cx)(f:Value->Value->Sem Value)(r:R2):Prop:=
 ∀(xf:List (Addr×Obj)) (s:Shared) (σ:St) (H:Hp) (x y:V) (v u:Value) (Q:VK),Inv X xf σ H s->RelV x v->RelV y u->r x y H Q->
  wpAny (model X.prog X.w) X.A (f v u) (EP X xf σ Q) X.xe s
def UnR (X:Cx)(f:Value->Sem Value)(r:V->Hp->VK->Prop):Prop:=
 ∀(xf:List (Addr×Obj)) (s:Shared) (σ:St) (H:Hp) (x:V) (v:Value) (Q:VK),Inv X xf σ H s->RelV x v->r x H Q->
  wpAny (model X.prog X.w) X.A (f v) (EP X xf σ Q) X.xe s
def vv (X:Cx)(f:Value)(r:List V->Hp->VK->Prop):Prop:=
 ∀(xf:List (Addr×Obj)) (s:Shared) (σ:St) (H:Hp) (xs:List V) (us:List Value) (Q:VK),Inv X xf σ H s->yn xs us->r xs H Q->
  wpAny (model X.prog X.w) X.A (call f us) (EP X xf σ Q) X.xe s
def tOp (r:R2)(ta tb:TE):TE:=λσ H Q=>ta σ H λx H1=>tb σ H1 λy H2=>r x y H2 Q
def tUn (r:V->Hp->VK->Prop)(ta:TE):TE:=λσ H Q=>ta σ H λx H1=>r x H1 Q
def rI (C:Int->Int->Prop)(g:Int->Int->V):R2:=λx y H Q=>∃i j,x=.int i/\y=.int j/\C i j/\Q (g i j) H
def rI0 (g:Int->Int->V):R2:=λx y H Q=>∃i j,x=.int i/\y=.int j/\Q (g i j) H
def rU (g:Int->V):V->Hp->VK->Prop:=λx H Q=>∃i,x=.int i/\Q (g i) H
section
variable {X:Cx} {a b c:Expr} {ta tb tc:TE} {pos:Pos}
def ou (ha:PE X a ta)(hb:PE X b tb){xf:List (Addr×Obj)}{s:Shared}{σ:St}{H:Hp}{R:V->V->Hp->Prop}(I:Inv X xf σ H s)
  (h:ta σ H λx H1=>tb σ H1 λy H2=>R x y H2) {Q:Value->Shared->Prop} {f:Value->Value->Sem Value}
  (hf:∀v u s2 x y H2,Inv X xf σ H2 s2->RelV x v->RelV y u->R x y H2->wpAny (model X.prog X.w) X.A (f v u) Q X.xe s2) :
  wpAny (model X.prog X.w) X.A (eval a X.env) (λv s₁=>wpAny (model X.prog X.w) X.A (eval b X.env) (λu s₂=>wpAny (model X.prog X.w) X.A (f v u) Q X.xe s₂) X.xe s₁) X.xe s:=by
 refine yp (@ha xf s σ H _ I h) λv s1 ⟨x,H1,I1,r1,q1⟩=>?_;refine yp (@hb xf s1 σ H1 _ I1 q1) λu s2 ⟨y,H2,I2,r2,q2⟩=>?_;exact hf v u s2 x y H2 I2 r1 r2 q2
def xq {op:Operator}{r:R2}(ho:zy X (binaryOp op) r)(ha:PE X a ta)(hb:PE X b tb):PE X (.BinOp a op b pos) (tOp r ta tb):=by intro xf s σ H Q I h;exact wpAny_BinOp (ou ha hb I h λv u s2 x y H2 I2 rx ry q=>@ho xf s2 σ H2 x y v u Q I2 rx ry q)
def wO (ho:UnR X (unaryOp op) r)(ha:PE X a ta):PE X (.UnaryOp op a pos) (tUn r ta):=by intro xf s σ H Q I h;exact UnaryOp_ (yp (@ha xf s σ H _ I h) λv s1 ⟨x,H1,I1,r1,q1⟩=>@ho xf s1 σ H1 x v Q I1 r1 q1)
def opI {f:Value->Value->Sem Value}{C:Int->Int->Prop}{g:Int->Int->Int}
  (rule:∀(i j:Int) (t u:Tok) (s:Shared) (Q:Value->Shared->Prop) (E:Value->Shared->Prop),C i j->Q (.int (g i j) s.toks) {s with toks:=s.toks+1}->wpAny (model X.prog X.w) X.A (f (.int i t) (.int j u)) Q E s) :
  zy X f (rI C λi j=>.int (g i j)):=by
 intro xf s σ H x y v u Q I rx ry h;obtain⟨i,j,rfl,rfl,hc,q⟩:=h;obtain⟨t,rfl⟩:=rx;obtain⟨t',rfl⟩:=ry;exact rule i j t t' s _ _ hc ⟨.int (g i j),H,I.tok _,⟨_,rfl⟩,q⟩
def Hb {f:Value->Value->Sem Value}{g:Int->Int->Int}
  (rule:∀(i j:Int) (t u:Tok) (s:Shared) (Q:Value->Shared->Prop) (E:Value->Shared->Prop),Q (.int (g i j) s.toks) {s with toks:=s.toks+1}->wpAny (model X.prog X.w) X.A (f (.int i t) (.int j u)) Q E s) :
  zy X f (rI0 λi j=>.int (g i j)):=by
 intro xf s σ H x y v u Q I rx ry h;obtain⟨i,j,rfl,rfl,q⟩:=h;obtain⟨t,rfl⟩:=rx;obtain⟨t',rfl⟩:=ry;exact rule i j t t' s _ _ ⟨.int (g i j),H,I.tok _,⟨_,rfl⟩,q⟩
def bJ {f:Value->Value->Sem Value}{g:Int->Int->Bool}
  (rule:∀(i j:Int) (t u:Tok) (s:Shared) (Q:Value->Shared->Prop) (E:Value->Shared->Prop),Q (.bool (g i j)) s->wpAny (model X.prog X.w) X.A (f (.int i t) (.int j u)) Q E s) :
  zy X f (rI0 λi j=>.bl (g i j)):=by
 intro xf s σ H x y v u Q I rx ry h;obtain⟨i,j,rfl,rfl,q⟩:=h;obtain⟨t,rfl⟩:=rx;obtain⟨t',rfl⟩:=ry;exact rule i j t t' s _ _ ⟨.bl (g i j),H,I,rfl,q⟩
def CA (i j:Int):Prop:=0<=j/\j<=1000000/\i.natAbs<2^64
def mO (i j:Int):Prop:=(-(2^64)<i/\i<2^64)\/(-(2^64)<j/\j<2^64)
def mO.ok (h:mO i j):IntMulOk i j:=by
 rcases h with ⟨h1,h2⟩|⟨h1,h2⟩
 .exact .of_left (intBits_le_64 h1 h2)
 .exact .of_right (intBits_le_64 h1 h2)
def ux:zy X (binaryOp .Add) (rI0 λi j=>.int (i+j)):=Hb λ_ _ _ _ _ _ _ q=>add_int q
def zS:zy X (binaryOp .Sub) (rI0 λi j=>.int (i-j)):=Hb λ_ _ _ _ _ _ _ q=>sub_int q
def tG:zy X (binaryOp .Mult) (rI mO λi j=>.int (i*j)):=opI λ_ _ _ _ _ _ _ hc q=>mul_int q hc.ok
def s9:zy X (binaryOp .Mod) (rI (λ_ j=>0<j) λi j=>.int (i%j)):=opI λi j _ _ _ _ _ hc q=>by have h1:(0:Int)<j:=hc;exact mod_int' (by lia) (by rw[Int.fmod_eq_emod_of_nonneg i (by lia)];exact q)
def bK:zy X (binaryOp .Mod) (rI (λ_ j=>j≠0) λi j=>.int (i.fmod j)):=opI λ_ _ _ _ _ _ _ hc q=>mod_int' hc q
def Hf:zy X (binaryOp .Pow) (rI CA λi j=>.int (i^j.toNat)):=opI λ_ _ _ _ _ _ _ hc q=>pow_int_small hc.1 hc.2.1 hc.2.2 q
def unI {f:Value->Sem Value}{g:Int->Int}
  (rule:∀(i:Int) (t:Tok) (s:Shared) (Q:Value->Shared->Prop) (E:Value->Shared->Prop),Q (.int (g i) s.toks) {s with toks:=s.toks+1}->wpAny (model X.prog X.w) X.A (f (.int i t)) Q E s) :
  UnR X f (rU λi=>.int (g i)):=by
 intro xf s σ H x v Q I rx h;obtain⟨i,rfl,q⟩:=h;obtain⟨t,rfl⟩:=rx;exact rule i t s _ _ ⟨.int (g i),H,I.tok _,⟨_,rfl⟩,q⟩
def wQ:UnR X (unaryOp .USub) (rU λi=>.int (-i)):=unI λ_ _ _ _ _ q=>neg_int q
end
section
variable {X:Cx} {a b c:Expr} {ta tb tc:TE} {pos:Pos}
def He:zy X (compareOp .Lt) (rI0 λi j=>.bl (decide (i<j))):=bJ λ_ _ _ _ _ _ _ q=>lt_int q
def jn:zy X (compareOp .LtE) (rI0 λi j=>.bl (decide (i<=j))):=bJ λ_ _ _ _ _ _ _ q=>le_int q
def sZ:zy X (compareOp .Gt) (rI0 λi j=>.bl (decide (j<i))):=bJ λ_ _ _ _ _ _ _ q=>gt_int q
def Hd:zy X (compareOp .GtE) (rI0 λi j=>.bl (decide (j<=i))):=bJ λ_ _ _ _ _ _ _ q=>ge_int q
def zy.or (h:zy X f r)(h':zy X f r'):zy X f (λx y H Q=>r x y H Q\/r' x y H Q):=by
 intro xf s σ H x y v u Q I rx ry q;rcases q with q|q
 .exact @h xf s σ H x y v u Q I rx ry q
 .exact @h' xf s σ H x y v u Q I rx ry q
def yj (b:Expr)(h:op≠.In:=by decide)(h2:op≠.NotIn:=by decide):behindInMarks op b=false:=by
 have e1:(op==CmpOp.In)=false:=by cases op<;>first|rfl|exact absurd rfl h
 have e2:(op==CmpOp.NotIn)=false:=by cases op<;>first|rfl|exact absurd rfl h2
 cases b<;>simp[behindInMarks,e1,e2]
def uO {op:CmpOp}{r:R2}(ho:zy X (compareOp op) r)(ha:PE X a ta)(hb:PE X b tb)(hm:behindInMarks op b=false):PE X (.Compare a [op] [b] pos) (tOp r ta tb):=by intro xf s σ H Q I h;exact wpAny_Compare1 (ou ha hb I h λv u s2 x y H2 I2 rx ry q=>@ho xf s2 σ H2 x y v u Q I2 rx ry q) hm
def Bz (t:TE):TT:=λσ H Q=>t σ H λx H'=>∃k,x=.bl k/\Q k H'
def yG (ho:zy X (compareOp op) r)(ha:PE X a ta)(hb:PE X b tb)(hm:behindInMarks op b=false):PT X (.Compare a [op] [b] pos) (Bz (tOp r ta tb)):=by
 intro xf s σ H Q I h;refine wpAny_isTrue_Compare1 (yp (@ha xf s σ H _ I h) λv s1 ⟨x,H1,I1,r1,q1⟩=>yp (@hb xf s1 σ H1 _ I1 q1) λu s2 ⟨y,H2,I2,r2,q2⟩=>yp (@ho xf s2 σ H2 x y v u _ I2 r1 r2 q2) λc s3 ⟨z,H3,I3,r3,k,e,q3⟩=>?_) hm
 subst e;cases r3;exact fi ⟨H3,I3,q3⟩
def Jj (r r':R2)(ta tb tc:TE):TE:=λσ H Q=>ta σ H λx H1=>tb σ H1 λy H2=>r x y H2 λz H3=>∃k,z=.bl k/\
 (if k=true then tc σ H3 λw' H4=>r' y w' H4 Q else Q (.bl false) H3)
theorem Ro (ho:zy X (compareOp op) r)(ho':zy X (compareOp op') r')(ha:PE X a ta)(hb:PE X b tb)(hc:PE X c tc)
  (hm:lastMarks [op,op'] [b,c]=false:=by with_unfolding_all rfl):PT X (.Compare a [op,op'] [b,c] pos) (Bz (Jj r r' ta tb tc)):=by
 intro xf s σ H Q I h;refine isTrue_chain (yp (@ha xf s σ H _ I h) λv s1 ⟨x,H1,I1,r1,q1⟩=>test_link (yp (@hb xf s1 σ H1 _ I1 q1) λu s2 ⟨y,H2,I2,r2,q2⟩=>yp (@ho xf s2 σ H2 x y v u _ I2 r1 r2 q2) λd s3 ⟨z,H3,I3,r3,k,e,q3⟩=>?_)) hm
 subst e;cases r3;refine fi ?_;cases k with
 |false=>obtain⟨k',e',q'⟩:=q3;cases e';exact ite_ff ⟨H3,I3,q'⟩
 |true=>refine ite_tt (test_last (yp (@hc xf s3 σ H3 _ I3 q3) λw' s4 ⟨z',H4,I4,r4,q4⟩=>yp (@ho' xf s4 σ H4 y z' u w' _ I4 r2 r4 q4) λd' s5 ⟨z2,H5,I5,r5,k2,e2,q5⟩=>?_));subst e2;cases r5;exact fi ⟨H5,I5,q5⟩
def r_:(sizeLine:Nat)<2^63:=by rw[sizeLine_eq];decide
theorem vals1 (r:yn [x] us):∃u,us=[u]/\RelV x u:=by
 cases r with
 |cons r1 r2=>cases r2;exact⟨_,rfl,r1⟩
theorem vals2 (r:yn [x,y] us):∃u w',us=[u,w']/\RelV x u/\RelV y w':=by
 cases r with
 |cons r1 r2=>
  cases r2 with
  |cons r3 r4=>cases r4;exact⟨_,_,rfl,r1,r3⟩
def ja:vv X (.builtin "abs") (λxs H Q=>∃i,xs=[.int i]/\Q (.int (if i<0 then -i else i)) H):=by intro xf s σ H xs us Q I r h;obtain⟨i,rfl,q⟩:=h;obtain⟨u,rfl,t,rfl⟩:=vals1 r;exact call_abs_int λu tk=>⟨.int (if i<0 then -i else i),H,I.tok _,⟨_,rfl⟩,q⟩
def Lc (hc:X.calm=true):vv X (.builtin "max") (λxs H Q=>∃i j,xs=[.int i,.int j]/\Q (.int (if j>i then j else i)) H):=by
 intro xf s σ H xs us Q I r h;obtain⟨i,j,rfl,q⟩:=h;obtain⟨u,w',rfl,⟨t,rfl⟩,⟨t',rfl⟩⟩:=vals2 r;refine max_two_ints (I.ok.hd hc) λh' tk k=>⟨_,H,I.kept k,?_,q⟩
 by_cases hj:j>i
 .rw[xJ hj,xJ hj];exact⟨_,rfl⟩
 .rw[xG hj,xG hj];exact⟨_,rfl⟩
def Eg (hc:X.calm=true):vv X (.builtin "min") (λxs H Q=>∃i j,xs=[.int i,.int j]/\Q (.int (if j<i then j else i)) H):=by
 intro xf s σ H xs us Q I r h;obtain⟨i,j,rfl,q⟩:=h;obtain⟨u,w',rfl,⟨t,rfl⟩,⟨t',rfl⟩⟩:=vals2 r;refine min_two_ints (I.ok.hd hc) λh' tk k=>⟨_,H,I.kept k,?_,q⟩
 by_cases hj:j<i
 .rw[xJ hj,xJ hj];exact⟨_,rfl⟩
 .rw[xG hj,xG hj];exact⟨_,rfl⟩
end
structure pO (h:Heap)(x dx C:Addr)(mA:Str->Option Value):Prop where
 obj:h.get? x=some (PySem.W.instObj C dx)
 ns:h.Ns1 dx mA
 ne:dx≠x
def Nr {h:Heap}{dx:Addr}{mA:Str->Option Value}(n:h.Ns1 dx mA):∃od,h.get? dx=some od/\∀name,PySem.W.lookIn name od=some (mA name):=by
 obtain⟨o,es,ep,ho,hd,hk,_,hm⟩:=n;refine⟨o,ho,λname=>?_⟩;have e:=hm name;unfold nsFind findBy at e;rw[<-Array.find?_toList] at e;unfold PySem.W.lookIn;rw[hd];dsimp only;split
 .rename_i y q;rw[q] at e;exact zg some e
 .rename_i q;rw[q] at e;have a:es.toList.any (·.refKey)=false:=by rw[List.any_eq_false];intro y hy;obtain⟨z,t,hkey⟩:=hk y (Array.mem_toList_iff.mp hy);simp[DictEntry.refKey,hkey]
  have a':¬es.toList.any (·.refKey)=true:=by rw[a];exact uG
  rw[xG a'];exact zg some e
def pO.look (I:pO h x dx C mA):∃od,PySem.W.InstAt h x (PySem.W.instObj C dx) C (some od)/\∀name,PySem.W.lookIn name od=some (mA name):=
 let ⟨od,ho,hl⟩:=Nr I.ns
 ⟨od,⟨I.obj,rfl,rfl,ho⟩,hl⟩
section
variable {prog:Program} {w:World} {A:Around} {E:Value->Shared->Prop} {s:Shared} {K:xw} {x dx C f:Addr} {mA:Str->Option Value} {name:Str} {v:Value}
end
section
variable {P:Program} {w:World} {H H':Hp} {h h':Heap} {a C dx:Addr} {fs fs':List (Str×V)}
def MJ (hok:z_ P w H h)(e:H a=some (.ins C dx fs)):∃mA,pO h a dx C mA/\(∀f,dJ (fs.lookup f) (mA f))/\PySem.Within mA (fs.map (·.1))/\fs.length<=1000/\H dx=some (.own a):=by
 obtain⟨d,z,ne,ob,mA,n,r,q⟩:=(show wq P w H h a (.ins C dx fs) from hok a _ e)
 exact⟨mA,⟨ob,n,ne⟩,r,q,z,d⟩
end
structure Cls (K:xw)(C:Addr):Prop where
 pg:PySem.W.plainGet K C Str.empty=true
 hd:PySem.W.hasDictIn K C=true
 po:PySem.W.plainOver K C=true
 sa:PySem.W.findIn K (.ref C) "__setattr__" = some (some (.builtin "object.__setattr__"))
def Cls.get {K:xw}{C:Addr}(c:Cls K C)(f:Str):PySem.W.plainGet K C f=true:=c.pg
section
variable {X:Cx} {xf:List (Addr×Obj)} {σ:St} {H:Hp} {s:Shared} {a C dx:Addr} {fs:List (Str×V)} {f:Str} {v:V} {A:Around} {E:Value->Shared->Prop}
end
section
variable {X:Cx} {o e value:Expr} {f:Str} {pos pos' tpos:Pos} {ta tv:TE}
end
section
variable {X:Cx} {xf:List (Addr×Obj)} {σ:St} {H:Hp} {s:Shared} {A:Around} {E:Value->Shared->Prop} {Q:Value->Shared->Prop} {c:Value} {b:Bool}
inductive qc (K:xw)(H:Hp):V->Value->Prop where
 |non:qc K H .non (.type "NoneType")
 |bl (x:Bool):qc K H (.bl x) (.type "bool")
 |int (i:Int):qc K H (.int i) (.type "int")
 |str (x:Str):qc K H (.str x) (.type "str")
 |flt (x:UInt64):qc K H (.flt x) (.type "float")
 |lst {a:Addr} {xs:List V} (e:H a=some (.lst xs)):qc K H (.ref a) (.type "list")
 |frz {a:Addr} {o:Obj} {xs:List V} (e:H a=some (.frz o (.lst xs))):qc K H (.ref a) (.type "list")
 |tup {a:Addr} {xs:List V} (e:H a=some (.tup xs)):qc K H (.ref a) (.type "tuple")
 |dK {a:Addr} {xI:List (Key×V)} (e:H a=some (.dK xI)):qc K H (.ref a) (.type "dict")
 |dT {a:Addr} {xI:List (List Key×V)} (e:H a=some (.dT xI)):qc K H (.ref a) (.type "dict")
 |ins {a C dx:Addr} {fs:List (Str×V)} (e:H a=some (.ins C dx fs)) (cl:Cls K C) (ha:PySem.W.findIn K (.ref C) "__class__" = some (some (.builtin "object.__class__")))
   (hn:PySem.W.specialIn K (.builtin "object.__class__") "__get__" = some (some (.builtin "getset_descriptor.__get__"))) (htk:PySem.W.takesIn K (.builtin "object.__class__")=some true)
   (hm:PySem.W.mroIn K C (.type "object")=some true):qc K H (.ref a) (.ref C)
theorem MR (I:Inv X xf σ H s)(rx:RelV x u)(ty:qc X.K H x t)(e:PySem.W.kitOne X.K t c=some b)(h:∀tk,Q (.bool b) {s with toks:=tk}) :
  wpAny (model X.prog X.w) A (call (.builtin "isinstance") [u,c]) Q E s:=by
 cases ty with
 |non=>cases (show u=Value.none from rx);exact jB PySem.W.kitx_none I.kIn True.intro e (λz=>nomatch z) h
 |bl y=>cases (show u=Value.bool y from rx);exact jB PySem.W.kitx_bool I.kIn True.intro e (λz=>nomatch z) h
 |int i=>obtain⟨t,q⟩:=(show ∃t,u=Value.int i t from rx);cases q;exact jB PySem.W.kitx_int I.kIn True.intro e (λz=>nomatch z) h
 |str y=>obtain⟨t,q⟩:=(show ∃t,u=Value.str y t from rx);cases q;exact jB PySem.W.kitx_str I.kIn True.intro e (λz=>nomatch z) h
 |flt y=>obtain⟨t,q⟩:=(show ∃t,u=Value.float y t from rx);cases q;exact jB PySem.W.kitx_float I.kIn True.intro e (λz=>nomatch z) h
 |@lst a xs ea=>
  cases (show u=Value.ref a from rx);obtain⟨_,_,n,_,h1⟩:=(show wq X.prog X.w H s.heap a (.lst xs) from I.hok a _ ea)
  exact jB PySem.W.kitx_list I.kIn ⟨_,h1,rfl⟩ e (λz=>nomatch z) h
 |@frz a ob xs ea=>
  cases (show u=Value.ref a from rx);obtain⟨_,_,_,n,_,h1⟩:=(show wq X.prog X.w H s.heap a (.frz ob (.lst xs)) from I.hok a _ ea)
  exact jB PySem.W.kitx_list I.kIn ⟨_,h1,rfl⟩ e (λz=>nomatch z) h
 |@tup a xs ea=>
  cases (show u=Value.ref a from rx);obtain⟨_,_,_,p⟩:=(show wq X.prog X.w H s.heap a (.tup xs) from I.hok a _ ea)
  obtain⟨o,h1,h2,_⟩:=p;exact jB PySem.W.kitx_tuple I.kIn ⟨o,h1,h2⟩ e (λz=>nomatch z) h
 |@dK a xI ea=>
  cases (show u=Value.ref a from rx);obtain⟨_,_,vs,_,p⟩:=(show wq X.prog X.w H s.heap a (.dK xI) from I.hok a _ ea)
  obtain⟨o,es,ep,h1,h2,_⟩:=p;exact jB PySem.W.kitx_dict I.kIn ⟨o,h1,h2.1⟩ e (λz=>nomatch z) h
 |@dT a xI ea=>
  cases (show u=Value.ref a from rx);obtain⟨_,_,xs,_,o,es,ep,h1,h2,_⟩:=(show wq X.prog X.w H s.heap a (.dT xI) from I.hok a _ ea)
  exact jB PySem.W.kitx_dict I.kIn ⟨o,h1,h2.1⟩ e (λz=>nomatch z) h
 |@ins a C dx fs ea cl ha hn htk hm=>cases (show u=Value.ref a from rx);obtain⟨mA,O,_⟩:=MJ I.hok ea;obtain⟨od,J,_⟩:=O.look;exact jB (PySem.W.kitx_own (cl.get _) cl.hd ha hn htk hm) I.kIn J e (λz=>nomatch z) h
end
structure wR (k:Nat)(A:Around):Prop where
 hd:A.handled=none
 dp:A.depth+3*k+5<recursionLimit
 un:A.units+16*k+200<cLine
def wR.mono (r:wR k A)(h:j<=k):wR j A:=⟨r.hd,by have:=r.dp;lia,by have:=r.un;lia⟩
theorem wR.deeper (r:wR (k+1) A)(env:Env):wR k (A.deeper env):=⟨r.hd,by have:=r.dp;show A.depth+1+3*k+5<_;lia,by have:=r.un;show A.units+3+16*k+200<_;lia⟩
theorem wR.depth (r:wR k A):A.depth<recursionLimit:=by have:=r.dp;lia
theorem wR.units (r:wR k A):A.units+64<cLine:=by have:=r.un;lia
def vP:TA:=λ_ H Q=>Q [] H
def uC (ta:TE)(tr:TA):TA:=λσ H Q=>ta σ H λx H1=>tr σ H1 λxs H2=>Q (x::xs) H2
section
variable {X:Cx} {e:Expr} {es:List Expr} {te:TE} {t:TA} {pos:Pos}
def u5:PA X [] vP:=λ_ _ _ _ H Q I h=>Calls.spliced_nil ⟨[],H,I,.nil,h⟩
def yS (ha:PE X e te)(hr:PA X es t)(hs:starEach (e::es) X.env=(false,eval e X.env)::starEach es X.env:=by rfl):PA X (e::es) (uC te t):=by intro pos xf s σ H Q I h;rw[hs];show wpAny _ _ (spliced ((false,eval e X.env)::backTo pos (starEach es X.env))) _ _ s;refine Calls.spliced_cons (yp (@ha xf s σ H _ I h) λu s1 ⟨x,H1,I1,r1,q1⟩=>?_);exact yp (@hr pos xf s1 σ H1 _ I1 q1) λus s2 ⟨xs,H2,I2,r2,q2⟩=>⟨x::xs,H2,I2,.cons r1 r2,q2⟩
def Jz (t:TA):TE:=λσ H Q=>t σ H λxs H1=>xs.length<=sizeLine/\∀p,H1 p=none->Q (.ref p) (upd H1 p (.tup xs))
def By (t:TA):TE:=λσ H Q=>t σ H λxs H1=>xs.length<=sizeLine/\∀p,H1 p=none->Q (.ref p) (upd H1 p (.lst xs))
def yB (h:PA X es t):PE X (.Tuple es x1 pos) (Jz t):=by intro xf s σ H Q I hq;refine wpAny_Tuple_spliced (yp (@h pos xf s σ H _ I hq) λus s1 ⟨xs,H1,I1,r,z,q⟩=>⟨by rw[<-r.length];exact z,?_⟩);have hf:H1 s1.heap.objs.size=none:=I1.hok.fresh (ym _);refine⟨.ref s1.heap.objs.size,upd H1 s1.heap.objs.size (.tup xs),I1.laid (t':=s1.toks) (λb u e=>yZ _ e) (ym _) ?_,rfl,q _ hf⟩;exact⟨z,us,r,⟨_,wJ _ rfl,rfl,_,rfl⟩⟩
def wA (h:PA X es t):PE X (.List es pos) (By t):=by intro xf s σ H Q I hq;refine wpAny_List_spliced (yp (@h pos xf s σ H _ I hq) λus s1 ⟨xs,H1,I1,r,z,q⟩=>⟨by rw[<-r.length];exact z,?_⟩);have hf:H1 s1.heap.objs.size=none:=I1.hok.fresh (ym _);refine⟨.ref s1.heap.objs.size,upd H1 s1.heap.objs.size (.lst xs),I1.laid (t':=s1.toks) (λb u e=>yZ _ e) (ym _) ?_,rfl,q _ hf⟩;exact⟨z,us,0,r,wJ _ rfl⟩
end
abbrev Sp:=List V->Hp->VK->XK->Prop
abbrev CXT:=List Env->Hp->Shared->XK->Value->Shared->Prop
structure mR (P:Program)(w:World)(K:xw)(mg:Str->Option Value)(base:Heap)(A:Around)(outer:List Env)(s:Shared)(H:Hp):Prop where
 frames:A.frames=some outer
 mod:Mod K mg base
 bs:∀b o,base.get? b=some o->s.heap.get? b=some o/\H b=none
 bsz:base.objs.size<=s.heap.objs.size
 funs:s.heap.FunFrames base outer
 frf:∀b∈frs outer,H b=none
 hok:z_ P w H s.heap
 bare:AllBare s.gens
def CE (outer:List Env)(P:Program)(w:World)(H:Hp)(s:Shared)(Q:VK)(u:Value)(s':Shared):Prop:=∃v H',s'.os=s.os/\AllBare s'.gens/\Un (frs outer) [] H H' s.heap s'.heap/\z_ P w H' s'.heap/\RelV v u/\Q v H'
def CR (CX:CXT)(outer:List Env)(P:Program)(w:World)(H:Hp)(s:Shared)(Q:VK)(E:XK)(r:Result)(s':Shared):Prop:=
 match r with
 |.ok (.ret u)=>CE outer P w H s Q u s'
 |.ok _=>False
 |.error e=>CX outer H s E e s'
structure u_ (P:Program)(w:World)(K:xw)(mg:Str->Option Value)(base:Heap)(CX:CXT)(k:Nat)(f:Addr)(fd:FuncData)(ps:List Str)(sp:Sp):Prop where
 len:∀vs H Q E,sp vs H Q E->vs.length=ps.length
 run:∀(A:Around) (outer:List Env) (s:Shared) (H:Hp) (args:Args) (us:List Value) (vs:List V) (Q:VK) (E:XK),wR k A->mR P w K mg base A outer s H->BindsTo s fd args (ps.zip us)->yn vs us->sp vs H Q E->
  codeAny (model P w) A (.call (.ref f) args) (CR CX outer P w H s Q E) s
theorem u_.mono {P:Program}{w:World}{K:xw}{mg:Str->Option Value}{base:Heap}{CX:CXT}{j k:Nat}{f:Addr}{fd:FuncData}{ps:List Str}{sp:Sp}(F:u_ P w K mg base CX j f fd ps sp)(h:j<=k) :
  u_ P w K mg base CX k f fd ps sp:=⟨F.len,λA outer s H args us vs Q E hr=>F.run A outer s H args us vs Q E (hr.mono h)⟩
def u_.imp {P:Program}{w:World}{K:xw}{mg:Str->Option Value}{base:Heap}{CX:CXT}{k:Nat}{f:Addr}{fd:FuncData}{ps:List Str}{sp sp':Sp}(F:u_ P w K mg base CX k f fd ps sp)
  (h:∀vs H Q E,sp' vs H Q E->sp vs H Q E):u_ P w K mg base CX k f fd ps sp' :=
 ⟨λvs H Q E q=>F.len vs H Q E (h _ _ _ _ q),λA outer s H args us vs Q E hr he hb hv hs=>F.run A outer s H args us vs Q E hr he hb hv (h _ _ _ _ hs)⟩
section
variable {X:Cx} {xf:List (Addr×Obj)} {σ:St} {H:Hp} {s s':Shared}
def Inv.env0 (I:Inv X xf σ H s):mR X.prog X.w X.K X.mg X.base X.A X.stack s H:=⟨I.ok.frames,I.ok.mod,I.bs,vt I.ok.bsz I.sz,I.stack,I.stkFree,I.hok,I.bare⟩
def Inv.after (I:Inv X xf σ H s)(h:CE X.stack X.prog X.w H s Q u s'):EP X xf σ Q u s':=by obtain⟨v,H',os,bare,un,hok,r,q⟩:=h;obtain⟨hh,g,d,t,os'⟩:=s';obtain rfl:os'=s.os:=os;exact⟨v,H',I.call (h':=hh) (g':=g) (d':=d) (t':=t) (ch:=[]) un hok bare (λb z=>absurd z (by simp)),r,q⟩
end
def Tj (sp:Sp)(dvs:List V)(E:XK)(t:TA):TE:=λσ H Q=>t σ H λvs H1=>sp (vs++dvs) H1 Q E
def Binds (K:xw)(fd:FuncData)(ps:List Str)(ds:List Value):Prop:=∀(s:Shared) (us:List Value),K.In s.heap->(us++ds).length=ps.length->BindsTo s fd ⟨us,[]⟩ (ps.zip (us++ds))
def Binds.all {K:xw}{fd:FuncData}{ps:List Str}(h:∀us:List Value,us.length=ps.length->bindArgs fd ⟨us,[]⟩=pure (ps.zip us)):Binds K fd ps []:=λs us _ hl=>by rw[uH] at hl ⊢;exact .of_eq (h us hl)
def pQ (CX:CXT)(X:Cx)(E:XK):Prop:=∀(xf:List (Addr×Obj)) (σ:St) (H:Hp) (s:Shared) (e:Value) (s':Shared),Inv X xf σ H s->CX X.stack H s E e s'->X.xe e s'
section
variable {X:Cx} {CX:CXT} {k:Nat} {f C:Addr} {fd:FuncData} {ps:List Str} {sp:Sp} {dvs:List V} {ds:List Value} {E:XK} {x m:Str} {p pos apos:Pos} {e o:Expr} {es:List Expr} {ta:TE} {t:TA}
theorem RU (F:u_ X.prog X.w X.K X.mg X.base CX k f fd ps sp)(hr:wR k X.A)(hb:Binds X.K fd ps ds)(hd:yn dvs ds)(hx:pQ CX X E)
  (I:Inv X xf σ H s) (r:yn vs us) (h:sp (vs++dvs) H Q E):wpAny (model X.prog X.w) X.A (call (.ref f) us) (EP X xf σ Q) X.xe s:=by
 have r2:yn (vs++dvs) (us++ds):=r.append hd;have hl:(us++ds).length=ps.length:=by rw[<-r2.length];exact F.len _ _ _ _ h
 refine wpAny_call (codeAny_mono (F.run X.A X.stack s H ⟨us,[]⟩ (us++ds) (vs++dvs) Q E hr I.env0 (hb s us I.kIn hl) r2 h) λr s' hq=>?_);cases r with
 |error e=>exact hx xf σ H s e s' I hq
 |ok fl=>
  cases fl with
  |ret u=>exact I.after hq
  |next=>exact False.elim hq
  |brk=>exact False.elim hq
  |cont=>exact False.elim hq
def Q_ (F:u_ X.prog X.w X.K X.mg X.base CX k f fd ps sp)(hr:wR k X.A)(hg:Gl X x)(hm:X.mg x=some (.ref f))(hk:PySem.W.keepIn X.K (.ref f)=true)(hb:Binds X.K fd ps ds)(hd:yn dvs ds)(hx:pQ CX X E)
  (ha:PA X (e::es) t) (hdb:(x==("__debug__" : Str))=false:=by decide) (he:starEach (e::es) X.env=(false,eval e X.env)::starEach es X.env:=by rfl) (hpl:(backTo pos (starEach es X.env)).any (·.1)=false:=by rfl) :
  PE X (.Call (.Name x p) (e::es) [] pos) (Tj sp dvs E t):=by
 intro xf s σ H Q I h;refine Ko (Gs I hg hm ?_ hdb);refine PySem.W.callWith_K (h₀:=X.base) I.ok.mod.kin hk (yp (@ha pos xf s σ H _ I h) λus s1 ⟨vs,H1,I1,r,q⟩=>⟨I1.kIn,?_⟩) he hpl;exact RU F hr hb hd hx I1 r q
end
section
variable {X:Cx} {CX:CXT} {k:Nat} {f C:Addr} {fd:FuncData} {ps ks:List Str} {sp:Sp} {E:XK} {x m:Str} {p pos apos kpos:Pos} {e o:Expr} {es:List Expr} {kws:List Keyword} {te ta:TE} {t tk:TA} {nm:Option Str}
variable {g:List Value->List Value->List Value} {gV:List V->List V->List V}
end
structure xW (N P:List Str)(sc:Scope):Prop where
 kind:sc.kind=.function
 co:sc.isCoroutine=false
 gen:sc.isGenerator=false
 nd:N.Nodup
 pre:N.take P.length=P
 par:∀x∈P,sc.names.lookup x=some .local\/sc.names.lookup x=some .cell
 nofree:∀y∈sc.names,y.2≠.free
theorem D8 {kindOf:Str->Option NameKind}{x:Str}:∀ {binds:List (Str×Value)} {m:Str->Option Value},(∀v,(x,v)∉binds)->bindL kindOf binds m x=m x
 |[],_,_=>rfl
 | (n,v)::r,m,h=>by
  unfold bindL;rw[D8 λw hw=>h w (yI _ hw)];split
  .have:x≠n:=by rintro rfl;exact h v xU
   simp[this]
  .rfl
theorem D6 {kindOf:Str->Option NameKind}{x:Str}:∀ {binds:List (Str×Value)} {m:Str->Option Value},(∀v,(x,v)∉binds)->bindC kindOf binds m x=m x
 |[],_,_=>rfl
 | (n,v)::r,m,h=>by
  unfold bindC;rw[D6 λw hw=>h w (yI _ hw)];split
  .rfl
  .have:x≠n:=by rintro rfl;exact h v xU
   simp[this]
theorem D7 {kindOf:Str->Option NameKind}{x:Str}{v:Value}:∀ {P:List Str} {vs:List Value} {i:Nat} {m:Str->Option Value},P.Nodup->P[i]?=some x->vs[i]?=some v->kindOf x=some .local->
  bindL kindOf (P.zip vs) m x=some v
 |[],_,_,_,_,h,_,_=>by simp at h
 |_::_,[],_,_,_,_,h,_=>by simp at h
 |p::P,w::vs,0,m,nd,h1,h2,hk=>by simp at h1 h2;subst h1;subst h2;show bindL kindOf ((p,w)::P.zip vs) m p=_;unfold bindL;rw[D8 λv hv=>(mz.mp nd).1 (mB hv).1,xJ hk];simp
 |p::P,w::vs,i+1,m,nd,h1,h2,hk=>by show bindL kindOf ((p,w)::P.zip vs) m x=_;unfold bindL;exact D7 (i:=i) (mz.mp nd).2 (by simpa using h1) (by simpa using h2) hk
theorem D5 {kindOf:Str->Option NameKind}{x:Str}{v:Value}:∀ {P:List Str} {vs:List Value} {i:Nat} {m:Str->Option Value},P.Nodup->P[i]?=some x->vs[i]?=some v->kindOf x≠some .local->
  bindC kindOf (P.zip vs) m x=some v
 |[],_,_,_,_,h,_,_=>by simp at h
 |_::_,[],_,_,_,_,h,_=>by simp at h
 |p::P,w::vs,0,m,nd,h1,h2,hk=>by simp at h1 h2;subst h1;subst h2;show bindC kindOf ((p,w)::P.zip vs) m p=_;unfold bindC;rw[D6 λv hv=>(mz.mp nd).1 (mB hv).1,xG hk];simp
 |p::P,w::vs,i+1,m,nd,h1,h2,hk=>by show bindC kindOf ((p,w)::P.zip vs) m x=_;unfold bindC;exact D5 (i:=i) (mz.mp nd).2 (by simpa using h1) (by simpa using h2) hk
def start (N:List Str)(vs:List V):St:=vs.map some++List.replicate (N.length-vs.length) none
def kF (CX:CXT)(P:Program)(w:World)(K:xw)(mg:Str->Option Value)(base:Heap)(N:List Str)(qual:Str)(scope:Scope)(f:Addr)(cd:Value)(A:Around)(outer:List Env)(s:Shared)(H:Hp)(E:XK):Cx where
 prog:=P
 w:=w
 K:=K
 mg:=mg
 base:=base
 A:=A.deeper (envOfC qual scope s.heap.objs.size f cd)
 N:=N
 s₀:=s
 H₀:=H
 env:=envOfC qual scope s.heap.objs.size f cd
 outer:=outer
 stack:=envOfC qual scope s.heap.objs.size f cd::outer
 ex:=[]
 calm:=true
 fn:=λ_=>true
 pn:=[]
 xe:=λe s'=>wpAny (model P w) (A.deeper (envOfC qual scope s.heap.objs.size f cd)) (leaving (envOfC qual scope s.heap.objs.size f cd) e) (λ_ s''=>CX outer H s E e s'') (λe' s''=>CX outer H s E e' s'') s'
def Ek {sc:Scope}{n:Nat}{x:Str}(h:sc.names.lookup x=some .cell):∃c,(cellsFrom n sc.names []).lookup x=some c:=by have q:=PySem.W.cellsFrom_some sc.names n [] (.inl h);exact Option.isSome_iff_exists.mp q
def MN {CX:CXT}{P:Program}{w:World}{K:xw}{mg:Str->Option Value}{base:Heap}{N ps:List Str}{qual:Str}{scope:Scope}{f:Addr}{cd:Value}{A:Around}{outer:List Env}{s s1:Shared}{H:Hp}{E:XK}{us:List Value}{vs:List V}
  (S:xW N ps scope) (hd:A.handled=none) (e0:mR P w K mg base A outer s H) (hl:vs.length=ps.length) (r:yn vs us)
  (x:InCallC s s.heap.objs.size (bindL (envOfC qual scope s.heap.objs.size f cd).kindOf (ps.zip us) λ_=>none) (cellsFrom (s.heap.objs.size+1) scope.names []) (bindC (envOfC qual scope s.heap.objs.size f cd).kindOf (ps.zip us) λ_=>none) s1) :
  Inv (kF CX P w K mg base N qual scope f cd A outer s H E) [] (start N vs) H s1:=by
 have hpl:ps.length<=N.length:=by have:=zg List.length S.pre;rw[uQ] at this;lia
 obtain⟨h1,tk,rfl,hk⟩:=x.done;have noA:∀b:Addr,b∉(kF CX P w K mg base N qual scope f cd A outer s H E).ex:=λb z=>absurd (show b∈([]:List Addr) from z) (by simp);refine⟨⟨e0.mod,S.kind,rfl,rfl,ym _,λy z c h1 h2=>?_,λy hy=>?_,λy c _ h=>?_,λ_=>hd,Around.frames_deeper e0.frames,.inr ⟨rfl,rfl⟩,λb z=>absurd z (noA b),e0.bs,e0.bsz,λb _ _=>noA b,λb z=>absurd z (noA b),e0.funs,e0.frf⟩,rfl,e0.bare,Un.kept hk,⟨_,x.toInCall.ns,λi y v h1 h2 h3=>?_⟩,λy c h=>⟨_,x.cell y c h⟩,e0.hok.fresh (ym _),λy c h=>?_,λp hp=>absurd (show p∈([]:List (Addr×Obj)) from hp) (by simp),e0.hok.kept hk,?_⟩
 .exact name_of_addr x.apart (aU h1) (aU h2)
 .have hy:scope.names.lookup y=some .cell\/scope.names.lookup y=some .free:=hy;rcases hy with hy|hy
  .exact Ek hy
  .exact absurd rfl (S.nofree _ (aU hy))
 .exact mC (x.above y c (aU h))
 .have hi:i<vs.length:=by
   unfold start at h2;by_cases hi:i<vs.length
   .exact hi
   .rw[mr (by simpa using hi)] at h2;rw[BX] at h2;split at h2<;>cases h2
  have ha:vs[i]?=some v:=by
   unfold start at h2;rw[pF (by simpa using hi),ue] at h2;cases e:vs[i]? with
   |none=>rw[e] at h2;cases h2
   |some a=>rw[e] at h2;cases h2;rfl
  obtain⟨u,hu,rv⟩:=r.get ha;have hp:ps[i]?=some y:=by rw[<-S.pre,List.getElem?_take_of_lt (by lia)];exact h1
  have ndP:ps.Nodup:=by rw[<-S.pre];exact S.nd.sublist (List.take_sublist _ _)
  refine⟨u,rv,?_⟩;rcases S.par y (zq hp) with k|k
  .exact .inl ⟨k,D7 ndP hp hu k⟩
  .obtain⟨c,e⟩:=Ek (n:=s.heap.objs.size+1) k;refine .inr ⟨.inl k,c,e,?_⟩;have q:=x.cell y c e;rw[D5 ndP hp hu (by show scope.names.lookup y≠_;rw[k];decide)] at q;exact q
 .exact e0.hok.fresh (mC (x.above y c (aU h)))
 .unfold start;show _=N.length;rw[ze,xP,aP];lia
theorem Mj {CX:CXT}{P:Program}{w:World}{K:xw}{mg:Str->Option Value}{base:Heap}{k:Nat}{f:Addr}{name qual:Str}{params:Arguments}{body:List Stmt}{scope:Scope}{dV kV doc pm cdv ct oc:Value}{an od:Option Addr}
  {osl:Array (Option Value)} {N ps:List Str} {sp:Sp} (lk:K.lookup f=some ⟨oc,od,.func (PySem.W.fnOf name qual params body scope dV kV doc pm an cdv ct),osl⟩) (hcd:PySem.W.codeIn K cdv qual=true) (S:xW N ps scope)
  (len:∀vs H Q E,sp vs H Q E->vs.length=ps.length)
  (hbody:∀(A:Around) (outer:List Env) (s:Shared) (H:Hp) (vs:List V) (Q:VK) (E:XK),wR k (A.deeper (envOfC qual scope s.heap.objs.size f cdv))->sp vs H Q E->∃t,PSs (kF CX P w K mg base N qual scope f cdv A outer s H E) body t/\t {nx:=λ_ H'=>Q .non H',rt:=Q} (start N vs) H) :
  u_ P w K mg base CX (k+1) f (PySem.W.fnOf name qual params body scope dV kV doc pm an cdv ct) ps sp:=by
 refine⟨len,λA outer s H args us vs Q E hr e0 hb r hsp=>?_⟩;have hl:=len _ _ _ _ hsp;have KX:K.In s.heap:=e0.mod.kin.keeps λb o e=>(e0.bs b o e).1;have lim:s.heap.NoLimit:=e0.mod.nolimit.keeps λb o e=>(e0.bs b o e).1;have hkind:∀y∈ps.zip us,scope.names.lookup y.1=some .local\/(scope.names.lookup y.1=some .cell/\((cellsFrom (s.heap.objs.size+1) scope.names []).lookup y.1).isSome=true):=λ⟨n,v⟩ hy=>by
  rcases S.par n (mB hy).1 with q|q
  .exact .inl q
  .exact .inr ⟨q,PySem.W.cellsFrom_some _ _ _ (.inl q)⟩
 refine codeAny_call_function hr.depth (KX _ _ lk) rfl S.co S.gen rfl (PySem.W.codeRec_of KX hcd) (hb _ _ _ _ ?_);refine wpAny_newFunctionEnv_cells S.kind hkind λenv he s1 x=>?_;subst he;refine⟨lim.keeps x.toInCall.keep,codeAny_func ?_⟩;obtain⟨t,ht,hq⟩:=hbody A outer s H vs Q E (hr.deeper _) hsp;have I:Inv (kF CX P w K mg base N qual scope f cdv A outer s H E) [] (start N vs) H s1:=MN S hr.hd e0 hl r x;refine vR (@ht [] s1 (start N vs) H _ I hq) (λfl s' hs=>?_) λe s' hs=>hs;have fin:∀ {σ':St} {H':Hp} {v:V} {u:Value},Inv (kF CX P w K mg base N qual scope f cdv A outer s H E) [] σ' H' s'->RelV v u->Q v H'->CE outer P w H s Q u s' :=λ {σ' H' v u} J rv q=>⟨v,H',J.os,J.bare,J.base,J.hok,rv,q⟩
 cases fl with
 |ret u=>obtain⟨v,σ',H',J,rv,q⟩:=hs;exact fin J rv q
 |next=>obtain⟨σ',H',J,q⟩:=hs;exact fin (v:=V.non) (u:=Value.none) J rfl q
 |brk=>obtain⟨_,_,_,q⟩:=hs;exact False.elim q
 |cont=>obtain⟨_,_,_,q⟩:=hs;exact False.elim q
section
variable {X:Cx} {x:Str} {p pos:Pos} {e:Expr} {es:List Expr} {t:TA} {id T:String} {r:List V->Hp->VK->Prop}
def tCB (r:List V->Hp->VK->Prop)(t:TA):TE:=λσ H Q=>t σ H λvs H1=>r vs H1 Q
def yO (hc:vv X (.builtin id) r)(hg:Gl X x)(hm:X.mg x=none)(hv:bootBuiltins x=some (.builtin id))(ha:PA X (e::es) t)(hn:x ≠ "__name__" := by decide)(hdb:(x==("__debug__" : Str))=false:=by decide)
  (he:starEach (e::es) X.env=(false,eval e X.env)::starEach es X.env:=by rfl) (hpl:(backTo pos (starEach es X.env)).any (·.1)=false:=by rfl):PE X (.Call (.Name x p) (e::es) [] pos) (tCB r t):=by
 intro xf s σ H Q I h;refine Ko (sG I hg hm hv ?_ hn hdb);exact PyProof.Rows.callWith_builtin1 (yp (@ha pos xf s σ H _ I h) λus s1 ⟨vs,H1,I1,r1,q1⟩=>@hc xf s1 σ H1 vs us Q I1 r1 q1) he hpl
def jW (hc:vv X (.type T) r)(hg:Gl X x)(hm:X.mg x=none)(hv:bootBuiltins x=some (.type T))(ha:PA X (e::es) t)(hn:x ≠ "__name__" := by decide)(hdb:(x==("__debug__" : Str))=false:=by decide)
  (he:starEach (e::es) X.env=(false,eval e X.env)::starEach es X.env:=by rfl) (hpl:(backTo pos (starEach es X.env)).any (·.1)=false:=by rfl):PE X (.Call (.Name x p) (e::es) [] pos) (tCB r t):=by
 intro xf s σ H Q I h;refine Ko (sG I hg hm hv ?_ hn hdb);exact Cj (yp (@ha pos xf s σ H _ I h) λus s1 ⟨vs,H1,I1,r1,q1⟩=>@hc xf s1 σ H1 vs us Q I1 r1 q1) he hpl
end
end L2
namespace HT
open PySem PyProof.Rows
def lexLt:List Int->List Int->Bool
 |[],[]=>false
 |[],_::_=>true
 |_::_,[]=>false
 |x::xs,y::ys=>if x=y then lexLt xs ys else decide (x<y)
def Nk (x y:Int)(xs ys:List Int):lexLt (x::xs) (y::ys)=if x=y then lexLt xs ys else decide (x<y):=rfl
def Nn:lexLt [] []=false:=rfl
def Nm (y:Int)(ys:List Int):lexLt [] (y::ys)=true:=rfl
def Nl (x:Int)(xs:List Int):lexLt (x::xs) []=false:=rfl
def LY (A:Around)(s:Shared)(a:Int)(t:Tok)(c:Int)(u:Tok):∃e,SeqAt.EqAt A s (.int a t) (.int c u) e/\(e=true↔a=c):=⟨(a==c),SeqAt.EqAt.int_int a t c u,by simp⟩
def Rz (A:Around)(s:Shared)(a:Int)(t:Tok)(c:Int)(u:Tok)(prog:Program)(w:World)(E Q:Value->Shared->Prop)(h:Q (.bool (decide (a<c))) s) :
  wpAny (model prog w) A (richCompare .Lt (.int a t) (.int c u)) Q E s:=
 (PyProof.Rows.lt_int h:wpAny (model prog w) A (compareOp .Lt (.int a t) (.int c u)) Q E s)
section
open PySem.SeqAt
open PySem.AutoSeq1 (wpAny_loadPart')
open PySem.MeetsSeq PySem.MeetsSeq2 PySem.MeetsSeq3
def Tx (l b:Addr)(items items2:Array Value)(n n2:Nat)(dd dd2:Option Addr)(sl sl2:Array (Option Value))(ns ms:List Int)(hi:IntsAre items.toList ns)(hj:IntsAre items2.toList ms) :
  Meets (Builtin.«tuple.__lt__» ⟨[.ref l,.ref b],[]⟩)
   (λ_ R s=>s.heap.get? l=some {cls:=.type "tuple", dict:=dd,data:=.seq items n,slots:=sl}/\s.heap.get? b=some {cls:=.type "tuple", dict:=dd2,data:=.seq items2 n2,slots:=sl2}/\R (.ok (.ret (.bool (lexLt ns ms)))) s):=
 .of_wp λprog w A R s h=>by
  obtain⟨hp,g,d,tk,os⟩:=s;obtain⟨hl,hb,h⟩:=h;have f2:=AutoSeq1.sub_tuple_tuple;have z1:items.size=ns.length:=by rw[<-hi.length];simp
  have z2:items2.size=ms.length:=by rw[<-hj.length];simp
  wp_walk using ko hl,ko hb,wpAny_forIn_list _ (λrest b s'=>b.1=none/\s'=⟨hp,g,d,tk,os⟩/\∃(vs ws:List Value) (ns' ms':List Int),rest=vs.zip ws/\IntsAre vs ns'/\IntsAre ws ms'/\ns'.length+items2.size=ms'.length+items.size/\R (.ok (.ret (.bool (lexLt ns' ms')))) ⟨hp,g,d,tk,os⟩) _
  case turn=>
   rintro⟨y,x⟩ rest b s' ⟨hb',rfl,vs,ws,ns',ms',hz,hvi,hwi,hlen,hR⟩;cases hvi with
   |nil=>rw[List.zip_nil_left] at hz;cases hz
   |cons a t hvi' =>
    cases hwi with
    |nil=>rw[List.zip_nil_right] at hz;cases hz
    |cons c u hwi' =>
     rw[dD] at hz;injection hz with hyx hrest;injection hyx with hy hx;subst hy hx;rw[Nk] at hR;simp only[wC] at hlen;obtain⟨e,he,hiff⟩:=LY A.in1 ⟨hp,g,d,tk,os⟩ a t c u;refine xj (he prog w _ _ ?_);cases e with
     |true=>
      rw[xJ (hiff.mp rfl)] at hR
      wp_walk
      exact⟨rfl,rfl,_,_,_,_,hrest,hvi',hwi',by lia,hR⟩
     |false=>
      rw[xG (λq=>absurd (hiff.mpr q) uG)] at hR;have hri:=Rz A.in1 ⟨hp,g,d,tk,os⟩ a t c u prog w
      wp_walk using hri
      exact⟨_,rfl,by simpa using hR⟩
  case fin=>
   rintro⟨b1,b2⟩ s' ⟨hb',rfl,vs,ws,ns',ms',hz,hvi,hwi,hlen,hR⟩;simp only at hb';subst hb';have hv:lexLt ns' ms'=decide (items.size<items2.size):=by
    cases hvi with
    |nil=>
     cases hwi with
     |nil=>simp only[hG] at hlen;rw[Nn];exact(uU (by lia)).symm
     |cons c u hw=>simp only[hG,wC] at hlen;rw[Nm];exact(wF (by lia)).symm
    |cons a t hv=>
     cases hwi with
     |nil=>simp only[hG,wC] at hlen;rw[Nl];exact(uU (by lia)).symm
     |cons c u hw=>rw[dD] at hz;cases hz
   rw[hv] at hR
   wp_walk
   exact⟨_,rfl,by simpa [Builtin.Tuple.tupleCompareSizes] using hR⟩
  case h=>exact⟨rfl,rfl,items.toList,items2.toList,ns,ms,rfl,hi,hj,by lia,h⟩
end
section
variable {prog:Program} {w:World} {A:Around} {E:Value->Shared->Prop} {s:Shared}
def Nt (hl:IsTup s.heap l items)(hb:IsTup s.heap b items2)(hi:IntsAre items.toList ns)(hj:IntsAre items2.toList ms)
  (hu:A.units<cLine) (h:Q (.bool (lexLt ns ms)) s):wpAny (model prog w) A (compareOp .Lt (.ref l) (.ref b)) Q E s:=by
 obtain⟨⟨cls,dd,data,sl⟩,ho,hc,n,hd⟩:=id hl;obtain⟨⟨cls2,dd2,data2,sl2⟩,ho2,hc2,n2,hd2⟩:=id hb;simp only at hc hd hc2 hd2;subst hc hd hc2 hd2;exact richCompare_meets_room (op:=.Lt) ⟨_,ho,rfl⟩ ⟨_,ho2,rfl⟩ PySem.F.slot_tuple_lt PySem.F.entry_tuple_lt (PySem.F.args_tuple_lt_2 _ _) (Tx l b items items2 n n2 dd dd2 sl sl2 ns ms hi hj)
  ⟨ho,ho2,show Value.bool (lexLt ns ms)≠Value.notImplemented/\Q (.bool (lexLt ns ms)) s from⟨(λx=>nomatch x),h⟩⟩ hu
def Lg (ht:IsTup s.heap t vs.toArray)(hb:IsTup s.heap b ws.toArray)(hv:vs≠[])
  (h1:ws=[]->Q (.ref t) s) (h2:ws≠[]->Q (.ref s.heap.objs.size) {s with heap:=s.heap.push {cls:=.type "tuple", data:=.seq (vs++ws).toArray} })
  (hsz:vs.length+ws.length<=sizeLine):wpAny (model prog w) A (binaryOp .Add (.ref t) (.ref b)) Q E s:=by
 obtain⟨⟨cls,dd,data,sl⟩,ho,hc,n,hd⟩:=id ht;obtain⟨⟨cls2,dd2,data2,sl2⟩,ho2,hc2,n2,hd2⟩:=id hb;simp only at hc hd hc2 hd2;subst hc hd hc2 hd2;have e:vs.toArray++ws.toArray=(vs++ws).toArray:=by simp
 by_cases hw:ws=[]
 .exact concat_meets ⟨_,ho,rfl⟩ ⟨_,ho2,rfl⟩ Kn seq_tuple_add Kl Kk (Kj _ _)
   (tuple_addW1 t b vs.toArray ws.toArray n n2 dd dd2 sl sl2 (by simpa using hv) (by simp[hw])) ⟨ho,ho2,h1 hw⟩
 .refine concat_meets ⟨_,ho,rfl⟩ ⟨_,ho2,rfl⟩ Kn seq_tuple_add Kl Kk (Kj _ _)
   (tuple_addW2 t b vs.toArray ws.toArray n n2 dd dd2 sl sl2 (by simpa using hv) (by simpa using hw) (by rw[wo,wo];exact hsz)) ⟨ho,ho2,?_⟩
  rw[e];exact h2 hw
def yr (n d:Nat):Option Int->Nat
 |none=>d
 |some v=>if v<0 then(v+(n:Int)).toNat else min v.toNat n
def IA (n d:Nat):yr n d none=d:=rfl
def Iz (n d k:Nat):yr n d (some (k:Int))=min k n:=by show(if (k:Int)<0 then((k:Int)+(n:Int)).toNat else min (k:Int).toNat n)=min k n;rw[xG (by lia),jx]
theorem RX (n d:Nat)(hd:d<=n)(o:Option Int):yr n d o<=n:=by
 cases o with
 |none=>exact hd
 |some v=>
  show(if v<0 then(v+(n:Int)).toNat else min v.toNat n)<=n;by_cases hv:v<0
  .rw[xJ hv];lia
  .rw[xG hv];exact Kg _ _
def Ep (v:Int)(n d:Nat):(if v<0 then max (v+(n:Int)) 0 else min v (n:Int))=((yr n d (some v):Nat):Int):=by
 show(if v<0 then max (v+(n:Int)) 0 else min v (n:Int))=(((if v<0 then(v+(n:Int)).toNat else min v.toNat n):Nat):Int)
 by_cases hv:v<0
 .simp only[xJ hv];lia
 .simp only[xG hv];lia
def Ky (lo hi:Option Int)(n:Nat):Builtin.Slice.sliceAdjust lo hi 1 (n:Int)=(((yr n 0 lo:Nat):Int),((yr n n hi:Nat):Int)):=by
 have h1:¬((1:Int)<0):=by lia
 unfold Builtin.Slice.sliceAdjust;simp only[h1,qF];refine zC ?_ ?_
 .cases lo with
  |none=>rfl
  |some v=>exact Ep v n 0
 .cases hi with
  |none=>rfl
  |some v=>exact Ep v n n
def Ri (i j:Nat):Builtin.Slice.slicePlaces (i:Int) (j:Int) 1=j-i:=by
 unfold Builtin.Slice.slicePlaces;have h1:(1:Int)>0:=by lia
 simp only[h1,aX,Int.ediv_one];split<;>lia
theorem IZ (p:IsPart v o)(h:Q o s):wpAny (model prog w) A (Builtin.Slice.slicePartIndex v) Q E s:=by
 cases p with
 |none=>exact slicePart_none h
 |int i t=>exact slicePart_int h
def IY {sl:Addr}{vl vu:Value}{lo hi:Option Int}{n:Nat}{Q:Int×Int×Nat->Shared->Prop}(hs:s.heap.IsSliceOf sl vl vu .none)(pl:IsPart vl lo)(pu:IsPart vu hi)
  (h:Q (((yr n 0 lo:Nat):Int),1,yr n n hi-yr n 0 lo) s):wpAny (model prog w) A (Builtin.Slice.sliceApplied (.ref sl) (pure (n:Int))) Q E s:=by
 obtain⟨os,hos,hcs,hds⟩:=id hs;unfold Builtin.Slice.sliceApplied Builtin.Slice.sliceFields;refine xj (xj (vL hos hds (x:=vl) rfl (xj (vL hos hds (x:=vu) rfl (xj (vL hos hds (x:=.none) rfl (xO ?_)))))));refine xj (slicePart_none ?_);show wpAny _ _ (if ((1:Int)==0)=true then _ else _) _ _ s;rw[xG (by decide)];refine xj (IZ pl (xj (IZ pu (xj (xO ?_)))));show wpAny _ _ (match Builtin.Slice.sliceAdjust lo hi 1 (n:Int) with|(lo,hi)=>pure (lo,(1:Int),Builtin.Slice.slicePlaces lo hi 1)) _ _ s;rw[Ky lo hi n];show wpAny _ _ (pure (((yr n 0 lo:Nat):Int),(1:Int),Builtin.Slice.slicePlaces ((yr n 0 lo:Nat):Int) ((yr n n hi:Nat):Int) 1)) _ _ s;rw[Ri];exact xO h
def Rf (xs:Array Value)(i k:Nat):((List.range k).filterMap λ(m:Nat)=>xs[((i:Int)+(m:Int)*1).toNat]?).toArray=((xs.toList.drop i).take k).toArray:=by
 have e:(λ(m:Nat)=>xs[((i:Int)+(m:Int)*1).toNat]?)=λm=>xs[i+m]?:=by
  funext m;have:((i:Int)+(m:Int)*1).toNat=i+m:=by lia
  rw[this]
 rw[e];have:=pick_run xs i k;rw[List.filterMap_map] at this;have e2:((λx=>xs[x]?) ∘ λx=>i+x)=λm=>xs[i+m]?:=rfl;rw[e2] at this;rw[this]
def My {t sl:Addr}{items:Array Value}{vl vu:Value}{lo hi:Option Int}{Q:Value->Shared->Prop}(ht:IsTup s.heap t items)(hs:s.heap.IsSliceOf sl vl vu .none)(pl:IsPart vl lo)(pu:IsPart vu hi)
  (hw:¬(yr items.size 0 lo=0/\yr items.size items.size hi=items.size))
  (h:Q (.ref s.heap.objs.size) {s with heap:=s.heap.push {cls:=.type "tuple", data:=.seq ((items.toList.drop (yr items.size 0 lo)).take (yr items.size items.size hi-yr items.size 0 lo)).toArray} })
  (hsz:items.size<=sizeLine):wpAny (model prog w) A (getItem (.ref t) (.ref sl)) Q E s:=by
 have htake:sizeOk (.seq ((items.toList.drop (yr items.size 0 lo)).take (yr items.size items.size hi-yr items.size 0 lo)).toArray):=by show((items.toList.drop (yr items.size 0 lo)).take (yr items.size items.size hi-yr items.size 0 lo)).toArray.size<=sizeLine;rw[wo,uQ,v_,aC];lia
 have hj:yr items.size items.size hi<=items.size:=RX _ _ (ym _) hi;obtain⟨os,hos,hcs,hds⟩:=id hs;have hTs:s.TypeIs (.ref sl) "slice" := ⟨os,hos,hcs⟩
 unfold getItem
 try with_reducible refine km ?_
 first|refine xj (xO ?_)|skip
 refine xj (wpAny_sequenceKey ht.typeIs (by decide) ?_);refine xj (jC (name:=Str.ofString "__getitem__") ht.typeIs mH (qb mH ht.typeIs entry_tuple_getitem ?_ (args_tuple_getitem _ _)))
 show wpAny _ _ (Builtin.Tuple.tupleItemsOf (.ref t)>>=_) _ _ s;refine xj (tupleItemsOf_ ht ?_);refine xj (wpAny_typeOf hTs ?_);rw[xJ (by decide)];refine xj (IY hs pl pu ?_);have hno:¬((((yr items.size 0 lo:Nat):Int)==0&&(1:Int)==1&&(yr items.size items.size hi-yr items.size 0 lo)==items.size)=true):=by intro q;rw[ju,ju] at q;have q1:((yr items.size 0 lo:Nat):Int)=0:=eq_of_beq q.1.1;have q2:yr items.size items.size hi-yr items.size 0 lo=items.size:=eq_of_beq q.2;exact hw ⟨by lia,by lia⟩
 show wpAny _ _ (if (((yr items.size 0 lo:Nat):Int)==0&&(1:Int)==1&&(yr items.size items.size hi-yr items.size 0 lo)==items.size)=true then _ else _) _ _ s;rw[xG hno,Rf]
 first
  |exact xj (m:=Builtin.Tuple.tupleExact _) (vM (xO ⟨_,rfl,xO h⟩) htake)
  |exact xj (m:=Builtin.Tuple.tupleExact _) (vM (xj (xO (xO ⟨_,rfl,xO h⟩))) htake)
  |exact xj (xj (m:=Builtin.Tuple.tupleExact _) (vM (xO (xO ⟨_,rfl,xO h⟩)) htake))
  |exact xj (xj (m:=Builtin.Tuple.tupleExact _) (vM (xO ⟨_,rfl,xO h⟩) htake))
end
end HT
namespace L2
open PySem PySem.Spec PyProof.Rows
abbrev TO:=St->Hp->(Option Int->Hp->Prop)->Prop
def PO (X:Cx)(e:Option Expr)(t:TO):Prop:=
 ∀(xf:List (Addr×Obj)) (s:Shared) (σ:St) (H:Hp) (Q:Option Int->Hp->Prop),Inv X xf σ H s->t σ H Q->
  wpAny (model X.prog X.w) X.A (evalPart e X.env) (λu s'=>∃o H',Inv X xf σ H' s'/\IsPart u o/\Q o H') X.xe s
def Jr:TO:=λ_ H Q=>Q none H
def Jy (t:TE):TO:=λσ H Q=>t σ H λx H1=>∃i,x=.int i/\Q (some i) H1
theorem intsAre_of:∀ {us:List Value},yn (ns.map V.int) us->IntsAre us ns:=by
 induction ns with
 |nil=>intro us r;rw[du] at r;cases r;exact .nil
 |cons n ns ih=>
  intro us r;rw[qa] at r;cases r with
  |cons r1 r2=>obtain⟨t,e⟩:=r1;subst e;exact .cons n t (ih r2)
section
variable {X:Cx} {e:Expr} {te:TE} {lo hi:Option Expr} {tl th:TO} {pos p2:Pos}
def gL:PO X none Jr:=by intro xf s σ H Q I h;rw[evalPart_none];exact xO ⟨none,H,I,.none,h⟩
def gM (h:PE X e te):PO X (some e) (Jy te):=by intro xf s σ H Q I hw;rw[evalPart_some];refine yp (@h xf s σ H _ I hw) λu s1 ⟨x,H1,I1,r1,q1⟩=>?_;obtain⟨i,rfl,q⟩:=q1;obtain⟨t,rfl⟩:=r1;exact⟨some i,H1,I1,.int i t,q⟩
def SlR (X:Cx)(r:V->Option Int->Option Int->Hp->VK->Prop):Prop:=
 ∀(xf:List (Addr×Obj)) (s:Shared) (σ:St) (H:Hp) (x:V) (v vl vu:Value) (lo hi:Option Int) (sl:Addr) (Q:VK),Inv X xf σ H s->RelV x v->s.heap.IsSliceOf sl vl vu .none->IsPart vl lo->IsPart vu hi->r x lo hi H Q->
  ∃T id,typeLookup (.type T) "__getitem__" = pure (some (.builtin id))/\s.TypeIs v T/\wpAny (model X.prog X.w) X.A (getItem v (.ref sl)) (EP X xf σ Q) X.xe s
def tSl (r:V->Option Int->Option Int->Hp->VK->Prop)(te:TE)(tl th:TO):TE:=λσ H Q=>te σ H λx H1=>tl σ H1 λl H2=>th σ H2 λu H3=>r x l u H3 Q
def gK (hr:SlR X r)(he:PE X e te)(hl:PO X lo tl)(hu:PO X hi th):PE X (.Subscript e (.Slice lo hi none p2) pos) (tSl r te tl th):=by intro xf s σ H Q I h;refine Subscript_ (yp (@he xf s σ H _ I h) λv s1 ⟨x,H1,I1,r1,q1⟩=>?_);refine wpAny_Slice (yp (@hl xf s1 σ H1 _ I1 q1) λvl s2 ⟨l,H2,I2,pl,q2⟩=>yp (@hu xf s2 σ H2 _ I2 q2) λvu s3 ⟨u,H3,I3,pu,q3⟩=>?_);rw[evalPart_none];refine xO ?_;have I4:Inv X xf σ H3 {s3 with heap:=s3.heap.push {cls:=.type "slice", data:=.fields #[vl,vu,.none]} }:=I3.kept (t':=s3.toks) λb ob q=>yZ _ q;obtain⟨T,id,hT,ht,hg⟩:=hr xf {s3 with heap:=s3.heap.push {cls:=.type "slice", data:=.fields #[vl,vu,.none]} } σ H3 x v vl vu l u s3.heap.objs.size Q I4 r1 (Heap.IsSliceOf.new ..) pl pu q3;show wpAny (model X.prog X.w) X.A (subscriptTail e (.Slice lo hi none p2) v (.ref s3.heap.objs.size)) (EP X xf σ Q) X.xe {s3 with heap:=s3.heap.push {cls:=.type "slice", data:=.fields #[vl,vu,.none]} };exact tail_any (ops:=[.ref s3.heap.objs.size,v]) ht hT hg (by with_unfolding_all rfl)
def qi (xs:List V)(lo hi:Option Int):List V:=(xs.drop (HT.yr xs.length 0 lo)).take (HT.yr xs.length xs.length hi-HT.yr xs.length 0 lo)
def EG (xs:List V)(lo hi:Option Int):(qi xs lo hi).length<=xs.length:=by unfold qi;rw[uQ,v_];lia
def Rv (K:xw):V->Option Int->Option Int->Hp->VK->Prop:=λx lo hi H Q=>∃a xs,x=.ref a/\yM K H a xs/\
 ¬(HT.yr xs.length 0 lo=0/\HT.yr xs.length xs.length hi=xs.length)/\∀p,H p=none->Q (.ref p) (upd H p (.tup (qi xs lo hi)))
def S6:SlR X (Rv X.K):=by
 intro xf s σ H x v vl vu lo hi sl Q I rx hs pl pu h;obtain⟨a,xs,rfl,hx,hw,q⟩:=h;cases rx;obtain⟨xm,r,ht,hz⟩:=I.tuple hx;have hlen:xm.toArray.size=xs.length:=by rw[wo];exact r.length.symm
 refine⟨"tuple", _,mH.lookup,ht.typeIs,?_⟩;refine HT.My ht hs pl pu (by rw[hlen];exact hw) ?_ (by rw[hlen];exact hz);rw[hlen];refine⟨.ref s.heap.objs.size,_,I.laid (t':=s.toks) (o:=.tup (qi xs lo hi)) (λb ob q=>yZ _ q) (ym _) ?_,rfl,q _ (I.hok.fresh (ym _))⟩;exact⟨vt (EG xs lo hi) hz,_,(r.drop (HT.yr xs.length 0 lo)).take (HT.yr xs.length xs.length hi-HT.yr xs.length 0 lo),mh _ _⟩
def HY (K:xw):R2:=λx y H Q=>∃a b ns ms,x=.ref a/\y=.ref b/\yM K H a (ns.map V.int)/\yM K H b (ms.map V.int)/\Q (.bl (HT.lexLt ns ms)) H
def PJ (hu:X.A.units<cLine):zy X (compareOp .Lt) (HY X.K):=by intro xf s σ H x y v u Q I rx ry h;obtain⟨a,b,ns,ms,rfl,rfl,ha,hb,q⟩:=h;cases rx;cases ry;obtain⟨xm,r1,p1,_⟩:=I.tuple ha;obtain⟨its2,r2,p2,_⟩:=I.tuple hb;have i1:IntsAre xm.toArray.toList ns:=intsAre_of r1;have i2:IntsAre its2.toArray.toList ms:=intsAre_of r2;exact HT.Nt p1 p2 i1 i2 hu ⟨.bl (HT.lexLt ns ms),H,I,rfl,q⟩
def Ru (K:xw):R2:=λx y H Q=>∃a b xs ys,x=.ref a/\y=.ref b/\yM K H a xs/\yM K H b ys/\xs≠[]/\xs.length+ys.length<=sizeLine/\
 (ys=[]->Q (.ref a) H)/\(ys≠[]->∀p,H p=none->Q (.ref p) (upd H p (.tup (xs++ys))))
theorem yn.nil_iff (r:yn xs us):us=[]↔xs=[]:=by
 cases r with
 |nil=>simp
 |cons _ _=>simp
def PH:zy X (binaryOp .Add) (Ru X.K):=by intro xf s σ H x y v u Q I rx ry h;obtain⟨a,b,xs,ys,rfl,rfl,ha,hb,hx,hz,q1,q2⟩:=h;cases rx;cases ry;obtain⟨xm,r1,p1,_⟩:=I.tuple ha;obtain⟨its2,r2,p2,_⟩:=I.tuple hb;refine HT.Lg p1 p2 (λz=>hx (r1.nil_iff.mp z)) (λz=>⟨.ref a,H,I,rfl,q1 (r2.nil_iff.mp z)⟩) (λz=>?_) (by rw[<-r1.length,<-r2.length];exact hz);refine⟨.ref s.heap.objs.size,_,I.laid (t':=s.toks) (o:=.tup (xs++ys)) (λb ob q=>yZ _ q) (ym _) ?_,rfl,q2 (λw=>z (r2.nil_iff.mpr w)) _ (I.hok.fresh (ym _))⟩;exact⟨by rw[ze];exact hz,_,r1.append r2,mh _ _⟩
end
def ixN (n:Nat)(i:Int):Option Nat:=if 0<=i then(if i<n then some i.toNat else none) else if -(n:Int)<=i then some (i+n).toNat else none
def atI (xs:List α)(i:Int):Option α:=(ixN xs.length i).bind λj=>xs[j]?
def Gd (h:ixN n i=some j):seqIndex? i n=some j/\j<n/\-(n:Int)<=i/\i<n:=by
 unfold ixN at h;by_cases h0:0<=i
 .rw[xJ h0] at h;by_cases h1:i<n
  .rw[xJ h1] at h;have e:i.toNat=j:=vK h;exact⟨by rw[seqIndex_of h0 h1,e],by lia,by lia,h1⟩
  .rw[xG h1] at h;cases h
 .rw[xG h0] at h;by_cases h1:-(n:Int)<=i
  .rw[xJ h1] at h;have e:(i+n).toNat=j:=vK h;exact⟨by rw[seqIndex_neg (by lia) h1,e],by lia,h1,by lia⟩
  .rw[xG h1] at h;cases h
theorem oq (h:atI xs i=some v):∃j,seqIndex? i xs.length=some j/\xs[j]?=some v/\j<xs.length/\-(xs.length:Int)<=i/\i<xs.length:=by
 unfold atI at h;cases e:ixN xs.length i with
 |none=>rw[e] at h;cases h
 |some j=>rw[e] at h;obtain⟨h1,h2,h3,h4⟩:=Gd e;exact⟨j,h1,h,h2,h3,h4⟩
def KN {α:Type}{xs:List α}{j:Nat}{v:α}(h:xs[j]?=some v):atI xs (j:Int)=some v:=by
 have hj:j<xs.length:=(y8.mp h).1;have e:ixN xs.length (j:Int)=some j:=by unfold ixN;rw[xJ (by lia),xJ (by lia)];simp
 unfold atI;rw[e];exact h
def KL (xs:List α)(v:α):atI (xs++[v]) (-1)=some v:=by
 have hl:(xs++[v]).length=xs.length+1:=by simp
 have e:ixN (xs++[v]).length (-1)=some xs.length:=by unfold ixN;rw[hl,xG (by decide),xJ (by lia)];congr 1;lia
 unfold atI;rw[e];show(xs++[v])[xs.length]?=some v;simp
def Kv (b:Expr):Prop:=∀o i,subscripted b false o i=operate [o,i] (getItem o i)
def IxR (X:Cx)(r:R2):Prop:=
 ∀(value slice:Expr) (xf:List (Addr×Obj)) (s:Shared) (σ:St) (H:Hp) (x y:V) (v u:Value) (Q:VK),Inv X xf σ H s->RelV x v->RelV y u->r x y H Q->
  subscripted slice false v u=operate [v,u] (getItem v u)->wpAny (model X.prog X.w) X.A (subscriptTail value slice v u) (EP X xf σ Q) X.xe s
def MtR (X:Cx)(id:String)(r:V->List V->Hp->VK->Prop):Prop:=
 ∀(xf:List (Addr×Obj)) (s:Shared) (σ:St) (H:Hp) (x:V) (xs:List V) (v:Value) (us:List Value) (Q:VK),Inv X xf σ H s->RelV x v->yn xs us->r x xs H Q->
  wpAny (model X.prog X.w) X.A (call (.builtin id) (v::us)) (EP X xf σ Q) X.xe s
section
variable {X:Cx} {a b:Expr} {ta tb:TE} {pos:Pos}
def IxR.or (h:IxR X r)(h':IxR X r'):IxR X (λx y H Q=>r x y H Q\/r' x y H Q):=by
 intro value slice xf s σ H x y v u Q I rx ry q hs;rcases q with q|q
 .exact h value slice xf s σ H x y v u Q I rx ry q hs
 .exact h' value slice xf s σ H x y v u Q I rx ry q hs
def zd {r:R2}(hr:IxR X r)(ha:PE X a ta)(hb:PE X b tb)(hs:Kv b):PE X (.Subscript a b pos) (tOp r ta tb):=by intro xf s σ H Q I h;exact Subscript_ (ou ha hb I h λv u s2 x y H2 I2 rx ry q=>hr a @b xf s2 σ H2 x y v u Q I2 rx ry q (hs _ _))
def eF (K:xw):R2:=λx y H Q=>∃p xs i v,x=.ref p/\y=.int i/\yw K H p xs/\atI xs i=some v/\Q v H
def HR (K:xw):R2:=λx y H Q=>∃p xs i v,x=.ref p/\y=.int i/\yM K H p xs/\atI xs i=some v/\Q v H
def HQ:R2:=λx y H Q=>∃z i c,x=.str z/\y=.int i/\z.length<=sizeLine/\atI z.cps.toList i=some c/\Q (.str ⟨#[c]⟩) H
def Ge:IxR X (eF X.K):=by
 intro value slice xf s σ H x y v u Q I rx ry h hs;obtain⟨p,xs,i,z,rfl,rfl,hq,he,q⟩:=h;cases rx;obtain⟨t,rfl⟩:=ry;obtain⟨xm,r,pl,hz⟩:=I.list hq;obtain⟨j,h1,h2,h3,h4,h5⟩:=oq he;obtain⟨w,ew,rw'⟩:=r.get h2;have hl:=r.length;have hn:=r_;have fin:EP X xf σ Q w s:=⟨z,H,I,rw',q⟩
 by_cases h0:0<=i
 .have hj:i.toNat=j:=by rw[seqIndex_of h0 h5] at h1;exact vK h1
  exact item_listR pl.isList h0 (by lia) (by rw[hj];simpa using ew) fin hs
 .have hj:(i+(xm.toArray.size:Int)).toNat=j:=by rw[seqIndex_neg (by lia) h4] at h1;rw[wo,<-hl];exact vK h1
  exact subscriptTail_builtinR (x:=w) pl.isList.typeIs slot_list_getitem.lookup
   (wpAny_getItem_list_neg (Q:=λr s'=>r=w/\EP X xf σ Q r s') pl.isList (by lia) (by rw[wo]<;>lia) (by lia) (by rw[hj];simpa using ew) ⟨rfl,fin⟩) hs
def M0:IxR X (HR X.K):=by
 intro value slice xf s σ H x y v u Q I rx ry h hs;obtain⟨p,xs,i,z,rfl,rfl,hq,he,q⟩:=h;cases rx;obtain⟨t,rfl⟩:=ry;obtain⟨xm,r,pl,hz⟩:=I.tuple hq;obtain⟨j,h1,h2,h3,h4,h5⟩:=oq he;obtain⟨w,ew,rw'⟩:=r.get h2;have hl:=r.length;have hn:=r_;have fin:EP X xf σ Q w s:=⟨z,H,I,rw',q⟩
 exact subscriptTail_builtinR (x:=w) pl.typeIs slot_tuple_getitem.lookup
  (getItem_tuple (j:=j) (Q:=λr s'=>r=w/\EP X xf σ Q r s') pl (by lia) (by lia) (by rw[wo,<-hl];exact h1) (by simpa using ew) ⟨rfl,fin⟩) hs
def MZ:IxR X HQ:=by
 intro value slice xf s σ H x y v u Q I rx ry h hs;obtain⟨z,i,c,rfl,rfl,hz,he,q⟩:=h;obtain⟨t,rfl⟩:=rx;obtain⟨t',rfl⟩:=ry;obtain⟨j,h1,h2,h3,h4,h5⟩:=oq he;have hl:z.cps.toList.length=z.length:=by simp[Str.length]
 rw[hl] at h1 h4 h5;have hn:=r_;exact tail_any (typeIs_str s z t) slot_str_getitem.lookup (getItem_str (c:=c) (by have e1:decide (i < -(2^63:Int))=false:=uU (by lia);have e2:decide (i>=2^63)=false:=uU (by lia);rw[e1,e2,Bool.or_false]) (by rw[h1];simpa using h2) ⟨.str ⟨#[c]⟩,H,I.tok _,⟨_,rfl⟩,q⟩) hs
def rIx (K:xw):R2:=λx y H Q=>eF K x y H Q\/HR K x y H Q\/HQ x y H Q
def MY:IxR X (rIx X.K):=Ge.or (M0.or MZ)
def Nu (xm:List Value)(n j:Nat)(u:Value):Obj.mapSeq (·.setIfInBounds j u) {cls:=.type "list", data:=.seq xm.toArray n}={cls:=.type "list", data:=.seq (xm.set j u).toArray n}:=by simp[Obj.mapSeq]
theorem Inv.lst {xf:List (Addr×Obj)}{σ:St}{H:Hp}{s:Shared}{p:Addr}{xs:List V}(I:Inv X xf σ H s)(h:H p=some (.lst xs)) :
  ∃(xm:List Value) (n:Nat),yn xs xm/\s.heap.get? p=some {cls:=.type "list", data:=.seq xm.toArray n}/\xs.length<=sizeLine:=by
 obtain⟨z,xm,n,r,e⟩:=I.hok p _ h;exact⟨xm,n,r,e,z⟩
def Inv.lstUpd {xf:List (Addr×Obj)}{σ:St}{H:Hp}{s:Shared}{p:Addr}{xs ys:List V}{xm its':List Value}{n n':Nat}{f:Obj->Obj}(I:Inv X xf σ H s)(h:H p=some (.lst xs))
  (ho:s.heap.get? p=some {cls:=.type "list", data:=.seq xm.toArray n}) (hf:f {cls:=.type "list", data:=.seq xm.toArray n}={cls:=.type "list", data:=.seq its'.toArray n' }) (r:yn ys its') (hz:ys.length<=sizeLine) (t:Nat) :
  Inv X xf σ (upd H p (.lst ys)) {s with heap:=s.heap.update p f,toks:=t}:=by
 have e:(s.heap.update p f).get? p=some {cls:=.type "list", data:=.seq its'.toArray n' }:=by rw[cY f ho (by rw[hf]<;>rfl),hf]
 refine I.write (x:=p) (e:=p) (by rw[h];trivial) (.inl rfl) (λb u hb q=>(JV _ _ (zY hb)).trans q) ⟨_,e⟩ ?_;exact⟨hz,its',n',r,e⟩
def Ib:V->V->V->Hp->(Hp->Prop)->Prop:=λo i v H Q=>∃p xs k j,o=.ref p/\i=.int k/\H p=some (.lst xs)/\ixN xs.length k=some j/\Q (upd H p (.lst (xs.set j v)))
def set_list:CD X Ib:=by
 intro xf s σ H o i v ov iv u Q I ro ri rv h;obtain⟨p,xs,k,j,rfl,rfl,hp,hj,q⟩:=h;cases ro;obtain⟨t,rfl⟩:=ri;obtain⟨xm,n,r,ho,hz⟩:=I.lst hp;obtain⟨h1,h2,h3,h4⟩:=Gd hj;have hl:=r.length;have hn:=r_;have I':Inv X xf σ (upd H p (.lst (xs.set j v))) {s with heap:=s.heap.update p (Obj.mapSeq (·.setIfInBounds j u))}:=I.lstUpd hp ho (Nu xm n j u) (r.set rv j) (by rw[q8];exact hz) s.toks
 by_cases h0:0<=k
 .have hk:k.toNat=j:=by rw[seqIndex_of h0 h4] at h1;exact vK h1
  exact PySem.W.ki_setAt ho h0 (by lia) (by rw[wo,<-hl];exact h4) (by rw[hk];exact⟨_,I',q⟩)
 .have hk:(k+(xm.toArray.size:Int)).toNat=j:=by rw[seqIndex_neg (by lia) h3] at h1;rw[wo,<-hl];exact vK h1
  exact PySem.W.ki_setBack ho (by lia) (by rw[wo,<-hl];exact h3) (by lia) (by rw[hk];exact⟨_,I',q⟩)
def Ta (lo hi:Option Int)(n:Nat):(sliceBounds lo hi none n).1=((HT.yr n 0 lo:Nat):Int)/\(sliceBounds lo hi none n).2.1=((HT.yr n n hi:Nat):Int)/\(sliceBounds lo hi none n).2.2=1:=by
 refine⟨?_,?_,rfl⟩
 .cases lo with
  |none=>simp[sliceBounds,HT.yr]
  |some i=>
   simp only[sliceBounds,HT.yr,Option.getD_none,show(1:Int)>0 by decide,aX];by_cases h:i<0
   .simp only[h,aX]<;>lia
   .simp only[h,qF]<;>lia
 .cases hi with
  |none=>simp[sliceBounds,HT.yr]
  |some i=>
   simp only[sliceBounds,HT.yr,Option.getD_none,show(1:Int)>0 by decide,aX];by_cases h:i<0
   .simp only[h,aX]<;>lia
   .simp only[h,qF]<;>lia
def S_ (xm:List Value)(lo hi:Option Int):slicePick xm.toArray lo hi none=((xm.drop (HT.yr xm.length 0 lo)).take (HT.yr xm.length xm.length hi-HT.yr xm.length 0 lo)).toArray:=by obtain⟨h1,h2,h3⟩:=Ta lo hi xm.toArray.size;unfold slicePick;rw[h1,h2,h3];simp only[sliceRange_one,pick_run,wo]<;>rfl
def tN (K:xw):V->Option Int->Option Int->Hp->VK->Prop:=λx lo hi H Q=>∃a xs,x=.ref a/\yw K H a xs/\∀p,H p=none->Q (.ref p) (upd H p (.lst (qi xs lo hi)))
def IX:SlR X (tN X.K):=by intro xf s σ H x v vl vu lo hi sl Q I rx hs pl pu h;obtain⟨a,xs,rfl,hx,q⟩:=h;cases rx;obtain⟨xm,r,ht,hz⟩:=I.list hx;have hlen:=r.length;refine⟨"list", _,slot_list_getitem.lookup,ht.isList.typeIs,?_⟩;refine wpAny_getItem_list_slice ht.isList hs pl pu .none (by simp) ?_ (by rw[wo]<;>lia);rw[S_,<-hlen];refine⟨.ref s.heap.objs.size,_,I.laid (t':=s.toks) (o:=.lst (qi xs lo hi)) (λb ob q=>yZ _ q) (ym _) ?_,rfl,q _ (I.hok.fresh (ym _))⟩;exact⟨vt (EG xs lo hi) hz,_,0,(r.drop (HT.yr xs.length 0 lo)).take (HT.yr xs.length xs.length hi-HT.yr xs.length 0 lo),wJ _ rfl⟩
def K8:vv X (.builtin "len") (λxs H Q=>∃p ys,xs=[.ref p]/\(yw X.K H p ys\/yM X.K H p ys)/\Q (.int ys.length) H):=by
 intro xf s σ H xs us Q I r h;obtain⟨p,ys,rfl,hq,q⟩:=h;obtain⟨u,rfl,rx⟩:=vals1 r;cases rx;have hn:=r_;rcases hq with hq|hq
 .obtain⟨xm,r',pl,hz⟩:=I.list hq;have hlen:=r'.length;exact Calls.call_len_list pl.isList (by simp only[wo]<;>lia) ⟨.int ys.length,H,I.tok _,⟨s.toks+1,by rw[wo,hlen]⟩,q⟩
 .obtain⟨xm,r',pl,hz⟩:=I.tuple hq;have hlen:=r'.length;exact len_tuple pl (by simp only[wo]<;>lia) ⟨.int ys.length,H,I.tok _,⟨s.toks+1,by rw[wo,hlen]⟩,q⟩
def Lb:vv X (.type "list") (λxs H Q=>∃p ys,xs=[.ref p]/\(yw X.K H p ys\/yM X.K H p ys)/\∀l,H l=none->Q (.ref l) (upd H l (.lst ys))):=by
 intro xf s σ H xs us Q I r h;obtain⟨p,ys,rfl,hq,q⟩:=h;obtain⟨u,rfl,rx⟩:=vals1 r;cases rx;have fin:∀(xm:List Value),yn ys xm->ys.length<=sizeLine->∀(h':Heap) (c':Nat),(∀b o',s.heap.get? b=some o'->h'.get? b=some o')->
   h'.get? s.heap.objs.size=some {cls:=.type "list", dict:=none,data:=.seq xm.toArray c',slots := #[]}->EP X xf σ Q (.ref s.heap.objs.size) {s with heap:=h' }:=λxm r' hz h' c' kp e=>
  ⟨.ref s.heap.objs.size,_,I.laid (t':=s.toks) kp (ym _) (show wq X.prog X.w _ h' _ (.lst ys) from⟨hz,xm,c',r',e⟩),rfl,q _ (I.hok.fresh (ym _))⟩
 rcases hq with hq|hq
 .obtain⟨xm,r',pl,hz⟩:=I.list hq;have hlen:=r'.length;obtain⟨o,ho,hc,n,hd⟩:=pl.isList;exact call_list_seq p (.inl rfl) ho hc hd (λh' c' kp e=>fin xm r' hz h' c' kp e) (by simp only[wo]<;>lia)
 .obtain⟨xm,r',pl,hz⟩:=I.tuple hq;have hlen:=r'.length;obtain⟨o,ho,hc,n,hd⟩:=pl;exact call_list_seq p (.inr rfl) ho hc hd (λh' c' kp e=>fin xm r' hz h' c' kp e) (by simp only[wo]<;>lia)
def Ld:vv X (.type "tuple") (λxs H Q=>∃p ys,xs=[.ref p]/\((yw X.K H p ys/\∀l,H l=none->Q (.ref l) (upd H l (.tup ys)))\/(yM X.K H p ys/\Q (.ref p) H))):=by
 intro xf s σ H xs us Q I r h;obtain⟨p,ys,rfl,h⟩:=h;obtain⟨u,rfl,rx⟩:=vals1 r;cases rx;rcases h with ⟨hq,q⟩|⟨hq,q⟩
 .obtain⟨xm,r',pl,hz⟩:=I.list hq;have hlen:=r'.length;refine call_tuple_list pl.isList (λh' kp=>?_) (by simp only[wo]<;>lia);have I1:Inv X xf σ H {s with heap:=h' }:=I.kept (t':=s.toks) kp;have I2:Inv X xf σ (upd H h'.objs.size (.tup ys)) {s with heap:=h'.push {cls:=.type "tuple", data:=.seq xm.toArray} }:=I1.laid (t':=s.toks) (λb o e=>yZ _ e) (ym _) (show wq X.prog X.w _ _ _ (.tup ys) from⟨hz,xm,r',mh _ _⟩)
  exact⟨.ref h'.objs.size,_,I2,rfl,q _ (I1.hok.fresh (ym _))⟩
 .obtain⟨xm,r',pl,hz⟩:=I.tuple hq;exact call_tuple_same pl ⟨.ref p,H,I,rfl,q⟩
def tyV (K:xw)(T:String)(x:V)(H:Hp):Prop:=match x with
 |.str _=>T = "str"
 |.int _=>T = "int"
 |.ref p=>(T = "list" /\ ∃xs,yw K H p xs)\/(T = "tuple" /\ ∃o,K.lookup p=some o/\o.cls=.type "tuple" /\ o.dict=none)\/
   (T = "dict" /\ ((∃xI,H p=some (.dK xI))\/∃xI,H p=some (.dT xI)))\/(T = "set" /\ ∃S n,H p=some (.set S n))
 |_=>False
theorem JF (I:Inv X xf σ H s)(r:RelV x v)(ty:tyV X.K T x H) :
  s.TypeIs v T/\∀a,v=.ref a->∃ob,s.heap.get? a=some ob/\ob.dict=none:=by
 cases x with
 |str z=>obtain⟨t,rfl⟩:=r;cases (show T = "str" from ty);exact⟨typeIs_str s z t,λ_ e=>nomatch e⟩
 |int i=>obtain⟨t,rfl⟩:=r;cases (show T = "int" from ty);exact⟨pJ s i t,λ_ e=>nomatch e⟩
 |ref p=>
  cases r;rcases ty with ⟨rfl,xs,hq⟩|⟨rfl,o,hk,hc,hd⟩|⟨rfl,hk⟩|⟨rfl,S,n,hk⟩
  .obtain⟨xm,_,pl,_⟩:=I.list hq;refine⟨pl.isList.typeIs,λa e=>?_⟩;cases e;obtain⟨o,n,e,c,hd,_⟩:=pl;exact⟨o,e,hd⟩
  .refine⟨⟨o,I.kIn p o hk,hc⟩,λa e=>?_⟩;cases e;exact⟨o,I.kIn _ o hk,hd⟩
  .have z:∃o,s.heap.get? p=some o/\o.ExactDict:=by
    rcases hk with ⟨xI,hk⟩|⟨xI,hk⟩
    .obtain⟨_,_,_,_,o,_,_,e,ex,_⟩:=I.hok p _ hk;exact⟨o,e,ex⟩
    .obtain⟨_,_,_,_,o,_,_,e,ex,_⟩:=I.hok p _ hk;exact⟨o,e,ex⟩
   obtain⟨o,e,ex⟩:=z;refine⟨⟨o,e,ex.1⟩,λa e2=>?_⟩;cases e2;exact⟨o,e,ex.2.1⟩
  .obtain⟨o,_,_,_,e,ex,_⟩:=I.hok p _ hk;refine⟨⟨o,e,ex.1⟩,λa e2=>?_⟩;cases e2;exact⟨o,e,ex.2.1⟩
 |_=>exact False.elim ty
def Ji (K:xw)(T:String)(r:V->List V->Hp->VK->Prop)(to:TE):TE:=λσ H Q=>to σ H λx H1=>tyV K T x H1/\r x [] H1 Q
def tBM (K:xw)(T:String)(r:V->List V->Hp->VK->Prop)(to:TE)(t:TA):TE:=λσ H Q=>to σ H λx H1=>tyV K T x H1/\t σ H1 λxs H2=>r x xs H2 Q
variable {o e:Expr} {es:List Expr} {to:TE} {t:TA} {name:Str} {apos cpos:Pos} {T id:String} {r:V->List V->Hp->VK->Prop}
def Q9 (pa:PlainAttrs T)(slot:Slot T name id)(hty:typeOf (.builtin id)=pure (.type "method_descriptor"))(hm:MtR X id r)(ho:PE X o to)
  (hbase:attributeBase o name X.env (eval o X.env)=eval o X.env:=by rfl) (hline:(apos.endLine==cpos.line)=true:=by rfl):PE X (.Call (.Attribute o name apos) [] [] cpos) (Ji X.K T r to):=by
 intro xf s σ H Q I h;refine wpAny_Call_method0_late hbase hline (yp (@ho xf s σ H _ I h) λv s1 ⟨x,H1,I1,r1,ty,q1⟩=>?_);obtain⟨h1,h2⟩:=JF I1 r1 ty;exact⟨T,id,pa,slot,hty,h1,h2,Calls.callWith_builtin rfl (PySem.evalArgs_none (@hm xf s1 σ H1 x [] v [] Q I1 r1 .nil q1))⟩
def vO (pa:PlainAttrs T)(slot:Slot T name id)(hty:typeOf (.builtin id)=pure (.type "method_descriptor"))(hm:MtR X id r)(ho:PE X o to)(ha:PA X (e::es) t)
  (hbase:attributeBase o name X.env (eval o X.env)=eval o X.env:=by rfl)
  (hfew:((backTo cpos (starEach (e::es) X.env)).all (λx=>!x.1)&&(backToKw cpos (keywordEach [] X.env)).all (λx=>x.1.isSome) && decide ((e::es).length+([]:List Keyword).length+(if ([]:List Keyword).isEmpty then 0 else 1)<30))=true:=by rfl)
  (hline:(apos.endLine==cpos.line)=true:=by rfl) (hs:starEach (e::es) X.env=(false,eval e X.env)::starEach es X.env:=by rfl) (hplain:(backTo cpos (starEach es X.env)).any (·.1)=false:=by rfl) :
  PE X (.Call (.Attribute o name apos) (e::es) [] cpos) (tBM X.K T r to t):=by
 intro xf s σ H Q I h;refine wpAny_Call_method_late hbase hfew hline rfl (yp (@ho xf s σ H _ I h) λv s1 ⟨x,H1,I1,r1,ty,q1⟩=>?_);obtain⟨h1,h2⟩:=JF I1 r1 ty;refine⟨T,id,pa,slot,hty,h1,h2,?_⟩;have hA:=@ha cpos xf s1 σ H1 _ I1 q1;rw[hs] at hA ⊢;refine Calls.callWith_builtin (by show(false||(backTo cpos (starEach es X.env)).any (·.1))=false;rw[hplain]<;>rfl) (Calls.evalArgs_plain ?_);exact yp hA λus s2 ⟨vs,H2,I2,r2,q2⟩=>@hm xf s2 σ H2 x vs v us Q I2 r1 r2 q2
end
def MtM (X:Cx)(id:String)(r:V->List V->Hp->VK->Prop):Prop:=
 ∀(xf:List (Addr×Obj)) (s:Shared) (σ:St) (H:Hp) (x:V) (xs:List V) (v:Value) (us:List Value) (Q:VK),Inv X xf σ H s->RelV x v->yn xs us->r x xs H Q->
  wpAny (model X.prog X.w) X.A (call (.builtin id) (v::us)) (EP X xf σ Q) X.xe s
theorem yn.one:∀ {x:V} {us:List Value},yn [x] us->∃u,us=[u]/\RelV x u
 |_,_,.cons r .nil=>⟨_,rfl,r⟩
theorem yn.zero:∀ {us:List Value},yn [] us->us=[]
 |_,.nil=>rfl
theorem yn.rep (h:yn xs us):∀k:Nat,yn (List.replicate k xs).flatten (List.replicate k us).flatten
 |0=>.nil
 |k+1=>by rw[ff,ff,aM,aM];exact yn.append h (yn.rep h k)
theorem foldl_rep (xm:List Value):∀(k:Nat) (acc:List Value),
  List.foldl (λx1 x2=>x1++x2) acc.toArray (List.replicate k xm.toArray)=(acc++(List.replicate k xm).flatten).toArray
 |0,acc=>by simp
 |k+1,acc=>by
  have e:acc.toArray++xm.toArray=(acc++xm).toArray:=by simp
  have e2:(acc++xm)++(List.replicate k xm).flatten=acc++(List.replicate (k+1) xm).flatten:=by rw[ff,aM,qz]
  rw[<-e2,<-foldl_rep xm k (acc++xm),<-e,ff,qA]
section
variable {X:Cx} {xf:List (Addr×Obj)} {σ:St} {H:Hp} {s:Shared} {l b:Addr} {xs ys zs:List V}
def Inv.lset {xm its':List Value}{n:Nat}{f:Array Value->Array Value}{t':Nat}(I:Inv X xf σ H s)(hH:H l=some (.lst xs))
  (e:s.heap.get? l=some {cls:=.type "list", data:=.seq xm.toArray n}) (hf:f xm.toArray=its'.toArray) (hv:yn ys its') (hz:ys.length<=sizeLine) :
  Inv X xf σ (upd H l (.lst ys)) {s with heap:=s.heap.update l (Obj.mapSeq f),toks:=t' }:=by
 have q:=PySem.IsL.update e f;rw[hf] at q;refine I.write (x:=l) (e:=l) (by rw[hH];exact trivial) (.inl rfl) (λb' u hb hu=>(JV s.heap (Obj.mapSeq f) (zY hb)).trans hu) ⟨_,q⟩ ?_;exact⟨hz,its',_,hv,q⟩
def Inv.lnew (I:Inv X xf σ H s)(hv:yn ys xm)(hz:ys.length<=sizeLine) :
  Inv X xf σ (upd H s.heap.objs.size (.lst ys)) {s with heap:=s.heap.push {cls:=.type "list", data:=.seq xm.toArray},toks:=t' }:=
 I.laid (λ_ _ q=>yZ _ q) (ym _) ⟨hz,xm,0,hv,wJ _ rfl⟩
theorem Inv.fresh (I:Inv X xf σ H s):H s.heap.objs.size=none:=I.hok.fresh (ym _)
def Inv.lstM (I:Inv X xf σ H s)(hH:H l=some (.lst xs)):xs.length<=sizeLine/\∃(xm:List Value) (n:Nat),yn xs xm/\xs.length=xm.length/\s.heap.get? l=some {cls:=.type "list", data:=.seq xm.toArray n}:=by obtain⟨z,xm,n,r,e⟩:=I.hok l _ hH;exact⟨z,xm,n,r,r.length,e⟩
def NO (h:n<=sizeLine):Builtin.List.listTooLong n=false:=by unfold Builtin.List.listTooLong;exact uU (by lia)
end
section
variable {X:Cx}
def HJ:V->List V->Hp->VK->Prop:=λx vs H Q=>∃l xs y,x=.ref l/\vs=[y]/\H l=some (.lst xs)/\xs.length<sizeLine/\Q .non (upd H l (.lst (xs++[y])))
def qo:MtM X "list.append" HJ:=by intro xf s σ H x vs v us Q I rx rv h;obtain⟨l,xs,y,rfl,rfl,hH,hz,q⟩:=h;cases rx;obtain⟨u,rfl,ru⟩:=rv.one;obtain⟨z,xm,n,r,hl,e⟩:=I.lstM hH;refine aV F.slot_list_append ⟨_,e,rfl⟩ F.entry_list_append (F.args_list_append_2 _ _) (PySem.list_append l xm.toArray n u (by rw[wo];lia)) ⟨e,?_⟩;refine⟨.non,_,I.lset (its':=xm++[u]) hH e (by simp) (r.append (.cons ru .nil)) ?_,rfl,q⟩;rw[ze,g_];lia
def eE:R2:=λx y H Q=>∃l b xs zs,x=.ref l/\y=.ref b/\H l=some (.lst xs)/\H b=some (.lst zs)/\xs.length+zs.length<=sizeLine/\∀p,H p=none->Q (.ref p) (upd H p (.lst (xs++zs)))
def fQ:zy X (binaryOp .Add) eE:=by
 intro xf s σ H x y v u Q I rx ry h;obtain⟨l,b,xs,zs,rfl,rfl,hH,hB,hz,q⟩:=h;cases rx;cases ry;obtain⟨z,xm,n,r,hl,e⟩:=I.lstM hH;obtain⟨z2,its2,n2,r2,hl2,e2⟩:=I.lstM hB;refine PySem.P.add_list e e2 ?_ (by rw[wo,wo];lia);have ea:xm.toArray++its2.toArray=(xm++its2).toArray:=by simp
 rw[ea];exact⟨.ref _,_,I.lnew (t':=s.toks) (r.append r2) (by rw[ze];lia),rfl,q _ I.fresh⟩
def eI:R2:=λx y H Q=>∃l k xs,x=.ref l/\y=.int k/\H l=some (.lst xs)/\-(2^63)<=k/\k<2^63/\xs.length*k.toNat<=sizeLine/\
 ∀p,H p=none->Q (.ref p) (upd H p (.lst (List.replicate k.toNat xs).flatten))
theorem len_rep (xs:List α)(k:Nat):(List.replicate k xs).flatten.length=k*xs.length:=by
 induction k with
 |zero=>simp
 |succ k ih=>rw[ff,aM,ze,ih,Nat.succ_mul,Nat.add_comm]
def i0:zy X (binaryOp .Mult) eI:=by
 intro xf s σ H x y v u Q I rx ry h;obtain⟨l,k,xs,rfl,rfl,hH,h1,h2,hz,q⟩:=h;cases rx;obtain⟨t,rfl⟩:=ry;obtain⟨z,xm,n,r,hl,e⟩:=I.lstM hH;have hlen:xm.toArray.size*k.toNat<=sizeLine:=by rw[wo,<-hl];exact hz
 have hcap:¬xm.toArray.size*k.toNat>(2^63-1)/8:=by
  have:(sizeLine:Nat)<=(2^63-1)/8:=by decide
  lia
 have hfit:¬(!Builtin.List.listFitsIndex k)=true:=by rw[fitsIndex_both h1 h2];exact uG
 have hlong:¬Builtin.List.listTooLong (xm.toArray.size*k.toNat)=true:=by rw[NO hlen];exact uG
 have hnew:List.foldl (λx1 x2=>x1++x2) #[] (List.replicate (if xm.toArray.isEmpty=true then 0 else k.toNat) xm.toArray)=(List.replicate k.toNat xm).flatten.toArray:=by
  have f0:∀m:Nat,List.foldl (λx1 x2=>x1++x2) #[] (List.replicate m xm.toArray)=(List.replicate m xm).flatten.toArray:=λm=>by have:=foldl_rep xm m [];rw[qC] at this;exact this
  rw[f0];cases xm with
  |nil=>simp
  |cons a r'=>rw[xG (by simp)]
 refine wpAny_binaryOp_repeat_ref (T := "list") (U := "int") (by decide) ⟨_,e,rfl⟩ (λs'=>pJ s' k t) noFill_list_mul F.fills_int_mul BI repeat_list F.slot_int_index.lookup
  (aV BI (pJ s k t) F.entry_int_rmul (F.args_int_rmul_2 _ _) (int___rmul___int_list k t l xm.toArray n) ⟨e,rfl,⟨_,e,rfl⟩,aV F.slot_list_mul ⟨_,e,rfl⟩ F.entry_list_mul (F.args_list_mul_2 _ _) (AutoListH.list___mul___list_int_3 l xm.toArray n k t hfit hcap hlong) ⟨e,?_⟩⟩)
 rw[hnew];exact⟨.ref _,_,I.lnew (t':=s.toks) (r.rep k.toNat) (by rw[len_rep,Nat.mul_comm];exact hz),rfl,q _ I.fresh⟩
end
section
variable {prog:Program} {w:World} {A:Around} {E:Value->Shared->Prop} {s:Shared}
end
section
variable {X:Cx}
end
end L2
namespace Att
open PySem PySem.W PySem.Calls PyProof.Rows
theorem MM:∀(ns:List Int) (vs:List Value),WellAll P h vs (ns.map WData.int)->IntsAre vs ns:=by
 intro ns
 induction ns with
 |nil=>intro vs w;rw[du] at w;cases w;exact .nil
 |cons n ns ih=>
  intro vs w;rw[qa] at w;cases w with
  |cons a b=>cases a;exact .cons _ _ (ih _ b)
theorem SM {l:OpenLaw}{n:Nat}(hn:l.most=some n){P:Params}{h:Heap}{args:List WData}{vals:List Value}
  (hpre:l.row.toRowW.claim.pre args=true) (hwl:WellAll P h vals args) :
  ∃a vs ns,vals=[Value.ref a]/\args=[WData.list (ns.map WData.int)]/\h.get? a=some {cls:=.type "list", data:=.seq vs.toArray}/\IntsAre vs ns/\ns.length<=n:=by
 have hsh:WShape.hasAll [] args [.list .int]=true:=(pre_splitW hpre).1;have hc:l.pre.holds [] {args:=args}=true:=(pre_splitW hpre).2;obtain⟨d,r,rfl,h1,h2⟩:=hasAllW_cons hsh;obtain rfl:=hasAllW_nil h2;obtain⟨xs,rfl,h3⟩:=hasW_list h1;obtain⟨ns,rfl⟩:=items_int h3;have hlen:ns.length<=n:=by
  unfold OpenLaw.pre at hc;have h4:(WTm.not (.lt (.lit (.int (n:Int))) (.len (.arg 0)))).holds [] {args:=[.list (ns.map .int)]}=true:=by have h4:=(holds_andW hc).1;rw[hn] at h4;exact h4
  have h5:=condW_of h4 (w_not (w_lt w_lit (w_len_list (w_arg rfl))));rw[xP] at h5;refine Nat.le_of_not_lt λq=>?_;have q':(n:Int)<((ns.length:Nat):Int):=by lia
  first
   | (rw[wF q'] at h5;exact absurd h5 (by decide))
   | (simp at h5;lia)
 cases hwl with
 |cons w1 w2=>
  cases w2;cases w1 with
  |list ho hall=>exact⟨_,_,ns,rfl,rfl,ho,MM ns _ hall,hlen⟩
def Rl (l:OpenLaw)(args:List WData):l.row.toRowW.claim.post args (.bool true) args=true:=
 postW_of (r:=l.row.toRowW) (X:=(true==true))
  (show WShape.has [] (.bool true) .bool=true by first|rfl|decide|simp[WShape.has,WShape.arms,WShape.armsAll])
  (show(WTm.eq .res (.lit (.bool true))).value [] {args:=args,res:=some (.bool true),after:=args}=some (.bool (true==true)) from w_eq_bool (w_res rfl) w_lit) rfl
def KR {l:OpenLaw}{n:Nat}{q:Program}{loose:List Str}{XP:(Str->Option Value)->Heap->Prop}{YP:World->Heap->Prop}{d:DefRec}
  (hn:l.most=some n) (hdf:d.params.defaults=[])
  (call:∀(w:World) (s₀ s₁:Shared) (mg mb:Str->Option Value) (fa:Addr) (o:Obj) (pm cd doc:Value) (a:Addr) (vs:List Value) (ns:List Int),Ground q loose [] XP w s₀ mg mb s₁.heap->YP w s₁.heap->s₁.heap.get? fa=some o->o.data=.func (docDef d.name d.params d.body d.scope pm cd doc)->s₁.heap.CodeRec cd d.name->mg d.name=some (.ref fa)->s₁.heap.get? a=some {cls:=.type "list", data:=.seq vs.toArray}->IntsAre vs ns->ns.length<=n->s₁.gens = #[]->codeAny (model l.prog w) callerA (.call (.ref fa) ⟨[.ref a],[]⟩) (λr s'=>r=.ok (.ret (.bool true))/\OldK s₁.heap s'.heap/\s'.os=s₁.os/\AllBare s'.gens) s₁) :
  WalkO q loose XP YP l.row.toRowW d [] (λf vs=>PySem.call f vs):=by
 intro w s₀ s₁ mg mb G Y fa o pm cd doc dV kV ho hd hcd hD hmg hg args vals as hpre hlay hrd hwl hlo;obtain rfl:dV=.none:=Dflts.none hD hdf;obtain rfl:kV=.none:=Dflts.noKw hD;obtain⟨a,vs,ns,rfl,rfl,hobj,hints,hlen⟩:=SM hn hpre hwl;refine enter_call (codeAny_mono (call w s₀ s₁ mg mb fa o pm cd doc a vs ns G Y ho (fd_plain hd) hcd hmg hobj hints hlen hg) λr s' hq=>?_);obtain⟨rfl,h2,h3,h4⟩:=hq;exact⟨.inl ⟨.bool true,.bool true,[],rfl,λ_=>rfl,.bool true,Rl l _,λ_=>⟨List.Pairwise.nil,λ_ hm=>(nomatch hm)⟩⟩,h2,h3,h4⟩
section
variable {prog:Program} {w:World} {A:Around} {E:Value->Shared->Prop} {s:Shared} {K:Frag}
def ledger (h:Heap)(L d:Addr):List (Addr×Obj):=(List.range h.objs.size).filterMap λa=>if a=L\/a=d then none else(h.get? a).map λo=>(a,o)
end
end Att
namespace L2
open PySem PySem.Spec PyProof.Rows
theorem JM:∀ {vs:List Value} {ns:List Int},IntsAre vs ns->yn (ns.map V.int) vs
 |_,_,.nil=>.nil
 |_,_,.cons n t h=>.cons ⟨t,rfl⟩ (JM h)
def pP (H:Hp):Prop:=∀b,H b=none\/∃o xs,H b=some (.frz o (.lst xs))
theorem Na {P:Program}{w:World}{K:xw}{mg mb:Str->Option Value}{CX:CXT}{k:Nat}{fa a:Addr}{fd:FuncData}{x:Str}{sp:Sp}{s₁:Shared}{vs:List Value}{ns:List Int}
  (KX:K.In s₁.heap) (hns:s₁.heap.Ns mainGlobals mg) (hb:s₁.heap.Ns builtinsNs mb) (hbb:∀x:Str,x ≠ "__name__" -> mb x=bootBuiltins x) (hlim:s₁.heap.NoLimit) (hg:s₁.gens = #[])
  (ha:s₁.heap.get? a=some {cls:=.type "list", data:=.seq vs.toArray}) (hi:IntsAre vs ns) (hl:ns.length<=sizeLine) (hr:wR k callerA)
  (F:∀base:Heap,K.In base->base.Ns mainGlobals mg->u_ P w K mg base CX k fa fd [x] sp) (hbind:∀(s:Shared) (u:Value),BindsTo s fd ⟨[u],[]⟩ [(x,u)])
  (hsp:∀H:Hp,pP H->yw K H a (ns.map V.int)->sp [.ref a] H (λv _=>v=.bl true) λ_ _ _=>False)
  (hCX:∀H e s',CX [] H s₁ (λ_ _ _=>False) e s'->False) :
  codeAny (model P w) callerA (.call (.ref fa) ⟨[.ref a],[]⟩) (λr s'=>r=.ok (.ret (.bool true))/\OldK s₁.heap s'.heap/\s'.os=s₁.os/\AllBare s'.gens) s₁:=by
 have rv:=JM hi;have lenV:=hi.length;have core:∀H:Hp,pP H->yw K H a (ns.map V.int)->z_ P w H s₁.heap->(∀b,H b≠none->b=a)->(H a≠none->K.lookup a=none)->
   codeAny (model P w) callerA (.call (.ref fa) ⟨[.ref a],[]⟩) (λr s'=>r=.ok (.ret (.bool true))/\OldK s₁.heap s'.heap/\s'.os=s₁.os/\AllBare s'.gens) s₁:=by
  intro H hO hS hok hA hK;have base_of:∀ {b:Addr} {o:Obj},s₁.heap.get? b=some o->H b=none->(jK s₁.heap H).get? b=some o:=λe n=>MD e n;have noA:∀ {b:Addr} {o:Obj} {es:Array DictEntry} {ep:Nat},s₁.heap.get? b=some o->o.data=.dict es ep->H b=none:=λ {b o es ep} e d=>by
   cases q:H b with
   |none=>rfl
   |some u=>have e':b=a:=hA b (by rw[q];simp);subst e';rw[ha] at e;cases e;have d':Data.seq vs.toArray _=Data.dict es ep:=d;cases d'
  have nsK:∀ {b:Addr} {m:Str->Option Value},s₁.heap.Ns b m->(jK s₁.heap H).Ns b m:=λ {b m} ⟨o,es,ep,e,d,r⟩=>⟨o,es,ep,base_of e (noA e d),d,r⟩
  have hKb:K.In (jK s₁.heap H):=λb o e=>base_of (KX b o e) (by
   cases q:H b with
   |none=>rfl
   |some u=>have e':b=a:=hA b (by rw[q];simp);subst e';rw[hK (by rw[q];simp)] at e;cases e)
  have hM:Mod K mg (jK s₁.heap H):=⟨hKb,nsK hns,⟨mb,nsK hb,hbb⟩,let ⟨mc,h1,h2⟩:=hlim;⟨mc,nsK h1,h2⟩⟩
  have e0:mR P w K mg (jK s₁.heap H) callerA [] s₁ H:=⟨rfl,hM,λb o e=>NP e,Nat.le_of_eq (ME _ _),trivial,λb hb=>absurd (show b∈([]:List Addr) from hb) (by simp),hok,.of_eq hg⟩
  refine codeAny_mono ((F _ hKb (nsK hns)).run callerA [] s₁ H ⟨[.ref a],[]⟩ [.ref a] [.ref a] _ _ hr e0 (hbind s₁ (.ref a)) (.cons rfl .nil) (hsp H hO hS)) λr s' h=>?_;cases r with
  |error e=>exact(hCX H e s' h).elim
  |ok fl=>
   cases fl with
   |next=>exact False.elim h
   |brk=>exact False.elim h
   |cont=>exact False.elim h
   |ret u=>
    obtain⟨v,H',os,bare,un,hok',r',q⟩:=h;have q':v=.bl true:=q;subst q';obtain rfl:u=Value.bool true:=r';refine⟨rfl,OldK.of_keep λb o e=>?_,os,bare⟩;cases q:H b with
    |none=>exact un.keep b o e q (by intro z;exact absurd (show b∈([]:List Addr) from z) (by simp)) (by simp)
    |some u=>
     rcases hO b with z|⟨ob,xs,z⟩
     .rw[q] at z;cases z
     .have z2:=un.frzs b ob _ z;obtain⟨e1,_⟩:=hok b _ z;obtain⟨e2,_⟩:=hok' b _ z2;rw[e] at e1;cases e1;exact e2
 cases hk:K.lookup a with
 |some o=>have e:=KX a o hk;rw[ha] at e;cases e;refine core (λ_=>none) (λ_=>.inl rfl) (.inr ⟨_,vs.toArray,_,hk,rfl,rfl,rfl,by rw[wo,lenV];exact hl,by simpa using rv⟩) (λb u z=>by have z':(none:Option HO)=some u:=z;cases z') (λb z=>absurd rfl z) λz=>absurd rfl z
 |none=>
  refine core (λb=>if b=a then some (.frz {cls:=.type "list", data:=.seq vs.toArray} (.lst (ns.map V.int))) else none) (λb=>?_) (.inl (.inr ⟨{cls:=.type "list", data:=.seq vs.toArray},xJ rfl⟩)) (λb u z=>?_) (λb z=>?_) λ_=>hk
  .by_cases hb:b=a
   .exact .inr ⟨_,_,xJ hb⟩
   .exact .inl (xG hb)
  .by_cases hb:b=a
   .have z':=(xJ hb).symm.trans z;cases z';subst hb;exact⟨ha,by rw[xP];exact hl,vs,_,rv,ha⟩
   .have z':=(xG hb).symm.trans z;cases z'
  .by_cases hb:b=a
   .exact hb
   .exact absurd (xG hb) z
abbrev KOf {K:xw}{h:Heap}(_:K.In h):xw:=K
def TU {l:PySem.W.OpenLaw}{n k:Nat}{q:Program}{loose:List Str}{XP:(Str->Option Value)->Heap->Prop}{YP:World->Heap->Prop}{d:DefRec}{K:Params->xw}{CX:World->CXT}{sp:World->Sp}{x:Str}
  (hn:l.most=some n) (hn2:n<=sizeLine) (hdf:d.params.defaults=[]) (hr:wR k callerA)
  (hY:∀(w:World) (h:Heap),YP w h->(K w.params).In h)
  (F:∀(w:World) (mg:Str->Option Value) (fa:Addr) (h:Heap),(K w.params).In h->h.Ns mainGlobals mg->mg d.name=some (.ref fa)->∃fd:FuncData,(∀(s:Shared) (u:Value),BindsTo s fd ⟨[u],[]⟩ [(x,u)])/\∀base:Heap,(K w.params).In base->base.Ns mainGlobals mg->u_ l.prog w (K w.params) mg base (CX w) k fa fd [x] (sp w))
  (hsp:∀(w:World) (H:Hp) (a:Addr) (ns:List Int),ns.length<=n->pP H->yw (K w.params) H a (ns.map V.int)->sp w [.ref a] H (λv _=>v=.bl true) λ_ _ _=>False)
  (hCX:∀(w:World) (H:Hp) (s:Shared) (e:Value) (s':Shared),CX w [] H s (λ_ _ _=>False) e s'->False) :
  PySem.W.WalkO q loose XP YP l.row.toRowW d [] (λf vs=>PySem.call f vs):=by
 refine Att.KR hn hdf λw s₀ s₁ mg mb fa o pm cd doc a vs ns G Y ho hd hcd hmg hobj hints hlen hg=>?_;have KX:=hY w _ Y;obtain⟨fd,hb,hF⟩:=F w mg fa _ KX G.T.g hmg;exact Na KX G.T.g G.T.b G.T.builtins G.T.nolimit hg hobj hints (vt hlen hn2) hr hF hb (λH hO hS=>hsp w H a ns hlen hO hS) λH e s'=>hCX w H s₁ e s'
def qL (s:Stmt):Arguments:=match s with
 |.FunctionDef _ a _ _ _ _ _ _ _ _=>a
 |_=>{posonlyargs:=[],args:=[],vararg:=none,kwonlyargs:=[],kw_defaults:=[],kwarg:=none,defaults:=[]}
def vb (s:Stmt):List Stmt:=match s with
 |.FunctionDef _ _ b _ _ _ _ _ _ _=>b
 |_=>[]
def xH (s:Stmt):Scope:=match s with
 |.FunctionDef _ _ _ _ _ _ sc _ _ _=>sc
 |_=>{kind:=.function,names:=[],isGenerator:=false,isCoroutine:=false}
abbrev CX0:CXT:=λ_ _ _ _ _ _=>False
abbrev E0:XK:=λ_ _ _=>False
def Q8:pQ CX0 X E0:=λ_ _ _ _ _ _ _ h=>h.elim
structure Fun (K:xw)(x qual:Str)(st:Stmt)(f:Addr)(fd:FuncData):Prop where
 ex:∃(oc:Value) (od:Option Addr) (kV doc pm:Value) (an:Option Addr) (cdv ct:Value) (osl:Array (Option Value)),
  fd=PySem.W.fnOf x qual (qL st) (vb st) (xH st) .none kV doc pm an cdv ct/\K.lookup f=some ⟨oc,od,.func fd,osl⟩/\PySem.W.codeIn K cdv qual=true
 kp:PySem.W.keepIn K (.ref f)=true
section
variable {P:Program} {w:World} {K:xw} {mg:Str->Option Value} {base:Heap}
def Fun.ok {x qual:Str}{st:Stmt}{f:Addr}{fd:FuncData}{N ps:List Str}{k:Nat}{sp:Sp}(F:Fun K x qual st f fd)(S:xW N ps (xH st))(len:∀vs H Q E,sp vs H Q E->vs.length=ps.length)
  (hbody:∀(cdv:Value) (A:Around) (outer:List Env) (s:Shared) (H:Hp) (vs:List V) (Q:VK) (E:XK),wR k (A.deeper (envOfC qual (xH st) s.heap.objs.size f cdv))->sp vs H Q E->∃t,PSs (kF CX0 P w K mg base N qual (xH st) f cdv A outer s H E).nox (vb st) t/\t {nx:=λ_ H'=>Q .non H',rt:=Q} (start N vs) H):u_ P w K mg base CX0 (k+1) f fd ps sp:=by
 obtain⟨oc,od,kV,doc,pm,an,cdv,ct,osl,rfl,lk,hcd⟩:=F.ex;refine Mj lk hcd S len λA outer s H vs Q E hr hsp=>?_;obtain⟨t,h,q⟩:=hbody cdv A outer s H vs Q E hr hsp;exact⟨t,h.nox,q⟩
def Fun.binds {x qual:Str}{st:Stmt}{f:Addr}{fd:FuncData}{ps:List Str}(F:Fun K x qual st f fd)
  (h:∀(kV doc pm:Value) (an:Option Addr) (cdv ct:Value) (us:List Value),us.length=ps.length->bindArgs (PySem.W.fnOf x qual (qL st) (vb st) (xH st) .none kV doc pm an cdv ct) ⟨us,[]⟩=pure (ps.zip us)):Binds K fd ps []:=by
 obtain⟨oc,od,kV,doc,pm,an,cdv,ct,osl,rfl,lk,hcd⟩:=F.ex;exact .all (h kV doc pm an cdv ct)
def FD {x qual:Str}{st:Stmt}{f:Addr}{oc:Value}{od an:Option Addr}{osl:Array (Option Value)}{kV doc pm cdv ct:Value}(l:K.lookup f=some ⟨oc,od,.func (PySem.W.fnOf x qual (qL st) (vb st) (xH st) .none kV doc pm an cdv ct),osl⟩)
  (c:PySem.W.codeIn K cdv qual=true) (k:PySem.W.keepIn K (.ref f)=true):Fun K x qual st f (PySem.W.fnOf x qual (qL st) (vb st) (xH st) .none kV doc pm an cdv ct):=⟨⟨oc,od,kV,doc,pm,an,cdv,ct,osl,rfl,l,c⟩,k⟩
end
def Tb (h:n<=1000):n<sizeLine:=kZ h (by decide)
section
variable {X:Cx}
def pv (i:Nat)(hN:X.N[i]?=some x:=by rfl)(hv:Vis X.env.scope x:=by first|exact Or.inl rfl|exact Or.inr (Or.inl rfl)|exact Or.inr (Or.inr rfl))(hd:(x==("__debug__" : Str))=false:=by decide)
  (hcd:(x==("__classdict__" : Str))=false:=by decide):PE X (.Name x pos) (uD i):=Ra hN hv hd hcd
end
def vY {A B:Prop}(h:B):if false=true then A else B:=by rw[xG uG];exact h
def kI {A B:Prop}(h:A):if true=true then A else B:=by rw[xJ rfl];exact h
def Gb {c A B:Prop}[Decidable c](h1:c->A)(h2:¬c->B):if c then A else B:=by
 by_cases h:c
 .rw[xJ h];exact h1 h
 .rw[xG h];exact h2 h
def uL (env:Env):List (Str×NameKind)->List (Str×Addr)->List (Str×Addr)
 |[],cs=>cs
 | (n,k)::r,cs=>if k==NameKind.free then(match env.cells.lookup n with|some a=>uL env r ((n,a)::cs)|none=>uL env r cs) else uL env r cs
theorem oD:∀(l:List (Str×NameKind)) (cs:List (Str×Addr)),(∀y∈l,y.2=NameKind.free->∃c,env.cells.lookup y.1=some c)->
  (forIn l cs (λ(x:Str×NameKind) (r:List (Str×Addr))=>(if (x.2==NameKind.free)=true then(do let a <-cellOf env x.1;pure (ForInStep.yield ((x.1,a)::r))) else pure (ForInStep.yield r):Sem (ForInStep (List (Str×Addr))))))=pure (uL env l cs)
 |[],cs,_=>rfl
 | (n,k)::r,cs,h=>by
  rw[List.forIn_cons];have hr:∀y∈r,y.2=NameKind.free->∃c,env.cells.lookup y.1=some c:=λy hy=>h y (yI _ hy);by_cases hk:k=NameKind.free
  .subst hk;obtain⟨c,hc⟩:=h (n,.free) xU rfl;have hc':env.cells.lookup n=some c:=hc;have e1:cellOf env n=pure c:=by unfold cellOf;rw[hc']
   have e2:uL env ((n,.free)::r) cs=uL env r ((n,c)::cs):=by show(if (NameKind.free==NameKind.free)=true then _ else _)=_;rw[xJ (show(NameKind.free==NameKind.free)=true from rfl),hc']
   rw[e2,xJ (show((NameKind.free==NameKind.free)=true) from rfl),e1,pure_bind,pure_bind];exact oD r _ hr
  .have hb:(k==NameKind.free)=false:=by simpa using hk
   have e2:uL env ((n,k)::r) cs=uL env r cs:=by show(if (k==NameKind.free)=true then _ else _)=_;rw[hb];rfl
   rw[e2,xG (by rw[hb];exact uG),pure_bind];exact oD r _ hr
def Er (h:∀y∈sc.names,y.2=NameKind.free->∃c,env.cells.lookup y.1=some c):closureFor sc env=pure (uL env sc.names []):=by
 have q:=oD (env:=env) sc.names [] h;unfold closureFor;show(do let r <-forIn sc.names [] (λ(x:Str×NameKind) (r:List (Str×Addr))=>_);pure r)=_;rw[show(forIn sc.names ([]:List (Str×Addr)) (λ(x:Str×NameKind) (r:List (Str×Addr))=>match x with
   | (name,kind)=>if (kind==NameKind.free)=true then(do let a <-cellOf env name;pure (ForInStep.yield ((name,a)::r))) else pure (ForInStep.yield r)):Sem (List (Str×Addr)))=pure (uL env sc.names []) from q]
 rfl
theorem gg:∀(l:List (Str×NameKind)) (cs:List (Str×Addr)),(uL env l cs).lookup x=some c->(∀c,cs.lookup x=some c->env.cells.lookup x=some c)->env.cells.lookup x=some c
 |[],cs,h,hc=>hc c h
 | (n,k)::r,cs,h,hc=>by
  unfold uL at h;split at h
  .split at h
   .rename_i a ha;refine gg r _ h λc' h'=>?_;rw[qB] at h';by_cases e:x==n
    .rw[e] at h';have:x=n:=by simpa using e
     rw[this,ha];exact h'
    .have e':(x==n)=false:=by simpa using e
     rw[e'] at h';exact hc c' h'
   .exact gg r _ h hc
  .exact gg r _ h hc
theorem ni (he:env.cells.lookup x=some c):∀(l:List (Str×NameKind)) (cs:List (Str×Addr)),cs.lookup x=some c->(uL env l cs).lookup x=some c
 |[],cs,h=>h
 | (n,k)::r,cs,h=>by
  unfold uL;split
  .split
   .rename_i a ha;refine ni he r _ ?_;rw[qB];by_cases e:x==n
    .rw[e];have e':x=n:=by simpa using e
     rw[e',ha] at he;exact he
    .have e':(x==n)=false:=by simpa using e
     rw[e'];exact h
   .exact ni he r _ h
  .exact ni he r _ h
theorem rC (he:env.cells.lookup x=some c):∀(l:List (Str×NameKind)) (cs:List (Str×Addr)),(x,NameKind.free)∈l->(uL env l cs).lookup x=some c
 | (n,k)::r,cs,h=>by
  rcases xX.mp h with e|e
  .have e1:n=x:=zg (·.1) e.symm;have e2:k=.free:=zg (·.2) e.symm;subst e1 e2;unfold uL;rw[xJ (show(NameKind.free==NameKind.free)=true from rfl),he];exact ni he r _ (by rw[qB];simp)
  .unfold uL;split
   .split
    .exact rC he r _ e
    .exact rC he r _ e
   .exact rC he r _ e
def wx (X:Cx)(sc:Scope)(N:List Str)(C:Addr)(s:Shared)(H:Hp)(ex:List Addr):Cx:={X with N:=N,s₀:=s,H₀:=H,env:=compEnvC sc (uL X.env sc.names []) C X.env,outer:=X.stack,stack:=X.stack,ex:=ex,fn:=λ_=>false,pn:=[],xe:=λ_ _=>False}
def Es (XN:List Str)(xs sc:Scope)(N:List Str)(xQ:List (Option Nat)):Bool:=
 decide (sc.kind=.function)&&sc.names.all (λy=>decide (y.2≠.cell))&&sc.names.all (λy=>decide (y.2≠.local)||decide (sc.names.lookup y.1=some .local))&&decide N.Nodup&&decide (xQ.length=N.length) &&
 (xQ.zip N).all (λp=>match p.1 with|none=>true|some j=>decide (XN[j]?=some p.2)&&decide (sc.names.lookup p.2=some .free)) &&
 sc.names.all (λy=>decide (y.2≠.free)||decide (xs.names.lookup y.1=some .cell)||decide (xs.names.lookup y.1=some .free))&&decide (xs.kind=.function)
structure ku (X:Cx)(sc:Scope)(N:List Str)(xQ:List (Option Nat)):Prop where
 kind:sc.kind=.function
 nocell:∀y∈sc.names,y.2≠.cell
 loc:∀y∈sc.names,y.2=.local->sc.names.lookup y.1=some .local
 nd:N.Nodup
 len:xQ.length=N.length
 out:∀(i j:Nat) (x:Str),xQ[i]?=some (some j)->N[i]?=some x->X.N[j]?=some x/\sc.names.lookup x=some .free
 fr:∀y∈sc.names,y.2=.free->X.env.scope.names.lookup y.1=some .cell\/X.env.scope.names.lookup y.1=some .free
 okind:X.env.scope.kind=.function
theorem zip_get:∀ {l:List α} {k:List β} {i:Nat} {a:α} {b:β},l[i]?=some a->k[i]?=some b->(a,b)∈l.zip k
 |[],_,_,_,_,h,_=>by simp at h
 |_::_,[],_,_,_,_,h=>by simp at h
 |x::l,y::k,0,a,b,h1,h2=>by simp at h1 h2;subst h1;subst h2;simp
 |x::l,y::k,i+1,a,b,h1,h2=>by have:=zip_get (l:=l) (k:=k) (i:=i) (by simpa using h1) (by simpa using h2);rw[dD];exact yI _ this
def ui (h:Es XN xs sc N xQ=true)(h1:X.N=XN)(h2:X.env.scope=xs):ku X sc N xQ:=by
 subst h1 h2;unfold Es at h;simp only[ju,j9,qE,Bool.or_eq_true] at h;obtain⟨⟨⟨⟨⟨⟨⟨k,c⟩,l⟩,nd⟩,len⟩,out⟩,fr⟩,ok⟩:=h;refine⟨k,c,λy hy e=>(l y hy).resolve_left (λz=>z e),nd,len,λi j x e1 e2=>?_,λy hy e=>?_,ok⟩
 .have:=out _ (zip_get e1 e2);simpa using this
 .rcases fr y hy with (z|z)|z
  .exact absurd e z
  .exact .inl z
  .exact .inr z
def vA (xQ:List (Option Nat))(σ:St):St:=xQ.map λo=>match o with|some j=>(σ[j]?).getD none|none=>none
theorem eL {sc:Scope}{env:Env}:∀ {l:List (Str×NameKind)} {x:Str} {k:NameKind},
  (l.map λ(n,k)=>if (k==NameKind.free&&env.scope.kind == .function&&env.kindOf n==some .cell) then(n,NameKind.cell) else(n,k)).lookup x=some k->((∀y∈l,y.2≠NameKind.cell)->k≠.local->(x,NameKind.free)∈l\/l.lookup x=some k/\k≠.cell)
 |[],x,k,h=>by simp at h
 | (n,k')::r,x,k,h=>by
  intro nc nl;have ih:=@eL sc env r x k;have h:List.lookup x ((if (k' == NameKind.free&&env.scope.kind == .function&&env.kindOf n==some .cell)=true then(n,NameKind.cell) else(n,k'))::(r.map _))=some k:=h;by_cases hx:x=n
  .subst hx;by_cases hc:(k' == NameKind.free&&env.scope.kind == .function&&env.kindOf x==some .cell)=true
   .left;have:k'=.free:=by simp only[ju] at hc;simpa using hc.1.1
    subst this;exact xU
   .rw[xG hc,qB] at h;simp at h;subst h;right;exact⟨by rw[qB];simp,nc (x,k') xU⟩
  .have e:(x==n)=false:=by simpa using hx
   have h':List.lookup x (r.map λ(n,k)=>if (k==NameKind.free&&env.scope.kind == .function&&env.kindOf n==some .cell) then(n,NameKind.cell) else(n,k))=some k:=by
    split at h
    .rw[qB,e] at h;exact h
    .rw[qB,e] at h;exact h
   rcases ih h' (λy hy=>nc y (yI _ hy)) nl with z|⟨z,w⟩
   .exact .inl (yI _ z)
   .exact .inr ⟨by rw[qB,e];exact z,w⟩
section
variable {X:Cx} {sc:Scope} {N:List Str} {xQ:List (Option Nat)} {xf:List (Addr×Obj)} {σ:St} {H:Hp} {s:Shared}
theorem ku.cells (k:ku X sc N xQ)(ok:X.Ok):∀y∈sc.names,y.2=NameKind.free->∃c,X.env.cells.lookup y.1=some c:=λy hy e=>ok.has y.1 (k.fr y hy e)
def ku.vis (k:ku X sc N xQ)(h:(relabel sc X.env).names.lookup x=some .cell\/(relabel sc X.env).names.lookup x=some .free):(x,NameKind.free)∈sc.names:=by
 rcases h with h|h
 .rcases eL (sc:=sc) (env:=X.env) (l:=sc.names) h k.nocell (by decide) with z|⟨_,z⟩
  .exact z
  .exact absurd rfl z
 .rcases eL (sc:=sc) (env:=X.env) (l:=sc.names) h k.nocell (by decide) with z|⟨z,_⟩
  .exact z
  .exact aU z
def Eu (k:ku X sc N xQ)(I:Inv X xf σ H s)(hf:∀b∈fp,qG X xf H b)(hob:∀b∈fp,∃o,s.heap.get? b=some o) :
  (wx X sc N (s.heap.objs.size+1) s H fp).Ok where
 mod:=I.ok.mod
 kind:=k.kind
 glob:=I.ok.glob
 blt:=I.ok.blt
 above:=mE _
 inj:=λx y c h1 h2=>I.ok.inj x y c (gg _ _ h1 λ_ z=>by simp at z) (gg _ _ h2 λ_ z=>by simp at z)
 has:=λx h=>by have m:=k.vis h;obtain⟨c,e⟩:=k.cells I.ok _ m rfl;exact⟨c,rC e _ _ m⟩
 cab:=λx c h=>by cases h
 hd:=I.ok.hd
 frames:=I.ok.frames
 stk:=.inl rfl
 exf:=λb hb=>⟨λz=>by obtain⟨o,e⟩:=hob b hb;have l:=yK e;have z':b=s.heap.objs.size+1:=z;rw[z'] at l;exact dE _ (Nat.lt_of_succ_lt l),λx c h=>(hf b hb).2.2.2.2.1 x c (gg _ _ h λ_ z=>by simp at z)⟩
 bs:=I.bs
 bsz:=vt I.ok.bsz I.sz
 noex:=λb o e hb=>by
  rcases(hf b hb).2.2.2.1 with z|z
  .exact I.ok.noex b o e z
  .exact absurd (vJ (yK (I.ok.bs b o e).1) z) (dE _)
 exfs:=λb hb z=>by
  rcases xX.mp (I.stkSub b z) with e|e
  .exact(hf b hb).2.1 e
  .exact(hf b hb).2.2.1 e
 funs:=I.stack
 frf:=I.stkFree
theorem FY {i:Nat}{v:V}(h:(vA xQ σ)[i]?=some (some v)):∃j,xQ[i]?=some (some j)/\σ[j]?=some (some v):=by
 unfold vA at h;rw[ue] at h;cases e:xQ[i]? with
 |none=>rw[e] at h;cases h
 |some o=>
  rw[e] at h;cases o with
  |none=>cases h
  |some j=>
   have h':(σ[j]?).getD none=some v:=by simpa using h
   refine⟨j,rfl,?_⟩;cases q:σ[j]? with
   |none=>rw[q] at h';cases h'
   |some o'=>rw[q] at h';exact zg some h'
def Ln (k:ku X sc N xQ)(I:Inv X xf σ H s){fp:List Addr}(hf:∀b∈fp,qG X xf H b)(hob:∀b∈fp,∃o,s.heap.get? b=some o){h1:Heap}{t':Nat}
  (kp:∀b o,s.heap.get? b=some o->h1.get? b=some o) (hn:h1.Ns (s.heap.objs.size+1) (λ_=>none)) (hD:h1.get? s.heap.objs.size=some {cls:=.type "list", data:=.seq #[] 0}) :
  Inv (wx X sc N (s.heap.objs.size+1) s H fp) [(s.heap.objs.size,{cls:=.type "list", data:=.seq #[] 0})] (vA xQ σ) H {s with heap:=h1,toks:=t' } where
 ok:=Eu k I hf hob
 os:=rfl
 bare:=I.bare
 base:=Un.kept kp
 loc:=⟨_,hn,λi x v e1 e2 e3=>by
  obtain⟨j,t1,t2⟩:=FY e2;obtain⟨o1,o2⟩:=k.out i j x t1 e1;have m:(x,NameKind.free)∈sc.names:=aU o2;have hk:=k.fr _ m rfl;obtain⟨mm,hn',hl⟩:=I.loc;obtain⟨u,r,l⟩:=hl j x v o1 t2 (hk.elim (λz=>.inr (.inl z)) λz=>.inr (.inr z));refine⟨u,r,.inr ⟨?_,?_⟩⟩
  .rcases e3 with z|z|z
   .exfalso;have:∀ {l:List (Str×NameKind)},l.lookup x=some .free->(l.map λ(n,k)=>if (k==NameKind.free&&X.env.scope.kind == .function&&X.env.kindOf n==some .cell) then(n,NameKind.cell) else(n,k)).lookup x≠some .local:=by
     intro l
     induction l with
     |nil=>intro h;simp at h
     |cons y r ih=>
      obtain⟨n,k'⟩:=y;intro h q;have q:List.lookup x ((if (k' == NameKind.free&&X.env.scope.kind == .function&&X.env.kindOf n==some .cell)=true then(n,NameKind.cell) else(n,k'))::(r.map _))=some .local:=q;by_cases hx:x=n
      .subst hx;rw[qB] at h;simp at h;subst h;split at q
       .rw[qB] at q;simp at q
       .rw[qB] at q;simp at q
      .have e:(x==n)=false:=by simpa using hx
       rw[qB,e] at h;refine ih h ?_;split at q
       .rw[qB,e] at q;exact q
       .rw[qB,e] at q;exact q
    exact this o2 z
   .exact .inl z
   .exact .inr z
  .rcases l with ⟨z,_⟩|⟨_,c,ec,hc⟩
   .exfalso;have z:X.env.scope.names.lookup x=some .local:=z;rcases hk with q|q<;>rw[z] at q<;>cases q
   .obtain⟨o,ho,hd⟩:=hc;exact⟨c,rC ec _ _ m,o,kp c o ho,hd⟩⟩
 cell:=λx c h=>by obtain⟨v,o,ho,hd⟩:=I.cell x c (gg _ _ h λ_ z=>by simp at z);exact⟨v,o,kp c o ho,hd⟩
 free:=I.hok.fresh (mE _)
 freeC:=λx c h=>I.freeC x c (gg _ _ h λ_ z=>by simp at z)
 pin:=λp hp=>by
  have e:p=(s.heap.objs.size,{cls:=.type "list", data:=.seq #[] 0}):=by simpa [wx] using hp
  subst e;refine⟨hD,I.hok.fresh (ym _),we (Cd _),λz=>?_,λv=>by simp⟩;rcases xX.mp (I.stkSub _ z) with e|e
  .exact absurd (e▸I.lt) (dE _)
  .exact I.nofs (ym _) e
 hok:=I.hok.kept kp
 len:=by show(vA xQ σ).length=N.length;unfold vA;rw[xP];exact k.len
end
theorem Lm (I:Nat->Shared->Prop)
  (turn:∀n s,I n s->wpAny (model prog w) A (pyNext it) (λr s₁=>match r with
   |none=>R (.ok .next) s₁
   |some v=>wpAny (model prog w) A (letOwnedTupleGo target it v) (λ_ s₀=>wpAny (model prog w) A (assign target env v) (λ_ s₂=>wpAny (model prog w) A (forIn ifs true λc r=>if r=true then do let ok <-isTrue c env (eval c env);pure (ForInStep.yield ok) else pure (ForInStep.yield r)) (λok s₃=>
      if ok=true then wpAny (model prog w) A (eval elt env) (λx s₄=>wpAny (model prog w) A (call (.builtin "list.append") [acc,x]) (λ_ s₅=>∃m,m<n/\I m s₅) (notedBy (model prog w) A env λe s'=>R (.error e) s') s₄) (notedBy (model prog w) A env λe s'=>R (.error e) s') s₃
      else ∃m,m<n/\I m s₃) (notedBy (model prog w) A env λe s'=>R (.error e) s') s₂) (notedBy (model prog w) A env λe s'=>R (.error e) s') s₀) (notedBy (model prog w) A env λe s'=>R (.error e) s') s₁) (notedBy (model prog w) A env λe s'=>R (.error e) s') s)
  (n:Nat) (h:I n s) :
  codeAny (model prog w) A (.compLoop (.ListComp elt [⟨target,iter,ifs,0⟩] scope pos) 0 it acc env) R s:=by
 refine codeAny_loop rfl I (λn s hI=>?_) n h;show wpAny _ A ((compTurn (.ListComp elt [⟨target,iter,ifs,0⟩] scope pos) 0 it acc env).onRaise (λx=>do noteFrame x env;theTreesLotGoes x)) _ _ s;refine wpAny_noted ?_;rw[compTurn_list];refine xj (mN (xj (vR (turn n s hI) (λr s₁ h₁=>?_) λ_ _ h'=>h')));cases r with
 |none=>exact xO h₁
 |some v=>
  refine xj (vR h₁ (λ_ s₀ h₀=>?_) λ_ _ h'=>h');refine xj (vR h₀ (λ_ s₂ h₂=>xj (vR h₂ (λok s₃ h₃=>?_) λ_ _ h'=>h')) λ_ _ h'=>h');cases ok with
  |false=>exact xO ⟨rfl,h₃⟩
  |true=>exact xj (xj (vR h₃ (λx s₄ h₄=>xj (vR h₄ (λ_ s₅ h₅=>xO (xO ⟨rfl,h₅⟩)) λ_ _ h'=>h')) λ_ _ h'=>h'))
def PIf (Y:Cx)(ifs:List Expr)(t:TT):Prop:=
 ∀(xf:List (Addr×Obj)) (s:Shared) (σ:St) (H:Hp) (Q:Bool->Hp->Prop),Inv Y xf σ H s->t σ H Q->
  wpAny (model Y.prog Y.w) Y.A (forIn ifs true λc r=>if r=true then do let ok <-isTrue c Y.env (eval c Y.env);pure (ForInStep.yield ok) else pure (ForInStep.yield r)) (TP Y xf σ Q) Y.xe s
def Jq:TT:=λ_ H Q=>Q true H
def kR:PIf Y [] Jq:=λxf s σ H Q I h=>wpAny_tests_nil ⟨H,I,h⟩
def kS (h:PT Y c t):PIf Y [c] t:=λxf s σ H Q I q=>wpAny_tests_one (@h xf s σ H Q I q)
def Agree (xQ:List (Option Nat))(σ σ2:St):Prop:=∀i j:Nat,xQ[i]?=some (some j)->σ2[i]?=σ[i]?
def GA (xQ:List (Option Nat))(g:TG):Prop:=∀x σ H Q,g x σ H Q->g x σ H (λσ2 H2=>Q σ2 H2/\Agree xQ σ σ2)
def GAs (xQ:List (Option Nat))(t:TGs):Prop:=∀xs σ H Q,t xs σ H Q->t xs σ H (λσ2 H2=>Q σ2 H2/\Agree xQ σ σ2)
def vW (h:xQ[i]?=some none):GA xQ (qM i):=λx σ H Q q=>⟨q,λk j e=>by rw[aO];rintro rfl;rw[h] at e;cases e⟩
def gA:GAs xQ nS:=λxs σ H Q q=>⟨q.1,q.2,λ_ _ _=>rfl⟩
def gz {K:xw}{n:Nat}{t:TGs}{xQ:List (Option Nat)}(h:GAs xQ t):GA xQ (rS K n t):=λx σ H Q q=>by obtain⟨a,xs,e,sq,l,r⟩:=q;exact⟨a,xs,e,sq,l,h _ _ _ _ r⟩
def vd (h:xQ[i]?=some none)(hu:GAs xQ u):GAs xQ (nR (qM i) u):=λxs σ H Q q=>by
 obtain⟨v,r,e,q⟩:=q;refine⟨v,r,e,?_⟩;have q':u r (σ.set i (some v)) H Q:=q;show u r (σ.set i (some v)) H _;have:=hu _ _ _ _ q';have e2:(λσ2 H2=>Q σ2 H2/\Agree xQ (σ.set i (some v)) σ2)=(λσ2 H2=>Q σ2 H2/\Agree xQ σ σ2):=by
  funext σ2 H2;have:Agree xQ (σ.set i (some v)) σ2↔Agree xQ σ σ2:=by
   have key:∀(k j:Nat),xQ[k]?=some (some j)->(σ.set i (some v))[k]?=σ[k]?:=λk j e=>by rw[aO];rintro rfl;rw[h] at e;cases e
   constructor
   .intro z k j e;rw[z k j e,key k j e]
   .intro z k j e;rw[z k j e,key k j e]
  exact propext (and_congr_right λ_=>this)
 rw[<-e2];exact this
def Bv (wi:TI)(xQ:List (Option Nat))(g:TG)(tc:TT)(te:TE):TE:=λσ H Q=>wi σ H λJ H1=>
 ∃W:Nat->Nat->List V->Hp->Prop,(∃m,W 0 m [] H1)/\∀i m ys H,W i m ys H->
  (J.stop i H/\∀p,H p=none->Q (.ref p) (upd H p (.lst ys)))\/
  (J.go i H/\ys.length<sizeLine/\∀x H',J.yld i H x H'->g x (vA xQ σ) H' λσ2 H2=>tc σ2 H2 λb H3=>if b=true then te σ2 H3 λy H4=>∃m',m' < m/\W (i+1) m' (ys++[y]) H4 else ∃m',m' < m/\W (i+1) m' ys H3)
section
variable {X:Cx} {sc:Scope} {N:List Str} {xQ:List (Option Nat)} {xf:List (Addr×Obj)} {σ:St} {H:Hp} {s:Shared}
def Ew (k:ku X sc N xQ)(I:Inv X xf σ H s)(hf:∀b∈fp,qG X xf H b)
  (J:Inv (wx X sc N (s.heap.objs.size+1) s H fp) [(s.heap.objs.size,{cls:=.type "list", data:=.seq xm.toArray n})] σ' H' s') (rv:yn ys xm) (hz:ys.length<=sizeLine) :
  Inv X xf σ (upd H' s.heap.objs.size (.lst ys)) s'/\H' s.heap.objs.size=none/\(upd H' s.heap.objs.size (.lst ys)) (s.heap.objs.size+1)=none:=by
 obtain⟨pD,nD,_,_,_⟩:=J.pin (s.heap.objs.size,{cls:=.type "list", data:=.seq xm.toArray n}) (by simp[wx]);have nC:H' (s.heap.objs.size+1)=none:=J.free;have B:Un (frs X.stack) fp H H' s.heap s'.heap:=J.base;have ltD:∀b o,s.heap.get? b=some o->b≠s.heap.objs.size:=λb o e=>we (yK e);refine⟨I.call' (ch:=fp) J.os ⟨B.keep,B.slot,λb o e n hx=>?_,B.there,λb xs e=>?_,λb o u e=>?_,λb ps e=>?_⟩ (λb u e=>?_) J.bare (λb hb=>?_),nD,?_⟩
 .rw[yx (ltD b o e)];exact B.free b o e n hx
 .have q:=B.tups b xs e;rw[yx (zP q nD)];exact q
 .have q:=B.frzs b o u e;rw[yx (zP q nD)];exact q
 .obtain⟨more,q⟩:=B.tbls b ps e;exact⟨more,by rw[yx (zP q nD)];exact q⟩
 .by_cases hb:b=s.heap.objs.size
  .subst hb;rw[zp] at e;cases e;exact⟨hz,xm,n,rv,pD⟩
  .rw[yx hb] at e;exact(J.hok b u e).stay (λc v _ q=>q) (λc q=>by rw[yx (zP q nD)];exact q) (λc xs q=>by rw[yx (zP q nD)];exact q) λc o u q=>by rw[yx (zP q nD)];exact q
 .obtain⟨_,f1,_,f3,f4,f5⟩:=hf b hb;exact⟨f3,f1,f4,f5⟩
 .rw[yx (fg (Cd _))];exact nC
def Ex (I0:Inv X xf σ H s)(I:Inv X xf σ' H' s')(hC:H' (s.heap.objs.size+1)=none)(hs:Heap.SameBut (s.heap.objs.size+1) s'.heap h') :
  Inv X xf σ' H' {s' with heap:=h' }:=by
 have lt:∀b o,s.heap.get? b=some o->b≠s.heap.objs.size+1:=λb o e=>we (aS (yK e));refine I.turned (t':=s'.toks) (it:=s.heap.objs.size+1) (λb o hb e=>(hs.2 b hb).trans e) hC ?_ (.inr (vt I0.sz (mE _))) (λx c e=>?_) (λp hp=>?_)
 .exact fg (aS I0.lt)
 .obtain⟨v,o,ho,_⟩:=I0.cell x c e;exact lt c o ho
 .exact lt _ _ (I0.pin p hp).1
def Et (k:ku X sc N xQ)(hc:X.calm=true)(I:Inv X xf σ H s)
  (T:Turn X.prog X.w X.K tg J fp it tn) (st0:tn 0 s.heap) (hf:∀b∈fp,qG X xf H b) (hga:GA xQ g)
  (hg:∀C s H ex,PG (wx X sc N C s H ex) tg g) (ht:∀C s H ex,PIf (wx X sc N C s H ex) ifs tc) (he:∀C s H ex,PE (wx X sc N C s H ex) elt te)
  {W:Nat->Nat->List V->Hp->Prop} {Z:List V->Hp->Prop} (w0:∃m,W 0 m [] H) (turn:∀i m ys H,W i m ys H->(J.stop i H/\Z ys H)\/ (J.go i H/\ys.length<sizeLine/\∀x H',J.yld i H x H'->g x (vA xQ σ) H' λσ2 H2=>tc σ2 H2 λb H3=>if b=true then te σ2 H3 λy H4=>∃m',m' < m/\W (i+1) m' (ys++[y]) H4 else ∃m',m' < m/\W (i+1) m' ys H3))
  {E:Value->Shared->Prop} {RR:Value->Addr->Result->Shared->Prop}
  (fin:∀ σ' H' s' ys xm n,Inv (wx X sc N (s.heap.objs.size+1) s H fp) [(s.heap.objs.size,{cls:=.type "list", data:=.seq xm.toArray n})] σ' H' s'->yn ys xm->ys.length<=sizeLine->Z ys H'->RR (.ref s.heap.objs.size) (s.heap.objs.size+1) (.ok .next) s') :
  wpAny (model X.prog X.w) X.A (newList []) (λacc s₃=>wpAny (model X.prog X.w) X.A (newFunctionEnv sc X.env.globals (uL X.env sc.names []) [] X.env.qual none .none (some X.env)) (λcenv s₄=>codeAny (model X.prog X.w) X.A (.compStart (.ListComp elt [⟨tg,iter,ifs,0⟩] sc pos) 0 (.ref it) acc {cenv with scope:=relabel sc X.env}) (RR acc cenv.locals) s₄) E s₃) E s:=by
 have hob:∀b∈fp,∃o,s.heap.get? b=some o:=λb hb=>let ⟨o,e,_⟩:=T.obj _ _ st0 b hb;⟨o,e⟩
 refine vM (wpAny_newFunctionEnv k.nocell (by intro y hy;simp at hy) (λh₁ hns₁ hsb₁=>?_) k.kind);dsimp only at hns₁ hsb₁ ⊢;generalize hH2:s.heap.push {cls:=.type "list", dict:=none,data:=.seq ([]:List Value).toArray}=H2 at hns₁ hsb₁ ⊢;have hC:H2.objs.size=s.heap.objs.size+1:=by rw[<-hH2,aE]
 have old:∀b o,s.heap.get? b=some o->h₁.get? b=some o:=λb o e=>hsb₁.extBut b o (by rw[hC];exact we (aS (yK e))) (yZ _ (hH2▸yZ _ e));have hacc:h₁.get? s.heap.objs.size=some {cls:=.type "list", data:=.seq #[] 0}:=hsb₁.extBut _ _ (by rw[hC];exact we (Cd _)) (yZ _ (hH2▸wJ _ rfl));rw[hC] at hns₁ ⊢;have I1:Inv (wx X sc N (s.heap.objs.size+1) s H fp) [(s.heap.objs.size,{cls:=.type "list", data:=.seq #[] 0})] (vA xQ σ) H {s with heap:=h₁,toks:=s.toks+([]:List (Str×Value)).length}:=Ln k I hf hob old hns₁ hacc
 have st1:tn 0 h₁:=T.keep _ _ _ st0 λb _ o e=>old b o e;have ltD:∀b∈fp,b≠s.heap.objs.size:=λb hb=>by obtain⟨o,e⟩:=hob b hb;exact we (yK e)
 have ltC:∀b∈fp,b≠s.heap.objs.size+1:=λb hb=>by obtain⟨o,e⟩:=hob b hb;exact we (aS (yK e))
 have stat:∀ {H':Hp} {xm:List Value} {n:Nat},(∀b∈fp,H' b=none)->∀b∈fp,qG (wx X sc N (s.heap.objs.size+1) s H fp) [(s.heap.objs.size,{cls:=.type "list", data:=.seq xm.toArray n})] H' b:=λ {H' xm n} hn b hb=>by
  have cx:=Eu (N:=N) k I hf hob;refine⟨hn b hb,ltC b hb,cx.exfs b hb,.inl hb,(cx.exf b hb).2,λp hp=>?_⟩;have e:p=(s.heap.objs.size,{cls:=.type "list", data:=.seq xm.toArray n}):=by simpa [wx] using hp
  subst e;exact zY (ltD b hb)
 obtain⟨m0,w0⟩:=w0;have loop:codeAny (model X.prog X.w) X.A (.compLoop (.ListComp elt [⟨tg,iter,ifs,0⟩] sc pos) 0 (.ref it) (.ref s.heap.objs.size) (compEnvC sc (uL X.env sc.names []) (s.heap.objs.size+1) X.env)) (RR (.ref s.heap.objs.size) (s.heap.objs.size+1)) {s with heap:=h₁,toks:=s.toks+([]:List (Str×Value)).length}:=by
  refine Lm (λm s'=>∃i ys H' xm n,Inv (wx X sc N (s.heap.objs.size+1) s H fp) [(s.heap.objs.size,{cls:=.type "list", data:=.seq xm.toArray n})] (vA xQ σ) H' s'/\yn ys xm/\ys.length<=sizeLine/\tn i s'.heap/\(∀b∈fp,H' b=none)/\W i m ys H') ?_ m0
   ⟨0,[],H,[],0,I1,.nil,aT _,st1,λb hb=>(hf b hb).1,w0⟩
  rintro m s3 ⟨i,ys,H3,xm,n,I3,rv,hz,st3,fr3,w3⟩;rcases turn i m ys H3 w3 with ⟨stop,z⟩|⟨go,hlt,step⟩
  .refine vR (T.done (wx X sc N (s.heap.objs.size+1) s H fp) rfl rfl rfl hc i _ s3 _ H3 (λ_ _=>False) I3 (stat fr3) st3 stop) (λr s4 ⟨hr,I4⟩=>?_) λ_ _ f=>f.elim;subst hr;exact fin _ _ _ _ _ _ I4 rv hz z
  .refine vR (T.item (wx X sc N (s.heap.objs.size+1) s H fp) rfl rfl rfl hc i _ s3 _ H3 (λ_ _=>False) I3 (stat fr3) st3 go) (λr s4 ⟨u,hr,h4⟩=>?_) λ_ _ f=>f.elim;subst hr;refine vR h4 (λ_ s5 ⟨x,H5,I5,r5,y5,st5,fr5⟩=>?_) λ_ _ f=>f.elim;have I5':=I5.pinned (stat fr5) (T.obj _ _ st5);refine vR (hg _ _ _ _ _ s5 _ H5 x u _ I5' r5 (hga _ _ _ _ (step x H5 y5))) (λ_ s6 ⟨σ6,H6,I6,q6,ag⟩=>?_) λ_ _ f=>f.elim;refine vR (ht _ _ _ _ _ s6 σ6 H6 _ I6 q6) (λb s7 ⟨H7,I7,q7⟩=>?_) λ_ _ f=>f.elim;have back:∀ {H8:Hp} {s8:Shared},Inv (wx X sc N (s.heap.objs.size+1) s H fp) ([(s.heap.objs.size,{cls:=.type "list", data:=.seq xm.toArray n})]++tL fp s5.heap) σ6 H8 s8->
     Inv (wx X sc N (s.heap.objs.size+1) s H fp) [(s.heap.objs.size,{cls:=.type "list", data:=.seq xm.toArray n})] (vA xQ σ) H8 s8/\tn (i+1) s8.heap/\∀b∈fp,H8 b=none:=λ {H8 s8} I8=>by
    refine⟨I8.unpinned.weak (I1.len.trans I8.len.symm) λj v e=>?_,T.keep _ _ _ st5 λb hb o e=>(I8.pin (b,o) (wZ _ (wZ _ (n5 hb e)))).1,λb hb=>?_⟩
    .obtain⟨j',t1,_⟩:=FY e;rw[ag j j' t1];exact e
    .obtain⟨o,e,d⟩:=T.obj _ _ st5 b hb;exact(I8.pin (b,o) (wZ _ (wZ _ (n5 hb e)))).2.1
   cases b with
   |false=>obtain⟨m',hm,w7⟩:=q7;obtain⟨I8,st8,fr8⟩:=back I7;rw[xG uG];exact⟨m',hm,i+1,ys,H7,xm,n,I8,rv,hz,st8,fr8,w7⟩
   |true=>
    rw[xJ rfl];refine vR (he _ _ _ _ s7 σ6 H7 _ I7 q7) (λy s8 ⟨yv,H8,I8,r8,m',hm,w8⟩=>?_) λ_ _ f=>f.elim;obtain⟨I9,st9,fr9⟩:=back I8;obtain⟨pD,nD,dL,dF,dC⟩:=I9.pin (s.heap.objs.size,{cls:=.type "list", data:=.seq xm.toArray n}) (by simp[wx]);refine aV F.slot_list_append ⟨_,pD,rfl⟩ F.entry_list_append (F.args_list_append_2 _ _) (PySem.list_append s.heap.objs.size xm.toArray n y (by rw[wo,<-rv.length];exact hz)) ⟨pD,?_⟩;have q:=PySem.IsL.update pD (λx=>x.push y);obtain⟨n',q'⟩:∃n',(s8.heap.update s.heap.objs.size (Obj.mapSeq λx=>x.push y)).get? s.heap.objs.size=some {cls:=.type "list", data:=.seq (xm++[y]).toArray n' }:=⟨_,by rw[show(xm++[y]).toArray=xm.toArray.push y by simp];exact q⟩
    have kp:∀b o,b≠s.heap.objs.size->s8.heap.get? b=some o->(s8.heap.update s.heap.objs.size (Obj.mapSeq λx=>x.push y)).get? b=some o:=λb o hb e=>(JV s8.heap _ (zY hb)).trans e;have I10:Inv (wx X sc N (s.heap.objs.size+1) s H fp) [] (vA xQ σ) H8 s8:=I9.pins_of λp hp=>absurd hp (by simp);have I11:Inv (wx X sc N (s.heap.objs.size+1) s H fp) [] (vA xQ σ) H8 {s8 with heap:=s8.heap.update s.heap.objs.size (Obj.mapSeq λx=>x.push y),toks:=s8.toks}:=
     I10.turned (it:=s.heap.objs.size) (t':=s8.toks) kp nD dL (.inr (ym _)) (λx c e z=>by obtain⟨v,o,ho,hd⟩:=I10.cell x c e;rw[z,pD] at ho;cases ho;cases hd) (λp hp=>absurd hp (by simp[wx]))
    refine⟨m',hm,i+1,ys++[yv],H8,xm++[y],n',I11.pins_of λp hp=>?_,rv.append (.cons r8 .nil),?_,T.keep _ _ _ st9 λb hb o e=>kp b o (ltD b hb) e,fr9,w8⟩
    .have e:p=(s.heap.objs.size,{cls:=.type "list", data:=.seq (xm++[y]).toArray n' }):=by simpa using hp
     subst e;exact⟨q',nD,dL,dF,λv=>by simp⟩
    .rw[ze,g_];exact hlt
 exact codeAny_compStart_list loop (T.self _ 0 _ _ _ st1 loop)
def vE (k:ku X sc N xQ)(hc:X.calm=true)(hga:GA xQ g)(hi:PI X tg iter wi)
  (hg:∀C s H ex,PG (wx X sc N C s H ex) tg g) (ht:∀C s H ex,PIf (wx X sc N C s H ex) ifs tc) (he:∀C s H ex,PE (wx X sc N C s H ex) elt te)
  (hs:∀x,foldedSetIterable iter X.env x=pure x:=by intro _;rfl):PE X (.ListComp elt [⟨tg,iter,ifs,0⟩] sc pos) (Bv wi xQ g tc te):=by
 intro xf s σ H Q I h;rw[eval_ListComp];refine wpAny_comprehension_free (use:=none) rfl hs (Er (k.cells I.ok)) k.kind k.loc ?_;refine yp (@hi xf s σ H _ I h) λv s1 h1=>yp h1 λitv s2 h2=>?_;obtain⟨it,fp,tn,J,H2,e,I2,T,st2,f2,W,w0,turn⟩:=h2;subst e;refine Et (RR:=λacc C=>compPost (model X.prog X.w) X.A X.xe none (EP X xf σ Q) acc C) (W:=W) (Z:=λys H'=>∀p,H' p=none->Q (.ref p) (upd H' p (.lst ys))) k hc I2 T st2 f2 hga hg ht he w0 turn ?_;intro σ' H' s' ys xm n J' rv hz z;obtain⟨I',hD,hC⟩:=Ew k I2 f2 J' rv hz;obtain⟨m,hn,_⟩:=J'.loc;exact⟨m,hn,λh' hs'=>⟨.ref _,_,Ex I2 I' hC hs',rfl,z _ hD⟩⟩
def ah (hN:X.N.Nodup)(hi':X.N[i]?=some x)(hx:Loc X.env.scope x)(k:ku X sc N xQ)(hc:X.calm=true)(hga:GA xQ g)(hi:PI X tg iter wi)
  (hg:∀C s H ex,PG (wx X sc N C s H ex) tg g) (ht:∀C s H ex,PIf (wx X sc N C s H ex) ifs tc) (he:∀C s H ex,PE (wx X sc N C s H ex) elt te)
  (hsw:swapsWith (.ListComp elt [⟨tg,iter,ifs,0⟩] sc pos) (some (.Name x py)) spos.line X.env=pure true:=by rfl)
  (hs:∀x,foldedSetIterable iter X.env x=pure x:=by intro _;rfl) (hf:X.fn x=true\/X.env.scope.names.lookup x=some .local:=by first|exact .inl rfl|exact .inr rfl|assumption) :
  PS X (.Assign [.Name x py] (.ListComp elt [⟨tg,iter,ifs,0⟩] sc pos) spos) (j3 (Bv wi xQ g tc te) (qM i)):=by
 intro xf s σ H D I h;rw[exec_Assign_Name_used _ _ _ _ hsw];refine xj (mN (xj ?_));show wpAny _ X.A (do let _ <-comprehension (.ListComp elt [⟨tg,iter,ifs,0⟩] sc pos) sc X.env _ (newList []) false (eval iter X.env) (some (assign (.Name x py) X.env))) _ _ s;refine xj (vR (wpAny_comprehension_free (use:=some (assign (.Name x py) X.env)) (Q:=λ_ s'=>SP X xf D .next s') rfl hs (Er (k.cells I.ok)) k.kind k.loc ?_) (λ_ s' q=>xO (xO q)) λ_ _ e=>e);refine yp (@hi xf s σ H _ I h) λv s1 h1=>yp h1 λitv s2 h2=>?_;obtain⟨it,fp,tn,J,H2,e,I2,T,st2,f2,W,w0,turn⟩:=h2;subst e;refine Et (RR:=λacc C=>compPost (model X.prog X.w) X.A X.xe (some (assign (.Name x py) X.env)) (λ_ s'=>SP X xf D .next s') acc C) (W:=W) (Z:=λys H'=>∀p,H' p=none->D.nx (σ.set i (some (.ref p))) (upd H' p (.lst ys))) k hc I2 T st2 f2 hga hg ht he w0 turn ?_;intro σ' H' s' ys xm n J' rv hz z;obtain⟨I',hD,hC⟩:=Ew k I2 f2 J' rv hz;obtain⟨m,hn,_⟩:=J'.loc;have hn:s'.heap.Ns (s2.heap.objs.size+1) m:=hn;refine wpAny_assign_Name (Je (v:=.ref s2.heap.objs.size) I' hN hi' hx rfl (λs'' I'' ⟨a,sb,ha⟩=>?_) hf);refine⟨m,hn.sameBut sb ?_,λh' hs'=>⟨_,_,Ex I2 I'' hC hs',z _ hD⟩⟩;rcases ha with ha|ha
 .rw[ha];exact fg (aS I2.lt)
 .obtain⟨v,o,ho,_⟩:=I2.cell x a ha;exact fg (aS (yK ho))
end
structure xT (P:Program)(w:World)(K:xw)(mg:Str->Option Value)(base:Heap)(k:Nat)(x:Str)(ps:List Str)(sp:Sp):Prop where
 ex:∃(f:Addr) (fd:FuncData),u_ P w K mg base CX0 k f fd ps sp/\Binds K fd ps []/\PySem.W.keepIn K (.ref f)=true/\mg x=some (.ref f)
theorem xT.mono {P:Program}{w:World}{K:xw}{mg:Str->Option Value}{base:Heap}{j k:Nat}{x:Str}{ps:List Str}{sp:Sp}(h:xT P w K mg base j x ps sp)(hjk:j<=k):xT P w K mg base k x ps sp:=by obtain⟨f,fd,F,b,kp,m⟩:=h.ex;exact⟨f,fd,F.mono hjk,b,kp,m⟩
theorem xT.imp {P:Program}{w:World}{K:xw}{mg:Str->Option Value}{base:Heap}{k:Nat}{x:Str}{ps:List Str}{sp sp':Sp}(h:xT P w K mg base k x ps sp)(q:∀vs H Q E,sp' vs H Q E->sp vs H Q E):xT P w K mg base k x ps sp':=by obtain⟨f,fd,F,b,kp,m⟩:=h.ex;exact⟨f,fd,F.imp q,b,kp,m⟩
def t_ (sp:Sp)(t:TA):TE:=λσ H Q=>t σ H λvs H1=>sp vs H1 Q E0
def xr (h:xT X.prog X.w X.K X.mg X.base j x ps sp)(hr:wR k X.A)(ha:PA X (e::es) t)(hjk:j<=k:=by decide)(hg:Gl X x:=by rfl)
  (hdb:(x==("__debug__" : Str))=false:=by decide) (he:starEach (e::es) X.env=(false,eval e X.env)::starEach es X.env:=by rfl) (hpl:(backTo pos (starEach es X.env)).any (·.1)=false:=by rfl) :
  PE X (.Call (.Name x p) (e::es) [] pos) (t_ sp t):=by
 obtain⟨f,fd,F,b,kp,m⟩:=(h.mono hjk).ex;intro xf s σ H Q I q;refine Q_ (E:=E0) F hr hg m kp b .nil Q8 ha hdb he hpl s σ H Q I ?_;have e:(λ(vs:List V) (H1:Hp)=>sp (vs++[]) H1 Q E0)=λvs H1=>sp vs H1 Q E0:=by funext vs H1;rw[uH]
 show t σ H λvs H1=>sp (vs++[]) H1 Q E0;rw[e];exact q
def tJ {P:Program}{w:World}{K:xw}{mg:Str->Option Value}{base:Heap}{k:Nat}{x qual:Str}{st:Stmt}{f:Addr}{fd:FuncData}{N ps:List Str}{sp:Sp}(F:Fun K x qual st f fd)(S:xW N ps (xH st))(mgx:mg x=some (.ref f))(b:Binds K fd ps [])
  (len:∀vs H Q E,sp vs H Q E->vs.length=ps.length)
  (body:∀(cdv:Value) (A:Around) (outer:List Env) (s:Shared) (H:Hp) (vs:List V) (Q:VK) (E:XK),wR k (A.deeper (envOfC qual (xH st) s.heap.objs.size f cdv))->sp vs H Q E->∃t,PSs (kF CX0 P w K mg base N qual (xH st) f cdv A outer s H E).nox (vb st) t/\t {nx:=λ_ H'=>Q .non H',rt:=Q} (start N vs) H):xT P w K mg base (k+1) x ps sp:=
 ⟨f,fd,F.ok S len body,b,F.kp,mgx⟩
section
variable {X:Cx}
def Cz (i j:Int):Prop:=0<j/\j.natAbs.log2<9000
def Hc:zy X (binaryOp .FloorDiv) (rI Cz λi j=>.int (i/j)):=opI λi j _ _ _ _ _ hc q=>by refine floordiv_int (by have:=hc.1;lia) ?_ (.inl (PyProof.noPylong_of_log2 hc.2));rw[c7 i (by have:=hc.1;lia)];exact q
def Ej (h0:0<j)(h:j<2^128):Cz i j:=by
 refine⟨h0,?_⟩;have:j.natAbs<2^128:=by lia
 have:=Nat.log2_lt (n:=j.natAbs) (k:=128) (by lia);have h':j.natAbs.log2<128:=this.mpr (by lia);lia
def Bu (n c:String):Bool:=n==c||(n == "bool" && c == "int")
def ls:List String:=["NoneType", "bool", "int", "str", "list", "tuple", "dict"]
def sF:List String:=["bool", "int", "str", "list", "tuple", "dict"]
def M9 {K:xw}{n c:String}(hn:n∈ls)(hc:c∈sF):PySem.W.kitOne K (.type n) (.type c)=some (Bu n c):=by simp only[ls,sF,xX,y9,zh] at hn hc;rcases hn with rfl|rfl|rfl|rfl|rfl|rfl|rfl<;>rcases hc with rfl|rfl|rfl|rfl|rfl|rfl<;>kernel_rfl
def tyN (H:Hp):V->Option String
 |.non=>some "NoneType"
 |.bl _=>some "bool"
 |.int _=>some "int"
 |.str _=>some "str"
 |.ref a=>match H a with
  |some (.lst _)=>some "list"
  |some (.frz _ (.lst _))=>some "list"
  |some (.tup _)=>some "tuple"
  |some (.dK _)=>some "dict"
  |_=>none
 |_=>none
theorem TK {K:xw}{H:Hp}{x:V}{n:String}(h:tyN H x=some n):qc K H x (.type n)/\n∈ls:=by
 cases x with
 |non=>cases h;exact⟨.non,by decide⟩
 |bl b=>cases h;exact⟨.bl b,by decide⟩
 |int i=>cases h;exact⟨.int i,by decide⟩
 |str y=>cases h;exact⟨.str y,by decide⟩
 |ref a=>
  have h:(match H a with
   |some (.lst _)=>some "list"
   |some (.frz _ (.lst _))=>some "list"
   |some (.tup _)=>some "tuple"
   |some (.dK _)=>some "dict"
   |_=>none)=some n:=h
  split at h
  .rename_i xs e;cases h;exact⟨.lst e,by decide⟩
  .rename_i o xs e;cases h;exact⟨.frz e,by decide⟩
  .rename_i xs e;cases h;exact⟨.tup e,by decide⟩
  .rename_i xs e;cases h;exact⟨.dK e,by decide⟩
  .cases h
 |_=>cases h
def HP (xs:List V)(H:Hp)(Q:VK):Prop:=∃x c n,xs=[x,.ty c]/\tyN H x=some n/\c∈sF/\Q (.bl (Bu n c)) H
def kD:vv X (.builtin "isinstance") HP:=by intro xf s σ H xs us Q I r h;obtain⟨x,c,n,rfl,ty,hc,q⟩:=h;obtain⟨u,w',rfl,rx,ry⟩:=vals2 r;cases ry;obtain⟨t1,t2⟩:=TK (K:=X.K) ty;exact MR I rx t1 (M9 t2 hc) λtk=>⟨.bl _,H,I.tok tk,rfl,q⟩
theorem JL:∀ {bs:List Bool} {us:List Value},yn (bs.map V.bl) us->us=bs.map Value.bool
 |[],_,.nil=>rfl
 |c::cs,_,.cons r t=>by cases r;rw[JL t];rfl
def eC (K:xw)(xs:List V)(H:Hp)(Q:VK):Prop:=∃(p:Addr) (bs:List Bool),xs=[.ref p]/\yw K H p (bs.map V.bl)/\Q (.bl (bs.all id)) H
def KG {bs:List Bool}:(List.range bs.length).all (λi=>(bs[i]?).getD false)=bs.all id:=by
 rw[cV];simp only[j9,fc,id];constructor
 .intro h b hb;obtain⟨i,hi,rfl⟩:=dw.mp hb;have:=h i hi;rw[yC hi] at this;exact this
 .intro h i hi;rw[yC hi];exact h _ (BZ hi)
def K6 (hc:X.calm=true):vv X (.builtin "all") (eC X.K):=by
 intro xf s σ H xs us Q I r h;obtain⟨p,bs,rfl,hl,q⟩:=h;obtain⟨u,rfl,ru⟩:=vals1 r;cases ru;obtain⟨xm,rv,pl,hz⟩:=I.list hl;have e:=JL rv;subst e;have hl':=pl.isList;refine call_all_walk (Cr hl' ?_);have hlt:p<s.heap.objs.size:=by obtain⟨o,ho,_⟩:=id hl';exact yK ho
 have hne:p≠s.heap.objs.size:=we hlt;refine⟨_,_,_,_,_,_,λi=>(bs[i]?).getD false,rfl,Walks.list (A:=X.A.in1) (I.ok.hd hc) _ p hne (bs.map Value.bool).toArray,⟨⟨_,wJ _ rfl,rfl,rfl⟩,hl'.at λo e=>yZ _ e⟩,?_,λh' tk hk=>?_⟩
 .intro i v s' Q' E' hP hq;have hP':(bs.map Value.bool)[i]?=some v:=by simpa using hP
  rw[ue] at hP';cases eb:bs[i]? with
  |none=>rw[eb] at hP';cases hP'
  |some b=>rw[eb] at hP';cases hP';simp only[eb,Option.getD_some] at hq;exact fi hq
 .have hk':=old_kept (l:=p) hk;refine⟨.bl (bs.all id),H,I.kept hk',?_,q⟩;show Value.bool _=Value.bool _;have:(bs.map Value.bool).toArray.size=bs.length:=by simp
  rw[this,KG]
end
structure ya (mg:Str->Option Value)(ns:List Str):Prop where
 all:∀x∈ns,mg x=none
def ya.get (B:ya mg ns)(x:Str)(h:x∈ns:=by decide +kernel):mg x=none:=B.all x h
def ug:bootBuiltins "len" = some (.builtin "len"):=by decide +kernel
def K3:bootBuiltins "max" = some (.builtin "max"):=by decide +kernel
def Ec:bootBuiltins "min" = some (.builtin "min"):=by decide +kernel
def k_:bootBuiltins "abs" = some (.builtin "abs"):=by decide +kernel
def m6:bootBuiltins "all" = some (.builtin "all"):=by decide +kernel
def kB:bootBuiltins "isinstance" = some (.builtin "isinstance"):=by decide +kernel
def qf:bootBuiltins "tuple" = some (.type "tuple"):=by decide +kernel
def ox:bootBuiltins "list" = some (.type "list"):=by decide +kernel
def Eb:bootBuiltins "int" = some (.type "int"):=by decide +kernel
def Ea:bootBuiltins "bool" = some (.type "bool"):=by decide +kernel
def K4:bootBuiltins "zip" = some (.type "zip"):=by decide +kernel
def pR (n:Int)(b:Bool):Prop:=0<=n/\(b=false->n<2147483647)
def vT (p:Addr)(H:Hp):Prop:=∃(n:Int) (b:Bool),H p=some (.lst [.int n,.bl b])/\pR n b
structure SB (p:Addr)(H H':Hp):Prop where
 keep:∀(b:Addr) (o:HO),b≠p->H b=some o->H' b=some o
 st:vT p H'
def Tc (K:xw):Sp:=λvs H Q _=>∃(a:Addr) (ns:List Int) (k:Int),vs=[.ref a,.int k]/\yw K H a (ns.map V.int)/\ns.length<=63/\0<=k/\∀n:Int,Q (.int n) H
def Ja (K:xw):Sp:=λvs H Q _=>∃(a:Addr) (ns:List Int) (k:Int),vs=[.ref a,.int k]/\yw K H a (ns.map V.int)/\ns.length<=63/\0<=k/\
 ∀(p:Addr) (n:Int) (b:Bool),H p=none->pR n b->Q (.ref p) (upd H p (.lst [.int n,.bl b]))
def Jb:Sp:=λvs H Q _=>∃(p:Addr) (many:Int),vs=[.ref p,.int many]/\vT p H/\0<many/\many<2^128/\∀(r:Int) (H':Hp),0<=r->r<many->SB p H H'->Q (.int r) H'
def KJ {ns:List Int}{k:Int}(h0:0<=k)(h:k<(ns.length:Int)):∃v:Int,atI (ns.map V.int) k=some (.int v):=by
 have hk:k.toNat<ns.length:=by lia
 have ek:k=((k.toNat:Nat):Int):=by lia
 have q:atI (ns.map V.int) ((k.toNat:Nat):Int)=some (.int ns[k.toNat]):=KN (by rw[ue,yC hk]<;>rfl);rw[<-ek] at q;exact⟨_,q⟩
section
variable {X:Cx}
def gB (K:xw)(e:X.K=K:=by rfl):IxR X (eF K):=e▸Ge
def cO (K:xw)(e:X.K=K:=by rfl):SlR X (tN K):=e▸IX
def m_ (K:xw)(hc:X.calm=true)(e:X.K=K:=by rfl):vv X (.builtin "all") (eC K):=e▸K6 hc
def eG (K:xw)(xs:List V)(H:Hp)(Q:VK):Prop:=∃p ys,xs=[.ref p]/\(yw K H p ys\/yM K H p ys)/\Q (.int ys.length) H
def uh (K:xw)(e:X.K=K:=by rfl):vv X (.builtin "len") (eG K):=e▸K8
def eJ (K:xw)(xs:List V)(H:Hp)(Q:VK):Prop:=∃p ys,xs=[.ref p]/\((yw K H p ys/\∀l,H l=none->Q (.ref l) (upd H l (.tup ys)))\/(yM K H p ys/\Q (.ref p) H))
def dU (K:xw)(e:X.K=K:=by rfl):vv X (.type "tuple") (eJ K):=e▸Ld
def HV (K:xw)(xs:List V)(H:Hp)(Q:VK):Prop:=∃p ys,xs=[.ref p]/\(yw K H p ys\/yM K H p ys)/\∀l,H l=none->Q (.ref l) (upd H l (.lst ys))
def K_ (K:xw)(e:X.K=K:=by rfl):vv X (.type "list") (HV K):=e▸Lb
def zM (K:xw)(hc:X.calm=true)(h:PGs X es t)
  (hn:(assignEach es X.env).length=n:=by rfl) (hst:(assignEach es X.env).findIdx? (·.1)=none:=by rfl) (e:X.K=K:=by rfl):PG X (.Tuple es k pos) (rS K n t):=by
 subst e;exact Rc hc h hn hst
end
theorem Hs:∀ {l:List α} {k:List β} {i:Nat} {b:β},Paired F l k->k[i]?=some b->∃a,l[i]?=some a/\F a b
 |_,_,_,_,.nil,h=>by simp at h
 |_,_,0,_,.cons r _,h=>by simp at h;subst h;exact⟨_,rfl,r⟩
 |_,_,i+1,b,.cons _ t,h=>by obtain⟨a,e,f⟩:=Hs (i:=i) t (by simpa using h);exact⟨a,by simpa using e,f⟩
def Q4 (h:Paired F l k):l.length=k.length:=fh h
def i_ (h:Paired F l k)(r:F a b):Paired F (l++[a]) (k++[b]):=Ci h r
theorem Hr:∀ {l l':List α} {k k':List β},Paired F l k->Paired F l' k'->Paired F (l++l') (k++k')
 |_,_,_,_,.nil,s=>s
 |_,_,_,_,.cons r t,s=>.cons r (Hr t s)
theorem i9:∀(n:Nat) {l:List α} {k:List β},Paired F l k->Paired F (l.drop n) (k.drop n)
 |0,_,_,h=>h
 |_+1,_,_,.nil=>.nil
 |n+1,_,_,.cons _ t=>i9 n t
theorem ee:∀(n:Nat) {l:List α} {k:List β},Paired F l k->Paired F (l.take n) (k.take n)
 |0,_,_,_=>.nil
 |_+1,_,_,.nil=>.nil
 |n+1,_,_,.cons r t=>.cons r (ee n t)
def take_succ {α:Type}{l:List α}{i:Nat}{a:α}(h:l[i]?=some a):l.take (i+1)=l.take i++[a]:=by rw[vI,h];rfl
def sz (h:n<=1000):n<=sizeLine:=mC (Tb h)
open Builtin.SmallTypes (nextOf)
structure Drw (it a:Addr)(vs:List Value)(tn:Nat->Heap->Prop)(src:Heap->Prop):Prop where
 mv:∀i h h',tn i h->(∀o,h.get? it=some o->h'.get? it=some o)->tn i h'
 smv:∀h h',src h->(∀o,h.get? a=some o->h'.get? a=some o)->src h'
 ob:∀i h,tn i h->∃o,h.get? it=some o/\∀v,o.data≠.cell v
 item:∀(prog:Program) (w:World) (A:Around) (E:Value->Shared->Prop) (i:Nat) (x:Value) (s:Shared) (Q:Value->Shared->Prop),tn i s.heap->src s.heap->vs[i]?=some x->
  (∀h',tn (i+1) h'->Heap.SameBut it s.heap h'->Q x {s with heap:=h' })->wpAny (model prog w) A (nextOf (.ref it)) Q E s
 fin:∀(prog:Program) (w:World) (A:Around) (E:Value->Shared->Prop) (i:Nat) (s:Shared) (Q:Value->Shared->Prop),A.handled=none->tn i s.heap->src s.heap->vs[i]?=none->
  (∀h' e,Heap.ExtBut it s.heap h'->(∃o,h'.get? e=some o/\o.cls=.type "StopIteration")->E (.ref e) {s with heap:=h' })->wpAny (model prog w) A (nextOf (.ref it)) Q E s
def LP (it a:Addr)(vs:List Value):Drw it a vs (λi h=>h.IsListIter it a i) (λh=>h.IsList a vs.toArray) where
 mv:=λi h h' t k=>t.at k
 smv:=λh h' t k=>t.at k
 ob:=λi h t=>let ⟨o,e,_,d⟩:=t;⟨o,e,λv z=>by rw[d] at z;cases z⟩
 item:=λprog w A E i x s Q t l e h=>wpAny_nextOf_list_item t l (by simpa using e) h
 fin:=λprog w A E i s Q hh t l e h=>wpAny_nextOf_list_end hh t l (by simpa using e) h
section
variable {prog:Program} {w:World} {A:Around} {E:Value->Shared->Prop} {s:Shared}
def NI {it a:Addr}{i:Nat}{vs:List Value}{x:Value}{Q:Value->Shared->Prop}(T:s.heap.IsTupleIter it a i)(S:s.heap.IsTuple a vs.toArray)(e:vs[i]?=some x)
  (h:∀h',h'.IsTupleIter it a (i+1)->Heap.SameBut it s.heap h'->Q x {s with heap:=h' }):wpAny (model prog w) A (nextOf (.ref it)) Q E s:=by
 obtain⟨ob,hob,hcl,hdt⟩:=id T;obtain⟨os,hos,_,nn,hsq⟩:=id S;have e':vs.toArray[i]?=some x:=by simpa using e
 unfold nextOf;refine xj (jC (name:=Str.ofString "__next__") T.typeIs BJ (qb BJ T.typeIs F.entry_tuple_iterator_next (xj (m:=field (.ref it) 0) (vL hob hdt (x:=.ref a) rfl ?_)) (F.args_tuple_iterator_next_1 _)));refine xj (m:=field (.ref it) 1) (vL hob hdt (x:=.int i 0) rfl (xj (m:=seqItems? (.ref a)) (dH hos hsq ?_)));simp only[jx,e'];refine xj (mL hob hdt (by simp) (xO ⟨x,rfl,xO (h _ ⟨_,cY _ hob (Ki (mF hdt _)),(Kh ..).trans hcl,?_⟩ (gZ ..))⟩));rw[mF hdt];simp[rawInt]
def NH {it a:Addr}{i:Nat}{vs:List Value}{Q:Value->Shared->Prop}(hn:A.handled=none)(T:s.heap.IsTupleIter it a i)(S:s.heap.IsTuple a vs.toArray)(e:vs[i]?=none)
  (h:∀h' x,Heap.ExtBut it s.heap h'->(∃o,h'.get? x=some o/\o.cls=.type "StopIteration")->E (.ref x) {s with heap:=h' }):wpAny (model prog w) A (nextOf (.ref it)) Q E s:=by
 obtain⟨ob,hob,hcl,hdt⟩:=id T;obtain⟨os,hos,_,nn,hsq⟩:=id S;have e':vs.toArray[i]?=none:=by simpa using e
 unfold nextOf;refine xj (jC (name:=Str.ofString "__next__") T.typeIs BJ (qb BJ T.typeIs F.entry_tuple_iterator_next (xj (m:=field (.ref it) 0) (vL hob hdt (x:=.ref a) rfl ?_)) (F.args_tuple_iterator_next_1 _)));refine xj (m:=field (.ref it) 1) (vL hob hdt (x:=.int i 0) rfl (xj (m:=seqItems? (.ref a)) (dH hos hsq ?_)));simp only[jx,e'];refine xj (dG (xj (mL hob hdt (by simp) (xj ?_))));simp only[newExc,newTuple];refine xj (vM (xj (m:=firstArgMember _ _) (wpAny_of_eq (a:=Value.none) (by first|rfl|(simp only[firstArgMember];rfl)) (vM ?_ (by size_fits)))) (by size_fits));simp only[raiseNew];refine xj (wpAny_handled ?_)
 first|rw[show A.in1.handled=none from hn]|rw[hn]
 exact xj (xO (wpAny_throw (h _ _ (((gZ ..).extBut.push _).push _) ⟨_,wJ _ rfl,rfl⟩)))
end
def LQ (it a:Addr)(vs:List Value):Drw it a vs (λi h=>h.IsTupleIter it a i) (λh=>h.IsTuple a vs.toArray) where
 mv:=λi h h' t k=>t.at k
 smv:=λh h' t k=>let ⟨o,e,r⟩:=t;⟨o,k o e,r⟩
 ob:=λi h t=>let ⟨o,e,_,d⟩:=t;⟨o,e,λv z=>by rw[d] at z;cases z⟩
 item:=λprog w A E i x s Q t l e h=>NI t l e h
 fin:=λprog w A E i s Q hh t l e h=>NH hh t l e h
structure ZA (z ti to i1 i2 a1 a2:Addr):Prop where
 a:ti≠z/\to≠z/\i1≠z/\i2≠z/\ti≠to/\ti≠i1/\ti≠i2/\to≠i1/\to≠i2/\i1≠i2
 b:a1≠z/\a1≠to/\a1≠i1/\a1≠i2/\a2≠z/\a2≠to/\a2≠i1/\a2≠i2
section
variable {prog:Program} {w:World} {A:Around} {E:Value->Shared->Prop} {s:Shared} {z ti to i1 i2 a1 a2:Addr} {vs us:List Value} {t1 t2:Nat->Heap->Prop} {s1 s2:Heap->Prop}
def Ue {k:Nat}{x y p q:Value}{Q:Value->Shared->Prop}(D:ZA z ti to i1 i2 a1 a2)(W1:Drw i1 a1 vs t1 s1)(W2:Drw i2 a2 us t2 s2)(Z:IsZip s.heap z ti to .none)(TI:IsPair s.heap ti (.ref i1) (.ref i2))(TO:IsPair s.heap to p q)
  (b1:t1 k s.heap) (b2:t2 k s.heap) (c1:s1 s.heap) (c2:s2 s.heap) (ex:vs[k]?=some x) (ey:us[k]?=some y)
  (h:∀h',IsZip h' z ti to (rawInt s.heap.objs.size)->IsPair h' to x y->t1 (k+1) h'->t2 (k+1) h'->IsPair h' s.heap.objs.size x y->(∀c o,c≠z->c≠to->c≠i1->c≠i2->s.heap.get? c=some o->h'.get? c=some o)->Q (.ref s.heap.objs.size) {s with heap:=h' }) :
  wpAny (model prog w) A (Builtin.«zip.__next__» ⟨[.ref z],[]⟩) (λfin s'=>∃v,fin=.done (.ret v)/\Q v s') E s:=by
 obtain⟨⟨d1,d2,d3,d4,d5,d6,d7,d8,d9,d10⟩,e1,e2,e3,e4,e5,e6,e7,e8⟩:=D;refine xj (m:=field (.ref z) 2) (vL Z rfl (x:=.bool false) rfl (xj (m:=field (.ref z) 3) (vL Z rfl (x:=.ref ti) rfl (xj (dH TI rfl ?_)))));refine xj (m:=Builtin.SmallTypes.ownedTupleIsFree (.ref z)) ?_;unfold Builtin.SmallTypes.ownedTupleIsFree;refine xj (vL Z rfl (x:=.none) rfl (xO ?_));simp only[aX];refine xj (dG (xj (vL Z rfl (x:=.ref to) rfl (xj (mM Z (by simp) λg1 Z1 S1=>xj ?_)))))
 replace Z1:IsZip g1 z ti to .ellipsis:=Z1
 simp only[List.zipIdx_cons,List.zipIdx_nil,List.forIn_cons,List.forIn_nil];refine xj (xj (Cq (xj (m:=nextOf (.ref i1)) ?_)));refine W1.item _ _ _ _ k x _ _ (W1.mv _ _ _ b1 λo=>S1.extBut _ o d3) (W1.smv _ _ c1 λo=>S1.extBut _ o e1) ex λg2 b12 S2=>xO ?_;have TO2:IsPair g2 to p q:=S2.extBut _ _ d8 (S1.extBut _ _ d2 TO);refine xj (dH TO2 rfl (xj (Ks TO2 λg3 TO3 S3=>xj (wpAny_letGo (xO ?_)))))
 replace TO3:IsPair g3 to x q:=TO3
 refine xj (xj (Cq (xj (m:=nextOf (.ref i2)) ?_)));have k3:∀c o,c≠z->c≠to->c≠i1->s.heap.get? c=some o->g3.get? c=some o:=λc o n1 n2 n3 g=>S3.extBut _ _ n2 (S2.extBut _ _ n3 (S1.extBut _ _ n1 g));refine W2.item _ _ _ _ k y _ _ (W2.mv _ _ _ b2 λo=>k3 _ o d4 (zY d9) (zY d10)) (W2.smv _ _ c2 λo=>k3 _ o e5 e6 e7) ey λg4 b24 S4=>xO ?_;have TO4:IsPair g4 to x q:=S4.extBut _ _ d9 TO3;refine xj (dH TO4 rfl (xj (Ks TO4 λg5 TO5 S5=>xj (wpAny_letGo (xO (xO ?_))))))
 replace TO5:IsPair g5 to x y:=TO5
 refine xj (dH TO5 rfl (xj (wpAny_newTuple (xj (m:=Builtin.SmallTypes.ownedTupleHandOut (.ref z) (.ref g5.objs.size)) ?_))));have sz5:g5.objs.size=s.heap.objs.size:=by rw[S5.1,S4.1,S3.1,S2.1,S1.1]
 have k5:∀c o,c≠to->c≠i2->g3.get? c=some o->g5.get? c=some o:=λc o n1 n2 g=>S5.extBut _ _ n1 (S4.extBut _ _ n2 g);have Z5:IsZip g5 z ti to .ellipsis:=k5 _ _ (zY d2) (zY d4) (S3.extBut _ _ (zY d2) (S2.extBut _ _ (zY d3) Z1));have b15:t1 (k+1) g5:=W1.mv _ _ _ b12 λo g=>k5 _ o (zY d8) d10 (S3.extBut _ o (zY d8) g);have b25:t2 (k+1) g5:=W2.mv _ _ _ b24 λo g=>S5.extBut _ o (zY d9) g;have zlt:z<g5.objs.size:=yK Z5;unfold Builtin.SmallTypes.ownedTupleHandOut;refine xj (mM (show IsZip (g5.push {cls:=.type "tuple", data:=.seq #[x,y]}) z ti to .ellipsis from yZ _ Z5) (by simp) λg7 Z7 S7=>mM (show IsZip g7 z ti to (rawInt g5.objs.size) from Z7) (by simp) λg8 Z8 S8=>?_)
 replace Z8:IsZip g8 z ti to (rawInt g5.objs.size):=Z8
 have up8:∀c o,c≠z->g5.get? c=some o->g8.get? c=some o:=λc o n g=>S8.extBut _ _ n (S7.extBut _ _ n (yZ _ g));have T8:IsPair g8 g5.objs.size x y:=S8.extBut _ _ (fg zlt) (S7.extBut _ _ (fg zlt) (wJ _ rfl));refine xO ⟨_,rfl,?_⟩;show Q (.ref g5.objs.size) _;rw[sz5] at Z8 T8 ⊢;exact h g8 Z8 (up8 _ _ d2 TO5) (W1.mv _ _ _ b15 λo g=>up8 _ o d3 g) (W2.mv _ _ _ b25 λo g=>up8 _ o d4 g) T8 λc o n1 n2 n3 n4 g=>up8 c o n1 (k5 c o n2 n4 (k3 c o n1 n2 n3 g))
theorem Ud (hn:A.handled=none)(D:ZA z ti to i1 i2 a1 a2)(W1:Drw i1 a1 vs t1 s1)(W2:Drw i2 a2 us t2 s2)(Z:IsZip s.heap z ti to .none)(TI:IsPair s.heap ti (.ref i1) (.ref i2))(TO:IsPair s.heap to p q)
  (b1:t1 k s.heap) (b2:t2 k s.heap) (c1:s1 s.heap) (c2:s2 s.heap) (end':vs[k]?=none\/us[k]?=none)
  (h:∀h' e,(∀c o,c≠z->c≠to->c≠i1->c≠i2->s.heap.get? c=some o->h'.get? c=some o)->(∃o,h'.get? e=some o/\o.cls=.type "StopIteration")->E (.ref e) {s with heap:=h' }) :
  wpAny (model prog w) A (Builtin.«zip.__next__» ⟨[.ref z],[]⟩) Q E s:=by
 obtain⟨⟨d1,d2,d3,d4,d5,d6,d7,d8,d9,d10⟩,e1,e2,e3,e4,e5,e6,e7,e8⟩:=D;refine xj (m:=field (.ref z) 2) (vL Z rfl (x:=.bool false) rfl (xj (m:=field (.ref z) 3) (vL Z rfl (x:=.ref ti) rfl (xj (dH TI rfl ?_)))));refine xj (m:=Builtin.SmallTypes.ownedTupleIsFree (.ref z)) ?_;unfold Builtin.SmallTypes.ownedTupleIsFree;refine xj (vL Z rfl (x:=.none) rfl (xO ?_));simp only[aX];refine xj (dG (xj (vL Z rfl (x:=.ref to) rfl (xj (mM Z (by simp) λg1 Z1 S1=>xj ?_)))))
 replace Z1:IsZip g1 z ti to .ellipsis:=Z1
 simp only[List.zipIdx_cons,List.zipIdx_nil,List.forIn_cons,List.forIn_nil];refine xj (xj (Cq (xj (m:=nextOf (.ref i1)) ?_)));have b1':=W1.mv _ _ _ b1 λo=>S1.extBut _ o d3;have c1':=W1.smv _ _ c1 λo=>S1.extBut _ o e1;cases ex:vs[k]? with
 |none=>
  refine W1.fin _ _ _ _ k _ _ hn b1' c1' ex λg2 e S2 he=>?_;obtain⟨oe,hoe,hce⟩:=he;have Z2:IsZip g2 z ti to .ellipsis:=S2 _ _ (zY d3) Z1;have ne:e≠z:=λy=>by subst y;rw[Z2] at hoe;cases hoe;simp at hce
  exact mM Z2 (by simp) λg3 _ S3=>h g3 e (λc o n1 _ n3 _ g=>S3.extBut _ _ n1 (S2 _ _ n3 (S1.extBut _ _ n1 g))) ⟨oe,S3.extBut _ _ ne hoe,hce⟩
 |some x=>
  have ey:us[k]?=none:=end'.resolve_left (by rw[ex];exact λz=>nomatch z);refine W1.item _ _ _ _ k x _ _ b1' c1' ex λg2 b12 S2=>xO ?_;have TO2:IsPair g2 to p q:=S2.extBut _ _ d8 (S1.extBut _ _ d2 TO);refine xj (dH TO2 rfl (xj (Ks TO2 λg3 TO3 S3=>xj (wpAny_letGo (xO ?_)))));refine xj (xj (Cq (xj (m:=nextOf (.ref i2)) ?_)));have k3:∀c o,c≠z->c≠to->c≠i1->s.heap.get? c=some o->g3.get? c=some o:=λc o n1 n2 n3 g=>S3.extBut _ _ n2 (S2.extBut _ _ n3 (S1.extBut _ _ n1 g));refine W2.fin _ _ _ _ k _ _ hn (W2.mv _ _ _ b2 λo=>k3 _ o d4 (zY d9) (zY d10)) (W2.smv _ _ c2 λo=>k3 _ o e5 e6 e7) ey λg4 e S4 he=>?_;obtain⟨oe,hoe,hce⟩:=he;have Z4:IsZip g4 z ti to .ellipsis:=S4 _ _ (zY d4) (S3.extBut _ _ (zY d2) (S2.extBut _ _ (zY d3) Z1));have ne:e≠z:=λy=>by subst y;rw[Z4] at hoe;cases hoe;simp at hce
  exact mM Z4 (by simp) λg5 _ S5=>h g5 e (λc o n1 n2 n3 n4 g=>S5.extBut _ _ n1 (S4 _ _ n4 (k3 c o n1 n2 n3 g))) ⟨oe,S5.extBut _ _ ne hoe,hce⟩
end
end L2
namespace L2
open PySem PySem.Spec PyProof.Rows
section
variable {prog:Program} {w:World} {A:Around} {E:Value->Shared->Prop} {s:Shared}
end
def Ua (h1:a1<n)(h2:a2<n):ZA (n+4) (n+2) (n+3) n (n+1) a1 a2:=by
 have up:∀(x k:Nat),x<n->x≠n+k:=λx k h=>we (vJ h (Cb n k));have ad:∀j k:Nat,j≠k->n+j≠n+k:=λj k h e=>h (Nat.add_left_cancel e);have a0:∀k:Nat,0≠k->n≠n+k:=λk h e=>h (Nat.add_left_cancel (n:=n) (by simpa using e));exact⟨⟨ad _ _ (by decide),ad _ _ (by decide),a0 _ (by decide),ad _ _ (by decide),ad _ _ (by decide),λe=>a0 2 (by decide) e.symm,ad _ _ (by decide),λe=>a0 3 (by decide) e.symm,ad _ _ (by decide),a0 _ (by decide)⟩,
  up _ _ h1,up _ _ h1,we h1,up _ _ h1,up _ _ h2,up _ _ h2,we h2,up _ _ h2⟩
def Sq2 (K:xw)(b:Bool)(H:Hp)(a:Addr)(xs:List V):Prop:=if b=true then yM K H a xs else yw K H a xs
def qH (b:Bool)(a:Addr)(vs:List Value)(h:Heap):Prop:=if b=true then h.IsTuple a vs.toArray else h.IsList a vs.toArray
def Tn2 (b:Bool)(it a:Addr)(i:Nat)(h:Heap):Prop:=if b=true then h.IsTupleIter it a i else h.IsListIter it a i
theorem uV (b:Bool)(it a:Addr)(vs:List Value):Drw it a vs (Tn2 b it a) (qH b a vs):=by
 cases b with
 |true=>exact LQ it a vs
 |false=>exact LP it a vs
theorem Inv.sq2 (I:Inv X xf σ H s)(h:Sq2 X.K b H a xs):∃vs:List Value,yn xs vs/\qH b a vs s.heap:=by
 cases b with
 |true=>obtain⟨vs,r,p,_⟩:=I.tuple (show yM X.K H a xs from h);exact⟨vs,r,p⟩
 |false=>obtain⟨vs,r,p,_⟩:=I.list (show yw X.K H a xs from h);exact⟨vs,r,p.isList⟩
section
variable {P:Program} {w:World} {K:xw} {z ti to i1 i2 a1 a2:Addr} {b:Bool} {xs ys:List V}
end
section
variable {X:Cx}
end
inductive Tr where
 |non|bl (b:Bool)|int (i:Int)|str (x:Str)|emp|tup (xs:List Tr)|lst (xs:List Tr)
mutual
def Rep (F:Addr->Prop)(H:Hp):Tr->V->Prop
 |.non,v=>v=.non
 |.bl b,v=>v=.bl b
 |.int i,v=>v=.int i
 |.str x,v=>v=.str x
 |.emp,v=>∃a,v=.ref a/\¬F a/\H a=some (.dK [])
 |.tup ts,v=>∃a ws,v=.ref a/\¬F a/\H a=some (.tup ws)/\yt F H ts ws
 |.lst ts,v=>∃a ws,v=.ref a/\¬F a/\H a=some (.lst ws)/\yt F H ts ws
def yt (F:Addr->Prop)(H:Hp):List Tr->List V->Prop
 |[],ws=>ws=[]
 |t::ts,ws=>∃w r,ws=w::r/\Rep F H t w/\yt F H ts r
end
theorem qt:∀ {ts:List Tr} {ws:List V},yt F H ts ws↔Paired (Rep F H) ts ws
 |[],ws=>by
  constructor
  .intro h;cases (show ws=[] from h);exact .nil
  .intro h;cases h;rfl
 |t::ts,ws=>by
  constructor
  .rintro⟨w,r,rfl,h1,h2⟩;exact .cons h1 (qt.mp h2)
  .intro h;cases h with
   |cons h1 h2=>exact⟨_,_,rfl,h1,qt.mpr h2⟩
def yt.len (h:yt F H ts ws):ts.length=ws.length:=Q4 (qt.mp h)
def yt.app (h:yt F H ts ws)(h':yt F H ts' ws'):yt F H (ts++ts') (ws++ws'):=qt.mpr (Hr (qt.mp h) (qt.mp h'))
def yt.get {F:Addr->Prop}{H:Hp}{ts:List Tr}{ws:List V}{i:Nat}{w:V}(h:yt F H ts ws)(e:ws[i]?=some w):∃t,ts[i]?=some t/\Rep F H t w:=Hs (qt.mp h) e
def yt.getT {F:Addr->Prop}{H:Hp}:∀ {ts:List Tr} {ws:List V} {i:Nat} {t:Tr},yt F H ts ws->ts[i]?=some t->∃w,ws[i]?=some w/\Rep F H t w:=λ {ts ws i t} h e=>by
 have hl:=h.len;have hi:i<ws.length:=by have:=(y8.mp e).1;lia
 obtain⟨t',e',r⟩:=h.get (yC hi);rw[e] at e';cases e';exact⟨_,yC hi,r⟩
mutual
theorem wY (m:∀a o,H a=some o->¬F a->H' a=some o/\¬F' a):∀(t:Tr) (v:V),Rep F H t v->Rep F' H' t v
 |.non,v,h=>h
 |.bl b,v,h=>h
 |.int i,v,h=>h
 |.str x,v,h=>h
 |.emp,v,h=>by obtain⟨a,e,n,k⟩:=h;exact⟨a,e,(m a _ k n).2,(m a _ k n).1⟩
 |.tup ts,v,h=>by obtain⟨a,ws,e,n,k,r⟩:=h;exact⟨a,ws,e,(m a _ k n).2,(m a _ k n).1,uB m ts ws r⟩
 |.lst ts,v,h=>by obtain⟨a,ws,e,n,k,r⟩:=h;exact⟨a,ws,e,(m a _ k n).2,(m a _ k n).1,uB m ts ws r⟩
theorem uB (m:∀a o,H a=some o->¬F a->H' a=some o/\¬F' a):∀(ts:List Tr) (ws:List V),yt F H ts ws->yt F' H' ts ws
 |[],ws,h=>h
 |t::ts,ws,h=>by obtain⟨w,r,e,h1,h2⟩:=h;exact⟨w,r,e,wY m t w h1,uB m ts r h2⟩
end
def ax:Tr->Option V
 |.non=>some .non|.bl b=>some (.bl b)|.int i=>some (.int i)|.str x=>some (.str x)|_=>none
theorem fS (h:ax t=some v):Rep F H t v:=by
 cases t with
 |non=>cases h;rfl
 |bl b=>cases h;rfl
 |int i=>cases h;rfl
 |str x=>cases h;rfl
 |_=>cases h
inductive TV where
 |un|fz (t:Tr)|ow (ts:List Tr)|st|sc (ns:List Int)|ob (a:Addr)|od (ks:List (List Int×Tr))
abbrev xV:=List TV
def yo:xV->Nat->TV
 |[],_=>.un
 |x::_,0=>x
 |_::r,n+1=>yo r n
theorem bh:∀ {τ:xV} {i:Nat} (h:i<τ.length),yo τ i=τ[i]
 |[],_,h=>absurd h (by simp)
 |_::_,0,_=>rfl
 |_::r,i+1,h=>bh (τ:=r) (by simpa using h)
theorem jQ:∀ {τ:xV} {i:Nat} (h:τ.length<=i),yo τ i=.un
 |[],_,_=>rfl
 |_::_,0,h=>absurd h (by simp)
 |_::r,i+1,h=>jQ (τ:=r) (by simpa using h)
theorem jR:∀ {τ:xV} {i:Nat} {x:TV} (h:i<τ.length),yo (τ.set i x) i=x
 |[],_,_,h=>absurd h (by simp)
 |_::_,0,_,_=>rfl
 |_::r,i+1,x,h=>jR (τ:=r) (by simpa using h)
theorem vB:∀ {τ:xV} {i j:Nat} {x:TV} (h:j≠i),yo (τ.set i x) j=yo τ j
 |[],_,_,_,_=>rfl
 |_::_,0,0,_,h=>absurd rfl h
 |_::_,0,_+1,_,_=>rfl
 |_::_,_+1,0,_,_=>rfl
 |_::r,i+1,j+1,x,h=>vB (τ:=r) (λe=>h (by rw[e]))
structure FB where
 F0:Addr->Prop
 S0:Addr->Prop
 H0:Hp
 G0:List (Tr×V)
abbrev y_:=Nat->Option Addr
def Av (B:FB)(φ:y_)(a:Addr):Prop:=B.F0 a\/∃i,φ i=some a
def SA (B:FB)(φ:y_)(τ:xV)(a:Addr):Prop:=B.S0 a\/∃i,φ i=some a/\yo τ i=.st
def Wk (B:FB)(φ:y_)(τ:xV)(a:Addr):Prop:=B.F0 a\/SA B φ τ a
def AvB:Bool->FB->y_->xV->Addr->Prop
 |true,B,φ,_=>Av B φ
 |false,B,φ,τ=>Wk B φ τ
def tabOf (K:xw)(x:Str):Option Addr:=match PySem.W.nsIn K mainGlobals x with
 |some (some (.ref f))=>(match K.lookup f with
  |some ⟨_,_,.func fd,_⟩=>(match fd.code with
   |.ref c=>(match K.lookup c with
    |some ⟨_,_,.fields vs,_⟩=>(match vs.toList.getD 11 Value.none with
     |Value.ref P=>(match K.lookup P with
      |none=>some P
      |some _=>none)
     |_=>none)
    |_=>none)
   |_=>none)
  |_=>none)
 |_=>none
def BA (K:xw):Option (Addr×Str):=match K.lookup 4 with
 |none=>none
 |some _=>match tabOf K "law" with
  |some P=>some (P, "law.<locals>.<lambda>")
  |none=>match tabOf K "_law_sides_right" with
   |some P=>some (P, "_law_sides_right.<locals>.<lambda>")
   |none=>none
def h9 (K:xw)(H:Hp):Prop:=∀P q,BA K=some (P,q)->H P=some (.tb q)
theorem h9.none {K:xw}{H:Hp}(h:BA K=Option.none):h9 K H:=λP q e=>by rw[h] at e;cases e
def mW (K:xw)(H:Hp)(a:Addr)(ns:List Int):Prop:=((∃o,H a=some (.frz o (.lst (ns.map V.int))))\/∀H',yw K H' a (ns.map V.int))/\h9 K H
def r9 (ns:List Int):Tr:=.tup (ns.map Tr.int)
def KvR (F:Addr->Prop)(H:Hp)(ks:List (List Int×Tr))(hk:List (List Key×V)):Prop:=Paired (λ(p:List Int×Tr) (q:List Key×V)=>q.1=p.1.map Sum.inl/\Rep F H p.2 q.2) ks hk
def Owd:TV->Prop
 |.ow _=>True
 |.od _=>True
 |_=>False
def Ent (K:xw)(B:FB)(φ:y_)(H:Hp)(i:Nat)(o:Option (Option V)):TV->Prop
 |.un=>True
 |.fz t=>∃v,o=some (some v)/\Rep (Av B φ) H t v
 |.ow ts=>∃a ws,o=some (some (.ref a))/\φ i=some a/\B.H0 a=none/\H a=some (.lst ws)/\yt (Av B φ) H ts ws
 |.st=>∃p,o=some (some (.ref p))/\φ i=some p/\(B.S0 p\/B.H0 p=none)
 |.sc ns=>∃a,o=some (some (.ref a))/\ns.length<=63/\mW K H a ns
 |.ob a=>o=some (some (.ref a))
 |.od ks=>∃a hk,o=some (some (.ref a))/\φ i=some a/\B.H0 a=none/\H a=some (.dT hk)/\KvR (Av B φ) H ks hk
structure NT (o:Option HO):Prop where
 no:o≠none
 tp:∀ws,o≠some (.tup ws)
structure RS (K:xw)(B:FB)(φ:y_)(σ:St)(τ:xV)(H:Hp):Prop where
 fN:∀a,B.F0 a->NT (B.H0 a)
 s0:∀a,B.S0 a->B.F0 a
 ext:∀a o,B.H0 a=some o->¬B.S0 a->H a=some o
 sst:∀a,SA B φ τ a->vT a H
 injG:∀i j a,Owd (yo τ i)->φ i=some a->φ j=some a->i=j
 oN:∀i a,φ i=some a->NT (H a)
 len:σ.length=τ.length
 ent:∀i,Ent K B φ H i (σ[i]?) (yo τ i)
 gh:∀p∈B.G0,Rep (Av B φ) H p.1 p.2
structure HX (B:FB)(φ:y_)(τ:xV)(H H':Hp):Prop where
 keep:∀a o,H a=some o->¬SA B φ τ a->H' a=some o
 st:∀a,SA B φ τ a->vT a H'
section
variable {K:xw} {B:FB} {φ:y_} {σ:St} {τ:xV} {H H' H'':Hp}
def RS.f0 (R:RS K B φ σ τ H)(a:Addr)(h:B.F0 a):B.H0 a≠none:=(R.fN a h).no
def RS.ow (R:RS K B φ σ τ H)(i:Nat)(a:Addr)(h:φ i=some a):H a≠none:=(R.oN i a h).no
def RS.inj (R:RS K B φ σ τ H)(i j:Nat)(a:Addr)(ts:List Tr)(h:yo τ i=.ow ts):φ i=some a->φ j=some a->i=j:=R.injG i j a (by rw[h];trivial)
def vT.ne_none (h:vT p H):H p≠none:=by obtain⟨n,b,e,_⟩:=h;rw[e];exact λz=>nomatch z
def vT.nt (h:vT p H):NT (H p):=by obtain⟨n,b,e,_⟩:=h;rw[e];exact⟨(λz=>nomatch z),λ_ z=>nomatch z⟩
def RS.sAv (R:RS K B φ σ τ H)(h:SA B φ τ a):Av B φ a:=by
 rcases h with h|⟨i,h,_⟩
 .exact .inl (R.s0 a h)
 .exact .inr ⟨i,h⟩
def RS.wAv (R:RS K B φ σ τ H)(h:Wk B φ τ a):Av B φ a:=by
 rcases h with h|h
 .exact .inl h
 .exact R.sAv h
theorem RS.sB (R:RS K B φ σ τ H)(h:SA B φ τ a):AvB b B φ τ a:=by
 cases b with
 |true=>exact R.sAv h
 |false=>exact .inr h
def RS.dom (R:RS K B φ σ τ H)(h:Av B φ a):H a≠none:=by
 rcases h with h|⟨i,h⟩
 .by_cases s:B.S0 a
  .exact(R.sst a (.inl s)).ne_none
  .cases e:B.H0 a with
   |none=>exact absurd e (R.f0 a h)
   |some o=>rw[R.ext a o e s];exact λz=>nomatch z
 .exact R.ow i a h
theorem RS.domB (R:RS K B φ σ τ H)(h:AvB b B φ τ a):H a≠none:=by
 cases b with
 |true=>exact R.dom h
 |false=>exact R.dom (R.wAv h)
theorem RS.nt (R:RS K B φ σ τ H)(h:Av B φ a):NT (H a):=by
 rcases h with h|⟨i,h⟩
 .by_cases s:B.S0 a
  .exact(R.sst a (.inl s)).nt
  .cases e:B.H0 a with
   |none=>exact absurd e (R.f0 a h)
   |some o=>rw[R.ext a o e s,<-e];exact R.fN a h
 .exact R.oN i a h
theorem RS.ntB (R:RS K B φ σ τ H)(h:AvB b B φ τ a):NT (H a):=by
 cases b with
 |true=>exact R.nt h
 |false=>exact R.nt (R.wAv h)
def HX.refl (R:RS K B φ σ τ H):HX B φ τ H H:=⟨λ_ _ h _=>h,R.sst⟩
def HX.trans (h:HX B φ τ H H')(h':HX B φ τ H' H''):HX B φ τ H H'':=⟨λa o e n=>h'.keep a o (h.keep a o e n) n,h'.st⟩
theorem HX.none (h:HX B φ τ H H')(e:H' a=none):H a=none:=by
 cases q:H a with
 |none=>rfl
 |some o=>
  by_cases s:SA B φ τ a
  .exact absurd e (h.st a s).ne_none
  .rw[h.keep a o q s] at e;cases e
def HX.new (R:RS K B φ σ τ H)(hp:H p=Option.none)(o:HO):HX B φ τ H (upd H p o):=
 ⟨λa u e _=>by rw[yx (zP e hp)];exact e,λa s=>by obtain⟨n,b,e,z⟩:=R.sst a s;exact⟨n,b,by rw[yx (zP e hp)];exact e,z⟩⟩
def HX.rep (h:HX B φ τ H H')(hF:∀a,SA B φ τ a->F a)(r:Rep F H t v):Rep F H' t v:=wY (λa o e n=>⟨h.keep a o e (λs=>n (hF a s)),n⟩) t v r
def HX.repL (h:HX B φ τ H H')(hF:∀a,SA B φ τ a->F a)(r:yt F H t v):yt F H' t v:=uB (λa o e n=>⟨h.keep a o e (λs=>n (hF a s)),n⟩) t v r
def o6 (R:RS K B φ σ τ H)(e:H a=some (.frz o u)):¬SA B φ τ a:=λs=>by obtain⟨n,b,q,_⟩:=R.sst a s;rw[e] at q;cases q
def To (R:RS K B φ σ τ H)(e:H a=some (.tb q)):¬SA B φ τ a:=λs=>by obtain⟨n,b,y,_⟩:=R.sst a s;rw[e] at y;cases y
def h9.hx (t:h9 K H)(R:RS K B φ σ τ H)(h:HX B φ τ H H'):h9 K H':=λP q e=>h.keep P _ (t P q e) (To R (t P q e))
theorem RS.hx (R:RS K B φ σ τ H)(h:HX B φ τ H H'):RS K B φ σ τ H' where
 fN:=R.fN
 s0:=R.s0
 ext:=λa o e n=>by
  by_cases s:SA B φ τ a
  .have q:=R.ext a o e n;rcases s with s|⟨i,s,hi⟩
   .exact absurd s n
   .have en:=R.ent i;rw[hi] at en;obtain⟨p,_,e2,e3⟩:=en;rw[s] at e2;cases e2;rcases e3 with z|z
    .exact absurd z n
    .rw[z] at e;cases e
  .exact h.keep a o (R.ext a o e n) s
 sst:=h.st
 injG:=R.injG
 oN:=λi a e=>by
  by_cases s:SA B φ τ a
  .exact(h.st a s).nt
  .cases q:H a with
   |none=>exact absurd q (R.ow i a e)
   |some o=>rw[h.keep a o q s,<-q];exact R.oN i a e
 len:=R.len
 ent:=λi=>by
  have en:=R.ent i;revert en;cases hi:yo τ i with
  |un=>exact λ_=>trivial
  |fz t=>exact λ⟨v,e,r⟩=>⟨v,e,h.rep (λa s=>R.sAv s) r⟩
  |ow ts=>
   intro ⟨a,ws,e1,e2,e3,e4,r⟩;refine⟨a,ws,e1,e2,e3,?_,h.repL (λa s=>R.sAv s) r⟩;by_cases s:SA B φ τ a
   .rcases s with s|⟨j,s,hj⟩
    .exact absurd e3 (R.f0 a (R.s0 a s))
    .have:=R.inj i j a ts hi e2 s;subst this;rw[hi] at hj;cases hj
   .exact h.keep a _ e4 s
  |st=>exact λz=>z
  |ob a=>exact λz=>z
  |od ks=>
   intro ⟨a,hk,e1,e2,e3,e4,r⟩;refine⟨a,hk,e1,e2,e3,?_,Paired.mapP r λp q z=>⟨z.1,h.rep (λa s=>R.sAv s) z.2⟩⟩;by_cases s:SA B φ τ a
   .rcases s with s|⟨j,s,hj⟩
    .exact absurd e3 (R.f0 a (R.s0 a s))
    .have:=R.injG i j a (by rw[hi];trivial) e2 s;subst this;rw[hi] at hj;cases hj
   .exact h.keep a _ e4 s
  |sc ns=>
   intro ⟨a,e,l,q,tb⟩;refine⟨a,e,l,?_,tb.hx R h⟩;rcases q with ⟨o,q⟩|q
   .exact .inl ⟨o,h.keep a _ q (o6 R q)⟩
   .exact .inr q
 gh:=λp hp=>h.rep (λa s=>R.sAv s) (R.gh p hp)
end
abbrev DE:=xV->(Tr->Prop)->Prop
abbrev DT:=xV->(Bool->Prop)->Prop
abbrev DA:=xV->(List Tr->Prop)->Prop
structure rm where
 nx:xV->Prop
 rt:Tr->Prop
 bk:xV->Prop:=λ_=>False
 ct:xV->Prop:=λ_=>False
abbrev DS:=rm->xV->Prop
abbrev DG:=Tr->xV->(xV->Prop)->Prop
abbrev DGs:=List Tr->xV->(xV->Prop)->Prop
def yf (K:xw)(b:Bool)(te:TE)(d:DE):Prop:=∀(B:FB) (φ:y_) (σ:St) (τ:xV) (H:Hp) (Q:VK) (KK:Tr->Prop),RS K B φ σ τ H->d τ KK->
 (∀t v H',HX B φ τ H H'->KK t->Rep (AvB b B φ τ) H' t v->Q v H')->te σ H Q
def zw (K:xw)(te:TE)(d:DE):Prop:=∀(B:FB) (φ:y_) (σ:St) (τ:xV) (H:Hp) (Q:VK) (KK:Tr->Prop),RS K B φ σ τ H->d τ KK->
 (∀ts a ws H',HX B φ τ H H'->KK (.lst ts)->H a=none->H' a=some (.lst ws)->yt (λc=>Av B φ c\/c=a) H' ts ws->Q (.ref a) H')->te σ H Q
def OkT (K:xw)(t:TT)(d:DT):Prop:=∀(B:FB) (φ:y_) (σ:St) (τ:xV) (H:Hp) (Q:Bool->Hp->Prop) (KK:Bool->Prop),RS K B φ σ τ H->d τ KK->
 (∀b H',HX B φ τ H H'->KK b->Q b H')->t σ H Q
def OkA (K:xw)(b:Bool)(n:Nat)(ta:TA)(d:DA):Prop:=∀(B:FB) (φ:y_) (σ:St) (τ:xV) (H:Hp) (Q:List V->Hp->Prop) (KK:List Tr->Prop),RS K B φ σ τ H->d τ KK->
 (∀ts vs H',HX B φ τ H H'->KK ts->ts.length=n->yt (AvB b B φ τ) H' ts vs->Q vs H')->ta σ H Q
def HXA (B:FB)(φ:y_)(H H':Hp):Prop:=∀a o,H a=some o->¬Av B φ a->H' a=some o
def OkG (K:xw)(g:TG)(d:DG):Prop:=∀(B:FB) (φ:y_) (σ:St) (τ:xV) (H:Hp) (t:Tr) (v:V) (Q:St->Hp->Prop) (KK:xV->Prop),RS K B φ σ τ H->Rep (Av B φ) H t v->d t τ KK->
 (∀ φ' σ' τ' H',RS K B φ' σ' τ' H'->(∀a,Av B φ' a->Av B φ a)->HXA B φ H H'->KK τ'->Q σ' H')->g v σ H Q
def mU (K:xw)(g:TGs)(d:DGs):Prop:=∀(B:FB) (φ:y_) (σ:St) (τ:xV) (H:Hp) (t:List Tr) (v:List V) (Q:St->Hp->Prop) (KK:xV->Prop),RS K B φ σ τ H->yt (Av B φ) H t v->d t τ KK->
 (∀ φ' σ' τ' H',RS K B φ' σ' τ' H'->(∀a,Av B φ' a->Av B φ a)->HXA B φ H H'->KK τ'->Q σ' H')->g v σ H Q
def FrL (F:Addr->Prop)(H H':Hp)(t:Tr)(v:V):Prop:=∃a ts ws,v=.ref a/\t=.lst ts/\H a=none/\H' a=some (.lst ws)/\yt (λc=>F c\/c=a) H' ts ws
structure CB (B:FB)(H:Hp):Prop where
 ext:∀a o,B.H0 a=some o->¬B.S0 a->H a=some o
 st:∀a,B.S0 a->vT a H
structure EOk (K:xw)(B:FB)(fr:Bool)(E:Ends)(G:rm):Prop where
 nx:∀ φ σ τ H,RS K B φ σ τ H->G.nx τ->E.nx σ H
 bk:∀ φ σ τ H,RS K B φ σ τ H->G.bk τ->E.bk σ H
 ct:∀ φ σ τ H,RS K B φ σ τ H->G.ct τ->E.ct σ H
 rt:∀t v H,Rep B.F0 H t v->CB B H->G.rt t->(fr=true->FrL B.F0 B.H0 H t v)->E.rt v H
def zH (K:xw)(fr:Bool)(T:TS)(D:DS):Prop:=∀(B:FB) (φ:y_) (σ:St) (τ:xV) (H:Hp) (E:Ends) (G:rm),RS K B φ σ τ H->D G τ->EOk K B fr E G->T E σ H
section
variable {K:xw} {B:FB} {φ:y_} {σ:St} {τ:xV} {H H' H'':Hp}
def RS.extB (R:RS K B φ σ τ H):CB B H:=⟨R.ext,λa s=>R.sst a (.inl s)⟩
theorem Ik (R:RS K B φ σ τ H)(h:Rep (AvB b B φ τ) H' t v):Rep (Wk B φ τ) H' t v:=by
 cases b with
 |true=>exact wY (λa o e n=>⟨e,λw=>n (R.wAv w)⟩) t v h
 |false=>exact h
theorem RC (R:RS K B φ σ τ H)(h:yt (AvB b B φ τ) H' t v):yt (Wk B φ τ) H' t v:=by
 cases b with
 |true=>exact uB (λa o e n=>⟨e,λw=>n (R.wAv w)⟩) t v h
 |false=>exact h
theorem zw.e (h:zw K te d):yf K true te d:=λB φ σ τ H Q KK R hd q=>h B φ σ τ H Q KK R hd λts a ws H' x k e e' r=>q _ _ H' x k ⟨a,ws,rfl,λz=>R.dom z e,e',uB (λc o e n=>⟨e,λz=>n (.inl z)⟩) _ _ r⟩
def wG (i:Nat):DE:=λτ KK=>match yo τ i with|.fz t=>KK t|_=>False
def EW (i:Nat):DE:=λτ KK=>match yo τ i with|.fz t=>KK t|.ow ts=>KK (.lst ts)|_=>False
def dC (t:Tr):DE:=λ_ KK=>KK t
theorem xc:yf K true (uD i) (wG i):=λB φ σ τ H Q KK R hd q=>by
 have en:=R.ent i;unfold wG at hd;revert en hd;cases yo τ i with
 |fz t=>exact λk ⟨v,e,r⟩=>⟨v,e,q t v H (HX.refl R) k r⟩
 |_=>exact λz _=>z.elim
def Hg (R:RS K B φ σ τ H)(hi:yo τ i=.ow ts)(e2:φ i=some a)(e3:B.H0 a=none):¬Wk B φ τ a:=λz=>by
 rcases z with z|z|⟨j,z,hj⟩
 .exact R.f0 a z e3
 .exact R.f0 a (R.s0 a z) e3
 .have:=R.inj i j a ts hi e2 z;subst this;rw[hi] at hj;cases hj
theorem sW:yf K false (uD i) (EW i):=λB φ σ τ H Q KK R hd q=>by
 have en:=R.ent i;unfold EW at hd;revert en hd;cases hi:yo τ i with
 |fz t=>exact λk ⟨v,e,r⟩=>⟨v,e,q t v H (HX.refl R) k (Ik (b:=true) R r)⟩
 |ow ts=>intro k ⟨a,ws,e1,e2,e3,e4,r⟩;exact⟨_,e1,q _ _ H (HX.refl R) k ⟨a,ws,rfl,Hg R hi e2 e3,e4,RC (b:=true) R r⟩⟩
 |_=>exact λz _=>z.elim
def kK (h:ax t=some v:=by rfl):yf K true (tC v) (dC t):=λB φ σ τ H Q KK R hd q=>q t v H (HX.refl R) hd (fS h)
def d2 (f:Tr->Tr->(Tr->Prop)->Prop)(da db:DE):DE:=λτ KK=>da τ λx=>db τ λy=>f x y KK
def OpS (r:R2)(f:Tr->Tr->(Tr->Prop)->Prop):Prop:=∀(F G:Addr->Prop) (H:Hp) (x y:V) (t u:Tr) (KK:Tr->Prop) (Q:VK),Rep F H t x->Rep G H u y->f t u KK->(∀w v,ax w=some v->KK w->Q v H)->r x y H Q
def xk (hr:OpS r f)(ha:yf K b ta da)(hb:yf K c tb db):yf K true (tOp r ta tb) (d2 f da db):=λB φ σ τ H Q KK R hd q=>
 ha B φ σ τ H _ _ R hd λt v H1 x1 k1 r1=>hb B φ σ τ H1 _ _ (R.hx x1) k1 λu w H2 x2 k2 r2=>hr _ _ H2 v w t u KK Q (x2.rep (λa s=>R.sB s) r1) r2 k2 λz v' e k=>q z v' H2 (x1.trans x2) k (fS e)
def fI (C:Int->Int->Prop)(g:Int->Int->Tr)(x y:Tr)(KK:Tr->Prop):Prop:=match x,y with|.int i,.int j=>C i j/\KK (g i j)|_,_=>False
def fI0 (g:Int->Int->Tr)(x y:Tr)(KK:Tr->Prop):Prop:=match x,y with|.int i,.int j=>KK (g i j)|_,_=>False
def i4 (h:∀i j,ax (g' i j)=some (g i j)):OpS (rI C g) (fI C g'):=by
 intro F G H x y t u KK Q r1 r2 hf q;unfold fI at hf;split at hf
 .rename_i i j;cases (show x=.int i from r1);cases (show y=.int j from r2);exact⟨i,j,rfl,rfl,hf.1,q _ _ (h i j) hf.2⟩
 .exact hf.elim
def tH (h:∀i j,ax (g' i j)=some (g i j)):OpS (rI0 g) (fI0 g'):=by
 intro F G H x y t u KK Q r1 r2 hf q;unfold fI0 at hf;split at hf
 .rename_i i j;cases (show x=.int i from r1);cases (show y=.int j from r2);exact⟨i,j,rfl,rfl,q _ _ (h i j) hf⟩
 .exact hf.elim
abbrev L7:=fI0 λi j=>.int (i+j)
abbrev Mb:=fI0 λi j=>.int (i-j)
abbrev fLe:=fI0 λi j=>.bl (decide (i<=j))
abbrev fGt:=fI0 λi j=>.bl (decide (j<i))
abbrev fGe:=fI0 λi j=>.bl (decide (j<=i))
def vo:OpS (rI0 λi j=>.int (i+j)) L7:=tH λ_ _=>rfl
def zW:OpS (rI0 λi j=>.int (i-j)) Mb:=tH λ_ _=>rfl
def jo:OpS (rI0 λi j=>.bl (decide (i<=j))) fLe:=tH λ_ _=>rfl
def s_:OpS (rI0 λi j=>.bl (decide (j<i))) fGt:=tH λ_ _=>rfl
def PM:OpS (rI0 λi j=>.bl (decide (j<=i))) fGe:=tH λ_ _=>rfl
def Bd (i:Int):Prop:=i.natAbs<2^2000
def fu (h1:-(10^100)<=i)(h2:i<=10^100):Bd i:=by
 have:i.natAbs<=10^100:=by lia
 exact kZ this (by decide +kernel)
def log2_lt_of (h:n<2^k)(hk:0<k):n.log2<k:=by
 by_cases h0:n=0
 .subst h0;simpa using hk
 .exact(Nat.log2_lt h0).mpr h
def Bd.bits (h:Bd i):Builtin.Int.intBits i<=2000:=by
 unfold Builtin.Int.intBits;split
 .exact aT _
 .have:=log2_lt_of h (by decide);lia
def CM (i j:Int):Prop:=Bd i/\Bd j
def CM.ok (h:CM i j):IntMulOk i j:=PyProof.Rows.mulOk_of_bits h.1.bits h.2.bits (by decide)
section
variable {X:Cx}
def yq:zy X (binaryOp .Mult) (rI CM λi j=>.int (i*j)):=opI λ_ _ _ _ _ _ _ hc q=>mul_int q hc.ok
def CDv (_i j:Int):Prop:=j≠0/\Bd j
def uZ:zy X (binaryOp .FloorDiv) (rI CDv λi j=>.int (i.fdiv j)):=opI λi j _ _ _ _ _ hc q=>floordiv_int hc.1 q (.inl (PyProof.noPylong_of_log2 (Nat.lt_trans (log2_lt_of hc.2 (by decide)) (by decide))))
end
abbrev Ma:=fI CM λi j=>.int (i*j)
abbrev nL:=fI CDv λi j=>.int (i.fdiv j)
abbrev L_:=fI (λ_ j=>j≠0) λi j=>.int (i.fmod j)
def yu:OpS (rI CM λi j=>.int (i*j)) Ma:=i4 λ_ _=>rfl
def u4:OpS (rI CDv λi j=>.int (i.fdiv j)) nL:=i4 λ_ _=>rfl
def bL:OpS (rI (λ_ j=>j≠0) λi j=>.int (i.fmod j)) L_:=i4 λ_ _=>rfl
def d1 (f:Tr->(Tr->Prop)->Prop)(da:DE):DE:=λτ KK=>da τ λx=>f x KK
def Fe (x:Tr)(KK:Tr->Prop):Prop:=match x with|.int i=>KK (.int (-i))|_=>False
def wM (ha:yf K b ta da):yf K true (tUn (rU λi=>.int (-i)) ta) (d1 Fe da):=λB φ σ τ H Q KK R hd q=>
 ha B φ σ τ H _ _ R hd λt v H1 x1 k1 r1=>by
  cases t with
  |int i=>cases (show v=.int i from r1);exact⟨i,rfl,q _ _ H1 x1 k1 rfl⟩
  |_=>exact k1.elim
def lh:Tr->Bool
 |.non=>true
 |_=>false
theorem Ip (r:Rep F H t v):decide (v=.non)=lh t:=by
 cases t with
 |non=>cases (show v=.non from r);rfl
 |bl b=>cases (show v=.bl b from r);rfl
 |int b=>cases (show v=.int b from r);rfl
 |str b=>cases (show v=.str b from r);rfl
 |emp=>obtain⟨a,e,_⟩:=r;subst e;rfl
 |tup ts=>obtain⟨a,ws,e,_⟩:=r;subst e;rfl
 |lst ts=>obtain⟨a,ws,e,_⟩:=r;subst e;rfl
def tE (ha:yf K b ta da):yf K true (Jn ta) (d1 (λx KK=>KK (.bl (lh x))) da):=λB φ σ τ H Q KK R hd q=>
 ha B φ σ τ H _ _ R hd λt v H1 x1 k1 r1=>by show Q (.bl (decide (v=.non))) H1;rw[Ip r1];exact q _ _ H1 x1 k1 rfl
def iS (ha:yf K b ta da):yf K true (Jt ta) (d1 (λx KK=>KK (.bl (!lh x))) da):=λB φ σ τ H Q KK R hd q=>
 ha B φ σ τ H _ _ R hd λt v H1 x1 k1 r1=>by show Q (.bl (!decide (v=.non))) H1;rw[Ip r1];exact q _ _ H1 x1 k1 rfl
def fB (x:Tr)(KK:Bool->Prop):Prop:=match x with|.bl b=>KK b|_=>False
def nH (d:DE):DT:=λτ KK=>d τ λx=>fB x KK
def zA (ha:yf K b ta da):OkT K (tB ta) (nH da):=λB φ σ τ H Q KK R hd q=>
 ha B φ σ τ H _ _ R hd λt v H1 x1 k1 r1=>by
  cases t with
  |bl i=>cases (show v=.bl i from r1);exact⟨i,rfl,q _ H1 x1 k1⟩
  |_=>exact k1.elim
def yH (ha:yf K b ta da):OkT K (Bz ta) (nH da):=zA ha
def EK (a b:DT):DT:=λτ KK=>a τ λc=>if c=true then b τ KK else KK false
def dOr (a b:DT):DT:=λτ KK=>a τ λc=>if c=true then KK true else b τ KK
def LC (a:DT):DT:=λτ KK=>a τ λc=>KK (!c)
def jm (ha:OkT K ta da)(hb:OkT K tb db):OkT K (Jg ta tb) (EK da db):=λB φ σ τ H Q KK R hd q=>
 ha B φ σ τ H _ _ R hd λc H1 x1 k1=>by
  cases c with
  |true=>exact kI (hb B φ σ τ H1 _ _ (R.hx x1) k1 λd H2 x2 k2=>q d H2 (x1.trans x2) k2)
  |false=>exact vY (q false H1 x1 k1)
def w_ (ha:OkT K ta da)(hb:OkT K tb db):OkT K (tOr ta tb) (dOr da db):=λB φ σ τ H Q KK R hd q=>
 ha B φ σ τ H _ _ R hd λc H1 x1 k1=>by
  cases c with
  |false=>exact vY (hb B φ σ τ H1 _ _ (R.hx x1) k1 λd H2 x2 k2=>q d H2 (x1.trans x2) k2)
  |true=>exact kI (q true H1 x1 k1)
def uw (ha:OkT K ta da):OkT K (Js ta) (LC da):=λB φ σ τ H Q KK R hd q=>ha B φ σ τ H _ _ R hd λc H1 x1 k1=>q (!c) H1 x1 k1
def Lz (a b:DE):DE:=λτ KK=>a τ λx=>fB x λc=>if c=true then b τ KK else KK (.bl false)
def LG (a b:DE):DE:=λτ KK=>a τ λx=>fB x λc=>if c=true then KK (.bl true) else b τ KK
def LD (a:DE):DE:=λτ KK=>a τ λx=>fB x λc=>KK (.bl (!c))
def sV (ha:yf K b ta da)(hb:yf K c tb db):yf K c (Jh ta tb) (Lz da db):=λB φ σ τ H Q KK R hd q=>
 ha B φ σ τ H _ _ R hd λt v H1 x1 k1 r1=>by
  cases t with
  |bl i=>
   cases (show v=.bl i from r1);refine⟨i,rfl,?_⟩;cases i with
   |true=>exact kI (hb B φ σ τ H1 _ _ (R.hx x1) k1 λd w H2 x2 k2 r2=>q d w H2 (x1.trans x2) k2 r2)
   |false=>exact vY (q _ _ H1 x1 k1 (fS rfl))
  |_=>exact k1.elim
def bE (ha:yf K b ta da)(hb:yf K c tb db):yf K c (Jv ta tb) (LG da db):=λB φ σ τ H Q KK R hd q=>
 ha B φ σ τ H _ _ R hd λt v H1 x1 k1 r1=>by
  cases t with
  |bl i=>
   cases (show v=.bl i from r1);refine⟨i,rfl,?_⟩;cases i with
   |false=>exact vY (hb B φ σ τ H1 _ _ (R.hx x1) k1 λd w H2 x2 k2 r2=>q d w H2 (x1.trans x2) k2 r2)
   |true=>exact kI (q _ _ H1 x1 k1 (fS rfl))
  |_=>exact k1.elim
def G1 (ha:yf K b ta da):yf K true (Ju ta) (LD da):=λB φ σ τ H Q KK R hd q=>
 ha B φ σ τ H _ _ R hd λt v H1 x1 k1 r1=>by
  cases t with
  |bl i=>cases (show v=.bl i from r1);exact⟨i,rfl,q _ _ H1 x1 k1 rfl⟩
  |_=>exact k1.elim
def LA (f f':Tr->Tr->(Tr->Prop)->Prop)(da db dc:DE):DE:=λτ KK=>da τ λx=>db τ λy=>f x y λz=>fB z λk=>if k=true then dc τ λw=>f' y w KK else KK (.bl false)
def Ox (hr:OpS r f)(hr':OpS r' f')(ha:yf K b1 ta da)(hb:yf K b2 tb db)(hc:yf K b3 tc dc) :
  yf K true (Jj r r' ta tb tc) (LA f f' da db dc):=λB φ σ τ H Q KK R hd q=>
 ha B φ σ τ H _ _ R hd λt v H1 x1 k1 r1=>hb B φ σ τ H1 _ _ (R.hx x1) k1 λu w H2 x2 k2 r2=>
  hr _ _ H2 v w t u _ _ (x2.rep (λa s=>R.sB s) r1) r2 k2 λz v' e k=>by
   cases z with
   |bl i=>
    cases e;refine⟨i,rfl,?_⟩;cases i with
    |true=>exact kI (hc B φ σ τ H2 _ _ (R.hx (x1.trans x2)) k λw3 v3 H3 x3 k3 r3=>hr' _ _ H3 w v3 u w3 KK Q (x3.rep (λa s=>R.sB s) r2) r3 k3 λz' v'' e' k'=>q z' v'' H3 ((x1.trans x2).trans x3) k' (fS e'))
    |false=>exact vY (q _ _ H2 (x1.trans x2) k (fS rfl))
   |_=>exact k.elim
def kG:DA:=λ_ KK=>KK []
def qK (a:DE)(r:DA):DA:=λτ KK=>a τ λx=>r τ λxs=>KK (x::xs)
def vn:OkA K b 0 vP kG:=λB φ σ τ H Q KK R hd q=>q [] [] H (HX.refl R) hd rfl rfl
def zo (he:yf K b te de)(ha:OkA K b n ta da):OkA K b (n+1) (uC te ta) (qK de da):=λB φ σ τ H Q KK R hd q=>he B φ σ τ H _ _ R hd λt v H1 x1 k1 r1=>ha B φ σ τ H1 _ _ (R.hx x1) k1 λts vs H2 x2 k2 l2 r2=>q (t::ts) (v::vs) H2 (x1.trans x2) k2 (by rw[wC,l2]) ⟨v,vs,rfl,x2.rep (λa s=>R.sB s) r1,r2⟩
def ET (a:DA):DE:=λτ KK=>a τ λxs=>KK (.tup xs)
def fC (a:DA):DE:=λτ KK=>a τ λxs=>KK (.lst xs)
def bR (hp:H p=none)(r:Rep F H t v):Rep F (upd H p o) t v:=wY (λa u e n=>⟨by rw[yx (zP e hp)];exact e,n⟩) t v r
def kW (hp:H p=none)(r:yt F H t v):yt F (upd H p o) t v:=uB (λa u e n=>⟨by rw[yx (zP e hp)];exact e,n⟩) t v r
def j0 (hp:H p=none)(r:yt F H t v):yt (λc=>F c\/c=p) (upd H p o) t v:=uB (λa u e n=>⟨by rw[yx (zP e hp)];exact e,λz=>z.elim n (zP e hp)⟩) t v r
def yA (ha:OkA K b n ta da)(hn:n<=sizeLine:=by decide):yf K b (Jz ta) (ET da):=λB φ σ τ H Q KK R hd q=>
 ha B φ σ τ H _ _ R hd λts vs H1 x1 k1 l1 r1=>⟨by rw[<-r1.len,l1];exact hn,λp hp=>q _ _ _ (x1.trans (HX.new (R.hx x1) hp _)) k1 ⟨p,vs,rfl,λz=>(R.hx x1).domB z hp,zp,kW hp r1⟩⟩
def kM (ha:OkA K true n ta da)(hn:n<=sizeLine:=by decide):zw K (By ta) (fC da):=λB φ σ τ H Q KK R hd q=>
 ha B φ σ τ H _ _ R hd λts vs H1 x1 k1 l1 r1=>⟨by rw[<-r1.len,l1];exact hn,λp hp=>q ts p vs _ (x1.trans (HX.new (R.hx x1) hp _)) k1 (x1.none hp) zp (j0 hp r1)⟩
def v8 (ha:OkA K b n ta da)(hn:n<=sizeLine:=by decide):yf K b (By ta) (fC da):=λB φ σ τ H Q KK R hd q=>
 ha B φ σ τ H _ _ R hd λts vs H1 x1 k1 l1 r1=>⟨by rw[<-r1.len,l1];exact hn,λp hp=>q _ _ _ (x1.trans (HX.new (R.hx x1) hp _)) k1 ⟨p,vs,rfl,λz=>(R.hx x1).domB z hp,zp,kW hp r1⟩⟩
end
def getT:List α->Nat->Option α
 |[],_=>none
 |x::_,0=>some x
 |_::r,n+1=>getT r n
theorem rW:∀(l:List α) (n:Nat),getT l n=l[n]?
 |[],_=>by simp[getT]
 |_::_,0=>by simp[getT]
 |_::r,n+1=>by simp[getT,rW r n]
def atT (ts:List α):Int->Option α
 |.ofNat n=>getT ts n
 |.negSucc n=>if n<ts.length then getT ts (ts.length-1-n) else none
theorem DZ (ts:List α)(i:Int):atT ts i=atI ts i:=by
 unfold atI ixN;cases i with
 |ofNat n=>
  show getT ts n=_;rw[rW];have h0:(0:Int)<=Int.ofNat n:=BR n;rw[xJ h0];by_cases h:(Int.ofNat n)<(ts.length:Int)
  .rw[xJ h];rfl
  .rw[xG h];have:ts.length<=n:=by have h':¬((n:Int)<(ts.length:Int)):=h;lia
   rw[j_ this];rfl
 |negSucc n=>
  show(if n<ts.length then getT ts (ts.length-1-n) else none)=_;have h0:¬(0:Int)<=Int.negSucc n:=by lia
  rw[xG h0];by_cases h:n<ts.length
  .rw[xJ h,rW,xJ (by lia)];show ts[ts.length-1-n]?=ts[(Int.negSucc n+(ts.length:Int)).toNat]?;congr 1;lia
  .rw[xG h,xG (by lia)];rfl
section
variable {K:xw} {B:FB} {φ:y_} {σ:St} {τ:xV} {H H' H'':Hp}
theorem yt.at (r:yt F H ts ws)(h:atT ts i=some t):∃w,atI ws i=some w/\Rep F H t w:=by
 rw[DZ] at h;unfold atI at h ⊢;rw[<-r.len];cases e:ixN ts.length i with
 |none=>rw[e] at h;cases h
 |some j=>rw[e] at h;exact r.getT h
def wy (o:Option Tr)(KK:Tr->Prop):Prop:=match o with|some t=>KK t|none=>False
def fIx (x y:Tr)(KK:Tr->Prop):Prop:=match x,y with|.tup ts,.int i=>wy (atT ts i) KK|.lst ts,.int i=>wy (atT ts i) KK|_,_=>False
def wH (ha:yf K b ta da)(hb:yf K c tb db):yf K b (tOp (rIx K) ta tb) (d2 fIx da db):=λB φ σ τ H Q KK R hd q=>
 ha B φ σ τ H _ _ R hd λt v H1 x1 k1 r1=>hb B φ σ τ H1 _ _ (R.hx x1) k1 λu w H2 x2 k2 r2=>by
  have r1':=x2.rep (λa s=>R.sB s) r1;unfold fIx at k2;split at k2
  .rename_i ts i;obtain⟨a,ws,e,n,ha',rl⟩:=r1';cases (show w=.int i from r2);subst e;cases e:atT ts i with
   |none=>rw[e] at k2;exact k2.elim
   |some z=>rw[e] at k2;obtain⟨y,e1,e2⟩:=rl.at e;exact .inr (.inl ⟨a,ws,i,y,rfl,rfl,yM.of ha',e1,q z y H2 (x1.trans x2) k2 e2⟩)
  .rename_i ts i;obtain⟨a,ws,e,n,ha',rl⟩:=r1';cases (show w=.int i from r2);subst e;cases e:atT ts i with
   |none=>rw[e] at k2;exact k2.elim
   |some z=>rw[e] at k2;obtain⟨y,e1,e2⟩:=rl.at e;exact .inl ⟨a,ws,i,y,rfl,rfl,yw.of ha',e1,q z y H2 (x1.trans x2) k2 e2⟩
  .exact k2.elim
def L9 (ts:List Tr)(y:Tr)(KK:Tr->Prop):Prop:=match y with|.int k=>wy (atT ts k) KK|_=>False
def EN (i:Nat)(db:DE):DE:=λτ KK=>match yo τ i with|.ow ts=>db τ λy=>L9 ts y KK|_=>False
def tI (R:RS K B φ σ τ H)(x:HX B φ τ H H')(hi:yo τ i=.ow ts)(e1:σ[i]?=some (some (.ref a))):∃ws,H' a=some (.lst ws)/\yt (Av B φ) H' ts ws/\φ i=some a/\B.H0 a=none:=by have en2:=(R.hx x).ent i;rw[hi] at en2;obtain⟨a',ws',e1',e2,e3,e4',r'⟩:=en2;rw[e1] at e1';cases e1';exact⟨ws',e4',r',e2,e3⟩
theorem jT (hb:yf K c tb db):yf K true (tOp (rIx K) (uD i) tb) (EN i db):=λB φ σ τ H Q KK R hd q=>by
 have en:=R.ent i;unfold EN at hd;revert en hd;cases hi:yo τ i with
 |ow ts=>
  intro hd ⟨a,ws,e1,e2,e3,e4,r⟩;refine⟨_,e1,hb B φ σ τ H _ _ R hd λu w H2 x2 k2 r2=>?_⟩;obtain⟨ws',e4',r',_⟩:=tI R x2 hi e1;cases u with
  |int k=>
   cases (show w=.int k from r2);have k2:wy (atT ts k) KK:=k2;cases e:atT ts k with
   |none=>rw[e] at k2;exact k2.elim
   |some z=>rw[e] at k2;obtain⟨y,f1,f2⟩:=r'.at e;exact .inl ⟨a,ws',k,y,rfl,rfl,yw.of e4',f1,q z y H2 x2 k2 f2⟩
  |_=>exact k2.elim
 |_=>exact λz _=>z.elim
abbrev DO:=xV->(Option Int->Prop)->Prop
def OkO (K:xw)(t:TO)(d:DO):Prop:=∀(B:FB) (φ:y_) (σ:St) (τ:xV) (H:Hp) (Q:Option Int->Hp->Prop) (KK:Option Int->Prop),RS K B φ σ τ H->d τ KK->(∀o H',HX B φ τ H H'->KK o->Q o H')->t σ H Q
def oK:DO:=λ_ KK=>KK none
def oM (d:DE):DO:=λτ KK=>d τ λx=>match x with|.int i=>KK (some i)|_=>False
def gE:OkO K Jr oK:=λB φ σ τ H Q KK R hd q=>q none H (HX.refl R) hd
def gF (h:yf K b te d):OkO K (Jy te) (oM d):=λB φ σ τ H Q KK R hd q=>
 h B φ σ τ H _ _ R hd λt v H1 x1 k1 r1=>by
  cases t with
  |int i=>cases (show v=.int i from r1);exact⟨i,rfl,q _ H1 x1 k1⟩
  |_=>exact k1.elim
def wK (xs:List α)(lo hi:Option Int):List α:=(xs.drop (HT.yr xs.length 0 lo)).take (HT.yr xs.length xs.length hi-HT.yr xs.length 0 lo)
def yt.cut (r:yt F H ts ws)(lo hi:Option Int):yt F H (wK ts lo hi) (qi ws lo hi):=by unfold wK qi;rw[<-r.len];exact qt.mpr (ee _ (i9 _ (qt.mp r)))
def dSl (d:DE)(dl dh:DO):DE:=λτ KK=>d τ λx=>dl τ λlo=>dh τ λhi=>match x with|.tup ts=>KK (.tup (wK ts lo hi))|.lst ts=>KK (.lst (wK ts lo hi))|_=>False
def LH (d:DE)(dl dh:DO):DE:=λτ KK=>d τ λx=>dl τ λlo=>dh τ λhi=>match x with|.lst ts=>KK (.lst (wK ts lo hi))|_=>False
def G2 {b:Bool}{te:TE}{tl th:TO}{d:DE}{dl dh:DO}(h:yf K b te d)(hl:OkO K tl dl)(hh:OkO K th dh):yf K b (tSl (tN K) te tl th) (LH d dl dh):=λB φ σ τ H Q KK R hd q=>
 h B φ σ τ H _ _ R hd λt v H1 x1 k1 r1=>hl B φ σ τ H1 _ _ (R.hx x1) k1 λlo H2 x2 k2=>hh B φ σ τ H2 _ _ (R.hx (x1.trans x2)) k2 λhi H3 x3 k3=>by
  have r3:=(x2.trans x3).rep (λa s=>R.sB s) r1;have x:=(x1.trans x2).trans x3;cases t with
  |lst ts=>obtain⟨a,ws,e,n,ha,rl⟩:=r3;exact⟨a,ws,e,yw.of ha,λp hp=>q _ _ _ (x.trans (HX.new (R.hx x) hp _)) k3 ⟨p,_,rfl,λz=>(R.hx x).domB z hp,zp,kW hp (rl.cut lo hi)⟩⟩
  |_=>exact k3.elim
def ES (i:Nat)(dl dh:DO):DE:=λτ KK=>match yo τ i with|.ow ts=>dl τ λlo=>dh τ λhi=>KK (.lst (wK ts lo hi))|_=>False
theorem G5 {i:Nat}{tl th:TO}{dl dh:DO}(hl:OkO K tl dl)(hh:OkO K th dh):zw K (tSl (tN K) (uD i) tl th) (ES i dl dh):=λB φ σ τ H Q KK R hd q=>by
 have en:=R.ent i;unfold ES at hd;revert en hd;cases hi:yo τ i with
 |ow ts=>intro hd ⟨a,ws,e1,e2,e3,e4,r⟩;refine⟨_,e1,hl B φ σ τ H _ _ R hd λlo H2 x2 k2=>hh B φ σ τ H2 _ _ (R.hx x2) k2 λhi' H3 x3 k3=>?_⟩;have x:=x2.trans x3;obtain⟨ws',e4',r',_⟩:=tI R x hi e1;exact⟨a,ws',rfl,yw.of e4',λp hp=>q _ _ _ _ (x.trans (HX.new (R.hx x) hp _)) k3 (x.none hp) zp (j0 hp (r'.cut lo hi'))⟩
 |_=>exact λz _=>z.elim
def E7 (x y:Tr)(KK:Tr->Prop):Prop:=match x,y with|.lst ts,.lst us=>ts.length+us.length<=sizeLine/\KK (.lst (ts++us))|_,_=>False
def sX (ha:yf K true ta da)(hb:yf K true tb db):zw K (tOp eE ta tb) (d2 E7 da db):=λB φ σ τ H Q KK R hd q=>
 ha B φ σ τ H _ _ R hd λt v H1 x1 k1 r1=>hb B φ σ τ H1 _ _ (R.hx x1) k1 λu w H2 x2 k2 r2=>by
  have r1':=x2.rep (F:=Av B φ) (λa s=>R.sAv s) r1;have x:=x1.trans x2;unfold E7 at k2;split at k2
  .rename_i ts us;obtain⟨a,ws,e,n,ha',rl⟩:=r1';obtain⟨a2,ws2,e2,n2,ha2,rl2⟩:=r2;exact⟨a,a2,ws,ws2,e,e2,ha',ha2,by rw[<-rl.len,<-rl2.len];exact k2.1,λp hp=>q _ _ _ _ (x.trans (HX.new (R.hx x) hp _)) k2.2 (x.none hp) zp (j0 hp (rl.app rl2))⟩
  .exact k2.elim
def Ff (x y:Tr)(KK:Tr->Prop):Prop:=match x,y with|.lst ts,.int k=>(0<=k/\k<2^63)/\ts.length*k.toNat<=sizeLine/\KK (.lst (List.replicate k.toNat ts).flatten)|_,_=>False
theorem bQ (r:yt F H ts ws):∀n:Nat,yt F H (List.replicate n ts).flatten (List.replicate n ws).flatten
 |0=>rfl
 |n+1=>by rw[ff,ff,aM,aM];exact r.app (bQ r n)
def G4 (ha:yf K true ta da)(hb:yf K c tb db):zw K (tOp eI ta tb) (d2 Ff da db):=λB φ σ τ H Q KK R hd q=>
 ha B φ σ τ H _ _ R hd λt v H1 x1 k1 r1=>hb B φ σ τ H1 _ _ (R.hx x1) k1 λu w H2 x2 k2 r2=>by
  have r1':=x2.rep (F:=Av B φ) (λa s=>R.sAv s) r1;have x:=x1.trans x2;unfold Ff at k2;split at k2
  .rename_i ts k;obtain⟨a,ws,e,n,ha',rl⟩:=r1';exact⟨a,k,ws,e,r2,ha',by have:=k2.1.1;lia,k2.1.2,by rw[<-rl.len];exact k2.2.1,λp hp=>q _ _ _ _ (x.trans (HX.new (R.hx x) hp _)) k2.2.2 (x.none hp) zp (j0 hp (bQ rl _))⟩
  .exact k2.elim
def dCB (f:List Tr->(Tr->Prop)->Prop)(da:DA):DE:=λτ KK=>da τ λxs=>f xs KK
def CbS (r:List V->Hp->VK->Prop)(f:List Tr->(Tr->Prop)->Prop):Prop:=∀(F:Addr->Prop) (H:Hp) (vs:List V) (ts:List Tr) (KK:Tr->Prop) (Q:VK),yt F H ts vs->f ts KK->(∀w v,ax w=some v->KK w->Q v H)->r vs H Q
def zz (hr:CbS r f)(ha:OkA K b n ta da):yf K true (tCB r ta) (dCB f da):=λB φ σ τ H Q KK R hd q=>ha B φ σ τ H _ _ R hd λts vs H1 x1 k1 l1 r1=>hr _ H1 vs ts KK Q r1 k1 λw v e k=>q w v H1 x1 k (fS e)
def qr (h:yt F H [t] vs):∃v,vs=[v]/\Rep F H t v:=by obtain⟨w,r,e,h1,h2⟩:=h;cases (show r=[] from h2);exact⟨w,e,h1⟩
def tO (h:yt F H [t,u] vs):∃v w,vs=[v,w]/\Rep F H t v/\Rep F H u w:=by obtain⟨w,r,e,h1,h2⟩:=h;obtain⟨w',e',h3⟩:=qr h2;subst e';exact⟨w,w',e,h1,h3⟩
def E9 (xs:List Tr)(KK:Tr->Prop):Prop:=match xs with|[.tup ts]=>KK (.int ts.length)|[.lst ts]=>KK (.int ts.length)|_=>False
def uK:CbS (eG K) E9:=by
 intro F H vs ts KK Q r hf q;unfold E9 at hf;split at hf
 .rename_i ts;obtain⟨v,rfl,a,ws,e,n,ha,rl⟩:=qr r;exact⟨a,ws,by rw[e],.inr (yM.of ha),by rw[<-rl.len];exact q _ _ rfl hf⟩
 .rename_i ts;obtain⟨v,rfl,a,ws,e,n,ha,rl⟩:=qr r;exact⟨a,ws,by rw[e],.inl (yw.of ha),by rw[<-rl.len];exact q _ _ rfl hf⟩
 .exact hf.elim
def E6 (xs:List Tr)(KK:Tr->Prop):Prop:=match xs with|[.int i]=>KK (.int (if i<0 then -i else i))|_=>False
def jb:CbS (λxs H Q=>∃i,xs=[.int i]/\Q (.int (if i<0 then -i else i)) H) E6:=by
 intro F H vs ts KK Q r hf q;unfold E6 at hf;split at hf
 .rename_i i;obtain⟨v,rfl,e⟩:=qr r;cases (show v=.int i from e);exact⟨i,rfl,q _ _ rfl hf⟩
 .exact hf.elim
def Fc (xs:List Tr)(KK:Tr->Prop):Prop:=match xs with|[.int i,.int j]=>KK (.int (if j>i then j else i))|_=>False
def Lh:CbS (λxs H Q=>∃i j,xs=[.int i,.int j]/\Q (.int (if j>i then j else i)) H) Fc:=by
 intro F H vs ts KK Q r hf q;unfold Fc at hf;split at hf
 .rename_i i j;obtain⟨v,w,rfl,e,e'⟩:=tO r;cases (show v=.int i from e);cases (show w=.int j from e');exact⟨i,j,rfl,q _ _ rfl hf⟩
 .exact hf.elim
def Fd (xs:List Tr)(KK:Tr->Prop):Prop:=match xs with|[.int i,.int j]=>KK (.int (if j<i then j else i))|_=>False
def Eh:CbS (λxs H Q=>∃i j,xs=[.int i,.int j]/\Q (.int (if j<i then j else i)) H) Fd:=by
 intro F H vs ts KK Q r hf q;unfold Fd at hf;split at hf
 .rename_i i j;obtain⟨v,w,rfl,e,e'⟩:=tO r;cases (show v=.int i from e);cases (show w=.int j from e');exact⟨i,j,rfl,q _ _ rfl hf⟩
 .exact hf.elim
theorem tP:∀ {ns:List Int} {ws:List V},yt F H (ns.map Tr.int) ws->ws=ns.map V.int
 |[],_,h=>h
 |n::ns,_,⟨w,r,e,h1,h2⟩=>by cases (show w=.int n from h1);rw[e,tP h2];rfl
theorem Im:∀ {ns:List Bool} {ws:List V},yt F H (ns.map Tr.bl) ws->ws=ns.map V.bl
 |[],_,h=>h
 |n::ns,_,⟨w,r,e,h1,h2⟩=>by cases (show w=.bl n from h1);rw[e,Im h2];rfl
def L8 (xs:List Tr)(KK:Tr->Prop):Prop:=∃bs:List Bool,xs=[.lst (bs.map Tr.bl)]/\KK (.bl (bs.all id))
def ng:CbS (eC K) L8:=by intro F H vs ts KK Q r hf q;obtain⟨ns,rfl,h1⟩:=hf;obtain⟨v,rfl,a,ws,e,n,ha,rl⟩:=qr r;rw[Im rl] at ha;exact⟨a,ns,by rw[e],yw.of ha,q _ _ rfl h1⟩
def tyT:Tr->String
 |.non => "NoneType" |.bl _ => "bool" |.int _ => "int" |.str _ => "str" |.emp => "dict" |.tup _ => "tuple" |.lst _ => "list"
theorem RF (r:Rep F H t v):tyN H v=some (tyT t):=by
 cases t with
 |non=>cases (show v=.non from r);rfl
 |bl b=>cases (show v=.bl b from r);rfl
 |int b=>cases (show v=.int b from r);rfl
 |str b=>cases (show v=.str b from r);rfl
 |emp=>obtain⟨a,e,_,h⟩:=r;subst e;simp only[tyN,h,tyT]
 |tup ts=>obtain⟨a,ws,e,_,h,_⟩:=r;subst e;simp only[tyN,h,tyT]
 |lst ts=>obtain⟨a,ws,e,_,h,_⟩:=r;subst e;simp only[tyN,h,tyT]
def Ga (c:String)(t:Tr):Bool:=match c,t with
 | "int", .int _=>true | "int", .bl _=>true | "bool", .bl _=>true | "str", .str _=>true | "tuple", .tup _=>true | "list", .lst _=>true | "dict", .emp=>true|_,_=>false
def MQ (h:c∈sF)(t:Tr):Bu (tyT t) c=Ga c t:=by simp only[sF,xX,y9,zh] at h;rcases h with rfl|rfl|rfl|rfl|rfl|rfl<;>cases t<;>rfl
def LB (c:String)(d:DE):DE:=λτ KK=>d τ λx=>KK (.bl (Ga c x))
def kL (h:yf K b te d)(hc:c∈sF:=by decide):yf K true (tCB HP (uC te (uC (tC (.ty c)) vP))) (LB c d):=λB φ σ τ H Q KK R hd q=>h B φ σ τ H _ _ R hd λt v H1 x1 k1 r1=>⟨v,c,tyT t,rfl,RF r1,hc,by rw[MQ hc];exact q _ _ H1 x1 k1 rfl⟩
def Fi (xs:List Tr)(KK:Tr->Prop):Prop:=match xs with|[.tup ts]=>KK (.tup ts)|[.lst ts]=>KK (.tup ts)|_=>False
def iU (ha:OkA K b n ta da):yf K b (tCB (eJ K) ta) (dCB Fi da):=λB φ σ τ H Q KK R hd q=>
 ha B φ σ τ H _ _ R hd λts vs H1 x1 k1 l1 r1=>by
  unfold Fi at k1;split at k1
  .rename_i ts;obtain⟨v,rfl,r⟩:=qr r1;obtain⟨a,ws,e,n,ha,rl⟩:=id r;exact⟨a,ws,by rw[e],.inr ⟨yM.of ha,by rw[<-e];exact q _ _ H1 x1 k1 r⟩⟩
  .rename_i ts;obtain⟨v,rfl,a,ws,e,n,ha,rl⟩:=qr r1;exact⟨a,ws,by rw[e],.inl ⟨yw.of ha,λp hp=>q _ _ _ (x1.trans (HX.new (R.hx x1) hp _)) k1 ⟨p,_,rfl,λz=>(R.hx x1).domB z hp,zp,kW hp rl⟩⟩⟩
  .exact k1.elim
def EU (i:Nat):DE:=λτ KK=>match yo τ i with|.ow ts=>KK (.tup ts)|_=>False
theorem iT:yf K true (tCB (eJ K) (uC (uD i) vP)) (EU i):=λB φ σ τ H Q KK R hd q=>by
 have en:=R.ent i;unfold EU at hd;revert en hd;cases hi:yo τ i with
 |ow ts=>intro hd ⟨a,ws,e1,e2,e3,e4,r⟩;exact⟨_,e1,a,ws,rfl,.inl ⟨yw.of e4,λp hp=>q _ _ _ (HX.new R hp _) hd ⟨p,_,rfl,λz=>R.dom z hp,zp,kW hp r⟩⟩⟩
 |_=>exact λz _=>z.elim
def E_ (xs:List Tr)(KK:Tr->Prop):Prop:=match xs with|[.tup ts]=>KK (.lst ts)|[.lst ts]=>KK (.lst ts)|_=>False
def Pp (ha:OkA K true n ta da):zw K (tCB (HV K) ta) (dCB E_ da):=λB φ σ τ H Q KK R hd q=>
 ha B φ σ τ H _ _ R hd λts vs H1 x1 k1 l1 r1=>by
  unfold E_ at k1;split at k1
  .rename_i ts;obtain⟨v,rfl,a,ws,e,n,ha,rl⟩:=qr r1;exact⟨a,ws,by rw[e],.inr (yM.of ha),λp hp=>q _ _ _ _ (x1.trans (HX.new (R.hx x1) hp _)) k1 (x1.none hp) zp (j0 hp rl)⟩
  .rename_i ts;obtain⟨v,rfl,a,ws,e,n,ha,rl⟩:=qr r1;exact⟨a,ws,by rw[e],.inl (yw.of ha),λp hp=>q _ _ _ _ (x1.trans (HX.new (R.hx x1) hp _)) k1 (x1.none hp) zp (j0 hp rl)⟩
  .exact k1.elim
def ER (i:Nat):DE:=λτ KK=>match yo τ i with|.sc ns=>ns.length<=63->KK (.int ns.length)|_=>False
theorem OT:yf K true (tCB (eG K) (uC (uD i) vP)) (ER i):=λB φ σ τ H Q KK R hd q=>by
 have en:=R.ent i;unfold ER at hd;revert en hd;cases hi:yo τ i with
 |sc ns=>
  intro hd ⟨a,e,l,so,_⟩;have sq:yw K H a (ns.map V.int):=by
   rcases so with ⟨o,h⟩|h
   .exact .inl (.inr ⟨o,h⟩)
   .exact h H
  refine⟨_,e,a,_,rfl,.inl sq,?_⟩;rw[xP];exact q _ _ H (HX.refl R) (hd l) rfl
 |_=>exact λz _=>z.elim
end
abbrev yb:=List Tr->(Tr->Prop)->Prop
def spT (n:Nat)(st fr:Bool)(sp:yb):Sp:=λvs H Q _=>∃(F S:Addr->Prop) (ts:List Tr) (KK:Tr->Prop) (us:List V),
 (match st with|true=>∃p,vs=.ref p::us/\S p|false=>vs=us)/\(∀a,F a->NT (H a))/\(∀a,S a->F a)/\(∀a,S a->vT a H)/\yt F H ts us/\ts.length=n/\sp ts KK/\
 ∀t v H',KK t->(∀a o,H a=some o->¬S a->H' a=some o)->(∀a,S a->vT a H')->Rep F H' t v->(fr=true->FrL F H H' t v)->Q v H'
def nF (sp:yb)(da:DA):DE:=λτ KK=>da τ λts=>sp ts KK
def EL (i:Nat)(sp:yb)(da:DA):DE:=λτ KK=>match yo τ i with|.st=>da τ λts=>sp ts KK|_=>False
section
variable {K:xw} {B:FB} {φ:y_} {σ:St} {τ:xV} {H H' H'':Hp}
def xE (ha:OkA K b n ta da):yf K b (t_ (spT n false fr sp) ta) (nF sp da):=λB φ σ τ H Q KK R hd q=>ha B φ σ τ H _ _ R hd λts vs H1 x1 k1 l1 r1=>⟨AvB b B φ τ,SA B φ τ,ts,KK,vs,rfl,λa z=>(R.hx x1).ntB z,λa z=>R.sB z,x1.st,r1,l1,k1,λt v H' k e s r _=>q t v H' (x1.trans ⟨e,s⟩) k r⟩
def G3 (ha:OkA K true n ta da):zw K (t_ (spT n false true sp) ta) (nF sp da):=λB φ σ τ H Q KK R hd q=>
 ha B φ σ τ H _ _ R hd λts vs H1 x1 k1 l1 r1=>⟨Av B φ,SA B φ τ,ts,KK,vs,rfl,λa z=>(R.hx x1).nt z,λa z=>R.sAv z,x1.st,r1,l1,k1,λt v H' k e s r f=>by obtain⟨a,ts',ws,rfl,rfl,h1,h2,h3⟩:=f rfl;exact q ts' a ws H' (x1.trans ⟨e,s⟩) k (x1.none h1) h2 h3⟩
theorem wN (ha:OkA K b n ta da):yf K b (t_ (spT n true fr sp) (uC (uD i) ta)) (EL i sp da):=λB φ σ τ H Q KK R hd q=>by
 have en:=R.ent i;unfold EL at hd;revert en hd;cases hi:yo τ i with
 |st=>intro hd ⟨p,e1,e2,e3⟩;exact⟨_,e1,ha B φ σ τ H _ _ R hd λts vs H1 x1 k1 l1 r1=>⟨AvB b B φ τ,SA B φ τ,ts,KK,vs,⟨p,rfl,.inr ⟨i,e2,hi⟩⟩,λa z=>(R.hx x1).ntB z,λa z=>R.sB z,x1.st,r1,l1,k1,λt v H' k e s r _=>q t v H' (x1.trans ⟨e,s⟩) k r⟩⟩
 |_=>exact λz _=>z.elim
def y_.del (φ:y_)(i:Nat):y_:=λj=>if j=i then none else φ j
def y_.put (φ:y_)(i:Nat)(a:Addr):y_:=λj=>if j=i then some a else φ j
def jd (h:φ.del i j=some a):j≠i/\φ j=some a:=by
 unfold y_.del at h;by_cases e:j=i
 .rw[xJ e] at h;cases h
 .rw[xG e] at h;exact⟨e,h⟩
def EY (h:j≠i):φ.del i j=φ j:=xG h
def fR (h:φ.put i a j=some c):(j=i/\c=a)\/(j≠i/\φ j=some c):=by
 unfold y_.put at h;by_cases e:j=i
 .rw[xJ e] at h;cases h;exact .inl ⟨e,rfl⟩
 .rw[xG e] at h;exact .inr ⟨e,h⟩
def eB:φ.put i a i=some a:=xJ rfl
def Rt (h:j≠i):φ.put i a j=φ j:=xG h
def k9 (h:Av B (φ.del i) a):Av B φ a:=by
 rcases h with h|⟨j,h⟩
 .exact .inl h
 .exact .inr ⟨j,(jd h).2⟩
theorem rL (h:Ent K B φ H i o x)(hφ:φ' i=φ i)(hr:∀t v,Rep (Av B φ) H t v->Rep (Av B φ') H' t v)(hrl:∀t v,yt (Av B φ) H t v->yt (Av B φ') H' t v)
  (hl:∀a o,Owd x->φ i=some a->H a=some o->H' a=some o) (hs:∀a ns,mW K H a ns->mW K H' a ns):Ent K B φ' H' i o x:=by
 cases x with
 |un=>trivial
 |fz t=>obtain⟨v,e,r⟩:=h;exact⟨v,e,hr t v r⟩
 |ow ts=>obtain⟨a,ws,e1,e2,e3,e4,r⟩:=h;exact⟨a,ws,e1,hφ.trans e2,e3,hl a _ trivial e2 e4,hrl _ _ r⟩
 |st=>obtain⟨p,e1,e2,e3⟩:=h;exact⟨p,e1,hφ.trans e2,e3⟩
 |sc ns=>obtain⟨a,e,l,q⟩:=h;exact⟨a,e,l,hs a ns q⟩
 |ob a=>exact h
 |od ks=>obtain⟨a,hk,e1,e2,e3,e4,r⟩:=h;exact⟨a,hk,e1,hφ.trans e2,e3,hl a _ trivial e2 e4,Paired.mapP r λp q z=>⟨z.1,hr _ _ z.2⟩⟩
theorem RS.ow0 (R:RS K B φ σ τ H)(h:Owd (yo τ j))(e:φ j=some c):B.H0 c=none:=by
 have en:=R.ent j;cases hn:yo τ j with
 |ow ts=>rw[hn] at en;obtain⟨a,ws,_,q2,q3,_⟩:=en;rw[e] at q2;cases q2;exact q3
 |od ks=>rw[hn] at en;obtain⟨a,ws,_,q2,q3,_⟩:=en;rw[e] at q2;cases q2;exact q3
 |_=>rw[hn] at h;exact h.elim
def RS.setFz (R:RS K B φ σ τ H)(r:Rep (Av B φ) H t v):RS K B (φ.del i) (σ.set i (some v)) (τ.set i (.fz t)) H where
 fN:=R.fN
 s0:=R.s0
 ext:=R.ext
 sst:=λa s=>by
  rcases s with s|⟨j,s,hj⟩
  .exact R.sst a (.inl s)
  .obtain⟨hne,s'⟩:=jd s;rw[vB hne] at hj;exact R.sst a (.inr ⟨j,s',hj⟩)
 injG:=λj k a hj e1 e2=>by obtain⟨hne,e1⟩:=jd e1;rw[vB hne] at hj;exact R.injG j k a hj e1 (jd e2).2
 oN:=λj a e=>R.oN j a (jd e).2
 len:=by rw[q8,q8];exact R.len
 ent:=λj=>by
  have mono:∀t v,Rep (Av B φ) H t v->Rep (Av B (φ.del i)) H t v:=λt v=>wY (λa o e n=>⟨e,λz=>n (k9 z)⟩) t v;by_cases e:j=i
  .subst e;by_cases hl:j<τ.length
   .rw[jR hl];exact⟨v,by rw[BY (by rw[R.len];exact hl)],mono _ _ r⟩
   .rw[jQ (by rw[q8];lia)];trivial
  .rw[vB e,aO (zY e)];exact rL (R.ent j) (EY e) mono (λt v=>uB (λa o e n=>⟨e,λz=>n (k9 z)⟩) t v) (λ_ _ _ _ z=>z) λ_ _ z=>z
 gh:=λp hp=>wY (λa o e n=>⟨e,λz=>n (k9 z)⟩) _ _ (R.gh p hp)
def RS.setNew (R:RS K B φ σ τ H)(hx:HX B φ τ H H')(ha:H a=none)(ha':NT (H' a))(hst:x=.st->vT a H')
  (hen:Ent K B (φ.put i a) H' i (some (some (.ref a))) x):RS K B (φ.put i a) (σ.set i (some (.ref a))) (τ.set i x) H':=by
 have R':=R.hx hx;have nav:∀c,c≠a->Av B (φ.put i a) c->Av B φ c:=λc hc z=>by
  rcases z with z|⟨j,z⟩
  .exact .inl z
  .rcases fR z with ⟨_,e⟩|⟨_,e⟩
   .exact absurd e hc
   .exact .inr ⟨j,e⟩
 have mv:∀c o,H c=some o->¬Av B φ c->H' c=some o/\¬Av B (φ.put i a) c:=λc o e n=>⟨hx.keep c o e λs=>n (R.sAv s),λz=>n (nav c (zP e ha) z)⟩
 refine⟨R.fN,R.s0,R'.ext,λc s=>?_,λj k c hj e1 e2=>?_,λj c e=>?_,?_,λj=>?_,λp hp=>wY mv _ _ (R.gh p hp)⟩
 .rcases s with s|⟨j,s,hj⟩
  .exact R'.sst c (.inl s)
  .rcases fR s with ⟨rfl,rfl⟩|⟨hne,s'⟩
   .by_cases hl:j<τ.length
    .rw[jR hl] at hj;exact hst hj
    .rw[jQ (by rw[q8];lia)] at hj;cases hj
   .rw[vB hne] at hj;exact R'.sst c (.inr ⟨j,s',hj⟩)
 .have key:∀j:Nat,φ j=some a->False:=λj e=>R.ow j a e ha;rcases fR e1 with ⟨z1,z2⟩|⟨n1,f1⟩
  .rcases fR e2 with ⟨z3,_⟩|⟨n2,f2⟩
   .rw[z1,z3]
   .exact(key k (by rw[<-z2];exact f2)).elim
  .rcases fR e2 with ⟨z3,z4⟩|⟨n2,f2⟩
   .exact(key j (by rw[<-z4];exact f1)).elim
   .rw[vB n1] at hj;exact R.injG j k c hj f1 f2
 .rcases fR e with ⟨_,rfl⟩|⟨_,e⟩
  .exact ha'
  .exact R'.oN j c e
 .rw[q8,q8];exact R.len
 .by_cases e:j=i
  .subst e;by_cases hl:j<τ.length
   .rw[jR hl,BY (by rw[R.len];exact hl)];exact hen
   .rw[jQ (by rw[q8];lia)];trivial
  .rw[vB e,aO (zY e)];refine rL (R.ent j) (Rt e) (λt v=>wY mv t v) (λt v=>uB mv t v) (λc o hj e1 e2=>?_) λc ns z=>?_
   .refine hx.keep c _ e2 λs=>?_;rcases s with s|⟨k,s,hk⟩
    .exact R.f0 c (R.s0 c s) (R.ow0 hj e1)
    .have:=R.injG j k c hj e1 s;subst this;rw[hk] at hj;exact hj.elim
   .refine⟨?_,z.2.hx R hx⟩;rcases z.1 with ⟨o,z⟩|z
    .exact .inl ⟨o,hx.keep c _ z (o6 R z)⟩
    .exact .inr z
def RS.wrOw (R:RS K B φ σ τ H)(hi:yo τ i=.ow ts)(e1:σ[i]?=some (some (.ref a)))(r:yt (Av B φ) H ts' ws'):RS K B φ σ (τ.set i (.ow ts')) (upd H a (.lst ws')):=by
 have en:=R.ent i;rw[hi] at en;obtain⟨a',ws,e1',e2,e3,e4,_⟩:=en;rw[e1] at e1';cases e1';have hl:i<τ.length:=by
  by_cases h:i<τ.length
  .exact h
  .rw[jQ (by lia)] at hi;cases hi
 have mv:∀c o,H c=some o->¬Av B φ c->(upd H a (.lst ws')) c=some o/\¬Av B φ c:=λc o e n=>⟨by rw[yx (λz=>n (by rw[z];exact .inr ⟨i,e2⟩))];exact e,n⟩
 have nsa:∀c,SA B φ (τ.set i (.ow ts')) c->SA B φ τ c/\c≠a:=λc s=>by
  rcases s with s|⟨j,s,hj⟩
  .exact⟨.inl s,λz=>R.f0 a (R.s0 a (z▸s)) e3⟩
  .by_cases e:j=i
   .subst e;rw[jR hl] at hj;cases hj
   .rw[vB e] at hj;exact⟨.inr ⟨j,s,hj⟩,λz=>e (R.inj i j a ts hi e2 (z▸s)).symm⟩
 refine⟨R.fN,R.s0,λc o e n=>?_,λc s=>?_,λj k c hj f1 f2=>?_,λj c e=>?_,by rw[q8];exact R.len,λj=>?_,λp hp=>wY mv _ _ (R.gh p hp)⟩
 .rw[yx (zP e e3)];exact R.ext c o e n
 .obtain⟨s',hne⟩:=nsa c s;obtain⟨n,b,q,z⟩:=R.sst c s';exact⟨n,b,by rw[yx hne];exact q,z⟩
 .by_cases e:j=i
  .subst e;exact R.inj j k c ts hi f1 f2
  .rw[vB e] at hj;exact R.injG j k c hj f1 f2
 .by_cases z:c=a
  .rw[z,zp];exact⟨(λz=>nomatch z),λ_ z=>nomatch z⟩
  .rw[yx z];exact R.oN j c e
 .by_cases e:j=i
  .subst e;rw[jR hl];exact⟨a,ws',e1,e2,e3,zp,uB mv _ _ r⟩
  .rw[vB e];refine rL (R.ent j) rfl (λt v=>wY mv t v) (λt v=>uB mv t v) (λc o hj f1 f2=>?_) λc ns z=>?_
   .rw[yx (λ(z:c=a)=>e (R.inj i j a ts hi e2 (by rw[<-z];exact f1)).symm)];exact f2
   .refine⟨?_,λP q h=>by rw[yx (sI (z.2 P q h) e4 (λq=>nomatch q))];exact z.2 P q h⟩;rcases z.1 with ⟨o,z⟩|z
    .exact .inl ⟨o,by rw[yx (sI z e4 (λq=>nomatch q))];exact z⟩
    .exact .inr z
def RS.freeze (R:RS K B φ σ τ H)(hi:yo τ i=.ow ts):RS K B (φ.del i) σ (τ.set i (.fz (.lst ts))) H:=by
 have en:=R.ent i;rw[hi] at en;obtain⟨a,ws,e1,e2,e3,e4,r⟩:=en;have hl:i<τ.length:=by
  by_cases h:i<τ.length
  .exact h
  .rw[jQ (by lia)] at hi;cases hi
 have na:¬Av B (φ.del i) a:=λz=>by
  rcases z with z|⟨j,z⟩
  .exact R.f0 a z e3
  .obtain⟨n,z⟩:=jd z;exact n (R.inj i j a ts hi e2 z).symm
 refine⟨R.fN,R.s0,R.ext,λc s=>?_,λj k c hj f1 f2=>?_,λj c e=>R.oN j c (jd e).2,by rw[q8];exact R.len,λj=>?_,λp hp=>wY (λa o e n=>⟨e,λz=>n (k9 z)⟩) _ _ (R.gh p hp)⟩
 .rcases s with s|⟨j,s,hj⟩
  .exact R.sst c (.inl s)
  .obtain⟨hne,s'⟩:=jd s;rw[vB hne] at hj;exact R.sst c (.inr ⟨j,s',hj⟩)
 .obtain⟨hne,f1⟩:=jd f1;rw[vB hne] at hj;exact R.injG j k c hj f1 (jd f2).2
 .by_cases e:j=i
  .subst e;rw[jR hl];exact⟨.ref a,e1,a,ws,rfl,na,e4,uB (λa o e n=>⟨e,λz=>n (k9 z)⟩) _ _ r⟩
  .rw[vB e];exact rL (R.ent j) (EY e) (λt v=>wY (λa o e n=>⟨e,λz=>n (k9 z)⟩) t v) (λt v=>uB (λa o e n=>⟨e,λz=>n (k9 z)⟩) t v) (λ_ _ _ _ z=>z) λ_ _ z=>z
def OkN (K:xw)(g:TG)(d:DG):Prop:=∀(B:FB) (φ:y_) (σ:St) (τ:xV) (H:Hp) (F:Addr->Prop) (t:Tr) (v:V) (Q:St->Hp->Prop) (KK:xV->Prop),RS K B φ σ τ H->(∀a,Av B φ a->F a)->Rep F H t v->d t τ KK->
 (∀ φ' σ' τ',RS K B φ' σ' τ' H->(∀a,Av B φ' a->Av B φ a)->KK τ'->Q σ' H)->g v σ H Q
def rj (K:xw)(g:TGs)(d:DGs):Prop:=∀(B:FB) (φ:y_) (σ:St) (τ:xV) (H:Hp) (F:Addr->Prop) (t:List Tr) (v:List V) (Q:St->Hp->Prop) (KK:xV->Prop),RS K B φ σ τ H->(∀a,Av B φ a->F a)->yt F H t v->d t τ KK->
 (∀ φ' σ' τ',RS K B φ' σ' τ' H->(∀a,Av B φ' a->Av B φ a)->KK τ'->Q σ' H)->g v σ H Q
def eName (i:Nat):DG:=λt τ KK=>KK (τ.set i (.fz t))
def jG:DGs:=λts τ KK=>match ts with|[]=>KK τ|_=>False
def jf (d:DG)(r:DGs):DGs:=λts τ KK=>match ts with|t::us=>d t τ λτ'=>r us τ' KK|[]=>False
def E4 (n:Nat)(d:DGs):DG:=λt τ KK=>match t with|.tup ts=>ts.length=n/\d ts τ KK|_=>False
def xK:OkN K (qM i) (eName i):=λB φ σ τ H F t v Q KK R hF r hd q=>q (φ.del i) _ _ (R.setFz (wY (λa o e n=>⟨e,λz=>n (hF a z)⟩) _ _ r)) (λa z=>k9 z) hd
theorem zK:rj K nS jG:=λB φ σ τ H F t v Q KK R hF r hd q=>by
 cases t with
 |nil=>exact⟨r,q φ σ τ R (λ_ z=>z) hd⟩
 |cons _ _=>exact hd.elim
theorem yh (h:OkN K g d)(hs:rj K gs ds):rj K (nR g gs) (jf d ds):=λB φ σ τ H F t v Q KK R hF r hd q=>by
 cases t with
 |nil=>exact hd.elim
 |cons t ts=>obtain⟨w,r',e,h1,h2⟩:=r;exact⟨w,r',e,h B φ σ τ H F t w _ _ R hF h1 hd λφ' σ' τ' R' ha k=>hs B φ' σ' τ' H F ts r' Q KK R' (λa z=>hF a (ha a z)) h2 k λφ2 σ2 τ2 R2 ha2 k2=>q φ2 σ2 τ2 R2 (λa z=>ha a (ha2 a z)) k2⟩
theorem zR (h:rj K gs ds):OkN K (rS K n gs) (E4 n ds):=λB φ σ τ H F t v Q KK R hF r hd q=>by
 cases t with
 |tup ts=>obtain⟨a,ws,e,n,ha,rl⟩:=r;exact⟨a,ws,e,yM.of ha,by rw[<-rl.len];exact hd.1,h B φ σ τ H F ts ws Q KK R hF rl hd.2 q⟩
 |_=>exact hd.elim
theorem OkN.g {g:TG}{d:DG}(h:OkN K g d):OkG K g d:=λB φ σ τ H t v Q KK R r hd q=>h B φ σ τ H (Av B φ) t v Q KK R (λ_ z=>z) r hd λφ' σ' τ' R' ha k=>q φ' σ' τ' H R' ha (λ_ _ e _=>e) k
def t4 (ts:List Tr)(t:Tr):Int->Option (List Tr)
 |.ofNat n=>if n<ts.length then some (ts.set n t) else none
 |.negSucc n=>if n<ts.length then some (ts.set (ts.length-1-n) t) else none
def rK (i:Nat)(di:DE):DG:=λt τ KK=>match yo τ i with
 |.ow ts=>di τ λy=>match y with|.int k=>(match t4 ts t k with|some us=>KK (τ.set i (.ow us))|none=>False)|_=>False
 |_=>False
theorem SV (h:t4 ts t k=some us):∃j,ixN ts.length k=some j/\us=ts.set j t:=by
 unfold ixN;cases k with
 |ofNat n=>
  have h:(if n<ts.length then some (ts.set n t) else none)=some us:=h;by_cases hn:n<ts.length
  .rw[xJ hn] at h;cases h;refine⟨n,?_,rfl⟩;have h0:(0:Int)<=Int.ofNat n:=BR n;have h1:Int.ofNat n<(ts.length:Int):=Int.ofNat_lt.mpr hn;rw[xJ h0,xJ h1];rfl
  .rw[xG hn] at h;cases h
 |negSucc n=>
  have h:(if n<ts.length then some (ts.set (ts.length-1-n) t) else none)=some us:=h;by_cases hn:n<ts.length
  .rw[xJ hn] at h;cases h;refine⟨ts.length-1-n,?_,rfl⟩;rw[xG (by lia),xJ (by lia)];congr 1;lia
  .rw[xG hn] at h;cases h
theorem Io (r:Rep F H t v):∀ {ts:List Tr} {ws:List V} (j:Nat),yt F H ts ws->yt F H (ts.set j t) (ws.set j v)
 |[],_,_,h=>by cases (show _=[] from h);exact rfl
 |_::_,_,0,⟨w,r',e,h1,h2⟩=>⟨v,r',by rw[e];rfl,r,h2⟩
 |_::ts,_,j+1,⟨w,r',e,h1,h2⟩=>⟨w,r'.set j v,by rw[e];rfl,h1,Io r j h2⟩
theorem bG (h:yf K b ti di):OkG K (FH (uD i) ti Ib) (rK i di):=λB φ σ τ H t v Q KK R r hd q=>by
 have en:=R.ent i;unfold rK at hd;revert en hd;cases hi:yo τ i with
 |ow ts=>
  intro hd ⟨a,ws,e1,e2,e3,e4,r0⟩;refine⟨_,e1,h B φ σ τ H _ _ R hd λu w H1 x1 k1 r1=>?_⟩;obtain⟨ws',f4,f5,_⟩:=tI R x1 hi e1;cases u with
  |int k=>
   cases (show w=.int k from r1);cases e:t4 ts t k with
   |none=>simp only[e] at k1
   |some us=>simp only[e] at k1;obtain⟨j,hj,rfl⟩:=SV e;refine⟨a,ws',k,j,rfl,rfl,f4,by rw[<-f5.len];exact hj,?_⟩;exact q φ σ _ _ ((R.hx x1).wrOw hi e1 (Io (x1.rep (λa s=>R.sAv s) r) j f5)) (λ_ z=>z) (λc o e n=>by rw[yx (λz=>n (by rw[z];exact .inr ⟨i,e2⟩))];exact x1.keep c o e λs=>n (R.sAv s)) k1
  |_=>exact k1.elim
 |_=>exact λz _=>z.elim
theorem Pt:mU K nS jG:=λB φ σ τ H t v Q KK R r hd q=>by
 cases t with
 |nil=>exact⟨r,q φ σ τ H R (λ_ z=>z) (λ_ _ e _=>e) hd⟩
 |cons _ _=>exact hd.elim
theorem G6 (h:OkG K g d)(hs:mU K gs ds):mU K (nR g gs) (jf d ds):=λB φ σ τ H t v Q KK R r hd q=>by
 cases t with
 |nil=>exact hd.elim
 |cons t ts=>
  obtain⟨w,r',e,h1,h2⟩:=r;exact⟨w,r',e,h B φ σ τ H t w _ _ R h1 hd λφ' σ' τ' H' R' ha hx k=>hs B φ' σ' τ' H' ts r' Q KK R' (uB (λa o e n=>⟨hx a o e n,λz=>n (ha a z)⟩) _ _ h2) k λφ2 σ2 τ2 H2 R2 ha2 hx2 k2=>q φ2 σ2 τ2 H2 R2 (λa z=>ha a (ha2 a z)) (λa o e n=>hx2 a o (hx a o e n) λz=>n (ha a z)) k2⟩
theorem Pr (h:mU K gs ds):OkG K (rS K n gs) (E4 n ds):=λB φ σ τ H t v Q KK R r hd q=>by
 cases t with
 |tup ts=>obtain⟨a,ws,e,n,ha,rl⟩:=r;exact⟨a,ws,e,yM.of ha,by rw[<-rl.len];exact hd.1,h B φ σ τ H ts ws Q KK R rl hd.2 q⟩
 |_=>exact hd.elim
def gQ:DS:=λG τ=>G.nx τ
def gR (a b:DS):DS:=λG τ=>a {G with nx:=b G} τ
def RY:DS:=λ_ _=>False
def bW (d:DE):DS:=λG τ=>d τ G.rt
def sIf (c:DT)(a b:DS):DS:=λG τ=>c τ λk=>if k=true then a G τ else b G τ
def bX (i:Nat)(d:DE):DS:=λG τ=>d τ λt=>G.nx (τ.set i (.fz t))
def R7 (i:Nat)(d:DE):DS:=λG τ=>d τ λt=>match t with|.lst ts=>G.nx (τ.set i (.ow ts))|_=>False
def RV (d:DE)(g:DG):DS:=λG τ=>d τ λt=>g t τ G.nx
def R5 (i j:Nat)(d:DA):DS:=λG τ=>d τ λts=>match ts with|[t,u]=>G.nx ((τ.set i (.fz t)).set j (.fz u))|_=>False
def RW (d:DE):DS:=λG τ=>d τ λ_=>G.nx τ
def Iv (i:Nat)(d:DE):DS:=λG τ=>match yo τ i with|.ow ts=>d τ λt=>ts.length<sizeLine/\G.nx (τ.set i (.ow (ts++[t])))|_=>False
def bV (i:Nat)(a:DS):DS:=λG τ=>match yo τ i with|.ow ts=>a G (τ.set i (.fz (.lst ts)))|_=>False
variable {fr:Bool}
def y7:zH K fr Jp gQ:=λB φ σ τ H E G R hd e=>e.nx φ σ τ H R hd
def iY:zH K fr Jo RY:=λB φ σ τ H E G R hd e=>hd.elim
def xB (ha:zH K fr a da)(hb:zH K fr b db):zH K fr (cR a b) (gR da db):=λB φ σ τ H E G R hd e=>ha B φ σ τ H _ _ R hd ⟨λφ' σ' τ' H' R' k=>hb B φ' σ' τ' H' E G R' k e,e.bk,e.ct,e.rt⟩
def xY (h:yf K b te d):zH K false (cQ te) (bW d):=λB φ σ τ H E G R hd e=>h B φ σ τ H _ _ R hd λt v H1 x1 k1 r1=>e.rt t v H1 (wY (λa o e n=>⟨e,λz=>n (.inl z)⟩) _ _ (Ik R r1)) (R.hx x1).extB k1 λz=>nomatch z
def fP (h:zw K te d):zH K fr (cQ te) (bW d):=λB φ σ τ H E G R hd e=>
 h B φ σ τ H _ _ R hd λts a ws H1 x1 k1 h1 h2 h3=>by
  have z0:B.H0 a=none:=by
   cases q:B.H0 a with
   |none=>rfl
   |some o=>
    by_cases s:B.S0 a
    .exact absurd h1 (R.sst a (.inl s)).ne_none
    .rw[R.ext a o q s] at h1;cases h1
  have na:¬B.F0 a:=λz=>R.dom (.inl z) h1;have rr:yt (λc=>B.F0 c\/c=a) H1 ts ws:=uB (λc o e n=>⟨e,λz=>n (z.elim (λz=>.inl (.inl z)) .inr)⟩) _ _ h3;exact e.rt (.lst ts) _ H1 ⟨a,ws,rfl,na,h2,uB (λc o e n=>⟨e,λz=>n (.inl z)⟩) _ _ rr⟩ (R.hx x1).extB k1 λ_=>⟨a,ts,ws,rfl,rfl,z0,h2,rr⟩
def IB (i:Nat):DS:=λG τ=>match yo τ i with|.ow ts=>G.rt (.lst ts)|_=>False
theorem tF:zH K fr (cQ (uD i)) (IB i):=λB φ σ τ H E G R hd e=>by
 have en:=R.ent i;unfold IB at hd;revert en hd;cases hi:yo τ i with
 |ow ts=>intro hd ⟨a,ws,e1,e2,e3,e4,r⟩;have na:¬B.F0 a:=λz=>R.f0 a z e3;have rr:yt (λc=>B.F0 c\/c=a) H ts ws:=uB (λc o e n=>⟨e,λz=>n (z.elim .inl λz=>.inr ⟨i,by rw[z];exact e2⟩)⟩) _ _ r;exact⟨_,e1,e.rt (.lst ts) _ H ⟨a,ws,rfl,na,e4,uB (λc o e n=>⟨e,λz=>n (.inl z)⟩) _ _ rr⟩ R.extB hd λ_=>⟨a,ts,ws,rfl,rfl,e3,e4,rr⟩⟩
 |_=>exact λz _=>z.elim
def yY (hc:OkT K c dc)(ha:zH K fr a da)(hb:zH K fr b db):zH K fr (Jm c a b) (sIf dc da db):=λB φ σ τ H E G R hd e=>
 hc B φ σ τ H _ _ R hd λk H1 x1 k1=>by
  cases k with
  |true=>exact kI (ha B φ σ τ H1 E G (R.hx x1) k1 e)
  |false=>exact vY (hb B φ σ τ H1 E G (R.hx x1) k1 e)
def yE (h:yf K true te d):zH K fr (j3 te (qM i)) (bX i d):=λB φ σ τ H E G R hd e=>h B φ σ τ H _ _ R hd λt v H1 x1 k1 r1=>e.nx _ _ _ H1 ((R.hx x1).setFz r1) k1
def vD (h:zw K te d):zH K fr (j3 te (qM i)) (R7 i d):=λB φ σ τ H E G R hd e=>
 h B φ σ τ H _ _ R hd λts a ws H1 x1 k1 h1 h2 h3=>by
  have z0:B.H0 a=none:=by
   cases q:B.H0 a with
   |none=>rfl
   |some o=>
    by_cases s:B.S0 a
    .exact absurd h1 (R.sst a (.inl s)).ne_none
    .rw[R.ext a o q s] at h1;cases h1
  refine e.nx _ _ _ H1 (R.setNew (x:=.ow ts) x1 h1 (by rw[h2];exact⟨(λz=>nomatch z),λ_ z=>nomatch z⟩) (λz=>nomatch z) ⟨a,ws,rfl,eB,z0,h2,uB (λc o e n=>⟨e,λz=>n ?_⟩) _ _ h3⟩) k1;rcases z with z|⟨j,z⟩
  .exact .inl (.inl z)
  .rcases fR z with ⟨_,z⟩|⟨_,z⟩
   .exact .inr z
   .exact .inl (.inr ⟨j,z⟩)
def uu (h:yf K true te d)(hg:OkG K g dg):zH K fr (j3 te g) (RV d dg):=λB φ σ τ H E G R hd e=>h B φ σ τ H _ _ R hd λt v H1 x1 k1 r1=>hg B φ σ τ H1 t v _ _ (R.hx x1) r1 k1 λφ' σ' τ' H' R' _ _ k=>e.nx φ' σ' τ' H' R' k
def qQ (h:OkA K true n ta da):zH K fr (Jw i j ta) (R5 i j da):=λB φ σ τ H E G R hd e=>
 h B φ σ τ H _ _ R hd λts vs H1 x1 k1 l1 r1=>by
  cases ts with
  |nil=>exact k1.elim
  |cons t ts=>
   cases ts with
   |nil=>exact k1.elim
   |cons u ts=>
    cases ts with
    |cons _ _=>exact k1.elim
    |nil=>obtain⟨v,w,rfl,h1,h2⟩:=tO r1;exact⟨v,w,rfl,e.nx _ _ _ H1 (((R.hx x1).setFz h1).setFz (wY (λa o e n=>⟨e,λz=>n (k9 z)⟩) _ _ h2)) k1⟩
def iX (h:yf K b te d):zH K fr (t8 te) (RW d):=λB φ σ τ H E G R hd e=>h B φ σ τ H _ _ R hd λt v H1 x1 k1 r1=>e.nx φ σ τ H1 (R.hx x1) k1
theorem qq (h:yf K true te d):zH K fr (t8 (tBM K "list" HJ (uD i) (uC te vP))) (Iv i d):=λB φ σ τ H E G R hd e=>by
 have en:=R.ent i;unfold Iv at hd;revert en hd;cases hi:yo τ i with
 |ow ts=>intro hd ⟨a,ws,e1,e2,e3,e4,r⟩;refine⟨_,e1,.inl ⟨rfl,_,yw.of e4⟩,h B φ σ τ H _ _ R hd λt v H1 x1 k1 r1=>?_⟩;obtain⟨ws',f4,f5,_⟩:=tI R x1 hi e1;exact⟨a,ws',v,rfl,rfl,f4,by rw[<-f5.len];exact k1.1,e.nx φ σ _ _ ((R.hx x1).wrOw hi e1 (f5.app (show yt _ _ [t] [v] from⟨v,[],rfl,r1,rfl⟩))) k1.2⟩
 |_=>exact λz _=>z.elim
theorem G7 (h:zH K fr a da):zH K fr a (bV i da):=λB φ σ τ H E G R hd e=>by
 unfold bV at hd;revert hd;cases hi:yo τ i with
 |ow ts=>exact λhd=>h B _ σ _ H E G (R.freeze hi) hd e
 |_=>exact λz=>z.elim
end
abbrev DI:=xV->(List Tr->Prop)->Prop
def mS (H H':Hp):Prop:=H'=H\/∃q o,H q=none/\H'=upd H q o
structure ItC (F S:Addr->Prop)(J:It)(ts:List Tr)(Src:Hp->Prop):Prop where
 stab:∀H H',Src H->(∀a o,H a=some o->¬S a->H' a=some o)->Src H'
 go:∀i H,Src H->i<ts.length->J.go i H
 stop:∀H,Src H->J.stop ts.length H
 yld:∀i H x H',Src H->(∀a,F a->H a≠none)->i<ts.length->J.yld i H x H'->mS H H'/\∃t,ts[i]?=some t/\Rep F H' t x
structure ItL (J:It)(ts:List Tr)(G:List (Tr×V)):Prop where
 go:∀F H i,(∀p∈G,Rep F H p.1 p.2)->i<ts.length->J.go i H
 stop:∀F H,(∀p∈G,Rep F H p.1 p.2)->J.stop ts.length H
 yld:∀F i H x H',(∀p∈G,Rep F H p.1 p.2)->(∀a,F a->H a≠none)->i<ts.length->J.yld i H x H'->mS H H'/\∃t,ts[i]?=some t/\Rep F H' t x
def ItL.c (h:ItL J ts G)(hS:∀a,S a->F a):ItC F S J ts (λH=>∀p∈G,Rep F H p.1 p.2) where
 stab:=λH H' s k p hp=>wY (λa o e n=>⟨k a o e λz=>n (hS a z),n⟩) _ _ (s p hp)
 go:=λi H s hi=>h.go F H i s hi
 stop:=λH s=>h.stop F H s
 yld:=λi H x H' s d hi y=>h.yld F i H x H' s d hi y
def OkI (K:xw)(b:Bool)(wi:TI)(d:DI):Prop:=∀(B:FB) (φ:y_) (σ:St) (τ:xV) (H:Hp) (R:It->Hp->Prop) (KK:List Tr->Prop),RS K B φ σ τ H->d τ KK->
 (∀J ts G H',HX B φ τ H H'->KK ts->ItL J ts G->(∀p∈G,Rep (AvB b B φ τ) H' p.1 p.2)->R J H')->wi σ H R
def mV (K:xw)(wi:TI)(d:DI):Prop:=∀(B:FB) (φ:y_) (σ:St) (τ:xV) (H:Hp) (R:It->Hp->Prop) (KK:List Tr->Prop),RS K B φ σ τ H->d τ KK->
 (∀J ts Src H',HX B φ τ H H'->KK ts->ItC (Av B φ) (SA B φ τ) J ts Src->Src H'->R J H')->wi σ H R
section
variable {K:xw} {B:FB} {φ:y_} {σ:St} {τ:xV} {H H' H'':Hp} {fr:Bool}
theorem OkI.c (h:OkI K true wi d):mV K wi d:=λB φ σ τ H R KK Rs hd q=>h B φ σ τ H R KK Rs hd λJ ts G H' x k i s=>q J ts _ H' x k (i.c λa z=>Rs.sAv z) s
def FW (d:DE):DI:=λτ KK=>d τ λx=>match x with|.tup ts=>KK ts|.lst ts=>KK ts|_=>False
def MU:ItL (Itl K a) ts [(.lst ts,.ref a)] where
 go:=λF H i s hi=>by obtain⟨a',ws,e,n,h,r⟩:=s _ xU;cases e;obtain⟨w,e1,_⟩:=r.getT (yC hi);exact⟨ws,w,yw.of h,e1⟩
 stop:=λF H s=>by obtain⟨a',ws,e,n,h,r⟩:=s _ xU;cases e;exact⟨ws,yw.of h,by rw[<-r.len];exact ym _⟩
 yld:=λF i H x H' s d hi y=>by obtain⟨a',ws,e,n,h,r⟩:=s _ xU;cases e;obtain⟨rfl,y⟩:=y;obtain⟨t,e1,e2⟩:=r.get (y ws (yw.of h));exact⟨.inl rfl,t,e1,e2⟩
def MW:ItL (Itt K a) ts [(.tup ts,.ref a)] where
 go:=λF H i s hi=>by obtain⟨a',ws,e,n,h,r⟩:=s _ xU;cases e;obtain⟨w,e1,_⟩:=r.getT (yC hi);exact⟨ws,w,yM.of h,e1⟩
 stop:=λF H s=>by obtain⟨a',ws,e,n,h,r⟩:=s _ xU;cases e;exact⟨ws,yM.of h,by rw[<-r.len];exact ym _⟩
 yld:=λF i H x H' s d hi y=>by obtain⟨a',ws,e,n,h,r⟩:=s _ xU;cases e;obtain⟨rfl,y⟩:=y;obtain⟨t,e1,e2⟩:=r.get (y ws (yM.of h));exact⟨.inl rfl,t,e1,e2⟩
def o_ (i:Nat):DI:=λτ KK=>match yo τ i with|.ow ts=>KK ts|_=>False
theorem Pu:mV K (MG K (uD i)) (o_ i):=λB φ σ τ H R KK Rs hd q=>by
 have en:=Rs.ent i;unfold o_ at hd;revert en hd;cases hi:yo τ i with
 |ow ts=>
  intro hd ⟨a,ws,e1,e2,e3,e4,r⟩;refine⟨_,e1,a,rfl,⟨ws,yw.of e4⟩,q _ ts (λH=>H a=some (.lst ws)/\yt (Av B φ) H ts ws) H (HX.refl Rs) hd ⟨?_,?_,?_,?_⟩ ⟨e4,r⟩⟩
  .intro H1 H2 ⟨s1,s2⟩ k;exact⟨k a _ s1 λz=>Hg Rs hi e2 e3 (.inr z),uB (λc o e n=>⟨k c o e λz=>n (Rs.sAv z),n⟩) _ _ s2⟩
  .intro j H1 ⟨s1,s2⟩ hj;obtain⟨w,f1,_⟩:=s2.getT (yC hj);exact⟨ws,w,yw.of s1,f1⟩
  .intro H1 ⟨s1,s2⟩;exact⟨ws,yw.of s1,by rw[<-s2.len];exact ym _⟩
  .intro j H1 x H2 ⟨s1,s2⟩ _ hj ⟨f,y⟩;subst f;obtain⟨t,g1,g2⟩:=s2.get (y ws (yw.of s1));exact⟨.inl rfl,t,g1,g2⟩
 |_=>exact λz _=>z.elim
def qu (lo:Int)(n:Nat):List Tr:=(List.range n).map λ(k:Nat)=>Tr.int (lo+k)
def uJ (lo:Int)(n:Nat):(qu lo n).length=n:=by unfold qu;rw[xP,B4]
def j1 {lo:Int}{n i:Nat}(h:i<n):(qu lo n)[i]?=some (.int (lo+i)):=by unfold qu;rw[ue,BW h];rfl
def MV {lo:Int}{n:Nat}:ItL (Itr lo n) (qu lo n) [] where
 go:=λF H i s hi=>by rw[uJ] at hi;exact hi
 stop:=λF H s=>by rw[uJ];exact ym _
 yld:=λF i H x H' s d hi y=>by rw[uJ] at hi;obtain⟨rfl,rfl⟩:=y;exact⟨.inl rfl,_,j1 hi,rfl⟩
def MH (d:DA):DI:=λτ KK=>d τ λxs=>match xs with|[.int j]=>(-(2^62)<=j/\j<2^62)/\KK (qu 0 j.toNat)|_=>False
def kN (h:OkA K b n ta da):OkI K true (FV ta) (MH da):=λB φ σ τ H R KK Rs hd q=>
 h B φ σ τ H _ _ Rs hd λts vs H1 x1 k1 l1 r1=>by
  split at k1
  .rename_i j;obtain⟨v,rfl,e⟩:=qr r1;exact⟨j,by rw[show v=.int j from e],k1.1.1,k1.1.2,q _ _ [] H1 x1 k1.2 MV λp hp=>absurd hp (by simp)⟩
  .exact k1.elim
def kH (dg:DG)(body:DS)(G:rm):List Tr->xV->Prop
 |[],τ=>G.nx τ
 |x::xs,τ=>dg x τ λτ'=>body {G with nx:=kH dg body G xs,ct:=kH dg body G xs,bk:=G.nx} τ'
def bU (di:DI)(dg:DG)(body:DS):DS:=λG τ=>di τ λxs=>kH dg body G xs τ
def FB.more (B:FB)(G:List (Tr×V)):FB:={B with G0:=G++B.G0}
theorem RS.more (R:RS K B φ σ τ H)(h:∀p∈G,Rep (Av B φ) H p.1 p.2):RS K (B.more G) φ σ τ H:=⟨R.fN,R.s0,R.ext,R.sst,R.injG,R.oN,R.len,R.ent,λp hp=>(yz.mp hp).elim (h p) (R.gh p)⟩
def RS.less (R:RS K (B.more G) φ σ τ H):RS K B φ σ τ H/\∀p∈G,Rep (Av B φ) H p.1 p.2:=⟨⟨R.fN,R.s0,R.ext,R.sst,R.injG,R.oN,R.len,R.ent,λp hp=>R.gh p (wZ _ hp)⟩,λp hp=>R.gh p (zf _ hp)⟩
def mS.hx (R:RS K B φ σ τ H)(g:mS H H'):HX B φ τ H H':=by
 rcases g with rfl|⟨q,o,e,rfl⟩
 .exact HX.refl R
 .exact HX.new R e o
def zV (hi:OkI K true wi di)(hg:OkG K g dg)(hb:zH K fr tb db):zH K fr (Jl wi g tb) (bU di dg db):=λB φ σ τ H E G R hd e=>
 hi B φ σ τ H _ _ R hd λJ ts Gh H1 x1 k1 it gh=>by
  let W:Nat->St->Hp->Prop:=λi σ' H'=>i<=ts.length/\∃ φ' τ',RS K (B.more Gh) φ' σ' τ' H'/\kH dg db G (ts.drop i) τ'
  refine⟨λi m σ' H'=>m=ts.length-i/\W i σ' H',⟨_,rfl,aT _,φ,τ,(R.hx x1).more gh,k1⟩,?_⟩;rintro i m σ' H' ⟨rfl,hle,φ',τ',R',f⟩;obtain⟨R0,g0⟩:=R'.less;by_cases hlt:i<ts.length
  .refine .inr ⟨it.go _ H' i g0 hlt,W (i+1),λσ2 H2 w=>⟨_,by lia,rfl,w⟩,λx H2 y=>?_⟩;obtain⟨gr,t,ht,rt⟩:=it.yld _ i H' x H2 g0 (λa z=>R0.dom z) hlt y;have hx:=gr.hx R';have R2:=R'.hx hx;have ed:ts.drop i=t::ts.drop (i+1):=by rw[aK hlt];rw[yC hlt] at ht;cases ht;rfl
   rw[ed] at f;refine hg (B.more Gh) φ' σ' τ' H2 t x _ _ R2 rt f λφ3 σ3 τ3 H3 R3 _ _ k3=>?_;exact hb (B.more Gh) φ3 σ3 τ3 H3 _ _ R3 k3 ⟨λφ4 σ4 τ4 H4 R4 k4=>⟨hlt,φ4,τ4,R4,k4⟩,λφ4 σ4 τ4 H4 R4 k4=>e.nx φ4 σ4 τ4 H4 R4.less.1 k4,λφ4 σ4 τ4 H4 R4 k4=>⟨hlt,φ4,τ4,R4,k4⟩,λt v H r x k f=>e.rt t v H r ⟨x.ext,x.st⟩ k f⟩
  .have ei:i=ts.length:=by lia
   subst ei;rw[List.drop_length] at f;exact .inl ⟨it.stop _ H' g0,e.nx φ' σ' τ' H' R0 f⟩
def fY (c:DT)(body:DS)(G:rm):Nat->xV->Prop
 |0,_=>False
 |n+1,τ=>c τ λb=>if b=true then body {G with nx:=fY c body G n,ct:=fY c body G n,bk:=G.nx} τ else G.nx τ
def IE (c:DT)(body:DS):DS:=λG τ=>∃n,fY c body G n τ
theorem bI (hc:OkT K c dc)(hb:zH K fr tb db):zH K fr (JA c tb) (IE dc db):=λB φ σ τ H E G R hd e=>by
 obtain⟨n,hd⟩:=hd;refine⟨λm σ' H'=>∃ φ' τ',RS K B φ' σ' τ' H'/\fY dc db G m τ',⟨n,φ,τ,R,hd⟩,?_⟩;rintro m σ' H' ⟨φ',τ',R',f⟩;cases m with
 |zero=>exact f.elim
 |succ m=>
  refine hc B φ' σ' τ' H' _ _ R' f λb H1 x1 k1=>?_;cases b with
  |true=>refine kI ⟨λσ2 H2=>∃ φ2 τ2,RS K B φ2 σ2 τ2 H2/\fY dc db G m τ2,λσ2 H2 w=>⟨m,by lia,w⟩,?_⟩;exact hb B φ' σ' τ' H1 _ _ (R'.hx x1) k1 ⟨λφ4 σ4 τ4 H4 R4 k4=>⟨φ4,τ4,R4,k4⟩,λφ4 σ4 τ4 H4 R4 k4=>e.nx φ4 σ4 τ4 H4 R4 k4,λφ4 σ4 τ4 H4 R4 k4=>⟨φ4,τ4,R4,k4⟩,e.rt⟩
  |false=>exact vY (e.nx φ' σ' τ' H1 (R'.hx x1) k1)
def kC (dg:DG)(dc:DT)(de:DE)(τi:xV)(KK:List Tr->Prop):List Tr->List Tr->Prop
 |[],acc=>KK acc
 |x::xs,acc=>dg x τi λτ2=>dc τ2 λb=>if b=true then de τ2 λy=>kC dg dc de τi KK xs (acc++[y]) else kC dg dc de τi KK xs acc
def FZ:TV->TV
 |.ow _=>.un
 |.od _=>.un
 |x=>x
def jL (xQ:List (Option Nat))(τ:xV):xV:=xQ.map λo=>match o with|some j=>FZ (yo τ j)|none=>.un
def EM (xQ:List (Option Nat))(di:DI)(dg:DG)(dc:DT)(de:DE):DE:=λτ KK=>di τ λxs=>xs.length<sizeLine/\kC dg dc de (jL xQ τ) (λys=>KK (.lst ys)) xs []
def nG:DT:=λ_ KK=>KK true
def kO:OkT K Jq nG:=λB φ σ τ H Q KK R hd q=>q true H (HX.refl R) hd
def FB.inner (B:FB)(φ:y_)(τ:xV)(H:Hp):FB:=⟨Av B φ,SA B φ τ,H,[]⟩
def sA (xQ:List (Option Nat))(φ:y_)(τ:xV):y_:=λi=>match xQ[i]? with|some (some j)=>(match yo τ j with|.st=>φ j|_=>none)|_=>none
def GV:∀ {i:Nat},yo (jL xQ τ) i=match xQ[i]? with|some (some j)=>FZ (yo τ j)|_=>.un:=by
 intro i;by_cases h:i<xQ.length
 .have h':i<(jL xQ τ).length:=by unfold jL;rw[xP];exact h
  rw[bh h',yC h];simp only[jL,List.getElem_map];cases xQ[i]<;>rfl
 .rw[jQ (by unfold jL;rw[xP];lia),j_ (by lia)]
def nV {xQ:List (Option Nat)}{i j:Nat}{v:V}(h:xQ[i]?=some (some j))(e:σ[j]?=some (some v)):(vA xQ σ)[i]?=some (some v):=by unfold vA;rw[ue,h];simp only[Option.map_some,e,Option.getD_some]
theorem RS.inner {xQ:List (Option Nat)}(R:RS K B φ σ τ H):RS K (B.inner φ τ H) (sA xQ φ τ) (vA xQ σ) (jL xQ τ) H:=by
 have hphi:∀i a,sA xQ φ τ i=some a->∃j,xQ[i]?=some (some j)/\yo τ j=.st/\φ j=some a:=λi a e=>by
  unfold sA at e;split at e
  .rename_i j hj;split at e
   .rename_i hs;exact⟨j,hj,hs,e⟩
   .cases e
  .cases e
 have hav:∀a,Av (B.inner φ τ H) (sA xQ φ τ) a->Av B φ a:=λa z=>by
  rcases z with z|⟨i,z⟩
  .exact z
  .obtain⟨j,_,_,e⟩:=hphi i a z;exact .inr ⟨j,e⟩
 refine⟨λa z=>R.nt z,λa z=>R.sAv z,λa o e _=>e,λa s=>?_,λi j a hi e1 _=>?_,λi a e=>?_,?_,λi=>?_,λp hp=>absurd hp (by simp[FB.inner])⟩
 .rcases s with s|⟨i,s,_⟩
  .exact R.sst a s
  .obtain⟨j,_,hs,e⟩:=hphi i a s;exact R.sst a (.inr ⟨j,e,hs⟩)
 .exfalso;rw[GV] at hi;split at hi
  .rename_i j hj;revert hi;cases yo τ j<;>intro hi<;>exact hi.elim
  .exact hi.elim
 .obtain⟨j,_,_,e⟩:=hphi i a e;exact R.oN j a e
 .unfold vA jL;rw[xP,xP]
 .rw[GV];split
  .rename_i j hj;have en:=R.ent j;cases hn:yo τ j with
   |un=>trivial
   |ow ts=>trivial
   |od ks=>trivial
   |fz t=>rw[hn] at en;obtain⟨v,e,r⟩:=en;exact⟨v,nV hj e,wY (λa o e n=>⟨e,λz=>n (hav a z)⟩) _ _ r⟩
   |st=>rw[hn] at en;obtain⟨p,e1,e2,e3⟩:=en;refine⟨p,nV hj e1,?_,.inl (.inr ⟨j,e2,hn⟩)⟩;unfold sA;simp only[hj,hn];exact e2
   |sc ns=>rw[hn] at en;obtain⟨a,e,l,q⟩:=en;exact⟨a,nV hj e,l,q⟩
   |ob a=>rw[hn] at en;exact nV hj en
  .trivial
def ur (hi:mV K wi di)(hg:OkN K g dg)(hc:OkT K tc dc)(he:yf K b te de) :
  zw K (Bv wi xQ g tc te) (EM xQ di dg dc de):=λB φ σ τ H Q KK R hd q=>
 hi B φ σ τ H _ _ R hd λJ ts Src H1 x1 k1 it s1=>by
  refine⟨λi m ys H'=>m=ts.length-i/\i<=ts.length/\ys.length<=i/\HX B φ τ H H'/\Src H'/\∃acc,yt (Av B φ) H' acc ys/\kC dg dc de (jL xQ τ) (λys=>KK (.lst ys)) (ts.drop i) acc,⟨_,rfl,aT _,aT _,x1,s1,[],rfl,k1.2⟩,?_⟩;rintro i m ys H' ⟨rfl,hle,hys,x,s,acc,ra,f⟩;have R':=R.hx x;by_cases hlt:i<ts.length
  .refine .inr ⟨it.go i H' s hlt,by have:=k1.1;lia,λv H2 y=>?_⟩;obtain⟨gr,t,ht,rt⟩:=it.yld i H' v H2 s (λa z=>R'.dom z) hlt y;have hx:=gr.hx R';have R2:=R'.hx hx;have ed:ts.drop i=t::ts.drop (i+1):=by rw[aK hlt];rw[yC hlt] at ht;cases ht;rfl
   rw[ed] at f;refine hg (B.inner φ τ H2) _ _ _ H2 (Av B φ) t v _ _ R2.inner (λa z=>?_) rt f λφ3 σ3 τ3 R3 ha k3=>?_
   .rcases z with z|⟨j,z⟩
    .exact z
    .unfold sA at z;split at z
     .split at z
      .exact .inr ⟨_,z⟩
      .cases z
     .cases z
   have hsa:∀a,SA (B.inner φ τ H2) φ3 τ3 a->SA B φ τ a:=λa z=>by
    rcases z with z|⟨j,z,hj⟩
    .exact z
    .have en:=R3.ent j;rw[hj] at en;obtain⟨p,e1,e2,e3⟩:=en;rw[z] at e2;cases e2;rcases e3 with e3|e3
     .exact e3
     .exact absurd e3 (R3.sst a (.inr ⟨j,z,hj⟩)).ne_none
   have hxo:∀ {H3 H4:Hp},HX (B.inner φ τ H2) φ3 τ3 H3 H4->HX B φ τ H3 H4:=λ {H3 H4} h=>⟨λa o e n=>h.keep a o e λz=>n (hsa a z),λa z=>h.st a (.inl z)⟩
   refine hc _ φ3 σ3 τ3 H2 _ _ R3 k3 λc H3 x3 k4=>?_;have x23:=hxo x3;have s3:=it.stab _ _ (it.stab _ _ s λa o e n=>hx.keep a o e n) λa o e n=>x23.keep a o e n;cases c with
   |false=>refine vY ⟨_,by lia,rfl,hlt,by lia,(x.trans hx).trans x23,s3,acc,(hx.trans x23).repL (λa z=>R.sAv z) ra,?_⟩;simpa using k4
   |true=>
    refine kI (he _ φ3 σ3 τ3 H3 _ _ (R3.hx x3) k4 λu w H4 x4 k5 r5=>?_);have x34:=hxo x4;refine⟨_,by lia,rfl,hlt,by rw[ze,g_];lia,((x.trans hx).trans x23).trans x34,it.stab _ _ s3 λa o e n=>x34.keep a o e n,acc++[u],(((hx.trans x23).trans x34).repL (λa z=>R.sAv z) ra).app (show yt _ _ [u] [w] from⟨w,[],rfl,?_,rfl⟩),k5⟩;refine wY (λa o e n=>⟨e,λz=>n ?_⟩) _ _ r5;cases b with
    |true=>exact .inl z
    |false=>exact .inl z
  .have ei:i=ts.length:=by lia
   subst ei;rw[List.drop_length] at f;refine .inl ⟨it.stop H' s,λp hp=>q acc p ys _ (x.trans (HX.new R' hp _)) f (x.none hp) zp (j0 hp ra)⟩
end
def startT (N:List Str):Bool->List Tr->xV
 |true,ts=>.st::(ts.map TV.fz++List.replicate (N.length-(ts.length+1)) .un)
 |false,ts=>ts.map TV.fz++List.replicate (N.length-ts.length) .un
def lI {ts:List Tr}{n i:Nat}{x:TV}(h:yo (ts.map TV.fz++List.replicate n .un) i=x):x=.un\/∃t,ts[i]?=some t/\x=.fz t:=by
 by_cases hi:i<ts.length
 .right;rw[bh (by simp;lia),List.getElem_append_left (by simpa using hi),List.getElem_map] at h;exact⟨_,yC hi,h.symm⟩
 .left;by_cases h2:i<ts.length+n
  .rw[bh (by simp;lia),List.getElem_append_right (by simp;lia),List.getElem_replicate] at h;exact h.symm
  .rw[jQ (by simp;lia)] at h;exact h.symm
def cP {N:List Str}{vs:List V}{i:Nat}{v:V}(h:vs[i]?=some v):(start N vs)[i]?=some (some v):=by unfold start;have hi:=(y8.mp h).1;rw[pF (by simpa using hi),ue,h];rfl
def Bs (h:vs.length<=N.length):(start N vs).length=N.length:=by unfold start;rw[ze,xP,aP];lia
section
variable {P:Program} {w:World} {K:xw} {mg:Str->Option Value} {base:Heap} {k n:Nat} {x qual:Str} {st:Stmt} {f:Addr} {fd:FuncData} {N ps:List Str} {fr:Bool} {sp:yb}
def RQ {F S:Addr->Prop}{H:Hp}{ts:List Tr}{us:List V}(hF:∀a,F a->NT (H a))(hS:∀a,S a->F a)(hst:∀a,S a->vT a H)(r:yt F H ts us)(hl:ts.length<=N.length) :
  RS K ⟨F,S,H,[]⟩ (λ_=>none) (start N us) (startT N false ts) H where
 fN:=hF
 s0:=hS
 ext:=λa o e _=>e
 sst:=λa s=>by
  rcases s with s|⟨i,s,_⟩
  .exact hst a s
  .cases s
 injG:=λi j a _ e=>by cases e
 oN:=λi a e=>by cases e
 len:=by have:=r.len;rw[Bs (by lia)];simp[startT];lia
 ent:=λi=>by
  rcases lI (ts:=ts) (n:=N.length-ts.length) (i:=i) rfl with e|⟨t,h,e⟩
  .show Ent K _ _ H i _ (yo (ts.map TV.fz++List.replicate (N.length-ts.length) .un) i);rw[e];trivial
  .show Ent K _ _ H i _ (yo (ts.map TV.fz++List.replicate (N.length-ts.length) .un) i);rw[e];obtain⟨v,e1,e2⟩:=r.getT h;exact⟨v,cP e1,wY (λa o e n=>⟨e,λz=>n (z.elim id λ⟨_,z⟩=>nomatch z)⟩) _ _ e2⟩
 gh:=λp hp=>absurd hp (by simp)
def RT {F S:Addr->Prop}{H:Hp}{ts:List Tr}{us:List V}{p:Addr}(hp:S p)(hF:∀a,F a->NT (H a))(hS:∀a,S a->F a)(hst:∀a,S a->vT a H)(r:yt F H ts us)(hl:ts.length+1<=N.length) :
  RS K ⟨F,S,H,[]⟩ (λi=>if i=0 then some p else none) (start N (.ref p::us)) (startT N true ts) H where
 fN:=hF
 s0:=hS
 ext:=λa o e _=>e
 sst:=λa s=>by
  rcases s with s|⟨i,s,_⟩
  .exact hst a s
  .have s:(if i=0 then some p else none)=some a:=s;by_cases e:i=0
   .rw[xJ e] at s;cases s;exact hst _ hp
   .rw[xG e] at s;cases s
 injG:=λi j a hi e=>by
  exfalso;by_cases e0:i=0
  .subst e0;exact hi.elim
  .rw[xG e0] at e;cases e
 oN:=λi a e=>by
  by_cases e0:i=0
  .rw[xJ e0] at e;cases e;exact(hst _ hp).nt
  .rw[xG e0] at e;cases e
 len:=by have:=r.len;rw[Bs (by rw[wC];lia)];simp[startT];lia
 ent:=λi=>by
  cases i with
  |zero=>exact⟨p,cP (by rfl),xJ rfl,.inl hp⟩
  |succ i=>
   show Ent K _ _ H (i+1) _ (yo (ts.map TV.fz++List.replicate (N.length-(ts.length+1)) .un) i);rcases lI (ts:=ts) (n:=N.length-(ts.length+1)) (i:=i) rfl with e|⟨t,h,e⟩
   .rw[e];trivial
   .rw[e];obtain⟨v,e1,e2⟩:=r.getT h;refine⟨v,cP (by rw[List.getElem?_cons_succ];exact e1),wY (λa o e n=>⟨e,λz=>n ?_⟩) _ _ e2⟩;rcases z with z|⟨j,z⟩
    .exact z
    .have z:(if j=0 then some p else none)=some a:=z;by_cases e0:j=0
     .rw[xJ e0] at z;cases z;exact hS _ hp
     .rw[xG e0] at z;cases z
 gh:=λp hp=>absurd hp (by simp)
def Hh (F:Fun K x qual st f fd)(S:xW N ps (xH st))(mgx:mg x=some (.ref f))(b:Binds K fd ps [])(hn:ps.length=n)
  (body:∀(cdv:Value) (A:Around) (outer:List Env) (s:Shared) (H:Hp) (E:XK),wR k (A.deeper (envOfC qual (xH st) s.heap.objs.size f cdv))->∃T D,PSs (kF CX0 P w K mg base N qual (xH st) f cdv A outer s H E).nox (vb st) T/\zH K fr T D/\∀ts KK,ts.length=n->sp ts KK->D {nx:=λ_=>fr=false/\KK .non,rt:=KK} (startT N false ts)) :
  xT P w K mg base (k+1) x ps (spT n false fr sp):=by
 have hpl:ps.length<=N.length:=by have:=zg List.length S.pre;rw[uQ] at this;lia
 refine tJ F S mgx b (λvs H Q E h=>?_) (λcdv A outer s H vs Q E hr h=>?_)
 .obtain⟨F',S',ts,KK,us,e,_,_,_,r,l,_⟩:=h;cases (show vs=us from e);rw[<-r.len,l,hn]
 .obtain⟨F',S',ts,KK,us,e,hF,hS,hst,r,l,hsp,q⟩:=h;cases (show vs=us from e);obtain⟨T,D,ht,hd,h⟩:=body cdv A outer s H E hr;refine⟨T,ht,hd _ _ _ _ H _ _ (RQ hF hS hst r (by lia)) (h ts KK l hsp) ⟨λφ σ τ H1 R k=>?_,λ_ _ _ _ _ z=>z.elim,λ_ _ _ _ _ z=>z.elim,λt v H1 r1 x k fl=>?_⟩⟩
  .obtain⟨k1,k2⟩:=k;exact q .non .non H1 k2 R.ext (λa z=>R.sst a (.inl z)) rfl λz=>by rw[k1] at z;cases z
  .exact q t v H1 k x.ext x.st r1 fl
def Hi (F:Fun K x qual st f fd)(S:xW N ps (xH st))(mgx:mg x=some (.ref f))(b:Binds K fd ps [])(hn:ps.length=n+1)
  (body:∀(cdv:Value) (A:Around) (outer:List Env) (s:Shared) (H:Hp) (E:XK),wR k (A.deeper (envOfC qual (xH st) s.heap.objs.size f cdv))->∃T D,PSs (kF CX0 P w K mg base N qual (xH st) f cdv A outer s H E).nox (vb st) T/\zH K fr T D/\∀ts KK,ts.length=n->sp ts KK->D {nx:=λ_=>fr=false/\KK .non,rt:=KK} (startT N true ts)) :
  xT P w K mg base (k+1) x ps (spT n true fr sp):=by
 have hpl:ps.length<=N.length:=by have:=zg List.length S.pre;rw[uQ] at this;lia
 refine tJ F S mgx b (λvs H Q E h=>?_) (λcdv A outer s H vs Q E hr h=>?_)
 .obtain⟨F',S',ts,KK,us,⟨p,e,_⟩,_,_,_,r,l,_⟩:=h;rw[e,wC,<-r.len,l,hn]
 .obtain⟨F',S',ts,KK,us,⟨p,e,hp⟩,hF,hS,hst,r,l,hsp,q⟩:=h;subst e;obtain⟨T,D,ht,hd,h⟩:=body cdv A outer s H E hr;refine⟨T,ht,hd _ _ _ _ H _ _ (RT hp hF hS hst r (by lia)) (h ts KK l hsp) ⟨λφ σ τ H1 R k=>?_,λ_ _ _ _ _ z=>z.elim,λ_ _ _ _ _ z=>z.elim,λt v H1 r1 x k fl=>?_⟩⟩
  .obtain⟨k1,k2⟩:=k;exact q .non .non H1 k2 R.ext (λa z=>R.sst a (.inl z)) rfl λz=>by rw[k1] at z;cases z
  .exact q t v H1 k x.ext x.st r1 fl
def Ku (H:Hp):Prop:=∀b,(H b=none\/∃o xs,H b=some (.frz o (.lst xs)))\/∃q,H b=some (.tb q)
def az (K:xw):Sp:=λvs H Q _=>∃(a:Addr) (ns:List Int),vs=[.ref a]/\(Ku H/\h9 K H)/\yw K H a (ns.map V.int)/\ns.length<=63/\∀H',Q (.bl true) H'
def Nb (F:Fun K x qual st f fd)(S:xW N ps (xH st))(hn:ps.length=1)
  (body:∀(cdv:Value) (A:Around) (outer:List Env) (s:Shared) (H:Hp) (E:XK),wR k (A.deeper (envOfC qual (xH st) s.heap.objs.size f cdv))->∃T D,PSs (kF CX0 P w K mg base N qual (xH st) f cdv A outer s H E).nox (vb st) T/\zH K false T D/\∀ns:List Int,ns.length<=63->D {nx:=λ_=>False,rt:=λt=>t=.bl true} (.sc ns::List.replicate (N.length-1) .un)) :
  u_ P w K mg base CX0 (k+1) f fd ps (az K):=by
 have hpl:ps.length<=N.length:=by have:=zg List.length S.pre;rw[uQ] at this;lia
 refine F.ok S (λvs H Q E h=>?_) (λcdv A outer s H vs Q E hr h=>?_)
 .obtain⟨a,ns,rfl,_⟩:=h;exact hn.symm
 .obtain⟨a,ns,rfl,⟨hO,hT⟩,hS,hl,q⟩:=h;obtain⟨T,D,ht,hd,h⟩:=body cdv A outer s H E hr;have so:mW K H a ns:=by
   refine⟨?_,hT⟩;rcases hS with (z|⟨o,z⟩)|z
   .exfalso;rcases hO a with (y|⟨o,xs,y⟩)|⟨_,y⟩
    .rw[y] at z;cases z
    .rw[y] at z;cases z
    .rw[y] at z;cases z
   .exact .inl ⟨o,z⟩
   .exact .inr λ_=>.inr z
  have R:RS K ⟨λ_=>False,λ_=>False,H,[]⟩ (λ_=>none) (start N [.ref a]) (.sc ns::List.replicate (N.length-1) .un) H:=by
   refine⟨λ_ z=>z.elim,λ_ z=>z,λ_ _ e _=>e,λa s=>?_,λi j a us _ e=>(by cases e),λi a e=>(by cases e),?_,λi=>?_,λp hp=>absurd hp (by simp)⟩
   .rcases s with s|⟨i,s,_⟩
    .exact s.elim
    .cases s
   .rw[Bs (by simp;lia)];simp;lia
   .cases i with
    |zero=>exact⟨a,cP rfl,hl,so⟩
    |succ i=>
     show Ent K _ _ H (i+1) _ (yo (List.replicate (N.length-1) .un) i);rcases lI (ts:=[]) (n:=N.length-1) (i:=i) rfl with e|⟨t,h,e⟩
     .rw[du,qC] at e;rw[e];trivial
     .simp at h
  refine⟨T,ht,hd _ _ _ _ H _ _ R (h ns hl) ⟨λ_ _ _ _ _ z=>z.elim,λ_ _ _ _ _ z=>z.elim,λ_ _ _ _ _ z=>z.elim,λt v H1 r1 x k fl=>?_⟩⟩;cases (show t=.bl true from k);cases (show v=.bl true from r1);exact q H1
end
section
variable {K:xw} {fr:Bool}
def ID (j i:Nat)(d:DE):DS:=λG τ=>match yo τ i with|.sc _=>d τ (λt=>match t with|.int k=>0<=k/\G.nx (τ.set j .st)|_=>False)|_=>False
theorem PB (h:yf K b te d):zH K fr (j3 (t_ (Ja K) (uC (uD i) (uC te vP))) (qM j)) (ID j i d):=λB φ σ τ H E G R hd e=>by
 have en:=R.ent i;unfold ID at hd;revert en hd;cases hi:yo τ i with
 |sc ns=>
  intro hd ⟨a,e1,hl,so,_⟩;refine⟨_,e1,h B φ σ τ H _ _ R hd λt v H1 x1 k1 r1=>?_⟩;cases t with
  |int k=>
   cases (show v=.int k from r1);have sq:yw K H1 a (ns.map V.int):=by
    rcases so with ⟨o,q⟩|q
    .exact .inl (.inr ⟨o,x1.keep a _ q (o6 R q)⟩)
    .exact q H1
   refine⟨a,ns,k,rfl,sq,hl,k1.1,λp n b hp hok=>?_⟩;have x2:=x1.trans (HX.new (R.hx x1) hp (.lst [.int n,.bl b]));have z0:B.H0 p=none:=by
    cases q:B.H0 p with
    |none=>rfl
    |some o=>
     by_cases s:B.S0 p
     .exact absurd hp ((R.hx x1).sst p (.inl s)).ne_none
     .rw[(R.hx x1).ext p o q s] at hp;cases hp
   refine e.nx _ _ _ _ (R.setNew (x:=.st) x2 (x1.none hp) (by rw[zp];exact⟨(λz=>nomatch z),λ_ z=>nomatch z⟩) (λ_=>⟨n,b,zp,hok⟩) ⟨p,rfl,eB,.inr z0⟩) k1.2
  |_=>exact k1.elim
 |_=>exact λz _=>z.elim
def i7:yb:=λts KK=>match ts with|[.int many]=>(0<many/\many<2^128)/\∀r,0<=r->r<many->KK (.int r)|_=>False
def Tn (h:xT P w K mg base k x ps Jb):xT P w K mg base k x ps (spT 1 true false i7):=h.imp λvs H Q E q=>by
 obtain⟨F,S,ts,KK,us,⟨p,e,hp⟩,hF,hS,hst,r,l,hsp,q⟩:=q;unfold i7 at hsp;split at hsp
 .rename_i many;obtain⟨v,rfl,r1⟩:=qr r;cases (show v=.int many from r1);refine⟨p,many,e,hst p hp,hsp.1.1,hsp.1.2,λr H' h0 h1 sb=>q (.int r) (.int r) H' (hsp.2 r h0 h1) (λa o e n=>sb.keep a o (λz=>n (by rw[z];exact hp)) e) (λa s=>?_) rfl (λz=>nomatch z)⟩;by_cases ea:a=p
  .rw[ea];exact sb.st
  .obtain⟨n,b,e1,z⟩:=hst a s;exact⟨n,b,sb.keep a _ ea e1,z⟩
 .exact hsp.elim
end
mutual
def wI:Tr->PyData
 |.non=>.none|.bl b=>.bool b|.int i=>.int i|.str x=>.str x|.emp=>.dict []|.tup ts=>.tuple (uF ts)|.lst ts=>.list (uF ts)
def uF:List Tr->List PyData
 |[]=>[]
 |t::ts=>wI t::uF ts
end
def zE (t u:Tr):Bool:=PyData.eqv (wI t) (wI u)
def pln (t:Tr):Bool:=(wI t).canLay0
def dep (t:Tr):Nat:=(wI t).depth
section
variable {X:Cx} {xf:List (Addr×Obj)} {σ:St} {H:Hp} {s:Shared}
mutual
theorem ai (I:Inv X xf σ H s):∀(t:Tr) (x:V) (a:Value),Rep F H t x->RelV x a->pln t=true->∃as,Reads s.heap a (wI t) as
 |.non,x,a,r,e,_=>by cases (show x=.non from r);cases e;exact⟨_,.none⟩
 |.bl b,x,a,r,e,_=>by cases (show x=.bl b from r);cases e;exact⟨_,.bool b⟩
 |.int i,x,a,r,e,_=>by cases (show x=.int i from r);obtain⟨t,rfl⟩:=e;exact⟨_,.int i t⟩
 |.str i,x,a,r,e,_=>by cases (show x=.str i from r);obtain⟨t,rfl⟩:=e;exact⟨_,.str i t⟩
 |.emp,x,a,r,e,h=>by cases h
 |.tup ts,x,a,r,e,h=>by obtain⟨p,ws,rfl,_,hp,rl⟩:=r;cases e;obtain⟨xm,rv,⟨o,ho,hc,n,hd⟩,_⟩:=I.tuple (yM.of hp);obtain⟨as,ra⟩:=tQ I ts ws xm rl rv h;exact⟨_,.tuple ho hc hd (by simpa using ra)⟩
 |.lst ts,x,a,r,e,h=>by obtain⟨p,ws,rfl,_,hp,rl⟩:=r;cases e;obtain⟨xm,rv,pl,_⟩:=I.list (yw.of hp);obtain⟨o,ho,hc,n,hd⟩:=pl.isList;obtain⟨as,ra⟩:=tQ I ts ws xm rl rv h;exact⟨_,.list ho hc hd (by simpa using ra)⟩
theorem tQ (I:Inv X xf σ H s):∀(ts:List Tr) (ws:List V) (us:List Value),yt F H ts ws->yn ws us->PyData.canLayAll0 (uF ts)=true->∃as,ReadsAll s.heap us (uF ts) as
 |[],ws,us,r,v,_=>by cases (show ws=[] from r);cases v;exact⟨_,.nil⟩
 |t::ts,ws,us,r,v,h=>by
  obtain⟨w,r',rfl,h1,h2⟩:=r;cases v with
  |cons v1 v2=>
   have h':pln t=true/\PyData.canLayAll0 (uF ts)=true:=by have:(pln t&&PyData.canLayAll0 (uF ts))=true:=h;simpa using this
   obtain⟨as,ra⟩:=ai I t w _ h1 v1 h'.1;obtain⟨bs,rb⟩:=tQ I ts r' _ h2 v2 h'.2;exact⟨_,.cons ra rb⟩
end
end
def fj (t u:Tr):Prop:=pln t=true/\pln u=true/\min (dep t) (dep u)<=64
def HL:R2:=λx y H Q=>∃F G t u,Rep F H t x/\Rep G H u y/\fj t u/\Q (.bl (zE t u)) H
def H9:R2:=λx y H Q=>∃F G t u,Rep F H t x/\Rep G H u y/\fj t u/\Q (.bl (!zE t u)) H
section
variable {X:Cx}
def uy (hu:X.A.units+64<cLine):zy X (compareOp .Eq) HL:=by intro xf s σ H x y v u Q I rx ry h;obtain⟨F,G,t,t',r1,r2,⟨p1,p2,p3⟩,q⟩:=h;obtain⟨as,ra⟩:=ai I t x v r1 rx p1;obtain⟨bs,rb⟩:=ai I t' y u r2 ry p2;exact SeqAt.rcAt_reads ra rb p1 p2 (kZ (Kf p3 _) hu) X.prog X.w _ _ ⟨.bl _,H,I,rfl,q⟩
def ua (hu:X.A.units+64<cLine):zy X (compareOp .NotEq) H9:=by intro xf s σ H x y v u Q I rx ry h;obtain⟨F,G,t,t',r1,r2,⟨p1,p2,p3⟩,q⟩:=h;obtain⟨as,ra⟩:=ai I t x v r1 rx p1;obtain⟨bs,rb⟩:=ai I t' y u r2 ry p2;exact SeqAt.rcNeAt_reads ra rb p1 p2 (kZ (Kf p3 _) hu) X.prog X.w _ _ ⟨.bl _,H,I,rfl,q⟩
def HM (neg:Bool):R2:=λx y H Q=>∃F G t ts,Rep F H t x/\(Rep G H (.lst ts) y\/Rep G H (.tup ts) y)/\pln t=true/\PyData.canLayAll0 (uF ts)=true/\dep t<=60/\Q (.bl (if neg then !(ts.any λu=>zE u t) else ts.any λu=>zE u t)) H
theorem om (e:Value->Bool)(he:∀y d as,Reads h y d as->d.canLay0=true->e y=PyData.eqv d d0):∀(ts:List Tr) (us:List Value) (as:List Addr),ReadsAll h us (uF ts) as->PyData.canLayAll0 (uF ts)=true->us.any e=ts.any λu=>PyData.eqv (wI u) d0
 |[],us,as,r,_=>by cases r;rfl
 |t::ts,us,as,r,hl=>by
  have h':(wI t).canLay0=true/\PyData.canLayAll0 (uF ts)=true:=by have:((wI t).canLay0&&PyData.canLayAll0 (uF ts))=true:=hl;simpa using this
  generalize hg:uF (t::ts)=ds at r;cases r with
  |nil=>cases hg
  |cons r1 r2=>have e1:wI t=_:=(List.cons.inj hg).1;have e2:uF ts=_:=(List.cons.inj hg).2;subst e1 e2;rw[aI,aI,he _ _ _ r1 h'.1,om e he ts _ _ r2 h'.2]
theorem GJ:∀(ds:List PyData) (us:List Value) (as:List Addr),ReadsAll h us ds as->PyData.canLayAll0 ds=true->y∈us->∃d as,Reads h y d as/\d.canLay0=true
 |[],us,as,r,_,hm=>by cases r;exact absurd hm (by simp)
 |d::ds,us,as,r,hl,hm=>by
  have h':d.canLay0=true/\PyData.canLayAll0 ds=true:=by have:(d.canLay0&&PyData.canLayAll0 ds)=true:=hl;simpa using this
  cases r with
  |cons r1 r2=>
   rcases xX.mp hm with rfl|hm
   .exact⟨d,_,r1,h'.1⟩
   .exact GJ ds _ _ r2 h'.2 hm
open Classical in
def eBy (h:Heap)(d0:PyData)(y:Value):Bool:=if ∃d as,Reads h y d as/\d.canLay0=true/\PyData.eqv d d0=true then true else false
theorem oS (y:Value)(d:PyData)(as:List Addr)(r:Reads h y d as)(hl:d.canLay0=true):eBy h d0 y=PyData.eqv d d0:=by
 unfold eBy;cases hq:PyData.eqv d d0 with
 |true=>rw[xJ ⟨d,as,r,hl,hq⟩]
 |false=>rw[xG];rintro⟨d',as',r',hl',hq'⟩;have:=SeqAt.Reads.unique d d' y as as' hl r r';subst this;rw[hq] at hq';cases hq'
def iZ (hu:X.A.units+64<cLine):zy X (compareOp .NotIn) (HM true):=by
 intro xf s σ H x y v u Q I rx ry h;obtain⟨F,G,t,ts,r1,r2,p1,p2,p3,q⟩:=h;obtain⟨as,ra⟩:=ai I t x v r1 rx p1;have room:∀d:PyData,X.A.in1.units+min d.depth (wI t).depth<cLine:=λd=>by have h1:min d.depth (wI t).depth<=60:=vt (Kg _ _) p3;show X.A.units+1+_<_;lia
 have eqa:∀(ds:List PyData) (us:List Value) (bs:List Addr),ReadsAll s.heap us ds bs->PyData.canLayAll0 ds=true->∀z∈us,SeqAt.EqAt X.A.in1 s z v (eBy s.heap (wI t) z):=λds us bs rb hl z hz=>by obtain⟨d,cs,rd,hd⟩:=GJ ds us bs rb hl hz;rw[oS z d cs rd hd];exact SeqAt.eqAt_reads d (wI t) _ s z v _ _ rd ra hd p1 (room d)
 rcases r2 with r2|r2
 .obtain⟨p,ws,rfl,_,hp,rl⟩:=r2;cases ry;obtain⟨xm,rv,pl,_⟩:=I.list (yw.of hp);obtain⟨bs,rb⟩:=tQ I ts ws xm rl rv p2;refine SeqAt.notIn_listAt (eBy s.heap (wI t)) pl.isList (λz hz=>eqa _ _ _ rb p2 z (by simpa using hz)) ⟨.bl _,H,I,?_,q⟩;show Value.bool _=Value.bool _;rw[xJ rfl,show(ts.any λu=>zE u t)=xm.toArray.any (eBy s.heap (wI t)) from by rw[show(xm.toArray.any (eBy s.heap (wI t)))=xm.any (eBy s.heap (wI t)) by simp];exact(om (eBy s.heap (wI t)) (λy d as r hl=>oS y d as r hl) ts xm bs rb p2).symm]
 .obtain⟨p,ws,rfl,_,hp,rl⟩:=r2;cases ry;obtain⟨xm,rv,pl,_⟩:=I.tuple (yM.of hp);obtain⟨bs,rb⟩:=tQ I ts ws xm rl rv p2;refine SeqAt.notIn_tupleAt (eBy s.heap (wI t)) pl (λz hz=>eqa _ _ _ rb p2 z (by simpa using hz)) ⟨.bl _,H,I,?_,q⟩;show Value.bool _=Value.bool _;rw[xJ rfl,show(ts.any λu=>zE u t)=xm.toArray.any (eBy s.heap (wI t)) from by rw[show(xm.toArray.any (eBy s.heap (wI t)))=xm.any (eBy s.heap (wI t)) by simp];exact(om (eBy s.heap (wI t)) (λy d as r hl=>oS y d as r hl) ts xm bs rb p2).symm]
end
def rO (neg:Bool)(x y:Tr)(KK:Tr->Prop):Prop:=match x,y with
 |.int i,.int j=>KK (.bl (if neg then !decide (i=j) else decide (i=j)))
 |x,y=>fj x y/\KK (.bl (if neg then !zE x y else zE x y))
def L0 (i j:Int):fj (.int i) (.int j):=⟨rfl,rfl,by show min 0 0<=64;decide⟩
def E8 {neg:Bool}{x y:Tr}{KK:Tr->Prop}(h:rO neg x y KK):fj x y/\KK (.bl (if neg then !zE x y else zE x y)):=by
 unfold rO at h;split at h
 .exact⟨L0 _ _,h⟩
 .exact h
def os_eq:OpS HL (rO false):=λF G H x y t u KK Q r1 r2 hf q=>by obtain⟨h1,h2⟩:=E8 hf;exact⟨F,G,t,u,r1,r2,h1,q _ _ rfl h2⟩
def ub:OpS H9 (rO true):=λF G H x y t u KK Q r1 r2 hf q=>by obtain⟨h1,h2⟩:=E8 hf;exact⟨F,G,t,u,r1,r2,h1,q _ _ rfl h2⟩
def fIn (neg:Bool)(x y:Tr)(KK:Tr->Prop):Prop:=match y with
 |.lst ts=>(pln x=true/\PyData.canLayAll0 (uF ts)=true/\dep x<=60)/\KK (.bl (if neg then !(ts.any λu=>zE u x) else ts.any λu=>zE u x))
 |.tup ts=>(pln x=true/\PyData.canLayAll0 (uF ts)=true/\dep x<=60)/\KK (.bl (if neg then !(ts.any λu=>zE u x) else ts.any λu=>zE u x))
 |_=>False
def i6:OpS (HM neg) (fIn neg):=λF G H x y t u KK Q r1 r2 hf q=>by
 unfold fIn at hf;split at hf
 .exact⟨F,G,t,_,r1,.inl r2,hf.1.1,hf.1.2.1,hf.1.2.2,q _ _ rfl hf.2⟩
 .exact⟨F,G,t,_,r1,.inr r2,hf.1.1,hf.1.2.1,hf.1.2.2,q _ _ rfl hf.2⟩
 .exact hf.elim
end L2
namespace L2
open PySem PySem.Spec PyProof.Rows
def o9 (K:xw)(tl:TE):TI:=λσ H R=>tl σ H λx H1=>∃a,x=.ref a/\(((∃xs,yw K H1 a xs)/\R (Itl K a) H1)\/((∃xs,yM K H1 a xs)/\R (Itt K a) H1))
section
variable {X:Cx}
def zB (K:xw)(hl:PE X l tl)(e:X.K=K:=by rfl):PI X tg l (o9 K tl):=by
 subst e;intro xf s σ H R I h;refine yp (@hl xf s σ H _ I h) λv s1 ⟨x,H1,I1,r1,q1⟩=>?_;obtain⟨a,e,q⟩:=q1;subst e;cases r1;rcases q with ⟨⟨xs,hq⟩,q⟩|⟨⟨xs,hq⟩,q⟩
 .obtain⟨xm,rv,p,hz⟩:=I1.list hq;refine Cr p.isList ?_;refine⟨s1.heap.objs.size,[s1.heap.objs.size],_,_,H1,rfl,I1.kept (t':=s1.toks) λb o e=>yZ _ e,TC a _,⟨_,wJ _ rfl,rfl,rfl⟩,λb hb=>?_,q⟩;have e:b=s1.heap.objs.size:=by simpa using hb
  subst e;exact I1.fpOk (ym _) (I1.hok.fresh (ym _))
 .obtain⟨xm,rv,p,hz⟩:=I1.tuple hq;refine pL (show s1.heap.IsTuple a xm.toArray from p) ?_;refine⟨s1.heap.objs.size,[s1.heap.objs.size],_,_,H1,rfl,I1.kept (t':=s1.toks) λb o e=>yZ _ e,TH a _,⟨_,wJ _ rfl,rfl,rfl⟩,λb hb=>?_,q⟩;have e:b=s1.heap.objs.size:=by simpa using hb
  subst e;exact I1.fpOk (ym _) (I1.hok.fresh (ym _))
end
section
variable {K:xw}
def zQ (h:yf K b te d):OkI K b (o9 K te) (FW d):=λB φ σ τ H R KK Rs hd q=>
 h B φ σ τ H _ _ Rs hd λt v H1 x1 k1 r1=>by
  cases t with
  |lst ts=>
   obtain⟨a,ws,e,n,ha,rl⟩:=id r1;subst e;exact⟨a,rfl,.inl ⟨⟨ws,yw.of ha⟩,q _ ts _ H1 x1 k1 MU λp hp=>by cases zF.mp hp;exact r1⟩⟩
  |tup ts=>
   obtain⟨a,ws,e,n,ha,rl⟩:=id r1;subst e;exact⟨a,rfl,.inr ⟨⟨ws,yM.of ha⟩,q _ ts _ H1 x1 k1 MW λp hp=>by cases zF.mp hp;exact r1⟩⟩
  |_=>exact k1.elim
def iW:mV K (o9 K (uD i)) (o_ i):=λB φ σ τ H R KK Rs hd q=>by obtain⟨v,e,a,ea,s,r⟩:=Pu (i:=i) B φ σ τ H R KK Rs hd q;exact⟨v,e,a,ea,.inl ⟨s,r⟩⟩
end
def Ite (K:xw)(b:Bool)(a:Addr):It:=
 ⟨λi H=>∃xs x,Sq2 K b H a xs/\xs[i]?=some x,λi H v H'=>∃x q,(∀xs,Sq2 K b H a xs->xs[i]?=some x)/\v=.ref q/\H q=none/\H'=upd H q (.tup [.int i,x]),λi H=>∃xs,Sq2 K b H a xs/\xs.length<=i⟩
theorem Inv.sq2_inj (I:Inv X xf σ H s)(h:Sq2 X.K b H a xs)(h':Sq2 X.K b H a ys):xs=ys:=by
 cases b with
 |true=>exact I.tuple_inj (show yM X.K H a xs from h) h'
 |false=>exact I.list_inj (show yw X.K H a xs from h) h'
def LO (D:Drw it a vs tn src)(hne:a≠it)(hh:A.handled=none) :
  Draws prog w A it [it,a] vs.length (λi x=>vs[i]?=some x) (λi h=>tn i h/\src h) where
 live:=λi h st=>let ⟨o,e,_⟩:=D.ob i h st.1;⟨o,e⟩
 frame:=λi h h' st k=>⟨D.mv _ _ _ st.1 (k it (by simp)),D.smv _ _ st.2 (k a (by simp))⟩
 item:=λi s Q E hi st hQ=>D.item prog w A E i vs[i] s Q st.1 st.2 (yC hi) λh' t' sb=>hQ _ h' s.toks (yC hi) ⟨t',D.smv _ _ st.2 λo e=>sb.extBut _ o hne e⟩ sb
 done:=λs Q E st hE=>D.fin prog w A E vs.length s Q hh st.1 st.2 (j_ (ym _)) hE
section
variable {P:Program} {w:World} {K:xw} {e it a:Addr} {b:Bool}
def ESt (b:Bool)(e it a:Addr)(i:Nat)(h:Heap):Prop:=(∃old,IsEnum h e it i old)/\Tn2 b it a i h
def TB (hei:e≠it)(hea:a≠e)(hia:a≠it):Turn P w K (.Tuple elts kk pp) (Ite K b a) [e,it] e (ESt b e it a) where
 mem:=by simp
 obj:=λi h st c hc=>by
  obtain⟨⟨old,s1⟩,s2⟩:=st;simp only[xX,y9,zh] at hc;rcases hc with z|z<;>subst z
  .exact⟨_,s1,λv=>by simp⟩
  .exact(uV b _ a []).ob _ _ s2
 keep:=λi h h' st k=>by obtain⟨⟨old,s1⟩,s2⟩:=st;exact⟨⟨old,k _ (by simp) _ s1⟩,(uV b it a []).mv _ _ _ s2 λo e=>k _ (by simp) o e⟩
 item:=by
  intro X hP hw hK hc i xf s σ H E I hf st hg;subst hP hw hK;obtain⟨⟨old,s1⟩,s2⟩:=st;obtain⟨xs,x,sq1,hx⟩:=hg;obtain⟨vs,rv,c1⟩:=I.sq2 sq1;obtain⟨xv,ex,rx⟩:=rv.get hx;have hi:i<vs.length:=(y8.mp ex).1;have fr:H s.heap.objs.size=none:=I.hok.fresh (ym _);have D:=LO (prog:=X.prog) (w:=X.w) (A:=X.A.in1) (uV b it a vs) hia (show X.A.in1.handled=none from I.ok.hd hc);refine wpAny_pyNext_enum_itemD D s1 ⟨s2,c1⟩ hi hei (by simp[hei,zY hea]) λxv' g tk hP ho st' hT hsz kp=>⟨_,rfl,?_⟩
  rw[ex] at hP;cases hP;refine wpAny_letOwnedTupleGo_enum ho λg2 he2 S2=>?_;have lte:e<s.heap.objs.size:=yK s1;have kp2:∀c o,c∉[e,it]->s.heap.get? c=some o->g2.get? c=some o:=λc o hc e=>by simp only[xX,y9,zh,not_or] at hc;exact S2.extBut _ _ hc.1 (kp c o hc.1 hc.2 e)
  have T2:=S2.extBut _ _ (fg lte) hT;have st2:ESt b e it a (i+1) g2:=⟨⟨_,by simpa using he2⟩,(uV b it a vs).mv _ _ _ st'.1 λo q=>S2.extBut _ o (zY hei) q⟩
  have nfp:∀c u,H c=some u->c∉[e,it]:=λc u q hm=>by rw[(hf c hm).1] at q;cases q
  have nT:∀c o,s.heap.get? c=some o->c≠s.heap.objs.size:=λc o e=>we (yK e);refine⟨.ref s.heap.objs.size,upd H s.heap.objs.size (.tup [.int i,x]),?_,rfl,⟨x,_,λxs' h'=>by rw[<-I.sq2_inj sq1 h'];exact hx,rfl,fr,rfl⟩,st2,λc hm=>?_⟩
  .show Inv X xf σ (upd H s.heap.objs.size (.tup [.int i,x])) {s with heap:=g2,gens:=s.gens,drawn:=s.drawn,toks:=tk+1};refine Inv.step (s:=s) (g':=s.gens) (d':=s.drawn) (t':=tk+1) (ch:=[e,it]) I (λc hm=>?_) (λc o _ _ hm e _=>kp2 c o hm e) (λc o _ _ hm e _=>⟨o.slots,kp2 c o hm e⟩) (λc o hm e n=>by rw[yx (nT c o e)];exact n) (λc o hm e=>⟨o,kp2 c o hm e⟩)
    (λc zs e=>by rw[yx (zP e fr)];exact e) (λc o u e=>by rw[yx (zP e fr)];exact e) (λc ps e=>⟨#[],by rw[yx (zP e fr),e];simp⟩) (λm hm=>?_) (λc u e=>?_) I.bare
   .obtain⟨_,f1,_,f3,f4,f5⟩:=hf c hm;exact⟨f3,f1,f4,f5⟩
   .obtain⟨o,es,ep,ho,r⟩:=hm;exact⟨o,es,ep,kp2 _ o (λz'=>(hf _ z').2.1 rfl) ho,r⟩
   .by_cases hc':c=s.heap.objs.size
    .subst hc';rw[zp] at e;cases e;exact⟨by show 2<=sizeLine;decide,[.int i tk,xv],.cons ⟨_,rfl⟩ (.cons rx .nil),_,T2,rfl,0,rfl⟩
    .rw[yx hc'] at e;refine(I.hok c u e).stay (λc' v hcc q'=>kp2 c' v ?_ q') (λc' q'=>by rw[yx (zP q' fr)];exact q') (λc' zs q'=>by rw[yx (zP q' fr)];exact q') λc' o u q'=>by rw[yx (zP q' fr)];exact q'
     rcases hcc with rfl|hcc
     .exact nfp _ _ e
     .exact nfp _ _ hcc
  .rw[yx]
   .exact(hf c hm).1
   .simp only[xX,y9,zh] at hm;rcases hm with z|z<;>subst z
    .exact nT _ _ s1
    .obtain⟨o,e,_⟩:=(uV b _ a []).ob _ _ s2;exact nT _ _ e
 done:=by
  intro X hP hw hK hc i xf s σ H E I hf st hg;subst hP hw hK;obtain⟨⟨old,s1⟩,s2⟩:=st;obtain⟨xs,sq1,hend⟩:=hg;obtain⟨vs,rv,c1⟩:=I.sq2 sq1;have hT:s.TypeIs (.ref e) "enumerate" := ⟨_,s1,rfl⟩
  unfold pyNext;refine xj (aY (jC (name:=Str.ofString "__next__") hT F.slot_enumerate_next (qb F.slot_enumerate_next hT F.entry_enumerate_next ?_ (F.args_enumerate_next_1 _))));show wpAny _ _ (field (.ref e) 2>>=_) _ _ _;refine xj (vL s1 rfl (x:=.ref it) rfl ?_);refine xj ((uV b it a vs).fin _ _ _ _ i s _ (I.ok.hd hc) s2 c1 (j_ (by rw[<-rv.length];exact hend)) λg x kp hx'=>?_);obtain⟨o,ho,hcl⟩:=hx';refine xj (Cp (T := "StopIteration") (b:=true) ⟨o,ho,hcl⟩ Ck (xO ⟨rfl,?_⟩));have kp2:∀c o,c∉[e,it]->s.heap.get? c=some o->g.get? c=some o:=λc o hc q=>by simp only[xX,y9,zh,not_or] at hc;exact kp c o hc.2 q
  have nfp:∀c u,H c=some u->c∉[e,it]:=λc u q hm=>by rw[(hf c hm).1] at q;cases q
  refine Inv.step (s:=s) (g':=s.gens) (d':=s.drawn) (t':=s.toks) (ch:=[e,it]) I (λc hm=>?_) (λc o _ _ hm e _=>kp2 c o hm e) (λc o _ _ hm e _=>⟨o.slots,kp2 c o hm e⟩) (λc o hm e n=>n) (λc o hm e=>⟨o,kp2 c o hm e⟩)
   (λc zs e=>e) (λc o u e=>e) (λc ps e=>⟨#[],by rw[e];simp⟩) (λm hm=>?_) (λc u e=>?_) I.bare
  .obtain⟨_,f1,_,f3,f4,f5⟩:=hf c hm;exact⟨f3,f1,f4,f5⟩
  .obtain⟨o,es,ep,ho,r⟩:=hm;exact⟨o,es,ep,kp2 _ o (λz'=>(hf _ z').2.1 rfl) ho,r⟩
  .refine(I.hok c u e).stay (λc' v hcc q'=>kp2 c' v ?_ q') (λ_ q'=>q') (λ_ _ q'=>q') λ_ _ _ q'=>q';rcases hcc with rfl|hcc
   .exact nfp _ _ e
   .exact nfp _ _ hcc
 self:=λA i s Q E st h=>by obtain⟨⟨old,s1⟩,_⟩:=st;exact wpAny_pyIter_enum s1 h
end
open AutoSeq1 (wpAny_loadPart') in
def Nv (l:Addr)(items:Array Value)(n:Nat)(dct:Option Addr)(sl:Array (Option Value)) :
  Meets (Builtin.«enumerate.__new__» ⟨[.type "enumerate", .ref l],[]⟩) (λ_ R s=>s.heap.get? l=some {cls:=.type "tuple", dict:=dct,data:=.seq items n,slots:=sl}/\R (.ok (.ret (.ref (s.heap.push {cls:=.type "tuple_iterator", data:=.fields #[.ref l,.int 0 0]}).objs.size))) {s with heap:=(s.heap.push {cls:=.type "tuple_iterator", data:=.fields #[.ref l,.int 0 0]}).push {cls:=.type "enumerate", data:=.fields #[.none,.bool false,.ref s.heap.objs.size,rawInt 0,.none,.none]} }):=
 .of_wp λprog w A R s h=>by
  obtain⟨hp,g,d,tk,os⟩:=s;obtain⟨hl,h⟩:=h;have hsub:=sub_enumerate;have hL:Heap.IsTuple (Shared.heap ⟨hp,g,d,tk,os⟩) l items:=⟨_,hl,rfl,n,rfl⟩
  wp_walk using ko hl
  refine wpAny_stack_any λst=>xO ?_;split
  .rename_i c _ _ _ _ _;cases (c==Value.type "enumerate")
   .wp_walk using ko hl,pL hL
    exact⟨_,rfl,h⟩
   .wp_walk using ko hl,pL hL
    exact⟨_,rfl,h⟩
  .wp_walk using ko hl,pL hL
   exact⟨_,rfl,h⟩
section
variable {prog:Program} {w:World} {A:Around} {E:Value->Shared->Prop} {s:Shared}
def K7 (hL:s.heap.IsTuple l items)
  (h:∀h',IsEnum h' (s.heap.objs.size+1) s.heap.objs.size 0 .none->h'.IsTupleIter s.heap.objs.size l 0->h'.objs.size=s.heap.objs.size+2->(∀b o,s.heap.get? b=some o->h'.get? b=some o)->Q (.ref (s.heap.objs.size+1)) {s with heap:=h' }) :
  wpAny (model prog w) A (call (.type "enumerate") [.ref l]) Q E s:=by
 obtain⟨⟨c,dct,dt,sl⟩,hl,hc,n,hd⟩:=hL
 replace hc:c=.type "tuple" := hc
 replace hd:dt=.seq items n:=hd
 subst hc hd;refine callType_new F.called_enumerate (by decide) (F.typeCall_enumerate_1 _) (F.newCall_enumerate_1 _) (λobj=>F.args_object_init_2 obj _) F.entry_enumerate_new
  (Nv l items n dct sl) ⟨hl,?_⟩
 have hz:(s.heap.push {cls:=.type "tuple_iterator", data:=.fields #[.ref l,.int 0 0]}).objs.size=s.heap.objs.size+1:=aE ..;show _/\_;rw[hz];have he:IsEnum ((s.heap.push {cls:=.type "tuple_iterator", data:=.fields #[.ref l,.int 0 0]}).push {cls:=.type "enumerate", data:=.fields #[.none,.bool false,.ref s.heap.objs.size,rawInt 0,.none,.none]}) (s.heap.objs.size+1) s.heap.objs.size 0 .none:=by
  have:=wJ (s.heap.push {cls:=.type "tuple_iterator", data:=.fields #[.ref l,.int 0 0]})
   (o:={cls:=.type "enumerate", data:=.fields #[.none,.bool false,.ref s.heap.objs.size,rawInt 0,.none,.none]}) rfl
  rw[hz] at this;exact this
 refine⟨⟨_,he,rfl⟩,h _ he ⟨_,yZ _ (wJ _ rfl),rfl,rfl⟩ (by rw[aE,hz]) λb o x=>yZ _ (yZ _ x)⟩
end
def K2:bootBuiltins "enumerate" = some (.type "enumerate"):=by decide +kernel
def FU (K:xw)(ta:TA):TI:=λσ H R=>ta σ H λvs H1=>∃(b:Bool) (a:Addr) (xs:List V),vs=[.ref a]/\Sq2 K b H1 a xs/\R (Ite K b a) H1
section
variable {X:Cx}
theorem eo (K:xw)(hg:Gl X "enumerate")(hm:X.mg "enumerate" = none)(ha:PA X [a] ta)(hs:starEach [a] X.env=[(false,eval a X.env)]:=by rfl)(eK:X.K=K:=by rfl) :
  PI X (.Tuple elts kk pp) (.Call (.Name "enumerate" p) [a] [] pos) (FU K ta):=by
 subst eK;intro xf s σ H R I h;refine Call_ (sG I hg hm K2 (Cj (yp (@ha pos xf s σ H _ I h) λus s1 ⟨vs,H1,I1,r1,q1⟩=>?_) (by rw[hs];rfl) (by rfl)));obtain⟨bb,a1,xs,e,sq1,q⟩:=q1;subst e;obtain⟨u1,rfl,ru⟩:=vals1 r1;obtain rfl:u1=Value.ref a1:=ru;obtain⟨vs,rv,c1⟩:=I1.sq2 sq1;have mk:∀g,ESt bb (s1.heap.objs.size+1) s1.heap.objs.size a1 0 g->a1<s1.heap.objs.size->(∀c o,s1.heap.get? c=some o->g.get? c=some o)->
   wpAny (model X.prog X.w) X.A (pyIter (.ref (s1.heap.objs.size+1))) (PIE X xf σ (.Tuple elts kk pp) R) X.xe {s1 with heap:=g}:=λg st la kp=>by
  obtain⟨⟨old,he⟩,st2⟩:=st;refine wpAny_pyIter_enum he ⟨_,[s1.heap.objs.size+1,s1.heap.objs.size],ESt bb (s1.heap.objs.size+1) s1.heap.objs.size a1,_,H1,rfl,I1.kept (t':=s1.toks) kp,TB (Nat.succ_ne_self _) (we (aS la)) (we la),⟨⟨old,he⟩,st2⟩,λb hb=>?_,q⟩
  simp only[xX,y9,zh] at hb;rcases hb with rfl|rfl
  .exact I1.fpOk (mE _) (I1.hok.fresh (mE _))
  .exact I1.fpOk (ym _) (I1.hok.fresh (ym _))
 cases bb with
 |true=>have c1:s1.heap.IsTuple a1 vs.toArray:=c1;refine K7 c1 ?_;intro g z1 z2 _ kp;refine mk g ⟨⟨_,z1⟩,z2⟩ ?_ kp;obtain⟨o,e,_⟩:=c1;exact yK e
 |false=>have c1:s1.heap.IsList a1 vs.toArray:=c1;refine call_enumerate_list c1 ?_;intro g z1 z2 _ kp;refine mk g ⟨⟨_,z1⟩,z2⟩ ?_ kp;obtain⟨o,e,_⟩:=c1;exact yK e
end
def d_:Nat->List Tr->List Tr
 |_,[]=>[]
 |k,t::ts=>.tup [.int k,t]::d_ (k+1) ts
def vj (ts:List Tr):List Tr:=d_ 0 ts
theorem fF:∀(k:Nat) (ts:List Tr),(d_ k ts).length=ts.length
 |_,[]=>rfl
 |k,_::ts=>by show(d_ (k+1) ts).length+1=_;rw[fF];rfl
theorem nK:∀ {k:Nat} {ts:List Tr} {i:Nat} {t:Tr},ts[i]?=some t->(d_ k ts)[i]?=some (.tup [.int ((k+i:Nat):Int),t])
 |_,[],_,_,h=>by simp at h
 |k,x::ts,0,t,h=>by simp at h;subst h;rfl
 |k,x::ts,i+1,t,h=>by show(d_ (k+1) ts)[i]?=_;rw[nK (k:=k+1) (ts:=ts) (i:=i) (by simpa using h)];rw[show k+1+i=k+(i+1) by lia]
section
variable {K:xw}
def MS:ItL (Ite K false a) (vj ts) [(.lst ts,.ref a)] where
 go:=λF H i s hi=>by obtain⟨a',ws,e,n,h,r⟩:=s _ xU;cases e;rw[show(vj ts).length=ts.length from fF 0 ts] at hi;obtain⟨w,e1,_⟩:=r.getT (yC hi);exact⟨ws,w,yw.of h,e1⟩
 stop:=λF H s=>by obtain⟨a',ws,e,n,h,r⟩:=s _ xU;cases e;exact⟨ws,yw.of h,by rw[show(vj ts).length=ts.length from fF 0 ts,<-r.len];exact ym _⟩
 yld:=λF i H x H' s d hi y=>by obtain⟨a',ws,e,n,h,r⟩:=s _ xU;cases e;obtain⟨v,q,hv,rfl,hq,rfl⟩:=y;obtain⟨t,e1,e2⟩:=r.get (hv ws (yw.of h));refine⟨.inr ⟨q,_,hq,rfl⟩,.tup [.int i,t],?_,q,_,rfl,λz=>d q z hq,zp,⟨_,_,rfl,rfl,_,_,rfl,bR hq e2,rfl⟩⟩;have:=nK (k:=0) e1;rw[Nat.zero_add] at this;exact this
def MT:ItL (Ite K true a) (vj ts) [(.tup ts,.ref a)] where
 go:=λF H i s hi=>by obtain⟨a',ws,e,n,h,r⟩:=s _ xU;cases e;rw[show(vj ts).length=ts.length from fF 0 ts] at hi;obtain⟨w,e1,_⟩:=r.getT (yC hi);exact⟨ws,w,yM.of h,e1⟩
 stop:=λF H s=>by obtain⟨a',ws,e,n,h,r⟩:=s _ xU;cases e;exact⟨ws,yM.of h,by rw[show(vj ts).length=ts.length from fF 0 ts,<-r.len];exact ym _⟩
 yld:=λF i H x H' s d hi y=>by obtain⟨a',ws,e,n,h,r⟩:=s _ xU;cases e;obtain⟨v,q,hv,rfl,hq,rfl⟩:=y;obtain⟨t,e1,e2⟩:=r.get (hv ws (yM.of h));refine⟨.inr ⟨q,_,hq,rfl⟩,.tup [.int i,t],?_,q,_,rfl,λz=>d q z hq,zp,⟨_,_,rfl,rfl,_,_,rfl,bR hq e2,rfl⟩⟩;have:=nK (k:=0) e1;rw[Nat.zero_add] at this;exact this
def MF (d:DA):DI:=λτ KK=>d τ λxs=>match xs with|[.tup ts]=>KK (vj ts)|[.lst ts]=>KK (vj ts)|_=>False
def iV (h:OkA K b n ta da):OkI K b (FU K ta) (MF da):=λB φ σ τ H R KK Rs hd q=>
 h B φ σ τ H _ _ Rs hd λts vs H1 x1 k1 l1 r1=>by
  split at k1
  .rename_i us;obtain⟨v,rfl,r⟩:=qr r1;obtain⟨a,ws,e,n,ha,rl⟩:=id r;subst e;exact⟨true,a,ws,rfl,yM.of ha,q _ _ _ H1 x1 k1 MT λp hp=>by cases zF.mp hp;exact r⟩
  .rename_i us;obtain⟨v,rfl,r⟩:=qr r1;obtain⟨a,ws,e,n,ha,rl⟩:=id r;subst e;exact⟨false,a,ws,rfl,yw.of ha,q _ _ _ H1 x1 k1 MS λp hp=>by cases zF.mp hp;exact r⟩
  .exact k1.elim
end
end L2
namespace L2
open PySem PySem.Spec PyProof.Rows
def HK (K:xw):R2:=λx y H Q=>∃a b xs ys,x=.ref a/\y=.ref b/\yM K H a xs/\yM K H b ys/\xs.length+ys.length<=sizeLine/\
 (xs=[]->Q (.ref b) H)/\(xs≠[]->ys=[]->Q (.ref a) H)/\(xs≠[]->ys≠[]->∀p,H p=none->Q (.ref p) (upd H p (.tup (xs++ys))))
section
variable {X:Cx}
def PF:zy X (binaryOp .Add) (HK X.K):=by
 intro xf s σ H x y v u Q I rx ry h;obtain⟨a,b,xs,ys,rfl,rfl,ha,hb,hz,q0,q1,q2⟩:=h;by_cases hx:xs=[]
 .cases rx;cases ry;obtain⟨xm,r1,p1,_⟩:=I.tuple ha;obtain⟨its2,r2,p2,_⟩:=I.tuple hb;obtain⟨⟨cls,dd,data,sl⟩,ho,hc,n,hd⟩:=id p1;obtain⟨⟨cls2,dd2,data2,sl2⟩,ho2,hc2,n2,hd2⟩:=id p2;simp only at hc hd hc2 hd2;subst hc hd hc2 hd2;have hv:xm=[]:=r1.nil_iff.mpr hx;exact concat_meets ⟨_,ho,rfl⟩ ⟨_,ho2,rfl⟩ Kn seq_tuple_add Kl Kk (Kj _ _)
   (tuple_addW0 a b xm.toArray its2.toArray n n2 dd dd2 sl sl2 (by simp[hv])) ⟨ho,ho2,⟨.ref b,H,I,rfl,q0 hx⟩⟩
 .exact PH xf s σ H _ _ _ _ Q I rx ry ⟨a,b,xs,ys,rfl,rfl,ha,hb,hx,hz,q1 hx,q2 hx⟩
def H_ (K:xw):R2:=λx y H Q=>∃a k xs,x=.ref a/\y=.int k/\yM K H a xs/\xs≠[]/\2<=k/\k<2^63/\xs.length*k.toNat<=sizeLine/\∀p,H p=none->Q (.ref p) (upd H p (.tup (List.replicate k.toNat xs).flatten))
end
def NK:fillsNumberSlot (.type "tuple") "mul" = pure false:=PySem.fillsNumberSlot_seq (id := "tuple.__mul__") (r:=some (.builtin "tuple.__rmul__")) JU.lookup (by decide +kernel) F.slot_tuple_rmul.lookup (by decide +kernel)
def RG:seqRepeat? (.type "tuple")=pure (some (.builtin "tuple.__mul__")):=by unfold seqRepeat?;rw[PySem.seqSlot_of (T := "tuple") (name := "__mul__") (id := "tuple.__mul__") JU.lookup (by decide +kernel),PySem.seqSlot_of (T := "tuple") (name := "__rmul__") (id := "tuple.__rmul__") F.slot_tuple_rmul.lookup (by decide +kernel)];rfl
open AutoSeq1 (wpAny_loadPart') in
def ML (a:Int)(t:Tok)(l:Addr)(items:Array Value)(n:Nat)(dd:Option Addr)(sl:Array (Option Value)) :
  Meets (Builtin.«int.__rmul__» ⟨[.int a t,.ref l],[]⟩) (λ_ R s=>s.heap.get? l=some {cls:=.type "tuple", dict:=dd,data:=.seq items n,slots:=sl}/\R (.ok (.ret Value.notImplemented)) s):=
 .of_wp λprog w A R s h=>by obtain⟨hp,g,d,tk,os⟩:=s;obtain⟨hl,h⟩:=h;wp_walk using ko hl;exact⟨_,rfl,h⟩
open AutoSeq1 (wpAny_loadPart') in
def Tz (l:Addr)(items:Array Value)(n:Nat)(dd:Option Addr)(sl:Array (Option Value))(x:Int)(u:Tok)(h0:¬items.isEmpty=true)(h1:2<=x)(h2:x<2^63)(h3:items.size*x.toNat<=sizeLine) :
  Meets (Builtin.«tuple.__mul__» ⟨[.ref l,.int x u],[]⟩) (λ_ R s=>s.heap.get? l=some {cls:=.type "tuple", dict:=dd,data:=.seq items n,slots:=sl}/\R (.ok (.ret (.ref s.heap.objs.size))) {s with heap:=s.heap.push {cls:=.type "tuple", data:=.seq ((List.replicate x.toNat items).foldl (·++·) #[])} }):=
 .of_wp λprog w A R s h=>by
  obtain⟨hp,g,d,tk,os⟩:=s;obtain⟨hl,h⟩:=h;have f1:=AutoSeq1.idx_int;have c1:¬(decide (x < -(2^63))||decide (x>=2^63))=true:=by simp;lia
  have c2:¬(items.isEmpty||x==1)=true:=by simp;constructor;simpa using h0;lia
  have c3:¬(decide (x<=0)||items.isEmpty)=true:=by simp;constructor;lia;simpa using h0
  wp_walk using ko hl
  rw[xG c1]
  wp_walk using ko hl
  rw[xG c2];show wpAny _ _ (if (decide (x<=0)||items.isEmpty)=true then _ else _) _ _ _;rw[xG c3];have c4:¬((items.size:Int)*x>(2^63-1)/8):=by
   have e:(items.size:Int)*x=((items.size*x.toNat:Nat):Int):=by rw[Int.natCast_mul,J7 (by lia)]
   rw[e];have:items.size*x.toNat<=16777216:=h3;lia
  show wpAny _ _ (if (items.size:Int)*x>(2^63-1)/8 then _ else _) _ _ _;rw[xG c4];have c5:¬Builtin.Tuple.tupleTooMany ((items.size:Int)*x)=true:=by
   unfold Builtin.Tuple.tupleTooMany;have e:(items.size:Int)*x=((items.size*x.toNat:Nat):Int):=by rw[Int.natCast_mul,J7 (by lia)]
   rw[e];intro z;have z':=yU z;have:(sizeLine:Int)<((items.size*x.toNat:Nat):Int):=z';have h4:((items.size*x.toNat:Nat):Int)<=(sizeLine:Int):=Int.ofNat_le.mpr h3;exact absurd this (aH.mpr h4)
  show wpAny _ _ (if Builtin.Tuple.tupleTooMany ((items.size:Int)*x)=true then _ else _) _ _ _;rw[xG c5];have hsz:(List.foldl (λx1 x2=>x1++x2) #[] (List.replicate x.toNat items)).size<=sizeLine:=by
   have f0:=foldl_rep items.toList x.toNat [];rw[qC] at f0;have f1:List.foldl (λx1 x2=>x1++x2) #[] (List.replicate x.toNat items)=(List.replicate x.toNat items.toList).flatten.toArray:=by simpa using f0
   rw[f1,wo,len_rep,Nat.mul_comm,aC];exact h3
  exact xj (m:=Builtin.Tuple.tupleExact _) (vM (xO ⟨_,rfl,h⟩) hsz)
section
variable {X:Cx}
def PK:zy X (binaryOp .Mult) (H_ X.K):=by
 intro xf s σ H x y v u Q I rx ry h;obtain⟨a,k,xs,rfl,rfl,ha,hx,h1,h2,hz,q⟩:=h;cases rx;obtain⟨t,rfl⟩:=ry;obtain⟨xm,r,p1,_⟩:=I.tuple ha;obtain⟨⟨cls,dd,data,sl⟩,ho,hc,n,hd⟩:=id p1;simp only at hc hd;subst hc hd;have hlen:=r.length;have hne:¬xm.toArray.isEmpty=true:=by
  intro z;have:xm=[]:=by simpa using z
  exact hx (r.nil_iff.mp this)
 refine wpAny_binaryOp_repeat_ref (T := "tuple") (U := "int") (by decide) ⟨_,ho,rfl⟩ (λs'=>pJ s' k t) NK F.fills_int_mul BI RG F.slot_int_index.lookup
  (aV BI (pJ s k t) F.entry_int_rmul (F.args_int_rmul_2 _ _) (ML k t a xm.toArray n dd sl) ⟨ho,rfl,⟨_,ho,rfl⟩,aV JU ⟨_,ho,rfl⟩ F.entry_tuple_mul (F.args_tuple_mul_2 _ _) (Tz a xm.toArray n dd sl k t hne h1 h2 (by rw[wo,<-hlen];exact hz)) ⟨ho,?_⟩⟩)
 have hnew:List.foldl (λx1 x2=>x1++x2) #[] (List.replicate k.toNat xm.toArray)=(List.replicate k.toNat xm).flatten.toArray:=by have:=foldl_rep xm k.toNat [];rw[qC] at this;exact this
 rw[hnew];refine⟨.ref s.heap.objs.size,_,I.laid (t':=s.toks) (o:=.tup (List.replicate k.toNat xs).flatten) (λb ob q=>yZ _ q) (ym _) ?_,rfl,q _ (I.hok.fresh (ym _))⟩;exact⟨by rw[len_rep,Nat.mul_comm];exact hz,_,r.rep k.toNat,mh _ _⟩
def HI (K:xw):R2:=λx y H Q=>(rI0 λi j=>.int (i+j)) x y H Q\/eE x y H Q\/HK K x y H Q
def sY (K:xw)(e:X.K=K:=by rfl):zy X (binaryOp .Add) (HI K):=by subst e;exact ux.or (fQ.or PF)
def HZ (K:xw):R2:=λx y H Q=>(rI CM λi j=>.int (i*j)) x y H Q\/eI x y H Q\/H_ K x y H Q
def jV (K:xw)(e:X.K=K:=by rfl):zy X (binaryOp .Mult) (HZ K):=by subst e;exact yq.or (i0.or PK)
def HW (K:xw):R2:=λx y H Q=>(rI0 λi j=>.bl (decide (i<j))) x y H Q\/HY K x y H Q
def qR (K:xw)(hu:X.A.units+64<cLine)(e:X.K=K:=by rfl):zy X (compareOp .Lt) (HW K):=by subst e;exact He.or (PJ (kZ (Cb _ _) hu))
end
section
variable {prog:Program} {w:World} {A:Around} {E:Value->Shared->Prop} {s:Shared}
def Mz {t sl:Addr}{items:Array Value}{vl vu:Value}{lo hi:Option Int}{Q:Value->Shared->Prop}(ht:IsTup s.heap t items)(hs:s.heap.IsSliceOf sl vl vu .none)(pl:IsPart vl lo)(pu:IsPart vu hi)
  (hw:HT.yr items.size 0 lo=0/\HT.yr items.size items.size hi=items.size) (h:Q (.ref t) s):wpAny (model prog w) A (getItem (.ref t) (.ref sl)) Q E s:=by
 obtain⟨os,hos,hcs,hds⟩:=id hs;have hTs:s.TypeIs (.ref sl) "slice" := ⟨os,hos,hcs⟩
 unfold getItem
 try with_reducible refine km ?_
 first|refine xj (xO ?_)|skip
 refine xj (wpAny_sequenceKey ht.typeIs (by decide) ?_);refine xj (jC (name:=Str.ofString "__getitem__") ht.typeIs mH (qb mH ht.typeIs entry_tuple_getitem ?_ (args_tuple_getitem _ _)))
 show wpAny _ _ (Builtin.Tuple.tupleItemsOf (.ref t)>>=_) _ _ s;refine xj (tupleItemsOf_ ht ?_);refine xj (wpAny_typeOf hTs ?_);rw[xJ (by decide)];refine xj (HT.IY hs pl pu ?_);have hyes:(((HT.yr items.size 0 lo:Nat):Int)==0&&(1:Int)==1&&(HT.yr items.size items.size hi-HT.yr items.size 0 lo)==items.size)=true:=by rw[hw.1,hw.2];simp
 show wpAny _ _ (if (((HT.yr items.size 0 lo:Nat):Int)==0&&(1:Int)==1&&(HT.yr items.size items.size hi-HT.yr items.size 0 lo)==items.size)=true then _ else _) _ _ s;rw[xJ hyes];have hex:∀ {Q':Bool->Shared->Prop} {E':Value->Shared->Prop} {A':Around},Q' true s->wpAny (model prog w) A' (Builtin.Tuple.tupleIsExact (.ref t)) Q' E' s:=λ {Q' E' A'} hq=>by
  unfold Builtin.Tuple.tupleIsExact;refine xj (wpAny_typeOf ht.typeIs (xO ?_));have e:(Value.type "tuple" == Value.type "tuple")=true:=by decide
  rw[e];exact hq
 refine xj (hex ?_);rw[xJ rfl];exact xj (dG (xO ⟨_,rfl,xO h⟩))
end
section
variable {X:Cx}
def Ie (K:xw):V->Option Int->Option Int->Hp->VK->Prop:=λx lo hi H Q=>∃a xs,x=.ref a/\yM K H a xs/\
 (qi xs lo hi=xs->Q (.ref a) H)/\∀p,H p=none->Q (.ref p) (upd H p (.tup (qi xs lo hi)))
def S9:SlR X (Ie X.K):=by
 intro xf s σ H x v vl vu lo hi sl Q I rx hs pl pu h;obtain⟨a,xs,rfl,hx,q0,q⟩:=h;by_cases hw:HT.yr xs.length 0 lo=0/\HT.yr xs.length xs.length hi=xs.length
 .cases rx;obtain⟨xm,r,ht,hz⟩:=I.tuple hx;have hlen:xm.toArray.size=xs.length:=by rw[wo];exact r.length.symm
  refine⟨"tuple", _,mH.lookup,ht.typeIs,?_⟩;refine Mz ht hs pl pu (by rw[hlen];exact hw) ⟨.ref a,H,I,rfl,q0 ?_⟩;unfold qi;rw[hw.1,hw.2,pC,Cg,aR]
 .exact S6 xf s σ H _ v vl vu lo hi sl Q I rx hs pl pu ⟨a,xs,rfl,hx,hw,q⟩
def Ic (K:xw):V->Option Int->Option Int->Hp->VK->Prop:=λx lo hi H Q=>tN K x lo hi H Q\/Ie K x lo hi H Q
def cN (K:xw)(e:X.K=K:=by rfl):SlR X (Ic K):=by
 subst e;intro xf s σ H x v vl vu lo hi sl Q I rx hs pl pu h;rcases h with h|h
 .exact IX xf s σ H x v vl vu lo hi sl Q I rx hs pl pu h
 .exact S9 xf s σ H x v vl vu lo hi sl Q I rx hs pl pu h
def HN:V->List V->Hp->VK->Prop:=λx vs H Q=>∃(l:Addr) (xs:List V) (y:V) (k:Nat),x=.ref l/\vs=[.int k,y]/\H l=some (.lst xs)/\xs.length<sizeLine/\k<=xs.length/\Q .non (upd H l (.lst (xs.take k++[y]++xs.drop k)))
def MK (I:Inv X xf σ H s)(hH:H l=some (.lst xs))(hz:xs.length<sizeLine)(ki:Int)(k:Nat)(t1:Tok)(hk1:0<=ki)(hk3:ki<=(xs.length:Int))(hkt:ki.toNat=k)
  (ru:RelV y u2) (q:Q .non (upd H l (.lst (xs.take k++[y]++xs.drop k)))):wpAny (model X.prog X.w) X.A (call (.builtin "list.insert") [.ref l,.int ki t1,u2]) (EP X xf σ Q) X.xe s:=by
 obtain⟨z,xm,n,r,hl,e⟩:=I.lstM hH;have hk2:ki<2^63:=by have:xs.length<=16777216:=z;lia
 have hfit:¬(!Builtin.List.listFitsIndex ki)=true:=by rw[fitsIndex_both (by lia) hk2];exact uG
 have hsz:xm.toArray.size<=sizeLine:=by rw[wo];lia
 have hk':k<=xm.length:=by lia
 refine aV F.slot_list_insert ⟨_,e,rfl⟩ F.entry_list_insert (F.args_list_insert_3 _ _ _) (AutoSeq1.list_insert_list_int_val_1 l xm.toArray n ki t1 u2 hfit hsz) ⟨e,?_⟩;refine⟨.non,_,I.lset (its':=xm.take k++[u2]++xm.drop k) hH e ?_ ((yn.append (r.take k) (.cons ru .nil)).append (r.drop k)) ?_,rfl,q⟩
 .have e1:(if ki<0 then(ki+(xm.toArray.size:Int)).toNat else min ki.toNat xm.toArray.size)=k:=by rw[xG (by lia),hkt,wo,Nat.min_eq_left hk']
  show((xm.toArray.extract 0 (if ki<0 then(ki+(xm.toArray.size:Int)).toNat else min ki.toNat xm.toArray.size)).push u2++xm.toArray.extract (if ki<0 then(ki+(xm.toArray.size:Int)).toNat else min ki.toNat xm.toArray.size))=_;rw[e1];apply Array.toList_inj.mp;simp;exact uS (by rw[v_];exact ym _)
 .simp only[ze,uQ,v_,g_];lia
def NC:MtM X "list.insert" HN:=by intro xf s σ H x vs v us Q I rx rv h;obtain⟨l,xs,y,k,rfl,rfl,hH,hz,hk,q⟩:=h;cases rx;obtain⟨u1,u2,rfl,⟨t1,rfl⟩,ru⟩:=vals2 rv;have hk1:(0:Int)<=(k:Int):=BR k;have hk3:(k:Int)<=(xs.length:Int):=Int.ofNat_le.mpr hk;have hkt:(k:Int).toNat=k:=jx k;generalize (k:Int)=ki at hk1 hk3 hkt ⊢;exact MK I hH hz ki k t1 hk1 hk3 hkt ru q
end
section
variable {K:xw} {fr:Bool}
def rN (x y:Tr)(KK:Tr->Prop):Prop:=match x,y with
 |.int i,.int j=>KK (.int (i+j))
 |.lst ts,.lst us=>ts.length+us.length<=sizeLine/\KK (.lst (ts++us))
 |.tup ts,.tup us=>ts.length+us.length<=sizeLine/\KK (.tup (ts++us))
 |_,_=>False
def sU (ha:yf K b ta da)(hb:yf K b tb db):yf K b (tOp (HI K) ta tb) (d2 rN da db):=λB φ σ τ H Q KK R hd q=>
 ha B φ σ τ H _ _ R hd λt v H1 x1 k1 r1=>hb B φ σ τ H1 _ _ (R.hx x1) k1 λu w H2 x2 k2 r2=>by
  have r1':=x2.rep (λa s=>R.sB s) r1;have x:=x1.trans x2
  replace k2:rN t u KK:=k2
  unfold rN at k2;split at k2
  .rename_i i j;cases (show v=.int i from r1');cases (show w=.int j from r2);exact .inl ⟨i,j,rfl,rfl,q _ _ H2 x k2 rfl⟩
  .rename_i ts us;obtain⟨a,ws,e,n,ha',rl⟩:=r1';obtain⟨a2,ws2,e2,n2,ha2,rl2⟩:=r2;exact .inr (.inl ⟨a,a2,ws,ws2,e,e2,ha',ha2,by rw[<-rl.len,<-rl2.len];exact k2.1,λp hp=>q _ _ _ (x.trans (HX.new (R.hx x) hp _)) k2.2 ⟨p,_,rfl,λz=>(R.hx x).domB z hp,zp,kW hp (rl.app rl2)⟩⟩)
  .rename_i ts us;obtain⟨a,ws,e,n,ha',rl⟩:=id r1';obtain⟨a2,ws2,e2,n2,ha2,rl2⟩:=id r2;refine .inr (.inr ⟨a,a2,ws,ws2,e,e2,yM.of ha',yM.of ha2,by rw[<-rl.len,<-rl2.len];exact k2.1,λz=>?_,λ_ z=>?_,λ_ _ p hp=>q _ _ _ (x.trans (HX.new (R.hx x) hp _)) k2.2 ⟨p,_,rfl,λz=>(R.hx x).domB z hp,zp,kW hp (rl.app rl2)⟩⟩)
   .have e0:ts=[]:=by have:=rl.len;rw[z] at this;exact mw.mp this
    subst e0;rw[<-e2];exact q _ _ H2 x k2.2 (by rw[qC];exact r2)
   .have e0:us=[]:=by have:=rl2.len;rw[z] at this;exact mw.mp this
    subst e0;rw[<-e];exact q _ _ H2 x k2.2 (by rw[uH];exact r1')
  .exact k2.elim
def rP (x y:Tr)(KK:Tr->Prop):Prop:=match x,y with
 |.int i,.int j=>CM i j/\KK (.int (i*j))
 |.lst ts,.int k=>(0<=k/\k<2^63)/\ts.length*k.toNat<=sizeLine/\KK (.lst (List.replicate k.toNat ts).flatten)
 |.tup ts,.int k=>ts≠[]/\(2<=k/\k<2^63)/\ts.length*k.toNat<=sizeLine/\KK (.tup (List.replicate k.toNat ts).flatten)
 |_,_=>False
def jU (ha:yf K b ta da)(hb:yf K b tb db):yf K b (tOp (HZ K) ta tb) (d2 rP da db):=λB φ σ τ H Q KK R hd q=>
 ha B φ σ τ H _ _ R hd λt v H1 x1 k1 r1=>hb B φ σ τ H1 _ _ (R.hx x1) k1 λu w H2 x2 k2 r2=>by
  have r1':=x2.rep (λa s=>R.sB s) r1;have x:=x1.trans x2
  replace k2:rP t u KK:=k2
  unfold rP at k2;split at k2
  .rename_i i j;cases (show v=.int i from r1');cases (show w=.int j from r2);exact .inl ⟨i,j,rfl,rfl,k2.1,q _ _ H2 x k2.2 rfl⟩
  .rename_i ts k;obtain⟨a,ws,e,n,ha',rl⟩:=r1';exact .inr (.inl ⟨a,k,ws,e,r2,ha',by have:=k2.1.1;lia,k2.1.2,by rw[<-rl.len];exact k2.2.1,λp hp=>q _ _ _ (x.trans (HX.new (R.hx x) hp _)) k2.2.2 ⟨p,_,rfl,λz=>(R.hx x).domB z hp,zp,kW hp (bQ rl _)⟩⟩)
  .rename_i ts k;obtain⟨a,ws,e,n,ha',rl⟩:=r1';refine .inr (.inr ⟨a,k,ws,e,r2,yM.of ha',λz=>k2.1 ?_,k2.2.1.1,k2.2.1.2,by rw[<-rl.len];exact k2.2.2.1,λp hp=>q _ _ _ (x.trans (HX.new (R.hx x) hp _)) k2.2.2.2 ⟨p,_,rfl,λz=>(R.hx x).domB z hp,zp,kW hp (bQ rl _)⟩⟩);have:=rl.len;rw[z] at this;exact mw.mp this
  .exact k2.elim
def Fb (x y:Tr)(KK:Tr->Prop):Prop:=match x,y with
 |.int i,.int j=>KK (.bl (decide (i<j)))
 |x,y=>∃ns ms:List Int,x=.tup (ns.map Tr.int)/\y=.tup (ms.map Tr.int)/\KK (.bl (HT.lexLt ns ms))
def qS:OpS (HW K) Fb:=λF G H x y t u KK Q r1 r2 hf q=>by
 unfold Fb at hf;split at hf
 .rename_i i j;cases (show x=.int i from r1);cases (show y=.int j from r2);exact .inl ⟨i,j,rfl,rfl,q _ _ rfl hf⟩
 .obtain⟨ns,ms,rfl,rfl,k⟩:=hf;obtain⟨a,ws,e,n,ha,rl⟩:=r1;obtain⟨a2,ws2,e2,n2,ha2,rl2⟩:=r2;rw[tP rl] at ha;rw[tP rl2] at ha2;exact .inr ⟨a,a2,ns,ms,e,e2,yM.of ha,yM.of ha2,q _ _ rfl k⟩
def Lv {F:Addr->Prop}{H:Hp}{ts:List Tr}{ws:List V}{lo hi:Option Int}(r:yt F H ts ws)(h:qi ws lo hi=ws):wK ts lo hi=ts:=by
 unfold wK;unfold qi at h;rw[<-r.len] at h;have h1:((ts.drop (HT.yr ts.length 0 lo)).take (HT.yr ts.length ts.length hi-HT.yr ts.length 0 lo)).length=ts.length:=by have:=zg List.length h;rw[uQ,v_] at this ⊢;rw[<-r.len] at this;exact this
 have h2:HT.yr ts.length 0 lo=0\/ts.length=0:=by rw[uQ,v_] at h1;lia
 rcases h2 with h2|h2
 .rw[h2,pC,Cg];rw[h2,uQ,pC,Cg] at h1;exact uS (by lia)
 .have:ts=[]:=mw.mp h2;subst this;simp
def bF {b:Bool}{te:TE}{tl th:TO}{d:DE}{dl dh:DO}(h:yf K b te d)(hl:OkO K tl dl)(hh:OkO K th dh):yf K b (tSl (Ic K) te tl th) (dSl d dl dh):=λB φ σ τ H Q KK R hd q=>
 h B φ σ τ H _ _ R hd λt v H1 x1 k1 r1=>hl B φ σ τ H1 _ _ (R.hx x1) k1 λlo H2 x2 k2=>hh B φ σ τ H2 _ _ (R.hx (x1.trans x2)) k2 λhi H3 x3 k3=>by
  have r3:=(x2.trans x3).rep (λa s=>R.sB s) r1;have x:=(x1.trans x2).trans x3;cases t with
  |lst ts=>obtain⟨a,ws,e,n,ha,rl⟩:=r3;exact .inl ⟨a,ws,e,yw.of ha,λp hp=>q _ _ _ (x.trans (HX.new (R.hx x) hp _)) k3 ⟨p,_,rfl,λz=>(R.hx x).domB z hp,zp,kW hp (rl.cut lo hi)⟩⟩
  |tup ts=>obtain⟨a,ws,e,n,ha,rl⟩:=id r3;refine .inr ⟨a,ws,e,yM.of ha,λz=>?_,λp hp=>q _ _ _ (x.trans (HX.new (R.hx x) hp _)) k3 ⟨p,_,rfl,λz=>(R.hx x).domB z hp,zp,kW hp (rl.cut lo hi)⟩⟩;rw[<-e];exact q _ _ H3 x k3 (by rw[Lv rl z];exact r3)
  |_=>exact k3.elim
def Iy (i:Nat)(dk d:DE):DS:=λG τ=>match yo τ i with
 |.ow ts=>dk τ λk=>d τ λt=>∃n:Nat,k=.int n/\n<=ts.length/\ts.length<sizeLine/\G.nx (τ.set i (.ow (ts.take n++[t]++ts.drop n)))
 |_=>False
def RE (n:Nat)(r:yt F H ts ws):yt F H (ts.take n) (ws.take n):=qt.mpr (ee n (qt.mp r))
def RD (n:Nat)(r:yt F H ts ws):yt F H (ts.drop n) (ws.drop n):=qt.mpr (i9 n (qt.mp r))
theorem Px (hk:yf K b tk dk)(h:yf K true te d):zH K fr (t8 (tBM K "list" HN (uD i) (uC tk (uC te vP)))) (Iy i dk d):=λB φ σ τ H E G R hd e=>by
 have en:=R.ent i;unfold Iy at hd;revert en hd;cases hi:yo τ i with
 |ow ts=>intro hd ⟨a,ws,e1,e2,e3,e4,r⟩;refine⟨_,e1,.inl ⟨rfl,_,yw.of e4⟩,hk B φ σ τ H _ _ R hd λt0 v0 H0 x0 k0 r0=>h B φ σ τ H0 _ _ (R.hx x0) k0 λt v H1 x1 k1 r1=>?_⟩;obtain⟨n,rfl,hn,hz,k1⟩:=k1;cases (show v0=.int n from r0);obtain⟨ws',f4,f5,_⟩:=tI R (x0.trans x1) hi e1;exact⟨a,ws',v,n,rfl,rfl,f4,by rw[<-f5.len];exact hz,by rw[<-f5.len];exact hn,e.nx φ σ _ _ ((R.hx (x0.trans x1)).wrOw hi e1 (((RE n f5).app (show yt _ _ [t] [v] from⟨v,[],rfl,r1,rfl⟩)).app (RD n f5))) k1⟩
 |_=>exact λz _=>z.elim
end
end L2
namespace L2
open PySem PySem.Spec PyProof.Rows
def lj (b:Bool):String:=if b then "tuple_iterator" else "list_iterator"
abbrev za1 (b:Bool)(h:Heap)(a:Addr):Heap:=h.push {cls:=.type (lj b),data:=.fields #[.ref a,.int 0 0]}
abbrev za2 (b c:Bool)(h:Heap)(a d:Addr):Heap:=(za1 b h a).push {cls:=.type (lj c),data:=.fields #[.ref d,.int 0 0]}
abbrev za3 (b c:Bool)(h:Heap)(a d:Addr):Heap:=(za2 b c h a d).push {cls:=.type "tuple", data:=.seq #[.ref h.objs.size,.ref (za1 b h a).objs.size]}
abbrev za4 (b c:Bool)(h:Heap)(a d:Addr):Heap:=(za3 b c h a d).push {cls:=.type "tuple", data:=.seq #[.none,.none]}
abbrev za5 (b c:Bool)(h:Heap)(a d:Addr):Heap:=(za4 b c h a d).push {cls:=.type "zip", data:=.fields #[.none,.bool false,.bool false,.ref (za2 b c h a d).objs.size,.ref (za3 b c h a d).objs.size]}
theorem HH (h:qH b a vs s.heap)(q:Q (.ref s.heap.objs.size) {s with heap:=za1 b s.heap a}):wpAny (model prog w) A (pyIter (.ref a)) Q E s:=by
 cases b with
 |true=>exact pL (show s.heap.IsTuple a vs.toArray from h) q
 |false=>exact Cr (show s.heap.IsList a vs.toArray from h) q
def Te (s:qH b a vs h)(o:Obj):qH b a vs (h.push o):=(uV b 0 a vs).smv _ _ s λo' e=>yZ _ e
def Uc (b c:Bool)(a d:Addr)(xs ys:List Value):Meets (Builtin.«zip.__new__» ⟨[.type "zip", .ref a,.ref d],[]⟩) (λ_ R s=>qH b a xs s.heap/\qH c d ys s.heap/\R (.ok (.ret (.ref (za4 b c s.heap a d).objs.size))) {s with heap:=za5 b c s.heap a d}):=
 .of_wp λprog w A R s h=>by
  obtain⟨hp,g,dd,tk,os⟩:=s;obtain⟨ha,hb,h⟩:=h;have hsub:=sub_zip;have A1:qH b a xs (Shared.heap ⟨hp,g,dd,tk,os⟩):=ha;have B1:qH c d ys (Shared.heap ⟨hp.push {cls:=.type (lj b),data:=.fields #[.ref a,.int 0 0]},g,dd,tk,os⟩):=Te hb _
  wp_walk using HH A1,HH B1
  exact⟨_,rfl,h⟩
section
variable {prog:Program} {w:World} {A:Around} {E:Value->Shared->Prop} {s:Shared}
def Le (ha:qH b a xs s.heap)(hb:qH c d ys s.heap)
  (h:∀g,IsZip g (s.heap.objs.size+4) (s.heap.objs.size+2) (s.heap.objs.size+3) .none->IsPair g (s.heap.objs.size+2) (.ref s.heap.objs.size) (.ref (s.heap.objs.size+1))->IsPair g (s.heap.objs.size+3) .none .none->Tn2 b s.heap.objs.size a 0 g->Tn2 c (s.heap.objs.size+1) d 0 g->(∀c o,s.heap.get? c=some o->g.get? c=some o)->Q (.ref (s.heap.objs.size+4)) {s with heap:=g}) :
  wpAny (model prog w) A (call (.type "zip") [.ref a,.ref d]) Q E s:=by
 refine callType_new F.called_zip (by decide) (F.typeCall_zip_2 _ _) (F.newCall_zip_2 _ _) (λobj=>F.args_object_init_3 obj _ _) F.entry_zip_new (Uc b c a d xs ys) ⟨ha,hb,?_⟩;have n1:(za1 b s.heap a).objs.size=s.heap.objs.size+1:=aE ..;have n2:(za2 b c s.heap a d).objs.size=s.heap.objs.size+2:=by rw[aE,n1]
 have n3:(za3 b c s.heap a d).objs.size=s.heap.objs.size+3:=by rw[aE,n2]
 have n4:(za4 b c s.heap a d).objs.size=s.heap.objs.size+4:=by rw[aE,n3]
 have o5:(za5 b c s.heap a d).get? (za4 b c s.heap a d).objs.size=some _:=wJ _ rfl;have o4:(za5 b c s.heap a d).get? (za3 b c s.heap a d).objs.size=some _:=yZ _ (wJ _ rfl);have o3:(za5 b c s.heap a d).get? (za2 b c s.heap a d).objs.size=some _:=yZ _ (yZ _ (wJ _ rfl));have o2:(za5 b c s.heap a d).get? (za1 b s.heap a).objs.size=some _:=yZ _ (yZ _ (yZ _ (wJ _ rfl)));have o1:(za5 b c s.heap a d).get? s.heap.objs.size=some _:=yZ _ (yZ _ (yZ _ (yZ _ (wJ _ rfl))));show _/\_;rw[n2,n3,n4] at o5;rw[n1,n2] at o3;rw[n3] at o4;rw[n1] at o2;rw[n4];refine⟨⟨_,o5,rfl⟩,h _ o5 o3 o4 ?_ ?_ λc o g=>yZ _ (yZ _ (yZ _ (yZ _ (yZ _ g))))⟩
 .cases b with
  |true=>exact⟨_,o1,rfl,rfl⟩
  |false=>exact⟨_,o1,rfl,rfl⟩
 .cases c with
  |true=>exact⟨_,o2,rfl,rfl⟩
  |false=>exact⟨_,o2,rfl,rfl⟩
end
def pN (K:xw)(b c:Bool)(a1 a2:Addr):It:=
 ⟨λi H=>∃xs ys x y,Sq2 K b H a1 xs/\Sq2 K c H a2 ys/\xs[i]?=some x/\ys[i]?=some y,λi H v H'=>∃x y q,(∀xs,Sq2 K b H a1 xs->xs[i]?=some x)/\(∀ys,Sq2 K c H a2 ys->ys[i]?=some y)/\v=.ref q/\H q=none/\H'=upd H q (.tup [x,y]),λi H=>∃xs ys,Sq2 K b H a1 xs/\Sq2 K c H a2 ys/\(xs.length<=i\/ys.length<=i)⟩
section
variable {P:Program} {w:World} {K:xw} {z ti to i1 i2 a1 a2:Addr} {b c':Bool}
def ZS2 (b c:Bool)(z ti to i1 i2 a1 a2:Addr)(i:Nat)(h:Heap):Prop:=IsZip h z ti to .none/\IsPair h ti (.ref i1) (.ref i2)/\(∃p q,IsPair h to p q)/\Tn2 b i1 a1 i h/\Tn2 c i2 a2 i h
def TJ (D:ZA z ti to i1 i2 a1 a2):Turn P w K (.Tuple elts kk pp) (pN K b c' a1 a2) [z,ti,to,i1,i2] z (ZS2 b c' z ti to i1 i2 a1 a2) where
 mem:=by simp
 obj:=λi h st c hc=>by
  obtain⟨s1,s2,⟨p,q,s3⟩,s4,s5⟩:=st;simp only[xX,y9,zh] at hc;rcases hc with e|e|e|e|e<;>subst e
  .exact⟨_,s1,λv=>by simp⟩
  .exact⟨_,s2,λv=>by simp⟩
  .exact⟨_,s3,λv=>by simp⟩
  .exact(uV b _ a1 []).ob _ _ s4
  .exact(uV c' _ a2 []).ob _ _ s5
 keep:=λi h h' st k=>by obtain⟨s1,s2,⟨p,q,s3⟩,s4,s5⟩:=st;exact⟨k _ (by simp) _ s1,k _ (by simp) _ s2,⟨p,q,k _ (by simp) _ s3⟩,(uV b i1 a1 []).mv _ _ _ s4 λo e=>k _ (by simp) o e,(uV c' i2 a2 []).mv _ _ _ s5 λo e=>k _ (by simp) o e⟩
 item:=by
  intro X hP hw hK hc i xf s σ H E I hf st hg;subst hP hw hK;obtain⟨Z,TI,⟨p,q,TO⟩,b1,b2⟩:=st;obtain⟨xs,ys,x,y,sq1,sq2,hx,hy⟩:=hg;obtain⟨vs,rv,c1⟩:=I.sq2 sq1;obtain⟨us,ru,c2⟩:=I.sq2 sq2;obtain⟨xv,ex,rx⟩:=rv.get hx;obtain⟨yv,ey,ry⟩:=ru.get hy;have hT:s.TypeIs (.ref z) "zip" := ⟨_,Z,rfl⟩
  have fr:H s.heap.objs.size=none:=I.hok.fresh (ym _);unfold pyNext;refine xj (aY (jC (name:=Str.ofString "__next__") hT BK (qb BK hT F.entry_zip_next (Ue D (uV b i1 a1 vs) (uV c' i2 a2 us) Z TI TO b1 b2 c1 c2 ex ey λg Z' TO' b1' b2' T' kp=>?_) (F.args_zip_next_1 _))));refine xO ⟨_,rfl,wpAny_letOwnedTupleGo_zip Z' λg2 Z2 S2=>?_⟩;obtain⟨⟨d1,d2,d3,d4,d5,d6,d7,d8,d9,d10⟩,_⟩:=D;have ltz:z<s.heap.objs.size:=yK Z;have kp2:∀c o,c∉[z,ti,to,i1,i2]->s.heap.get? c=some o->g2.get? c=some o:=λc o hc e=>by simp only[xX,y9,zh,not_or] at hc;exact S2.extBut _ _ hc.1 (kp c o hc.1 hc.2.2.1 hc.2.2.2.1 hc.2.2.2.2 e)
  have TI2:IsPair g2 ti (.ref i1) (.ref i2):=S2.extBut _ _ d1 (kp _ _ d1 d5 d6 d7 TI);have T2:IsPair g2 s.heap.objs.size xv yv:=S2.extBut _ _ (fg ltz) T';have st2:ZS2 b c' z ti to i1 i2 a1 a2 (i+1) g2:=⟨Z2,TI2,⟨_,_,S2.extBut _ _ d2 TO'⟩,(uV b i1 a1 vs).mv _ _ _ b1' λo=>S2.extBut _ o d3,(uV c' i2 a2 us).mv _ _ _ b2' λo=>S2.extBut _ o d4⟩
  have nfp:∀c u,H c=some u->c∉[z,ti,to,i1,i2]:=λc u e hm=>by rw[(hf c hm).1] at e;cases e
  have nT:∀c o,s.heap.get? c=some o->c≠s.heap.objs.size:=λc o e=>we (yK e);refine⟨.ref s.heap.objs.size,upd H s.heap.objs.size (.tup [x,y]),?_,rfl,⟨x,y,_,λxs' h'=>by rw[<-I.sq2_inj sq1 h'];exact hx,λys' h'=>by rw[<-I.sq2_inj sq2 h'];exact hy,rfl,fr,rfl⟩,st2,λc hm=>?_⟩
  .show Inv X xf σ (upd H s.heap.objs.size (.tup [x,y])) {s with heap:=g2,gens:=s.gens,drawn:=s.drawn,toks:=s.toks};refine Inv.step (s:=s) (g':=s.gens) (d':=s.drawn) (t':=s.toks) (ch:=[z,ti,to,i1,i2]) I (λc hm=>?_) (λc o _ _ hm e _=>kp2 c o hm e) (λc o _ _ hm e _=>⟨o.slots,kp2 c o hm e⟩) (λc o hm e n=>by rw[yx (nT c o e)];exact n) (λc o hm e=>⟨o,kp2 c o hm e⟩)
    (λc zs e=>by rw[yx (zP e fr)];exact e) (λc o u e=>by rw[yx (zP e fr)];exact e) (λc ps e=>⟨#[],by rw[yx (zP e fr),e];simp⟩) (λm hm=>?_) (λc u e=>?_) I.bare
   .obtain⟨_,f1,_,f3,f4,f5⟩:=hf c hm;exact⟨f3,f1,f4,f5⟩
   .obtain⟨o,es,ep,ho,r⟩:=hm;exact⟨o,es,ep,kp2 _ o (λz'=>(hf _ z').2.1 rfl) ho,r⟩
   .by_cases hc':c=s.heap.objs.size
    .subst hc';rw[zp] at e;cases e;exact⟨by show 2<=sizeLine;decide,[xv,yv],.cons rx (.cons ry .nil),_,T2,rfl,0,rfl⟩
    .rw[yx hc'] at e;refine(I.hok c u e).stay (λc' v hcc q'=>kp2 c' v ?_ q') (λc' q'=>by rw[yx (zP q' fr)];exact q') (λc' zs q'=>by rw[yx (zP q' fr)];exact q') λc' o u q'=>by rw[yx (zP q' fr)];exact q'
     rcases hcc with rfl|hcc
     .exact nfp _ _ e
     .exact nfp _ _ hcc
  .rw[yx]
   .exact(hf c hm).1
   .simp only[xX,y9,zh] at hm;rcases hm with e|e|e|e|e<;>subst e
    .exact nT _ _ Z
    .exact nT _ _ TI
    .exact nT _ _ TO
    .obtain⟨o,e,_⟩:=(uV b _ a1 []).ob _ _ b1;exact nT _ _ e
    .obtain⟨o,e,_⟩:=(uV c' _ a2 []).ob _ _ b2;exact nT _ _ e
 done:=by
  intro X hP hw hK hc i xf s σ H E I hf st hg;subst hP hw hK;obtain⟨Z,TI,⟨p,q,TO⟩,b1,b2⟩:=st;obtain⟨xs,ys,sq1,sq2,hend⟩:=hg;obtain⟨vs,rv,c1⟩:=I.sq2 sq1;obtain⟨us,ru,c2⟩:=I.sq2 sq2;have hT:s.TypeIs (.ref z) "zip" := ⟨_,Z,rfl⟩
  have he:vs[i]?=none\/us[i]?=none:=hend.imp (λh=>List.getElem?_eq_none_iff.mpr (by rw[<-rv.length];exact h)) (λh=>List.getElem?_eq_none_iff.mpr (by rw[<-ru.length];exact h));unfold pyNext;refine xj (aY (jC (name:=Str.ofString "__next__") hT BK (qb BK hT F.entry_zip_next (Ud (I.ok.hd hc) D (uV b i1 a1 vs) (uV c' i2 a2 us) Z TI TO b1 b2 c1 c2 he λg e kp ho=>?_) (F.args_zip_next_1 _))));obtain⟨o,ho,hcl⟩:=ho;refine xj (Cp (T := "StopIteration") (b:=true) ⟨o,ho,hcl⟩ Ck (xO ⟨rfl,?_⟩));have kp2:∀c o,c∉[z,ti,to,i1,i2]->s.heap.get? c=some o->g.get? c=some o:=λc o hc e=>by simp only[xX,y9,zh,not_or] at hc;exact kp c o hc.1 hc.2.2.1 hc.2.2.2.1 hc.2.2.2.2 e
  have nfp:∀c u,H c=some u->c∉[z,ti,to,i1,i2]:=λc u e hm=>by rw[(hf c hm).1] at e;cases e
  refine Inv.step (s:=s) (g':=s.gens) (d':=s.drawn) (t':=s.toks) (ch:=[z,ti,to,i1,i2]) I (λc hm=>?_) (λc o _ _ hm e _=>kp2 c o hm e) (λc o _ _ hm e _=>⟨o.slots,kp2 c o hm e⟩) (λc o hm e n=>n) (λc o hm e=>⟨o,kp2 c o hm e⟩)
   (λc zs e=>e) (λc o u e=>e) (λc ps e=>⟨#[],by rw[e];simp⟩) (λm hm=>?_) (λc u e=>?_) I.bare
  .obtain⟨_,f1,_,f3,f4,f5⟩:=hf c hm;exact⟨f3,f1,f4,f5⟩
  .obtain⟨o,es,ep,ho,r⟩:=hm;exact⟨o,es,ep,kp2 _ o (λz'=>(hf _ z').2.1 rfl) ho,r⟩
  .refine(I.hok c u e).stay (λc' v hcc q'=>kp2 c' v ?_ q') (λ_ q'=>q') (λ_ _ q'=>q') λ_ _ _ q'=>q';rcases hcc with rfl|hcc
   .exact nfp _ _ e
   .exact nfp _ _ hcc
 self:=λA i s Q E st h=>wpAny_pyIter_zip st.1 h
end
def FX (K:xw)(ta:TA):TI:=λσ H R=>ta σ H λvs H1=>∃(b c:Bool) (a1 a2:Addr) (xs ys:List V),vs=[.ref a1,.ref a2]/\Sq2 K b H1 a1 xs/\Sq2 K c H1 a2 ys/\R (pN K b c a1 a2) H1
section
variable {X:Cx}
def bO (K:xw)(hg:Gl X "zip")(hm:X.mg "zip" = none)(ha:PA X [a,b] ta)(hs:starEach [a,b] X.env=[(false,eval a X.env),(false,eval b X.env)]:=by rfl)(hs2:starEach [b] X.env=[(false,eval b X.env)]:=by rfl)(eK:X.K=K:=by rfl) :
  PI X (.Tuple elts kk pp) (.Call (.Name "zip" p) [a,b] [] pos) (FX K ta):=by
 subst eK;intro xf s σ H R I h;refine Call_ (sG I hg hm K4 (Cj (yp (@ha pos xf s σ H _ I h) λus s1 ⟨vs,H1,I1,r1,q1⟩=>?_) (by rw[hs,hs2]) (by rw[hs2];rfl)));obtain⟨bb,cc,a1,a2,xs,ys,e,sq1,sq2,q⟩:=q1;subst e;obtain⟨u1,u2,rfl,e1,e2⟩:=vals2 r1;obtain rfl:u1=Value.ref a1:=e1;obtain rfl:u2=Value.ref a2:=e2;obtain⟨vs,rv,c1⟩:=I1.sq2 sq1;obtain⟨us,ru,c2⟩:=I1.sq2 sq2;have fp:∀k:Nat,qG X xf H1 (s1.heap.objs.size+k):=λk=>I1.fpOk (Cb _ _) (I1.hok.fresh (Cb _ _));have lt:∀(b:Bool) (a:Addr) (vs:List Value),qH b a vs s1.heap->a<s1.heap.objs.size:=λb a vs h=>by
  cases b with
  |true=>obtain⟨o,e,_⟩:=(show s1.heap.IsTuple a vs.toArray from h);exact yK e
  |false=>obtain⟨o,e,_⟩:=(show s1.heap.IsList a vs.toArray from h);exact yK e
 refine Le c1 c2 ?_;intro g z1 z2 z3 z4 z5 kp;have st:ZS2 bb cc (s1.heap.objs.size+4) (s1.heap.objs.size+2) (s1.heap.objs.size+3) s1.heap.objs.size (s1.heap.objs.size+1) a1 a2 0 g:=⟨z1,z2,⟨_,_,z3⟩,z4,z5⟩
 refine wpAny_pyIter_zip st.1 ⟨_,_,_,_,H1,rfl,I1.kept (t':=s1.toks) kp,TJ (Ua (lt _ _ _ c1) (lt _ _ _ c2)),st,λc hc=>?_,q⟩;simp only[xX,y9,zh] at hc;rcases hc with e|e|e|e|e<;>subst e
 .exact fp 4
 .exact fp 2
 .exact fp 3
 .exact fp 0
 .exact fp 1
end
def qy:List Tr->List Tr->List Tr
 |t::ts,u::us=>.tup [t,u]::qy ts us
 |_,_=>[]
theorem BE:∀(ts us:List Tr),(qy ts us).length=min ts.length us.length
 |[],_=>by simp[qy]
 |_::_,[]=>by simp[qy]
 |_::ts,_::us=>by simp only[qy,wC,BE ts us];lia
theorem JS:∀ {ts us:List Tr} {i:Nat} {t u:Tr},ts[i]?=some t->us[i]?=some u->(qy ts us)[i]?=some (.tup [t,u])
 |[],_,_,_,_,h,_=>by simp at h
 |_::_,[],_,_,_,_,h=>by simp at h
 |_::_,_::_,0,_,_,h,h'=>by simp at h h';subst h h';rfl
 |_::ts,_::us,i+1,t,u,h,h'=>by show(qy ts us)[i]?=_;exact JS (by simpa using h) (by simpa using h')
def sqT (b:Bool)(ts:List Tr):Tr:=if b then .tup ts else .lst ts
section
variable {K:xw}
theorem gO (h:Rep F H (sqT b ts) (.ref a)):∃ws,Sq2 K b H a ws/\yt F H ts ws:=by
 cases b with
 |true=>
  obtain⟨a',ws,e,n,h,r⟩:=(show Rep F H (.tup ts) (.ref a) from h)
  cases e;exact⟨ws,yM.of h,r⟩
 |false=>
  obtain⟨a',ws,e,n,h,r⟩:=(show Rep F H (.lst ts) (.ref a) from h)
  cases e;exact⟨ws,yw.of h,r⟩
def MX:ItL (pN K b c a1 a2) (qy ts us) [(sqT b ts,.ref a1),(sqT c us,.ref a2)] where
 go:=λF H i s hi=>by obtain⟨ws,h1,r1⟩:=gO (K:=K) (s _ xU);obtain⟨ws2,h2,r2⟩:=gO (K:=K) (s _ (yI _ xU));rw[BE] at hi;obtain⟨w,e1,_⟩:=r1.getT (yC (i:=i) (by lia));obtain⟨w2,e2,_⟩:=r2.getT (yC (i:=i) (by lia));exact⟨ws,ws2,w,w2,h1,h2,e1,e2⟩
 stop:=λF H s=>by obtain⟨ws,h1,r1⟩:=gO (K:=K) (s _ xU);obtain⟨ws2,h2,r2⟩:=gO (K:=K) (s _ (yI _ xU));refine⟨ws,ws2,h1,h2,?_⟩;rw[BE,<-r1.len,<-r2.len];lia
 yld:=λF i H x H' s d hi y=>by obtain⟨ws,h1,r1⟩:=gO (K:=K) (s _ xU);obtain⟨ws2,h2,r2⟩:=gO (K:=K) (s _ (yI _ xU));obtain⟨v,v2,q,hv,hv2,rfl,hq,rfl⟩:=y;obtain⟨t,e1,g1⟩:=r1.get (hv ws h1);obtain⟨u,e2,g2⟩:=r2.get (hv2 ws2 h2);exact⟨.inr ⟨q,_,hq,rfl⟩,.tup [t,u],JS e1 e2,q,_,rfl,λz=>d q z hq,zp,⟨_,_,rfl,bR hq g1,_,_,rfl,bR hq g2,rfl⟩⟩
def Bq:Tr->Option (Bool×List Tr)
 |.tup ts=>some (true,ts)
 |.lst ts=>some (false,ts)
 |_=>none
def MI (d:DA):DI:=λτ KK=>d τ λxs=>match xs with
 |[x,y]=>(match Bq x,Bq y with|some p,some q=>KK (qy p.2 q.2)|_,_=>False)
 |_=>False
theorem IV (h:Bq x=some p):x=sqT p.1 p.2:=by
 cases x with
 |tup ts=>cases h;rfl
 |lst ts=>cases h;rfl
 |_=>cases h
theorem Iq (h:Rep F H (sqT b ts) v):∃a,v=.ref a:=by
 cases b with
 |true=>obtain⟨a,ws,e,_⟩:=(show Rep F H (.tup ts) v from h);exact⟨a,e⟩
 |false=>obtain⟨a,ws,e,_⟩:=(show Rep F H (.lst ts) v from h);exact⟨a,e⟩
def bH (h:OkA K b n ta da):OkI K b (FX K ta) (MI da):=λB φ σ τ H R KK Rs hd q=>
 h B φ σ τ H _ _ Rs hd λts vs H1 x1 k1 l1 r1=>by
  split at k1
  .rename_i x y;split at k1
   .rename_i p p' e1 e2;obtain⟨v,w,rfl,g1,g2⟩:=tO r1;rw[IV e1] at g1;rw[IV e2] at g2;obtain⟨a1,rfl⟩:=Iq g1;obtain⟨a2,rfl⟩:=Iq g2;obtain⟨ws,s1,_⟩:=gO (K:=K) g1;obtain⟨ws2,s2,_⟩:=gO (K:=K) g2;refine⟨p.1,p'.1,a1,a2,ws,ws2,rfl,s1,s2,q _ _ _ H1 x1 k1 MX λz hz=>?_⟩;simp only[xX,y9,zh] at hz;rcases hz with rfl|rfl
    .exact g1
    .exact g2
   .exact k1.elim
  .exact k1.elim
end
def zO (K:xw)(e:X.K=K:=by rfl):IxR X (rIx K):=e▸MY
theorem Fg (W:List Tr->xV->Prop)(h0:∀ τ,W [] τ->G.nx τ)
  (h1:∀x xs τ (N:xV->Prop),W (x::xs) τ->(∀ τ',W xs τ'->N τ')->dg x τ λτ'=>body {G with nx:=N,ct:=N,bk:=G.nx} τ'):∀xs τ,W xs τ->kH dg body G xs τ
 |[],τ,w=>h0 τ w
 |x::xs,τ,w=>h1 x xs τ (kH dg body G xs) w (Fg W h0 h1 xs)
def vc (W:Nat->xV->Prop)(w0:W 0 τ)
  (h1:∀i x τ (N:xV->Prop),all[i]?=some x->W i τ->(∀ τ',W (i+1) τ'->N τ')->dg x τ λτ'=>body {G with nx:=N,ct:=N,bk:=G.nx} τ')
  (h0:∀ τ,W all.length τ->G.nx τ):kH dg body G all τ:=by
 refine Fg (λxs τ=>∃i,xs=all.drop i/\i<=all.length/\W i τ) (λτ ⟨i,e,hi,w⟩=>h0 τ ?_) (λx xs τ N ⟨i,e,hi,w⟩ hN=>?_) all τ ⟨0,rfl,aT _,w0⟩
 .have:all.length<=i:=by have:=zg List.length e;rw[v_] at this;simp at this;lia
  have:i=all.length:=by lia
  rw[<-this];exact w
 .have hlt:i<all.length:=by have:=zg List.length e;rw[v_] at this;simp at this;lia
  rw[aK hlt] at e;injection e with e1 e2;exact h1 i x τ N (by rw[e1];exact yC hlt) w λτ' w'=>hN τ' ⟨i+1,e2,hlt,w'⟩
theorem JN (W:Nat->xV->Prop)
  (h:∀n τ (N:xV->Prop),W n τ->(∀m τ',m<n->W m τ'->N τ')->c τ λb=>if b=true then body {G with nx:=N,ct:=N,bk:=G.nx} τ else G.nx τ):∀k n τ,n<k->W n τ->fY c body G k τ
 |0,_,_,hk,_=>absurd hk (by lia)
 |k+1,n,τ,hk,w=>h n τ (fY c body G k) w λm τ' hm w'=>JN W h k m τ' (by lia) w'
def cU (W:Nat->xV->Prop)(n:Nat)(w0:W n τ)
  (h:∀n τ (N:xV->Prop),W n τ->(∀m τ',m<n->W m τ'->N τ')->c τ λb=>if b=true then body {G with nx:=N,ct:=N,bk:=G.nx} τ else G.nx τ):IE c body G τ:=
 ⟨n+1,JN W h (n+1) n τ (Cd n) w0⟩
theorem rA {dg:DG}{dc:DT}{de:DE}{τi:xV}{KK:List Tr->Prop}(W:List Tr->List Tr->Prop)(h0:∀acc,W [] acc->KK acc)
  (h1:∀x xs acc (N:List Tr->Prop),W (x::xs) acc->(∀acc',W xs acc'->N acc')->dg x τi λτ2=>dc τ2 λb=>if b=true then de τ2 λy=>N (acc++[y]) else N acc):∀xs acc,W xs acc->kC dg dc de τi KK xs acc
 |[],acc,w=>h0 acc w
 |x::xs,acc,w=>h1 x xs acc (kC dg dc de τi KK xs) w (rA W h0 h1 xs)
def dS {dg:DG}{de:DE}{τi:xV}{KK:List Tr->Prop}{xs:List Tr}(g:Tr->Tr)(h1:∀x∈xs,∀N:Tr->Prop,N (g x)->dg x τi λτ2=>de τ2 N)(h0:KK (xs.map g)):kC dg nG de τi KK xs []:=by
 refine rA (λys acc=>∃zs,xs=zs++ys/\acc=zs.map g) (λacc ⟨zs,e,e2⟩=>?_) (λx ys acc N ⟨zs,e,e2⟩ hN=>?_) xs [] ⟨[],rfl,rfl⟩
 .rw[uH] at e;subst e e2;exact h0
 .subst e2;have hx:x∈xs:=by rw[e];simp
  exact h1 x hx (λy=>N (zs.map g++[y])) (hN _ ⟨zs++[x],by rw[e];simp,by simp⟩)
theorem uY {α:Type}{f:α->Tr}{l:List α}{i:Nat}{t:Tr}(h:(l.map f)[i]?=some t):∃x,l[i]?=some x/\t=f x:=by
 rw[ue] at h;cases e:l[i]? with
 |none=>rw[e] at h;cases h
 |some x=>rw[e] at h;cases h;exact⟨x,rfl,rfl⟩
def jF (ts:List α)(n:Nat):atT ts (n:Int)=ts[n]?:=rW ts n
def rz (ts:List α)(t:α):atT (ts++[t]) (-1)=some t:=by rw[DZ];exact KL ts t
def wc (h:n<=1000000):n<sizeLine:=kZ h (by decide)
def t7 (h:n<=1000000):n<=sizeLine:=mC (wc h)
def vV {a b:Int}(h:0<=b):a.fdiv b=a/b:=c7 a h
def Fw {a b:Int}(h:0<=b):a.fmod b=a%b:=Int.fmod_eq_emod_of_nonneg a h
section
variable {prog:Program} {w:World} {A:Around} {E:Value->Shared->Prop} {s:Shared}
theorem EZ (hne:t≠it):∀(n i:Nat) (s:Shared) (Q:List Value->Shared->Prop),s.heap.IsListIter it t i->s.heap.IsList t items->i+n<=items.size->
  (∀h',h'.IsListIter it t (i+n)->Heap.SameBut it s.heap h'->Q ((items.toList.drop i).take n) {s with heap:=h' })->wpAny (model prog w) A (draw (.ref it) n) Q E s
 |0,i,s,Q,hit,_,_,hQ=>by show wpAny _ _ (pure []) Q E s;exact xO (by simpa using hQ s.heap hit (Heap.SameBut.refl ..))
 |n+1,i,s,Q,hit,ht,hle,hQ=>by
  have hlt:i<items.size:=by lia
  show wpAny _ _ (pyNext (.ref it)>>=_) Q E s;refine xj (wpAny_pyNext_list_item hit ht (x:=items[i]) (by simp[hlt]) λh₁ hit₁ hs₁=>?_);refine xj (km (EZ hne n (i+1) _ _ hit₁ (ht.extBut hs₁.extBut hne) (by lia) λh₂ hit₂ hs₂=>xO ?_));have hd:items.toList.drop i=items[i]::items.toList.drop (i+1):=by simp[aK,hlt]
  have:=hQ h₂ (by rw[show i+(n+1)=i+1+n by lia];exact hit₂) (hs₁.trans hs₂);rw[hd,List.take_succ_cons] at this;exact this
def TL (hh:A.handled=none)(ht:s.heap.IsList t items)
  (hQ:∀h',Heap.ExtBut s.heap.objs.size s.heap h'->Q items.toList {s with heap:=h' }):wpAny (model prog w) A (unpackItems (.ref t) items.size none) Q E s:=by
 have hlt:t≠s.heap.objs.size:=by obtain⟨o,ho,_⟩:=ht;exact we (yK ho)
 unfold unpackItems;refine xj ?_
 .unfold notIterableAtAll;refine xj (wpAny_specialOf ht.typeIs slot_list_iter.lookup ?_);refine xO ?_;simp only[aD,qF];refine xj (km (Cr ht ?_));refine xj (km (EZ hlt items.size 0 _ _ ⟨_,wJ _ rfl,rfl,rfl⟩ (ht.push _) (by lia) λh₁ hit₁ hs₁=>?_));have hall:List.take items.size (List.drop 0 items.toList)=items.toList:=by rw[pC];exact uS (by simp)
  rw[hall];rw[xG (by simp)];have ht₁:h₁.IsList t items:=(ht.push _).extBut hs₁.extBut hlt;refine xj (km (wpAny_pyNext_list_end hh hit₁ ht₁ (by simp) λh₂ he₂=>?_));simp only[Option.isSome_none,aD,qF];refine xO (hQ h₂ λb o hb e=>he₂ b o hb (hs₁.extBut b o hb (yZ _ e)))
def TM (hh:A.handled=none)(ht:s.heap.IsList t items)
  (hn:targets.length=items.size) (hstar:targets.findIdx? (·.1)=none)
  (h:∀h',Heap.ExtBut s.heap.objs.size s.heap h'->wpAny (model prog w) A (assignInOrder (targets.map (·.2)) items.toList) Q E {s with heap:=h' }) :
  wpAny (model prog w) A (unpack (.ref t) targets) Q E s:=by
 unfold unpack;rw[hn,hstar];exact xj (km (TL hh ht h))
def KI (hh:A.handled=none)(ht:s.heap.IsList t items)
  (hn:(assignEach elts env).length=items.size) (hstar:(assignEach elts env).findIdx? (·.1)=none)
  (h:∀h',Heap.ExtBut s.heap.objs.size s.heap h'->wpAny (model prog w) A (assignInOrder ((assignEach elts env).map (·.2)) items.toList) Q E {s with heap:=h' }) :
  wpAny (model prog w) A (assign (.Tuple elts x1 pos) env (.ref t)) Q E s:=by
 rw[assign_Tuple];exact xj (mN (TM hh ht hn hstar h))
end
def FG (K:xw)(n:Nat)(t:TGs):TG:=λv σ H Q=>∃a xs,v=.ref a/\yw K H a xs/\xs.length=n/\t xs σ H Q
section
variable {X:Cx}
def Rb (K:xw)(hc:X.calm=true)(h:PGs X es t)
  (hn:(assignEach es X.env).length=n:=by rfl) (hst:(assignEach es X.env).findIdx? (·.1)=none:=by rfl) (e:X.K=K:=by rfl):PG X (.Tuple es k pos) (FG K n t):=by
 subst e;intro xf s σ H v u Q I r hw;obtain⟨a,xs,e1,hq,hl,hw⟩:=hw;subst e1;cases r;obtain⟨xm,rv,⟨o,m,ho,hcl,hd,hs⟩,hz⟩:=I.list hq;refine KI (I.ok.hd hc) (items:=xm.toArray) ⟨o,ho,hcl,m,hs⟩ (by simp[hn,<-hl,rv.length]) hst λh' hx=>?_;have I1:Inv X xf σ H {s with heap:=h' }:=I.kept (t':=s.toks) λb o e=>hx b o (we (yK e)) e;exact @h xf _ σ H xs _ Q I1 (by simpa using rv) hw
end
section
variable {K:xw}
def LW (n:Nat)(d:DGs):DG:=λt τ KK=>match t with|.lst ts=>ts.length=n/\d ts τ KK|_=>False
theorem Pw (h:rj K gs ds):OkN K (FG K n gs) (LW n ds):=λB φ σ τ H F t v Q KK R hF r hd q=>by
 cases t with
 |lst ts=>obtain⟨a,ws,e,n,ha,rl⟩:=r;exact⟨a,ws,e,yw.of ha,by rw[<-rl.len];exact hd.1,h B φ σ τ H F ts ws Q KK R hF rl hd.2 q⟩
 |_=>exact hd.elim
end
theorem yg {b:Bool}{A B:Prop}(h1:b=true->A)(h0:b=false->B):if b=true then A else B:=by
 cases b with
 |true=>exact kI (h1 rfl)
 |false=>exact vY (h0 rfl)
end L2
namespace Pol
abbrev R3:=Int×Int×Int
def val (r p:R3):Int:=r.1*p.1+r.2.1*p.2.1-r.2.2*p.2.2
def det (u v w:R3):Int:=u.1*(v.2.1*w.2.2-v.2.2*w.2.1)-u.2.1*(v.1*w.2.2-v.2.2*w.1)+u.2.2*(v.1*w.2.1-v.2.1*w.1)
def add (u v:R3):R3:=(u.1+v.1,u.2.1+v.2.1,u.2.2+v.2.2)
def mul (k:Int)(u:R3):R3:=(k*u.1,k*u.2.1,k*u.2.2)
def ext3 {u v:R3}(h1:u.1=v.1)(h2:u.2.1=v.2.1)(h3:u.2.2=v.2.2):u=v:=zC h1 (zC h2 h3)
def val_add (r p q:R3):val r (add p q)=val r p+val r q:=by simp only[val,add];grind
def val_mul (r p:R3)(k:Int):val r (mul k p)=k*val r p:=by simp only[val,mul];grind
def qj (u v w:R3):det u v w=det v w u:=by simp only[det];grind
def oQ (u v w:R3):det u w v = - det u v w:=by simp only[det];grind
def fE (u v:R3):det u v v=0:=by simp only[det];grind
def rF (u v:R3):det u u v=0:=by simp only[det];grind
def rG (u v:R3):det u v u=0:=by simp only[det];grind
def oP (u v p q:R3):det u v (add p q)=det u v p+det u v q:=by simp only[det,add];grind
def fD (u v p:R3)(k:Int):det u v (mul k p)=k*det u v p:=by simp only[det,mul];grind
def four (r a b c d:R3):det b c d*val r a+det a b d*val r c=det a c d*val r b+det a b c*val r d:=by simp only[det,val];grind
def EC (u v w p:R3):mul (det u v w) p=add (mul (det p v w) u) (add (mul (det u p w) v) (mul (det u v p) w)):=by apply ext3<;>simp only[det,mul,add]<;>grind
def RN (r u w z p:R3)(hu:val r u=0)(hw:val r w=0):val r p*det u w z=val r z*det u w p:=by have h:=zg (val r) (EC u w z p);rw[val_mul,val_add,val_add,val_mul,val_mul,val_mul,hu,hw] at h;rw[vG (val r p)];rw[h];grind
def pp {a b:Int}(h:0<a)(k:0<b):0<a*b:=j8 h k
def pz {a b:Int}(h:0<=a)(k:0<=b):0<=a*b:=BQ h k
def pn {a b:Int}(h:0<=a)(k:b<=0):a*b<=0:=Int.mul_nonpos_of_nonneg_of_nonpos h k
def np {a b:Int}(h:a<=0)(k:0<=b):a*b<=0:=Uk h k
def nn {a b:Int}(h:a<=0)(k:b<=0):0<=a*b:=Int.mul_nonneg_of_nonpos_of_nonpos h k
def jY {a b:Int}(h:0<a)(k:0<a*b):0<b:=by
 rcases y4 0 b with z|z
 .exact z
 .have:=pn (yl h) z;lia
def fM {a b:Int}(h:0<a)(k:0<=a*b):0<=b:=by
 rcases y4 b 0 with z|z
 .have:=jw h z;lia
 .exact z
def NN {a b:Int}(h:0<a)(k:a*b<=0):b<=0:=by
 rcases y4 0 b with z|z
 .have:=pp h z;lia
 .exact z
def JR {a b:Int}(h:0<a)(k:a*b=0):b=0:=(vp.mp k).resolve_left (by lia)
inductive Cn (l:List R3):R3->Prop
 |zero:Cn l (0,0,0)
 |mem {v}:v∈l->Cn l v
 |add {p q}:Cn l p->Cn l q->Cn l (add p q)
theorem Cn.nsmul {l:List R3}{p:R3}(h:Cn l p):∀k:Nat,Cn l (mul k p)
 |0=>by
  have:mul ((0:Nat):Int) p=(0,0,0):=by apply ext3<;>simp[mul]
  rw[this];exact .zero
 |k+1=>by
  have:mul ((k+1:Nat):Int) p=Pol.add (mul k p) p:=by apply ext3<;>simp only[mul,Pol.add]<;>grind
  rw[this];exact(h.nsmul k).add h
def Cn.smul (h:Cn l p)(hk:0<=k):Cn l (mul k p):=by have:=h.nsmul k.toNat;rwa [J7 hk] at this
theorem Cn.mono (h:Cn l p)(hl:∀v∈l,Cn l' v):Cn l' p:=by
 induction h with
 |zero=>exact .zero
 |mem m=>exact hl _ m
 |add _ _ h1 h2=>exact h1.add h2
theorem Cn.lin (h:Cn l p)(g:R3->Int)(g0:g (0,0,0)=0)(ga:∀p q,g (Pol.add p q)=g p+g q)(hl:∀v∈l,0<=g v):0<=g p:=by
 induction h with
 |zero=>lia
 |mem m=>exact hl _ m
 |add _ _ h1 h2=>rw[ga];lia
def Cn.valGe (h:Cn l p)(r:R3)(hl:∀v∈l,0<=Pol.val r v):0<=Pol.val r p:=h.lin (Pol.val r) (by simp[Pol.val]) (val_add r) hl
theorem Cn.det (h:Cn l p)(u v:R3)(hl:∀w∈l,0<=Pol.det u v w):0<=Pol.det u v p:=h.lin (Pol.det u v) (by simp[Pol.det]) (oP u v) hl
theorem Cn.bot {l:List R3}{p:R3}(h:Cn l p)(hl:∀v∈l,0<v.2.2):p=(0,0,0)\/0<p.2.2:=by
 induction h with
 |zero=>exact .inl rfl
 |mem m=>exact .inr (hl _ m)
 |@add p q _ _ h1 h2=>
  rcases h1 with rfl|h1
  .have:Pol.add (0,0,0) q=q:=by apply ext3<;>simp[Pol.add]
   rw[this];exact h2
  .right;show 0<p.2.2+q.2.2;rcases h2 with rfl|h2
   .simpa using h1
   .lia
theorem Cn.zeros (h:Cn l p)(r:R3)(hl:∀v∈l,0<=Pol.val r v)(h0:Pol.val r p<=0):Cn (l.filter λv=>Pol.val r v=0) p:=by
 induction h with
 |zero=>exact .zero
 |@mem v m=>exact .mem (uR.mpr ⟨m,by have:=hl v m;simp;lia⟩)
 |@add p q hp hq h1 h2=>rw[val_add] at h0;have a:=hp.valGe r hl;have b:=hq.valGe r hl;exact(h1 (by lia)).add (h2 (by lia))
theorem Cn.pair {u v p:R3}(h:Cn [u,v] p):∃a b:Int,0<=a/\0<=b/\p=Pol.add (mul a u) (mul b v):=by
 induction h with
 |zero=>exact⟨0,0,by lia,by lia,by apply ext3<;>simp[Pol.add,mul]⟩
 |mem m=>
  simp only[xX,y9,zh] at m;rcases m with rfl|rfl
  .exact⟨1,0,by lia,by lia,by apply ext3<;>simp[Pol.add,mul]⟩
  .exact⟨0,1,by lia,by lia,by apply ext3<;>simp[Pol.add,mul]⟩
 |add _ _ h1 h2=>obtain⟨a,b,a0,b0,rfl⟩:=h1;obtain⟨c,d,c0,d0,rfl⟩:=h2;exact⟨a+c,b+d,by lia,by lia,by apply ext3<;>simp only[Pol.add,mul]<;>grind⟩
def InC (l:List R3)(p:R3):Prop:=∃m:Int,0<m/\Cn l (mul m p)
structure Ccw (l:List R3):Prop where
 tri:∀u v w:R3,List.Sublist [u,v,w] l->0<det u v w
 nd:l.Nodup
theorem Jc (h:[u,v,w]=l1++l2):(l1=[]/\l2=[u,v,w])\/(l1=[u]/\l2=[v,w])\/(l1=[u,v]/\l2=[w])\/(l1=[u,v,w]/\l2=[]):=by
 cases l1 with
 |nil=>exact .inl ⟨rfl,h.symm⟩
 |cons a t=>
  injection h with h1 h2;subst h1;cases t with
  |nil=>exact .inr (.inl ⟨rfl,h2.symm⟩)
  |cons b t=>
   injection h2 with h1 h2;subst h1;cases t with
   |nil=>exact .inr (.inr (.inl ⟨rfl,h2.symm⟩))
   |cons c t=>injection h2 with h1 h2;subst h1;have:=List.append_eq_nil_iff.mp h2.symm;rw[this.1,this.2];exact .inr (.inr (.inr ⟨rfl,rfl⟩))
def Ccw.rot (h:Ccw (a++b)):Ccw (b++a):=by
 refine⟨λu v w s=>?_,?_⟩
 .obtain⟨l1,l2,e,s1,s2⟩:=B_.mp s;have s3:=List.Sublist.append s2 s1;rcases Jc e with ⟨rfl,rfl⟩|⟨rfl,rfl⟩|⟨rfl,rfl⟩|⟨rfl,rfl⟩
  .exact h.tri _ _ _ (by simpa using s3)
  .have:=h.tri _ _ _ (show List.Sublist [v,w,u] (a++b) by simpa using s3);rw[qj];exact this
  .have:=h.tri _ _ _ (show List.Sublist [w,u,v] (a++b) by simpa using s3);rw[<-qj];exact this
  .exact h.tri _ _ _ (by simpa using s3)
 .have:=h.nd;rw[dz] at this ⊢;exact⟨this.2.1,this.1,λx hx y hy e=>this.2.2 y hy x hx e.symm⟩
def Ccw.alt {l:List R3}(h:Ccw l)(r:R3){a b c d:R3}(s:List.Sublist [a,b,c,d] l):¬(0<val r a/\val r b<=0/\0<val r c/\val r d<=0)/\¬(val r a<=0/\0<val r b/\val r c<=0/\0<val r d):=by
 have h1:=h.tri b c d (pA (List.Sublist.cons _ (mo _)) s);have h2:=h.tri a b d (pA (by simp) s);have h3:=h.tri a c d (pA (by simp) s);have h4:=h.tri a b c (pA (by simp) s);have e:=four r a b c d;constructor
 .rintro⟨x1,x2,x3,x4⟩;have:=pp h1 x1;have:=pp h2 x3;have:=pn (yl h3) x2;have:=pn (yl h4) x4;lia
 .rintro⟨x1,x2,x3,x4⟩;have:=pn (yl h1) x1;have:=pn (yl h2) x3;have:=pp h3 x2;have:=pp h4 x4;lia
def Br (f:R3->Bool):∀l:List R3,l=l.takeWhile f++l.dropWhile f:=λl=>(List.takeWhile_append_dropWhile (p:=f) (l:=l)).symm
theorem lE:∀ {l:List R3},x∈l.takeWhile f->f x=true:=λ {l} h=>by
 induction l with
 |nil=>simp at h
 |cons a t ih=>
  rw[List.takeWhile_cons] at h;split at h
  .rcases xX.mp h with rfl|h
   .assumption
   .exact ih h
  .simp at h
theorem oR:∀ {l:List R3},l.dropWhile f=x::t->f x=false:=λ {l} h=>by
 induction l with
 |nil=>simp at h
 |cons a l ih=>
  rw[List.dropWhile_cons] at h;split at h
  .exact ih h
  .rename_i hn;injection h with h1 h2;subst h1;simpa using hn
theorem Ccw.parts (h:Ccw l)(r:R3):∃a b P Q,l=a++b/\b++a=P++Q/\(∀v∈P,0<val r v)/\∀v∈Q,val r v<=0:=by
 have e1:=Br (λv=>decide (val r v<=0)) l;have m1:∀v∈l.takeWhile λv=>decide (val r v<=0),val r v<=0:=λv hv=>yU (lE hv);revert e1 m1;generalize l.takeWhile (λv=>decide (val r v<=0))=N1;cases hd:l.dropWhile (λv=>decide (val r v<=0)) with
 |nil=>intro e1 m1;rw[uH] at e1;exact⟨[],l,[],l,rfl,by simp,λv hv=>absurd hv (by simp),λv hv=>m1 v (e1▸hv)⟩
 |cons p R=>
  intro e1 m1;have hp:0<val r p:=by have:=oR hd;have:=zZ this;lia
  have e2:=Br (λv=>decide (0<val r v)) R;have m2:∀v∈R.takeWhile λv=>decide (0<val r v),0<val r v:=λv hv=>yU (lE hv);revert e2 m2;generalize R.takeWhile (λv=>decide (0<val r v))=P1;cases hd2:R.dropWhile (λv=>decide (0<val r v)) with
  |nil=>
   intro e2 m2;rw[uH] at e2;subst e2;refine⟨N1,p::R,p::R,N1,e1,rfl,λv hv=>?_,m1⟩;rcases xX.mp hv with rfl|hv
   .exact hp
   .exact m2 v hv
  |cons q S=>
   intro e2 m2;have hq:val r q<=0:=by have:=oR hd2;have:=zZ this;lia
   have mp:∀v∈p::P1,0<val r v:=λv hv=>by
    rcases xX.mp hv with rfl|hv
    .exact hp
    .exact m2 v hv
   cases N1 with
   |cons n0 N=>
    refine⟨n0::N,p::R,p::P1,q::S++(n0::N),e1,by rw[e2];simp,mp,λv hv=>?_⟩;rcases yz.mp hv with hv|hv
    .rcases xX.mp hv with rfl|hv
     .exact hq
     .rcases y4 0 (val r v) with z|z
      .exfalso;have s:List.Sublist [n0,p,q,v] l:=by rw[e1,e2];have s1:List.Sublist [v] S:=vq.mpr hv;have s2:List.Sublist [q,v] (q::S):=s1.cons_cons q;have s3:List.Sublist [q,v] (P1++q::S):=s2.trans (aQ _ _);have s4:List.Sublist [p,q,v] (p::(P1++q::S)):=s3.cons_cons p;have s5:List.Sublist [n0] (n0::N):=vq.mpr xU;exact s5.append s4
       exact(h.alt r s).2 ⟨m1 n0 xU,hp,hq,z⟩
      .exact z
    .exact m1 v hv
   |nil=>
    have e3:=Br (λv=>decide (val r v<=0)) S;have m3:∀v∈S.takeWhile λv=>decide (val r v<=0),val r v<=0:=λv hv=>yU (lE hv);have hd3:∀v∈S.dropWhile (λv=>decide (val r v<=0)),0<val r v:=λv hv=>by
     cases hc:S.dropWhile (λv=>decide (val r v<=0)) with
     |nil=>rw[hc] at hv;simp at hv
     |cons p2 S2=>
      have hp2:0<val r p2:=by have:=oR hc;have:=zZ this;lia
      rw[hc] at hv;rcases xX.mp hv with rfl|hv
      .exact hp2
      .rcases y4 0 (val r v) with z|z
       .exact z
       .exfalso;have s:List.Sublist [p,q,p2,v] l:=by rw[e1,qC,e2,e3,hc];have s1:List.Sublist [v] S2:=vq.mpr hv;have s2:List.Sublist [p2,v] (p2::S2):=s1.cons_cons p2;have s3:=s2.trans (aQ (S.takeWhile λv=>decide (val r v<=0)) _);have s4:=s3.cons_cons q;have s5:=s4.trans (aQ P1 _);exact s5.cons_cons p
        exact(h.alt r s).1 ⟨hp,hq,hp2,z⟩
    refine⟨p::P1++q::S.takeWhile (λv=>decide (val r v<=0)),S.dropWhile (λv=>decide (val r v<=0)),S.dropWhile (λv=>decide (val r v<=0))++p::P1,q::S.takeWhile (λv=>decide (val r v<=0)),?_,?_,λv hv=>?_,λv hv=>?_⟩
    .rw[e1,qC,e2]
     conv=>lhs;rw[e3]
     simp
    .simp
    .rcases yz.mp hv with hv|hv
     .exact hd3 v hv
     .exact mp v hv
    .rcases xX.mp hv with rfl|hv
     .exact hq
     .exact m3 v hv
def xu:R3->List R3->R3
 |p,[]=>p
 |_,x::xs=>xu x xs
def je (u v w:R3):det u v w=det w u v:=by simp only[det];grind
def LJ (u v w:R3):det u v w = - det v u w:=by simp only[det];grind
theorem lu (p q:R3):∀(xs ys:List R3),xu p (xs++q::ys)=xu q ys
 |[],_=>rfl
 |x::xs,ys=>lu x q xs ys
def Gq (p q:R3)(xs:List R3):xu p (xs++[q])=q:=lu p q xs []
theorem uX (p:R3):∀(xs:List R3),xu p xs∈p::xs
 |[]=>by simp[xu]
 |x::xs=>yI _ (uX x xs)
theorem t5 (p:R3):∀(xs:List R3),∃ys,p::xs=ys++[xu p xs]
 |[]=>⟨[],rfl⟩
 |x::xs=>by obtain⟨ys,e⟩:=t5 x xs;exact⟨p::ys,zg (p::·) e⟩
def chain:R3->List R3->List (R3×R3)
 |_,[]=>[]
 |p,x::xs=>(p,x)::chain x xs
theorem nh (p:R3):∀(xs ys:List R3),chain p (xs++ys)=chain p xs++chain (xu p xs) ys
 |[],_=>rfl
 |x::xs,ys=>by show(p,x)::chain x (xs++ys)=(p,x)::(chain x xs++chain (xu x xs) ys);rw[nh x xs ys]
def yX:List R3->List (R3×R3)
 |[]=>[]
 |x::xs=>chain (xu x xs) (x::xs)
def dZ:yX ((x::xs)++(y::ys))=chain (xu y ys) (x::xs)++chain (xu x xs) (y::ys):=by show chain (xu x (xs++y::ys)) ((x::xs)++(y::ys))=_;rw[lu,nh];rfl
theorem EJ (a b:List R3):∃c d,yX (a++b)=c++d/\yX (b++a)=d++c:=by
 cases a with
 |nil=>exact⟨[],yX b,by simp,by simp⟩
 |cons x xs=>
  cases b with
  |nil=>exact⟨[],yX (x::xs),by simp,by simp⟩
  |cons y ys=>exact⟨_,_,dZ,dZ⟩
def Nx (h:p∈yX (b++a)):p∈yX (a++b):=by obtain⟨c,d,e1,e2⟩:=EJ a b;rw[e2] at h;rw[e1];exact yz.mpr ((yz.mp h).symm)
theorem nZ:∀ {p:R3} {l:List R3},(x,y)∈chain p l->∃s t,p::l=s++x::y::t
 |_,[],h=>by simp[chain] at h
 |p,z::l,h=>by
  rcases xX.mp h with e|h
  .injection e with e1 e2;subst e1 e2;exact⟨[],l,rfl⟩
  .obtain⟨s,t,e⟩:=nZ h;exact⟨p::s,t,by rw[e];rfl⟩
theorem oz:∀ {s:List R3} {p:R3} {l t:List R3},p::l=s++x::y::t->(x,y)∈chain p l
 |[],p,l,t,h=>by injection h with h1 h2;subst h1 h2;exact xU
 |a::s,p,l,t,h=>by
  injection h with h1 h2;subst h1;cases l with
  |nil=>cases s<;>cases h2
  |cons z l=>exact yI _ (oz (s:=s) h2)
theorem Ccw.edge (h:Ccw l)(he:(u,v)∈yX l)(hw:w∈l):0<=det u v w:=by
 cases l with
 |nil=>simp at hw
 |cons x xs=>
  have he:(u,v)∈(xu x xs,x)::chain x xs:=he;rcases xX.mp he with e|he
  .injection e with e1 e2;subst e1 e2;obtain⟨ys,e⟩:=t5 v xs;generalize xu v xs=L at e ⊢;cases ys with
   |nil=>injection e with e1 e2;rw[<-e1,rF];exact wB _
   |cons y ys=>
    injection e with e1 e2;subst e1;have e2:xs=ys++[L]:=e2;rw[e2] at hw;rcases xX.mp hw with rfl|hw
    .rw[fE];exact wB _
    .rcases yz.mp hw with hw|hw
     .have:=h.tri v w L (by rw[e2];exact((vq.mpr hw).append (mo [L])).cons_cons v)
      rw[je] at this;exact yl this
     .have:w=L:=by simpa using hw
      rw[this,rG];exact wB _
  .obtain⟨s,t,e⟩:=nZ he;rw[e] at hw;rcases yz.mp hw with hw|hw
   .have:=h.tri w u v (by rw[e];exact(vq.mpr hw).append ((mo [u,v]).trans (by simp)))
    rw[qj] at this;lia
   .rcases xX.mp hw with rfl|hw
    .rw[rG];exact wB _
    .rcases xX.mp hw with rfl|hw
     .rw[fE];exact wB _
     .have:=h.tri u v w (by rw[e];exact((((vq.mpr hw).cons_cons v).cons_cons u)).trans (aQ s _))
      lia
theorem fan (x p:R3):∀(y:R3) (ys:List R3),(∀u v,(u,v)∈chain y ys->0<det x u v/\0<=det u v p)->0<=det x y p->det x (xu y ys) p<=0->ys≠[]->∃u v,(u,v)∈chain y ys/\0<=det x u p/\det x v p<=0
 |y,[],_,_,_,h=>absurd rfl h
 |y,z::ys,hc,h0,h1,_=>by
  rcases y4 0 (det x z p) with c|c
  .cases ys with
   |nil=>exact absurd h1 (by show ¬det x z p<=0;lia)
   |cons a ys=>obtain⟨u,v,m,h2,h3⟩:=fan x p z (a::ys) (λu v m=>hc u v (yI _ m)) (yl c) h1 (by simp);exact⟨u,v,yI _ m,h2,h3⟩
  .exact⟨y,z,xU,h0,c⟩
theorem Ccw.incone (h:Ccw l)(h3:3<=l.length)(hp:∀u v,(u,v)∈yX l->0<=det u v p):InC l p:=by
 match l,h,h3,hp with
 |x::y::z::t,h,_,hp=>
  have he:∀u v,(u,v)∈chain y (z::t)->0<det x u v/\0<=det u v p:=λu v m=>by obtain⟨s,s2,e⟩:=nZ m;refine⟨h.tri x u v ?_,hp u v (yI _ (yI _ m))⟩;rw[e];exact(((mo [u,v]).trans (show List.Sublist [u,v] (u::v::s2) by simp)).trans (aQ s _)).cons_cons x
  have h0:0<=det x y p:=hp x y (yI _ xU);have h1:0<=det (xu x (y::z::t)) x p:=hp _ _ xU;have h1':det x (xu y (z::t)) p<=0:=by have e:det x (xu y (z::t)) p = - det (xu x (y::z::t)) x p:=LJ _ _ _;lia
  obtain⟨u,v,m,h2,h3⟩:=fan x p y (z::t) he h0 h1' (by simp);obtain⟨d1,d2⟩:=he u v m;have mem:∀w,w=u\/w=v->w∈x::y::z::t:=λw hw=>by
   obtain⟨s,s2,e⟩:=nZ m;have:w∈y::z::t:=by rw[e];rcases hw with rfl|rfl<;>simp
   exact yI _ this
  refine⟨det x u v,d1,?_⟩;rw[EC x u v p];have c1:0<=det p u v:=by rw[qj];exact d2
  have c2:0<=det x p v:=by rw[oQ];lia
  exact((Cn.mem xU).smul c1).add (((Cn.mem (mem u (.inl rfl))).smul c2).add ((Cn.mem (mem v (.inr rfl))).smul h2))
def turn (r s:R3):Int:=r.1*s.2.1-r.2.1*s.1
def yQ (w:R3):Nat:=Int.gcd (Int.gcd w.1 w.2.1:Int) w.2.2
def red (w:R3):R3:=(w.1/yQ w,w.2.1/yQ w,w.2.2/yQ w)
def FI (w:R3):(yQ w:Int)∣w.1/\(yQ w:Int)∣w.2.1/\(yQ w:Int)∣w.2.2:=by have h1:(yQ w:Int)∣(Int.gcd w.1 w.2.1:Int):=j5 ..;exact⟨Int.dvd_trans h1 (j5 ..),Int.dvd_trans h1 (dj ..),dj ..⟩
def LV (h1:d∣w.1)(h2:d∣w.2.1)(h3:d∣w.2.2):d∣(yQ w:Int):=jv (jv h1 h2) h3
def sj (h:0<w.2.2):0<(yQ w:Int):=by have:=mf (Int.gcd w.1 w.2.1:Int) (show w.2.2≠0 by lia);unfold yQ;lia
def ba:mul (yQ w) (red w)=w:=by obtain⟨h1,h2,h3⟩:=FI w;exact ext3 (dm h1) (dm h2) (dm h3)
def Ij (h:0<w.2.2):0<(red w).2.2:=by have e:(yQ w:Int)*(red w).2.2=w.2.2:=zg (·.2.2) (ba (w:=w));exact jY (sj h) (by rw[e];exact h)
def Mr (h:0<w.2.2):yQ (red w)=1:=by
 obtain⟨h1,h2,h3⟩:=FI (red w);have g:=sj h;have d:(yQ w:Int)*(yQ (red w):Int)∣(yQ w:Int):=by
  have e:=ba (w:=w);refine LV ?_ ?_ ?_
  .conv=>rhs;rw[<-e]
   exact J4 _ h1
  .conv=>rhs;rw[<-e]
   exact J4 _ h2
  .conv=>rhs;rw[<-e]
   exact J4 _ h3
 have d2:(yQ (red w):Int)∣1:=by
  have:(yQ w:Int)*(yQ (red w):Int)∣(yQ w:Int)*1:=by rw[g6];exact d
  exact Int.dvd_of_mul_dvd_mul_left (by lia) this
 have:=Int.le_of_dvd (by decide) d2;have p:=sj (Ij h);lia
def oE (hg:yQ v=1)(hz:0<v.2.2)(hs:val s v=0)(ht:val t v=0)(hn:turn s t≠0) :
  v.2.2<=(turn s t).natAbs/\v.1.natAbs<=(s.2.2*t.2.1-t.2.2*s.2.1).natAbs/\v.2.1.natAbs<=(t.2.2*s.1-s.2.2*t.1).natAbs:=by
 have e1:turn s t*v.1=v.2.2*(s.2.2*t.2.1-t.2.2*s.2.1):=by
  have:turn s t*v.1=v.2.2*(s.2.2*t.2.1-t.2.2*s.2.1)+t.2.1*val s v-s.2.1*val t v:=by simp only[turn,val];grind
  rw[hs,ht] at this;rw[this];grind
 have e2:turn s t*v.2.1=v.2.2*(t.2.2*s.1-s.2.2*t.1):=by
  have:turn s t*v.2.1=v.2.2*(t.2.2*s.1-s.2.2*t.1)+s.1*val t v-t.1*val s v:=by simp only[turn,val];grind
  rw[hs,ht] at this;rw[this];grind
 have dv:v.2.2∣turn s t:=by
  have h1:v.2.2∣turn s t*v.1:=⟨_,e1⟩
  have h2:v.2.2∣turn s t*v.2.1:=⟨_,e2⟩
  have h3:v.2.2∣turn s t*v.2.2:=JX ..;have g12:v.2.2∣turn s t*(Int.gcd v.1 v.2.1:Int):=by
   have:=jv h1 h2;rw[BM] at this;have h4:((turn s t).natAbs*Int.gcd v.1 v.2.1:Nat)=((turn s t*(Int.gcd v.1 v.2.1:Int)).natAbs:Nat):=by rw[u9];rfl
   rw[h4] at this;exact cZ.mp this
  have g3:=jv g12 h3;rw[BM] at g3;have hg':Int.gcd (Int.gcd v.1 v.2.1:Int) v.2.2=1:=hg;rw[hg',Nat.mul_one] at g3;exact cZ.mp g3
 have zl:v.2.2<=(turn s t).natAbs:=by have h:=Int.le_of_dvd (show(0:Int)<((turn s t).natAbs:Int) by lia) (cZ.mpr dv);exact h
 refine⟨zl,?_,?_⟩
 .have h:=zg Int.natAbs e1;rw[u9,u9] at h;rcases Cc (s.2.2*t.2.1-t.2.2*s.2.1).natAbs v.1.natAbs with c|c
  .exfalso;have h1:v.2.2.natAbs<=(turn s t).natAbs:=by lia
   have h2:0<v.2.2.natAbs:=by lia
   have h3:v.2.2.natAbs*(s.2.2*t.2.1-t.2.2*s.2.1).natAbs<v.2.2.natAbs*v.1.natAbs:=Nat.mul_lt_mul_of_pos_left c h2;have h4:v.2.2.natAbs*v.1.natAbs<=(turn s t).natAbs*v.1.natAbs:=Cf _ h1;lia
  .exact c
 .have h:=zg Int.natAbs e2;rw[u9,u9] at h;rcases Cc (t.2.2*s.1-s.2.2*t.1).natAbs v.2.1.natAbs with c|c
  .exfalso;have h1:v.2.2.natAbs<=(turn s t).natAbs:=by lia
   have h2:0<v.2.2.natAbs:=by lia
   have h3:v.2.2.natAbs*(t.2.2*s.1-s.2.2*t.1).natAbs<v.2.2.natAbs*v.2.1.natAbs:=Nat.mul_lt_mul_of_pos_left c h2;have h4:v.2.2.natAbs*v.2.1.natAbs<=(turn s t).natAbs*v.2.1.natAbs:=Cf _ h1;lia
  .exact c
def abs (i:Int):Int:=if i<0 then -i else i
def cw (r u v:R3):R3:=add (mul (abs (val r v)) u) (mul (abs (val r u)) v)
def x_ (r u v:R3):R3:=red (cw r u v)
def EH (r u v:R3):cw r u v=cw r v u:=by apply ext3<;>simp only[cw,add]<;>lia
structure Bt (u v x:R3)(a b g:Int):Prop where
 pa:0<a
 pb:0<b
 pg:0<g
 e:mul g x=add (mul a u) (mul b v)
def rD (hu:0<u.2.2)(hv:0<v.2.2)(h:val r u*val r v<0):Bt u v (x_ r u v) (abs (val r v)) (abs (val r u)) (yQ (cw r u v))/\val r (x_ r u v)=0/\0<(x_ r u v).2.2/\yQ (x_ r u v)=1:=by
 have sg:(val r u<0/\0<val r v)\/(0<val r u/\val r v<0):=by
  rcases j7 (val r u) 0 with c|c|c
  .rcases y4 0 (val r v) with d|d
   .exact .inl ⟨c,d⟩
   .have:=nn (yl c) d;lia
  .rw[c] at h;simp at h
  .rcases y4 (val r v) 0 with d|d
   .exact .inr ⟨c,d⟩
   .have:=pz (yl c) d;lia
 have p1:0<abs (val r v):=by unfold abs;split<;>lia
 have p2:0<abs (val r u):=by unfold abs;split<;>lia
 have hz:0<(cw r u v).2.2:=by show 0<abs (val r v)*u.2.2+abs (val r u)*v.2.2;have:=pp p1 hu;have:=pp p2 hv;lia
 have v0:val r (cw r u v)=0:=by
  unfold cw;rw[val_add,val_mul,val_mul];rcases sg with ⟨c,d⟩|⟨c,d⟩
  .have e1:abs (val r v)=val r v:=by unfold abs;rw[xG (by lia)]
   have e2:abs (val r u) = - val r u:=by unfold abs;rw[xJ c]
   rw[e1,e2];grind
  .have e1:abs (val r v) = - val r v:=by unfold abs;rw[xJ d]
   have e2:abs (val r u)=val r u:=by unfold abs;rw[xG (by lia)]
   rw[e1,e2];grind
 refine⟨⟨p1,p2,sj hz,ba⟩,?_,Ij hz,Mr hz⟩;have:=zg (val r) (ba (w:=cw r u v));rw[val_mul,v0] at this;exact JR (sj hz) this
theorem Bt.val (h:Bt u v x a b g)(r:R3):g*Pol.val r x=a*Pol.val r u+b*Pol.val r v:=by have:=zg (Pol.val r) h.e;rwa [val_mul,val_add,val_mul,val_mul] at this
theorem Bt.det (h:Bt u v x a b g)(p q:R3):g*Pol.det p q x=a*Pol.det p q u+b*Pol.det p q v:=by have:=zg (Pol.det p q) h.e;rwa [fD,oP,fD,fD] at this
def Bt.kept (h:Bt u v x a b g)(hu:Pol.val r u<=0)(hv:Pol.val r v<=0):Pol.val r x<=0:=by have:=h.val r;have:=pn (yl h.pa) hu;have:=pn (yl h.pb) hv;exact NN h.pg (by lia)
def Bt.tight (h:Bt u v x a b g)(hu:Pol.val r u=0)(hv:Pol.val r v=0):Pol.val r x=0:=by have:=h.val r;rw[hu,hv] at this;exact JR h.pg (by lia)
def unlike (hs:s.1≠0\/s.2.1≠0)(hu:0<u.2.2)(hv:0<v.2.2)(su:val s u=0)(sv:val s v=0)(h:val r u*val r v<0):turn s r≠0:=by
 intro z;have e:s.1*(val r u*v.2.2-val r v*u.2.2)=r.1*(val s u*v.2.2-val s v*u.2.2)+turn s r*(u.2.1*v.2.2-v.2.1*u.2.2):=by simp only[val,turn];grind
 have e':s.2.1*(val r u*v.2.2-val r v*u.2.2)=r.2.1*(val s u*v.2.2-val s v*u.2.2)-turn s r*(u.1*v.2.2-v.1*u.2.2):=by simp only[val,turn];grind
 rw[z,su,sv] at e e';have k:val r u*v.2.2-val r v*u.2.2=0:=by
  rcases hs with c|c
  .have e:s.1*(val r u*v.2.2-val r v*u.2.2)=0:=by rw[e];grind
   exact(vp.mp e).resolve_left c
  .have e':s.2.1*(val r u*v.2.2-val r v*u.2.2)=0:=by rw[e'];grind
   exact(vp.mp e').resolve_left c
 rcases j7 (val r u) 0 with c|c|c
 .have d:0<val r v:=by
   rcases y4 0 (val r v) with d|d
   .exact d
   .have:=nn (yl c) d;lia
  have:=c_ c hv;have:=pp d hu;lia
 .rw[c] at h;simp at h
 .have d:val r v<0:=by
   rcases y4 (val r v) 0 with d|d
   .exact d
   .have:=pz (yl c) d;lia
  have:=c_ d hu;have:=pp c hv;lia
def seg (r:R3)(p:R3×R3):List R3:=(if val r p.1*val r p.2<0 then[x_ r p.1 p.2] else[])++(if val r p.2<=0 then[p.2] else[])
def wV (r:R3)(l:List R3):List R3:=(yX l).flatMap (seg r)
def oI (r:R3)(a b:List R3):∃c d,wV r (a++b)=c++d/\wV r (b++a)=d++c:=by obtain⟨c,d,e1,e2⟩:=EJ a b;exact⟨c.flatMap (seg r),d.flatMap (seg r),by unfold wV;rw[e1,pE],by unfold wV;rw[e2,pE]⟩
theorem oB:∀ {p:R3} {P:List R3},0<val r p->(∀v∈P,0<val r v)->(chain p P).flatMap (seg r)=[]
 |p,[],_,_=>rfl
 |p,x::P,hp,h=>by
  have hx:=h x xU;show seg r (p,x)++(chain x P).flatMap (seg r)=[]
  rw[oB hx λv hv=>h v (yI _ hv),uH];unfold seg;rw[xG (show ¬val r p*val r x<0 by have:=pp hp hx;lia),xG (show ¬val r x<=0 by lia)];rfl
theorem oA:∀ {p:R3} {Q:List R3},val r p<=0->(∀v∈Q,val r v<=0)->(chain p Q).flatMap (seg r)=Q
 |p,[],_,_=>rfl
 |p,x::Q,hp,h=>by have hx:=h x xU;show seg r (p,x)++(chain x Q).flatMap (seg r)=x::Q;rw[oA hx λv hv=>h v (yI _ hv)];unfold seg;rw[xG (show ¬val r p*val r x<0 by have:=nn hp hx;lia),xJ (show val r (p,x).2<=0 from hx)];rfl
def bef (r p q:R3):List R3:=if val r q<0 then[x_ r p q] else[]
def SR (hp:0<val r p)(hq:val r q<=0):seg r (p,q)=bef r p q++[q]:=by
 unfold seg bef;rw[xJ (show val r (p,q).2<=0 from hq)];by_cases c:val r q<0
 .rw[xJ c,xJ (show val r (p,q).1*val r (p,q).2<0 from jw hp c)]
 .rw[xG c,xG (show ¬val r (p,q).1*val r (p,q).2<0 from by
   have e:val r q=0:=by lia
   show ¬val r p*val r q<0;rw[e];simp)]
def SS (hp:0<val r p)(hq:val r q<=0):seg r (q,p)=bef r p q:=by
 unfold seg bef;rw[xG (show ¬val r (q,p).2<=0 from by show ¬val r p<=0;lia),uH];by_cases c:val r q<0
 .rw[xJ c,xJ (show val r (q,p).1*val r (q,p).2<0 from c_ c hp)];unfold x_;rw[EH]
 .rw[xG c,xG (show ¬val r (q,p).1*val r (q,p).2<0 from by
   have e:val r q=0:=by lia
   show ¬val r q*val r p<0;rw[e];simp)]
def EF (hP:∀v∈p1::P,0<val r v)(hQ:∀v∈q1::Q,val r v<=0) :
  wV r ((p1::P)++(q1::Q))=bef r p1 (xu q1 Q)++(bef r (xu p1 P) q1++q1::Q):=by
 unfold wV;rw[dZ,pE];have h1:=hP p1 xU;have h2:=hQ q1 xU;have h3:=hQ _ (uX q1 Q);have h4:=hP _ (uX p1 P);have e1:(chain (xu q1 Q) (p1::P)).flatMap (seg r)=bef r p1 (xu q1 Q):=by show seg r (xu q1 Q,p1)++(chain p1 P).flatMap (seg r)=_;rw[oB h1 λv hv=>hP v (yI _ hv),uH,SS h1 h3]
 have e2:(chain (xu p1 P) (q1::Q)).flatMap (seg r)=bef r (xu p1 P) q1++q1::Q:=by show seg r (xu p1 P,q1)++(chain q1 Q).flatMap (seg r)=_;rw[oA h2 λv hv=>hQ v (yI _ hv),SR h4 h2,qz];rfl
 rw[e1,e2]
structure Good (Ls l:List R3):Prop where
 ccw:Ccw l
 bot:∀v∈l,0<v.2.2
 prim:∀v∈l,yQ v=1
 kept:∀v∈l,∀s∈Ls,val s v<=0
 edge:∀u v,(u,v)∈yX l->u≠v->∃s∈Ls,val s u=0/\val s v=0
 two:∀v∈l,∃s∈Ls,∃t∈Ls,val s v=0/\val t v=0/\turn s t≠0
 all:∀p:R3,0<p.2.2->(∀s∈Ls,val s p<=0)->InC l p
theorem Good.rot (h:Good Ls (a++b)):Good Ls (b++a) where
 ccw:=h.ccw.rot
 bot:=λv hv=>h.bot v (by simpa [or_comm] using hv)
 prim:=λv hv=>h.prim v (by simpa [or_comm] using hv)
 kept:=λv hv=>h.kept v (by simpa [or_comm] using hv)
 edge:=λu v e=>h.edge u v (Nx e)
 two:=λv hv=>h.two v (by simpa [or_comm] using hv)
 all:=λp h0 h1=>by obtain⟨m,hm,c⟩:=h.all p h0 h1;exact⟨m,hm,c.mono λv hv=>.mem (by simpa [or_comm] using hv)⟩
theorem L6:∀ {l:List R3},List.Sublist [a,b] l->3<=l.length->∃c,List.Sublist [c,a,b] l\/List.Sublist [a,c,b] l\/List.Sublist [a,b,c] l
 |[],_,h=>absurd h (by simp)
 |x::l,s,h=>by
  cases s with
  |cons _ s=>exact⟨x,.inl (s.cons_cons x)⟩
  |cons_cons _ s=>
   have hl:2<=l.length:=by simpa using h
   have hb:b∈l:=vq.mp s;obtain⟨s1,s2,e⟩:=List.append_of_mem hb;cases s1 with
   |cons c s1=>refine⟨c,.inr (.inl ?_)⟩;rw[e];have:List.Sublist [c,b] (c::s1++b::s2):=(vq.mpr xU).append (vq.mpr xU);exact this.cons_cons a
   |nil=>
    cases s2 with
    |nil=>rw[e] at hl;simp at hl
    |cons c s2=>refine⟨c,.inr (.inr ?_)⟩;rw[e];simp
def GU (h:∀u v w:R3,List.Sublist [u,v,w] l->0<det u v w)(h3:3<=l.length):l.Nodup:=by
 refine dA.mpr λ {a b} s e=>?_;subst e;obtain⟨c,s|s|s⟩:=L6 s h3
 .have:=h _ _ _ s;rw[fE] at this;lia
 .have:=h _ _ _ s;rw[rG] at this;lia
 .have:=h _ _ _ s;rw[rF] at this;lia
theorem Gr (h:P≠[]):List.Sublist [p,xu p P] (p::P):=by
 cases P with
 |nil=>exact absurd rfl h
 |cons y ys=>exact(vq.mpr (show xu p (y::ys)∈y::ys from uX y ys)).cons_cons p
structure Bw (u v x:R3)(a b g:Int):Prop where
 pa:0<=a
 pb:0<b
 pg:0<g
 e:mul g x=add (mul a u) (mul b v)
def Bt.w (h:Bt u v x a b g):Bw u v x a b g:=⟨yl h.pa,h.pb,h.pg,h.e⟩
def Bw.self (u v:R3):Bw u v v 0 1 1:=⟨by lia,by lia,by lia,by apply ext3<;>simp[mul,add]⟩
theorem Bw.det (h:Bw u v x a b g)(p q:R3):g*Pol.det p q x=a*Pol.det p q u+b*Pol.det p q v:=by have:=zg (Pol.det p q) h.e;rwa [fD,oP,fD,fD] at this
section
variable {Ls P Q:List R3} {r p1 q1:R3}
structure h8 (Ls:List R3)(r p1 q1:R3)(P Q:List R3):Prop where
 good:Good Ls ((p1::P)++(q1::Q))
 hP:∀v∈p1::P,0<val r v
 hQ:∀v∈q1::Q,val r v<=0
 three:P≠[]\/Q≠[]
 dir:∀s∈Ls,s.1≠0\/s.2.1≠0
namespace h8
variable (S:h8 Ls r p1 q1 P Q)
include S
def q1le:val r q1<=0:=S.hQ q1 xU
def qmle:val r (xu q1 Q)<=0:=S.hQ _ (uX q1 Q)
def p1gt:0<val r p1:=S.hP p1 xU
def pkgt:0<val r (xu p1 P):=S.hP _ (uX p1 P)
def botQ (h:v∈q1::Q):0<v.2.2:=S.good.bot v (wZ _ h)
def botP (h:v∈p1::P):0<v.2.2:=S.good.bot v (zf _ h)
def pqq (hp:p∈p1::P)(s:List.Sublist [x,y] (q1::Q)):0<det p x y:=S.good.ccw.tri p x y ((vq.mpr hp).append s)
def ppq (hp:List.Sublist [p,p'] (p1::P))(hx:x∈q1::Q):0<det p p' x:=S.good.ccw.tri p p' x (hp.append (vq.mpr hx))
def qqq (s:List.Sublist [x,y,z] (q1::Q)):0<det x y z:=S.good.ccw.tri x y z (s.trans (aQ _ _))
theorem q1xy (s:List.Sublist [x,y] (q1::Q)):0<=det q1 x y:=by
 cases s with
 |cons _ s=>exact yl (S.qqq (s.cons_cons q1))
 |cons_cons _ s=>rw[rF];exact wB _
theorem xyqm (s:List.Sublist [x,y] (q1::Q)):0<=det x y (xu q1 Q):=by
 obtain⟨ys,e⟩:=t5 q1 Q;have s':=s;rw[e] at s';obtain⟨l1,l2,e2,s1,s2⟩:=B_.mp s';cases l2 with
 |nil=>rw[uH] at e2;subst e2;have:=S.qqq (x:=x) (y:=y) (z:=xu q1 Q) (by rw[e];exact s1.append (mo [xu q1 Q]));lia
 |cons b l2=>
  have hb:b=xu q1 Q/\l2=[]:=by
   cases s2 with
   |cons _ s2=>cases s2
   |cons_cons _ s2=>cases s2;exact⟨rfl,rfl⟩
  obtain⟨hb,rfl⟩:=hb;have:y=b:=by
   cases l1 with
   |nil=>cases e2
   |cons c l1=>
    cases l1 with
    |nil=>injection e2 with _ e2;injection e2
    |cons d l1=>injection e2 with _ e2;injection e2 with _ e2;simp at e2
  rw[this,hb,fE];exact wB _
theorem nd:((p1::P)++(q1::Q)).Nodup:=S.good.ccw.nd
def p1pkx (hx:x∈q1::Q):0<=det p1 (xu p1 P) x/\(P≠[]->0<det p1 (xu p1 P) x):=by
 by_cases h:P=[]
 .subst h;exact⟨by show 0<=det p1 p1 x;rw[rF];exact wB _,λz=>absurd rfl z⟩
 .have:=S.ppq (Gr h) hx;exact⟨by lia,λ_=>this⟩
def pq1x (hp:p∈p1::P)(hx:x∈q1::Q):0<=det p q1 x/\(x≠q1->0<det p q1 x):=by
 rcases xX.mp hx with rfl|hx
 .exact⟨by rw[fE];exact wB _,λz=>absurd rfl z⟩
 .have:=S.pqq hp ((vq.mpr hx).cons_cons q1);exact⟨by lia,λ_=>this⟩
def pxqm (hp:p∈p1::P)(hx:x∈q1::Q):0<=det p x (xu q1 Q)/\(x≠xu q1 Q->0<det p x (xu q1 Q)):=by
 obtain⟨ys,e⟩:=t5 q1 Q;rw[e] at hx;rcases yz.mp hx with hx|hx
 .have:=S.pqq (x:=x) (y:=xu q1 Q) hp (by rw[e];exact(vq.mpr hx).append (mo [xu q1 Q]));exact⟨by lia,λ_=>this⟩
 .have:x=xu q1 Q:=by simpa using hx
  rw[this];exact⟨by rw[fE];exact wB _,λz=>absurd rfl z⟩
def q1xqm (hx:x∈q1::Q):0<=det q1 x (xu q1 Q):=by
 rcases xX.mp hx with rfl|hx
 .rw[rF];exact wB _
 .exact S.xyqm ((vq.mpr hx).cons_cons q1)
def q1ne (h:Q≠[]):q1≠xu q1 Q:=by have s:=Gr (p:=q1) h;have nd:=(dz.mp S.nd).2.1;exact dA.mp nd s
def w1 (r p1 q1:R3)(P:List R3):R3:=if val r q1<0 then x_ r (xu p1 P) q1 else q1
def u1 (r p1 q1:R3)(Q:List R3):R3:=if val r (xu q1 Q)<0 then x_ r p1 (xu q1 Q) else xu q1 Q
def X1 (h:val r q1<0):Bt (xu p1 P) q1 (x_ r (xu p1 P) q1) (abs (val r q1)) (abs (val r (xu p1 P))) (yQ (cw r (xu p1 P) q1))/\val r (x_ r (xu p1 P) q1)=0/\0<(x_ r (xu p1 P) q1).2.2/\yQ (x_ r (xu p1 P) q1)=1:=rD (S.botP (uX p1 P)) (S.botQ xU) (jw S.pkgt h)
def X2 (h:val r (xu q1 Q)<0):Bt p1 (xu q1 Q) (x_ r p1 (xu q1 Q)) (abs (val r (xu q1 Q))) (abs (val r p1)) (yQ (cw r p1 (xu q1 Q)))/\val r (x_ r p1 (xu q1 Q))=0/\0<(x_ r p1 (xu q1 Q)).2.2/\yQ (x_ r p1 (xu q1 Q))=1:=rD (S.botP xU) (S.botQ (uX q1 Q)) (jw S.p1gt h)
def w1b:∃a b g,Bw (xu p1 P) q1 (w1 r p1 q1 P) a b g/\(val r q1<0->0<a)/\val r (w1 r p1 q1 P)=0:=by
 unfold w1;by_cases h:val r q1<0
 .rw[xJ h];obtain⟨b,z,_⟩:=S.X1 h;exact⟨_,_,_,b.w,λ_=>b.pa,z⟩
 .rw[xG h];exact⟨_,_,_,Bw.self _ _,λz=>absurd z h,by have:=S.q1le;lia⟩
def u1b:∃a b g,Bw p1 (xu q1 Q) (u1 r p1 q1 Q) a b g/\(val r (xu q1 Q)<0->0<a)/\val r (u1 r p1 q1 Q)=0:=by
 unfold u1;by_cases h:val r (xu q1 Q)<0
 .rw[xJ h];obtain⟨b,z,_⟩:=S.X2 h;exact⟨_,_,_,b.w,λ_=>b.pa,z⟩
 .rw[xG h];exact⟨_,_,_,Bw.self _ _,λz=>absurd z h,by have:=S.qmle;lia⟩
def close (hc:val r q1<0\/Q≠[])(hp:val r p<=0):0<=det (u1 r p1 q1 Q) (w1 r p1 q1 P) p:=by
 obtain⟨a,b,g,bw,ha,hw⟩:=S.w1b;obtain⟨c,d,g',bu,hcc,hu⟩:=S.u1b;have e1:=bu.det p1 (w1 r p1 q1 P);rw[rG,vH,pq] at e1;have e2:=bw.det (xu q1 Q) p1;have d1:det (xu q1 Q) p1 (xu p1 P)=det p1 (xu p1 P) (xu q1 Q):=qj _ _ _;have d2:det (xu q1 Q) p1 q1=det p1 q1 (xu q1 Q):=qj _ _ _;rw[d1,d2] at e2;obtain⟨f1,f2⟩:=S.p1pkx (uX q1 Q);obtain⟨f3,f4⟩:=S.pq1x (p:=p1) xU (uX q1 Q);have k1:0<det (xu q1 Q) p1 (w1 r p1 q1 P):=by
  refine jY bw.pg ?_;rw[e2];have n1:=pz bw.pa f1;have n2:=pz (yl bw.pb) f3;by_cases hq:Q=[]
  .have hp':P≠[]:=S.three.resolve_right (λz=>z hq);have h0:val r q1<0:=hc.resolve_right (λz=>z hq);have:=pp (ha h0) (f2 hp');lia
  .have:=pp bw.pb (f4 (zY (S.q1ne hq)));lia
 have d3:det p1 (w1 r p1 q1 P) (xu q1 Q)=det (xu q1 Q) p1 (w1 r p1 q1 P):=je _ _ _;rw[d3] at e1;have k2:0<det p1 (w1 r p1 q1 P) (u1 r p1 q1 Q):=by refine jY bu.pg ?_;rw[e1];exact pp bu.pb k1
 have e3:=RN r (u1 r p1 q1 Q) (w1 r p1 q1 P) p1 p hu hw;have d4:det (u1 r p1 q1 Q) (w1 r p1 q1 P) p1 = - det p1 (w1 r p1 q1 P) (u1 r p1 q1 Q):=by rw[je,oQ]
 rw[d4] at e3;refine fM S.p1gt ?_;rw[<-e3];exact nn hp (by lia)
def left (r p1 q1:R3)(P Q:List R3):List R3:=bef r (xu p1 P) q1++(q1::Q)++bef r p1 (xu q1 Q)
theorem mem_left (h:v∈left r p1 q1 P Q):(v∈q1::Q)\/(val r q1<0/\v=x_ r (xu p1 P) q1)\/(val r (xu q1 Q)<0/\v=x_ r p1 (xu q1 Q)):=by
 unfold left bef at h;rcases yz.mp h with h|h
 .rcases yz.mp h with h|h
  .split at h
   .exact .inr (.inl ⟨by assumption,by simpa using h⟩)
   .simp at h
  .exact .inl h
 .split at h
  .exact .inr (.inr ⟨by assumption,by simpa using h⟩)
  .simp at h
theorem sub_bef (h:List.Sublist l (bef r p q)):l=[]\/(val r q<0/\l=[x_ r p q]):=by
 unfold bef at h;split at h
 .cases h with
  |cons _ h=>cases h;exact .inl rfl
  |cons_cons _ h=>cases h;exact .inr ⟨by assumption,rfl⟩
 .cases h;exact .inl rfl
def tri (s:List.Sublist [u,v,w] (left r p1 q1 P Q)):0<det u v w:=by
 unfold left at s;rw[qz] at s;obtain⟨l1,l2,e,s1,s2⟩:=B_.mp s;obtain⟨l3,l4,e2,s3,s4⟩:=B_.mp s2;have b1:=S.sub_bef s1;have b4:=S.sub_bef s4;subst e2;rcases b1 with rfl|⟨h1,rfl⟩
 .rcases b4 with rfl|⟨h4,rfl⟩
  .have:[u,v,w]=l3:=by simpa using e
   subst this;exact S.qqq s3
  ·-- q q X2
   obtain⟨bt,_⟩:=S.X2 h4;have:l3=[u,v]/\w=x_ r p1 (xu q1 Q):=by
    rcases Jc (show[u,v,w]=l3++[x_ r p1 (xu q1 Q)] from e) with ⟨_,z⟩|⟨_,z⟩|⟨z1,z⟩|⟨_,z⟩
    .cases z
    .cases z
    .cases z;exact⟨z1,rfl⟩
    .cases z
   obtain⟨rfl,rfl⟩:=this;have e3:=bt.det u v;have k1:0<det u v p1:=by rw[je];exact S.pqq xU s3
   have k2:=S.xyqm s3;have:=pp bt.pa k1;have:=pz (yl bt.pb) k2;exact jY bt.pg (by lia)
 .obtain⟨bt,_⟩:=S.X1 h1;rcases b4 with rfl|⟨h4,rfl⟩
  .have:u=x_ r (xu p1 P) q1/\l3=[v,w]:=by injection e with e1 e2;exact⟨e1,by simpa using e2.symm⟩
   obtain⟨rfl,rfl⟩:=this;have e3:=bt.det v w;have k1:0<det v w (xu p1 P):=by rw[je];exact S.pqq (uX p1 P) s3
   have k2:0<=det v w q1:=by rw[je];exact S.q1xy s3
   have:=pp bt.pa k1;have:=pz (yl bt.pb) k2;rw[qj];exact jY bt.pg (by lia)
  .obtain⟨bu,_⟩:=S.X2 h4;have:u=x_ r (xu p1 P) q1/\l3=[v]/\w=x_ r p1 (xu q1 Q):=by
    injection e with e1 e;have e:[v,w]=l3++[x_ r p1 (xu q1 Q)]:=e;cases l3 with
    |nil=>cases e
    |cons a l3=>
     injection e with e2 e;cases l3 with
     |nil=>injection e with e3 _;exact⟨e1,by rw[e2],e3⟩
     |cons b l3=>injection e with _ e;simp at e
   obtain⟨rfl,rfl,rfl⟩:=this;have hv:v∈q1::Q:=vq.mp s3;have e3:=bu.det (x_ r (xu p1 P) q1) v;have e4:=bt.det v p1;have e5:=bt.det v (xu q1 Q);have r1:det v p1 (xu p1 P)=det p1 (xu p1 P) v:=qj _ _ _;have r2:det v p1 q1=det p1 q1 v:=qj _ _ _;have r3:det v (xu q1 Q) (xu p1 P)=det (xu p1 P) v (xu q1 Q):=je _ _ _;have r4:det v (xu q1 Q) q1=det q1 v (xu q1 Q):=je _ _ _;rw[r1,r2] at e4;rw[r3,r4] at e5;obtain⟨f1,f2⟩:=S.p1pkx hv;obtain⟨f3,f4⟩:=S.pq1x (p:=p1) xU hv;obtain⟨f5,f6⟩:=S.pxqm (p:=xu p1 P) (uX p1 P) hv;have f7:=S.q1xqm hv;have n1:=pz (yl bt.pa) f1;have n2:=pz (yl bt.pb) f3;have n3:=pz (yl bt.pa) f5;have n4:=pz (yl bt.pb) f7;have g1:0<=det v p1 (x_ r (xu p1 P) q1):=fM bt.pg (by lia);have g2:0<=det v (xu q1 Q) (x_ r (xu p1 P) q1):=fM bt.pg (by lia);have some:0<det v p1 (x_ r (xu p1 P) q1)\/0<det v (xu q1 Q) (x_ r (xu p1 P) q1):=by
    by_cases hq:Q=[]
    .have hp':P≠[]:=S.three.resolve_right (λz=>z hq);left;have:=pp bt.pa (f2 hp');exact jY bt.pg (by lia)
    .by_cases hv1:v=q1
     .right;have:=pp bt.pa (f6 (by rw[hv1];exact S.q1ne hq));exact jY bt.pg (by lia)
     .left;have:=pp bt.pb (f4 hv1);exact jY bt.pg (by lia)
   have m1:det (x_ r (xu p1 P) q1) v p1=det v p1 (x_ r (xu p1 P) q1):=qj _ _ _;have m2:det (x_ r (xu p1 P) q1) v (xu q1 Q)=det v (xu q1 Q) (x_ r (xu p1 P) q1):=qj _ _ _;rw[m1,m2] at e3;refine jY bu.pg ?_;rw[e3];have t1:=pz (yl bu.pa) g1;have t2:=pz (yl bu.pb) g2;rcases some with z|z
   .have:=pp bu.pa z;lia
   .have:=pp bu.pb z;lia
end h8
end
end Pol
open Pol
namespace Pol
section
variable {Ls P Q:List R3} {r p1 q1:R3}
namespace h8
variable (S:h8 Ls r p1 q1 P Q)
include S
theorem pairs (h:(u,v)∈yX (left r p1 q1 P Q)):(u=u1 r p1 q1 Q/\v=w1 r p1 q1 P)\/(val r q1<0/\u=x_ r (xu p1 P) q1/\v=q1)\/(val r (xu q1 Q)<0/\u=xu q1 Q/\v=x_ r p1 (xu q1 Q))\/(u,v)∈chain q1 Q:=by
 unfold left bef at h;unfold u1 w1;by_cases h1:val r q1<0
 .by_cases h2:val r (xu q1 Q)<0
  .simp only[xJ h1,xJ h2,g9,qC] at h ⊢;have e:yX (x_ r (xu p1 P) q1::q1::(Q++[x_ r p1 (xu q1 Q)]))=(x_ r p1 (xu q1 Q),x_ r (xu p1 P) q1)::(x_ r (xu p1 P) q1,q1)::(chain q1 Q++[(xu q1 Q,x_ r p1 (xu q1 Q))]):=by show(xu q1 (Q++[_]),_)::(_,q1)::chain q1 (Q++[_])=_;rw[Gq,nh];rfl
   rw[e] at h;rcases xX.mp h with h|h
   .injection h with a b;exact .inl ⟨a,b⟩
   .rcases xX.mp h with h|h
    .injection h with a b;exact .inr (.inl ⟨h1,a,b⟩)
    .rcases yz.mp h with h|h
     .exact .inr (.inr (.inr h))
     .have h:=zF.mp h;injection h with a b;exact .inr (.inr (.inl ⟨h2,a,b⟩))
  .simp only[xJ h1,xG h2,g9,qC,uH] at h ⊢;have e:yX (x_ r (xu p1 P) q1::q1::Q)=(xu q1 Q,x_ r (xu p1 P) q1)::(x_ r (xu p1 P) q1,q1)::chain q1 Q:=rfl;rw[e] at h;rcases xX.mp h with h|h
   .injection h with a b;exact .inl ⟨a,b⟩
   .rcases xX.mp h with h|h
    .injection h with a b;exact .inr (.inl ⟨h1,a,b⟩)
    .exact .inr (.inr (.inr h))
 .by_cases h2:val r (xu q1 Q)<0
  .simp only[xG h1,xJ h2,g9,qC] at h ⊢;have e:yX (q1::(Q++[x_ r p1 (xu q1 Q)]))=(x_ r p1 (xu q1 Q),q1)::(chain q1 Q++[(xu q1 Q,x_ r p1 (xu q1 Q))]):=by show(xu q1 (Q++[_]),_)::chain q1 (Q++[_])=_;rw[Gq,nh];rfl
   rw[e] at h;rcases xX.mp h with h|h
   .injection h with a b;exact .inl ⟨a,b⟩
   .rcases yz.mp h with h|h
    .exact .inr (.inr (.inr h))
    .have h:=zF.mp h;injection h with a b;exact .inr (.inr (.inl ⟨h2,a,b⟩))
  .simp only[xG h1,xG h2,g9,qC,uH] at h ⊢;have e:yX (q1::Q)=(xu q1 Q,q1)::chain q1 Q:=rfl;rw[e] at h;rcases xX.mp h with h|h
   .injection h with a b;exact .inl ⟨a,b⟩
   .exact .inr (.inr (.inr h))
theorem old1:(xu p1 P,q1)∈yX ((p1::P)++(q1::Q)):=by rw[dZ];exact wZ _ xU
theorem old2:(xu q1 Q,p1)∈yX ((p1::P)++(q1::Q)):=by rw[dZ];exact zf _ xU
theorem old3 (h:(u,v)∈chain q1 Q):(u,v)∈yX ((p1::P)++(q1::Q)):=by rw[dZ];exact wZ _ (yI _ h)
def pk_ne:xu p1 P≠q1:=λe=>by have:=S.pkgt;have:=S.q1le;rw[e] at *;lia
def p1_ne:xu q1 Q≠p1:=λe=>by have:=S.p1gt;have:=S.qmle;rw[e] at *;lia
theorem len_left:(val r q1<0\/val r (xu q1 Q)<0\/2<=Q.length)->3<=(left r p1 q1 P Q).length:=by
 intro h;unfold left bef;by_cases hq:Q=[]
 .subst hq;have h':val r q1<0:=by
   rcases h with h|h|h
   .exact h
   .exact h
   .simp at h
  rw[xJ h',xJ (show val r (xu q1 [])<0 from h')];simp
 .have l1:1<=Q.length:=by
   cases Q with
   |nil=>exact absurd rfl hq
   |cons _ _=>simp
  rcases h with h|h|h
  .rw[xJ h];simp;lia
  .rw[xJ h];simp;lia
  .simp;lia
def small (h:¬(val r q1<0\/val r (xu q1 Q)<0\/2<=Q.length)):left r p1 q1 P Q=q1::Q/\∀v∈q1::Q,val r v=0:=by
 have h1:¬val r q1<0:=λz=>h (.inl z);have h2:¬val r (xu q1 Q)<0:=λz=>h (.inr (.inl z));have h3:¬2<=Q.length:=λz=>h (.inr (.inr z));refine⟨by unfold left bef;rw[xG h1,xG h2];simp,λv hv=>?_⟩;have a:=S.q1le;have b:=S.qmle;rcases xX.mp hv with rfl|hv
 .lia
 .match Q,hv,h3,b,h2 with
  |[x],hv,_,b,h2=>
   have:v=x:=by simpa using hv
   subst this;have b:val r v<=0:=b;have h2:¬val r v<0:=h2;lia
  |_::_::_,_,h3,_,_=>exact absurd (by simp) h3
def good_left:Good (Ls++[r]) (left r p1 q1 P Q):=by
 have keptOld:∀s∈Ls,∀v∈(p1::P)++(q1::Q),val s v<=0:=λs hs v hv=>S.good.kept v hv s hs;have mP:∀ {v},v∈p1::P->v∈(p1::P)++(q1::Q):=λh=>zf _ h;have mQ:∀ {v},v∈q1::Q->v∈(p1::P)++(q1::Q):=λh=>wZ _ h;refine⟨⟨λu v w s=>S.tri s,?_⟩,λv hv=>?_,λv hv=>?_,λv hv s hs=>?_,λu v he hne=>?_,λv hv=>?_,λp h0 hp=>?_⟩
 .by_cases c:val r q1<0\/val r (xu q1 Q)<0\/2<=Q.length
  .exact GU (λu v w s=>S.tri s) (S.len_left c)
  .rw[(S.small c).1];exact(dz.mp S.nd).2.1
 .rcases S.mem_left hv with hv|⟨h,rfl⟩|⟨h,rfl⟩
  .exact S.botQ hv
  .exact(S.X1 h).2.2.1
  .exact(S.X2 h).2.2.1
 .rcases S.mem_left hv with hv|⟨h,rfl⟩|⟨h,rfl⟩
  .exact S.good.prim v (mQ hv)
  .exact(S.X1 h).2.2.2
  .exact(S.X2 h).2.2.2
 .rcases yz.mp hs with hs|hs
  .rcases S.mem_left hv with hv|⟨h,rfl⟩|⟨h,rfl⟩
   .exact keptOld s hs v (mQ hv)
   .exact(S.X1 h).1.kept (keptOld s hs _ (mP (uX p1 P))) (keptOld s hs _ (mQ xU))
   .exact(S.X2 h).1.kept (keptOld s hs _ (mP xU)) (keptOld s hs _ (mQ (uX q1 Q)))
  .have:s=r:=by simpa using hs
   subst this;rcases S.mem_left hv with hv|⟨h,rfl⟩|⟨h,rfl⟩
   .exact S.hQ v hv
   .rw[(S.X1 h).2.1];exact wB _
   .rw[(S.X2 h).2.1];exact wB _
 .rcases S.pairs he with ⟨rfl,rfl⟩|⟨h,rfl,rfl⟩|⟨h,rfl,rfl⟩|h
  .obtain⟨_,_,_,_,_,e1⟩:=S.w1b;obtain⟨_,_,_,_,_,e2⟩:=S.u1b;exact⟨r,by simp,e2,e1⟩
  .obtain⟨s,hs,a,b⟩:=S.good.edge _ _ S.old1 S.pk_ne;exact⟨s,zf _ hs,(S.X1 h).1.tight a b,b⟩
  .obtain⟨s,hs,a,b⟩:=S.good.edge _ _ S.old2 S.p1_ne;exact⟨s,zf _ hs,a,(S.X2 h).1.tight b a⟩
  .obtain⟨s,hs,a,b⟩:=S.good.edge _ _ (S.old3 h) hne;exact⟨s,zf _ hs,a,b⟩
 .rcases S.mem_left hv with hv|⟨h,rfl⟩|⟨h,rfl⟩
  .obtain⟨s,hs,t,ht,a,b,c⟩:=S.good.two v (mQ hv);exact⟨s,zf _ hs,t,zf _ ht,a,b,c⟩
  .obtain⟨s,hs,a,b⟩:=S.good.edge _ _ S.old1 S.pk_ne;exact⟨s,zf _ hs,r,by simp,(S.X1 h).1.tight a b,(S.X1 h).2.1,unlike (S.dir s hs) (S.botP (uX p1 P)) (S.botQ xU) a b (jw S.pkgt h)⟩
  .obtain⟨s,hs,a,b⟩:=S.good.edge _ _ S.old2 S.p1_ne;exact⟨s,zf _ hs,r,by simp,(S.X2 h).1.tight b a,(S.X2 h).2.1,unlike (S.dir s hs) (S.botP xU) (S.botQ (uX q1 Q)) b a (jw S.p1gt h)⟩
 .have hpL:∀s∈Ls,val s p<=0:=λs hs=>hp s (zf _ hs);have hpr:val r p<=0:=hp r (by simp);obtain⟨m,hm,cn⟩:=S.good.all p h0 hpL;by_cases c:val r q1<0\/val r (xu q1 Q)<0\/2<=Q.length
  .have he:∀u v,(u,v)∈yX ((p1::P)++(q1::Q))->0<=det u v p:=λu v h=>by have:=cn.det u v λw hw=>S.good.ccw.edge h hw;rw[fD] at this;exact fM hm this
   refine Ccw.incone ⟨λu v w s=>S.tri s,GU (λu v w s=>S.tri s) (S.len_left c)⟩ (S.len_left c) λu v hm'=>?_;rcases S.pairs hm' with ⟨e1,e2⟩|⟨h,e1,e2⟩|⟨h,e1,e2⟩|h
   .rw[e1,e2];refine S.close ?_ hpr;rcases c with c|c|c
    .exact .inl c
    .by_cases hq:Q=[]
     .subst hq;exact .inl c
     .exact .inr hq
    .right;intro z;subst z;simp at c
   .rw[e1,e2];have bt:=(S.X1 h).1;have e:=bt.det q1 p;have r1:det q1 p (xu p1 P)=det (xu p1 P) q1 p:=je _ _ _;rw[r1,rG,vH,aF] at e;have k:=pz (yl bt.pa) (he _ _ S.old1);rw[qj];exact fM bt.pg (by lia)
   .rw[e1,e2];have bt:=(S.X2 h).1;have e:=bt.det p (xu q1 Q);have r1:det p (xu q1 Q) p1=det (xu q1 Q) p1 p:=qj _ _ _;rw[r1,fE,vH,aF] at e;have k:=pz (yl bt.pa) (he _ _ S.old2);rw[je];exact fM bt.pg (by lia)
   .exact he u v (S.old3 h)
  .obtain⟨e,z⟩:=S.small c;refine⟨m,hm,?_⟩;have ge:∀v∈(p1::P)++(q1::Q),0<=val r v:=λv hv=>by
    rcases yz.mp hv with hv|hv
    .have:=S.hP v hv;lia
    .have:=z v hv;lia
   have:=cn.zeros r ge (by rw[val_mul];exact pn (yl hm) hpr);rw[e];refine this.mono λv hv=>?_;obtain⟨hv,hv0⟩:=uR.mp hv;have hv0:val r v=0:=by simpa using hv0
   rcases yz.mp hv with hv|hv
   .have:=S.hP v hv;lia
   .exact .mem hv
end h8
end
end Pol
namespace Pol
def zJ (r:R3)(left:List R3)(p:R3×R3):List R3:=
 let l1:=if val r p.1*val r p.2<0 then(if x_ r p.1 p.2∈left then left else left++[x_ r p.1 p.2]) else left
 if val r p.2<=0 then l1++[p.2] else l1
def uM (l:List R3)(r:R3):List R3:=(yX l).foldl (zJ r) []
def Th (h:(acc++seg r p).Nodup):zJ r acc p=acc++seg r p:=by
 unfold zJ seg at *
 by_cases c:val r p.1*val r p.2<0
 .rw[xJ c] at h ⊢;have hn:x_ r p.1 p.2∉acc:=λz=>by have:=(dz.mp h).2.2 _ z _ (zf _ (zF.mpr rfl));exact this rfl
  simp only[xG hn];split<;>simp
 .rw[xG c] at h ⊢;simp only;split<;>simp
theorem Fz:∀ {ps:List (R3×R3)} {acc:List R3},(acc++ps.flatMap (seg r)).Nodup->ps.foldl (zJ r) acc=acc++ps.flatMap (seg r)
 |[],acc,_=>by simp
 |p::ps,acc,h=>by have h':(acc++(seg r p++ps.flatMap (seg r))).Nodup:=h;rw[<-qz] at h';rw[qA,Th (dz.mp h').1,Fz h',qz];rfl
def dY (h:(wV r l).Nodup):uM l r=wV r l:=by unfold uM;rw[Fz (by simpa [wV] using h)];rfl
theorem fA (h:∀v∈l,val r v<=0):wV r l=l:=by
 cases l with
 |nil=>rfl
 |cons x xs=>exact oA (h _ (uX x xs)) h
theorem rE (h:∀v∈l,0<val r v):wV r l=[]:=by
 cases l with
 |nil=>rfl
 |cons x xs=>exact oB (h _ (uX x xs)) h
def nU (g:Good Ls l)(h:∀v∈l,val r v<=0):Good (Ls++[r]) l where
 ccw:=g.ccw
 bot:=g.bot
 prim:=g.prim
 kept:=λv hv s hs=>by
  rcases yz.mp hs with hs|hs
  .exact g.kept v hv s hs
  .have:s=r:=by simpa using hs
   subst this;exact h v hv
 edge:=λu v he hn=>by obtain⟨s,hs,a⟩:=g.edge u v he hn;exact⟨s,zf _ hs,a⟩
 two:=λv hv=>by obtain⟨s,hs,t,ht,a⟩:=g.two v hv;exact⟨s,zf _ hs,t,zf _ ht,a⟩
 all:=λp h0 hp=>g.all p h0 λs hs=>hp s (zf _ hs)
def rX (g:Good Ls l)(h:∀v∈l,0<=val r v)(hs:List.Sublist l' l)(hl:l'.length<=1)(h0:∀v∈l',val r v=0)(h1:∀v∈l,val r v=0->v∈l'):Good (Ls++[r]) l' where
 ccw:=⟨λu v w s=>by have:=s.length_le;simp at this;lia,g.ccw.nd.sublist hs⟩
 bot:=λv hv=>g.bot v (hs.subset hv)
 prim:=λv hv=>g.prim v (hs.subset hv)
 kept:=λv hv s hs'=>by
  rcases yz.mp hs' with h'|h'
  .exact g.kept v (hs.subset hv) s h'
  .have:s=r:=by simpa using h'
   subst this;rw[h0 v hv];exact wB _
 edge:=λu v he hn=>by
  exfalso
  match l',hl,he with
  |[x],_,he=>
   have:(u,v)=(x,x):=by simpa [yX,chain,xu] using he
   injection this with a b;exact hn (by rw[a,b])
  |[],_,he=>simp[yX] at he
  |_::_::_,hl,_=>simp at hl
 two:=λv hv=>by obtain⟨s,hs',t,ht,a⟩:=g.two v (hs.subset hv);exact⟨s,zf _ hs',t,zf _ ht,a⟩
 all:=λp hz hp=>by
  obtain⟨m,hm,c⟩:=g.all p hz λs hs=>hp s (zf _ hs);refine⟨m,hm,(c.zeros r h ?_).mono λv hv=>?_⟩
  .rw[val_mul];exact pn (yl hm) (hp r (by simp))
  .obtain⟨a,b⟩:=uR.mp hv;exact .mem (h1 v a (by simpa using b))
def FP (g:Good Ls [u,v])(dir:∀s∈Ls,s.1≠0\/s.2.1≠0)(hu:0<val r u)(hv:val r v<0)(hx:x=x_ r u v):Good (Ls++[r]) [x,v]:=by
 subst hx;have bu:=g.bot u (by simp);have bv:=g.bot v (by simp);obtain⟨bt,x0,xb,xp⟩:=rD (r:=r) bu bv (jw hu hv);have ne:u≠v:=λe=>by rw[e] at hu;lia
 obtain⟨s,hs,su,sv⟩:=g.edge u v (by simp[yX,chain,xu]) ne;have nx:x_ r u v≠v:=λe=>by rw[e] at x0;lia
 have sx:=bt.tight su sv;refine⟨⟨λa b c h=>by have:=h.length_le;simp at this,by simp[nx]⟩,λw hw=>?_,λw hw=>?_,λw hw t ht=>?_,λa b he hn=>?_,λw hw=>?_,λp hz hp=>?_⟩
 .simp only[xX,y9,zh] at hw;rcases hw with rfl|rfl
  .exact xb
  .exact bv
 .simp only[xX,y9,zh] at hw;rcases hw with rfl|rfl
  .exact xp
  .exact g.prim w (by simp)
 .simp only[xX,y9,zh] at hw;rcases yz.mp ht with ht|ht
  .rcases hw with rfl|rfl
   .exact bt.kept (g.kept u (by simp) t ht) (g.kept v (by simp) t ht)
   .exact g.kept w (by simp) t ht
  .have:t=r:=by simpa using ht
   subst this;rcases hw with rfl|rfl
   .rw[x0];exact wB _
   .exact yl hv
 .have he:(a,b)=(v,x_ r u v)\/(a,b)=(x_ r u v,v):=by simpa [yX,chain,xu] using he
  rcases he with e|e<;>injection e with e1 e2<;>subst e1 e2
  .exact⟨s,zf _ hs,sv,sx⟩
  .exact⟨s,zf _ hs,sx,sv⟩
 .simp only[xX,y9,zh] at hw;rcases hw with rfl|rfl
  .exact⟨s,zf _ hs,r,by simp,sx,x0,unlike (dir s hs) bu bv su sv (jw hu hv)⟩
  .obtain⟨s,hs',t,ht,a⟩:=g.two w (by simp);exact⟨s,zf _ hs',t,zf _ ht,a⟩
 .obtain⟨m,hm,c⟩:=g.all p hz λs hs=>hp s (zf _ hs);obtain⟨a,b,a0,b0,e⟩:=c.pair;have hr:val r (mul m p)<=0:=by rw[val_mul];exact pn (yl hm) (hp r (by simp))
  rw[e,val_add,val_mul,val_mul] at hr;have av:abs (val r v) = - val r v:=by unfold abs;rw[xJ hv]
  have au:abs (val r u)=val r u:=by unfold abs;rw[xG (by lia)]
  refine⟨(- val r v)*m,pp (by lia) hm,?_⟩;have e2:mul ((- val r v)*m) p=add (mul (a*(yQ (cw r u v):Int)) (x_ r u v)) (mul (b*(- val r v)-a*val r u) v):=by
   have e3:mul ((- val r v)*m) p=mul (- val r v) (mul m p):=by apply ext3<;>simp only[mul]<;>grind
   have e4:mul (a*(yQ (cw r u v):Int)) (x_ r u v)=mul a (mul (yQ (cw r u v)) (x_ r u v)):=by apply ext3<;>simp only[mul]<;>grind
   rw[e3,e,e4,bt.e,av,au];apply ext3<;>simp only[mul,add]<;>grind
  rw[e2];have k:0<=b*(- val r v)-a*val r u:=by
   have:b*(- val r v)-a*val r u = - (a*val r u+b*val r v):=by grind
   lia
  exact((Cn.mem (by simp)).smul (pz a0 (yl bt.pg))).add ((Cn.mem (by simp)).smul k)
def Good.sw (g:Good Ls [u,v]):Good Ls [v,u]:=Good.rot (a:=[u]) (b:=[v]) g
theorem FL (g:Good Ls l)(dir:∀s∈Ls,s.1≠0\/s.2.1≠0):Good (Ls++[r]) (uM l r):=by
 match l,g with
 |[],g=>show Good (Ls++[r]) [];exact nU g λv hv=>by simp at hv
 |[v],g=>
  by_cases h:val r v<=0
  .have hk:∀w∈[v],val r w<=0:=λw hw=>by rw[zF.mp hw];exact h
   rw[dY (by rw[fA hk];simp),fA hk];exact nU g hk
  .have hk:∀w∈[v],0<val r w:=λw hw=>by rw[zF.mp hw];lia
   rw[dY (by rw[rE hk];simp),rE hk];exact rX g (λw hw=>yl (hk w hw)) (List.nil_sublist _) (by simp) (λw hw=>by simp at hw) λw hw h0=>by have:=hk w hw;lia
 |[u,v],g=>
  have ne:u≠v:=by have:=g.ccw.nd;simp at this;exact this
  have cy:yX [u,v]=[(v,u),(u,v)]:=rfl;unfold uM;rw[cy];simp only[qA,List.foldl_nil];by_cases c:val r u*val r v<0
  .have c':val r v*val r u<0:=by rw[vG];exact c
   have ex:x_ r v u=x_ r u v:=by unfold x_;rw[EH]
   have hu0:val r u≠0:=λz=>by rw[z] at c;simp at c
   have hv0:val r v≠0:=λz=>by rw[z] at c;simp at c
   by_cases hu:val r u<=0
   .have hv:0<val r v:=by
     rcases y4 0 (val r v) with z|z
     .exact z
     .have:=nn hu z;lia
    have e1:zJ r [] (v,u)=[x_ r v u,u]:=by unfold zJ;simp only[xJ c',xJ hu];simp
    have e2:zJ r [x_ r v u,u] (u,v)=[x_ r v u,u]:=by unfold zJ;simp only[xJ c,xG (show ¬val r v<=0 by lia)];rw[xJ (by rw[<-ex];simp)]
    rw[e1,e2];exact FP g.sw dir hv (by lia) rfl
   .have hv:val r v<0:=by
     rcases y4 (val r v) 0 with z|z
     .exact z
     .have:=pz (by lia:0<=val r u) z;lia
    have e1:zJ r [] (v,u)=[x_ r v u]:=by unfold zJ;simp only[xJ c',xG hu];simp
    have e2:zJ r [x_ r v u] (u,v)=[x_ r v u,v]:=by unfold zJ;simp only[xJ c,xJ (show val r v<=0 by lia)];rw[xJ (by rw[<-ex];simp)];rfl
    rw[e1,e2];exact FP g dir (by lia) hv ex
  .have c':¬val r v*val r u<0:=by rw[vG];exact c
   have e1:zJ r [] (v,u)=if val r u<=0 then[u] else[]:=by unfold zJ;simp only[xG c'];split<;>simp
   have e2:∀l,zJ r l (u,v)=if val r v<=0 then l++[v] else l:=λl=>by unfold zJ;simp only[xG c]
   rw[e1,e2];by_cases hu:val r u<=0
   .rw[xJ hu];by_cases hv:val r v<=0
    .rw[xJ hv];show Good (Ls++[r]) [u,v];exact nU g λw hw=>by simp only[xX,y9,zh] at hw;rcases hw with rfl|rfl<;>assumption
    .rw[xG hv];have hu0:val r u=0:=by
      rcases y4 (val r u) 0 with z|z
      .have:=c_ z (show 0<val r v by lia);lia
      .lia
     exact rX g (λw hw=>by
      simp only[xX,y9,zh] at hw;rcases hw with rfl|rfl<;>lia) (by simp) (by simp) (λw hw=>by rw[zF.mp hw];exact hu0) λw hw h0=>by
       simp only[xX,y9,zh] at hw;rcases hw with rfl|rfl
       .simp
       .lia
   .rw[xG hu];by_cases hv:val r v<=0
    .rw[xJ hv];have hv0:val r v=0:=by
      rcases y4 (val r v) 0 with z|z
      .have:=jw (show 0<val r u by lia) z;lia
      .lia
     exact rX g (λw hw=>by
      simp only[xX,y9,zh] at hw;rcases hw with rfl|rfl<;>lia) (by simp) (by simp) (λw hw=>by
       have:w=v:=by simpa using hw
       rw[this];exact hv0) λw hw h0=>by
       simp only[xX,y9,zh] at hw;rcases hw with rfl|rfl
       .lia
       .simp
    .rw[xG hv];exact rX g (λw hw=>by
      simp only[xX,y9,zh] at hw;rcases hw with rfl|rfl<;>lia) (by simp) (by simp) (λw hw=>by simp at hw) λw hw h0=>by simp only[xX,y9,zh] at hw;rcases hw with rfl|rfl<;>lia
 |x::y::z::t,g=>
  obtain⟨a,b,P,Q,e1,e2,hP,hQ⟩:=g.ccw.parts r;have e0:x::y::z::t=a++b:=e1;rw[e0] at g ⊢;have gr:Good Ls (b++a):=g.rot;have mem:∀v,v∈a++b->v∈P++Q:=λv hv=>by rw[<-e2];simpa [or_comm] using hv
  have hlen:(P++Q).length=t.length+3:=by rw[<-e2,ze,Nat.add_comm,<-ze,<-e0];simp
  cases P with
  |nil=>have hk:∀v∈a++b,val r v<=0:=λv hv=>hQ v (by simpa using mem v hv);rw[dY (by rw[fA hk];exact g.ccw.nd),fA hk];exact nU g hk
  |cons p1 P=>
   cases Q with
   |nil=>have hk:∀v∈a++b,0<val r v:=λv hv=>hP v (by simpa using mem v hv);rw[dY (by rw[rE hk];simp),rE hk];exact rX g (λw hw=>yl (hk w hw)) (List.nil_sublist _) (by simp) (λw hw=>by simp at hw) λw hw h0=>by have:=hk w hw;lia
   |cons q1 Q=>
    have S:h8 Ls r p1 q1 P Q:=⟨by rw[<-e2];exact gr,hP,hQ,by
     rcases Classical.em (P=[]) with h|h
     .right;intro h';subst h h';simp at hlen
     .exact .inl h,dir⟩
    have gl:=S.good_left;unfold h8.left at gl;have g2:=Good.rot (a:=bef r (xu p1 P) q1++q1::Q) (b:=bef r p1 (xu q1 Q)) gl;rw[<-EF hP hQ,<-e2] at g2;obtain⟨c,d,f1,f2⟩:=oI r a b;rw[f2] at g2;have g3:=g2.rot;rw[<-f1] at g3;rw[dY g3.ccw.nd];exact g3
def yF:Int:=60001
def box:List R3:=[(-yF,-yF,1),(yF,-yF,1),(yF,yF,1),(-yF,yF,1)]
def qI:List R3:=[(-1,0,yF),(1,0,yF),(0,-1,yF),(0,1,yF)]
theorem Ti {a b c d u v w:R3}(s:List.Sublist [u,v,w] [a,b,c,d]):(u=a/\v=b/\w=c)\/(u=a/\v=b/\w=d)\/(u=a/\v=c/\w=d)\/(u=b/\v=c/\w=d):=by
 have full:∀ {x y z u v w:R3},List.Sublist [u,v,w] [x,y,z]->u=x/\v=y/\w=z:=λ {x y z u v w} s=>by have:=s.eq_of_length (by simp);injection this with h1 h2;injection h2 with h2 h3;injection h3 with h3 _;exact⟨h1,h2,h3⟩
 cases s with
 |cons _ s=>exact .inr (.inr (.inr (full s)))
 |cons_cons _ s=>
  have two:∀ {x y z v w:R3},List.Sublist [v,w] [x,y,z]->(v=x/\w=y)\/(v=x/\w=z)\/(v=y/\w=z):=λ {x y z v w} s=>by
   cases s with
   |cons _ s=>have:=s.eq_of_length (by simp);injection this with h1 h2;injection h2 with h2 _;exact .inr (.inr ⟨h1,h2⟩)
   |cons_cons _ s=>
    have:w∈[y,z]:=vq.mp s;simp only[xX,y9,zh] at this;rcases this with rfl|rfl
    .exact .inl ⟨rfl,rfl⟩
    .exact .inr (.inl ⟨rfl,rfl⟩)
  rcases two s with ⟨h1,h2⟩|⟨h1,h2⟩|⟨h1,h2⟩
  .exact .inl ⟨rfl,h1,h2⟩
  .exact .inr (.inl ⟨rfl,h1,h2⟩)
  .exact .inr (.inr (.inl ⟨rfl,h1,h2⟩))
def Ei:Ccw box:=by refine⟨λu v w s=>?_,by decide⟩;rcases Ti s with ⟨rfl,rfl,rfl⟩|⟨rfl,rfl,rfl⟩|⟨rfl,rfl,rfl⟩|⟨rfl,rfl,rfl⟩<;>decide
def FK:Good qI box:=by
 refine⟨Ei,by decide,by decide,by decide,λu v h _=>?_,by decide,λp hz hp=>?_⟩
 .have h:(u,v)∈[((-yF,yF,1),(-yF,-yF,1)),((-yF,-yF,1),(yF,-yF,1)),((yF,-yF,1),(yF,yF,1)),((yF,yF,1),(-yF,yF,1))]:=h;simp only[xX,y9,zh] at h;rcases h with h|h|h|h<;>injection h with h1 h2<;>subst h1 h2
  .exact⟨(-1,0,yF),by decide,by decide,by decide⟩
  .exact⟨(0,-1,yF),by decide,by decide,by decide⟩
  .exact⟨(1,0,yF),by decide,by decide,by decide⟩
  .exact⟨(0,1,yF),by decide,by decide,by decide⟩
 .have h1:=hp (-1,0,yF) (by decide);have h2:=hp (1,0,yF) (by decide);have h3:=hp (0,-1,yF) (by decide);have h4:=hp (0,1,yF) (by decide);simp only[val,yF] at h1 h2 h3 h4;refine Ei.incone (by decide) λu v h=>?_;have h:(u,v)∈[((-yF,yF,1),(-yF,-yF,1)),((-yF,-yF,1),(yF,-yF,1)),((yF,-yF,1),(yF,yF,1)),((yF,yF,1),(-yF,yF,1))]:=h;simp only[xX,y9,zh] at h;rcases h with h|h|h|h<;>injection h with h5 h6<;>subst h5 h6<;>simp only[det,yF]<;>lia
def pieces (xa:List R3):List R3:=xa.foldl uM box
theorem FN:∀(xa Ls l:List R3),Good Ls l->(∀s∈Ls,s.1≠0\/s.2.1≠0)->(∀s∈xa,s.1≠0\/s.2.1≠0)->Good (Ls++xa) (xa.foldl uM l)
 |[],Ls,l,g,_,_=>by simpa using g
 |r::xa,Ls,l,g,d1,d2=>by
  rw[qA];have:=FN xa (Ls++[r]) (uM l r) (FL g d1) (λs hs=>by
   rcases yz.mp hs with h|h
   .exact d1 s h
   .rw[zF.mp h];exact d2 r xU) (λs hs=>d2 s (yI _ hs))
  rwa [qz] at this
def jJ (d:∀s∈xa,s.1≠0\/s.2.1≠0):Good (qI++xa) (pieces xa):=FN xa qI box FK (by decide) d
def GR (xa:List R3):Prop:=∀u v:Int,(u≠0\/v≠0)->∃r∈xa,0<r.1*u+r.2.1*v
theorem best {xa:List R3}(f g:R3->Int)(h:∃r∈xa,0<g r):∃i∈xa,0<g i/\∀r∈xa,0<g r->f r*g i<=f i*g r:=by
 induction xa with
 |nil=>obtain⟨r,hr,_⟩:=h;simp at hr
 |cons x xa ih=>
  by_cases hx:0<g x
  .by_cases hr:∃r∈xa,0<g r
   .obtain⟨i,hi,gi,hb⟩:=ih hr;rcases y4 (f i*g x) (f x*g i) with c|c
    .refine⟨x,xU,hx,λr hr gr=>?_⟩;rcases xX.mp hr with rfl|hr
     .exact wB _
     .have h1:=hb r hr gr;have h2:(f r*g i)*g x<=(f i*g r)*g x:=zj h1 (yl hx);have h3:(f i*g x)*g r<=(f x*g i)*g r:=zj (yl c) (yl gr);have h4:g i*(f r*g x)<=g i*(f x*g r):=by
       have e1:g i*(f r*g x)=(f r*g i)*g x:=by grind
       have e2:(f i*g r)*g x=(f i*g x)*g r:=by grind
       have e3:(f x*g i)*g r=g i*(f x*g r):=by grind
       lia
      exact BN h4 gi
    .refine⟨i,yI _ hi,gi,λr hr gr=>?_⟩;rcases xX.mp hr with rfl|hr
     .exact c
     .exact hb r hr gr
   .refine⟨x,xU,hx,λr hr' gr=>?_⟩;rcases xX.mp hr' with rfl|h'
    .exact wB _
    .exact absurd ⟨r,h',gr⟩ hr
  .obtain⟨r,hr,gr⟩:=h;rcases xX.mp hr with rfl|hr
   .exact absurd gr hx
   .obtain⟨i,hi,gi,hb⟩:=ih ⟨r,hr,gr⟩;refine⟨i,yI _ hi,gi,λr hr gr=>?_⟩;rcases xX.mp hr with rfl|hr
    .exact absurd gr hx
    .exact hb r hr gr
def D_ {xa:List R3}(h:GR xa)(hb:∀r∈xa,(-30<=r.2.1/\r.2.1<=30)/\r.2.2<=1000){p:R3}(hz:0<p.2.2)(hp:∀r∈xa,val r p<=0):p.1<=60000*p.2.2:=by
 by_cases hc:∃r∈xa,r.2.1=0/\0<r.1
 .obtain⟨r,hr,r0,r1⟩:=hc;have h1:=hp r hr;have h2:=(hb r hr).2;simp only[val,r0,jy,aF] at h1;rcases y4 0 p.1 with c|c
  .have h3:p.1<=r.1*p.1:=by have:1*p.1<=r.1*p.1:=zj (by lia) (yl c);lia
   have h4:r.2.2*p.2.2<=1000*p.2.2:=zj h2 (yl hz);lia
  .lia
 .obtain⟨i,hi,gi,mi⟩:=best (xa:=xa) (λr=>r.1) (λr=>r.2.1) (by obtain⟨r,hr,h1⟩:=h 0 1 (.inr (by decide));exact⟨r,hr,by simpa using h1⟩)
  obtain⟨j,hj,gj,mj⟩:=best (xa:=xa) (λr=>r.1) (λr=>- r.2.1) (by obtain⟨r,hr,h1⟩:=h 0 (-1) (.inr (by decide));exact⟨r,hr,by simp at h1;lia⟩)
  have pos:0<(- j.2.1)*i.1+i.2.1*j.1:=by
   rcases y4 0 ((- j.2.1)*i.1+i.2.1*j.1) with c|c
   .exact c
   .exfalso;obtain⟨r,hr,h1⟩:=h i.2.1 (- i.1) (.inl (by lia));rcases j7 r.2.1 0 with d|d|d
    .have h2:=mj r hr (by lia);have h3:i.2.1*(r.1*(- j.2.1))<=i.2.1*(j.1*(- r.2.1)):=wd h2 (yl gi);have h4:(- r.2.1)*((- j.2.1)*i.1+i.2.1*j.1)<=0:=pn (by lia) c;have h5:(- j.2.1)*(r.1*i.2.1+r.2.1*(- i.1))<=0:=by
      have e:(- j.2.1)*(r.1*i.2.1+r.2.1*(- i.1))=i.2.1*(r.1*(- j.2.1))-i.2.1*(j.1*(- r.2.1))+(- r.2.1)*((- j.2.1)*i.1+i.2.1*j.1):=by grind
      lia
     have h6:0<(- j.2.1)*(r.1*i.2.1+r.2.1*(- i.1)):=pp gj h1;lia
    .rw[d] at h1;simp only[jy,aF] at h1;have:0<r.1:=by
      rcases y4 0 r.1 with z|z
      .exact z
      .have:=np z (yl gi);lia
     exact hc ⟨r,hr,d,this⟩
    .have h2:=mi r hr d;have e:r.1*i.2.1+r.2.1*(- i.1)=r.1*i.2.1-i.1*r.2.1:=by grind
     lia
  have h1:=hp i hi;have h2:=hp j hj;obtain⟨⟨b1,b2⟩,b3⟩:=hb i hi;obtain⟨⟨b4,b5⟩,b6⟩:=hb j hj;have k1:(- j.2.1)*val i p<=0:=pn (yl gj) h1;have k2:i.2.1*val j p<=0:=pn (yl gi) h2;have k3:((- j.2.1)*i.1+i.2.1*j.1)*p.1<=((- j.2.1)*i.2.2+i.2.1*j.2.2)*p.2.2:=by
   have e:((- j.2.1)*i.1+i.2.1*j.1)*p.1-((- j.2.1)*i.2.2+i.2.1*j.2.2)*p.2.2=(- j.2.1)*val i p+i.2.1*val j p:=by simp only[val];grind
   lia
  have k4:(- j.2.1)*i.2.2<=30000:=by have:(- j.2.1)*i.2.2<=(- j.2.1)*1000:=wd b3 (yl gj);lia
  have k5:i.2.1*j.2.2<=30000:=by have:i.2.1*j.2.2<=i.2.1*1000:=wd b6 (yl gi);lia
  have k6:((- j.2.1)*i.2.2+i.2.1*j.2.2)*p.2.2<=60000*p.2.2:=zj (by lia) (yl hz);rcases y4 0 p.1 with c|c
  .have:1*p.1<=((- j.2.1)*i.1+i.2.1*j.1)*p.1:=zj (by lia) (yl c);lia
  .lia
def uf (r:R3):Prop:=((-30<=r.1/\r.1<=30)/\(-30<=r.2.1/\r.2.1<=30))/\(-1000<=r.2.2/\r.2.2<=1000)
def K0 (h:GR xa)(hb:∀r∈xa,uf r)(hz:0<p.2.2)(hp:∀r∈xa,val r p<=0) :
  (-(60000*p.2.2)<=p.1/\p.1<=60000*p.2.2)/\(-(60000*p.2.2)<=p.2.1/\p.2.1<=60000*p.2.2):=by
 have tr:∀(f:R3->R3) (q:R3),(∀r,val (f r) q=val r p)->q.2.2=p.2.2->(∀r∈xa,(-30<=(f r).2.1/\(f r).2.1<=30)/\(f r).2.2<=1000)->GR (xa.map f)->q.1<=60000*p.2.2:=λf q h1 h2 h3 h4=>by
  have:=D_ (xa:=xa.map f) (p:=q) h4 (λr hr=>by
   obtain⟨r0,hr0,rfl⟩:=zT.mp hr;exact h3 r0 hr0) (by rw[h2];exact hz) (λr hr=>by
   obtain⟨r0,hr0,rfl⟩:=zT.mp hr;rw[h1];exact hp r0 hr0)
  rwa [h2] at this
 have gm:∀(f:R3->R3) (m:Int->Int->Int×Int),(∀u v,(u≠0\/v≠0)->((m u v).1≠0\/(m u v).2≠0))->(∀r u v,(f r).1*u+(f r).2.1*v=r.1*(m u v).1+r.2.1*(m u v).2)->GR (xa.map f):=λf m h1 h2 u v hn=>by obtain⟨r,hr,h3⟩:=h _ _ (h1 u v hn);exact⟨f r,zT.mpr ⟨r,hr,rfl⟩,by rw[h2];exact h3⟩
 refine⟨⟨?_,?_⟩,?_,?_⟩
 .have:=tr (λr=>(- r.1,r.2.1,r.2.2)) (- p.1,p.2.1,p.2.2) (λr=>by simp only[val];grind) rfl (λr hr=>⟨(hb r hr).1.2,(hb r hr).2.2⟩)
   (gm _ (λu v=>(- u,v)) (λu v hn=>by simp only;lia) (λr u v=>by simp only;grind))
  simp only at this;lia
 .exact D_ h (λr hr=>⟨(hb r hr).1.2,(hb r hr).2.2⟩) hz hp
 .have:=tr (λr=>(- r.2.1,r.1,r.2.2)) (- p.2.1,p.1,p.2.2) (λr=>by simp only[val];grind) rfl (λr hr=>⟨(hb r hr).1.1,(hb r hr).2.2⟩)
   (gm _ (λu v=>(v,- u)) (λu v hn=>by simp only;lia) (λr u v=>by simp only;grind))
  simp only at this;lia
 .exact tr (λr=>(r.2.1,r.1,r.2.2)) (p.2.1,p.1,p.2.2) (λr=>by simp only[val];grind) rfl (λr hr=>⟨(hb r hr).1.1,(hb r hr).2.2⟩)
   (gm _ (λu v=>(v,u)) (λu v hn=>by simp only;lia) (λr u v=>by simp only;grind))
structure IsC (xa:List R3)(p:R3):Prop where
 kept:∀r∈xa,val r p<=0
 two:∃s∈xa,∃t∈xa,val s p=0/\val t p=0/\turn s t≠0
def k8 (p q:R3):Prop:=p.1*q.2.2=q.1*p.2.2/\p.2.1*q.2.2=q.2.1*p.2.2
def GG (hn:turn s t≠0)(p1:val s p=0)(p2:val t p=0)(q1:val s q=0)(q2:val t q=0):k8 p q:=by
 have e1:turn s t*(p.1*q.2.2-q.1*p.2.2)=(t.2.1*val s p-s.2.1*val t p)*q.2.2-(t.2.1*val s q-s.2.1*val t q)*p.2.2:=by simp only[turn,val];grind
 have e2:turn s t*(p.2.1*q.2.2-q.2.1*p.2.2)=(s.1*val t p-t.1*val s p)*q.2.2-(s.1*val t q-t.1*val s q)*p.2.2:=by simp only[turn,val];grind
 rw[p1,p2,q1,q2] at e1 e2;have e1:turn s t*(p.1*q.2.2-q.1*p.2.2)=0:=by rw[e1];grind
 have e2:turn s t*(p.2.1*q.2.2-q.2.1*p.2.2)=0:=by rw[e2];grind
 have:=(vp.mp e1).resolve_left hn;have:=(vp.mp e2).resolve_left hn;exact⟨by lia,by lia⟩
section
variable {xa more:List R3}
structure jD (xa more:List R3):Prop where
 box:∀ {p:R3},0<p.2.2->(∀r∈more,val r p<=0)->∀s∈qI,val s p<0
 fr:∀r∈xa,uf r
 sub:∀r∈xa,r∈more
 dir:∀r∈more,r.1≠0\/r.2.1≠0
def Mg (gr:GR xa)(fr:∀r∈xa,uf r)(sub:∀r∈xa,r∈more)(dir:∀r∈more,r.1≠0\/r.2.1≠0):jD xa more:=⟨λ {p} hz hp s hs=>by obtain⟨⟨h1,h2⟩,h3,h4⟩:=K0 gr fr hz λr hr=>hp r (sub r hr);simp only[qI,xX,y9,zh] at hs;rcases hs with rfl|rfl|rfl|rfl<;>simp only[val,yF]<;>lia,fr,sub,dir⟩
def jD.corner (F:jD xa more)(hv:v∈pieces more):0<v.2.2/\yQ v=1/\IsC more v:=by
 have g:=jJ F.dir;have hz:=g.bot v hv;have hk:∀r∈more,val r v<=0:=λr hr=>g.kept v hv r (wZ _ hr);have nb:=F.box hz hk;obtain⟨s,hs,t,ht,a,b,c⟩:=g.two v hv;have in':∀x∈qI++more,val x v=0->x∈more:=λx hx h0=>by
  rcases yz.mp hx with h|h
  .have:=nb x h;lia
  .exact h
 exact⟨hz,g.prim v hv,hk,s,in' s hs a,t,in' t ht b,a,b,c⟩
def jD.incone (F:jD xa more)(hz:0<p.2.2)(hp:∀r∈more,val r p<=0):InC (pieces more) p:=by
 have g:=jJ F.dir;refine g.all p hz λs hs=>?_;rcases yz.mp hs with h|h
 .exact yl (F.box hz hp s h)
 .exact hp s h
def val_neg (r p:R3):val (- r.1,- r.2.1,- r.2.2) p = - val r p:=by simp only[val];grind
theorem jD.found (F:jD xa more)(hz:0<p.2.2)(hp:IsC more p):∃v∈pieces more,k8 v p:=by
 obtain⟨m,hm,c⟩:=F.incone hz hp.kept;obtain⟨s,hs,t,ht,a,b,hn⟩:=hp.two;have g:=jJ F.dir;have kept:∀v∈pieces more,∀r∈more,val r v<=0:=λv hv r hr=>g.kept v hv r (wZ _ hr);have c1:=c.zeros (- s.1,- s.2.1,- s.2.2) (λv hv=>by rw[val_neg];have:=kept v hv s hs;lia) (by rw[val_neg,val_mul,a];simp);have c2:=c1.zeros (- t.1,- t.2.1,- t.2.2) (λv hv=>by rw[val_neg];have:=kept v (uR.mp hv).1 t ht;lia) (by rw[val_neg,val_mul,b];simp);cases e:((pieces more).filter λv=>val (- s.1,- s.2.1,- s.2.2) v=0).filter (λv=>val (- t.1,- t.2.1,- t.2.2) v=0) with
 |nil=>
  rw[e] at c2;exfalso;rcases c2.bot (λv hv=>by simp at hv) with h|h
  .have:m*p.2.2=0:=zg (·.2.2) h;have:=pp hm hz;lia
  .have:∀q:R3,Cn [] q->q=(0,0,0):=λq hq=>by
    induction hq with
    |zero=>rfl
    |mem h=>simp at h
    |add _ _ h1 h2=>rw[h1,h2];rfl
   rw[this _ c2] at h;simp at h
 |cons v r=>
  have hv:v∈((pieces more).filter λv=>val (- s.1,- s.2.1,- s.2.2) v=0).filter (λv=>val (- t.1,- t.2.1,- t.2.2) v=0):=by rw[e];exact xU
  obtain⟨h1,h2⟩:=uR.mp hv;obtain⟨h3,h4⟩:=uR.mp h1;have h2:val (- t.1,- t.2.1,- t.2.2) v=0:=by simpa using h2
  have h4:val (- s.1,- s.2.1,- s.2.2) v=0:=by simpa using h4
  rw[val_neg] at h2 h4;exact⟨v,h3,GG hn (by lia) (by lia) a b⟩
end
def dot (r s:R3):Int:=r.1*s.1+r.2.1*s.2.1
def Fj (sg:Int)(last:Option R3)(x:R3):Bool:=match last with|none=>true|some l=>decide (0<sg*turn l x)
def vU (r:R3)(sg:Int)(last:Option R3)(x:R3):Option R3:=if 0<sg*turn r x/\Fj sg last x=true then some x else last
def far (r:R3)(sg:Int)(rs:List R3):Option R3:=rs.foldl (vU r sg) none
def back (r:R3)(rs:List R3):Bool:=rs.any λx=>decide (turn r x=0)&&decide (dot r x<0)
def qN:List R3->Bool
 |[]=>false
 |r::rs=>match far r 1 (r::rs),far r (-1) (r::rs) with
  |some l,some k=>decide (0<turn l k)||back r (r::rs)
  |_,_=>false
def HC {a b:Int}(h:0<a)(k:a*b<=0):b<=0:=by
 rcases y4 0 b with z|z
 .have:=pp h z;lia
 .exact z
def plk (r l k z:R3):turn r l*turn k z-turn r k*turn l z+turn r z*turn l k=0:=by obtain⟨a,b,_⟩:=r;obtain⟨c,d,_⟩:=l;obtain⟨e,f,_⟩:=k;obtain⟨g,h,_⟩:=z;simp only[turn];grind
def KS (r l z:R3):z.1*turn r l=r.1*turn z l+l.1*turn r z:=by obtain⟨a,b,_⟩:=r;obtain⟨c,d,_⟩:=l;obtain⟨g,h,_⟩:=z;simp only[turn];grind
def KU (r l z:R3):z.2.1*turn r l=r.2.1*turn z l+l.2.1*turn r z:=by obtain⟨a,b,_⟩:=r;obtain⟨c,d,_⟩:=l;obtain⟨g,h,_⟩:=z;simp only[turn];grind
def dO (r l:R3):turn l r = - turn r l:=by obtain⟨a,b,_⟩:=r;obtain⟨c,d,_⟩:=l;simp only[turn];grind
def proj (r x z:R3):dot r r*turn x z=dot r x*turn r z-turn r x*dot r z:=by obtain⟨a,b,_⟩:=r;obtain⟨c,d,_⟩:=x;obtain⟨g,h,_⟩:=z;simp only[turn,dot];grind
def sq {a:Int}(h:a≠0):0<a*a:=by
 rcases y4 0 a with z|z
 .exact pp z z
 .have:0<(-a)*(-a):=pp (by lia) (by lia);rwa [Int.neg_mul_neg] at this
def sq0 (a:Int):0<=a*a:=by
 rcases y4 0 a with z|z
 .exact pz (by lia) (by lia)
 .exact nn z z
def rJ {r:R3}(h:r.1≠0\/r.2.1≠0):0<dot r r:=by
 unfold dot;have h1:=sq0 r.1;have h2:=sq0 r.2.1;rcases h with h|h
 .have:=sq h;lia
 .have:=sq h;lia
def Ub (h:turn r l≠0)(h1:turn r z=0)(h2:turn l z=0):z.1=0/\z.2.1=0:=by have b1:=KS r l z;have b2:=KU r l z;have a1:=dO l z;rw[h2] at a1;rw[a1,h1] at b1 b2;simp only[vH,Int.neg_zero,aF] at b1 b2;exact⟨(vp.mp b1).resolve_right h,(vp.mp b2).resolve_right h⟩
structure hU (r:R3)(s:Int)(rs:List R3)(l:R3):Prop where
 mem:l∈rs
 left:0<s*turn r l
 all:∀x∈rs,0<s*turn r x->s*turn l x<=0
def Rk (s:Int)(r l k z:R3):(s*turn r l)*(s*turn k z)=(s*turn r k)*(s*turn l z)-(s*turn r z)*(s*turn l k):=by have:=plk r l k z;grind
def CC (r:R3)(s:Int)(done:List R3):Option R3->Prop
 |none=>∀x∈done,s*turn r x<=0
 |some l=>hU r s done l
theorem oV {r:R3}{s:Int}:∀(rs done:List R3) (o:Option R3),CC r s done o->CC r s (done++rs) (rs.foldl (vU r s) o)
 |[],done,o,h=>by simpa using h
 |y::rs,done,o,h=>by
  rw[qA];have ih:=oV (r:=r) (s:=s) rs (done++[y]) (vU r s o y) (by
   unfold vU;by_cases c:0<s*turn r y/\Fj s o y=true
   .rw[xJ c];obtain⟨c1,c2⟩:=c;refine⟨by simp,c1,λx hx hp=>?_⟩;rcases yz.mp hx with hx|hx
    .cases o with
     |none=>exact absurd (show s*turn r x<=0 from h x hx) (by lia)
     |some l=>have h:hU r s done l:=h;have c2:0<s*turn l y:=yU c2;have hl:s*turn l x<=0:=h.all x hx hp;have e:=Rk s r l y x;have p1:=pn (yl c1) hl;have p2:=pp hp c2;exact HC h.left (by rw[e];lia)
    .have:x=y:=by simpa using hx
     subst this;have:turn x x=0:=by unfold turn;grind
     rw[this];simp
   .rw[xG c];cases o with
    |none=>
     intro x hx;rcases yz.mp hx with hx|hx
     .exact h x hx
     .have:x=y:=by simpa using hx
      subst this;have c':¬0<s*turn r x:=λz=>c ⟨z,rfl⟩;lia
    |some l=>
     have h:hU r s done l:=h;refine⟨zf _ h.mem,h.left,λx hx hp=>?_⟩;rcases yz.mp hx with hx|hx
     .exact h.all x hx hp
     .have:x=y:=by simpa using hx
      subst this;have c':¬0<s*turn l x:=λz=>c ⟨hp,wF z⟩;lia)
  rwa [qz] at ih
def Fl (h:far r s rs=none):∀x∈rs,s*turn r x<=0:=by have:=oV (r:=r) (s:=s) rs [] none (λx hx=>by simp at hx);unfold far at h;rw[h] at this;intro x hx;exact this x (by simpa using hx)
def sf (h:far r s rs=some l):hU r s rs l:=by have:=oV (r:=r) (s:=s) rs [] none (λx hx=>by simp at hx);unfold far at h;rw[h,qC] at this;exact this
def RM (hr:r∈rs)(r0:r.1≠0\/r.2.1≠0)(hl:hU r 1 rs l)(hk:hU r (-1) rs k)(h:0<turn l k\/back r rs=true)(hz:∀x∈rs,turn x z<=0):z.1=0/\z.2.1=0:=by
 have l1:0<turn r l:=by have:=hl.left;lia
 have k1:turn r k<0:=by have:=hk.left;lia
 have zr:=hz r hr;have zl:=hz l hl.mem;have zk:=hz k hk.mem;have e:=plk r l k z;have p1:=pn (yl l1) zk;have p2:=nn (yl k1) zl;have hz0:turn r z=0:=by
  rcases h with h|h
  .have p3:=np zr (yl h);have p4:turn r z*turn l k=0:=by lia
   exact(vp.mp p4).resolve_right (by lia)
  .unfold back at h;rw[aJ] at h;obtain⟨b,hb,c⟩:=h;simp only[ju,qE] at c;have q:=proj r b z;rw[c.1] at q;simp only[jy,BU] at q;have q1:=pn (yl (rJ r0)) (hz b hb);have q2:=nn (yl c.2) zr;have q3:dot r b*turn r z=0:=by lia
   exact(vp.mp q3).resolve_left (by have:=c.2;lia)
 rw[hz0] at e;simp only[jy,aF] at e;have p5:turn r k*turn l z=0:=by lia
 exact Ub (by lia) hz0 ((vp.mp p5).resolve_left (by lia))
def RL (r0:∀x∈rs,x.1≠0\/x.2.1≠0)(hr:r∈rs)(hl:hU r 1 rs l)(hk:hU r (-1) rs k)(h:¬0<turn l k)(hb:back r rs=false):∀x∈rs,turn l x<=0:=by
 intro x hx;have l1:0<turn r l:=by have:=hl.left;lia
 have k1:turn r k<0:=by have:=hk.left;lia
 rcases j7 (turn r x) 0 with c|c|c
 .have kx:0<=turn k x:=by have:=hk.all x hx (by lia);lia
  have e:=plk r l k x;have p1:=pz (yl l1) kx;have p2:=nn (yl c) (by lia:turn l k<=0);have p3:0<=turn r k*turn l x:=by lia
  rcases y4 0 (turn l x) with z|z
  .have p4:turn r k*turn l x<0:=c_ k1 z;lia
  .exact z
 .have q:=proj r x l;rw[c] at q;simp only[jy,BU] at q;have d0:0<=dot r x:=by
   rcases y4 (dot r x) 0 with z|z
   .exfalso;have:back r rs=true:=by unfold back;rw[aJ];exact⟨x,hx,by rw[wF c,wF z];rfl⟩
    rw[this] at hb;cases hb
   .exact z
  have q1:=pz d0 (yl l1);have q2:=rJ (r0 r hr);have a:=dO x l;rw[a];have:0<=turn x l:=by
   rcases y4 (turn x l) 0 with z|z
   .have:=jw q2 z;lia
   .exact z
  lia
 .have:=hl.all x hx (by lia);lia
def RA (rs:List R3):Prop:=∀z∈rs,∀s:Int,(s=1\/s = -1)->∃x∈rs,0<s*turn z x
def MC (r0:∀x∈rs,x.1≠0\/x.2.1≠0)(h:GR rs):RA rs:=λz hz s hs=>by
 have key:∀x:R3,x.1*(s * -z.2.1)+x.2.1*(s*z.1)=s*turn z x:=λx=>by unfold turn;grind
 obtain⟨x,hx,p⟩:=h (s * -z.2.1) (s*z.1) (by have:=r0 z hz;rcases hs with e|e<;>subst e<;>lia);exact⟨x,hx,by rw[key x] at p;exact p⟩
theorem Rw (r0:∀x∈rs,x.1≠0\/x.2.1≠0)(ne:rs≠[])(h:RA rs):qN rs=true:=by
 have no:∀z:R3,z∈rs->∀s:Int,(s=1\/s = -1)->(∀x∈rs,s*turn z x<=0)->False:=λz hz s hs hx=>by obtain⟨x,hxm,p⟩:=h z hz s hs;have:=hx x hxm;lia
 cases rs with
 |nil=>exact absurd rfl ne
 |cons r t=>
  have hr:r∈r::t:=xU;have e:qN (r::t)=match far r 1 (r::t),far r (-1) (r::t) with
   |some l,some k=>decide (0<turn l k)||back r (r::t)
   |_,_=>false:=rfl
  rw[e];cases e1:far r 1 (r::t) with
  |none=>exact(no r hr 1 (.inl rfl) (Fl e1)).elim
  |some l=>
   cases e2:far r (-1) (r::t) with
   |none=>exact(no r hr (-1) (.inr rfl) (Fl e2)).elim
   |some k=>
    show(decide (0<turn l k)||back r (r::t))=true;have hl:=sf e1;have hk:=sf e2;rcases Classical.em ((decide (0<turn l k)||back r (r::t))=true) with q|q
    .exact q
    .exfalso;simp only[Bool.or_eq_true,qE,not_or,Bool.not_eq_true] at q;exact no l hl.mem 1 (.inl rfl) (λx hx=>by have:=RL r0 hr hl hk q.1 q.2 x hx;lia)
theorem Ir (r0:∀x∈rs,x.1≠0\/x.2.1≠0)(h:qN rs=true):GR rs:=by
 cases rs with
 |nil=>cases h
 |cons r t=>
  have hr:r∈r::t:=xU;have e:qN (r::t)=match far r 1 (r::t),far r (-1) (r::t) with
   |some l,some k=>decide (0<turn l k)||back r (r::t)
   |_,_=>false:=rfl
  rw[e] at h;cases e1:far r 1 (r::t) with
  |none=>rw[e1] at h;cases h
  |some l=>
   cases e2:far r (-1) (r::t) with
   |none=>rw[e1,e2] at h;cases h
   |some k=>
    rw[e1,e2] at h;have c:(decide (0<turn l k)||back r (r::t))=true:=h;have hl:=sf e1;have hk:=sf e2;have c':0<turn l k\/back r (r::t)=true:=by simpa using c
    intro u v uv;rcases Classical.em (∃x∈r::t,0<x.1*u+x.2.1*v) with q|q
    .exact q
    .exfalso;have key:∀x:R3,turn x (-v,u,0)=x.1*u+x.2.1*v:=λx=>by simp only[turn];grind
     have z:=RM hr (r0 r hr) hl hk c' (z:=(-v,u,0)) (λx hx=>by
      rw[key x];rcases y4 0 (x.1*u+x.2.1*v) with w|w
      .exact absurd ⟨x,hx,w⟩ q
      .exact w)
     simp only at z;lia
def MB (h:GR rs):rs≠[]:=λe=>by obtain⟨r,hr,_⟩:=h 1 0 (.inl (by decide));rw[e] at hr;simp at hr
def Jd (r:R3)(acc:List R3)(p:R3×R3):(zJ r acc p).length<=acc.length+(seg r p).length:=by
 unfold zJ seg;by_cases c:val r p.1*val r p.2<0
 .by_cases m:x_ r p.1 p.2∈acc
  .simp only[xJ c,xJ m];split<;>simp<;>lia
  .simp only[xJ c,xG m];split<;>simp<;>lia
 .simp only[xG c];split<;>simp
theorem Fy (r:R3):∀(ps:List (R3×R3)) (acc:List R3),(ps.foldl (zJ r) acc).length<=acc.length+(ps.flatMap (seg r)).length
 |[],acc=>by simp
 |p::ps,acc=>by rw[qA,Ka,ze];have:=Fy r ps (zJ r acc p);have:=Jd r acc p;lia
def D0 (r p q:R3):(bef r p q).length<=1:=by unfold bef;split<;>simp
theorem nA (h:Ccw l)(r:R3):(wV r l).length<=l.length+2:=by
 obtain⟨a,b,P,Q,e1,e2,hP,hQ⟩:=h.parts r;obtain⟨c,d,f1,f2⟩:=oI r a b;have el:(wV r l).length=(wV r (P++Q)).length:=by rw[e1,f1,<-e2,f2,ze,ze];lia
 have ll:l.length=(P++Q).length:=by rw[e1,<-e2,ze,ze];lia
 rw[el,ll];cases P with
 |nil=>rw[qC,fA hQ];lia
 |cons p P=>
  cases Q with
  |nil=>rw[uH,rE hP];simp
  |cons q Q=>rw[EF hP hQ];simp only[ze,wC];have:=D0 r p (xu q Q);have:=D0 r (xu p P) q;lia
def Lx (h:Ccw l)(r:R3):(uM l r).length<=l.length+2:=by
 have:=Fy r (yX l) [];have:=nA h r;unfold uM wV at *
 simp at *
 lia
theorem Fx:∀(xa Ls l:List R3),Good Ls l->(∀s∈Ls,s.1≠0\/s.2.1≠0)->(∀s∈xa,s.1≠0\/s.2.1≠0)->(xa.foldl uM l).length<=l.length+2*xa.length
 |[],Ls,l,_,_,_=>by simp
 |r::xa,Ls,l,g,d,d'=>by
  rw[qA];have h1:=Lx g.ccw r;have dr:=d' r xU;have h2:=Fx xa (Ls++[r]) (uM l r) (FL g d) (λs hs=>by
   rcases yz.mp hs with h|h
   .exact d s h
   .rw[zF.mp h];exact dr) (λs hs=>d' s (yI _ hs))
  rw[wC];lia
def et (d:∀s∈xa,s.1≠0\/s.2.1≠0):(pieces xa).length<=4+2*xa.length:=Fx xa qI box FK (by decide) d
theorem Em (p:R3):∀l:List R3,(chain p l).length=l.length
 |[]=>rfl
 |x::l=>by show(chain x l).length+1=_;rw[Em x l];rfl
theorem oJ:∀l:List R3,(yX l).length=l.length
 |[]=>rfl
 |x::l=>Em _ _
theorem El (p:R3):∀(l:List R3) (i:Nat) (v:R3),l[i]?=some v->∃u,(p::l)[i]?=some u/\(chain p l)[i]?=some (u,v)
 |[],i,v,h=>by simp at h
 |x::l,0,v,h=>by simp at h;subst h;exact⟨p,rfl,rfl⟩
 |x::l,i+1,v,h=>by
  have h':l[i]?=some v:=by simpa using h
  obtain⟨u,e1,e2⟩:=El x l i v h';exact⟨u,by simpa using e1,by show(chain x l)[i]?=_;exact e2⟩
theorem EI (h:l[i]?=some v):∃u,u∈l/\(yX l)[i]?=some (u,v)/\((i=0/\∃ys,l=ys++[u])\/(0<i/\l[i-1]?=some u)):=by
 cases l with
 |nil=>simp at h
 |cons x l=>
  obtain⟨u,e1,e2⟩:=El (xu x l) (x::l) i v h;cases i with
  |zero=>
   have:xu x l=u:=by simpa using e1
   subst this;obtain⟨ys,e⟩:=t5 x l;exact⟨_,uX x l,e2,.inl ⟨rfl,ys,e⟩⟩
  |succ i=>
   have e1:(x::l)[i]?=some u:=by simpa using e1
   exact⟨u,zq e1,e2,.inr ⟨by lia,by simpa using e1⟩⟩
def nO {α β:Type}(f:β->α->β)(b:β){l:List α}{i:Nat}{x:α}(h:l[i]?=some x):(l.take (i+1)).foldl f b=f ((l.take i).foldl f b) x:=by have hi:=(y8.mp h).1;rw[vI,h,dq];rfl
def Ah (p q:R3):Prop:=p.1*q.2.2<q.1*p.2.2\/p.1*q.2.2=q.1*p.2.2/\p.2.1*q.2.2<q.2.1*p.2.2
def lD {a x b y c z:Int}(hx:0<x)(hy:0<y)(hz:0<z)(h1:a*y<b*x)(h2:b*z<=c*y):a*z<c*x:=by
 have e1:a*y*z<b*x*z:=J5 h1 hz;have e2:b*z*x<=c*y*x:=zj h2 (by lia);have:a*z*y<c*x*y:=by
  have e3:a*z*y=a*y*z:=by grind
  have e4:c*x*y=c*y*x:=by grind
  have e5:b*x*z=b*z*x:=by grind
  lia
 exact J3 this (by lia)
def Nd {a x b y c z:Int}(hx:0<x)(hy:0<y)(hz:0<z)(h1:a*y<=b*x)(h2:b*z<c*y):a*z<c*x:=by
 have e1:a*y*z<=b*x*z:=zj h1 (by lia);have e2:b*z*x<c*y*x:=J5 h2 hx;have:a*z*y<c*x*y:=by
  have e3:a*z*y=a*y*z:=by grind
  have e4:c*x*y=c*y*x:=by grind
  have e5:b*x*z=b*z*x:=by grind
  lia
 exact J3 this (by lia)
def L5 {a x b y c z:Int}(hy:0<y)(h1:a*y=b*x)(h2:b*z=c*y):a*z=c*x:=by
 have:a*z*y=c*x*y:=by grind
 exact j4 (by lia) this
def Ah.irrefl (p:R3):¬Ah p p:=by rintro(h|h)<;>lia
def Ah.trans {p q w:R3}(hp:0<p.2.2)(hq:0<q.2.2)(hw:0<w.2.2)(h1:Ah p q)(h2:Ah q w):Ah p w:=by
 rcases h1 with a|⟨a,b⟩
 .rcases h2 with c|⟨c,d⟩
  .exact .inl (lD hp hq hw a (by lia))
  .exact .inl (lD hp hq hw a (by lia))
 .rcases h2 with c|⟨c,d⟩
  .exact .inl (Nd hp hq hw (by lia) c)
  .exact .inr ⟨L5 hq a c,lD hp hq hw b (by lia)⟩
def Ah.total (h1:¬Ah p q)(h2:¬Ah q p):k8 p q:=by unfold Ah at h1 h2;unfold k8;lia
def rh (l:List R3):Prop:=∀h t,l=h::t->∀v∈l,¬Ah v h
def Li (h:Ccw l)(ha:l[k]?=some a)(hb:l[k+1]?=some b):(∀w∈l,0<=det a b w)/\∀j c,k+1<j->l[j]?=some c->det a c b<0:=by
 have hk:=(y8.mp hb).1;have hk0:k<l.length:=by lia
 have ea:l[k]=a:=by rw[yC hk0] at ha;exact vK ha
 have eb:l[k+1]=b:=by rw[yC hk] at hb;exact vK hb
 have sp:l=l.take k++a::b::l.drop (k+2):=by rw[<-ea,<-eb,<-aK hk,<-aK hk0,dB]
 constructor
 .intro w hw;refine h.edge ?_ hw;cases l with
  |nil=>simp at hk
  |cons x t=>
   cases k with
   |zero=>have:chain (xu x t) (x::t)=(xu x t,x)::chain x t:=rfl;show(a,b)∈chain (xu x t) (x::t);rw[this];refine yI _ (oz (s:=[]) (t:=(x::t).drop 2) ?_);simpa using sp
   |succ k=>
    have e:t=(x::t).tail:=rfl;show(a,b)∈chain (xu x t) (x::t);exact oz (s:=xu x t::(x::t).take (k+1)) (t:=(x::t).drop (k+1+2)) (by rw[g9];exact zg (List.cons _) sp)
 .intro j c hj hc;have s:List.Sublist [a,b,c] l:=by
   rw[sp];refine pA ?_ (aQ _ _);refine List.Sublist.cons₂ _ (List.Sublist.cons₂ _ (vq.mpr ?_));have:(l.drop (k+2))[j-(k+2)]?=some c:=by rw[Kb,<-hc];congr 1;lia
   exact zq this
  have:=h.tri a b c s;have e:=oQ a b c;lia
theorem Fs:∀ {l:List α},l.Nodup->a∈l->(∀x∈l,p x=true↔x=a)->l.filter p=[a]
 |[],_,h,_=>by simp at h
 |x::l,nd,h,hp=>by
  obtain⟨n1,n2⟩:=mz.mp nd;by_cases e:x=a
  .subst e;rw[mq ((hp x xU).mpr rfl)];congr 1;rw[J_];intro y hy py;have:=(hp y (yI _ hy)).mp py;subst this;exact n1 hy
  .rw[aL (λpy=>e ((hp x xU).mp py))];exact Fs n2 ((xX.mp h).resolve_left λz=>e z.symm) λy hy=>hp y (yI _ hy)
def Gw:∀ {l k:List α},l.Nodup->k.Nodup->(∀x,x∈l↔x∈k)->l.length=k.length:=λ {l k} h1 h2 h=>((List.perm_ext_iff_of_nodup h1 h2).mpr h).length_eq
def zI (s t:R3):R3:=if turn s t<0 then(-(s.2.2*t.2.1-s.2.1*t.2.2),-(s.1*t.2.2-s.2.2*t.1),-turn s t) else(s.2.2*t.2.1-s.2.1*t.2.2,s.1*t.2.2-s.2.2*t.1,turn s t)
def fy (h:turn s t≠0):0<(zI s t).2.2/\val s (zI s t)=0/\val t (zI s t)=0:=by
 unfold zI;split
 .refine⟨by simp only;lia,?_,?_⟩<;>simp only[val,turn]<;>grind
 .refine⟨by simp only;lia,?_,?_⟩<;>simp only[val,turn]<;>grind
def Lr (h:turn s t≠0)(h1:val s v=0)(h2:val t v=0):k8 (zI s t) v:=GG h (fy h).2.1 (fy h).2.2 h1 h2
end Pol
namespace L2
open PySem PySem.Spec PyProof.Rows
def Bk (k:Nat)(i:Int):Prop:=i.natAbs<2^k
def Bk.mono (h:Bk k i)(hk:k<=m):Bk m i:=vJ h (Nat.pow_le_pow_right (by decide) hk)
def Bk.mul (h:Bk k i)(h':Bk m j):Bk (k+m) (i*j):=by
 unfold Bk at *
 rw[u9,Nat.pow_add];exact Nat.mul_lt_mul'' h h'
def Bk.add {k:Nat}{i j:Int}(h:Bk k i)(h':Bk k j):Bk (k+1) (i+j):=by
 unfold Bk at *
 rw[Nat.pow_succ];have:=Int.natAbs_add_le i j;lia
def Bk.neg (h:Bk k i):Bk k (-i):=by unfold Bk at *;rw[Int.natAbs_neg];exact h
def Bk.sub (h:Bk k i)(h':Bk k j):Bk (k+1) (i-j):=by rw[Int.sub_eq_add_neg];exact h.add h'.neg
def Bk.bd (h:Bk k i)(hk:k<=2000:=by decide):Bd i:=h.mono hk
def Bk.abs (h:Bk k i):Bk k (if i<0 then -i else i):=by split;exact h.neg;exact h
def Bk.le (h:Bk k i)(hl:j.natAbs<=i.natAbs):Bk k j:=kZ hl h
def yL (k:Nat)(r:Pol.R3):Prop:=(Bk k r.1/\Bk k r.2.1)/\Bk k r.2.2
theorem yL.mono (h:yL k r)(hk:k<=m):yL m r:=⟨⟨h.1.1.mono hk,h.1.2.mono hk⟩,h.2.mono hk⟩
def B3 (r:Pol.R3):Prop:=(Bd r.1/\Bd r.2.1)/\Bd r.2.2
def yL.b3 (h:yL k r)(hk:k<=2000:=by decide):B3 r:=h.mono hk
theorem yL.val (h:yL k r)(h':yL m p):Bk (k+m+2) (val r p):=((h.1.1.mul h'.1.1).add (h.1.2.mul h'.1.2)).sub ((h.2.mul h'.2).mono (mE _))
def sD:Tr->Bool
 |.int _=>true
 |_=>false
def frT (n d:Int):Tr:=.tup [.int n,.int d]
def vk (t b:Int):Int:=t/(Int.gcd t b:Int)
def uN (t b:Int):Int:=b/(Int.gcd t b:Int)
def xg (r:Pol.R3):Tr:=.tup [.int r.1,.int r.2.1,.int r.2.2]
def xF (v:Pol.R3):Tr:=.tup [frT (vk v.1 v.2.2) (uN v.1 v.2.2),frT (vk v.2.1 v.2.2) (uN v.2.1 v.2.2)]
def af (p:Pol.R3):pln (xg p)=true:=rfl
def JD (p q:Pol.R3):zE (xg p) (xg q)=decide (p=q):=by
 have e:zE (xg p) (xg q)=(decide (p.1=q.1)&&(decide (p.2.1=q.2.1)&&(decide (p.2.2=q.2.2)&&true))):=rfl;rw[e];by_cases h:p=q
 .subst h;simp
 .rw[uU h];by_cases h1:p.1=q.1
  .by_cases h2:p.2.1=q.2.1
   .by_cases h3:p.2.2=q.2.2
    .exact absurd (ext3 h1 h2 h3) h
    .simp[h3]
   .simp[h2]
  .simp[h1]
theorem fx (f:α->Tr)(h:∀x,pln (f x)=true):∀l:List α,PyData.canLayAll0 (uF (l.map f))=true
 |[]=>rfl
 |x::l=>by show((wI (f x)).canLay0&&PyData.canLayAll0 (uF (l.map f)))=true;rw[fx f h l,show(wI (f x)).canLay0=true from h x];rfl
def DY (l:List Pol.R3)(c:Pol.R3):((l.map xg).any λu=>zE u (xg c))=decide (c∈l):=by
 rw[cV,aJ,qE];constructor
 .rintro⟨u,hu,h⟩;obtain⟨x,hx,rfl⟩:=zT.mp hu;rw[JD,qE] at h;subst h;exact hx
 .intro h;exact⟨xg c,jA h,by rw[JD];simp⟩
def Mt (hx:0<=x)(hy:0<=y):Int.gcd y (x%y)=Int.gcd x y:=by obtain⟨n,rfl⟩:=Int.eq_ofNat_of_zero_le hy;obtain⟨m,rfl⟩:=Int.eq_ofNat_of_zero_le hx;show Nat.gcd n (((m%n:Nat):Int)).natAbs=Nat.gcd m n;rw[Int.natAbs_natCast,Nat.gcd_comm m n,Nat.gcd_rec n m,Nat.gcd_comm]
def ot (hb:b≠0)(h:Bd b):Bd (Int.gcd t b:Int):=by unfold Bd;refine kZ ?_ h;have:=Int.gcd_le_natAbs_right (a:=t) hb;lia
def Hn:yb:=λts KK=>∃t,ts=[t]/\KK (.bl (sD t))
def PQ:yb:=λts KK=>∃t,ts=[t]/\∃us,(t=.tup us\/t=.lst us)/\us.length<sizeLine/\KK (.bl (us.all sD))
def Hl:yb:=λts KK=>∃a b:Int,ts=[.int a,.int b]/\KK (.int (Int.gcd a b))
def Qw:yb:=λts KK=>∃t b:Int,ts=[.int t,.int b]/\b≠0/\Bd b/\KK (frT (vk t b) (uN t b))
def PV:yb:=λts KK=>∃r p:Pol.R3,ts=[xg r,xg p]/\B3 r/\B3 p/\KK (.int (val r p))
def P0:yb:=λts KK=>∃r u v:Pol.R3,ts=[xg r,xg u,xg v]/\(yL 100 r/\yL 800 u/\yL 800 v)/\(0<u.2.2/\0<v.2.2)/\val r u*val r v<0/\KK (xg (x_ r u v))
def ahead (p q:Pol.R3):Bool:=decide (p.1*q.2.2<q.1*p.2.2\/p.1*q.2.2=q.1*p.2.2/\p.2.1*q.2.2<q.2.1*p.2.2)
def PN:yb:=λts KK=>∃p q:Pol.R3,ts=[xg p,xg q]/\B3 p/\B3 q/\KK (.bl (ahead p q))
def Hj:yb:=λts KK=>∃(l:List Pol.R3) (r:Pol.R3),ts=[.lst (l.map xg),xg r]/\yL 100 r/\(∀v∈l,yL 800 v/\0<v.2.2)/\l.length<=100000/\KK (.lst ((uM l r).map xg))
def uo (l:List Pol.R3)(s i:Nat):Nat:=if ahead (l.getD i (0,0,0)) (l.getD s (0,0,0))=true then i else s
def kJ (l:List Pol.R3):Nat:=(List.range l.length).foldl (uo l) 0
def uI (l:List Pol.R3):List Pol.R3:=l.drop (kJ l)++l.take (kJ l)
def P7:yb:=λts KK=>∃l:List Pol.R3,ts=[.lst (l.map xg)]/\(∀v∈l,B3 v)/\l.length<=100000/\KK (.lst ((uI l).map xg))
structure kA (xa:List Pol.R3):Prop where
 dir:∀r∈xa,r.1≠0\/r.2.1≠0
 sm:∀r∈xa,yL 100 r
 len:xa.length<=10000
def P4:yb:=λts KK=>∃(t:Tr) (r0 xa:List Pol.R3),ts=[.lst ((pieces r0).map xg),t]/\(t=.tup (xa.map xg)\/t=.lst (xa.map xg))/\kA (r0++xa)/\KK (.lst ((pieces (r0++xa)).map xg))
def QO:yb:=λts KK=>∃(t:Tr) (xa:List Pol.R3),ts=[t]/\(t=.tup (xa.map xg)\/t=.lst (xa.map xg))/\kA xa/\KK (.lst ((pieces xa).map xg))
def QP:yb:=λts KK=>∃l:List Pol.R3,ts=[.lst (l.map xg)]/\(∀v∈l,yL 800 v/\0<v.2.2)/\l.length<=100000/\KK (.lst ((uI l).map xF))
def PZ:yb:=λts KK=>∃(t:Tr) (xa:List Pol.R3),ts=[t]/\(t=.tup (xa.map xg)\/t=.lst (xa.map xg))/\kA xa/\KK (.lst ((uI (pieces xa)).map xF))
def qW:Tr->Option Pol.R3
 |.tup [.int a,.int b,.int c]=>some (a,b,c)
 |_=>none
def r6 (t:Tr):Bool:=match qW t with|some r=>decide (r.1≠0\/r.2.1≠0)|none=>false
def Qe:yb:=λts KK=>∃t,ts=[t]/\KK (.bl (r6 t))
def QY:yb:=λts KK=>∃(a b c d:Int) (x y:List Tr),ts=[.tup (.int a::.int b::x),.tup (.int c::.int d::y)]/\((Bd a/\Bd b)/\Bd c/\Bd d)/\KK (.int (a*d-b*c))
def i5:Option Pol.R3->Tr
 |some r=>xg r
 |none=>.non
def P8:yb:=λts KK=>∃(r:Pol.R3) (xa:List Pol.R3) (s:Int),ts=[xg r,.tup (xa.map xg),.int s]/\(s=1\/s = -1)/\yL 900 r/\(∀x∈xa,yL 900 x)/\KK (i5 (far r s xa))
def PR:yb:=λts KK=>∃(r:Pol.R3) (xa:List Pol.R3),ts=[xg r,.tup (xa.map xg)]/\yL 900 r/\(∀x∈xa,yL 900 x)/\KK (.bl (Pol.back r xa))
def P9:yb:=λts KK=>∃xa:List Pol.R3,ts=[.tup (xa.map xg)]/\(∀x∈xa,yL 900 x)/\KK (.bl (qN xa))
instance (r:Pol.R3):Decidable (uf r):=by unfold uf;infer_instance
def ji (t:Tr):Bool:=match qW t with|some r=>decide ((r.1≠0\/r.2.1≠0)/\uf r)|none=>false
def Qc:yb:=λts KK=>∃t,ts=[t]/\KK (.bl (ji t))
def nearF (n d:Int):Bool:=decide (-(12*d)<=n/\n<=12*d)
def Qd:yb:=λts KK=>∃fs:List (Int×Int),ts=[.tup (fs.map λf=>frT f.1 f.2)]/\fs.length<=1000/\(∀f∈fs,Bd f.2)/\KK (.bl (fs.all λf=>nearF f.1 f.2))
def jP (v:Pol.R3):Bool:=nearF (vk v.1 v.2.2) (uN v.1 v.2.2)&&nearF (vk v.2.1 v.2.2) (uN v.2.1 v.2.2)
def rowsOf:List Tr->Option (List Pol.R3)
 |[]=>some []
 |t::ts=>match qW t,rowsOf ts with|some r,some rs=>some (r::rs)|_,_=>none
def yD (xa:List Pol.R3):Bool:=decide (3<=xa.length/\xa.length<=8)&&(xa.all λr=>decide ((r.1≠0\/r.2.1≠0)/\uf r))&&qN xa&&(pieces xa).all jP
def isField:Tr->Bool
 |.tup us=>match rowsOf us with|some xa=>yD xa|none=>false
 |_=>false
def Qb:yb:=λts KK=>∃t,ts=[t]/\KK (.bl (isField t))
def nB (ts:List α)(s:Nat):wK ts (some (s:Int)) none=ts.drop s:=by
 unfold wK;rw[HT.Iz,HT.IA];by_cases h:s<=ts.length
 .rw[Nat.min_eq_left h,uS (by rw[v_];lia)]
 .rw[Nat.min_eq_right (by lia),List.drop_eq_nil_of_le (ym _),List.drop_eq_nil_of_le (by lia)];simp
def nE (ts:List α)(s:Nat):wK ts none (some (s:Int))=ts.take s:=by
 unfold wK;rw[HT.Iz,HT.IA,pC,Cg];by_cases h:s<=ts.length
 .rw[Nat.min_eq_left h]
 .rw[Nat.min_eq_right (by lia),uS (ym _),uS (by lia)]
def oU {α:Type}{f:α->Tr}{l:List α}{i:Nat}{x:Tr}(h:(vj (l.map f))[i]?=some x):∃v,l[i]?=some v/\x=.tup [.int i,f v]:=by
 have hi:i<l.length:=by have:=(y8.mp h).1;unfold vj at this;rw[fF,xP] at this;exact this
 have e:(l.map f)[i]?=some (f l[i]):=by rw[ue,yC hi];rfl
 unfold vj at h;rw[nK e] at h;refine⟨l[i],yC hi,?_⟩;have:=vK h;rw[<-this];simp
def rM (f:α->Tr)(l:List α):(vj (l.map f)).length=l.length:=by unfold vj;rw[fF,xP]
def KP {l:List Pol.R3}{i:Nat}{v:Pol.R3}(h:l[i]?=some v):∃u,u∈l/\(yX l)[i]?=some (u,v)/\atT (l.map xg) ((i:Int)-1)=some (xg u):=by
 obtain⟨u,hu,hc,hw⟩:=EI h;refine⟨u,hu,hc,?_⟩;rcases hw with ⟨rfl,ys,e⟩|⟨h0,e⟩
 .rw[e,wD];exact rz (ys.map xg) (xg u)
 .rw[show((i:Int)-1)=((i-1:Nat):Int) by lia,jF,ue,e];rfl
def MA (g:Good Ls l)(hs:∀s∈Ls,yL k s):∀v∈l,yL (2*k+1) v:=λv hv=>by obtain⟨s,hs1,t,ht1,e1,e2,hn⟩:=g.two v hv;have z:=g.bot v hv;obtain⟨b1,b2,b3⟩:=oE (g.prim v hv) z e1 e2 hn;have S:=hs s hs1;have T:=hs t ht1;have m:∀ {x y z w:Int},Bk k x->Bk k y->Bk k z->Bk k w->Bk (2*k+1) (x*y-z*w):=λh1 h2 h3 h4=>((h1.mul h2).sub (h3.mul h4)).mono (by lia);refine⟨⟨(m S.2 T.1.2 T.2 S.1.2).le b2,(m T.2 S.1.1 S.2 T.1.1).le b3⟩,?_⟩;have:=m S.1.1 T.1.2 S.1.2 T.1.1;refine this.le ?_;unfold Pol.turn at b1;lia
def K1:∀s∈qI,yL 100 s:=λs hs=>by have h:s∈qI:=hs;simp only[qI,xX,y9,zh] at h;unfold yL Bk;rcases h with rfl|rfl|rfl|rfl<;>simp only[yF]<;>decide
def kA.good (h:kA xa)(i:Nat):Good (qI++xa.take i) ((xa.take i).foldl uM box):=jJ (xa:=xa.take i) λs hs=>h.dir s (fb hs)
def kA.small (h:kA xa)(i:Nat):∀v∈(xa.take i).foldl uM box,yL 800 v/\0<v.2.2:=λv hv=>by
 have g:=h.good i;refine⟨(MA g (k:=100) (λs hs=>?_) v hv).mono (by decide),g.bot v hv⟩;rcases yz.mp hs with z|z
 .exact K1 s z
 .exact h.sm s (fb z)
def kA.plen (h:kA xa)(i:Nat):((xa.take i).foldl uM box).length<=100000:=by
 have:=et (xa:=xa.take i) λs hs=>h.dir s (fb hs);unfold pieces at this;have l:(xa.take i).length<=xa.length:=by rw[uQ];lia
 have:=h.len;lia
def gC (h:v∈uI l):v∈l:=by
 unfold uI at h;rcases yz.mp h with h|h
 .exact List.mem_of_mem_drop h
 .exact fb h
def KD (p:Pol.R3->Bool)(l:List Pol.R3):(uI l).all p=l.all p:=by unfold uI;rw[List.all_append,Bool.and_comm,<-List.all_append,dB]
def nW (l:List Pol.R3):(uI l).length=l.length:=by unfold uI;rw[ze,v_,uQ];lia
def Nj (a b c d:Int):HT.lexLt [a,b] [c,d]=decide (a<c\/a=c/\b<d):=by
 simp only[HT.lexLt];by_cases h:a<c
 .simp[h];lia
 .by_cases h2:a=c
  .subst h2;simp;lia
  .simp[h,h2]
def Ni {α:Type}{l:List α}{n:Nat}(e:l.length=n)(h:n<=1000000:=by decide):l.length<sizeLine:=wc (by lia)
def KY (hz:0<z)(h:Bd z):Bd (uN i z):=by
 unfold uN;have g:(0:Int)<(Int.gcd i z:Int):=by have:=mf i (show z≠0 by lia);lia
 have h1:=Int.ediv_le_self (Int.gcd i z:Int) (show 0<=z by lia);have h2:=BL (show 0<=z by lia) (show 0<=(Int.gcd i z:Int) by lia);unfold Bd at *
 lia
def bS (h:qW t=some r):t=xg r:=by
 unfold qW at h;split at h
 .cases h;rfl
 .cases h
theorem eO (xa:List Pol.R3):rowsOf (xa.map xg)=some xa:=by
 induction xa with
 |nil=>rfl
 |cons r xa ih=>show(match qW (xg r),rowsOf (xa.map xg) with|some r,some rs=>some (r::rs)|_,_=>none)=_;rw[ih];rfl
theorem bT:∀ {us:List Tr} {xa:List Pol.R3},rowsOf us=some xa->us=xa.map xg
 |[],xa,h=>by cases h;rfl
 |t::us,xa,h=>by
  unfold rowsOf at h;cases e1:qW t with
  |none=>rw[e1] at h;cases h
  |some r=>
   cases e2:rowsOf us with
   |none=>rw[e1,e2] at h;cases h
   |some rs=>rw[e1,e2] at h;cases h;rw[bS e1,bT e2];rfl
theorem RO (h:us.all ji=true):∃xa:List Pol.R3,us=xa.map xg/\∀r∈xa,(r.1≠0\/r.2.1≠0)/\uf r:=by
 induction us with
 |nil=>exact⟨[],rfl,λr hr=>by simp at hr⟩
 |cons t us ih=>
  rw[List.all_cons,ju] at h;obtain⟨xa,e,hr⟩:=ih h.2;have ht:=h.1;unfold ji at ht;cases e1:qW t with
  |none=>rw[e1] at ht;cases ht
  |some r=>
   rw[e1] at ht;have ht:=yU ht;refine⟨r::xa,by rw[bS e1,e];rfl,λx hx=>?_⟩;rcases xX.mp hx with z|z
   .rw[z];exact ht
   .exact hr x z
def nP (h:uf r):yL 100 r:=by obtain⟨⟨⟨a,b⟩,c,d⟩,e,f⟩:=h;refine⟨⟨?_,?_⟩,?_⟩<;>unfold Bk<;>lia
def KE (xa:List Pol.R3):(xa.map xg).all ji=xa.all λr=>decide ((r.1≠0\/r.2.1≠0)/\uf r):=by rw[pB];rfl
theorem MO (h:us.all ji=false):isField (.tup us)=false:=by
 show(match rowsOf us with|some xa=>yD xa|none=>false)=false;cases e:rowsOf us with
 |none=>rfl
 |some xa=>rw[bT e,KE] at h;show yD xa=false;unfold yD;rw[h];simp
end L2
namespace Fra
def gd (a b:Int):Int:=(Int.gcd a b:Int)
def low (n d:Int):Int×Int:=(n/gd n d,d/gd n d)
def FJ (a b:Int):0<=gd a b:=BR _
def vX (h:a≠0\/b≠0):0<gd a b:=by
 unfold gd;have:0<Int.gcd a b:=by
  rcases h with h|h
  .exact Int.gcd_pos_of_ne_zero_left _ h
  .exact mf _ h
 lia
def rT (a b:Int):gd a b∣a:=j5 ..
def rV (a b:Int):gd a b∣b:=dj ..
def Mx (a:Int):gd a 0=if a<0 then -a else a:=by unfold gd;rw[Int.gcd_zero_right];split<;>lia
def Mu (h:∀k:Int,(k∣a/\k∣b)↔(k∣c/\k∣d)):gd a b=gd c d:=by have e1:gd a b∣gd c d:=jv ((h _).mp ⟨rT a b,rV a b⟩).1 ((h _).mp ⟨rT a b,rV a b⟩).2;have e2:gd c d∣gd a b:=jv ((h _).mpr ⟨rT c d,rV c d⟩).1 ((h _).mpr ⟨rT c d,rV c d⟩).2;exact JW (FJ _ _) (FJ _ _) e1 e2
def Mw (a b q:Int):gd b (a-b*q)=gd a b:=by
 refine Mu λk=>⟨λ⟨h1,h2⟩=>⟨?_,h1⟩,λ⟨h1,h2⟩=>⟨h2,?_⟩⟩
 .have:=Int.dvd_add h2 (Int.dvd_mul_of_dvd_left (c:=q) h1);rwa [Int.sub_add_cancel] at this
 .exact Int.dvd_sub h1 (Int.dvd_mul_of_dvd_left h2)
def Mv (a b:Int):gd b (a.fmod b)=gd a b:=by rw[Int.fmod_def];exact Mw a b _
def Mi {a b:Int}(h:b≠0):(a.fmod b).natAbs<b.natAbs:=by
 by_cases hb:0<b
 .have h1:=J1 a hb;have h2:=J0 a hb;lia
 .have hn:0 < -b:=by lia
  have e:a.fmod b = - ((-a).fmod (-b)):=by rw[Int.neg_fmod_neg];lia
  have h1:=J1 (-a) hn;have h2:=J0 (-a) hn;lia
def GF (n d:Int):(low n d).1*gd n d=n:=JZ (rT n d)
def lC (n d:Int):(low n d).2*gd n d=d:=JZ (rV n d)
def fK (n d:Int):(low n d).1*d=n*(low n d).2:=by have h1:=GF n d;have h2:=lC n d;grind
def qk (h:0<d):0<(low n d).2:=by
 have h2:=lC n d;have g:=vX (a:=n) (b:=d) (.inr (by lia));generalize gd n d=k at *
 generalize (low n d).2=m at *
 by_cases hm:0<m
 .exact hm
 .have:m*k<=0:=Uk (by lia) (by lia);lia
def nY (h:0<d):Int.gcd (low n d).1 (low n d).2=1:=by
 have g:=vX (a:=n) (b:=d) (.inr (by lia));unfold low gd at *
 exact Int.gcd_ediv_gcd_ediv_gcd (by lia)
def E2 (h:b∣a*d)(g:Int.gcd b a=1):b∣d:=by
 have h':b.natAbs∣a.natAbs*d.natAbs:=by rw[<-u9];exact Int.natAbs_dvd_natAbs.mpr h
 exact Int.natAbs_dvd_natAbs.mp (Nat.Coprime.dvd_of_dvd_mul_left (show Nat.Coprime b.natAbs a.natAbs from g) h')
def Ez (h1:Int.gcd a b=1)(h2:Int.gcd c d=1)(hb:0<b)(hd:0<d)(e:a*d=c*b):a=c/\b=d:=by
 have k1:b∣d:=by
  have:b∣a*d:=⟨c,by rw[e,vG]⟩
  exact E2 this (by rw[Int.gcd_comm];exact h1)
 have k2:d∣b:=by
  have:d∣c*b:=⟨a,by rw[<-e,vG]⟩
  exact E2 this (by rw[Int.gcd_comm];exact h2)
 have ebd:b=d:=JW (by lia) (by lia) k1 k2;subst ebd;exact⟨j4 (by lia) e,rfl⟩
def tu (h:0<d)(h':0<d')(e:n*d'=n'*d):low n d=low n' d':=by
 have c1:=nY (n:=n) h;have c2:=nY (n:=n') h';have p1:=qk (n:=n) h;have p2:=qk (n:=n') h';have x1:=fK n d;have x2:=fK n' d';have key:(low n d).1*(low n' d').2=(low n' d').1*(low n d).2:=by
  generalize (low n d).1=a at *
  generalize (low n d).2=b at *
  generalize (low n' d').1=c at *
  generalize (low n' d').2=f at *
  have:(a*f)*(d*d')=(c*b)*(d*d'):=by grind
  exact j4 (by have:=j8 h h';lia) this
 obtain⟨u,v⟩:=Ez c1 c2 p1 p2 key;exact zC u v
def TN (hx:0<x1)(hy:0<y1) :
  low ((low (a*x0) x1).1*(low (b*y0) y1).2+(low (b*y0) y1).1*(low (a*x0) x1).2) ((low (a*x0) x1).2*(low (b*y0) y1).2)=low (a*x0*y1+b*y0*x1) (x1*y1):=by
 have p1:=qk (n:=a*x0) hx;have p2:=qk (n:=b*y0) hy;have e1:=fK (a*x0) x1;have e2:=fK (b*y0) y1;refine tu (j8 p1 p2) (j8 hx hy) ?_;generalize (low (a*x0) x1).1=p at *
 generalize (low (a*x0) x1).2=q at *
 generalize (low (b*y0) y1).1=r at *
 generalize (low (b*y0) y1).2=t at *
 grind
def lB (n:Int):low n 1=(n,1):=by
 have g:gd n 1=1:=by unfold gd;simp
 unfold low;rw[g];simp
end Fra
namespace L2
open PySem PySem.Spec PyProof.Rows
abbrev F2:=Int×Int
abbrev P2:=F2×F2
def fT (f:F2):Tr:=frT f.1 f.2
def pT (p:P2):Tr:=.tup [fT p.1,fT p.2]
def lfr (t b:Int):F2:=if b<0 then Fra.low (-t) (-b) else Fra.low t b
def qP (h:0<b):lfr t b=Fra.low t b:=by unfold lfr;rw[xG (by lia)]
def GC (h:b<0):lfr t b=Fra.low (-t) (-b):=by unfold lfr;rw[xJ h]
def xt (v:Pol.R3):P2:=(Fra.low v.1 v.2.2,Fra.low v.2.1 v.2.2)
def gW (v:Pol.R3):xF v=pT (xt v):=rfl
def zc (r:Pol.R3)(p:P2):F2:=lfr (r.1*p.1.1*p.2.2+r.2.1*p.2.1*p.1.2) (p.1.2*p.2.2)
def uk (f g:F2):Bool:=decide (f.1*g.2<g.1*f.2)
def fmin (f g:F2):F2:=lfr (f.1*g.2-g.1*f.2) (f.2*g.2)
def wL (f g:F2):F2:=lfr (f.1*g.1) (f.2*g.2)
def uW (f g:F2):F2:=lfr (f.1*g.2+g.1*f.2) (f.2*g.2)
def gy (p q w:P2):Int:=(fmin (wL (fmin q.1 p.1) (fmin w.2 p.2)) (wL (fmin q.2 p.2) (fmin w.1 p.1))).1
def zN (r:Pol.R3)(p:P2):Bool:=decide ((zc r p).1<=r.2.2*(zc r p).2)
structure Fk (k:Nat)(f:F2):Prop where
 top:Bk k f.1
 bot:Bk k f.2
 pos:0<f.2
theorem Fk.mono (h:Fk k f)(hk:k<=m):Fk m f:=⟨h.top.mono hk,h.bot.mono hk,h.pos⟩
def tj (h:0<b)(ht:Bk k t)(hb:Bk k b):Fk k (Fra.low t b):=by
 have g:=Fra.vX (a:=t) (b:=b) (.inr (by lia));refine⟨ht.le ?_,hb.le ?_,Fra.qk h⟩
 .have e:=Fra.GF t b;generalize (Fra.low t b).1=x at *
  generalize Fra.gd t b=y at *
  rw[<-e,u9];exact Nat.le_mul_of_pos_right _ (by lia)
 .have e:=Fra.lC t b;generalize (Fra.low t b).2=x at *
  generalize Fra.gd t b=y at *
  have:b.natAbs=x.natAbs*y.natAbs:=by rw[<-u9,e]
  rw[this];exact Nat.le_mul_of_pos_right _ (by lia)
def qO (h:b≠0)(ht:Bk k t)(hb:Bk k b):Fk k (lfr t b):=by
 unfold lfr;split
 .exact tj (by lia) ht.neg hb.neg
 .exact tj (by lia) ht hb
structure Sd (f:F2)(N D:Int):Prop where
 pf:0<f.2
 pd:0<D
 e:f.1*D=N*f.2
def tY (h:0<b):Sd (Fra.low t b) t b:=⟨Fra.qk h,h,Fra.fK t b⟩
def IT (h:0<f.2):Sd f f.1 f.2:=⟨h,h,rfl⟩
theorem Sd.lfr (hb:0<b)(hD:0<D)(e:t*D=N*b)(hf:f=L2.lfr t b):Sd f N D:=by
 subst hf;rw[qP hb];refine⟨Fra.qk hb,hD,?_⟩;have h:=Fra.fK t b;generalize (Fra.low t b).1=x at *
 generalize (Fra.low t b).2=y at *
 have:(x*D)*b=(N*y)*b:=by grind
 exact j4 (by lia) this
def Sd.minus (h:Sd f N D)(h':Sd g M E):Sd (fmin f g) (N*E-M*D) (D*E):=by refine Sd.lfr (Pol.pp h.pf h'.pf) (Pol.pp h.pd h'.pd) ?_ rfl;have:=h.e;have:=h'.e;grind
def Sd.plus (h:Sd f N D)(h':Sd g M E):Sd (uW f g) (N*E+M*D) (D*E):=by refine Sd.lfr (Pol.pp h.pf h'.pf) (Pol.pp h.pd h'.pd) ?_ rfl;have:=h.e;have:=h'.e;grind
def Sd.times (h:Sd f N D)(h':Sd g M E):Sd (wL f g) (N*M) (D*E):=by refine Sd.lfr (Pol.pp h.pf h'.pf) (Pol.pp h.pd h'.pd) ?_ rfl;have:=h.e;have:=h'.e;grind
def n9 {a b k:Int}(hk:0<k):a*k<=b*k↔a<=b:=⟨λh=>j6 h hk,λh=>zj h (by lia)⟩
def lH {a b k:Int}(hk:0<k):a*k<b*k↔a<b:=⟨λh=>J3 h (by lia),λh=>J5 h hk⟩
def GN {a b k:Int}(hk:0<k):a*k=b*k↔a=b:=⟨λh=>j4 (by lia) h,λh=>by rw[h]⟩
def tz {a k:Int}(hk:0<k):a*k<0↔a<0:=by have:=lH (a:=a) (b:=0) hk;rwa [jy] at this
def Sd.le {f:F2}{N D:Int}(h:Sd f N D)(c:Int):f.1<=c*f.2↔N<=c*D:=by have e:=h.e;rw[<-n9 h.pd,e,show c*f.2*D=(c*D)*f.2 by grind,n9 h.pf]
def Sd.neg {f:F2}{N D:Int}(h:Sd f N D):f.1<0↔N<0:=by have e:=h.e;rw[<-tz h.pd,e,tz h.pf]
def Sd.lt {f g:F2}{N D M E:Int}(h:Sd f N D)(h':Sd g M E):f.1*g.2<g.1*f.2↔N*E<M*D:=by have e:=h.e;have e':=h'.e;rw[<-lH (Pol.pp h.pd h'.pd),show f.1*g.2*(D*E)=(N*E)*(f.2*g.2) by grind,show g.1*f.2*(D*E)=(M*D)*(f.2*g.2) by grind,lH (Pol.pp h.pf h'.pf)]
def Sd.eq {f g:F2}{N D M E:Int}(h:Sd f N D)(h':Sd g M E):f.1*g.2=g.1*f.2↔N*E=M*D:=by have e:=h.e;have e':=h'.e;rw[<-GN (Pol.pp h.pd h'.pd),show f.1*g.2*(D*E)=(N*E)*(f.2*g.2) by grind,show g.1*f.2*(D*E)=(M*D)*(f.2*g.2) by grind,GN (Pol.pp h.pf h'.pf)]
section
variable {p q v w:Pol.R3}
def sdx (h:0<v.2.2):Sd (xt v).1 v.1 v.2.2:=tY h
def sdy (h:0<v.2.2):Sd (xt v).2 v.2.1 v.2.2:=tY h
def nQ (r:Pol.R3)(h:0<v.2.2):Sd (zc r (xt v)) (r.1*v.1+r.2.1*v.2.1) v.2.2:=by have a:=sdx h;have b:=sdy h;refine Sd.lfr (Pol.pp a.pf b.pf) h ?_ rfl;have:=a.e;have:=b.e;grind
def oZ (r:Pol.R3)(h:0<v.2.2):zN r (xt v)=decide (val r v<=0):=by unfold zN;rw[aW,(nQ r h).le];unfold val;lia
def Fn (hp:0<p.2.2)(hq:0<q.2.2)(hw:0<w.2.2):gy (xt p) (xt q) (xt w)<0↔det p q w<0:=by
 unfold gy;have s:=(((sdx hq).minus (sdx hp)).times ((sdy hw).minus (sdy hp))).minus (((sdy hq).minus (sdy hp)).times ((sdx hw).minus (sdx hp)));rw[s.neg];have D:0<q.2.2*p.2.2*(w.2.2*p.2.2):=Pol.pp (Pol.pp hq hp) (Pol.pp hw hp);have e:(q.1*p.2.2-p.1*q.2.2)*(w.2.1*p.2.2-p.2.1*w.2.2)*(q.2.2*p.2.2*(w.2.2*p.2.2))-(q.2.1*p.2.2-p.2.1*q.2.2)*(w.1*p.2.2-p.1*w.2.2)*(q.2.2*p.2.2*(w.2.2*p.2.2))
   = det p q w*(p.2.2*(q.2.2*p.2.2*(w.2.2*p.2.2))):=by unfold det;grind
 rw[e,tz (Pol.pp hp D)]
def Hz (hp:0<p.2.2)(hq:0<q.2.2)(h:k8 p q):xt p=xt q:=by unfold xt;rw[Fra.tu hp hq h.1,Fra.tu hp hq h.2]
def Rj (hp:0<p.2.2)(hq:0<q.2.2)(h:xt p=xt q):k8 p q:=by have a:=(sdx hp).eq (sdx hq);have b:=(sdy hp).eq (sdy hq);rw[h] at a b;exact⟨a.mp rfl,b.mp rfl⟩
def HD (hp:0<p.2.2)(hq:0<q.2.2)(gp:yQ p=1)(gq:yQ q=1)(h:k8 p q):p=q:=by
 have key:∀ {p q:Pol.R3},0<p.2.2->0<q.2.2->yQ p=1->k8 p q->p.2.2∣q.2.2:=λ {p q} hp hq gp h=>by
  have h1:p.2.2∣q.2.2*p.1:=⟨q.1,by have:=h.1;grind⟩
  have h2:p.2.2∣q.2.2*p.2.1:=⟨q.2.1,by have:=h.2;grind⟩
  have h3:p.2.2∣q.2.2*p.2.2:=JX ..;have g12:p.2.2∣q.2.2*(Int.gcd p.1 p.2.1:Int):=by
   have:=jv h1 h2;rw[BM] at this;have h4:((q.2.2).natAbs*Int.gcd p.1 p.2.1:Nat)=((q.2.2*(Int.gcd p.1 p.2.1:Int)).natAbs:Nat):=by rw[u9];rfl
   rw[h4] at this;exact cZ.mp this
  have g3:=jv g12 h3;rw[BM] at g3;have hg':Int.gcd (Int.gcd p.1 p.2.1:Int) p.2.2=1:=gp;rw[hg',Nat.mul_one] at g3;exact cZ.mp g3
 have ez:p.2.2=q.2.2:=JW (by lia) (by lia) (key hp hq gp h) (key hq hp gq ⟨h.1.symm,h.2.symm⟩);have h1:=h.1;have h2:=h.2;rw[ez] at h1 h2;exact ext3 (j4 (by lia) h1) (j4 (by lia) h2) ez
def tM (h:0<v.2.2)(hb:yL k v):Fk k (xt v).1/\Fk k (xt v).2:=⟨tj h hb.1.1 hb.2,tj h hb.1.2 hb.2⟩
end
def HA (p:P2):pln (pT p)=true:=rfl
def aA (f g:F2):zE (fT f) (fT g)=decide (f=g):=by
 have e:zE (fT f) (fT g)=(decide (f.1=g.1)&&(decide (f.2=g.2)&&true)):=rfl;rw[e];by_cases h1:f.1=g.1
 .by_cases h2:f.2=g.2
  .simp[h1,h2,mG]
  .simp[h1,h2,mG]
 .simp[h1,mG]
def JC (p q:P2):zE (pT p) (pT q)=decide (p=q):=by
 have e:zE (pT p) (pT q)=(zE (fT p.1) (fT q.1)&&(zE (fT p.2) (fT q.2)&&true)):=rfl;rw[e,aA,aA];by_cases h1:p.1=q.1
 .by_cases h2:p.2=q.2
  .simp[h1,h2,mG]
  .simp[h1,h2,mG]
 .simp[h1,mG]
def oj (l:List P2)(c:P2):((l.map pT).any λu=>zE u (pT c))=decide (c∈l):=by
 rw[cV,aJ,qE];constructor
 .rintro⟨u,hu,h⟩;obtain⟨x,hx,rfl⟩:=zT.mp hu;rw[JC,qE] at h;subst h;exact hx
 .intro h;exact⟨pT c,jA h,by rw[JC];simp⟩
def qJ {α:Type}{dg:DG}{dc:DT}{de:DE}{τi:xV}{KK:List Tr->Prop}{f:α->Tr}{l:List α}(p:α->Bool)(g:α->Tr)
  (h1:∀a∈l,∀(N:Tr->Prop) (M:Prop),(p a=true->N (g a))->(p a=false->M)->dg (f a) τi λτ2=>dc τ2 λb=>if b=true then de τ2 N else M) (h0:KK ((l.filter p).map g)):kC dg dc de τi KK (l.map f) []:=by
 refine rA (λys acc=>∃zs us,l=zs++us/\ys=us.map f/\acc=(zs.filter p).map g) (λacc ⟨zs,us,e,ey,e2⟩=>?_) (λx ys acc N ⟨zs,us,e,ey,e2⟩ hN=>?_) _ [] ⟨[],l,rfl,rfl,rfl⟩
 .cases us with
  |nil=>rw[uH] at e;subst e e2;exact h0
  |cons u us=>cases ey
 .cases us with
  |nil=>cases ey
  |cons u us=>
   injection ey with ex ey;subst ex ey e2;have hu:u∈l:=by rw[e];simp
   refine h1 u hu (λy=>N ((zs.filter p).map g++[y])) (N ((zs.filter p).map g)) (λhp=>hN _ ⟨zs++[u],us,by rw[e];simp,rfl,?_⟩) (λhp=>hN _ ⟨zs++[u],us,by rw[e];simp,rfl,?_⟩)
   .rw[List.filter_append,mq hp];simp
   .rw[List.filter_append,aL (by rw[hp];exact uG)];simp
def Ef {α:Type}{dg:DG}{de:DE}{τi:xV}{KK:List Tr->Prop}{f:α->Tr}{l:List α}(g:α->Tr)(h1:∀a∈l,∀N:Tr->Prop,N (g a)->dg (f a) τi λτ2=>de τ2 N)(h0:KK (l.map g)):kC dg nG de τi KK (l.map f) []:=by
 refine rA (λys acc=>∃zs us,l=zs++us/\ys=us.map f/\acc=zs.map g) (λacc ⟨zs,us,e,ey,e2⟩=>?_) (λx ys acc N ⟨zs,us,e,ey,e2⟩ hN=>?_) _ [] ⟨[],l,rfl,rfl,rfl⟩
 .cases us with
  |nil=>rw[uH] at e;subst e e2;exact h0
  |cons u us=>cases ey
 .cases us with
  |nil=>cases ey
  |cons u us=>injection ey with ex ey;subst ex ey e2;exact h1 u (by rw[e];simp) (λy=>N (zs.map g++[y])) (hN _ ⟨zs++[u],us,by rw[e];simp,rfl,by simp⟩)
def Tp (xs:List Tr):zE (.lst xs) (.lst [])=xs.isEmpty:=by cases xs<;>rfl
def L3 (h:PyData.canLayAll0 (uF xs)=true):fj (.lst xs) (.lst []):=⟨h,rfl,vt (Kg _ _) (by decide)⟩
def se {neg:Bool}{xs:List Tr}{KK:Tr->Prop}(h:PyData.canLayAll0 (uF xs)=true)(k:KK (.bl (if neg then !xs.isEmpty else xs.isEmpty))):rO neg (.lst xs) (.lst []) KK:=⟨L3 h,by rw[Tp];exact k⟩
def Lf (l:List P2):PyData.canLayAll0 (uF (l.map pT))=true:=fx pT HA l
theorem filter_empty (p:α->Bool)(l:List α):(l.filter p).isEmpty=l.all λx=>!p x:=by
 induction l with
 |nil=>rfl
 |cons x l ih=>
  by_cases h:p x=true
  .rw[mq h,List.all_cons,h];rfl
  .rw[aL h,ih,List.all_cons];have:p x=false:=by simpa using h
   rw[this];rfl
def Qs:yb:=λts KK=>∃t b:Int,ts=[.int t,.int b]/\b≠0/\Bd b/\KK (fT (lfr t b))
def oG (s t:Pol.R3):Tr:=if Pol.turn s t=0 then .non else xF (zI s t)
def Qk:yb:=λts KK=>∃s t:Pol.R3,ts=[xg s,xg t]/\yL 900 s/\yL 900 t/\KK (oG s t)
def Qq:yb:=λts KK=>∃(r:Pol.R3) (p:P2),ts=[xg r,pT p]/\yL 200 r/\Fk 600 p.1/\Fk 600 p.2/\KK (.bl (zN r p))
def Qr:yb:=λts KK=>∃f g:F2,ts=[fT f,fT g]/\Fk 1000 f/\Fk 1000 g/\KK (.bl (uk f g))
def Qu:yb:=λts KK=>∃f g:F2,ts=[fT f,fT g]/\Fk 900 f/\Fk 900 g/\KK (fT (fmin f g))
def Qy:yb:=λts KK=>∃f g:F2,ts=[fT f,fT g]/\Fk 900 f/\Fk 900 g/\KK (fT (uW f g))
def QC:yb:=λts KK=>∃f g:F2,ts=[fT f,fT g]/\Fk 900 f/\Fk 900 g/\KK (fT (wL f g))
def Pk (k:Nat)(p:P2):Prop:=Fk k p.1/\Fk k p.2
def Qj:yb:=λts KK=>∃p q w:P2,ts=[pT p,pT q,pT w]/\Pk 200 p/\Pk 200 q/\Pk 200 w/\KK (.int (gy p q w))
structure k7 (n:Nat)(l:List Pol.R3):Prop where
 ccw:Ccw l
 pos:∀v∈l,0<v.2.2
 prim:∀v∈l,yQ v=1
 sm:∀v∈l,yL 190 v
 least:rh l
 len:l.length<=n
abbrev Kw:=k7 900
structure zm (xa:List Pol.R3):Prop where
 fine:jD xa xa
 len:xa.length<=8
def xS (xa:List Pol.R3):List Pol.R3:=uI (pieces xa)
def Qi:yb:=λts KK=>∃xa:List Pol.R3,ts=[.tup (xa.map xg)]/\zm xa/\KK (.lst ((xS xa).map xF))
def lz (h:b≠0):0<(lfr t b).2:=by
 unfold lfr;split
 .exact Fra.qk (by lia)
 .exact Fra.qk (by lia)
def Fk.min (h:Fk k f)(h':Fk k g):Fk (2*k+1) (fmin f g):=by
 unfold fmin;refine qO (by have:=Pol.pp h.pos h'.pos;lia) ?_ ?_
 .exact((h.top.mul h'.bot).sub (h'.top.mul h.bot)).mono (by lia)
 .exact(h.bot.mul h'.bot).mono (by lia)
def Fk.plus (h:Fk k f)(h':Fk k g):Fk (2*k+1) (uW f g):=by
 unfold uW;refine qO (by have:=Pol.pp h.pos h'.pos;lia) ?_ ?_
 .exact((h.top.mul h'.bot).add (h'.top.mul h.bot)).mono (by lia)
 .exact(h.bot.mul h'.bot).mono (by lia)
def Fk.tim (h:Fk k f)(h':Fk k g):Fk (2*k) (wL f g):=by
 unfold wL;refine qO (by have:=Pol.pp h.pos h'.pos;lia) ?_ ?_
 .exact(h.top.mul h'.top).mono (by lia)
 .exact(h.bot.mul h'.bot).mono (by lia)
def DV (p q:Pol.R3):ahead p q=true↔Ah p q:=by unfold ahead Ah;exact mJ
theorem lx (l:List Pol.R3)(hl:l≠[]):∀n,n<=l.length->(List.range n).foldl (uo l) 0<l.length
 |0,_=>by simp;exact List.length_pos_iff.mpr hl
 |n+1,h=>by rw[List.range_succ,dq];have ih:=lx l hl n (by lia);generalize (List.range n).foldl (uo l) 0=m at ih ⊢;show uo l m n<_;unfold uo;split<;>lia
theorem Gv (l:List Pol.R3)(hp:∀v∈l,0<v.2.2)(hl:l≠[]):∀n,n<=l.length->∀j,j<n->¬Ah (l.getD j (0,0,0)) (l.getD ((List.range n).foldl (uo l) 0) (0,0,0))
 |0,_=>λj hj=>by lia
 |n+1,h=>λj hj=>by
  rw[List.range_succ,dq];have ih:=Gv l hp hl n (by lia);have s:=lx l hl n (by lia);have g:∀i,i<l.length->0<(l.getD i (0,0,0)).2.2:=λi hi=>by rw[jz,yC hi];exact hp _ (BZ hi)
  generalize (List.range n).foldl (uo l) 0=m at ih s ⊢;show ¬Ah _ (l.getD (uo l m n) (0,0,0));by_cases c:ahead (l.getD n (0,0,0)) (l.getD m (0,0,0))=true
  .have e:uo l m n=n:=by unfold uo;rw[xJ c]
   rw[e];have c:=(DV _ _).mp c;by_cases hjn:j=n
   .rw[hjn];exact Ah.irrefl _
   .intro z;exact ih j (by lia) (z.trans (g j (by lia)) (g n (by lia)) (g m s) c)
  .have e:uo l m n=m:=by unfold uo;rw[xG c]
   rw[e];by_cases hjn:j=n
   .rw[hjn];exact λz=>c ((DV _ _).mpr z)
   .exact ih j (by lia)
def FC (hp:∀v∈l,0<v.2.2):rh (uI l):=by
 intro h t e v hv;have hl:l≠[]:=λz=>by rw[z] at e;unfold uI at e;simp at e
 have s:=lx l hl l.length (ym _);have ok:=Gv l hp hl l.length (ym _);have hh:h=l.getD (kJ l) (0,0,0):=by unfold uI at e;rw[aK (show kJ l<l.length from s),g9] at e;injection e with e1 e2;rw[<-e1,jz,yC (show kJ l<l.length from s)];rfl
 have hv:=gC hv;obtain⟨j,hj,rfl⟩:=dw.mp hv;have:=ok j hj;rw[hh];rw[jz,yC hj] at this;exact this
def tw:v∈uI l↔v∈l:=by unfold uI;rw[yz,Or.comm,<-yz,dB]
def FA (h:Ccw l):Ccw (uI l):=by unfold uI;apply Ccw.rot;rw[dB];exact h
def zm.rows {xa:List Pol.R3}(h:zm xa):kA xa:=⟨h.fine.dir,λr hr=>nP (h.fine.fr r hr),by have:=h.len;lia⟩
def jI (h:uf r):yL 10 r:=by obtain⟨⟨⟨a,b⟩,c,d⟩,e,f⟩:=h;refine⟨⟨?_,?_⟩,?_⟩<;>unfold Bk<;>lia
theorem zm.corner {xa:List Pol.R3}(h:zm xa){v:Pol.R3}(hv:v∈xS xa):(0<v.2.2/\yQ v=1/\IsC xa v)/\yL 21 v:=by have hv:v∈pieces xa:=gC hv;have c:=h.fine.corner hv;refine⟨c,?_⟩;obtain⟨hz,g,⟨_,s,hs,t,ht,e1,e2,hn⟩⟩:=c;obtain⟨b1,b2,b3⟩:=oE g hz e1 e2 hn;have S:=jI (h.fine.fr s hs);have T:=jI (h.fine.fr t ht);have m:∀ {x y z w:Int},Bk 10 x->Bk 10 y->Bk 10 z->Bk 10 w->Bk 21 (x*y-z*w):=λh1 h2 h3 h4=>(h1.mul h2).sub (h3.mul h4);refine⟨⟨(m S.2 T.1.2 T.2 S.1.2).le b2,(m T.2 S.1.1 S.2 T.1.1).le b3⟩,?_⟩;refine(m S.1.1 T.1.2 S.1.2 T.1.1).le ?_;unfold Pol.turn at b1;lia
def zm.ring {xa:List Pol.R3}(h:zm xa):Kw (xS xa) where
 ccw:=FA (jJ h.fine.dir).ccw
 pos:=λv hv=>(h.corner hv).1.1
 prim:=λv hv=>(h.corner hv).1.2.1
 sm:=λv hv=>(h.corner hv).2.mono (by decide)
 least:=FC (jJ h.fine.dir).bot
 len:=by unfold xS;rw[nW];have:=et h.fine.dir;have:=h.len;lia
def zm.crossing {xa:List Pol.R3}(h:zm xa){s t:Pol.R3}(hs:s∈xa)(ht:t∈xa)(hn:Pol.turn s t≠0)(hk:∀r∈xa,val r (zI s t)<=0):∃v∈xS xa,xF (zI s t)=xF v:=by obtain⟨z,e1,e2⟩:=fy hn;obtain⟨v,hv,sm⟩:=h.fine.found z ⟨hk,s,hs,t,ht,e1,e2,hn⟩;refine⟨v,tw.mpr hv,?_⟩;rw[gW,gW,Hz z (h.fine.corner hv).1 ⟨sm.1.symm,sm.2.symm⟩]
def zm.tightPt {xa:List Pol.R3}(h:zm xa){s t v:Pol.R3}(hv:v∈xS xa)(hn:Pol.turn s t≠0)(h1:val s v=0)(h2:val t v=0):xF (zI s t)=xF v/\∀r∈xa,val r (zI s t)<=0:=by
 obtain⟨⟨hz,_,hc⟩,_⟩:=h.corner hv;obtain⟨z,e1,e2⟩:=fy hn;have sm:=Lr hn h1 h2;refine⟨by rw[gW,gW,Hz z hz sm],λr hr=>?_⟩;have k:=hc.kept r hr;have e:val r (zI s t)*v.2.2=val r v*(zI s t).2.2:=by have a:=sm.1;have b:=sm.2;unfold val;grind
 have:val r (zI s t)*v.2.2<=0:=by rw[e];exact np k (by lia)
 rcases y4 0 (val r (zI s t)) with q|q
 .have:=Pol.pp q hz;lia
 .exact q
def BC (hp:0<p.2.2)(hq:0<q.2.2)(gp:yQ p=1)(gq:yQ q=1)(h:xt p=xt q):p=q:=HD hp hq gp gq (Rj hp hq h)
def Lq (h:Pol.turn s t≠0):xF (zI s t)=pT (lfr (s.2.2*t.2.1-s.2.1*t.2.2) (Pol.turn s t),lfr (s.1*t.2.2-s.2.2*t.1) (Pol.turn s t)):=by rw[gW];congr 1;unfold zI lfr xt;split<;>rfl
def ED (h:Pol.turn s t=0):oG s t=.non:=xJ h
def EE (h:Pol.turn s t≠0):oG s t=xF (zI s t):=xG h
def Mo (hx:Fk 600 p.1)(hy:Fk 600 p.2)(hr:yL 200 r):Bd (zc r p).2:=by
 unfold zc;have:=qO (k:=1500) (t:=r.1*p.1.1*p.2.2+r.2.1*p.2.1*p.1.2) (b:=p.1.2*p.2.2) (by have:=Pol.pp hx.pos hy.pos;lia)
  (((hr.1.1.mul hx.top |>.mul hy.bot).add (hr.1.2.mul hy.top |>.mul hx.bot)).mono (by decide)) ((hx.bot.mul hy.bot).mono (by decide))
 exact this.bot.bd
structure fq (ss done:List Pol.R3):Prop where
 nd:ss.Nodup
 mem:∀v,v∈ss↔v∈done
 least:rh ss
def wU (ss:List Pol.R3)(p:Pol.R3):Nat:=(ss.filter λv=>uk (xt v).1 (xt p).1).length+(ss.filter λv=>decide ((xt v).1=(xt p).1)&&uk (xt v).2 (xt p).2).length
def Gy (hp:0<p.2.2)(hq:0<q.2.2):uk (xt p).1 (xt q).1=true↔p.1*q.2.2<q.1*p.2.2:=by unfold uk;rw[mJ];exact(sdx hp).lt (sdx hq)
def Gz (hp:0<p.2.2)(hq:0<q.2.2):uk (xt p).2 (xt q).2=true↔p.2.1*q.2.2<q.2.1*p.2.2:=by unfold uk;rw[mJ];exact(sdy hp).lt (sdy hq)
def E5 (hp:0<p.2.2)(hq:0<q.2.2):(xt p).1=(xt q).1↔p.1*q.2.2=q.1*p.2.2:=⟨λe=>((sdx hp).eq (sdx hq)).mp (by rw[e]),λe=>Fra.tu hp hq e⟩
def KA (hs:∀v∈ss,0<v.2.2)(hp:0<p.2.2)(h:wU ss p=0):∀v∈ss,¬Ah v p:=λv hv a=>by
 unfold wU at h;have h1:(ss.filter λv=>uk (xt v).1 (xt p).1)=[]:=mw.mp (by lia);have h2:(ss.filter λv=>decide ((xt v).1=(xt p).1)&&uk (xt v).2 (xt p).2)=[]:=mw.mp (by lia);rw[J_] at h1 h2;rcases a with a|⟨a,b⟩
 .exact h1 v hv ((Gy (hs v hv) hp).mpr a)
 .exact h2 v hv (by rw[wF ((E5 (hs v hv) hp).mpr a),(Gz (hs v hv) hp).mpr b];rfl)
def Kz (hs:∀v∈ss,0<v.2.2)(hp:0<p.2.2)(h:wU ss p≠0):∃v∈ss,Ah v p:=by
 unfold wU at h;by_cases h1:(ss.filter λv=>uk (xt v).1 (xt p).1)=[]
 .by_cases h2:(ss.filter λv=>decide ((xt v).1=(xt p).1)&&uk (xt v).2 (xt p).2)=[]
  .rw[h1,h2] at h;exact absurd rfl h
  .obtain⟨v,hv⟩:=List.exists_mem_of_ne_nil _ h2;obtain⟨m,c⟩:=uR.mp hv;rw[ju,qE] at c;exact⟨v,m,.inr ⟨(E5 (hs v m) hp).mp c.1,(Gz (hs v m) hp).mp c.2⟩⟩
 .obtain⟨v,hv⟩:=List.exists_mem_of_ne_nil _ h1;obtain⟨m,c⟩:=uR.mp hv;exact⟨v,m,.inl ((Gy (hs v m) hp).mp c)⟩
theorem Ft {α:Type}{P Q:α->Bool}(h:∀x,P x=true->Q x=true->False):∀l:List α,(l.filter P).length+(l.filter Q).length<=l.length
 |[]=>ym _
 |x::l=>by
  have ih:=Ft h l;by_cases h1:P x=true
  .rw[mq h1,aL (h x h1),wC,wC];lia
  .rw[aL h1];by_cases h2:Q x=true
   .rw[mq h2,wC,wC];lia
   .rw[aL h2,wC];lia
def DW {ss:List Pol.R3}{p:Pol.R3}:wU ss p<=ss.length:=by unfold wU;refine Ft (λv h1 z=>?_) ss;rw[ju,qE] at z;unfold uk at h1;rw[z.1,qE] at h1;lia
def fq.ins {ss done:List Pol.R3}{p:Pol.R3}(h:fq ss done)(hs:∀v∈ss,0<v.2.2)(hp:0<p.2.2)(hn:p∉ss) :
  fq (ss.take (wU ss p)++[p]++ss.drop (wU ss p)) (done++[p]):=by
 have perm:(ss.take (wU ss p)++[p]++ss.drop (wU ss p)).Perm (p::ss):=by
  have e:p::ss=p::(ss.take (wU ss p)++ss.drop (wU ss p)):=by rw[dB]
  rw[e,qz];exact List.perm_middle
 have memp:∀v,v∈ss.take (wU ss p)++[p]++ss.drop (wU ss p)↔v=p\/v∈ss:=λv=>by rw[perm.mem_iff,xX]
 refine⟨perm.nodup_iff.mpr (mz.mpr ⟨hn,h.nd⟩),λv=>?_,λx t e v hv=>?_⟩
 .rw[memp,yz,zF,h.mem,Or.comm]
 .by_cases h0:wU ss p=0
  .have z:=KA hs hp h0;rw[h0,pI,qC,g9] at e;injection e with e1 e2;rw[<-e1];rcases(memp v).mp hv with q|q
   .rw[q];exact Ah.irrefl p
   .exact z v q
  .obtain⟨w,hw,aw⟩:=Kz hs hp h0;cases ss with
   |nil=>simp at hw
   |cons y ys=>
    obtain⟨m,hm⟩:∃m,wU (y::ys) p=m+1:=⟨wU (y::ys) p-1,by lia⟩
    rw[hm,List.take_succ_cons,g9,g9] at e;injection e with e1 e2;rw[<-e1];have ly:=h.least y ys rfl;rcases(memp v).mp hv with q|q
    .rw[q];intro z;exact ly w hw (aw.trans (hs w hw) hp (hs y xU) z)
    .exact ly v q
def fq.stay (h:fq ss done)(hp:p∈ss):fq ss (done++[p]):=⟨h.nd,λv=>by rw[yz,zF,<-h.mem];exact⟨.inl,λz=>z.elim id λe=>e▸hp⟩,h.least⟩
theorem FT (hr:k7 m l)(hm:∀v,v∈ss↔v∈l)(hl:rh ss):ss.head?=l.head?:=by
 cases ss with
 |nil=>
  cases l with
  |nil=>rfl
  |cons a t=>exact absurd ((hm a).mpr xU) (by simp)
 |cons b u=>
  cases l with
  |nil=>exact absurd ((hm b).mp xU) (by simp)
  |cons a t=>have hb:=(hm b).mp xU;have ha:=(hm a).mpr xU;have h1:=hr.least a t rfl b hb;have h2:=hl b u rfl a ha;have:=HD (hr.pos b hb) (hr.pos a xU) (hr.prim b hb) (hr.prim a xU) (Ah.total h1 h2);rw[this];rfl
def RI (hr:k7 m l)(nd:ss.Nodup)(hm:∀v,v∈ss↔v∈l)(hl:rh ss)(h3:ss.length<3):ss=l:=by
 have hh:=FT hr hm hl;have len:=Gw nd hr.ccw.nd hm;rcases ss with _|⟨a,_|⟨b,_|⟨e,t⟩⟩⟩
 .rcases l with _|⟨c,u⟩
  .rfl
  .cases len
 .rcases l with _|⟨c,_|⟨d,u⟩⟩
  .cases len
  .simpa using hh
  .cases len
 .rcases l with _|⟨c,_|⟨d,_|⟨g,u⟩⟩⟩
  .cases len
  .cases len
  .have e:a=c:=by simpa using hh
   subst e;have hb:=(hm b).mp (by simp);have:b≠a:=λz=>by subst z;simp at nd
   simp[this] at hb;rw[hb]
  .cases len
 .exact absurd h3 (by simp)
def RH {m:Nat}{l ss:List Pol.R3}(hr:k7 m l)(nd:ss.Nodup)(hm:∀v,v∈ss↔v∈l){k:Nat}{a b:Pol.R3}(ha:l[k]?=some a)(hb:l[k+1]?=some b) :
  ss.filter (λv=>!decide (xt v∈(l.take (k+1)).map xt)&&(ss.map xt).all λw=>!decide (gy (xt a) (xt v) w<0))=[b]:=by
 have ham:=zq ha;have hbm:=zq hb;have hk:=(y8.mp hb).1;obtain⟨c1,c2⟩:=Li hr.ccw ha hb;have inj:∀ {x y},x∈l->y∈l->xt x=xt y->x=y:=λhx hy e=>BC (hr.pos _ hx) (hr.pos _ hy) (hr.prim _ hx) (hr.prim _ hy) e;have ix:∀ {i j:Nat} {x:Pol.R3},l[i]?=some x->l[j]?=some x->i=j:=λ {i j x} h1 h2=>by have hi:=(y8.mp h1).1;exact(List.getElem?_inj hi hr.ccw.nd).mp (h1.trans h2.symm)
 have tk:∀ {j:Nat} {x:Pol.R3},l[j]?=some x->(xt x∈(l.take (k+1)).map xt↔j<k+1):=λ {j x} hj=>by
  have hxm:=zq hj;constructor
  .intro z;obtain⟨y,hy,e⟩:=zT.mp z;have:=inj (fb hy) hxm e;subst this;obtain⟨i,hi,e⟩:=dw.mp hy;rw[List.getElem_take] at e;have hi':i<k+1:=by rw[uQ] at hi;lia
   have:l[i]?=some y:=by rw[yC (by rw[uQ] at hi;lia),e]
   have:=ix this hj;lia
  .intro z;refine jA ?_;have:(l.take (k+1))[j]?=some x:=by rw[List.getElem?_take_of_lt z,hj]
   exact zq this
 refine Fs nd ((hm b).mpr hbm) λx hx=>?_;have hxl:=(hm x).mp hx;obtain⟨j,hj,ej⟩:=dw.mp hxl;have hj':l[j]?=some x:=by rw[yC hj,ej]
 rw[ju,Bool.not_eq_true',decide_eq_false_iff_not,tk hj',pB,j9];constructor
 .rintro⟨h1,h2⟩;by_cases e:j=k+1
  .subst e;rw[hj'] at hb;exact vK hb
  .exfalso;have:=c2 j x (by lia) hj';have:=h2 b ((hm b).mpr hbm);simp at this;have:=Fn (hr.pos a ham) (hr.pos x hxl) (hr.pos b hbm);lia
 .rintro rfl;refine⟨?_,λw hw=>?_⟩
  .have:=ix hj' hb;lia
  .have hwl:=(hm w).mp hw;have:=c1 w hwl;have:=Fn (hr.pos a ham) (hr.pos x hbm) (hr.pos w hwl);simp;lia
def Fh (h:fT f=fT g):f=g:=by have e:=aA f g;unfold fT frT at h;injection h with h;injection h with h1 h;injection h with h2 h;injection h1 with h1;injection h2 with h2;exact zC h1 h2
def QV (h:pT p=pT q):p=q:=by unfold pT at h;injection h with h;injection h with h1 h;injection h with h2 h;exact zC (Fh h1) (Fh h2)
def aB (l:List Pol.R3):l.map xF=(l.map xt).map pT:=by rw[vi];rfl
def DX {l:List Pol.R3}(hp:∀v∈l,0<v.2.2)(hg:∀v∈l,yQ v=1){ss:List Pol.R3}(hs:∀v∈ss,v∈l){p:Pol.R3}(h:p∈l):((ss.map xF).any λu=>zE u (xF p))=decide (p∈ss):=by
 rw[aB,gW,oj,aW];constructor
 .intro z;obtain⟨y,hy,e⟩:=zT.mp z;rw[<-BC (hp y (hs y hy)) (hp p h) (hg y (hs y hy)) (hg p h) e];exact hy
 .intro z;exact jA z
def oy (l:List Pol.R3):PyData.canLayAll0 (uF (l.map xF))=true:=fx xF (λv=>HA (xt v)) l
def yP (P:xV->Prop)(hB:∀ τ',P τ'->B G τ')(hA:∀N:xV->Prop,(∀ τ',P τ'->N τ')->A {G with nx:=N} τ):gR A B G τ:=hA (B G) hB
def qv (all:List Tr)(W:Nat->xV->Prop)(hd:∀KK:List Tr->Prop,KK all->di τ KK)(w0:W 0 τ)
  (h1:∀i x τ (N:xV->Prop),all[i]?=some x->W i τ->(∀ τ',W (i+1) τ'->N τ')->dg x τ λτ'=>body {G with nx:=N,ct:=N,bk:=G.nx} τ')
  (h0:∀ τ,W all.length τ->G.nx τ):bU di dg body G τ:=hd _ (vc W w0 h1 h0)
abbrev TV9:=TV×TV×TV×TV×TV×TV×TV×TV×TV
def I_ (f:α->β)(l:List α)(x:α):(l++[x]).map f=l.map f++[f x]:=by rw[wD];rfl
def qd (h:-1000000<=i/\i<=1000000):Bd i:=fu (by lia) (by lia)
def jc (h:-1000000<=i/\i<=1000000)(h':-1000000<=j/\j<=1000000):CM i j:=⟨qd h,qd h'⟩
def tk {m:Int}(h:0<m/\m<1000000):0<m/\m<2^128:=⟨h.1,by lia⟩
structure LF0 (xa:List Pol.R3):Prop where
 l3:3<=xa.length
 l8:xa.length<=8
 sm:∀r∈xa,((-14<=r.1/\r.1<=14)/\(-14<=r.2.1/\r.2.1<=14))/\(-100<=r.2.2/\r.2.2<=100)
 dir:∀r∈xa,r.1≠0\/r.2.1≠0
 gr:GR xa
 near:∀p:Pol.R3,0<p.2.2->(∀r∈xa,val r p<=0)->(-(9*p.2.2)<=p.1/\p.1<=9*p.2.2)/\(-(9*p.2.2)<=p.2.1/\p.2.1<=9*p.2.2)
structure LF (xa:List Pol.R3):Prop where
 l3:3<=xa.length
 l8:xa.length<=8
 sm:∀r∈xa,((-14<=r.1/\r.1<=14)/\(-14<=r.2.1/\r.2.1<=14))/\(-200<=r.2.2/\r.2.2<=200)
 dir:∀r∈xa,r.1≠0\/r.2.1≠0
 gr:GR xa
 near:∀p:Pol.R3,0<p.2.2->(∀r∈xa,val r p<=0)->(-(12*p.2.2)<=p.1/\p.1<=12*p.2.2)/\(-(12*p.2.2)<=p.2.1/\p.2.1<=12*p.2.2)
def Qn:yb:=λts KK=>ts=[]/\∀xa,LF xa->KK (.tup (xa.map xg))
def jO (u v:Int)(r:Pol.R3):Pol.R3:=(r.1,r.2.1,r.2.2+r.1*u+r.2.1*v)
def sH (h1:-m<=a)(h2:a<=m)(h3:-n<=b)(h4:b<=n)(hm:0<=m)(hn:0<=n):-(m*n)<=a*b/\a*b<=m*n:=by
 have key:(a*b).natAbs<=(m*n).natAbs:=by rw[u9,u9];exact Ce (by lia) (by lia)
 have:=Pol.pz hm hn;lia
def LF0.moved (h:LF0 xa)(hu:-3<=u/\u<=3)(hv:-3<=v/\v<=3):LF (xa.map (jO u v)) where
 l3:=by rw[xP];exact h.l3
 l8:=by rw[xP];exact h.l8
 sm:=λr hr=>by obtain⟨s,hs,rfl⟩:=zT.mp hr;obtain⟨⟨⟨a1,a2⟩,b1,b2⟩,c1,c2⟩:=h.sm s hs;have x:=sH a1 a2 hu.1 hu.2 (by decide) (by decide);have y:=sH b1 b2 hv.1 hv.2 (by decide) (by decide);simp only[jO];lia
 dir:=λr hr=>by obtain⟨s,hs,rfl⟩:=zT.mp hr;exact h.dir s hs
 gr:=λx y hn=>by obtain⟨r,hr,p⟩:=h.gr x y hn;exact⟨jO u v r,jA hr,p⟩
 near:=λp hz hk=>by
  have:=h.near (p.1-u*p.2.2,p.2.1-v*p.2.2,p.2.2) hz λr hr=>by
   have:=hk _ (jA hr);have e:val r (p.1-u*p.2.2,p.2.1-v*p.2.2,p.2.2)=val (jO u v r) p:=by simp only[val,jO];grind
   rw[e];exact this
  simp only at this;have x:=zj hu.1 (show 0<=p.2.2 by lia);have x':=zj hu.2 (show 0<=p.2.2 by lia);have y:=zj hv.1 (show 0<=p.2.2 by lia);have y':=zj hv.2 (show 0<=p.2.2 by lia);lia
def LF.rot (h:LF xa)(n:Nat):LF (xa.drop n++xa.take n):=by
 have mem:∀r,r∈xa.drop n++xa.take n↔r∈xa:=λr=>by rw[yz,Or.comm,<-yz,dB]
 have len:(xa.drop n++xa.take n).length=xa.length:=by rw[ze,v_,uQ];lia
 exact⟨by rw[len];exact h.l3,by rw[len];exact h.l8,λr hr=>h.sm r ((mem r).mp hr),λr hr=>h.dir r ((mem r).mp hr),
  λu v hn=>let ⟨r,hr,p⟩:=h.gr u v hn;⟨r,(mem r).mpr hr,p⟩,λp hz hk=>h.near p hz λr hr=>hk r ((mem r).mpr hr)⟩
def LF.frow (h:LF xa):∀r∈xa,uf r:=λr hr=>by have:=h.sm r hr;unfold uf;lia
def LF.fine (h:LF xa):zm xa:=⟨⟨λ {p} hz hp s hs=>by have:=h.near p hz hp;simp only[qI,xX,y9,zh] at hs;rcases hs with rfl|rfl|rfl|rfl<;>simp only[val,yF]<;>lia,h.frow,λ_ h=>h,h.dir⟩,h.l8⟩
def GO (hd:0<d):nearF (vk n d) (uN n d)=true↔-(12*d)<=n/\n<=12*d:=by
 have s:=tY (t:=n) (b:=d) hd;unfold nearF;rw[mJ];have h1:=s.le 12;have h2:-(12*uN n d)<=vk n d↔-(12*d)<=n:=by have e:=s.e;have p:=s.pf;show -(12*(Fra.low n d).2)<=(Fra.low n d).1↔_;rw[<-n9 hd,e,show -(12*(Fra.low n d).2)*d=(-(12*d))*(Fra.low n d).2 by grind,n9 p]
 have h3:vk n d<=12*uN n d↔n<=12*d:=h1;rw[h2,h3]
def GP (hz:0<v.2.2):jP v=true↔(-(12*v.2.2)<=v.1/\v.1<=12*v.2.2)/\(-(12*v.2.2)<=v.2.1/\v.2.1<=12*v.2.2):=by unfold jP;rw[ju,GO hz,GO hz]
def LF.field (h:LF xa):isField (.tup (xa.map xg))=true:=by
 show(match rowsOf (xa.map xg) with|some xa=>yD xa|none=>false)=true;rw[eO];show yD xa=true;unfold yD;rw[wF ⟨h.l3,h.l8⟩,Rw h.dir (MB h.gr) (MC h.dir h.gr)];have e1:(xa.all λr=>decide ((r.1≠0\/r.2.1≠0)/\uf r))=true:=by rw[j9];intro r hr;exact wF ⟨h.dir r hr,h.frow r hr⟩
 have e2:(pieces xa).all jP=true:=by rw[j9];intro v hv;obtain⟨hz,_,hc⟩:=h.fine.fine.corner hv;exact(GP hz).mpr (h.near v hz hc.kept)
 rw[e1,e2];rfl
structure pM (b1 c1 b2 c2 b3 c3 b4 c4:Int):Prop where
 h1:(1<=b1/\b1<=3)/\0<=c1/\c1<=5*b1
 h2:(1<=b2/\b2<=3)/\0<=c2/\c2<=5*b2
 h3:(1<=b3/\b3<=3)/\0<=c3/\c3<=5*b3
 h4:(1<=b4/\b4<=3)/\0<=c4/\c4<=5*b4
def nI {b c x z:Int}(hb:1<=b)(hc:c<=5*b)(hz:0<z)(h:b*x<=c*z):x<=5*z:=by
 have h1:c*z<=5*b*z:=zj hc (by lia);have h2:b*x<=b*(5*z):=by
  have:b*(5*z)=5*b*z:=by grind
  lia
 exact BN h2 (by lia)
def Extra (r:Pol.R3):Prop:=(((-6<=r.1/\r.1<=6)/\(-6<=r.2.1/\r.2.1<=6))/\(-40<=r.2.2/\r.2.2<=40))/\(r.1≠0\/r.2.1≠0)
def pM.lf {b1 c1 b2 c2 b3 c3 b4 c4:Int}(B:pM b1 c1 b2 c2 b3 c3 b4 c4){ex:List Pol.R3}(hx:∀r∈ex,Extra r)(hl:ex.length<=4):LF0 ([(-b1,0,c1),(b2,0,c2),(0,-b3,c3),(0,b4,c4)]++ex):=by
 obtain⟨h1,h2,h3,h4⟩:=B;have four:∀r∈([(-b1,0,c1),(b2,0,c2),(0,-b3,c3),(0,b4,c4)]++ex:List Pol.R3),r=(-b1,0,c1)\/r=(b2,0,c2)\/r=(0,-b3,c3)\/r=(0,b4,c4)\/Extra r:=λr hr=>by
  rcases yz.mp hr with h|h
  .simp only[xX,y9,zh] at h;rcases h with h|h|h|h
   .exact .inl h
   .exact .inr (.inl h)
   .exact .inr (.inr (.inl h))
   .exact .inr (.inr (.inr (.inl h)))
  .exact .inr (.inr (.inr (.inr (hx r h))))
 have m1:(-b1,0,c1)∈([(-b1,0,c1),(b2,0,c2),(0,-b3,c3),(0,b4,c4)]++ex:List Pol.R3):=zf _ xU;have m2:(b2,0,c2)∈([(-b1,0,c1),(b2,0,c2),(0,-b3,c3),(0,b4,c4)]++ex:List Pol.R3):=zf _ (yI _ xU);have m3:(0,-b3,c3)∈([(-b1,0,c1),(b2,0,c2),(0,-b3,c3),(0,b4,c4)]++ex:List Pol.R3):=zf _ (yI _ (yI _ xU));have m4:(0,b4,c4)∈([(-b1,0,c1),(b2,0,c2),(0,-b3,c3),(0,b4,c4)]++ex:List Pol.R3):=zf _ (yI _ (yI _ (yI _ xU)));refine⟨by simp,by simp;lia,λr hr=>?_,λr hr=>?_,λu v hn=>?_,λp hz hk=>?_⟩
 .rcases four r hr with h|h|h|h|h
  .subst h;simp only;lia
  .subst h;simp only;lia
  .subst h;simp only;lia
  .subst h;simp only;lia
  .unfold Extra at h;lia
 .rcases four r hr with h|h|h|h|h
  .subst h;exact .inl (by simp only;lia)
  .subst h;exact .inl (by simp only;lia)
  .subst h;exact .inr (by simp only;lia)
  .subst h;exact .inr (by simp only;lia)
  .exact h.2
 .rcases j7 u 0 with c|c|c
  .refine⟨_,m1,?_⟩;simp only;have:=j8 (show 0<b1 by lia) (show 0 < -u by lia);grind
  .rcases j7 v 0 with d|d|d
   .refine⟨_,m3,?_⟩;simp only;have:=j8 (show 0<b3 by lia) (show 0 < -v by lia);grind
   .lia
   .refine⟨_,m4,?_⟩;simp only;have:=j8 (show 0<b4 by lia) d;grind
  .refine⟨_,m2,?_⟩;simp only;have:=j8 (show 0<b2 by lia) c;grind
 .have k1:=hk _ m1;have k2:=hk _ m2;have k3:=hk _ m3;have k4:=hk _ m4;simp only[val] at k1 k2 k3 k4;have e1:=nI (x:=-p.1) h1.1.1 h1.2.2 hz (by grind);have e2:=nI (x:=p.1) h2.1.1 h2.2.2 hz (by grind);have e3:=nI (x:=-p.2.1) h3.1.1 h3.2.2 hz (by grind);have e4:=nI (x:=p.2.1) h4.1.1 h4.2.2 hz (by grind);lia
def hJ (xa:List Pol.R3):Prop:=∃b1 c1 b2 c2 b3 c3 b4 c4,xa=[(-b1,0,c1),(b2,0,c2),(0,-b3,c3),(0,b4,c4)]/\pM b1 c1 b2 c2 b3 c3 b4 c4
def hJ.last (h:hJ xa)(hx:∀r∈ex,Extra r):∃ini l,xa++ex=ini++[l]/\Extra (0-l.1,0-l.2.1,0-l.2.2):=by
 obtain⟨b1,c1,b2,c2,b3,c3,b4,c4,rfl,B⟩:=h;rcases List.eq_nil_or_concat ex with rfl|⟨ini,l,rfl⟩
 .refine⟨[(-b1,0,c1),(b2,0,c2),(0,-b3,c3)],(0,b4,c4),by simp,?_⟩;have:=B.h4;unfold Extra;simp only;lia
 .rw[List.concat_eq_append] at hx ⊢;refine⟨_++ini,l,by rw[qz],?_⟩;have:=hx l (by simp);unfold Extra at *
  simp only;lia
def hJ.len (h:hJ xa):xa.length=4:=by obtain⟨b1,c1,b2,c2,b3,c3,b4,c4,rfl,B⟩:=h;rfl
theorem hJ.lf (h:hJ xa)(hx:∀r∈ex,Extra r)(hl:ex.length<=4):LF0 (xa++ex):=by obtain⟨b1,c1,b2,c2,b3,c3,b4,c4,rfl,B⟩:=h;exact B.lf hx hl
def rH:List (Int×Int):=[(-1,0),(1,0),(0,-1),(0,1)]
def dT (d:Int×Int):Tr:=.tup [.int d.1,.int d.2]
def dI (i:Nat)(xa:List Pol.R3):Prop:=xa.length=i/\∀(j:Nat) (r:Pol.R3) (d:Int×Int),xa[j]?=some r->rH[j]?=some d->∃b c:Int,((1<=b/\b<=3)/\0<=c/\c<=5*b)/\r=(d.1*b,d.2*b,c)
def dI.step (h:dI i xa)(hd:rH[i]?=some d)(hb:(1<=b/\b<=3)/\0<=c/\c<=5*b):dI (i+1) (xa++[(d.1*b,d.2*b,c)]):=by
 refine⟨by rw[ze,h.1];rfl,λj r d' hr hd'=>?_⟩;by_cases hj:j<i
 .rw[pF (by rw[h.1];exact hj)] at hr;exact h.2 j r d' hr hd'
 .have hl:=(y8.mp hr).1;rw[ze,h.1,g_] at hl;have:j=i:=by lia
  subst this;rw[mr (by rw[h.1];exact ym _),h.1,Nat.sub_self] at hr;rw[hd] at hd';cases hr;cases hd';exact⟨b,c,hb,rfl⟩
def dI.box (h:dI 4 xa):hJ xa:=by
 obtain⟨hl,h⟩:=h;rcases xa with _|⟨r1,_|⟨r2,_|⟨r3,_|⟨r4,_|⟨r5,rs⟩⟩⟩⟩⟩
 .cases hl
 .cases hl
 .cases hl
 .cases hl
 .obtain⟨b1,c1,g1,e1⟩:=h 0 r1 (-1,0) rfl rfl;obtain⟨b2,c2,g2,e2⟩:=h 1 r2 (1,0) rfl rfl;obtain⟨b3,c3,g3,e3⟩:=h 2 r3 (0,-1) rfl rfl;obtain⟨b4,c4,g4,e4⟩:=h 3 r4 (0,1) rfl rfl;subst e1 e2 e3 e4;refine⟨b1,c1,b2,c2,b3,c3,b4,c4,?_,g1,g2,g3,g4⟩;simp only[List.cons.injEq,Prod.mk.injEq,and_true];lia
 .cases hl
def LK {i:Nat}{d:Int×Int}(h:rH[i]?=some d):(-1<=d.1/\d.1<=1)/\(-1<=d.2/\d.2<=1):=by have:=zq h;simp only[rH,xX,y9,zh] at this;rcases this with rfl|rfl|rfl|rfl<;>decide
def Drawn (d:Int×Int)(y:Tr):Prop:=∃c:Int,(0<=c/\c<8)/\y=.tup [.int d.1,.int d.2,.int c]
theorem E1 {d1 d2 d3:Int×Int}{ys:List Tr}(h:Paired Drawn [d1,d2,d3] ys):∃c1 c2 c3:Int,((0<=c1/\c1<=7)/\(0<=c2/\c2<=7)/\(0<=c3/\c3<=7))/\ys=[(d1.1,d1.2,c1),(d2.1,d2.2,c2),(d3.1,d3.2,c3)].map xg:=by
 cases h with
 |cons h1 h=>
  cases h with
  |cons h2 h=>
   cases h with
   |cons h3 h=>cases h;obtain⟨c1,g1,rfl⟩:=h1;obtain⟨c2,g2,rfl⟩:=h2;obtain⟨c3,g3,rfl⟩:=h3;exact⟨c1,c2,c3,by lia,rfl⟩
def Ee {α:Type}{dg:DG}{de:DE}{τi:xV}{KK:List Tr->Prop}{f:α->Tr}{l:List α}(R:α->Tr->Prop)(h1:∀a∈l,∀N:Tr->Prop,(∀y,R a y->N y)->dg (f a) τi λτ2=>de τ2 N)
  (h0:∀ys,Paired R l ys->KK ys):kC dg nG de τi KK (l.map f) []:=by
 refine rA (λys acc=>∃zs us,l=zs++us/\ys=us.map f/\Paired R zs acc) (λacc ⟨zs,us,e,ey,e2⟩=>?_) (λx ys acc N ⟨zs,us,e,ey,e2⟩ hN=>?_) _ [] ⟨[],l,rfl,rfl,.nil⟩
 .cases us with
  |nil=>rw[uH] at e;subst e;exact h0 acc e2
  |cons u us=>cases ey
 .cases us with
  |nil=>cases ey
  |cons u us=>injection ey with ex ey;subst ex ey;exact h1 u (by rw[e];simp) (λy=>N (acc++[y])) λy hy=>hN _ ⟨zs++[u],us,by rw[e];simp,rfl,i_ e2 hy⟩
def Td (h1:1<=k)(h7:k<=7):LF0 [(-1,0,0),(1,-2*k,0),(1,2*k,2*k)]:=by
 refine⟨by simp,by simp,λr hr=>?_,λr hr=>?_,λu v hn=>?_,λp hz hk=>?_⟩
 .simp only[xX,y9,zh] at hr;rcases hr with rfl|rfl|rfl<;>simp only<;>lia
 .simp only[xX,y9,zh] at hr;rcases hr with rfl|rfl|rfl<;>simp only<;>lia
 .rcases y4 u 0 with c|c
  .exact⟨_,xU,by simp only;lia⟩
  .rcases j7 v 0 with d|d|d
   .refine⟨(1,-2*k,0),by simp,?_⟩;simp only;have:=j8 (show 0<k by lia) (show 0 < -v by lia);grind
   .refine⟨(1,2*k,2*k),by simp,?_⟩;simp only;subst d;lia
   .refine⟨(1,2*k,2*k),by simp,?_⟩;simp only;have:=j8 (show 0<k by lia) d;grind
 .have k1:=hk (-1,0,0) (by simp);have k2:=hk (1,-2*k,0) (by simp);have k3:=hk (1,2*k,2*k) (by simp);simp only[val] at k1 k2 k3;have e2:p.1<=2*(k*p.2.1):=by grind
  have e3:p.1+2*(k*p.2.1)<=2*(k*p.2.2):=by grind
  have kz:k*p.2.2<=7*p.2.2:=zj h7 (by lia);have y0:0<=p.2.1:=fM (show 0<k by lia) (by lia);have y1:p.2.1<=p.2.2:=by
   have:k*p.2.1<=k*p.2.2:=by lia
   exact BN this (by lia)
  lia
def dR (h:0<=c/\c<=7):-100<=c/\c<=100:=by lia
def Tt (h1:0<=c1/\c1<=7)(h2:0<=c2/\c2<=7)(h3:0<=c3/\c3<=7):LF0 [(-2,1,c1),(1,-3,c2),(2,3,c3)]:=by
 refine⟨by simp,by simp,λr hr=>?_,λr hr=>?_,λu v hn=>?_,λp hz hk=>?_⟩
 .simp only[xX,y9,zh] at hr;rcases hr with rfl|rfl|rfl
  .exact⟨by simp only;decide,dR h1⟩
  .exact⟨by simp only;decide,dR h2⟩
  .exact⟨by simp only;decide,dR h3⟩
 .simp only[xX,y9,zh] at hr;rcases hr with rfl|rfl|rfl<;>exact .inl (by simp only;decide)
 .rcases y4 0 (-2*u+1*v) with c|c
  .exact⟨(-2,1,c1),by simp,c⟩
  .rcases y4 0 (1*u+-3*v) with d|d
   .exact⟨(1,-3,c2),by simp,d⟩
   .exact⟨(2,3,c3),by simp,by simp only;lia⟩
 .have k1:=hk (-2,1,c1) (by simp);have k2:=hk (1,-3,c2) (by simp);have k3:=hk (2,3,c3) (by simp);simp only[val] at k1 k2 k3;have z1:c1*p.2.2<=7*p.2.2:=zj h1.2 (by lia);have z2:c2*p.2.2<=7*p.2.2:=zj h2.2 (by lia);have z3:c3*p.2.2<=7*p.2.2:=zj h3.2 (by lia);lia
def Tu (h1:0<=c1/\c1<=7)(h2:0<=c2/\c2<=7)(h3:0<=c3/\c3<=7):LF0 [(-3,-2,c1),(3,-1,c2),(1,4,c3)]:=by
 refine⟨by simp,by simp,λr hr=>?_,λr hr=>?_,λu v hn=>?_,λp hz hk=>?_⟩
 .simp only[xX,y9,zh] at hr;rcases hr with rfl|rfl|rfl
  .exact⟨by simp only;decide,dR h1⟩
  .exact⟨by simp only;decide,dR h2⟩
  .exact⟨by simp only;decide,dR h3⟩
 .simp only[xX,y9,zh] at hr;rcases hr with rfl|rfl|rfl<;>exact .inl (by simp only;decide)
 .rcases y4 0 (-3*u+-2*v) with c|c
  .exact⟨(-3,-2,c1),by simp,c⟩
  .rcases y4 0 (3*u+-1*v) with d|d
   .exact⟨(3,-1,c2),by simp,d⟩
   .exact⟨(1,4,c3),by simp,by simp only;lia⟩
 .have k1:=hk (-3,-2,c1) (by simp);have k2:=hk (3,-1,c2) (by simp);have k3:=hk (1,4,c3) (by simp);simp only[val] at k1 k2 k3;have z1:c1*p.2.2<=7*p.2.2:=zj h1.2 (by lia);have z2:c2*p.2.2<=7*p.2.2:=zj h2.2 (by lia);have z3:c3*p.2.2<=7*p.2.2:=zj h3.2 (by lia);lia
def lg:isField (.tup (xa.map xg))=yD xa:=by show(match rowsOf (xa.map xg) with|some xa=>yD xa|none=>false)=_;rw[eO]
def DD (K:xw)(x:Str)(st:Stmt):Prop:=∃f fd,PySem.W.nsIn K mainGlobals x=some (some (.ref f))/\Fun K x x st f fd
def dd {K:xw}{x:Str}{st:Stmt}{f:Addr}{oc:Value}{od an:Option Addr}{sl:Array (Option Value)}{kV dc pm cd ct:Value}(a:PySem.W.nsIn K mainGlobals x=some (some (.ref f)))
  (l:K.lookup f=some ⟨oc,od,.func (PySem.W.fnOf x x (qL st) (vb st) (xH st) .none kV dc pm an cd ct),sl⟩) (c:PySem.W.codeIn K cd x=true) (k:PySem.W.keepIn K (.ref f)=true):DD K x st:=⟨f,_,a,FD l c k⟩
def wu {K:xw}{x qual:Str}(p1:Str){st:Stmt}{f:Addr}{fd:FuncData}(F:Fun K x qual st f fd)(h:∀(kV doc pm:Value) (an:Option Addr) (cdv ct u1:Value),bindArgs (PySem.W.fnOf x qual (qL st) (vb st) (xH st) .none kV doc pm an cdv ct) ⟨[u1],[]⟩=pure [(p1,u1)]:=by intros;rfl):Binds K fd [p1] []:=F.binds λa b c d e g us hl=>match us,hl with|[u1],_=>h a b c d e g u1
def yW {K:xw}{x qual:Str}(p1 p2:Str){st:Stmt}{f:Addr}{fd:FuncData}(F:Fun K x qual st f fd)(h:∀(kV doc pm:Value) (an:Option Addr) (cdv ct u1 u2:Value),bindArgs (PySem.W.fnOf x qual (qL st) (vb st) (xH st) .none kV doc pm an cdv ct) ⟨[u1,u2],[]⟩=pure [(p1,u1),(p2,u2)]:=by intros;rfl):Binds K fd [p1,p2] []:=F.binds λa b c d e g us hl=>match us,hl with|[u1,u2],_=>h a b c d e g u1 u2
def gf {K:xw}{x qual:Str}(p1 p2 p3:Str){st:Stmt}{f:Addr}{fd:FuncData}(F:Fun K x qual st f fd)(h:∀(kV doc pm:Value) (an:Option Addr) (cdv ct u1 u2 u3:Value),bindArgs (PySem.W.fnOf x qual (qL st) (vb st) (xH st) .none kV doc pm an cdv ct) ⟨[u1,u2,u3],[]⟩=pure [(p1,u1),(p2,u2),(p3,u3)]:=by intros;rfl):Binds K fd [p1,p2,p3] []:=F.binds λa b c d e g us hl=>match us,hl with|[u1,u2,u3],_=>h a b c d e g u1 u2 u3
def rR (w:Int)(f:F2):F2:=Fra.low (w*f.1) f.2
def QQ:yb:=λts KK=>∃f g:F2,ts=[fT f,fT g]/\Fk 900 f/\Fk 900 g/\KK (fT (uW f g))
def QX:yb:=λts KK=>∃(w:Int) (f:F2),ts=[.int w,fT f]/\Bk 900 w/\Fk 900 f/\KK (fT (rR w f))
def Q0:yb:=λts KK=>∃(a b:Int) (x:List Tr) (p:P2),ts=[.tup (.int a::.int b::x),pT p]/\Bk 200 a/\Bk 200 b/\Pk 600 p/\KK (fT (zc (a,b,0) p))
def fH (r:Pol.R3)(p:P2):Bool:=decide ((zc r p).1=r.2.2*(zc r p).2)
def Qf:yb:=λts KK=>∃(r:Pol.R3) (p:P2),ts=[xg r,pT p]/\yL 200 r/\Pk 600 p/\KK (.bl (fH r p))
def QF:yb:=λts KK=>∃t,ts=[t]/\isField t=true/\KK .non
def PY:yb:=λts KK=>∃xa:List Pol.R3,ts=[.tup (xa.map xg)]/\yD xa=true/\zm xa/\KK (.lst ((xS xa).map xF))
def uE (xa:List Pol.R3)(p:P2):List Nat:=(List.range xa.length).filter λi=>fH (xa.getD i (0,0,0)) p
def uq (n:Nat):Tr:=.int n
def QW:yb:=λts KK=>∃(xa:List Pol.R3) (p:P2),ts=[.tup (xa.map xg),pT p]/\xa.length<=1000/\(∀r∈xa,yL 200 r)/\Pk 600 p/\KK (.tup ((uE xa p).map uq))
def brk (v:Pol.R3):Bool:=!decide ((xt v).1.2=1) || !decide ((xt v).2.2=1)
def P_:yb:=λts KK=>∃v:Pol.R3,ts=[xF v]/\KK (.bl (brk v))
def PX:yb:=λts KK=>∃xa:List Pol.R3,ts=[.tup (xa.map xg)]/\yD xa=true/\zm xa/\KK (.lst (((xS xa).filter brk).map xF))
def dP (h:-1000000<=n/\n<=1000000):Bk 600 n:=by
 have:Bk 20 n:=by unfold Bk;lia
 exact this.mono (by decide)
def wW (h:yD xa=true):(3<=xa.length/\xa.length<=8)/\(∀r∈xa,(r.1≠0\/r.2.1≠0)/\uf r)/\qN xa=true/\∀v∈pieces xa,jP v=true:=by unfold yD at h;simp only[ju,qE,j9] at h;exact⟨h.1.1.1,h.1.1.2,h.1.2,h.2⟩
def MP (h:yD xa=true):isField (.tup (xa.map xg))=true:=by rw[lg];exact h
def LF.isf (h:LF xa):yD xa=true:=by rw[<-lg];exact h.field
def GB (h:0<b):frT (vk t b) (uN t b)=fT (lfr t b):=by rw[qP h];rfl
def Fk.timW (hw:Bk k w)(h:Fk m f):Fk (k+m) (rR w f):=tj h.pos (hw.mul h.top) (h.bot.mono (by lia))
def Mq (hx:0<p.1.2)(hy:0<p.2.2):uW (rR a p.1) (rR b p.2)=zc (a,b,0) p:=by unfold uW rR zc;rw[qP (Pol.pp (Fra.qk hx) (Fra.qk hy)),qP (Pol.pp hx hy)];exact Fra.TN hx hy
def FE (hr:yL 200 r)(hp:Pk 600 p):Fk 1500 (zc r p):=by unfold zc;exact qO (k:=1500) (by have:=Pol.pp hp.1.pos hp.2.pos;lia) (((hr.1.1.mul hp.1.top |>.mul hp.2.bot).add (hr.1.2.mul hp.2.top |>.mul hp.1.bot)).mono (by decide)) ((hp.1.bot.mul hp.2.bot).mono (by decide))
def LX {α:Type}(f:α->Tr)(l:List α)(d:α):vj (l.map f)=(List.range l.length).map λi=>.tup [.int (i:Nat),f (l.getD i d)]:=by
 apply J8;intro i;by_cases h:i<l.length
 .have e1:i<(vj (l.map f)).length:=by rw[rM];exact h
  obtain⟨v,hv,e⟩:=oU (yC e1);rw[yC e1,e,ue,BW h];simp[jz,hv]
 .rw[j_ (by rw[rM];lia),j_ (by simp;lia)]
def RJ (n:Nat):qu 0 n=(List.range n).map uq:=by
 apply J8;intro i;by_cases h:i<n
 .rw[j1 h,ue,BW h];show some (Tr.int (0+(i:Int)))=some (Tr.int i);rw[pq]
 .rw[j_ (by rw[uJ];lia),j_ (by simp;lia)]
def getD_mem {α:Type}{l:List α}{i:Nat}(d:α)(h:i<l.length):l.getD i d∈l:=by rw[jz,yC h];exact BZ h
def LPl (p:P2):Prop:=∃n1 d1 n2 d2:Int,p=(lfr n1 d1,lfr n2 d2)/\((-12<=n1/\n1<=12)/\(1<=d1/\d1<=4))/\((-12<=n2/\n2<=12)/\(1<=d2/\d2<=4))
def Qx:yb:=λts KK=>ts=[]/\∀p,LPl p->KK (pT p)
def LPl.pk (h:LPl p):Pk 600 p:=by obtain⟨n1,d1,n2,d2,rfl,h1,h2⟩:=h;exact⟨qO (by lia) (dP (by lia)) (dP (by lia)),qO (by lia) (dP (by lia)) (dP (by lia))⟩
def JO (h:-1000000<=n/\n<=1000000):Fk 600 (n,1):=⟨dP h,dP (show(-1000000:Int)<=1/\(1:Int)<=1000000 by decide),by show(0:Int)<1;decide⟩
def EA (h:zm xa):(xS xa).length<=900:=h.ring.len
def jH (a b:Int)(best:Option F2)(p:P2):Option F2:=match best with
 |none=>some (zc (a,b,0) p)
 |some f=>if uk f (zc (a,b,0) p)=true then some (zc (a,b,0) p) else some f
def oY (a b:Int)(ps:List P2):Option F2:=ps.foldl (jH a b) none
def Qg:yb:=λts KK=>∃(r:Pol.R3) (p:P2),ts=[xg r,pT p]/\yL 200 r/\Pk 600 p/\KK (.bl (zN r p))
def QD:yb:=λts KK=>∃(a b:Int) (x:List Tr) (p:P2),ts=[.tup (.int a::.int b::x),pT p]/\Bk 200 a/\Bk 200 b/\Fk 600 p.1/\Fk 600 p.2/\KK (fT (zc (a,b,0) p))
def Md (d:uk f (zc (a,b,0) p)=true):jH a b (some f) p=some (zc (a,b,0) p):=by show(if uk f (zc (a,b,0) p)=true then some (zc (a,b,0) p) else some f)=_;rw[xJ d]
def Mc (d:uk f (zc (a,b,0) p)=false):jH a b (some f) p=some f:=by show(if uk f (zc (a,b,0) p)=true then some (zc (a,b,0) p) else some f)=_;rw[xG (by rw[d];exact uG)]
def zm.pk2 {xa:List Pol.R3}(h:zm xa){v:Pol.R3}(hv:v∈xS xa):Pk 100 (xt v):=by have:=h.corner hv;have:=tM this.1.1 this.2;exact⟨this.1.mono (by decide),this.2.mono (by decide)⟩
def zm.pk {xa:List Pol.R3}(h:zm xa){v:Pol.R3}(hv:v∈xS xa):Pk 600 (xt v):=⟨(h.pk2 hv).1.mono (by decide),(h.pk2 hv).2.mono (by decide)⟩
def zm.pkm {xa:List Pol.R3}(h:zm xa){p:P2}(hp:p∈(xS xa).map xt):Pk 100 p:=by obtain⟨v,hv,rfl⟩:=zT.mp hp;exact h.pk2 hv
def Mp (ha:Bk k a)(hb:Bk k b)(hp:Pk m p)(h:k+m+m+1<=n):Fk n (zc (a,b,c) p):=by unfold zc;exact qO (k:=n) (by have:=Pol.pp hp.1.pos hp.2.pos;lia) (((ha.mul hp.1.top |>.mul hp.2.bot).add (hb.mul hp.2.top |>.mul hp.1.bot)).mono h) ((hp.1.bot.mul hp.2.bot).mono (by lia))
theorem Fp {a b:Int}{best:Option F2}{p:P2}{f:F2}(h:jH a b best p=some f):best=some f\/f=zc (a,b,0) p:=by
 unfold jH at h;cases best with
 |none=>exact .inr (vK h).symm
 |some g=>
  simp only at h;split at h
  .exact .inr (vK h).symm
  .exact .inl h
theorem Fq (ps:List P2):∀best,ps.foldl (jH a b) best=some f->best=some f\/∃p∈ps,f=zc (a,b,0) p:=by
 induction ps with
 |nil=>exact λbest h=>.inl h
 |cons p ps ih=>
  intro best h;rcases ih _ h with q|⟨p',hp,e⟩
  .rcases Fp q with q|q
   .exact .inl q
   .exact .inr ⟨p,xU,q⟩
  .exact .inr ⟨p',yI _ hp,e⟩
def FF (h:0<p.1.2/\0<p.2.2):0<(zc (a,b,c) p).2:=lz (by have:=Pol.pp h.1 h.2;show p.1.2*p.2.2≠0;lia)
theorem zm.pos {xa:List Pol.R3}(h:zm xa):∀p∈(xS xa).map xt,0<p.1.2/\0<p.2.2:=λp hp=>⟨(h.pkm hp).1.pos,(h.pkm hp).2.pos⟩
section
variable {P:Program} {w:World} {K:xw} {mg:Str->Option Value} {base:Heap} {N:List Str} {qual:Str} {scope:Scope} {f:Addr} {cd:Value} {A:Around} {outer:List Env} {s:Shared} {H H':Hp} {E:XK}
end
end L2
namespace L2
open PySem PySem.Spec PySem.Calls PyProof.Rows
section
variable {prog:Program} {w:World} {A:Around} {E:Value->Shared->Prop} {s:Shared} {K:xw} {ea C:Addr}
end
section
variable {P:Program} {w:World}
variable {X:Cx} {xf:List (Addr×Obj)} {σ:St} {H H':Hp} {s s':Shared} {ea C:Addr}
end
section
variable {X:Cx} {xf:List (Addr×Obj)} {σ:St} {H H':Hp} {s s':Shared} {ea C:Addr}
end
section
variable {X:Cx} {xf:List (Addr×Obj)} {σ:St} {H:Hp} {s:Shared} {c P:Addr} {params:Arguments} {body:Expr} {scope:Scope} {pos:Pos} {clos:List (Str×Addr)} {E:Value->Shared->Prop} {Q:Value->Shared->Prop} {q:Str}
end
section
variable {X:Cx} {xf:List (Addr×Obj)} {σ:St} {H:Hp} {s:Shared}
end
end L2
namespace L2
open PySem PySem.Spec PyProof.Rows
section
variable {K:xw} {B:FB} {φ:y_} {σ:St} {τ:xV} {H H' H'':Hp} {EX:Hp->Prop}
end
section
variable {P:Program} {w:World} {K:xw} {mg:Str->Option Value} {base:Heap} {k n:Nat} {x qual:Str} {st:Stmt} {f:Addr} {fd:FuncData} {N ps:List Str} {C:Addr} {R:List Tr->Prop}
end
section
variable {K:xw}
def Ul (hd:zH K true T D)(h:D {nx:=λ_=>False,rt:=λt=>t=.lst [.int j]} [.un,.ob ea,.un,.un])
  (q:∀H2 a,(∀b o,H b=some o->H2 b=some o)->H a=none->H2 a=some (.lst [.int j])->Q (.ref a) H2):T {nx:=λ_ H'=>Q .non H',rt:=Q} [some g,some (.ref ea),none,none] H:=by
 refine hd ⟨λ_=>False,λ_=>False,H,[]⟩ (λ_=>none) _ _ H _ _ ⟨λ_ z=>z.elim,λ_ z=>z.elim,λa o e _=>e,λa z=>?_,λi j a _ z=>(nomatch z),λi a z=>(nomatch z),rfl,λi=>?_,λp z=>absurd z (by simp)⟩ h ⟨λ_ _ _ _ _ z=>z.elim,λ_ _ _ _ _ z=>z.elim,λ_ _ _ _ _ z=>z.elim,λt v H2 r x e fl=>?_⟩
 .rcases z with z|⟨i,z,_⟩
  .exact z.elim
  .cases z
 .match i with
  |0=>trivial
  |1=>rfl
  |2=>trivial
  |3=>trivial
  |n+4=>trivial
 .obtain⟨a,ts,ws,rfl,rfl,h1,h2,h3⟩:=fl rfl;cases e;obtain⟨v,vs,rfl,e1,e2⟩:=h3;cases e1;cases e2;exact q H2 a (λb o e=>x.ext b o e λz=>z) h1 h2
end
section
variable {X:Cx} {ea C D:Addr}
end
section
variable {P:Program} {w:World} {K:xw} {mg:Str->Option Value} {base:Heap} {k:Nat} {x qual:Str} {st:Stmt} {f:Addr} {fd:FuncData} {N ps:List Str}
end
end L2
namespace L2
open PySem
def drT (a b:Int):Tr:=.tup [.int a,.int b]
def jh:Tr->Bool
 |.tup [.int a,.int b]=>!decide (a=0) || !decide (b=0)
 |_=>false
def F_ (h:jh t=true):∃x y:Int,t=drT x y:=by
 unfold jh at h;split at h
 .exact⟨_,_,rfl⟩
 .cases h
def mX (t:Tr):Prop:=∀us,t=.tup us->us.length<sizeLine
def tn (a b c d:Int):Int:=a*d-b*c
def L24 (i:Int):Prop:=-(10^24)<=i/\i<=10^24
def L24.bd (h:L24 i):Bd i:=fu (by unfold L24 at h;lia) (by unfold L24 at h;lia)
def L4 (a b c d:Int):Prop:=(L24 a/\L24 b)/\L24 c/\L24 d
def n8 {a b:Int}{m n:Nat}(h1:-(m:Int)<=a/\a<=m)(h2:-(n:Int)<=b/\b<=n):-((m*n:Nat):Int)<=a*b/\a*b<=((m*n:Nat):Int):=by
 have h:=u9 a b;have h3:a.natAbs<=m:=by lia
 have h4:b.natAbs<=n:=by lia
 have h5:=Ce h3 h4;lia
def Ts (h:L4 a b c d):Bd (tn a b c d):=by obtain⟨⟨h1,h2⟩,h3,h4⟩:=h;have x:=n8 (m:=10^24) (n:=10^24) h1 h4;have y:=n8 (m:=10^24) (n:=10^24) h2 h3;unfold tn;refine fu ?_ ?_<;>lia
def Qa:yb:=λts KK=>∃t,ts=[t]/\mX t/\KK (.bl (jh t))
def QG:yb:=λts KK=>∃a b c d:Int,ts=[drT a b,drT c d]/\L4 a b c d/\0<tn a b c d/\KK (.int (tn a b c d))
def jN (n d:Int):Tr:=frT (vk n d) (uN n d)
def gH (a b c d:Int):Tr->Tr
 |.tup [.int x,.int y]=>if x=0/\y=0 then .non else if tn x y c d<0\/tn a b x y<0 then .non else .tup [jN (tn x y c d) (tn a b c d),jN (tn a b x y) (tn a b c d)]
 |_=>.non
def GD (h:0<d):jN n d=fT (lfr n d):=by rw[qP h];rfl
def Kt:Tr->Prop
 |.tup [.int x,.int y]=>L24 x/\L24 y
 |_=>True
def QN:yb:=λts KK=>∃(a b c d:Int) (t:Tr),ts=[drT a b,drT c d,t]/\L4 a b c d/\mX t/\Kt t/\0<tn a b c d/\KK (gH a b c d t)
def Tw (h:us.length<=100000):mX (.tup us):=λvs e=>by cases e;exact wc (by lia)
def Tv (x y:Int):mX (drT x y):=Tw (by simp)
end L2
namespace L2
open PySem PySem.Spec PyProof.Rows
section
variable {X:Cx} {pos:Pos}
def Jx (i j k:Nat)(ta:TA):TS:=λD σ H=>ta σ H λvs H1=>∃u v w,vs=[u,v,w]/\D.nx (((σ.set i (some u)).set j (some v)).set k (some w)) H1
def HE {i j k:Nat}{x y z:Str}{a b c:Expr}{ta:TA}{px py pz pt:Pos}{kt k2 pt2}(hc:X.calm=true)(hN:X.N.Nodup)(hi:X.N[i]?=some x)(hj:X.N[j]?=some y)(hk:X.N[k]?=some z)(hij:i≠j/\i≠k/\j≠k)
  (hx:X.env.scope.names.lookup x=some .local) (hy:X.env.scope.names.lookup y=some .local) (hz:X.env.scope.names.lookup z=some .local) (ha:PA X [a,b,c] ta)
  (hw:swappedStores [.Tuple [.Name x px,.Name y py,.Name z pz] kt pt] (.Tuple [a,b,c] k2 pt2) X.env=pure (some [x,y,z]))
  (hs:swapsWithSole [.Tuple [.Name x px,.Name y py,.Name z pz] kt pt] (.Tuple [a,b,c] k2 pt2) pos.line X.env=pure false:=by rfl) :
  PS X (.Assign [.Tuple [.Name x px,.Name y py,.Name z pz] kt pt] (.Tuple [a,b,c] k2 pt2) pos) (Jx i j k ta):=by
 intro xf s σ H D I h;rw[exec_Assign_arm];refine xj (mN ?_);rw[hs];refine xj (xO ?_);rw[xG (by decide)];refine xj (Tuple_ (yp (@ha _ xf s σ H _ I h) λus s1 ⟨vs,H1,I1,r1,q1⟩=>?_));obtain⟨v,w,t,e1,q1⟩:=q1;subst e1;obtain⟨u1,u2,u3,rfl,rv,rw',rt⟩:∃u1 u2 u3,us=[u1,u2,u3]/\RelV v u1/\RelV w u2/\RelV t u3:=by
  cases r1 with
  |cons p q=>
   cases q with
   |cons p' q' =>
    cases q' with
    |cons p2 q2=>cases q2;exact⟨_,_,_,rfl,p,p',p2⟩
 refine vM ?_ (by show 3<=sizeLine;decide);have I2:Inv X xf σ H1 {s1 with heap:=s1.heap.push {cls:=.type "tuple", data:=.seq [u1,u2,u3].toArray} }:=I1.kept (t':=s1.toks) λb o e=>yZ _ e;rw[hw];refine xj (xO ?_);show wpAny (model X.prog X.w) X.A (do rule "assign.swapped-stores"; let items <-unpackItems (.ref s1.heap.objs.size) 3 none;assignInOrder [λv=>bindName X.env z v,λv=>bindName X.env y v,λv=>bindName X.env x v] items.reverse;pure Flow.next) _ _ _;refine xj (dG (xj (unpackItems_tuple (items := #[u1,u2,u3]) (I.ok.hd hc) (mh s1.heap _) λh' hx'=>?_)));have I3:=I2.kept (h':=h') (t':=s1.toks) λb o e=>hx' b o (we (yK e)) e;show wpAny _ _ (assignInOrder [λv=>bindName X.env z v,λv=>bindName X.env y v,λv=>bindName X.env x v] [u3,u2,u1]>>=λ_=>pure Flow.next) _ _ _;refine xj (mI (pK (fX I3 hN hk (.inl hz) rt (λs2 I4=>?_) (.inr hz))));refine mI (pK (fX I4 hN hj (.inl hy) rw' (λs3 I5=>?_) (.inr hy)));refine mI (pK (fX I5 hN hi (.inl hx) rv (λs4 I6=>Km (xO ?_)) (.inr hx)));rw[B9 _ _ (zY hij.1),B9 _ _ (zY hij.2.1),B9 _ _ (zY hij.2.2)] at I6;exact⟨_,H1,I6,q1⟩
end
section
variable {K:xw} {fr:Bool}
def R6 (i j k:Nat)(d:DA):DS:=λG τ=>d τ λts=>match ts with|[t,u,v]=>G.nx (((τ.set i (.fz t)).set j (.fz u)).set k (.fz v))|_=>False
def RB (h:yt F H [t,u,x] vs):∃v w y,vs=[v,w,y]/\Rep F H t v/\Rep F H u w/\Rep F H x y:=by obtain⟨v,vs,rfl,h1,h2⟩:=h;obtain⟨w,y,rfl,h3,h4⟩:=tO h2;exact⟨v,w,y,rfl,h1,h3,h4⟩
def G9 (h:OkA K true n ta da):zH K fr (Jx i j k ta) (R6 i j k da):=λB φ σ τ H E G R hd e=>
 h B φ σ τ H _ _ R hd λts vs H1 x1 k1 l1 r1=>by
  match ts,k1,r1 with
  |[t,u,z],k1,r1=>obtain⟨v,w,y,rfl,h1,h2,h3⟩:=RB r1;have m:∀ {φ':y_} {i:Nat} {t:Tr} {v:V},Rep (Av B φ') H1 t v->Rep (Av B (φ'.del i)) H1 t v:=λr=>wY (λa o e n=>⟨e,λz=>n (k9 z)⟩) _ _ r;exact⟨v,w,y,rfl,e.nx _ _ _ H1 ((((R.hx x1).setFz h1).setFz (m h2)).setFz (m (m h3))) k1⟩
end
end L2
namespace L2
open PySem
def sC:Tr->Bool
 |.tup [.int a,.int b]=>decide (1<=b)&&decide (Int.gcd a b=1)
 |_=>false
structure Wt (w:F2):Prop where
 pos:0<w.2
 cop:Int.gcd w.1 w.2=1
 nn:0<=w.1
 sm:Fk 40 w
def Cop (f:F2):Prop:=0<f.2/\Int.gcd f.1 f.2=1
def nj (h:0<b):Cop (lfr t b):=by rw[qP h];exact⟨Fra.qk h,Fra.nY h⟩
theorem Sd.low (h:Sd f N D)(c:Cop f):L2.lfr N D=f:=by
 rw[qP h.pd];have:=Fra.Ez (Fra.nY h.pd) c.2 (Fra.qk h.pd) c.1 (by
  have e:=h.e;have l:=Fra.fK N D;generalize (Fra.low N D).1=x at *
  generalize (Fra.low N D).2=y at *
  have hD:=h.pd;have:(x*f.2)*D=(f.1*y)*D:=by grind
  exact j4 (by lia) this)
 exact zC this.1 this.2
def Sd.plusD (h:Sd f N D)(h':Sd g M D):Sd (uW f g) (N+M) D:=by refine Sd.lfr (Pol.pp h.pf h'.pf) h.pd ?_ rfl;have:=h.e;have:=h'.e;grind
def qX (k:Pol.R3->Int)(f:F2)(x:Pol.R3×F2):F2:=uW f (wL x.2 (k x.1,1))
def wsum (k:Pol.R3->Int)(l:List (Pol.R3×F2)):F2:=l.foldl (qX k) (0,1)
def nq (k:Pol.R3->Int)(l:List (Pol.R3×F2))(h:∀x∈l,0<x.2.2):Cop (wsum k l):=by
 unfold wsum;have go:∀(l:List (Pol.R3×F2)) (f:F2),Cop f->(∀x∈l,0<x.2.2)->Cop (l.foldl (qX k) f):=λl=>by
  induction l with
  |nil=>exact λf c _=>c
  |cons x l ih=>intro f c h;refine ih _ ?_ λy hy=>h y (yI _ hy);have hx:=h x xU;have:0<(wL x.2 (k x.1,1)).2:=lz (by show x.2.2*1≠0;lia);exact nj (Pol.pp c.1 this)
 exact go l (0,1) ⟨by decide,by decide⟩ h
def Bo (hw:0<w.2)(hD:0<D)(e:w.2*q=D):Sd (wL w (r,1)) (q*w.1*r) D:=by
 refine Sd.lfr (by show 0<w.2*1;lia) hD ?_ rfl;show w.1*r*D=q*w.1*r*(w.2*1)
 rw[<-e];grind
def Fk.plus2 (h:Fk k f)(h':Fk m g):Fk (k+m+1) (uW f g):=by
 unfold uW;refine qO (by have:=Pol.pp h.pos h'.pos;lia) ?_ ?_
 .exact(h.top.mul h'.bot).add ((h'.top.mul h.bot).mono (by lia))
 .exact(h.bot.mul h'.bot).mono (by lia)
def Fk.timI (h:Fk k f)(hr:Bk m r):Fk (k+m) (wL f (r,1)):=by unfold wL;refine qO (by have:=h.pos;show f.2*1≠0;lia) (h.top.mul hr) ?_;show Bk (k+m) (f.2*1);rw[g6];exact h.bot.mono (by lia)
def JP (k:Pol.R3->Int):∀(l:List (Pol.R3×F2)),(∀x∈l,Fk 40 x.2/\Bk 10 (k x.1))->Fk (1+51*l.length) (wsum k l):=by
 have go:∀(l:List (Pol.R3×F2)) (f:F2) (n:Nat),Fk n f->(∀x∈l,Fk 40 x.2/\Bk 10 (k x.1))->Fk (n+51*l.length) (l.foldl (qX k) f):=λl=>by
  induction l with
  |nil=>exact λf n c _=>c
  |cons x l ih=>intro f n c h;have hx:=h x xU;have:=ih (qX k f x) (n+51) (c.plus2 (hx.1.timI hx.2)) λy hy=>h y (yI _ hy);rw[wC];exact this.mono (by lia)
 exact λl h=>go l (0,1) 1 ⟨by unfold Bk;decide,by unfold Bk;decide,by decide⟩ h
def wsum_snoc (k:Pol.R3->Int)(l:List (Pol.R3×F2))(x:Pol.R3×F2):wsum k (l++[x])=qX k (wsum k l) x:=by unfold wsum;rw[dq];rfl
def k0 (r:Pol.R3):Int:=r.1
def k1 (r:Pol.R3):Int:=r.2.1
def k2 (r:Pol.R3):Int:=r.2.2
def Jf (l:List (Pol.R3×F2)):Tr:=.tup [fT (wsum k0 l),fT (wsum k1 l),fT (wsum k2 l)]
structure WS (xa:List Pol.R3)(ws:List F2):Prop where
 len:xa.length=ws.length
 l100:xa.length<=8
 sm:∀r∈xa,yL 10 r
 wt:∀w∈ws,Wt w
theorem WS.zip (h:WS xa ws)(hx:x∈xa.zip ws):yL 10 x.1/\Wt x.2:=by obtain⟨a,b⟩:=x;have:=mB hx;exact⟨h.sm a this.1,h.wt b this.2⟩
def Q3:yb:=λts KK=>∃(xa:List Pol.R3) (ws:List F2),ts=[.tup (xa.map xg),.tup (ws.map fT)]/\WS xa ws/\
 ∀a b c D:Int,Sd (wsum k0 (xa.zip ws)) a D->Sd (wsum k1 (xa.zip ws)) b D->Sd (wsum k2 (xa.zip ws)) c D->Bd D->KK (.tup [.lst [.int a,.int b,.int c],.int D])
def QU:yb:=λts KK=>∃(xa:List Pol.R3) (ws:List F2),ts=[.tup (xa.map xg),.tup (ws.map fT)]/\WS xa ws/\KK (Jf (xa.zip ws))
def qg (a b:F2):Prop:=a.2=1/\b.2=1/\¬(a.1=0/\b.1=0)
def P5:yb:=λts KK=>∃a b c:F2,ts=[.tup [fT a,fT b,fT c]]/\(0<c.2/\Bd c.2)/\qg a b/\KK (xg (a.1,b.1,c.1.fdiv c.2))
def QB:yb:=λts KK=>∃(xa:List Pol.R3) (ws:List F2),ts=[.tup (xa.map xg),.tup (ws.map fT)]/\WS xa ws/\KK (Jf (xa.zip ws))
theorem BF (f:α->Tr)(g:β->Tr):∀(l:List α) (m:List β),qy (l.map f) (m.map g)=(l.zip m).map λx=>.tup [f x.1,g x.2]
 |[],_=>rfl
 |_::_,[]=>rfl
 |x::l,y::m=>by show Tr.tup [f x,g y]::qy (l.map f) (m.map g)=_;rw[BF f g l m];rfl
def T9 (ht:0<=t/\t<=1000000)(hb:1<=b/\b<=1000000):Wt (lfr t b):=by
 have c:=nj (t:=t) (b:=b) (by lia);have s:Sd (lfr t b) t b:=by rw[qP (by lia)];exact tY (by lia)
 refine⟨c.1,c.2,?_,qO (by lia) (by unfold Bk;lia) (by unfold Bk;lia)⟩;refine aH.mp λz=>?_;have:=s.neg.mp z;lia
def JQ (ht:0<=t/\t<=1000000):Wt (t,1):=⟨by show(0:Int)<1;decide,by show Int.gcd t 1=1;simp,ht.1,⟨by unfold Bk;simp only;lia,by show Bk 40 1;unfold Bk;decide,by show(0:Int)<1;decide⟩⟩
theorem Cop.lfr (c:Cop f):L2.lfr f.1 f.2=f:=Sd.low (IT c.1) c
def rwT (x:Pol.R3×F2):Tr:=.tup [xg x.1,fT x.2]
def jt (x:Pol.R3×F2):Bool:=!decide (x.2.1=0)
def T7 (c:Cop f)(h:Wt x.2)(hz:x.2.1=0):qX k f x=f:=by
 have e:x.2=(0,1):=by have g:=h.cop;rw[hz,Int.gcd_zero_left] at g;have p:=h.pos;exact zC hz (by show x.2.2=1;lia)
 unfold qX;rw[e];have e2:wL (0,1) (k x.1,1)=(0,1):=by
  unfold wL;show L2.lfr (0*k x.1) (1*1)=(0,1)
  rw[jy];decide
 rw[e2];unfold uW;show L2.lfr (f.1*1+0*f.2) (f.2*1)=f;rw[g6,jy,aF,g6];exact c.lfr
def BD (k:Pol.R3->Int)(l:List (Pol.R3×F2))(h:∀x∈l,Wt x.2):wsum k (l.filter jt)=wsum k l:=by
 have go:∀(l:List (Pol.R3×F2)) (f:F2),Cop f->(∀x∈l,Wt x.2)->(l.filter jt).foldl (qX k) f=l.foldl (qX k) f:=λl=>by
  induction l with
  |nil=>exact λf c _=>rfl
  |cons x l ih=>
   intro f c h;have hx:=h x xU;have hl:=λy hy=>h y (yI x hy);have c':Cop (qX k f x):=nj (Pol.pp c.1 (lz (by have:=hx.pos;show x.2.2*1≠0;lia)));by_cases z:x.2.1=0
   .rw[aL (by simp[jt,z]),ih f c hl,qA,T7 c hx z]
   .rw[mq (by simp[jt,z]),qA,qA,ih _ c' hl]
 exact go l (0,1) ⟨by decide,by decide⟩ h
def Nc (hD:0<D)(hw:0<w):0<D/(Int.gcd D w:Nat)*w/\D∣D/(Int.gcd D w:Nat)*w/\w∣D/(Int.gcd D w:Nat)*w/\(D/(Int.gcd D w:Nat)*w).natAbs<=(D*w).natAbs:=by
 have g0:(0:Int)<(Int.gcd D w:Nat):=by have:=mf D (show w≠0 by lia);lia
 have dl:=j5 D w;have dr:=dj D w;generalize ((Int.gcd D w:Nat):Int)=g at *
 obtain⟨q,rfl⟩:=dl;obtain⟨p,rfl⟩:=dr;rw[c9 q (show g≠0 by lia)];have q0:0<q:=J6 hD g0;refine⟨Pol.pp q0 hw,⟨p,by grind⟩,JX ..,?_⟩;rw[u9,u9 (g*q)];refine Cf _ ?_;have:1*q<=g*q:=zj (by lia) (by lia);lia
theorem eM (x:α):∀n:Nat,(List.replicate n [x]).flatten=List.replicate n x
 |0=>rfl
 |n+1=>by rw[ff,aM,eM x n];rfl
def oT {α:Type}{f:α->Tr}{i n:Nat}{di:DE}{τ:xV}{KK:xV->Prop}{l:List α}{w:α}(h:yo τ i=.ow (l.map f))(hn:n<l.length)(hd:∀KK':Tr->Prop,KK' (.int n)->di τ KK')(k:KK (τ.set i (.ow ((l.set n w).map f)))):rK i di (f w) τ KK:=by
 unfold rK;rw[h];refine hd _ ?_;have e:t4 (l.map f) (f w) (n:Int)=some ((l.set n w).map f):=by show(if n<(l.map f).length then some ((l.map f).set n (f w)) else none)=_;rw[xJ (by rw[xP];exact hn),B6]
 show match t4 (l.map f) (f w) (n:Int) with|some us=>KK (τ.set i (.ow us))|none=>False
 rw[e];exact k
instance (a b:F2):Decidable (qg a b):=by unfold qg;infer_instance
def vy (l:List (Pol.R3×F2)):Tr:=xg ((wsum k0 l).1,(wsum k1 l).1,(wsum k2 l).1.fdiv (wsum k2 l).2)
def Ql:yb:=λts KK=>∃(xa:List Pol.R3) (ws:List F2),ts=[.tup (xa.map xg),.tup (ws.map fT)]/\WS xa ws/\KK (if qg (wsum k0 (xa.zip ws)) (wsum k1 (xa.zip ws)) then vy (xa.zip ws) else .non)
theorem WS.bot (H:WS xa ws):0<(wsum k2 (xa.zip ws)).2/\Bd (wsum k2 (xa.zip ws)).2:=by
 have f:=JP k2 (xa.zip ws) λx hx=>⟨(H.zip hx).2.sm,(H.zip hx).1.2⟩
 have:(xa.zip ws).length<=8:=by rw[List.length_zip];have:=H.l100;lia
 exact⟨f.pos,(f.bot.mono (show 1+51*(xa.zip ws).length<=500 by lia)).bd⟩
def wsT (ws:List F2):Tr:=.tup (ws.map fT)
def GW (n:Nat)(ws:List F2):Prop:=ws.length=n/\∀w∈ws,Wt w
end L2
namespace Trn
abbrev D2:=Int×Int
def cr (p q:D2):Int:=p.1*q.2-p.2*q.1
def sc (m:Int)(p:D2):D2:=(m*p.1,m*p.2)
def ad (p q:D2):D2:=(p.1+q.1,p.2+q.2)
def sb (p q:D2):D2:=(p.1-q.1,p.2-q.2)
def uj (p:D2):cr p p=0:=by unfold cr;grind
def kE (p q:D2):cr q p = - cr p q:=by unfold cr;grind
def gk (w p q:D2):cr w (ad p q)=cr w p+cr w q:=by unfold cr ad;grind
def vx (w p:D2)(m:Int):cr w (sc m p)=m*cr w p:=by unfold cr sc;grind
def dX (w p q:D2):cr w (sb p q)=cr w p-cr w q:=by unfold cr sb;grind
def oi (w p q:D2):cr (ad p q) w=cr p w+cr q w:=by unfold cr ad;grind
def gU (w p:D2)(m:Int):cr (sc m p) w=m*cr p w:=by unfold cr sc;grind
def gS (w p q:D2):cr (sb p q) w=cr p w-cr q w:=by unfold cr sb;grind
def m9 (h:cr p q=1)(x:D2):x=ad (sc (cr x q) p) (sc (cr p x) q):=by
 have e1:cr x q*p.1+cr p x*q.1=x.1*cr p q:=by unfold cr;grind
 have e2:cr x q*p.2+cr p x*q.2=x.2*cr p q:=by unfold cr;grind
 rw[h] at e1 e2;apply zC
 .show x.1=cr x q*p.1+cr p x*q.1;lia
 .show x.2=cr x q*p.2+cr p x*q.2;lia
structure wa (h:List D2):Prop where
 one:∀i p q,h[i]?=some p->h[i+1]?=some q->cr p q=1
 mid:∀i p q r,h[i]?=some p->h[i+1]?=some q->h[i+2]?=some r->∃m,2<=m/\ad p r=sc m q
def lG {m a:Int}(h:2<=m)(ha:0<=a):2*a<=m*a:=zj h ha
theorem wa.right {h:List D2}(C:wa h)(w:D2){i:Nat}{p0 q0:D2}(hp:h[i]?=some p0)(hq:h[i+1]?=some q0)(h0:0<=cr w q0)(h1:cr w p0<=cr w q0) :
  ∀k p q,h[i+k]?=some p->h[i+k+1]?=some q->0<=cr w q/\cr w p<=cr w q
 |0,p,q,ep,eq=>by rw[show i+0=i from rfl] at ep eq;rw[hp] at ep;rw[hq] at eq;cases ep;cases eq;exact⟨h0,h1⟩
 |k+1,p,q,ep,eq=>by
  have il:i+k<h.length:=by have:=(y8.mp ep).1;lia
  obtain⟨a,b⟩:=C.right w hp hq h0 h1 k h[i+k] p (yC il) ep;obtain⟨m,hm,e⟩:=C.mid (i+k) _ p q (yC il) ep eq;have e':=zg (cr w) e;rw[gk,vx] at e';have:=lG hm a;lia
theorem wa.left {h:List D2}(C:wa h)(w:D2){i:Nat}{p0 q0:D2}(hp:h[i]?=some p0)(hq:h[i+1]?=some q0)(h0:0<=cr w p0)(h1:cr w q0<=cr w p0) :
  ∀k j p q,j+k=i->h[j]?=some p->h[j+1]?=some q->0<=cr w p/\cr w q<=cr w p
 |0,j,p,q,e,ep,eq=>by cases (show j=i by lia);rw[hp] at ep;rw[hq] at eq;cases ep;cases eq;exact⟨h0,h1⟩
 |k+1,j,p,q,ej,ep,eq=>by
  have il:j+2<h.length:=by have:=(y8.mp hq).1;lia
  obtain⟨a,b⟩:=C.left w hp hq h0 h1 k (j+1) q h[j+2] (by lia) eq (yC il);obtain⟨m,hm,e⟩:=C.mid j p q _ ep eq (yC il);have e':=zg (cr w) e;rw[gk,vx] at e';have:=lG hm a;lia
def wa.ge1 {h:List D2}(C:wa h){i:Nat}{p q:D2}(hp:h[i]?=some p)(hq:h[i+1]?=some q){j:Nat}{x:D2}(hx:h[j]?=some x):1<=cr (sb p q) x:=by
 have one:=C.one i p q hp hq;have gp:cr (sb p q) p=1:=by rw[gS,uj,kE p q];lia
 have gq:cr (sb p q) q=1:=by rw[gS,uj];lia
 have jl:=(y8.mp hx).1;have ql:=(y8.mp hq).1;have R:∀k y,h[i+k+1]?=some y->1<=cr (sb p q) y:=λk=>by
  induction k with
  |zero=>intro y ey;rw[hq] at ey;cases ey;lia
  |succ k ih=>
   intro y ey;have il:i+k+1<h.length:=by have:=(y8.mp ey).1;lia
   have a:=ih _ (yC il);have b:=C.right (sb p q) hp hq (by lia) (by lia) (k+1) _ y (yC il) ey;lia
 have L:∀k j y,j+k=i->h[j]?=some y->1<=cr (sb p q) y:=λk=>by
  induction k with
  |zero=>intro j y ej ey;cases (show j=i by lia);rw[hp] at ey;cases ey;lia
  |succ k ih=>
   intro j y ej ey;have il:j+1<h.length:=by lia
   have a:=ih (j+1) _ (by lia) (yC il);have b:=C.left (sb p q) hp hq (by lia) (by lia) (k+1) j y _ ej ey (yC il);lia
 by_cases c:j<=i
 .exact L (i-j) j x (by lia) hx
 .exact R (j-i-1) x (by rw[show i+(j-i-1)+1=j by lia];exact hx)
def wa.order {h:List D2}(C:wa h){i j:Nat}{p x:D2}(hp:h[i]?=some p)(hx:h[j]?=some x)(hij:i<j):1<=cr p x:=by
 have jl:=(y8.mp hx).1;have il:i+1<h.length:=by lia
 have hq:=yC il;have one:=C.one i p _ hp hq;have R:∀k y,h[i+k+1]?=some y->1<=cr p y:=λk=>by
  induction k with
  |zero=>intro y ey;rw[hq] at ey;cases ey;lia
  |succ k ih=>
   intro y ey;have il:i+k+1<h.length:=by have:=(y8.mp ey).1;lia
   have a:=ih _ (yC il);have b:=C.right p hp hq (by lia) (by rw[uj];lia) (k+1) _ y (yC il) ey;lia
 exact R (j-i-1) x (by rw[show i+(j-i-1)+1=j by lia];exact hx)
def InC (u v x:D2):Prop:=0<=cr u x/\0<=cr x v
def wa.made (C:wa h)(h2:2<=h.length)(hf:h[0]?=some f)(hl:h[h.length-1]?=some l)(hx:InC f l x) :
  ∃i p q,h[i]?=some p/\h[i+1]?=some q/\0<=cr x q/\0<=cr p x:=by
 have go:∀k i p,i+k=h.length-1->h[i]?=some p->0<=cr p x->i<h.length-1->∃i p q,h[i]?=some p/\h[i+1]?=some q/\0<=cr x q/\0<=cr p x:=λk=>by
  induction k with
  |zero=>intro i p e _ _ z;lia
  |succ k ih=>
   intro i p e hp h0 il;have jl:i+1<h.length:=by lia
   have hq:=yC jl;by_cases c:0<=cr x h[i+1]
   .exact⟨i,p,_,hp,hq,c,h0⟩
   .have s:=kE h[i+1] x;by_cases d:i+1=h.length-1
    .have e2:h[i+1]=l:=by rw[<-d,hq] at hl;cases hl;rfl
     rw[e2] at c;exact absurd hx.2 c
    .exact ih (i+1) _ (by lia) hq (by lia) (by lia)
 exact go (h.length-1) 0 f (by lia) hf hx.1 (by lia)
def wa.get_pair {h:List D2}(h2:2<=h.length){j:Nat}{x:D2}(hx:h[j]?=some x):∃i p q,h[i]?=some p/\h[i+1]?=some q/\(x=p\/x=q):=by
 have jl:=(y8.mp hx).1;by_cases c:j+1<h.length
 .exact⟨j,x,_,hx,yC c,.inl rfl⟩
 .have il:j-1<h.length:=by lia
  exact⟨j-1,_,x,yC il,by rw[show j-1+1=j by lia];exact hx,.inr rfl⟩
def n_ {a b:Int}(ha:0<=a)(hb:0<=b):0<=a*b:=BQ ha hb
def n6 {a b:Int}(ha:0<=a)(hb:1<=b):a<=a*b:=by have:=wd hb ha;lia
def wa.pos {h:List D2}(C:wa h){f l x:D2}(h2:2<=h.length)(hf:h[0]?=some f)(hl:h[h.length-1]?=some l)(hx:InC f l x)(nz:x≠(0,0)){i:Nat}{p q:D2}(hp:h[i]?=some p)(hq:h[i+1]?=some q) :
  1<=cr (sb p q) x:=by
 obtain⟨j,a,b,ha,hb,c1,c2⟩:=C.made h2 hf hl hx;have e:=m9 (C.one j a b ha hb) x;have g1:=C.ge1 hp hq ha;have g2:=C.ge1 hp hq hb;have e':=zg (cr (sb p q)) e;rw[gk,vx,vx] at e';have m1:=n6 c1 g1;have m2:=n6 c2 g2;have:¬(cr x b=0/\cr a x=0):=λz=>by rw[z.1,z.2] at e;apply nz;rw[e];simp[ad,sc]
 lia
def mT (u v x:D2):Prop:=(InC u v x/\x≠(0,0))/\∀y z,InC u v y->InC u v z->y≠(0,0)->z≠(0,0)->x≠ad y z
def wa.inC {h:List D2}(C:wa h){f l x:D2}(hf:h[0]?=some f)(hl:h[h.length-1]?=some l){j:Nat}(hx:h[j]?=some x):InC f l x:=by
 have jl:=(y8.mp hx).1;constructor
 .by_cases c:j=0
  .subst c;rw[hf] at hx;cases hx;rw[uj];lia
  .have:=C.order hf hx (by lia);lia
 .by_cases c:j=h.length-1
  .rw[<-c] at hl;rw[hl] at hx;cases hx;rw[uj];lia
  .have:=C.order hx hl (by lia);lia
def wa.nz {h:List D2}(C:wa h)(h2:2<=h.length){j:Nat}{x:D2}(hx:h[j]?=some x):x≠(0,0):=λz=>by obtain⟨i,p,q,hp,hq,e⟩:=wa.get_pair h2 hx;have:=C.one i p q hp hq;rcases e with rfl|rfl<;>rw[z] at this<;>simp[cr] at this
def wa.least {h:List D2}(C:wa h){f l x:D2}(h2:2<=h.length)(hf:h[0]?=some f)(hl:h[h.length-1]?=some l):(∃j:Nat,h[j]?=some x)↔mT f l x:=by
 constructor
 .rintro⟨j,hx⟩;refine⟨⟨C.inC hf hl hx,C.nz h2 hx⟩,λy z hy hz ny nz' e=>?_⟩;obtain⟨i,p,q,hp,hq,ex⟩:=wa.get_pair h2 hx;have one:=C.one i p q hp hq;have gx:cr (sb p q) x=1:=by
   rcases ex with rfl|rfl
   .rw[gS,uj,kE x q];lia
   .rw[gS,uj];lia
  have g1:=C.pos h2 hf hl hy ny hp hq;have g2:=C.pos h2 hf hl hz nz' hp hq;rw[e,gk] at gx;lia
 .rintro⟨⟨hc,nz⟩,hs⟩;obtain⟨j,a,b,ha,hb,c1,c2⟩:=C.made h2 hf hl hc;have e:=m9 (C.one j a b ha hb) x;have ca:=C.inC hf hl ha;have cb:=C.inC hf hl hb;generalize cr x b=al at e c1;generalize cr a x=be at e c2;have inc:∀s t:Int,0<=s->0<=t->InC f l (ad (sc s a) (sc t b)):=λs t hs ht=>by
   refine⟨?_,?_⟩
   .rw[gk,vx,vx];have:=n_ hs ca.1;have:=n_ ht cb.1;lia
   .rw[oi,gU,gU];have:=n_ hs ca.2;have:=n_ ht cb.2;lia
  have one:=C.one j a b ha hb;have nz2:∀s t:Int,ad (sc s a) (sc t b)=(0,0)->s=0/\t=0:=λs t z=>by
   have z1:cr (ad (sc s a) (sc t b)) b=0:=by rw[z];simp[cr]
   have z2:cr a (ad (sc s a) (sc t b))=0:=by rw[z];simp[cr]
   rw[oi,gU,gU,uj,one] at z1;rw[gk,vx,vx,uj,one] at z2;lia
  by_cases c:al+be<=1
  .have:(al=0/\be=0)\/(al=1/\be=0)\/(al=0/\be=1):=by lia
   rcases this with ⟨rfl,rfl⟩|⟨rfl,rfl⟩|⟨rfl,rfl⟩
   .exact absurd (by rw[e];simp[ad,sc]) nz
   .exact⟨j,by rw[ha,e];simp[ad,sc]⟩
   .exact⟨j+1,by rw[hb,e];simp[ad,sc]⟩
  .exfalso;by_cases d:1<=al
   .refine hs a (ad (sc (al-1) a) (sc be b)) ca (inc _ _ (by lia) c2) (C.nz h2 ha) (λz=>?_) ?_
    .have:=nz2 _ _ z;lia
    .rw[e];simp only[ad,sc];apply zC<;>simp only<;>grind
   .refine hs b (ad (sc al a) (sc (be-1) b)) cb (inc _ _ c1 (by lia)) (C.nz h2 hb) (λz=>?_) ?_
    .have:=nz2 _ _ z;lia
    .rw[e];simp only[ad,sc];apply zC<;>simp only<;>grind
def wa.snoc (C:wa (h0++[p,q]))(hm:2<=m):wa (h0++[p,q]++[sb (sc m q) p]):=by
 have ep:(h0++[p,q])[h0.length]?=some p:=by simp
 have eq':(h0++[p,q])[h0.length+1]?=some q:=by rw[mr (by lia)];simp[show h0.length+1-h0.length=1 by lia]
 have one:=C.one _ _ _ ep eq';have new:∀ {i x},(h0++[p,q]++[sb (sc m q) p])[i]?=some x->(i<h0.length+2/\(h0++[p,q])[i]?=some x)\/(i=h0.length+2/\x=sb (sc m q) p):=λ {i x} h=>by
  have l2:(h0++[p,q]).length=h0.length+2:=by simp
  by_cases c:i<h0.length+2
  .rw[pF (by lia)] at h;exact .inl ⟨c,h⟩
  .rw[mr (by lia),l2] at h;have il:=(y8.mp h).1;simp at il;have:i=h0.length+2:=by lia
   rw[this] at h;simp at h;exact .inr ⟨this,h.symm⟩
 refine⟨λi x y hx hy=>?_,λi x y z hx hy hz=>?_⟩
 .rcases new hy with ⟨c,hy⟩|⟨c,rfl⟩
  .rcases new hx with ⟨_,hx⟩|⟨d,_⟩
   .exact C.one i x y hx hy
   .lia
  .rcases new hx with ⟨_,hx⟩|⟨d,_⟩
   .rw[show i=h0.length+1 by lia,eq'] at hx;cases hx;rw[dX,vx,uj,kE p q];lia
   .lia
 .rcases new hz with ⟨c,hz⟩|⟨c,rfl⟩
  .rcases new hx with ⟨_,hx⟩|⟨d,_⟩
   .rcases new hy with ⟨_,hy⟩|⟨d,_⟩
    .exact C.mid i x y z hx hy hz
    .lia
   .lia
  .rcases new hx with ⟨_,hx⟩|⟨d,_⟩
   .rcases new hy with ⟨_,hy⟩|⟨d,_⟩
    .rw[show i=h0.length by lia,ep] at hx;cases hx;rw[show i+1=h0.length+1 by lia,eq'] at hy;cases hy;exact⟨m,hm,by apply zC<;>simp only[ad,sb,sc]<;>lia⟩
    .lia
   .lia
def Bx (n:Int)(p:D2):Prop:=(-n<=p.1/\p.1<=n)/\-n<=p.2/\p.2<=n
def m5 (hD:0<D)(e:x*D=T*a+S*b)(hT:0<=T/\T<=D)(hS:0<=S/\S<=D)(ha:-M<=a/\a<=M)(hb:-M<=b/\b<=M):-(2*M)<=x/\x<=2*M:=by
 have hM:0<=M:=by lia
 have t1:T*a<=D*M:=Int.le_trans (wd ha.2 hT.1) (zj hT.2 hM);have s1:S*b<=D*M:=Int.le_trans (wd hb.2 hS.1) (zj hS.2 hM);have t2:-(D*M)<=T*a:=by
  have:=wd ha.1 hT.1;have:=zj hT.2 hM;rw[qY] at *
  lia
 have s2:-(D*M)<=S*b:=by
  have:=wd hb.1 hS.1;have:=zj hS.2 hM;rw[qY] at *
  lia
 constructor
 .refine j6 (a:=D) ?_ hD;rw[e,qZ,show 2*M*D=D*M+D*M by grind];lia
 .refine j6 (a:=D) ?_ hD;rw[e,show 2*M*D=D*M+D*M by grind];lia
def fw (f l x:D2):x.1*cr f l=cr x l*f.1+cr f x*l.1/\x.2*cr f l=cr x l*f.2+cr f x*l.2:=by unfold cr;constructor<;>grind
structure Run (f l:D2)(M:Int)(h0:List D2)(p q:D2):Prop where
 chn:wa (h0++[p,q])
 fst:(h0++[p,q])[0]?=some f
 s:0<=cr f p/\cr f p<cr f q
 t:0<=cr q l/\cr q l<cr p l/\cr p l<=cr f l
 len:(h0.length:Int)+cr q l<=cr f l
 bd:∀x∈h0++[p,q],Bx (2*M) x
theorem Run.one (R:Run f l M h0 p q):cr p q=1:=by refine R.chn.one h0.length p q (by simp) ?_;rw[mr (by lia)];simp[show h0.length+1-h0.length=1 by lia]
def cdiv (hb:0<b):0<=-((-a).fdiv b)*b-a/\-((-a).fdiv b)*b-a<b:=by rw[c7 _ (by lia)];have h1:=f_ (-a) (show b≠0 by lia);have h2:=aG (-a) hb;have h3:=Int.mul_ediv_add_emod (-a) b;rw[qZ,vG];lia
def Run.step (R:Run f l M h0 p q)(hf:Bx M f)(hl:Bx M l)(h0':0<cr q l)(em:m = -((-(cr p l)).fdiv (cr q l))) :
  2<=m/\m<=cr f l/\Run f l M (h0++[p]) q (sb (sc m q) p)/\cr (sb (sc m q) p) l<cr q l:=by
 obtain⟨t1,t2,t3⟩:=R.t;obtain⟨s1,s2⟩:=R.s;obtain⟨d1,d2⟩:=cdiv (a:=cr p l) h0';rw[<-em] at d1 d2;have m2:2<=m:=by refine aH.mp λz=>?_;have:m*cr q l<=1*cr q l:=zj (by lia) (by lia);lia
 have mD:m<=cr f l:=by refine aH.mp λz=>?_;have a:(cr f l+1)*cr q l<=m*cr q l:=zj (by lia) (by lia);have b:cr f l*1<=cr f l*cr q l:=wd (by lia) (by lia);rw[Int.add_mul] at a;lia
 have sr:cr f (sb (sc m q) p)=m*cr f q-cr f p:=by rw[dX,vx]
 have tr:cr (sb (sc m q) p) l=m*cr q l-cr p l:=by rw[gS,gU]
 have sg:=lG m2 (show 0<=cr f q by lia);have C:=R.chn.snoc m2;rw[show h0++[p,q]++[sb (sc m q) p]=(h0++[p])++[q,sb (sc m q) p] by simp] at C;have key:wa (h0++[p]++[q,sb (sc m q) p])/\(0<=cr f q/\cr f q<cr f (sb (sc m q) p))/\(0<=cr (sb (sc m q) p) l/\cr (sb (sc m q) p) l<cr q l/\cr q l<=cr f l):=⟨C,⟨by lia,by lia⟩,by lia,by lia,by lia⟩
 have one':cr q (sb (sc m q) p)=1:=by rw[dX,vx,uj,kE p q,R.one];lia
 have sle:cr f (sb (sc m q) p)<=cr f l:=by have e:=zg (cr f) (m9 one' l);rw[gk,vx,vx,kE (sb (sc m q) p) l] at e;have a:(cr (sb (sc m q) p) l+1)*cr f (sb (sc m q) p)<=cr q l*cr f (sb (sc m q) p):=zj (by lia) (by lia);have b:cr (sb (sc m q) p) l*cr f q<=cr (sb (sc m q) p) l*cr f (sb (sc m q) p):=wd (by lia) (by lia);rw[Int.add_mul] at a;rw[qZ] at e;lia
 refine⟨m2,mD,⟨C,?_,key.2.1,key.2.2,?_,λx hx=>?_⟩,by lia⟩
 .have e:h0++[p]++[q,sb (sc m q) p]=(h0++[p,q])++[sb (sc m q) p]:=by simp
  rw[e,pF (by simp)];exact R.fst
 .have:=R.len;simp only[ze,g_];lia
 .have e:h0++[p]++[q,sb (sc m q) p]=(h0++[p,q])++[sb (sc m q) p]:=by simp
  rw[e] at hx;rcases yz.mp hx with hx|hx
  .exact R.bd x hx
  .rw[zF.mp hx];obtain⟨e1,e2⟩:=fw f l (sb (sc m q) p);exact⟨m5 (by lia) e1 ⟨by lia,by lia⟩ ⟨by lia,sle⟩ hf.1 hl.1,m5 (by lia) e2 ⟨by lia,by lia⟩ ⟨by lia,sle⟩ hf.2 hl.2⟩
def Run.stop (R:Run f l M h0 p q)(hg:Int.gcd l.1 l.2=1):cr q l=0↔q=l:=by
 constructor
 .intro z;have e:=m9 R.one l;rw[kE q l,z] at e;have e1:l.1=cr p l*q.1:=by have:=zg Prod.fst e;simp only[ad,sc] at this;lia
  have e2:l.2=cr p l*q.2:=by have:=zg Prod.snd e;simp only[ad,sc] at this;lia
  have d:cr p l∣((Int.gcd l.1 l.2:Nat):Int):=jv ⟨q.1,e1⟩ ⟨q.2,e2⟩;rw[hg] at d;have t:=R.t;have:cr p l=1:=Int.eq_one_of_dvd_one (by lia) d;rw[this] at e1 e2;exact zC (by lia) (by lia)
 .intro e;rw[e,uj]
def gd (p:D2):Int:=(Int.gcd p.1 p.2:Nat)
def yN (p:D2):D2:=(p.1/gd p,p.2/gd p)
def vX (h:p≠(0,0)):0<gd p:=by
 unfold gd;have:0<Int.gcd p.1 p.2:=Int.gcd_pos_iff.mpr (by
  by_cases c:p.1=0
  .exact .inr λz=>h (zC c z)
  .exact .inl c)
 lia
def gX (h:p≠(0,0)):p=sc (gd p) (yN p):=by
 apply zC
 .exact(dm (j5 p.1 p.2)).symm
 .exact(dm (dj p.1 p.2)).symm
def JH (h:p≠(0,0)):Int.gcd (yN p).1 (yN p).2=1:=by have g0:=vX h;unfold gd at g0;exact Int.gcd_ediv_gcd_ediv_gcd (by lia)
def cS (h:p≠(0,0))(b:Bx n p):Bx n (yN p):=by
 have g0:=vX h;have e:=gX h;have k:∀ {a c g:Int},a=g*c->0<g->(-n<=a/\a<=n)->-n<=c/\c<=n:=λ {a c g} e hg hb=>by
  by_cases z:0<=c
  .have:1*c<=g*c:=zj (by lia) z;lia
  .have:g*c<=1*c:=Int.mul_le_mul_of_nonpos_right (by lia) (by lia);lia
 exact⟨k (zg Prod.fst e) g0 b.1,k (zg Prod.snd e) g0 b.2⟩
def dW (h:0<cr u v):u≠(0,0)/\v≠(0,0):=by constructor<;>intro z<;>rw[z] at h<;>simp[cr] at h
def JG (h:0<cr u v):cr u v=gd u*(gd v*cr (yN u) (yN v))/\0<cr (yN u) (yN v):=by
 obtain⟨hu,hv⟩:=dW h;have e:cr u v=gd u*(gd v*cr (yN u) (yN v)):=by
  conv=>lhs;rw[gX hu,gX hv]
  rw[gU,vx]
 refine⟨e,?_⟩;have a:=vX hu;have b:=vX hv;rw[e] at h;exact J6 (J6 h a) b
def HB {g a:Int}(h:0<g):0<=g*a↔0<=a:=by
 constructor
 .intro z;refine aH.mp λc=>?_;have:=jw h c;lia
 .exact λz=>BQ (yl h) z
def fJ {u v x:D2}(h:0<cr u v):InC (yN u) (yN v) x↔InC u v x:=by obtain⟨hu,hv⟩:=dW h;unfold InC;have e1:cr u x=gd u*cr (yN u) x:=(zg (λy=>cr y x) (gX hu)).trans (gU _ _ _);have e2:cr x v=gd v*cr x (yN v):=(zg (λy=>cr x y) (gX hv)).trans (vx _ _ _);rw[e1,e2,HB (vX hu),HB (vX hv)]
def inS (u v x:D2):Bool:=decide (((0<=cr x v/\cr x v<=cr u v)/\0<=cr u x/\cr u x<=cr u v)/\x≠(0,0))
def mT.parts (h:0<cr f l)(L:mT f l x):cr x l<=cr f l/\cr f x<=cr f l:=by
 obtain⟨⟨⟨c1,c2⟩,nz⟩,hs⟩:=L;obtain⟨nf,nl⟩:=dW h;have e:∀a b:D2,a=ad b (sb a b):=λa b=>by apply zC<;>simp only[ad,sb]<;>lia
 constructor
 .refine aH.mp λz=>hs f (sb x f) ⟨by rw[uj];lia,by lia⟩ ⟨by rw[dX,uj];lia,by rw[gS];lia⟩ nf (λw=>?_) (e x f);have:cr (sb x f) l=0:=by rw[w];simp[cr]
  rw[gS] at this;lia
 .refine aH.mp λz=>hs l (sb x l) ⟨by lia,by rw[uj];lia⟩ ⟨by rw[dX];lia,by rw[gS,uj];lia⟩ nl (λw=>?_) (e x l);have:cr f (sb x l)=0:=by rw[w];simp[cr]
  rw[dX] at this;lia
def rZ (h:inS u v x=true):InC u v x/\x≠(0,0):=by have h:=yU h;exact⟨⟨h.1.2.1,h.1.1.1⟩,h.2⟩
def Nf (h:0<cr u v):(inS u v x=true/\∀p,inS u v p=true->inS u v (sb x p)=true->False)↔mT (yN u) (yN v) x:=by
 obtain⟨eD,hD⟩:=JG h;obtain⟨hu,hv⟩:=dW h;constructor
 .rintro⟨hx,hs⟩;refine⟨⟨(fJ h).mpr (rZ hx).1,(rZ hx).2⟩,λy z hy hz ny nz e=>?_⟩;have hy:=(fJ h).mp hy;have hz:=(fJ h).mp hz;have hx:=yU hx;have ez:sb x y=z:=by rw[e];apply zC<;>simp only[ad,sb]<;>lia
  have e1:cr x v=cr y v+cr z v:=by rw[e,oi]
  have e2:cr u x=cr u y+cr u z:=by rw[e,gk]
  obtain⟨hy1,hy2⟩:=hy;obtain⟨hz1,hz2⟩:=hz;refine hs y (wF ⟨⟨⟨hy2,by lia⟩,hy1,by lia⟩,ny⟩) ?_;rw[ez];exact wF ⟨⟨⟨hz2,by lia⟩,hz1,by lia⟩,nz⟩
 .intro L;obtain⟨p1,p2⟩:=L.parts hD;have c:=(fJ h).mp L.1.1;have e1:cr x v=gd v*cr x (yN v):=(zg (λy=>cr x y) (gX hv)).trans (vx _ _ _);have e2:cr u x=gd u*cr (yN u) x:=(zg (λy=>cr y x) (gX hu)).trans (gU _ _ _);have gu:=vX hu;have gv:=vX hv;have b1:cr x v<=cr u v:=by rw[e1,eD];have a1:gd v*cr x (yN v)<=gd v*cr (yN u) (yN v):=wd p1 (by lia);have a2:=n6 (a:=gd v*cr (yN u) (yN v)) (b:=gd u) (BQ (by lia) (by lia)) (by lia);rw[vG _ (gd u)] at a2;lia
  have b2:cr u x<=cr u v:=by rw[e2,eD];have a1:gd u*cr (yN u) x<=gd u*cr (yN u) (yN v):=wd p2 (by lia);have a2:=n6 (a:=cr (yN u) (yN v)) (b:=gd v) (by lia) (by lia);rw[vG _ (gd v)] at a2;have a3:=wd a2 (show 0<=gd u by lia);lia
  refine⟨wF ⟨⟨⟨c.2,b1⟩,c.1,b2⟩,L.1.2⟩,λp hp hq=>?_⟩;have hp:=rZ hp;have hq:=rZ hq;refine L.2 p (sb x p) ((fJ h).mpr hp.1) ((fJ h).mpr hq.1) hp.2 hq.2 ?_;apply zC<;>simp only[ad,sb]<;>lia
structure vS (u v:D2)(h:List D2):Prop where
 chn:wa h
 l2:2<=h.length
 len:h.length<=100000
 fst:h[0]?=some (yN u)
 lst:h[h.length-1]?=some (yN v)
 bd:∀x∈h,Bx 1000 x
def vS.mem {u v x:D2}{h:List D2}(hD:0<cr u v)(B:vS u v h):x∈h↔(inS u v x=true/\∀p,inS u v p=true->inS u v (sb x p)=true->False):=by rw[Nf hD,<-B.chn.least B.l2 B.fst B.lst];exact List.mem_iff_getElem?
end Trn
namespace L2
open PySem Trn
def yV (p:D2):Tr:=drT p.1 p.2
def Ed (hn:n<=1000000)(hu:Bx n u)(hv:Bx n v):L4 u.1 u.2 v.1 v.2:=by unfold Bx at hu hv;unfold L4 L24;lia
def dQ (hn:n<=1000000)(hu:Bx n u):Bd u.1/\Bd u.2:=⟨qd (by unfold Bx at hu;lia),qd (by unfold Bx at hu;lia)⟩
def _root_.Trn.Bx.mono (h:Bx n u)(hm:n<=m):Bx m u:=by unfold Bx at *;lia
def m7 (hu:Bx n u)(hv:Bx n v):-(2*(n*n))<=cr u v/\cr u v<=2*(n*n):=by
 obtain⟨k,rfl⟩:∃k:Nat,n=(k:Int):=⟨n.toNat,by unfold Bx at hu;lia⟩
 have a:=n8 hu.1 hv.2;have b:=n8 hu.2 hv.1;rw[Int.natCast_mul] at a b;unfold cr;lia
def QZ:yb:=λts KK=>∃p:D2,ts=[yV p]/\p≠(0,0)/\Bx 1000 p/\KK (yV (yN p))
def QE:yb:=λts KK=>∃a b:Int,ts=[.int a,.int b]/\((-200<=a/\a<=200)/\-200<=b/\b<=200)/\Int.gcd a b=1/\∀p q:Int,a*p+b*q=1->Bk 1700 p->Bk 1700 q->KK (.tup [.int p,.int q])
def QI:yb:=λts KK=>∃f l:D2,ts=[yV f,yV l]/\Bx 200 f/\Bx 200 l/\Int.gcd f.1 f.2=1/\0<cr f l/\∀q:D2,cr f q=1->0<=cr q l->cr q l<cr f l->KK (yV q)
def QH:yb:=λts KK=>∃p q l:D2,ts=[yV p,yV q,yV l]/\(Bx 1000 p/\Bx 1000 q/\Bx 1000 l)/\0<cr q l/\KK (yV (sb (sc (-((-(cr p l)).fdiv (cr q l))) q) p))
def PU:yb:=λts KK=>∃u v:D2,ts=[yV u,yV v]/\Bx 200 u/\Bx 200 v/\0<cr u v/\∀h,vS u v h->KK (.lst (h.map yV))
def JB (p q:D2):zE (yV p) (yV q)=decide (p=q):=aA p q
def LZ (p q:D2):fj (yV p) (yV q):=⟨rfl,rfl,by show min 1 1<=64;decide⟩
def Fv {a b:Int}(hb:b≠0):(a.fmod b).natAbs<b.natAbs:=by
 rw[Int.fmod_eq_emod];have h1:=f_ a hb;have h2:=Int.emod_lt a hb;split
 .lia
 .rename_i c;have hn:¬0<=b:=λz=>c (.inl z);have:a%b≠0:=λz=>c (.inr (JY z));lia
def oX {a b:Int}(hb:b≠0):(a.fdiv b).natAbs<=a.natAbs+1:=by
 have e:=Int.mul_fdiv_add_fmod a b;have m:=Fv (a:=a) hb;have e2:(b*a.fdiv b).natAbs=b.natAbs*(a.fdiv b).natAbs:=u9 _ _;have e3:(b*a.fdiv b).natAbs<=a.natAbs+b.natAbs:=by lia
 rw[e2] at e3;refine Nat.not_lt.mp λz=>?_;have h1:b.natAbs*(a.natAbs+2)<=b.natAbs*(a.fdiv b).natAbs:=Nat.mul_le_mul_left _ (by lia);have h2:1*a.natAbs<=b.natAbs*a.natAbs:=Cf _ (by lia);rw[Nat.mul_add] at h1;lia
def fmod_eq (a b:Int):a-a.fdiv b*b=a.fmod b:=by have e:=Int.mul_fdiv_add_fmod a b;rw[vG] at e;lia
def Ms (a b:Int):Int.gcd b (a.fmod b)=Int.gcd a b:=by
 rw[<-fmod_eq,Int.gcd_comm a b];apply Nat.dvd_antisymm
 .refine Int.dvd_gcd (j5 _ _) ?_;have h1:=j5 b (a-a.fdiv b*b);have h2:=dj b (a-a.fdiv b*b);have:=Int.dvd_add h2 (Int.dvd_mul_of_dvd_right (b:=a.fdiv b) h1);rwa [show a-a.fdiv b*b+a.fdiv b*b=a by lia] at this
 .exact Int.dvd_gcd (j5 _ _) (Int.dvd_sub (dj _ _) (Int.dvd_mul_of_dvd_right (j5 _ _)))
def KQ (ts:List α)(x y:α):atT (ts++[x,y]) (-2)=some x:=by
 show(if 1<(ts++[x,y]).length then getT (ts++[x,y]) ((ts++[x,y]).length-1-1) else none)=_;have e:(ts++[x,y]).length=ts.length+2:=by simp
 rw[e,xJ (by lia),rW,show ts.length+2-1-1=ts.length by lia];simp
def xZ (xa:List Pol.R3)(i:Nat):Pol.R3:=xa.getD i (0,0,0)
def xh (xa:List Pol.R3)(i:Nat):D2:=((xZ xa i).1,(xZ xa i).2.1)
def aj (h:i<xa.length):xa[i]?=some (xZ xa i):=by unfold xZ;rw[jz,yC h];rfl
def gP (h:i<xa.length):xZ xa i∈xa:=zq (aj h)
def w4 (xa:List Pol.R3)(n:Nat)(acc:Option Nat)(o:Nat):Option Nat:=if 0<cr (xh xa n) (xh xa o) then(match acc with|none=>some o|some m=>if 0<cr (xh xa o) (xh xa m) then some o else some m) else acc
def fL (xa:List Pol.R3)(nums:List Nat)(n:Nat):Option Nat:=nums.foldl (w4 xa n) none
theorem bc:∀(nums:List Nat) (acc:Option Nat),(∀m,acc=some m->0<cr (xh xa n) (xh xa m))->
  (∀m,nums.foldl (w4 xa n) acc=some m->0<cr (xh xa n) (xh xa m)/\(m∈nums\/acc=some m))/\((acc≠none\/∃o∈nums,0<cr (xh xa n) (xh xa o))->nums.foldl (w4 xa n) acc≠none)
 |[],acc,h=>⟨λm e=>⟨h m e,.inr e⟩,λz=>z.elim id λ⟨o,ho,_⟩=>absurd ho (by simp)⟩
 |o::nums,acc,h=>by
  have h':∀m,w4 xa n acc o=some m->0<cr (xh xa n) (xh xa m)/\(m=o\/acc=some m):=λm e=>by
   unfold w4 at e;split at e
   .rename_i c;cases acc with
    |none=>cases e;exact⟨c,.inl rfl⟩
    |some k=>
     dsimp only at e;split at e
     .cases e;exact⟨c,.inl rfl⟩
     .cases e;exact⟨h _ rfl,.inr rfl⟩
   .exact⟨h m e,.inr e⟩
  obtain⟨g1,g2⟩:=bc nums (w4 xa n acc o) λm e=>(h' m e).1;refine⟨λm e=>?_,λz=>g2 ?_⟩
  .obtain⟨p,q⟩:=g1 m e;refine⟨p,?_⟩;rcases q with q|q
   .exact .inl (yI _ q)
   .rcases(h' m q).2 with r|r
    .exact .inl (by rw[r];exact xU)
    .exact .inr r
  .have keep:acc≠none->w4 xa n acc o≠none:=λa=>by
    unfold w4;split
    .cases acc with
     |none=>exact absurd rfl a
     |some k=>dsimp only;split<;>exact λz=>nomatch z
    .exact a
   rcases z with z|⟨o',ho,c⟩
   .exact .inl (keep z)
   .rcases xX.mp ho with rfl|ho
    .left;unfold w4;rw[xJ c];cases acc with
     |none=>exact λz=>nomatch z
     |some k=>dsimp only;split<;>exact λz=>nomatch z
    .exact .inr ⟨o',ho,c⟩
def u6 (xa:List Pol.R3)(nums:List Nat):List (Nat×Nat):=nums.filterMap λn=>(fL xa nums n).map λm=>(n,m)
theorem ay (h:ij∈u6 xa nums):ij.1∈nums/\ij.2∈nums/\0<cr (xh xa ij.1) (xh xa ij.2):=by
 obtain⟨n,hn,e⟩:=B8.mp h;cases q:fL xa nums n with
 |none=>rw[q] at e;cases e
 |some m=>rw[q] at e;cases e;obtain⟨p,r⟩:=(bc (xa:=xa) (n:=n) nums none (λm e=>nomatch e)).1 m q;exact⟨hn,r.resolve_right (λz=>nomatch z),p⟩
def gY (n i j:Nat)(p q:Int):List Int:=((List.replicate n (0:Int)).set i p).set j q
def wtw (n i j:Nat)(p q T:Int):List F2:=(gY n i j p q).map λm=>lfr m T
def lin (k:Pol.R3->Int)(xa:List Pol.R3)(ns:List Int):Int:=((xa.zip ns).map λx=>x.2*k x.1).sum
theorem lA (k:Pol.R3->Int):∀(xa:List Pol.R3) (n:Nat),lin k xa (List.replicate n 0)=0
 |[],n=>by simp[lin]
 |r::xa,0=>by simp[lin]
 |r::xa,n+1=>by
  have:=lA k xa n;unfold lin at *
  simp only[ff,dD,qa,Ca];lia
theorem nX (k:Pol.R3->Int):∀(xa:List Pol.R3) (ns:List Int) (i:Nat) (p:Int),i<ns.length->i<xa.length->lin k xa (ns.set i p)=lin k xa ns+(p-ns.getD i 0)*k (xZ xa i)
 |[],_,_,_,_,h=>by simp at h
 |_::_,[],_,_,h,_=>by simp at h
 |r::xa,m::ns,0,p,_,_=>by simp only[lin,List.set_cons_zero,dD,qa,Ca,xZ,List.getD_cons_zero];rw[Int.sub_mul];lia
 |r::xa,m::ns,i+1,p,h1,h2=>by
  have:=nX k xa ns i p (by simpa using h1) (by simpa using h2);simp only[lin,List.set_cons_succ,dD,qa,Ca,xZ,List.getD_cons_succ] at *
  lia
def Nq (k:Pol.R3->Int)(p q:Int)(hi:i<xa.length)(hj:j<xa.length)(ne:i≠j):lin k xa (gY xa.length i j p q)=p*k (xZ xa i)+q*k (xZ xa j):=by
 unfold gY;rw[nX k xa _ j q (by simp;lia) hj,nX k xa _ i p (by simp;lia) hi,lA];have e1:(List.replicate xa.length (0:Int)).getD i 0=0:=by rw[jz,BX,xJ hi];rfl
 have e2:((List.replicate xa.length (0:Int)).set i p).getD j 0=0:=by rw[jz,aO ne,BX,xJ hj];rfl
 rw[e1,e2,BU,BU];lia
def SO (hT:0<T):Sd (lfr m T) m T:=by rw[qP hT];exact tY hT
def SQ (h:Sd w n D):Sd (wL w (r,1)) (n*r) D:=by
 refine Sd.lfr (by have:=h.pf;show 0<w.2*1;lia) h.pd ?_ rfl;have:=h.e;show w.1*r*D=n*r*(w.2*1)
 grind
def IU (k:Pol.R3->Int)(hT:0<T)(xa:List Pol.R3)(ns:List Int):Sd (wsum k (xa.zip (ns.map λm=>lfr m T))) (lin k xa ns) T:=by
 have go:∀(xa:List Pol.R3) (ns:List Int) (f:F2) (N:Int),Sd f N T->Sd ((xa.zip (ns.map λm=>lfr m T)).foldl (qX k) f) (N+lin k xa ns) T:=λxa=>by
  induction xa with
  |nil=>intro ns f N h;simpa [lin] using h
  |cons r xa ih=>
   intro ns f N h;cases ns with
   |nil=>simpa [lin] using h
   |cons m ns=>
    have:=ih ns (qX k f (r,lfr m T)) (N+m*k r) (h.plusD (SQ (SO hT)));rw[qa,dD,qA];have e:N+lin k (r::xa) (m::ns)=N+m*k r+lin k xa ns:=by simp only[lin,dD,qa,Ca];lia
    rw[e];exact this
 have:=go xa ns (0,1) 0 ⟨by decide,hT,by show(0:Int)*T=0*1;lia⟩;rw[pq] at this;exact this
def Sd.floor (h:Sd f N D):f.1/f.2=N/D:=by have e:=h.e;have a:f.1/f.2=(f.1*D)/(f.2*D):=(BO f.1 f.2 h.pd).symm;rw[a,e,vG f.2 D];exact BO N D h.pf
def Ey (n:Int):Cop (n,1):=⟨by show(0:Int)<1;decide,by show Int.gcd n 1=1;simp⟩
end L2
namespace L2
open PySem PySem.Spec PyProof.Rows
open Builtin.SmallTypes (nextOf)
section
variable {prog:Program} {w:World} {A:Around} {E:Value->Shared->Prop} {s:Shared} {z ti to i1 i2 i3 a1 a2 a3:Addr} {vs us ws:List Value} {t1 t2 t3:Nat->Heap->Prop} {s1 s2 s3:Heap->Prop}
end
end L2
namespace L2
open PySem PySem.Spec PyProof.Rows
section
variable {prog:Program} {w:World} {A:Around} {E:Value->Shared->Prop} {s:Shared}
end
section
variable {P:Program} {w:World} {K:xw} {z ti to i1 i2 i3 a1 a2 a3:Addr} {b c' e':Bool}
end
section
variable {X:Cx}
end
section
variable {K:xw}
end
open Builtin.SmallTypes (nextOf)
section
variable {prog:Program} {w:World} {A:Around} {E:Value->Shared->Prop} {s:Shared} {z ti to i1 i2 a1 a2:Addr} {vs us:List Value} {t1 t2:Nat->Heap->Prop} {s1 s2:Heap->Prop}
end
section
variable {P:Program} {w:World} {K:xw} {z ti to i1 i2 a1 a2:Addr} {b c':Bool}
end
section
variable {X:Cx}
end
end L2
namespace L2
open PySem Trn
def Q7 (nz:x≠(0,0))(c:Trn.InC u v x):gH u.1 u.2 v.1 v.2 (yV x)=.tup [jN (cr x v) (cr u v),jN (cr u x) (cr u v)]:=by
 have e1:gH u.1 u.2 v.1 v.2 (yV x)=if x.1=0/\x.2=0 then .non else if tn x.1 x.2 v.1 v.2<0\/tn u.1 u.2 x.1 x.2<0 then .non else .tup [jN (tn x.1 x.2 v.1 v.2) (tn u.1 u.2 v.1 v.2),jN (tn u.1 u.2 x.1 x.2) (tn u.1 u.2 v.1 v.2)]:=rfl
 rw[e1,xG (λz=>nz (zC z.1 z.2)),xG]
 .rfl
 .have a:tn x.1 x.2 v.1 v.2=cr x v:=rfl;have b:tn u.1 u.2 x.1 x.2=cr u x:=rfl;rw[a,b];have:=c.1;have:=c.2;lia
def K5 (hn:n<=1000000)(hu:Bx n u):L24 u.1/\L24 u.2:=by unfold Bx at hu;unfold L24;lia
end L2
namespace L2
open PySem PySem.Spec PySem.Calls PyProof.Rows
section
variable {X:Cx} {xf:List (Addr×Obj)} {σ:St} {H H':Hp} {s s':Shared} {ea C:Addr}
end
end L2
namespace L2
open PySem PySem.Spec PyProof.Rows
section
variable {X:Cx} {a b:Expr} {rest:List Expr} {ta tb:TE} {pos:Pos}
end
section
variable {K:xw} {fr:Bool}
end
section
variable {P:Program} {w:World} {K:xw} {mg:Str->Option Value} {base:Heap} {k n:Nat} {x qual:Str} {st:Stmt} {f:Addr} {fd:FuncData} {N ps:List Str} {fr:Bool} {sp:yb}
end
end L2
namespace L2
open PySem
theorem wW.ws {xa:List Pol.R3}{ws:List F2}(hf:yD xa=true)(h:GW xa.length ws):WS xa ws:=⟨h.1.symm,(wW hf).1.2,λr hr=>jI ((wW hf).2.1 r hr).2,h.2⟩
def Qo:yb:=λts KK=>∃t,ts=[t]/\KK (.bl (sC t))
end L2
namespace Pol
def sw (p:R3):R3:=(p.2.1,p.1,p.2.2)
end Pol
namespace L2
open PySem PySem.Spec PyProof.Rows
structure PSd (p:P2)(v:Pol.R3):Prop where
 x:Sd p.1 v.1 v.2.2
 y:Sd p.2 v.2.1 v.2.2
def Rn (h:0<v.2.2):PSd (xt v) v:=⟨sdx h,sdy h⟩
def PSd.val (h:PSd p v)(r:Pol.R3):Sd (zc r p) (r.1*v.1+r.2.1*v.2.1) v.2.2:=by refine Sd.lfr (Pol.pp h.x.pf h.y.pf) h.x.pd ?_ rfl;have:=h.x.e;have:=h.y.e;grind
def mid (p q:P2)(f:F2):P2:=(uW (wL p.1 (fmin (1,1) f)) (wL q.1 f),uW (wL p.2 (fmin (1,1) f)) (wL q.2 f))
def KO {f:Pol.R3->Tr}{l:List Pol.R3}{i:Nat}{v:Pol.R3}(h:l[i]?=some v):∃u,u∈l/\(yX l)[i]?=some (u,v)/\atT (l.map f) ((i:Int)-1)=some (f u):=by
 obtain⟨u,hu,hc,hw⟩:=EI h;refine⟨u,hu,hc,?_⟩;rcases hw with ⟨rfl,ys,e⟩|⟨h0,e⟩
 .rw[e,wD];exact rz (ys.map f) (f u)
 .rw[show((i:Int)-1)=((i-1:Nat):Int) by lia,jF,ue,e];rfl
def Fu {f g h:F2}(pf:0<f.2)(pg:0<g.2)(ph:0<h.2)(h1:f.1*g.2<=g.1*f.2)(h2:g.1*h.2<=h.1*g.2):f.1*h.2<=h.1*f.2:=by
 have e1:(f.1*g.2)*h.2<=(g.1*f.2)*h.2:=zj h1 (by lia);have e2:(g.1*h.2)*f.2<=(h.1*g.2)*f.2:=zj h2 (by lia);have e3:(f.1*h.2)*g.2<=(h.1*f.2)*g.2:=by
  have:(f.1*g.2)*h.2=(f.1*h.2)*g.2:=by grind
  have:(g.1*f.2)*h.2=(g.1*h.2)*f.2:=by grind
  have:(h.1*g.2)*f.2=(h.1*f.2)*g.2:=by grind
  lia
 exact j6 e3 pg
theorem Fo {a b:Int}{best:Option F2}{p:P2}:∃h,jH a b best p=some h/\(zc (a,b,0) p).1*h.2<=h.1*(zc (a,b,0) p).2/\∀g,best=some g->g.1*h.2<=h.1*g.2:=by
 cases best with
 |none=>exact⟨_,rfl,wB _,λg z=>nomatch z⟩
 |some f=>
  cases d:uk f (zc (a,b,0) p) with
  |true=>refine⟨_,Md d,wB _,λg z=>?_⟩;cases z;have:=yU d;lia
  |false=>
   refine⟨_,Mc d,?_,λg z=>?_⟩
   .have:=zZ d;lia
   .cases z;exact wB _
theorem Me {a b:Int}(ps:List P2)(hp:∀p∈ps,0<p.1.2/\0<p.2.2):∀(best:Option F2) (f:F2),(∀g,best=some g->0<g.2)->ps.foldl (jH a b) best=some f->(∀g,best=some g->g.1*f.2<=f.1*g.2)/\∀p∈ps,(zc (a,b,0) p).1*f.2<=f.1*(zc (a,b,0) p).2:=by
 induction ps with
 |nil=>intro best f hb h;refine⟨λg hg=>?_,λp hp=>by simp at hp⟩;have h:best=some f:=h;rw[h] at hg;cases hg;exact wB _
 |cons p ps ih=>
  intro best f hb h;obtain⟨s,hs,h1,h2⟩:=Fo (a:=a) (b:=b) (best:=best) (p:=p);rw[qA,hs] at h;have pp:=FF (a:=a) (b:=b) (c:=0) (hp p xU);have sp:0<s.2:=by
   rcases Fp hs with q|q
   .exact hb s q
   .rw[q];exact pp
  have fp:0<f.2:=by
   rcases Fq ps (some s) h with q|⟨p',hm,e⟩
   .cases q;exact sp
   .rw[e];exact FF (hp p' (yI _ hm))
  obtain⟨k1,k2⟩:=ih (λq hq=>hp q (yI _ hq)) (some s) f (λg hg=>by cases hg;exact sp) h;have k1:=k1 s rfl;refine⟨λg hg=>Fu (hb g hg) sp fp (h2 g hg) k1,λq hq=>?_⟩;rcases xX.mp hq with e|hq
  .rw[e];exact Fu pp sp fp h1 k1
  .exact k2 q hq
def Mn (h:0<v.2.2):fH r (xt v)=true↔val r v=0:=by unfold fH;rw[qE];have s:=(Rn h).val r;have e:=s.eq (IT (f:=(r.2.2,1)) (by show(0:Int)<1;decide));simp only[g6] at e;rw[e];unfold val;lia
section
variable {xa:List Pol.R3} (FR:zm xa) {r v:Pol.R3} (hr:r∈xa) (hv:v∈xS xa) (ht:fH r (xt v)=true)
include FR hr
include hv ht
end
end L2
namespace L2
open PySem Trn
abbrev SX:=(Nat×Nat)×D2
def uP (xa:List Pol.R3)(x:SX):List F2:=wtw xa.length x.1.1 x.1.2 (cr x.2 (xh xa x.1.2)) (cr (xh xa x.1.1) x.2) (cr (xh xa x.1.1) (xh xa x.1.2))
def zL (xa:List Pol.R3)(x:SX):Pol.R3:=((wsum k0 (xa.zip (uP xa x))).1,(wsum k1 (xa.zip (uP xa x))).1,(wsum k2 (xa.zip (uP xa x))).1.fdiv (wsum k2 (xa.zip (uP xa x))).2)
def qT (xa:List Pol.R3)(x:SX):Tr:=.tup [wsT (uP xa x),xg (zL xa x)]
structure wg (xa:List Pol.R3)(x:SX):Prop where
 i1:x.1.1<xa.length
 i2:x.1.2<xa.length
 pos:0<cr (xh xa x.1.1) (xh xa x.1.2)
 inc:Trn.InC (xh xa x.1.1) (xh xa x.1.2) x.2
 nz:x.2≠(0,0)
 bx:Bx 1000 x.2
def kU (hf:yD xa=true)(h:i<xa.length):Bx 30 (xh xa i):=by obtain⟨⟨a,b⟩,_⟩:=((wW hf).2.1 _ (gP h)).2;exact⟨a,b⟩
def wg.ne (G:wg xa x):x.1.1≠x.1.2:=λe=>by have:=G.pos;rw[e,uj] at this;lia
def TY (h:m∈gY n i j p q):m=0\/m=p\/m=q:=by
 unfold gY at h;rcases Kd h with h|h
 .rcases Kd h with h|h
  .exact .inl (List.mem_replicate.mp h).2
  .exact .inr (.inl h)
 .exact .inr (.inr h)
def oF (hu:Bx 30 u)(hv:Bx 1000 v):-60000<=cr u v/\cr u v<=60000:=by
 have go:∀ {a b:Int},(-30<=a/\a<=30)->(-1000<=b/\b<=1000)->-30000<=a*b/\a*b<=30000:=λ {a b} ha hb=>by
  have h1:(a*b).natAbs<=30*1000:=by rw[u9];exact Ce (by lia) (by lia)
  lia
 have:=go hu.1 hv.2;have:=go hu.2 hv.1;unfold cr;lia
def wg.sm (hf:yD xa=true)(G:wg xa x):(cr x.2 (xh xa x.1.2)<=60000/\cr (xh xa x.1.1) x.2<=60000)/\cr (xh xa x.1.1) (xh xa x.1.2)<=60000:=by have a:=oF (kU hf G.i2) G.bx;have b:=oF (kU hf G.i1) G.bx;have c:=oF (kU hf G.i1) ((kU hf G.i2).mono (by decide));rw[kE] at a;lia
def wg.gw (hf:yD xa=true)(G:wg xa x):GW xa.length (uP xa x):=by refine⟨by simp[uP,wtw,gY],λw hw=>?_⟩;obtain⟨m,hm,rfl⟩:=zT.mp hw;have S:=G.sm hf;have p:=G.pos;have i:=G.inc;refine T9 ?_ (by lia);unfold Trn.InC at i;rcases TY hm with rfl|rfl|rfl<;>lia
def wg.lin (G:wg xa x)(k:Pol.R3->Int):Sd (wsum k (xa.zip (uP xa x))) (cr x.2 (xh xa x.1.2)*k (xZ xa x.1.1)+cr (xh xa x.1.1) x.2*k (xZ xa x.1.2)) (cr (xh xa x.1.1) (xh xa x.1.2)):=by have:=IU k G.pos xa (gY xa.length x.1.1 x.1.2 (cr x.2 (xh xa x.1.2)) (cr (xh xa x.1.1) x.2));rw[Nq k _ _ G.i1 G.i2 G.ne] at this;exact this
def Bp (h:Sd f (n*T) T)(c:Cop f):f=(n,1):=by have a:=h.low c;have b:=(⟨Int.zero_lt_one,h.pd,by show n*T=n*T*1;lia⟩:Sd (n,1) (n*T) T).low (Ey n);rw[<-a,b]
def wg.pos2 (hf:yD xa=true)(G:wg xa x):∀y∈xa.zip (uP xa x),0<y.2.2:=λy hy=>((G.gw hf).2 _ (mB hy).2).pos
def wg.a (hf:yD xa=true)(G:wg xa x):wsum k0 (xa.zip (uP xa x))=(x.2.1,1):=by refine Bp (T:=cr (xh xa x.1.1) (xh xa x.1.2)) ?_ (nq _ _ (G.pos2 hf));have:=G.lin k0;have e:=(fw (xh xa x.1.1) (xh xa x.1.2) x.2).1;rw[e];exact this
def wg.b {xa:List Pol.R3}{x:SX}(hf:yD xa=true)(G:wg xa x):wsum k1 (xa.zip (uP xa x))=(x.2.2,1):=by refine Bp (T:=cr (xh xa x.1.1) (xh xa x.1.2)) ?_ (nq _ _ (G.pos2 hf));have:=G.lin k1;have e:=(fw (xh xa x.1.1) (xh xa x.1.2) x.2).2;rw[e];exact this
def wg.cut (hf:yD xa=true)(G:wg xa x):qg (wsum k0 (xa.zip (uP xa x))) (wsum k1 (xa.zip (uP xa x))):=by rw[G.a hf,G.b hf];exact⟨rfl,rfl,λz=>G.nz (zC z.1 z.2)⟩
structure hV (xa:List Pol.R3)(S:List (Nat×Nat))(L:List SX):Prop where
 good:∀x∈L,x.1∈S/\wg xa x
 all:∀ij∈S,∃h,vS (xh xa ij.1) (xh xa ij.2) h/\∀d∈h,(ij,d)∈L
 len:L.length<=S.length*100000
def FO (hi:i<xa.length)(hj:j<xa.length)(hp:0<cr (xh xa i) (xh xa j))(B:vS (xh xa i) (xh xa j) h)(hd:d∈h):wg xa ((i,j),d):=by have c:=rZ ((B.mem hp).mp hd).1;exact⟨hi,hj,hp,c.1,c.2,B.bd d hd⟩
def js (hz:0<v.2.2):i∈uE xa (xt v)↔i<xa.length/\val (xZ xa i) v=0:=by unfold uE;rw[uR,fc];exact and_congr_right λ_=>Mn hz
def BB (h:i∈uE xa p):i<xa.length:=fc.mp (uR.mp h).1
def gc {xa:List Pol.R3}{i:Nat}(h:i<xa.length):atT (xa.map xg) (i:Int)=some (xg (xZ xa i)):=by rw[jF,ue,aj h];rfl
def wW.bd {xa:List Pol.R3}(hf:yD xa=true){i:Nat}(h:i<xa.length):Bd (xZ xa i).1/\Bd (xZ xa i).2.1:=dQ (n:=30) (by decide) (kU hf h)
def JE:(uE xa p).length<=xa.length:=by have:=B2 (λi=>fH (xa.getD i (0,0,0)) p) (List.range xa.length);rw[B4] at this;exact this
def SW:(u6 xa nums).length<=nums.length:=List.length_filterMap_le _ _
def SY {xa:List Pol.R3}{nums:List Nat}{i n:Nat}(h:nums[i]?=some n)(F:Nat->Option (Nat×Nat)):(nums.take (i+1)).filterMap F=(nums.take i).filterMap F++(F n).toList:=by rw[vI,h,List.filterMap_append];cases e:F n<;>simp[e]
def wW.b200 {xa:List Pol.R3}(hf:yD xa=true):∀r∈xa,yL 200 r:=λr hr=>(jI ((wW hf).2.1 r hr).2).mono (by decide)
def Np (h:0<T):lfr 0 T=(0,1):=(⟨Int.zero_lt_one,h,by show(0:Int)*T=0*1;lia⟩:Sd (0,1) 0 T).low (Ey 0)
def T_ (h:0<T):wtw n i j p q T=((List.replicate n ((0:Int),(1:Int))).set i (lfr p T)).set j (lfr q T):=by unfold wtw gY;rw[B6,B6,B5,Np h]
def hV.snoc (P:hV xa A L)(hi:i<xa.length)(hj:j<xa.length)(hp:0<cr (xh xa i) (xh xa j))(B:vS (xh xa i) (xh xa j) h):hV xa (A++[(i,j)]) (L++h.map λd=>((i,j),d)) where
 good:=λx hx=>by
  rcases yz.mp hx with hx|hx
  .exact⟨zf _ (P.good x hx).1,(P.good x hx).2⟩
  .obtain⟨d,hd,rfl⟩:=zT.mp hx;exact⟨wZ _ xU,FO hi hj hp B hd⟩
 all:=λij hij=>by
  rcases yz.mp hij with hij|hij
  .obtain⟨h',B',m'⟩:=P.all ij hij;exact⟨h',B',λd hd=>zf _ (m' d hd)⟩
  .rw[zF.mp hij];exact⟨h,B,λd hd=>wZ _ (zT.mpr ⟨d,hd,rfl⟩)⟩
 len:=by have:=P.len;have:=B.len;simp only[ze,xP,wC,hG];lia
def E3 {KK:xV->Prop}(h:d t τ λτ'=>r us τ' KK):jf d r (t::us) τ KK:=h
def Wt.isFr (h:Wt w):sC (fT w)=true:=by show(decide (1<=w.2)&&decide (Int.gcd w.1 w.2=1))=true;rw[wF (show 1<=w.2 by have:=h.pos;lia),wF h.cop];rfl
def v9 (ij:Nat×Nat):Tr:=.tup [uq ij.1,uq ij.2]
def optN:Option Nat->Tr
 |none=>.non
 |some m=>uq m
def QJ:yb:=λts KK=>∃(xa:List Pol.R3) (nums:List Nat) (n:Nat),ts=[.tup (xa.map xg),.tup (nums.map uq),uq n]/\yD xa=true/\(∀m∈nums,m<xa.length)/\n<xa.length/\KK (optN (fL xa nums n))
def QS:yb:=λts KK=>∃(xa:List Pol.R3) (nums:List Nat),ts=[.tup (xa.map xg),.tup (nums.map uq)]/\yD xa=true/\(∀m∈nums,m<xa.length)/\nums.length<=1000/\KK (.lst ((u6 xa nums).map v9))
def QT:yb:=λts KK=>∃(xa:List Pol.R3) (p:P2),ts=[.tup (xa.map xg),pT p]/\yD xa=true/\Pk 600 p/\KK (.lst ((u6 xa (uE xa p)).map v9))
def P6:yb:=λts KK=>∃(a b:Int) (x:List Tr),ts=[.tup (.int a::.int b::x)]/\KK (drT a b)
def Q2:yb:=λts KK=>∃(xa:List Pol.R3) (x:SX),ts=[.tup (xa.map xg),v9 x.1,yV x.2]/\yD xa=true/\wg xa x/\KK (wsT (uP xa x))
def QL:yb:=λts KK=>∃(xa:List Pol.R3) (ws:List F2),ts=[.tup (xa.map xg),wsT ws]/\WS xa ws/\qg (wsum k0 (xa.zip ws)) (wsum k1 (xa.zip ws))/\KK (.tup [wsT ws,vy (xa.zip ws)])
end L2
namespace Pol
theorem GL:∀l:List R3,l≠[]->(∀r∈l,0<turn r d)->∃i∈l,∀r∈l,turn i r<=0
 |[],h,_=>absurd rfl h
 |x::l,_,h=>by
  by_cases e:l=[]
  .subst e;exact⟨x,xU,λr hr=>by rw[zF.mp hr];simp only[turn];grind⟩
  obtain⟨i,hi,hm⟩:=GL l e λr hr=>h r (yI _ hr);have self:turn x x<=0:=by simp only[turn];grind
  by_cases c:turn i x<=0
  .exact⟨i,yI _ hi,λr hr=>(xX.mp hr).elim (λz=>by rw[z];exact c) (hm r)⟩
  .refine⟨x,xU,λr hr=>(xX.mp hr).elim (λz=>by rw[z];exact self) λhr=>?_⟩;have p:=plk i x r d;have hx:=h x xU;have hi':=h i (yI _ hi);have hr':=h r (yI _ hr);have a:0<=turn i x*turn r d:=pz (by lia) (by lia);have b:0<=-turn i r*turn x d:=pz (by have:=hm r hr;lia) (by lia);rw[qZ] at b;exact HC hi' (by lia)
def Mh (gr:GR xa)(d0:d.1≠0\/d.2.1≠0)(hd:∀r∈xa,turn r d≠0)(r0:∀r∈xa,r.1≠0\/r.2.1≠0):∃i∈xa,∃j∈xa,0<turn i j/\0<turn i d/\0<turn d j:=by
 obtain⟨x,hx,px⟩:=gr d.2.1 (-d.1) (by lia);have ex:0<turn x d:=by simp only[turn];rw[qY] at px;lia
 obtain⟨i,hi,hm⟩:=GL (d:=d) (xa.filter λr=>decide (0<turn r d)) (λz=>by have:x∈xa.filter λr=>decide (0<turn r d):=uR.mpr ⟨hx,wF ex⟩;rw[z] at this;simp at this) λr hr=>yU (uR.mp hr).2;obtain⟨hi,pi⟩:=uR.mp hi;have pi:=yU pi;obtain⟨j,hj,pj⟩:=gr (-i.2.1) i.1 (by have:=r0 i hi;lia);have ej:0<turn i j:=by simp only[turn];rw[qY,vG j.1,vG j.2.1] at pj;lia
 refine⟨i,hi,j,hj,ej,pi,?_⟩;have n:=hd j hj;have a:=dO d j;rcases y4 0 (turn j d) with c|c
 .have:=hm j (uR.mpr ⟨hj,wF c⟩);lia
 .lia
theorem GK (N T:α->Int):∀l:List α,l≠[]->(∀x∈l,0<T x)->∃m∈l,∀x∈l,N m*T x<=N x*T m
 |[],h,_=>absurd rfl h
 |x::l,_,h=>by
  by_cases e:l=[]
  .subst e;exact⟨x,xU,λr hr=>by rw[zF.mp hr];exact wB _⟩
  obtain⟨m,hm,hl⟩:=GK N T l e λr hr=>h r (yI _ hr);by_cases c:N m*T x<=N x*T m
  .exact⟨m,yI _ hm,λr hr=>(xX.mp hr).elim (λz=>by rw[z];exact c) (hl r)⟩
  .refine⟨x,xU,λr hr=>(xX.mp hr).elim (λz=>by rw[z];exact wB _) λhr=>?_⟩;have tx:=h x xU;have tm:=h m (yI _ hm);have tr:=h r (yI _ hr);have a:=hl r hr;have b:N x*T m*T r<=N m*T x*T r:=zj (by lia) (by lia);have c':N m*T r*T x<=N r*T m*T x:=zj a (by lia);refine j6 (a:=T m) ?_ tm;have e1:N x*T m*T r=N x*T r*T m:=by grind
   have e2:N m*T x*T r=N m*T r*T x:=by grind
   have e3:N r*T m*T x=N r*T x*T m:=by grind
   lia
def dN (d i j:R3):Int:=turn d j*i.2.2+turn i d*j.2.2
def oH (h:0<turn i j):zI i j=(i.2.2*j.2.1-i.2.1*j.2.2,i.1*j.2.2-i.2.2*j.1,turn i j):=by unfold zI;rw[xG (by lia)]
def Rg (h:0<turn i j):dN d i j*turn k j-dN d k j*turn i j=turn d j*val k (zI i j):=by rw[oH h];simp only[dN,turn,val];grind
def Rh (h:0<turn i j):dN d i j*turn i k-dN d i k*turn i j=turn i d*val k (zI i j):=by rw[oH h];simp only[dN,turn,val];grind
def NL (h:0<turn i j):turn i j*val k w=turn k j*val i w+turn i k*val j w+w.2.2*val k (zI i j):=by rw[oH h];simp only[turn,val];grind
def KZ (gr:GR xa)(d0:d.1≠0\/d.2.1≠0)(hd:∀r∈xa,turn r d≠0)(r0:∀r∈xa,r.1≠0\/r.2.1≠0)(hw:0<w.2.2)(kw:∀r∈xa,val r w<=0):∃i∈xa,∃j∈xa,(0<turn i j/\0<turn i d/\0<turn d j)/\∀r∈xa,val r (zI i j)<=0:=by
 obtain⟨i,hi,j,hj,hp⟩:=Mh gr d0 hd r0
 let P:=(xa.flatMap λi=>xa.map λj=>(i,j)).filter λp=>decide (0<turn p.1 p.2/\0<turn p.1 d/\0<turn d p.2)
 have mP:∀p:R3×R3,p∈P↔(p.1∈xa/\p.2∈xa)/\(0<turn p.1 p.2/\0<turn p.1 d/\0<turn d p.2):=λp=>by
  show p∈List.filter _ _↔_;rw[uR,qE,List.mem_flatMap];refine and_congr_left λ_=>⟨λ⟨a,ha,hm⟩=>?_,λ⟨a,b⟩=>⟨p.1,a,zT.mpr ⟨p.2,b,rfl⟩⟩⟩
  obtain⟨b,hb,rfl⟩:=zT.mp hm;exact⟨ha,hb⟩
 obtain⟨m,hm,hmin⟩:=GK (λp:R3×R3=>dN d p.1 p.2) (λp=>turn p.1 p.2) P (λz=>by have:=(mP (i,j)).mpr ⟨⟨hi,hj⟩,hp⟩;rw[z] at this;simp at this) λx hx=>((mP x).mp hx).2.1;obtain⟨⟨mi,mj⟩,t1,t2,t3⟩:=(mP m).mp hm;obtain⟨i,j⟩:=m;refine⟨i,mi,j,mj,⟨t1,t2,t3⟩,λk hk=>?_⟩;simp only at *
 refine fZ λno=>?_;have no:0<val k (zI i j):=by lia
 have id:turn k d*turn i j=turn k j*turn i d-turn i k*turn d j:=by simp only[turn];grind
 have nd:=hd k hk;have ad:=dO d k;have byJ:0<turn k j->0<turn k d->False:=λa b=>by
  have:=hmin (k,j) ((mP _).mpr ⟨⟨hk,mj⟩,a,b,t3⟩);have e:=Rg (d:=d) (k:=k) t1;have:=pp t3 no;simp only at *
  lia
 have byI:0<turn i k->turn k d<0->False:=λa b=>by
  have:=hmin (i,k) ((mP _).mpr ⟨⟨mi,hk⟩,a,t2,show 0<turn d k by lia⟩);have e:=Rh (d:=d) (k:=k) t1;have:=pp t2 no;simp only at *
  lia
 by_cases t:0<turn k j
 .rcases y4 0 (turn k d) with c|c
  .exact byJ t c
  .by_cases s:0<turn i k
   .exact byI s (by lia)
   .have a:=pp t t2;have b:0<=-turn i k*turn d j:=pz (by lia) (by lia);rw[qZ] at b;have:turn k d*turn i j<=0:=by have:=pz (a:=-turn k d) (b:=turn i j) (by lia) (by lia);rw[qZ] at this;lia
    lia
 .by_cases s:0<turn i k
  .refine byI s ?_;rcases y4 (turn k d) 0 with c|c
   .exact c
   .have a:=pp s t3;have b:0<=-turn k j*turn i d:=pz (by lia) (by lia);rw[qZ] at b;have:=pz (a:=turn k d) (b:=turn i j) (by lia) (by lia);lia
  .have e:=NL (k:=k) (w:=w) t1;have a:0<=turn k j*val i w:=nn (by lia) (kw i mi);have b:0<=turn i k*val j w:=nn (by lia) (kw j mj);have c:=pp hw no;have:=kw k hk;have:turn i j*val k w<=0:=by have:=pz (a:=turn i j) (b:=-val k w) (by lia) (by lia);rw[qY] at this;lia
   lia
theorem D4 (f:R3->Int):∀l:List R3,∃M:Int,0<M/\∀r∈l,f r<M/\-M<f r
 |[]=>⟨1,by decide,λr h=>by simp at h⟩
 |x::l=>by
  obtain⟨M,h0,h⟩:=D4 f l;refine⟨M+(f x).natAbs,by lia,λr hr=>?_⟩;rcases xX.mp hr with rfl|hr
  .lia
  .have:=h r hr;lia
def D3 (gr:GR xa)(d0:d.1≠0\/d.2.1≠0)(r0:∀r∈xa,r.1≠0\/r.2.1≠0)(hw:0<w.2.2)(kw:∀r∈xa,val r w<=0):∃i∈xa,∃j∈xa,(0<turn i j/\0<=turn i d/\0<=turn d j)/\∀r∈xa,val r (zI i j)<=0:=by
 obtain⟨M,h0,hM⟩:=D4 (λr=>dot r d) xa;have tr:∀r:R3,turn r (M*d.1-d.2.1,M*d.2.1+d.1,0)=M*turn r d+dot r d:=λr=>by simp only[turn,dot];grind
 have step:∀r∈xa,(0<M*turn r d+dot r d->0<=turn r d)/\(M*turn r d+dot r d<0->turn r d<=0):=λr hr=>by
  have b:=hM r hr;refine⟨λz=>?_,λz=>?_⟩
  .rcases y4 (turn r d) 0 with c|c
   .have:M*turn r d<=M*(-1):=wd (by lia) (by lia);lia
   .exact c
  .rcases y4 0 (turn r d) with c|c
   .have:M*1<=M*turn r d:=wd (by lia) (by lia);lia
   .exact c
 have nz:∀r∈xa,turn r (M*d.1-d.2.1,M*d.2.1+d.1,0)≠0:=λr hr z=>by
  rw[tr] at z;have b:=hM r hr;have t0:turn r d=0:=by
   rcases j7 (turn r d) 0 with c|c|c
   .have:M*turn r d<=M*(-1):=wd (by lia) (by lia);lia
   .exact c
   .have:M*1<=M*turn r d:=wd (by lia) (by lia);lia
  rw[t0,vH,pq] at z;have e:dot r r*dot d d=dot r d*dot r d+turn r d*turn r d:=by simp only[turn,dot];grind
  rw[z,t0] at e;have:=pp (rJ (r0 r hr)) (rJ d0);lia
 have d1:(M*d.1-d.2.1≠0\/M*d.2.1+d.1≠0):=by
  refine fZ λno=>?_;have e1:M*d.1=d.2.1:=by lia
  have e2:M*d.2.1 = -d.1:=by lia
  have:=rJ d0;have z:dot d d=0:=by
   have:dot d d=d.1*d.1+(M*d.1)*(M*d.1):=by unfold dot;rw[e1]
   have q:M*(M*d.1) = -d.1:=by rw[e1];exact e2
   have:(M*M+1)*d.1=0:=by grind
   rcases vp.mp this with y|y
   .have:=sq0 M;lia
   .unfold dot;rw[<-e1,y];simp
  lia
 obtain⟨i,hi,j,hj,⟨t1,t2,t3⟩,k⟩:=KZ (d:=(M*d.1-d.2.1,M*d.2.1+d.1,0)) gr d1 nz r0 hw kw;refine⟨i,hi,j,hj,⟨t1,(step i hi).1 (by rw[<-tr];exact t2),?_⟩,k⟩;have a:=dO j (M*d.1-d.2.1,M*d.2.1+d.1,0);rw[a,tr] at t3;have:=(step j hj).2 (by lia);have:=dO j d;lia
end Pol
namespace L2
open PySem PySem.Spec PyProof.Rows
abbrev two (elt t1 i1:Expr)(f1:List Expr)(t2 i2:Expr)(f2:List Expr)(sc:Scope)(pos:Pos):Expr:=.ListComp elt [⟨t1,i1,f1,0⟩,⟨t2,i2,f2,0⟩] sc pos
section
variable {prog:Program} {w:World} {A:Around} {R:Result->Shared->Prop} {s:Shared} {elt t1 i1 t2 i2:Expr} {f1 f2:List Expr} {sc:Scope} {pos:Pos} {it acc:Value} {env:Env}
end
abbrev lo (xm:List Value)(n:Nat):Obj:={cls:=.type "list", data:=.seq xm.toArray n}
section
variable {X:Cx} {sc:Scope} {N:List Str} {xQ tid:List (Option Nat)} {xf:List (Addr×Obj)} {σ:St} {H:Hp} {s:Shared}
end
section
variable {K:xw} {B:FB} {φ:y_} {σ:St} {τ:xV} {H H' H'':Hp} {fr:Bool}
end
end L2
namespace L2
open PySem Trn
def EB (n o m p:D2):cr n m*cr o p=cr n o*cr m p+cr n p*cr o m:=by unfold cr;grind
theorem GQ:∀(nums:List Nat) (acc:Option Nat) (P:Nat->Prop),(∀m,acc=some m->0<cr (xh xa n) (xh xa m)/\∀o,P o->0<cr (xh xa n) (xh xa o)->0<=cr (xh xa m) (xh xa o))->(acc=none->∀o,P o->¬0<cr (xh xa n) (xh xa o))->
  ∀m,nums.foldl (w4 xa n) acc=some m->∀o,(P o\/o∈nums)->0<cr (xh xa n) (xh xa o)->0<=cr (xh xa m) (xh xa o)
 |[],acc,P,h,h0,m,e,o,ho,c=>(h m e).2 o (ho.resolve_right (by simp)) c
 |x::nums,acc,P,h,h0,m,e,o,ho,c=>by
  refine GQ nums (w4 xa n acc x) (λo=>P o\/o=x) (λm e=>?_) (λe o ho c=>?_) m e o (ho.elim (λz=>.inl (.inl z)) λz=>(xX.mp z).elim (λz=>.inl (.inr z)) .inr) c
  .unfold w4 at e;split at e
   .rename_i cx;cases acc with
    |none=>cases e;exact⟨cx,λo ho c=>ho.elim (λz=>absurd c (h0 rfl o z)) λz=>by rw[z,uj];exact wB _⟩
    |some k=>
     obtain⟨k1,k2⟩:=h k rfl;dsimp only at e;split at e
     .rename_i cm;cases e;refine⟨cx,λo ho c=>ho.elim (λz=>?_) λz=>by rw[z,uj];exact wB _⟩;have id:=EB (xh xa n) (xh xa x) (xh xa k) (xh xa o);have a:=Pol.pz (yl cx) (k2 o z c);have b:=Pol.pz (yl c) (yl cm);rcases y4 (cr (xh xa x) (xh xa o)) 0 with y|y
      .have:=Pol.pp k1 (show 0 < -cr (xh xa x) (xh xa o) by lia);rw[qY] at this;lia
      .exact y
     .rename_i cm;cases e;refine⟨k1,λo ho c=>ho.elim (λz=>k2 o z c) λz=>?_⟩;rw[z,kE];lia
   .rename_i cx;obtain⟨k1,k2⟩:=h m e;exact⟨k1,λo ho c=>ho.elim (λz=>k2 o z c) λz=>by rw[z] at c;exact absurd c cx⟩
  .unfold w4 at e;split at e
   .cases acc with
    |none=>cases e
    |some k=>dsimp only at e;split at e<;>cases e
   .rename_i cx;rcases ho with z|z
    .exact h0 e o z c
    .rw[z] at c;exact cx c
def NJ (e:fL xa nums n=some m)(ho:o∈nums)(c:0<cr (xh xa n) (xh xa o)):0<=cr (xh xa m) (xh xa o):=GQ nums none (λ_=>False) (λ_ z=>nomatch z) (λ_ _ z=>z.elim) m e o (.inr ho) c
theorem filter_lt {α:Type}{p q:α->Bool}(imp:∀o,p o=true->q o=true){n:α}:∀ {l:List α},n∈l->q n=true->p n=false->(l.filter p).length<(l.filter q).length
 |x::l,h,hq,hp=>by
  have le:∀l:List α,(l.filter p).length<=(l.filter q).length:=λl=>by
   induction l with
   |nil=>simp
   |cons y l ih=>
    simp only[List.filter_cons];by_cases e:p y=true
    .rw[xJ e,xJ (imp y e),wC,wC];lia
    .rw[xG e];split
     .rw[wC];lia
     .exact ih
  simp only[List.filter_cons];rcases xX.mp h with e|h
  .subst e;rw[hp,hq];have:=le l;simp;lia
  .have:=filter_lt imp h hq hp;by_cases e:p x=true
   .rw[xJ e,xJ (imp x e),wC,wC];lia
   .rw[xG e];split
    .rw[wC];lia
    .exact this
theorem adj {xa:List Pol.R3}{nums:List Nat}{d:D2}:∀(k:Nat) (a m:Nat),a∈nums->m∈nums->0<cr (xh xa a) (xh xa m)->Trn.InC (xh xa a) (xh xa m) d->(nums.filter λo=>decide (0<cr (xh xa a) (xh xa o)/\0<=cr (xh xa o) (xh xa m))).length<=k->∃ij∈u6 xa nums,Trn.InC (xh xa ij.1) (xh xa ij.2) d:=λk=>by
 induction k with
 |zero=>intro a m ha hm c _ l;have:m∈nums.filter λo=>decide (0<cr (xh xa a) (xh xa o)/\0<=cr (xh xa o) (xh xa m)):=uR.mpr ⟨hm,wF ⟨c,by rw[uj];exact wB _⟩⟩;have:=List.length_pos_of_mem this;lia
 |succ k ih=>
  intro a m ha hm c hd l;have ex:=(bc (xa:=xa) (n:=a) nums none (λm e=>nomatch e)).2 (.inr ⟨m,hm,c⟩);cases q:fL xa nums a with
  |none=>exact absurd q ex
  |some n=>
   obtain⟨p,r⟩:=(bc (xa:=xa) (n:=a) nums none (λm e=>nomatch e)).1 n q;have hn:n∈nums:=r.resolve_right (λz=>nomatch z);have nm:=NJ q hm c;have sd:(a,n)∈u6 xa nums:=B8.mpr ⟨a,ha,by rw[q];rfl⟩;by_cases z:0<=cr d (xh xa n)
   .exact⟨_,sd,hd.1,z⟩
   .have dn:0<cr (xh xa n) d:=by rw[kE];lia
    have nm':0<cr (xh xa n) (xh xa m):=by
     have id:=EB (xh xa a) d (xh xa n) (xh xa m);rw[kE (xh xa n) d] at id;have t1:=Pol.pz hd.1 nm;have t2:=Pol.pp c dn;have h2:=hd.2;rcases y4 0 (cr (xh xa n) (xh xa m)) with y|y
     .exact y
     .have y0:cr (xh xa n) (xh xa m)=0:=by lia
      rw[y0,vH,pq,qY] at id;have:=Pol.pz (yl p) h2;lia
    refine ih n m hn hm nm' ⟨by lia,hd.2⟩ ?_;have sub:((nums.filter λo=>decide (0<cr (xh xa n) (xh xa o)/\0<=cr (xh xa o) (xh xa m))).length)<(nums.filter λo=>decide (0<cr (xh xa a) (xh xa o)/\0<=cr (xh xa o) (xh xa m))).length:=by
     have imp:∀o,(0<cr (xh xa n) (xh xa o)/\0<=cr (xh xa o) (xh xa m))->(0<cr (xh xa a) (xh xa o)/\0<=cr (xh xa o) (xh xa m)):=λo ⟨o1,o2⟩=>by
      refine⟨?_,o2⟩;have id:cr (xh xa a) (xh xa o)*cr (xh xa n) (xh xa m)=cr (xh xa o) (xh xa m)*cr (xh xa a) (xh xa n)+cr (xh xa n) (xh xa o)*cr (xh xa a) (xh xa m):=by unfold cr;grind
      have t1:=Pol.pz o2 (yl p);have t2:=Pol.pp o1 c;rcases y4 0 (cr (xh xa a) (xh xa o)) with y|y
      .exact y
      .have:=Pol.pz (a:=-cr (xh xa a) (xh xa o)) (b:=cr (xh xa n) (xh xa m)) (by lia) (by lia);rw[qZ] at this;lia
     exact filter_lt (λo h=>wF (imp o (yU h))) hn (wF ⟨p,yl nm'⟩) (uU λz=>by have:=z.1;rw[uj] at this;lia)
    lia
def IF (hp:0<p.2.2)(s:k8 v p)(h:val r p=0):val r v=0:=by
 have e:val r v*p.2.2=val r p*v.2.2:=by have:=s.1;have:=s.2;simp only[val];grind
 rw[h,jy] at e;exact(vp.mp e).resolve_right (by lia)
def Iu (h:r∈xa):∃i,i<xa.length/\xZ xa i=r:=by obtain⟨i,hi,rfl⟩:=dw.mp h;refine⟨i,hi,?_⟩;have:=aj hi;rw[yC hi] at this;exact(vK this).symm
def Lw (hf:yD xa=true)(FR:zm xa)(hw:w∈xS xa)(nz:d≠(0,0)):∃v∈xS xa,∃ij∈u6 xa (uE xa (xt v)),Trn.InC (xh xa ij.1) (xh xa ij.2) d:=by
 obtain⟨_,dir,gr,_⟩:=wW hf;have r0:∀r∈xa,r.1≠0\/r.2.1≠0:=λr hr=>(dir r hr).1;obtain⟨⟨hz,_,C⟩,_⟩:=FR.corner hw;obtain⟨i,hi,j,hj,⟨t1,t2,t3⟩,k⟩:=D3 (d:=(d.1,d.2,0)) (Ir r0 gr) (by refine fZ λno=>nz ?_;exact zC (by simp only at no;show d.1=0;lia) (by simp only at no;show d.2=0;lia)) r0 hz C.kept
 obtain⟨z,e1,e2⟩:=fy (show Pol.turn i j≠0 by lia);obtain⟨v,hv,sm⟩:=FR.fine.found z ⟨k,i,hi,j,hj,e1,e2,by lia⟩;have hv:v∈xS xa:=tw.mpr hv;obtain⟨⟨vz,_,_⟩,_⟩:=FR.corner hv;obtain⟨a,ha,ea⟩:=Iu hi;obtain⟨b,hb,eb⟩:=Iu hj;have ma:a∈uE xa (xt v):=(js vz).mpr ⟨ha,by rw[ea];exact IF z sm e1⟩;have mb:b∈uE xa (xt v):=(js vz).mpr ⟨hb,by rw[eb];exact IF z sm e2⟩;refine⟨v,hv,?_⟩;refine adj _ a b ma mb ?_ ⟨?_,?_⟩ (ym _)
 .unfold xh;rw[ea,eb];exact t1
 .unfold xh;rw[ea];exact t2
 .unfold xh;rw[eb];exact t3
def wg.dual {xa:List Pol.R3}{x:SX}(u:Pol.R3):cr (xh xa x.1.1) (xh xa x.1.2)*(x.2.1*u.1+x.2.2*u.2.1)-(cr x.2 (xh xa x.1.2)*k2 (xZ xa x.1.1)+cr (xh xa x.1.1) x.2*k2 (xZ xa x.1.2))*u.2.2=cr x.2 (xh xa x.1.2)*val (xZ xa x.1.1) u+cr (xh xa x.1.1) x.2*val (xZ xa x.1.2) u:=by
 have e1:=fw (xh xa x.1.1) (xh xa x.1.2) x.2;have ea:=e1.1;have eb:=e1.2;generalize cr x.2 (xh xa x.1.2)=p at *
 generalize cr (xh xa x.1.1) x.2=q at *
 generalize cr (xh xa x.1.1) (xh xa x.1.2)=T at *
 have d1:(xh xa x.1.1)=((xZ xa x.1.1).1,(xZ xa x.1.1).2.1):=rfl;have d2:(xh xa x.1.2)=((xZ xa x.1.2).1,(xZ xa x.1.2).2.1):=rfl;rw[d1,d2] at ea eb;simp only[val,k2] at *
 grind
theorem Mf (h:ps≠[]):∃f,oY a b ps=some f:=by
 have key:∀(ps:List P2) (f:F2),∃g,ps.foldl (jH a b) (some f)=some g:=λps=>by
  induction ps with
  |nil=>exact λf=>⟨f,rfl⟩
  |cons p ps ih=>intro f;obtain⟨g,hg,_⟩:=Fo (a:=a) (b:=b) (best:=some f) (p:=p);rw[qA,hg];exact ih g
 cases ps with
 |nil=>exact absurd rfl h
 |cons p ps=>exact key ps _
def eg (hf:yD xa=true)(G:wg xa x):zL xa x=(x.2.1,x.2.2,(cr x.2 (xh xa x.1.2)*k2 (xZ xa x.1.1)+cr (xh xa x.1.1) x.2*k2 (xZ xa x.1.2))/cr (xh xa x.1.1) (xh xa x.1.2)):=by have S:=G.lin k2;unfold zL;rw[G.a hf,G.b hf,c7 _ (by have:=S.pf;lia),S.floor]
def FQ (hf:yD xa=true)(FR:zm xa)(hv:v∈xS xa)(hx:x.1∈u6 xa (uE xa (xt v)))(G:wg xa x)(e:oY x.2.1 x.2.2 ((xS xa).map xt)=some f):zL xa x=(x.2.1,x.2.2,f.1.fdiv f.2):=by
 obtain⟨⟨vz,_,_⟩,_⟩:=FR.corner hv;obtain⟨m1,m2,_⟩:=ay hx;have D:=λu=>wg.dual (xa:=xa) (x:=x) u;have inc:=G.inc;have pT:=G.pos;rw[eg hf G];rcases Fq _ none e with z|⟨p,hp,ef⟩
 .cases z
 obtain⟨u,hu,rfl⟩:=zT.mp hp;obtain⟨⟨uz,_,Cu⟩,_⟩:=FR.corner hu;have Su:Sd f (x.2.1*u.1+x.2.2*u.2.1) u.2.2:=by rw[ef];exact nQ (x.2.1,x.2.2,0) uz
 have Sv:Sd (zc (x.2.1,x.2.2,0) (xt v)) (x.2.1*v.1+x.2.2*v.2.1) v.2.2:=nQ (x.2.1,x.2.2,0) vz;have ge:=(Me _ FR.pos none f (λg z=>nomatch z) e).2 (xt v) (jA hv);have lt:=Su.lt Sv;have Dv:=D v;have Du:=D u;rw[((js vz).mp m1).2,((js vz).mp m2).2,vH,vH] at Dv;have n1:0<=cr x.2 (xh xa x.1.2) * -val (xZ xa x.1.1) u:=Pol.pz inc.2 (by have:=Cu.kept _ (gP G.i1);lia);have n2:0<=cr (xh xa x.1.1) x.2 * -val (xZ xa x.1.2) u:=Pol.pz inc.1 (by have:=Cu.kept _ (gP G.i2);lia);rw[qY] at n1 n2;have S:Sd f (cr x.2 (xh xa x.1.2)*k2 (xZ xa x.1.1)+cr (xh xa x.1.1) x.2*k2 (xZ xa x.1.2)) (cr (xh xa x.1.1) (xh xa x.1.2)):=by
  generalize cr x.2 (xh xa x.1.2)*k2 (xZ xa x.1.1)+cr (xh xa x.1.1) x.2*k2 (xZ xa x.1.2)=N at *
  generalize cr (xh xa x.1.1) (xh xa x.1.2)=T at *
  generalize x.2.1*u.1+x.2.2*u.2.1=U at *
  generalize x.2.1*v.1+x.2.2*v.2.1=V at *
  refine⟨Su.pf,pT,?_⟩;have ge':V*u.2.2<=U*v.2.2:=by
   have:¬(U*v.2.2<V*u.2.2):=λz=>by have:=lt.mpr z;lia
   lia
  have a1:T*(V*u.2.2)<=T*(U*v.2.2):=wd ge' (by lia);have a2:T*U<=N*u.2.2:=by lia
  have a3:T*U*v.2.2<=N*u.2.2*v.2.2:=zj a2 (by lia);have a4:T*V=N*v.2.2:=by lia
  have a5:T*V*u.2.2=N*v.2.2*u.2.2:=by rw[a4]
  have a6:T*U*v.2.2=N*u.2.2*v.2.2:=by
   have:T*(V*u.2.2)=T*V*u.2.2:=by grind
   have:T*(U*v.2.2)=T*U*v.2.2:=by grind
   have:N*v.2.2*u.2.2=N*u.2.2*v.2.2:=by grind
   lia
  have a7:T*U=N*u.2.2:=j4 (by lia) a6;have eu:=Su.e;refine j4 (a:=u.2.2) (by lia) ?_;have:f.1*T*u.2.2=T*U*f.2:=by grind
  rw[this,a7];grind
 rw[c7 _ (by have:=S.pf;lia),S.floor]
theorem Eo (C:wa h)(w:D2)(hp:h[i]?=some p0)(hq:h[i+1]?=some q0)(h0:0<=cr w q0)(h1:cr w p0<=cr w q0):∀k q,h[i+1+k]?=some q->cr w q0<=cr w q
 |0,q,e=>by rw[show i+1+0=i+1 from rfl,hq] at e;cases e;exact wB _
 |k+1,q,e=>by
  have il:i+1+k<h.length:=by have:=(y8.mp e).1;lia
  have ek:h[i+1+k]?=some h[i+1+k]:=yC il;have:=Eo C w hp hq h0 h1 k _ ek;have r:=(C.right w hp hq h0 h1 (k+1) h[i+1+k] q (by rw[show i+(k+1)=i+1+k by lia];exact ek) (by rw[show i+(k+1)+1=i+1+(k+1) by lia];exact e)).2;lia
theorem En (C:wa h)(w:D2)(hp:h[i]?=some p0)(hq:h[i+1]?=some q0)(h0:0<=cr w p0)(h1:cr w q0<=cr w p0):∀k j p,j+k=i->h[j]?=some p->cr w p0<=cr w p
 |0,j,p,e,ep=>by cases (show j=i by lia);rw[hp] at ep;cases ep;exact wB _
 |k+1,j,p,e,ep=>by
  have il:j+1<h.length:=by have:=(y8.mp hq).1;lia
  have ek:h[j+1]?=some h[j+1]:=yC il;have:=En C w hp hq h0 h1 k (j+1) _ (by lia) ek;have r:=(C.left w hp hq h0 h1 (k+1) j p _ e ep ek).2;lia
theorem Lj (C:wa h)(w:D2)(hM:0<=M)(hf:h[0]?=some f)(hl:h[h.length-1]?=some l)(bf:cr w f<=M)(bl:cr w l<=M)(hx:x∈h):cr w x<=M:=by
 obtain⟨j,hj,rfl⟩:=dw.mp hx;have ej:h[j]?=some h[j]:=yC hj;refine fZ λno=>?_;have no:M<cr w h[j]:=by lia
 cases j with
 |zero=>rw[ej] at hf;cases hf;lia
 |succ i=>
  have ei:h[i]?=some h[i]:=yC (by lia);rcases Int.le_total (cr w h[i]) (cr w h[i+1]) with c|c
  .have:=Eo C w ei ej (by lia) c (h.length-1-(i+1)) l (by rw[show i+1+(h.length-1-(i+1))=h.length-1 by lia];exact hl);lia
  .have:=En C w ei ej (by lia) c i 0 f (by lia) hf;lia
def vS.bM (h0:0<=M)(hD:0<cr u v)(B:vS u v h)(hu:Bx M u)(hv:Bx M v):∀x∈h,Bx M x:=λx hx=>by obtain⟨nu,nv⟩:=dW hD;have bu:=cS nu hu;have bv:=cS nv hv;unfold Bx at bu bv;have key:∀w:D2,cr w (yN u)<=M->cr w (yN v)<=M->cr w x<=M:=λw a b=>Lj B.chn w h0 B.fst B.lst a b hx;have k1:=key (0,-1) (by unfold cr;simp only;lia) (by unfold cr;simp only;lia);have k2:=key (0,1) (by unfold cr;simp only;lia) (by unfold cr;simp only;lia);have k3:=key (1,0) (by unfold cr;simp only;lia) (by unfold cr;simp only;lia);have k4:=key (-1,0) (by unfold cr;simp only;lia) (by unfold cr;simp only;lia);unfold cr at k1 k2 k3 k4;simp only at k1 k2 k3 k4;unfold Bx;lia
def vS.b30 (hD:0<cr u v)(B:vS u v h)(hu:Bx 30 u)(hv:Bx 30 v):∀x∈h,Bx 30 x:=vS.bM (by decide) hD B hu hv
def dv (d:D2)(p:Pol.R3):Int:=d.1*p.1+d.2*p.2.1
def zU (d:D2)(v:Pol.R3):Int:=dv d v/v.2.2
def JK (d:D2)(c:Int)(p:Pol.R3):val (d.1,d.2,c) p=dv d p-c*p.2.2:=rfl
def nN (d:D2)(h:0<v.2.2):zU d v*v.2.2<=dv d v:=Int.ediv_mul_le _ (by lia)
def Gu (h:0<v.2.2)(hc:c*v.2.2<=dv d v):c<=zU d v:=(J2 h).mpr hc
def Lo {xa:List Pol.R3}{x:SX}(pos:0<cr (xh xa x.1.1) (xh xa x.1.2))(inc:Trn.InC (xh xa x.1.1) (xh xa x.1.2) x.2){v p:Pol.R3}(vz:0<v.2.2)(pz:0<p.2.2)
  (v1:val (xZ xa x.1.1) v=0) (v2:val (xZ xa x.1.2) v=0) (p1:val (xZ xa x.1.1) p<=0) (p2:val (xZ xa x.1.2) p<=0):dv x.2 p*v.2.2<=dv x.2 v*p.2.2:=by
 have Dv:=wg.dual (xa:=xa) (x:=x) v;have Dp:=wg.dual (xa:=xa) (x:=x) p;rw[v1,v2,vH,vH] at Dv;have n1:0<=cr x.2 (xh xa x.1.2) * -val (xZ xa x.1.1) p:=Pol.pz inc.2 (by lia);have n2:0<=cr (xh xa x.1.1) x.2 * -val (xZ xa x.1.2) p:=Pol.pz inc.1 (by lia);rw[qY] at n1 n2;change cr (xh xa x.1.1) (xh xa x.1.2)*dv x.2 v-_=_ at Dv;change cr (xh xa x.1.1) (xh xa x.1.2)*dv x.2 p-_=_ at Dp;generalize cr x.2 (xh xa x.1.2)*k2 (xZ xa x.1.1)+cr (xh xa x.1.1) x.2*k2 (xZ xa x.1.2)=N at *
 generalize cr (xh xa x.1.1) (xh xa x.1.2)=T at *
 generalize dv x.2 v=V at *
 generalize dv x.2 p=U at *
 have a1:T*U<=N*p.2.2:=by lia
 have a2:T*V=N*v.2.2:=by lia
 have a3:T*U*v.2.2<=N*p.2.2*v.2.2:=zj a1 (by lia);have a4:N*p.2.2*v.2.2=T*(V*p.2.2):=by
  have:N*p.2.2*v.2.2=N*v.2.2*p.2.2:=by grind
  rw[this,<-a2];grind
 rw[a4] at a3;have a5:T*(U*v.2.2)<=T*(V*p.2.2):=by
  have:T*(U*v.2.2)=T*U*v.2.2:=by grind
  lia
 exact BN a5 pos
def Ht (hf:yD xa=true)(G:wg xa x)(vz:0<v.2.2)(v1:val (xZ xa x.1.1) v=0)(v2:val (xZ xa x.1.2) v=0):zL xa x=(x.2.1,x.2.2,zU x.2 v):=by
 rw[eg hf G];have Dv:=wg.dual (xa:=xa) (x:=x) v;rw[v1,v2,vH,vH] at Dv;change cr (xh xa x.1.1) (xh xa x.1.2)*dv x.2 v-_=_ at Dv;have pT:=G.pos;unfold zU;generalize cr x.2 (xh xa x.1.2)*k2 (xZ xa x.1.1)+cr (xh xa x.1.1) x.2*k2 (xZ xa x.1.2)=N at *
 generalize cr (xh xa x.1.1) (xh xa x.1.2)=T at *
 generalize dv x.2 v=V at *
 have e:T*V=N*v.2.2:=by lia
 have:N/T=V/v.2.2:=by have h1:N/T=(N*v.2.2)/(T*v.2.2):=(BO N T vz).symm;rw[h1,<-e,vG T v.2.2,vG T V];exact BO V v.2.2 pT
 rw[this]
def lB (hb:0<b)(h:(Fra.low t b).2=1):b∣t:=by
 have h:b/((Int.gcd t b:Nat):Int)=1:=h;have d:((Int.gcd t b:Nat):Int)∣b:=dj ..;have e:b=((Int.gcd t b:Nat):Int):=by have:=JZ d;rw[h,Int.one_mul] at this;exact this.symm
 have dt:((Int.gcd t b:Nat):Int)∣t:=j5 ..;rw[<-e] at dt;exact dt
def TX (vz:0<v.2.2)(g:yQ v=1)(hb:brk v=false):v.2.2=1:=by
 unfold brk at hb;simp only[Bool.or_eq_false_iff,Bool.not_eq_false',qE] at hb;have d1:=lB vz hb.1;have d2:=lB vz hb.2;have d3:v.2.2∣((Int.gcd v.1 v.2.1:Nat):Int):=jv d1 d2;have d4:v.2.2∣((Int.gcd ((Int.gcd v.1 v.2.1:Nat):Int) v.2.2:Nat):Int):=jv d3 (Int.dvd_refl _);have e:((Int.gcd ((Int.gcd v.1 v.2.1:Nat):Int) v.2.2:Nat):Int)=1:=by have:Int.gcd ((Int.gcd v.1 v.2.1:Nat):Int) v.2.2=1:=g;rw[this];rfl
 rw[e] at d4;exact Int.eq_one_of_dvd_one (by lia) d4
theorem RK (hf:yD xa=true)(FR:zm xa)(pz:0<p.2.2)(kp:∀r∈xa,val r p<=0)
  (hc:∀v∈xS xa,brk v=true->∀ij∈u6 xa (uE xa (xt v)),∃h,vS (xh xa ij.1) (xh xa ij.2) h/\∀d∈h,val (d.1,d.2,zU d v) p<=0)
  {w:Pol.R3} (hw:w∈xS xa) {d:D2} (nz:d≠(0,0)):∃v∈xS xa,val (d.1,d.2,zU d v) p<=0:=by
 obtain⟨v,hv,ij,hij,inc⟩:=Lw hf FR hw nz;refine⟨v,hv,?_⟩;obtain⟨⟨vz,vg,_⟩,_⟩:=FR.corner hv;obtain⟨m1,m2,hp⟩:=ay hij;obtain⟨i1,v1⟩:=(js vz).mp m1;obtain⟨i2,v2⟩:=(js vz).mp m2;rw[JK];cases hb:brk v with
 |false=>have z1:=TX vz vg hb;have:=Lo (xa:=xa) (x:=(ij,d)) hp inc vz pz v1 v2 (kp _ (gP i1)) (kp _ (gP i2));unfold zU;rw[z1,Int.ediv_one];rw[z1,g6] at this;have this:dv d p<=dv d v*p.2.2:=this;lia
 |true=>
  obtain⟨h,B,all⟩:=hc v hv hb ij hij;obtain⟨i,a,b,ea,eb,c1,c2⟩:=B.chn.made B.l2 B.fst B.lst ((fJ hp).mpr inc);have one:=B.chn.one i a b ea eb;have ka:=all a (zq ea);have kb:=all b (zq eb);rw[JK] at ka kb;have be:=fw a b d;rw[one,g6,g6] at be;have lin:∀u:Pol.R3,dv d u=cr d b*dv a u+cr a d*dv b u:=λu=>by unfold dv;rw[be.1,be.2];grind
  have f1:cr d b*zU a v+cr a d*zU b v<=zU d v:=by
   refine Gu vz ?_;rw[lin v];have x1:=wd (nN a vz) c1;have x2:=wd (nN b vz) c2;have:(cr d b*zU a v+cr a d*zU b v)*v.2.2=cr d b*(zU a v*v.2.2)+cr a d*(zU b v*v.2.2):=by grind
   lia
  have y1:=wd (show dv a p<=zU a v*p.2.2 by lia) c1;have y2:=wd (show dv b p<=zU b v*p.2.2 by lia) c2;have y3:=zj f1 (show 0<=p.2.2 by lia);have:(cr d b*zU a v+cr a d*zU b v)*p.2.2=cr d b*(zU a v*p.2.2)+cr a d*(zU b v*p.2.2):=by grind
  rw[lin p];lia
end L2
namespace Pol
end Pol
namespace L2
open PySem Trn
def BxM (xa:List Pol.R3)(x:SX):Prop:=∀M:Int,0<=M->(∀i,i<xa.length->Bx M (xh xa i))->Bx M x.2
structure RP (xa:List Pol.R3)(Ls:List SX):Prop where
 snd:∀x∈Ls,wg xa x/\Bx 30 x.2/\∃v∈xS xa,brk v=true/\x.1∈u6 xa (uE xa (xt v))
 all:∀v∈xS xa,brk v=true->∃L,hV xa (u6 xa (uE xa (xt v))) L/\∀x∈L,∃y∈Ls,zL xa y=zL xa x
 len:Ls.length<=4000
 few:(∀i,i<xa.length->Bx 14 (xh xa i))->Ls.length<=1000
def RR (xa:List Pol.R3)(Ls:List SX):List Pol.R3:=xa++Ls.map (zL xa)
def Kp (xa:List Pol.R3)(p:Pol.R3):Prop:=∀r∈xa,val r p<=0
section
variable {xa:List Pol.R3} {Ls:List SX} (hf:yD xa=true) (FR:zm xa) (R:RP xa Ls)
include hf FR
theorem Hq (hv:v∈xS xa)(h:ij∈u6 xa (uE xa (xt v))):val (xZ xa ij.1) v=0/\val (xZ xa ij.2) v=0/\ij.1<xa.length/\ij.2<xa.length:=by obtain⟨⟨vz,_,_⟩,_⟩:=FR.corner hv;obtain⟨m1,m2,_⟩:=ay h;exact⟨((js vz).mp m1).2,((js vz).mp m2).2,((js vz).mp m1).1,((js vz).mp m2).1⟩
include R
def RP.at (hx:x∈Ls):∃v∈xS xa,0<v.2.2/\val (xZ xa x.1.1) v=0/\val (xZ xa x.1.2) v=0/\zL xa x=(x.2.1,x.2.2,zU x.2 v):=by obtain⟨G,_,v,hv,_,hs⟩:=R.snd x hx;obtain⟨v1,v2,_,_⟩:=Hq hf FR hv hs;have vz:=(FR.corner hv).1.1;exact⟨v,hv,vz,v1,v2,Ht hf G vz v1 v2⟩
def RP.main (pz:0<p.2.2)(kp:Kp (RR xa Ls) p)(hw:w∈xS xa)(nz:d≠(0,0)):∃v∈xS xa,val (d.1,d.2,zU d v) p<=0:=by refine RK hf FR pz (λr hr=>kp r (zf _ hr)) (λv hv hb ij hij=>?_) hw nz;obtain⟨L,PL,all⟩:=R.all v hv hb;obtain⟨h,B,hm⟩:=PL.all ij hij;refine⟨h,B,λd hd=>?_⟩;obtain⟨y,hy,e⟩:=all _ (hm d hd);obtain⟨v1,v2,_,_⟩:=Hq hf FR hv hij;have c:=Ht hf (PL.good _ (hm d hd)).2 (FR.corner hv).1.1 v1 v2;have:=kp (zL xa y) (wZ _ (jA hy));rw[e,c] at this;exact this
end
def Lp (hf:yD xa=true)(FR:zm xa)(pz:0<p.2.2)(kp:Kp xa p):∃w,w∈xS xa:=by obtain⟨_,dir,gr,_⟩:=wW hf;have r0:∀r∈xa,r.1≠0\/r.2.1≠0:=λr hr=>(dir r hr).1;obtain⟨i,hi,j,hj,⟨t1,_,_⟩,k⟩:=D3 (d:=(1,0,0)) (Ir r0 gr) (.inl (by decide)) r0 pz kp;obtain⟨z,e1,e2⟩:=fy (show Pol.turn i j≠0 by lia);obtain⟨v,hv,_⟩:=FR.fine.found z ⟨k,i,hi,j,hj,e1,e2,by lia⟩;exact⟨v,tw.mpr hv⟩
def D9 (ha:-30<=a/\a<=30)(hx:-(12*M)<=x/\x<=12*M):-(360*M)<=a*x/\a*x<=360*M:=by
 have hM:0<=12*M:=by lia
 have e:∀b y:Int,0<=b->b<=30->y<=12*M->b*y<=360*M:=λb y b0 b1 hy=>by have h1:=wd hy b0;have h2:=zj b1 hM;lia
 rcases Int.le_total 0 a with c|c
 .have h1:=e a x c ha.2 hx.2;have h2:=e a (-x) c ha.2 (by lia);rw[qY] at h2;lia
 .have h1:=e (-a) (-x) (by lia) (by lia) (by lia);have h2:=e (-a) x (by lia) (by lia) hx.2;rw[Int.neg_mul_neg] at h1;rw[qZ] at h2;lia
section
variable {xa:List Pol.R3} {Ls:List SX} (hf:yD xa=true) (FR:zm xa) (R:RP xa Ls)
include hf
def NG (hv:v∈xS xa)(vz:0<v.2.2):(-(12*v.2.2)<=v.1/\v.1<=12*v.2.2)/\(-(12*v.2.2)<=v.2.1/\v.2.1<=12*v.2.2):=by exact(GP vz).mp ((wW hf).2.2.2 v (gC hv))
include FR R
def RP.frow:∀r∈RR xa Ls,uf r/\(r.1≠0\/r.2.1≠0):=λr hr=>by
 rcases yz.mp hr with hr|hr
 .have:=(wW hf).2.1 r hr;exact⟨this.2,this.1⟩
 .obtain⟨x,hx,rfl⟩:=zT.mp hr;obtain⟨G,bx,_⟩:=R.snd x hx;obtain⟨v,hv,vz,_,_,e⟩:=R.at hf FR hx;have nr:=NG hf hv vz;rw[e];have nz:x.2.1≠0\/x.2.2≠0:=fZ λno=>G.nz (zC (by show x.2.1=0;lia) (by show x.2.2=0;lia));refine⟨?_,nz⟩;obtain⟨⟨b1,b2⟩,b3,b4⟩:=bx;have m1:=D9 ⟨b1,b2⟩ nr.1;have m2:=D9 ⟨b3,b4⟩ nr.2;have lo:-720<=zU x.2 v:=Gu vz (by unfold dv;lia);have hi:zU x.2 v<=720:=by
   have:=nN x.2 vz;have:zU x.2 v*v.2.2<=720*v.2.2:=by unfold dv at this;lia
   exact j6 this vz
  unfold uf;simp only;lia
end
end L2
namespace L2
open PySem PySem.Spec PyProof.Rows
section
variable {X:Cx} {e:Expr} {te:TE}
end
section
variable {X:Cx} {sc:Scope} {N:List Str} {xQ:List (Option Nat)} {xf:List (Addr×Obj)} {σ:St} {H:Hp} {s:Shared}
end
section
variable {X:Cx} {sc:Scope} {N:List Str} {xQ:List (Option Nat)} {xf:List (Addr×Obj)} {σ:St} {H:Hp} {s:Shared}
end
section
variable {K:xw} {fr:Bool} {H:Hp}
theorem Mk (R:RS K B φ σ τ H)(h:H a=none):B.H0 a=none:=by
 cases q:B.H0 a with
 |none=>rfl
 |some o=>
  by_cases s:B.S0 a
  .exact absurd h (R.sst a (.inl s)).ne_none
  .rw[R.ext a o q s] at h;cases h
end
end L2
namespace L2
open PySem Trn
end L2
namespace L2
open PySem PySem.Spec PyProof.Rows
section
variable {X:Cx}
end
section
variable {K:xw}
end
end L2
namespace L2
open PySem Trn
section
variable {xa:List Pol.R3} {ws:List F2}
end
def qh (l:List (Pol.R3×F2)):Pol.R3:=((wsum k0 l).1,(wsum k1 l).1,(wsum k2 l).1.fdiv (wsum k2 l).2)
end L2
namespace L2
open PySem PySem.Spec PyProof.Rows
section
variable {κ:Type} [DecidableEq κ]
def qx (xI:List (κ×V))(k:κ):Option V:=(xI.find? λkv=>decide (kv.1=k)).map (·.2)
def putK (xI:List (κ×V))(k:κ)(v:V):List (κ×V):=if (xI.any λkv=>decide (kv.1=k))=true then xI.map (λkv=>if kv.1=k then(kv.1,v) else kv) else xI++[(k,v)]
def JJ {p:κ×V}{r:List (κ×V)}{k:κ}(e:p.1=k):qx (p::r) k=some p.2:=by simp[qx,BV,e]
def JI {p:κ×V}{r:List (κ×V)}{k:κ}(e:¬p.1=k):qx (p::r) k=qx r k:=by simp[qx,BV,e]
theorem cT (k:κ):∀xI:List (κ×V),(xI.any λkv=>decide (kv.1=k))=(qx xI k).isSome
 |[]=>rfl
 |p::r=>by
  rw[aI];by_cases e:p.1=k
  .simp only[JJ e,wF e,Bool.true_or,Option.isSome_some]
  .rw[JI e,uU e,Bool.false_or];exact cT k r
def Gx (xI:List (κ×V))(k:κ)(v:V):(putK xI k v).length<=xI.length+1:=by
 unfold putK;split
 .rw[xP];lia
 .rw[ze,wC,hG];lia
theorem dJ.isSome_eq (r:dJ o u):o.isSome=u.isSome:=by
 cases o with
 |none=>cases u with
  |none=>rfl
  |some _=>exact(show False from r).elim
 |some _=>cases u with
  |none=>exact(show False from r).elim
  |some _=>rfl
theorem KV.any (r:KV xI vs)(k:κ):(xI.any λkv=>decide (kv.1=k))=vs.any λkv=>decide (kv.1=k):=by
 unfold KV at r
 induction r with
 |nil=>rfl
 |cons h t ih=>rw[aI,aI,ih,h.1]
theorem KV.repl (r:KV xI vs)(k:κ)(ry:RelV y u) :
  KV (xI.map λkv=>if kv.1=k then(kv.1,y) else kv) (vs.map λkv=>if kv.1=k then(kv.1,u) else kv):=by
 unfold KV at r ⊢
 induction r with
 |nil=>exact .nil
 |@cons p q ps qs h t ih=>
  rw[qa,qa];refine .cons ?_ ih;obtain⟨h1,h2⟩:=h;by_cases e:p.1=k
  .rw[xJ e,xJ (h1.symm.trans e)];exact⟨h1,ry⟩
  .rw[xG e,xG (λz=>e (h1.trans z))];exact⟨h1,h2⟩
def KV.put (r:KV xI vs)(k:κ)(ry:RelV y u):KV (putK xI k y) (stored vs k u):=by
 unfold putK stored;rw[r.any k];by_cases e:(vs.any λkv=>decide (kv.1=k))=true
 .rw[xJ e,xJ e];exact r.repl k ry
 .rw[xG e,xG e];exact Ci r ⟨rfl,ry⟩
theorem KV.length (r:KV xI vs):xI.length=vs.length:=fh r
end
theorem Gf (r:RelV (kV k) u):(qm P w).is k u=true:=by
 cases k with
 |inl i=>obtain⟨t,e⟩:=(show ∃t,u=Value.int i t from r);subst e;exact NA P w i t
 |inr x=>obtain⟨t,e⟩:=(show ∃t,u=Value.str x t from r);subst e;exact NB P w x t
theorem Gc:∀ {ks:List Key} {us:List Value},yn (ks.map kV) us->ItemsAre (qm P w) ks us
 |[],_,r=>by rw[du] at r;cases r;exact .nil
 |k::ks,_,r=>by
  rw[qa] at r;cases r with
  |cons h t=>exact .cons (Gf h) (Gc t)
abbrev KT (H:Hp):List (List Key×V)->List (List Key×Addr×Value)->Prop:=Paired λp q=>p.1=q.1/\H q.2.1=some (.tup (p.1.map kV))/\RelV p.2 q.2.2
theorem KT.val {H:Hp}{xI:List (List Key×V)}{xs:List (List Key×Addr×Value)}(r:KT H xI xs)(k:List Key):dJ (qx xI k) ((atKey xs k).map (·.2)):=by
 induction r with
 |nil=>exact True.intro
 |@cons p q ps qs h t ih=>
  obtain⟨h1,_,h2⟩:=h;by_cases e:p.1=k
  .have e':q.1=k:=h1.symm.trans e;have b:atKey (q::qs) k=some q.2:=by simp[atKey,BV,e']
   rw[JJ e,b];exact h2
  .have e':¬q.1=k:=λz=>e (h1.trans z);have b:atKey (q::qs) k=atKey qs k:=by simp[atKey,BV,e']
   rw[JI e,b];exact ih
theorem KT.repl (r:KT H xI xs)(k:List Key)(ry:RelV y u) :
  KT H (xI.map λkv=>if kv.1=k then(kv.1,y) else kv) (xs.map (putAt k u)):=by
 induction r with
 |nil=>exact .nil
 |@cons p q ps qs h t ih=>
  rw[qa,qa];refine .cons ?_ ih;obtain⟨h1,h2,h3⟩:=h;unfold putAt;by_cases e:p.1=k
  .rw[xJ e,xJ (h1.symm.trans e)];exact⟨h1,h2,ry⟩
  .rw[xG e,xG (λz=>e (h1.trans z))];exact⟨h1,h2,h3⟩
def KT.put (r:KT H xI xs)(k:List Key)(hb:H b=some (.tup (k.map kV)))(ry:RelV y u) :
  KT H (putK xI k y) (storedH xs k b u):=by
 have e:(xI.any λkv=>decide (kv.1=k))=(atKey xs k).isSome:=by rw[cT,(r.val k).isSome_eq,Option.isSome_map]
 unfold putK storedH;rw[e];by_cases q:(atKey xs k).isSome=true
 .rw[xJ q,xJ q];exact r.repl k ry
 .rw[xG q,xG q];exact Ci r ⟨rfl,hb,ry⟩
def KT.keeps (r:KT H xI xs)(ht:∀b ys,H b=some (.tup ys)->H' b=some (.tup ys)):KT H' xI xs:=Paired.mapP r λ_ _ z=>⟨z.1,ht _ _ z.2.1,z.2.2⟩
section
variable {P:Program} {w:World} {H:Hp} {h:Heap} {a:Addr}
def Ii (ok:z_ P w H h)(e:Rd H a u):wq P w H h a u:=e.ok ok
def LN (ok:z_ P w H h)(e:Rd H a (.dK xI)):xI.length<=sizeLine/\(a==sysModules)=false/\∃vs,KV xI vs/\h.DictOf (qm P w) a vs:=show wq P w H h a (.dK xI) from Ii ok e
def LM (ok:z_ P w H h)(e:H a=some (.dK xI)):xI.length<=sizeLine/\(a==sysModules)=false/\∃vs,KV xI vs/\h.DictOf (qm P w) a vs:=LN ok (.inl e)
def lr (ok:z_ P w H h)(e:H a=some (.tup (ks.map kV))):(tupleKind (qm P w)).is h ks a:=by
 obtain⟨_,xm,r,o,h1,h2,n,h3⟩:=(show wq P w H h a (.tup (ks.map kV)) from ok a _ e)
 exact⟨o,xm.toArray,n,h1,h2,h3,by simpa using Gc r⟩
def LU (ok:z_ P w H h)(e:Rd H a (.dT xI)):xI.length<=sizeLine/\(a==sysModules)=false/\
  ∃xs,KT H xI xs/\h.DictOfH (tupleKind (qm P w)) a xs:=by
 obtain⟨z,y,xs,r,o,es,ep,h1,h2,h3,h4,h5⟩:=(show wq P w H h a (.dT xI) from Ii ok e)
 refine⟨z,y,xs,r,o,es,ep,h1,h2,h3,h4,λx hx=>?_,h5⟩;have all:∀ {l:List (List Key×V)} {m:List (List Key×Addr×Value)},KT H l m->∀x∈m,(tupleKind (qm P w)).is h x.1 x.2.1:=by
  intro l m q
  induction q with
  |nil=>intro x hx;exact nomatch hx
  |@cons p q ps qs hq t ih=>
   intro x hx;rcases xX.mp hx with e|hx
   .subst e;exact lr ok (by rw[<-hq.1];exact hq.2.1)
   .exact ih x hx
 exact all r x hx
def nJ (ok:z_ P w H h)(e:H a=some (.dT xI)):xI.length<=sizeLine/\(a==sysModules)=false/\
  ∃xs,KT H xI xs/\h.DictOfH (tupleKind (qm P w)) a xs:=LU ok (.inl e)
end
def rf (H:Hp)(a:Addr)(y v:V)(H':Hp):Prop:=
 (∃xI k,H a=some (.dK xI)/\y=kV k/\xI.length<sizeLine/\H'=upd H a (.dK (putK xI k v)))\/
 ∃xI k b,H a=some (.dT xI)/\y=.ref b/\H b=some (.tup (k.map kV))/\xI.length<sizeLine/\H'=upd H a (.dT (putK xI k v))
def rf.t (e:H a=some (.dT xI))(eb:H b=some (.tup (k.map kV)))(hl:xI.length<sizeLine) :
  rf H a (.ref b) v (upd H a (.dT (putK xI k v))):=.inr ⟨xI,k,b,e,rfl,eb,hl,rfl⟩
section
variable {X:Cx} {xf:List (Addr×Obj)} {σ:St} {H:Hp} {s:Shared} {a:Addr} {y v:V} {u r:Value} {o:Option V} {A:Around} {E:Value->Shared->Prop}
def Inv.big (I:Inv X xf σ H s):sysModules<s.heap.objs.size:=by have h:mainGlobals<s.heap.objs.size:=(I.mod.glob.keeps I.bk).lt;exact Nat.lt_trans (by decide) h
def oO (I:Inv X xf σ H s)(mu:Mut (H a))(hs:Heap.SameBut a s.heap h')(he:∃q,h'.get? a=some q)(new:wq X.prog X.w (upd H a ob) h' a ob) :
  Inv X xf σ (upd H a ob) {s with heap:=h',toks:=t' }:=
 I.write (x:=a) (e:=a) mu (.inl rfl) (λb q hb z=>(hs.2 b hb).trans z) he new
def LL (z:xI.length<=sizeLine)(hd:(a==sysModules)=false)(rel:KV xI vs)(dd:h'.DictOf (qm P w) a vs) :
  wq P w H' h' a (.dK xI):=⟨z,hd,vs,rel,dd⟩
def LI (hu:A.units+1<cLine)(I:Inv X xf σ H s)(g:rf H a y v H')(ry:RelV y u)(rv:RelV v r)(h:∀s',Inv X xf σ H' s'->Q () s') :
  wpAny (model X.prog X.w) A (setItem (.ref a) u r) Q E s:=by
 rcases g with ⟨xI,k,e,ey,l,eH⟩|⟨xI,k,b,e,ey,eb,l,eH⟩
 .subst ey eH;obtain⟨z,hd,vs,rel,dd⟩:=LM I.hok e;have hz:vs.length<=sizeLine:=by rw[<-rel.length];exact z
  have hl:(putK xI k v).length<=sizeLine:=by have:=Gx xI k v;lia
  refine wpAny_setItem_pairs (hsz:=hz) (Gf ry) dd λh' dd' hs=>h _ ?_;have he:∃q,h'.get? a=some q:=let ⟨q,_,_,hq,_⟩:=dd';⟨q,hq⟩
  exact oO I (by rw[e];exact True.intro) hs he (LL hl hd (rel.put k rv) dd')
 .subst ey eH;cases (show u=Value.ref b from ry);obtain⟨z,hd,xs,rel,dd⟩:=nJ I.hok e;have hz:xs.length<=sizeLine:=by rw[<-fh rel];exact z
  have hl:(putK xI k v).length<=sizeLine:=by have:=Gx xI k v;lia
  refine wpAny_setItem_heap (hsz:=hz) (tupleKind_room_in1 hu) (lr I.hok eb) dd λh' dd' hs=>h _ ?_;obtain⟨q,es,ep,hq,h2,h3,h4,_,h5⟩:=dd';refine oO I (by rw[e];exact True.intro) hs ⟨q,hq⟩ ⟨hl,hd,_,(rel.put k eb rv).keeps λc ys ec=>?_,q,es,ep,hq,h2,h3,h4,h5⟩;rw[yx (sI ec e (λz=>nomatch z))];exact ec
end
section
variable {X:Cx} {xf:List (Addr×Obj)} {σ:St} {H:Hp} {s:Shared} {a:Addr} {xI:List (Key×V)} {k:Key} {u:Value} {A:Around} {E:Value->Shared->Prop}
end
def Iw (td ty tv:TE):TS:=λD σ H=>tv σ H λv H1=>td σ H1 λx H2=>ty σ H2 λy H3=>∃a H4,x=.ref a/\rf H3 a y v H4/\D.nx σ H4
section
variable {X:Cx} {o i e value:Expr} {pos pos' tpos:Pos} {td ty tv:TE}
def Rm (hu:X.A.units+1<cLine)(ho:PE X o td)(hi:PE X i ty)(hv:PE X value tv)(hs:swapsWith value (some (.Subscript o i pos')) pos.line X.env=pure false) :
  PS X (.Assign [.Subscript o i pos'] value pos) (Iw td ty tv):=by
 intro xf s σ H D I h;refine wpAny_Assign_Subscript (yp (@hv xf s σ H _ I h) λr s1 ⟨v,H1,I1,rv,q1⟩=>yp (@ho xf s1 σ H1 _ I1 q1) λu s2 ⟨x,H2,I2,rx,q2⟩=>yp (@hi xf s2 σ H2 _ I2 q2) λiv s3 ⟨y,H3,I3,ry,a,H4,ex,g,q3⟩=>?_) hs;subst ex;obtain rfl:u=Value.ref a:=rx;exact LI hu I3 g ry rv λs4 I4=>⟨σ,H4,I4,q3⟩
end
def LS (h:Heap)(hb:sysModules<h.objs.size):wq P w H (h.push {cls:=.type "dict", data:=.dict #[]}) h.objs.size (.dT []):=⟨aT _,beq_eq_false_iff_ne.mpr (zY (we hb)),[],.nil,_,#[],0,wJ _ rfl,⟨rfl,rfl,rfl⟩,rfl,rfl,List.nodup_nil⟩
def Jk:TE:=λ_ H Q=>∀p,H p=none->Q (.ref p) (upd H p (.dT []))
section
variable {X:Cx} {pos:Pos}
def Hw:PE X (.Dict [] [] pos) Jk:=λxf s σ H Q I h=>wpAny_Dict_empty ⟨.ref s.heap.objs.size,_,I.laid (a:=s.heap.objs.size) (o:=.dT []) (t':=s.toks) (λ_ _ q=>yZ _ q) (ym _) (LS s.heap I.big),rfl,h _ (I.hok.fresh (ym _))⟩
end
section
variable {X:Cx} {xf:List (Addr×Obj)} {σ:St} {H:Hp} {s:Shared} {a:Addr} {y d:V} {u r:Value} {o:Option V} {A:Around} {E:Value->Shared->Prop}
end
section
variable {X:Cx} {o e f:Expr} {apos cpos:Pos} {td ty tx:TE}
end
section
variable {X:Cx} {xf:List (Addr×Obj)} {σ:St} {H:Hp} {s:Shared} {a:Addr} {xI:List (Key×V)} {A:Around} {E:Value->Shared->Prop}
end
section
variable {X:Cx} {xf:List (Addr×Obj)} {σ:St} {H:Hp} {s:Shared} {a:Addr} {y:V} {u:Value} {A:Around} {E:Value->Shared->Prop}
end
section
variable {prog:Program} {w:World} {A:Around} {E:Value->Shared->Prop} {s:Shared}
def T1 (hv:s.heap.IsValuesView v d)(hod:s.heap.get? d=some od)(hoc:od.ExactDict)(hdd:od.data=.dict es ep)
  (hQ:Q (.ref s.heap.objs.size) {s with heap:=s.heap.push {cls:=.type "dict_valueiterator", data:=.fields #[.ref d,.int 0 0,.int es.size 0,.int ep 0]} }) :
  wpAny (model prog w) A (pyIter (.ref v)) Q E s:=by
 obtain⟨ov,hov,hcv,hdv⟩:=id hv;refine wpAny_pyIter_slot hv.typeIs F.slot_dict_values_iter (qb F.slot_dict_values_iter hv.typeIs F.entry_dict_values_iter ?_ (F.args_dict_values_iter_1 _));unfold Builtin.«dict_values.__iter__»;refine xj (xO ?_);refine xj ?_;unfold Builtin.Dict_items.dictOf;refine xj (vL hov hdv (x:=.ref d) rfl (xO ?_));refine xj ?_;unfold Builtin.Dict_items.newIterator;refine xj (aZ hod hdd ?_);refine xj (mK hod hdd ?_);have hsz:es.size=es.size:=rfl;have hown:Builtin.Dict_items.ownsTuple "dict_valueiterator" = false:=by decide
 simp only[hown,aD,qF];refine vM (xO ⟨_,rfl, "dict_valueiterator", _,⟨_,wJ _ rfl,rfl⟩,cX.lookup,?_⟩);simpa [rawInt,hsz] using hQ
def T6 (hit:s.heap.IsValIter it d i es.size ep)
  (hod:s.heap.get? d=some od) (hoc:od.ExactDict) (hdd:od.data=.dict es ep) (hx:es[i]?=some en)
  (hQ:∀h',h'.IsValIter it d (i+1) es.size ep->Heap.SameBut it s.heap h'->Q (some en.val) {s with heap:=h' }) :
  wpAny (model prog w) A (pyNext (.ref it)) Q E s:=by
 obtain⟨o,ho,hc,hd⟩:=id hit;unfold pyNext;refine xj (aY (jC (name:=Str.ofString "__next__") hit.typeIs cX (qb cX hit.typeIs Uj ?_ (Uh _))))
 refine xj (xO ?_);refine xj ?_;refine xj ?_
 first|refine xj (Ct hit.typeIs (xO ?_))|refine xj (Cy hit.typeIs (xO ?_))
 refine xj (Co ho hd ?_);have hown:Builtin.Dict_items.ownsTuple "dict_valueiterator" = false:=by decide
 simp only[hown,aD,qF];show wpAny _ _ (if (Value.ref d==Value.none)=true then _ else _) _ _ s;rw[xG (show ¬((Value.ref d==Value.none)=true) from uG)];refine xj (xO ?_);refine xj (aZ hod hdd ?_);have hsz:es.size=es.size:=rfl;rw[xG (by simp)];refine xj (xO ?_);refine xj (mK hod hdd ?_);rw[xG (by simp)];refine xO ?_;have hlt:i<es.size:=by
  rcases Cc i es.size with h|h
  .exact h
  .rw[BG h] at hx;cases hx
 have hlt':i<es.size:=hlt;have hval:es[i].val=en.val:=by rw[me hlt'] at hx;cases hx;rfl
 simp only[show ¬((i:Int)<0) from by lia,qF,jx,me hlt'];refine xj ?_
 first|refine xj (Ct hit.typeIs (xO ?_))|refine xj (Cy hit.typeIs (xO ?_))
 refine xj (Kq hit.typeIs ?_);show wpAny _ _ (setField (.ref it) 1 (rawInt ((i:Int)+1))>>=_) _ _ s;refine xj (mL ho hd (by simp) ?_);have hit':(s.heap.update it (Obj.mapFields (·.setIfInBounds 1 (rawInt ((i:Int)+1))))).IsValIter it d (i+1) es.size ep:=⟨_,cY _ ho (Ki (mF hd _)),(Kh ..).trans hc,by rw[mF hd];simp[rawInt]⟩
 refine xj (km ?_);refine xj (Kq (s:={s with heap:=s.heap.update it (Obj.mapFields (·.setIfInBounds 1 (rawInt ((i:Int)+1))))}) hit'.typeIs ?_);refine xj (Kq (s:={s with heap:=s.heap.update it (Obj.mapFields (·.setIfInBounds 1 (rawInt ((i:Int)+1))))}) hit'.typeIs ?_);show wpAny _ _ (pure es[i].val) _ _ _;exact xO (xO ⟨_,rfl,xO (hval▸hQ _ hit' (gZ ..))⟩)
def T5 (hh:A.handled=none)(hit:s.heap.IsValIter it d i es.size ep)
  (hod:s.heap.get? d=some od) (hoc:od.ExactDict) (hdd:od.data=.dict es ep) (hx:es[i]?=none)
  (hQ:∀h',Heap.ExtBut it s.heap h'->Q none {s with heap:=h' }):wpAny (model prog w) A (pyNext (.ref it)) Q E s:=by
 obtain⟨o,ho,hc,hd⟩:=id hit;unfold pyNext;refine xj (aY (jC (name:=Str.ofString "__next__") hit.typeIs cX (qb cX hit.typeIs Uj ?_ (Uh _))))
 refine xj (xO ?_);refine xj ?_;refine xj ?_
 first|refine xj (Ct hit.typeIs (xO ?_))|refine xj (Cy hit.typeIs (xO ?_))
 refine xj (Co ho hd ?_);have hown:Builtin.Dict_items.ownsTuple "dict_valueiterator" = false:=by decide
 simp only[hown,aD,qF];show wpAny _ _ (if (Value.ref d==Value.none)=true then _ else _) _ _ s;rw[xG (show ¬((Value.ref d==Value.none)=true) from uG)];refine xj (xO ?_);refine xj (aZ hod hdd ?_);have hsz:es.size=es.size:=rfl;rw[xG (by simp)];refine xj (xO ?_);refine xj (mK hod hdd ?_);rw[xG (by simp)];refine xO ?_;have hge:es.size<=i:=by simpa using hx
 simp only[show ¬((i:Int)<0) from by lia,qF,jx,BG hge];refine xj ?_
 first|refine xj (Ct hit.typeIs (xO ?_))|refine xj (Cy hit.typeIs (xO ?_))
 show wpAny _ _ (setField (.ref it) 0 .none>>=_) _ _ s;refine xj (mL ho hd (by simp) ?_);show wpAny _ _ (newExc (.type "StopIteration") []>>=_) _ _ _;refine xj ?_;simp only[newExc,newTuple];refine xj (vM ?_ (by size_fits));refine xj (m:=firstArgMember _ _) (wpAny_of_eq (a:=Value.none) (by first|rfl|(simp only[firstArgMember];rfl)) ?_);refine vM ?_ (by size_fits);simp only[raiseNew];refine xj (wpAny_handled ?_);rw[show A.in1.handled=none from hh];refine xj (xO (wpAny_throw ?_));refine xj (Cp (T := "StopIteration") (b:=true) ⟨_,wJ _ rfl,rfl⟩ Ck ?_);exact xO (hQ _ (((gZ ..).extBut.push _).push _))
def TZ (hd:(d==sysModules)=false)(hod:s.heap.get? d=some od)(hoc:od.ExactDict)(hdd:od.data=.dict es ep)
  (hQ:Q (.ref s.heap.objs.size) {s with heap:=s.heap.push {cls:=.type "dict_keyiterator", data:=.fields #[.ref d,.int 0 0,.int es.size 0,.int ep 0]} }) :
  wpAny (model prog w) A (pyIter (.ref d)) Q E s:=by
 have hT:s.TypeIs (.ref d) "dict" := (⟨od,hod,hoc.1⟩:s.TypeIs (.ref d) "dict")
 refine wpAny_pyIter_slot hT F.slot_dict_iter (qb F.slot_dict_iter hT F.entry_dict_iter ?_ (F.args_dict_iter_1 _));unfold Builtin.«dict.__iter__»;refine xj ?_;unfold Builtin.Dict.dictSlotNone;refine xj (Kr hT ?_);show wpAny _ _ (pure (Value.ref d)) _ _ s;refine xO ?_;show wpAny _ _ (Builtin.Dict.showsAll d>>=_) _ _ s;unfold Builtin.Dict.showsAll;rw[xG (by rw[hd];exact uG)];refine xj (xO ?_);refine xj (aZ hod hdd ?_);refine xj (mK hod hdd ?_);have hsz:es.size=es.size:=rfl;refine xj (vM (xO ⟨_,rfl, "dict_keyiterator", _,⟨_,wJ _ rfl,rfl⟩,cW.lookup,?_⟩));simpa [rawInt,hsz] using hQ
def T4 (hit:s.heap.IsKeyIter it d i es.size ep)
  (hod:s.heap.get? d=some od) (hoc:od.ExactDict) (hdd:od.data=.dict es ep) (hx:es[i]?=some en)
  (hQ:∀h',h'.IsKeyIter it d (i+1) es.size ep->Heap.SameBut it s.heap h'->Q (some en.key) {s with heap:=h' }) :
  wpAny (model prog w) A (pyNext (.ref it)) Q E s:=by
 obtain⟨o,ho,hc,hd⟩:=id hit;unfold pyNext;refine xj (aY (jC (name:=Str.ofString "__next__") hit.typeIs cW (qb cW hit.typeIs Ui ?_ (Ug _))))
 refine xj (xO ?_);refine xj ?_;refine xj ?_
 first|refine xj (Cs hit.typeIs (xO ?_))|refine xj (Cw hit.typeIs (xO ?_))
 refine xj (Co ho hd ?_);have hown:Builtin.Dict_items.ownsTuple "dict_keyiterator" = false:=by decide
 simp only[hown,aD,qF];show wpAny _ _ (if (Value.ref d==Value.none)=true then _ else _) _ _ s;rw[xG (show ¬((Value.ref d==Value.none)=true) from uG)];refine xj (xO ?_);refine xj (aZ hod hdd ?_);have hsz:es.size=es.size:=rfl;rw[xG (by simp)];refine xj (xO ?_);refine xj (mK hod hdd ?_);rw[xG (by simp)];refine xO ?_;have hlt:i<es.size:=by
  rcases Cc i es.size with h|h
  .exact h
  .rw[BG h] at hx;cases hx
 have hlt':i<es.size:=hlt;have hkey:es[i].key=en.key:=by rw[me hlt'] at hx;cases hx;rfl
 simp only[show ¬((i:Int)<0) from by lia,qF,jx,me hlt'];refine xj ?_
 first|refine xj (Cs hit.typeIs (xO ?_))|refine xj (Cw hit.typeIs (xO ?_))
 refine xj (wpAny_isOneOf_keyiter hit.typeIs ?_);show wpAny _ _ (setField (.ref it) 1 (rawInt ((i:Int)+1))>>=_) _ _ s;refine xj (mL ho hd (by simp) ?_);have hit':(s.heap.update it (Obj.mapFields (·.setIfInBounds 1 (rawInt ((i:Int)+1))))).IsKeyIter it d (i+1) es.size ep:=⟨_,cY _ ho (Ki (mF hd _)),(Kh ..).trans hc,by rw[mF hd];simp[rawInt]⟩
 refine xj (km ?_);refine xj (wpAny_isOneOf_keyiter (s:={s with heap:=s.heap.update it (Obj.mapFields (·.setIfInBounds 1 (rawInt ((i:Int)+1))))}) hit'.typeIs ?_);show wpAny _ _ (pure es[i].key) _ _ _;exact xO (xO ⟨_,rfl,xO (hkey▸hQ _ hit' (gZ ..))⟩)
def T3 (hh:A.handled=none)(hit:s.heap.IsKeyIter it d i es.size ep)
  (hod:s.heap.get? d=some od) (hoc:od.ExactDict) (hdd:od.data=.dict es ep) (hx:es[i]?=none)
  (hQ:∀h',Heap.ExtBut it s.heap h'->Q none {s with heap:=h' }):wpAny (model prog w) A (pyNext (.ref it)) Q E s:=by
 obtain⟨o,ho,hc,hd⟩:=id hit;unfold pyNext;refine xj (aY (jC (name:=Str.ofString "__next__") hit.typeIs cW (qb cW hit.typeIs Ui ?_ (Ug _))))
 refine xj (xO ?_);refine xj ?_;refine xj ?_
 first|refine xj (Cs hit.typeIs (xO ?_))|refine xj (Cw hit.typeIs (xO ?_))
 refine xj (Co ho hd ?_);have hown:Builtin.Dict_items.ownsTuple "dict_keyiterator" = false:=by decide
 simp only[hown,aD,qF];show wpAny _ _ (if (Value.ref d==Value.none)=true then _ else _) _ _ s;rw[xG (show ¬((Value.ref d==Value.none)=true) from uG)];refine xj (xO ?_);refine xj (aZ hod hdd ?_);have hsz:es.size=es.size:=rfl;rw[xG (by simp)];refine xj (xO ?_);refine xj (mK hod hdd ?_);rw[xG (by simp)];refine xO ?_;have hge:es.size<=i:=by simpa using hx
 simp only[show ¬((i:Int)<0) from by lia,qF,jx,BG hge];refine xj ?_
 first|refine xj (Cs hit.typeIs (xO ?_))|refine xj (Cw hit.typeIs (xO ?_))
 show wpAny _ _ (setField (.ref it) 0 .none>>=_) _ _ s;refine xj (mL ho hd (by simp) ?_);show wpAny _ _ (newExc (.type "StopIteration") []>>=_) _ _ _;refine xj ?_;simp only[newExc,newTuple];refine xj (vM ?_ (by size_fits));refine xj (m:=firstArgMember _ _) (wpAny_of_eq (a:=Value.none) (by first|rfl|(simp only[firstArgMember];rfl)) ?_);refine vM ?_ (by size_fits);simp only[raiseNew];refine xj (wpAny_handled ?_);rw[show A.in1.handled=none from hh];refine xj (xO (wpAny_throw ?_));refine xj (Cp (T := "StopIteration") (b:=true) ⟨_,wJ _ rfl,rfl⟩ Ck ?_);exact xO (hQ _ (((gZ ..).extBut.push _).push _))
end
section
variable {prog:Program} {w:World} {κ:Type} [DecidableEq κ] {knd:HeapKind prog w κ} {A:Around} {E:Value->Shared->Prop} {s:Shared}
def LR (hu:knd.room A)(hkey:knd.is s.heap k a)(hm:s.heap.DictOfH knd d xs)
  (hthere:∀p,atKey xs k=some p->Q p.2 {s with toks:=s.toks+knd.draws k})
  (hnew:atKey xs k=none->∀h',h'.DictOfH knd d (xs++[(k,a,v)])->Heap.SameBut d s.heap h'->Q v {s with heap:=h',toks:=s.toks+knd.draws k}) (hsz:xs.length<=sizeLine) :
  wpAny (model prog w) A (dictSetDefault d (.ref a) v) Q E s:=by
 obtain⟨o,es,ep,ho,hc,hd,he,his,hn⟩:=hm;unfold dictSetDefault
 try with_reducible refine km ?_
 refine xj (knd.pyHash hu hkey ?_);refine xj (wpAny_dictFind_heap (s:={s with toks:=s.toks+knd.draws k}) hu hkey ho hd he his hn ?_ ?_)
 .intro hno;have hnot:k∉xs.map (·.1):=not_mem_keys_of_get hno;refine xj (dG (xj (wpAny_updateDictKeys (hz:=by have e:=size_of_entries he;lia) (s:={s with toks:=s.toks+knd.draws k}) ho hd (xO (hnew (atKey_none_of_get hno) _ ⟨_,_,ep+1,cY _ ho (Obj.isFreed_of_dict (Obj.data_mapDictKeys hd _)),
   hc.mapDictKeys _,Obj.data_mapDictKeys hd _,?_,?_,?_⟩ (gZ ..))))))
  .simp[he,entryOfKey]
  .intro x hx;rcases yz.mp hx with hx|hx
   .exact knd.keeps (his x hx) ho hd (gZ ..)
   .simp only[zF] at hx;subst hx;exact knd.keeps hkey ho hd (gZ ..)
  .rw[wD,dz];refine⟨hn,by simp,?_⟩;intro x hx y hy;simp only[qa,du,zF] at hy;subst hy;exact λe=>hnot (e▸hx)
 .intro j p hj;refine xj (aZ (s:={s with toks:=s.toks+knd.draws k}) ho hd ?_);rw[entry_at he j,hj];exact xj (dG (xO (hthere p (atKey_of_get hn hj))))
end
section
variable {X:Cx}
def Ia:V->List V->Hp->VK->Prop:=λx vs H Q=>∃d b xI k v,x=.ref d/\vs=[.ref b,v]/\H d=some (.dT xI)/\H b=some (.tup (k.map kV))/\xI.length<sizeLine/\
 (∀u,qx xI k=some u->Q u H)/\(qx xI k=none->Q v (upd H d (.dT (xI++[(k,v)]))))
def ND (hu:X.A.units+1<cLine):MtM X "dict.setdefault" Ia:=by
 intro xf s σ H x vs v us Q I rx rv h;obtain⟨d,b,xI,k,y,rfl,rfl,hH,hB,hz,q1,q2⟩:=h;cases rx;obtain⟨u1,u2,rfl,r1,r2⟩:=vals2 rv;cases (show u1=Value.ref b from r1);obtain⟨z,hd,xs,rel,dd⟩:=nJ I.hok hH;have hl:xs.length<=sizeLine:=by rw[<-fh rel];exact z
 refine qb F.slot_dict_setdefault dd.typeIs F.entry_dict_setdefault ?_ (F.args_dict_setdefault_3 _ _ _);show wpAny _ _ (Builtin.Dict.keyAndDefault "setdefault" ⟨[.ref d,.ref b,u2],[]⟩ >>= _) _ _ s;unfold Builtin.Dict.keyAndDefault;refine xj (xj (Kr dd.typeIs ?_));refine xO ?_;show wpAny _ _ (if (d==sysModules)=true then _ else(dictSetDefault d (.ref b) u2>>=_)) _ _ s;rw[xG (by rw[hd];exact uG)];have rk:=rel.val k;refine xj (LR (tupleKind_room_in1 hu) (lr I.hok hB) dd (λp hp=>?_) (λhn h' dd' hs=>?_) hl)
 .rw[hp] at rk;cases e:qx xI k with
  |none=>rw[e] at rk;exact rk.elim
  |some u=>rw[e] at rk;exact xO ⟨_,rfl,u,H,I.tok _,rk,q1 u e⟩
 .rw[hn] at rk;have e:qx xI k=none:=by
   cases e:qx xI k with
   |none=>rfl
   |some u=>rw[e] at rk;exact rk.elim
  refine xO ⟨_,rfl,y,_,?_,r2,q2 e⟩;obtain⟨q,es,ep,hq,h2,h3,h4,_,h5⟩:=dd';refine oO I (by rw[hH];exact True.intro) hs ⟨q,hq⟩ ⟨by rw[ze,g_];lia,hd,_,KT.keeps (Ci rel ⟨rfl,hB,r2⟩) λc ys ec=>?_,q,es,ep,hq,h2,h3,h4,h5⟩;rw[yx (sI ec hH (λz=>nomatch z))];exact ec
end
end L2
namespace L2
open PySem PySem.Spec PyProof.Rows PySem.W
def hX (h:Heap)(d:Addr)(es:Array DictEntry)(ep:Nat):Prop:=∃od,h.get? d=some od/\od.ExactDict/\od.data=.dict es ep
section
variable {prog:Program} {w:World} {A:Around}
def hX.at (x:hX h d es ep)(k:∀o,h.get? d=some o->h'.get? d=some o):hX h' d es ep:=let ⟨o,e,r⟩:=x;⟨o,k o e,r⟩
def TQ (hh:A.handled=none)(I d:Addr)(hne:d≠I)(es:Array DictEntry)(ep:Nat) :
  Walks prog w A I [I,d] [I] es.size (λi v=>∃en,es[i]?=some en/\v=en.val) (λi h=>h.IsValIter I d i es.size ep/\hX h d es ep) where
 sub:=λb hb=>xX.mpr (.inl (zF.mp hb))
 frame:=λ_ _ _ st hk=>⟨let ⟨o,e,r⟩:=st.1;⟨o,hk I (by simp) o e,r⟩,st.2.at λo e=>hk d (by simp) o e⟩
 item:=λi s Q E hi st hQ=>by obtain⟨od,e1,e2,e3⟩:=st.2;have hx:es[i]?=some es[i]:=me hi;refine T6 st.1 e1 e2 e3 hx λh' hit' hs'=>?_;exact hQ _ h' s.toks ⟨_,hx,rfl⟩ ⟨hit',st.2.at λo e=>(hs'.2 d hne).trans e⟩ λb o hb e=>(hs'.2 b λz=>hb (by simp[z])).trans e
 done:=λs Q E st hQ=>by obtain⟨od,e1,e2,e3⟩:=st.2;exact T5 hh st.1 e1 e2 e3 (by simp) λh' he'=>hQ h' s.toks λb o hb e=>he' b o (λz=>hb (by simp[z])) e
 self:=λ_ _ _ _ st hQ=>wpAny_pyIter_valiter st.1 hQ
def M8 (hh:A.handled=none)(I d:Addr)(hne:d≠I)(es:Array DictEntry)(ep:Nat) :
  Walks prog w A I [I,d] [I] es.size (λi v=>∃en,es[i]?=some en/\v=en.key) (λi h=>h.IsKeyIter I d i es.size ep/\hX h d es ep) where
 sub:=λb hb=>xX.mpr (.inl (zF.mp hb))
 frame:=λ_ _ _ st hk=>⟨let ⟨o,e,r⟩:=st.1;⟨o,hk I (by simp) o e,r⟩,st.2.at λo e=>hk d (by simp) o e⟩
 item:=λi s Q E hi st hQ=>by obtain⟨od,e1,e2,e3⟩:=st.2;have hx:es[i]?=some es[i]:=me hi;refine T4 st.1 e1 e2 e3 hx λh' hit' hs'=>?_;exact hQ _ h' s.toks ⟨_,hx,rfl⟩ ⟨hit',st.2.at λo e=>(hs'.2 d hne).trans e⟩ λb o hb e=>(hs'.2 b λz=>hb (by simp[z])).trans e
 done:=λs Q E st hQ=>by obtain⟨od,e1,e2,e3⟩:=st.2;exact T3 hh st.1 e1 e2 e3 (by simp) λh' he'=>hQ h' s.toks λb o hb e=>he' b o (λz=>hb (by simp[z])) e
 self:=λ_ _ _ _ st hQ=>wpAny_pyIter_keyiter st.1 hQ
def Tg:KdlSrc prog w "dict_values" r d es.size (λi v=>∃en,es[i]?=some en/\v=en.val) (λh=>h.IsValuesView r d/\hX h d es ep) where
 type:=λ_ hm=>hm.1.typeIs
 there:=λ_ hm=>⟨let ⟨_,ho,_⟩:=hm.1;yK ho,let ⟨_,ho,_⟩:=hm.2;yK ho⟩
 keep:=λ_ _ hm hk=>⟨let ⟨o,ho,x⟩:=hm.1;⟨o,hk r (.inl rfl) o ho,x⟩,hm.2.at λo e=>hk d (.inr rfl) o e⟩
 notList:=by decide
 notTuple:=by decide
 hint:=λ_ _ _ _ hm hq=>kdl_hint_values hm.1.typeIs hq
 iter:=λ_ s hh hm=>by obtain⟨od,e1,e2,e3⟩:=hm.2;exact⟨_,_,(λ_ _ hq=>T1 hm.1 e1 e2 e3 hq),TQ hh _ d (we (yK e1)) es ep,⟨⟨_,wJ _ rfl,rfl,rfl⟩,hm.2.at λo e=>yZ _ e⟩⟩
def Tf (lo:(d==sysModules)=false):KdlSrc prog w "dict" d d es.size (λi v=>∃en,es[i]?=some en/\v=en.key) (λh=>hX h d es ep) where
 type:=λ_ hm=>let ⟨_,e1,e2,_⟩:=hm;⟨_,e1,e2.1⟩
 there:=λ_ hm=>let ⟨_,e1,_⟩:=hm;⟨yK e1,yK e1⟩
 keep:=λ_ _ hm hk=>hm.at λo e=>hk d (.inl rfl) o e
 notList:=by decide
 notTuple:=by decide
 hint:=λ_ _ _ _ hm hq=>let ⟨_,e1,e2,_⟩:=hm;kdl_hint_dict ⟨_,e1,e2.1⟩ hq
 iter:=λ_ s hh hm=>by obtain⟨od,e1,e2,e3⟩:=id hm;exact⟨_,_,(λ_ _ hq=>TZ lo e1 e2 e3 hq),M8 hh _ d (we (yK e1)) es ep,⟨⟨_,wJ _ rfl,rfl,rfl⟩,hm.at λo e=>yZ _ e⟩⟩
end
section
variable {X:Cx}
def md (v d:Addr):HO:=.ext λh=>h.IsValuesView v d
def Ig:V->List V->Hp->VK->Prop:=λx vs H Q=>∃d xI,x=.ref d/\vs=[]/\H d=some (.dT xI)/\∀v,H v=none->Q (.ref v) (upd H v (md v d))
def NF:MtM X "dict.values" Ig:=by intro xf s σ H x vs v us Q I rx rv h;obtain⟨d,xI,rfl,rfl,hH,q⟩:=h;cases rx;have hus:=rv.zero;subst hus;obtain⟨z,hd,xs,rel,dd⟩:=nJ I.hok hH;refine qb F.slot_dict_values dd.typeIs F.entry_dict_values ?_ (F.args_dict_values_1 _);refine xj ?_;unfold Builtin.Dict.noArgs;refine xj (Kr dd.typeIs ?_);show wpAny _ _ (pure d) _ _ s;refine xO ?_;show wpAny _ _ (Builtin.Dict.showsAll d>>=_) _ _ s;unfold Builtin.Dict.showsAll;rw[xG (by rw[hd];exact uG)];refine xj (xO ?_);refine xj (vM (xO ⟨_,rfl,.ref s.heap.objs.size,_,I.laid (t':=s.toks) (o:=md s.heap.objs.size d) (λb ob q=>yZ _ q) (ym _) ?_,rfl,q _ (I.hok.fresh (ym _))⟩));have at0:(s.heap.push {cls:=.type "dict_values", data:=.fields #[.ref d]}).get? s.heap.objs.size=some {cls:=.type "dict_values", data:=.fields #[.ref d]}:=wJ _ rfl;exact⟨⟨_,at0,rfl,rfl⟩,⟨_,at0⟩,λh1 h2 x k=>let ⟨o,e,r⟩:=x;⟨o,k o e,r⟩⟩
theorem Ho:∀ {l:List α} {m:List β},Paired F l m->∀ {i:Nat} {y:β},m[i]?=some y->∃x,l[i]?=some x/\F x y
 |_,_,.nil,i,y,h=>by simp at h
 |_,_,.cons r t,0,y,h=>by cases h;exact⟨_,rfl,r⟩
 |_,_,.cons r t,i+1,y,h=>Ho t (i:=i) (by simpa using h)
theorem i8:∀ {l:List α} {m:List β},l.length=m.length->(∀(i:Nat) (a:α) (b:β),l[i]?=some a->m[i]?=some b->F a b)->Paired F l m
 |[],[],_,_=>.nil
 |[],_::_,h,_=>by simp at h
 |_::_,[],h,_=>by simp at h
 |a::l,b::m,h,f=>.cons (f 0 a b rfl rfl) (i8 (by simpa using h) λi x y h1 h2=>f (i+1) x y (by simpa using h1) (by simpa using h2))
theorem Ih (ok:z_ P w H h)(e:H d=some (.dT xI)):∃(es:Array DictEntry) (ep:Nat),hX h d es ep/\es.size=xI.length/\(d==sysModules)=false/\xI.length<=sizeLine/\
  (∀(i:Nat) (en:DictEntry),es[i]?=some en->∃kv:List Key×V,xI[i]?=some kv/\RelV kv.2 en.val/\∃q,en.key=.ref q/\H q=some (.tup (kv.1.map kV))):=by
 obtain⟨z,hd,xs,rel,o,es,ep,h1,h2,h3,h4,_⟩:=nJ ok e;have len:xI.length=xs.length:=fh rel;have hs:es.size=xs.length:=by rw[<-aC,h4,xP]
 refine⟨es,ep,⟨o,h1,h2,h3⟩,by lia,hd,z,λi en hi=>?_⟩;have hi':es.toList[i]?=some en:=by rw[JT];exact hi
 rw[h4,ue] at hi';cases ex:xs[i]? with
 |none=>rw[ex] at hi';cases hi'
 |some x=>rw[ex] at hi';cases hi';obtain⟨kv,ekv,r1,r2,r3⟩:=Ho rel ex;exact⟨kv,ekv,r3,x.2.1,rfl,r2⟩
def HU (xs:List V)(H:Hp)(Q:VK):Prop:=∃v d xI,xs=[.ref v]/\H v=some (md v d)/\H d=some (.dT xI)/\∀p,H p=none->Q (.ref p) (upd H p (.lst (xI.map (·.2))))
def La (hc:X.calm=true):vv X (.type "list") HU:=by
 intro xf s σ H xs us Q I r h;obtain⟨v,d,xI,rfl,hv,hH,q⟩:=h;obtain⟨u,rfl,ru⟩:=vals1 r;cases ru;obtain⟨es,ep,raw,sz,hd,z,all⟩:=Ih I.hok hH;obtain⟨vw,_,_⟩:=(show wq X.prog X.w H s.heap v (md v d) from I.hok v _ hv)
 refine kdl_call Tg (I.ok.hd hc) ⟨vw,raw⟩ (by lia) λh' tk acc' c' hk hD hacc=>?_;refine⟨.ref s.heap.objs.size,_,I.laid (t':=tk) (o:=.lst (xI.map (·.2))) hk (ym _) ⟨by rw[xP];exact z,acc'.toList,c',?_,by rw[Array.toArray_toList];exact hD⟩,rfl,q _ (I.hok.fresh (ym _))⟩;refine i8 (by have e1:=hacc.1;have e2:acc'.toList.length=acc'.size:=aC;rw[xP,e2];lia) λi a b ha hb=>?_;rw[ue] at ha;rw[JT] at hb;obtain⟨en,e1,rfl⟩:=hacc.2 i b hb;obtain⟨kv,e2,e3,_⟩:=all i en e1;rw[e2] at ha;cases ha;exact e3
def HS (xs:List V)(H:Hp)(Q:VK):Prop:=∃d xI,xs=[.ref d]/\H d=some (.dT xI)/\∀p qs,H p=none->Paired (λ(kv:List Key×V) (q:Addr)=>H q=some (.tup (kv.1.map kV))) xI qs->Q (.ref p) (upd H p (.lst (qs.map V.ref)))
theorem K9 (hc:X.calm=true):vv X (.type "list") HS:=by
 intro xf s σ H xs us Q I r h;obtain⟨d,xI,rfl,hH,q⟩:=h;obtain⟨u,rfl,ru⟩:=vals1 r;cases ru;obtain⟨es,ep,raw,sz,hd,z,all⟩:=Ih I.hok hH;refine kdl_call (Tf hd) (I.ok.hd hc) raw (by lia) λh' tk acc' c' hk hD hacc=>?_;have e2:acc'.toList.length=acc'.size:=aC;have e1:=hacc.1;have ex:∀(i:Nat) (b:Value),acc'.toList[i]?=some b->∃q,b=.ref q/\∃kv,xI[i]?=some kv/\H q=some (.tup (kv.1.map kV)):=λi b hb=>by rw[JT] at hb;obtain⟨en,e1,rfl⟩:=hacc.2 i b hb;obtain⟨kv,e2,_,q,e3,e4⟩:=all i en e1;exact⟨q,e3,kv,e2,e4⟩
 have split:∀(xI:List (List Key×V)) (bs:List Value),xI.length=bs.length->(∀(i:Nat) (b:Value),bs[i]?=some b->∃q,b=.ref q/\∃kv,xI[i]?=some kv/\H q=some (.tup (kv.1.map kV)))->
   ∃qs:List Addr,bs=qs.map Value.ref/\Paired (λ(kv:List Key×V) (q:Addr)=>H q=some (.tup (kv.1.map kV))) xI qs:=λxI=>by
  induction xI with
  |nil=>intro bs hl _;cases bs with
   |nil=>exact⟨[],rfl,.nil⟩
   |cons _ _=>simp at hl
  |cons kv xI ih=>intro bs hl hx;cases bs with
   |nil=>simp at hl
   |cons b bs=>
    obtain⟨q,rfl,kv',e1,e2⟩:=hx 0 b rfl;cases e1;obtain⟨qs,rfl,r⟩:=ih bs (by simpa using hl) λi c hc=>by simpa using hx (i+1) c (by simpa using hc)
    exact⟨q::qs,rfl,.cons e2 r⟩
 obtain⟨qs,eq,pr⟩:=split xI acc'.toList (by lia) ex;have lq:qs.length=xI.length:=(fh pr).symm;refine⟨.ref s.heap.objs.size,_,I.laid (t':=tk) (o:=.lst (qs.map V.ref)) hk (ym _) ⟨by rw[xP];lia,acc'.toList,c',?_,by rw[Array.toArray_toList];exact hD⟩,rfl,q _ qs (I.hok.fresh (ym _)) pr⟩;rw[eq];refine i8 (by rw[xP,xP]) λi a b ha hb=>?_;rw[ue] at ha hb;cases e:qs[i]? with
 |none=>rw[e] at ha;cases ha
 |some q=>rw[e] at ha hb;cases ha;cases hb;rfl
end
end L2
namespace L2
open PySem PySem.Spec PyProof.Rows
section
variable {K:xw} {B:FB} {φ:y_} {σ:St} {τ:xV} {H H' H'':Hp} {fr:Bool}
def RS.wrOd (R:RS K B φ σ τ H)(hi:yo τ i=.od ks)(e1:σ[i]?=some (some (.ref a)))(r:KvR (Av B φ) H ks' hk'):RS K B φ σ (τ.set i (.od ks')) (upd H a (.dT hk')):=by
 have en:=R.ent i;rw[hi] at en;have ow:Owd (yo τ i):=by rw[hi];trivial
 obtain⟨a',hk,e1',e2,e3,e4,_⟩:=en;rw[e1] at e1';cases e1';have hl:i<τ.length:=by
  by_cases h:i<τ.length
  .exact h
  .rw[jQ (by lia)] at hi;cases hi
 have mv:∀c o,H c=some o->¬Av B φ c->(upd H a (.dT hk')) c=some o/\¬Av B φ c:=λc o e n=>⟨by rw[yx (λz=>n (by rw[z];exact .inr ⟨i,e2⟩))];exact e,n⟩
 have nsa:∀c,SA B φ (τ.set i (.od ks')) c->SA B φ τ c/\c≠a:=λc s=>by
  rcases s with s|⟨j,s,hj⟩
  .exact⟨.inl s,λz=>R.f0 a (R.s0 a (z▸s)) e3⟩
  .by_cases e:j=i
   .subst e;rw[jR hl] at hj;cases hj
   .rw[vB e] at hj;exact⟨.inr ⟨j,s,hj⟩,λz=>e (R.injG i j a ow e2 (z▸s)).symm⟩
 refine⟨R.fN,R.s0,λc o e n=>?_,λc s=>?_,λj k c hj f1 f2=>?_,λj c e=>?_,by rw[q8];exact R.len,λj=>?_,λp hp=>wY mv _ _ (R.gh p hp)⟩
 .rw[yx (zP e e3)];exact R.ext c o e n
 .obtain⟨s',hne⟩:=nsa c s;obtain⟨n,b,q,z⟩:=R.sst c s';exact⟨n,b,by rw[yx hne];exact q,z⟩
 .by_cases e:j=i
  .subst e;exact R.injG j k c ow f1 f2
  .rw[vB e] at hj;exact R.injG j k c hj f1 f2
 .by_cases z:c=a
  .rw[z,zp];exact⟨(λz=>nomatch z),λ_ z=>nomatch z⟩
  .rw[yx z];exact R.oN j c e
 .by_cases e:j=i
  .subst e;rw[jR hl];exact⟨a,hk',e1,e2,e3,zp,Paired.mapP r λp q z=>⟨z.1,wY mv _ _ z.2⟩⟩
  .rw[vB e];refine rL (R.ent j) rfl (λt v=>wY mv t v) (λt v=>uB mv t v) (λc o hj f1 f2=>?_) λc ns z=>?_
   .rw[yx (λ(z:c=a)=>e (R.injG i j a ow e2 (by rw[<-z];exact f1)).symm)];exact f2
   .refine⟨?_,λP q h=>by rw[yx (sI (z.2 P q h) e4 (λq=>nomatch q))];exact z.2 P q h⟩;rcases z.1 with ⟨o,z⟩|z
    .exact .inl ⟨o,by rw[yx (sI z e4 (λq=>nomatch q))];exact z⟩
    .exact .inr z
def GX (R:RS K B φ σ τ H)(x:HX B φ τ H H')(hi:yo τ i=.od ks)(e1:σ[i]?=some (some (.ref a))):∃hk,H' a=some (.dT hk)/\KvR (Av B φ) H' ks hk:=by have en:=(R.hx x).ent i;rw[hi] at en;obtain⟨a',hk,q1,_,_,q4,r⟩:=en;rw[e1] at q1;cases q1;exact⟨hk,q4,r⟩
theorem IW:∀(τ:xV) (i:Nat),τ.set i (yo τ i)=τ
 |[],_=>rfl
 |x::r,0=>rfl
 |x::r,i+1=>by show x::r.set i (yo r i)=_;rw[IW r i]
def RZ (i:Nat):DS:=λG τ=>G.nx (τ.set i (.od []))
def G8:zH K fr (j3 Jk (qM i)) (RZ i):=λB φ σ τ H E G R hd e p hp=>e.nx _ _ _ _ (R.setNew (x:=.od []) (HX.new R hp _) hp (by rw[zp];exact⟨(λz=>nomatch z),λ_ z=>nomatch z⟩) (λz=>nomatch z) ⟨p,[],rfl,eB,Mk R hp,zp,.nil⟩) hd
def putD (ks:List (List Int×Tr))(k:List Int)(t:Tr):List (List Int×Tr):=if (ks.any λp=>decide (p.1=k))=true then ks else ks++[(k,t)]
theorem Gj (r:KvR F H ks hk)(k:List Int):(ks.any λp=>decide (p.1=k))=(qx hk (k.map Sum.inl)).isSome:=by
 rw[<-cT]
 induction r with
 |nil=>rfl
 |cons h t ih=>
  rw[aI,aI,ih,h.1];congr 1;rw[aW];constructor
  .intro e;rw[e]
  .intro e;exact(List.map_inj_right λx y h=>Sum.inl.inj h).mp e
def lp (k:List Int):(k.map (Sum.inl:Int->Key)).map kV=k.map V.int:=by rw[vi];rfl
def IC (i:Nat)(dk d:DE):DS:=λG τ=>match yo τ i with
 |.od ks=>dk τ λk=>d τ λt=>∃ns:List Int,k=r9 ns/\ks.length<sizeLine/\G.nx (τ.set i (.od (putD ks ns t)))
 |_=>False
theorem Pz {i:Nat}{tk te:TE}{dk d:DE}(hk:yf K true tk dk)(h:yf K true te d):zH K fr (t8 (tBM K "dict" Ia (uD i) (uC tk (uC te vP)))) (IC i dk d):=λB φ σ τ H E G R hd e=>by
 have en:=R.ent i;unfold IC at hd;revert en hd;cases hi:yo τ i with
 |od ks=>
  intro hd ⟨a,hk0,e1,e2,e3,e4,r⟩;refine⟨_,e1,.inr (.inr (.inl ⟨rfl,.inr ⟨_,e4⟩⟩)),hk B φ σ τ H _ _ R hd λt0 v0 H0 x0 k0 r0=>h B φ σ τ H0 _ _ (R.hx x0) k0 λt v H1 x1 k1 r1=>?_⟩;obtain⟨ns,rfl,hz,k1⟩:=k1;obtain⟨hk',f4,f5⟩:=GX R (x0.trans x1) hi e1;obtain⟨b,ws,rfl,_,hb,rl⟩:=x1.rep (F:=Av B φ) (λa s=>R.sAv s) r0;rw[tP rl] at hb;have an:=Gj f5 ns;refine⟨a,b,hk',ns.map Sum.inl,v,rfl,rfl,f4,by rw[lp];exact hb,by rw[<-fh f5];exact hz,λu hu=>?_,λhn=>?_⟩
  .have ep:putD ks ns t=ks:=xJ (by rw[an,hu];rfl);rw[ep] at k1;have es:τ.set i (.od ks)=τ:=by rw[<-hi];exact IW τ i
   rw[es] at k1;exact e.nx φ σ _ _ (R.hx (x0.trans x1)) k1
  .have ep:putD ks ns t=ks++[(ns,t)]:=xG (by rw[an,hn];exact uG);rw[ep] at k1;exact e.nx φ σ _ _ ((R.hx (x0.trans x1)).wrOd hi e1 (i_ (a:=(ns,t)) (b:=(ns.map Sum.inl,v)) f5 ⟨rfl,r1⟩)) k1
 |_=>exact λz _=>z.elim
def EV (i:Nat):DE:=λτ KK=>match yo τ i with|.od ks=>KK (.lst (ks.map (·.2)))|_=>False
theorem Gn:∀ {ks:List (List Int×Tr)} {hk:List (List Key×V)},KvR F H ks hk->yt F H (ks.map (·.2)) (hk.map (·.2))
 |_,_,.nil=>rfl
 |_,_,.cons h t=>⟨_,_,rfl,h.2,Gn t⟩
theorem Pq:zw K (tCB HU (uC (Ji K "dict" Ig (uD i)) vP)) (EV i):=λB φ σ τ H Q KK R hd q=>by
 have en:=R.ent i;unfold EV at hd;revert en hd;cases hi:yo τ i with
 |od ks=>
  intro hd ⟨a,hk,e1,e2,e3,e4,r⟩;refine⟨_,e1,.inr (.inr (.inl ⟨rfl,.inr ⟨_,e4⟩⟩)),a,hk,rfl,rfl,e4,λv hv=>?_⟩;have va:v≠a:=λz=>by rw[z,e4] at hv;cases hv
  refine⟨v,a,hk,rfl,zp,by rw[yx va.symm];exact e4,λp hp=>?_⟩;have x1:HX B φ τ H (upd H v (md v a)):=HX.new R hv _;have pn:H p=none:=x1.none hp;have x2:=HX.new (R.hx x1) hp (.lst (hk.map (·.2)));exact q _ p _ _ (x1.trans x2) hd pn zp (j0 hp (x1.repL (F:=Av B φ) (λa s=>R.sAv s) (Gn r)))
 |_=>exact λz _=>z.elim
def huR (hr:wR k A):A.units+1<cLine:=kZ (Kf (by decide:1<=64) _) hr.units
end
section
variable {prog:Program} {w:World} {A:Around} {E:Value->Shared->Prop} {s:Shared}
end
section
variable {X:Cx} {e:Expr} {te:TE}
end
section
variable {K:xw}
end
end L2
namespace L2
open PySem Trn
def ud (n k:Nat):List F2:=(List.replicate n ((0:Int),(1:Int))).set k (1,1)
def Q1:yb:=λts KK=>∃(xa:List Pol.R3) (n:Nat),ts=[.tup (xa.map xg),uq n]/\n<xa.length/\xa.length<=8/\KK (wsT (ud xa.length n))
def QM:yb:=λts KK=>∃(xa:List Pol.R3) (p:P2),ts=[.tup (xa.map xg),pT p]/\yD xa=true/\Pk 600 p/\∀L,hV xa (u6 xa (uE xa p)) L->(∀x∈L,Bx 30 x.2/\BxM xa x)->KK (.lst (L.map (qT xa)))
def QR:yb:=λts KK=>∃xa:List Pol.R3,ts=[.tup (xa.map xg)]/\yD xa=true/\zm xa/\∀Ls,RP xa Ls->KK (.lst (Ls.map (qT xa)))
def TR (n k:Nat):ud n k=((List.replicate n (0:Int)).set k 1).map λm=>lfr m 1:=by unfold ud;rw[B6,B5];rfl
def o8 (n k:Nat):GW n (ud n k):=⟨by unfold ud;rw[q8,aP],λw hw=>by
 rcases Kd hw with h|h
 .rw[(List.mem_replicate.mp h).2];exact JQ (by decide)
 .rw[h];exact JQ (by decide)⟩
def gG (k:Pol.R3->Int)(h:i<xa.length):wsum k (xa.zip (ud xa.length i))=(k (xZ xa i),1):=by
 refine Bp (T:=1) ?_ (nq _ _ λy hy=>((o8 xa.length i).2 _ (mB hy).2).pos);have:=IU k (T:=1) (by decide) xa ((List.replicate xa.length (0:Int)).set i 1);rw[<-TR,nX k xa _ i 1 (by rw[aP];exact h) h,lA] at this;have e1:(List.replicate xa.length (0:Int)).getD i 0=0:=by rw[jz,BX,xJ h];rfl
 rw[e1] at this;have e:(0:Int)+(1-0)*k (xZ xa i)=k (xZ xa i)*1:=by lia
 rw[e] at this;exact this
def G_ (h:i<xa.length):vy (xa.zip (ud xa.length i))=xg (xZ xa i):=by unfold vy;rw[gG k0 h,gG k1 h,gG k2 h];show xg ((xZ xa i).1,(xZ xa i).2.1,(xZ xa i).2.2.fdiv 1)=_;rw[Int.fdiv_one]
def Ha (hf:yD xa=true)(h:i<xa.length):qg (wsum k0 (xa.zip (ud xa.length i))) (wsum k1 (xa.zip (ud xa.length i))):=by rw[gG k0 h,gG k1 h];have d:=((wW hf).2.1 _ (gP h)).1;refine⟨rfl,rfl,λz=>?_⟩;have z1:(xZ xa i).1=0:=z.1;have z2:(xZ xa i).2.1=0:=z.2;lia
def Ry (xa:List Pol.R3):(List.range xa.length).map (xZ xa)=xa:=by
 refine J8 λi=>?_;rw[ue];by_cases h:i<xa.length
 .rw[BW h,aj h];rfl
 .rw[j_ (by rw[B4];lia),j_ (by lia)];rfl
def Ml (h:yo τ i=.ow ts)(k:a G (τ.set i (.fz (.lst ts)))):bV i a G τ:=by unfold bV;rw[h];exact k
def Tq (h:pln t=true):zE t t=true:=SeqAt.eqv_refl _ h
theorem tD:∀(n:Nat) (l:List Nat),l.Nodup->(∀x∈l,x<n)->l.length<=n
 |0,l,_,h=>by
  cases l with
  |nil=>exact ym _
  |cons a l=>exact absurd (h a xU) (by lia)
 |n+1,l,nd,h=>by
  by_cases m:n∈l
  .have:=tD n (l.erase n) (nd.erase n) λx hx=>by have:=(nd.mem_erase_iff).mp hx;have:=h x this.2;lia
   rw[List.length_erase_of_mem m] at this;lia
  .have:=tD n l nd λx hx=>by have:=h x hx;have:x≠n:=λe=>m (e▸hx);lia
   lia
def RS1 (xa:List Pol.R3)(x:SX):Prop:=wg xa x/\Bx 30 x.2/\∃v∈xS xa,brk v=true/\x.1∈u6 xa (uE xa (xt v))
theorem Hu (hf:yD xa=true)(FR:zm xa)(hx:RS1 xa x)(hy:RS1 xa y)(e:x.2=y.2):zL xa x=zL xa y:=by
 obtain⟨G,_,v,hv,_,hs⟩:=hx;obtain⟨G',_,v',hv',_,hs'⟩:=hy;cases ef:oY x.2.1 x.2.2 ((xS xa).map xt) with
 |none=>obtain⟨f,hf'⟩:=Mf (a:=x.2.1) (b:=x.2.2) (ps:=(xS xa).map xt) (λz=>by rw[List.map_eq_nil_iff] at z;rw[z] at hv;cases hv);rw[ef] at hf';cases hf'
 |some f=>rw[FQ hf FR hv hs G ef,FQ hf FR hv' hs' G' (by rw[<-e];exact ef),e]
def Hv {xa:List Pol.R3}(hf:yD xa=true)(FR:zm xa){Ls:List SX}(h:∀x∈Ls,RS1 xa x)(nd:(Ls.map (zL xa)).Nodup):Ls.length<=4000:=by
 have nd2:(Ls.map λx=>((x.2.1+30)*61+(x.2.2+30)).toNat).Nodup:=by rw[List.Nodup,Ke] at nd ⊢;refine(dA.mpr λ {a b} s=>?_);have ma:a∈Ls:=s.subset xU;have mb:b∈Ls:=s.subset (yI _ xU);have ne:=dA.mp nd s;intro e;refine ne (Hu hf FR (h a ma) (h b mb) ?_);obtain⟨_,⟨⟨a1,a2⟩,a3,a4⟩,_⟩:=h a ma;obtain⟨_,⟨⟨b1,b2⟩,b3,b4⟩,_⟩:=h b mb;exact zC (by lia) (by lia)
 have:=tD 3721 _ nd2 λn hn=>by obtain⟨x,hx,rfl⟩:=zT.mp hn;obtain⟨_,⟨⟨a1,a2⟩,a3,a4⟩,_⟩:=h x hx;lia
 rw[xP] at this;lia
def Q6 {xa:List Pol.R3}(hf:yD xa=true)(FR:zm xa){Ls:List SX}(h:∀x∈Ls,RS1 xa x)(nd:(Ls.map (zL xa)).Nodup)(h14:∀x∈Ls,Bx 14 x.2):Ls.length<=1000:=by
 have nd2:(Ls.map λx=>((x.2.1+14)*29+(x.2.2+14)).toNat).Nodup:=by rw[List.Nodup,Ke] at nd ⊢;refine(dA.mpr λ {a b} s=>?_);have ma:a∈Ls:=s.subset xU;have mb:b∈Ls:=s.subset (yI _ xU);have ne:=dA.mp nd s;intro e;refine ne (Hu hf FR (h a ma) (h b mb) ?_);obtain⟨⟨a1,a2⟩,a3,a4⟩:=h14 a ma;obtain⟨⟨b1,b2⟩,b3,b4⟩:=h14 b mb;exact zC (by lia) (by lia)
 have:=tD 841 _ nd2 λn hn=>by obtain⟨x,hx,rfl⟩:=zT.mp hn;obtain⟨⟨a1,a2⟩,a3,a4⟩:=h14 x hx;lia
 rw[xP] at this;lia
def kyR (r:Pol.R3):List Int:=[r.1,r.2.1,r.2.2]
def qV (xa:List Pol.R3)(Ls:List SX)(x:SX):List SX:=if zL xa x∈Ls.map (zL xa) then Ls else Ls++[x]
def kvX (xa:List Pol.R3)(Ls:List SX):List (List Int×Tr):=Ls.map λx=>(kyR (zL xa x),qT xa x)
def Gp (h:kyR r=kyR s):r=s:=by unfold kyR at h;injection h with h1 h2;injection h2 with h2 h3;injection h3 with h3 h4;exact zC h1 (zC h2 h3)
def Rp (xa:List Pol.R3)(Ls:List SX)(x:SX):putD (kvX xa Ls) (kyR (zL xa x)) (qT xa x)=kvX xa (qV xa Ls x):=by
 unfold putD qV;have e:((kvX xa Ls).any λp=>decide (p.1=kyR (zL xa x)))=decide (zL xa x∈Ls.map (zL xa)):=by
  rw[cV,aJ,mJ,zT];constructor
  .rintro⟨p,hp,e⟩;obtain⟨y,hy,rfl⟩:=zT.mp hp;exact⟨y,hy,Gp (yU e)⟩
  .rintro⟨y,hy,e⟩;exact⟨_,jA hy,wF (by rw[<-e])⟩
 rw[e];by_cases m:zL xa x∈Ls.map (zL xa)
 .rw[xJ (wF m),xJ m]
 .rw[xG (by rw[uU m];exact uG),xG m];unfold kvX;rw[wD];rfl
def HF (h:y∈qV xa Ls x):y∈Ls\/y=x:=by
 unfold qV at h;split at h
 .exact .inl h
 .rcases yz.mp h with h|h
  .exact .inl h
  .exact .inr (zF.mp h)
def HG (h:y∈Ls):y∈qV xa Ls x:=by
 unfold qV;split
 .exact h
 .exact zf _ h
def Rr (xa:List Pol.R3)(Ls:List SX)(x:SX):∃y∈qV xa Ls x,zL xa y=zL xa x:=by
 unfold qV;split
 .rename_i h;obtain⟨y,hy,e⟩:=zT.mp h;exact⟨y,hy,e⟩
 .exact⟨x,wZ _ (zF.mpr rfl),rfl⟩
def Rq (x:SX)(nd:(Ls.map (zL xa)).Nodup):((qV xa Ls x).map (zL xa)).Nodup:=by
 unfold qV;split
 .exact nd
 .rename_i h;rw[wD,dz];refine⟨nd,by simp,λa ha b hb e=>?_⟩;rw[qa,du,zF] at hb;rw[e,hb] at ha;exact h ha
structure RPi (xa vs:List Pol.R3)(Ls:List SX):Prop where
 bx:∀x∈Ls,BxM xa x
 snd:∀x∈Ls,RS1 xa x
 nd:(Ls.map (zL xa)).Nodup
 all:∀v∈vs,∃L,hV xa (u6 xa (uE xa (xt v))) L/\∀x∈L,∃y∈Ls,zL xa y=zL xa x
def RPi.nil (xa:List Pol.R3):RPi xa [] []:=⟨λx hx=>(by cases hx),λx hx=>(by cases hx),(by simp),λv hv=>(by cases hv)⟩
def RPi.put (h:RPi xa vs Ls)(hx:RS1 xa x)(bx:BxM xa x):RPi xa vs (qV xa Ls x):=by
 refine⟨λy hy=>?_,λy hy=>?_,Rq x h.nd,λv hv=>?_⟩
 .rcases HF hy with hy|rfl
  .exact h.bx y hy
  .exact bx
 .rcases HF hy with hy|rfl
  .exact h.snd y hy
  .exact hx
 .obtain⟨L,PL,a⟩:=h.all v hv;exact⟨L,PL,λx hx=>let ⟨y,hy,e⟩:=a x hx;⟨y,HG hy,e⟩⟩
def RPi.done {xa:List Pol.R3}(hf:yD xa=true)(FR:zm xa){Ls:List SX}(h:RPi xa ((xS xa).filter brk) Ls):RP xa Ls:=⟨h.snd,λv hv hb=>h.all v (uR.mpr ⟨hv,hb⟩),Hv hf FR h.snd h.nd,λq=>Q6 hf FR h.snd h.nd λx hx=>h.bx x hx 14 (by decide) q⟩
def Q5 (hf:yD xa=true)(hv:v∈xS xa)(hb:brk v=true)(PL:hV xa (u6 xa (uE xa (xt v))) L)(hx:x∈L)(bx:Bx 30 x.2):RS1 xa x:=⟨(PL.good x hx).2,bx,v,hv,hb,(PL.good x hx).1⟩
end L2
namespace L2
open PySem PySem.Spec PyProof.Rows
section
variable {K:xw} {B:FB} {φ:y_} {σ:St} {τ:xV} {H H' H'':Hp} {fr:Bool}
def tZ (ks:List (List Int×Tr))(k:List Int)(t:Tr):List (List Int×Tr):=if (ks.any λp=>decide (p.1=k))=true then ks.map (λp=>if p.1=k then(p.1,t) else p) else ks++[(k,t)]
def eP (i:Nat)(dk d:DE):DS:=λG τ=>match yo τ i with
 |.od ks=>d τ λt=>dk τ λk=>∃ns:List Int,k=r9 ns/\ks.length<sizeLine/\G.nx (τ.set i (.od (tZ ks ns t)))
 |_=>False
theorem Gm (rt:Rep F H t v):∀ {ks:List (List Int×Tr)} {hk:List (List Key×V)},KvR F H ks hk->KvR F H (ks.map λp=>if p.1=ns then(p.1,t) else p) (hk.map λkv=>if kv.1=ns.map Sum.inl then(kv.1,v) else kv)
 |_,_,.nil=>.nil
 |p::_,q::_,.cons h r=>by
  refine .cons ?_ (Gm rt r);dsimp only;by_cases c:p.1=ns
  .rw[xJ c,xJ (by rw[h.1,c])];exact⟨h.1,rt⟩
  .rw[xG c,xG (λz=>c ((List.map_inj_right λx y e=>Sum.inl.inj e).mp (by rw[<-h.1];exact z)))];exact h
def M_ (r:KvR F H ks hk)(ns:List Int)(rt:Rep F H t v):KvR F H (tZ ks ns t) (putK hk (ns.map Sum.inl) v):=by
 have an:=Gj r ns;rw[<-cT] at an;unfold tZ putK;rw[an];split
 .exact Gm rt r
 .exact i_ (a:=(ns,t)) (b:=(ns.map Sum.inl,v)) r ⟨rfl,rt⟩
theorem Py {i:Nat}{tk te:TE}{dk d:DE}(hk:yf K true tk dk)(h:yf K true te d):zH K fr (Iw (uD i) tk te) (eP i dk d):=λB φ σ τ H E G R hd e=>by
 have en:=R.ent i;unfold eP at hd;revert en hd;cases hi:yo τ i with
 |od ks=>
  intro hd ⟨a,hk0,e1,e2,e3,e4,r⟩;refine h B φ σ τ H _ _ R hd λt v H1 x1 k1 r1=>⟨_,e1,?_⟩
  refine hk B φ σ τ H1 _ _ (R.hx x1) k1 λt0 v0 H2 x2 k2 r0=>?_;obtain⟨ns,rfl,hz,k2⟩:=k2;obtain⟨hk',f4,f5⟩:=GX R (x1.trans x2) hi e1;obtain⟨b,ws,rfl,_,hb,rl⟩:=r0;rw[tP rl] at hb;have rv:=x2.rep (F:=Av B φ) (λa s=>R.sAv s) r1;exact⟨a,_,rfl,rf.t f4 (by rw[lp];exact hb) (by rw[<-fh f5];exact hz),e.nx φ σ _ _ ((R.hx (x1.trans x2)).wrOd hi e1 (M_ f5 ns rv)) k2⟩
 |_=>exact λz _=>z.elim
def EO (i:Nat):DE:=λτ KK=>match yo τ i with|.od ks=>KK (.lst (ks.map λp=>r9 p.1))|_=>False
theorem Il:∀ns:List Int,yt F H (ns.map Tr.int) (ns.map V.int)
 |[]=>rfl
 |n::ns=>⟨_,_,rfl,rfl,Il ns⟩
theorem Gk (nt:∀a,F a->NT (H a)):∀ {ks:List (List Int×Tr)} {hk:List (List Key×V)} {qs:List Addr},KvR F H ks hk->Paired (λ(kv:List Key×V) (q:Addr)=>H q=some (.tup (kv.1.map kV))) hk qs->yt F H (ks.map λp=>r9 p.1) (qs.map V.ref)
 |_,_,_,.nil,.nil=>rfl
 |p::_,_,q::_,.cons h t,.cons e s=>⟨_,_,rfl,⟨q,p.1.map V.int,rfl,λz=>(nt _ z).tp _ e,by rw[e,h.1,lp],Il p.1⟩,Gk nt t s⟩
theorem Po:zw K (tCB HS (uC (uD i) vP)) (EO i):=λB φ σ τ H Q KK R hd q=>by
 have en:=R.ent i;unfold EO at hd;revert en hd;cases hi:yo τ i with
 |od ks=>intro hd ⟨a,hk,e1,e2,e3,e4,r⟩;exact⟨_,e1,a,hk,rfl,e4,λp qs hp pr=>q _ p _ _ (HX.new R hp _) hd hp zp (j0 hp (Gk (λa z=>R.nt z) r pr))⟩
 |_=>exact λz _=>z.elim
end
end L2
namespace L2
open PySem Trn
def sqy (h:n<=16000000):n<sizeLine:=kZ h (by decide)
def t6 (h:n<=16000000):n<=sizeLine:=mC (sqy h)
def Hy (S:List Pol.R3)(r:Pol.R3):pieces (S++[r])=uM (pieces S) r:=by unfold pieces;rw[dq];rfl
def Ny (acc:List Pol.R3)(p:Pol.R3×Pol.R3):v∈zJ r acc p↔v∈acc\/v∈seg r p:=by
 have h1:v∈(if val r p.1*val r p.2<0 then(if x_ r p.1 p.2∈acc then acc else acc++[x_ r p.1 p.2]) else acc)↔v∈acc\/v∈(if val r p.1*val r p.2<0 then[x_ r p.1 p.2] else[]):=by
  split
  .split
   .rename_i c;rw[zF];exact⟨.inl,λz=>z.elim id λe=>e▸c⟩
   .rw[yz]
  .simp
 unfold zJ seg;simp only;split
 .rw[yz,h1,yz,or_assoc]
 .rw[h1,uH]
theorem GI:∀(ps:List (Pol.R3×Pol.R3)) (acc:List Pol.R3),v∈ps.foldl (zJ r) acc↔v∈acc\/v∈ps.flatMap (seg r)
 |[],acc=>by simp
 |p::ps,acc=>by rw[qA,GI ps,Ny,Ka,yz,or_assoc]
def Nw:v∈wV r (xS S)↔v∈xS (S++[r]):=by unfold xS;rw[tw,Hy];unfold uM;rw[GI];generalize pieces S=l;show _↔v∈[]\/v∈wV r l;unfold uI;obtain⟨c,d,e1,e2⟩:=oI r (l.take (kJ l)) (l.drop (kJ l));rw[dB] at e1;rw[e1,e2];simp only[yz,y9,false_or];exact Or.comm
def Ll (h:∀v∈xS S,val r v<=0)(nd:(pieces S).Nodup):xS (S++[r])=xS S:=by unfold xS;rw[Hy];have h:∀v∈pieces S,val r v<=0:=λv hv=>h v (tw.mpr hv);rw[dY (by rw[fA h];exact nd),fA h]
theorem nA (r:Pol.R3)(l:List Pol.R3):(wV r l).length<=2*l.length:=by
 unfold wV;rw[<-oJ l];generalize yX l=ps
 induction ps with
 |nil=>exact ym _
 |cons p ps ih=>
  rw[Ka,ze,wC];have:(seg r p).length<=2:=by unfold seg;split<;>split<;>simp
  lia
def Lu (r:Pol.R3)(l:List Pol.R3)(h:(yX l)[i]?=some p):((yX l).take (i+1)).flatMap (seg r)=((yX l).take i).flatMap (seg r)++seg r p:=by rw[vI,h,pE];simp
def si (f g:F2):F2:=lfr (f.1*g.2) (f.2*g.1)
def Qv:yb:=λts KK=>∃f g:F2,ts=[fT f,fT g]/\Fk 900 f/\Fk 900 g/\g.1≠0/\KK (fT (si f g))
def Sd.to (h:Sd f N D)(eN:N=N')(eD:D=D'):Sd f N' D':=by subst eN eD;exact h
def SN (c:Int):Sd (c,1) c 1:=⟨by show(0:Int)<1;decide,by decide,rfl⟩
def Sd.top_pos (h:Sd f N D)(hN:0<N):0<f.1:=by
 have e:=h.e;rcases y4 0 f.1 with q|q
 .exact q
 .have:=Pol.pp hN h.pf;have:=np q (yl h.pd);lia
def Sd.top_neg (h:Sd f N D)(hN:N<0):f.1<0:=h.neg.mpr hN
def Sd.over (h:Sd f N D)(h':Sd g M E)(hM:0<M):Sd (si f g) (N*E) (D*M):=by refine Sd.lfr (Pol.pp h.pf (h'.top_pos hM)) (Pol.pp h.pd hM) ?_ rfl;have:=h.e;have:=h'.e;grind
def Sd.overN (h:Sd f N D)(h':Sd g M E)(hM:M<0):Sd (si f g) (-(N*E)) (-(D*M)):=by
 have gn:=h'.top_neg hM;have p1:0 < -(f.2*g.1):=by have:=Pol.pp h.pf (show 0 < -g.1 by lia);rw[qY] at this;exact this
 have p2:0 < -(D*M):=by have:=Pol.pp h.pd (show 0 < -M by lia);rw[qY] at this;exact this
 refine Sd.lfr (t:=-(f.1*g.2)) (b:=-(f.2*g.1)) p1 p2 ?_ ?_
 .have:=h.e;have:=h'.e;grind
 .unfold si;rw[GC (by lia),qP p1]
def um (r:Pol.R3)(p:P2):F2:=fmin (r.2.2,1) (zc r p)
def fG (r:Pol.R3)(h:0<v.2.2):Sd (um r (xt v)) (-val r v) v.2.2:=((SN r.2.2).minus (nQ r h)).to (by unfold val;lia) (by lia)
def fat (s x y:F2):F2:=uW x (wL s (fmin y x))
def rQ (r:Pol.R3)(p q:P2):F2:=si (um r p) (fmin (um r p) (um r q))
def oW (r:Pol.R3)(p q:P2):P2:=(fat (rQ r p q) p.1 q.1,fat (rQ r p q) p.2 q.2)
def Mm (hu:0<u.2.2)(hv:0<v.2.2)(h:val r u*val r v<0):Sd (rQ r (xt u) (xt v)) (abs (val r u)*(u.2.2*v.2.2)) (u.2.2*(abs (val r u)*v.2.2+abs (val r v)*u.2.2)):=by
 have a:=fG r hu;have b:=fG r hv;have d:=a.minus b;unfold rQ;generalize val r u=A at *
 generalize val r v=B at *
 unfold abs;rcases j7 A 0 with q|q|q
 .have hB:0<B:=by
   rcases y4 0 B with z|z
   .exact z
   .have:=Pol.nn (yl q) z;lia
  rw[xJ q,xG (by lia)];have M:0 < -A*v.2.2 - -B*u.2.2:=by have h1:=Pol.pp (show 0 < -A by lia) hv;have h2:=Pol.pp hB hu;rw[qZ B];lia
  exact(a.over d M).to rfl (by grind)
 .rw[q,jy] at h;lia
 .have hB:B<0:=by
   rcases y4 B 0 with z|z
   .exact z
   .have:=Pol.pz (yl q) z;lia
  rw[xG (by lia),xJ hB];have M:-A*v.2.2 - -B*u.2.2<0:=by have h1:=Pol.pp q hv;have h2:=Pol.pp (show 0 < -B by lia) hu;rw[qZ A];lia
  exact(a.overN d M).to (by grind) (by grind)
def Fm (ss:Sd s N D)(sx:Sd x a z)(sy:Sd y b w)(hZ:0<Z)(e:(a*(D*(w*z))+N*(b*z-a*w)*z)*Z=X*(z*(D*(w*z)))):fat s x y=Fra.low X Z:=by have S:=sx.plus (ss.times (sy.minus sx));have C:Cop (fat s x y):=nj (Pol.pp sx.pf (ss.times (sy.minus sx)).pf);have:=S.low C;have p:=S.pd;rw[qP p] at this;show uW x (wL s (fmin y x))=_;rw[<-show Fra.low _ _=uW x (wL s (fmin y x)) from this];exact Fra.tu p hZ e
def Ly (hu:0<u.2.2)(hv:0<v.2.2)(h:val r u*val r v<0):oW r (xt u) (xt v)=xt (x_ r u v):=by
 have S:=Mm hu hv h;obtain⟨B,_,cz,_⟩:=rD hu hv h;have e:=B.e;have pg:=B.pg;unfold oW;generalize rQ r (xt u) (xt v)=s at *
 generalize x_ r u v=x at *
 generalize hA:abs (val r u)=A at *
 generalize hB:abs (val r v)=C at *
 generalize (yQ (cw r u v):Int)=g at *
 have e1:g*x.1=C*u.1+A*v.1:=zg (·.1) e;have e2:g*x.2.1=C*u.2.1+A*v.2.1:=zg (·.2.1) e;have e3:g*x.2.2=C*u.2.2+A*v.2.2:=zg (·.2.2) e;refine zC (Fm S (sdx hu) (sdx hv) cz ?_) (Fm S (sdy hu) (sdy hv) cz ?_)
 .refine Int.eq_of_mul_eq_mul_left (a:=g) (by lia) ?_;have k1:g*((u.1*(u.2.2*(A*v.2.2+C*u.2.2)*(v.2.2*u.2.2))+A*(u.2.2*v.2.2)*(v.1*u.2.2-u.1*v.2.2)*u.2.2)*x.2.2)=(u.1*(u.2.2*(A*v.2.2+C*u.2.2)*(v.2.2*u.2.2))+A*(u.2.2*v.2.2)*(v.1*u.2.2-u.1*v.2.2)*u.2.2)*(g*x.2.2):=by grind
  have k2:g*(x.1*(u.2.2*(u.2.2*(A*v.2.2+C*u.2.2)*(v.2.2*u.2.2))))=(g*x.1)*(u.2.2*(u.2.2*(A*v.2.2+C*u.2.2)*(v.2.2*u.2.2))):=by grind
  rw[k1,k2,e1,e3];grind
 .refine Int.eq_of_mul_eq_mul_left (a:=g) (by lia) ?_;have k1:g*((u.2.1*(u.2.2*(A*v.2.2+C*u.2.2)*(v.2.2*u.2.2))+A*(u.2.2*v.2.2)*(v.2.1*u.2.2-u.2.1*v.2.2)*u.2.2)*x.2.2)=(u.2.1*(u.2.2*(A*v.2.2+C*u.2.2)*(v.2.2*u.2.2))+A*(u.2.2*v.2.2)*(v.2.1*u.2.2-u.2.1*v.2.2)*u.2.2)*(g*x.2.2):=by grind
  have k2:g*(x.2.1*(u.2.2*(u.2.2*(A*v.2.2+C*u.2.2)*(v.2.2*u.2.2))))=(g*x.2.1)*(u.2.2*(u.2.2*(A*v.2.2+C*u.2.2)*(v.2.2*u.2.2))):=by grind
  rw[k1,k2,e2,e3];grind
def GZ (hu:0<u.2.2)(hv:0<v.2.2):((um r (xt u)).1*(um r (xt v)).1<0↔val r u*val r v<0):=by
 have a:=fG r hu;have b:=fG r hv;have e:(um r (xt u)).1*(um r (xt v)).1*(u.2.2*v.2.2)=val r u*val r v*((um r (xt u)).2*(um r (xt v)).2):=by have:=a.e;have:=b.e;grind
 rw[<-tz (Pol.pp hu hv),e,tz (Pol.pp a.pf b.pf)]
def GY (hv:0<v.2.2):(0<=(um r (xt v)).1↔val r v<=0):=by have b:=(fG r hv).neg;lia
def off_ne (hu:0<u.2.2)(hv:0<v.2.2)(h:val r u*val r v<0):(fmin (um r (xt u)) (um r (xt v))).1≠0:=by
 have d:=(fG r hu).minus (fG r hv);generalize val r u=A at *
 generalize val r v=B at *
 rcases j7 A 0 with q|q|q
 .have hB:0<B:=by
   rcases y4 0 B with z|z
   .exact z
   .have:=Pol.nn (yl q) z;lia
  have h1:=Pol.pp (show 0 < -A by lia) hv;have h2:=Pol.pp hB hu;have:=d.top_pos (by rw[qZ B];lia);lia
 .rw[q,jy] at h;lia
 .have hB:B<0:=by
   rcases y4 B 0 with z|z
   .exact z
   .have:=Pol.pz (yl q) z;lia
  have h1:=Pol.pp q hv;have h2:=Pol.pp (show 0 < -B by lia) hu;have:=d.top_neg (by rw[qZ A];lia);lia
def Fk.over (h:Fk k f)(h':Fk m g)(g0:g.1≠0):Fk (k+m) (si f g):=qO (λz=>by
 rcases vp.mp z with z|z
 .have:=h.pos;lia
 .exact g0 z) (h.top.mul h'.bot) (h.bot.mul h'.top)
def yJ (s t:Pol.R3):Int:=abs (t.1*s.2.1-t.2.1*s.1)
def ckU (s t:Pol.R3)(p q:Int):Int:=p*t.1+q*s.1
def ckV (s t:Pol.R3)(p q:Int):Int:=p*t.2.1+q*s.2.1
def ckN (s t:Pol.R3)(p q:Int):Int:=p*t.2.2+q*s.2.2
def rB (s t:Pol.R3)(p q:Int):Prop:=ckU s t p q%yJ s t=0/\ckV s t p q%yJ s t=0/\(ckU s t p q≠0\/ckV s t p q≠0)
def ckR (s t:Pol.R3)(p q:Int):Pol.R3:=(ckU s t p q/yJ s t,ckV s t p q/yJ s t,ckN s t p q/yJ s t)
structure CK (s t k:Pol.R3)(p q:Int):Prop where
 p0:0<=p
 p1:p<yJ s t
 q0:0<=q
 q1:q<yJ s t
 ok:rB s t p q
 e:k=ckR s t p q
structure AC (xa L:List Pol.R3):Prop where
 snd:∀k∈L,∃s∈xa,∃t∈xa,∃p q,CK s t k p q
 all:∀(i j:Nat) (s t:Pol.R3),i<j->xa[i]?=some s->xa[j]?=some t->∀p q,CK s t (ckR s t p q) p q->ckR s t p q∈L
def CK.eqs (h:CK s t k p q):yJ s t*k.1=ckU s t p q/\yJ s t*k.2.1=ckV s t p q/\k.2.2=ckN s t p q/yJ s t/\(k.1≠0\/k.2.1≠0):=by
 obtain⟨_,_,_,_,⟨o1,o2,o3⟩,rfl⟩:=h;have e1:yJ s t*(ckU s t p q/yJ s t)=ckU s t p q:=dm (JY o1);have e2:yJ s t*(ckV s t p q/yJ s t)=ckV s t p q:=dm (JY o2);refine⟨e1,e2,rfl,?_⟩;refine fZ λno=>?_;have z1:ckU s t p q/yJ s t=0:=fZ λz=>no (.inl z);have z2:ckV s t p q/yJ s t=0:=fZ λz=>no (.inr z);rw[z1,vH] at e1;rw[z2,vH] at e2;rcases o3 with o|o
 .exact o e1.symm
 .exact o e2.symm
def oC (p0:0<=p)(p1:p<b)(q0:0<=q)(q1:q<b)(hx:-m<=x/\x<=m)(hy:-m<=y/\y<=m)(m0:0<=m):-(2*m)*b<=p*x+q*y/\p*x+q*y<=(2*m)*b:=by
 have g:∀ {p x:Int},0<=p->p<b->-m<=x/\x<=m->-(m*b)<=p*x/\p*x<=m*b:=λ {p x} p0 p1 hx=>by have h1:=wd hx.2 p0;have h2:=wd hx.1 p0;have h3:=zj (yl p1) m0;rw[qY] at h2;have h4:b*m=m*b:=vG ..;lia
 have g1:=g p0 p1 hx;have g2:=g q0 q1 hy;have e1:-(2*m)*b = -(m*b)+-(m*b):=by grind
 have e2:2*m*b=m*b+m*b:=by grind
 lia
def Lk (hF:LF xa)(hs:s∈xa)(ht:t∈xa):0<=yJ s t/\yJ s t<=392:=by obtain⟨⟨s1,s2⟩,s3⟩:=hF.sm s hs;obtain⟨⟨t1,t2⟩,t3⟩:=hF.sm t ht;have a:=sH t1.1 t1.2 s2.1 s2.2 (by decide) (by decide);have b:=sH t2.1 t2.2 s1.1 s1.2 (by decide) (by decide);unfold yJ abs;split<;>lia
def AC.snd_sm (hF:LF xa)(hk:∃s∈xa,∃t∈xa,∃p q,CK s t k p q):((-28<=k.1/\k.1<=28)/\(-28<=k.2.1/\k.2.1<=28))/\(-400<=k.2.2/\k.2.2<=400)/\(k.1≠0\/k.2.1≠0):=by
 obtain⟨s,hs,t,ht,p,q,C⟩:=hk;obtain⟨e1,e2,e3,nz⟩:=C.eqs;obtain⟨p0,p1,q0,q1,_,_⟩:=C;obtain⟨⟨s1,s2⟩,s3⟩:=hF.sm s hs;obtain⟨⟨t1,t2⟩,t3⟩:=hF.sm t ht;have b0:0<yJ s t:=by lia
 have u:=oC p0 p1 q0 q1 t1 s1 (by decide);have v:=oC p0 p1 q0 q1 t2 s2 (by decide);have n:=oC p0 p1 q0 q1 t3 s3 (by decide);change _<=ckU s t p q/\ckU s t p q<=_ at u;change _<=ckV s t p q/\ckV s t p q<=_ at v;change _<=ckN s t p q/\ckN s t p q<=_ at n;generalize yJ s t=b at *
 have lo:∀ {x m:Int},m*b<=b*x->m<=x:=λ {x m} h=>j6 (by rw[vG x b];exact h) b0;have hi:∀ {x m:Int},b*x<=m*b->x<=m:=λ {x m} h=>j6 (by rw[vG x b];exact h) b0;rw[<-e1] at u;rw[<-e2] at v;refine⟨⟨⟨lo u.1,hi u.2⟩,⟨lo v.1,hi v.2⟩⟩,⟨?_,?_⟩,nz⟩
 .rw[e3];exact(J2 b0).mpr n.1
 .rw[e3];have:=Int.ediv_mul_le (ckN s t p q) (show b≠0 by lia);exact j6 (Int.le_trans this n.2) b0
def AC.frow (hF:LF xa)(A:AC xa L)(hk:k∈L):uf k/\(k.1≠0\/k.2.1≠0):=by obtain⟨⟨a,b⟩,c,d⟩:=AC.snd_sm hF (A.snd k hk);exact⟨⟨⟨by lia,by lia⟩,by lia⟩,d⟩
def AC.of_round (hf:yD xa=true)(FR:zm xa)(R:RP xa Ls)(A:AC xa L)(pz:0<P.2.2)(kp:Kp (RR xa Ls) P):Kp (xa++L) P:=λk hk=>by
 have kr:Kp xa P:=λr hr=>kp r (zf _ hr);rcases yz.mp hk with hk|hk
 .exact kr k hk
 obtain⟨s,hs,t,ht,p,q,C⟩:=A.snd k hk;obtain⟨e1,e2,e3,nz⟩:=C.eqs;obtain⟨p0,p1,q0,q1,_,_⟩:=C;have b0:0<yJ s t:=by lia
 obtain⟨w,hw⟩:=Lp hf FR pz kr;obtain⟨v,hv,kv⟩:=R.main hf FR pz kp hw (d:=(k.1,k.2.1)) (λz=>by have z1:k.1=0:=zg (·.1) z;have z2:k.2.1=0:=zg (·.2) z;lia)
 obtain⟨⟨vz,_,Cv⟩,_⟩:=FR.corner hv;have tv:=wd (Cv.kept t ht) p0;have sv:=wd (Cv.kept s hs) q0;have fl:=nN (k.1,k.2.1) vz;have le:zU (k.1,k.2.1) v<=k.2.2:=by
  rw[e3];refine(J2 b0).mpr ?_;have key:yJ s t*dv (k.1,k.2.1) v=p*(val t v+t.2.2*v.2.2)+q*(val s v+s.2.2*v.2.2):=by
   have:yJ s t*dv (k.1,k.2.1) v=(yJ s t*k.1)*v.1+(yJ s t*k.2.1)*v.2.1:=by unfold dv;grind
   rw[this,e1,e2];unfold ckU ckV val;grind
  have m:=wd fl (yl b0);have e:p*(val t v+t.2.2*v.2.2)+q*(val s v+s.2.2*v.2.2)=p*val t v+q*val s v+ckN s t p q*v.2.2:=by unfold ckN;grind
  rw[vH] at tv sv;have f:zU (k.1,k.2.1) v*yJ s t*v.2.2<=ckN s t p q*v.2.2:=by
   have:zU (k.1,k.2.1) v*yJ s t*v.2.2=yJ s t*(zU (k.1,k.2.1) v*v.2.2):=by grind
   lia
  exact j6 f vz
 have m:=zj le (yl pz);have a:val (k.1,k.2.1,zU (k.1,k.2.1) v) P=val k P+k.2.2*P.2.2-zU (k.1,k.2.1) v*P.2.2:=by unfold val;simp only;lia
 change val (k.1,k.2.1,zU (k.1,k.2.1) v) P<=0 at kv;lia
def AC.to_round (hf:yD xa=true)(FR:zm xa)(R:RP xa Ls)(A:AC xa L)(pz:0<P.2.2)(kp:Kp (xa++L) P):Kp (RR xa Ls) P:=λr hr=>by
 have kr:Kp xa P:=λr hr=>kp r (zf _ hr);rcases yz.mp hr with hr|hr
 .exact kr r hr
 obtain⟨x,hx,rfl⟩:=zT.mp hr;obtain⟨G,_⟩:=R.snd x hx;have ki:=kr _ (gP G.i1);have kj:=kr _ (gP G.i2);have gi:=aj G.i1;have gj:=aj G.i2;rw[eg hf G];have T0:0<cr (xh xa x.1.1) (xh xa x.1.2):=G.pos;have A0:0<=cr x.2 (xh xa x.1.2):=G.inc.2;have B0:0<=cr (xh xa x.1.1) x.2:=G.inc.1;have be:=fw (xh xa x.1.1) (xh xa x.1.2) x.2;have ne:x.1.1≠x.1.2:=λe=>by rw[e] at T0;unfold cr at T0;grind
 generalize hi:x.1.1=i at *
 generalize hj:x.1.2=j at *
 generalize ei:xZ xa i=s at *
 generalize ej:xZ xa j=t at *
 have hs:xh xa i=(s.1,s.2.1):=by unfold xh;rw[ei]
 have ht:xh xa j=(t.1,t.2.1):=by unfold xh;rw[ej]
 simp only[hs,ht] at T0 A0 B0 be ⊢;have hk:k2 s=s.2.2:=rfl;have hk':k2 t=t.2.2:=rfl;rw[hk,hk'];generalize hT:cr (s.1,s.2.1) (t.1,t.2.1)=T at *
 generalize hA:cr x.2 (t.1,t.2.1)=a at *
 generalize hB:cr (s.1,s.2.1) x.2=b at *
 obtain⟨be1,be2⟩:=be;have da:=Int.emod_add_mul_ediv a T;have db:=Int.emod_add_mul_ediv b T;have a1:=f_ a (show T≠0 by lia);have a2:=aG a T0;have b1:=f_ b (show T≠0 by lia);have b2:=aG b T0;have a3:0<=a/T:=BL A0 (by lia);have b3:0<=b/T:=BL B0 (by lia);generalize a%T=a0 at *
 generalize a/T=a9 at *
 generalize b%T=b0 at *
 generalize b/T=b9 at *
 have d1:T*(x.2.1-a9*s.1-b9*t.1)=a0*s.1+b0*t.1:=by
  have:T*(x.2.1-a9*s.1-b9*t.1)=x.2.1*T-(T*a9)*s.1-(T*b9)*t.1:=by grind
  rw[this,be1,<-da,<-db];grind
 have d2:T*(x.2.2-a9*s.2.1-b9*t.2.1)=a0*s.2.1+b0*t.2.1:=by
  have:T*(x.2.2-a9*s.2.1-b9*t.2.1)=x.2.2*T-(T*a9)*s.2.1-(T*b9)*t.2.1:=by grind
  rw[this,be2,<-da,<-db];grind
 have eN:(a*s.2.2+b*t.2.2)/T=a9*s.2.2+b9*t.2.2+(a0*s.2.2+b0*t.2.2)/T:=by
  have:a*s.2.2+b*t.2.2=(a0*s.2.2+b0*t.2.2)+T*(a9*s.2.2+b9*t.2.2):=by rw[<-da,<-db];grind
  rw[this,Int.add_mul_ediv_left _ _ (show T≠0 by lia)];lia
 rw[eN];have n1:=wd ki a3;have n2:=wd kj b3;rw[vH] at n1 n2;have split:val (x.2.1,x.2.2,a9*s.2.2+b9*t.2.2+(a0*s.2.2+b0*t.2.2)/T) P=a9*val s P+b9*val t P+val (x.2.1-a9*s.1-b9*t.1,x.2.2-a9*s.2.1-b9*t.2.1,(a0*s.2.2+b0*t.2.2)/T) P:=by unfold val;simp only;grind
 rw[split]
 suffices h:val (x.2.1-a9*s.1-b9*t.1,x.2.2-a9*s.2.1-b9*t.2.1,(a0*s.2.2+b0*t.2.2)/T) P<=0 by lia
 generalize x.2.1-a9*s.1-b9*t.1=u at *
 generalize x.2.2-a9*s.2.1-b9*t.2.1=v at *
 by_cases z:u=0/\v=0
 .obtain⟨rfl,rfl⟩:=z;rw[vH] at d1 d2;have za:a0*T=0:=by rw[<-hT];unfold cr;simp only;grind
  have zb:b0*T=0:=by rw[<-hT];unfold cr;simp only;grind
  have za:=(vp.mp za).resolve_right (by lia);have zb:=(vp.mp zb).resolve_right (by lia);rw[za,zb];simp[val]
 have nz:u≠0\/v≠0:=by lia
 refine kp _ (wZ _ ?_);have uT:a0*s.1+b0*t.1≠0\/a0*s.2.1+b0*t.2.1≠0:=by
  rw[<-d1,<-d2];rcases nz with z|z
  .exact .inl λe=>z ((vp.mp e).resolve_left (by lia))
  .exact .inr λe=>z ((vp.mp e).resolve_left (by lia))
 have hT':s.1*t.2.1-s.2.1*t.1=T:=hT;rcases Nat.lt_or_gt_of_ne ne with lt|lt
 .have eb:yJ s t=T:=by unfold yJ abs;rw[xJ (by grind)];grind
  have eu:ckU s t b0 a0=T*u:=by rw[d1];unfold ckU;lia
  have ev:ckV s t b0 a0=T*v:=by rw[d2];unfold ckV;lia
  have en:ckN s t b0 a0=a0*s.2.2+b0*t.2.2:=by unfold ckN;lia
  have er:ckR s t b0 a0=(u,v,(a0*s.2.2+b0*t.2.2)/T):=by unfold ckR;rw[eb,eu,ev,en,c9 _ (by lia),c9 _ (by lia)]
  rw[<-er];refine A.all i j s t lt gi gj _ _ ⟨b1,by lia,a1,by lia,⟨?_,?_,?_⟩,rfl⟩
  .rw[eb,eu];exact BP ..
  .rw[eb,ev];exact BP ..
  .rw[eu,ev,d1,d2];exact uT
 .have eb:yJ t s=T:=by unfold yJ abs;rw[xG (by grind)];grind
  have eu:ckU t s a0 b0=T*u:=by rw[d1];rfl
  have ev:ckV t s a0 b0=T*v:=by rw[d2];rfl
  have er:ckR t s a0 b0=(u,v,(a0*s.2.2+b0*t.2.2)/T):=by unfold ckR;rw[eb,eu,ev,c9 _ (by lia),c9 _ (by lia)];rfl
  rw[<-er];refine A.all j i t s lt gj gi _ _ ⟨a1,by lia,b1,by lia,⟨?_,?_,?_⟩,rfl⟩
  .rw[eb,eu];exact BP ..
  .rw[eb,ev];exact BP ..
  .rw[eu,ev,d1,d2];exact uT
def Hm:yb:=λts KK=>∃(p q:P2) (ws:List P2),ts=[pT p,pT q,.lst (ws.map pT)]/\Pk 200 p/\Pk 200 q/\(∀w∈ws,Pk 200 w)/\ws.length<=12000000/\KK (.bl (ws.all λw=>!decide (gy p q w<0)))
def Qz:yb:=λts KK=>∃ps l:List Pol.R3,ts=[.lst (ps.map xF)]/\(∀v,v∈ps↔v∈l)/\ps.length<=12000000/\k7 6000000 l/\KK (.lst (l.map xF))
def k7.up (h:k7 n l)(hn:n<=m):k7 m l:=⟨h.ccw,h.pos,h.prim,h.sm,h.least,vt h.len hn⟩
structure vN (xa C:List Pol.R3):Prop where
 lf:LF xa
 sm:∀k∈C,uf k/\(k.1≠0\/k.2.1≠0)
 len:C.length<=2700000
def Qh:yb:=λts KK=>∃(xa C:List Pol.R3) (r:Pol.R3),ts=[.lst ((xS (xa++C)).map xF),xg r]/\vN xa (C++[r])/\KK (.lst ((xS (xa++(C++[r]))).map xF))
def Qm:yb:=λts KK=>∃xa:List Pol.R3,ts=[.tup (xa.map xg)]/\LF xa/\∀L,AC xa L->L.length<=2700000->KK (.lst (L.map xg))
def QA:yb:=λts KK=>∃xa:List Pol.R3,ts=[.tup (xa.map xg)]/\LF xa/\∀L,AC xa L->L.length<=2700000->KK (.lst ((xS (xa++L)).map xF))
def Qp:yb:=λts KK=>∃(xa:List Pol.R3) (ws:List F2),ts=[.tup (xa.map xg),.tup [wsT ws,vy (xa.zip ws)]]/\yD xa=true/\GW xa.length ws/\qg (wsum k0 (xa.zip ws)) (wsum k1 (xa.zip ws))/\KK (.bl true)
def vN.fine (h:vN xa C):jD xa (xa++C):=Mg h.lf.gr (λr hr=>h.lf.frow r hr) (λr hr=>zf _ hr) λr hr=>by
 rcases yz.mp hr with hr|hr
 .exact h.lf.dir r hr
 .exact(h.sm r hr).2
def vN.b {xa C:List Pol.R3}(h:vN xa C):∀r∈xa++C,yL 10 r:=λr hr=>by
 rcases yz.mp hr with hr|hr
 .exact jI (h.lf.frow r hr)
 .exact jI (h.sm r hr).1
def vN.b21 (h:vN xa C)(hv:v∈xS (xa++C)):yL 21 v:=by obtain⟨hz,g,⟨_,s,hs,t,ht,e1,e2,hn⟩⟩:=h.fine.corner (gC hv);obtain⟨b1,b2,b3⟩:=oE g hz e1 e2 hn;have S:=h.b s hs;have T:=h.b t ht;have m:∀ {x y z w:Int},Bk 10 x->Bk 10 y->Bk 10 z->Bk 10 w->Bk 21 (x*y-z*w):=λh1 h2 h3 h4=>(h1.mul h2).sub (h3.mul h4);refine⟨⟨(m S.2 T.1.2 T.2 S.1.2).le b2,(m T.2 S.1.1 S.2 T.1.1).le b3⟩,?_⟩;refine(m S.1.1 T.1.2 S.1.2 T.1.1).le ?_;unfold Pol.turn at b1;lia
def vN.ring (h:vN xa C):k7 6000000 (xS (xa++C)) where
 ccw:=FA (jJ h.fine.dir).ccw
 pos:=λv hv=>(h.fine.corner (gC hv)).1
 prim:=λv hv=>(h.fine.corner (gC hv)).2.1
 sm:=λv hv=>(h.b21 hv).mono (by decide)
 least:=FC (jJ h.fine.dir).bot
 len:=by
  unfold xS;rw[nW];have:=et h.fine.dir;have:=h.lf.l8;have:=h.len;rw[ze] at *
  lia
def vN.sub (h:vN xa (C++C')):vN xa C:=⟨h.lf,λk hk=>h.sm k (zf _ hk),by have:=h.len;rw[ze] at this;lia⟩
def vN.pk (h:vN xa C)(hv:v∈xS (xa++C)):Pk 21 (xt v):=tM (h.ring.pos v hv) (h.b21 hv)
def AC.cuts (hF:LF xa)(A:AC xa L)(ln:L.length<=2700000):vN xa L:=⟨hF,λk hk=>A.frow hF hk,ln⟩
structure CI (xa keys:List Pol.R3)(P:Nat->Nat->Int->Int->Prop):Prop where
 nd:keys.Nodup
 snd:∀k∈keys,∃s∈xa,∃t∈xa,∃p q,CK s t k p q
 cov:∀(i j:Nat) (s t:Pol.R3) (p q:Int),i<j->xa[i]?=some s->xa[j]?=some t->CK s t (ckR s t p q) p q->P i j p q->ckR s t p q∈keys
def CI.mono (h:CI xa keys P)(m:∀i j s t p q,i<j->xa[i]?=some s->xa[j]?=some t->CK s t (ckR s t p q) p q->P' i j p q->P i j p q):CI xa keys P':=⟨h.nd,h.snd,λi j s t p q lt a b c d=>h.cov i j s t p q lt a b c (m i j s t p q lt a b c d)⟩
def ft (keys:List Pol.R3)(k:Pol.R3):List Pol.R3:=if k∈keys then keys else keys++[k]
def GH:v∈ft keys k↔v∈keys\/v=k:=by
 unfold ft;split
 .rename_i h;exact⟨.inl,λz=>z.elim id λe=>e▸h⟩
 .rw[yz,zF]
def kvK (keys:List Pol.R3):List (List Int×Tr):=keys.map λk=>(kyR k,Tr.bl true)
def SU (keys:List Pol.R3)(k:Pol.R3):tZ (kvK keys) (kyR k) (.bl true)=kvK (ft keys k):=by
 unfold tZ ft;have e:((kvK keys).any λp=>decide (p.1=kyR k))=decide (k∈keys):=by
  rw[cV,aJ,mJ];constructor
  .rintro⟨p,hp,e⟩;obtain⟨y,hy,rfl⟩:=zT.mp hp;rw[<-Gp (yU e)];exact hy
  .intro h;exact⟨_,jA h,wF rfl⟩
 rw[e];by_cases m:k∈keys
 .rw[xJ (wF m),xJ m];unfold kvK;rw[vi];refine Kc λx _=>?_;show(if kyR x=kyR k then(kyR x,Tr.bl true) else(kyR x,Tr.bl true))=_;split<;>rfl
 .rw[xG (by rw[uU m];exact uG),xG m];unfold kvK;rw[wD];rfl
def CI.put (h:CI xa keys P)(hs:xa[i]?=some s)(ht:xa[j]?=some t)(c:CK s t (ckR s t p q) p q)
  (m:∀i' j' p' q',P' i' j' p' q'->P i' j' p' q'\/i'=i/\j'=j/\p'=p/\q'=q):CI xa (ft keys (ckR s t p q)) P':=by
 refine⟨?_,λk hk=>?_,λi' j' s' t' p' q' lt a b c' d=>?_⟩
 .unfold ft;split
  .exact h.nd
  .rename_i no;rw[dz];refine⟨h.nd,by simp,λa ha b hb e=>?_⟩;rw[e,zF.mp hb] at ha;exact no ha
 .rcases GH.mp hk with hk|rfl
  .exact h.snd k hk
  .exact⟨s,zq hs,t,zq ht,p,q,c⟩
 .rw[GH];rcases m i' j' p' q' d with d|⟨rfl,rfl,rfl,rfl⟩
  .exact .inl (h.cov i' j' s' t' p' q' lt a b c' d)
  .rw[hs] at a;rw[ht] at b;cases a;cases b;exact .inr rfl
def CI.skip (h:CI xa keys P)(hs:xa[i]?=some s)(ht:xa[j]?=some t)(c:¬rB s t p q)
  (m:∀i' j' p' q',P' i' j' p' q'->P i' j' p' q'\/i'=i/\j'=j/\p'=p/\q'=q):CI xa keys P':=by
 refine⟨h.nd,h.snd,λi' j' s' t' p' q' lt a b c' d=>?_⟩;rcases m i' j' p' q' d with d|⟨rfl,rfl,rfl,rfl⟩
 .exact h.cov i' j' s' t' p' q' lt a b c' d
 .rw[hs] at a;rw[ht] at b;cases a;cases b;exact absurd c'.ok c
def CI.ac (h:CI xa keys P)(m:∀i j s t p q,xa[i]?=some s->xa[j]?=some t->CK s t (ckR s t p q) p q->P i j p q):AC xa keys:=⟨h.snd,λi j s t lt a b p q c=>h.cov i j s t p q lt a b c (m i j s t p q a b c)⟩
def CI.len (hF:LF xa)(h:CI xa keys P):keys.length<=2700000:=by
 have sm:∀k∈keys,((-28<=k.1/\k.1<=28)/\(-28<=k.2.1/\k.2.1<=28))/\(-400<=k.2.2/\k.2.2<=400):=λk hk=>by have:=AC.snd_sm hF (h.snd k hk);exact⟨this.1,this.2.1⟩
 have nd2:(keys.map λk:Pol.R3=>(((k.1+28)*57+(k.2.1+28))*801+(k.2.2+400)).toNat).Nodup:=by have nd:=h.nd;rw[List.Nodup,Ke];refine(dA.mpr λ {a b} s=>?_);have ma:=sm a (s.subset xU);have mb:=sm b (s.subset (yI _ xU));have ne:=dA.mp nd s;intro e;refine ne (zC ?_ (zC ?_ ?_))<;>lia
 have:=tD 2602449 _ nd2 λn hn=>by obtain⟨x,hx,rfl⟩:=zT.mp hn;have:=sm x hx;lia
 rw[xP] at this;lia
def rY (p:P2):Pol.R3:=(p.1.1*p.2.2,p.2.1*p.1.2,p.1.2*p.2.2)
def Gi (r:Pol.R3){p:P2}(h1:0<p.1.2)(h2:0<p.2.2):zN r p=decide (val r (rY p)<=0):=by
 have S:Sd (zc r p) (r.1*p.1.1*p.2.2+r.2.1*p.2.1*p.1.2) (p.1.2*p.2.2):=Sd.lfr (Pol.pp h1 h2) (Pol.pp h1 h2) rfl rfl;unfold zN;rw[aW,S.le];have e:val r (rY p)=r.1*p.1.1*p.2.2+r.2.1*p.2.1*p.1.2-r.2.2*(p.1.2*p.2.2):=by unfold val rY;simp only;grind
 lia
def Gg {xa L:List Pol.R3}{Ls:List SX}(hf:yD xa=true)(FR:zm xa)(R:RP xa Ls)(A:AC xa L){p:P2}(h1:0<p.1.2)(h2:0<p.2.2):(∀r∈RR xa Ls,zN r p=true)↔∀r∈xa++L,zN r p=true:=by
 have pz:0<(rY p).2.2:=Pol.pp h1 h2;have e:∀m:List Pol.R3,(∀r∈m,zN r p=true)↔Kp m (rY p):=λm=>by
  unfold Kp;refine⟨λh r hr=>?_,λh r hr=>?_⟩
  .have:=h r hr;rw[Gi r h1 h2] at this;exact yU this
  .rw[Gi r h1 h2];exact wF (h r hr)
 rw[e,e];exact⟨A.of_round hf FR R pz,A.to_round hf FR R pz⟩
def QK:yb:=λts KK=>∃(xa:List Pol.R3) (p:P2),ts=[.tup (xa.map xg),pT p]/\yD xa=true/\zm xa/\Pk 600 p/\∀Ls,RP xa Ls->((∀r∈RR xa Ls,zN r p=true)->KK .non)/\
 ∀ws,GW xa.length ws->qg (wsum k0 (xa.zip ws)) (wsum k1 (xa.zip ws))->qh (xa.zip ws)∈RR xa Ls->zN (qh (xa.zip ws)) p=false->KK (.tup [wsT ws,vy (xa.zip ws)])
def PD {xa:List Pol.R3}{i:Nat}(h:i<xa.length):qh (xa.zip (ud xa.length i))=xZ xa i:=by unfold qh;rw[gG k0 h,gG k1 h,gG k2 h];show((xZ xa i).1,(xZ xa i).2.1,(xZ xa i).2.2.fdiv 1)=_;rw[Int.fdiv_one]
def lF (p q:P2):P2:=(wL (1,2) (uW p.1 q.1),wL (1,2) (uW p.2 q.2))
def Qt:yb:=λts KK=>∃p q:P2,ts=[pT p,pT q]/\Pk 21 p/\Pk 21 q/\KK (pT (lF p q))
def nM:Fk 43 (1,2):=⟨by unfold Bk;decide,by unfold Bk;decide,by show(0:Int)<2;decide⟩
def Nz {p q:P2}(hp:Pk 21 p)(hq:Pk 21 q):Pk 600 (lF p q):=⟨(nM.tim (hp.1.plus hq.1)).mono (by decide),(nM.tim (hp.2.plus hq.2)).mono (by decide)⟩
end L2
namespace L2
open PySem
def xC (K:xw)(i:Nat)(e:X.K=K:=by rfl)(hN:X.N[i]?=some x:=by rfl)(hv:Vis X.env.scope x:=by first|exact Or.inl rfl|exact Or.inr (Or.inl rfl)|exact Or.inr (Or.inr rfl))(hd:(x==("__debug__" : Str))=false:=by decide)
  (hcd:(x==("__classdict__" : Str))=false:=by decide):PE X (.Subscript (.Name x p) (.Constant (.int n) j q) r) (tOp (rIx K) (uD i) (tC (.int n))):=zd (zO K e) (pv i hN hv hd hcd) xl (λ_ _=>rfl)
def xD {K:xw}:yf K true (tOp (rIx K) (uD i) (tC (.int n))) (d2 fIx (wG i) (dC (Tr.int n))):=wH xc (kK (t:=Tr.int _))
def xN (a:PE X e te)(h:starEach [e] X.env=(false,eval e X.env)::starEach [] X.env:=by rfl):PA X [e] (uC te vP):=yS a u5 h
def xi (a:PE X e te)(b:PE X f tf)(h:starEach [f] X.env=(false,eval f X.env)::starEach [] X.env:=by rfl)(g:starEach [e,f] X.env=(false,eval e X.env)::starEach [f] X.env:=by rfl):PA X [e,f] (uC te (uC tf vP)):=yS a (yS b u5 h) g
def xM {K:xw}(h:yf K b te de):OkA K b 1 (uC te vP) (qK de kG):=zo h vn
def xn {K:xw}(h:yf K b te de)(g:yf K b tf df):OkA K b 2 (uC te (uC tf vP)) (qK de (qK df kG)):=zo h (zo g vn)
def xo {K:xw}:yf K true (tC (.int i)) (dC (.int i)):=kK
def vC {K:xw}:yf K true (tC (.bl i)) (dC (.bl i)):=kK
def yc (h:sc.kind=.function/\sc.isCoroutine=false/\sc.isGenerator=false/\N.Nodup/\N.take P.length=P/\(∀x∈P,sc.names.lookup x=some .local\/sc.names.lookup x=some .cell)/\∀y∈sc.names,y.2≠.free:=by decide +kernel):xW N P sc:=⟨h.1,h.2.1,h.2.2.1,h.2.2.2.1,h.2.2.2.2.1,h.2.2.2.2.2.1,h.2.2.2.2.2.2⟩
def yi (i:Nat)(hN:X.N.Nodup)(hi:X.N[i]?=some x:=by rfl)(hx:X.env.scope.names.lookup x=some .local:=by rfl):PG X (.Name x pos) (qM i):=zi hN hi (.inl hx) (.inr hx)
def yy (i:Nat)(hN:X.N.Nodup)(he:PE X e te)(hi:X.N[i]?=some x:=by rfl)(hx:X.env.scope.names.lookup x=some .local:=by rfl)(hs:swapsWith e (some (.Name x pos')) pos.line X.env=pure false:=by rfl):PS X (.Assign [.Name x pos'] e pos) (j3 te (qM i)):=kT hN hi (.inl hx) he hs (.inr hx)
end L2
namespace K18
open PySem L2 Trn
structure DF (K:xw)(mg:Str->Option Value)(x:Str)(st:Stmt)(f:Addr)(fd:FuncData)(ps:List Str):Prop where
 F:Fun K x x st f fd
 m:mg x=some (.ref f)
 b:Binds K fd ps []
def yk {P:Program}{w:World}{K:xw}{mg:Str->Option Value}{base:Heap}{k n:Nat}{x:Str}{st:Stmt}{f:Addr}{fd:FuncData}{N ps:List Str}{fr:Bool}{sp:yb}{T:TS}{D:DS}(F:DF K mg x st f fd ps)(S:xW N ps (xH st))(pe:∀ {cdv:Value} {A:Around} {outer:List Env} {s:Shared} {H:Hp} {E:XK},wR k (A.deeper (PyProof.Rows.envOfC x (xH st) s.heap.objs.size f cdv))->PSs (kF CX0 P w K mg base N x (xH st) f cdv A outer s H E).nox (vb st) T)(ok:zH K fr T D)(rd:∀ts KK,ts.length=n->sp ts KK->D {nx:=λ_=>fr=false/\KK .non,rt:=KK} (startT N false ts))(hn:ps.length=n:=by rfl):xT P w K mg base (k+1) x ps (spT n false fr sp):=Hh F.1 S F.2 F.3 hn λ_ _ _ _ _ _ hr=>⟨T,D,pe hr,ok,rd⟩
section
variable (P:Program) (w:World) (K:xw) (mg:Str->Option Value) (base:Heap)
abbrev CH:=xT P w K mg base 1 "_law_cell_at" ["_law_script", "_law_k"] (Tc K)
abbrev CZ:=xT P w K mg base 2 "_law_state" ["_law_script", "_law_k"] (Ja K)
abbrev Dk:=xT P w K mg base 1 "is_whole" ["thing"] (spT 1 false false Hn)
abbrev p6:=xT P w K mg base 2 "are_whole" ["things"] (spT 1 false false PQ)
abbrev rq:=xT P w K mg base 1 "greatest_divisor" ["one", "other"] (spT 2 false false Hl)
abbrev dM:=xT P w K mg base 2 "lowest" ["top", "bottom"] (spT 2 false false Qw)
abbrev Dz:=xT P w K mg base 3 "plus" ["one", "other"] (spT 2 false false QQ)
abbrev DM:=xT P w K mg base 3 "times" ["whole", "fraction"] (spT 2 false false QX)
abbrev Dy:=xT P w K mg base 3 "places_of" ["piece"] (spT 1 false true QP)
abbrev Dx:=xT P w K mg base 5 "piece_left" ["rows"] (spT 1 false false QO)
abbrev p8:=xT P w K mg base 6 "corners_left" ["rows"] (spT 1 false true PZ)
abbrev C5:=xT P w K mg base 4 "cut_down" ["piece", "rows"] (spT 2 false false P4)
abbrev C7:=xT P w K mg base 3 "cut_piece" ["piece", "row"] (spT 2 false false Hj)
abbrev C8:=xT P w K mg base 2 "from_least" ["piece"] (spT 1 false true P7)
abbrev DR:=xT P w K mg base 2 "where_crossed" ["row", "one", "other"] (spT 3 false false P0)
abbrev p7:=xT P w K mg base 1 "beyond" ["row", "corner"] (spT 2 false false PV)
abbrev Dc:=xT P w K mg base 1 "is_ahead" ["one", "other"] (spT 2 false false PN)
abbrev Di:=xT P w K mg base 3 "is_row" ["thing"] (spT 1 false false Qe)
abbrev oh:=xT P w K mg base 4 "value" ["row", "place"] (spT 2 false false Q0)
abbrev Dl:=xT P w K mg base 5 "keeps" ["row", "place"] (spT 2 false false Qg)
abbrev Dj:=xT P w K mg base 5 "is_tight" ["row", "place"] (spT 2 false false Qf)
abbrev jE:=xT P w K mg base 1 "turn_to" ["one", "other"] (spT 2 false false QY)
abbrev C9:=xT P w K mg base 2 "furthest" ["first", "rows", "sign"] (spT 3 false false P8)
abbrev DB:=xT P w K mg base 2 "points_back" ["first", "rows"] (spT 2 false false PR)
abbrev C_:=xT P w K mg base 3 "go_round" ["rows"] (spT 1 false false P9)
abbrev Dh:=xT P w K mg base 1 "is_near" ["place"] (spT 1 false false Qd)
abbrev Dg:=xT P w K mg base 4 "is_field_row" ["thing"] (spT 1 false false Qc)
abbrev Df:=xT P w K mg base 7 "is_field" ["thing"] (spT 1 false false Qb)
abbrev p_:=xT P w K mg base 8 "need_field" ["thing"] (spT 1 false false QF)
abbrev C4:=xT P w K mg base 9 "corners" ["field"] (spT 1 false true PY)
abbrev DL:=xT P w K mg base 6 "tight_numbers" ["rows", "place"] (spT 2 false false QW)
abbrev Dd:=xT P w K mg base 1 "is_broken" ["place"] (spT 1 false false P_)
abbrev C3:=xT P w K mg base 10 "broken" ["field"] (spT 1 false true PX)
abbrev oa:=xT P w K mg base 2 "need_turn" ["one", "other"] (spT 2 false false QG)
abbrev De:=xT P w K mg base 3 "is_direction" ["thing"] (spT 1 false false Qa)
abbrev Dw:=xT P w K mg base 4 "parts" ["one", "other", "thing"] (spT 3 false false QN)
abbrev DN:=xT P w K mg base 2 "undivided" ["direction"] (spT 1 false false QZ)
abbrev Dq:=xT P w K mg base 2 "next_least" ["first", "last"] (spT 2 false false QI)
abbrev Dn:=xT P w K mg base 2 "next_behind" ["before", "here", "last"] (spT 3 false false QH)
abbrev C2:=xT P w K mg base 3 "between" ["one", "other"] (spT 2 false true PU)
abbrev Dm:=xT P w K mg base 1 "makes_one" ["a", "b"] (spT 2 false false QE)
abbrev DU:=xT P w K mg base 2 "whole_sum" ["rows", "weights"] (spT 2 false false Q3)
abbrev DK:=xT P w K mg base 3 "sum_of" ["rows", "weights"] (spT 2 false false QU)
abbrev C6:=xT P w K mg base 1 "cut_of" ["totals"] (spT 1 false false P5)
abbrev DH:=xT P w K mg base 3 "sides_among" ["rows", "numbers"] (spT 2 false true QS)
abbrev DJ:=xT P w K mg base 7 "sides_at" ["field", "place"] (spT 2 false false QT)
abbrev Dr:=xT P w K mg base 2 "next_to_the_left" ["rows", "numbers", "number"] (spT 3 false false QJ)
abbrev p9:=xT P w K mg base 1 "direction_of" ["row"] (spT 1 false false P6)
abbrev DQ:=xT P w K mg base 5 "weights_towards" ["field", "pair", "direction"] (spT 3 false false Q2)
abbrev og:=xT P w K mg base 4 "paper_of" ["field", "weights"] (spT 2 false false QL)
abbrev Dt:=xT P w K mg base 8 "papers_at" ["field", "place"] (spT 2 false true QM)
abbrev DP:=xT P w K mg base 1 "weights_of_row" ["field", "number"] (spT 2 false false Q1)
abbrev DC:=xT P w K mg base 11 "round_papers" ["field"] (spT 1 false true QR)
abbrev Ds:=xT P w K mg base 12 "paper_against" ["field", "place"] (spT 2 false false QK)
abbrev pY:=xT P w K mg base 1 "_law_take" ["_law_state_here", "_law_many"] (spT 1 true false i7)
abbrev CP:=xT P w K mg base 2 "_law_field" ["_law_state_here"] (spT 0 true false Qn)
abbrev pV:=xT P w K mg base 1 "_law_divisor" ["_law_one", "_law_other"] (spT 2 false false Hl)
abbrev h_:=xT P w K mg base 2 "_law_low" ["_law_top", "_law_bottom"] (spT 2 false false Qs)
abbrev CN:=xT P w K mg base 3 "_law_crossing" ["_law_one", "_law_other"] (spT 2 false false Qk)
abbrev pZ:=xT P w K mg base 3 "_law_value" ["_law_row", "_law_place_here"] (spT 2 false false QD)
abbrev mY:=xT P w K mg base 4 "_law_keeps" ["_law_row", "_law_place_here"] (spT 2 false false Qq)
abbrev CT:=xT P w K mg base 1 "_law_less" ["_law_one", "_law_other"] (spT 2 false false Qr)
abbrev pW:=xT P w K mg base 3 "_law_minus" ["_law_one", "_law_other"] (spT 2 false false Qu)
abbrev rp:=xT P w K mg base 3 "_law_times" ["_law_one", "_law_other"] (spT 2 false false QC)
abbrev CL:=xT P w K mg base 4 "_law_cross" ["_law_one", "_law_other", "_law_third"] (spT 3 false false Qj)
abbrev CG:=xT P w K mg base 5 "_law_all_left" ["_law_here", "_law_place_here", "_law_some"] (spT 3 false false Hm)
abbrev pX:=xT P w K mg base 6 "_law_ring" ["_law_places"] (spT 1 false false Qz)
abbrev pU:=xT P w K mg base 7 "_law_corners" ["_law_rows"] (spT 1 false false Qi)
abbrev mZ:=xT P w K mg base 3 "_law_plus" ["_law_one", "_law_other"] (spT 2 false false Qy)
abbrev CW:=xT P w K mg base 3 "_law_place" ["_law_state_here"] (spT 0 true false Qx)
abbrev C0:=xT P w K mg base 4 "_law_summed" ["_law_rows", "_law_weights"] (spT 2 false false QB)
abbrev CO:=xT P w K mg base 5 "_law_cut" ["_law_rows", "_law_weights"] (spT 2 false false Ql)
abbrev C1:=xT P w K mg base 1 "_law_whole" ["_law_thing"] (spT 1 false false Hn)
abbrev CQ:=xT P w K mg base 2 "_law_is_fraction" ["_law_thing"] (spT 1 false false Qo)
abbrev pS:=xT P w K mg base 1 "_law_all_cuts" ["_law_rows"] (spT 1 false true Qm)
abbrev CV:=xT P w K mg base 3 "_law_over" ["_law_one", "_law_other"] (spT 2 false false Qv)
abbrev CJ:=xT P w K mg base 7 "_law_clipped" ["_law_places", "_law_row"] (spT 2 false false Qh)
abbrev CY:=xT P w K mg base 8 "_law_round" ["_law_rows"] (spT 1 false false QA)
abbrev CS:=xT P w K mg base 6 "_law_is_paper" ["_law_field_here", "_law_thing"] (spT 2 false false Qp)
abbrev CU:=xT P w K mg base 4 "_law_middle" ["_law_one", "_law_other"] (spT 2 false false Qt)
end
def top (i:Nat):Stmt:=PySem.Challenge.pw_roundcuts_k18_papers_against_places.main.body.getD i (.Pass ⟨0,0,0,0⟩)
abbrev AH:Stmt:=top 6
abbrev b_:Stmt:=top 7
abbrev Az:Stmt:=top 8
abbrev AJ:Stmt:=top 9
abbrev AW:Stmt:=top 10
abbrev A4:Stmt:=top 11
abbrev Ap:Stmt:=top 14
abbrev AV:Stmt:=top 15
abbrev Aq:Stmt:=top 16
abbrev cp:Stmt:=top 17
abbrev As:Stmt:=top 18
abbrev An:Stmt:=top 19
abbrev cB:Stmt:=top 20
abbrev Aw:Stmt:=top 21
abbrev AA:Stmt:=top 22
abbrev AF:Stmt:=top 24
abbrev A7:Stmt:=top 25
abbrev AI:Stmt:=top 26
abbrev AG:Stmt:=top 27
abbrev A5:Stmt:=top 28
abbrev Ay:Stmt:=top 29
abbrev Ax:Stmt:=top 30
abbrev AX:Stmt:=top 31
abbrev tS:Stmt:=top 33
abbrev AE:Stmt:=top 34
abbrev cj:Stmt:=top 35
abbrev AL:Stmt:=top 36
abbrev Ao:Stmt:=top 38
abbrev cA:Stmt:=top 39
abbrev cg:Stmt:=top 40
abbrev AB:Stmt:=top 41
abbrev AU:Stmt:=top 43
abbrev AM:Stmt:=top 44
abbrev AD:Stmt:=top 45
abbrev Am:Stmt:=top 46
abbrev A6:Stmt:=top 47
abbrev AO:Stmt:=top 48
abbrev AN:Stmt:=top 49
abbrev AK:Stmt:=top 50
abbrev A3:Stmt:=top 52
abbrev AZ:Stmt:=top 53
abbrev AQ:Stmt:=top 54
abbrev Au:Stmt:=top 55
abbrev A9:Stmt:=top 56
abbrev A8:Stmt:=top 57
abbrev cq:Stmt:=top 59
abbrev tT:Stmt:=top 60
abbrev Ar:Stmt:=top 61
abbrev AR:Stmt:=top 62
abbrev AY:Stmt:=top 64
abbrev AS:Stmt:=top 65
abbrev ck:Stmt:=top 66
abbrev eR:Stmt:=top 68
abbrev Af:Stmt:=top 69
abbrev Ai:Stmt:=top 70
abbrev tR:Stmt:=top 71
abbrev eV:Stmt:=top 72
abbrev eZ:Stmt:=top 73
abbrev eT:Stmt:=top 74
abbrev Ak:Stmt:=top 75
abbrev eX:Stmt:=top 76
abbrev eY:Stmt:=top 77
abbrev Aa:Stmt:=top 78
abbrev Aj:Stmt:=top 79
abbrev eS:Stmt:=top 80
abbrev ak:Stmt:=top 81
abbrev bY:Stmt:=top 82
abbrev b7:Stmt:=top 83
abbrev eQ:Stmt:=top 84
abbrev Ad:Stmt:=top 85
abbrev Ab:Stmt:=top 86
abbrev bZ:Stmt:=top 87
abbrev Ae:Stmt:=top 88
abbrev Ac:Stmt:=top 89
abbrev Ag:Stmt:=top 90
abbrev eU:Stmt:=top 91
abbrev Al:Stmt:=top 92
abbrev eW:Stmt:=top 93
abbrev b8:Stmt:=top 94
abbrev e_:Stmt:=top 95
abbrev kX:Stmt:=top 96
def Sx:xW ["thing"] ["thing"] (xH AH):=yc
def Sj:xW ["things"] ["things"] (xH b_):=yc
def Bg:xW ["one", "other"] ["one", "other"] (xH Az):=yc
def IL:xW ["top", "bottom", "shared"] ["top", "bottom"] (xH AJ):=yc
def SF:xW ["one", "other"] ["one", "other"] (xH AW):=yc
def SI:xW ["whole", "fraction"] ["whole", "fraction"] (xH A4):=yc
def Sm:xW ["rows"] ["rows"] (xH Ap):=yc
def SD:xW ["rows"] ["rows"] (xH AV):=yc
def Bf:xW ["piece", "rows", "row"] ["piece", "rows"] (xH Aq):=yc
def SE:xW ["piece"] ["piece"] (xH cp):=yc
def ao:xW ["piece", "row", "left", "at", "corner", "before", "crossing"] ["piece", "row"] (xH As):=yc
def fU:xW ["row", "corner", "a", "b", "c", "x", "y", "bottom"] ["row", "corner"] (xH An):=yc
def fW:xW ["row", "one", "other", "one_off", "other_off", "x", "y", "bottom", "shared"] ["row", "one", "other"] (xH cB):=yc
def tW:xW ["piece", "start", "at", "corner"] ["piece"] (xH Aw):=yc
def So:xW ["one", "other"] ["one", "other"] (xH AA):=yc
def Sw:xW ["thing"] ["thing"] (xH AF):=yc
def SK:xW ["row", "place"] ["row", "place"] (xH A7):=yc
def Bj:xW ["row", "place", "top", "bottom"] ["row", "place"] (xH AI):=yc
def Bi:xW ["row", "place", "top", "bottom"] ["row", "place"] (xH AG):=yc
def SJ:xW ["one", "other"] ["one", "other"] (xH A5):=yc
def cH:xW ["rows", "first", "left", "right"] ["rows"] (xH Ay):=yc
def cG:xW ["first", "rows", "sign", "last", "row"] ["first", "rows", "sign"] (xH Ax):=yc
def IQ:xW ["first", "rows", "row"] ["first", "rows"] (xH AX):=yc
def Sr:xW ["thing"] ["thing"] (xH tS):=yc
def cI:xW ["thing", "a", "b", "c"] ["thing"] (xH AE):=yc
def Ss:xW ["place"] ["place"] (xH cj):=yc
def Sy:xW ["thing"] ["thing"] (xH AL):=yc
def Sl:xW ["field"] ["field"] (xH Ao):=yc
def SH:xW ["rows", "place"] ["rows", "place"] (xH cA):=yc
def Sk:xW ["field"] ["field"] (xH cg):=yc
def Bh:xW ["place", "x", "y"] ["place"] (xH AB):=yc
def Bm:xW ["one", "other", "thing", "turn", "of_one", "of_other"] ["one", "other", "thing"] (xH AU):=yc
def IM:xW ["one", "other", "turn"] ["one", "other"] (xH AM):=yc
def Sq:xW ["thing"] ["thing"] (xH AD):=yc
def Be:xW ["one", "other", "first", "last", "found"] ["one", "other"] (xH Am):=yc
def cM:xW ["direction", "a", "b", "shared"] ["direction"] (xH A6):=yc
def aq:xW ["first", "last", "a", "b", "p", "q", "back"] ["first", "last"] (xH AO):=yc
def IP:xW ["before", "here", "last", "many"] ["before", "here", "last"] (xH AN):=yc
def fV:xW ["a", "b", "here", "p", "q", "ahead", "next_p", "next_q", "many"] ["a", "b"] (xH AK):=yc
def SG:xW ["field", "place"] ["field", "place"] (xH A3):=yc
def cL:xW ["rows", "numbers", "pairs", "number", "beside"] ["rows", "numbers"] (xH AZ):=yc
def cJ:xW ["rows", "numbers", "number", "nearest", "other"] ["rows", "numbers", "number"] (xH AQ):=yc
def Sn:xW ["row"] ["row"] (xH Au):=yc
def tX:xW ["field", "pair", "direction", "one", "other", "shares", "weights"] ["field", "pair", "direction"] (xH A9):=yc
def IS:xW ["field", "number", "weights"] ["field", "number"] (xH A8):=yc
def Bn:xW ["rows", "weights", "tops", "bottom"] ["rows", "weights"] (xH cq):=yc
def kY:xW ["rows", "weights", "used", "bottom", "row", "weight", "tops", "many"] ["rows", "weights"] (xH tT):=yc
def cF:xW ["totals", "a", "b", "c"] ["totals"] (xH Ar):=yc
def Sz:xW ["field", "weights"] ["field", "weights"] (xH AR):=yc
def cK:xW ["field", "papers", "place", "paper"] ["field"] (xH AY):=yc
def ar:xW ["field", "place", "papers", "pair", "one", "other", "direction"] ["field", "place"] (xH AS):=yc
def Bl:xW ["field", "place", "rows", "paper"] ["field", "place"] (xH ck):=yc
def R9:xW ["_law_script", "_law_k"] ["_law_script", "_law_k"] (xH eR):=yc
def IK:xW ["_law_script", "_law_k", "_law_cell"] ["_law_script", "_law_k"] (xH Af):=yc
def cE:xW ["_law_state_here", "_law_many", "_law_found", "_law_stirred"] ["_law_state_here", "_law_many"] (xH Ai):=yc
def vh:xW ["_law_state_here", "_law_way", "_law_rows", "_law_a", "_law_b", "_law_by", "_law_turn", "_law_near", "_law_k", "_law_some", "_law_u", "_law_v"] ["_law_state_here"] (xH tR):=yc
def IH:xW ["_law_one", "_law_other"] ["_law_one", "_law_other"] (xH eV):=yc
def Ba:xW ["_law_top", "_law_bottom", "_law_by"] ["_law_top", "_law_bottom"] (xH eZ):=yc
def A_:xW ["_law_one", "_law_other", "_law_by", "_law_x"] ["_law_one", "_law_other"] (xH eT):=yc
def Bc:xW ["_law_row", "_law_place_here", "_law_x", "_law_y"] ["_law_row", "_law_place_here"] (xH Ak):=yc
def II:xW ["_law_row", "_law_place_here", "_law_here"] ["_law_row", "_law_place_here"] (xH eX):=yc
def Sb:xW ["_law_one", "_law_other"] ["_law_one", "_law_other"] (xH eY):=yc
def Se:xW ["_law_one", "_law_other"] ["_law_one", "_law_other"] (xH Aa):=yc
def Sh:xW ["_law_one", "_law_other"] ["_law_one", "_law_other"] (xH Aj):=yc
def IG:xW ["_law_one", "_law_other", "_law_third", "_law_first"] ["_law_one", "_law_other", "_law_third"] (xH eS):=yc
def j2:xW ["_law_places", "_law_some", "_law_place_here", "_law_ahead", "_law_found", "_law_k", "_law_here"] ["_law_places"] (xH ak):=yc
def R8:xW ["_law_here", "_law_place_here", "_law_some"] ["_law_here", "_law_place_here", "_law_some"] (xH bY):=yc
def tU:xW ["_law_rows", "_law_found", "_law_at", "_law_other", "_law_place_here"] ["_law_rows"] (xH b7):=yc
def qw:xW ["_law_rows", "_law_found", "_law_at", "_law_a", "_law_b", "_law_c", "_law_d", "_law_e", "_law_f", "_law_by", "_law_p", "_law_q", "_law_u", "_law_v"] ["_law_rows"] (xH eQ):=yc
def Sg:xW ["_law_one", "_law_other"] ["_law_one", "_law_other"] (xH Ad):=yc
def Sf:xW ["_law_one", "_law_other"] ["_law_one", "_law_other"] (xH Ab):=yc
def gT:xW ["_law_places", "_law_row", "_law_found", "_law_at", "_law_one", "_law_other", "_law_here", "_law_there", "_law_share", "_law_x"] ["_law_places", "_law_row"] (xH bZ):=yc
def cD:xW ["_law_rows", "_law_places", "_law_row"] ["_law_rows"] (xH Ae):=yc
def IJ:xW ["_law_state_here", "_law_x"] ["_law_state_here"] (xH Ac):=yc
def tV:xW ["_law_rows", "_law_weights", "_law_found", "_law_row", "_law_weight", "_law_at"] ["_law_rows", "_law_weights"] (xH Ag):=yc
def cC:xW ["_law_rows", "_law_weights", "_law_a", "_law_b", "_law_c"] ["_law_rows", "_law_weights"] (xH eU):=yc
def Si:xW ["_law_thing"] ["_law_thing"] (xH Al):=yc
def R_:xW ["_law_thing"] ["_law_thing"] (xH eW):=yc
def Sa:xW ["_law_field_here", "_law_thing"] ["_law_field_here", "_law_thing"] (xH b8):=yc
def Bb:xW ["_law_one", "_law_other", "_law_found", "_law_at"] ["_law_one", "_law_other"] (xH e_):=yc
def jr:xW ["_law_script", "_law_k", "_law_state_here", "_law_field_here", "_law_rows", "_law_ahead", "_law_later", "_law_some", "_law_at", "_law_place_here", "_law_found"] ["_law_script"] (xH kX):=yc
abbrev bn:List Str:=["len", "range", "max", "min", "abs", "isinstance", "tuple", "list", "int", "bool", "str", "dict", "all", "zip", "enumerate", "ValueError"]
section
variable (P:Program) (w:World) {K:xw} {mg:Str->Option Value} (base:Heap) {f:Addr} {fd:FuncData}
def NU (B:ya mg bn)(D:DF K mg "_law_cell_at" eR f fd ["_law_script", "_law_k"]):CH P w K mg base:=by
 refine tJ D.1 R9 D.2 D.3 (λvs H Q E h=>?_) (λcdv A outer s H vs Q E hr h=>?_)
 .obtain⟨a,ns,k,rfl,_⟩:=h;rfl
 obtain⟨a,ns,k,rfl,hS,h63,h0,q⟩:=h;refine⟨_,(xA (yR (yG He (pv 1) (yO (uh K) rfl (B.get "len") ug (yS (pv 0) u5)) (yj _)) (xy (xR (zd (gB K) (pv 0) (pv 1) (λ_ _=>rfl)))) yT) (xy (xR xl))),?_⟩
 refine⟨_,rfl,_,rfl,a,_,rfl,.inl hS,_,_,rfl,rfl,_,rfl,?_⟩;have hl:(ns.map V.int).length=ns.length:=xP _;refine Gb (λc=>?_) (λc=>?_)
 .have c':=yU c;rw[hl] at c';obtain⟨v,hv⟩:=KJ h0 c';exact⟨_,rfl,_,rfl,a,_,_,_,rfl,rfl,hS,hv,q v⟩
 .exact q 0
def Oi (F:Fun K "_law_state" "_law_state" Af f fd)(m:mg "_law_state" = some (.ref f))(b:Binds K fd ["_law_script", "_law_k"] [])(lK:CH P w K mg base) :
  CZ P w K mg base:=by
 refine tJ F IK m b (λvs H Q E h=>?_) (λcdv A outer s H vs Q E hr h=>?_)
 .obtain⟨a,ns,k,rfl,_⟩:=h;rfl
 obtain⟨a,ns,k,rfl,hS,h63,h0,q⟩:=h;refine⟨_,(xA (kT (i:=2) IK.nd rfl (Or.inl rfl) (xr lK hr (yS (pv 0) (yS (pv 1) u5)))) (xA (yR (yG Hd (pv 2) (xq Hf xl xl) (yj _)) (xy (xR (wA (yS (xq zS (pv 2) (xq Hf xl xl)) (yS ve u5))))) yT) (xy (xR (wA (yS (xq s9 (pv 2) xl) (yS ve u5))))))),?_⟩
 refine⟨_,rfl,_,rfl,a,ns,k,rfl,hS,h63,h0,λn=>?_⟩;have pw:CA 10 18:=⟨by decide,by decide,by decide⟩
 refine⟨_,rfl,_,_,rfl,rfl,pw,_,_,rfl,rfl,_,rfl,?_⟩;refine Gb (λc=>?_) (λc=>?_)
 .have c':n>=10^(18:Int).toNat:=yU c;refine⟨_,rfl,_,_,rfl,rfl,pw,_,_,rfl,rfl,(by show 2<=sizeLine;decide),λp hp=>q p _ _ hp ⟨?_,λz=>by cases z⟩⟩;show 0<=n-10^(18:Int).toNat;lia
 .refine⟨_,rfl,_,_,rfl,rfl,(by show(0:Int)<2147483647;decide),(by show 2<=sizeLine;decide),λp hp=>q p _ _ hp ⟨?_,λ_=>?_⟩⟩
  .show 0<=n%2147483647;lia
  .show n%2147483647<2147483647;lia
theorem Ol (F:Fun K "_law_take" "_law_take" Ai f fd)(m:mg "_law_take" = some (.ref f))(b:Binds K fd ["_law_state_here", "_law_many"] []):xT P w K mg base 1 "_law_take" ["_law_state_here", "_law_many"] Jb:=by
 refine tJ F cE m b (λvs H Q E h=>?_) (λcdv A outer s H vs Q E hr h=>?_)
 .obtain⟨p,k,rfl,_⟩:=h;rfl
 obtain⟨p,many,rfl,⟨n,bb,hp,hn,hb⟩,h0,h1,q⟩:=h;refine⟨_,(xA (yR (wm (zd (gB K) (pv 0) xl (λ_ _=>rfl))) (xA (kT (i:=2) cE.nd rfl (Or.inl rfl) (xq s9 (zd (gB K) (pv 0) xl (λ_ _=>rfl)) (pv 1))) (xA (wX (xq Hc (zd (gB K) (pv 0) xl (λ_ _=>rfl)) (pv 1)) (ae (pv 0) xl set_list)) (xy (xR (pv 2))))) yT) (xA (wX (xq s9 (xq ux (xq tG (zd (gB K) (pv 0) xl (λ_ _=>rfl)) xl) xl) xl) (ae (pv 0) xl set_list)) (xA (kT (i:=3) cE.nd rfl (Or.inl rfl) (xq s9 (xq ux (xq ux (xq tG (zd (gB K) (pv 0) xl (λ_ _=>rfl)) (zd (gB K) (pv 0) xl (λ_ _=>rfl))) (xq tG xl (zd (gB K) (pv 0) xl (λ_ _=>rfl)))) xl) xl)) (xA (kT (i:=3) cE.nd rfl (Or.inl rfl) (xq s9 (xq ux (xq tG (pv 3) (pv 3)) (xq tG xl (pv 3))) xl)) (xy (xR (xq s9 (xq Hc (pv 3) xl) (pv 1)))))))),?_⟩
 refine⟨_,rfl,p,_,_,_,rfl,rfl,yw.of hp,rfl,bb,rfl,?_⟩;have fin:∀(r n':Int),0<=r->r<many->pR n' bb->Q (.int r) (upd H p (.lst [.int n',.bl bb])):=λr n' h2 h3 h4=>q r _ h2 h3 ⟨λb o hb k=>by rw[yx hb];exact k,n',bb,zp,h4⟩;cases bb with
 |true=>refine kI ?_;refine⟨_,rfl,p,_,_,_,rfl,rfl,yw.of hp,rfl,_,rfl,_,_,rfl,rfl,h0,?_⟩;refine⟨_,rfl,p,_,_,_,rfl,rfl,yw.of hp,rfl,_,rfl,_,_,rfl,rfl,Ej h0 h1,?_⟩;refine⟨_,rfl,p,_,_,0,rfl,rfl,hp,rfl,?_⟩;refine⟨_,rfl,?_⟩;exact fin _ _ (f_ _ (by lia)) (aG _ h0) ⟨BL hn (by lia),λz=>by cases z⟩
 |false=>
  refine vY ?_;have hb':=hb rfl;have cm:∀(i j:Int),0<=i->i<2147483700->mO i j:=λi j a b=>.inl ⟨by lia,by lia⟩;refine⟨_,rfl,p,_,_,_,rfl,rfl,yw.of hp,rfl,_,_,rfl,rfl,cm _ _ hn (by lia),_,_,rfl,rfl,_,_,rfl,rfl,(by show(0:Int)<2147483647;decide),?_⟩;refine⟨_,rfl,p,_,_,0,rfl,rfl,hp,rfl,?_⟩;have hz:∃z:Int,(n*48271+29)%2147483647=z/\0<=z/\z<2147483647:=⟨_,rfl,by lia,by lia⟩
  obtain⟨z,ez,z0,z1⟩:=hz;have hp':(upd H p (.lst [.int z,.bl false])) p=some (.lst [.int z,.bl false]):=zp;show cR _ _ _ _ (upd H p (.lst [.int ((n*48271+29)%2147483647),.bl false]));rw[ez];refine⟨_,rfl,p,_,_,_,rfl,rfl,yw.of hp',rfl,_,rfl,p,_,_,_,rfl,rfl,yw.of hp',rfl,_,_,rfl,rfl,cm _ _ z0 (by lia),?_⟩;refine⟨_,rfl,p,_,_,_,rfl,rfl,yw.of hp',rfl,_,_,rfl,rfl,.inl ⟨by decide,by decide⟩,_,_,rfl,rfl,_,_,rfl,rfl,_,_,rfl,rfl,(by show(0:Int)<2147483629;decide),?_⟩;have hy:∃y:Int,(z*z+39373*z+7)%2147483629=y/\0<=y/\y<2147483629:=⟨_,rfl,f_ _ (by decide),aG _ (by decide)⟩
  obtain⟨y,ey,y0,y1⟩:=hy;show cR _ _ _ [_,_,_,some (.int ((z*z+39373*z+7)%2147483629))] _;rw[ey];refine⟨_,rfl,_,rfl,_,_,rfl,rfl,cm _ _ y0 (by lia),_,rfl,_,_,rfl,rfl,.inl ⟨by decide,by decide⟩,_,_,rfl,rfl,_,_,rfl,rfl,(by show(0:Int)<2147483587;decide),?_⟩;refine⟨_,rfl,_,_,rfl,rfl,Ej (by decide) (by decide),_,rfl,_,_,rfl,rfl,h0,?_⟩;exact fin _ _ (f_ _ (by lia)) (aG _ h0) ⟨z0,λ_=>z1⟩
end
section
variable (P:Program) (w:World) {K:xw} {mg:Str->Option Value} (base:Heap) {f:Addr} {fd:FuncData}
def OQ (B:ya mg bn)(D:DF K mg "is_whole" AH f fd ["thing"])  :
  Dk P w K mg base:=by
 refine yk D Sx (λhr=>(xy (xR (aa (yO kD rfl (B.get "isinstance") kB (xi (pv 0) (kP (v:=V.ty "int") rfl (B.get "int") Eb rfl))) (jX (Hx (yO kD rfl (B.get "isinstance") kB (xi (pv 0) (kP (v:=V.ty "bool") rfl (B.get "bool") Ea rfl)))))))))
  (xY (sV (kL xc) (G1 (kL xc)))) λts KK hl h=>?_
 obtain⟨t,rfl,k⟩:=h;cases t<;>exact k
def Ot (B:ya mg bn)(D:DF K mg "are_whole" b_ f fd ["things"])(iu:Dk P w K mg base) :
  p6 P w K mg base:=by
 refine yk D Sj (λhr=>(xy (xR (yO (m_ K rfl) rfl (B.get "all") m6 (xN (vE (ui (N:=["thing"]) (xQ:=[none]) (XN:=["things"]) (xs:=xH b_) (by decide +kernel) rfl rfl) rfl (vW rfl) (zB K (pv 0)) (λ_ _ _ _=>(zi (i:=0) (show(["thing"]:List Str).Nodup by decide +kernel) rfl (Or.inl rfl))) (λ_ _ _ _=>kR) (λ_ _ _ _=>(xr iu hr (xN (pv 0))))))))))
  (xY (zz ng (xM (zw.e (ur (zQ xc).c xK kO (xE (xM xc))))))) λts KK hl h=>?_
 obtain⟨t,rfl,us,hs,hz,k⟩:=h;rcases hs with rfl|rfl
 .refine⟨hz,dS (λx=>.bl (sD x)) (λx _ N hN=>⟨x,rfl,hN⟩) ⟨us.map sD,by rw[vi];rfl,?_⟩⟩;simpa using k
 .refine⟨hz,dS (λx=>.bl (sD x)) (λx _ N hN=>⟨x,rfl,hN⟩) ⟨us.map sD,by rw[vi];rfl,?_⟩⟩;simpa using k
def OH (B:ya mg bn)(D:DF K mg "greatest_divisor" Az f fd ["one", "other"])  :
  rq P w K mg base:=by
 refine yk D Bg (λhr=>(xA (qU (i:=0) (j:=1) rfl Bg.nd rfl rfl (by decide) rfl rfl (xi (yO ja rfl (B.get "abs") k_ (xN (pv 0))) (yO ja rfl (B.get "abs") k_ (xN (pv 1)))) (by rfl))
  (xA (bP zG (yG (ua hr.units) (pv 1) xl (yj _)) (xy (qU (i:=0) (j:=1) rfl Bg.nd rfl rfl (by decide) rfl rfl (xi (pv 1) (xq bK (pv 0) (pv 1))) (by rfl))))
  (xy (xR (pv 0))))))
  (xB (qQ (xn (zz jb (xM xc)) (zz jb (xM xc)))) (xB (bI (yH (xk ub xc xo)) (qQ (xn xc (xk bL xc xc)))) (xY xc))) λts KK hl h=>?_
 obtain⟨a,c,rfl,k⟩:=h;refine cU (λn τ=>∃x y:Int,τ=[.fz (.int x),.fz (.int y)]/\0<=x/\0<=y/\n=y.toNat/\Int.gcd x y=Int.gcd a c) c.natAbs ⟨_,_,rfl,by split<;>lia,by split<;>lia,by split<;>lia,?_⟩ ?_
 .have e1:(if a<0 then -a else a)=(a.natAbs:Int):=by split<;>lia
  have e2:(if c<0 then -c else c)=(c.natAbs:Int):=by split<;>lia
  rw[e1,e2];simp[Int.gcd]
 .rintro n τ N ⟨x,y,rfl,hx,hy,rfl,hg⟩ hN;refine yg (b:=!decide (y=0)) (λc0=>?_) (λc0=>?_)
  .have c0:y≠0:=by simpa using c0
   have e:x.fmod y=x%y:=Fw hy;have l:=aG x (show 0<y by lia);have l0:=f_ x c0;refine⟨c0,hN (x%y).toNat _ (by lia) ⟨_,_,rfl,hy,by rw[e];exact l0,by rw[e],?_⟩⟩;rw[e,<-hg,Mt hx hy]
  .have c0:y=0:=by simpa using c0
   subst c0;have:(Int.gcd a c:Int)=x:=by rw[<-hg];simp[Int.gcd];lia
   exact this▸k
def OU (B:ya mg bn)(D:DF K mg "lowest" AJ f fd ["top", "bottom"])(qp:rq P w K mg base) :
  dM P w K mg base:=by
 refine yk D IL (λhr=>(xA (yy 2 IL.nd (xr qp hr (xi (pv 0) (pv 1)))) (xy (xR (yB (xi (xq uZ (pv 0) (pv 2)) (xq uZ (pv 1) (pv 2))))))))
  (xB (yE (xE (xn xc xc))) (xY (yA (b:=true) (xn (xk u4 xc xc) (xk u4 xc xc))))) λts KK hl h=>?_
 obtain⟨t,bo,rfl,hb,bd,k⟩:=h;have gp:(0:Int)<(Int.gcd t bo:Int):=by have:=mf t hb;lia
 have gb:=ot (t:=t) hb bd;refine⟨t,bo,rfl,⟨by lia,gb⟩,⟨by lia,gb⟩,?_⟩;show KK (.tup [.int (t.fdiv (Int.gcd t bo)),.int (bo.fdiv (Int.gcd t bo))]);rw[vV (by lia),vV (by lia)];exact k
def O8 (B:ya mg bn)(D:DF K mg "plus" AW f fd ["one", "other"])(vm:dM P w K mg base) :
  Dz P w K mg base:=by
 refine yk D SF (λhr=>(xy (xR (xr vm hr (xi (xq ux (xq yq (xC K 0) (xC K 1)) (xq yq (xC K 1) (xC K 0))) (xq yq (xC K 0) (xC K 1)))))))
  (xY (xE (xn (xk vo (xk yu xD xD) (xk yu xD xD)) (xk yu xD xD)))) λts KK hl h=>?_
 obtain⟨f,g,rfl,hf,hg,k⟩:=h;have z:=Pol.pp hf.pos hg.pos;refine⟨⟨hf.top.bd,hg.bot.bd⟩,⟨hg.top.bd,hf.bot.bd⟩,⟨hf.bot.bd,hg.bot.bd⟩,_,_,rfl,by lia,(hf.bot.mul hg.bot).bd,?_⟩;rw[GB z];exact k
def Pe (B:ya mg bn)(D:DF K mg "times" A4 f fd ["whole", "fraction"])(vm:dM P w K mg base) :
  DM P w K mg base:=by
 refine yk D SI (λhr=>(xy (xR (xr vm hr (xi (xq yq (pv 0) (xC K 1)) (xC K 1))))))
  (xY (xE (xn (xk yu xc xD) xD))) λts KK hl h=>?_
 obtain⟨w,f,rfl,hw,hf,k⟩:=h;exact⟨⟨hw.bd,hf.top.bd⟩,_,_,rfl,by have:=hf.pos;lia,hf.bot.bd,k⟩
def Oz (B:ya mg bn)(D:DF K mg "corners_left" Ap f fd ["rows"])(iG:Dy P w K mg base)(iF:Dx P w K mg base) :
  p8 P w K mg base:=by
 refine yk D Sm (λhr=>(xy (xR (xr iG hr (xN (xr iF hr (xN (pv 0))))))))
  (fP (G3 (xM (xE (xM xc))))) λts KK hl h=>?_
 obtain⟨t,xa,rfl,ht,hr,k⟩:=h;have sm:=hr.small xa.length;have pl:=hr.plen xa.length;rw[uS (ym _)] at sm pl;exact⟨t,xa,rfl,ht,hr,_,rfl,sm,pl,k⟩
def O6 (B:ya mg bn)(D:DF K mg "piece_left" AV f fd ["rows"]){t_FAR:Tok}(jg:mg "FAR" = some (.int 60001 t_FAR))(l6:C5 P w K mg base) :
  Dx P w K mg base:=by
 refine yk D SD (λhr=>(xy (xR (xr l6 hr (xi (wA (yS (yB (yS (wO wQ (gI (v:=V.int 60001) rfl jg ⟨_,rfl⟩)) (xi (wO wQ (gI (v:=V.int 60001) rfl jg ⟨_,rfl⟩)) xl))) (yS (yB (yS (gI (v:=V.int 60001) rfl jg ⟨_,rfl⟩) (xi (wO wQ (gI (v:=V.int 60001) rfl jg ⟨_,rfl⟩)) xl))) (xi (yB (yS (gI (v:=V.int 60001) rfl jg ⟨_,rfl⟩) (xi (gI (v:=V.int 60001) rfl jg ⟨_,rfl⟩) xl))) (yB (yS (wO wQ (gI (v:=V.int 60001) rfl jg ⟨_,rfl⟩)) (xi (gI (v:=V.int 60001) rfl jg ⟨_,rfl⟩) xl))))))) (pv 0))))))
  (xY (xE (xn (v8 (b:=true) (zo (yA (b:=true) (zo (wM xo) (xn (wM xo) xo))) (zo (yA (b:=true) (zo xo (xn (wM xo) xo))) (xn (yA (b:=true) (zo xo (xn xo xo))) (yA (b:=true) (zo (wM xo) (xn xo xo))))))) xc))) λts KK hl h=>?_
 obtain⟨t,xa,rfl,ht,hr,k⟩:=h;exact⟨t,[],xa,rfl,ht,hr,k⟩
def OA (B:ya mg bn)(D:DF K mg "cut_down" Aq f fd ["piece", "rows"])(l9:C7 P w K mg base) :
  C5 P w K mg base:=by
 refine yk D Bf (λhr=>(xA (zX zG rfl (zB K (pv 1)) (yi 2 Bf.nd) (xy (yy 0 Bf.nd (xr l9 hr (xi (pv 0) (pv 2)))))) (xy (xR (pv 0)))))
  (xB (zV (zQ xc) xK.g (yE (xE (xn xc xc)))) (xY xc)) λts KK hl h=>?_
 obtain⟨t,r0,xa,rfl,ht,hr,k⟩:=h;have tk:∀i,((r0++xa).take (r0.length+i)).foldl uM box=(xa.take i).foldl uM (pieces r0):=λi=>by rw[List.take_append,uS (by lia),show r0.length+i-r0.length=i by lia,dq];rfl
 have main:kH (eName 2) (bX 0 (nF Hj (qK (wG 0) (qK (wG 2) kG)))) {nx:=bW (wG 0) {nx:=λx=>false=false/\KK Tr.non,rt:=KK},rt:=KK} (xa.map xg) [.fz (.lst ((pieces r0).map xg)),.fz t,.un]:=by
  refine vc (λi τ=>∃x2,τ=[.fz (.lst (((xa.take i).foldl uM (pieces r0)).map xg)),.fz t,x2]) ⟨_,rfl⟩ ?_ ?_
  .rintro i x τ N hx ⟨x2,rfl⟩ hN;obtain⟨r,hri,rfl⟩:=uY hx;rw[nO _ _ hri] at hN;have sm:=hr.small (r0.length+i);have pl:=hr.plen (r0.length+i);rw[tk] at sm pl;exact⟨_,r,rfl,hr.sm r (wZ _ (zq hri)),sm,pl,hN _ ⟨_,rfl⟩⟩
  .rintro τ ⟨x2,rfl⟩;rw[xP,uS (ym _)];unfold pieces at k ⊢;rw[dq] at k;exact k
 rcases ht with rfl|rfl<;>exact main
def O7 (B:ya mg bn)(D:DF K mg "places_of" cp f fd ["piece"])(vm:dM P w K mg base)(l_:C8 P w K mg base) :
  Dy P w K mg base:=by
 refine yk D SE (λhr=>(xy (xR (vE (ui (N:=["x", "y", "bottom"]) (xQ:=[none,none,none]) (XN:=["piece"]) (xs:=xH cp) (by decide +kernel) rfl rfl) rfl (gz (vd rfl (vd rfl (vd rfl gA)))) (zB K (xr l_ hr (xN (pv 0)))) (λ_ _ _ _=>(zM K (n:=3) rfl (ye (zi (i:=0) (show(["x", "y", "bottom"]:List Str).Nodup by decide +kernel) rfl (Or.inl rfl)) (ye (zi (i:=1) (show(["x", "y", "bottom"]:List Str).Nodup by decide +kernel) rfl (Or.inl rfl)) (ye (zi (i:=2) (show(["x", "y", "bottom"]:List Str).Nodup by decide +kernel) rfl (Or.inl rfl)) zD))))) (λ_ _ _ _=>kR) (λ_ _ _ _=>(yB (xi (xr vm hr (xi (pv 0) (pv 2))) (xr vm hr (xi (pv 1) (pv 2))))))))))
  (fP (ur (zQ (xE (xM xc))).c (zR (yh xK (yh xK (yh xK zK)))) kO (yA (b:=true) (xn (xE (xn xc xc)) (xE (xn xc xc)))))) λts KK hl h=>?_
 obtain⟨l,rfl,sm,pl,k⟩:=h;refine⟨l,rfl,λv hv=>(sm v hv).1.b3,pl,?_,?_⟩
 .rw[xP,nW];exact wc (by lia)
 .refine dS (λx=>match qW x with|some v=>xF v|none=>.non) (λx hx N hN=>?_) ?_
  .obtain⟨v,hv,rfl⟩:=zT.mp hx;have hb:=sm v (gC hv);exact⟨rfl,_,_,rfl,by lia,hb.1.2.bd,_,_,rfl,by lia,hb.1.2.bd,hN⟩
  .rw[vi];exact k
def OC (B:ya mg bn)(D:DF K mg "cut_piece" As f fd ["piece", "row"])(iQ:DR P w K mg base)(jS:p7 P w K mg base) :
  C7 P w K mg base:=by
 refine yk D ao (λhr=>(xA (yy 2 ao.nd (wA u5)) (xA (zX zG rfl (eo K rfl (B.get "enumerate") (xN (pv 0))) (zM K (n:=2) rfl (ye (yi 3 ao.nd) (ye (yi 4 ao.nd) zD))) (xA (yy 5 ao.nd (zd (zO K) (pv 0) (xq zS (pv 3) xl) (λ_ _=>rfl))) (xA (yR (yG (qR K hr.units) (xq yq (xr jS hr (xi (pv 1) (pv 5))) (xr jS hr (xi (pv 1) (pv 4)))) xl (yj _)) (xA (yy 6 ao.nd (xr iQ hr (yS (pv 1) (xi (pv 5) (pv 4))))) (xy (yR (yG (iZ hr.units) (pv 6) (pv 2) (by with_unfolding_all rfl)) (xy (vf (vO qD q9 q_ qo (pv 2) (xN (pv 6))))) yT))) yT)
  (xy (yR (yG jn (xr jS hr (xi (pv 1) (pv 4))) xl (yj _)) (xy (vf (vO qD q9 q_ qo (pv 2) (xN (pv 4))))) yT)))))
  (xy (xR (pv 2))))))
  (xB (vD (kM vn)) (xB (zV (iV (xM xc)) (zR (yh xK (yh xK zK))).g (xB (yE (wH xc (xk zW xc xo))) (xB (yY (yH (xk qS (xk yu (xE (xn xc xc)) (xE (xn xc xc))) xo)) (xB (yE (xE (zo xc (xn xc xc)))) (yY (yH (xk i6 xc sW)) (qq xc) y7)) y7) (yY (yH (xk jo (xE (xn xc xc)) xo)) (qq xc) y7)))) tF)) λts KK hl h=>?_
 obtain⟨l,r,rfl,hr,hl',hz,k⟩:=h;refine vc (all:=vj (l.map xg)) (λi τ=>∃x3 x4 x5 x6,τ=[.fz (.lst (l.map xg)),.fz (xg r),.ow ((((yX l).take i).foldl (zJ r) []).map xg),x3,x4,x5,x6]/\(((yX l).take i).foldl (zJ r) []).length<=2*i)
  ⟨_,_,_,_,rfl,ym _⟩ ?_ ?_
 .rintro i x τ N hx ⟨x3,x4,x5,x6,rfl,hlen⟩ hN;obtain⟨v,hv,rfl⟩:=oU hx;obtain⟨u,hu,hc,ha⟩:=KP hv;have hvm:=zq hv;have hi:=(y8.mp hv).1;have fold:=nO (zJ r) [] hc;generalize hacc:((yX l).take i).foldl (zJ r) []=acc at fold hlen ⊢;have leaf:∀(ts:List Tr) (y6:TV),ts=(zJ r acc (u,v)).map xg->N [.fz (.lst (l.map xg)),.fz (xg r),.ow ts,.fz (.int i),.fz (xg v),.fz (xg u),y6]:=λts y6 e=>by
   rw[fold] at hN;refine hN _ ⟨_,_,_,y6,by rw[e],?_⟩
   .have:=Jd r acc (u,v);have s2:(seg r (u,v)).length<=2:=by unfold seg;split<;>split<;>simp
    lia
  have bu:=hl' u hu;have bv:=hl' v hvm;have len0:∀n:Nat,n<=acc.length+1->n<sizeLine:=λn hn=>wc (by lia);refine⟨rfl,?_⟩;show wy (atT (l.map xg) ((i:Int)-1)) _;rw[ha];refine⟨r,u,rfl,hr.b3,bu.1.b3,r,v,rfl,hr.b3,bv.1.b3,⟨(hr.val bu.1).bd,(hr.val bv.1).bd⟩,?_⟩;refine yg (b:=decide (val r u*val r v<0)) (λc=>?_) (λc=>?_)
  .have c:=yU c;refine⟨r,u,v,rfl,⟨hr,bu.1,bv.1⟩,⟨bu.2,bv.2⟩,c,⟨af _,fx xg af acc,(by show(1:Nat)<=60;decide)⟩,?_⟩;refine yg (b:=!((acc.map xg).any λt=>zE t (xg (x_ r u v)))) (λd=>?_) (λd=>?_)
   .rw[DY] at d;have d:x_ r u v∉acc:=by simpa using d
    refine⟨len0 _ (by simp),r,v,rfl,hr.b3,bv.1.b3,?_⟩;refine yg (b:=decide (val r v<=0)) (λe=>?_) (λe=>?_)
    .have e:=yU e;exact⟨len0 _ (by simp),leaf _ _ (by simp[zJ,c,d,e])⟩
    .have e:=zZ e;exact leaf _ _ (by simp[zJ,c,d,e])
   .rw[DY] at d;have d:x_ r u v∈acc:=by simpa using d
    refine⟨r,v,rfl,hr.b3,bv.1.b3,?_⟩;refine yg (b:=decide (val r v<=0)) (λe=>?_) (λe=>?_)
    .have e:=yU e;exact⟨len0 _ (by simp),leaf _ _ (by simp[zJ,c,d,e])⟩
    .have e:=zZ e;exact leaf _ _ (by simp[zJ,c,d,e])
  .have c:=zZ c;refine⟨r,v,rfl,hr.b3,bv.1.b3,?_⟩;refine yg (b:=decide (val r v<=0)) (λe=>?_) (λe=>?_)
   .have e:=yU e;exact⟨len0 _ (by simp),leaf _ _ (by simp[zJ,c,e])⟩
   .have e:=zZ e;exact leaf _ _ (by simp[zJ,c,e])
 .rintro τ ⟨x3,x4,x5,x6,rfl,hlen⟩;rw[rM,uS (by rw[oJ];exact ym _)];exact k
def Ov (B:ya mg bn)(D:DF K mg "beyond" An f fd ["row", "corner"])  :
  p7 P w K mg base:=by
 refine yk D fU (λhr=>(xA (wX (pv 0) (zM K (n:=3) rfl (ye (yi 2 fU.nd) (ye (yi 3 fU.nd) (ye (yi 4 fU.nd) zD))))) (xA (wX (pv 1) (zM K (n:=3) rfl (ye (yi 5 fU.nd) (ye (yi 6 fU.nd) (ye (yi 7 fU.nd) zD))))) (xy (xR (xq zS (xq ux (xq yq (pv 2) (pv 5)) (xq yq (pv 3) (pv 6))) (xq yq (pv 4) (pv 7))))))))
  (xB (uu xc (zR (yh xK (yh xK (yh xK zK)))).g) (xB (uu xc (zR (yh xK (yh xK (yh xK zK)))).g) (xY (xk zW (xk vo (xk yu xc xc) (xk yu xc xc)) (xk yu xc xc))))) λts KK hl h=>?_
 obtain⟨r,p,rfl,hr,hp,k⟩:=h;exact⟨rfl,rfl,⟨hr.1.1,hp.1.1⟩,⟨hr.1.2,hp.1.2⟩,⟨hr.2,hp.2⟩,k⟩
def Pm (B:ya mg bn)(D:DF K mg "where_crossed" cB f fd ["row", "one", "other"])(qp:rq P w K mg base)(jS:p7 P w K mg base) :
  DR P w K mg base:=by
 refine yk D fW (λhr=>(xA (wX (yB (xi (yO ja rfl (B.get "abs") k_ (xN (xr jS hr (xi (pv 0) (pv 1))))) (yO ja rfl (B.get "abs") k_ (xN (xr jS hr (xi (pv 0) (pv 2))))))) (zM K (n:=2) rfl (ye (zi (i:=3) fW.nd rfl (Or.inr rfl)) (ye (zi (i:=4) fW.nd rfl (Or.inr rfl)) zD)))) (xA (wX (vE (ui (N:=["here", "there", "other_off", "one_off"]) (xQ:=[none,none,some 4,some 3]) (XN:=["row", "one", "other", "one_off", "other_off", "x", "y", "bottom", "shared"]) (xs:=xH cB) (by decide +kernel) rfl rfl) rfl (gz (vd rfl (vd rfl gA))) (bO K rfl (B.get "zip") (xi (pv 1) (pv 2))) (λ_ _ _ _=>(zM K (n:=2) rfl (ye (zi (i:=0) (show(["here", "there", "other_off", "one_off"]:List Str).Nodup by decide +kernel) rfl (Or.inl rfl)) (ye (zi (i:=1) (show(["here", "there", "other_off", "one_off"]:List Str).Nodup by decide +kernel) rfl (Or.inl rfl)) zD)))) (λ_ _ _ _=>kR) (λ_ _ _ _=>(xq ux (xq yq (pv 2) (pv 0)) (xq yq (pv 3) (pv 1))))) (Rb K (n:=3) rfl (ye (yi 5 fW.nd) (ye (yi 6 fW.nd) (ye (yi 7 fW.nd) zD)))))
  (xA (yy 8 fW.nd (xr qp hr (xi (xr qp hr (xi (pv 5) (pv 6))) (pv 7)))) (xy (xR (yB (yS (xq uZ (pv 5) (pv 8)) (xi (xq uZ (pv 6) (pv 8)) (xq uZ (pv 7) (pv 8)))))))))))
  (xB (uu (yA (b:=true) (xn (zz jb (xM (xE (xn xc xc)))) (zz jb (xM (xE (xn xc xc)))))) (zR (yh xK (yh xK zK))).g) (xB (uu (zw.e (ur (bH (xn xc xc)).c (zR (yh xK (yh xK zK))) kO (xk vo (xk yu xc xc) (xk yu xc xc)))) (Pw (yh xK (yh xK (yh xK zK)))).g) (xB (yE (xE (xn (xE (xn xc xc)) xc))) (xY (yA (b:=true) (zo (xk u4 xc xc) (xn (xk u4 xc xc) (xk u4 xc xc)))))))) λts KK hl h=>?_
 obtain⟨r,u,v,rfl,⟨hr,hu,hv⟩,⟨zu,zv⟩,hn,k⟩:=h;have au:Bk 1000 (abs (val r u)):=((hr.val hu).mono (by decide)).abs;have av:Bk 1000 (abs (val r v)):=((hr.val hv).mono (by decide)).abs;have cu:∀ {i},Bk 800 i->CM (abs (val r v)) i:=λh=>⟨av.bd,h.bd⟩
 have cv:∀ {i},Bk 800 i->CM (abs (val r u)) i:=λh=>⟨au.bd,h.bd⟩
 obtain⟨b,_,_,_⟩:=rD zu zv hn;have wz:0<(cw r u v).2.2:=by have h1:=Pol.pp b.pa zu;have h2:=Pol.pp b.pb zv;show 0<abs (val r v)*u.2.2+abs (val r u)*v.2.2;lia
 have wb:Bd (cw r u v).2.2:=((av.mul hu.2).add (au.mul hv.2)).bd;have gp:=sj wz;have gb:Bd (yQ (cw r u v):Int):=ot (by lia) wb;refine⟨r,u,rfl,hr.b3,hu.b3,r,v,rfl,hr.b3,hv.b3,rfl,wc (show(3:Nat)<=1000000 by decide),rfl,cu hu.1.1,cv hv.1.1,rfl,cu hu.1.2,cv hv.1.2,rfl,cu hu.2,cv hv.2,rfl,_,_,rfl,_,_,rfl,⟨?_,gb⟩,⟨?_,gb⟩,⟨?_,gb⟩,?_⟩
 .show(yQ (cw r u v):Int)≠0;lia
 .show(yQ (cw r u v):Int)≠0;lia
 .show(yQ (cw r u v):Int)≠0;lia
 show KK (.tup [.int ((cw r u v).1.fdiv (yQ (cw r u v))),.int ((cw r u v).2.1.fdiv (yQ (cw r u v))),.int ((cw r u v).2.2.fdiv (yQ (cw r u v)))]);rw[vV (by lia),vV (by lia),vV (by lia)];exact k
def OE (B:ya mg bn)(D:DF K mg "from_least" Aw f fd ["piece"])(ib:Dc P w K mg base) :
  C8 P w K mg base:=by
 refine yk D tW (λhr=>(xA (yy 1 tW.nd xl) (xA (zX zG rfl (eo K rfl (B.get "enumerate") (xN (pv 0))) (zM K (n:=2) rfl (ye (yi 2 tW.nd) (ye (yi 3 tW.nd) zD))) (xy (yR (wm (xr ib hr (xi (pv 3) (zd (zO K) (pv 0) (pv 1) (λ_ _=>rfl))))) (xy (yy 1 tW.nd (pv 2))) yT))) (xy (xR (xq fQ (gK (cO K) (pv 0) (gM (pv 1)) gL) (gK (cO K) (pv 0) gL (gM (pv 1)))))))))
  (xB (yE xo) (xB (zV (iV (xM xc)) (zR (yh xK (yh xK zK))).g (yY (zA (xE (xn xc (wH xc xc)))) (yE xc) y7)) (fP (sX (G2 xc (gF xc) gE) (G2 xc gE (gF xc)))))) λts KK hl h=>?_
 obtain⟨l,rfl,hl',hz,k⟩:=h;refine vc (all:=vj (l.map xg)) (λi τ=>∃x2 x3,τ=[.fz (.lst (l.map xg)),.fz (.int ((List.range i).foldl (uo l) 0:Nat)),x2,x3]/\((List.range i).foldl (uo l) 0<l.length\/l=[]))
  ⟨_,_,rfl,?_⟩ ?_ ?_
 .cases l with
  |nil=>exact .inr rfl
  |cons a t=>exact .inl (by simp)
 .rintro i x τ N hx ⟨x2,x3,rfl,hlen⟩ hN;obtain⟨v,hv,rfl⟩:=oU hx;have hvm:=zq hv;have hi:=(y8.mp hv).1;have fold:(List.range (i+1)).foldl (uo l) 0=uo l ((List.range i).foldl (uo l) 0) i:=by rw[List.range_succ,dq];rfl
  generalize hs:(List.range i).foldl (uo l) 0=s at fold hlen ⊢;have hs':s<l.length:=hlen.resolve_right (λz=>by rw[z] at hi;simp at hi);have eu:atT (l.map xg) (s:Int)=some (xg l[s]):=by rw[jF,ue,yC hs'];rfl
  refine⟨rfl,?_⟩;show wy (atT (l.map xg) (s:Int)) _;rw[eu];have ev:l.getD i (0,0,0)=v:=by rw[jz,hv];rfl
  have es:l.getD s (0,0,0)=l[s]:=by rw[jz,yC hs'];rfl
  refine⟨v,l[s],rfl,hl' _ hvm,hl' _ (BZ hs'),?_⟩;refine yg (b:=ahead v l[s]) (λc=>?_) (λc=>?_)
  .have f2:uo l s i=i:=by unfold uo;rw[ev,es,xJ c]
   rw[fold,f2] at hN;exact hN _ ⟨_,_,rfl,.inl hi⟩
  .have c':¬ahead v l[s]=true:=by rw[c];exact uG
   have f2:uo l s i=s:=by unfold uo;rw[ev,es,xG c']
   rw[fold,f2] at hN;exact hN _ ⟨_,_,rfl,.inl hs'⟩
 .rintro τ ⟨x2,x3,rfl,hlen⟩;rw[rM];show(wK (l.map xg) (some ((kJ l:Nat):Int)) none).length+(wK (l.map xg) none (some ((kJ l:Nat):Int))).length<=sizeLine/\KK (.lst (wK (l.map xg) (some ((kJ l:Nat):Int)) none++wK (l.map xg) none (some ((kJ l:Nat):Int))));rw[nB,nE];refine⟨t7 (by simp;lia),?_⟩;unfold uI at k;rw[wD,pH,B7] at k;exact k
def OI (B:ya mg bn)(D:DF K mg "is_ahead" AA f fd ["one", "other"])  :
  Dc P w K mg base:=by
 refine yk D So (λhr=>(xy (xR (uO (qR K hr.units) (yB (xi (xq yq (xC K 0) (xC K 1)) (xq yq (xC K 0) (xC K 1)))) (yB (xi (xq yq (xC K 1) (xC K 0)) (xq yq (xC K 1) (xC K 0)))) (yj _)))))
  (xY (xk qS (yA (b:=true) (xn (xk yu xD xD) (xk yu xD xD))) (yA (b:=true) (xn (xk yu xD xD) (xk yu xD xD))))) λts KK hl h=>?_
 obtain⟨p,q,rfl,hp,hq,k⟩:=h;refine⟨⟨hp.1.1,hq.2⟩,⟨hp.1.2,hq.2⟩,⟨hq.1.1,hp.2⟩,⟨hq.1.2,hp.2⟩,[p.1*q.2.2,p.2.1*q.2.2],[q.1*p.2.2,q.2.1*p.2.2],rfl,rfl,?_⟩;rw[Nj];exact k
theorem OO (B:ya mg bn)(D:DF K mg "is_row" AF f fd ["thing"])(sO:p6 P w K mg base) :
  Di P w K mg base:=by
 refine yk D Sw (λhr=>(xA (yR (PW.pt (uc (uA (wm (yO kD rfl (B.get "isinstance") kB (xi (pv 0) (kP (v:=V.ty "tuple") rfl (B.get "tuple") qf rfl))))) (uc (yG (ua hr.units) (yO (uh K) rfl (B.get "len") ug (xN (pv 0))) xl (yj _)) (vF (uA (wm (xr sO hr (xN (pv 0))))))))) (xy (xR ve)) yT) (xy (xR (bN (uO (ua hr.units) (xC K 0) xl (yj _)) (jX (uO (ua hr.units) (xC K 0) xl (yj _))))))))
  (xB (yY (w_ (uw (zA (kL xc))) (w_ (yH (xk ub (zz uK (xM xc)) xo)) (uw (zA (xE (xM xc)))))) (xY vC) y7) (xY (bE (xk ub xD xo) (xk ub xD xo)))) λts KK hl h=>?_
 obtain⟨t,rfl,k⟩:=h;cases t with
 |tup us=>
  refine yg (b:=!decide ((us.length:Int)=3)) (λc=>?_) (λc=>?_)
  .have c:¬(us.length:Int)=3:=by simpa using c
   have e:r6 (.tup us)=false:=by
    unfold r6;cases e:qW (.tup us) with
    |none=>rfl
    |some r=>have:=bS e;unfold xg at this;injection this with this;rw[this] at c;exact absurd rfl c
   rw[e] at k;exact k
  .have c:us.length=3:=by simp at c;lia
   obtain⟨x,y,z,rfl⟩:∃x y z,us=[x,y,z]:=by
    match us,c with
    |[x,y,z],_=>exact⟨x,y,z,rfl⟩
   refine⟨_,rfl,_,.inl rfl,Ni c,?_⟩;cases x with
   |int a=>
    cases y with
    |int b=>
     cases z with
     |int d=>
      show if (!decide (a=0))=true then KK (.bl true) else KK (.bl (!decide (b=0)))
      by_cases ha:a=0<;>by_cases hb:b=0<;>simp[ha,hb,r6,qW] at k ⊢<;>exact k
     |_=>exact k
    |_=>exact k
   |_=>exact k
 |_=>exact k
def Ph (B:ya mg bn)(D:DF K mg "value" A7 f fd ["row", "place"])(iH:Dz P w K mg base)(bA:DM P w K mg base) :
  oh P w K mg base:=by
 refine yk D SK (λhr=>(xy (xR (xr iH hr (xi (xr bA hr (xi (xC K 0) (xC K 1))) (xr bA hr (xi (xC K 0) (xC K 1))))))))
  (xY (xE (xn (xE (xn xD xD)) (xE (xn xD xD))))) λts KK hl h=>?_
 obtain⟨a,c,x,p,rfl,ha,hc,hp,k⟩:=h;have h1:=(Fk.timW ha hp.1).mono (show 800<=900 by decide);have h2:=(Fk.timW hc hp.2).mono (show 800<=900 by decide);refine⟨a,p.1,rfl,ha.mono (by decide),hp.1.mono (by decide),c,p.2,rfl,hc.mono (by decide),hp.2.mono (by decide),_,_,rfl,h1,h2,?_⟩;rw[Mq hp.1.pos hp.2.pos];exact k
def OR (B:ya mg bn)(D:DF K mg "keeps" AI f fd ["row", "place"])(sT:oh P w K mg base) :
  Dl P w K mg base:=by
 refine yk D Bj (λhr=>(xA (wX (xr sT hr (xi (pv 0) (pv 1))) (zM K (n:=2) rfl (ye (yi 2 Bj.nd) (ye (yi 3 Bj.nd) zD)))) (xy (xR (uO jn (pv 2) (xq yq (xC K 0) (pv 3)) (yj _))))))
  (xB (uu (xE (xn xc xc)) (zR (yh xK (yh xK zK))).g) (xY (xk jo xc (xk yu xD xc)))) λts KK hl h=>?_
 obtain⟨r,p,rfl,hr,hp,k⟩:=h;exact⟨r.1,r.2.1,[.int r.2.2],p,rfl,hr.1.1,hr.1.2,hp,rfl,⟨hr.2.bd,(FE hr hp).bot.bd⟩,k⟩
def OP (B:ya mg bn)(D:DF K mg "is_tight" AG f fd ["row", "place"])(sT:oh P w K mg base) :
  Dj P w K mg base:=by
 refine yk D Bi (λhr=>(xA (wX (xr sT hr (xi (pv 0) (pv 1))) (zM K (n:=2) rfl (ye (yi 2 Bi.nd) (ye (yi 3 Bi.nd) zD)))) (xy (xR (uO (uy hr.units) (pv 2) (xq yq (xC K 0) (pv 3)) (yj _))))))
  (xB (uu (xE (xn xc xc)) (zR (yh xK (yh xK zK))).g) (xY (xk os_eq xc (xk yu xD xc)))) λts KK hl h=>?_
 obtain⟨r,p,rfl,hr,hp,k⟩:=h;refine⟨r.1,r.2.1,[.int r.2.2],p,rfl,hr.1.1,hr.1.2,hp,rfl,⟨hr.2.bd,(FE hr hp).bot.bd⟩,k⟩
def Pf (B:ya mg bn)(D:DF K mg "turn_to" A5 f fd ["one", "other"])  :
  jE P w K mg base:=by
 refine yk D SJ (λhr=>(xy (xR (xq zS (xq yq (xC K 0) (xC K 1)) (xq yq (xC K 0) (xC K 1))))))
  (xY (xk zW (xk yu xD xD) (xk yu xD xD))) λts KK hl h=>?_
 obtain⟨a,b,c,d,x,y,rfl,hb,k⟩:=h;exact⟨⟨hb.1.1,hb.2.2⟩,⟨hb.1.2,hb.2.1⟩,k⟩
theorem OG (B:ya mg bn)(D:DF K mg "go_round" Ay f fd ["rows"])(bz:C9 P w K mg base)(iI:DB P w K mg base)(wk:jE P w K mg base) :
  C_ P w K mg base:=by
 refine yk D cH (λhr=>(xA (yR (yG (uy hr.units) (yO (uh K) rfl (B.get "len") ug (xN (pv 0))) xl (yj _)) (xy (xR ve)) yT) (xA (yy 1 cH.nd (xC K 0)) (xA (yy 2 cH.nd (xr bz hr (yS (pv 1) (xi (pv 0) xl)))) (xA (yy 3 cH.nd (xr bz hr (yS (pv 1) (xi (pv 0) (wO wQ xl))))) (xA (yR (PW.pt (uc (gN (tK (pv 2))) (vF (gN (tK (pv 3)))))) (xy (xR ve)) yT) (xy (xR (bN (uO sZ (xr wk hr (xi (pv 2) (pv 3))) xl (yj _)) (jX (xr iI hr (xi (pv 1) (pv 0)))))))))))))
  (xB (yY (yH (xk os_eq (zz uK (xM xc)) xo)) (xY vC) y7) (xB (yE xD) (xB (yE (xE (zo xc (xn xc xo)))) (xB (yE (xE (zo xc (xn xc (wM xo))))) (xB (yY (w_ (zA (tE xc)) (zA (tE xc))) (xY vC) y7) (xY (bE (xk s_ (xE (xn xc xc)) xo) (xE (xn xc xc))))))))) λts KK hl h=>?_
 obtain⟨xa,rfl,hx,k⟩:=h;cases xa with
 |nil=>exact k
 |cons r t=>
  have hr:=hx r xU;refine⟨r,r::t,1,rfl,.inl rfl,hr,hx,r,r::t,-1,rfl,.inr rfl,hr,hx,?_⟩;have e:qN (r::t)=match far r 1 (r::t),far r (-1) (r::t) with
   |some l,some k=>decide (0<Pol.turn l k)||Pol.back r (r::t)
   |_,_=>false:=rfl
  rw[e] at k;cases e1:far r 1 (r::t) with
  |none=>rw[e1] at k;exact k
  |some l=>
   cases e2:far r (-1) (r::t) with
   |none=>rw[e1,e2] at k;exact k
   |some q=>
    rw[e1,e2] at k;have hl2:=hx l (sf e1).mem;have hq2:=hx q (sf e2).mem;refine⟨l.1,l.2.1,q.1,q.2.1,_,_,rfl,⟨⟨hl2.1.1.bd,hl2.1.2.bd⟩,hq2.1.1.bd,hq2.1.2.bd⟩,?_⟩;have k:KK (.bl (decide (0<Pol.turn l q)||Pol.back r (r::t))):=k;refine yg (b:=decide (0<Pol.turn l q)) (λc=>?_) (λc=>?_)
    .rw[c] at k;exact k
    .rw[c,Bool.false_or] at k;exact⟨r,r::t,rfl,hr,hx,k⟩
def OF (B:ya mg bn)(D:DF K mg "furthest" Ax f fd ["first", "rows", "sign"])(wk:jE P w K mg base) :
  C9 P w K mg base:=by
 refine yk D cG (λhr=>(xA (yy 3 cG.nd gJ) (xA (zX zG rfl (zB K (pv 1)) (yi 4 cG.nd) (xy (yR (PW.pt (jq (yG sZ (xq yq (pv 2) (xr wk hr (xi (pv 0) (pv 4)))) xl (yj _)) (jZ (PW.pt (uc (gN (tK (pv 3))) (vF (yG sZ (xq yq (pv 2) (xr wk hr (xi (pv 3) (pv 4)))) xl (yj _)))))))) (xy (yy 3 cG.nd (pv 4))) yT))) (xy (xR (pv 3))))))
  (xB (yE (kK (t:=Tr.non))) (xB (zV (zQ xc) xK.g (yY (jm (yH (xk s_ (xk yu xc (xE (xn xc xc))) xo)) (w_ (zA (tE xc)) (yH (xk s_ (xk yu xc (xE (xn xc xc))) xo)))) (yE xc) y7)) (xY xc))) λts KK hl h=>?_
 obtain⟨r,xa,s,rfl,hs,hr,hx,k⟩:=h;have tb:∀ {p q:Pol.R3},yL 900 p->yL 900 q->Bk 1801 (Pol.turn p q):=λhp hq=>(hp.1.1.mul hq.1.2).sub (hp.1.2.mul hq.1.1);have sb:Bd s:=by rcases hs with rfl|rfl<;>exact fu (by decide) (by decide)
 refine vc (all:=xa.map xg) (λi τ=>∃x4,τ=[.fz (xg r),.fz (.tup (xa.map xg)),.fz (.int s),.fz (i5 ((xa.take i).foldl (vU r s) none)),x4]/\∀y,(xa.take i).foldl (vU r s) none=some y->yL 900 y) ⟨_,rfl,λy hy=>by cases hy⟩ ?_ ?_
 .rintro i x τ N hxi ⟨x4,rfl,hb⟩ hN;obtain⟨y,hyi,rfl⟩:=uY hxi;have hy:=hx y (zq hyi);have fold:=nO (vU r s) none hyi;generalize hacc:(xa.take i).foldl (vU r s) none=acc at fold hb ⊢;have leaf:∀o:Option Pol.R3,o=vU r s acc y->N [.fz (xg r),.fz (.tup (xa.map xg)),.fz (.int s),.fz (i5 o),.fz (xg y)]:=λo e=>by
   rw[fold] at hN;refine hN _ ⟨_,by rw[e],?_⟩
   .unfold vU;split
    .intro z hz;cases hz;exact hy
    .exact hb
  refine⟨r.1,r.2.1,y.1,y.2.1,_,_,rfl,⟨⟨hr.1.1.bd,hr.1.2.bd⟩,hy.1.1.bd,hy.1.2.bd⟩,⟨sb,(tb hr hy).bd⟩,?_⟩;refine yg (b:=decide (0<s*Pol.turn r y)) (λc=>?_) (λc=>?_)
  .have c:=yU c;cases acc with
   |none=>exact leaf (some y) (by unfold vU;rw[xJ ⟨c,rfl⟩])
   |some z=>
    have hz:=hb z rfl;refine⟨z.1,z.2.1,y.1,y.2.1,_,_,rfl,⟨⟨hz.1.1.bd,hz.1.2.bd⟩,hy.1.1.bd,hy.1.2.bd⟩,⟨sb,(tb hz hy).bd⟩,?_⟩;refine yg (b:=decide (0<s*Pol.turn z y)) (λd=>?_) (λd=>?_)
    .exact leaf (some y) (by unfold vU;rw[xJ ⟨c,d⟩])
    .refine leaf (some z) ?_;unfold vU;rw[xG (λw=>by have w2:decide (0<s*Pol.turn z y)=true:=w.2;rw[d] at w2;cases w2)]
  .have c:=zZ c;exact leaf acc (by unfold vU;rw[xG λw=>c w.1])
 .rintro τ ⟨x4,rfl,_⟩;rw[xP,uS (ym _)];exact k
def O9 (B:ya mg bn)(D:DF K mg "points_back" AX f fd ["first", "rows"])(wk:jE P w K mg base) :
  DB P w K mg base:=by
 refine yk D IQ (λhr=>(xA (zX zG rfl (zB K (pv 1)) (yi 2 IQ.nd) (xy (yR (PW.pt (jq (yG (uy hr.units) (xr wk hr (xi (pv 0) (pv 2))) xl (yj _)) (jZ (yG (qR K hr.units) (xq ux (xq yq (xC K 0) (xC K 2)) (xq yq (xC K 0) (xC K 2))) xl (yj _))))) (xy (xR ve)) yT))) (xy (xR ve))))
  (xB (zV (zQ xc) xK.g (yY (jm (yH (xk os_eq (xE (xn xc xc)) xo)) (yH (xk qS (xk vo (xk yu xD xD) (xk yu xD xD)) xo))) (xY vC) y7)) (xY vC)) λts KK hl h=>?_
 obtain⟨r,xa,rfl,hr,hx,k⟩:=h;refine vc (all:=xa.map xg) (λi τ=>∃x2,τ=[.fz (xg r),.fz (.tup (xa.map xg)),x2]/\∀y∈xa.take i,¬(Pol.turn r y=0/\dot r y<0)) ⟨_,rfl,λy hy=>by simp at hy⟩ ?_ ?_
 .rintro i x τ N hxi ⟨x2,rfl,hb⟩ hN;obtain⟨y,hyi,rfl⟩:=uY hxi;have hym:=zq hyi;have hy:=hx y hym;have leaf:¬(Pol.turn r y=0/\dot r y<0)->N [.fz (xg r),.fz (.tup (xa.map xg)),.fz (xg y)]:=λc=>hN _ ⟨_,rfl,λz hz=>by
   rw[vI,hyi] at hz;rcases yz.mp hz with q|q
   .exact hb z q
   .have:z=y:=by simpa using q
    rw[this];exact c⟩
  refine⟨r.1,r.2.1,y.1,y.2.1,_,_,rfl,⟨⟨hr.1.1.bd,hr.1.2.bd⟩,hy.1.1.bd,hy.1.2.bd⟩,?_⟩;refine yg (b:=decide (Pol.turn r y=0)) (λc=>?_) (λc=>?_)
  .have c:=yU c;refine⟨⟨hr.1.1.bd,hy.1.1.bd⟩,⟨hr.1.2.bd,hy.1.2.bd⟩,?_⟩;refine yg (b:=decide (dot r y<0)) (λd=>?_) (λd=>?_)
   .have d:=yU d;have:Pol.back r xa=true:=by unfold Pol.back;rw[aJ];exact⟨y,hym,by simp[c,d]⟩
    rw[this] at k;exact k
   .have d:=zZ d;exact leaf λw=>d w.2
  .have c:=zZ c;exact leaf λw=>c w.1
 .rintro τ ⟨x2,rfl,hb⟩;rw[xP,uS (ym _)] at hb;have:Pol.back r xa=false:=by unfold Pol.back;rw[List.any_eq_false];intro y hy w;simp at w;exact hb y hy w
  rw[this] at k;exact k
theorem OL (B:ya mg bn)(D:DF K mg "is_field" tS f fd ["thing"])(ia:C_ P w K mg base)(ip:Dh P w K mg base)(sP:p8 P w K mg base)(ik:Dg P w K mg base) :
  Df P w K mg base:=by
 refine yk D Sr (λhr=>(xA (yR (PW.pt (uc (uA (wm (yO kD rfl (B.get "isinstance") kB (xi (pv 0) (kP (v:=V.ty "tuple") rfl (B.get "tuple") qf rfl))))) (vF (uA (Ro jn jn xl (yO (uh K) rfl (B.get "len") ug (xN (pv 0))) xl))))) (xy (xR ve)) yT) (xA (yR (PW.pt (uc (uA (wm (yO (m_ K rfl) rfl (B.get "all") m6 (xN (vE (ui (N:=["row"]) (xQ:=[none]) (XN:=["thing"]) (xs:=xH tS) (by decide +kernel) rfl rfl) rfl (vW rfl) (zB K (pv 0)) (λ_ _ _ _=>(zi (i:=0) (show(["row"]:List Str).Nodup by decide +kernel) rfl (Or.inl rfl))) (λ_ _ _ _=>kR) (λ_ _ _ _=>(xr ik hr (xN (pv 0))))))))) (vF (uA (wm (xr ia hr (xN (pv 0)))))))) (xy (xR ve)) yT)
  (xy (xR (yO (m_ K rfl) rfl (B.get "all") m6 (xN (vE (ui (N:=["place"]) (xQ:=[none]) (XN:=["thing"]) (xs:=xH tS) (by decide +kernel) rfl rfl) rfl (vW rfl) (zB K (xr sP hr (xN (pv 0)))) (λ_ _ _ _=>(zi (i:=0) (show(["place"]:List Str).Nodup by decide +kernel) rfl (Or.inl rfl))) (λ_ _ _ _=>kR) (λ_ _ _ _=>(xr ip hr (xN (pv 0))))))))))))
  (xB (yY (w_ (uw (zA (kL xc))) (uw (yH (Ox jo jo xo (zz uK (xM xc)) xo)))) (xY vC) y7) (xB (yY (w_ (uw (zA (zz ng (xM (zw.e (ur (zQ xc).c xK kO (xE (xM xc)))))))) (uw (zA (xE (xM xc))))) (xY vC) y7) (xY (zz ng (xM (zw.e (ur (zQ (xE (xM xc))).c xK kO (xE (xM xc))))))))) λts KK hl h=>?_
 obtain⟨t,rfl,k⟩:=h;cases t with
 |tup us=>
  refine yg (b:=decide ((3:Int)<=us.length)) (λc1=>?_) (λc1=>?_)
  .have c1:=yU c1;refine yg (b:=!decide ((us.length:Int)<=8)) (λc2=>?_) (λc2=>?_)
   .have c2:8<us.length:=by simp at c2;lia
    have e:isField (.tup us)=false:=by
     show(match rowsOf us with|some xa=>yD xa|none=>false)=false;cases e:rowsOf us with
     |none=>rfl
     |some xa=>show yD xa=false;unfold yD;rw[bT e,xP] at c2;rw[uU (by lia)];rfl
    rw[e] at k;exact k
   .have c2:us.length<=8:=by simp at c2;lia
    refine⟨wc (by lia),dS (λx=>.bl (ji x)) (λx _ N hN=>⟨x,rfl,hN⟩) ⟨us.map ji,by rw[vi];rfl,?_⟩⟩;rw[pB];show if (!us.all ji)=true then _ else _
    refine yg (λc=>?_) (λc=>?_)
    .rw[MO (by simpa using c)] at k;exact k
    .have c:us.all ji=true:=by simpa using c
     obtain⟨xa,rfl,hrows⟩:=RO c;rw[xP] at c1 c2;have ea:(xa.all λr=>decide ((r.1≠0\/r.2.1≠0)/\uf r))=true:=by rw[j9];intro r hr;exact wF (hrows r hr)
     have ef:isField (.tup (xa.map xg))=(qN xa&&(pieces xa).all jP):=by show(match rowsOf (xa.map xg) with|some xa=>yD xa|none=>false)=_;rw[eO];show yD xa=_;unfold yD;rw[ea,wF (by lia)];simp
     rw[ef] at k;have ok:kA xa:=⟨λr hr=>(hrows r hr).1,λr hr=>nP (hrows r hr).2,by lia⟩
     refine⟨xa,rfl,λr hr=>(ok.sm r hr).mono (by decide),?_⟩;refine yg (b:=!qN xa) (λd=>?_) (λd=>?_)
     .have d:qN xa=false:=by simpa using d
      rw[d] at k;exact k
     .have d:qN xa=true:=by simpa using d
      rw[d,Bool.true_and] at k;have sm:=ok.small xa.length;have pl:=ok.plen xa.length;rw[uS (ym _)] at sm pl;refine⟨_,xa,rfl,.inl rfl,ok,?_,?_⟩
      .rw[xP,nW];exact wc (by have:(pieces xa).length<=100000:=pl;lia)
      .refine dS (λx=>match x with|.tup [.tup [.int n,.int d],.tup [.int n2,.int d2]]=>.bl (nearF n d&&nearF n2 d2)|_=>.non) (λx hx N hN=>?_) ?_
       .obtain⟨v,hv,rfl⟩:=zT.mp hx;have hb:=sm v (gC hv);have ld:∀i,Bd (uN i v.2.2):=λi=>KY hb.2 hb.1.2.bd;refine⟨[(vk v.1 v.2.2,uN v.1 v.2.2),(vk v.2.1 v.2.2,uN v.2.1 v.2.2)],rfl,(show(2:Nat)<=1000 by decide),λf hf=>?_,?_⟩
        .simp only[xX,y9,zh] at hf;rcases hf with rfl|rfl<;>exact ld _
        .have e:([(vk v.1 v.2.2,uN v.1 v.2.2),(vk v.2.1 v.2.2,uN v.2.1 v.2.2)].all λf=>nearF f.1 f.2)=(nearF (vk v.1 v.2.2) (uN v.1 v.2.2)&&nearF (vk v.2.1 v.2.2) (uN v.2.1 v.2.2)):=by simp
         rw[e];exact hN
       .refine⟨(uI (pieces xa)).map jP,by rw[vi,vi];rfl,?_⟩;rw[pB];have e:=KD jP (pieces xa);show KK (.bl ((uI (pieces xa)).all jP));rw[e];exact k
  .have c1:us.length<3:=by have:=zZ c1;lia
   have e:isField (.tup us)=false:=by
    show(match rowsOf us with|some xa=>yD xa|none=>false)=false;cases e:rowsOf us with
    |none=>rfl
    |some xa=>show yD xa=false;unfold yD;rw[bT e,xP] at c1;rw[uU (by lia)];rfl
   rw[e] at k;exact k
 |_=>exact k
theorem OM (B:ya mg bn)(D:DF K mg "is_field_row" AE f fd ["thing"])(iq:Di P w K mg base) :
  Dg P w K mg base:=by
 refine yk D cI (λhr=>(xA (yR (uA (wm (xr iq hr (xN (pv 0))))) (xy (xR ve)) yT) (xA (wX (pv 0) (zM K (n:=3) rfl (ye (yi 1 cI.nd) (ye (yi 2 cI.nd) (ye (yi 3 cI.nd) zD))))) (xy (xR (aa (uO jn (yO ja rfl (B.get "abs") k_ (xN (pv 1))) xl (yj _)) (aa (uO jn (yO ja rfl (B.get "abs") k_ (xN (pv 2))) xl (yj _)) (jX (uO jn (yO ja rfl (B.get "abs") k_ (xN (pv 3))) xl (yj _))))))))))
  (xB (yY (uw (zA (xE (xM xc)))) (xY vC) y7) (xB (uu xc (zR (yh xK (yh xK (yh xK zK)))).g) (xY (sV (xk jo (zz jb (xM xc)) xo) (sV (xk jo (zz jb (xM xc)) xo) (xk jo (zz jb (xM xc)) xo)))))) λts KK hl h=>?_
 obtain⟨t,rfl,k⟩:=h;refine⟨t,rfl,?_⟩;unfold r6;unfold ji at k;cases e:qW t with
 |none=>rw[e] at k;exact k
 |some r=>
  rw[e] at k;cases bS e;have k:KK (.bl (decide ((r.1≠0\/r.2.1≠0)/\uf r))):=k;refine yg (b:=!decide (r.1≠0\/r.2.1≠0)) (λc=>?_) (λc=>?_)
  .have c:¬(r.1≠0\/r.2.1≠0):=by simpa using c
   rw[uU λw=>c w.1] at k;exact k
  .have c:r.1≠0\/r.2.1≠0:=by simp at c;lia
   refine⟨rfl,?_⟩;have ab:∀i m:Int,(if i<0 then -i else i)<=m↔-m<=i/\i<=m:=λi m=>by split<;>lia
   refine yg (b:=decide ((if r.1<0 then -r.1 else r.1)<=30)) (λd=>?_) (λd=>?_)
   .have d:=(ab _ _).mp (yU d);refine yg (b:=decide ((if r.2.1<0 then -r.2.1 else r.2.1)<=30)) (λd2=>?_) (λd2=>?_)
    .have d2:=(ab _ _).mp (yU d2);show KK (.bl (decide ((if r.2.2<0 then -r.2.2 else r.2.2)<=1000)));have e3:decide ((r.1≠0\/r.2.1≠0)/\uf r)=decide ((if r.2.2<0 then -r.2.2 else r.2.2)<=1000):=by rw[aW,ab];exact⟨λw=>w.2.2,λw=>⟨c,⟨d,d2⟩,w⟩⟩
     rw[<-e3];exact k
    .have d2:=λw=>zZ d2 ((ab _ _).mpr w);rw[uU λw=>d2 w.2.1.2] at k;exact k
   .have d:=λw=>zZ d ((ab _ _).mpr w);rw[uU λw=>d w.2.1.1] at k;exact k
def ON (B:ya mg bn)(D:DF K mg "is_near" cj f fd ["place"])  :
  Dh P w K mg base:=by
 refine yk D Ss (λhr=>(xy (xR (yO (m_ K rfl) rfl (B.get "all") m6 (xN (vE (ui (N:=["top", "bottom"]) (xQ:=[none,none]) (XN:=["place"]) (xs:=xH cj) (by decide +kernel) rfl rfl) rfl (gz (vd rfl (vd rfl gA))) (zB K (pv 0)) (λ_ _ _ _=>(zM K (n:=2) rfl (ye (zi (i:=0) (show(["top", "bottom"]:List Str).Nodup by decide +kernel) rfl (Or.inl rfl)) (ye (zi (i:=1) (show(["top", "bottom"]:List Str).Nodup by decide +kernel) rfl (Or.inl rfl)) zD)))) (λ_ _ _ _=>kR) (λ_ _ _ _=>(uO jn (yO ja rfl (B.get "abs") k_ (xN (pv 0))) (xq yq xl (pv 1)) (yj _)))))))))
  (xY (zz ng (xM (zw.e (ur (zQ xc).c (zR (yh xK (yh xK zK))) kO (xk jo (zz jb (xM xc)) (xk yu xo xc))))))) λts KK hl h=>?_
 obtain⟨fs,rfl,hz,hb,k⟩:=h;refine⟨by rw[xP];exact wc (by lia),?_⟩;have ab:∀i m:Int,decide ((if i<0 then -i else i)<=12*m)=nearF i m:=λi m=>by unfold nearF;rw[aW];split<;>lia
 refine dS (λx=>match x with|.tup [.int n,.int d]=>.bl (nearF n d)|_=>.non) (λx hx N hN=>?_) ?_
 .obtain⟨f,hf,rfl⟩:=zT.mp hx;refine⟨rfl,⟨fu (by decide) (by decide),hb f hf⟩,?_⟩;show N (.bl (decide ((if f.1<0 then -f.1 else f.1)<=12*f.2)));rw[ab];exact hN
 .refine⟨fs.map λf=>nearF f.1 f.2,by rw[vi,vi];rfl,?_⟩;rw[pB];exact k
def OW (B:ya mg bn)(D:DF K mg "need_field" AL f fd ["thing"])(ig:Df P w K mg base) :
  p_ P w K mg base:=by
 refine yk D Sy (λhr=>(xy (yR (uA (wm (xr ig hr (xN (pv 0))))) (xy eA) yT)))
  (yY (uw (zA (xE (xM xc)))) iY y7) λts KK hl h=>?_
 obtain⟨t,rfl,hf,k⟩:=h;refine⟨t,rfl,?_⟩;rw[hf];exact⟨rfl,k⟩
def Oy (B:ya mg bn)(D:DF K mg "corners" Ao f fd ["field"])(sQ:p_ P w K mg base)(sP:p8 P w K mg base) :
  C4 P w K mg base:=by
 refine yk D Sl (λhr=>(xA (vf (xr sQ hr (xN (pv 0)))) (xy (xR (xr sP hr (xN (pv 0)))))))
  (xB (iX (xE (xM xc))) (fP (G3 (xM xc)))) λts KK hl h=>?_
 obtain⟨xa,rfl,hf,FR,k⟩:=h;exact⟨_,rfl,MP hf,_,xa,rfl,.inl rfl,FR.rows,k⟩
def Pd (B:ya mg bn)(D:DF K mg "tight_numbers" cA f fd ["rows", "place"])(ir:Dj P w K mg base) :
  DL P w K mg base:=by
 refine yk D SH (λhr=>(xy (xR (jW (dU K) rfl (B.get "tuple") qf (xN (vE (ui (N:=["number", "row", "place"]) (xQ:=[none,none,some 1]) (XN:=["rows", "place"]) (xs:=xH cA) (by decide +kernel) rfl rfl) rfl (gz (vd rfl (vd rfl gA))) (eo K rfl (B.get "enumerate") (xN (pv 0))) (λ_ _ _ _=>(zM K (n:=2) rfl (ye (zi (i:=0) (show(["number", "row", "place"]:List Str).Nodup by decide +kernel) rfl (Or.inl rfl)) (ye (zi (i:=1) (show(["number", "row", "place"]:List Str).Nodup by decide +kernel) rfl (Or.inl rfl)) zD)))) (λ_ _ _ _=>(kS (wm (xr ir hr (xi (pv 1) (pv 2)))))) (λ_ _ _ _=>(pv 0))))))))
  (xY (iU (xM (zw.e (ur (iV (xM xc)).c (zR (yh xK (yh xK zK))) (zA (xE (xn xc xc))) xc))))) λts KK hl h=>?_
 obtain⟨xa,p,rfl,hl',hr,hp,k⟩:=h;refine⟨by rw[rM];exact wc (by lia),?_⟩;rw[LX xg xa (0,0,0)];refine qJ (λi=>fH (xa.getD i (0,0,0)) p) uq (λi hi N M h1 h0=>?_) ?_
 .exact⟨rfl,_,_,rfl,hr _ (getD_mem _ (fc.mp hi)),hp,yg h1 h0⟩
 .exact k
def Ow (B:ya mg bn)(D:DF K mg "broken" cg f fd ["field"])(l5:C4 P w K mg base)(ic:Dd P w K mg base) :
  C3 P w K mg base:=by
 refine yk D Sk (λhr=>(xy (xR (vE (ui (N:=["place"]) (xQ:=[none]) (XN:=["field"]) (xs:=xH cg) (by decide +kernel) rfl rfl) rfl (vW rfl) (zB K (xr l5 hr (xN (pv 0)))) (λ_ _ _ _=>(zi (i:=0) (show(["place"]:List Str).Nodup by decide +kernel) rfl (Or.inl rfl))) (λ_ _ _ _=>(kS (wm (xr ic hr (xN (pv 0)))))) (λ_ _ _ _=>(pv 0))))))
  (fP (ur (zQ (xE (xM xc))).c xK (zA (xE (xM xc))) xc)) λts KK hl h=>?_
 obtain⟨xa,rfl,hf,FR,k⟩:=h;refine⟨xa,rfl,hf,FR,by rw[xP];exact wc (by have:=EA FR;lia),?_⟩;exact qJ brk xF (λv hv N M h1 h0=>⟨v,rfl,yg h1 h0⟩) k
theorem OJ (B:ya mg bn)(D:DF K mg "is_broken" AB f fd ["place"])  :
  Dd P w K mg base:=by
 refine yk D Bh (λhr=>(xA (wX (pv 0) (zM K (n:=2) rfl (ye (yi 1 Bh.nd) (ye (yi 2 Bh.nd) zD)))) (xy (xR (bN (uO (ua hr.units) (xC K 1) xl (yj _)) (jX (uO (ua hr.units) (xC K 2) xl (yj _))))))))
  (xB (uu xc (zR (yh xK (yh xK zK))).g) (xY (bE (xk ub xD xo) (xk ub xD xo)))) λts KK hl h=>?_
 obtain⟨v,rfl,k⟩:=h;refine⟨rfl,?_⟩;show if (!decide ((xt v).1.2=1))=true then KK (.bl true) else KK (.bl (!decide ((xt v).2.2=1)))
 unfold brk at k;cases e:decide ((xt v).1.2=1) with
 |true=>rw[e] at k;exact vY k
 |false=>rw[e] at k;exact kI k
end
section
variable (P:Program) (w:World) {K:xw} {mg:Str->Option Value} (base:Heap) {f:Addr} {fd:FuncData}
def O5 (B:ya mg bn)(D:DF K mg "parts" AU f fd ["one", "other", "thing"])(sR:oa P w K mg base)(ie:De P w K mg base)(wk:jE P w K mg base)(vm:dM P w K mg base) :
  Dw P w K mg base:=by
 refine yk D Bm (λhr=>(xA (yy 3 Bm.nd (xr sR hr (xi (pv 0) (pv 1)))) (xA (yR (uA (wm (xr ie hr (xN (pv 2))))) (xy (xR gJ)) yT) (xA (qU (i:=4) (j:=5) rfl Bm.nd rfl rfl (by decide) rfl rfl (xi (xr wk hr (xi (pv 2) (pv 1))) (xr wk hr (xi (pv 0) (pv 2)))) (by rfl))
  (xA (yR (PW.pt (uc (yG (qR K hr.units) (pv 4) xl (yj _)) (vF (yG (qR K hr.units) (pv 5) xl (yj _))))) (xy (xR gJ)) yT) (xy (xR (yB (xi (xr vm hr (xi (pv 4) (pv 3))) (xr vm hr (xi (pv 5) (pv 3))))))))))))
  (xB (yE (xE (xn xc xc))) (xB (yY (uw (zA (xE (xM xc)))) (xY (kK (t:=Tr.non))) y7) (xB (qQ (xn (xE (xn xc xc)) (xE (xn xc xc)))) (xB (yY (w_ (yH (xk qS xc xo)) (yH (xk qS xc xo))) (xY (kK (t:=Tr.non))) y7) (xY (yA (b:=true) (xn (xE (xn xc xc)) (xE (xn xc xc))))))))) λts KK hl h=>?_
 obtain⟨a,b',c,d,t,rfl,hl2,hs,hd,hp,k⟩:=h;refine⟨a,b',c,d,rfl,hl2,hp,?_⟩;refine⟨t,rfl,hs,?_⟩;have no:jh t=false->gH a b' c d t=.non:=λe=>by
  unfold gH;split
  .rename_i x y;have:x=0/\y=0:=by simp[jh] at e;lia
   rw[xJ this]
  .rfl
 refine yg (b:=!jh t) (λe=>?_) (λe=>?_)
 .rw[no (by simpa using e)] at k;exact k
 have e:jh t=true:=by simpa using e
 obtain⟨x,y,rfl⟩:=F_ e;have nz:¬(x=0/\y=0):=λz=>by simp[jh,drT,z.1,z.2] at e
 obtain⟨hx,hy⟩:L24 x/\L24 y:=hd;refine⟨x,y,c,d,[],[],rfl,⟨⟨hx.bd,hy.bd⟩,hl2.2.1.bd,hl2.2.2.bd⟩,a,b',x,y,[],[],rfl,⟨⟨hl2.1.1.bd,hl2.1.2.bd⟩,hx.bd,hy.bd⟩,?_⟩;have kk:KK (if tn x y c d<0\/tn a b' x y<0 then .non else .tup [jN (tn x y c d) (tn a b' c d),jN (tn a b' x y) (tn a b' c d)]):=by
  have e1:gH a b' c d (drT x y)=_:=(xG nz)
  rw[e1] at k;exact k
 refine yg (b:=decide (tn x y c d<0)) (λe1=>?_) (λe1=>?_)
 .rw[xJ (.inl (yU e1))] at kk;exact kk
 refine yg (b:=decide (tn a b' x y<0)) (λe2=>?_) (λe2=>?_)
 .rw[xJ (.inr (yU e2))] at kk;exact kk
 rw[xG (by have:=zZ e1;have:=zZ e2;lia)] at kk;have hb:=Ts hl2;exact⟨_,_,rfl,by lia,hb,_,_,rfl,by lia,hb,kk⟩
def OX (B:ya mg bn)(D:DF K mg "need_turn" AM f fd ["one", "other"])(wk:jE P w K mg base) :
  oa P w K mg base:=by
 refine yk D IM (λhr=>(xA (yy 2 IM.nd (xr wk hr (xi (pv 0) (pv 1)))) (xA (yR (yG jn (pv 2) xl (yj _)) (xy eA) yT) (xy (xR (pv 2))))))
  (xB (yE (xE (xn xc xc))) (xB (yY (yH (xk jo xc xo)) iY y7) (xY xc))) λts KK hl h=>?_
 obtain⟨a,b',c,d,rfl,hl2,hp,k⟩:=h;refine⟨a,b',c,d,[],[],rfl,⟨⟨hl2.1.1.bd,hl2.1.2.bd⟩,hl2.2.1.bd,hl2.2.2.bd⟩,?_⟩;exact yg (b:=decide (tn a b' c d<=0)) (λe=>by have:=yU e;lia) (λ_=>k)
theorem OK (B:ya mg bn)(D:DF K mg "is_direction" AD f fd ["thing"])(sO:p6 P w K mg base) :
  De P w K mg base:=by
 refine yk D Sq (λhr=>(xA (yR (PW.pt (uc (uA (wm (yO kD rfl (B.get "isinstance") kB (xi (pv 0) (kP (v:=V.ty "tuple") rfl (B.get "tuple") qf rfl))))) (uc (yG (ua hr.units) (yO (uh K) rfl (B.get "len") ug (xN (pv 0))) xl (yj _)) (vF (uA (wm (xr sO hr (xN (pv 0))))))))) (xy (xR ve)) yT) (xy (xR (bN (uO (ua hr.units) (xC K 0) xl (yj _)) (jX (uO (ua hr.units) (xC K 0) xl (yj _))))))))
  (xB (yY (w_ (uw (zA (kL xc))) (w_ (yH (xk ub (zz uK (xM xc)) xo)) (uw (zA (xE (xM xc)))))) (xY vC) y7) (xY (bE (xk ub xD xo) (xk ub xD xo)))) λts KK hl h=>?_
 obtain⟨t,rfl,hs,k⟩:=h;cases t with
 |tup us=>
  refine yg (b:=!decide ((us.length:Int)=2)) (λc=>?_) (λc=>?_)
  .have c:¬(us.length:Int)=2:=by simpa using c
   have e:jh (.tup us)=false:=by refine Bool.eq_false_iff.mpr λh=>?_;obtain⟨x,y,z⟩:=F_ h;injection z with z;rw[z] at c;exact c rfl
   rw[e] at k;exact k
  .have c:us.length=2:=by simp at c;lia
   obtain⟨x,y,rfl⟩:∃x y,us=[x,y]:=by
    match us,c with
    |[x,y],_=>exact⟨x,y,rfl⟩
   refine⟨_,rfl,_,.inl rfl,hs _ rfl,?_⟩;cases x with
   |int a=>
    cases y with
    |int b=>
     show if (!decide (a=0))=true then KK (.bl true) else KK (.bl (!decide (b=0)))
     by_cases ha:a=0<;>by_cases hb:b=0<;>simp[ha,hb,jh] at k ⊢<;>exact k
    |_=>exact k
   |_=>exact k
 |_=>exact k
def Ou (B:ya mg bn)(D:DF K mg "between" Am f fd ["one", "other"])(sR:oa P w K mg base)(bC:DN P w K mg base)(iA:Dq P w K mg base)(iz:Dn P w K mg base) :
  C2 P w K mg base:=by
 refine yk D Be (λhr=>(xA (vf (xr sR hr (xi (pv 0) (pv 1)))) (xA (qU (i:=2) (j:=3) rfl Be.nd rfl rfl (by decide) rfl rfl (xi (xr bC hr (xN (pv 0))) (xr bC hr (xN (pv 1)))) (by rfl))
  (xA (yy 4 Be.nd (wA (xi (pv 2) (xr iA hr (xi (pv 2) (pv 3)))))) (xA (bP zG (yG (ua hr.units) (zd (zO K) (pv 4) (wO wQ xl) (λ_ _=>rfl)) (pv 3) (yj _)) (xy (vf (vO qD q9 q_ qo (pv 4) (xN (xr iz hr (yS (zd (zO K) (pv 4) (wO wQ xl) (λ_ _=>rfl)) (xi (zd (zO K) (pv 4) (wO wQ xl) (λ_ _=>rfl)) (pv 3))))))))) (xy (xR (pv 4))))))))
  (xB (iX (xE (xn xc xc))) (xB (qQ (xn (xE (xM xc)) (xE (xM xc)))) (xB (vD (kM (xn xc (xE (xn xc xc))))) (xB (bI (yH (xk ub (jT (wM xo)) xc)) (qq (xE (zo (jT (wM xo)) (xn (jT (wM xo)) xc))))) tF)))) λts KK hl h=>?_
 obtain⟨⟨a,b'⟩,⟨c,d⟩,rfl,hu,hv,hp,k⟩:=h;obtain⟨nu,nv⟩:=dW hp;refine⟨a,b',c,d,rfl,Ed (by decide) hu hv,hp,?_⟩;refine⟨(a,b'),rfl,nu,hu.mono (by decide),(c,d),rfl,nv,hv.mono (by decide),?_⟩;have hf:=cS nu hu;have hl2:=cS nv hv;have hD:=(JG hp).2;have gl:=JH nv;refine⟨yN (a,b'),yN (c,d),rfl,hf,hl2,JH nu,hD,λq q1 q2 q3=>?_⟩;have DD:=m7 (n:=200) hf hl2;have R0:Run (yN (a,b')) (yN (c,d)) 200 [] (yN (a,b')) q:=by
  refine⟨⟨λi x y hx hy=>?_,λi x y z hx hy hz=>?_⟩,rfl,?_,⟨q2,q3,by lia⟩,?_,λx hx=>?_⟩
  .match i with
   |0=>cases hx;cases hy;exact q1
   |i+1=>simp at hy
  .simp at hz
  .rw[uj];lia
  .simp only[hG];lia
  .rcases xX.mp hx with rfl|hx
   .exact hf.mono (by decide)
   .rw[zF.mp hx];obtain⟨e1,e2⟩:=fw (yN (a,b')) (yN (c,d)) q;exact⟨m5 hD e1 ⟨q2,by lia⟩ ⟨by lia,by lia⟩ hf.1 hl2.1,m5 hD e2 ⟨q2,by lia⟩ ⟨by lia,by lia⟩ hf.2 hl2.2⟩
 refine cU (λn τ=>∃(h0:List D2) (x y:D2),τ=[.fz (yV (a,b')),.fz (yV (c,d)),.fz (yV (yN (a,b'))),.fz (yV (yN (c,d))),.ow ((h0++[x,y]).map yV)]/\Run (yN (a,b')) (yN (c,d)) 200 h0 x y/\n=(cr y (yN (c,d))).toNat) _ ⟨[],_,q,rfl,R0,rfl⟩ ?_;rintro n τ N ⟨h0,x,y,rfl,R,rfl⟩ hN;have at1:atT ((h0++[x,y]).map yV) (-1)=some (yV y):=by rw[show h0++[x,y]=(h0++[x])++[y] by simp,wD];exact rz _ _
 have at2:atT ((h0++[x,y]).map yV) (-2)=some (yV x):=by rw[wD];exact KQ _ _ _
 show wy (atT ((h0++[x,y]).map yV) (-1)) _;rw[at1];refine⟨LZ _ _,?_⟩;have st:=R.stop gl;refine yg (b:=!zE (yV y) (yV (yN (c,d)))) (λc0=>?_) (λc0=>?_)
 .rw[JB] at c0;have c0:y≠yN (c,d):=by simpa using c0
  have y0:0<cr y (yN (c,d)):=by have:=R.t.1;have:cr y (yN (c,d))≠0:=λz=>c0 (st.mp z);lia
  obtain⟨m2,mD,R',lt⟩:=R.step hf hl2 y0 rfl;have bx:=R.bd x (by simp);have by':=R.bd y (by simp)
  show wy (atT ((h0++[x,y]).map yV) (-2)) _;rw[at2];show wy (atT ((h0++[x,y]).map yV) (-1)) _;rw[at1];refine⟨x,y,yN (c,d),rfl,⟨bx.mono (by decide),by'.mono (by decide),hl2.mono (by decide)⟩,y0,?_⟩;have len:=R.len;refine⟨by rw[xP,ze];exact wc (by simp only[wC,hG];lia),hN _ _ ?_ ⟨h0++[x],y,_,?_,R',rfl⟩⟩
  .lia
  .simp
 .rw[JB] at c0;have c0:y=yN (c,d):=by simpa using c0
  have len:=R.len;refine k (h0++[x,y]) ⟨R.chn,by simp,by simp only[ze,wC,hG];have:=R.t.1;lia,R.fst,?_,λz hz=>(R.bd z hz).mono (by decide)⟩;rw[c0,show(h0++[x,yN (c,d)]).length-1=h0.length+1 by simp,mr (by lia)];simp[show h0.length+1-h0.length=1 by lia]
def Pg (B:ya mg bn)(D:DF K mg "undivided" A6 f fd ["direction"])(qp:rq P w K mg base) :
  DN P w K mg base:=by
 refine yk D cM (λhr=>(xA (wX (pv 0) (zM K (n:=2) rfl (ye (yi 1 cM.nd) (ye (yi 2 cM.nd) zD)))) (xA (yy 3 cM.nd (xr qp hr (xi (pv 1) (pv 2)))) (xy (xR (yB (xi (xq uZ (pv 1) (pv 3)) (xq uZ (pv 2) (pv 3)))))))))
  (xB (uu xc (zR (yh xK (yh xK zK))).g) (xB (yE (xE (xn xc xc))) (xY (yA (b:=true) (xn (xk u4 xc xc) (xk u4 xc xc)))))) λts KK hl h=>?_
 obtain⟨⟨a,c⟩,rfl,nz,bx,k⟩:=h;have g0:=vX nz;have gb:Bd (gd (a,c)):=by
  have u:=gX nz;refine qd ⟨by lia,?_⟩;show((Int.gcd a c:Nat):Int)<=1000000;unfold Bx at bx;simp only at bx;by_cases ha:a=0
  .have:c≠0:=λz=>nz (by rw[ha,z]);have:=Int.gcd_le_natAbs_right a this;lia
  .have:=Int.gcd_le_natAbs_left c ha;lia
 have g1:gd (a,c)≠0:=by lia
 refine⟨rfl,a,c,rfl,⟨g1,gb⟩,⟨g1,gb⟩,?_⟩;have e:∀x:Int,x.fdiv ((Int.gcd a c:Nat):Int)=x/gd (a,c):=λx=>vV (yl g0);show KK (.tup [.int (a.fdiv ((Int.gcd a c:Nat):Int)),.int (c.fdiv ((Int.gcd a c:Nat):Int))]);rw[e,e];exact k
def OZ (B:ya mg bn)(D:DF K mg "next_least" AO f fd ["first", "last"])(iy:Dm P w K mg base)(wk:jE P w K mg base) :
  Dq P w K mg base:=by
 refine yk D aq (λhr=>(xA (wX (pv 0) (zM K (n:=2) rfl (ye (yi 2 aq.nd) (ye (yi 3 aq.nd) zD)))) (xA (wX (xr iy hr (xi (pv 2) (pv 3))) (zM K (n:=2) rfl (ye (yi 4 aq.nd) (ye (yi 5 aq.nd) zD)))) (xA (yy 6 aq.nd (xq uZ (xr wk hr (xi (yB (xi (wO wQ (pv 5)) (pv 4))) (pv 1))) (xr wk hr (xi (pv 0) (pv 1))))) (xy (xR (yB (xi (xq zS (wO wQ (pv 5)) (xq yq (pv 6) (pv 2))) (xq zS (pv 4) (xq yq (pv 6) (pv 3)))))))))))
  (xB (uu xc (zR (yh xK (yh xK zK))).g) (xB (uu (xE (xn xc xc)) (zR (yh xK (yh xK zK))).g) (xB (yE (xk u4 (xE (xn (yA (b:=true) (xn (wM xc) xc)) xc)) (xE (xn xc xc)))) (xY (yA (b:=true) (xn (xk zW (wM xc) (xk yu xc xc)) (xk zW xc (xk yu xc xc)))))))) λts KK hl h=>?_
 obtain⟨⟨a,b'⟩,⟨c,d⟩,rfl,hf,hl2,g,hp,k⟩:=h;have bf:=dQ (by decide) hf;have bl:=dQ (by decide) hl2;refine⟨rfl,a,b',rfl,hf,g,λp q e bp bq=>?_⟩;refine⟨rfl,?_⟩;have D:=m7 hf hl2;have bD:Bd (cr (a,b') (c,d)):=qd (by lia);refine⟨_,_,_,_,[],[],rfl,⟨⟨bq.neg.bd,bp.bd⟩,bl.1,bl.2⟩,a,b',c,d,[],[],rfl,⟨⟨bf.1,bf.2⟩,bl.1,bl.2⟩,⟨BS hp,bD⟩,?_⟩;have e0:-q*d-p*c=cr (-q,p) (c,d):=rfl;have e1:a*d-b'*c=cr (a,b') (c,d):=rfl;rw[e0,e1];have dpos:0<=cr (a,b') (c,d):=yl hp;have bt:Bk 1800 (cr (-q,p) (c,d)):=by
  have c6:Bk 20 c:=by unfold Bk;unfold Bx at hl2;simp only at hl2;lia
  have d6:Bk 20 d:=by unfold Bk;unfold Bx at hl2;simp only at hl2;lia
  exact((bq.neg.mul d6).sub (bp.mul c6)).mono (by decide)
 have nb:Bd ((cr (-q,p) (c,d)).fdiv (cr (a,b') (c,d))):=by have:=oX (a:=cr (-q,p) (c,d)) (b:=cr (a,b') (c,d)) (BS hp);unfold Bd;unfold Bk at bt;have:=Nat.pow_lt_pow_right (a:=2) (m:=1800) (n:=2000) (by decide) (by decide);exact kZ ‹_› (by generalize 2^1800=X at *;generalize 2^2000=Y at *;lia)
 refine⟨⟨nb,bf.1⟩,⟨nb,bf.2⟩,k (-q-(cr (-q,p) (c,d)).fdiv (cr (a,b') (c,d))*a,p-(cr (-q,p) (c,d)).fdiv (cr (a,b') (c,d))*b') ?_ ?_ ?_⟩
 all_goals
  have fe:=fmod_eq (cr (-q,p) (c,d)) (cr (a,b') (c,d));have f0:=J1 (cr (-q,p) (c,d)) hp;have f1:=J0 (cr (-q,p) (c,d)) hp;generalize (cr (-q,p) (c,d)).fdiv (cr (a,b') (c,d))=m at *
 .unfold cr;simp only;grind
 .have:cr (-q-m*a,p-m*b') (c,d)=cr (-q,p) (c,d)-m*cr (a,b') (c,d):=by unfold cr;simp only;grind
  lia
 .have:cr (-q-m*a,p-m*b') (c,d)=cr (-q,p) (c,d)-m*cr (a,b') (c,d):=by unfold cr;simp only;grind
  lia
def OY (B:ya mg bn)(D:DF K mg "next_behind" AN f fd ["before", "here", "last"])(wk:jE P w K mg base) :
  Dn P w K mg base:=by
 refine yk D IP (λhr=>(xA (yy 3 IP.nd (wO wQ (xq uZ (wO wQ (xr wk hr (xi (pv 0) (pv 2)))) (xr wk hr (xi (pv 1) (pv 2)))))) (xy (xR (yB (xi (xq zS (xq yq (pv 3) (xC K 1)) (xC K 0)) (xq zS (xq yq (pv 3) (xC K 1)) (xC K 0))))))))
  (xB (yE (wM (xk u4 (wM (xE (xn xc xc))) (xE (xn xc xc))))) (xY (yA (b:=true) (xn (xk zW (xk yu xc xD) xD) (xk zW (xk yu xc xD) xD))))) λts KK hl h=>?_
 obtain⟨⟨a,b'⟩,⟨c,d⟩,⟨e,f'⟩,rfl,⟨h1,h2,h3⟩,hp,k⟩:=h;have b1:=dQ (by decide) h1;have b2:=dQ (by decide) h2;have b3:=dQ (by decide) h3;have D1:=m7 (n:=1000) h1 h3;have D2:=m7 (n:=1000) h2 h3;refine⟨a,b',e,f',[],[],rfl,⟨⟨b1.1,b1.2⟩,b3.1,b3.2⟩,c,d,e,f',[],[],rfl,⟨⟨b2.1,b2.2⟩,b3.1,b3.2⟩,⟨BS hp,fu (by show _<=cr (c,d) (e,f');lia) (by show cr (c,d) (e,f')<=_;lia)⟩,?_⟩;have mb:=oX (a:=-(cr (a,b') (e,f'))) (b:=cr (c,d) (e,f')) (BS hp);have bm:Bd (-((-(cr (a,b') (e,f'))).fdiv (cr (c,d) (e,f')))):=fu (by lia) (by lia);exact⟨⟨bm,b2.1⟩,⟨bm,b2.2⟩,k⟩
def OV (B:ya mg bn)(D:DF K mg "makes_one" AK f fd ["a", "b"])  :
  Dm P w K mg base:=by
 refine yk D fV (λhr=>(xA (HE (i:=2) (j:=3) (k:=4) rfl fV.nd rfl rfl rfl (by decide) rfl rfl rfl (yS (pv 0) (xi xl xl)) (by rfl))
  (xA (HE (i:=5) (j:=6) (k:=7) rfl fV.nd rfl rfl rfl (by decide) rfl rfl rfl (yS (pv 1) (xi xl xl)) (by rfl))
  (xA (bP zG (yG (ua hr.units) (pv 5) xl (yj _)) (xA (yy 8 fV.nd (xq uZ (pv 2) (pv 5))) (xA (qU (i:=2) (j:=5) rfl fV.nd rfl rfl (by decide) rfl rfl (xi (pv 5) (xq zS (pv 2) (xq yq (pv 8) (pv 5)))) (by rfl))
  (xA (qU (i:=3) (j:=6) rfl fV.nd rfl rfl (by decide) rfl rfl (xi (pv 6) (xq zS (pv 3) (xq yq (pv 8) (pv 6)))) (by rfl))
  (xy (qU (i:=4) (j:=7) rfl fV.nd rfl rfl (by decide) rfl rfl (xi (pv 7) (xq zS (pv 4) (xq yq (pv 8) (pv 7)))) (by rfl)))))))
  (xy (xR (yB (xi (xq yq (pv 2) (pv 3)) (xq yq (pv 2) (pv 4))))))))))
  (xB (G9 (zo xc (xn xo xo))) (xB (G9 (zo xc (xn xo xo))) (xB (bI (yH (xk ub xc xo)) (xB (yE (xk u4 xc xc)) (xB (qQ (xn xc (xk zW xc (xk yu xc xc)))) (xB (qQ (xn xc (xk zW xc (xk yu xc xc)))) (qQ (xn xc (xk zW xc (xk yu xc xc)))))))) (xY (yA (b:=true) (xn (xk yu xc xc) (xk yu xc xc))))))) λts KK hl h=>?_
 obtain⟨a,b',rfl,hb,hg,k⟩:=h;refine cU (λn τ=>∃(x p q y r s:Int) (z:TV),τ=[.fz (.int a),.fz (.int b'),.fz (.int x),.fz (.int p),.fz (.int q),.fz (.int y),.fz (.int r),.fz (.int s),z]/\n=y.natAbs/\(x.natAbs<=200/\y.natAbs<=200)/\(x=a*p+b'*q/\y=a*r+b'*s)/\Int.gcd x y=1/\(p.natAbs<=2^(8*(200-n))/\q.natAbs<=2^(8*(200-n))/\r.natAbs<=2^(8*(200-n))/\s.natAbs<=2^(8*(200-n)))) b'.natAbs ?_ ?_
 .have:=Nat.one_le_two_pow (n:=8*(200-b'.natAbs));exact⟨a,1,0,b',0,1,_,rfl,rfl,⟨by lia,by lia⟩,⟨by lia,by lia⟩,hg,this,by lia,by lia,this⟩
 .rintro n τ N ⟨x,p,q,y,r,s',z,rfl,rfl,⟨x2,y2⟩,⟨e1,e2⟩,g,p1,q1,r1,s1⟩ hN;have bk:∀ {i:Int},i.natAbs<=2^(8*(200-y.natAbs))->Bk 1650 i:=λh=>kZ h (Nat.pow_lt_pow_right (by decide) (by lia));refine yg (b:=!decide (y=0)) (λc0=>?_) (λc0=>?_)
  .have c0:y≠0:=by simpa using c0
   have fm:=Fv (a:=x) c0;have fd':=oX (a:=x) c0;have mb:Bd (x.fdiv y):=qd (by lia);refine⟨⟨c0,qd (by lia)⟩,⟨mb,qd (by lia)⟩,⟨mb,(bk r1).bd⟩,⟨mb,(bk s1).bd⟩,?_⟩;have ey:=fmod_eq x y;have pw:2^(8*(200-y.natAbs))*256<=2^(8*(200-(x.fmod y).natAbs)):=by rw[show(256:Nat)=2^8 from rfl,<-Nat.pow_add];exact Nat.pow_le_pow_right (by decide) (by lia)
   have big:∀ {i j:Int},i.natAbs<=2^(8*(200-y.natAbs))->j.natAbs<=2^(8*(200-y.natAbs))->(i-x.fdiv y*j).natAbs<=2^(8*(200-(x.fmod y).natAbs)):=λ {i j} h1 h2=>by have m1:(x.fdiv y*j).natAbs=(x.fdiv y).natAbs*j.natAbs:=u9 _ _;have m2:(x.fdiv y).natAbs*j.natAbs<=201*2^(8*(200-y.natAbs)):=Ce (by lia) h2;have:=Int.natAbs_sub_le i (x.fdiv y*j);lia
   have le:∀ {i:Int},i.natAbs<=2^(8*(200-y.natAbs))->i.natAbs<=2^(8*(200-(x.fmod y).natAbs)):=λh=>vt h (by lia);refine hN (x.fmod y).natAbs _ fm ⟨y,r,s',x-x.fdiv y*y,p-x.fdiv y*r,q-x.fdiv y*s',_,rfl,by rw[ey],⟨y2,by rw[ey];lia⟩,⟨e2,?_⟩,?_,le r1,le s1,big p1 r1,big q1 s1⟩
   .generalize x.fdiv y=m;rw[e1,e2];grind
   .rw[ey,Ms];exact g
  .have c0:y=0:=by simpa using c0
   have gx:x.natAbs=1:=by rw[c0,Int.gcd_zero_right] at g;exact g
   have xx:x*x=1:=by rcases(show x=1\/x = -1 by lia) with rfl|rfl<;>rfl
   refine⟨⟨qd (by lia),(bk p1).bd⟩,⟨qd (by lia),(bk q1).bd⟩,k _ _ ?_ ?_ ?_⟩
   .rw[show a*(x*p)+b'*(x*q)=x*(a*p+b'*q) by grind,<-e1,xx]
   .have:(x*p).natAbs=p.natAbs:=by rw[u9,gx,Nat.one_mul]
    exact((bk p1).le (by lia)).mono (by decide)
   .have:(x*q).natAbs=q.natAbs:=by rw[u9,gx,Nat.one_mul]
    exact((bk q1).le (by lia)).mono (by decide)
end
section
variable (P:Program) (w:World) {K:xw} {mg:Str->Option Value} (base:Heap) {f:Addr} {fd:FuncData}
def Pc (B:ya mg bn)(D:DF K mg "sum_of" cq f fd ["rows", "weights"])(iR:DU P w K mg base)(vm:dM P w K mg base) :
  DK P w K mg base:=by
 refine yk D Bn (λhr=>(xA (wX (xr iR hr (xi (pv 0) (pv 1))) (zM K (n:=2) rfl (ye (yi 2 Bn.nd) (ye (zi (i:=3) Bn.nd rfl (Or.inr rfl)) zD)))) (xy (xR (jW (dU K) rfl (B.get "tuple") qf (xN (vE (ui (N:=["top", "bottom"]) (xQ:=[none,some 3]) (XN:=["rows", "weights", "tops", "bottom"]) (xs:=xH cq) (by decide +kernel) rfl rfl) rfl (vW rfl) (zB K (pv 2)) (λ_ _ _ _=>(zi (i:=0) (show(["top", "bottom"]:List Str).Nodup by decide +kernel) rfl (Or.inl rfl))) (λ_ _ _ _=>kR) (λ_ _ _ _=>(xr vm hr (xi (pv 0) (pv 1)))))))))))
  (xB (uu (xE (xn xc xc)) (zR (yh xK (yh xK zK))).g) (xY (iU (xM (zw.e (ur (zQ xc).c xK kO (xE (xn xc xc)))))))) λts KK hl h=>?_
 obtain⟨xa,ws,rfl,H0,k⟩:=h;refine⟨xa,ws,rfl,H0,λa b' c D ha hb hc hD=>?_⟩;refine⟨rfl,wc (by show 3<=1000000;decide),?_⟩;have hz:∀x∈xa.zip ws,0<x.2.2:=λx hx=>(H0.zip hx).2.pos;have nz:D≠0:=by have:=ha.pd;lia
 refine⟨_,_,rfl,nz,hD,_,_,rfl,nz,hD,_,_,rfl,nz,hD,?_⟩;have e:∀ {k:Pol.R3->Int} {n:Int},Sd (wsum k (xa.zip ws)) n D->frT (vk n D) (uN n D)=fT (wsum k (xa.zip ws)):=λ {k n} h=>by rw[GB h.pd,h.low (nq k _ hz)]
 rw[e ha,e hb,e hc];exact k
def Pn (B:ya mg bn)(D:DF K mg "whole_sum" tT f fd ["rows", "weights"])(qp:rq P w K mg base) :
  DU P w K mg base:=by
 refine yk D kY (λhr=>(xA (ah (i:=2) kY.nd rfl (Or.inl rfl) (ui (N:=["row", "weight"]) (xQ:=[none,none]) (XN:=["rows", "weights", "used", "bottom", "row", "weight", "tops", "many"]) (xs:=xH tT) (by decide +kernel) rfl rfl) rfl (gz (vd rfl (vd rfl gA))) (bO K rfl (B.get "zip") (xi (pv 0) (pv 1))) (λ_ _ _ _=>(zM K (n:=2) rfl (ye (zi (i:=0) (show(["row", "weight"]:List Str).Nodup by decide +kernel) rfl (Or.inl rfl)) (ye (zi (i:=1) (show(["row", "weight"]:List Str).Nodup by decide +kernel) rfl (Or.inl rfl)) zD)))) (λ_ _ _ _=>(kS (yG (ua hr.units) (xC K 1) xl (yj _)))) (λ_ _ _ _=>(yB (xi (pv 0) (pv 1)))))
  (xA (yy 3 kY.nd xl) (xA (zX zG rfl (zB K (pv 2)) (zM K (n:=2) rfl (ye (yi 4 kY.nd) (ye (yi 5 kY.nd) zD))) (xy (yy 3 kY.nd (xq yq (xq uZ (pv 3) (xr qp hr (xi (pv 3) (xC K 5)))) (xC K 5))))) (xA (yy 6 kY.nd (wA (yS xl (xi xl xl)))) (xA (zX zG rfl (zB K (pv 2)) (zM K (n:=2) rfl (ye (yi 4 kY.nd) (ye (yi 5 kY.nd) zD))) (xA (kT (i:=7) kY.nd rfl (Or.inr rfl) (xq yq (xq uZ (pv 3) (xC K 5)) (xC K 5))) (xy (ah (i:=6) kY.nd rfl (Or.inl rfl) (ui (N:=["top", "number", "many"]) (xQ:=[none,none,some 7]) (XN:=["rows", "weights", "used", "bottom", "row", "weight", "tops", "many"]) (xs:=xH tT) (by decide +kernel) rfl rfl) rfl (gz (vd rfl (vd rfl gA))) (bO K rfl (B.get "zip") (xi (pv 6) (pv 4))) (λ_ _ _ _=>(zM K (n:=2) rfl (ye (zi (i:=0) (show(["top", "number", "many"]:List Str).Nodup by decide +kernel) rfl (Or.inl rfl)) (ye (zi (i:=1) (show(["top", "number", "many"]:List Str).Nodup by decide +kernel) rfl (Or.inl rfl)) zD)))) (λ_ _ _ _=>kR) (λ_ _ _ _=>(xq ux (pv 0) (xq yq (pv 2) (pv 1))))))))
  (xy (xR (yB (xi (pv 6) (pv 3)))))))))))
  (xB (yE (zw.e (ur (bH (xn xc xc)).c (zR (yh xK (yh xK zK))) (yH (xk ub xD xo)) (yA (b:=true) (xn xc xc))))) (xB (yE xo) (xB (zV (zQ xc) (zR (yh xK (yh xK zK))).g (yE (xk yu (xk u4 xc (xE (xn xc xD))) xD))) (xB (yE (v8 (b:=true) (zo xo (xn xo xo)))) (xB (zV (zQ xc) (zR (yh xK (yh xK zK))).g (xB (yE (xk yu (xk u4 xc xD) xD)) (yE (zw.e (ur (bH (xn xc xc)).c (zR (yh xK (yh xK zK))) kO (xk vo xc (xk yu xc xc))))))) (xY (yA (b:=true) (xn xc xc)))))))) λts KK hl h=>?_
 obtain⟨xa,ws,rfl,H0,k⟩:=h;have hl8:=H0.l100;have hlen:=H0.len;have zl:(xa.zip ws).length=xa.length:=by rw[List.length_zip];lia
 have hz:=λx hx=>H0.zip (x:=x) hx;have hu:∀x∈(xa.zip ws).filter jt,yL 10 x.1/\Wt x.2:=λx hx=>hz x (uR.mp hx).1;have ul:((xa.zip ws).filter jt).length<=8:=by have:=B2 jt (xa.zip ws);lia
 refine yP (λτ=>τ=[.fz (.tup (xa.map xg)),.fz (.tup (ws.map fT)),.fz (.lst (((xa.zip ws).filter jt).map rwT)),.un,.un,.un,.un,.un]) ?_ (λN hN=>?_)
 rotate_left
 .show(qy (xa.map xg) (ws.map fT)).length<sizeLine/\_;rw[BF];refine⟨by rw[xP];exact wc (by lia),qJ jt rwT (λx hx N M h1 h0=>?_) (hN _ rfl)⟩;exact⟨rfl,yg (b:=!decide (x.2.1=0)) h1 h0⟩
 rintro _ rfl;rw[<-BD k0 _ λx hx=>(hz x hx).2,<-BD k1 _ λx hx=>(hz x hx).2,<-BD k2 _ λx hx=>(hz x hx).2] at k;generalize (xa.zip ws).filter jt=U at hu ul k;refine yP (λτ=>τ=[.fz (.tup (xa.map xg)),.fz (.tup (ws.map fT)),.fz (.lst (U.map rwT)),.fz (.int 1),.un,.un,.un,.un]) ?_ (λN hN=>hN _ rfl);rintro _ rfl;refine yP (λτ=>∃(D:Int) (x4 x5:TV),(0<D/\Bk 330 D/\∀x∈U,x.2.2∣D)/\τ=[.fz (.tup (xa.map xg)),.fz (.tup (ws.map fT)),.fz (.lst (U.map rwT)),.fz (.int D),x4,x5,.un,.un]) ?_ (λN hN=>?_)
 rotate_left
 .refine qv (U.map rwT) (λi τ=>∃(D:Int) (x4 x5:TV),(0<D/\Bk (1+40*i) D/\∀x∈U.take i,x.2.2∣D)/\τ=[.fz (.tup (xa.map xg)),.fz (.tup (ws.map fT)),.fz (.lst (U.map rwT)),.fz (.int D),x4,x5,.un,.un]) (λKK h=>h) ⟨1,_,_,⟨by decide,by unfold Bk;decide,λx hx=>by simp at hx⟩,rfl⟩ ?_ (λτ h=>?_)
  rotate_left
  .obtain⟨D,x4,x5,⟨d1,d2,d3⟩,rfl⟩:=h;rw[xP] at d2 d3;rw[aR] at d3;exact hN _ ⟨D,_,_,⟨d1,d2.mono (by lia),d3⟩,rfl⟩
  rintro i x τ N2 hx ⟨D,x4,x5,⟨d1,d2,d3⟩,rfl⟩ hN2;obtain⟨y,hy,rfl⟩:=uY hx;have il:i<U.length:=(y8.mp hy).1;obtain⟨hr,hw⟩:=hu y (zq hy);have bD:Bk 330 D:=d2.mono (by lia);obtain⟨s1,s2,s3,s4⟩:=Nc d1 hw.pos;have g0:(0:Int)<(Int.gcd D y.2.2:Nat):=by have:=mf D (show y.2.2≠0 by have:=hw.pos;lia);lia
  have bg:Bd (Int.gcd D y.2.2:Nat):=by have:=Int.gcd_le_natAbs_left y.2.2 (show D≠0 by lia);exact(bD.le (by lia)).bd
  have bq:Bk 330 (D.fdiv (Int.gcd D y.2.2:Nat)):=by rw[vV (by lia)];exact bD.le (Int.natAbs_ediv_le_natAbs _ _)
  refine⟨rfl,D,y.2.2,rfl,⟨by lia,bg⟩,⟨bq.bd,hw.sm.bot.bd⟩,?_⟩;have e:D.fdiv (Int.gcd D y.2.2:Nat)*y.2.2=D/(Int.gcd D y.2.2:Nat)*y.2.2:=by rw[vV (by lia)]
  refine hN2 _ ⟨D/(Int.gcd D y.2.2:Nat)*y.2.2,.fz (xg y.1),.fz (fT y.2),⟨s1,?_,λz hz'=>?_⟩,by rw[<-e];rfl⟩
  .exact((d2.mul hw.sm.bot).le s4).mono (by lia)
  .rw[vI,hy] at hz';rcases yz.mp hz' with h|h
   .exact Int.dvd_trans (d3 z h) s2
   .simp at h;rw[h];exact s3
 rintro _ ⟨D,x4,x5,⟨d1,d2,d3⟩,rfl⟩;refine yP (λτ=>τ=[.fz (.tup (xa.map xg)),.fz (.tup (ws.map fT)),.fz (.lst (U.map rwT)),.fz (.int D),x4,x5,.fz (.lst [.int 0,.int 0,.int 0]),.un]) ?_ (λN hN=>hN _ rfl);rintro _ rfl;refine yP (λτ=>∃(a b c:Int) (x4 x5 x7:TV),(Sd (wsum k0 U) a D/\Sd (wsum k1 U) b D/\Sd (wsum k2 U) c D)/\τ=[.fz (.tup (xa.map xg)),.fz (.tup (ws.map fT)),.fz (.lst (U.map rwT)),.fz (.int D),x4,x5,.fz (.lst [.int a,.int b,.int c]),x7]) ?_ (λN hN=>?_)
 .rintro _ ⟨a,b',c,x4,x5,x7,⟨h1,h2,h3⟩,rfl⟩;exact k a b' c D h1 h2 h3 d2.bd
 have z0:∀k:Pol.R3->Int,Sd (wsum k []) 0 D:=λk=>⟨by show(0:Int)<1;decide,d1,by show(0:Int)*D=0*1;lia⟩
 refine qv (U.map rwT) (λi τ=>∃(a b c:Int) (x4 x5 x7:TV),(Sd (wsum k0 (U.take i)) a D/\Sd (wsum k1 (U.take i)) b D/\Sd (wsum k2 (U.take i)) c D)/\τ=[.fz (.tup (xa.map xg)),.fz (.tup (ws.map fT)),.fz (.lst (U.map rwT)),.fz (.int D),x4,x5,.fz (.lst [.int a,.int b,.int c]),x7]) (λKK h=>h) ⟨0,0,0,_,_,_,⟨z0 _,z0 _,z0 _⟩,rfl⟩ ?_ (λτ h=>?_)
 rotate_left
 .obtain⟨a,b',c,x4,x5,x7,hs,rfl⟩:=h;rw[xP,aR] at hs;exact hN _ ⟨a,b',c,_,_,_,hs,rfl⟩
 rintro i x τ N2 hx ⟨a,b',c,x4,x5,x7,⟨h1,h2,h3⟩,rfl⟩ hN2;obtain⟨y,hy,rfl⟩:=uY hx;obtain⟨hr,hw⟩:=hu y (zq hy);have dv:=d3 y (zq hy);have qe:y.2.2*D.fdiv y.2.2=D:=by rw[vV (yl hw.pos)];exact dm dv
 have bq:Bk 330 (D.fdiv y.2.2):=by rw[vV (yl hw.pos)];exact d2.le (Int.natAbs_ediv_le_natAbs _ _)
 have bm:=bq.mul hw.sm.top;have tk1:U.take (i+1)=U.take i++[y]:=by rw[vI,hy];rfl
 refine⟨rfl,⟨by have:=hw.pos;show y.2.2≠0;lia,hw.sm.bot.bd⟩,⟨bq.bd,hw.sm.top.bd⟩,wc (by show 3<=1000000;decide),?_⟩;refine⟨rfl,⟨bm.bd,hr.1.1.bd⟩,rfl,⟨bm.bd,hr.1.2.bd⟩,rfl,⟨bm.bd,hr.2.bd⟩,?_⟩;refine hN2 _ ⟨_,_,_,_,_,_,⟨?_,?_,?_⟩,rfl⟩
 .rw[tk1,wsum_snoc];exact h1.plusD (Bo hw.pos d1 qe)
 .rw[tk1,wsum_snoc];exact h2.plusD (Bo hw.pos d1 qe)
 .rw[tk1,wsum_snoc];exact h3.plusD (Bo hw.pos d1 qe)
def OB (B:ya mg bn)(D:DF K mg "cut_of" Ar f fd ["totals"])  :
  C6 P w K mg base:=by
 refine yk D cF (λhr=>(xA (wX (pv 0) (zM K (n:=3) rfl (ye (yi 1 cF.nd) (ye (yi 2 cF.nd) (ye (yi 3 cF.nd) zD))))) (xA (yR (PW.pt (uc (yG (ua hr.units) (xC K 1) xl (yj _)) (uc (yG (ua hr.units) (xC K 2) xl (yj _)) (vF (PW.pt (jq (yG (uy hr.units) (xC K 1) xl (yj _)) (jZ (yG (uy hr.units) (xC K 2) xl (yj _))))))))) (xy eA) yT) (xy (xR (yB (yS (xC K 1) (xi (xC K 2) (xq uZ (xC K 3) (xC K 3))))))))))
  (xB (uu xc (zR (yh xK (yh xK (yh xK zK)))).g) (xB (yY (w_ (yH (xk ub xD xo)) (w_ (yH (xk ub xD xo)) (jm (yH (xk os_eq xD xo)) (yH (xk os_eq xD xo))))) iY y7) (xY (yA (b:=true) (zo xD (xn xD (xk u4 xD xD))))))) λts KK hl h=>?_
 obtain⟨a,b',c,rfl,hc,⟨h1,h2,h3⟩,k⟩:=h;refine⟨rfl,?_⟩;have cn:c.2≠0:=by lia
 refine yg (b:=!decide (a.2=1)) (λz=>?_) (λ_=>?_)
 .simp[h1] at z
 refine yg (b:=!decide (b'.2=1)) (λz=>?_) (λ_=>?_)
 .simp[h2] at z
 refine yg (b:=decide (a.1=0)) (λz=>?_) (λ_=>?_)
 .have z:=yU z;refine yg (b:=decide (b'.1=0)) (λz2=>?_) (λ_=>?_)
  .exact absurd ⟨z,yU z2⟩ h3
  .exact⟨⟨cn,hc.2⟩,k⟩
 .exact⟨⟨cn,hc.2⟩,k⟩
end
section
variable (P:Program) (w:World) {K:xw} {mg:Str->Option Value} (base:Heap) {f:Addr} {fd:FuncData}
def Pb (B:ya mg bn)(D:DF K mg "sides_at" A3 f fd ["field", "place"])(iK:DH P w K mg base)(iN:DL P w K mg base) :
  DJ P w K mg base:=by
 refine yk D SG (λhr=>(xy (xR (xr iK hr (xi (pv 0) (xr iN hr (xi (pv 0) (pv 1))))))))
  (xY (xE (xn xc (xE (xn xc xc))))) λts KK hl h=>?_
 obtain⟨xa,p,rfl,hf,hp,k⟩:=h;have l8:=(wW hf).1.2;have:=JE (xa:=xa) (p:=p);exact⟨xa,p,rfl,by lia,wW.b200 hf,hp,xa,uE xa p,rfl,hf,λm hm=>BB hm,by lia,k⟩
def Pa (B:ya mg bn)(D:DF K mg "sides_among" AZ f fd ["rows", "numbers"])(iB:Dr P w K mg base) :
  DH P w K mg base:=by
 refine yk D cL (λhr=>(xA (yy 2 cL.nd (wA u5)) (xA (zX zG rfl (zB K (pv 1)) (yi 3 cL.nd) (xA (yy 4 cL.nd (xr iB hr (yS (pv 0) (xi (pv 1) (pv 3))))) (xy (yR (gN (eh (pv 4))) (xy (vf (vO qD q9 q_ qo (pv 2) (xN (yB (xi (pv 3) (pv 4))))))) yT)))) (xy (xR (pv 2))))))
  (xB (vD (kM vn)) (xB (zV (zQ xc) xK.g (xB (yE (xE (zo xc (xn xc xc)))) (yY (zA (iS xc)) (qq (yA (b:=true) (xn xc xc))) y7))) tF)) λts KK hl h=>?_
 obtain⟨xa,nums,rfl,hf,hm,hl',k⟩:=h;refine vc (all:=nums.map uq) (λi τ=>∃x3 x4,τ=[.fz (.tup (xa.map xg)),.fz (.tup (nums.map uq)),.ow (((nums.take i).filterMap λn=>(fL xa nums n).map λm=>(n,m)).map v9),x3,x4]) ⟨_,_,rfl⟩ ?_ ?_
 .rintro i x τ N hxi ⟨x3,x4,rfl⟩ hN;obtain⟨n,hyi,rfl⟩:=uY hxi;have hn:=hm n (zq hyi);rw[SY (xa:=xa) hyi] at hN;refine⟨xa,nums,n,rfl,hf,hm,hn,?_⟩;cases q:fL xa nums n with
  |none=>rw[q] at hN;exact hN _ ⟨_,_,by rw[show(Option.map (λm=>(n,m)) none).toList=([]:List (Nat×Nat)) from rfl,uH];rfl⟩
  |some m=>rw[q] at hN;refine⟨by rw[xP];exact wc (vt (List.length_filterMap_le _ _) (by rw[uQ];lia)),hN _ ⟨_,_,by rw[wD];rfl⟩⟩
 .rintro τ ⟨x3,x4,rfl⟩;rw[xP,uS (ym _)];exact k
def O1 (B:ya mg bn)(D:DF K mg "next_to_the_left" AQ f fd ["rows", "numbers", "number"])(wk:jE P w K mg base) :
  Dr P w K mg base:=by
 refine yk D cJ (λhr=>(xA (yy 3 cJ.nd gJ) (xA (zX zG rfl (zB K (pv 1)) (yi 4 cJ.nd) (xy (yR (yG sZ (xr wk hr (xi (zd (zO K) (pv 0) (pv 2) (λ_ _=>rfl)) (zd (zO K) (pv 0) (pv 4) (λ_ _=>rfl)))) xl (yj _)) (xy (yR (PW.pt (uc (gN (tK (pv 3))) (vF (yG sZ (xr wk hr (xi (zd (zO K) (pv 0) (pv 4) (λ_ _=>rfl)) (zd (zO K) (pv 0) (pv 3) (λ_ _=>rfl)))) xl (yj _))))) (xy (yy 3 cJ.nd (pv 4))) yT)) yT))) (xy (xR (pv 3))))))
  (xB (yE (kK (t:=Tr.non))) (xB (zV (zQ xc) xK.g (yY (yH (xk s_ (xE (xn (wH xc xc) (wH xc xc))) xo)) (yY (w_ (zA (tE xc)) (yH (xk s_ (xE (xn (wH xc xc) (wH xc xc))) xo))) (yE xc) y7) y7)) (xY xc))) λts KK hl h=>?_
 obtain⟨xa,nums,n,rfl,hf,hm,hn,k⟩:=h;refine vc (all:=nums.map uq) (λi τ=>∃x4,τ=[.fz (.tup (xa.map xg)),.fz (.tup (nums.map uq)),.fz (uq n),.fz (optN ((nums.take i).foldl (w4 xa n) none)),x4]/\∀y,(nums.take i).foldl (w4 xa n) none=some y->y<xa.length) ⟨_,rfl,λy hy=>by cases hy⟩ ?_ ?_
 .rintro i x τ N hxi ⟨x4,rfl,hb⟩ hN;obtain⟨o,hyi,rfl⟩:=uY hxi;have ho:=hm o (zq hyi);have fold:=nO (w4 xa n) none hyi;generalize hacc:(nums.take i).foldl (w4 xa n) none=acc at fold hb ⊢;have leaf:∀oo:Option Nat,oo=w4 xa n acc o->N [.fz (.tup (xa.map xg)),.fz (.tup (nums.map uq)),.fz (uq n),.fz (optN oo),.fz (uq o)]:=λoo e=>by
   rw[fold] at hN;refine hN _ ⟨_,by rw[e],?_⟩
   .unfold w4;split
    .split
     .intro z hz;cases hz;exact ho
     .split
      .intro z hz;cases hz;exact ho
      .intro z hz;cases hz;exact hb _ rfl
    .exact hb
  show wy (atT (xa.map xg) (n:Int)) _;rw[gc hn];show wy (atT (xa.map xg) (o:Int)) _;rw[gc ho];refine⟨(xZ xa n).1,(xZ xa n).2.1,(xZ xa o).1,(xZ xa o).2.1,_,_,rfl,⟨wW.bd hf hn,wW.bd hf ho⟩,?_⟩;refine yg (b:=decide (0<cr (xh xa n) (xh xa o))) (λc=>?_) (λc=>?_)
  .have c:=yU c;cases acc with
   |none=>exact leaf (some o) (by unfold w4;rw[xJ c])
   |some z=>
    have hz:=hb z rfl;show wy (atT (xa.map xg) (o:Int)) _;rw[gc ho];show wy (atT (xa.map xg) (z:Int)) _;rw[gc hz];refine⟨(xZ xa o).1,(xZ xa o).2.1,(xZ xa z).1,(xZ xa z).2.1,_,_,rfl,⟨wW.bd hf ho,wW.bd hf hz⟩,?_⟩;refine yg (b:=decide (0<cr (xh xa o) (xh xa z))) (λd=>?_) (λd=>?_)
    .exact leaf (some o) (by unfold w4;rw[xJ c];exact(xJ (yU d)).symm)
    .exact leaf (some z) (by unfold w4;rw[xJ c];exact(xG (zZ d)).symm)
  .have c:=zZ c;exact leaf acc (by unfold w4;rw[xG c])
 .rintro τ ⟨x4,rfl,_⟩;rw[xP,uS (ym _)];exact k
def OD (B:ya mg bn)(D:DF K mg "direction_of" Au f fd ["row"])  :
  p9 P w K mg base:=by
 refine yk D Sn (λhr=>(xy (xR (yB (xi (xC K 0) (xC K 0))))))
  (xY (yA (b:=true) (xn xD xD))) λts KK hl h=>?_
 obtain⟨a,b',x,rfl,k⟩:=h;exact k
def Pl (B:ya mg bn)(D:DF K mg "weights_towards" A9 f fd ["field", "pair", "direction"])(iE:Dw P w K mg base)(gD:p9 P w K mg base) :
  DQ P w K mg base:=by
 refine yk D tX (λhr=>(xA (wX (pv 1) (zM K (n:=2) rfl (ye (yi 3 tX.nd) (ye (yi 4 tX.nd) zD)))) (xA (yy 5 tX.nd (xr iE hr (yS (xr gD hr (xN (zd (zO K) (pv 0) (pv 3) (λ_ _=>rfl)))) (xi (xr gD hr (xN (zd (zO K) (pv 0) (pv 4) (λ_ _=>rfl)))) (pv 2))))) (xA (yR (gN (tK (pv 5))) (xy (xR gJ)) yT) (xA (yy 6 tX.nd (xq i0 (wA (xN (yB (xi xl xl)))) (yO (uh K) rfl (B.get "len") ug (xN (pv 0))))) (xA (wX (pv 5) (zM K (n:=2) rfl (ye (ae (pv 6) (pv 3) set_list) (ye (ae (pv 6) (pv 4) set_list) zD)))) (xy (xR (jW (dU K) rfl (B.get "tuple") qf (xN (pv 6)))))))))))
  (xB (uu xc (zR (yh xK (yh xK zK))).g) (xB (yE (xE (zo (xE (xM (wH xc xc))) (xn (xE (xM (wH xc xc))) xc)))) (xB (yY (zA (tE xc)) (xY (kK (t:=Tr.non))) y7) (xB (vD (G4 (v8 (b:=true) (xM (yA (b:=true) (xn xo xo)))) (zz uK (xM xc)))) (xB (uu xc (Pr (G6 (bG xc) (G6 (bG xc) Pt)))) (xY iT)))))) λts KK hl h=>?_
 obtain⟨xa,x,rfl,hf,G,k⟩:=h;obtain⟨⟨i,j⟩,d⟩:=x;have i1:=G.i1;have i2:=G.i2;have l8:=(wW hf).1.2;have ml:(xa.map xg).length=xa.length:=xP _;refine yP (λτ=>τ=[.fz (.tup (xa.map xg)),.fz (v9 (i,j)),.fz (yV d),.fz (.int (i:Nat)),.fz (.int (j:Nat)),.un,.un]) ?_ (λN hN=>⟨rfl,hN _ rfl⟩);rintro _ rfl;refine yP (λτ=>τ=[.fz (.tup (xa.map xg)),.fz (v9 (i,j)),.fz (yV d),.fz (.int (i:Nat)),.fz (.int (j:Nat)),.fz (.tup [fT (lfr (cr d (xh xa j)) (cr (xh xa i) (xh xa j))),fT (lfr (cr (xh xa i) d) (cr (xh xa i) (xh xa j)))]),.un]) ?_ (λN hN=>?_)
 rotate_left
 .show wy (atT (xa.map xg) (i:Int)) _;rw[gc i1];refine⟨(xZ xa i).1,(xZ xa i).2.1,_,rfl,?_⟩;show wy (atT (xa.map xg) (j:Int)) _;rw[gc i2];refine⟨(xZ xa j).1,(xZ xa j).2.1,_,rfl,?_⟩;have b1:=kU hf i1;have b2:=kU hf i2;refine⟨_,_,_,_,_,rfl,Ed (n:=30) (u:=xh xa i) (v:=xh xa j) (by decide) b1 b2,?_,?_,G.pos,?_⟩
  .exact Tv _ _
  .exact K5 (by decide) G.bx
  have e:gH (xh xa i).1 (xh xa i).2 (xh xa j).1 (xh xa j).2 (yV d)=_:=Q7 G.nz G.inc;have e1:=GD (n:=cr d (xh xa j)) G.pos;have e2:=GD (n:=cr (xh xa i) d) G.pos;refine hN _ ?_;show([.fz (.tup (xa.map xg)),.fz (v9 (i,j)),.fz (yV d),.fz (.int (i:Nat)),.fz (.int (j:Nat)),.fz (gH (xh xa i).1 (xh xa i).2 (xh xa j).1 (xh xa j).2 (yV d)),.un]:xV)=_;rw[e,e1,e2]
 rintro _ rfl;refine yP (λτ=>τ=[.fz (.tup (xa.map xg)),.fz (v9 (i,j)),.fz (yV d),.fz (.int (i:Nat)),.fz (.int (j:Nat)),.fz (.tup [fT (lfr (cr d (xh xa j)) (cr (xh xa i) (xh xa j))),fT (lfr (cr (xh xa i) d) (cr (xh xa i) (xh xa j)))]),.un]) ?_ (λN hN=>hN _ rfl);rintro _ rfl;refine yP (λτ=>τ=[.fz (.tup (xa.map xg)),.fz (v9 (i,j)),.fz (yV d),.fz (.int (i:Nat)),.fz (.int (j:Nat)),.fz (.tup [fT (lfr (cr d (xh xa j)) (cr (xh xa i) (xh xa j))),fT (lfr (cr (xh xa i) d) (cr (xh xa i) (xh xa j)))]),.ow ((List.replicate xa.length ((0:Int),(1:Int))).map fT)]) ?_ (λN hN=>⟨⟨by lia,by rw[ml];lia⟩,t7 (by simp;lia),hN _ (by show([.fz (.tup (xa.map xg)),.fz (v9 (i,j)),.fz (yV d),.fz (.int (i:Nat)),.fz (.int (j:Nat)),.fz (.tup [fT (lfr (cr d (xh xa j)) (cr (xh xa i) (xh xa j))),fT (lfr (cr (xh xa i) d) (cr (xh xa i) (xh xa j)))]),.ow (List.replicate (xa.map xg).length [fT (0,1)]).flatten]:xV)=_;rw[eM,B5,ml])⟩)
 rintro _ rfl;refine yP (λτ=>τ=[.fz (.tup (xa.map xg)),.fz (v9 (i,j)),.fz (yV d),.fz (.int (i:Nat)),.fz (.int (j:Nat)),.fz (.tup [fT (lfr (cr d (xh xa j)) (cr (xh xa i) (xh xa j))),fT (lfr (cr (xh xa i) d) (cr (xh xa i) (xh xa j)))]),.ow ((uP xa ((i,j),d)).map fT)]) ?_ (λN hN=>?_)
 .rintro _ rfl;exact k
 refine⟨rfl,?_⟩;refine E3 ?_;refine oT (f:=fT) (n:=i) (l:=List.replicate xa.length ((0:Int),(1:Int))) rfl (by rw[aP];exact i1) (λ_ h=>h) ?_;refine E3 ?_;refine oT (f:=fT) (n:=j) (l:=(List.replicate xa.length ((0:Int),(1:Int))).set i (lfr (cr d (xh xa j)) (cr (xh xa i) (xh xa j)))) rfl (by rw[q8,aP];exact i2) (λ_ h=>h) ?_;refine hN _ ?_;show _=([.fz (.tup (xa.map xg)),.fz (v9 (i,j)),.fz (yV d),.fz (.int (i:Nat)),.fz (.int (j:Nat)),.fz (.tup [fT (lfr (cr d (xh xa j)) (cr (xh xa i) (xh xa j))),fT (lfr (cr (xh xa i) d) (cr (xh xa i) (xh xa j)))]),.ow ((wtw xa.length i j (cr d (xh xa j)) (cr (xh xa i) d) (cr (xh xa i) (xh xa j))).map fT)]:xV)
 rw[T_ G.pos];rfl
def O3 (B:ya mg bn)(D:DF K mg "paper_of" AR f fd ["field", "weights"])(l7:C6 P w K mg base)(iM:DK P w K mg base) :
  og P w K mg base:=by
 refine yk D Sz (λhr=>(xy (xR (yB (xi (pv 1) (xr l7 hr (xN (xr iM hr (xi (pv 0) (pv 1))))))))))
  (xY (yA (b:=true) (xn xc (xE (xM (xE (xn xc xc))))))) λts KK hl h=>?_
 obtain⟨xa,ws,rfl,H0,hc,k⟩:=h;have hb:=H0.bot;exact⟨xa,ws,rfl,H0,_,_,_,rfl,hb,hc,k⟩
def O4 (B:ya mg bn)(D:DF K mg "papers_at" AS f fd ["field", "place"])(iL:DJ P w K mg base)(lY:C2 P w K mg base)(gD:p9 P w K mg base)(sS:og P w K mg base)(iP:DQ P w K mg base) :
  Dt P w K mg base:=by
 refine yk D ar (λhr=>(xA (yy 2 ar.nd (wA u5)) (xA (zX zG rfl (zB K (xr iL hr (xi (pv 0) (pv 1)))) (yi 3 ar.nd) (xA (wX (pv 3) (zM K (n:=2) rfl (ye (yi 4 ar.nd) (ye (yi 5 ar.nd) zD)))) (xy (zX zG rfl (zB K (xr lY hr (xi (xr gD hr (xN (zd (zO K) (pv 0) (pv 4) (λ_ _=>rfl)))) (xr gD hr (xN (zd (zO K) (pv 0) (pv 5) (λ_ _=>rfl))))))) (yi 6 ar.nd) (xy (vf (vO qD q9 q_ qo (pv 2) (xN (xr sS hr (xi (pv 0) (xr iP hr (yS (pv 0) (xi (pv 3) (pv 6)))))))))))))) (xy (xR (pv 2))))))
  (xB (vD (kM vn)) (xB (zV (zQ (xE (xn xc xc))) xK.g (xB (uu xc (zR (yh xK (yh xK zK))).g) (zV (zQ (xE (xn (xE (xM (wH xc xc))) (xE (xM (wH xc xc)))))) xK.g (qq (xE (xn xc (xE (zo xc (xn xc xc))))))))) tF)) λts KK hl h=>?_
 obtain⟨xa,p,rfl,hf,hp,k⟩:=h;have l8:=(wW hf).1.2;have sl:(u6 xa (uE xa p)).length<=8:=vt SW (vt JE l8);have sm:∀ij∈u6 xa (uE xa p),ij.1<xa.length/\ij.2<xa.length/\0<cr (xh xa ij.1) (xh xa ij.2):=λij h=>⟨BB (ay h).1,BB (ay h).2.1,(ay h).2.2⟩
 refine⟨xa,p,rfl,hf,hp,?_⟩;generalize u6 xa (uE xa p)=S at k sl sm ⊢;refine vc (all:=S.map v9) (λi τ=>∃(L:List SX) (x3 x4 x5 x6:TV),hV xa (S.take i) L/\(∀x∈L,Bx 30 x.2/\BxM xa x)/\τ=[.fz (.tup (xa.map xg)),.fz (pT p),.ow (L.map (qT xa)),x3,x4,x5,x6]) ⟨[],_,_,_,_,⟨λx hx=>by simp at hx,λx hx=>by simp at hx,by simp⟩,(λx hx=>by cases hx),rfl⟩ ?_ ?_
 .rintro i x τ N hxi ⟨L,x3,x4,x5,x6,hL,b30,rfl⟩ hN;obtain⟨⟨a,b'⟩,hyi,rfl⟩:=uY hxi;obtain⟨i1,i2,hp'⟩:=sm _ (zq hyi);refine⟨rfl,?_⟩;show wy (atT (xa.map xg) (a:Int)) _;rw[gc i1];refine⟨(xZ xa a).1,(xZ xa a).2.1,_,rfl,?_⟩;show wy (atT (xa.map xg) (b':Int)) _;rw[gc i2];refine⟨(xZ xa b').1,(xZ xa b').2.1,_,rfl,?_⟩;refine⟨xh xa a,xh xa b',rfl,(kU hf i1).mono (by decide),(kU hf i2).mono (by decide),hp',λh B=>?_⟩;have tl:(S.take i).length<=8:=by rw[uQ];lia
  have L1:=hL.len;refine vc (all:=h.map yV) (λj τ=>∃x6:TV,τ=[.fz (.tup (xa.map xg)),.fz (pT p),.ow ((L++(h.take j).map λd=>((a,b'),d)).map (qT xa)),.fz (v9 (a,b')),.fz (.int (a:Nat)),.fz (.int (b':Nat)),x6]) ⟨x6,by rw[pI,du,uH];rfl⟩ ?_ ?_
  .rintro j y τ N2 hyj ⟨x6,rfl⟩ hN2;obtain⟨d,hdj,rfl⟩:=uY hyj;have G:=FO i1 i2 hp' B (zq hdj);refine⟨xa,((a,b'),d),rfl,hf,G,xa,uP xa ((a,b'),d),rfl,wW.ws hf (G.gw hf),G.cut hf,?_⟩;have B1:=B.len;refine⟨by rw[xP,ze,xP,uQ];exact wc (by lia),hN2 _ ⟨.fz (yV d),?_⟩⟩;rw[vI,hdj];simp only[wD,Option.toList,qa,du,<-qz];rfl
  .rintro τ ⟨x6,rfl⟩;rw[xP,uS (ym _)];refine hN _ ⟨_,_,_,_,_,?_,λx hx=>?_,rfl⟩
   .rw[vI,hyi];exact hL.snoc i1 i2 hp' B
   .rcases yz.mp hx with hx|hx
    .exact b30 x hx
    .obtain⟨d,hd,rfl⟩:=zT.mp hx;exact⟨L2.vS.b30 hp' B (kU hf i1) (kU hf i2) d hd,λM h0 hb=>L2.vS.bM h0 hp' B (hb _ i1) (hb _ i2) d hd⟩
 .rintro τ ⟨L,x3,x4,x5,x6,hL,b30,rfl⟩;rw[xP,uS (ym _)] at hL;exact k L hL b30
end
section
variable (P:Program) (w:World) {K:xw} {mg:Str->Option Value} (base:Heap) {f:Addr} {fd:FuncData}
def Pj (B:ya mg bn)(D:DF K mg "weights_of_row" A8 f fd ["field", "number"])  :
  DP P w K mg base:=by
 refine yk D IS (λhr=>(xA (yy 2 IS.nd (xq i0 (wA (xN (yB (xi xl xl)))) (yO (uh K) rfl (B.get "len") ug (xN (pv 0))))) (xA (wX (yB (xi xl xl)) (ae (pv 2) (pv 1) set_list)) (xy (xR (jW (dU K) rfl (B.get "tuple") qf (xN (pv 2))))))))
  (xB (vD (G4 (v8 (b:=true) (xM (yA (b:=true) (xn xo xo)))) (zz uK (xM xc)))) (xB (uu (yA (b:=true) (xn xo xo)) (bG xc)) (xY iT))) λts KK hl h=>?_
 obtain⟨xa,n,rfl,hn,l8,k⟩:=h;have ml:(xa.map xg).length=xa.length:=xP _;refine yP (λτ=>τ=[.fz (.tup (xa.map xg)),.fz (uq n),.ow ((List.replicate xa.length ((0:Int),(1:Int))).map fT)]) ?_ (λN hN=>⟨⟨by lia,by rw[ml];lia⟩,t7 (by simp;lia),hN _ (by show([.fz (.tup (xa.map xg)),.fz (uq n),.ow (List.replicate (xa.map xg).length [fT (0,1)]).flatten]:xV)=_;rw[eM,B5,ml])⟩)
 rintro _ rfl;refine yP (λτ=>τ=[.fz (.tup (xa.map xg)),.fz (uq n),.ow ((ud xa.length n).map fT)]) ?_ (λN hN=>?_)
 .rintro _ rfl;exact k
 show rK 2 (wG 1) (fT (1,1)) [.fz (.tup (xa.map xg)),.fz (uq n),.ow ((List.replicate xa.length ((0:Int),(1:Int))).map fT)] N;refine oT (f:=fT) (n:=n) (l:=List.replicate xa.length ((0:Int),(1:Int))) (w:=((1:Int),(1:Int))) rfl (by rw[aP];exact hn) (λ_ h=>h) ?_;exact hN _ rfl
def O_ (B:ya mg bn)(D:DF K mg "round_papers" AY f fd ["field"])(lZ:C3 P w K mg base)(iD:Dt P w K mg base) :
  DC P w K mg base:=by
 refine yk D cK (λhr=>(xA (yy 1 cK.nd Hw) (xA (zX zG rfl (zB K (xr lZ hr (xN (pv 0)))) (yi 2 cK.nd) (xy (zX zG rfl (zB K (xr iD hr (xi (pv 0) (pv 2)))) (yi 3 cK.nd) (xy (vf (vO PySem.F.plainAttrs_dict PySem.F.slot_dict_setdefault PySem.F.type_dict_setdefault (ND (huR hr)) (pv 1) (xi (xC K 3) (pv 3)))))))) (xy (xR (jW (La rfl) rfl (B.get "list") ox (xN (Q9 PySem.F.plainAttrs_dict PySem.F.slot_dict_values PySem.F.type_dict_values NF (pv 1)))))))))
  (xB G8 (xB (zV (zQ (xE (xM xc))) xK.g (zV (zQ (xE (xn xc xc))) xK.g (Pz xD xc))) (fP Pq))) λts KK hl h=>?_
 obtain⟨xa,rfl,hf,FR,k⟩:=h;refine yP (λτ=>τ=[.fz (.tup (xa.map xg)),.od (kvX xa []),.un,.un]) ?_ (λN hN=>hN _ rfl);rintro _ rfl;refine yP (λτ=>∃(Ls:List SX) (x2 x3:TV),RPi xa ((xS xa).filter brk) Ls/\τ=[.fz (.tup (xa.map xg)),.od (kvX xa Ls),x2,x3]) ?_ (λN hN=>?_)
 .rintro _ ⟨Ls,x2,x3,P,rfl⟩;have:=k Ls (P.done hf FR);show KK (.lst ((kvX xa Ls).map (·.2)));unfold kvX;rw[vi];exact this
 refine qv (((xS xa).filter brk).map xF) (λi τ=>∃(Ls:List SX) (x2 x3:TV),RPi xa (((xS xa).filter brk).take i) Ls/\τ=[.fz (.tup (xa.map xg)),.od (kvX xa Ls),x2,x3]) (λKK h=>⟨xa,rfl,hf,FR,h⟩) ⟨[],_,_,RPi.nil xa,rfl⟩ ?_ (λτ ⟨Ls,x2,x3,P,e⟩=>hN _ ⟨Ls,x2,x3,by rw[xP,aR] at P;exact P,e⟩);rintro i x τ N2 hx ⟨Ls,x2,x3,P,rfl⟩ hN2;obtain⟨v,hvi,rfl⟩:=uY hx;obtain⟨mv,bv⟩:=uR.mp (zq hvi);refine⟨xa,xt v,rfl,hf,FR.pk mv,λL PL b30=>?_⟩;refine vc (all:=L.map (qT xa)) (λj τ=>∃(Ls:List SX) (x3:TV),RPi xa (((xS xa).filter brk).take i) Ls/\(∀x∈L.take j,∃y∈Ls,zL xa y=zL xa x)/\τ=[.fz (.tup (xa.map xg)),.od (kvX xa Ls),.fz (xF v),x3]) ⟨Ls,x3,P,λx hx=>(by rw[pI] at hx;cases hx),rfl⟩ ?_ ?_
 .clear P;rintro j y τ N3 hy ⟨Ls,x3,P,Q,rfl⟩ hN3;obtain⟨x,hxj,rfl⟩:=uY hy;have mx:=zq hxj;have R1:=Q5 hf mv bv PL mx (b30 x mx).1;have ln:=Hv hf FR P.snd P.nd;refine⟨kyR (zL xa x),rfl,by unfold kvX;rw[xP];exact wc (by lia),hN3 _ ⟨qV xa Ls x,.fz (qT xa x),P.put R1 (b30 x mx).2,λz hz=>?_,?_⟩⟩
  .rw[vI,hxj] at hz;rcases yz.mp hz with hz|hz
   .obtain⟨y,hy,e⟩:=Q z hz;exact⟨y,HG hy,e⟩
   .rw[zF.mp hz];exact Rr xa Ls x
  .show([.fz (.tup (xa.map xg)),.od (putD (kvX xa Ls) (kyR (zL xa x)) (qT xa x)),.fz (xF v),.fz (qT xa x)]:xV)=_;rw[Rp]
 .rintro τ ⟨Ls,x3,P,Q,rfl⟩;rw[xP,aR] at Q;refine hN2 _ ⟨Ls,_,_,⟨P.bx,P.snd,P.nd,λu hu=>?_⟩,rfl⟩;rw[vI,hvi] at hu;rcases yz.mp hu with hu|hu
  .exact P.all u hu
  .rw[zF.mp hu];exact⟨L,PL,Q⟩
def O2 (B:ya mg bn)(D:DF K mg "paper_against" ck f fd ["field", "place"])(sQ:p_ P w K mg base)(sS:og P w K mg base)(iJ:DC P w K mg base)(iO:DP P w K mg base)(iw:Dl P w K mg base) :
  Ds P w K mg base:=by
 refine yk D Bl (λhr=>(xA (vf (xr sQ hr (xN (pv 0)))) (xA (ah (i:=2) Bl.nd rfl (Or.inl rfl) (ui (N:=["number", "field"]) (xQ:=[none,some 0]) (XN:=["field", "place", "rows", "paper"]) (xs:=xH ck) (by decide +kernel) rfl rfl) rfl (vW rfl) (kQ rfl (B.get "range") (xN (yO (uh K) rfl (B.get "len") ug (xN (pv 0))))) (λ_ _ _ _=>(zi (i:=0) (show(["number", "field"]:List Str).Nodup by decide +kernel) rfl (Or.inl rfl))) (λ_ _ _ _=>kR) (λ_ _ _ _=>(xr sS hr (xi (pv 1) (xr iO hr (xi (pv 1) (pv 0)))))))
  (xA (zX zG rfl (zB K (xq fQ (pv 2) (xr iJ hr (xN (pv 0))))) (yi 3 Bl.nd) (xy (yR (uA (wm (xr iw hr (xi (xC K 3) (pv 1))))) (xy (xR (pv 3))) yT))) (xy (xR gJ))))))
  (xB (iX (xE (xM xc))) (xB (yE (zw.e (ur (kN (xM (zz uK (xM xc)))).c xK kO (xE (xn xc (xE (xn xc xc))))))) (xB (zV (zQ (zw.e (sX xc (xE (xM xc))))) xK.g (yY (uw (zA (xE (xn xD xc)))) (xY xc) y7)) (xY (kK (t:=Tr.non)))))) λts KK hl h=>?_
 obtain⟨xa,p,rfl,hf,FR,pk,k⟩:=h;have l8:=FR.len;refine yP (λτ=>τ=[.fz (.tup (xa.map xg)),.fz (pT p),.un,.un]) ?_ (λN hN=>⟨_,rfl,by rw[lg];exact hf,hN _ rfl⟩);rintro _ rfl;refine yP (λτ=>τ=[.fz (.tup (xa.map xg)),.fz (pT p),.fz (.lst ((List.range xa.length).map λi=>.tup [wsT (ud xa.length i),xg (xZ xa i)])),.un]) ?_ (λN hN=>?_)
 rotate_left
 .refine⟨⟨by lia,by rw[xP];lia⟩,by rw[uJ,xP];exact wc (by lia),?_⟩;show kC _ _ _ _ _ (qu 0 (xa.map xg).length) [];rw[xP,RJ];refine Ef (λi=>.tup [wsT (ud xa.length i),xg (xZ xa i)]) (λi hi N h=>?_) (hN _ rfl);have hi:=fc.mp hi;refine⟨xa,i,rfl,hi,l8,xa,ud xa.length i,rfl,wW.ws hf (o8 _ _),Ha hf hi,?_⟩;rw[G_ hi];exact h
 rintro _ rfl;refine yP (λτ=>∃Ls,RP xa Ls/\∀r∈RR xa Ls,zN r p=true) ?_ (λN hN=>?_)
 .rintro _ ⟨Ls,R,all⟩;exact(k Ls R).1 all
 refine⟨xa,rfl,hf,FR,λLs R=>?_⟩;have ln:=R.len;refine⟨by rw[xP,xP,B4];exact t7 (by lia),?_⟩;have ea:((List.range xa.length).map λi=>Tr.tup [wsT (ud xa.length i),xg (xZ xa i)])++Ls.map (qT xa)=(((List.range xa.length).map λi=>ud xa.length i)++Ls.map λx=>uP xa x).map λy:List F2=>Tr.tup [wsT y,vy (xa.zip y)]:=by rw[wD,vi,vi];congr 1;refine Kc λi hi=>?_;show _=Tr.tup [wsT (ud xa.length i),vy (xa.zip (ud xa.length i))];rw[G_ (fc.mp hi)]
 have eb:(((List.range xa.length).map λi=>ud xa.length i)++Ls.map λx=>uP xa x).map (λy:List F2=>qh (xa.zip y))=RR xa Ls:=by rw[wD,vi,vi];unfold RR;congr 1;refine Eq.trans (Kc λi hi=>?_) (Ry xa);exact PD (fc.mp hi)
 have ec:∀y∈((List.range xa.length).map λi=>ud xa.length i)++Ls.map λx=>uP xa x,GW xa.length y/\qg (wsum k0 (xa.zip y)) (wsum k1 (xa.zip y)):=λy hy=>by
  rcases yz.mp hy with hy|hy
  .obtain⟨i,hi,rfl⟩:=zT.mp hy;exact⟨o8 _ _,Ha hf (fc.mp hi)⟩
  .obtain⟨x,hx,rfl⟩:=zT.mp hy;have G:=(R.snd x hx).1;exact⟨G.gw hf,G.cut hf⟩
 show kH _ _ _ (((List.range xa.length).map λi=>Tr.tup [wsT (ud xa.length i),xg (xZ xa i)])++Ls.map (qT xa)) _;rw[ea];generalize ((List.range xa.length).map λi=>ud xa.length i)++Ls.map (λx=>uP xa x)=ps at eb ec;refine vc (λi τ=>(∀y∈ps.take i,zN (qh (xa.zip y)) p=true)/\∃x3:TV,τ=[.fz (.tup (xa.map xg)),.fz (pT p),.fz (.lst ((List.range xa.length).map λi=>.tup [wsT (ud xa.length i),xg (xZ xa i)])),x3]) ⟨λy hy=>(by rw[pI] at hy;cases hy),_,rfl⟩ ?_ ?_
 .rintro i x τ N3 hx ⟨all,x3,rfl⟩ hN3;obtain⟨y,hyi,rfl⟩:=uY hx;have my:qh (xa.zip y)∈RR xa Ls:=by rw[<-eb];exact jA (zq hyi)
  refine⟨qh (xa.zip y),p,rfl,(nP (R.frow hf FR _ my).1).mono (by decide),pk,?_⟩;refine yg (b:=!zN (qh (xa.zip y)) p) (λc=>?_) (λc=>?_)
  .obtain⟨g,co⟩:=ec y (zq hyi);exact(k Ls R).2 y g co my (by simpa using c)
  .refine hN3 _ ⟨λz hz=>?_,_,rfl⟩;rw[vI,hyi] at hz;rcases yz.mp hz with hz|hz
   .exact all z hz
   .rw[zF.mp hz];simpa using c
 .rintro τ ⟨all,x3,rfl⟩;refine hN _ ⟨Ls,R,λr hr=>?_⟩;rw[<-eb] at hr;obtain⟨y,hy,rfl⟩:=zT.mp hr;exact all y (by rw[xP,aR];exact hy)
end
section
variable (P:Program) (w:World) {K:xw} {mg:Str->Option Value} (base:Heap) {f:Addr} {fd:FuncData}
def N6 (B:ya mg bn)(D:DF K mg "_law_field" tR f fd ["_law_state_here"])(wj:pY P w K mg base) :
  CP P w K mg base:=by
 refine Hi D.1 vh D.2 D.3 rfl (λ_ _ _ _ _ _ hr=>⟨_,_,(xA (yy 1 vh.nd (xr wj hr (xi (pv 0) xl))) (xA (yy 2 vh.nd (wA u5)) (xA (yR (yG (qR K hr.units) (pv 1) xl (yj _)) (xA (zX zG rfl (zB K (wA (yS (yB (xi (wO wQ xl) xl)) (yS (yB (xi xl xl)) (xi (yB (xi xl (wO wQ xl))) (yB (xi xl xl))))))) (zM K (n:=2) rfl (ye (yi 3 vh.nd) (ye (yi 4 vh.nd) zD))) (xA (yy 5 vh.nd (xq ux xl (xr wj hr (xi (pv 0) xl)))) (xy (vf (vO qD q9 q_ qo (pv 2) (xN (yB (yS (xq yq (pv 3) (pv 5)) (xi (xq yq (pv 4) (pv 5)) (xq ux (xq yq (pv 5) (xr wj hr (xi (pv 0) xl))) (xr wj hr (xi (pv 0) (pv 5))))))))))))) (xA (zX zG rfl (kQ rfl (B.get "range") (xN (xr wj hr (xi (pv 0) xl)))) (yi 6 vh.nd) (xA (qU (i:=3) (j:=4) rfl vh.nd rfl rfl (by decide) rfl rfl (xi (xq zS (xr wj hr (xi (pv 0) xl)) xl) (xq zS (xr wj hr (xi (pv 0) xl)) xl)) (by rfl))
  (xA (yR (PW.pt (jq (yG (uy hr.units) (pv 3) xl (yj _)) (jZ (yG (uy hr.units) (pv 4) xl (yj _))))) (xy (yy 3 vh.nd xl)) yT) (xA (yy 7 vh.nd (xq ux (xq yq (pv 3) (xq zS (xr wj hr (xi (pv 0) xl)) xl)) (xq yq (pv 4) (xq zS (xr wj hr (xi (pv 0) xl)) xl)))) (xy (vf (vO qD q9 q_ qo (pv 2) (xN (yB (yS (pv 3) (xi (pv 4) (xq zS (xq ux (pv 7) (xr wj hr (xi (pv 0) xl))) xl))))))))))))
  (xy (yR (yG (uy hr.units) (xr wj hr (xi (pv 0) xl)) xl (yj _)) (xy (vf (vO qD q9 q_ qo (pv 2) (xN (yB (yS (xq zS xl (zd (zO K) (zd (zO K) (pv 2) (wO wQ xl) (λ_ _=>rfl)) xl (λ_ _=>rfl))) (xi (xq zS xl (zd (zO K) (zd (zO K) (pv 2) (wO wQ xl) (λ_ _=>rfl)) xl (λ_ _=>rfl))) (xq zS xl (zd (zO K) (zd (zO K) (pv 2) (wO wQ xl) (λ_ _=>rfl)) xl (λ_ _=>rfl)))))))))) yT)))) yT)
  (xA (yR (yG (uy hr.units) (pv 1) xl (yj _)) (xA (yy 8 vh.nd (xq ux xl (xr wj hr (xi (pv 0) xl)))) (xy (yy 2 vh.nd (wA (yS (yB (yS (wO wQ xl) (xi xl xl))) (xi (yB (yS xl (xi (xq yq (wO wQ xl) (pv 8)) xl))) (yB (yS xl (xi (xq yq xl (pv 8)) (xq yq xl (pv 8))))))))))) yT) (xA (yR (yG (uy hr.units) (pv 1) xl (yj _)) (xA (yy 9 vh.nd (zd (zO K) (wA (xi (wA (yS (yB (xi (wO wQ xl) xl)) (xi (yB (xi xl (wO wQ xl))) (yB (xi xl xl))))) (wA (yS (yB (xi (wO wQ xl) (wO wQ xl))) (xi (yB (xi xl (wO wQ xl))) (yB (xi xl xl))))))) (xr wj hr (xi (pv 0) xl)) (λ_ _=>rfl))) (xy (ah (i:=2) vh.nd rfl (Or.inl rfl) (ui (N:=["_law_a", "_law_b", "_law_state_here"]) (xQ:=[none,none,some 0]) (XN:=["_law_state_here", "_law_way", "_law_rows", "_law_a", "_law_b", "_law_by", "_law_turn", "_law_near", "_law_k", "_law_some", "_law_u", "_law_v"]) (xs:=xH tR) (by decide +kernel) rfl rfl) rfl (gz (vd rfl (vd rfl gA))) (zB K (pv 9)) (λ_ _ _ _=>(zM K (n:=2) rfl (ye (zi (i:=0) (show(["_law_a", "_law_b", "_law_state_here"]:List Str).Nodup by decide +kernel) rfl (Or.inl rfl)) (ye (zi (i:=1) (show(["_law_a", "_law_b", "_law_state_here"]:List Str).Nodup by decide +kernel) rfl (Or.inl rfl)) zD)))) (λ_ _ _ _=>kR) (λ_ _ _ _=>(yB (yS (pv 0) (xi (pv 1) (xr wj hr (xi (pv 2) xl))))))))) yT)
  (xA (wX (yB (xi (xq zS (xr wj hr (xi (pv 0) xl)) xl) (xq zS (xr wj hr (xi (pv 0) xl)) xl))) (zM K (n:=2) rfl (ye (zi (i:=10) vh.nd rfl (Or.inr rfl)) (ye (zi (i:=11) vh.nd rfl (Or.inr rfl)) zD)))) (xA (ah (i:=2) vh.nd rfl (Or.inl rfl) (ui (N:=["_law_a", "_law_b", "_law_c", "_law_v", "_law_u"]) (xQ:=[none,none,none,some 11,some 10]) (XN:=["_law_state_here", "_law_way", "_law_rows", "_law_a", "_law_b", "_law_by", "_law_turn", "_law_near", "_law_k", "_law_some", "_law_u", "_law_v"]) (xs:=xH tR) (by decide +kernel) rfl rfl) rfl (gz (vd rfl (vd rfl (vd rfl gA)))) (zB K (pv 2)) (λ_ _ _ _=>(zM K (n:=3) rfl (ye (zi (i:=0) (show(["_law_a", "_law_b", "_law_c", "_law_v", "_law_u"]:List Str).Nodup by decide +kernel) rfl (Or.inl rfl)) (ye (zi (i:=1) (show(["_law_a", "_law_b", "_law_c", "_law_v", "_law_u"]:List Str).Nodup by decide +kernel) rfl (Or.inl rfl)) (ye (zi (i:=2) (show(["_law_a", "_law_b", "_law_c", "_law_v", "_law_u"]:List Str).Nodup by decide +kernel) rfl (Or.inl rfl)) zD))))) (λ_ _ _ _=>kR) (λ_ _ _ _=>(yB (yS (pv 0) (xi (pv 1) (xq ux (xq ux (pv 2) (xq yq (pv 0) (pv 4))) (xq yq (pv 1) (pv 3))))))))
  (xA (yy 6 vh.nd (xr wj hr (xi (pv 0) (yO (uh K) rfl (B.get "len") ug (xN (pv 2)))))) (xy (xR (jW (dU K) rfl (B.get "tuple") qf (xN (xq fQ (gK (cO K) (pv 2) (gM (pv 6)) gL) (gK (cO K) (pv 2) gL (gM (pv 6)))))))))))))))),
  (xB (yE (wN (xM xo))) (xB (vD (kM vn)) (xB (yY (yH (xk qS xc xo)) (xB (zV (zQ (v8 (b:=true) (zo (yA (b:=true) (xn (wM xo) xo)) (zo (yA (b:=true) (xn xo xo)) (xn (yA (b:=true) (xn xo (wM xo))) (yA (b:=true) (xn xo xo))))))) (zR (yh xK (yh xK zK))).g (xB (yE (xk vo xo (wN (xM xo)))) (qq (yA (b:=true) (zo (xk yu xc xc) (xn (xk yu xc xc) (xk vo (xk yu xc (wN (xM xo))) (wN (xM xc))))))))) (xB (zV (kN (xM (wN (xM xo)))) xK.g (xB (qQ (xn (xk zW (wN (xM xo)) xo) (xk zW (wN (xM xo)) xo))) (xB (yY (jm (yH (xk os_eq xc xo)) (yH (xk os_eq xc xo))) (yE xo) y7) (xB (yE (xk vo (xk yu xc (xk zW (wN (xM xo)) xo)) (xk yu xc (xk zW (wN (xM xo)) xo)))) (qq (yA (b:=true) (zo xc (xn xc (xk zW (xk vo xc (wN (xM xo))) xo))))))))) (yY (yH (xk os_eq (wN (xM xo)) xo)) (qq (yA (b:=true) (zo (xk zW xo (wH (jT (wM xo)) xo)) (xn (xk zW xo (wH (jT (wM xo)) xo)) (xk zW xo (wH (jT (wM xo)) xo)))))) y7))) y7) (xB (yY (yH (xk os_eq xc xo)) (xB (yE (xk vo xo (wN (xM xo)))) (vD (kM (zo (yA (b:=true) (zo (wM xo) (xn xo xo))) (xn (yA (b:=true) (zo xo (xn (xk yu (wM xo) xc) xo))) (yA (b:=true) (zo xo (xn (xk yu xo xc) (xk yu xo xc))))))))) y7) (xB (yY (yH (xk os_eq xc xo)) (xB (yE (wH (v8 (b:=true) (xn (v8 (b:=true) (zo (yA (b:=true) (xn (wM xo) xo)) (xn (yA (b:=true) (xn xo (wM xo))) (yA (b:=true) (xn xo xo))))) (v8 (b:=true) (zo (yA (b:=true) (xn (wM xo) (wM xo))) (xn (yA (b:=true) (xn xo (wM xo))) (yA (b:=true) (xn xo xo))))))) (wN (xM xo)))) (vD (ur (zQ xc).c (zR (yh xK (yh xK zK))) kO (yA (b:=true) (zo xc (xn xc (wN (xM xo)))))))) y7) (xB (uu (yA (b:=true) (xn (xk zW (wN (xM xo)) xo) (xk zW (wN (xM xo)) xo))) (zR (yh xK (yh xK zK))).g) (xB (vD (ur iW (zR (yh xK (yh xK (yh xK zK)))) kO (yA (b:=true) (zo xc (xn xc (xk vo (xk vo xc (xk yu xc xc)) (xk yu xc xc))))))) (xB (yE (wN (xM (zz uK (xM sW))))) (xY (iU (xM (zw.e (sX (zw.e (G5 (gF xc) gE)) (zw.e (G5 gE (gF xc)))))))))))))))),λts KK hl h=>?_⟩)
 obtain⟨rfl,k⟩:=h;refine⟨tk (by decide),λw w0 w6=>?_⟩;dsimp only;refine yP (λτ=>τ=[.st,.fz (.int w),.ow [],.un,.un,.un,.un,.un,.un,.un,.un,.un]) ?_ (λN hN=>hN _ rfl);rintro _ rfl;refine yP (λτ=>∃(xa:List Pol.R3) (x:TV9),τ=[.st,.fz (.int w),.ow (xa.map xg),x.1,x.2.1,x.2.2.1,x.2.2.2.1,x.2.2.2.2.1,x.2.2.2.2.2.1,x.2.2.2.2.2.2.1,x.2.2.2.2.2.2.2.1,x.2.2.2.2.2.2.2.2]/\(w<4->LF0 xa)) ?_ ?_
 rotate_left
 .intro N hN;refine yg (b:=decide (w<4)) (λc=>?_) (λc=>hN _ ⟨[],⟨_,_,_,_,_,_,_,_,_⟩,rfl,λz=>absurd z (zZ c)⟩);refine yP (λτ=>∃(xa:List Pol.R3) (x:TV9),τ=[.st,.fz (.int w),.ow (xa.map xg),x.1,x.2.1,x.2.2.1,x.2.2.2.1,x.2.2.2.2.1,x.2.2.2.2.2.1,x.2.2.2.2.2.2.1,x.2.2.2.2.2.2.2.1,x.2.2.2.2.2.2.2.2]/\hJ xa) ?_ ?_
  rotate_left
  .intro N hN;refine qv (rH.map dT) (λi τ=>∃(xa:List Pol.R3) (x:TV9),τ=[.st,.fz (.int w),.ow (xa.map xg),x.1,x.2.1,x.2.2.1,x.2.2.2.1,x.2.2.2.2.1,x.2.2.2.2.2.1,x.2.2.2.2.2.2.1,x.2.2.2.2.2.2.2.1,x.2.2.2.2.2.2.2.2]/\dI i xa) (λKK h=>h) ⟨[],⟨_,_,_,_,_,_,_,_,_⟩,rfl,rfl,λj r d h=>by simp at h⟩ ?_ ?_
   .rintro i it τ N2 hx ⟨xa,x,rfl,hu⟩ hN2;obtain⟨d,hd,rfl⟩:=uY hx;have ds:=LK hd;have hi:=(y8.mp hd).1;have hi:i<4:=hi;refine⟨rfl,tk (by decide),λr a1 a2=>⟨jc (by lia) (by lia),jc (by lia) (by lia),tk (by decide),λs a3 a4=>⟨jc (by lia) (by lia),tk (by lia),λq a5 a6=>⟨by rw[xP,hu.1];exact wc (by lia),?_⟩⟩⟩⟩;have x1:=Pol.pz (show 0<=1+r by lia) a3;have x2:(1+r)*s<=(1+r)*4:=wd (by lia) (by lia);have st:=hu.step hd (b:=1+r) (c:=(1+r)*s+q) (by lia);have e:xa.map xg++[Tr.tup [.int (d.1*(1+r)),.int (d.2*(1+r)),.int ((1+r)*s+q)]]=(xa++[(d.1*(1+r),d.2*(1+r),(1+r)*s+q)]).map xg:=by rw[wD];rfl
    show N2 [.st,.fz (.int w),.ow (xa.map xg++[Tr.tup [.int (d.1*(1+r)),.int (d.2*(1+r)),.int ((1+r)*s+q)]]),_,_,_,_,_,_,_,_,_];rw[e];exact hN2 _ ⟨_,⟨_,_,_,_,_,_,_,_,_⟩,rfl,st⟩
   .rintro τ ⟨xa,x,rfl,hu⟩;exact hN _ ⟨xa,⟨_,_,_,_,_,_,_,_,_⟩,rfl,hu.box⟩
  rintro _ ⟨four,x,rfl,hB⟩;have fl:=hB.len;refine yP (λτ=>∃(ex:List Pol.R3) (x:TV9),τ=[.st,.fz (.int w),.ow ((four++ex).map xg),x.1,x.2.1,x.2.2.1,x.2.2.2.1,x.2.2.2.2.1,x.2.2.2.2.2.1,x.2.2.2.2.2.2.1,x.2.2.2.2.2.2.2.1,x.2.2.2.2.2.2.2.2]/\ex.length<=3/\∀r∈ex,Extra r) ?_ ?_
  rotate_left
  .intro N hN;refine⟨tk (by decide),λn n0 n4=>⟨⟨by lia,by lia⟩,?_⟩⟩;refine vc (λi τ=>∃(ex:List Pol.R3) (x:TV9),τ=[.st,.fz (.int w),.ow ((four++ex).map xg),x.1,x.2.1,x.2.2.1,x.2.2.2.1,x.2.2.2.2.1,x.2.2.2.2.2.1,x.2.2.2.2.2.2.1,x.2.2.2.2.2.2.2.1,x.2.2.2.2.2.2.2.2]/\ex.length=i/\∀r∈ex,Extra r) ⟨[],⟨_,_,_,_,_,_,_,_,_⟩,by rw[uH],rfl,λr hr=>by simp at hr⟩ ?_ ?_
   .rintro i it τ N2 hx ⟨ex,x,rfl,hl,he⟩ hN2;have hi:i<n.toNat:=by have:=(y8.mp hx).1;rw[uJ] at this;exact this
    show gR _ _ _ ([.st,.fz (.int w),.ow ((four++ex).map xg),x.1,x.2.1,x.2.2.1,.fz it,x.2.2.2.2.1,x.2.2.2.2.2.1,x.2.2.2.2.2.2.1,x.2.2.2.2.2.2.2.1,x.2.2.2.2.2.2.2.2]:xV);refine yP (λτ=>∃a b:Int,τ=[.st,.fz (.int w),.ow ((four++ex).map xg),.fz (.int a),.fz (.int b),x.2.2.1,.fz it,x.2.2.2.2.1,x.2.2.2.2.2.1,x.2.2.2.2.2.2.1,x.2.2.2.2.2.2.2.1,x.2.2.2.2.2.2.2.2]/\((-6<=a/\a<=6)/\(-6<=b/\b<=6))) ?_ (λN3 hN3=>⟨tk (by decide),λa a0 a1=>⟨tk (by decide),λb b0 b1=>hN3 _ ⟨a-6,b-6,rfl,by lia⟩⟩⟩);rintro _ ⟨a,b,rfl,hab⟩;refine yP (λτ=>∃a b:Int,τ=[.st,.fz (.int w),.ow ((four++ex).map xg),.fz (.int a),.fz (.int b),x.2.2.1,.fz it,x.2.2.2.2.1,x.2.2.2.2.2.1,x.2.2.2.2.2.2.1,x.2.2.2.2.2.2.2.1,x.2.2.2.2.2.2.2.2]/\((-6<=a/\a<=6)/\(-6<=b/\b<=6))/\(a≠0\/b≠0)) ?_ ?_
    rotate_left
    .intro N3 hN3;refine yg (b:=decide (a=0)) (λc=>?_) (λc=>?_)
     .refine yg (b:=decide (b=0)) (λd=>?_) (λd=>?_)
      .exact hN3 _ ⟨2,b,rfl,by lia,.inl (by decide)⟩
      .exact hN3 _ ⟨a,b,rfl,by lia,.inr (zZ d)⟩
     .exact vY (hN3 _ ⟨a,b,rfl,by lia,.inl (zZ c)⟩)
    rintro _ ⟨a,b,rfl,hab,hne⟩;refine⟨tk (by decide),λs s0 s5=>⟨jc (by lia) (by lia),tk (by decide),λq q0 q5=>⟨jc (by lia) (by lia),tk (by decide),λt t0 t9=>⟨by rw[xP,ze];exact wc (by lia),?_⟩⟩⟩⟩;have m1:=sH hab.1.1 hab.1.2 (show -2<=s-2 by lia) (show s-2<=2 by lia) (by decide) (by decide);have m2:=sH hab.2.1 hab.2.2 (show -2<=q-2 by lia) (show q-2<=2 by lia) (by decide) (by decide);have e:(four++ex).map xg++[Tr.tup [.int a,.int b,.int (a*(s-2)+b*(q-2)+t-1)]]=(four++(ex++[(a,b,a*(s-2)+b*(q-2)+t-1)])).map xg:=by rw[<-qz,I_];rfl
    show N2 [.st,.fz (.int w),.ow ((four++ex).map xg++[Tr.tup [.int a,.int b,.int (a*(s-2)+b*(q-2)+t-1)]]),_,_,_,_,_,_,_,_,_];rw[e];refine hN2 _ ⟨ex++[(a,b,a*(s-2)+b*(q-2)+t-1)],⟨.fz (.int a),.fz (.int b),x.2.2.1,.fz it,.fz (.int (a*(s-2)+b*(q-2))),x.2.2.2.2.2.1,x.2.2.2.2.2.2.1,x.2.2.2.2.2.2.2.1,x.2.2.2.2.2.2.2.2⟩,rfl,by simp[hl],λr hr=>?_⟩;rcases yz.mp hr with h|h
    .exact he r h
    .rw[zF.mp h];unfold Extra;simp only;lia
   .rintro τ ⟨ex,x,rfl,hl,he⟩;rw[uJ] at hl;exact hN _ ⟨ex,⟨_,_,_,_,_,_,_,_,_⟩,rfl,by lia,he⟩
  rintro _ ⟨ex,x,rfl,hl,he⟩;refine⟨tk (by decide),λe e0 e8=>?_⟩;refine yg (b:=decide (e=0)) (λc=>?_) (λc=>?_)
  .obtain⟨ini,l,el,hx⟩:=hB.last he;have la:atT ((four++ex).map xg) (-1)=some (xg l):=by rw[el,wD];exact rz _ _
   show wy (atT ((four++ex).map xg) (-1)) _;rw[la];show wy (atT ((four++ex).map xg) (-1)) _;rw[la];show wy (atT ((four++ex).map xg) (-1)) _;rw[la];have e:(four++ex).map xg++[Tr.tup [.int (0-l.1),.int (0-l.2.1),.int (0-l.2.2)]]=(four++(ex++[(0-l.1,0-l.2.1,0-l.2.2)])).map xg:=by rw[<-qz,I_];rfl
   refine⟨by rw[xP,ze];exact wc (by lia),?_⟩;show N [.st,.fz (.int w),.ow ((four++ex).map xg++[Tr.tup [.int (0-l.1),.int (0-l.2.1),.int (0-l.2.2)]]),_,_,_,_,_,_,_,_,_];rw[e];refine hN _ ⟨_,⟨_,_,_,_,_,_,_,_,_⟩,rfl,λ_=>hB.lf (λr hr=>?_) (by simp;lia)⟩;rcases yz.mp hr with h|h
   .exact he r h
   .rw[zF.mp h];exact hx
  .exact hN _ ⟨_,⟨_,_,_,_,_,_,_,_,_⟩,rfl,λ_=>hB.lf he (by lia)⟩
 rintro _ ⟨xa,x,rfl,h4⟩;refine yP (λτ=>∃(xa:List Pol.R3) (x:TV9),τ=[.st,.fz (.int w),.ow (xa.map xg),x.1,x.2.1,x.2.2.1,x.2.2.2.1,x.2.2.2.2.1,x.2.2.2.2.2.1,x.2.2.2.2.2.2.1,x.2.2.2.2.2.2.2.1,x.2.2.2.2.2.2.2.2]/\(w<5->LF0 xa)) ?_ ?_
 rotate_left
 .intro N hN;refine yg (b:=decide (w=4)) (λc=>?_) (λc=>hN _ ⟨_,⟨_,_,_,_,_,_,_,_,_⟩,rfl,λz=>h4 (by have:=zZ c;lia)⟩);refine⟨tk (by decide),λr a1 a2=>⟨jc (by lia) (by lia),jc (by lia) (by lia),jc (by lia) (by lia),?_⟩⟩;exact hN _ ⟨[(-1,0,0),(1,-2*(1+r),0),(1,2*(1+r),2*(1+r))],⟨x.1,x.2.1,x.2.2.1,x.2.2.2.1,x.2.2.2.2.1,.fz (.int (1+r)),x.2.2.2.2.2.2.1,x.2.2.2.2.2.2.2.1,x.2.2.2.2.2.2.2.2⟩,rfl,λ_=>Td (by lia) (by lia)⟩
 rintro _ ⟨xa,x,rfl,h5⟩;refine yP (λτ=>∃(xa:List Pol.R3) (x:TV9),τ=[.st,.fz (.int w),.ow (xa.map xg),x.1,x.2.1,x.2.2.1,x.2.2.2.1,x.2.2.2.2.1,x.2.2.2.2.2.1,x.2.2.2.2.2.2.1,x.2.2.2.2.2.2.2.1,x.2.2.2.2.2.2.2.2]/\LF0 xa) ?_ ?_
 rotate_left
 .intro N hN;refine yg (b:=decide (w=5)) (λc=>?_) (λc=>hN _ ⟨_,⟨_,_,_,_,_,_,_,_,_⟩,rfl,h5 (by have:=zZ c;lia)⟩);refine⟨tk (by decide),λe e0 e2=>?_⟩;obtain rfl|rfl:e=0\/e=1:=by lia
  .refine⟨wc (show(3:Nat)<=1000000 by decide),Ee (f:=dT) (l:=[(-2,1),(1,-3),(2,3)]) Drawn (λd _ N2 h2=>?_) (λys hy=>?_)⟩
   .exact⟨rfl,tk (by decide),λc c0 c8=>h2 _ ⟨c,⟨c0,c8⟩,rfl⟩⟩
   .obtain⟨d1,d2,d3,g,rfl⟩:=E1 hy;exact hN _ ⟨[(-2,1,d1),(1,-3,d2),(2,3,d3)],⟨x.1,x.2.1,x.2.2.1,x.2.2.2.1,x.2.2.2.2.1,x.2.2.2.2.2.1,.fz (.lst (([(-2,1),(1,-3),(2,3)]:List (Int×Int)).map dT)),x.2.2.2.2.2.2.2.1,x.2.2.2.2.2.2.2.2⟩,rfl,Tt g.1 g.2.1 g.2.2⟩
  .refine⟨wc (show(3:Nat)<=1000000 by decide),Ee (f:=dT) (l:=[(-3,-2),(3,-1),(1,4)]) Drawn (λd _ N2 h2=>?_) (λys hy=>?_)⟩
   .exact⟨rfl,tk (by decide),λc c0 c8=>h2 _ ⟨c,⟨c0,c8⟩,rfl⟩⟩
   .obtain⟨d1,d2,d3,g,rfl⟩:=E1 hy;exact hN _ ⟨[(-3,-2,d1),(3,-1,d2),(1,4,d3)],⟨x.1,x.2.1,x.2.2.1,x.2.2.2.1,x.2.2.2.2.1,x.2.2.2.2.2.1,.fz (.lst (([(-3,-2),(3,-1),(1,4)]:List (Int×Int)).map dT)),x.2.2.2.2.2.2.2.1,x.2.2.2.2.2.2.2.2⟩,rfl,Tu g.1 g.2.1 g.2.2⟩
 rintro _ ⟨xa,x,rfl,hF⟩;have l3:=hF.l3;have l8:=hF.l8;refine⟨tk (by decide),λu u0 u7=>⟨tk (by decide),λv v0 v7=>⟨rfl,?_⟩⟩⟩;refine⟨by rw[xP];exact wc (by lia),Ef (f:=xg) (λr=>xg (jO (u-3) (v-3) r)) (λr hr N hN=>?_) ?_⟩
 .have:=hF.sm r hr;exact⟨rfl,jc (by lia) (by lia),jc (by lia) (by lia),hN⟩
 have hM:=hF.moved (u:=u-3) (v:=v-3) (by lia) (by lia);have em:xa.map (λr=>xg (jO (u-3) (v-3) r))=(xa.map (jO (u-3) (v-3))).map xg:=by rw[vi];rfl
 rw[em];generalize xa.map (jO (u-3) (v-3))=mv at hM;have m3:=hM.l3;have m8:=hM.l8;refine⟨tk (by rw[xP];lia),λt t0 t1=>?_⟩;obtain⟨n,rfl⟩:∃n:Nat,t=(n:Int):=⟨t.toNat,by lia⟩
 show(wK (mv.map xg) (some (n:Int)) none).length+(wK (mv.map xg) none (some (n:Int))).length<=sizeLine/\KK (.tup (wK (mv.map xg) (some (n:Int)) none++wK (mv.map xg) none (some (n:Int))));rw[nB,nE];refine⟨t7 (by simp;lia),?_⟩;have:=k _ (hM.rot n);rw[wD,pH,B7] at this;exact this
def N0 (B:ya mg bn)(D:DF K mg "_law_divisor" eV f fd ["_law_one", "_law_other"])  :
  pV P w K mg base:=by
 refine yk D IH (λhr=>(xA (bP zG (yG (ua hr.units) (pv 1) xl (yj _)) (xy (qU (i:=0) (j:=1) rfl IH.nd rfl rfl (by decide) rfl rfl (xi (pv 1) (xq bK (pv 0) (pv 1))) (by rfl))))
  (xy (xR (yO ja rfl (B.get "abs") k_ (xN (pv 0)))))))
  (xB (bI (yH (xk ub xc xo)) (qQ (xn xc (xk bL xc xc)))) (xY (zz jb (xM xc)))) λts KK hl h=>?_
 obtain⟨a,c,rfl,k⟩:=h;refine cU (λn τ=>∃x y:Int,τ=[.fz (.int x),.fz (.int y)]/\n=y.natAbs/\Fra.gd x y=Fra.gd a c) c.natAbs ⟨_,_,rfl,rfl,rfl⟩ ?_;rintro n τ N ⟨x,y,rfl,rfl,hg⟩ hN;refine yg (b:=!decide (y=0)) (λc0=>?_) (λc0=>?_)
 .have c0:y≠0:=by simpa using c0
  exact⟨c0,hN (x.fmod y).natAbs _ (Fra.Mi c0) ⟨_,_,rfl,rfl,by rw[Fra.Mv];exact hg⟩⟩
 .have c0:y=0:=by simpa using c0
  subst c0;rw[Fra.Mx] at hg;have k:KK (.int (Fra.gd a c)):=k;rw[<-hg] at k;exact k
def Oa (B:ya mg bn)(D:DF K mg "_law_low" eZ f fd ["_law_top", "_law_bottom"])(sM:pV P w K mg base) :
  h_ P w K mg base:=by
 refine yk D Ba (λhr=>(xA (yy 2 Ba.nd (xr sM hr (xi (pv 0) (pv 1)))) (xA (yR (yG (qR K hr.units) (pv 1) xl (yj _)) (xy (yy 2 Ba.nd (xq zS xl (pv 2)))) yT) (xy (xR (yB (xi (xq uZ (pv 0) (pv 2)) (xq uZ (pv 1) (pv 2)))))))))
  (xB (yE (xE (xn xc xc))) (xB (yY (yH (xk qS xc xo)) (yE (xk zW xo xc)) y7) (xY (yA (b:=true) (xn (xk u4 xc xc) (xk u4 xc xc)))))) λts KK hl h=>?_
 obtain⟨t,b,rfl,hb,bd,k⟩:=h;refine⟨t,b,rfl,?_⟩;have gp:=Fra.vX (a:=t) (b:=b) (.inr hb);have gb:Bd (Fra.gd t b):=ot hb bd;refine yg (b:=decide (b<0)) (λc=>?_) (λc=>?_)
 .have c:=yU c;rw[GC c] at k;have gn:Bd (0-Fra.gd t b):=by unfold Bd at *;lia
  have e1:∀x:Int,x.fdiv (0-Fra.gd t b)=(-x)/Fra.gd t b:=λx=>by have h:=Int.neg_fdiv_neg (-x) (Fra.gd t b);rw[Int.neg_neg] at h;rw[show 0-Fra.gd t b = -(Fra.gd t b) by lia,h,vV (by lia)]
  have e2:Fra.low (-t) (-b)=((-t)/Fra.gd t b,(-b)/Fra.gd t b):=by unfold Fra.low;rw[show Fra.gd (-t) (-b)=Fra.gd t b by unfold Fra.gd;simp]
  rw[e2,<-e1,<-e1] at k;exact⟨⟨by show(0-Fra.gd t b)≠0;lia,gn⟩,⟨by show(0-Fra.gd t b)≠0;lia,gn⟩,k⟩
 .have c:=zZ c;rw[qP (by lia)] at k;refine⟨⟨by show Fra.gd t b≠0;lia,gb⟩,⟨by show Fra.gd t b≠0;lia,gb⟩,?_⟩;show KK (.tup [.int (t.fdiv (Fra.gd t b)),.int (b.fdiv (Fra.gd t b))]);rw[vV (by lia),vV (by lia)];exact k
def NY (B:ya mg bn)(D:DF K mg "_law_crossing" eT f fd ["_law_one", "_law_other"])(w5:h_ P w K mg base) :
  CN P w K mg base:=by
 refine yk D A_ (λhr=>(xA (yy 2 A_.nd (xq zS (xq yq (xC K 0) (xC K 1)) (xq yq (xC K 0) (xC K 1)))) (xA (yR (yG (uy hr.units) (pv 2) xl (yj _)) (xy (xR gJ)) yT) (xA (yy 3 A_.nd (xr w5 hr (xi (xq zS (xq yq (xC K 0) (xC K 1)) (xq yq (xC K 0) (xC K 1))) (pv 2)))) (xy (xR (yB (xi (pv 3) (xr w5 hr (xi (xq zS (xq yq (xC K 0) (xC K 1)) (xq yq (xC K 0) (xC K 1))) (pv 2)))))))))))
  (xB (yE (xk zW (xk yu xD xD) (xk yu xD xD))) (xB (yY (yH (xk os_eq xc xo)) (xY (kK (t:=Tr.non))) y7) (xB (yE (xE (xn (xk zW (xk yu xD xD) (xk yu xD xD)) xc))) (xY (yA (b:=true) (xn xc (xE (xn (xk zW (xk yu xD xD) (xk yu xD xD)) xc)))))))) λts KK hl h=>?_
 obtain⟨s,t,rfl,hs,ht,k⟩:=h;refine⟨⟨hs.1.1.bd,ht.1.2.bd⟩,⟨hs.1.2.bd,ht.1.1.bd⟩,?_⟩;refine yg (b:=decide (Pol.turn s t=0)) (λc=>?_) (λc=>?_)
 .rw[ED (yU c)] at k;exact k
 .have c:=zZ c;have bt:Bd (Pol.turn s t):=((hs.1.1.mul ht.1.2).sub (hs.1.2.mul ht.1.1)).bd;rw[EE c,Lq c] at k;exact⟨⟨hs.2.bd,ht.1.2.bd⟩,⟨hs.1.2.bd,ht.2.bd⟩,_,_,rfl,c,bt,⟨hs.1.1.bd,ht.2.bd⟩,⟨hs.2.bd,ht.1.1.bd⟩,_,_,rfl,c,bt,k⟩
def Oo (B:ya mg bn)(D:DF K mg "_law_value" Ak f fd ["_law_row", "_law_place_here"])(w5:h_ P w K mg base) :
  pZ P w K mg base:=by
 refine yk D Bc (λhr=>(xA (wX (pv 1) (zM K (n:=2) rfl (ye (yi 2 Bc.nd) (ye (yi 3 Bc.nd) zD)))) (xy (xR (xr w5 hr (xi (xq ux (xq yq (xq yq (xC K 0) (xC K 2)) (xC K 3)) (xq yq (xq yq (xC K 0) (xC K 3)) (xC K 2))) (xq yq (xC K 2) (xC K 3))))))))
  (xB (uu xc (zR (yh xK (yh xK zK))).g) (xY (xE (xn (xk vo (xk yu (xk yu xD xD) xD) (xk yu (xk yu xD xD) xD)) (xk yu xD xD))))) λts KK hl h=>?_
 obtain⟨a,c,x,p,rfl,ha,hc,hx,hy,k⟩:=h;exact⟨rfl,⟨ha.bd,hx.top.bd⟩,⟨(ha.mul hx.top).bd,hy.bot.bd⟩,⟨hc.bd,hy.top.bd⟩,⟨(hc.mul hy.top).bd,hx.bot.bd⟩,⟨hx.bot.bd,hy.bot.bd⟩,_,_,rfl,by have:=Pol.pp hx.pos hy.pos;lia,(hx.bot.mul hy.bot).bd,k⟩
def N9 (B:ya mg bn)(D:DF K mg "_law_keeps" eX f fd ["_law_row", "_law_place_here"])(fO:pZ P w K mg base) :
  mY P w K mg base:=by
 refine yk D II (λhr=>(xA (yy 2 II.nd (xr fO hr (xi (pv 0) (pv 1)))) (xy (xR (uO jn (xC K 2) (xq yq (xC K 0) (xC K 2)) (yj _))))))
  (xB (yE (xE (xn xc xc))) (xY (xk jo xD (xk yu xD xD)))) λts KK hl h=>?_
 obtain⟨r,p,rfl,hr,hx,hy,k⟩:=h;exact⟨r.1,r.2.1,[.int r.2.2],p,rfl,hr.1.1,hr.1.2,hx,hy,⟨hr.2.bd,(show Bd (zc r p).2 from Mo hx hy hr)⟩,k⟩
def N_ (B:ya mg bn)(D:DF K mg "_law_less" eY f fd ["_law_one", "_law_other"])  :
  CT P w K mg base:=by
 refine yk D Sb (λhr=>(xy (xR (uO (qR K hr.units) (xq yq (xC K 0) (xC K 1)) (xq yq (xC K 1) (xC K 0)) (yj _)))))
  (xY (xk qS (xk yu xD xD) (xk yu xD xD))) λts KK hl h=>?_
 obtain⟨f,g,rfl,hf,hg,k⟩:=h;exact⟨⟨hf.top.bd,hg.bot.bd⟩,⟨hg.top.bd,hf.bot.bd⟩,k⟩
def Oc (B:ya mg bn)(D:DF K mg "_law_minus" Aa f fd ["_law_one", "_law_other"])(w5:h_ P w K mg base) :
  pW P w K mg base:=by
 refine yk D Se (λhr=>(xy (xR (xr w5 hr (xi (xq zS (xq yq (xC K 0) (xC K 1)) (xq yq (xC K 1) (xC K 0))) (xq yq (xC K 0) (xC K 1)))))))
  (xY (xE (xn (xk zW (xk yu xD xD) (xk yu xD xD)) (xk yu xD xD)))) λts KK hl h=>?_
 obtain⟨f,g,rfl,hf,hg,k⟩:=h;exact⟨⟨hf.top.bd,hg.bot.bd⟩,⟨hg.top.bd,hf.bot.bd⟩,⟨hf.bot.bd,hg.bot.bd⟩,_,_,rfl,by have:=Pol.pp hf.pos hg.pos;lia,(hf.bot.mul hg.bot).bd,k⟩
def Om (B:ya mg bn)(D:DF K mg "_law_times" Aj f fd ["_law_one", "_law_other"])(w5:h_ P w K mg base) :
  rp P w K mg base:=by
 refine yk D Sh (λhr=>(xy (xR (xr w5 hr (xi (xq yq (xC K 0) (xC K 1)) (xq yq (xC K 0) (xC K 1)))))))
  (xY (xE (xn (xk yu xD xD) (xk yu xD xD)))) λts KK hl h=>?_
 obtain⟨f,g,rfl,hf,hg,k⟩:=h;exact⟨⟨hf.top.bd,hg.top.bd⟩,⟨hf.bot.bd,hg.bot.bd⟩,_,_,rfl,by have:=Pol.pp hf.pos hg.pos;lia,(hf.bot.mul hg.bot).bd,k⟩
def NX (B:ya mg bn)(D:DF K mg "_law_cross" eS f fd ["_law_one", "_law_other", "_law_third"])(v5:rp P w K mg base)(vZ:pW P w K mg base) :
  CL P w K mg base:=by
 refine yk D IG (λhr=>(xA (yy 3 IG.nd (xr v5 hr (xi (xr vZ hr (xi (xC K 1) (xC K 0))) (xr vZ hr (xi (xC K 2) (xC K 0)))))) (xy (xR (zd (zO K) (xr vZ hr (xi (pv 3) (xr v5 hr (xi (xr vZ hr (xi (xC K 1) (xC K 0))) (xr vZ hr (xi (xC K 2) (xC K 0))))))) xl (λ_ _=>rfl))))))
  (xB (yE (xE (xn (xE (xn xD xD)) (xE (xn xD xD))))) (xY (wH (xE (xn xc (xE (xn (xE (xn xD xD)) (xE (xn xD xD)))))) xo))) λts KK hl h=>?_
 obtain⟨p,q,w,rfl,hp,hq,hw,k⟩:=h;have m:∀ {f g:F2},Fk 200 f->Fk 200 g->Fk 401 (fmin f g):=λh1 h2=>h1.min h2;have t:∀ {f g:F2},Fk 401 f->Fk 401 g->Fk 900 (wL f g):=λh1 h2=>(h1.tim h2).mono (by decide);have u:∀ {k:Nat} {f:F2},Fk k f->k<=900->Fk 900 f:=λh hk=>h.mono hk;exact⟨q.1,p.1,rfl,u hq.1 (by decide),u hp.1 (by decide),w.2,p.2,rfl,u hw.2 (by decide),u hp.2 (by decide),_,_,rfl,u (m hq.1 hp.1) (by decide),u (m hw.2 hp.2) (by decide),
  q.2,p.2,rfl,u hq.2 (by decide),u hp.2 (by decide),w.1,p.1,rfl,u hw.1 (by decide),u hp.1 (by decide),_,_,rfl,u (m hq.2 hp.2) (by decide),u (m hw.1 hp.1) (by decide),
  _,_,rfl,t (m hq.1 hp.1) (m hw.2 hp.2),t (m hq.2 hp.2) (m hw.1 hp.1),k⟩
def Og (B:ya mg bn)(D:DF K mg "_law_ring" ak f fd ["_law_places"])(bj:CT P w K mg base)(lJ:CG P w K mg base) :
  pX P w K mg base:=by
 refine Hh D.1 j2 D.2 D.3 rfl (λ_ _ _ _ _ _ hr=>⟨_,_,(xA (kT (i:=1) j2.nd rfl (Or.inr rfl) (wA u5)) (xA (zX zG rfl (zB K (pv 0)) (zi (i:=2) j2.nd rfl (Or.inr rfl)) (xA (ah (i:=3) j2.nd rfl (Or.inl rfl) (ui (N:=["_law_one", "_law_place_here"]) (xQ:=[none,some 2]) (XN:=["_law_places", "_law_some", "_law_place_here", "_law_ahead", "_law_found", "_law_k", "_law_here"]) (xs:=xH ak) (by decide +kernel) rfl rfl) rfl (vW rfl) (zB K (pv 1)) (λ_ _ _ _=>(zi (i:=0) (show(["_law_one", "_law_place_here"]:List Str).Nodup by decide +kernel) rfl (Or.inl rfl))) (λ_ _ _ _=>(kS (wm (xr bj hr (xi (xC K 0) (xC K 1)))))) (λ_ _ _ _=>(pv 0)))
  (xA (yy 3 j2.nd (xq fQ (pv 3) (vE (ui (N:=["_law_one", "_law_place_here"]) (xQ:=[none,some 2]) (XN:=["_law_places", "_law_some", "_law_place_here", "_law_ahead", "_law_found", "_law_k", "_law_here"]) (xs:=xH ak) (by decide +kernel) rfl rfl) rfl (vW rfl) (zB K (pv 1)) (λ_ _ _ _=>(zi (i:=0) (show(["_law_one", "_law_place_here"]:List Str).Nodup by decide +kernel) rfl (Or.inl rfl))) (λ_ _ _ _=>(kS (PW.pt (jq (yG (uy hr.units) (xC K 0) (xC K 1) (yj _)) (jZ (wm (xr bj hr (xi (xC K 0) (xC K 1))))))))) (λ_ _ _ _=>(pv 0)))))
  (xy (yR (yG (iZ hr.units) (pv 2) (pv 1) (by with_unfolding_all rfl)) (xy (vf (vO qD PySem.F.slot_list_insert PySem.F.type_list_insert NC (pv 1) (xi (yO (uh K) rfl (B.get "len") ug (xN (pv 3))) (pv 2))))) yT)))))
  (xA (yR (yG (qR K hr.units) (yO (uh K) rfl (B.get "len") ug (xN (pv 1))) xl (yj _)) (xy (xR (pv 1))) yT) (xA (kT (i:=4) j2.nd rfl (Or.inr rfl) (gK (cN K) (pv 1) gL (gM xl))) (xA (zX zG rfl (kQ rfl (B.get "range") (xN (xq zS (yO (uh K) rfl (B.get "len") ug (xN (pv 1))) xl))) (yi 5 j2.nd) (xA (kT (i:=6) j2.nd rfl (Or.inr rfl) (zd (zO K) (pv 4) (wO wQ xl) (λ_ _=>rfl))) (xy (kT (i:=4) j2.nd rfl (Or.inr rfl) (xq (sY K) (pv 4) (gK (cN K) (vE (ui (N:=["_law_place_here", "_law_found", "_law_here", "_law_some"]) (xQ:=[none,some 4,some 6,some 1]) (XN:=["_law_places", "_law_some", "_law_place_here", "_law_ahead", "_law_found", "_law_k", "_law_here"]) (xs:=xH ak) (by decide +kernel) rfl rfl) rfl (vW rfl) (zB K (pv 1)) (λ_ _ _ _=>(zi (i:=0) (show(["_law_place_here", "_law_found", "_law_here", "_law_some"]:List Str).Nodup by decide +kernel) rfl (Or.inl rfl))) (λ_ _ _ _=>(kS (PW.pt (jq (yG (iZ hr.units) (pv 0) (pv 1) (by with_unfolding_all rfl)) (jZ (wm (xr lJ hr (yS (pv 2) (xi (pv 0) (pv 3)))))))))) (λ_ _ _ _=>(pv 0))) gL (gM xl)))))))
  (xy (xR (pv 4)))))))),
  (xB (vD (kM vn)) (xB (zV (zQ xc) xK.g (xB (yE (zw.e (ur iW xK (zA (xE (xn xD xD))) xc))) (xB (yE (zw.e (sX xc (zw.e (ur iW xK (jm (yH (xk os_eq xD xD)) (zA (xE (xn xD xD)))) xc))))) (yY (yH (xk i6 xc sW)) (Px (zz uK (xM xc)) xc) y7)))) (xB (yY (yH (xk qS (zz uK (xM sW)) xo)) tF y7) (xB (G7 (i:=1) (yE (bF xc gE (gF xo)))) (xB (zV (kN (xM (xk zW (zz uK (xM xc)) xo))) xK.g (xB (yE (wH xc (wM xo))) (yE (sU xc (bF (zw.e (ur (zQ xc).c xK (jm (yH (xk i6 xc xc)) (zA (xE (zo xc (xn xc xc))))) xc)) gE (gF xo)))))) (xY xc)))))),λts KK hl h=>?_⟩)
 obtain⟨ps,l,rfl,hm,hl',hr,k⟩:=h;have inl:∀ {i v},v∈ps.take i->v∈l:=λhv=>(hm _).mp (fb hv);have pk:∀ {v},v∈l->Pk 190 (xt v):=λ {v} hv=>tM (hr.pos v hv) (hr.sm v hv);refine vc (all:=ps.map xF) (λi τ=>∃(ss:List Pol.R3) (x2 x3 x4 x5 x6:TV),τ=[.fz (.lst (ps.map xF)),.ow (ss.map xF),x2,x3,x4,x5,x6]/\fq ss (ps.take i)/\ss.length<=i)
  ⟨[],_,_,_,_,_,rfl,⟨List.nodup_nil,λv=>by simp,λh t e=>by cases e⟩,ym _⟩ ?_ ?_
 .rintro i x τ N hx ⟨ss,x2,x3,x4,x5,x6,rfl,hs,hlen⟩ hN;obtain⟨p,hp,rfl⟩:=uY hx;have hpl:=(hm p).mp (zq hp);have hi:=(y8.mp hp).1;have tk:ps.take (i+1)=ps.take i++[p]:=by rw[vI,hp];rfl
  have sl:∀v∈ss,v∈l:=λv hv=>inl ((hs.mem v).mp hv);have sp:∀v∈ss,0<v.2.2:=λv hv=>hr.pos v (sl v hv);have z:∀n,n<=15000000->n<sizeLine:=λn hn=>sqy (by lia);have fk1:∀ {v},v∈l->Fk 1000 (xt v).1:=λhv=>(pk hv).1.mono (by decide);have fk2:∀ {v},v∈l->Fk 1000 (xt v).2:=λhv=>(pk hv).2.mono (by decide);refine⟨by rw[xP];exact z _ (by lia),qJ (f:=xF) (λv=>uk (xt v).1 (xt p).1) xF (λv hv N M h1 h0=>?_) ?_⟩
  .exact⟨(xt v).1,(xt p).1,rfl,fk1 (sl v hv),fk1 hpl,yg h1 h0⟩
  refine⟨by rw[xP];exact z _ (by lia),qJ (f:=xF) (λv=>decide ((xt v).1=(xt p).1)&&uk (xt v).2 (xt p).2) xF (λv hv N M h1 h0=>?_) ?_⟩
  .refine⟨⟨rfl,rfl,by show min 1 1<=64;decide⟩,?_⟩;refine yg (b:=zE (fT (xt v).1) (fT (xt p).1)) (λc=>?_) (λc=>?_)
   .rw[aA] at c;refine⟨(xt v).2,(xt p).2,rfl,fk2 (sl v hv),fk2 hpl,?_⟩;exact yg (λd=>h1 (by rw[c,d];rfl)) (λd=>h0 (by rw[c,d];rfl))
   .rw[aA] at c;exact vY (h0 (by rw[c];rfl))
  have f1:=B2 (λv=>uk (xt v).1 (xt p).1) ss;have f2:=B2 (λv=>decide ((xt v).1=(xt p).1)&&uk (xt v).2 (xt p).2) ss;refine⟨t6 (by rw[xP,xP];have:=DW (ss:=ss) (p:=p);unfold wU at this;lia),?_⟩;refine⟨⟨rfl,oy ss,by show(2:Nat)<=60;decide⟩,?_⟩;refine yg (b:=!((ss.map xF).any λu=>zE u (xF p))) (λc=>?_) (λc=>?_)
  .rw[DX hr.pos hr.prim sl hpl] at c;have c:p∉ss:=by simpa using c
   refine⟨wU ss p,?_,?_,?_,?_⟩
   .unfold wU;rw[ze,xP,xP]
   .rw[xP];exact DW
   .rw[xP];exact z _ (by lia)
   .have hh:=hs.ins sp (hr.pos p hpl) c;rw[<-tk] at hh;have e:(ss.map xF).take (wU ss p)++[xF p]++(ss.map xF).drop (wU ss p)=(ss.take (wU ss p)++[p]++ss.drop (wU ss p)).map xF:=by rw[wD,wD,B7,pH];rfl
    rw[e];refine hN _ ⟨_,_,_,_,_,_,rfl,hh,?_⟩;rw[ze,ze,uQ,v_,g_];lia
  .rw[DX hr.pos hr.prim sl hpl] at c;have c:p∈ss:=by simpa using c
   have hh:=hs.stay c;rw[<-tk] at hh;exact hN _ ⟨ss,_,_,_,_,_,rfl,hh,by lia⟩
 .rintro τ ⟨ss,x2,x3,x4,x5,x6,rfl,hs,hlen⟩;rw[xP,uS (ym _)] at hs;have hml:∀v,v∈ss↔v∈l:=λv=>(hs.mem v).trans (hm v);have eqlen:=Gw hs.nd hr.ccw.nd hml;refine yg (b:=decide (((ss.map xF).length:Int)<3)) (λc=>?_) (λc=>?_)
  .have c:=yU c;rw[xP] at c;rw[<-RI hr hs.nd hml hs.least (by lia)] at k;exact k
  .have c:=zZ c;rw[xP] at c;have hh:=FT hr hml hs.least;have tk1:(ss.map xF).take 1=(l.take 1).map xF:=by
    rw[<-B7];congr 1;cases ss with
    |nil=>simp at c
    |cons a t=>
     cases l with
     |nil=>simp at eqlen
     |cons b u=>simp at hh;rw[hh];rfl
   have z:∀n,n<=15000000->n<sizeLine:=λn hn=>sqy (by lia);have hln:=hr.len;have sl:∀v∈ss,v∈l:=λv hv=>(hml v).mp hv;have pk2:∀ {v},v∈l->Pk 200 (xt v):=λhv=>⟨(pk hv).1.mono (by decide),(pk hv).2.mono (by decide)⟩
   have rn:(((ss.map xF).length:Int)-1).toNat=l.length-1:=by rw[xP];lia
   have main:kH (eName 5) (gR (bX 6 (d2 fIx (wG 4) (d1 Fe (dC (Tr.int 1))))) (bX 4 (d2 rN (wG 4) (dSl (EM [none,some 4,some 6,some 1] (FW (wG 1)) (eName 0) (EK (nH (d2 (fIn true) (wG 0) (wG 1))) (nH (nF Hm (qK (wG 2) (qK (wG 0) (qK (wG 3) kG)))))) (wG 0)) oK (oM (dC (Tr.int 1))))))) {nx:=bW (wG 4) {nx:=λx=>false=false/\KK Tr.non,rt:=KK},rt:=KK} (qu 0 (l.length-1))
         [.fz (.lst (ps.map xF)),.fz (.lst (ss.map xF)),x2,x3,.fz (.lst ((l.take 1).map xF)),x5,x6]:=by
    refine vc (λi τ=>∃(x5 x6:TV),τ=[.fz (.lst (ps.map xF)),.fz (.lst (ss.map xF)),x2,x3,.fz (.lst ((l.take (i+1)).map xF)),x5,x6]) ⟨_,_,rfl⟩ ?_ ?_
    .rintro i x τ N hx ⟨x5,x6,rfl⟩ hN;have hi:i<l.length-1:=by have:=(y8.mp hx).1;rw[uJ] at this;exact this
     have ha:l[i]?=some l[i]:=yC (by lia);have hb:l[i+1]?=some l[i+1]:=yC (by lia);generalize ea:l[i]=a at ha;generalize eb:l[i+1]=b at hb;have ham:=zq ha;have t1:l.take (i+1)=l.take i++[a]:=by rw[vI,ha];rfl
     have t2:l.take (i+1+1)=l.take (i+1)++[b]:=by rw[vI,hb];rfl
     have last:atT ((l.take (i+1)).map xF) (-1)=some (xF a):=by rw[t1,wD];exact rz _ _
     show wy (atT ((l.take (i+1)).map xF) (-1)) _;rw[last];refine⟨by rw[xP];exact z _ (by lia),?_⟩;refine qJ (f:=xF) (λv=>!decide (xt v∈(l.take (i+1)).map xt)&&(ss.map xt).all λw=>!decide (gy (xt a) (xt v) w<0)) xF (λv hv N M h1 h0=>?_) ?_
     .refine⟨⟨rfl,oy _,by show(2:Nat)<=60;decide⟩,?_⟩;refine yg (b:=!(((l.take (i+1)).map xF).any λu=>zE u (xF v))) (λd=>?_) (λd=>?_)
      .rw[aB,gW,oj] at d;refine⟨xt a,xt v,ss.map xt,by rw[<-aB];rfl,pk2 ham,pk2 (sl v hv),λw hw=>?_,by rw[xP];lia,?_⟩
       .obtain⟨y,hy,rfl⟩:=zT.mp hw;exact pk2 (sl y hy)
       .exact yg (λe=>h1 (by rw[d,e];rfl)) (λe=>h0 (by rw[d,e];rfl))
      .rw[aB,gW,oj] at d;exact vY (h0 (by rw[d];rfl))
     .rw[RH hr hs.nd hml ha hb];have e1:wK (List.map xF [b]) none (some 1)=[xF b]:=nE _ 1;dsimp only[oK,oM,dC];rw[e1];rw[t2] at hN;refine⟨t6 (by simp;lia),hN _ ⟨.fz x,.fz (xF a),?_⟩⟩;rw[wD];rfl
    .rintro τ ⟨x5,x6,rfl⟩;rw[uJ,show l.length-1+1=l.length by lia,uS (ym _)];exact k
   refine⟨⟨by have:=hr.len;simp;lia,by have:=hr.len;simp;lia⟩,?_⟩;rw[rn];have e1:wK (ss.map xF) none (some 1)=(l.take 1).map xF:=(nE _ 1).trans tk1;rw[<-e1] at main;exact main
def NS (B:ya mg bn)(D:DF K mg "_law_all_left" bY f fd ["_law_here", "_law_place_here", "_law_some"])(lM:CL P w K mg base) :
  CG P w K mg base:=by
 refine yk D R8 (λhr=>(xy (xR (uO (uy hr.units) (vE (ui (N:=["_law_one", "_law_here", "_law_place_here"]) (xQ:=[none,some 0,some 1]) (XN:=["_law_here", "_law_place_here", "_law_some"]) (xs:=xH bY) (by decide +kernel) rfl rfl) rfl (vW rfl) (zB K (pv 2)) (λ_ _ _ _=>(zi (i:=0) (show(["_law_one", "_law_here", "_law_place_here"]:List Str).Nodup by decide +kernel) rfl (Or.inl rfl))) (λ_ _ _ _=>(kS (yG (qR K hr.units) (xr lM hr (yS (pv 1) (xi (pv 2) (pv 0)))) xl (yj _)))) (λ_ _ _ _=>(pv 0))) (wA u5) (yj _)))))
  (xY (xk os_eq (zw.e (ur (zQ xc).c xK (yH (xk qS (xE (zo xc (xn xc xc))) xo)) xc)) (v8 (b:=true) vn))) λts KK hl h=>?_
 obtain⟨p,q,ws,rfl,hp,hq,hw,hl',k⟩:=h;refine⟨by rw[xP];exact sqy (by lia),qJ (λw=>decide (gy p q w<0)) pT (λw hwm N M h1 h0=>?_) ?_⟩
 .refine⟨p,q,w,rfl,hp,hq,hw w hwm,?_⟩;exact yg (b:=decide (gy p q w<0)) h1 h0
 .refine se (Lf _) ?_;rw[pG,filter_empty];exact k
def NW (B:ya mg bn)(D:DF K mg "_law_corners" b7 f fd ["_law_rows"])(sN:pX P w K mg base)(lN:CN P w K mg base)(jj:mY P w K mg base) :
  pU P w K mg base:=by
 refine yk D tU (λhr=>(xA (yy 1 tU.nd (wA u5)) (xA (zX zG rfl (kQ rfl (B.get "range") (xN (yO (uh K) rfl (B.get "len") ug (xN (pv 0))))) (yi 2 tU.nd) (xy (zX zG rfl (zB K (gK (cN K) (pv 0) (gM (xq ux (pv 2) xl)) gL)) (yi 3 tU.nd) (xA (kT (i:=4) tU.nd rfl (Or.inr rfl) (xr lN hr (xi (zd (zO K) (pv 0) (pv 2) (λ_ _=>rfl)) (pv 3)))) (xy (yR (PW.pt (jq (gN (eh (pv 4))) (jZ (yG (uy hr.units) (vE (ui (N:=["_law_row", "_law_place_here"]) (xQ:=[none,some 4]) (XN:=["_law_rows", "_law_found", "_law_at", "_law_other", "_law_place_here"]) (xs:=xH b7) (by decide +kernel) rfl rfl) rfl (vW rfl) (zB K (pv 0)) (λ_ _ _ _=>(zi (i:=0) (show(["_law_row", "_law_place_here"]:List Str).Nodup by decide +kernel) rfl (Or.inl rfl))) (λ_ _ _ _=>(kS (uA (wm (xr jj hr (xi (pv 0) (pv 1))))))) (λ_ _ _ _=>(pv 0))) (wA u5) (yj _))))) (xy (vf (vO qD q9 q_ qo (pv 1) (xN (pv 4))))) yT))))))
  (xy (xR (xr sN hr (xN (pv 1))))))))
  (xB (vD (kM vn)) (xB (zV (kN (xM (zz uK (xM xc)))) xK.g (zV (zQ (bF xc (gF (xk vo xc xo)) gE)) xK.g (xB (yE (xE (xn (wH xc xc) xc))) (yY (jm (zA (iS xc)) (yH (xk os_eq (zw.e (ur (zQ xc).c xK (uw (zA (xE (xn xc xc)))) xc)) (v8 (b:=true) vn)))) (qq xc) y7)))) (xY (xE (xM sW))))) λts KK hl h=>?_
 obtain⟨xa,rfl,hr,k⟩:=h;have ring:=hr.ring;have rl:=hr.len;have r3:∀r∈xa,yL 10 r:=λr hm=>jI (hr.fine.fr r hm);have cl:(xS xa).length<=900:=ring.len
 let W:Nat->Nat->List Pol.R3->Prop:=λi j ps=>(∀v∈ps,v∈xS xa)/\ps.length<=i*8+j/\∀v∈xS xa,∀a b s t,a<b->xa[a]?=some s->xa[b]?=some t->val s v=0->val t v=0->Pol.turn s t≠0->(a<i\/a=i/\b<i+1+j)->v∈ps
 refine⟨⟨by rw[xP];lia,by rw[xP];lia⟩,?_⟩;rw[xP,jx];refine vc (λi τ=>∃(ps:List Pol.R3) (x2 x3 x4:TV),τ=[.fz (.tup (xa.map xg)),.ow (ps.map xF),x2,x3,x4]/\W i 0 ps) ⟨[],_,_,_,rfl,by simp,by simp,?_⟩ ?_ ?_
 .intro v hv a b s t hab ha hb e1 e2 hn hc;lia
 .rintro i x τ N hx ⟨ps,x2,x3,x4,rfl,hW⟩ hN;have hi:i<xa.length:=by have:=(y8.mp hx).1;rw[uJ] at this;exact this
  rw[j1 hi] at hx;cases hx;have es:xa[i]?=some xa[i]:=yC hi;generalize egen:xa[i]=s at es;have hs:=zq es;show kH _ _ _ (wK (xa.map xg) (some ((0:Int)+i+1)) none) _;rw[show(0:Int)+(i:Int)+1=((i+1:Nat):Int) by lia,nB,<-pH];refine vc (λj τ=>∃(ps:List Pol.R3) (x3 x4:TV),τ=[.fz (.tup (xa.map xg)),.ow (ps.map xF),.fz (.int ((0:Int)+i)),x3,x4]/\W i j ps) ⟨ps,_,_,rfl,hW⟩ ?_ ?_
  .rintro j y τ N2 hy ⟨ps,x3,x4,rfl,hW⟩ hN2;obtain⟨t,ht,rfl⟩:=uY hy;rw[Kb] at ht;have htm:=zq ht;have hj:=(y8.mp ht).1;have at0:atT (xa.map xg) ((0:Int)+i)=some (xg s):=by rw[show(0:Int)+(i:Int)=((i:Nat):Int) by lia,jF,ue,es];rfl
   show wy (atT (xa.map xg) ((0:Int)+i)) _;rw[at0];have step:∀qs:List Pol.R3,(∀v∈qs,v∈xS xa)->(∀v∈ps,v∈qs)->qs.length<=ps.length+1->(∀v∈xS xa,val s v=0->val t v=0->Pol.turn s t≠0->v∈qs)->W i (j+1) qs:=λqs h1 h2 h3 h4=>by
    refine⟨h1,by have:=hW.2.1;lia,λv hv a b s' t' hab ha hb e1 e2 hn hc=>?_⟩;by_cases q:a=i/\b=i+1+j
    .obtain⟨rfl,rfl⟩:=q;rw[es] at ha;rw[ht] at hb;cases ha;cases hb;exact h4 v hv e1 e2 hn
    .exact h2 v (hW.2.2 v hv a b s' t' hab ha hb e1 e2 hn (by lia))
   refine⟨s,t,rfl,(r3 s hs).mono (by decide),(r3 t htm).mono (by decide),?_⟩;by_cases hn:Pol.turn s t=0
   .rw[ED hn];exact hN2 _ ⟨ps,_,_,rfl,step ps hW.1 (λv h=>h) (by lia) (λv hv e1 e2 h=>absurd hn h)⟩
   .rw[EE hn];obtain⟨cz,c1,c2⟩:=fy hn;have cb:yL 21 (zI s t):=by
     have S:=r3 s hs;have T:=r3 t htm;have m:∀ {x y z w:Int},Bk 10 x->Bk 10 y->Bk 10 z->Bk 10 w->Bk 21 (x*y-z*w):=λh1 h2 h3 h4=>(h1.mul h2).sub (h3.mul h4);unfold zI Pol.turn;split
     .exact⟨⟨(m S.2 T.1.2 S.1.2 T.2).neg,(m S.1.1 T.2 S.2 T.1.1).neg⟩,(m S.1.1 T.1.2 S.1.2 T.1.1).neg⟩
     .exact⟨⟨m S.2 T.1.2 S.1.2 T.2,m S.1.1 T.2 S.2 T.1.1⟩,m S.1.1 T.1.2 S.1.2 T.1.1⟩
    have pk:=tM cz cb;refine⟨by rw[xP];exact wc (by lia),qJ (f:=xg) (λr=>!zN r (xt (zI s t))) xg (λr hm N M h1 h0=>?_) ?_⟩
    .refine⟨r,xt (zI s t),rfl,(r3 r hm).mono (by decide),pk.1.mono (by decide),pk.2.mono (by decide),?_⟩;exact yg (b:=!zN r (xt (zI s t))) h1 h0
    .dsimp only[fC,kG];refine se (fx xg af _) ?_;rw[pG,filter_empty];have ek:(xa.all λr=>!!zN r (xt (zI s t)))=true↔∀r∈xa,val r (zI s t)<=0:=by
      rw[j9];refine⟨λh r hm=>?_,λh r hm=>?_⟩
      .have:=h r hm;rw[BH,oZ r cz] at this;exact yU this
      .rw[BH,oZ r cz];exact wF (h r hm)
     refine yg (b:=xa.all λr=>!!zN r (xt (zI s t))) (λc=>?_) (λc=>?_)
     .have c:=ek.mp c;obtain⟨v,hv,e⟩:=hr.crossing hs htm hn c;refine⟨by rw[xP];exact wc (by have:=hW.2.1;lia),?_⟩;have e2:ps.map xF++[xF (zI s t)]=(ps++[v]).map xF:=by rw[e,wD];rfl
      show N2 _;rw[e2];refine hN2 _ ⟨ps++[v],_,_,rfl,step _ ?_ (λw hw=>zf _ hw) (by simp) (λw hw e1 e2 _=>?_)⟩
      .intro w hw;rcases yz.mp hw with q|q
       .exact hW.1 w q
       .rw[zF.mp q];exact hv
      .have e3:=(hr.tightPt hw hn e1 e2).1;have:w=v:=by have p1:=hr.corner hw;have p2:=hr.corner hv;refine BC p1.1.1 p2.1.1 p1.1.2.1 p2.1.2.1 ?_;have e4:xF w=xF v:=e3.symm.trans e;exact QV e4
       rw[this];simp
     .exact hN2 _ ⟨ps,_,_,rfl,step ps hW.1 (λv h=>h) (by lia) (λv hv e1 e2 _=>by have:=ek.mpr (hr.tightPt hv hn e1 e2).2;rw[c] at this;cases this)⟩
  .rintro τ ⟨ps,x3,x4,rfl,hW⟩;refine hN _ ⟨ps,_,_,_,rfl,hW.1,?_,λv hv a b s' t' hab ha hb e1 e2 hn hc=>?_⟩
   .have:=hW.2.1;rw[xP,v_] at this;lia
   .refine hW.2.2 v hv a b s' t' hab ha hb e1 e2 hn ?_;have:=(y8.mp hb).1;rw[xP,v_];lia
 .rintro τ ⟨ps,x2,x3,x4,rfl,hW⟩;rw[uJ] at hW;refine⟨ps,xS xa,rfl,λv=>⟨hW.1 v,λhv=>?_⟩,by have:=hW.2.1;lia,ring.up (by decide),k⟩;obtain⟨⟨_,_,hc⟩,_⟩:=hr.corner hv;obtain⟨s,hs,t,ht,e1,e2,hn⟩:=hc.two;obtain⟨a,ha,ea⟩:=dw.mp hs;obtain⟨b,hb,eb⟩:=dw.mp ht;have ha':xa[a]?=some s:=by rw[yC ha,ea]
  have hb':xa[b]?=some t:=by rw[yC hb,eb]
  rcases Nat.lt_trichotomy a b with q|q|q
  .exact hW.2.2 v hv a b s t q ha' hb' e1 e2 hn (.inl ha)
  .subst q;rw[ha'] at hb';cases hb';unfold Pol.turn at hn;grind
  .exact hW.2.2 v hv b a t s q hb' ha' e2 e1 (λz=>hn (by unfold Pol.turn at *;grind)) (.inl hb)
def Of (B:ya mg bn)(D:DF K mg "_law_plus" Ad f fd ["_law_one", "_law_other"])(w5:h_ P w K mg base) :
  mZ P w K mg base:=by
 refine yk D Sg (λhr=>(xy (xR (xr w5 hr (xi (xq ux (xq yq (xC K 0) (xC K 1)) (xq yq (xC K 1) (xC K 0))) (xq yq (xC K 0) (xC K 1)))))))
  (xY (xE (xn (xk vo (xk yu xD xD) (xk yu xD xD)) (xk yu xD xD)))) λts KK hl h=>?_
 obtain⟨f,g,rfl,hf,hg,k⟩:=h;exact⟨⟨hf.top.bd,hg.bot.bd⟩,⟨hg.top.bd,hf.bot.bd⟩,⟨hf.bot.bd,hg.bot.bd⟩,_,_,rfl,by have:=Pol.pp hf.pos hg.pos;lia,(hf.bot.mul hg.bot).bd,k⟩
def Oe (B:ya mg bn)(D:DF K mg "_law_place" Ac f fd ["_law_state_here"])(w5:h_ P w K mg base)(wj:pY P w K mg base) :
  CW P w K mg base:=by
 refine Hi D.1 IJ D.2 D.3 rfl (λ_ _ _ _ _ _ hr=>⟨_,_,(xA (yy 1 IJ.nd (xr w5 hr (xi (xq zS (xr wj hr (xi (pv 0) xl)) xl) (xq ux xl (xr wj hr (xi (pv 0) xl)))))) (xy (xR (yB (xi (pv 1) (xr w5 hr (xi (xq zS (xr wj hr (xi (pv 0) xl)) xl) (xq ux xl (xr wj hr (xi (pv 0) xl)))))))))),(xB (yE (xE (xn (xk zW (wN (xM xo)) xo) (xk vo xo (wN (xM xo)))))) (xY (yA (b:=true) (xn xc (xE (xn (xk zW (wN (xM xo)) xo) (xk vo xo (wN (xM xo))))))))),λts KK hl h=>?_⟩)
 obtain⟨rfl,k⟩:=h;refine⟨tk (by decide),λa a0 a1=>⟨tk (by decide),λd d0 d1=>⟨_,_,rfl,by lia,qd (by lia),⟨tk (by decide),λc c0 c1=>⟨tk (by decide),λe e0 e1=>⟨_,_,rfl,by lia,qd (by lia),?_⟩⟩⟩⟩⟩⟩;exact k _ ⟨_,_,_,_,rfl,by lia,by lia⟩
def Oj (B:ya mg bn)(D:DF K mg "_law_summed" Ag f fd ["_law_rows", "_law_weights"])(jk:mZ P w K mg base)(v5:rp P w K mg base) :
  C0 P w K mg base:=by
 refine yk D tV (λhr=>(xA (yy 2 tV.nd (wA (yS (yB (xi xl xl)) (xi (yB (xi xl xl)) (yB (xi xl xl)))))) (xA (zX zG rfl (bO K rfl (B.get "zip") (xi (pv 0) (pv 1))) (zM K (n:=2) rfl (ye (yi 3 tV.nd) (ye (yi 4 tV.nd) zD))) (xy (zX zG rfl (kQ rfl (B.get "range") (xN xl)) (yi 5 tV.nd) (xy (wX (xr jk hr (xi (zd (zO K) (pv 2) (pv 5) (λ_ _=>rfl)) (xr v5 hr (xi (pv 4) (yB (xi (zd (zO K) (pv 3) (pv 5) (λ_ _=>rfl)) xl)))))) (ae (pv 2) (pv 5) set_list)))))) (xy (xR (jW (dU K) rfl (B.get "tuple") qf (xN (pv 2))))))))
  (xB (vD (kM (zo (yA (b:=true) (xn xo xo)) (xn (yA (b:=true) (xn xo xo)) (yA (b:=true) (xn xo xo)))))) (xB (zV (bH (xn xc xc)) (zR (yh xK (yh xK zK))).g (zV (kN (xM xo)) xK.g (uu (xE (xn (jT xc) (xE (xn xc (yA (b:=true) (xn (wH xc xc) xo)))))) (bG xc)))) (xY iT))) λts KK hl h=>?_
 obtain⟨xa,ws,rfl,H0,k⟩:=h;have hl8:=H0.l100;have hlen:=H0.len;have zl:(xa.zip ws).length=xa.length:=by rw[List.length_zip];lia
 have hz:=λx hx=>H0.zip (x:=x) hx;refine yP (λτ=>τ=[.fz (.tup (xa.map xg)),.fz (.tup (ws.map fT)),.ow [fT (0,1),fT (0,1),fT (0,1)],.un,.un,.un]) ?_ (λN hN=>hN _ rfl);rintro _ rfl;refine yP (λτ=>∃x3 x4 x5:TV,τ=[.fz (.tup (xa.map xg)),.fz (.tup (ws.map fT)),.ow [fT (wsum k0 (xa.zip ws)),fT (wsum k1 (xa.zip ws)),fT (wsum k2 (xa.zip ws))],x3,x4,x5]) ?_ (λN hN=>?_)
 .rintro _ ⟨x3,x4,x5,rfl⟩;exact k
 show bU _ _ _ _ _;have zt:qy (xa.map xg) (ws.map fT)=(xa.zip ws).map rwT:=BF xg fT xa ws;refine qv ((xa.zip ws).map rwT) (λi τ=>∃x3 x4 x5:TV,τ=[.fz (.tup (xa.map xg)),.fz (.tup (ws.map fT)),.ow [fT (wsum k0 ((xa.zip ws).take i)),fT (wsum k1 ((xa.zip ws).take i)),fT (wsum k2 ((xa.zip ws).take i))],x3,x4,x5]) (λKK h=>by rw[<-zt] at h;exact h) ⟨_,_,_,rfl⟩ ?_ (λτ ⟨x3,x4,x5,e⟩=>hN _ ⟨x3,x4,x5,by rw[e,xP,aR]⟩);rintro i x τ N2 hx ⟨x3,x4,x5,rfl⟩ hN2;obtain⟨y,hy,rfl⟩:=uY hx;have il:=(y8.mp hy).1;obtain⟨hr,hw⟩:=hz y (zq hy);have tk1:(xa.zip ws).take (i+1)=(xa.zip ws).take i++[y]:=by rw[vI,hy];rfl
 have fk:∀(k:Pol.R3->Int),(∀r,yL 10 r->Bk 10 (k r))->Fk 900 (wsum k ((xa.zip ws).take i)):=λk hk=>(JP k _ λx hx=>⟨(hz x (fb hx)).2.sm,hk _ (hz x (fb hx)).1⟩).mono (by rw[uQ];lia)
 have f0:=fk k0 λr h=>h.1.1;have f1:=fk k1 λr h=>h.1.2;have f2:=fk k2 λr h=>h.2;rw[tk1,wsum_snoc,wsum_snoc,wsum_snoc] at hN2;generalize wsum k0 ((xa.zip ws).take i)=A0 at f0 hN2;generalize wsum k1 ((xa.zip ws).take i)=A1 at f1 hN2;generalize wsum k2 ((xa.zip ws).take i)=A2 at f2 hN2;refine⟨rfl,?_⟩;have one9:∀ {n:Int},Bk 10 n->Fk 900 (n,1):=λh=>⟨h.mono (by decide),by show Bk 900 1;unfold Bk;decide,by show(0:Int)<1;decide⟩
 have w9:Fk 900 y.2:=hw.sm.mono (by decide);have t9:∀ {n:Int},Bk 10 n->Fk 900 (wL y.2 (n,1)):=λh=>(hw.sm.timI h).mono (by decide);refine⟨⟨by decide,by decide⟩,?_⟩;refine⟨y.2,(y.1.1,1),rfl,w9,one9 hr.1.1,A0,_,rfl,f0,t9 hr.1.1,?_⟩;refine⟨y.2,(y.1.2.1,1),rfl,w9,one9 hr.1.2,A1,_,rfl,f1,t9 hr.1.2,?_⟩;refine⟨y.2,(y.1.2.2,1),rfl,w9,one9 hr.2,A2,_,rfl,f2,t9 hr.2,?_⟩;exact hN2 _ ⟨_,_,_,rfl⟩
def NZ (B:ya mg bn)(D:DF K mg "_law_cut" eU f fd ["_law_rows", "_law_weights"])(lX:C0 P w K mg base) :
  CO P w K mg base:=by
 refine yk D cC (λhr=>(xA (wX (xr lX hr (xi (pv 0) (pv 1))) (zM K (n:=3) rfl (ye (yi 2 cC.nd) (ye (yi 3 cC.nd) (ye (yi 4 cC.nd) zD))))) (xA (yR (PW.pt (uc (yG (ua hr.units) (xC K 2) xl (yj _)) (uc (yG (ua hr.units) (xC K 3) xl (yj _)) (vF (PW.pt (jq (yG (uy hr.units) (xC K 2) xl (yj _)) (jZ (yG (uy hr.units) (xC K 3) xl (yj _))))))))) (xy (xR gJ)) yT) (xy (xR (yB (yS (xC K 2) (xi (xC K 3) (xq uZ (xC K 4) (xC K 4))))))))))
  (xB (uu (xE (xn xc xc)) (zR (yh xK (yh xK (yh xK zK)))).g) (xB (yY (w_ (yH (xk ub xD xo)) (w_ (yH (xk ub xD xo)) (jm (yH (xk os_eq xD xo)) (yH (xk os_eq xD xo))))) (xY (kK (t:=Tr.non))) y7) (xY (yA (b:=true) (zo xD (xn xD (xk u4 xD xD))))))) λts KK hl h=>?_
 obtain⟨xa,ws,rfl,H0,k⟩:=h;obtain⟨p0,pb⟩:=H0.bot;refine⟨xa,ws,rfl,H0,?_⟩;refine⟨rfl,?_⟩;have cn:(wsum k2 (xa.zip ws)).2≠0:=by lia
 have ce:vy (xa.zip ws)=xg ((wsum k0 (xa.zip ws)).1,(wsum k1 (xa.zip ws)).1,(wsum k2 (xa.zip ws)).1.fdiv (wsum k2 (xa.zip ws)).2):=rfl;rw[ce] at k;generalize wsum k0 (xa.zip ws)=a at *
 generalize wsum k1 (xa.zip ws)=b' at *
 generalize wsum k2 (xa.zip ws)=c at *
 have no:¬qg a b'->KK .non:=λh=>by rw[xG h] at k;exact k
 have yes:qg a b'->KK (xg (a.1,b'.1,c.1.fdiv c.2)):=λh=>by rw[xJ h] at k;exact k
 refine yg (b:=!decide (a.2=1)) (λz=>no λy=>?_) (λz1=>?_)
 .simp[y.1] at z
 have z1:a.2=1:=by simpa using z1
 refine yg (b:=!decide (b'.2=1)) (λz=>no λy=>?_) (λz2=>?_)
 .simp[y.2.1] at z
 have z2:b'.2=1:=by simpa using z2
 refine yg (b:=decide (a.1=0)) (λz=>?_) (λz3=>?_)
 .have z3:=yU z;refine yg (b:=decide (b'.1=0)) (λz4=>?_) (λz4=>?_)
  .exact no λy=>y.2.2 ⟨z3,yU z4⟩
  .exact⟨⟨cn,pb⟩,yes ⟨z1,z2,λy=>zZ z4 y.2⟩⟩
 .exact⟨⟨cn,pb⟩,yes ⟨z1,z2,λy=>zZ z3 y.1⟩⟩
def Oq (B:ya mg bn)(D:DF K mg "_law_whole" Al f fd ["_law_thing"])  :
  C1 P w K mg base:=by
 refine yk D Si (λhr=>(xy (xR (aa (yO kD rfl (B.get "isinstance") kB (xi (pv 0) (kP (v:=V.ty "int") rfl (B.get "int") Eb rfl))) (jX (Hx (yO kD rfl (B.get "isinstance") kB (xi (pv 0) (kP (v:=V.ty "bool") rfl (B.get "bool") Ea rfl)))))))))
  (xY (sV (kL xc) (G1 (kL xc)))) λts KK hl h=>?_
 obtain⟨t,rfl,k⟩:=h;cases t<;>exact k
theorem N7 (B:ya mg bn)(D:DF K mg "_law_is_fraction" eW f fd ["_law_thing"])(br:C1 P w K mg base)(sM:pV P w K mg base) :
  CQ P w K mg base:=by
 refine yk D R_ (λhr=>(xA (yR (PW.pt (uc (uA (wm (yO kD rfl (B.get "isinstance") kB (xi (pv 0) (kP (v:=V.ty "tuple") rfl (B.get "tuple") qf rfl))))) (uc (yG (ua hr.units) (yO (uh K) rfl (B.get "len") ug (xN (pv 0))) xl (yj _)) (uc (uA (wm (xr br hr (xN (xC K 0))))) (vF (uA (wm (xr br hr (xN (xC K 0)))))))))) (xy (xR ve)) yT) (xy (xR (aa (uO sZ (xC K 0) xl (yj _)) (jX (uO (uy hr.units) (xr sM hr (xi (xC K 0) (xC K 0))) xl (yj _))))))))
  (xB (yY (w_ (uw (zA (kL xc))) (w_ (yH (xk ub (zz uK (xM xc)) xo)) (w_ (uw (zA (xE (xM xD)))) (uw (zA (xE (xM xD))))))) (xY vC) y7) (xY (sV (xk s_ xD xo) (xk os_eq (xE (xn xD xD)) xo)))) λts KK hl h=>?_
 obtain⟨t,rfl,k⟩:=h;cases t with
 |tup us=>
  refine yg (b:=!decide ((us.length:Int)=2)) (λc=>?_) (λc=>?_)
  .have c:¬(us.length:Int)=2:=by simpa using c
   have e:sC (.tup us)=false:=by
    unfold sC;split
    .rename_i z;injection z with z;rw[z] at c;exact absurd rfl c
    .rfl
   rw[e] at k;exact k
  .have c:us.length=2:=by simp at c;lia
   obtain⟨x,y,rfl⟩:∃x y,us=[x,y]:=by
    match us,c with
    |[x,y],_=>exact⟨x,y,rfl⟩
   refine⟨x,rfl,?_⟩;cases x with
   |int a=>
    refine⟨y,rfl,?_⟩;cases y with
    |int b=>
     have e:sC (.tup [.int a,.int b])=(decide (1<=b)&&decide (Int.gcd a b=1)):=rfl;rw[e] at k;refine yg (b:=decide (0<b)) (λc1=>?_) (λc1=>?_)
     .have c1:=yU c1;rw[wF (show 1<=b by lia),Bool.true_and] at k;refine⟨a,b,rfl,?_⟩;have e2:decide (((Int.gcd a b:Nat):Int)=1)=decide (Int.gcd a b=1):=by rw[aW];lia
      show KK (.bl (decide (((Int.gcd a b:Nat):Int)=1)));rw[e2];exact k
     .have c1:=zZ c1;rw[uU (show ¬1<=b by lia),Bool.false_and] at k;exact k
    |_=>exact k
   |_=>exact k
 |_=>exact k
end
section
variable (P:Program) (w:World) {K:xw} {mg:Str->Option Value} (base:Heap) {f:Addr} {fd:FuncData}
def NR (B:ya mg bn)(D:DF K mg "_law_all_cuts" eQ f fd ["_law_rows"])  :
  pS P w K mg base:=by
 refine yk D qw (λhr=>(xA (yy 1 qw.nd Hw) (xA (zX zG rfl (kQ rfl (B.get "range") (xN (yO (uh K) rfl (B.get "len") ug (xN (pv 0))))) (yi 2 qw.nd) (xy (zX zG rfl (zB K (gK (cN K) (pv 0) (gM (xq (sY K) (pv 2) xl)) gL)) (zM K (n:=3) rfl (ye (yi 3 qw.nd) (ye (yi 4 qw.nd) (ye (yi 5 qw.nd) zD)))) (xA (wX (zd (zO K) (pv 0) (pv 2) (λ_ _=>rfl)) (zM K (n:=3) rfl (ye (yi 6 qw.nd) (ye (yi 7 qw.nd) (ye (yi 8 qw.nd) zD))))) (xA (yy 9 qw.nd (yO ja rfl (B.get "abs") k_ (xN (xq zS (xq (jV K) (pv 3) (pv 7)) (xq (jV K) (pv 4) (pv 6)))))) (xy (zX zG rfl (kQ rfl (B.get "range") (xN (pv 9))) (yi 10 qw.nd) (xy (zX zG rfl (kQ rfl (B.get "range") (xN (pv 9))) (yi 11 qw.nd) (xA (qU (i:=12) (j:=13) rfl qw.nd rfl rfl (by decide) rfl rfl (xi (xq (sY K) (xq (jV K) (pv 10) (pv 3)) (xq (jV K) (pv 11) (pv 6))) (xq (sY K) (xq (jV K) (pv 10) (pv 4)) (xq (jV K) (pv 11) (pv 7)))) (by rfl))
  (xy (yR (PW.pt (jq (yG (uy hr.units) (xq bK (pv 12) (pv 9)) xl (yj _)) (jq (yG (uy hr.units) (xq bK (pv 13) (pv 9)) xl (yj _)) (jZ (PW.pt (uc (yG (ua hr.units) (pv 12) xl (yj _)) (vF (yG (ua hr.units) (pv 13) xl (yj _))))))))) (xy (Rm (huR hr) (pv 1) (yB (yS (xq uZ (pv 12) (pv 9)) (xi (xq uZ (pv 13) (pv 9)) (xq uZ (xq (sY K) (xq (jV K) (pv 10) (pv 5)) (xq (jV K) (pv 11) (pv 8))) (pv 9))))) ve (by rfl))) yT))))))))))))
  (xy (xR (jW (K9 rfl) rfl (B.get "list") ox (xN (pv 1))))))))
  (xB G8 (xB (zV (kN (xM (zz uK (xM xc)))) xK.g (zV (zQ (bF xc (gF (sU xc xo)) gE)) (zR (yh xK (yh xK (yh xK zK)))).g (xB (uu (wH xc xc) (zR (yh xK (yh xK (yh xK zK)))).g) (xB (yE (zz jb (xM (xk zW (jU xc xc) (jU xc xc))))) (zV (kN (xM xc)) xK.g (zV (kN (xM xc)) xK.g (xB (qQ (xn (sU (jU xc xc) (jU xc xc)) (sU (jU xc xc) (jU xc xc)))) (yY (jm (yH (xk os_eq (xk bL xc xc) xo)) (jm (yH (xk os_eq (xk bL xc xc) xo)) (w_ (yH (xk ub xc xo)) (yH (xk ub xc xo))))) (Py (yA (b:=true) (zo (xk u4 xc xc) (xn (xk u4 xc xc) (xk u4 (sU (jU xc xc) (jU xc xc)) xc)))) vC) y7)))))))) (fP Po))) λts KK hl h=>?_
 obtain⟨xa,rfl,hF,k⟩:=h;have l8:=hF.l8;have ml:(xa.map xg).length=xa.length:=xP _;refine yP (λτ=>τ=[.fz (.tup (xa.map xg)),.od (kvK []),.un,.un,.un,.un,.un,.un,.un,.un,.un,.un,.un,.un]) ?_ (λN hN=>hN _ rfl);rintro _ rfl;refine yP (λτ=>∃(keys:List Pol.R3) (x2 x3 x4 x5 x6 x7 x8 x9 x10 x11 x12 x13:TV),CI xa keys (λi _ _ _=>i<xa.length)/\τ=[.fz (.tup (xa.map xg)),.od (kvK keys),x2,x3,x4,x5,x6,x7,x8,x9,x10,x11,x12,x13]) ?_ (λN hN=>?_)
 .rintro _ ⟨keys,x2,x3,x4,x5,x6,x7,x8,x9,x10,x11,x12,x13,I,rfl⟩;have:=k keys (I.ac λi j s t p q a b c=>(y8.mp a).1) (I.len hF);show KK (.lst ((kvK keys).map λp=>r9 p.1));unfold kvK;rw[vi];exact this
 refine qv (qu 0 xa.length) (λi τ=>∃(keys:List Pol.R3) (x2 x3 x4 x5 x6 x7 x8 x9 x10 x11 x12 x13:TV),CI xa keys (λi' _ _ _=>i' < i)/\τ=[.fz (.tup (xa.map xg)),.od (kvK keys),x2,x3,x4,x5,x6,x7,x8,x9,x10,x11,x12,x13]) (λKK h=>⟨⟨by lia,by rw[ml];lia⟩,by rw[ml,jx];exact h⟩) ⟨[],_,_,_,_,_,_,_,_,_,_,_,_,⟨List.nodup_nil,λk hk=>absurd hk (by simp),λi j s t p q _ _ _ _ z=>absurd z (Nat.not_lt_zero _)⟩,rfl⟩ ?_ (λτ ⟨keys,x2,x3,x4,x5,x6,x7,x8,x9,x10,x11,x12,x13,I,e⟩=>hN _ ⟨keys,x2,x3,x4,x5,x6,x7,x8,x9,x10,x11,x12,x13,by rw[uJ] at I;exact I,e⟩);rintro i x τ N2 hx ⟨keys,x2,x3,x4,x5,x6,x7,x8,x9,x10,x11,x12,x13,I,rfl⟩ hN2;have hi:=(y8.mp hx).1;rw[uJ] at hi;rw[j1 hi] at hx;cases hx;have hs:xa[i]?=some xa[i]:=yC hi;generalize xa[i]=s at hs;have sm:=zq hs;have bs:=hF.sm s sm;dsimp only[gQ,jf,eName,jG];have ct:wK (xa.map xg) (some ((0:Int)+i+1)) none=(xa.drop (i+1)).map xg:=by rw[show(0:Int)+(i:Int)+1=((i+1:Nat):Int) by lia,nB,<-pH]
 refine qv ((xa.drop (i+1)).map xg) (λj τ=>∃(keys:List Pol.R3) (x3 x4 x5 x6 x7 x8 x9 x10 x11 x12 x13:TV),CI xa keys (λi' j' _ _=>i' < i\/i'=i/\j' < i+1+j)/\τ=[.fz (.tup (xa.map xg)),.od (kvK keys),.fz (.int ((0:Int)+i)),x3,x4,x5,x6,x7,x8,x9,x10,x11,x12,x13]) (λKK h=>?_) ⟨keys,_,_,_,_,_,_,_,_,_,_,_,I.mono λi' j' s' t' p' q' lt a b' c d=>?_,rfl⟩ ?_ (λτ ⟨keys,x3,x4,x5,x6,x7,x8,x9,x10,x11,x12,x13,I,e⟩=>hN2 _ ⟨keys,_,x3,x4,x5,x6,x7,x8,x9,x10,x11,x12,x13,I.mono λi' j' s' t' p' q' lt a b' c d=>?_,e⟩)
 .show KK (wK (xa.map xg) (some ((0:Int)+i+1)) none);rw[ct];exact h
 .lia
 rotate_left
 .have:=(y8.mp b').1;rw[xP,v_];lia
 clear I;rintro j y τ N3 hy ⟨keys,x3,x4,x5,x6,x7,x8,x9,x10,x11,x12,x13,I,rfl⟩ hN3;obtain⟨t,htj,rfl⟩:=uY hy;rw[Kb] at htj;have tm:=zq htj;have S:=jI (hF.frow s sm);have T:=jI (hF.frow t tm);have bB:=Lk hF sm tm;refine⟨rfl,?_⟩;dsimp only[gQ,jf,eName,jG];have at0:atT (xa.map xg) ((0:Int)+i)=some (xg s):=by rw[show(0:Int)+(i:Int)=((i:Nat):Int) by lia,jF,ue,hs];rfl
 show gR _ _ _ ([.fz (.tup (xa.map xg)),.od (kvK keys),.fz (.int ((0:Int)+i)),.fz (.int t.1),.fz (.int t.2.1),.fz (.int t.2.2),x6,x7,x8,x9,x10,x11,x12,x13]:xV);refine yP (λτ=>τ=[.fz (.tup (xa.map xg)),.od (kvK keys),.fz (.int ((0:Int)+i)),.fz (.int t.1),.fz (.int t.2.1),.fz (.int t.2.2),.fz (.int s.1),.fz (.int s.2.1),.fz (.int s.2.2),x9,x10,x11,x12,x13]) ?_ (λN hN=>?_)
 rotate_left
 .show wy (atT (xa.map xg) ((0:Int)+i)) _;rw[at0];exact⟨rfl,hN _ rfl⟩
 rintro _ rfl;refine yP (λτ=>τ=[.fz (.tup (xa.map xg)),.od (kvK keys),.fz (.int ((0:Int)+i)),.fz (.int t.1),.fz (.int t.2.1),.fz (.int t.2.2),.fz (.int s.1),.fz (.int s.2.1),.fz (.int s.2.2),.fz (.int (yJ s t)),x10,x11,x12,x13]) ?_ (λN hN=>?_)
 rotate_left
 .exact⟨⟨T.1.1.bd,S.1.2.bd⟩,⟨T.1.2.bd,S.1.1.bd⟩,hN _ rfl⟩
 rintro _ rfl;refine qv (qu 0 (yJ s t).toNat) (λn τ=>∃(keys:List Pol.R3) (x10 x11 x12 x13:TV),CI xa keys (λi' j' p' _=>i' < i\/i'=i/\(j' < i+1+j\/j'=i+1+j/\p' < n))/\τ=[.fz (.tup (xa.map xg)),.od (kvK keys),.fz (.int ((0:Int)+i)),.fz (.int t.1),.fz (.int t.2.1),.fz (.int t.2.2),.fz (.int s.1),.fz (.int s.2.1),.fz (.int s.2.2),.fz (.int (yJ s t)),x10,x11,x12,x13]) (λKK h=>⟨⟨by lia,by lia⟩,h⟩) ⟨keys,_,_,_,_,I.mono λi' j' s' t' p' q' lt a b' c d=>(by have:=c.p0;lia),rfl⟩ ?_ (λτ ⟨keys,x10,x11,x12,x13,I,e⟩=>hN3 _ ⟨keys,_,_,_,_,_,_,_,x10,x11,x12,x13,I.mono λi' j' s' t' p' q' lt a b' c d=>?_,e⟩)
 rotate_left
 .rw[uJ];by_cases q:i'=i/\j'=i+1+j
  .obtain⟨rfl,rfl⟩:=q;rw[hs] at a;rw[htj] at b';cases a;cases b';have:=c.p1;lia
  .lia
 clear I;rintro n z τ N4 hz ⟨keys,x10,x11,x12,x13,I,rfl⟩ hN4;have hn:=(y8.mp hz).1;rw[uJ] at hn;rw[j1 hn] at hz;cases hz;dsimp only[gQ,jf,eName,jG];rw[show(0:Int)+(n:Int)=(n:Int) by lia];refine qv (qu 0 (yJ s t).toNat) (λm τ=>∃(keys:List Pol.R3) (x11 x12 x13:TV),CI xa keys (λi' j' p' q'=>i' < i\/i'=i/\(j' < i+1+j\/j'=i+1+j/\(p' < n\/p'=n/\q' < m)))/\τ=[.fz (.tup (xa.map xg)),.od (kvK keys),.fz (.int ((0:Int)+i)),.fz (.int t.1),.fz (.int t.2.1),.fz (.int t.2.2),.fz (.int s.1),.fz (.int s.2.1),.fz (.int s.2.2),.fz (.int (yJ s t)),.fz (.int (n:Int)),x11,x12,x13]) (λKK h=>⟨⟨by lia,by lia⟩,h⟩) ⟨keys,_,_,_,I.mono λi' j' s' t' p' q' lt a b' c d=>(by have:=c.q0;lia),rfl⟩ ?_ (λτ ⟨keys,x11,x12,x13,I,e⟩=>hN4 _ ⟨keys,_,x11,x12,x13,I.mono λi' j' s' t' p' q' lt a b' c d=>?_,e⟩)
 rotate_left
 .rw[uJ];by_cases q:i'=i/\j'=i+1+j
  .obtain⟨rfl,rfl⟩:=q;rw[hs] at a;rw[htj] at b';cases a;cases b';have:=c.q1;lia
  .lia
 clear I;rintro o z τ N5 hz ⟨keys,x11,x12,x13,I,rfl⟩ hN5;have ho:=(y8.mp hz).1;rw[uJ] at ho;rw[j1 ho] at hz;cases hz;dsimp only[gQ,jf,eName,jG];rw[show(0:Int)+(o:Int)=(o:Int) by lia];have b0:0<yJ s t:=by lia
 have bk:∀ {x:Int},0<=x->x<=392->Bk 10 x:=λ {x} h1 h2=>by unfold Bk;lia
 have nb:Bk 10 (n:Int):=bk (by lia) (by lia);have ob:Bk 10 (o:Int):=bk (by lia) (by lia);have bb:Bd (yJ s t):=(bk bB.1 bB.2).bd;have grow:∀i' j' (p' q':Int),(i' < i\/i'=i/\(j' < i+1+j\/j'=i+1+j/\(p' < n\/p'=n/\q' < ((o+1:Nat):Int))))->(i' < i\/i'=i/\(j' < i+1+j\/j'=i+1+j/\(p' < n\/p'=n/\q' < (o:Int))))\/i'=i/\j'=i+1+j/\p'=n/\q'=o:=λi' j' p' q' d=>by lia
 have no:¬rB s t n o->N5 ([.fz (.tup (xa.map xg)),.od (kvK keys),.fz (.int ((0:Int)+i)),.fz (.int t.1),.fz (.int t.2.1),.fz (.int t.2.2),.fz (.int s.1),.fz (.int s.2.1),.fz (.int s.2.2),.fz (.int (yJ s t)),.fz (.int (n:Int)),.fz (.int (o:Int)),.fz (.int (ckU s t n o)),.fz (.int (ckV s t n o))]:xV):=λc=>hN5 _ ⟨keys,_,_,_,I.skip hs htj c grow,rfl⟩;have yes:rB s t n o->N5 ([.fz (.tup (xa.map xg)),.od (kvK (ft keys (ckR s t n o))),.fz (.int ((0:Int)+i)),.fz (.int t.1),.fz (.int t.2.1),.fz (.int t.2.2),.fz (.int s.1),.fz (.int s.2.1),.fz (.int s.2.2),.fz (.int (yJ s t)),.fz (.int (n:Int)),.fz (.int (o:Int)),.fz (.int (ckU s t n o)),.fz (.int (ckV s t n o))]:xV):=λc=>hN5 _ ⟨_,_,_,_,I.put hs htj ⟨by lia,by lia,by lia,by lia,c,rfl⟩ grow,rfl⟩;refine yP (λτ=>τ=[.fz (.tup (xa.map xg)),.od (kvK keys),.fz (.int ((0:Int)+i)),.fz (.int t.1),.fz (.int t.2.1),.fz (.int t.2.2),.fz (.int s.1),.fz (.int s.2.1),.fz (.int s.2.2),.fz (.int (yJ s t)),.fz (.int (n:Int)),.fz (.int (o:Int)),.fz (.int (ckU s t n o)),.fz (.int (ckV s t n o))]) ?_ (λN hN=>?_)
 rotate_left
 .exact⟨⟨nb.bd,T.1.1.bd⟩,⟨ob.bd,S.1.1.bd⟩,⟨nb.bd,T.1.2.bd⟩,⟨ob.bd,S.1.2.bd⟩,hN _ rfl⟩
 rintro _ rfl;have fm:∀x:Int,x.fmod (yJ s t)=x%yJ s t:=λx=>Fw bB.1;have fd:∀x:Int,x.fdiv (yJ s t)=x/yJ s t:=λx=>vV bB.1;have put:rB s t n o->eP 1 (ET (qK (d2 nL (wG 12) (wG 9)) (qK (d2 nL (wG 13) (wG 9)) (qK (d2 nL (d2 rN (d2 rP (wG 10) (wG 5)) (d2 rP (wG 11) (wG 8))) (wG 9)) kG)))) (dC (Tr.bl true)) {nx:=N5,rt:=KK,bk:=N4,ct:=N5} ([.fz (.tup (xa.map xg)),.od (kvK keys),.fz (.int ((0:Int)+i)),.fz (.int t.1),.fz (.int t.2.1),.fz (.int t.2.2),.fz (.int s.1),.fz (.int s.2.1),.fz (.int s.2.2),.fz (.int (yJ s t)),.fz (.int (n:Int)),.fz (.int (o:Int)),.fz (.int (ckU s t n o)),.fz (.int (ckV s t n o))]:xV):=λc=>by
  have kl:=I.len hF;refine⟨⟨by lia,bb⟩,⟨by lia,bb⟩,⟨nb.bd,T.2.bd⟩,⟨ob.bd,S.2.bd⟩,⟨by lia,bb⟩,kyR (ckR s t n o),?_,by unfold kvK;rw[xP];exact sqy (by lia),?_⟩
  .show Tr.tup [.int ((ckU s t n o).fdiv (yJ s t)),.int ((ckV s t n o).fdiv (yJ s t)),.int ((ckN s t n o).fdiv (yJ s t))]=_;rw[fd,fd,fd];rfl
  .rw[SU];exact yes c
 refine⟨by lia,yg (b:=decide ((ckU s t n o).fmod (yJ s t)=0)) (λc1=>?_) (λc1=>no λz=>?_)⟩
 rotate_left
 .have:=zZ c1;rw[fm] at this;exact this z.1
 have c1:=yU c1;rw[fm] at c1;refine⟨by lia,yg (b:=decide ((ckV s t n o).fmod (yJ s t)=0)) (λc2=>?_) (λc2=>no λz=>?_)⟩
 rotate_left
 .have:=zZ c2;rw[fm] at this;exact this z.2.1
 have c2:=yU c2;rw[fm] at c2;refine yg (b:=!decide (ckU s t n o=0)) (λc3=>?_) (λc3=>?_)
 .exact put ⟨c1,c2,.inl (by simpa using c3)⟩
 .refine yg (b:=!decide (ckV s t n o=0)) (λc4=>?_) (λc4=>no λz=>?_)
  .exact put ⟨c1,c2,.inr (by simpa using c4)⟩
  .have c3:ckU s t n o=0:=by simpa using c3
   have c4:ckV s t n o=0:=by simpa using c4
   exact z.2.2.elim (λh=>h c3) λh=>h c4
def Od (B:ya mg bn)(D:DF K mg "_law_over" Ab f fd ["_law_one", "_law_other"])(w5:h_ P w K mg base) :
  CV P w K mg base:=by
 refine yk D Sf (λhr=>(xy (xR (xr w5 hr (xi (xq yq (xC K 0) (xC K 1)) (xq yq (xC K 0) (xC K 1)))))))
  (xY (xE (xn (xk yu xD xD) (xk yu xD xD)))) λts KK hl h=>?_
 obtain⟨f,g,rfl,hf,hg,g0,k⟩:=h;exact⟨⟨hf.top.bd,hg.bot.bd⟩,⟨hf.bot.bd,hg.top.bd⟩,_,_,rfl,λz=>by
  rcases vp.mp z with z|z
  .have:=hf.pos;lia
  .exact g0 z,(hf.bot.mul hg.top).bd,k⟩
def NV (B:ya mg bn)(D:DF K mg "_law_clipped" bZ f fd ["_law_places", "_law_row"])(sN:pX P w K mg base)(vZ:pW P w K mg base)(fO:pZ P w K mg base)(lT:CV P w K mg base)(jk:mZ P w K mg base)(v5:rp P w K mg base)(jj:mY P w K mg base) :
  CJ P w K mg base:=by
 refine yk D gT (λhr=>(xA (yR (yG (uy hr.units) (vE (ui (N:=["_law_place_here", "_law_row"]) (xQ:=[none,some 1]) (XN:=["_law_places", "_law_row", "_law_found", "_law_at", "_law_one", "_law_other", "_law_here", "_law_there", "_law_share", "_law_x"]) (xs:=xH bZ) (by decide +kernel) rfl rfl) rfl (vW rfl) (zB K (pv 0)) (λ_ _ _ _=>(zi (i:=0) (show(["_law_place_here", "_law_row"]:List Str).Nodup by decide +kernel) rfl (Or.inl rfl))) (λ_ _ _ _=>(kS (uA (wm (xr jj hr (xi (pv 1) (pv 0))))))) (λ_ _ _ _=>(pv 0))) (wA u5) (yj _)) (xy (xR (pv 0))) yT)
  (xA (yy 2 gT.nd (wA u5)) (xA (zX zG rfl (kQ rfl (B.get "range") (xN (yO (uh K) rfl (B.get "len") ug (xN (pv 0))))) (yi 3 gT.nd) (xA (qU (i:=4) (j:=5) rfl gT.nd rfl rfl (by decide) rfl rfl (xi (zd (zO K) (pv 0) (xq zS (pv 3) xl) (λ_ _=>rfl)) (zd (zO K) (pv 0) (pv 3) (λ_ _=>rfl))) (by rfl))
  (xA (yy 6 gT.nd (xr vZ hr (xi (yB (xi (xC K 1) xl)) (xr fO hr (xi (pv 1) (pv 4)))))) (xA (yy 7 gT.nd (xr vZ hr (xi (yB (xi (xC K 1) xl)) (xr fO hr (xi (pv 1) (pv 5)))))) (xA (yR (yG (qR K hr.units) (xq (jV K) (xC K 6) (xC K 7)) xl (yj _)) (xA (yy 8 gT.nd (xr lT hr (xi (pv 6) (xr vZ hr (xi (pv 6) (pv 7)))))) (xA (yy 9 gT.nd (xr jk hr (xi (xC K 4) (xr v5 hr (xi (pv 8) (xr vZ hr (xi (xC K 5) (xC K 4)))))))) (xy (vf (vO qD q9 q_ qo (pv 2) (xN (yB (xi (pv 9) (xr jk hr (xi (xC K 4) (xr v5 hr (xi (pv 8) (xr vZ hr (xi (xC K 5) (xC K 4))))))))))))))) yT) (xy (yR (yG Hd (xC K 7) xl (yj _)) (xy (vf (vO qD q9 q_ qo (pv 2) (xN (pv 5))))) yT)))))))
  (xy (xR (xr sN hr (xN (pv 2)))))))))
  (xB (yY (yH (xk os_eq (zw.e (ur (zQ xc).c xK (uw (zA (xE (xn xc xc)))) xc)) (v8 (b:=true) vn))) (xY xc) y7) (xB (vD (kM vn)) (xB (zV (kN (xM (zz uK (xM xc)))) xK.g (xB (qQ (xn (wH xc (xk zW xc xo)) (wH xc xc))) (xB (yE (xE (xn (yA (b:=true) (xn xD xo)) (xE (xn xc xc))))) (xB (yE (xE (xn (yA (b:=true) (xn xD xo)) (xE (xn xc xc))))) (xB (yY (yH (xk qS (jU xD xD) xo)) (xB (yE (xE (xn xc (xE (xn xc xc))))) (xB (yE (xE (xn xD (xE (xn xc (xE (xn xD xD))))))) (qq (yA (b:=true) (xn xc (xE (xn xD (xE (xn xc (xE (xn xD xD))))))))))) y7) (yY (yH (xk PM xD xo)) (qq xc) y7)))))) (xY (xE (xM sW)))))) λts KK hl h=>?_
 obtain⟨xa,C,r,rfl,O,k⟩:=h;have O0:=O.sub;have rg:=O0.ring;have ln:=rg.len;have rb:yL 10 r:=O.b r (wZ _ (wZ _ xU));have e2:xS (xa++(C++[r]))=xS (xa++C++[r]):=by rw[qz]
 rw[e2] at k;have r2:k7 6000000 (xS (xa++C++[r])):=by rw[<-e2];exact O.ring
 have nd:(pieces (xa++C)).Nodup:=(jJ O0.fine.dir).ccw.nd;have pk:∀ {v},v∈xS (xa++C)->Pk 21 (xt v):=λhv=>O0.pk hv;have ps:=rg.pos;have cl:∀v,v∈wV r (xS (xa++C))↔v∈xS (xa++C++[r]):=λv=>Nw;have keep:(∀v∈xS (xa++C),val r v<=0)->xS (xa++C++[r])=xS (xa++C):=λh=>Ll h nd;generalize xS (xa++C++[r])=m at *
 generalize xS (xa++C)=l at *
 refine yP (λτ=>τ=[.fz (.lst (l.map xF)),.fz (xg r),.un,.un,.un,.un,.un,.un,.un,.un]) ?_ (λN hN=>?_)
 rotate_left
 .refine⟨by rw[xP];exact sqy (by lia),qJ (f:=xF) (λv=>!zN r (xt v)) xF (λv hv N M h1 h0=>?_) ?_⟩
  .exact⟨r,xt v,rfl,rb.mono (by decide),(pk hv).1.mono (by decide),(pk hv).2.mono (by decide),yg (b:=!zN r (xt v)) h1 h0⟩
  .dsimp only[fC,kG];refine se (oy _) ?_;rw[pG,filter_empty];refine yg (b:=l.all λv=>!!zN r (xt v)) (λc=>?_) (λc=>hN _ rfl);rw[j9] at c;rw[keep λv hv=>by have:=c v hv;rw[BH,oZ r (ps v hv)] at this;exact yU this] at k
   exact k
 rintro _ rfl;refine yP (λτ=>τ=[.fz (.lst (l.map xF)),.fz (xg r),.ow [],.un,.un,.un,.un,.un,.un,.un]) ?_ (λN hN=>hN _ rfl);rintro _ rfl;refine yP (λτ=>∃x3 x4 x5 x6 x7 x8 x9:TV,τ=[.fz (.lst (l.map xF)),.fz (xg r),.ow ((wV r l).map xF),x3,x4,x5,x6,x7,x8,x9]) ?_ (λN hN=>?_)
 .rintro _ ⟨x3,x4,x5,x6,x7,x8,x9,rfl⟩;have:=nA r l;exact⟨wV r l,m,rfl,cl,by lia,r2,k⟩
 have cy:(yX l).length=l.length:=oJ l;refine qv (qu 0 l.length) (λi τ=>∃x3 x4 x5 x6 x7 x8 x9:TV,τ=[.fz (.lst (l.map xF)),.fz (xg r),.ow ((((yX l).take i).flatMap (seg r)).map xF),x3,x4,x5,x6,x7,x8,x9]) (λKK h=>⟨⟨by lia,by rw[xP];lia⟩,by rw[xP,jx];exact h⟩) ⟨_,_,_,_,_,_,_,rfl⟩ ?_ (λτ ⟨x3,x4,x5,x6,x7,x8,x9,e⟩=>hN _ ⟨x3,x4,x5,x6,x7,x8,x9,by rw[uJ,uS (by lia)] at e;exact e⟩);rintro i x τ N2 hx ⟨x3,x4,x5,x6,x7,x8,x9,rfl⟩ hN2;have hi:=(y8.mp hx).1;rw[uJ] at hi;rw[j1 hi] at hx;cases hx;have hv:l[i]?=some l[i]:=yC hi;generalize l[i]=v at hv;obtain⟨u,hu,hc,at1⟩:=KO (f:=xF) hv;have hvm:=zq hv;have at2:atT (l.map xF) (i:Int)=some (xF v):=by rw[jF,ue,hv];rfl
 have tk1:=Lu r l hc;have fl:(((yX l).take i).flatMap (seg r)).length<=12000000:=by
  have h1:=nA r l;have h2:(((yX l).take i).flatMap (seg r)).length<=(wV r l).length:=by
   unfold wV
   conv=>rhs;rw[<-dB i (yX l),pE,ze]
   lia
  lia
 rw[tk1] at hN2;generalize ((yX l).take i).flatMap (seg r)=acc at *
 dsimp only[gQ,jf,eName,jG];show gR _ _ _ ([.fz (.lst (l.map xF)),.fz (xg r),.ow (acc.map xF),.fz (.int ((0:Int)+i)),x4,x5,x6,x7,x8,x9]:xV);rw[show(0:Int)+(i:Int)=(i:Int) by lia];refine yP (λτ=>τ=[.fz (.lst (l.map xF)),.fz (xg r),.ow (acc.map xF),.fz (.int (i:Int)),.fz (xF u),.fz (xF v),x6,x7,x8,x9]) ?_ (λN hN=>?_)
 rotate_left
 .show wy (atT (l.map xF) ((i:Int)-1)) _;rw[at1];show wy (atT (l.map xF) (i:Int)) _;rw[at2];exact hN _ rfl
 rintro _ rfl;have one1:∀ {n:Nat},Bk (n+1) 1:=λ {n}=>by unfold Bk;have:=Nat.one_le_two_pow (n:=n);lia
 have cf:Fk 53 (r.2.2,1):=⟨rb.2.mono (by decide),one1,by show(0:Int)<1;decide⟩
 have fv:∀ {v},v∈l->Fk 53 (zc r (xt v)):=λ {v} hv=>Mp (c:=r.2.2) rb.1.1 rb.1.2 (pk hv) (by decide);have fo:∀ {v},v∈l->Fk 107 (um r (xt v)):=λ {v} hv=>Fk.min cf (fv hv);have uz:=ps u hu;have vz:=ps v hvm;refine yP (λτ=>τ=[.fz (.lst (l.map xF)),.fz (xg r),.ow (acc.map xF),.fz (.int (i:Int)),.fz (xF u),.fz (xF v),.fz (fT (um r (xt u))),x7,x8,x9]) ?_ (λN hN=>⟨r.1,r.2.1,[.int r.2.2],xt u,rfl,rb.1.1.mono (by decide),rb.1.2.mono (by decide),(pk hu).1.mono (by decide),(pk hu).2.mono (by decide),(r.2.2,1),zc r (xt u),rfl,cf.mono (by decide),(fv hu).mono (by decide),hN _ rfl⟩);rintro _ rfl;refine yP (λτ=>τ=[.fz (.lst (l.map xF)),.fz (xg r),.ow (acc.map xF),.fz (.int (i:Int)),.fz (xF u),.fz (xF v),.fz (fT (um r (xt u))),.fz (fT (um r (xt v))),x8,x9]) ?_ (λN hN=>⟨r.1,r.2.1,[.int r.2.2],xt v,rfl,rb.1.1.mono (by decide),rb.1.2.mono (by decide),(pk hvm).1.mono (by decide),(pk hvm).2.mono (by decide),(r.2.2,1),zc r (xt v),rfl,cf.mono (by decide),(fv hvm).mono (by decide),hN _ rfl⟩);rintro _ rfl;refine yP (λτ=>∃x8 x9:TV,τ=[.fz (.lst (l.map xF)),.fz (xg r),.ow ((acc++if val r u*val r v<0 then[x_ r u v] else[]).map xF),.fz (.int (i:Int)),.fz (xF u),.fz (xF v),.fz (fT (um r (xt u))),.fz (fT (um r (xt v))),x8,x9]) ?_ (λN hN=>?_)
 rotate_left
 .refine⟨⟨(fo hu).top.bd,(fo hvm).top.bd⟩,?_⟩;refine yg (b:=decide ((um r (xt u)).1*(um r (xt v)).1<0)) (λc=>?_) (λc=>?_)
  .have c:=(GZ uz vz).mp (yU c);rw[xJ c] at hN;have d0:=off_ne uz vz c;have dk:=(fo hu).min (fo hvm);have sk:=(fo hu).over dk d0;have dx:=((pk hvm).1).min (pk hu).1;have dy:=((pk hvm).2).min (pk hu).2;have tx:=(sk.mono (show _<=430 by decide)).tim (dx.mono (show _<=430 by decide));have ty:=(sk.mono (show _<=430 by decide)).tim (dy.mono (show _<=430 by decide));refine⟨_,_,rfl,(fo hu).mono (by decide),(fo hvm).mono (by decide),_,_,rfl,(fo hu).mono (by decide),dk.mono (by decide),d0,?_⟩;refine⟨_,_,rfl,(pk hvm).1.mono (by decide),(pk hu).1.mono (by decide),_,_,rfl,sk.mono (by decide),dx.mono (by decide),_,_,rfl,(pk hu).1.mono (by decide),tx.mono (by decide),?_⟩;refine⟨_,_,rfl,(pk hvm).2.mono (by decide),(pk hu).2.mono (by decide),_,_,rfl,sk.mono (by decide),dy.mono (by decide),_,_,rfl,(pk hu).2.mono (by decide),ty.mono (by decide),?_⟩;have e3:(acc++[x_ r u v]).map xF=acc.map xF++[pT (oW r (xt u) (xt v))]:=by rw[Ly uz vz c,wD];rfl
   rw[e3] at hN;exact⟨by rw[xP];exact sqy (by lia),hN _ ⟨_,_,rfl⟩⟩
  .have c:¬val r u*val r v<0:=λz=>zZ c ((GZ uz vz).mpr z);rw[xG c,uH] at hN;exact hN _ ⟨_,_,rfl⟩
 rintro _ ⟨x8,x9,rfl⟩;refine yg (b:=decide ((um r (xt v)).1>=0)) (λc=>?_) (λc=>?_)
 .have c:=(GY vz).mp (yU c);refine⟨by
   rw[xP,ze];have:(if val r u*val r v<0 then[x_ r u v] else[]).length<=1:=by split<;>simp
   exact sqy (by lia),?_⟩
  have e4:(acc++seg r (u,v)).map xF=(acc++if val r u*val r v<0 then[x_ r u v] else[]).map xF++[xF v]:=by unfold seg;rw[xJ c,<-qz,wD (l₂:=[v])];rfl
  rw[e4] at hN2;exact hN2 _ ⟨_,_,_,_,_,_,_,rfl⟩
 .have c:¬val r v<=0:=λz=>zZ c ((GY vz).mpr z);have e4:(acc++seg r (u,v)).map xF=(acc++if val r u*val r v<0 then[x_ r u v] else[]).map xF:=by unfold seg;rw[xG c,uH]
  rw[e4] at hN2;exact hN2 _ ⟨_,_,_,_,_,_,_,rfl⟩
def Oh (B:ya mg bn)(D:DF K mg "_law_round" Ae f fd ["_law_rows"])(sL:pU P w K mg base)(sJ:pS P w K mg base)(lL:CJ P w K mg base) :
  CY P w K mg base:=by
 refine yk D cD (λhr=>(xA (yy 1 cD.nd (xr sL hr (xN (pv 0)))) (xA (zX zG rfl (zB K (xr sJ hr (xN (pv 0)))) (yi 2 cD.nd) (xy (yy 1 cD.nd (xr lL hr (xi (pv 1) (pv 2)))))) (xy (xR (pv 1))))))
  (xB (yE (xE (xM xc))) (xB (zV (zQ (xE (xM xc))) xK.g (yE (xE (xn xc xc)))) (xY xc))) λts KK hl h=>?_
 obtain⟨xa,rfl,hF,k⟩:=h;refine⟨xa,rfl,hF.fine,xa,rfl,hF,λL A ln=>?_⟩;have O:=A.cuts hF ln;refine vc (all:=L.map xg) (λi τ=>∃x2:TV,τ=[.fz (.tup (xa.map xg)),.fz (.lst ((xS (xa++L.take i)).map xF)),x2]) ⟨_,by rw[pI,uH];rfl⟩ ?_ ?_
 .rintro i x τ N hx ⟨x2,rfl⟩ hN;obtain⟨r,hr,rfl⟩:=uY hx;have tk1:L.take (i+1)=L.take i++[r]:=by rw[vI,hr];rfl
  have tl:(L.take i++[r]).length<=2700000:=by rw[<-tk1,uQ];lia
  refine⟨xa,L.take i,r,rfl,⟨hF,λq hq=>O.sm q (fb (i:=i+1) (by rw[tk1];exact hq)),tl⟩,?_⟩;rw[<-tk1];exact hN _ ⟨_,rfl⟩
 .rintro τ ⟨x2,rfl⟩;rw[xP,uS (ym _)];exact k L A ln
def N8 (B:ya mg bn)(D:DF K mg "_law_is_paper" b8 f fd ["_law_field_here", "_law_thing"])(lO:CO P w K mg base)(lQ:CQ P w K mg base) :
  CS P w K mg base:=by
 refine yk D Sa (λhr=>(xA (yR (PW.pt (uc (uA (wm (yO kD rfl (B.get "isinstance") kB (xi (pv 1) (kP (v:=V.ty "tuple") rfl (B.get "tuple") qf rfl))))) (uc (yG (ua hr.units) (yO (uh K) rfl (B.get "len") ug (xN (pv 1))) xl (yj _)) (vF (uA (wm (yO kD rfl (B.get "isinstance") kB (xi (xC K 1) (kP (v:=V.ty "tuple") rfl (B.get "tuple") qf rfl))))))))) (xy (xR ve)) yT) (xA (yR (PW.pt (uc (yG (ua hr.units) (yO (uh K) rfl (B.get "len") ug (xN (xC K 1))) (yO (uh K) rfl (B.get "len") ug (xN (pv 0))) (yj _)) (vF (yG (ua hr.units) (vE (ui (N:=["_law_one"]) (xQ:=[none]) (XN:=["_law_field_here", "_law_thing"]) (xs:=xH b8) (by decide +kernel) rfl rfl) rfl (vW rfl) (zB K (xC K 1)) (λ_ _ _ _=>(zi (i:=0) (show(["_law_one"]:List Str).Nodup by decide +kernel) rfl (Or.inl rfl))) (λ_ _ _ _=>(kS (PW.pt (uc (uA (wm (xr lQ hr (xN (pv 0))))) (vF (yG (qR K hr.units) (xC K 0) xl (yj _))))))) (λ_ _ _ _=>(pv 0))) (wA u5) (yj _))))) (xy (xR ve)) yT)
  (xy (xR (aa (yO kD rfl (B.get "isinstance") kB (xi (xC K 1) (kP (v:=V.ty "tuple") rfl (B.get "tuple") qf rfl))) (jX (uO (uy hr.units) (xr lO hr (xi (pv 0) (xC K 1))) (xC K 1) (yj _)))))))))
  (xB (yY (w_ (uw (zA (kL xc))) (w_ (yH (xk ub (zz uK (xM xc)) xo)) (uw (zA (kL xD))))) (xY vC) y7) (xB (yY (w_ (yH (xk ub (zz uK (xM xD)) (zz uK (xM xc)))) (yH (xk ub (zw.e (ur (zQ xD).c xK (w_ (uw (zA (xE (xM xc)))) (yH (xk qS xD xo))) xc)) (v8 (b:=true) vn)))) (xY vC) y7) (xY (sV (kL xD) (xk os_eq (xE (xn xc xD)) xD))))) λts KK hl h=>?_
 obtain⟨xa,ws,rfl,hf,g,co,k⟩:=h;have l8:=(wW hf).1.2;have ml:(xa.map xg).length=xa.length:=xP _;have WSx:=wW.ws hf g;have wl:(ws.map fT).length=xa.length:=by rw[xP];exact g.1
 refine yP (λτ=>τ=[.fz (.tup (xa.map xg)),.fz (.tup [wsT ws,vy (xa.zip ws)])]) ?_ (λN hN=>hN _ rfl);rintro _ rfl;refine yP (λτ=>τ=[.fz (.tup (xa.map xg)),.fz (.tup [wsT ws,vy (xa.zip ws)])]) ?_ (λN hN=>?_)
 rotate_left
 .refine yg (b:=!decide (((ws.map fT).length:Int)=((xa.map xg).length:Nat))) (λc=>?_) (λc=>?_)
  .have c:¬((ws.map fT).length:Int)=((xa.map xg).length:Nat):=by simpa using c
   exact absurd (by rw[wl,ml]) c
  refine⟨by rw[wl];exact wc (by lia),qJ (λ_=>false) fT (λw' hw N M h1 h0=>?_) ?_⟩
  .have W':=g.2 w' hw;have e:=W'.isFr;have nn:=W'.nn;refine⟨_,rfl,?_⟩;refine yg (b:=!sC (fT w')) (λc=>by rw[e] at c;cases c) (λ_=>?_);exact yg (b:=decide (w'.1<0)) (λc=>by have:=yU c;lia) (λ_=>h0 rfl)
  .dsimp only[fC,kG];rw[show ws.filter (λ_=>false)=[] from J_.mpr λ_ _=>uG];exact se rfl (hN _ rfl)
 rintro _ rfl;refine⟨xa,ws,rfl,WSx,?_⟩;rw[xJ co];refine⟨⟨rfl,rfl,vt (Nat.min_le_left _ _) (by show(1:Nat)<=64;decide)⟩,?_⟩;have e:zE (vy (xa.zip ws)) (vy (xa.zip ws))=true:=Tq (af _);show KK (.bl (zE (vy (xa.zip ws)) (vy (xa.zip ws))));rw[e];exact k
def Ob (B:ya mg bn)(D:DF K mg "_law_middle" e_ f fd ["_law_one", "_law_other"])(v5:rp P w K mg base)(jk:mZ P w K mg base) :
  CU P w K mg base:=by
 refine yk D Bb (λhr=>(xA (yy 2 Bb.nd (wA u5)) (xA (zX zG rfl (zB K (yB (xi xl xl))) (yi 3 Bb.nd) (xy (vf (vO qD q9 q_ qo (pv 2) (xN (xr v5 hr (xi (yB (xi xl xl)) (xr jk hr (xi (zd (zO K) (pv 0) (pv 3) (λ_ _=>rfl)) (zd (zO K) (pv 1) (pv 3) (λ_ _=>rfl))))))))))) (xy (xR (yB (xi (xC K 2) (xC K 2))))))))
  (xB (vD (kM vn)) (xB (zV (zQ (yA (b:=true) (xn xo xo))) xK.g (qq (xE (xn (yA (b:=true) (xn xo xo)) (xE (xn (wH xc xc) (wH xc xc))))))) (xY (yA (b:=true) (xn (jT xo) (jT xo)))))) λts KK hl h=>?_
 obtain⟨p,q,rfl,hp,hq,k⟩:=h;refine yP (λτ=>τ=[.fz (pT p),.fz (pT q),.ow [],.un]) ?_ (λN hN=>hN _ rfl);rintro _ rfl;have m:∀ {a:F2},Fk 21 a->Fk 900 a:=λh=>h.mono (by decide);refine⟨p.1,q.1,rfl,m hp.1,m hq.1,(1,2),_,rfl,nM.mono (by decide),(hp.1.plus hq.1).mono (by decide),wc (by simp),?_⟩;exact⟨p.2,q.2,rfl,m hp.2,m hq.2,(1,2),_,rfl,nM.mono (by decide),(hp.2.plus hq.2).mono (by decide),wc (by simp),k⟩
end
section
variable (P:Program) (w:World) {K:xw} {mg:Str->Option Value} (base:Heap) {f:Addr} {fd:FuncData}
def OS (B:ya mg bn)(F:Fun K "law" "law" kX f fd)(lW:CZ P w K mg base)(lP:CP P w K mg base)(sJ:pS P w K mg base)(sL:pU P w K mg base)(lV:CY P w K mg base)(iC:Ds P w K mg base)(lU:CW P w K mg base)(lS:CU P w K mg base)(jj:mY P w K mg base)(lR:CS P w K mg base)(wj:pY P w K mg base) :
  u_ P w K mg base CX0 13 f fd ["_law_script"] (az K):=by
 refine Nb F jr rfl (λ_ _ _ _ _ _ hr=>⟨_,_,(xA (zX zG rfl (kQ rfl (B.get "range") (xN (yO (Lc rfl) rfl (B.get "max") K3 (xi xl (yO (Eg rfl) rfl (B.get "min") Ec (xi (yO (uh K) rfl (B.get "len") ug (xN (pv 0))) xl)))))) (yi 1 jr.nd) (xA (yy 2 jr.nd (xr lW hr (xi (pv 0) (pv 1)))) (xA (yy 3 jr.nd (xr lP hr (xN (pv 2)))) (xA (yy 4 jr.nd (xq fQ (jW (K_ K) rfl (B.get "list") ox (xN (pv 3))) (xr sJ hr (xN (pv 3))))) (xA (qU (i:=5) (j:=6) rfl jr.nd rfl rfl (by decide) rfl rfl (xi (xr sL hr (xN (pv 3))) (xr lV hr (xN (pv 3)))) (by rfl))
  (xA (yy 7 jr.nd (xq fQ (xq (sY K) (pv 5) (pv 6)) (wA (xi (xr lU hr (xN (pv 2))) (yB (xi (yB (xi (xq zS (xr wj hr (xi (pv 2) xl)) xl) xl)) (yB (xi (xq zS (xr wj hr (xi (pv 2) xl)) xl) xl)))))))) (xA (zX zG rfl (kQ rfl (B.get "range") (xN (yO (Eg rfl) rfl (B.get "min") Ec (xi (yO (uh K) rfl (B.get "len") ug (xN (pv 5))) (yO (uh K) rfl (B.get "len") ug (xN (pv 6))))))) (yi 8 jr.nd) (xy (vf (vO qD q9 q_ qo (pv 7) (xN (xr lS hr (xi (zd (zO K) (pv 5) (pv 8) (λ_ _=>rfl)) (zd (zO K) (pv 6) (pv 8) (λ_ _=>rfl))))))))) (xy (zX zG rfl (zB K (pv 7)) (zi (i:=9) jr.nd rfl (Or.inr rfl)) (xA (yy 10 jr.nd (xr iC hr (xi (pv 3) (pv 9)))) (xy (yR (yG (uy hr.units) (vE (ui (N:=["_law_row", "_law_place_here"]) (xQ:=[none,some 9]) (XN:=["_law_script", "_law_k", "_law_state_here", "_law_field_here", "_law_rows", "_law_ahead", "_law_later", "_law_some", "_law_at", "_law_place_here", "_law_found"]) (xs:=xH kX) (by decide +kernel) rfl rfl) rfl (vW rfl) (zB K (pv 4)) (λ_ _ _ _=>(zi (i:=0) (show(["_law_row", "_law_place_here"]:List Str).Nodup by decide +kernel) rfl (Or.inl rfl))) (λ_ _ _ _=>(kS (uA (wm (xr jj hr (xi (pv 0) (pv 1))))))) (λ_ _ _ _=>(pv 0))) (wA u5) (yj _)) (xy (yR (gN (eh (pv 10))) (xy (xR ve)) yT)) (xy (yR (PW.pt (uc (uA (wm (xr lR hr (xi (pv 3) (pv 10))))) (vF (wm (xr jj hr (xi (xC K 10) (pv 9))))))) (xy (xR ve)) yT))))))))))))))
  (xy (xR ve))),
  (xB (zV (kN (xM (zz Lh (xn xo (zz Eh (xn OT xo)))))) xK.g (xB (PB xc) (xB (yE (wN (b:=true) vn)) (xB (yE (zw.e (sX (zw.e (Pp (xM xc))) (xE (xM xc))))) (xB (qQ (xn (xE (xM xc)) (xE (xM xc)))) (xB (vD (sX (sU xc xc) (v8 (b:=true) (xn (wN (b:=true) vn) (yA (b:=true) (xn (yA (b:=true) (xn (xk zW (wN (xM xo)) xo) xo)) (yA (b:=true) (xn (xk zW (wN (xM xo)) xo) xo)))))))) (xB (zV (kN (xM (zz Eh (xn (zz uK (xM xc)) (zz uK (xM xc)))))) xK.g (qq (xE (xn (wH xc xc) (wH xc xc))))) (G7 (i:=7) (zV (zQ xc) xK.g (xB (yE (xE (xn xc xc))) (yY (yH (xk os_eq (zw.e (ur (zQ xc).c xK (uw (zA (xE (xn xc xc)))) xc)) (v8 (b:=true) vn))) (yY (zA (iS xc)) (xY vC) y7) (yY (w_ (uw (zA (xE (xn xc xc)))) (zA (xE (xn xD xc)))) (xY vC) y7)))))))))))) (xY vC)),λns hl=>?_⟩)
 refine yP (λτ=>True) (λτ _=>rfl) (λN hN=>?_);refine qv _ (λi τ=>∃(x1 x2 x3 x4 x5 x6 x7 x8 x9 x10:TV),τ=[.sc ns,x1,x2,x3,x4,x5,x6,x7,x8,x9,x10]) (λKK h=>λ_=>⟨⟨by split<;>split<;>lia,by split<;>split<;>lia⟩,h⟩) ⟨_,_,_,_,_,_,_,_,_,_,rfl⟩ ?_ (λτ _=>hN _ trivial);rintro i x τ N2 hx ⟨x1,x2,x3,x4,x5,x6,x7,x8,x9,x10,rfl⟩ hN2;have hi:=(y8.mp hx).1;rw[uJ] at hi;rw[j1 hi] at hx;cases hx;dsimp only[gQ,jf,eName,jG];have hk:(0:Int)<=(0:Int)+i:=by lia
 generalize (0:Int)+i=kk at hk;show gR _ _ _ ([.sc ns,.fz (.int kk),x2,x3,x4,x5,x6,x7,x8,x9,x10]:xV);refine yP (λτ=>τ=[.sc ns,.fz (.int kk),.st,x3,x4,x5,x6,x7,x8,x9,x10]) ?_ (λN hN=>⟨hk,hN _ rfl⟩);rintro _ rfl;refine yP (λτ=>∃xa,LF xa/\τ=[.sc ns,.fz (.int kk),.st,.fz (.tup (xa.map xg)),x4,x5,x6,x7,x8,x9,x10]) ?_ (λN hN=>⟨rfl,λxa hF=>hN _ ⟨xa,hF,rfl⟩⟩);rintro _ ⟨xa,hF,rfl⟩;have FR:=hF.fine;have hf:=hF.isf;have l8:=hF.l8;have ml:(xa.map xg).length=xa.length:=xP _;have cl:=EA FR;refine yP (λτ=>∃L,AC xa L/\L.length<=2700000/\τ=[.sc ns,.fz (.int kk),.st,.fz (.tup (xa.map xg)),.fz (.lst ((xa++L).map xg)),x5,x6,x7,x8,x9,x10]) ?_ (λN hN=>?_)
 rotate_left
 .exact⟨xa,rfl,hF,λL A ln=>⟨t6 (by rw[xP,xP];lia),hN _ ⟨L,A,ln,by rw[wD];rfl⟩⟩⟩
 rintro _ ⟨L,A,ln,rfl⟩;have O:=A.cuts hF ln;refine yP (λτ=>∃L',AC xa L'/\L'.length<=2700000/\τ=[.sc ns,.fz (.int kk),.st,.fz (.tup (xa.map xg)),.fz (.lst ((xa++L).map xg)),.fz (.lst ((xS xa).map xF)),.fz (.lst ((xS (xa++L')).map xF)),x7,x8,x9,x10]) ?_ (λN hN=>⟨xa,rfl,FR,xa,rfl,hF,λL' A' ln'=>hN _ ⟨L',A',ln',rfl⟩⟩);rintro _ ⟨L',A',ln',rfl⟩;have O':=A'.cuts hF ln';have rl:=O'.ring.len;have pkA:∀v∈xS xa,Pk 21 (xt v):=λv hv=>tM (FR.corner hv).1.1 (FR.corner hv).2;have pkB:∀v∈xS (xa++L'),Pk 21 (xt v):=λv hv=>O'.pk hv;have up:∀ {p:P2},Pk 21 p->Pk 600 p:=λh=>⟨h.1.mono (by decide),h.2.mono (by decide)⟩
 generalize xS (xa++L')=cb at *
 refine yP (λτ=>∃ps:List P2,(∀p∈ps,Pk 600 p)/\ps.length<=6001000/\τ=[.sc ns,.fz (.int kk),.st,.fz (.tup (xa.map xg)),.fz (.lst ((xa++L).map xg)),.fz (.lst ((xS xa).map xF)),.fz (.lst (cb.map xF)),.ow (ps.map pT),x8,x9,x10]) ?_ (λN hN=>?_)
 rotate_left
 .refine⟨t6 (by rw[xP,xP];lia),rfl,λp hp=>⟨tk (by decide),λa a0 a1=>⟨tk (by decide),λc c0 c1=>⟨t6 (by simp only[ze,xP,wC,hG];lia),hN _ ⟨(xS xa).map xt++cb.map xt++[p,((a-4,1),(c-4,1))],λq hq=>?_,by simp only[ze,xP,wC,hG];lia,?_⟩⟩⟩⟩⟩
  .simp only[yz,zT,xX,y9,zh] at hq;rcases hq with (⟨v,hv,rfl⟩|⟨v,hv,rfl⟩)|rfl|rfl
   .exact up (pkA v hv)
   .exact up (pkB v hv)
   .exact hp.pk
   .exact⟨JO (by lia),JO (by lia)⟩
  .rw[wD (l₁:=(xS xa).map xt++cb.map xt),wD (l₁:=(xS xa).map xt),<-aB,<-aB];rfl
 rintro _ ⟨ps,hps,pl,rfl⟩;refine yP (λτ=>∃(ps:List P2) (x8:TV),(∀p∈ps,Pk 600 p)/\τ=[.sc ns,.fz (.int kk),.st,.fz (.tup (xa.map xg)),.fz (.lst ((xa++L).map xg)),.fz (.lst ((xS xa).map xF)),.fz (.lst (cb.map xF)),.ow (ps.map pT),x8,x9,x10]) ?_ (λN hN=>?_)
 rotate_left
 .have la:((xS xa).map xF).length=(xS xa).length:=xP _;have lb:(cb.map xF).length=cb.length:=xP _;refine qv _ (λj τ=>∃(ps:List P2) (x8:TV),(∀p∈ps,Pk 600 p)/\ps.length<=6001000+j/\τ=[.sc ns,.fz (.int kk),.st,.fz (.tup (xa.map xg)),.fz (.lst ((xa++L).map xg)),.fz (.lst ((xS xa).map xF)),.fz (.lst (cb.map xF)),.ow (ps.map pT),x8,x9,x10]) (λKK h=>⟨⟨by split<;>lia,by split<;>lia⟩,h⟩) ⟨ps,_,hps,by lia,rfl⟩ ?_ (λτ ⟨ps,x8,h1,h2,e⟩=>hN _ ⟨ps,x8,h1,e⟩);rintro j y τ N3 hy ⟨ps,x8,h1,h2,rfl⟩ hN3;have hj:=(y8.mp hy).1;rw[uJ] at hj;rw[j1 hj] at hy;cases hy;have hj2:j<(xS xa).length/\j<cb.length:=by rw[la,lb] at hj;split at hj<;>lia
  have eu:(xS xa)[j]?=some (xS xa)[j]:=yC hj2.1;have ev:cb[j]?=some cb[j]:=yC hj2.2;have mu:=zq eu;have mv:=zq ev;generalize (xS xa)[j]=u at eu mu;generalize cb[j]=v at ev mv;have a1:atT ((xS xa).map xF) ((0:Int)+j)=some (xF u):=by rw[show(0:Int)+(j:Int)=((j:Nat):Int) by lia,jF,ue,eu];rfl
  have a2:atT (cb.map xF) ((0:Int)+j)=some (xF v):=by rw[show(0:Int)+(j:Int)=((j:Nat):Int) by lia,jF,ue,ev];rfl
  show wy (atT ((xS xa).map xF) ((0:Int)+j)) _;rw[a1];show wy (atT (cb.map xF) ((0:Int)+j)) _;rw[a2];refine⟨xt u,xt v,rfl,pkA u mu,pkB v mv,by rw[xP];exact sqy (by lia),hN3 _ ⟨ps++[lF (xt u) (xt v)],_,λp hp=>?_,by rw[ze,g_];lia,by rw[wD (l₁:=ps)];rfl⟩⟩;rcases yz.mp hp with hp|hp
  .exact h1 p hp
  .rw[zF.mp hp];exact Nz (pkA u mu) (pkB v mv)
 clear hps pl ps;rintro _ ⟨ps,x8,hps,rfl⟩;refine Ml rfl ?_;show bU _ _ _ _ ([.sc ns,.fz (.int kk),.st,.fz (.tup (xa.map xg)),.fz (.lst ((xa++L).map xg)),.fz (.lst ((xS xa).map xF)),.fz (.lst (cb.map xF)),.fz (.lst (ps.map pT)),x8,x9,x10]:xV);refine qv (ps.map pT) (λj τ=>∃x9 x10:TV,τ=[.sc ns,.fz (.int kk),.st,.fz (.tup (xa.map xg)),.fz (.lst ((xa++L).map xg)),.fz (.lst ((xS xa).map xF)),.fz (.lst (cb.map xF)),.fz (.lst (ps.map pT)),x8,x9,x10]) (λKK h=>h) ⟨_,_,rfl⟩ ?_ (λτ ⟨x9,x10,e⟩=>hN2 _ ⟨_,_,_,_,_,_,_,_,x9,x10,e⟩);rintro j y τ N3 hy ⟨x9,x10,rfl⟩ hN3;obtain⟨p,hp,rfl⟩:=uY hy;have pk:=hps p (zq hp);have len:((xa++L).map xg).length<sizeLine:=by rw[xP,ze];exact sqy (by lia)
 dsimp only[gQ,jf,eName,jG];show gR _ _ _ ([.sc ns,.fz (.int kk),.st,.fz (.tup (xa.map xg)),.fz (.lst ((xa++L).map xg)),.fz (.lst ((xS xa).map xF)),.fz (.lst (cb.map xF)),.fz (.lst (ps.map pT)),x8,.fz (pT p),x10]:xV);refine yP (λτ=>(τ=[.sc ns,.fz (.int kk),.st,.fz (.tup (xa.map xg)),.fz (.lst ((xa++L).map xg)),.fz (.lst ((xS xa).map xF)),.fz (.lst (cb.map xF)),.fz (.lst (ps.map pT)),x8,.fz (pT p),.fz .non]/\∀r∈xa++L,zN r p=true)\/∃ws,τ=[.sc ns,.fz (.int kk),.st,.fz (.tup (xa.map xg)),.fz (.lst ((xa++L).map xg)),.fz (.lst ((xS xa).map xF)),.fz (.lst (cb.map xF)),.fz (.lst (ps.map pT)),x8,.fz (pT p),.fz (.tup [wsT ws,vy (xa.zip ws)])]/\GW xa.length ws/\qg (wsum k0 (xa.zip ws)) (wsum k1 (xa.zip ws))/\yL 200 (qh (xa.zip ws))/\zN (qh (xa.zip ws)) p=false/\¬ ∀r∈xa++L,zN r p=true) ?_ (λN hN=>⟨xa,p,rfl,hf,FR,pk,λLs R=>⟨λall=>hN _ (.inl ⟨rfl,(Gg hf FR R A pk.1.pos pk.2.pos).mp all⟩),λws g co m nk=>hN _ (.inr ⟨ws,rfl,g,co,(nP (R.frow hf FR _ m).1).mono (by decide),nk,λall=>?_⟩)⟩⟩)
 rotate_left
 .have:=(Gg hf FR R A pk.1.pos pk.2.pos).mpr all _ m;rw[nk] at this;cases this
 have all_iff:((xa++L).all λr=>!!zN r p)=true↔∀r∈xa++L,zN r p=true:=by rw[j9];simp only[BH]
 rintro _ (⟨rfl,all⟩|⟨ws,rfl,g,co,b2,nk,na⟩)
 .refine⟨len,qJ (f:=xg) (λr=>!zN r p) xg (λr hr N M h1 h0=>⟨r,p,rfl,(O.b r hr).mono (by decide),pk.1,pk.2,yg (b:=!zN r p) h1 h0⟩) ?_⟩;dsimp only[fC,kG];refine se (fx xg af _) ?_;rw[pG,filter_empty];refine yg (b:=(xa++L).all λr=>!!zN r p) (λ_=>hN3 _ ⟨_,_,rfl⟩) (λc=>?_);rw[all_iff.mpr all] at c;cases c
 .refine⟨len,qJ (f:=xg) (λr=>!zN r p) xg (λr hr N M h1 h0=>⟨r,p,rfl,(O.b r hr).mono (by decide),pk.1,pk.2,yg (b:=!zN r p) h1 h0⟩) ?_⟩;dsimp only[fC,kG];refine se (fx xg af _) ?_;rw[pG,filter_empty];refine yg (b:=(xa++L).all λr=>!!zN r p) (λc=>absurd (all_iff.mp c) na) (λ_=>?_);refine⟨xa,ws,rfl,hf,g,co,qh (xa.zip ws),p,rfl,b2,pk.1,pk.2,?_⟩;exact yg (b:=zN (qh (xa.zip ws)) p) (λc=>by rw[nk] at c;cases c) (λ_=>hN3 _ ⟨_,_,rfl⟩)
end
def all_mk {l:PySem.W.OpenLaw}{w:World}{K:xw}{h:Heap}{mg:Str->Option Value}{fa:Addr}{fn:Addr}{od an:Option Addr}{sl:Array (Option Value)}{oc kV dc pm cd ct:Value}{tc1:Tok}(X:K.In h)(G:h.Ns mainGlobals mg)(hfa:mg "law" = some (.ref fa))
  (d1:DD K "is_whole" AH) (d2:DD K "greatest_divisor" Az) (d3:DD K "beyond" An) (d4:DD K "is_ahead" AA) (d5:DD K "turn_to" A5) (d6:DD K "is_near" cj) (d7:DD K "is_broken" AB) (d8:DD K "makes_one" AK) (d9:DD K "direction_of" Au) (d10:DD K "weights_of_row" A8) (d11:DD K "cut_of" Ar) (d12:DD K "_law_cell_at" eR) (d13:DD K "_law_take" Ai) (d14:DD K "_law_divisor" eV) (d15:DD K "_law_less" eY) (d16:DD K "_law_all_cuts" eQ) (d17:DD K "_law_whole" Al) (d18:DD K "are_whole" b_) (d19:DD K "lowest" AJ) (d20:DD K "where_crossed" cB) (d21:DD K "from_least" Aw) (d22:DD K "furthest" Ax) (d23:DD K "points_back" AX) (d24:DD K "need_turn" AM) (d25:DD K "undivided" A6) (d26:DD K "next_least" AO) (d27:DD K "next_behind" AN) (d28:DD K "next_to_the_left" AQ) (d29:DD K "whole_sum" tT) (d30:DD K "_law_state" Af) (d31:DD K "_law_field" tR) (d32:DD K "_law_low" eZ) (d33:DD K "_law_is_fraction" eW) (d34:DD K "plus" AW) (d35:DD K "times" A4) (d36:DD K "places_of" cp) (d37:DD K "cut_piece" As) (d38:DD K "is_row" AF) (d39:DD K "go_round" Ay) (d40:DD K "is_direction" AD) (d41:DD K "between" Am) (d42:DD K "sides_among" AZ) (d43:DD K "sum_of" cq) (d44:DD K "_law_crossing" eT) (d45:DD K "_law_value" Ak) (d46:DD K "_law_minus" Aa) (d47:DD K "_law_times" Aj) (d48:DD K "_law_plus" Ad) (d49:DD K "_law_over" Ab) (d50:DD K "_law_place" Ac) (d51:DD K "cut_down" Aq) (d52:DD K "value" A7) (d53:DD K "is_field_row" AE) (d54:DD K "parts" AU) (d55:DD K "paper_of" AR) (d56:DD K "_law_keeps" eX) (d57:DD K "_law_cross" eS) (d58:DD K "_law_summed" Ag) (d59:DD K "_law_middle" e_) (d60:DD K "piece_left" AV) (d61:DD K "keeps" AI) (d62:DD K "is_tight" AG) (d63:DD K "weights_towards" A9) (d64:DD K "_law_all_left" bY) (d65:DD K "_law_cut" eU) (d66:DD K "corners_left" Ap) (d67:DD K "tight_numbers" cA) (d68:DD K "_law_ring" ak) (d69:DD K "_law_is_paper" b8) (d70:DD K "is_field" tS) (d71:DD K "sides_at" A3) (d72:DD K "_law_corners" b7) (d73:DD K "_law_clipped" bZ) (d74:DD K "need_field" AL) (d75:DD K "papers_at" AS) (d76:DD K "_law_round" Ae) (d77:DD K "corners" Ao) (d78:DD K "broken" cg) (d79:DD K "round_papers" AY) (d80:DD K "paper_against" ck)
  (aN:PySem.W.nsIn K mainGlobals "law" = some (some (.ref fn))) (ln:K.lookup fn=some ⟨oc,od,.func (PySem.W.fnOf "law" "law" (qL kX) (vb kX) (xH kX) .none kV dc pm an cd ct),sl⟩) (cn:PySem.W.codeIn K cd "law" = true) (kn:PySem.W.keepIn K (.ref fn)=true)
  (z1:PySem.W.nsIn K mainGlobals "len" = some none)
  (z2:PySem.W.nsIn K mainGlobals "range" = some none)
  (z3:PySem.W.nsIn K mainGlobals "max" = some none)
  (z4:PySem.W.nsIn K mainGlobals "min" = some none)
  (z5:PySem.W.nsIn K mainGlobals "abs" = some none)
  (z6:PySem.W.nsIn K mainGlobals "isinstance" = some none)
  (z7:PySem.W.nsIn K mainGlobals "tuple" = some none)
  (z8:PySem.W.nsIn K mainGlobals "list" = some none)
  (z9:PySem.W.nsIn K mainGlobals "int" = some none)
  (z10:PySem.W.nsIn K mainGlobals "bool" = some none)
  (z11:PySem.W.nsIn K mainGlobals "str" = some none)
  (z12:PySem.W.nsIn K mainGlobals "dict" = some none)
  (z13:PySem.W.nsIn K mainGlobals "all" = some none)
  (z14:PySem.W.nsIn K mainGlobals "zip" = some none)
  (z15:PySem.W.nsIn K mainGlobals "enumerate" = some none)
  (z16:PySem.W.nsIn K mainGlobals "ValueError" = some none)
  (y1:PySem.W.nsIn K mainGlobals "FAR" = some (some (.int 60001 tc1))) :
  ∃fd:FuncData,(∀(s:Shared) (v:Value),BindsTo s fd ⟨[v],[]⟩ [("_law_script", v)])/\∀base:Heap,K.In base->base.Ns mainGlobals mg->u_ l.prog w K mg base CX0 13 fa fd ["_law_script"] (az K):=by
 have e:=hfa.symm.trans (yd X G aN);cases e;obtain⟨f1,e1,a1,F1⟩:=d1;obtain⟨f2,e2,a2,F2⟩:=d2;obtain⟨f3,e3,a3,F3⟩:=d3;obtain⟨f4,e4,a4,F4⟩:=d4;obtain⟨f5,e5,a5,F5⟩:=d5;obtain⟨f6,e6,a6,F6⟩:=d6;obtain⟨f7,e7,a7,F7⟩:=d7;obtain⟨f8,e8,a8,F8⟩:=d8;obtain⟨f9,e9,a9,F9⟩:=d9;obtain⟨f10,e10,a10,F10⟩:=d10;obtain⟨f11,e11,a11,F11⟩:=d11;obtain⟨f12,e12,a12,F12⟩:=d12;obtain⟨f13,e13,a13,F13⟩:=d13;obtain⟨f14,e14,a14,F14⟩:=d14;obtain⟨f15,e15,a15,F15⟩:=d15;obtain⟨f16,e16,a16,F16⟩:=d16;obtain⟨f17,e17,a17,F17⟩:=d17;obtain⟨f18,e18,a18,F18⟩:=d18;obtain⟨f19,e19,a19,F19⟩:=d19;obtain⟨f20,e20,a20,F20⟩:=d20;obtain⟨f21,e21,a21,F21⟩:=d21;obtain⟨f22,e22,a22,F22⟩:=d22;obtain⟨f23,e23,a23,F23⟩:=d23;obtain⟨f24,e24,a24,F24⟩:=d24;obtain⟨f25,e25,a25,F25⟩:=d25;obtain⟨f26,e26,a26,F26⟩:=d26;obtain⟨f27,e27,a27,F27⟩:=d27;obtain⟨f28,e28,a28,F28⟩:=d28;obtain⟨f29,e29,a29,F29⟩:=d29;obtain⟨f30,e30,a30,F30⟩:=d30;obtain⟨f31,e31,a31,F31⟩:=d31;obtain⟨f32,e32,a32,F32⟩:=d32;obtain⟨f33,e33,a33,F33⟩:=d33;obtain⟨f34,e34,a34,F34⟩:=d34;obtain⟨f35,e35,a35,F35⟩:=d35;obtain⟨f36,e36,a36,F36⟩:=d36;obtain⟨f37,e37,a37,F37⟩:=d37;obtain⟨f38,e38,a38,F38⟩:=d38;obtain⟨f39,e39,a39,F39⟩:=d39;obtain⟨f40,e40,a40,F40⟩:=d40;obtain⟨f41,e41,a41,F41⟩:=d41;obtain⟨f42,e42,a42,F42⟩:=d42;obtain⟨f43,e43,a43,F43⟩:=d43;obtain⟨f44,e44,a44,F44⟩:=d44;obtain⟨f45,e45,a45,F45⟩:=d45;obtain⟨f46,e46,a46,F46⟩:=d46;obtain⟨f47,e47,a47,F47⟩:=d47;obtain⟨f48,e48,a48,F48⟩:=d48;obtain⟨f49,e49,a49,F49⟩:=d49;obtain⟨f50,e50,a50,F50⟩:=d50;obtain⟨f51,e51,a51,F51⟩:=d51;obtain⟨f52,e52,a52,F52⟩:=d52;obtain⟨f53,e53,a53,F53⟩:=d53;obtain⟨f54,e54,a54,F54⟩:=d54;obtain⟨f55,e55,a55,F55⟩:=d55;obtain⟨f56,e56,a56,F56⟩:=d56;obtain⟨f57,e57,a57,F57⟩:=d57;obtain⟨f58,e58,a58,F58⟩:=d58;obtain⟨f59,e59,a59,F59⟩:=d59;obtain⟨f60,e60,a60,F60⟩:=d60;obtain⟨f61,e61,a61,F61⟩:=d61;obtain⟨f62,e62,a62,F62⟩:=d62;obtain⟨f63,e63,a63,F63⟩:=d63;obtain⟨f64,e64,a64,F64⟩:=d64;obtain⟨f65,e65,a65,F65⟩:=d65;obtain⟨f66,e66,a66,F66⟩:=d66;obtain⟨f67,e67,a67,F67⟩:=d67;obtain⟨f68,e68,a68,F68⟩:=d68;obtain⟨f69,e69,a69,F69⟩:=d69;obtain⟨f70,e70,a70,F70⟩:=d70;obtain⟨f71,e71,a71,F71⟩:=d71;obtain⟨f72,e72,a72,F72⟩:=d72;obtain⟨f73,e73,a73,F73⟩:=d73;obtain⟨f74,e74,a74,F74⟩:=d74;obtain⟨f75,e75,a75,F75⟩:=d75;obtain⟨f76,e76,a76,F76⟩:=d76;obtain⟨f77,e77,a77,F77⟩:=d77;obtain⟨f78,e78,a78,F78⟩:=d78;obtain⟨f79,e79,a79,F79⟩:=d79;obtain⟨f80,e80,a80,F80⟩:=d80;have F81:=FD (st:=kX) ln cn kn;have B:ya mg bn:=⟨λx hx=>by
  simp only[bn,xX,y9,zh] at hx;rcases hx with rfl|rfl|rfl|rfl|rfl|rfl|rfl|rfl|rfl|rfl|rfl|rfl|rfl|rfl|rfl|rfl
  .exact vQ X G z1
  .exact vQ X G z2
  .exact vQ X G z3
  .exact vQ X G z4
  .exact vQ X G z5
  .exact vQ X G z6
  .exact vQ X G z7
  .exact vQ X G z8
  .exact vQ X G z9
  .exact vQ X G z10
  .exact vQ X G z11
  .exact vQ X G z12
  .exact vQ X G z13
  .exact vQ X G z14
  .exact vQ X G z15
  .exact vQ X G z16⟩
 have jg:=yd X G y1;refine⟨PySem.W.fnOf "law" "law" (qL kX) (vb kX) (xH kX) .none kV dc pm an cd ct,λs v=>.of_eq rfl,λbase XB _=>?_⟩;have iu:=OQ l.prog w base B ⟨F1,yd X G a1,wu "thing" F1⟩;have qp:=OH l.prog w base B ⟨F2,yd X G a2,yW "one" "other" F2⟩;have jS:=Ov l.prog w base B ⟨F3,yd X G a3,yW "row" "corner" F3⟩;have ib:=OI l.prog w base B ⟨F4,yd X G a4,yW "one" "other" F4⟩;have wk:=Pf l.prog w base B ⟨F5,yd X G a5,yW "one" "other" F5⟩;have ip:=ON l.prog w base B ⟨F6,yd X G a6,wu "place" F6⟩;have ic:=OJ l.prog w base B ⟨F7,yd X G a7,wu "place" F7⟩;have iy:=OV l.prog w base B ⟨F8,yd X G a8,yW "a" "b" F8⟩;have gD:=OD l.prog w base B ⟨F9,yd X G a9,wu "row" F9⟩;have iO:=Pj l.prog w base B ⟨F10,yd X G a10,yW "field" "number" F10⟩;have l7:=OB l.prog w base B ⟨F11,yd X G a11,wu "totals" F11⟩;have lK:=NU l.prog w base B ⟨F12,yd X G a12,yW "_law_script" "_law_k" F12⟩;have wj:=Tn (Ol l.prog w base F13 (yd X G a13) (yW "_law_state_here" "_law_many" F13));have sM:=N0 l.prog w base B ⟨F14,yd X G a14,yW "_law_one" "_law_other" F14⟩;have bj:=N_ l.prog w base B ⟨F15,yd X G a15,yW "_law_one" "_law_other" F15⟩;have sJ:=NR l.prog w base B ⟨F16,yd X G a16,wu "_law_rows" F16⟩;have br:=Oq l.prog w base B ⟨F17,yd X G a17,wu "_law_thing" F17⟩;have sO:=Ot l.prog w base B ⟨F18,yd X G a18,wu "things" F18⟩ iu;have vm:=OU l.prog w base B ⟨F19,yd X G a19,yW "top" "bottom" F19⟩ qp;have iQ:=Pm l.prog w base B ⟨F20,yd X G a20,gf "row" "one" "other" F20⟩ qp jS;have l_:=OE l.prog w base B ⟨F21,yd X G a21,wu "piece" F21⟩ ib;have bz:=OF l.prog w base B ⟨F22,yd X G a22,gf "first" "rows" "sign" F22⟩ wk;have iI:=O9 l.prog w base B ⟨F23,yd X G a23,yW "first" "rows" F23⟩ wk;have sR:=OX l.prog w base B ⟨F24,yd X G a24,yW "one" "other" F24⟩ wk;have bC:=Pg l.prog w base B ⟨F25,yd X G a25,wu "direction" F25⟩ qp;have iA:=OZ l.prog w base B ⟨F26,yd X G a26,yW "first" "last" F26⟩ iy wk;have iz:=OY l.prog w base B ⟨F27,yd X G a27,gf "before" "here" "last" F27⟩ wk;have iB:=O1 l.prog w base B ⟨F28,yd X G a28,gf "rows" "numbers" "number" F28⟩ wk;have iR:=Pn l.prog w base B ⟨F29,yd X G a29,yW "rows" "weights" F29⟩ qp;have lW:=Oi l.prog w base F30 (yd X G a30) (yW "_law_script" "_law_k" F30) lK;have lP:=N6 l.prog w base B ⟨F31,yd X G a31,wu "_law_state_here" F31⟩ wj;have w5:=Oa l.prog w base B ⟨F32,yd X G a32,yW "_law_top" "_law_bottom" F32⟩ sM;have lQ:=N7 l.prog w base B ⟨F33,yd X G a33,wu "_law_thing" F33⟩ br sM;have iH:=O8 l.prog w base B ⟨F34,yd X G a34,yW "one" "other" F34⟩ vm;have bA:=Pe l.prog w base B ⟨F35,yd X G a35,yW "whole" "fraction" F35⟩ vm;have iG:=O7 l.prog w base B ⟨F36,yd X G a36,wu "piece" F36⟩ vm l_;have l9:=OC l.prog w base B ⟨F37,yd X G a37,yW "piece" "row" F37⟩ iQ jS;have iq:=OO l.prog w base B ⟨F38,yd X G a38,wu "thing" F38⟩ sO;have ia:=OG l.prog w base B ⟨F39,yd X G a39,wu "rows" F39⟩ bz iI wk;have ie:=OK l.prog w base B ⟨F40,yd X G a40,wu "thing" F40⟩ sO;have lY:=Ou l.prog w base B ⟨F41,yd X G a41,yW "one" "other" F41⟩ sR bC iA iz;have iK:=Pa l.prog w base B ⟨F42,yd X G a42,yW "rows" "numbers" F42⟩ iB;have iM:=Pc l.prog w base B ⟨F43,yd X G a43,yW "rows" "weights" F43⟩ iR vm;have lN:=NY l.prog w base B ⟨F44,yd X G a44,yW "_law_one" "_law_other" F44⟩ w5;have fO:=Oo l.prog w base B ⟨F45,yd X G a45,yW "_law_row" "_law_place_here" F45⟩ w5;have vZ:=Oc l.prog w base B ⟨F46,yd X G a46,yW "_law_one" "_law_other" F46⟩ w5;have v5:=Om l.prog w base B ⟨F47,yd X G a47,yW "_law_one" "_law_other" F47⟩ w5;have jk:=Of l.prog w base B ⟨F48,yd X G a48,yW "_law_one" "_law_other" F48⟩ w5;have lT:=Od l.prog w base B ⟨F49,yd X G a49,yW "_law_one" "_law_other" F49⟩ w5;have lU:=Oe l.prog w base B ⟨F50,yd X G a50,wu "_law_state_here" F50⟩ w5 wj;have l6:=OA l.prog w base B ⟨F51,yd X G a51,yW "piece" "rows" F51⟩ l9;have sT:=Ph l.prog w base B ⟨F52,yd X G a52,yW "row" "place" F52⟩ iH bA;have ik:=OM l.prog w base B ⟨F53,yd X G a53,wu "thing" F53⟩ iq;have iE:=O5 l.prog w base B ⟨F54,yd X G a54,gf "one" "other" "thing" F54⟩ sR ie wk vm;have sS:=O3 l.prog w base B ⟨F55,yd X G a55,yW "field" "weights" F55⟩ l7 iM;have jj:=N9 l.prog w base B ⟨F56,yd X G a56,yW "_law_row" "_law_place_here" F56⟩ fO;have lM:=NX l.prog w base B ⟨F57,yd X G a57,gf "_law_one" "_law_other" "_law_third" F57⟩ v5 vZ;have lX:=Oj l.prog w base B ⟨F58,yd X G a58,yW "_law_rows" "_law_weights" F58⟩ jk v5;have lS:=Ob l.prog w base B ⟨F59,yd X G a59,yW "_law_one" "_law_other" F59⟩ v5 jk;have iF:=O6 l.prog w base B ⟨F60,yd X G a60,wu "rows" F60⟩ jg l6;have iw:=OR l.prog w base B ⟨F61,yd X G a61,yW "row" "place" F61⟩ sT;have ir:=OP l.prog w base B ⟨F62,yd X G a62,yW "row" "place" F62⟩ sT;have iP:=Pl l.prog w base B ⟨F63,yd X G a63,gf "field" "pair" "direction" F63⟩ iE gD;have lJ:=NS l.prog w base B ⟨F64,yd X G a64,gf "_law_here" "_law_place_here" "_law_some" F64⟩ lM;have lO:=NZ l.prog w base B ⟨F65,yd X G a65,yW "_law_rows" "_law_weights" F65⟩ lX;have sP:=Oz l.prog w base B ⟨F66,yd X G a66,wu "rows" F66⟩ iG iF;have iN:=Pd l.prog w base B ⟨F67,yd X G a67,yW "rows" "place" F67⟩ ir;have sN:=Og l.prog w base B ⟨F68,yd X G a68,wu "_law_places" F68⟩ bj lJ;have lR:=N8 l.prog w base B ⟨F69,yd X G a69,yW "_law_field_here" "_law_thing" F69⟩ lO lQ;have ig:=OL l.prog w base B ⟨F70,yd X G a70,wu "thing" F70⟩ ia ip sP ik;have iL:=Pb l.prog w base B ⟨F71,yd X G a71,yW "field" "place" F71⟩ iK iN;have sL:=NW l.prog w base B ⟨F72,yd X G a72,wu "_law_rows" F72⟩ sN lN jj;have lL:=NV l.prog w base B ⟨F73,yd X G a73,yW "_law_places" "_law_row" F73⟩ sN vZ fO lT jk v5 jj;have sQ:=OW l.prog w base B ⟨F74,yd X G a74,wu "thing" F74⟩ ig;have iD:=O4 l.prog w base B ⟨F75,yd X G a75,yW "field" "place" F75⟩ iL lY gD sS iP;have lV:=Oh l.prog w base B ⟨F76,yd X G a76,wu "_law_rows" F76⟩ sL sJ lL;have l5:=Oy l.prog w base B ⟨F77,yd X G a77,wu "field" F77⟩ sQ sP;have lZ:=Ow l.prog w base B ⟨F78,yd X G a78,wu "field" F78⟩ l5 ic;have iJ:=O_ l.prog w base B ⟨F79,yd X G a79,wu "field" F79⟩ lZ iD;have iC:=O2 l.prog w base B ⟨F80,yd X G a80,yW "field" "place" F80⟩ sQ sS iJ iO iw;exact OS l.prog w base B F81 lW lP sJ sL lV iC lU lS jj lR wj
def walk {l:PySem.W.OpenLaw}{q:Program}{loose:List Str}{XP:(Str->Option Value)->Heap->Prop}{YP:World->Heap->Prop}{d:DefRec}{K:Params->xw}(hn:l.most=some 63)(hdf:d.params.defaults=[])
  (hY:∀(w:World) (h:Heap),YP w h->(K w.params).In h) (hT:∀P,BA (K P)=none)
  (F:∀(w:World) (mg:Str->Option Value) (fa:Addr) (h:Heap),(K w.params).In h->h.Ns mainGlobals mg->mg d.name=some (.ref fa)->∃fd:FuncData,(∀(s:Shared) (u:Value),BindsTo s fd ⟨[u],[]⟩ [("_law_script", u)])/\∀base:Heap,(K w.params).In base->base.Ns mainGlobals mg->u_ l.prog w (K w.params) mg base CX0 13 fa fd ["_law_script"] (az (K w.params))) :
  PySem.W.WalkO q loose XP YP l.row.toRowW d [] (λf vs=>PySem.call f vs):=
 L2.TU (n:=63) (k:=13) (x := "_law_script") (CX:=λ_=>CX0) (sp:=λw=>az (K w.params)) hn (by decide) hdf ⟨rfl,by decide,by decide⟩ hY F (λ_ _ a ns hl hO hS=>⟨a,ns,rfl,⟨λb=>.inl (hO b),h9.none (hT _)⟩,hS,hl,λ_=>rfl⟩) λ_ _ _ _ _ z=>z
def ke (k:Str)(t:Nat)(v:Value):Str×Nat×Value:=(k,t,v)
def kd (P:Params)(n:Nat)(l:List (Str×Nat×Value)):Obj:=⟨.type "dict", none,.dict ⟨l.map λe=>⟨PyData.keyHash P e.1,.str e.1 e.2.1,e.2.2⟩⟩ n,#[]⟩
def kf (x:Str)(st:Stmt)(cd:Nat)(m:Str)(t:Nat):Obj:=⟨.type "function", none,.func (PySem.W.fnOf x x (qL st) (vb st) (xH st) .none .none .none (.str m t) none (.ref cd) .none),#[]⟩
def kp (x:Str)(st:Stmt):Obj:=⟨.none,none,.func {name:=x,qualname:=x,params:=qL st,body:=.stmts (vb st),scope:=xH st,globals:=0,closure:=[],defaults:=.none,kwdefaults:=.none},#[]⟩
def kc (x:Str)(a l n m c d:Nat)(u v:Value)(e t f:Nat):Obj:=⟨.type "code", none,.fields ⟨[.str x a,.str x (a+1),.str "/claim/cut.py" (a+2),.int l 0,.int n 0,.int 0 0,.int 0 0,.int m 0,.ref c,.bool true,.int 181 0,.ref d,.none,u,v,.ref e,.int t 0,.int l 0,.str "/claim/cut.py" f]⟩,#[]⟩
def k0:Obj:=⟨.none,none,.fields ⟨[]⟩,#[]⟩
def k1 (l:List Value):Obj:=⟨.type "tuple", none,.seq ⟨l⟩ 0,#[]⟩
def tp (p:Program)(i:Nat):Stmt:=p.main.body.getD i (.Pass ⟨0,0,0,0⟩)
def tq:List (Int×Nat):=[(2,20),(4,33),(6,45),(8,57),(11,69),(13,74),(15,81),(20,88),(23,95),(25,102),(29,109),(31,116),(33,123),(37,128),(39,135),(50,142),(54,147),(59,154),(65,161),(68,168),(72,175),(74,182),(77,189),(80,196),(82,203),(91,210),(97,217),(103,222),(109,229),(114,234),(116,241),(120,248),(123,253),(125,258),(127,265),(131,272),(139,279),(144,286),(148,293),(155,300),(159,307),(164,314),(167,321),(177,328),(179,335),(186,342),(193,349),(195,356),(203,363),(208,368),(211,373),(221,380),(226,387),(229,394),(235,401),(242,406),(250,413),(254,420),(259,427),(268,432),(293,439),(297,446),(302,453),(308,460),(311,467),(314,474),(316,481),(318,488),(320,495),(323,500),(337,505),(339,510),(347,517),(359,524),(361,531),(363,536),(378,543),(383,550),(386,557),(392,564),(397,571),(399,578),(403,583),(409,590),(414,595)]
def tl (n:Nat):Obj:=⟨.none,none,.fields ⟨(tq.take n).flatMap λx=>[.int x.1 0,.int 0 0,.ref x.2]⟩,#[]⟩
def kx (n:Str)(b a s m p q:Nat):Obj:=⟨.type "type", none,.cls {name:=n,bases:=[.ref b],mro:=[.ref a,.ref b,.type "ValueError", .type "Exception", .type "BaseException", .type "object"],ns:=s,qualname:=n,hasDict:=true,slotNames:=[],subclasses:=[],abstract:=false,hasDel:=false},⟨[some (.ref m),none,some (.str n p),some (.str n q),some (.builtin "ValueError.__new__"),some (.bool true)]⟩⟩
def ky (x:Str)(a b c:Nat)(l:Int)(d e:Nat)(i j:Int)(k:Nat):Obj:=⟨.type "code", none,.fields ⟨[.str x a,.str x b,.str "/claim/cut.py" c,.int l 0,.int 0 0,.int 0 0,.int 0 0,.int 0 0,.ref d,.bool false,.int 181 0,.ref e,.none,.none,.none,.none,.int i 0,.int j 0,.str "/claim/cut.py" k]⟩,#[]⟩
def kz (a b c:Nat)(x:Str)(d e:Nat):Obj:=⟨.type "frame", none,.plain,⟨[some (.ref a),some (.ref b),some (.ref c),none,some (.str x d),none,some (.ref e)]⟩⟩
def kv (x:String)(v:Value):Obj:=⟨.type "builtin_function_or_method", none,.fields ⟨[.builtin x,v]⟩,#[]⟩
def kq (a:Nat)(x:Str)(b c:Nat)(y:Str)(d e:Nat)(i:Int)(f g h:Nat):List (Str×Nat×Value):=ke "__module__" a (.str x b)::ke "__qualname__" c (.str y d)::ke "__firstlineno__" e (.int i f)::ke "__static_attributes__" g (.ref h)::[]
def kr (a:Nat)(x:Str)(b e:Nat)(i:Int)(f g h d:Nat):List (Str×Nat×Value):=ke "__module__" a (.str x b)::ke "__firstlineno__" e (.int i f)::ke "__static_attributes__" g (.ref h)::ke "__doc__" d .none::[]
def lw:Str := "law_roundcuts_k18_papers_against_places"
def lw0:Str := "roundcuts.corners"
def lw1:Str := "roundcuts.errors"
def lw2:Str := "roundcuts.fields"
def lw3:Str := "roundcuts.fractions"
def lw4:Str := "roundcuts.pieces"
def lw5:Str := "roundcuts.rounds"
def lw6:Str := "roundcuts.rows"
def lw7:Str := "roundcuts.sides"
def lw8:Str := "roundcuts.sums"
def lw9:Str := "roundcuts.turns"
def mn:List (Str×Nat×Value):=ke "__name__" 165 (.str lw 736)::ke "__doc__" 166 .none::ke "__package__" 167 .none::ke "__loader__" 168 (.builtin "__main__.__loader__#opaque")::ke "__spec__" 169 .none::ke "__annotations__" 170 (.ref 6)::ke "__builtins__" 171 (.ref 4)::ke "__file__" 173 (.str "/claim/cut.py" 172)::ke "__cached__" 174 .none::ke "CutError" 206 (.ref 24)::ke "NoField" 222 (.ref 37)::ke "NoCut" 238 (.ref 49)::ke "NoTurn" 254 (.ref 61)::ke "is_whole" 263 (.ref 70)::ke "are_whole" 269 (.ref 75)::ke "greatest_divisor" 277 (.ref 82)::ke "lowest" 286 (.ref 89)::ke "plus" 294 (.ref 96)::ke "times" 302 (.ref 103)::ke "FAR" 306 (.int 60001 305)::ke "corners_left" 313 (.ref 110)::ke "piece_left" 320 (.ref 117)::ke "cut_down" 329 (.ref 124)::ke "places_of" 335 (.ref 129)::ke "cut_piece" 348 (.ref 136)::ke "beyond" 362 (.ref 143)::ke "where_crossed" 368 (.ref 148)::ke "from_least" 378 (.ref 155)::ke "is_ahead" 386 (.ref 162)::ke "is_row" 395 (.ref 169)::ke "value" 403 (.ref 176)::ke "keeps" 413 (.ref 183)::ke "is_tight" 423 (.ref 190)::ke "turn_to" 431 (.ref 197)::ke "go_round" 441 (.ref 204)::ke "furthest" 452 (.ref 211)::ke "points_back" 461 (.ref 218)::ke "is_field" 469 (.ref 223)::ke "is_field_row" 479 (.ref 230)::ke "is_near" 485 (.ref 235)::ke "need_field" 492 (.ref 242)::ke "corners" 501 (.ref 249)::ke "tight_numbers" 507 (.ref 254)::ke "broken" 513 (.ref 259)::ke "is_broken" 522 (.ref 266)::ke "parts" 536 (.ref 273)::ke "need_turn" 545 (.ref 280)::ke "is_direction" 552 (.ref 287)::ke "between" 563 (.ref 294)::ke "undivided" 573 (.ref 301)::ke "next_least" 586 (.ref 308)::ke "next_behind" 596 (.ref 315)::ke "makes_one" 611 (.ref 322)::ke "sides_at" 621 (.ref 329)::ke "sides_among" 632 (.ref 336)::ke "next_to_the_left" 643 (.ref 343)::ke "direction_of" 650 (.ref 350)::ke "weights_towards" 663 (.ref 357)::ke "weights_of_row" 672 (.ref 364)::ke "sum_of" 680 (.ref 369)::ke "whole_sum" 686 (.ref 374)::ke "cut_of" 696 (.ref 381)::ke "paper_of" 704 (.ref 388)::ke "round_papers" 716 (.ref 395)::ke "papers_at" 729 (.ref 402)::ke "paper_against" 735 (.ref 407)::ke "_law_cell_at" 745 (.ref 414)::ke "_law_state" 754 (.ref 421)::ke "_law_take" 764 (.ref 428)::ke "_law_field" 770 (.ref 433)::ke "_law_divisor" 778 (.ref 440)::ke "_law_low" 787 (.ref 447)::ke "_law_crossing" 797 (.ref 454)::ke "_law_value" 807 (.ref 461)::ke "_law_keeps" 816 (.ref 468)::ke "_law_less" 824 (.ref 475)::ke "_law_minus" 832 (.ref 482)::ke "_law_times" 840 (.ref 489)::ke "_law_cross" 850 (.ref 496)::ke "_law_ring" 856 (.ref 501)::ke "_law_all_left" 862 (.ref 506)::ke "_law_corners" 868 (.ref 511)::ke "_law_all_cuts" 888 (.ref 518)::ke "_law_plus" 896 (.ref 525)::ke "_law_over" 904 (.ref 532)::ke "_law_clipped" 910 (.ref 537)::ke "_law_round" 919 (.ref 544)::ke "_law_place" 927 (.ref 551)::ke "_law_summed" 939 (.ref 558)::ke "_law_cut" 950 (.ref 565)::ke "_law_whole" 957 (.ref 572)::ke "_law_is_fraction" 964 (.ref 579)::ke "_law_is_paper" 970 (.ref 584)::ke "_law_middle" 980 (.ref 591)::ke "law" 986 (.ref 596)::[]
def kn:List Str->Nat->List Value
 |[],_=>[]
 |v::vs,a=>.str v a::kn vs (a+1)
def kg (p:Program)(x:Str)(i a l n c:Nat)(m:Str)(t:Nat)(vs:List Str)(r:List Obj):List Obj:=k1 []::k0::k1 (kn vs (a+3))::k1 []::kp x (tp p i)::kc x a l n 3 c (c+1) (.ref (c+2)) (.ref (c+3)) (c+4) (a+3+vs.length) (a+4+vs.length)::kf x (tp p i) (c+5) m t::r
def kh (p:Program)(x:Str)(i a l n c:Nat)(m:Str)(t:Nat)(r:List Obj):List Obj:=k1 []::k0::kp x (tp p i)::kc x a l n 3 c (c+1) .none .none (c+2) (a+3) (a+4)::kf x (tp p i) (c+3) m t::r
def ob (p:Program)(P:Params):List Obj:=k1 []::tl 85::ky "<module>" 182 183 184 1 11 12 185 1 186::kz 13 3 3 "__main__" 164 0::k1 [(.type "ValueError")]::kv "type.__prepare__" (.type "type")::kd P 4 (kq 196 lw1 187 198 "CutError" 197 200 2 199 201 22)::k1 []::k0::ky "CutError" 191 192 193 2 18 19 194 2 195::kz 20 3 17 lw1 187 0::k1 []::kd P 3 (ke "__module__" 196 (.str lw1 187)::ke "__firstlineno__" 200 (.int 2 199)::ke "__static_attributes__" 201 (.ref 22)::ke "__weakref__" 203 (.ref 25)::ke "__doc__" 204 .none::[])::⟨(.type "type"),none,.cls {name := "CutError", bases:=[(.type "ValueError")],mro:=[(.ref 24),(.type "ValueError"),(.type "Exception"),(.type "BaseException"),(.type "object")],ns:=23,qualname := "CutError", hasDict:=true,slotNames:=[],subclasses:=[(.ref 37),(.ref 49),(.ref 61)],abstract:=false,hasDel:=false},⟨[some (.ref 15),none,some (.str "CutError" 189),some (.str "CutError" 197),some (.builtin "ValueError.__new__"),some (.bool true)]⟩⟩::⟨(.type "getset_descriptor"),none,.fields ⟨[(.str "__weakref__" 202),(.ref 24),(.builtin "ExceptionGroup.__weakref__"),.none]⟩,#[]⟩::⟨(.type "super"),none,.fields ⟨[(.ref 24),(.ref 24),(.ref 24)]⟩,#[]⟩::kv "object.__init_subclass__" (.ref 24)::k1 [(.ref 24)]::kv "type.__prepare__" (.type "type")::kd P 4 (kq 214 lw1 187 216 "NoField" 215 218 4 217 219 35)::k1 []::k0::ky "NoField" 209 210 211 4 31 32 212 4 213::kz 33 3 30 lw1 187 0::k1 []::kd P 2 (kr 214 lw1 187 218 4 217 219 35 220)::kx "NoField" 24 37 36 28 207 215::⟨(.type "super"),none,.fields ⟨[(.ref 37),(.ref 37),(.ref 37)]⟩,#[]⟩::kv "object.__init_subclass__" (.ref 37)::k1 [(.ref 24)]::kv "type.__prepare__" (.type "type")::kd P 4 (kq 230 lw1 187 232 "NoCut" 231 234 6 233 235 47)::k1 []::k0::ky "NoCut" 225 226 227 6 43 44 228 6 229::kz 45 3 42 lw1 187 0::k1 []::kd P 2 (kr 230 lw1 187 234 6 233 235 47 236)::kx "NoCut" 24 49 48 40 223 231::⟨(.type "super"),none,.fields ⟨[(.ref 49),(.ref 49),(.ref 49)]⟩,#[]⟩::kv "object.__init_subclass__" (.ref 49)::k1 [(.ref 24)]::kv "type.__prepare__" (.type "type")::kd P 4 (kq 246 lw1 187 248 "NoTurn" 247 250 8 249 251 59)::k1 []::k0::ky "NoTurn" 241 242 243 8 55 56 244 8 245::kz 57 3 54 lw1 187 0::k1 []::kd P 2 (kr 246 lw1 187 250 8 249 251 59 252)::kx "NoTurn" 24 61 60 52 239 247::⟨(.type "super"),none,.fields ⟨[(.ref 61),(.ref 61),(.ref 61)]⟩,#[]⟩::kv "object.__init_subclass__" (.ref 61)::kg p "is_whole" 6 257 11 1 64 lw3 255 ["thing"] (kh p "are_whole" 7 264 13 1 71 lw3 255 (kg p "greatest_divisor" 8 270 15 2 76 lw3 255 ["one", "other"] (kg p "lowest" 9 278 20 2 83 lw3 255 ["top", "bottom", "shared"] (kg p "plus" 10 287 23 2 90 lw3 255 ["one", "other"] (kg p "times" 11 295 25 2 97 lw3 255 ["whole", "fraction"] (kg p "corners_left" 14 307 29 1 104 lw4 303 ["rows"] (kg p "piece_left" 15 314 31 1 111 lw4 303 ["rows"] (kg p "cut_down" 16 321 33 2 118 lw4 303 ["piece", "rows", "row"] (kh p "places_of" 17 330 37 1 125 lw4 303 (kg p "cut_piece" 18 336 39 2 130 lw4 303 ["piece", "row", "left", "at", "corner", "before", "crossing"] (kg p "beyond" 19 349 50 2 137 lw4 303 ["row", "corner", "a", "b", "c", "x", "y", "bottom"] (kh p "where_crossed" 20 363 54 3 144 lw4 303 (kg p "from_least" 21 369 59 1 149 lw4 303 ["piece", "start", "at", "corner"] (kg p "is_ahead" 22 379 65 2 156 lw4 303 ["one", "other"] (kg p "is_row" 24 389 68 1 163 lw6 387 ["thing"] (kg p "value" 25 396 72 2 170 lw6 387 ["row", "place"] (kg p "keeps" 26 404 74 2 177 lw6 387 ["row", "place", "top", "bottom"] (kg p "is_tight" 27 414 77 2 184 lw6 387 ["row", "place", "top", "bottom"] (kg p "turn_to" 28 424 80 2 191 lw6 387 ["one", "other"] (kg p "go_round" 29 432 82 1 198 lw6 387 ["rows", "first", "left", "right"] (kg p "furthest" 30 442 91 3 205 lw6 387 ["first", "rows", "sign", "last", "row"] (kg p "points_back" 31 453 97 2 212 lw6 387 ["first", "rows", "row"] (kh p "is_field" 33 464 103 1 219 lw2 462 (kg p "is_field_row" 34 470 109 1 224 lw2 462 ["thing", "a", "b", "c"] (kh p "is_near" 35 480 114 1 231 lw2 462 (kg p "need_field" 36 486 116 1 236 lw2 462 ["thing"] (kg p "corners" 38 495 120 1 243 lw0 493 ["field"] (kh p "tight_numbers" 39 502 123 2 250 lw0 493 (kh p "broken" 40 508 125 1 255 lw0 493 (kg p "is_broken" 41 514 127 1 260 lw0 493 ["place", "x", "y"] (kg p "parts" 43 525 131 3 267 lw9 523 ["one", "other", "thing", "turn", "of_one", "of_other"] (kg p "need_turn" 44 537 139 2 274 lw9 523 ["one", "other", "turn"] (kg p "is_direction" 45 546 144 1 281 lw9 523 ["thing"] (kg p "between" 46 553 148 2 288 lw9 523 ["one", "other", "first", "last", "found"] (kg p "undivided" 47 564 155 1 295 lw9 523 ["direction", "a", "b", "shared"] (kg p "next_least" 48 574 159 2 302 lw9 523 ["first", "last", "a", "b", "p", "q", "back"] (kg p "next_behind" 49 587 164 3 309 lw9 523 ["before", "here", "last", "many"] (kg p "makes_one" 50 597 167 2 316 lw9 523 ["a", "b", "here", "p", "q", "ahead", "next_p", "next_q", "many"] (kg p "sides_at" 52 614 177 2 323 lw7 612 ["field", "place"] (kg p "sides_among" 53 622 179 2 330 lw7 612 ["rows", "numbers", "pairs", "number", "beside"] (kg p "next_to_the_left" 54 633 186 3 337 lw7 612 ["rows", "numbers", "number", "nearest", "other"] (kg p "direction_of" 55 644 193 1 344 lw7 612 ["row"] (kg p "weights_towards" 56 651 195 3 351 lw7 612 ["field", "pair", "direction", "one", "other", "shares", "weights"] (kg p "weights_of_row" 57 664 203 2 358 lw7 612 ["field", "number", "weights"] (kh p "sum_of" 59 675 208 2 365 lw8 673 (kh p "whole_sum" 60 681 211 2 370 lw8 673 (kg p "cut_of" 61 687 221 1 375 lw8 673 ["totals", "a", "b", "c"] (kg p "paper_of" 62 697 226 2 382 lw8 673 ["field", "weights"] (kg p "round_papers" 64 707 229 1 389 lw5 705 ["field", "papers", "place", "paper"] (kg p "papers_at" 65 717 235 2 396 lw5 705 ["field", "place", "papers", "pair", "one", "other", "direction"] (kh p "paper_against" 66 730 242 2 403 lw5 705 (kg p "_law_cell_at" 68 738 250 2 408 lw 736 ["_law_script", "_law_k"] (kg p "_law_state" 69 746 254 2 415 lw 736 ["_law_script", "_law_k", "_law_cell"] (kg p "_law_take" 70 755 259 2 422 lw 736 ["_law_state_here", "_law_many", "_law_found", "_law_stirred"] (kh p "_law_field" 71 765 268 1 429 lw 736 (kg p "_law_divisor" 72 771 293 2 434 lw 736 ["_law_one", "_law_other"] (kg p "_law_low" 73 779 297 2 441 lw 736 ["_law_top", "_law_bottom", "_law_by"] (kg p "_law_crossing" 74 788 302 2 448 lw 736 ["_law_one", "_law_other", "_law_by", "_law_x"] (kg p "_law_value" 75 798 308 2 455 lw 736 ["_law_row", "_law_place_here", "_law_x", "_law_y"] (kg p "_law_keeps" 76 808 311 2 462 lw 736 ["_law_row", "_law_place_here", "_law_here"] (kg p "_law_less" 77 817 314 2 469 lw 736 ["_law_one", "_law_other"] (kg p "_law_minus" 78 825 316 2 476 lw 736 ["_law_one", "_law_other"] (kg p "_law_times" 79 833 318 2 483 lw 736 ["_law_one", "_law_other"] (kg p "_law_cross" 80 841 320 3 490 lw 736 ["_law_one", "_law_other", "_law_third", "_law_first"] (kh p "_law_ring" 81 851 323 1 497 lw 736 (kh p "_law_all_left" 82 857 337 3 502 lw 736 (kh p "_law_corners" 83 863 339 1 507 lw 736 (kg p "_law_all_cuts" 84 869 347 1 512 lw 736 ["_law_rows", "_law_found", "_law_at", "_law_a", "_law_b", "_law_c", "_law_d", "_law_e", "_law_f", "_law_by", "_law_p", "_law_q", "_law_u", "_law_v"] (kg p "_law_plus" 85 889 359 2 519 lw 736 ["_law_one", "_law_other"] (kg p "_law_over" 86 897 361 2 526 lw 736 ["_law_one", "_law_other"] (kh p "_law_clipped" 87 905 363 2 533 lw 736 (kg p "_law_round" 88 911 378 1 538 lw 736 ["_law_rows", "_law_places", "_law_row"] (kg p "_law_place" 89 920 383 1 545 lw 736 ["_law_state_here", "_law_x"] (kg p "_law_summed" 90 928 386 2 552 lw 736 ["_law_rows", "_law_weights", "_law_found", "_law_row", "_law_weight", "_law_at"] (kg p "_law_cut" 91 940 392 2 559 lw 736 ["_law_rows", "_law_weights", "_law_a", "_law_b", "_law_c"] (kg p "_law_whole" 92 951 397 1 566 lw 736 ["_law_thing"] (kg p "_law_is_fraction" 93 958 399 1 573 lw 736 ["_law_thing"] (kh p "_law_is_paper" 94 965 403 2 580 lw 736 (kg p "_law_middle" 95 971 409 2 585 lw 736 ["_law_one", "_law_other", "_law_found", "_law_at"] (k1 []::k0::kp "law" (tp p 96)::kc "law" 981 414 1 3 592 593 .none .none 594 984 985::kf "law" (tp p 96) 595 lw 736::[]))))))))))))))))))))))))))))))))))))))))))))))))))))))))))))))))))))))))))))))))
def hp (p:Program)(P:Params)(n:Nat)(m:List (Str×Nat×Value))(e:Nat)(c:List (Nat×Obj)):List Obj:=c.foldl (λl x=>l.set x.1 x.2) ((PySem.W.boot_heap P).objs.toList.set 3 (kd P e m)++(ob p P).take n)
def sh (p:Program)(w:World)(os:OsState)(n:Nat)(m:List (Str×Nat×Value))(e:Nat)(c:List (Nat×Obj))(k:Nat):Shared:=⟨⟨⟨hp p w.params n m e c⟩,{}⟩,⟨[]⟩,{},k,os⟩
def hf (p:Program)(P:Params):Heap:=⟨⟨hp p P 586 mn 95 []⟩,{}⟩
abbrev as:List Addr:=[3,69,70,74,75,81,82,88,89,95,96,102,103,109,110,116,117,123,124,128,129,135,136,142,143,147,148,154,155,161,162,168,169,175,176,182,183,189,190,196,197,203,204,210,211,217,218,222,223,229,230,234,235,241,242,248,249,253,254,258,259,265,266,272,273,279,280,286,287,293,294,300,301,307,308,314,315,321,322,328,329,335,336,342,343,349,350,356,357,363,364,368,369,373,374,380,381,387,388,394,395,401,402,406,407,413,414,420,421,427,428,432,433,439,440,446,447,453,454,460,461,467,468,474,475,481,482,488,489,495,496,500,501,505,506,510,511,517,518,524,525,531,532,536,537,543,544,550,551,557,558,564,565,571,572,578,579,583,584,590,591,595,596]
def Kp (p:Program)(P:Params):xw:=as.map λa=>(a,(hp p P 586 mn 95 []).getD a k0)
abbrev pg:Program:=PySem.Challenge.pw_roundcuts_k18_papers_against_places
abbrev K (P:Params):xw:=Kp pg P
def KH (p:Program)(P:Params):as=(Kp p P).map (·.1):=by unfold Kp;rw[vi];exact(List.map_id _).symm
abbrev Hk (p:Program):PySem.W.Hook:=PySem.W.kHook (Kp p) as (KH p)
abbrev keep:List Nat:=[1,2,3,4,6,7,8,9,10,11,13,14,15,16,17,18,19,20,21,22,24,25,26,27,28,29,30,31,33,34,35,36,38,39,40,41,43,44,45,46,47,48,49,50,52,53,54,55,56,57,59,60,61,62,64,65,66,68,69,70,71,72,73,74,75,76,77,78,79,80,81,82,83,84,85,86,87,88,89,90,91,92,93,94,95,96]
abbrev vw:Program:=PySem.W.view pg keep
def dk {P:Params}{x:Str}{st:Stmt}{f cd t:Nat}{m:Str}(a:PySem.W.nsIn (K P) mainGlobals x=some (some (.ref f)))(l:(K P).lookup f=some (kf x st cd m t))(c:PySem.W.codeIn (K P) (.ref cd) x=true):DD (K P) x st:=dd a l c (by unfold PySem.W.keepIn;dsimp only;rw[l];rfl)
def dl {P:Params}{x:Str}{st:Stmt}(f cd:Nat)(m:Str)(t:Nat)(a:PySem.W.nsIn (K P) mainGlobals x=some (some (.ref f)):=by kernel_rfl)(l:(K P).lookup f=some (kf x st cd m t):=by kernel_rfl)(c:PySem.W.codeIn (K P) (.ref cd) x=true:=by kernel_rfl):DD (K P) x st:=dk a l c
end K18
set_option maxHeartbeats 0 in
lay_quick PySem.Challenge.pw_roundcuts_k18_papers_against_places
namespace K18
open PySem L2 PySem.W
abbrev tb:=PySem.W.Fast.tw14364793385576792824
abbrev p':=PySem.W.Fast.tw15341864655278328564
abbrev v':=view p' keep
abbrev im:=PySem.W.Fast.tw5923862056798008813 p'.main.body
abbrev ann:Option Value:=some (.ref 6)
abbrev q:Pos:=⟨0,0,0,0⟩
abbrev bd:=behindTheImports p'
abbrev env:Env:={scope:=p'.main.scope,locals:=mainNs,globals:=mainNs,cells:=[],code:=(.ref 13),frame:=some 14}
abbrev cb:Code:=.body bd env
def r0 (w:World)(os:OsState):topGo tb p' w 11 ann 12 ⟨boot_heap w.params,⟨[]⟩,boot_drawn,boot_toks,os⟩ (topStub p')=some ((sh p' w os 4 ((mn.take 9).set 0 (ke "__name__" 165 (.str "__main__" 164))) 9 [(12,k0)] 187),⟨denote tb cb,cb,⟨0,0,0,0⟩,[topFrame q]⟩):=by kernel_rfl
def r1 (w:World)(os:OsState):segRun tb p' w 11 ann 1 1 (sh p' w os 4 ((mn.take 9).set 0 (ke "__name__" 165 (.str "__main__" 164))) 9 [(12,k0)] 187) (blockOf bd env cb ⟨0,0,0,0⟩ [topFrame q])=some (.next,(sh p' w os 4 ((mn.take 9).set 0 (ke "__name__" 165 (.str "__main__" 164))) 9 [(12,k0)] 187),cb,⟨0,0,0,0⟩):=by kernel_rfl
def c0 (w:World)(os:OsState):segRun tb p' w 11 ann 1 626 (sh p' w os 4 ((mn.take 9).set 0 (ke "__name__" 165 (.str "__main__" 164))) 9 [(12,k0)] 187) (piecesOf ((bd.drop 0).take 4) env cb ⟨0,0,0,0⟩ [topFrame q])=some (.next,(sh p' w os 41 ((mn.take 12).set 0 (ke "__name__" 165 (.str lw1 187))) 12 [(12,tl 3),(24,⟨(.type "type"),none,.cls {name := "CutError", bases:=[(.type "ValueError")],mro:=[(.ref 24),(.type "ValueError"),(.type "Exception"),(.type "BaseException"),(.type "object")],ns:=23,qualname := "CutError", hasDict:=true,slotNames:=[],subclasses:=[(.ref 37),(.ref 49)],abstract:=false,hasDel:=false},⟨[some (.ref 15),none,some (.str "CutError" 189),some (.str "CutError" 197),some (.builtin "ValueError.__new__"),some (.bool true)]⟩⟩)] 239),cb,⟨6,0,7,8⟩):=by kernel_rfl
def c1 (w:World)(os:OsState):segRun tb p' w 11 ann 1 720 (sh p' w os 41 ((mn.take 12).set 0 (ke "__name__" 165 (.str lw1 187))) 12 [(12,tl 3),(24,⟨(.type "type"),none,.cls {name := "CutError", bases:=[(.type "ValueError")],mro:=[(.ref 24),(.type "ValueError"),(.type "Exception"),(.type "BaseException"),(.type "object")],ns:=23,qualname := "CutError", hasDict:=true,slotNames:=[],subclasses:=[(.ref 37),(.ref 49)],abstract:=false,hasDel:=false},⟨[some (.ref 15),none,some (.str "CutError" 189),some (.str "CutError" 197),some (.builtin "ValueError.__new__"),some (.bool true)]⟩⟩)] 239) (piecesOf ((bd.drop 4).take 20) env cb ⟨6,0,7,8⟩ [topFrame q])=some (.next,(sh p' w os 152 ((mn.take 29).set 0 (ke "__name__" 165 (.str lw6 387))) 29 [(12,tl 19)] 389),cb,⟨67,0,67,8⟩):=by kernel_rfl
def c2 (w:World)(os:OsState):segRun tb p' w 11 ann 1 721 (sh p' w os 152 ((mn.take 29).set 0 (ke "__name__" 165 (.str lw6 387))) 29 [(12,tl 19)] 389) (piecesOf ((bd.drop 24).take 25) env cb ⟨67,0,67,8⟩ [topFrame q])=some (.next,(sh p' w os 298 ((mn.take 51).set 0 (ke "__name__" 165 (.str lw9 523))) 51 [(12,tl 41)] 587),cb,⟨159,0,163,40⟩):=by kernel_rfl
def c3 (w:World)(os:OsState):segRun tb p' w 11 ann 1 709 (sh p' w os 298 ((mn.take 51).set 0 (ke "__name__" 165 (.str lw9 523))) 51 [(12,tl 41)] 587) (piecesOf ((bd.drop 49).take 25) env cb ⟨159,0,163,40⟩ [topFrame q])=some (.next,(sh p' w os 437 (mn.take 72) 72 [(12,tl 62)] 788),cb,⟨297,0,301,56⟩):=by kernel_rfl
def c4 (w:World)(os:OsState):segRun tb p' w 11 ann 1 717 (sh p' w os 437 (mn.take 72) 72 [(12,tl 62)] 788) (piecesOf ((bd.drop 74).take 23) env cb ⟨297,0,301,56⟩ [topFrame q])=some (.next,(sh p' w os 586 mn 95 [] 987),cb,⟨414,0,430,15⟩):=by kernel_rfl
def KW:bd=(((bd.drop 0).take 4)++(((bd.drop 4).take 20)++(((bd.drop 24).take 25)++(((bd.drop 49).take 25)++(((bd.drop 74).take 23)++[]))))):=by kernel_rfl
def cl (w:World)(os:OsState):topRun tb p' w 11 ann 2 (sh p' w os 586 mn 95 [] 987) ⟨doneF .next,cb,⟨414,0,430,15⟩,[topFrame q]⟩=some (sh p' w os 586 mn 95 [] 987):=by kernel_rfl
def run (w:World)(os:OsState):topRun tb p' w 11 ann (12+(1+(626+(720+(721+(709+(717+2))))))) ⟨boot_heap w.params,⟨[]⟩,boot_drawn,boot_toks,os⟩ (topStub p')=some ⟨hf p' w.params,⟨[]⟩,{},987,os⟩:=go_top (r0 w os) (piece_block (r1 w os) (KW▸(piece_app (c0 w os) (piece_app (c1 w os) (piece_app (c2 w os) (piece_app (c3 w os) (piece_app (c4 w os) (piece_nil (cl w os)))))))))
def z0 (w:World):((boot_heap w.params).isNs mainGlobals&&(⟨[]⟩:Array GenState).size==0,(boot_heap w.params).objs.size,(boot_heap w.params).nsMap mainGlobals "__annotations__")=(true,11,ann):=by kernel_rfl
def z1 (w:World)(os:OsState):(staticsOk im (boot_heap w.params) (hf p' w.params)&&namesBound p' (hf p' w.params)&&gensDone ⟨hf p' w.params,⟨[]⟩,{},987,os⟩&&laidKept (boot_heap w.params) (hf p' w.params))=true:=by kernel_rfl
abbrev zx (w:World)(os:OsState):=PySem.W.Fast.tw4187177175401517315 v' [] im (λs=>xlAt v' [] s&&recOk [] s) true ⟨hf p' w.params,⟨[]⟩,{},987,os⟩
def z20 (w os):(zx w os).1=PyProof.Rows.expectedOf v':=by kernel_rfl
def z21 (w os):(zx w os).2.1=bltViewBooted:=by kernel_rfl
def z22 (w os):(zx w os).2.2.1=true:=by kernel_rfl
def z23 (w os):(zx w os).2.2.2.1=true:=by kernel_rfl
def z24 (w os):(zx w os).2.2.2.2.1=pinGoodD (PyProof.Rows.drecsOf v'):=by kernel_rfl
def z25 (w os):(zx w os).2.2.2.2.2.1=PyProof.Rows.plainGoodE v' (looseW v' []):=by kernel_rfl
def z26 (w os):(zx w os).2.2.2.2.2.2.1=PyProof.Rows.plainGoodD v' []:=by kernel_rfl
def z27 (w os):(zx w os).2.2.2.2.2.2.2.1=wideGood v':=by kernel_rfl
def z28 (w os):(zx w os).2.2.2.2.2.2.2.2=clsGoodW v' []:=by kernel_rfl
def z2 (w os):zx w os=openGood v' []:=zC (z20 w os) (zC (z21 w os) (zC (z22 w os) (zC (z23 w os) (zC (z24 w os) (zC (z25 w os) (zC (z26 w os) (zC (z27 w os) (z28 w os))))))))
def z3 (w:World)(os:OsState):Hook.obs (Hk p') ⟨hf p' w.params,⟨[]⟩,{},987,os⟩=Hook.val (Hk p') w:=by kernel_rfl
def Ng:LeftO p' v' [] (λs=>xlAt v' [] s&&recOk [] s) (Hook.obs (Hk p')) (Hook.val (Hk p')) 6908:=by
 have h1:=run;have h2:=z1;have h3:=z2;unfold zx at h3;rw[show tb=treeTable from PySem.W.Fast.te14364793385576792824.symm] at h1;rw[show im=importedModules p'.main.body from congrFun PySem.W.Fast.te5923862056798008813.symm _] at h2 h3;rw[show PySem.W.Fast.tw4187177175401517315=openSeen from PySem.W.Fast.te4187177175401517315.symm] at h3;exact LeftO.of_pieces (boot_open rfl rfl λ_=>rfl) z0 h1 (by decide) λw=>funext λos=>by rw[h2 w os,h3 w os,z3 w os]
def Nh (p:Program)(h:p=p'):LeftO p (view p keep) [] (λs=>xlAt (view p keep) [] s&&recOk [] s) (Hook.obs (Hk p)) (Hook.val (Hk p)) 6908:=by subst h;exact Ng
def left:LeftO pg vw [] (λs=>xlAt vw [] s&&recOk [] s) (Hook.obs (Hk pg)) (Hook.val (Hk pg)) 6908:=Nh pg PySem.W.Fast.te15341864655278328564
end K18
namespace K18
open PySem L2 Trn
def there {l:PySem.W.OpenLaw}{w:World}{P:Params}{h:Heap}{mg:Str->Option Value}{fa:Addr}(X:(K P).In h)(G:h.Ns mainGlobals mg)(hfa:mg "law" = some (.ref fa)) :
  ∃fd:FuncData,(∀(s:Shared) (v:Value),BindsTo s fd ⟨[v],[]⟩ [("_law_script", v)])/\∀base:Heap,(K P).In base->base.Ns mainGlobals mg->u_ l.prog w (K P) mg base CX0 13 fa fd ["_law_script"] (az (K P)):=
 all_mk X G hfa (dl 70 69 lw3 255)
  (dl 82 81 lw3 255)
  (dl 143 142 lw4 303)
  (dl 162 161 lw4 303)
  (dl 197 196 lw6 387)
  (dl 235 234 lw2 462)
  (dl 266 265 lw0 493)
  (dl 322 321 lw9 523)
  (dl 350 349 lw7 612)
  (dl 364 363 lw7 612)
  (dl 381 380 lw8 673)
  (dl 414 413 lw 736)
  (dl 428 427 lw 736)
  (dl 440 439 lw 736)
  (dl 475 474 lw 736)
  (dl 518 517 lw 736)
  (dl 572 571 lw 736)
  (dl 75 74 lw3 255)
  (dl 89 88 lw3 255)
  (dl 148 147 lw4 303)
  (dl 155 154 lw4 303)
  (dl 211 210 lw6 387)
  (dl 218 217 lw6 387)
  (dl 280 279 lw9 523)
  (dl 301 300 lw9 523)
  (dl 308 307 lw9 523)
  (dl 315 314 lw9 523)
  (dl 343 342 lw7 612)
  (dl 374 373 lw8 673)
  (dl 421 420 lw 736)
  (dl 433 432 lw 736)
  (dl 447 446 lw 736)
  (dl 579 578 lw 736)
  (dl 96 95 lw3 255)
  (dl 103 102 lw3 255)
  (dl 129 128 lw4 303)
  (dl 136 135 lw4 303)
  (dl 169 168 lw6 387)
  (dl 204 203 lw6 387)
  (dl 287 286 lw9 523)
  (dl 294 293 lw9 523)
  (dl 336 335 lw7 612)
  (dl 369 368 lw8 673)
  (dl 454 453 lw 736)
  (dl 461 460 lw 736)
  (dl 482 481 lw 736)
  (dl 489 488 lw 736)
  (dl 525 524 lw 736)
  (dl 532 531 lw 736)
  (dl 551 550 lw 736)
  (dl 124 123 lw4 303)
  (dl 176 175 lw6 387)
  (dl 230 229 lw2 462)
  (dl 273 272 lw9 523)
  (dl 388 387 lw8 673)
  (dl 468 467 lw 736)
  (dl 496 495 lw 736)
  (dl 558 557 lw 736)
  (dl 591 590 lw 736)
  (dl 117 116 lw4 303)
  (dl 183 182 lw6 387)
  (dl 190 189 lw6 387)
  (dl 357 356 lw7 612)
  (dl 506 505 lw 736)
  (dl 565 564 lw 736)
  (dl 110 109 lw4 303)
  (dl 254 253 lw0 493)
  (dl 501 500 lw 736)
  (dl 584 583 lw 736)
  (dl 223 222 lw2 462)
  (dl 329 328 lw7 612)
  (dl 511 510 lw 736)
  (dl 537 536 lw 736)
  (dl 242 241 lw2 462)
  (dl 402 401 lw5 705)
  (dl 544 543 lw 736)
  (dl 249 248 lw0 493)
  (dl 259 258 lw0 493)
  (dl 395 394 lw5 705)
  (dl 407 406 lw5 705)
  (by kernel_rfl:PySem.W.nsIn (K P) mainGlobals "law" = some (some (.ref 596))) (by kernel_rfl:(K P).lookup 596=some (kf "law" kX 595 lw 736)) (by kernel_rfl:PySem.W.codeIn (K P) (.ref 595) "law" = true) (by kernel_rfl) (by kernel_rfl) (by kernel_rfl) (by kernel_rfl) (by kernel_rfl) (by kernel_rfl) (by kernel_rfl) (by kernel_rfl) (by kernel_rfl) (by kernel_rfl) (by kernel_rfl) (by kernel_rfl) (by kernel_rfl) (by kernel_rfl) (by kernel_rfl) (by kernel_rfl) (by kernel_rfl) ((by kernel_rfl:PySem.W.nsIn (K P) mainGlobals "FAR" = some (some (.int 60001 305))))
end K18
end
open PySem PySem.W PyProof.Rows
set_option maxRecDepth 100000 in
set_option maxHeartbeats 0 in
theorem PySem.Challenge.cw_roundcuts_k18_papers_against_places_holds : PySem.Challenge.rw_roundcuts_k18_papers_against_places.Holds := by
 w_on;o_law
 refine holds_open (q:=K18.vw) (XP:=XL K18.vw []) (YP:=Hook.says (K18.Hk _)) K18.left (Hook.of _) (Hook.keeps _) (fun s e=>xl_of s (Bool.and_eq_true_iff.mp e).1)
  XL.keeps rfl rfl rfl (fun s e=>recFacts_of (Bool.and_eq_true_iff.mp e).2) rfl (by assumption) (by decide +kernel) ⟨rfl,rfl,rfl,rfl,rfl,by decide +kernel⟩ ?hw ?hc
 case hw=>w_witness2
 exact K18.walk (l:=PySem.Challenge.rw_roundcuts_k18_papers_against_places) rfl rfl (fun w h Y=>PySem.W.kIn_of Y) (fun P=>by kernel_rfl) (fun w mg fa h X G e=>K18.there X G e)
