import PyProof.Rows.All
import Wide.All
import OpenK.AllK
import Wide.FinOn
import Lean
import PyProof.EqAt
import PyProof.EqKinds
import PyProof.TupleCall
import PyProof.ZipIter
import PyProof.NeData
import PyProof.P3Eq
import PyProof.EnumFor
import PyProof.EnumMake
import PyProof.Draws
import PyProof.Cells
import KE.KTryMore
import KE.KIsAll
import PyProof.ExcAttrAll.ValueError
import KE.KLam
import KE.KDictList
import PyProof.DictItems
import KE.KPairComp
import PySem.Challenge.RW_roundcuts_k50_weights_that_show_nothing
set_option Elab.async false
set_option linter.all false
set_option maxRecDepth 100000
set_option maxHeartbeats 4000000
set_option exponentiation.threshold 3000
set_option bootstrap.genMatcherCode false
set_option genSizeOfSpec false
set_option genInjectivity false
abbrev xl:=@PySem.wpAny_bind
abbrev xo:=@PySem.W.Frag
abbrev xD:=@if_pos
abbrev xG:=@if_neg
abbrev xK:=@PySem.wpAny_pure
abbrev xR:=@List.mem_cons
abbrev xS:=@List.mem_cons_self
abbrev xU:=@List.mem_append
abbrev xX:=@List.length_map
abbrev xY:=@Nat.le_refl
abbrev yq:=@PySem.W.mg_of
abbrev yA:=@Int.le_of_lt
abbrev yF:=@List.mem_append_left
abbrev yG:=@PySem.Heap.lt_size
abbrev yI:=@List.not_mem_nil
abbrev yJ:=@or_false
abbrev yQ:=@PySem.Heap.get?_push_of_some
abbrev yS:=@List.mem_singleton
abbrev yV:=@List.mem_cons_of_mem
abbrev za:=@List.length_append
abbrev ze:=@List.getElem?_eq_getElem
abbrev zf:=@List.mem_append_right
abbrev zh:=@List.size_toArray
abbrev zm:=@PySem.wpAny_mono
abbrev zq:=@Nat.ne_of_lt
abbrev zr:=@of_decide_eq_true
abbrev zy:=@Int.lt_or_le
abbrev zD:=@Ne.symm
abbrev zO:=@PySem.Heap.get?_push_size
abbrev zP:=@List.getElem?_eq_some_iff
abbrev zQ:=@List.length_take
abbrev zR:=@List.map_append
abbrev zS:=@congrArg
abbrev zW:=@List.mem_of_getElem?
abbrev zX:=@PySem.PassesOwn.never
abbrev wN:=@List.mem_map
abbrev wO:=@decide_eq_true
abbrev wQ:=@of_decide_eq_false
abbrev wX:=@decide_eq_false
abbrev ua:=@List.Sublist.trans
abbrev ub:=@List.append_nil
abbrev uc:=@List.map_cons
abbrev ud:=@PySem.wpAny_field
abbrev uq:=@Int.le_refl
abbrev ur:=@List.take_of_length_le
abbrev uu:=@Prod.ext
abbrev uA:=@List.length_cons
abbrev uM:=@Bool.false_ne_true
abbrev uN:=@List.getElem?_map
abbrev uO:=@List.length_drop
abbrev uP:=@List.map_map
abbrev uQ:=@List.singleton_sublist
abbrev uR:=@Nat.lt_of_lt_of_le
abbrev u0:=@Int.mul_zero
abbrev u4:=@PySem.W.mg_none_of
abbrev vk:=@Int.mul_eq_zero
abbrev vm:=@List.length_singleton
abbrev vn:=@List.nil_append
abbrev vo:=@PySem.wpAny_loadPart'
abbrev vK:=@Int.natAbs_mul
abbrev vL:=@List.lookup_cons
abbrev vM:=@List.mem_filter
abbrev vN:=@List.mem_of_mem_take
abbrev vO:=@Nat.ne_of_gt
abbrev vP:=@PySem.wpAny_holding
abbrev vQ:=@PySem.wpAny_newObj_type
abbrev qg:=@Bool.false_and
abbrev qh:=@Int.zero_mul
abbrev qi:=@List.foldl_cons
abbrev qj:=@Nat.le_trans
abbrev qK:=@Bool.true_and
abbrev qL:=@Int.mul_le_mul_of_nonneg_right
abbrev qM:=@List.append_assoc
abbrev qN:=@List.length_reverse
abbrev qO:=@List.length_set
abbrev qP:=@List.sublist_append_right
abbrev qQ:=@Option.some.inj
abbrev qR:=@PySem.F.plainAttrs_list
abbrev qT:=@PySem.W.kia_one
abbrev qU:=@if_true
abbrev qV:=@PySem.wpAny_call_entry
abbrev kC:=@Int.add_zero
abbrev kD:=@Int.neg_mul
abbrev kE:=@List.nodup_cons
abbrev kF:=@PySem.wpAny_setField_rec
abbrev jd:=@Int.lt_trichotomy
abbrev je:=@Int.mul_neg_of_pos_of_neg
abbrev jf:=@Int.mul_pos
abbrev jg:=@List.length_eq_zero_iff
abbrev jh:=@List.nodup_append
abbrev ji:=@Nat.zero_le
abbrev jj:=@PySem.call_meets
abbrev jk:=@decide_eq_decide
abbrev jl:=@if_false
abbrev jm:=@PySem.wpAny_truthy_bool
abbrev jL:=@Classical.byContradiction
abbrev jM:=@PySem.Heap.size_push
abbrev jN:=@List.all_eq_true
abbrev jO:=@List.foldl_append
abbrev jP:=@List.mem_iff_getElem
abbrev jQ:=@List.pairwise_cons
abbrev jR:=@List.reverse_cons
abbrev jS:=@List.take_succ
abbrev jT:=@Nat.lt_of_le_of_lt
abbrev jU:=@PySem.F.slot_list_append
abbrev jV:=@PySem.F.type_list_append
abbrev jW:=@PySem.wpAny_callSpecial?_slot
abbrev jX:=@PySem.wpAny_rule
abbrev jY:=@PySem.wpAny_standAt
abbrev gF:=@Classical.em
abbrev gG:=@Int.dvd_coe_gcd
abbrev gH:=@Int.eq_of_mul_eq_mul_right
abbrev gI:=@Int.mul_comm
abbrev gJ:=@Int.mul_neg
abbrev gK:=@Int.mul_one
abbrev gL:=@Int.toNat_natCast
abbrev gM:=@List.cons_append
abbrev gN:=@List.map_nil
abbrev gO:=@List.mem_map_of_mem
abbrev gP:=@List.replicate_succ
abbrev gQ:=@List.take_length
abbrev gR:=@Nat.lt_irrefl
abbrev gS:=@Nat.lt_succ_of_lt
abbrev gT:=@decide_eq_true_eq
abbrev gU:=@PySem.wpAny_seqItems
abbrev dw:=@Bool.and_eq_true
abbrev dy:=@Int.mul_neg_of_neg_of_pos
abbrev dz:=@List.append_of_mem
abbrev dA:=@List.drop_zero
abbrev dB:=@List.flatten_cons
abbrev dD:=@List.getElem?_set_ne
abbrev dE:=@List.map_take
abbrev dG:=@PySem.Paired.length
abbrev dH:=@PySem.mem_of_lookup
abbrev dI:=@PySem.typeIs_int
abbrev dJ:=@PySem.wpAny_passesOwn
abbrev aC:=@PySem.F.slot_int_rmul
abbrev aD:=@PySem.Heap.SameBut.update
abbrev aE:=@Int.gcd_pos_of_ne_zero_right
abbrev aF:=@Int.mul_le_mul_of_nonneg_left
abbrev aG:=@List.Sublist.refl
abbrev aH:=@List.any_eq_true
abbrev aI:=@List.drop_eq_getElem_cons
abbrev aJ:=@List.find?_cons
abbrev aK:=@List.length_nil
abbrev aL:=@Nat.le_succ
abbrev aM:=@Prod.ext_iff
abbrev aO:=@PyProof.Rows.slot_tuple_getitem
abbrev mz:=@Array.length_toList
abbrev mB:=@PySem.F.slot_dict_itemiterator_next
abbrev mC:=@Int.dvd_natAbs
abbrev mD:=@List.any_cons
abbrev mE:=@List.filterMap_cons
abbrev mF:=@List.getD_eq_getElem?_getD
abbrev mG:=@List.map_drop
abbrev mH:=@List.take_append_drop
abbrev mI:=@Nat.le_of_lt
abbrev mJ:=@Nat.sub_zero
abbrev mK:=@decide_eq_true_iff
abbrev mL:=@PySem.wpAny_attempt
abbrev mM:=@PySem.wpAny_pyIter_tuple
abbrev lO:=@Bool.eq_iff_iff
abbrev lP:=@PySem.F.slot_tuple_iterator_next
abbrev lQ:=@PySem.F.slot_tuple_mul
abbrev lR:=@PySem.F.slot_zip_next
abbrev lS:=@Int.emod_lt_of_pos
abbrev lT:=@Int.emod_nonneg
abbrev lU:=@Int.gcd_dvd_left
abbrev lV:=@Int.gcd_dvd_right
abbrev lW:=@Int.gcd_mul_left
abbrev lX:=@Int.mul_ediv_cancel'
abbrev lY:=@Int.natCast_nonneg
abbrev lZ:=@Int.toNat_of_nonneg
abbrev l5:=@List.all_map
abbrev l6:=@List.concat_eq_append
abbrev l9:=@List.eq_nil_or_concat
abbrev l_:=@List.filter_cons
abbrev ia:=@List.filter_cons_of_pos
abbrev ib:=@List.getElem?_eq_none
abbrev ic:=@List.getElem?_set_self
abbrev ie:=@List.getElem_mem
abbrev ig:=@List.length_replicate
abbrev ij:=@List.length_zip
abbrev ik:=@List.nil_sublist
abbrev ip:=@List.of_mem_zip
abbrev iq:=@List.pairwise_append
abbrev ir:=@List.reverse_append
abbrev iu:=@List.sublist_append_iff
abbrev iw:=@Nat.le_add_right
abbrev ix:=@Nat.lt_or_ge
abbrev iy:=@Nat.lt_succ_self
abbrev iz:=@Nat.min_le_right
abbrev iA:=@PyProof.Rows.callWith_type1
abbrev iB:=@Sum.inl.inj
abbrev iC:=@PySem.wpAny_dictEntries
abbrev iD:=@PySem.wpAny_execs_nil
abbrev iE:=@PySem.wpAny_letGo
abbrev iF:=@PySem.wpAny_onRaise
abbrev iG:=@PySem.wpAny_pyIter_list
abbrev iH:=@PySem.wpAny_typeNameOfWhole_itemiter
abbrev iI:=@PySem.wpAny_typeNameOf_itemiter
abbrev Fl:=@Array.getElem?_eq_getElem
abbrev Fm:=@Array.getElem?_eq_none
abbrev Fn:=@Bool.false_eq_true
abbrev Fo:=@PySem.Calls.callWith_builtin
abbrev Fp:=@PySem.F.args_int_rmul_2
abbrev Fq:=@PySem.F.entry_int_rmul
abbrev Fs:=@PySem.F.slot_int_index
abbrev Ft:=@PySem.Heap.get?_update_other
abbrev Fu:=@PySem.Heap.get?_update_self
abbrev Fv:=@Int.dvd_antisymm
abbrev Fw:=@Int.dvd_mul_left
abbrev Fx:=@Int.lt_of_mul_lt_mul_right
abbrev Fy:=@Int.mul_dvd_mul_left
abbrev Fz:=@Int.mul_lt_mul_of_pos_right
abbrev FA:=@List.drop_length
abbrev FC:=@List.filter_cons_of_neg
abbrev FD:=@List.flatMap_append
abbrev FE:=@List.getElem?_append_left
abbrev FF:=@List.getElem_cons_succ
abbrev FG:=@List.getElem_cons_zero
abbrev FH:=@List.length_pos_iff
abbrev FI:=@List.map_inj_right
abbrev FJ:=@List.map_replicate
abbrev FK:=@List.mem_eraseIdx_iff_getElem?
abbrev FL:=@List.mem_of_mem_drop
abbrev FN:=@List.zip_cons_cons
abbrev FO:=@Nat.add_le_add_left
abbrev FP:=@Nat.mul_le_mul_right
abbrev FQ:=@Option.getD_some
abbrev FT:=@PySem.F.args_tuple_add_2
abbrev FU:=@PySem.F.entry_tuple_add
abbrev FV:=@PySem.F.slot_tuple_add
abbrev FW:=@PySem.W.kitx_dict
abbrev FX:=@PyProof.Rows.assignInOrder_cons
abbrev FY:=@beq_eq_false_iff_ne
abbrev FZ:=@PySem.noFill_tuple_add
abbrev F_:=@PySem.slot_list_getitem
abbrev Ga:=@PySem.wpAny_Call_Name_kw
abbrev Gb:=@PySem.wpAny_binaryOp_repeat_ref
abbrev Gc:=@PySem.wpAny_comprehension_free
abbrev Gd:=@PySem.wpAny_isInstance
abbrev Ge:=@PySem.wpAny_isOneOf_itemiter
abbrev Gf:=@PySem.wpAny_updateSeq_pair
abbrev O3:=@PySem.F.args_dict_itemiterator_next_1
abbrev O4:=@PySem.F.entry_dict_itemiterator_next
abbrev O5:=@Int.mul_nonpos_of_nonpos_of_nonneg
abbrev O6:=@List.pairwise_iff_forall_sublist
local macro_rules|`(tactic|lia)=>`(tactic|omega)
noncomputable section
namespace L2
open PySem PySem.Spec PyProof.Rows
abbrev Key:=Sum Int Str
def fw:Key->Value->Bool
 |.inl k,v=>Value.isInt k v
 |.inr x,v=>Value.isStrOf x v
def JE (w:World):Key->Int
 |.inl k=>hashInt k
 |.inr x=>hashStr w x
theorem kP:∀ {k:Key} {v:Value},fw k v=true->(∃i t,k=Sum.inl i/\v=Value.int i t)\/(∃x t,k=Sum.inr x/\v=Value.str x t)
 |.inl i,v,h=>by obtain⟨t,e⟩:=Value.isInt_shape (k:=i) (v:=v) h;exact .inl ⟨i,t,rfl,e⟩
 |.inr x,v,h=>by obtain⟨t,e⟩:=Value.isStrOf_shape (x:=x) (v:=v) h;exact .inr ⟨x,t,rfl,e⟩
def JF (i:Int)(t:Tok):fw (.inl i) (.int i t)=true:=by simp[fw,Value.isInt]
def JG (x:Str)(t:Tok):fw (.inr x) (.str x t)=true:=by simp[fw,Value.isStrOf]
def JH (a b:Int):decide ((Sum.inl a:Key)=Sum.inl b)=(a==b):=by
 by_cases e:a=b
 .subst e;simp
 .have h:¬(Sum.inl a:Key)=Sum.inl b:=λq=>e (iB q);rw[wX h];exact(FY.mpr e).symm
def JK (a b:Str):decide ((Sum.inr a:Key)=Sum.inr b)=decide (a=b):=by
 by_cases e:a=b
 .subst e;simp
 .have h:¬(Sum.inr a:Key)=Sum.inr b:=λq=>e (Sum.inr.inj q);rw[wX h,wX e]
def JI (a:Int)(b:Str):decide ((Sum.inl a:Key)=Sum.inr b)=false:=wX (λq=>nomatch q)
def JJ (a:Str)(b:Int):decide ((Sum.inr a:Key)=Sum.inl b)=false:=wX (λq=>nomatch q)
def vX (prog:Program)(w:World):PySem.KeyKind prog w Key where
 is:=fw
 hash:=JE w
 inj:=λv a b ha hb=>by
  rcases kP ha with ⟨i,t,rfl,rfl⟩|⟨x,t,rfl,rfl⟩
  .rcases kP hb with ⟨j,u,rfl,e⟩|⟨y,u,rfl,e⟩
   .injection e with e1 _;rw[e1]
   .exact nomatch e
  .rcases kP hb with ⟨j,u,rfl,e⟩|⟨y,u,rfl,e⟩
   .exact nomatch e
   .injection e with e1 _;rw[e1]
 byValue:=λk v h=>by rcases kP h with ⟨i,t,rfl,rfl⟩|⟨x,t,rfl,rfl⟩<;>rfl
 pyHash:=λhv h=>by
  rcases kP hv with ⟨i,t,rfl,rfl⟩|⟨x,t,rfl,rfl⟩
  .exact wpAny_pyHash_int h
  .exact wpAny_pyHash_str h
 eqBool:=λhu hv h=>by
  rcases kP hu with ⟨i,t,rfl,rfl⟩|⟨x,t,rfl,rfl⟩
  .rcases kP hv with ⟨j,u,rfl,rfl⟩|⟨y,u,rfl,rfl⟩
   .rw[JH] at h;exact wpAny_eqBool_int h
   .rw[JI] at h;exact SeqAt.EqAt.int_str i t y u _ _ _ _ h
  .rcases kP hv with ⟨j,u,rfl,rfl⟩|⟨y,u,rfl,rfl⟩
   .rw[JJ] at h;exact SeqAt.EqAt.str_int x t j u _ _ _ _ h
   .rw[JK] at h;exact wpAny_eqBool_str h
 «strs» := λk x t v h=>by
  rcases kP h with ⟨i,u,rfl,e⟩|⟨y,u,rfl,e⟩
  .exact nomatch e
  .injection e with e1 _;subst e1;cases v<;>rfl
def J_ (prog:Program)(w:World)(i:Int)(t:Tok):(vX prog w).is (.inl i) (.int i t)=true:=JF i t
def Ka (prog:Program)(w:World)(x:Str)(t:Tok):(vX prog w).is (.inr x) (.str x t)=true:=JG x t
inductive V where
 |non|bl (b:Bool)|int (i:Int)|str (x:Str)|byt (b:Array UInt8)|flt (b:UInt64)|ref (a:Addr)|ty (n:String)
 deriving DecidableEq
def RelV:V->Value->Prop
 |.non,u=>u=Value.none
 |.bl b,u=>u=Value.bool b
 |.int i,u=>∃t,u=Value.int i t
 |.str x,u=>∃t,u=Value.str x t
 |.byt b,u=>∃t,u=Value.bytes b t
 |.flt b,u=>∃t,u=Value.float b t
 |.ref a,u=>u=Value.ref a
 |.ty n,u=>u=Value.type n
abbrev x9:List V->List Value->Prop:=Paired RelV
theorem x9.length {xs:List V}{us:List Value}(r:x9 xs us):xs.length=us.length:=dG r
theorem x9.get:∀ {xs:List V} {us:List Value} {i:Nat} {x:V},x9 xs us->xs[i]?=some x->∃u,us[i]?=some u/\RelV x u
 |_,_,_,_,.nil,e=>by simp at e
 |_,_,0,_,.cons r _,e=>by simp at e;subst e;exact⟨_,rfl,r⟩
 |_,_,i+1,x,.cons _ t,e=>by obtain⟨u,h1,h2⟩:=x9.get (i:=i) (x:=x) t (by simpa using e);exact⟨u,by simpa using h1,h2⟩
theorem x9.set {x:V}{u:Value}(r:RelV x u):∀ {xs:List V} {us:List Value} (i:Nat),x9 xs us->x9 (xs.set i x) (us.set i u)
 |_,_,_,.nil=>.nil
 |_,_,0,.cons _ t=>.cons r t
 |_,_,i+1,.cons q t=>.cons q (x9.set r i t)
theorem x9.append:∀ {xs ys:List V} {us ws:List Value},x9 xs us->x9 ys ws->x9 (xs++ys) (us++ws)
 |_,_,_,_,.nil,s=>s
 |_,_,_,_,.cons r t,s=>.cons r (x9.append t s)
theorem x9.take:∀ {xs:List V} {us:List Value} (n:Nat),x9 xs us->x9 (xs.take n) (us.take n)
 |_,_,0,_=>.nil
 |_,_,_+1,.nil=>.nil
 |_,_,n+1,.cons r t=>.cons r (x9.take n t)
theorem x9.drop:∀ {xs:List V} {us:List Value} (n:Nat),x9 xs us->x9 (xs.drop n) (us.drop n)
 |_,_,0,r=>r
 |_,_,_+1,.nil=>.nil
 |_,_,n+1,.cons _ t=>x9.drop n t
def ql:Option V->Option Value->Prop
 |some v,some u=>RelV v u
 |none,none=>True
 |_,_=>False
def KV {κ:Type}:List (κ×V)->List (κ×Value)->Prop:=Paired λ(p:κ×V) (q:κ×Value)=>p.1=q.1/\RelV p.2 q.2
def kV:Key->V
 |.inl i=>.int i
 |.inr x=>.str x
inductive HO where
  |lst (xs:List V)
  |tup (xs:List V)
  |dK (xB:List (Key×V))|dT (xB:List (List Key×V))
  |set (S:Int->Bool) (n:Nat)
  |ins (C dx:Addr) (fs:List (Str×V))
  |own (x:Addr)
  |xd (fs:List (Str×V))
  |met (f x:Addr)
  |rng (lo hi:Int)
  |frz (o:Obj) (u:HO)
  |tbl (ps:Array Value)
 |tb (q:Str)
  |ext (φ:Heap->Prop)
abbrev Hp:=Addr->Option HO
def upd (H:Hp)(a:Addr)(o:HO):Hp:=λb=>if b=a then some o else H b
def yU {H:Hp}{a:Addr}{o:HO}:upd H a o a=some o:=by unfold upd;rw[xD rfl]
def xN {H:Hp}{a b:Addr}{o:HO}(h:b≠a):upd H a o b=H b:=by unfold upd;rw[xG h]
def jz {H:Hp}{a b:Addr}{o u:HO}(h:H a=some o)(h':H b=some u)(d:o≠u):a≠b:=by intro e;subst e;rw[h] at h';exact d (qQ h')
def yK {H:Hp}{a b:Addr}{o:HO}(h:H a=some o)(h':H b=none):a≠b:=by intro e;subst e;rw[h] at h';cases h'
section
variable (P:Program) (w:World)
def zA (H:Hp)(h:Heap)(a:Addr):HO->Prop
 |.lst xs=>xs.length<=sizeLine/\∃(xj:List Value) (n:Nat),x9 xs xj/\h.get? a=some {cls:=.type "list", data:=.seq xj.toArray n}
 |.tup xs=>xs.length<=sizeLine/\∃xj:List Value,x9 xs xj/\IsTup h a xj.toArray
 |.dK xB=>xB.length<=sizeLine/\(a==sysModules)=false/\∃vs,KV xB vs/\h.DictOf (vX P w) a vs
 |.dT xB=>xB.length<=sizeLine/\(a==sysModules)=false/\∃xs:List (List Key×Addr×Value),
   Paired (λ(p:List Key×V) (q:List Key×Addr×Value)=>p.1=q.1/\H q.2.1=some (.tup (p.1.map kV))/\RelV p.2 q.2.2) xB xs/\
   ∃o es ep,h.get? a=some o/\o.ExactDict/\o.data=.dict es ep/\es.toList=xs.map (entryOfKey (tupleKind (vX P w)))/\(xs.map (·.1)).Nodup
 |.set S n=>h.SetOf (intKind P w) a S n
 |.ins C dx fs=>H dx=some (.own a)/\fs.length<=1000/\dx≠a/\h.get? a=some (PySem.W.instObj C dx)/\
   ∃mA,h.Ns1 dx mA/\(∀f,ql (fs.lookup f) (mA f))/\PySem.Within mA (fs.map (·.1))
 |.own _=>∃o,h.get? a=some o
 |.xd fs=>∃mA,h.Ns1 a mA/\∀f,ql (fs.lookup f) (mA f)
 |.rng lo hi=>∃t u v,h.get? a=some {cls:=.type "range", data:=.fields #[.int lo t,.int hi u,.int 1 v]}
 |.frz o u=>h.get? a=some o/\zA H h a u
 |.tbl ps=>h.get? a=some {cls:=.none,data:=.fields ps}
 |.tb q=>∃ps:Array Value,h.get? a=some {cls:=.none,data:=.fields ps}/\TriplesOk ps.toList/\∀pos cv,codeAmong pos ps.toList=some cv->
   ∃c oc vs t,cv=.ref c/\H c=some (.frz oc (.own c))/\oc.data=.fields vs/\vs[1]?=some (.str q t)
 |.met f x=>h.get? a=some (PySem.W.methodObj (.ref f) (.ref x))
 |.ext φ=>φ h/\(∃o,h.get? a=some o)/\∀h1 h2:Heap,φ h1->(∀o,h1.get? a=some o->h2.get? a=some o)->φ h2
def zE (H:Hp)(h:Heap):Prop:=∀a o,H a=some o->zA P w H h a o
end
section
variable {P:Program} {w:World} {H H':Hp} {h h':Heap} {a:Addr} {o:HO}
theorem zA.lt (x:zA P w H h a o):a<h.objs.size:=by
 cases o with
 |lst xs=>obtain⟨_,_,_,_,e⟩:=x;exact yG e
 |tup xs=>obtain⟨_,_,_,p⟩:=x;exact p.lt
 |dK xB=>obtain⟨_,_,_,_,o,_,_,e,_⟩:=x;exact yG e
 |dT xB=>obtain⟨_,_,_,_,o,_,_,e,_⟩:=x;exact yG e
 |set S n=>obtain⟨o,_,_,_,e,_⟩:=x;exact yG e
 |ins C dx fs=>obtain⟨_,_,_,e,_⟩:=x;exact yG e
 |own y=>obtain⟨_,e⟩:=x;exact yG e
 |xd fs=>obtain⟨_,⟨_,_,_,e,_⟩,_⟩:=x;exact yG e
 |rng lo hi=>obtain⟨_,_,_,e⟩:=x;exact yG e
 |frz ob u=>obtain⟨e,_⟩:=x;exact yG e
 |tbl ps=>exact yG (show h.get? a=some _ from x)
 |tb q=>obtain⟨_,e,_⟩:=x;exact yG e
 |met f y=>exact yG (show h.get? a=some _ from x)
 |ext φ=>obtain⟨_,⟨_,e⟩,_⟩:=x;exact yG e
theorem Paired.mapP {α β:Type}{F G:α->β->Prop}:∀ {l₁:List α} {l₂:List β},Paired F l₁ l₂->(∀a b,F a b->G a b)->Paired G l₁ l₂
 |_,_,.nil,_=>.nil
 |_,_,.cons r t,f=>.cons (f _ _ r) (Paired.mapP t f)
theorem zA.stay (x:zA P w H h a o)(k:∀b u,(b=a\/H b=some (.own a))->h.get? b=some u->h'.get? b=some u)
  (ho:∀b,H b=some (.own a)->H' b=some (.own a)) (ht:∀b xs,H b=some (.tup xs)->H' b=some (.tup xs)) (hf:∀b o u,H b=some (.frz o u)->H' b=some (.frz o u)):zA P w H' h' a o:=by
 induction o with
 |lst xs=>obtain⟨z,xj,n,r,e⟩:=x;exact⟨z,xj,n,r,k _ _ (.inl rfl) e⟩
 |tup xs=>obtain⟨z,xj,r,ob,e,c⟩:=x;exact⟨z,xj,r,ob,k _ _ (.inl rfl) e,c⟩
 |dK xB=>obtain⟨z,y,vs,r,ob,es,ep,e,c⟩:=x;exact⟨z,y,vs,r,ob,es,ep,k _ _ (.inl rfl) e,c⟩
 |dT xB=>obtain⟨z,y,xs,r,ob,es,ep,e,c⟩:=x;exact⟨z,y,xs,Paired.mapP r λp q z=>⟨z.1,ht _ _ z.2.1,z.2.2⟩,ob,es,ep,k _ _ (.inl rfl) e,c⟩
 |set S n=>obtain⟨ob,es,ep,t,e,c⟩:=x;exact⟨ob,es,ep,t,k _ _ (.inl rfl) e,c⟩
 |ins C dx fs=>obtain⟨d,z,ne,e,mA,⟨od,es,ep,e2,c⟩,r⟩:=x;exact⟨ho _ d,z,ne,k _ _ (.inl rfl) e,mA,⟨od,es,ep,k _ _ (.inr d) e2,c⟩,r⟩
 |own y=>obtain⟨ob,e⟩:=x;exact⟨ob,k _ _ (.inl rfl) e⟩
 |xd fs=>obtain⟨mA,⟨od,es,ep,e,c⟩,r⟩:=x;exact⟨mA,⟨od,es,ep,k _ _ (.inl rfl) e,c⟩,r⟩
 |rng lo hi=>obtain⟨t,u,v,e⟩:=x;exact⟨t,u,v,k _ _ (.inl rfl) e⟩
 |frz ob u ih=>obtain⟨e,q⟩:=x;exact⟨k _ _ (.inl rfl) e,ih q⟩
 |tbl ps=>have e:h.get? a=some {cls:=.none,data:=.fields ps}:=x;show h'.get? a=some {cls:=.none,data:=.fields ps};exact k a _ (.inl rfl) e
 |tb q=>obtain⟨ps,e,z,y⟩:=x;exact⟨ps,k _ _ (.inl rfl) e,z,λpos cv e=>let ⟨c,oc,vs,t,e1,e2,e3⟩:=y pos cv e;⟨c,oc,vs,t,e1,hf _ _ _ e2,e3⟩⟩
 |met f y=>have e:h.get? a=some (PySem.W.methodObj (.ref f) (.ref y)):=x;show h'.get? a=some (PySem.W.methodObj (.ref f) (.ref y));exact k a _ (.inl rfl) e
 |ext φ=>obtain⟨p,⟨o,e⟩,st⟩:=x;exact⟨st _ _ p λo q=>k _ _ (.inl rfl) q,⟨o,k _ _ (.inl rfl) e⟩,st⟩
theorem zE.lt (x:zE P w H h)(e:H a=some o):a<h.objs.size:=(x a o e).lt
theorem zE.fresh (x:zE P w H h)(e:h.objs.size<=a):H a=none:=by
 cases q:H a with
 |none=>rfl
 |some u=>exact absurd (uR (x.lt q) e) (gR _)
def zE.kept (x:zE P w H h)(k:∀b u,h.get? b=some u->h'.get? b=some u):zE P w H h':=λa o e=>(x a o e).stay (λb u _ q=>k b u q) (λ_ q=>q) (λ_ _ q=>q) λ_ _ _ q=>q
def zE.laid (x:zE P w H h)(k:∀b u,h.get? b=some u->h'.get? b=some u)(hp:h.objs.size<=a)(new:zA P w (upd H a o) h' a o):zE P w (upd H a o) h':=λb u e=>by
 have hn:=x.fresh hp;by_cases hb:b=a
 .subst hb;rw[yU] at e;cases e;exact new
 .rw[xN hb] at e;exact(x b u e).stay (λc v _ q=>k c v q) (λc q=>by rw[xN (yK q hn)];exact q) (λc xs q=>by rw[xN (yK q hn)];exact q) λc o u q=>by rw[xN (yK q hn)];exact q
end
def Rd (H:Hp)(a:Addr)(u:HO):Prop:=H a=some u\/∃o,H a=some (.frz o u)
def Rd.ok {P:Program}{w:World}{H:Hp}{h:Heap}{a:Addr}{u:HO}(r:Rd H a u)(x:zE P w H h):zA P w H h a u:=by
 rcases r with r|⟨o,r⟩
 .exact x a u r
 .obtain⟨_,q⟩:=x a _ r;exact q
def Mut:Option HO->Prop
 |some (.lst _)=>True
 |some (.dK _)=>True
 |some (.dT _)=>True
 |some (.set _ _)=>True
 |some (.ins _ _ _)=>True
 |some (.ext _)=>True
 |some (.tb _)=>True
 |_=>False
section
variable {P:Program} {w:World} {H:Hp} {h h':Heap} {x e:Addr} {o':HO}
def zE.write (ok:zE P w H h)(mu:Mut (H x))(he:e=x\/H e=some (.own x))(k:∀b u,b≠e->h.get? b=some u->h'.get? b=some u)(heo:∃u,h'.get? e=some u)
  (new:zA P w (upd H x o') h' x o'):zE P w (upd H x o') h':=λb u q=>by
 have nown:∀c y,H c=some (.own y)->c≠x:=λc y r z=>by subst z;rw[r] at mu;exact mu
 have ntup:∀c xs,H c=some (.tup xs)->c≠x:=λc xs r z=>by subst z;rw[r] at mu;exact mu
 have nfrz:∀c o u,H c=some (.frz o u)->c≠x:=λc o u r z=>by subst z;rw[r] at mu;exact mu
 by_cases hb:b=x
 .subst hb;rw[yU] at q;cases q;exact new
 .rw[xN hb] at q;by_cases hbe:b=e
  .have q':H b=some (.own x):=by
    rcases he with z|z
    .exact absurd (hbe.trans z) hb
    .rw[hbe];exact z
   rw[q] at q';cases q';obtain⟨v,hv⟩:=heo;exact⟨v,by rw[hbe];exact hv⟩
  .refine(ok b u q).stay (λc v hc r=>k c v ?_ r) (λc r=>by rw[xN (nown c b r)];exact r) (λc xs r=>by rw[xN (ntup c xs r)];exact r) λc o u r=>by rw[xN (nfrz c o u r)];exact r
   rcases hc with rfl|hc
   .exact hbe
   .rintro rfl;rcases he with z|z
    .exact nown c b hc z
    .rw[hc] at z;cases z;exact hb rfl
end
structure Un (fs ex:List Addr)(H H':Hp)(h h':Heap):Prop where
 keep:∀b o,h.get? b=some o->H b=none->b∉fs->b∉ex->h'.get? b=some o
 slot:∀b o,h.get? b=some o->H b=none->b∈fs->b∉ex->∃sl,h'.get? b=some {o with slots:=sl}
 free:∀b o,h.get? b=some o->H b=none->b∉ex->H' b=none
 there:∀b o,h.get? b=some o->b∉ex->∃o',h'.get? b=some o'
 tups:∀b xs,H b=some (.tup xs)->H' b=some (.tup xs)
 frzs:∀b o u,H b=some (.frz o u)->H' b=some (.frz o u)
 tbls:∀b ps,H b=some (.tbl ps)->∃more,H' b=some (.tbl (ps++more))
section
variable {fs fs' ex ex':List Addr} {H H1 H2:Hp} {h h1 h2 h':Heap} {a x e:Addr} {o:HO}
def Un.any (u:Un fs ex H H1 h h1){b:Addr}{ob:Obj}(q:h.get? b=some ob)(n:H b=none)(hx:b∉ex):∃sl,h1.get? b=some {ob with slots:=sl}:=by
 by_cases hb:b∈fs
 .exact u.slot b ob q n hb hx
 .exact⟨ob.slots,u.keep b ob q n hb hx⟩
def Un.kept (k:∀b u,h.get? b=some u->h'.get? b=some u):Un fs ex H H h h' :=⟨λb ob q _ _ _=>k b ob q,λb ob q _ _ _=>⟨ob.slots,k b ob q⟩,λ_ _ _ n _=>n,λb ob q _=>⟨ob,k b ob q⟩,λ_ _ q=>q,λ_ _ _ q=>q,λ_ ps q=>⟨#[],by rw[q];simp⟩⟩
def Un.refl:Un fs ex H H h h:=Un.kept λ_ _ q=>q
def Un.laid (k:∀b u,h.get? b=some u->h'.get? b=some u)(hp:h.objs.size<=a)(hn:H a=none):Un fs ex H (upd H a o) h h' where
 keep:=λb u q _ _ _=>k b u q
 slot:=λb u q _ _ _=>⟨u.slots,k b u q⟩
 free:=λb u q n _=>by rw[xN (zq (uR (yG q) hp))];exact n
 there:=λb u q _=>⟨u,k b u q⟩
 tups:=λb xs q=>by rw[xN (yK q hn)];exact q
 frzs:=λb u xs q=>by rw[xN (yK q hn)];exact q
 tbls:=λb ps q=>⟨#[],by rw[xN (yK q hn),q];simp⟩
def Un.write (mu:Mut (H x))(he:e=x\/H e=some (.own x))(k:∀b u,b≠e->h.get? b=some u->h'.get? b=some u)(heo:∃u,h'.get? e=some u):Un fs ex H (upd H x o) h h':=by
 have hx:∀b,H b=none->b≠x:=λb n z=>by subst z;rw[n] at mu;exact mu
 have hb:∀b,H b=none->b≠e:=λb n z=>by
  subst z;rcases he with r|r
  .exact hx b n r
  .rw[n] at r;cases r
 have hm:∀b u,H b=some u->¬Mut (some u)->b≠x:=λb u q nm z=>by subst z;rw[q] at mu;exact nm mu
 refine⟨λb u q n _ _=>k b u (hb b n) q,λb u q n _ _=>⟨u.slots,k b u (hb b n) q⟩,λb u q n _=>by rw[xN (hx b n)];exact n,λb u q _=>?_,
  λb xs q=>by rw[xN (hm b _ q λz=>z)];exact q,λb u xs q=>by rw[xN (hm b _ q λz=>z)];exact q,λb ps q=>⟨#[],by rw[xN (hm b _ q λz=>z),q];simp⟩⟩
 by_cases hbe:b=e
 .subst hbe;exact heo
 .exact⟨u,k b u hbe q⟩
end
def trk (h:Heap)(H:Hp):List Addr:=(List.range h.objs.size).filter λa=>(H a).isSome
def kN (h:Heap)(H:Hp):Heap:=PySem.W.hideAll h (trk h H)
def Jd (h:Heap)(H:Hp):(kN h H).objs.size=h.objs.size:=PySem.W.hideAll_size _ _
def Jc {h:Heap}{H:Hp}{b:Addr}{o:Obj}(e:h.get? b=some o)(n:H b=none):(kN h H).get? b=some o:=
 PySem.W.hideAll_get _ e λhm=>by have q:(H b).isSome=true:=(vM.mp hm).2;rw[n] at q;simp at q
theorem Kk {h:Heap}{H:Hp}{b:Addr}{o:Obj}(e:(kN h H).get? b=some o):h.get? b=some o/\H b=none:=by
 have e':h.get? b=some o:=PySem.W.of_hideAll (trk h H) e;refine⟨e',?_⟩;cases q:H b with
 |none=>rfl
 |some x=>have hm:b∈trk h H:=vM.mpr ⟨List.mem_range.mpr (yG e'),by simp[q]⟩;have z:(kN h H).get? b=none:=PySem.W.hideAll_none (trk h H) hm;rw[z] at e;cases e
def Gq (g h:Heap)(L:Addr):List (Addr×Obj):=(List.range h.objs.size).filterMap λa=>if a=L\/(g.get? a).isSome=true then none else(h.get? a).map λo=>(a,o)
def rest (g h:Heap)(L d:Addr):List (Addr×Obj):=(Gq g h L).filter λp=>decide (p.1≠d)
structure Mod (K:xo)(mg:Str->Option Value)(base:Heap):Prop where
 kin:K.In base
 glob:base.Ns mainGlobals mg
 blt:∃mb,base.Ns builtinsNs mb/\∀x:Str,x ≠ "__name__" -> mb x=bootBuiltins x
 nolimit:base.NoLimit
structure Cx where
 prog:Program
 w:World
 K:xo
 mg:Str->Option Value
 base:Heap
 A:Around
 N:List Str
 s₀:Shared
 H₀:Hp
 env:Env
 outer:List Env
 stack:List Env
 ex:List Addr
 fn:Str->Bool
 calm:Bool
 pn:List (Addr×Obj)
 xe:Value->Shared->Prop
def frs (l:List Env):List Addr:=l.filterMap (·.frame)
abbrev Cx.fs (X:Cx):List Addr:=frs X.outer
def Vis (sc:Scope)(x:Str):Prop:=sc.names.lookup x=some .local\/sc.names.lookup x=some .cell\/sc.names.lookup x=some .free
def Loc (sc:Scope)(x:Str):Prop:=sc.names.lookup x=some .local\/sc.names.lookup x=some .cell
def Look (env:Env)(h:Heap)(m:Str->Option Value)(x:Str)(u:Value):Prop:=(env.kindOf x=some .local/\m x=some u)\/((env.kindOf x=some .cell\/env.kindOf x=some .free)/\∃c,env.cells.lookup x=some c/\h.IsCell c (some u))
structure Cx.Ok (X:Cx):Prop where
 mod:Mod X.K X.mg X.base
 kind:X.env.scope.kind=.function
 glob:X.env.globals=mainGlobals
 blt:X.env.builtins=builtinsNs
 above:X.s₀.heap.objs.size<=X.env.locals
 inj:∀x y c,X.env.cells.lookup x=some c->X.env.cells.lookup y=some c->x=y
 has:∀x,(X.env.kindOf x=some .cell\/X.env.kindOf x=some .free)->∃c,X.env.cells.lookup x=some c
 cab:∀x c,X.fn x=true->X.env.cells.lookup x=some c->X.s₀.heap.objs.size<=c
 hd:X.calm=true->X.A.handled=none
 frames:X.A.frames=some X.stack
 stk:X.stack=X.outer\/(X.stack=X.env::X.outer/\X.env.frame=some X.env.locals)
 exf:∀b∈X.ex,b≠X.env.locals/\∀x c,X.env.cells.lookup x=some c->c≠b
 bs:∀b o,X.base.get? b=some o->X.s₀.heap.get? b=some o/\X.H₀ b=none
 bsz:X.base.objs.size<=X.s₀.heap.objs.size
 noex:∀b o,X.base.get? b=some o->b∉X.ex
 exfs:∀b∈X.ex,b∉X.fs
 funs:X.s₀.heap.FunFrames X.base X.outer
 frf:∀b∈X.fs,X.H₀ b=none
structure Inv (X:Cx)(xg:List (Addr×Obj))(σ:List (Option V))(H:Hp)(s:Shared):Prop where
 ok:X.Ok
 os:s.os=X.s₀.os
 bare:AllBare s.gens
 base:Un X.fs X.ex X.H₀ H X.s₀.heap s.heap
 loc:∃m,s.heap.Ns X.env.locals m/\∀(i:Nat) (x:Str) (v:V),X.N[i]?=some x->σ[i]?=some (some v)->Vis X.env.scope x->∃u,RelV v u/\Look X.env s.heap m x u
 cell:∀x c,X.env.cells.lookup x=some c->∃v,s.heap.IsCell c v
 free:H X.env.locals=none
 freeC:∀x c,X.env.cells.lookup x=some c->H c=none
 pin:∀p∈X.pn++xg,s.heap.get? p.1=some p.2/\H p.1=none/\p.1≠X.env.locals/\p.1∉X.fs/\∀v,p.2.data≠.cell v
 hok:zE X.prog X.w H s.heap
 len:σ.length=X.N.length
section
variable {X:Cx} {xg:List (Addr×Obj)} {σ:List (Option V)} {H H':Hp} {s:Shared} {h':Heap}
def Cx.Ok.nofr (ok:X.Ok){b:Addr}{o:Obj}(e:X.base.get? b=some o):b∉X.fs:=λhb=>by have:=(ok.funs.mem hb).1;rw[e] at this;cases this
theorem Inv.bs (I:Inv X xg σ H s):∀b o,X.base.get? b=some o->s.heap.get? b=some o/\H b=none:=λb o e=>⟨I.base.keep b o (I.ok.bs b o e).1 (I.ok.bs b o e).2 (I.ok.nofr e) (I.ok.noex b o e),I.base.free b o (I.ok.bs b o e).1 (I.ok.bs b o e).2 (I.ok.noex b o e)⟩
def Inv.bk (I:Inv X xg σ H s):∀b o,X.base.get? b=some o->s.heap.get? b=some o:=λb o e=>(I.bs b o e).1
theorem Inv.mod (I:Inv X xg σ H s):Mod X.K X.mg X.base:=I.ok.mod
def Inv.kIn (I:Inv X xg σ H s):X.K.In s.heap:=I.ok.mod.kin.keeps I.bk
theorem Inv.lt (I:Inv X xg σ H s):X.env.locals<s.heap.objs.size:=let ⟨_,hn,_⟩:=I.loc;hn.lt
def Inv.sz (I:Inv X xg σ H s):X.s₀.heap.objs.size<=s.heap.objs.size:=qj I.ok.above (mI I.lt)
def Inv.nofs (I:Inv X xg σ H s){a:Addr}(h:s.heap.objs.size<=a):a∉X.fs:=λhb=>by obtain⟨_,o,ho,_⟩:=I.ok.funs.mem hb;exact absurd (uR (yG ho) (qj I.sz h)) (gR _)
def Inv.cne (I:Inv X xg σ H s):∀x c,X.env.cells.lookup x=some c->c≠X.env.locals:=λx c e z=>by obtain⟨v,o,ho,hd⟩:=I.cell x c e;obtain⟨m,⟨o',es,ep,ho',hd',_⟩,_⟩:=I.loc;rw[z,ho'] at ho;cases ho;rw[hd'] at hd;cases hd
theorem Inv.funs (I:Inv X xg σ H s):s.heap.FunFrames X.base X.outer:=by
 have all:∀(l:List Env),(∀b∈frs l,b∈X.fs)->X.s₀.heap.FunFrames X.base l->s.heap.FunFrames X.base l:=by
  intro l
  induction l with
  |nil=>intro _ _;trivial
  |cons env r ih=>intro hs hl;obtain⟨hk,⟨L,o,hf,hn,ho,hd⟩,hr⟩:=hl;have hL:L∈X.fs:=hs L (by unfold frs;rw[mE,hf];exact xS);obtain⟨sl,e⟩:=I.base.slot L o ho (I.ok.frf L hL) hL λz=>I.ok.exfs L z hL;exact⟨hk,⟨L,_,hf,hn,e,hd⟩,ih (λb hb=>hs b (by unfold frs;rw[mE,hf];exact yV _ hb)) hr⟩
 exact all X.outer (λ_ hb=>hb) I.ok.funs
theorem Inv.stack (I:Inv X xg σ H s):s.heap.FunFrames X.base X.stack:=by
 rcases I.ok.stk with e|⟨e,hf⟩
 .rw[e];exact I.funs
 .rw[e];obtain⟨m,hn,_⟩:=I.loc;refine .cons (by rw[I.ok.kind];decide) hf hn ?_ I.funs;exact Heap.get?_none_of_le (qj I.ok.bsz I.ok.above)
def Inv.stkSub (I:Inv X xg σ H s):∀b∈frs X.stack,b∈X.env.locals::X.fs:=λb hb=>by
 rcases I.ok.stk with e|⟨e,hf⟩
 .rw[e] at hb;exact yV _ hb
 .rw[e] at hb;unfold frs at hb;rw[mE,hf] at hb;exact hb
def Inv.stkFree (I:Inv X xg σ H s):∀b∈frs X.stack,H b=none:=λb hb=>by
 rcases xR.mp (I.stkSub b hb) with e|hb
 .rw[e];exact I.free
 .obtain⟨_,o,ho,_⟩:=I.ok.funs.mem hb;exact I.base.free b o ho (I.ok.frf b hb) λz=>I.ok.exfs b z hb
def Inv.step {g':Array GenState}{t':Nat}{d':Drawn}{ch:List Addr}(I:Inv X xg σ H s)
  (hch:∀b∈ch,(b∈X.ex\/X.s₀.heap.objs.size<=b)/\b≠X.env.locals/\(∀x c,X.env.cells.lookup x=some c->c≠b)/\∀p∈X.pn++xg,p.1≠b)
  (keep:∀b o,b≠X.env.locals->b∉X.fs->b∉ch->s.heap.get? b=some o->H b=none->h'.get? b=some o)
  (slot:∀b o,b≠X.env.locals->b∈X.fs->b∉ch->s.heap.get? b=some o->H b=none->∃sl,h'.get? b=some {o with slots:=sl}) (free:∀b o,b∉ch->s.heap.get? b=some o->H b=none->H' b=none)
  (there:∀b o,b∉ch->s.heap.get? b=some o->∃o',h'.get? b=some o')
  (tups:∀b xs,H b=some (.tup xs)->H' b=some (.tup xs)) (frzs:∀b o u,H b=some (.frz o u)->H' b=some (.frz o u)) (tbls:∀b ps,H b=some (.tbl ps)->∃more,H' b=some (.tbl (ps++more)))
  (ns:∀m,s.heap.Ns X.env.locals m->h'.Ns X.env.locals m) (hok:zE X.prog X.w H' h') (hg:AllBare g') :
  Inv X xg σ H' {s with heap:=h',gens:=g',drawn:=d',toks:=t' }:=by
 have neL:∀b o,X.s₀.heap.get? b=some o->b≠X.env.locals:=λb o e=>zq (uR (yG e) I.ok.above);have neC:∀b o,X.s₀.heap.get? b=some o->b∉X.ex->b∉ch:=λb o e hx hb=>by
  rcases(hch b hb).1 with z|z
  .exact hx z
  .exact absurd (uR (yG e) z) (gR _)
 have cellK:∀x c,X.env.cells.lookup x=some c->∀v,s.heap.IsCell c v->h'.IsCell c v:=λx c e v ⟨o,ho,hd⟩=>by
  have nch:c∉ch:=λz=>(hch c z).2.2.1 x c e rfl;by_cases hc:c∈X.fs
  .obtain⟨sl,q⟩:=slot c o (I.cne x c e) hc nch ho (I.freeC x c e);exact⟨_,q,hd⟩
  .exact⟨o,keep c o (I.cne x c e) hc nch ho (I.freeC x c e),hd⟩
 refine⟨I.ok,I.os,hg,⟨λb o e n hb hx=>?_,λb o e n hb hx=>?_,λb o e n hx=>?_,λb o e hx=>?_,λb xs e=>tups b xs (I.base.tups b xs e),λb o xs e=>frzs b o xs (I.base.frzs b o xs e),λb ps e=>?_⟩,?_,λx c e=>?_,?_,λx c e=>?_,λp hp=>?_,hok,I.len⟩
 .exact keep b o (neL b o e) hb (neC b o e hx) (I.base.keep b o e n hb hx) (I.base.free b o e n hx)
 .obtain⟨sl,e1⟩:=I.base.slot b o e n hb hx;obtain⟨sl',e2⟩:=slot b _ (neL b o e) hb (neC b o e hx) e1 (I.base.free b o e n hx);exact⟨sl',e2⟩
 .obtain⟨o',e1⟩:=I.base.there b o e hx;exact free b o' (neC b o e hx) e1 (I.base.free b o e n hx)
 .obtain⟨o',e1⟩:=I.base.there b o e hx;exact there b o' (neC b o e hx) e1
 .obtain⟨m1,e1⟩:=I.base.tbls b ps e;obtain⟨m2,e2⟩:=tbls b _ e1;exact⟨m1++m2,by rw[e2,Array.append_assoc]⟩
 .obtain⟨m,hn,hl⟩:=I.loc;refine⟨m,ns m hn,λi x v e1 e2 e3=>?_⟩;obtain⟨u,r,l⟩:=hl i x v e1 e2 e3;refine⟨u,r,?_⟩;rcases l with l|⟨k,c,e,z⟩
  .exact .inl l
  .exact .inr ⟨k,c,e,cellK x c e _ z⟩
 .obtain⟨v,z⟩:=I.cell x c e;exact⟨v,cellK x c e v z⟩
 .obtain⟨m,⟨o,_,_,ho,_⟩,_⟩:=I.loc;exact free _ o (λz=>(hch _ z).2.1 rfl) ho I.free
 .obtain⟨v,o,ho,hd⟩:=I.cell x c e;exact free c o (λz=>(hch c z).2.2.1 x c e rfl) ho (I.freeC x c e)
 .obtain⟨e,n,ne,nf,d⟩:=I.pin p hp;have nch:p.1∉ch:=λz=>(hch p.1 z).2.2.2 p hp rfl;exact⟨keep p.1 p.2 ne nf nch e n,free p.1 p.2 nch e n,ne,nf,d⟩
def Inv.un {t':Nat}(I:Inv X xg σ H s)(u:Un X.fs [] H H' s.heap h')(hok:zE X.prog X.w H' h'):Inv X xg σ H' {s with heap:=h',toks:=t' }:=by
 obtain⟨m,⟨o,es,ep,ho,r⟩,_⟩:=id I.loc;obtain⟨sl,hL⟩:=u.any ho I.free (by simp);exact I.step (g':=s.gens) (d':=s.drawn) (ch:=[]) (λ_ z=>nomatch z) (λb o _ hb _ e n=>u.keep b o e n hb (by simp)) (λb o _ hb _ e n=>u.slot b o e n hb (by simp)) (λb o _ e n=>u.free b o e n (by simp)) (λb o _ e=>u.there b o e (by simp)) u.tups u.frzs u.tbls (λm' hm=>by obtain⟨o',es',ep',ho',r'⟩:=hm;rw[ho] at ho';cases ho';exact⟨_,es',ep',hL,r'⟩) hok I.bare
def Inv.call {g':Array GenState}{t':Nat}{d':Drawn}{ch:List Addr}(I:Inv X xg σ H s)(u:Un (frs X.stack) ch H H' s.heap h')(hok:zE X.prog X.w H' h')(hg:AllBare g')
  (hch:∀b∈ch,(b∈X.ex\/X.s₀.heap.objs.size<=b)/\b≠X.env.locals/\(∀x c,X.env.cells.lookup x=some c->c≠b)/\∀p∈X.pn++xg,p.1≠b) :
  Inv X xg σ H' {s with heap:=h',gens:=g',drawn:=d',toks:=t' }:=by
 obtain⟨m,⟨o,es,ep,ho,r⟩,_⟩:=id I.loc;obtain⟨sl,hL⟩:=u.any ho I.free λz=>(hch _ z).2.1 rfl;exact I.step (ch:=ch) hch (λb o hL hb hc e n=>u.keep b o e n (λz=>(xR.mp (I.stkSub b z)).elim hL hb) hc) (λb o _ _ hc e n=>u.any e n hc) (λb o hc e n=>u.free b o e n hc) (λb o hc e=>u.there b o e hc) u.tups u.frzs u.tbls (λm' hm=>by obtain⟨o',es',ep',ho',r'⟩:=hm;rw[ho] at ho';cases ho';exact⟨_,es',ep',hL,r'⟩) hok hg
def Inv.turned {t':Nat}{it:Addr}(I:Inv X xg σ H s)(k:∀b o,b≠it->s.heap.get? b=some o->h'.get? b=some o)(hn:H it=none)(hL:it≠X.env.locals)
  (h1:it∈X.ex\/X.s₀.heap.objs.size<=it) (h2:∀x c,X.env.cells.lookup x=some c->c≠it) (h3:∀p∈X.pn++xg,p.1≠it):Inv X xg σ H {s with heap:=h',toks:=t' }:=by
 have nit:∀b u,H b=some u->b≠it:=λb u e z=>by rw[z,hn] at e;cases e
 refine I.step (g':=s.gens) (d':=s.drawn) (ch:=[it]) (λb hb=>?_) (λb o _ _ hc e _=>k b o (λz=>hc (by simp[z])) e) (λb o _ _ hc e _=>⟨o.slots,k b o (λz=>hc (by simp[z])) e⟩) (λ_ _ _ _ n=>n)
  (λb o hc e=>⟨o,k b o (λz=>hc (by simp[z])) e⟩) (λ_ _ e=>e) (λ_ _ _ e=>e) (λb ps e=>⟨#[],by rw[e];simp⟩) (λm hm=>?_) (λb u e=>?_) I.bare
 .have e:b=it:=by simpa using hb
  subst e;exact⟨h1,hL,h2,h3⟩
 .obtain⟨o,es,ep,ho,r⟩:=hm;exact⟨o,es,ep,k _ o (zD hL) ho,r⟩
 .refine(I.hok b u e).stay (λc v hc q=>k c v ?_ q) (λ_ q=>q) (λ_ _ q=>q) λ_ _ _ q=>q;rcases hc with z|z
  .rw[z];exact nit b u e
  .exact nit c _ z
def Inv.tok (I:Inv X xg σ H s)(t:Nat):Inv X xg σ H {s with toks:=t}:=I.un (h':=s.heap) (t':=t) Un.refl I.hok
theorem Inv.kept {t':Nat}(I:Inv X xg σ H s)(k:∀b u,s.heap.get? b=some u->h'.get? b=some u):Inv X xg σ H {s with heap:=h',toks:=t' }:=I.un (Un.kept k) (I.hok.kept k)
theorem Inv.laid {a:Addr}{o:HO}{t':Nat}(I:Inv X xg σ H s)(k:∀b u,s.heap.get? b=some u->h'.get? b=some u)(hp:s.heap.objs.size<=a)(new:zA X.prog X.w (upd H a o) h' a o) :
  Inv X xg σ (upd H a o) {s with heap:=h',toks:=t' }:=I.un (Un.laid k hp (I.hok.fresh hp)) (I.hok.laid k hp new)
theorem Inv.write {x e:Addr}{o:HO}{t':Nat}(I:Inv X xg σ H s)(mu:Mut (H x))(he:e=x\/H e=some (.own x))(k:∀b u,b≠e->s.heap.get? b=some u->h'.get? b=some u)(heo:∃u,h'.get? e=some u)
  (new:zA X.prog X.w (upd H x o) h' x o):Inv X xg σ (upd H x o) {s with heap:=h',toks:=t' }:=I.un (Un.write mu he k heo) (I.hok.write mu he k heo new)
def Inv.weak {σ':List (Option V)}(I:Inv X xg σ H s)(hl:σ'.length=σ.length)(w:∀(i:Nat) v,σ'[i]?=some (some v)->σ[i]?=some (some v)):Inv X xg σ' H s:=⟨I.ok,I.os,I.bare,I.base,let ⟨m,hn,hl'⟩:=I.loc;⟨m,hn,λi x v e1 e2 e3=>hl' i x v e1 (w i v e2) e3⟩,I.cell,I.free,I.freeC,I.pin,I.hok,hl.trans I.len⟩
def Inv.pins_of {pins':List (Addr×Obj)}(I:Inv X xg σ H s)(h:∀p∈pins',s.heap.get? p.1=some p.2/\H p.1=none/\p.1≠X.env.locals/\p.1∉X.fs/\∀v,p.2.data≠.cell v):Inv X pins' σ H s:=⟨I.ok,I.os,I.bare,I.base,I.loc,I.cell,I.free,I.freeC,λp hp=>(xU.mp hp).elim (λz=>I.pin p (yF _ z)) (h p),I.hok,I.len⟩
def CI {N:List Str}(hN:N.Nodup){i j:Nat}{x:Str}(a:N[i]?=some x)(b:N[j]?=some x):i=j:=by obtain⟨h1,e1⟩:=zP.mp a;obtain⟨h2,e2⟩:=zP.mp b;exact(List.getElem_inj hN).mp (e1.trans e2.symm)
def EE {M:Model}{A:Around}{E:Value->Shared->Prop}{i:Nat}{x:Str}{v:V}{u:Value}{Q:Unit->Shared->Prop}(I:Inv X xg σ H s)(hN:X.N.Nodup)(hi:X.N[i]?=some x)(hx:Loc X.env.scope x)(r:RelV v u)
  (h:∀s',Inv X xg (σ.set i (some v)) H s'->(∃a,Heap.SameBut a s.heap s'.heap/\(a=X.env.locals\/X.env.cells.lookup x=some a))->Q () s') (hf:X.fn x=true\/X.env.scope.names.lookup x=some .local:=by first|exact .inl rfl|exact .inr rfl|assumption):wpAny M A (storeName X.env x u) Q E s:=by
 obtain⟨m,hn,hl⟩:=id I.loc;have hcls:(X.env.scope.kind == .class||(X.env.scope.kind == .module&&X.env.locals != X.env.globals))=false:=by rw[I.ok.kind];rfl
 have hiσ:i<σ.length:=by rw[I.len];exact(zP.mp hi).1
 have cne:=I.cne;have tracked:∀ {a:Addr} {h':Heap},(∃o,s.heap.get? a=some o/\H a=none)->Heap.SameBut a s.heap h'->zE X.prog X.w H h':=λ {a h'} ha hs b ob e=>by
  obtain⟨_,_,hfree⟩:=ha;refine(I.hok b ob e).stay (λc w' hc q=>(hs.2 c ?_).trans q) (λ_ q=>q) (λ_ _ q=>q) λ_ _ _ q=>q;rintro rfl;rcases hc with rfl|hc
  .rw[hfree] at e;cases e
  .rw[hfree] at hc;cases hc
 rcases hx with hk|hk
 .refine wpAny_storeName_local hk hn (λh' hn' hs=>?_) hcls;obtain⟨oL,_,_,hoL,_⟩:=id hn;refine h _ ⟨I.ok,I.os,I.bare,⟨λb o e n hb hx=>?_,λb o e n hb hx=>?_,I.base.free,λb o e hx=>?_,I.base.tups,I.base.frzs,I.base.tbls⟩,⟨_,hn',λj y v' e1 e2 e3=>?_⟩,λy c e=>?_,I.free,I.freeC,λp hp=>?_,tracked ⟨oL,hoL,I.free⟩ hs,by simpa using I.len⟩ ⟨_,hs,.inl rfl⟩
  .exact(hs.2 b (zq (uR (yG e) I.ok.above))).trans (I.base.keep b o e n hb hx)
  .obtain⟨sl,e1⟩:=I.base.slot b o e n hb hx;exact⟨sl,(hs.2 b (zq (uR (yG e) I.ok.above))).trans e1⟩
  .obtain⟨o',e1⟩:=I.base.there b o e hx;exact⟨o',(hs.2 b (zq (uR (yG e) I.ok.above))).trans e1⟩
  .by_cases hj:j=i
   .subst hj;rw[hi] at e1;cases e1;rw[ic hiσ] at e2;cases e2;exact⟨u,r,.inl ⟨hk,by simp⟩⟩
   .rw[dD (zD hj)] at e2;obtain⟨u',r',q⟩:=hl j y v' e1 e2 e3;refine⟨u',r',?_⟩;rcases q with ⟨k,e⟩|⟨k,c,e,z⟩
    .refine .inl ⟨k,?_⟩;have:y≠x:=λe=>hj (CI hN e1 (e▸hi));simp[this,e]
    .exact .inr ⟨k,c,e,z.sameBut hs (cne y c e)⟩
  .obtain⟨w',z⟩:=I.cell y c e;exact⟨w',z.sameBut hs (cne y c e)⟩
  .obtain⟨e,n,ne,nf,d⟩:=I.pin p hp;exact⟨(hs.2 p.1 ne).trans e,n,ne,nf,d⟩
 .have hfn:X.fn x=true:=by
   rcases hf with z|z
   .exact z
   .rw[z] at hk;cases hk
  obtain⟨c,hc⟩:=I.ok.has x (.inl hk);obtain⟨w',z⟩:=I.cell x c hc;refine wpAny_storeName_cell I.ok.kind hk hc z (λh' hc' hs=>?_);obtain⟨oc,hoc,hocd⟩:=id z;refine h {s with heap:=h' } ⟨I.ok,I.os,I.bare,⟨λb o e n hb hx=>?_,λb o e n hb hx=>?_,I.base.free,λb o e hx=>?_,I.base.tups,I.base.frzs,I.base.tbls⟩,⟨m,hn.sameBut hs (zD (cne x c hc)),λj y v' e1 e2 e3=>?_⟩,λy c' e=>?_,I.free,I.freeC,λp hp=>?_,tracked ⟨oc,hoc,I.freeC x c hc⟩ hs,by simpa using I.len⟩ ⟨c,hs,.inr hc⟩
  .exact(hs.2 b (zq (uR (yG e) (I.ok.cab x c hfn hc)))).trans (I.base.keep b o e n hb hx)
  .obtain⟨sl,e1⟩:=I.base.slot b o e n hb hx;exact⟨sl,(hs.2 b (zq (uR (yG e) (I.ok.cab x c hfn hc)))).trans e1⟩
  .obtain⟨o',e1⟩:=I.base.there b o e hx;exact⟨o',(hs.2 b (zq (uR (yG e) (I.ok.cab x c hfn hc)))).trans e1⟩
  .by_cases hj:j=i
   .subst hj;rw[hi] at e1;cases e1;rw[ic hiσ] at e2;cases e2;exact⟨u,r,.inr ⟨.inl hk,c,hc,hc'⟩⟩
   .rw[dD (zD hj)] at e2;obtain⟨u',r',q⟩:=hl j y v' e1 e2 e3;refine⟨u',r',?_⟩;rcases q with q|⟨k,c',e,z'⟩
    .exact .inl q
    .refine .inr ⟨k,c',e,z'.sameBut hs ?_⟩;rintro rfl;exact hj (CI hN e1 (I.ok.inj _ _ _ e hc▸hi))
  .by_cases hcc:c'=c
   .subst hcc;exact⟨_,hc'⟩
   .obtain⟨w2,z2⟩:=I.cell y c' e;exact⟨w2,z2.sameBut hs hcc⟩
  .obtain⟨e,n,ne,nf,d⟩:=I.pin p hp;refine⟨(hs.2 p.1 ?_).trans e,n,ne,nf,d⟩;intro q;rw[q,hoc] at e;have q':oc=p.2:=qQ e;exact d w' (by rw[<-q'];exact hocd)
def ar {M:Model}{A:Around}{E:Value->Shared->Prop}{i:Nat}{x:Str}{v:V}{u:Value}{Q:Unit->Shared->Prop}(I:Inv X xg σ H s)(hN:X.N.Nodup)(hi:X.N[i]?=some x)(hx:Loc X.env.scope x)(r:RelV v u)
  (h:∀s',Inv X xg (σ.set i (some v)) H s'->Q () s') (hf:X.fn x=true\/X.env.scope.names.lookup x=some .local:=by first|exact .inl rfl|exact .inr rfl|assumption):wpAny M A (storeName X.env x u) Q E s:=
 EE I hN hi hx r (λs' I' _=>h s' I') hf
def Inv.call' {s':Shared}{ch:List Addr}(I:Inv X xg σ H s)(ho:s'.os=s.os)(u:Un (frs X.stack) ch H H' s.heap s'.heap)(hok:zE X.prog X.w H' s'.heap)(hg:AllBare s'.gens)
  (hch:∀b∈ch,(b∈X.ex\/X.s₀.heap.objs.size<=b)/\b≠X.env.locals/\(∀x c,X.env.cells.lookup x=some c->c≠b)/\∀p∈X.pn++xg,p.1≠b):Inv X xg σ H' s':=by
 obtain⟨h',g',d',t',o'⟩:=s';have e:o'=s.os:=ho;subst e;exact I.call (g':=g') (t':=t') (d':=d') u hok hg hch
end
abbrev XK:=Value->Option Addr->Hp->Prop
abbrev St:=List (Option V)
abbrev VK:=V->Hp->Prop
abbrev TE:=St->Hp->VK->Prop
abbrev TT:=St->Hp->(Bool->Hp->Prop)->Prop
abbrev TA:=St->Hp->(List V->Hp->Prop)->Prop
structure Ends where
 nx:St->Hp->Prop
 rt:VK
 bk:St->Hp->Prop:=λ_ _=>False
 ct:St->Hp->Prop:=λ_ _=>False
abbrev TS:=Ends->St->Hp->Prop
def EP (X:Cx)(xg:List (Addr×Obj))(σ:St)(Q:VK)(u:Value)(s':Shared):Prop:=∃v H',Inv X xg σ H' s'/\RelV v u/\Q v H'
def TP (X:Cx)(xg:List (Addr×Obj))(σ:St)(Q:Bool->Hp->Prop)(b:Bool)(s':Shared):Prop:=∃H',Inv X xg σ H' s'/\Q b H'
def AP (X:Cx)(xg:List (Addr×Obj))(σ:St)(Q:List V->Hp->Prop)(us:List Value)(s':Shared):Prop:=∃vs H',Inv X xg σ H' s'/\x9 vs us/\Q vs H'
def SP (X:Cx)(xg:List (Addr×Obj))(D:Ends)(f:Flow)(s':Shared):Prop:=
 match f with
 |.next=>∃ σ' H',Inv X xg σ' H' s'/\D.nx σ' H'
 |.brk=>∃ σ' H',Inv X xg σ' H' s'/\D.bk σ' H'
 |.cont=>∃ σ' H',Inv X xg σ' H' s'/\D.ct σ' H'
 |.ret u=>∃v σ' H',Inv X xg σ' H' s'/\RelV v u/\D.rt v H'
def PE (X:Cx)(e:Expr)(t:TE):Prop:=∀ ⦃xg:List (Addr×Obj)⦄ (s:Shared) (σ:St) (H:Hp) (Q:VK),Inv X xg σ H s->t σ H Q->wpAny (model X.prog X.w) X.A (eval e X.env) (EP X xg σ Q) X.xe s
def PT (X:Cx)(e:Expr)(t:TT):Prop:=∀ ⦃xg:List (Addr×Obj)⦄ (s:Shared) (σ:St) (H:Hp) (Q:Bool->Hp->Prop),Inv X xg σ H s->t σ H Q->wpAny (model X.prog X.w) X.A (isTrue e X.env (eval e X.env)) (TP X xg σ Q) X.xe s
def PW (X:Cx)(e:Expr)(t:TT):Prop:=∀ ⦃whole:Sem Value⦄ (xg:List (Addr×Obj)) (s:Shared) (σ:St) (H:Hp) (Q:Bool->Hp->Prop),Inv X xg σ H s->t σ H Q->wpAny (model X.prog X.w) X.A (isTrue e X.env whole) (TP X xg σ Q) X.xe s
def PW.pt {X:Cx}{e:Expr}{t:TT}(h:PW X e t):PT X e t:=@h _
def PA (X:Cx)(es:List Expr)(t:TA):Prop:=∀ ⦃pos:Pos⦄ (xg:List (Addr×Obj)) (s:Shared) (σ:St) (H:Hp) (Q:List V->Hp->Prop),Inv X xg σ H s->t σ H Q->wpAny (model X.prog X.w) X.A (spliced (backTo pos (starEach es X.env))) (AP X xg σ Q) X.xe s
def PS (X:Cx)(st:Stmt)(t:TS):Prop:=∀ ⦃xg:List (Addr×Obj)⦄ (s:Shared) (σ:St) (H:Hp) (D:Ends),Inv X xg σ H s->t D σ H->wpAny (model X.prog X.w) X.A (exec st X.env) (SP X xg D) X.xe s
def PSs (X:Cx)(st:List Stmt)(t:TS):Prop:=∀ ⦃xg:List (Addr×Obj)⦄ (s:Shared) (σ:St) (H:Hp) (D:Ends),Inv X xg σ H s->t D σ H->wpAny (model X.prog X.w) X.A (execs st X.env) (SP X xg D) X.xe s
def xW {α:Type}{t:Sem α}{Q Q':α->Shared->Prop}{M:Model}{A:Around}{E:Value->Shared->Prop}{s:Shared}(h:wpAny M A t Q E s)(hQ:∀a s,Q a s->Q' a s):wpAny M A t Q' E s:=zm h hQ λ_ _ x=>x
section
variable {X:Cx}
def wK (i:Nat):TE:=λσ H Q=>∃v,σ[i]?=some (some v)/\Q v H
def tC (v:V):TE:=λ_ H Q=>Q v H
def M1 {i:Nat}{x:Str}{pos:Pos}(hN:X.N[i]?=some x)(hv:Vis X.env.scope x)(hd:(x==("__debug__" : Str))=false:=by decide)(hcd:(x==("__classdict__" : Str))=false:=by decide):PE X (.Name x pos) (wK i):=by
 intro xg s σ H Q I h;obtain⟨v,e,h⟩:=h;obtain⟨m,hn,hl⟩:=I.loc;obtain⟨u,r,l⟩:=hl i x v hN e hv;have fin:EP X xg σ Q u s:=⟨v,H,I,r,h⟩
 rcases l with ⟨hk,hm⟩|⟨hk,c,hc,hcell⟩
 .exact wpAny_Name (wpAny_loadName_local I.ok.kind hk hn hm fin) hd
 .rcases hk with hk|hk
  .exact wpAny_Name (wpAny_loadName_cell I.ok.kind hk hc hcell fin) hd
  .exact wpAny_Name (wpAny_loadName_free I.ok.kind hk hc hcell fin hcd) hd
def xk {i j pos}:PE X (.Constant (.int i) j pos) (tC (.int i)):=λ_ _ _ H _ I h=>wpAny_Constant_int ⟨.int i,H,I.tok _,⟨_,rfl⟩,h⟩
def wC {b j pos}:PE X (.Constant (.bool b) j pos) (tC (.bl b)):=λ_ _ _ H _ I h=>Constant_bool ⟨.bl b,H,I,rfl,h⟩
def sS {j pos}:PE X (.Constant .none j pos) (tC .non):=λ_ _ _ H _ I h=>Constant_none ⟨.non,H,I,rfl,h⟩
def Gl (X:Cx)(x:Str):Prop:=X.env.kindOf x=some .globalImplicit
def Cm {E:Value->Shared->Prop}{xg:List (Addr×Obj)}{s:Shared}{σ:St}{H:Hp}{x:Str}{u:Value}{pos:Pos}{Q:Value->Shared->Prop}(I:Inv X xg σ H s)(hg:Gl X x)(hm:X.mg x=some u)(h:Q u s)
  (hd:(x==("__debug__" : Str))=false:=by decide):wpAny (model X.prog X.w) X.A (eval (.Name x pos) X.env) Q E s:=
 Calls.Name_function_global I.ok.kind hg (Calls.loadGlobal_global (by rw[I.ok.glob];exact I.mod.glob.keeps I.bk) hm h) hd
def fy {E:Value->Shared->Prop}{xg:List (Addr×Obj)}{s:Shared}{σ:St}{H:Hp}{x:Str}{u:Value}{pos:Pos}{Q:Value->Shared->Prop}(I:Inv X xg σ H s)(hg:Gl X x)(hm:X.mg x=none)(hv:bootBuiltins x=some u)(h:Q u s)
  (hn:x ≠ "__name__" := by decide) (hd:(x==("__debug__" : Str))=false:=by decide):wpAny (model X.prog X.w) X.A (eval (.Name x pos) X.env) Q E s:=by
 obtain⟨mb,h1,h2⟩:=I.mod.blt;exact Calls.Name_function_global I.ok.kind hg (Calls.loadGlobal_builtin (by rw[I.ok.glob];exact I.mod.glob.keeps I.bk) hm (by rw[I.ok.blt];exact h1.keeps I.bk) ((h2 x hn).trans hv) h) hd
def jE {x:Str}{v:V}{u:Value}{pos:Pos}(hg:Gl X x)(hm:X.mg x=some u)(r:RelV v u)(hd:(x==("__debug__" : Str))=false:=by decide):PE X (.Name x pos) (tC v):=λ_ _ _ H _ I h=>Cm I hg hm ⟨v,H,I,r,h⟩ hd
def qF {x:Str}{v:V}{u:Value}{pos:Pos}(hg:Gl X x)(hm:X.mg x=none)(hv:bootBuiltins x=some u)(r:RelV v u)(hn:x ≠ "__name__" := by decide)(hd:(x==("__debug__" : Str))=false:=by decide):PE X (.Name x pos) (tC v):=λ_ _ _ H _ I h=>fy I hg hm hv ⟨v,H,I,r,h⟩ hn hd
variable {a b:Expr} {ta tb:TE} {pos:Pos}
def PC (X:Cx)(op:CmpOp)(a b:Expr)(t:TE):Prop:=
 ∀(xg:List (Addr×Obj)) (s:Shared) (σ:St) (H:Hp) (Q:VK),Inv X xg σ H s->t σ H Q->
  wpAny (model X.prog X.w) X.A (eval a X.env) (λv s₁=>wpAny (model X.prog X.w) X.A (eval b X.env) (λu s₂=>wpAny (model X.prog X.w) X.A (compareOp op v u) (EP X xg σ Q) X.xe s₂) X.xe s₁) X.xe s
def CH (b:Expr){op:CmpOp}(h:op≠.In)(h2:op≠.NotIn):behindInMarks op b=false:=by
 have e1:(op==CmpOp.In)=false:=by cases op<;>first|rfl|exact absurd rfl h
 have e2:(op==CmpOp.NotIn)=false:=by cases op<;>first|rfl|exact absurd rfl h2
 cases b<;>simp[behindInMarks,e1,e2]
def ER (ta:TE):TE:=λσ H Q=>ta σ H λx H1=>Q (.bl (decide (x=.non))) H1
def EZ (ta:TE):TE:=λσ H Q=>ta σ H λx H1=>Q (.bl (!decide (x=.non))) H1
theorem RelV.none_iff {x:V}{v:Value}(r:RelV x v):(v==Value.none)=decide (x=.non):=by
 cases x with
 |non=>cases r;rfl
 |bl _=>cases r;rfl
 |int _=>obtain⟨t,rfl⟩:=r;rfl
 |str _=>obtain⟨t,rfl⟩:=r;rfl
 |byt _=>obtain⟨t,rfl⟩:=r;rfl
 |flt _=>obtain⟨t,rfl⟩:=r;rfl
 |ref _=>cases r;rfl
 |ty _=>cases r;rfl
def c9 {j pos'}(ha:PE X a ta):PC X .Is a (.Constant .none j pos') (ER ta):=by intro xg s σ H Q I h;refine xW (@ha xg s σ H _ I h) λv s1 ⟨x,H1,I1,r1,q1⟩=>?_;exact Constant_none (is_none_gen ⟨.bl _,H1,I1,by rw[r1.none_iff];rfl,q1⟩)
def tH {j pos'}(ha:PE X a ta):PC X .IsNot a (.Constant .none j pos') (EZ ta):=by intro xg s σ H Q I h;refine xW (@ha xg s σ H _ I h) λv s1 ⟨x,H1,I1,r1,q1⟩=>?_;exact Constant_none (isnot_none_gen ⟨.bl _,H1,I1,by rw[r1.none_iff];rfl,q1⟩)
def tB (t:TE):TT:=λσ H Q=>t σ H λx H1=>∃c,x=.bl c/\Q c H1
def MU {op:CmpOp}{t:TE}(h:PC X op a b t)(h1:behindInMarks op b=false:=by first|exact CH _ (by decide) (by decide)|rfl):PE X (.Compare a [op] [b] pos) t:=λxg s σ H Q I hw=>wpAny_Compare1 (@h xg s σ H Q I hw) h1
def fP {op:CmpOp}{t:TE}(h:PC X op a b t)(h1:behindInMarks op b=false:=by first|exact CH _ (by decide) (by decide)|rfl):PT X (.Compare a [op] [b] pos) (tB t):=by intro xg s σ H Q I hw;refine wpAny_isTrue_Compare1 (xW (@h xg s σ H _ I hw) λv s1 h1=>xW h1 λu s2 h2=>xW h2 λc s3 ⟨x,H1,I1,r1,q1⟩=>?_) h1;obtain⟨d,rfl,q⟩:=q1;cases r1;exact jm ⟨H1,I1,q⟩
def wJ {e:Expr}{t:TE}(h:PE X e t)(he:∀whole,isTrue e X.env whole=(do let v <-whole;standAt e.pos;holding [v] (truthy v)):=by intro _;rfl):PT X e (tB t):=by intro xg s σ H Q I hw;refine isTrue_plain (xW (@h xg s σ H _ I hw) λv s1 ⟨x,H1,I1,r1,q1⟩=>?_) (he _);obtain⟨d,rfl,q⟩:=q1;cases r1;exact jm ⟨H1,I1,q⟩
variable {tA tB':TT} {rest:List Expr}
def EF (t u:TT):TT:=λσ H Q=>t σ H λc H1=>if c=true then u σ H1 Q else Q false H1
def tOr (t u:TT):TT:=λσ H Q=>t σ H λc H1=>if c=true then Q true H1 else u σ H1 Q
def EY (t:TT):TT:=λσ H Q=>t σ H λc H1=>Q (!c) H1
theorem fS (ha:PT X a tA):PW X (.BoolOp .And [a] pos) tA:=by
 intro wh xg s σ H Q I h;refine isTrue_and (xW (@ha xg s σ H Q I h) λc s1 e=>?_);cases c with
 |true=>exact isTrue_and_nil e
 |false=>exact e
theorem qa (ha:PT X a tA):PW X (.BoolOp .Or [a] pos) tA:=by
 intro wh xg s σ H Q I h;refine isTrue_or (xW (@ha xg s σ H Q I h) λc s1 e=>?_);cases c with
 |false=>exact isTrue_or_nil e
 |true=>exact e
theorem fQ (ha:PT X a tA)(hb:PW X (.BoolOp .And (b::rest) pos) tB'):PW X (.BoolOp .And (a::b::rest) pos) (EF tA tB'):=by
 intro wh xg s σ H Q I h;refine isTrue_and (xW (@ha xg s σ H _ I h) λc s1 ⟨H1,I1,q1⟩=>?_);cases c with
 |true=>exact @hb wh xg s1 σ H1 Q I1 q1
 |false=>exact⟨H1,I1,q1⟩
theorem uZ (ha:PT X a tA)(hb:PW X (.BoolOp .Or (b::rest) pos) tB'):PW X (.BoolOp .Or (a::b::rest) pos) (tOr tA tB'):=by
 intro wh xg s σ H Q I h;refine isTrue_or (xW (@ha xg s σ H _ I h) λc s1 ⟨H1,I1,q1⟩=>?_);cases c with
 |true=>exact⟨H1,I1,q1⟩
 |false=>exact @hb wh xg s1 σ H1 Q I1 q1
def w_ (ha:PT X a tA):PT X (.UnaryOp .Not a pos) (EY tA):=by intro xg s σ H Q I h;exact isTrue_not (@ha xg s σ H (λc H1=>Q (!c) H1) I h)
def EG (ta tb:TE):TE:=λσ H Q=>ta σ H λx H1=>∃c,x=.bl c/\if c=true then tb σ H1 Q else Q (.bl false) H1
def E2 (ta tb:TE):TE:=λσ H Q=>ta σ H λx H1=>∃c,x=.bl c/\if c=true then Q (.bl true) H1 else tb σ H1 Q
def E1 (ta:TE):TE:=λσ H Q=>ta σ H λx H1=>∃c,x=.bl c/\Q (.bl (!c)) H1
def kl {op}{t:TE}(h:PE X a t):PE X (.BoolOp op [a] pos) t:=λxg s σ H Q I hw=>BoolOp_one (@h xg s σ H Q I hw)
theorem vE (ha:PE X a ta)(hb:PE X (.BoolOp .And (b::rest) pos) tb):PE X (.BoolOp .And (a::b::rest) pos) (EG ta tb):=by
 intro xg s σ H Q I h;refine BoolOp_and (xW (@ha xg s σ H _ I h) λv s1 ⟨x,H1,I1,r1,q1⟩=>?_);obtain⟨c,rfl,q1⟩:=q1;cases r1;refine jm ?_;cases c with
 |true=>exact @hb xg s1 σ H1 Q I1 q1
 |false=>exact⟨.bl false,H1,I1,rfl,q1⟩
theorem Dg (ha:PE X a ta)(hb:PE X (.BoolOp .Or (b::rest) pos) tb):PE X (.BoolOp .Or (a::b::rest) pos) (E2 ta tb):=by
 intro xg s σ H Q I h;refine BoolOp_or (xW (@ha xg s σ H _ I h) λv s1 ⟨x,H1,I1,r1,q1⟩=>?_);obtain⟨c,rfl,q1⟩:=q1;cases r1;refine jm ?_;cases c with
 |false=>exact @hb xg s1 σ H1 Q I1 q1
 |true=>exact⟨.bl true,H1,I1,rfl,q1⟩
def c_ (ha:PE X a ta):PE X (.UnaryOp .Not a pos) (E1 ta):=by intro xg s σ H Q I h;refine UnaryOp_ (xW (@ha xg s σ H _ I h) λv s1 ⟨x,H1,I1,r1,q1⟩=>?_);obtain⟨c,rfl,q1⟩:=q1;cases r1;exact not_of (jm ⟨.bl (!c),H1,I1,rfl,q1⟩)
end
def ye (K:xo)(H:Hp)(a:Addr)(xs:List V):Prop:=
 Rd H a (.lst xs)\/
  ∃(o:Obj) (xj:Array Value) (n:Nat),K.lookup a=some o/\o.cls=.type "list" /\ o.dict=none/\o.data=.seq xj n/\xj.size<=sizeLine/\x9 xs xj.toList
def yy (K:xo)(H:Hp)(a:Addr)(xs:List V):Prop:=
 Rd H a (.tup xs)\/
  ∃(o:Obj) (xj:Array Value) (n:Nat),K.lookup a=some o/\o.cls=.type "tuple" /\ o.data=.seq xj n/\xj.size<=sizeLine/\x9 xs xj.toList
def Gm:Value->Option V
 |.none=>some .non
 |.bool b=>some (.bl b)
 |.int i _=>some (.int i)
 |.str x _=>some (.str x)
 |.bytes b _=>some (.byt b)
 |.float b _=>some (.flt b)
 |.ref a=>some (.ref a)
 |.type n=>some (.ty n)
 |_=>none
theorem RelV.abs {x:V}{u:Value}(r:RelV x u):Gm u=some x:=by
 cases x with
 |non=>cases r;rfl
 |bl _=>cases r;rfl
 |int _=>obtain⟨t,rfl⟩:=r;rfl
 |str _=>obtain⟨t,rfl⟩:=r;rfl
 |byt _=>obtain⟨t,rfl⟩:=r;rfl
 |flt _=>obtain⟨t,rfl⟩:=r;rfl
 |ref _=>cases r;rfl
 |ty _=>cases r;rfl
def RelV.inj {x y:V}{u:Value}(r:RelV x u)(q:RelV y u):x=y:=qQ (r.abs.symm.trans q.abs)
theorem x9.inj:∀ {xs ys:List V} {us:List Value},x9 xs us->x9 ys us->xs=ys
 |_,_,_,.nil,.nil=>rfl
 |_,_,_,.cons r t,.cons r' t'=>by rw[r.inj r',x9.inj t t']
section
variable {X:Cx} {xg:List (Addr×Obj)} {σ:St} {H:Hp} {s:Shared} {a:Addr} {xs ys:List V}
def ye.of {K:xo}(h:H a=some (.lst xs)):ye K H a xs:=.inl (.inl h)
def yy.of {K:xo}(h:H a=some (.tup xs)):yy K H a xs:=.inl (.inl h)
def Inv.list (I:Inv X xg σ H s)(h:ye X.K H a xs):∃xj:List Value,x9 xs xj/\PlainL s.heap a xj.toArray/\xs.length<=sizeLine:=by
 rcases h with h|⟨o,xj,n,hk,hc,hd,hs,hz,r⟩
 .obtain⟨z,xj,n,r,e⟩:=h.ok I.hok;exact⟨xj,r,⟨_,n,e,rfl,rfl,rfl⟩,z⟩
 .refine⟨xj.toList,r,⟨o,n,I.kIn a o hk,hc,hd,by simpa using hs⟩,?_⟩;have e:=r.length;simp only[mz] at e;lia
def Inv.tuple (I:Inv X xg σ H s)(h:yy X.K H a xs):∃xj:List Value,x9 xs xj/\IsTup s.heap a xj.toArray/\xs.length<=sizeLine:=by
 rcases h with h|⟨o,xj,n,hk,hc,hs,hz,r⟩
 .obtain⟨z,xj,r,p⟩:=h.ok I.hok;exact⟨xj,r,p,z⟩
 .refine⟨xj.toList,r,⟨o,I.kIn a o hk,hc,n,by simpa using hs⟩,?_⟩;have e:=r.length;simp only[mz] at e;lia
def Inv.list_inj (I:Inv X xg σ H s)(h:ye X.K H a xs)(h':ye X.K H a ys):xs=ys:=by
 obtain⟨xj,r,⟨o,n,e,_,_,d⟩,_⟩:=I.list h;obtain⟨its',r',⟨o',n',e',_,_,d'⟩,_⟩:=I.list h';rw[e] at e';cases e';rw[d] at d';injection d' with d1 _;have:xj=its':=by simpa using zS Array.toList d1
 subst this;exact r.inj r'
def Inv.tuple_inj (I:Inv X xg σ H s)(h:yy X.K H a xs)(h':yy X.K H a ys):xs=ys:=by
 obtain⟨xj,r,⟨o,e,_,n,d⟩,_⟩:=I.tuple h;obtain⟨its',r',⟨o',e',_,n',d'⟩,_⟩:=I.tuple h';rw[e] at e';cases e';rw[d] at d';injection d' with d1 _;have:xj=its':=by simpa using zS Array.toList d1
 subst this;exact r.inj r'
end
abbrev Cx.wish (X:Cx)(E:Value->Shared->Prop):Cx:={X with xe:=E}
abbrev Cx.nox (X:Cx):Cx:=X.wish λ_ _=>False
theorem Cx.Ok.wish {X:Cx}(ok:X.Ok)(E:Value->Shared->Prop):(X.wish E).Ok:=⟨ok.mod,ok.kind,ok.glob,ok.blt,ok.above,ok.inj,ok.has,ok.cab,ok.hd,ok.frames,ok.stk,ok.exf,ok.bs,ok.bsz,ok.noex,ok.exfs,ok.funs,ok.frf⟩
def Cx.Ok.unwish {X:Cx}{E:Value->Shared->Prop}(ok:(X.wish E).Ok):X.Ok:=⟨ok.mod,ok.kind,ok.glob,ok.blt,ok.above,ok.inj,ok.has,ok.cab,ok.hd,ok.frames,ok.stk,ok.exf,ok.bs,ok.bsz,ok.noex,ok.exfs,ok.funs,ok.frf⟩
section
variable {X:Cx} {xg:List (Addr×Obj)} {σ:St} {H:Hp} {s:Shared} {E:Value->Shared->Prop}
theorem Inv.wish (I:Inv X xg σ H s)(E:Value->Shared->Prop):Inv (X.wish E) xg σ H s:=⟨I.ok.wish E,I.os,I.bare,I.base,I.loc,I.cell,I.free,I.freeC,I.pin,I.hok,I.len⟩
theorem Inv.unwish (I:Inv (X.wish E) xg σ H s):Inv X xg σ H s:=⟨I.ok.unwish,I.os,I.bare,I.base,I.loc,I.cell,I.free,I.freeC,I.pin,I.hok,I.len⟩
theorem SP.unwish {D:Ends}{f:Flow}{s':Shared}(h:SP (X.wish E) xg D f s'):SP X xg D f s':=by
 cases f with
 |next=>obtain⟨σ',H',I,q⟩:=h;exact⟨σ',H',I.unwish,q⟩
 |brk=>obtain⟨σ',H',I,q⟩:=h;exact⟨σ',H',I.unwish,q⟩
 |cont=>obtain⟨σ',H',I,q⟩:=h;exact⟨σ',H',I.unwish,q⟩
 |ret u=>obtain⟨v,σ',H',I,r,q⟩:=h;exact⟨v,σ',H',I.unwish,r,q⟩
theorem PSs.nox {st:List Stmt}{t:TS}(h:PSs X.nox st t):PSs X st t:=λxg s σ H D I hw=>zm (@h xg s σ H D (I.wish _) hw) (λ_ _ q=>q.unwish) λ_ _ z=>False.elim z
end
section
variable {X:Cx} {st:Stmt} {rest:List Stmt} {t u:TS} {e:Expr} {te:TE} {pos:Pos}
def EU:TS:=λD σ H=>D.nx σ H
def mf (t u:TS):TS:=λD σ H=>t {D with nx:=u D} σ H
def y4:PSs X [] EU:=λ_ _ σ H _ I h=>iD ⟨σ,H,I,h⟩
theorem xA (h1:PS X st t)(h2:PSs X rest u):PSs X (st::rest) (mf t u):=by
 intro xg s σ H D I h;refine wpAny_execs_cons (xW (@h1 xg s σ H {D with nx:=u D} I h) λf s1 q=>?_);cases f with
 |next=>obtain⟨σ',H',I',q⟩:=q;exact @h2 xg s1 σ' H' D I' q
 |ret v=>exact q
 |brk=>exact q
 |cont=>exact q
theorem xC (h1:PS X st t):PSs X [st] t:=by
 intro xg s σ H D I h;refine wpAny_execs_cons (xW (@h1 xg s σ H D I h) λf s1 q=>?_);cases f with
 |next=>exact iD q
 |ret v=>exact q
 |brk=>exact q
 |cont=>exact q
def Inv.quiet {xg:List (Addr×Obj)}{σ:St}{H:Hp}{s:Shared}(I:Inv X xg σ H s):interactive X.env=false:=by simp[interactive,I.ok.kind]
def dn (te:TE):TS:=λD σ H=>te σ H λ_ H1=>D.nx σ H1
def uY (he:PE X e te)(hs:swapsWith e none pos.line X.env=pure false:=by rfl):PS X (.Expr e pos) (dn te):=by intro xg s σ H D I h;exact wpAny_Expr_any (xW (@he xg s σ H _ I h) λv s1 ⟨x,H1,I1,r1,q1⟩=>⟨σ,H1,I1,q1⟩) I.quiet hs
def az (te:TE):TS:=λD σ H=>te σ H D.rt
def xT (he:PE X e te):PS X (.Return (some e) pos) (az te):=by intro xg s σ H D I h;exact wpAny_Return_some (xW (@he xg s σ H _ I h) λv s1 ⟨x,H1,I1,r1,q1⟩=>⟨x,σ,H1,I1,r1,q1⟩)
def EO (c:TT)(t u:TS):TS:=λD σ H=>c σ H λb H1=>if b=true then t D σ H1 else u D σ H1
theorem y3 {c:Expr}{a b:List Stmt}{tc:TT}(hc:PT X c tc)(ha:PSs X a t)(hb:PSs X b u):PS X (.If c a b pos) (EO tc t u):=by
 intro xg s σ H D I h;refine wpAny_If (xW (@hc xg s σ H _ I h) λd s1 ⟨H1,I1,q1⟩=>?_);cases d with
 |true=>exact @ha xg s1 σ H1 D I1 q1
 |false=>exact @hb xg s1 σ H1 D I1 q1
def ET:TS:=λ_ _ _=>False
def Nf:PS X st ET:=λ_ _ _ _ _ _ h=>h.elim
end
abbrev TG:=V->St->Hp->(St->Hp->Prop)->Prop
abbrev TGs:=List V->St->Hp->(St->Hp->Prop)->Prop
def PG (X:Cx)(target:Expr)(t:TG):Prop:=
 ∀(xg:List (Addr×Obj)) (s:Shared) (σ:St) (H:Hp) (v:V) (u:Value) (Q:St->Hp->Prop),Inv X xg σ H s->RelV v u->t v σ H Q->
  wpAny (model X.prog X.w) X.A (assign target X.env u) (λ_ s'=>∃ σ' H',Inv X xg σ' H' s'/\Q σ' H') X.xe s
def PGs (X:Cx)(ts:List Expr)(t:TGs):Prop:=
 ∀(xg:List (Addr×Obj)) (s:Shared) (σ:St) (H:Hp) (vs:List V) (us:List Value) (Q:St->Hp->Prop),Inv X xg σ H s->x9 vs us->t vs σ H Q->
  wpAny (model X.prog X.w) X.A (assignInOrder ((assignEach ts X.env).map (·.2)) us) (λ_ s'=>∃ σ' H',Inv X xg σ' H' s'/\Q σ' H') X.xe s
abbrev mX:=V->V->V->Hp->(Hp->Prop)->Prop
def iO (X:Cx)(t:mX):Prop:=
 ∀(xg:List (Addr×Obj)) (s:Shared) (σ:St) (H:Hp) (o i v:V) (ov iv u:Value) (Q:Hp->Prop),Inv X xg σ H s->RelV o ov->RelV i iv->RelV v u->t o i v H Q->
  wpAny (model X.prog X.w) X.A (setItem ov iv u) (λ_ s'=>∃H',Inv X xg σ H' s'/\Q H') X.xe s
abbrev TIp:=V->V->Hp->VK->Prop
def PIp (X:Cx)(op:Operator)(t:TIp):Prop:=
 ∀(xg:List (Addr×Obj)) (s:Shared) (σ:St) (H:Hp) (x y:V) (v u:Value) (Q:VK),Inv X xg σ H s->RelV x v->RelV y u->t x y H Q->
  wpAny (model X.prog X.w) X.A (inplaceOp op v u) (EP X xg σ Q) X.xe s
section
variable {X:Cx} {pos:Pos}
def vV (i:Nat):TG:=λv σ H Q=>Q (σ.set i (some v)) H
def zH {i:Nat}{x:Str}(hN:X.N.Nodup)(hi:X.N[i]?=some x)(hx:Loc X.env.scope x)(hf:X.fn x=true\/X.env.scope.names.lookup x=some .local:=by first|exact .inl rfl|exact .inr rfl|assumption):PG X (.Name x pos) (vV i):=by intro xg s σ H v u Q I r h;exact wpAny_assign_Name (ar I hN hi hx r (λs' I'=>⟨_,H,I',h⟩) hf)
def bf:TGs:=λvs σ H Q=>vs=[]/\Q σ H
def be (t:TG)(u:TGs):TGs:=λvs σ H Q=>∃v r,vs=v::r/\t v σ H λσ' H'=>u r σ' H' Q
def zV:PGs X [] bf:=by intro xg s σ H vs us Q I r h;obtain⟨e,h⟩:=h;subst e;cases r;exact assignInOrder_nil ⟨σ,H,I,h⟩
theorem yw {e:Expr}{es:List Expr}{t:TG}{u:TGs}(h1:PG X e t)(h2:PGs X es u)
  (hs:(assignEach (e::es) X.env).map (·.2)=assign e X.env::(assignEach es X.env).map (·.2):=by rfl):PGs X (e::es) (be t u):=by
 intro xg s σ H vs us Q I r h;obtain⟨v,vr,e1,h⟩:=h;subst e1;cases r with
 |cons r rr=>rw[hs];refine FX (xW (@h1 xg s σ H _ _ _ I r h) λ_ s1 ⟨σ1,H1,I1,q1⟩=>?_);exact @h2 xg s1 σ1 H1 _ _ Q I1 rr q1
def rF (K:xo)(n:Nat)(t:TGs):TG:=λv σ H Q=>∃a xs,v=.ref a/\yy K H a xs/\xs.length=n/\t xs σ H Q
def M2 {es:List Expr}{k:Nat}{t:TGs}{n:Nat}(hc:X.calm=true)(h:PGs X es t)
  (hn:(assignEach es X.env).length=n:=by rfl) (hst:(assignEach es X.env).findIdx? (·.1)=none:=by rfl):PG X (.Tuple es k pos) (rF X.K n t):=by
 intro xg s σ H v u Q I r hw;obtain⟨a,xs,e1,hq,hl,hw⟩:=hw;subst e1;cases r;obtain⟨xj,rv,ht,hz⟩:=I.tuple hq;refine assign_Tuple_tuple (I.ok.hd hc) ht (by simp[hn,<-hl,rv.length]) hst λh' hx=>?_;have I1:Inv X xg σ H {s with heap:=h' }:=I.kept (t':=s.toks) λb o e=>hx b o (zq (yG e)) e;exact @h xg _ σ H xs _ Q I1 (by simpa using rv) hw
def BN (to ti:TE)(t:mX):TG:=λv σ H Q=>to σ H λo H1=>ti σ H1 λi H2=>t o i v H2 λH3=>Q σ H3
def ph {o i:Expr}{to ti:TE}{t:mX}(ho:PE X o to)(hi:PE X i ti)(hs:iO X t)
  (ha:∀v,assign (.Subscript o i pos) X.env v=(do
   let ov <-holding [v] (eval o X.env)
   let iv <-holding [v,ov] (eval i X.env)
   standAt pos
   holding [v,ov,iv] (setItem ov iv v)
   release [v,ov,iv] []):=by intro _;rfl):PG X (.Subscript o i pos) (BN to ti t):=by
 intro xg s σ H v u Q I r h;rw[ha];refine xl (vP (xW (@ho xg s σ H _ I h) λov s1 ⟨x,H1,I1,r1,q1⟩=>?_));refine xl (vP (xW (@hi xg s1 σ H1 _ I1 q1) λiv s2 ⟨y,H2,I2,r2,q2⟩=>?_));refine xl (jY (xl (vP (xW (@hs xg s2 σ H2 x y v ov iv u _ I2 r1 r2 r q2) λ_ s3 ⟨H3,I3,q3⟩=>?_))));exact wpAny_release ⟨σ,H3,I3,q3⟩
def jc (te:TE)(g:TG):TS:=λD σ H=>te σ H λx H1=>g x σ H1 D.nx
def vG {tg e:Expr}{te:TE}{g:TG}(he:PE X e te)(hg:PG X tg g)(hs:swapsWithSole [tg] e pos.line X.env=pure false:=by rfl)(hw:swappedStores [tg] e X.env=pure none:=by rfl)
  (h1:(assignEach [tg] X.env).map (·.2)=[assign tg X.env]:=by rfl):PS X (.Assign [tg] e pos) (jc te g):=by
 intro xg s σ H D I h;refine wpAny_Assign_stores (xW (@he xg s σ H _ I h) λv s1 ⟨x,H1,I1,r1,q1⟩=>?_) hs hw;rw[h1];exact xW (@hg xg s1 σ H1 x v _ I1 r1 q1) λ_ s2 q=>q
def k_ {i:Nat}{x:Str}{e:Expr}{te:TE}{pos':Pos}(hN:X.N.Nodup)(hi:X.N[i]?=some x)(hx:Loc X.env.scope x)(he:PE X e te)(hs:swapsWith e (some (.Name x pos')) pos.line X.env=pure false:=by rfl)(hf:X.fn x=true\/X.env.scope.names.lookup x=some .local:=by first|exact .inl rfl|exact .inr rfl|assumption) :
  PS X (.Assign [.Name x pos'] e pos) (jc te (vV i)):=by
 intro xg s σ H D I h;refine wpAny_Assign_Name (xW (@he xg s σ H _ I h) λv s1 ⟨y,H1,I1,r1,q1⟩=>?_) hs;exact ar I1 hN hi hx r1 (λs2 I2=>⟨_,H1,I2,q1⟩) hf
def E3 (i j:Nat)(ta:TA):TS:=λD σ H=>ta σ H λvs H1=>∃v w,vs=[v,w]/\D.nx ((σ.set i (some v)).set j (some w)) H1
def ko {i j:Nat}{x y:Str}{a b:Expr}{ta:TA}{px py pt:Pos}{kt k2 pt2}(hc:X.calm=true)(hN:X.N.Nodup)(hi:X.N[i]?=some x)(hj:X.N[j]?=some y)(hij:i≠j)
  (hx:X.env.scope.names.lookup x=some .local) (hy:X.env.scope.names.lookup y=some .local) (ha:PA X [a,b] ta)
  (hw:swappedStores [.Tuple [.Name x px,.Name y py] kt pt] (.Tuple [a,b] k2 pt2) X.env=pure (some [x,y]))
  (hs:swapsWithSole [.Tuple [.Name x px,.Name y py] kt pt] (.Tuple [a,b] k2 pt2) pos.line X.env=pure false:=by rfl) :
  PS X (.Assign [.Tuple [.Name x px,.Name y py] kt pt] (.Tuple [a,b] k2 pt2) pos) (E3 i j ta):=by
 intro xg s σ H D I h;rw[exec_Assign_arm];refine xl (jY ?_);rw[hs];refine xl (xK ?_);rw[xG (by decide)];refine xl (Tuple_ (xW (@ha _ xg s σ H _ I h) λus s1 ⟨vs,H1,I1,r1,q1⟩=>?_));obtain⟨v,w,e1,q1⟩:=q1;subst e1;obtain⟨u1,u2,rfl,rv,rw'⟩:∃u1 u2,us=[u1,u2]/\RelV v u1/\RelV w u2:=by
  cases r1 with
  |cons p q=>
   cases q with
   |cons p' q' =>cases q';exact⟨_,_,rfl,p,p'⟩
 refine vQ ?_ (by show 2<=sizeLine;decide);have I2:Inv X xg σ H1 {s1 with heap:=s1.heap.push {cls:=.type "tuple", data:=.seq [u1,u2].toArray} }:=I1.kept (t':=s1.toks) λb o e=>yQ _ e;rw[hw];refine xl (xK ?_);show wpAny (model X.prog X.w) X.A (do rule "assign.swapped-stores"; let items <-unpackItems (.ref s1.heap.objs.size) 2 none;assignInOrder [λv=>bindName X.env y v,λv=>bindName X.env x v] items.reverse;pure Flow.next) _ _ _;refine xl (jX (xl (unpackItems_tuple (items := #[u1,u2]) (I.ok.hd hc) (IsTup.new s1.heap _) λh' hx'=>?_)));have I3:=I2.kept (h':=h') (t':=s1.toks) λb o e=>hx' b o (zq (yG e)) e;show wpAny _ _ (assignInOrder [λv=>bindName X.env y v,λv=>bindName X.env x v] [u2,u1]>>=λ_=>pure Flow.next) _ _ _;refine xl (FX (wpAny_bindName (ar I3 hN hj (.inl hy) rw' (λs2 I4=>?_) (.inr hy))));refine FX (wpAny_bindName (ar I4 hN hi (.inl hx) rv (λs3 I5=>assignInOrder_nil (xK ?_)) (.inr hx)));rw[List.set_comm _ _ (zD hij)] at I5;exact⟨_,H1,I5,q1⟩
def EH (i:Nat)(te:TE)(ti:TIp):TS:=λD σ H=>∃x,σ[i]?=some (some x)/\te σ H λy H1=>ti x y H1 λz H2=>D.nx (σ.set i (some z)) H2
def Nd {i:Nat}{x:Str}{e:Expr}{te:TE}{op:Operator}{ti:TIp}{pos':Pos}(hN:X.N.Nodup)(hi:X.N[i]?=some x)(hx:Loc X.env.scope x)(he:PE X e te)(ho:PIp X op ti)(hf:X.fn x=true\/X.env.scope.names.lookup x=some .local:=by first|exact .inl rfl|exact .inr rfl|assumption) :
  PS X (.AugAssign (.Name x pos') op e pos) (EH i te ti):=by
 intro xg s σ H D I h;obtain⟨v,e1,h⟩:=h;obtain⟨m,hn,hl⟩:=I.loc;have vis:Vis X.env.scope x:=by rcases hx with k|k;exact .inl k;exact .inr (.inl k)
 obtain⟨u,r,l⟩:=hl i x v hi e1 vis;refine wpAny_AugAssign_Name ?_;have go:wpAny (model X.prog X.w) X.A (eval e X.env) (λw s₂=>wpAny (model X.prog X.w) X.A (inplaceOp op u w) (λr s₃=>wpAny (model X.prog X.w) X.A (storeName X.env x r) (λ_=>SP X xg D .next) X.xe s₃) X.xe s₂) X.xe s:=by refine xW (@he xg s σ H _ I h) λw s1 ⟨y,H1,I1,r1,q1⟩=>?_;refine xW (@ho xg s1 σ H1 v y u w _ I1 r r1 q1) λz s2 ⟨zv,H2,I2,r2,q2⟩=>?_;exact ar I2 hN hi hx r2 (λs3 I3=>⟨_,H2,I3,q2⟩) hf
 rcases l with ⟨hk,hm⟩|⟨hk,c,hc,hcell⟩
 .exact wpAny_loadName_local I.ok.kind hk hn hm go
 .rcases hk with hk|hk
  .exact wpAny_loadName_cell I.ok.kind hk hc hcell go
  .rcases hx with k|k
   .have:X.env.scope.names.lookup x=some .free:=hk;rw[k] at this;cases this
   .have:X.env.scope.names.lookup x=some .free:=hk;rw[k] at this;cases this
def ipI (f:Int->Int->Int):TIp:=λx y H Q=>∃i j,x=.int i/\y=.int j/\Q (.int (f i j)) H
def Jo:PIp X .Add (ipI λi j=>i+j):=by intro xg s σ H x y v u Q I r1 r2 h;obtain⟨i,j,e1,e2,q⟩:=h;subst e1;subst e2;obtain⟨t,rfl⟩:=r1;obtain⟨t',rfl⟩:=r2;exact iadd_int ⟨.int _,H,I.tok _,⟨_,rfl⟩,q⟩
end
section
variable {X:Cx} {pos:Pos}
def E7 (c:TT)(tb:TS):TS:=λD σ H=>∃W:Nat->St->Hp->Prop,(∃m,W m σ H)/\∀m σ H,W m σ H->
 c σ H λb H1=>if b=true then ∃N:St->Hp->Prop,(∀ σ' H',N σ' H'->∃m',m' < m/\W m' σ' H')/\tb {D with nx:=N,ct:=N,bk:=D.nx} σ H1 else D.nx σ H1
theorem sV {c:Expr}{body:List Stmt}{tc:TT}{tb:TS}(hp:PassesOwn (model X.prog X.w) X.A X.env X.xe)(hc:PT X c tc)(hb:PSs X body tb):PS X (.While c body [] pos) (E7 tc tb):=by
 intro xg s σ H D I h;obtain⟨W,⟨m0,w0⟩,turn⟩:=h;refine wpAny_While (codeAny_whileLoop (λn s'=>∃ σ' H',Inv X xg σ' H' s'/\W n σ' H') ?_ m0 ⟨σ,H,I,w0⟩);rintro n s1 ⟨σ1,H1,I1,w1⟩;refine dJ hp (xW (@hc xg s1 σ1 H1 _ I1 (turn n σ1 H1 w1)) λb s2 ⟨H2,I2,q2⟩=>?_);cases b with
 |true=>
  obtain⟨N,hN,q2⟩:=q2;rw[xD rfl];refine dJ hp (xW (@hb xg s2 σ1 H2 _ I2 q2) λf s3 q3=>?_);cases f with
  |next=>obtain⟨σ3,H3,I3,n3⟩:=q3;obtain⟨m',hm,w3⟩:=hN σ3 H3 n3;exact⟨m',hm,σ3,H3,I3,w3⟩
  |cont=>obtain⟨σ3,H3,I3,n3⟩:=q3;obtain⟨m',hm,w3⟩:=hN σ3 H3 n3;exact⟨m',hm,σ3,H3,I3,w3⟩
  |brk=>exact q3
  |ret v=>exact q3
 |false=>rw[xG uM];exact iD ⟨σ1,H2,I2,q2⟩
end
structure It where
 go:Nat->Hp->Prop
 yld:Nat->Hp->V->Hp->Prop
 stop:Nat->Hp->Prop
def uB (X:Cx)(xg:List (Addr×Obj))(H:Hp)(b:Addr):Prop:=H b=none/\b≠X.env.locals/\b∉X.fs/\(b∈X.ex\/X.s₀.heap.objs.size<=b)/\(∀x c,X.env.cells.lookup x=some c->c≠b)/\∀p∈X.pn++xg,p.1≠b
def Inv.fpOk {X:Cx}{xg:List (Addr×Obj)}{σ:St}{H H':Hp}{s:Shared}{b:Addr}(I:Inv X xg σ H s)(hb:s.heap.objs.size<=b)(hn:H' b=none):uB X xg H' b:=by
 refine⟨hn,vO (uR I.lt hb),I.nofs hb,.inr (qj I.sz hb),λx c e z=>?_,λp hp z=>?_⟩
 .obtain⟨v,q⟩:=I.cell x c e;exact absurd (uR q.lt (by rw[z];exact hb)) (gR _)
 .exact absurd (uR (yG (I.pin p hp).1) (by rw[z];exact hb)) (gR _)
structure Turn (P:Program)(w:World)(K:xo)(tg:Expr)(J:It)(fp:List Addr)(it:Addr)(tn:Nat->Heap->Prop):Prop where
 mem:it∈fp
 obj:∀i h,tn i h->∀b∈fp,∃o,h.get? b=some o/\∀v,o.data≠.cell v
 keep:∀i h h',tn i h->(∀b∈fp,∀o,h.get? b=some o->h'.get? b=some o)->tn i h'
 item:∀(X:Cx),X.prog=P->X.w=w->X.K=K->X.calm=true->∀(i:Nat) (xg:List (Addr×Obj)) (s:Shared) (σ:St) (H:Hp) (E:Value->Shared->Prop),Inv X xg σ H s->(∀b∈fp,uB X xg H b)->tn i s.heap->J.go i H->
  wpAny (model P w) X.A (pyNext (.ref it)) (λr s1=>∃u,r=some u/\wpAny (model P w) X.A (letOwnedTupleGo tg (.ref it) u) (λ_ s2=>∃x H',Inv X xg σ H' s2/\RelV x u/\J.yld i H x H'/\tn (i+1) s2.heap/\∀b∈fp,H' b=none) E s1) E s
 done:∀(X:Cx),X.prog=P->X.w=w->X.K=K->X.calm=true->∀(i:Nat) (xg:List (Addr×Obj)) (s:Shared) (σ:St) (H:Hp) (E:Value->Shared->Prop),Inv X xg σ H s->(∀b∈fp,uB X xg H b)->tn i s.heap->J.stop i H->
  wpAny (model P w) X.A (pyNext (.ref it)) (λr s1=>r=none/\Inv X xg σ H s1) E s
 self:∀(A:Around) (i:Nat) (s:Shared) (Q:Value->Shared->Prop) (E:Value->Shared->Prop),tn i s.heap->Q (.ref it) s->wpAny (model P w) A (pyIter (.ref it)) Q E s
abbrev TI:=St->Hp->(It->Hp->Prop)->Prop
def PIE (X:Cx)(xg:List (Addr×Obj))(σ:St)(tg:Expr)(R:It->Hp->Prop)(itv:Value)(s2:Shared):Prop:=∃(it:Addr) (fp:List Addr) (tn:Nat->Heap->Prop) (J:It) (H':Hp),itv=.ref it/\Inv X xg σ H' s2/\Turn X.prog X.w X.K tg J fp it tn/\tn 0 s2.heap/\(∀b∈fp,uB X xg H' b)/\R J H'
def PI (X:Cx)(tg iter:Expr)(wi:TI):Prop:=
 ∀(xg:List (Addr×Obj)) (s:Shared) (σ:St) (H:Hp) (R:It->Hp->Prop),Inv X xg σ H s->wi σ H R->
  wpAny (model X.prog X.w) X.A (eval iter X.env) (λv s1=>wpAny (model X.prog X.w) X.A (pyIter v) (PIE X xg σ tg R) X.xe s1) X.xe s
def bh {M:Model}{A:Around}{E:Value->Shared->Prop}{s:Shared}{tg:Expr}{it:Addr}{u:Value}{o:Obj}{n:String}{vs:Array Value}{Q:Unit->Shared->Prop}(ho:s.heap.get? it=some o)(hc:o.cls=.type n)(hd:o.data=.fields vs)
  (hn:["enumerate", "zip", "dict_itemiterator", "dict_reverseitemiterator", "odict_iterator", "itertools.zip_longest", "itertools.pairwise"].contains n=false) (hQ:Q () s):wpAny M A (letOwnedTupleGo tg (.ref it) u) Q E s:=by
 unfold letOwnedTupleGo;cases tg<;>first
  |exact xK hQ
  | (cases u<;>first
    |exact xK hQ
    | (refine xl (wpAny_load ho ?_)
       rw[hc,hd];show wpAny M A (if (["enumerate", "zip", "dict_itemiterator", "dict_reverseitemiterator", "odict_iterator", "itertools.zip_longest", "itertools.pairwise"].contains n&&vs[0]? == some (rawInt _))=true then _ else _) Q E s;rw[xG (by intro h;rw[hn,qg] at h;cases h)];exact xK hQ))
def Itl (K:xo)(a:Addr):It:=⟨λi H=>∃xs x,ye K H a xs/\xs[i]?=some x,λi H x H'=>H'=H/\∀xs,ye K H a xs->xs[i]?=some x,λi H=>∃xs,ye K H a xs/\xs.length<=i⟩
def Itt (K:xo)(a:Addr):It:=⟨λi H=>∃xs x,yy K H a xs/\xs[i]?=some x,λi H x H'=>H'=H/\∀xs,yy K H a xs->xs[i]?=some x,λi H=>∃xs,yy K H a xs/\xs.length<=i⟩
def Itr (lo:Int)(n:Nat):It:=⟨λi _=>i<n,λi H x H'=>H'=H/\x=.int (lo+i),λi _=>n<=i⟩
def OL {P:Program}{w:World}{K:xo}{tg:Expr}(a it:Addr):Turn P w K tg (Itl K a) [it] it (λi h=>h.IsListIter it a i) where
 mem:=by simp
 obj:=λi h st b hb=>by
  have e:b=it:=by simpa using hb
  subst e;obtain⟨o,e,c,d⟩:=st;exact⟨o,e,λv z=>by rw[d] at z;cases z⟩
 keep:=λi h h' st k=>st.at λo e=>k it (by simp) o e
 item:=by intro X hP hw hK hc i xg s σ H E I hf st hg;subst hP hw hK;obtain⟨xs,x,hq,hx⟩:=hg;obtain⟨xj,rv,p,hz⟩:=I.list hq;obtain⟨u,hu,ru⟩:=rv.get hx;obtain⟨f0,f1,f2,f3,f4,f5⟩:=hf it (by simp);refine wpAny_pyNext_list_item st p.isList (x:=u) (by simpa using hu) λh' st' sb=>?_;have I1:Inv X xg σ H {s with heap:=h' }:=I.turned (t':=s.toks) (λb o hb e=>(sb.2 b hb).trans e) f0 f1 f3 f4 f5;obtain⟨o,e,c,d⟩:=id st';exact⟨u,rfl,bh (s:={s with heap:=h' }) e c d (by decide) ⟨x,H,I1,ru,⟨rfl,λys hy=>by rw[I.list_inj hy hq];exact hx⟩,st',λb hb=>(hf b hb).1⟩⟩
 done:=by intro X hP hw hK hc i xg s σ H E I hf st hg;subst hP hw hK;obtain⟨xs,hq,hx⟩:=hg;obtain⟨xj,rv,p,hz⟩:=I.list hq;obtain⟨f0,f1,f2,f3,f4,f5⟩:=hf it (by simp);have hl:=rv.length;exact wpAny_pyNext_list_end (I.ok.hd hc) st p.isList (by simp;lia) λh' eb=>⟨rfl,I.turned (t':=s.toks) (λb o hb e=>eb b o hb e) f0 f1 f3 f4 f5⟩
 self:=λ_ _ _ _ _ st h=>wpAny_pyIter_listiter st h
def ON {P:Program}{w:World}{K:xo}{tg:Expr}(a it:Addr):Turn P w K tg (Itt K a) [it] it (λi h=>h.IsTupleIter it a i) where
 mem:=by simp
 obj:=λi h st b hb=>by
  have e:b=it:=by simpa using hb
  subst e;obtain⟨o,e,c,d⟩:=st;exact⟨o,e,λv z=>by rw[d] at z;cases z⟩
 keep:=λi h h' st k=>st.at λo e=>k it (by simp) o e
 item:=by intro X hP hw hK hc i xg s σ H E I hf st hg;subst hP hw hK;obtain⟨xs,x,hq,hx⟩:=hg;obtain⟨xj,rv,p,hz⟩:=I.tuple hq;obtain⟨u,hu,ru⟩:=rv.get hx;obtain⟨f0,f1,f2,f3,f4,f5⟩:=hf it (by simp);refine wpAny_pyNext_tuple_item st (show s.heap.IsTuple a xj.toArray from p) (x:=u) (by simpa using hu) λh' st' sb=>?_;have I1:Inv X xg σ H {s with heap:=h' }:=I.turned (t':=s.toks) (λb o hb e=>(sb.2 b hb).trans e) f0 f1 f3 f4 f5;obtain⟨o,e,c,d⟩:=id st';exact⟨u,rfl,bh (s:={s with heap:=h' }) e c d (by decide) ⟨x,H,I1,ru,⟨rfl,λys hy=>by rw[I.tuple_inj hy hq];exact hx⟩,st',λb hb=>(hf b hb).1⟩⟩
 done:=by intro X hP hw hK hc i xg s σ H E I hf st hg;subst hP hw hK;obtain⟨xs,hq,hx⟩:=hg;obtain⟨xj,rv,p,hz⟩:=I.tuple hq;obtain⟨f0,f1,f2,f3,f4,f5⟩:=hf it (by simp);have hl:=rv.length;exact wpAny_pyNext_tuple_end (I.ok.hd hc) st (show s.heap.IsTuple a xj.toArray from p) (by simp;lia) λh' eb=>⟨rfl,I.turned (t':=s.toks) (λb o hb e=>eb b o hb e) f0 f1 f3 f4 f5⟩
 self:=λ_ _ _ _ _ st h=>wpAny_pyIter_tupleiter st h
def OM {P:Program}{w:World}{K:xo}{tg:Expr}(it:Addr)(lo:Int)(n:Nat):Turn P w K tg (Itr lo n) [it] it (λi h=>IsRangeIter h it (lo+(i:Nat)*1) ((n:Int)-(i:Nat)) 1) where
 mem:=by simp
 obj:=λi h st b hb=>by
  have e:b=it:=by simpa using hb
  subst e;exact⟨_,st,λv z=>by have z':Data.fields _=Data.cell v:=z;cases z'⟩
 keep:=λi h h' st k=>k it (by simp) _ st
 item:=by intro X hP hw hK hc i xg s σ H E I hf st hg;subst hP hw hK;obtain⟨f0,f1,f2,f3,f4,f5⟩:=hf it (by simp);have W:=Walks.range (prog:=X.prog) (w:=X.w) (I.ok.hd hc) it lo 1 n;refine W.item i s _ _ hg st λv h' tk hv st' kk=>?_;obtain⟨t,rfl⟩:=hv;have I1:Inv X xg σ H {s with heap:=h',toks:=tk}:=I.turned (λb o hb e=>kk b o (by simpa using hb) e) f0 f1 f3 f4 f5;refine⟨_,rfl,bh (s:={s with heap:=h',toks:=tk}) (n := "range_iterator") st' rfl rfl (by decide) ⟨.int (lo+i),H,I1,⟨t,?_⟩,⟨rfl,rfl⟩,st',λb hb=>(hf b hb).1⟩⟩;rw[gK]
 done:=by intro X hP hw hK hc i xg s σ H E I hf st hg;subst hP hw hK;obtain⟨f0,f1,f2,f3,f4,f5⟩:=hf it (by simp);exact wpAny_pyNext_range_end (I.ok.hd hc) st (by have:n<=i:=hg;lia) λh' eb=>⟨rfl,I.turned (t':=s.toks) (λb o hb e=>eb b o hb e) f0 f1 f3 f4 f5⟩
 self:=λ_ _ _ _ _ st h=>wpAny_pyIter_rangeiter st h
section
variable {X:Cx} {tg:Expr}
def Jg (K:xo)(tl:TE):TI:=λσ H R=>tl σ H λx H1=>∃a,x=.ref a/\(∃xs,ye K H1 a xs)/\R (Itl K a) H1
def Nn {xg:List (Addr×Obj)}{σ:St}{H:Hp}{s:Shared}{R:It->Hp->Prop}{E:Value->Shared->Prop}{lo hi:Int}{t u v:Tok}{tk:Nat}(I:Inv X xg σ H s)(h1:-(2^62)<=lo)(h2:lo<2^62)(h3:-(2^62)<=hi)(h4:hi<2^62)
  (q:R (Itr lo (hi-lo).toNat) H):wpAny (model X.prog X.w) X.A (pyIter (.ref s.heap.objs.size)) (PIE X xg σ tg R) E {s with heap:=s.heap.push {cls:=.type "range", data:=.fields #[.int lo t,.int hi u,.int 1 v]},toks:=tk}:=by
 refine wpAny_pyIter_range (IsRange.new ..) (small_one h1 h2 h3 h4) ?_;have I1:Inv X xg σ H {s with heap:=s.heap.push {cls:=.type "range", data:=.fields #[.int lo t,.int hi u,.int 1 v]},toks:=tk}:=I.kept λb o e=>yQ _ e;refine⟨(s.heap.push {cls:=.type "range", data:=.fields #[.int lo t,.int hi u,.int 1 v]}).objs.size,[(s.heap.push {cls:=.type "range", data:=.fields #[.int lo t,.int hi u,.int 1 v]}).objs.size],_,_,H,rfl,I1.kept (t':=tk) λb o e=>yQ _ e,OM _ lo (hi-lo).toNat,?_,λb hb=>?_,q⟩
 .have e1:lo+((0:Nat):Int)*1=lo:=by simp
  have e2:(((hi-lo).toNat:Nat):Int)-((0:Nat):Int)=Builtin.Range.rangeSize lo hi 1:=by rw[rangeSize_one];split<;>lia
  show IsRangeIter _ _ (lo+((0:Nat):Int)*1) ((((hi-lo).toNat:Nat):Int)-((0:Nat):Int)) 1;rw[e1,e2];exact zO _ rfl
 .have e:b=(s.heap.push {cls:=.type "range", data:=.fields #[.int lo t,.int hi u,.int 1 v]}).objs.size:=by simpa using hb
  subst e;exact I1.fpOk (xY _) (I1.hok.fresh (xY _))
def BX (ta:TA):TI:=λσ H R=>ta σ H λvs H1=>∃j:Int,vs=[.int j]/\-(2^62)<=j/\j<2^62/\R (Itr 0 j.toNat) H1
theorem tJ {a:Expr}{ta:TA}{p pos:Pos}(hg:Gl X "range")(hm:X.mg "range" = none)(ha:PA X [a] ta)(hs:starEach [a] X.env=[(false,eval a X.env)]:=by rfl):PI X tg (.Call (.Name "range" p) [a] [] pos) (BX ta):=by
 intro xg s σ H R I h;refine Call_ (fy I hg hm boot_range (iA (xW (@ha pos xg s σ H _ I h) λus s1 ⟨vs,H1,I1,r1,q1⟩=>?_) hs rfl));obtain⟨j,e,q1,q2,q⟩:=q1;subst e;cases r1 with
 |cons r rr=>cases rr;obtain⟨t,rfl⟩:=r;exact call_range_1 (Nn I1 (by lia) (by lia) q1 q2 (by simpa using q))
def EN (wi:TI)(g:TG)(tb:TS):TS:=λD σ H=>wi σ H λJ H1=>∃W:Nat->Nat->St->Hp->Prop,(∃m,W 0 m σ H1)/\∀i m σ H,W i m σ H->
 (J.stop i H/\D.nx σ H)\/(J.go i H/\∃N:St->Hp->Prop,(∀ σ' H',N σ' H'->∃m',m' < m/\W (i+1) m' σ' H')/\∀x H',J.yld i H x H'->g x σ H' λσ2 H2=>tb {D with nx:=N,ct:=N,bk:=D.nx} σ2 H2)
def fO (fp:List Addr)(h:Heap):List (Addr×Obj):=fp.filterMap λb=>(h.get? b).map λo=>(b,o)
def fC {fp:List Addr}{h:Heap}{b:Addr}{o:Obj}(hb:b∈fp)(e:h.get? b=some o):(b,o)∈fO fp h:=List.mem_filterMap.mpr ⟨b,hb,by rw[e];rfl⟩
theorem Kl {fp:List Addr}{h:Heap}{p:Addr×Obj}(hp:p∈fO fp h):p.1∈fp/\h.get? p.1=some p.2:=by
 obtain⟨b,hb,e⟩:=List.mem_filterMap.mp hp;cases q:h.get? b with
 |none=>rw[q] at e;cases e
 |some o=>rw[q] at e;have e':(b,o)=p:=qQ e;subst e';exact⟨hb,q⟩
def Inv.pinned {xg:List (Addr×Obj)}{σ:St}{H:Hp}{s:Shared}{fp:List Addr}(I:Inv X xg σ H s)(hf:∀b∈fp,uB X xg H b)(ho:∀b∈fp,∃o,s.heap.get? b=some o/\∀v,o.data≠.cell v):Inv X (xg++fO fp s.heap) σ H s:=
 I.pins_of λp hp=>(xU.mp hp).elim (λz=>I.pin p (zf _ z)) λz=>by obtain⟨hb,e⟩:=Kl z;obtain⟨f0,f1,f2,_⟩:=hf p.1 hb;obtain⟨o,e',d⟩:=ho p.1 hb;rw[e] at e';cases e';exact⟨e,f0,f1,f2,d⟩
def Inv.unpinned {xg pl:List (Addr×Obj)}{σ:St}{H:Hp}{s:Shared}(I:Inv X (xg++pl) σ H s):Inv X xg σ H s:=I.pins_of λp hp=>I.pin p (zf _ (yF _ hp))
def wH {iter:Expr}{body:List Stmt}{wi:TI}{g:TG}{tb:TS}{pos:Pos}(hp:PassesOwn (model X.prog X.w) X.A X.env X.xe)(hc:X.calm=true)(hi:PI X tg iter wi)(hg:PG X tg g)(hb:PSs X body tb)
  (hs:∀x,foldedSetIterable iter X.env x=pure x:=by intro _;rfl):PS X (.For tg iter body [] pos) (EN wi g tb):=by
 intro xg s σ H D I h;refine wpAny_For (xW (@hi xg s σ H _ I h) λv s1 h1=>xW h1 λitv s2 h2=>?_) hs;obtain⟨it,fp,tn,J,H2,e,I2,T,st2,f2,W,⟨m0,w0⟩,turn⟩:=h2;subst e;have stat:∀ {H':Hp},(∀b∈fp,H' b=none)->∀b∈fp,uB X xg H' b:=λhn b hb=>⟨hn b hb,(f2 b hb).2⟩
 refine codeAny_forLoop_any (λn s'=>∃i σ' H',Inv X xg σ' H' s'/\tn i s'.heap/\(∀b∈fp,H' b=none)/\W i n σ' H') ?_ m0 ⟨0,σ,H2,I2,st2,λb hb=>(f2 b hb).1,w0⟩;rintro n s3 ⟨i,σ3,H3,I3,st3,fr3,w3⟩;rcases turn i n σ3 H3 w3 with ⟨stop,qn⟩|⟨go,N,hN,step⟩
 .refine dJ hp (xW (T.done X rfl rfl rfl hc i xg s3 σ3 H3 X.xe I3 (stat fr3) st3 stop) λr s4 ⟨hr,I4⟩=>?_);subst hr;exact iD ⟨σ3,H3,I4,qn⟩
 .refine dJ hp (xW (T.item X rfl rfl rfl hc i xg s3 σ3 H3 X.xe I3 (stat fr3) st3 go) λr s4 ⟨u,hr,h4⟩=>?_);subst hr;refine dJ hp (xW h4 λ_ s5 ⟨x,H5,I5,r5,y5,st5,fr5⟩=>?_);have I5':=I5.pinned (stat fr5) (T.obj _ _ st5);refine dJ hp (xW (hg _ s5 σ3 H5 x u _ I5' r5 (step x H5 y5)) λ_ s6 ⟨σ6,H6,I6,q6⟩=>?_);refine dJ hp (xW (@hb _ s6 σ6 H6 _ I6 q6) λf s7 q7=>?_);have again:∀ {σ7:St} {H7:Hp},Inv X (xg++fO fp s5.heap) σ7 H7 s7->N σ7 H7->∃m,m<n/\∃i σ' H',Inv X xg σ' H' s7/\tn i s7.heap/\(∀b∈fp,H' b=none)/\W i m σ' H':=λ {σ7 H7} I7 n7=>by obtain⟨m',hm,w7⟩:=hN σ7 H7 n7;refine⟨m',hm,i+1,σ7,H7,I7.unpinned,T.keep _ _ _ st5 λb hb o e=>(I7.pin (b,o) (zf _ (zf _ (fC hb e)))).1,λb hb=>?_,w7⟩;obtain⟨o,e,d⟩:=T.obj _ _ st5 b hb;exact(I7.pin (b,o) (zf _ (zf _ (fC hb e)))).2.1
  cases f with
  |next=>obtain⟨σ7,H7,I7,n7⟩:=q7;exact again I7 n7
  |cont=>obtain⟨σ7,H7,I7,n7⟩:=q7;exact again I7 n7
  |brk=>obtain⟨σ7,H7,I7,q7⟩:=q7;exact⟨σ7,H7,I7.unpinned,q7⟩
  |ret v=>obtain⟨x7,σ7,H7,I7,r7,q7⟩:=q7;exact⟨x7,σ7,H7,I7.unpinned,r7,q7⟩
end
abbrev R2:=V->V->Hp->VK->Prop
def y9 (X:Cx)(f:Value->Value->Sem Value)(r:R2):Prop:=
 ∀(xg:List (Addr×Obj)) (s:Shared) (σ:St) (H:Hp) (x y:V) (v u:Value) (Q:VK),Inv X xg σ H s->RelV x v->RelV y u->r x y H Q->
  wpAny (model X.prog X.w) X.A (f v u) (EP X xg σ Q) X.xe s
def UnR (X:Cx)(f:Value->Sem Value)(r:V->Hp->VK->Prop):Prop:=
 ∀(xg:List (Addr×Obj)) (s:Shared) (σ:St) (H:Hp) (x:V) (v:Value) (Q:VK),Inv X xg σ H s->RelV x v->r x H Q->
  wpAny (model X.prog X.w) X.A (f v) (EP X xg σ Q) X.xe s
def u5 (X:Cx)(f:Value)(r:List V->Hp->VK->Prop):Prop:=
 ∀(xg:List (Addr×Obj)) (s:Shared) (σ:St) (H:Hp) (xs:List V) (us:List Value) (Q:VK),Inv X xg σ H s->x9 xs us->r xs H Q->
  wpAny (model X.prog X.w) X.A (call f us) (EP X xg σ Q) X.xe s
def Gk (X:Cx)(r:V->Hp->(Bool->Hp->Prop)->Prop):Prop:=
 ∀(xg:List (Addr×Obj)) (s:Shared) (σ:St) (H:Hp) (x:V) (v:Value) (Q:Bool->Hp->Prop),Inv X xg σ H s->RelV x v->r x H Q->
  wpAny (model X.prog X.w) X.A (truthy v) (TP X xg σ Q) X.xe s
def tOp (r:R2)(ta tb:TE):TE:=λσ H Q=>ta σ H λx H1=>tb σ H1 λy H2=>r x y H2 Q
def tUn (r:V->Hp->VK->Prop)(ta:TE):TE:=λσ H Q=>ta σ H λx H1=>r x H1 Q
def rI (C:Int->Int->Prop)(g:Int->Int->V):R2:=λx y H Q=>∃i j,x=.int i/\y=.int j/\C i j/\Q (g i j) H
def rI0 (g:Int->Int->V):R2:=λx y H Q=>∃i j,x=.int i/\y=.int j/\Q (g i j) H
def rU (g:Int->V):V->Hp->VK->Prop:=λx H Q=>∃i,x=.int i/\Q (g i) H
section
variable {X:Cx} {a b c:Expr} {ta tb tc:TE} {pos:Pos}
def ny (ha:PE X a ta)(hb:PE X b tb){xg:List (Addr×Obj)}{s:Shared}{σ:St}{H:Hp}{R:V->V->Hp->Prop}(I:Inv X xg σ H s)
  (h:ta σ H λx H1=>tb σ H1 λy H2=>R x y H2) {Q:Value->Shared->Prop} {f:Value->Value->Sem Value}
  (hf:∀v u s2 x y H2,Inv X xg σ H2 s2->RelV x v->RelV y u->R x y H2->wpAny (model X.prog X.w) X.A (f v u) Q X.xe s2) :
  wpAny (model X.prog X.w) X.A (eval a X.env) (λv s₁=>wpAny (model X.prog X.w) X.A (eval b X.env) (λu s₂=>wpAny (model X.prog X.w) X.A (f v u) Q X.xe s₂) X.xe s₁) X.xe s:=by
 refine xW (@ha xg s σ H _ I h) λv s1 ⟨x,H1,I1,r1,q1⟩=>?_;refine xW (@hb xg s1 σ H1 _ I1 q1) λu s2 ⟨y,H2,I2,r2,q2⟩=>?_;exact hf v u s2 x y H2 I2 r1 r2 q2
def xu {op:Operator}{r:R2}(ho:y9 X (binaryOp op) r)(ha:PE X a ta)(hb:PE X b tb):PE X (.BinOp a op b pos) (tOp r ta tb):=by intro xg s σ H Q I h;exact wpAny_BinOp (ny ha hb I h λv u s2 x y H2 I2 rx ry q=>@ho xg s2 σ H2 x y v u Q I2 rx ry q)
def wF {op:UnaryOp}{r:V->Hp->VK->Prop}(ho:UnR X (unaryOp op) r)(ha:PE X a ta):PE X (.UnaryOp op a pos) (tUn r ta):=by intro xg s σ H Q I h;exact UnaryOp_ (xW (@ha xg s σ H _ I h) λv s1 ⟨x,H1,I1,r1,q1⟩=>@ho xg s1 σ H1 x v Q I1 r1 q1)
def opI {f:Value->Value->Sem Value}{C:Int->Int->Prop}{g:Int->Int->Int}
  (rule:∀(i j:Int) (t u:Tok) (s:Shared) (Q:Value->Shared->Prop) (E:Value->Shared->Prop),C i j->Q (.int (g i j) s.toks) {s with toks:=s.toks+1}->wpAny (model X.prog X.w) X.A (f (.int i t) (.int j u)) Q E s) :
  y9 X f (rI C λi j=>.int (g i j)):=by
 intro xg s σ H x y v u Q I rx ry h;obtain⟨i,j,rfl,rfl,hc,q⟩:=h;obtain⟨t,rfl⟩:=rx;obtain⟨t',rfl⟩:=ry;exact rule i j t t' s _ _ hc ⟨.int (g i j),H,I.tok _,⟨_,rfl⟩,q⟩
def CW {f:Value->Value->Sem Value}{g:Int->Int->Int}
  (rule:∀(i j:Int) (t u:Tok) (s:Shared) (Q:Value->Shared->Prop) (E:Value->Shared->Prop),Q (.int (g i j) s.toks) {s with toks:=s.toks+1}->wpAny (model X.prog X.w) X.A (f (.int i t) (.int j u)) Q E s) :
  y9 X f (rI0 λi j=>.int (g i j)):=by
 intro xg s σ H x y v u Q I rx ry h;obtain⟨i,j,rfl,rfl,q⟩:=h;obtain⟨t,rfl⟩:=rx;obtain⟨t',rfl⟩:=ry;exact rule i j t t' s _ _ ⟨.int (g i j),H,I.tok _,⟨_,rfl⟩,q⟩
def tw {f:Value->Value->Sem Value}{g:Int->Int->Bool}
  (rule:∀(i j:Int) (t u:Tok) (s:Shared) (Q:Value->Shared->Prop) (E:Value->Shared->Prop),Q (.bool (g i j)) s->wpAny (model X.prog X.w) X.A (f (.int i t) (.int j u)) Q E s) :
  y9 X f (rI0 λi j=>.bl (g i j)):=by
 intro xg s σ H x y v u Q I rx ry h;obtain⟨i,j,rfl,rfl,q⟩:=h;obtain⟨t,rfl⟩:=rx;obtain⟨t',rfl⟩:=ry;exact rule i j t t' s _ _ ⟨.bl (g i j),H,I,rfl,q⟩
def iK (i j:Int):Prop:=0<=j/\j<=1000000/\i.natAbs<2^64
def aP (i j:Int):Prop:=(-(2^64)<i/\i<2^64)\/(-(2^64)<j/\j<2^64)
def aP.ok {i j:Int}(h:aP i j):IntMulOk i j:=by
 rcases h with ⟨h1,h2⟩|⟨h1,h2⟩
 .exact .of_left (intBits_le_64 h1 h2)
 .exact .of_right (intBits_le_64 h1 h2)
def wg:y9 X (binaryOp .Add) (rI0 λi j=>.int (i+j)):=CW λ_ _ _ _ _ _ _ q=>add_int q
def wj:y9 X (binaryOp .Sub) (rI0 λi j=>.int (i-j)):=CW λ_ _ _ _ _ _ _ q=>sub_int q
def sO:y9 X (binaryOp .Mult) (rI aP λi j=>.int (i*j)):=opI λ_ _ _ _ _ _ _ hc q=>mul_int q hc.ok
def fK:y9 X (binaryOp .Mod) (rI (λ_ j=>0<j) λi j=>.int (i%j)):=opI λi j _ _ _ _ _ hc q=>by have h1:(0:Int)<j:=hc;exact mod_int' (by lia) (by rw[Int.fmod_eq_emod_of_nonneg i (by lia)];exact q)
def tD:y9 X (binaryOp .Mod) (rI (λ_ j=>j≠0) λi j=>.int (i.fmod j)):=opI λ_ _ _ _ _ _ _ hc q=>mod_int' hc q
def C1:y9 X (binaryOp .Pow) (rI iK λi j=>.int (i^j.toNat)):=opI λ_ _ _ _ _ _ _ hc q=>pow_int_small hc.1 hc.2.1 hc.2.2 q
def unI {f:Value->Sem Value}{g:Int->Int}
  (rule:∀(i:Int) (t:Tok) (s:Shared) (Q:Value->Shared->Prop) (E:Value->Shared->Prop),Q (.int (g i) s.toks) {s with toks:=s.toks+1}->wpAny (model X.prog X.w) X.A (f (.int i t)) Q E s) :
  UnR X f (rU λi=>.int (g i)):=by
 intro xg s σ H x v Q I rx h;obtain⟨i,rfl,q⟩:=h;obtain⟨t,rfl⟩:=rx;exact rule i t s _ _ ⟨.int (g i),H,I.tok _,⟨_,rfl⟩,q⟩
def wM:UnR X (unaryOp .USub) (rU λi=>.int (-i)):=unI λ_ _ _ _ _ q=>neg_int q
end
section
variable {X:Cx} {a b c:Expr} {ta tb tc:TE} {pos:Pos}
def CZ:y9 X (compareOp .Lt) (rI0 λi j=>.bl (decide (i<j))):=tw λ_ _ _ _ _ _ _ q=>lt_int q
def jB:y9 X (compareOp .LtE) (rI0 λi j=>.bl (decide (i<=j))):=tw λ_ _ _ _ _ _ _ q=>le_int q
def gm:y9 X (compareOp .Gt) (rI0 λi j=>.bl (decide (j<i))):=tw λ_ _ _ _ _ _ _ q=>gt_int q
def cW:y9 X (compareOp .GtE) (rI0 λi j=>.bl (decide (j<=i))):=tw λ_ _ _ _ _ _ _ q=>ge_int q
def y9.or {f:Value->Value->Sem Value}{r r':R2}(h:y9 X f r)(h':y9 X f r'):y9 X f (λx y H Q=>r x y H Q\/r' x y H Q):=by
 intro xg s σ H x y v u Q I rx ry q;rcases q with q|q
 .exact @h xg s σ H x y v u Q I rx ry q
 .exact @h' xg s σ H x y v u Q I rx ry q
def yt (b:Expr){op:CmpOp}(h:op≠.In:=by decide)(h2:op≠.NotIn:=by decide):behindInMarks op b=false:=by
 have e1:(op==CmpOp.In)=false:=by cases op<;>first|rfl|exact absurd rfl h
 have e2:(op==CmpOp.NotIn)=false:=by cases op<;>first|rfl|exact absurd rfl h2
 cases b<;>simp[behindInMarks,e1,e2]
def wD {op:CmpOp}{r:R2}(ho:y9 X (compareOp op) r)(ha:PE X a ta)(hb:PE X b tb)(hm:behindInMarks op b=false):PE X (.Compare a [op] [b] pos) (tOp r ta tb):=by intro xg s σ H Q I h;exact wpAny_Compare1 (ny ha hb I h λv u s2 x y H2 I2 rx ry q=>@ho xg s2 σ H2 x y v u Q I2 rx ry q) hm
def lG (t:TE):TT:=λσ H Q=>t σ H λx H'=>∃k,x=.bl k/\Q k H'
def y8 {op:CmpOp}{r:R2}(ho:y9 X (compareOp op) r)(ha:PE X a ta)(hb:PE X b tb)(hm:behindInMarks op b=false):PT X (.Compare a [op] [b] pos) (lG (tOp r ta tb)):=by
 intro xg s σ H Q I h;refine wpAny_isTrue_Compare1 (xW (@ha xg s σ H _ I h) λv s1 ⟨x,H1,I1,r1,q1⟩=>xW (@hb xg s1 σ H1 _ I1 q1) λu s2 ⟨y,H2,I2,r2,q2⟩=>xW (@ho xg s2 σ H2 x y v u _ I2 r1 r2 q2) λc s3 ⟨z,H3,I3,r3,k,e,q3⟩=>?_) hm
 subst e;cases r3;exact jm ⟨H3,I3,q3⟩
def EJ (r r':R2)(ta tb tc:TE):TE:=λσ H Q=>ta σ H λx H1=>tb σ H1 λy H2=>r x y H2 λz H3=>∃k,z=.bl k/\
 (if k=true then tc σ H3 λw' H4=>r' y w' H4 Q else Q (.bl false) H3)
theorem Ng {op op':CmpOp}{r r':R2}(ho:y9 X (compareOp op) r)(ho':y9 X (compareOp op') r')(ha:PE X a ta)(hb:PE X b tb)(hc:PE X c tc)
  (hm:lastMarks [op,op'] [b,c]=false:=by with_unfolding_all rfl):PT X (.Compare a [op,op'] [b,c] pos) (lG (EJ r r' ta tb tc)):=by
 intro xg s σ H Q I h;refine isTrue_chain (xW (@ha xg s σ H _ I h) λv s1 ⟨x,H1,I1,r1,q1⟩=>test_link (xW (@hb xg s1 σ H1 _ I1 q1) λu s2 ⟨y,H2,I2,r2,q2⟩=>xW (@ho xg s2 σ H2 x y v u _ I2 r1 r2 q2) λd s3 ⟨z,H3,I3,r3,k,e,q3⟩=>?_)) hm
 subst e;cases r3;refine jm ?_;cases k with
 |false=>obtain⟨k',e',q'⟩:=q3;cases e';exact ite_ff ⟨H3,I3,q'⟩
 |true=>refine ite_tt (test_last (xW (@hc xg s3 σ H3 _ I3 q3) λw' s4 ⟨z',H4,I4,r4,q4⟩=>xW (@ho' xg s4 σ H4 y z' u w' _ I4 r2 r4 q4) λd' s5 ⟨z2,H5,I5,r5,k2,e2,q5⟩=>?_));subst e2;cases r5;exact jm ⟨H5,I5,q5⟩
def aU (K:xo)(x:V)(H:Hp)(k:Bool):Prop:=
 match x with
 |.non=>k=false
 |.bl b=>k=b
 |.int i=>k=(i != 0)
 |.str y=>y.length<=sizeLine/\k=((y.length:Int) != 0)
 |.byt y=>y.size<=sizeLine/\k=((y.size:Int) != 0)
 |.ref p=>(∃xs,ye K H p xs/\k = !xs.isEmpty)\/(∃xs,yy K H p xs/\k = !xs.isEmpty)\/∃xB,H p=some (.dK xB)/\k = !xB.isEmpty
 |_=>False
def Jp {κ:Type}{xB:List (κ×V)}{vs:List (κ×Value)}(r:KV xB vs):(!vs.isEmpty) = !xB.isEmpty:=by cases r<;>rfl
def B6 {xs:List V}{xj:List Value}(r:x9 xs xj):(!xj.toArray.isEmpty) = !xs.isEmpty:=by cases r<;>simp
def fA:(sizeLine:Nat)<2^63:=by rw[sizeLine_eq];decide
theorem OF:Gk X (λx H Q=>∃k,aU X.K x H k/\Q k H):=by
 intro xg s σ H x v Q I rx h;obtain⟨k,e,q⟩:=h;have hl:=fA;have hs:sizeLine=16777216:=sizeLine_eq;cases x with
 |non=>cases rx;have e':k=false:=e;subst e';exact truthy_none ⟨H,I,q⟩
 |bl b=>cases rx;have e':k=b:=e;subst e';exact jm ⟨H,I,q⟩
 |int i=>obtain⟨t,rfl⟩:=rx;have e':k=(i != 0):=e;subst e';exact PySem.P.truthy_int ⟨H,I,q⟩
 |str y=>obtain⟨t,rfl⟩:=rx;obtain⟨hy,e'⟩:y.length<=sizeLine/\k=((y.length:Int) != 0):=e;subst e';exact PySem.P.truthy_str (by lia) ⟨H,I.tok _,q⟩
 |byt y=>obtain⟨t,rfl⟩:=rx;obtain⟨hy,e'⟩:y.size<=sizeLine/\k=((y.size:Int) != 0):=e;subst e';exact PySem.W.truthy_bytes (by lia) ⟨H,I.tok _,q⟩
 |ref p=>
  cases rx;have e':(∃xs,ye X.K H p xs/\k = !xs.isEmpty)\/(∃xs,yy X.K H p xs/\k = !xs.isEmpty)\/∃xB,H p=some (.dK xB)/\k = !xB.isEmpty:=e;rcases e' with ⟨xs,hx,e'⟩|⟨xs,hx,e'⟩|⟨xB,hx,e'⟩
  .subst e';obtain⟨xj,r,pl,hz⟩:=I.list hx;have hlen:=r.length;exact wpAny_truthy_list pl.isList (by simp only[zh];lia) ⟨H,I.tok _,by rw[B6 r];exact q⟩
  .subst e';obtain⟨xj,r,pl,hz⟩:=I.tuple hx;have hlen:=r.length;exact truthy_tuple pl (by simp only[zh];lia) ⟨H,I.tok _,by rw[B6 r];exact q⟩
  .subst e';obtain⟨hz,hS,vs,r,m⟩:xB.length<=sizeLine/\(p==sysModules)=false/\∃vs,KV xB vs/\s.heap.DictOf (vX X.prog X.w) p vs:=I.hok p _ hx;have hlen:xB.length=vs.length:=dG r;exact wpAny_truthy_dict hS m (by lia) ⟨H,I.tok _,by rw[Jp r];exact q⟩
 |_=>exact(show False from e).elim
def Nh (ha:PE X a ta)(he:∀whole,isTrue a X.env whole=(do let v <-whole;standAt a.pos;holding [v] (truthy v))) :
  PT X a (λσ H Q=>ta σ H λx H'=>∃k,aU X.K x H' k/\Q k H'):=by
 intro xg s σ H Q I h;exact isTrue_plain (xW (@ha xg s σ H _ I h) λv s1 ⟨x,H1,I1,r1,q1⟩=>OF xg s1 σ H1 x v Q I1 r1 q1) (he _)
theorem vals1 {x:V}{us:List Value}(r:x9 [x] us):∃u,us=[u]/\RelV x u:=by
 cases r with
 |cons r1 r2=>cases r2;exact⟨_,rfl,r1⟩
theorem vals2 {x y:V}{us:List Value}(r:x9 [x,y] us):∃u w',us=[u,w']/\RelV x u/\RelV y w':=by
 cases r with
 |cons r1 r2=>
  cases r2 with
  |cons r3 r4=>cases r4;exact⟨_,_,rfl,r1,r3⟩
def uD:u5 X (.builtin "abs") (λxs H Q=>∃i,xs=[.int i]/\Q (.int (if i<0 then -i else i)) H):=by intro xg s σ H xs us Q I r h;obtain⟨i,rfl,q⟩:=h;obtain⟨u,rfl,t,rfl⟩:=vals1 r;exact call_abs_int λu tk=>⟨.int (if i<0 then -i else i),H,I.tok _,⟨_,rfl⟩,q⟩
def G5 (hc:X.calm=true):u5 X (.builtin "max") (λxs H Q=>∃i j,xs=[.int i,.int j]/\Q (.int (if j>i then j else i)) H):=by
 intro xg s σ H xs us Q I r h;obtain⟨i,j,rfl,q⟩:=h;obtain⟨u,w',rfl,⟨t,rfl⟩,⟨t',rfl⟩⟩:=vals2 r;refine max_two_ints (I.ok.hd hc) λh' tk k=>⟨_,H,I.kept k,?_,q⟩
 by_cases hj:j>i
 .rw[xD hj,xD hj];exact⟨_,rfl⟩
 .rw[xG hj,xG hj];exact⟨_,rfl⟩
def G6 (hc:X.calm=true):u5 X (.builtin "min") (λxs H Q=>∃i j,xs=[.int i,.int j]/\Q (.int (if j<i then j else i)) H):=by
 intro xg s σ H xs us Q I r h;obtain⟨i,j,rfl,q⟩:=h;obtain⟨u,w',rfl,⟨t,rfl⟩,⟨t',rfl⟩⟩:=vals2 r;refine min_two_ints (I.ok.hd hc) λh' tk k=>⟨_,H,I.kept k,?_,q⟩
 by_cases hj:j<i
 .rw[xD hj,xD hj];exact⟨_,rfl⟩
 .rw[xG hj,xG hj];exact⟨_,rfl⟩
end
structure mS (h:Heap)(x dx C:Addr)(mA:Str->Option Value):Prop where
 obj:h.get? x=some (PySem.W.instObj C dx)
 ns:h.Ns1 dx mA
 ne:dx≠x
def J3 {h:Heap}{dx:Addr}{mA:Str->Option Value}(n:h.Ns1 dx mA):∃od,h.get? dx=some od/\∀name,PySem.W.lookIn name od=some (mA name):=by
 obtain⟨o,es,ep,ho,hd,hk,_,hm⟩:=n;refine⟨o,ho,λname=>?_⟩;have e:=hm name;unfold nsFind findBy at e;rw[<-Array.find?_toList] at e;unfold PySem.W.lookIn;rw[hd];dsimp only;split
 .rename_i y q;rw[q] at e;exact zS some e
 .rename_i q;rw[q] at e;have a:es.toList.any (·.refKey)=false:=by rw[List.any_eq_false];intro y hy;obtain⟨z,t,hkey⟩:=hk y (Array.mem_toList_iff.mp hy);simp[DictEntry.refKey,hkey]
  have a':¬es.toList.any (·.refKey)=true:=by rw[a];exact uM
  rw[xG a'];exact zS some e
def mS.look {h:Heap}{x dx C:Addr}{mA:Str->Option Value}(I:mS h x dx C mA):∃od,PySem.W.InstAt h x (PySem.W.instObj C dx) C (some od)/\∀name,PySem.W.lookIn name od=some (mA name):=
 let ⟨od,ho,hl⟩:=J3 I.ns
 ⟨od,⟨I.obj,rfl,rfl,ho⟩,hl⟩
section
variable {prog:Program} {w:World} {A:Around} {E:Value->Shared->Prop} {s:Shared} {K:xo} {x dx C f:Addr} {mA:Str->Option Value} {name:Str} {v:Value}
end
theorem ql.some_of {v:V}{o:Option Value}(r:ql (some v) o):∃u,o=some u/\RelV v u:=by
 cases o with
 |none=>exact(show False from r).elim
 |some u=>exact⟨u,rfl,r⟩
section
variable {P:Program} {w:World} {H H':Hp} {h h':Heap} {a C dx:Addr} {fs fs':List (Str×V)}
def Jk (hok:zE P w H h)(e:H a=some (.ins C dx fs)):∃mA,mS h a dx C mA/\(∀f,ql (fs.lookup f) (mA f))/\PySem.Within mA (fs.map (·.1))/\fs.length<=1000/\H dx=some (.own a):=by
 obtain⟨d,z,ne,ob,mA,n,r,q⟩:=(show zA P w H h a (.ins C dx fs) from hok a _ e)
 exact⟨mA,⟨ob,n,ne⟩,r,q,z,d⟩
end
structure Cls (K:xo)(C:Addr):Prop where
 pg:PySem.W.plainGet K C Str.empty=true
 hd:PySem.W.hasDictIn K C=true
 po:PySem.W.plainOver K C=true
 sa:PySem.W.findIn K (.ref C) "__setattr__" = some (some (.builtin "object.__setattr__"))
def Cls.get {K:xo}{C:Addr}(c:Cls K C)(f:Str):PySem.W.plainGet K C f=true:=c.pg
section
variable {X:Cx} {xg:List (Addr×Obj)} {σ:St} {H:Hp} {s:Shared} {a C dx:Addr} {fs:List (Str×V)} {f:Str} {v:V} {A:Around} {E:Value->Shared->Prop}
end
section
variable {X:Cx} {o e value:Expr} {f:Str} {pos pos' tpos:Pos} {ta tv:TE}
end
section
variable {X:Cx} {xg:List (Addr×Obj)} {σ:St} {H:Hp} {s:Shared} {A:Around} {E:Value->Shared->Prop} {Q:Value->Shared->Prop} {c:Value} {b:Bool}
inductive u9 (K:xo)(H:Hp):V->Value->Prop where
 |non:u9 K H .non (.type "NoneType")
 |bl (x:Bool):u9 K H (.bl x) (.type "bool")
 |int (i:Int):u9 K H (.int i) (.type "int")
 |str (x:Str):u9 K H (.str x) (.type "str")
 |flt (x:UInt64):u9 K H (.flt x) (.type "float")
 |lst {a:Addr} {xs:List V} (e:H a=some (.lst xs)):u9 K H (.ref a) (.type "list")
 |frz {a:Addr} {o:Obj} {xs:List V} (e:H a=some (.frz o (.lst xs))):u9 K H (.ref a) (.type "list")
 |tup {a:Addr} {xs:List V} (e:H a=some (.tup xs)):u9 K H (.ref a) (.type "tuple")
 |dK {a:Addr} {xB:List (Key×V)} (e:H a=some (.dK xB)):u9 K H (.ref a) (.type "dict")
 |dT {a:Addr} {xB:List (List Key×V)} (e:H a=some (.dT xB)):u9 K H (.ref a) (.type "dict")
 |dF {a:Addr} {o:Obj} {xB:List (List Key×V)} (e:H a=some (.frz o (.dT xB))):u9 K H (.ref a) (.type "dict")
 |ins {a C dx:Addr} {fs:List (Str×V)} (e:H a=some (.ins C dx fs)) (cl:Cls K C) (ha:PySem.W.findIn K (.ref C) "__class__" = some (some (.builtin "object.__class__")))
   (hn:PySem.W.specialIn K (.builtin "object.__class__") "__get__" = some (some (.builtin "getset_descriptor.__get__"))) (htk:PySem.W.takesIn K (.builtin "object.__class__")=some true)
   (hm:PySem.W.mroIn K C (.type "object")=some true):u9 K H (.ref a) (.ref C)
theorem Jt {x:V}{u t:Value}(I:Inv X xg σ H s)(rx:RelV x u)(ty:u9 X.K H x t)(e:PySem.W.kitOne X.K t c=some b)(h:∀tk,Q (.bool b) {s with toks:=tk}) :
  wpAny (model X.prog X.w) A (call (.builtin "isinstance") [u,c]) Q E s:=by
 cases ty with
 |non=>cases (show u=Value.none from rx);exact qT PySem.W.kitx_none I.kIn True.intro e (λz=>nomatch z) h
 |bl y=>cases (show u=Value.bool y from rx);exact qT PySem.W.kitx_bool I.kIn True.intro e (λz=>nomatch z) h
 |int i=>obtain⟨t,q⟩:=(show ∃t,u=Value.int i t from rx);cases q;exact qT PySem.W.kitx_int I.kIn True.intro e (λz=>nomatch z) h
 |str y=>obtain⟨t,q⟩:=(show ∃t,u=Value.str y t from rx);cases q;exact qT PySem.W.kitx_str I.kIn True.intro e (λz=>nomatch z) h
 |flt y=>obtain⟨t,q⟩:=(show ∃t,u=Value.float y t from rx);cases q;exact qT PySem.W.kitx_float I.kIn True.intro e (λz=>nomatch z) h
 |@lst a xs ea=>
  cases (show u=Value.ref a from rx);obtain⟨_,_,n,_,h1⟩:=(show zA X.prog X.w H s.heap a (.lst xs) from I.hok a _ ea)
  exact qT PySem.W.kitx_list I.kIn ⟨_,h1,rfl⟩ e (λz=>nomatch z) h
 |@frz a ob xs ea=>
  cases (show u=Value.ref a from rx);obtain⟨_,_,_,n,_,h1⟩:=(show zA X.prog X.w H s.heap a (.frz ob (.lst xs)) from I.hok a _ ea)
  exact qT PySem.W.kitx_list I.kIn ⟨_,h1,rfl⟩ e (λz=>nomatch z) h
 |@tup a xs ea=>
  cases (show u=Value.ref a from rx);obtain⟨_,_,_,p⟩:=(show zA X.prog X.w H s.heap a (.tup xs) from I.hok a _ ea)
  obtain⟨o,h1,h2,_⟩:=p;exact qT PySem.W.kitx_tuple I.kIn ⟨o,h1,h2⟩ e (λz=>nomatch z) h
 |@dK a xB ea=>
  cases (show u=Value.ref a from rx);obtain⟨_,_,vs,_,p⟩:=(show zA X.prog X.w H s.heap a (.dK xB) from I.hok a _ ea)
  obtain⟨o,es,ep,h1,h2,_⟩:=p;exact qT FW I.kIn ⟨o,h1,h2.1⟩ e (λz=>nomatch z) h
 |@dT a xB ea=>
  cases (show u=Value.ref a from rx);obtain⟨_,_,xs,_,o,es,ep,h1,h2,_⟩:=(show zA X.prog X.w H s.heap a (.dT xB) from I.hok a _ ea)
  exact qT FW I.kIn ⟨o,h1,h2.1⟩ e (λz=>nomatch z) h
 |@dF a ob xB ea=>
  cases (show u=Value.ref a from rx);obtain⟨_,_,_,xs,_,o,es,ep,h1,h2,_⟩:=(show zA X.prog X.w H s.heap a (.frz ob (.dT xB)) from I.hok a _ ea)
  exact qT FW I.kIn ⟨o,h1,h2.1⟩ e (λz=>nomatch z) h
 |@ins a C dx fs ea cl ha hn htk hm=>cases (show u=Value.ref a from rx);obtain⟨mA,O,_⟩:=Jk I.hok ea;obtain⟨od,J,_⟩:=O.look;exact qT (PySem.W.kitx_own (cl.get _) cl.hd ha hn htk hm) I.kIn J e (λz=>nomatch z) h
end
structure zT (k:Nat)(A:Around):Prop where
 hd:A.handled=none
 dp:A.depth+3*k+5<recursionLimit
 un:A.units+16*k+200<cLine
def zT.mono {j k:Nat}{A:Around}(r:zT k A)(h:j<=k):zT j A:=⟨r.hd,by have:=r.dp;lia,by have:=r.un;lia⟩
theorem zT.deeper {k:Nat}{A:Around}(r:zT (k+1) A)(env:Env):zT k (A.deeper env):=⟨r.hd,by have:=r.dp;show A.depth+1+3*k+5<_;lia,by have:=r.un;show A.units+3+16*k+200<_;lia⟩
theorem zT.depth {k:Nat}{A:Around}(r:zT k A):A.depth<recursionLimit:=by have:=r.dp;lia
theorem zT.units {k:Nat}{A:Around}(r:zT k A):A.units+64<cLine:=by have:=r.un;lia
def vI:TA:=λ_ H Q=>Q [] H
def wW (ta:TE)(tr:TA):TA:=λσ H Q=>ta σ H λx H1=>tr σ H1 λxs H2=>Q (x::xs) H2
section
variable {X:Cx} {e:Expr} {es:List Expr} {te:TE} {t:TA} {pos:Pos}
def uL:PA X [] vI:=λ_ _ _ _ H Q I h=>Calls.spliced_nil ⟨[],H,I,.nil,h⟩
def yz (ha:PE X e te)(hr:PA X es t)(hs:starEach (e::es) X.env=(false,eval e X.env)::starEach es X.env:=by rfl):PA X (e::es) (wW te t):=by intro pos xg s σ H Q I h;rw[hs];show wpAny _ _ (spliced ((false,eval e X.env)::backTo pos (starEach es X.env))) _ _ s;refine Calls.spliced_cons (xW (@ha xg s σ H _ I h) λu s1 ⟨x,H1,I1,r1,q1⟩=>?_);exact xW (@hr pos xg s1 σ H1 _ I1 q1) λus s2 ⟨xs,H2,I2,r2,q2⟩=>⟨x::xs,H2,I2,.cons r1 r2,q2⟩
def E6 (t:TA):TE:=λσ H Q=>t σ H λxs H1=>xs.length<=sizeLine/\∀p,H1 p=none->Q (.ref p) (upd H1 p (.tup xs))
def lE (t:TA):TE:=λσ H Q=>t σ H λxs H1=>xs.length<=sizeLine/\∀p,H1 p=none->Q (.ref p) (upd H1 p (.lst xs))
def yD {x1}(h:PA X es t):PE X (.Tuple es x1 pos) (E6 t):=by intro xg s σ H Q I hq;refine wpAny_Tuple_spliced (xW (@h pos xg s σ H _ I hq) λus s1 ⟨xs,H1,I1,r,z,q⟩=>⟨by rw[<-r.length];exact z,?_⟩);have hf:H1 s1.heap.objs.size=none:=I1.hok.fresh (xY _);refine⟨.ref s1.heap.objs.size,upd H1 s1.heap.objs.size (.tup xs),I1.laid (t':=s1.toks) (λb u e=>yQ _ e) (xY _) ?_,rfl,q _ hf⟩;exact⟨z,us,r,⟨_,zO _ rfl,rfl,_,rfl⟩⟩
def zJ (h:PA X es t):PE X (.List es pos) (lE t):=by intro xg s σ H Q I hq;refine wpAny_List_spliced (xW (@h pos xg s σ H _ I hq) λus s1 ⟨xs,H1,I1,r,z,q⟩=>⟨by rw[<-r.length];exact z,?_⟩);have hf:H1 s1.heap.objs.size=none:=I1.hok.fresh (xY _);refine⟨.ref s1.heap.objs.size,upd H1 s1.heap.objs.size (.lst xs),I1.laid (t':=s1.toks) (λb u e=>yQ _ e) (xY _) ?_,rfl,q _ hf⟩;exact⟨z,us,0,r,zO _ rfl⟩
end
abbrev Sp:=List V->Hp->VK->XK->Prop
abbrev CXT:=List Env->Hp->Shared->XK->Value->Shared->Prop
structure aQ (P:Program)(w:World)(K:xo)(mg:Str->Option Value)(base:Heap)(A:Around)(outer:List Env)(s:Shared)(H:Hp):Prop where
 frames:A.frames=some outer
 mod:Mod K mg base
 bs:∀b o,base.get? b=some o->s.heap.get? b=some o/\H b=none
 bsz:base.objs.size<=s.heap.objs.size
 funs:s.heap.FunFrames base outer
 frf:∀b∈frs outer,H b=none
 hok:zE P w H s.heap
 bare:AllBare s.gens
def CE (outer:List Env)(P:Program)(w:World)(H:Hp)(s:Shared)(Q:VK)(u:Value)(s':Shared):Prop:=∃v H',s'.os=s.os/\AllBare s'.gens/\Un (frs outer) [] H H' s.heap s'.heap/\zE P w H' s'.heap/\RelV v u/\Q v H'
def CR (CX:CXT)(outer:List Env)(P:Program)(w:World)(H:Hp)(s:Shared)(Q:VK)(E:XK)(r:Result)(s':Shared):Prop:=
 match r with
 |.ok (.ret u)=>CE outer P w H s Q u s'
 |.ok _=>False
 |.error e=>CX outer H s E e s'
structure ue (P:Program)(w:World)(K:xo)(mg:Str->Option Value)(base:Heap)(CX:CXT)(k:Nat)(f:Addr)(fd:FuncData)(ps:List Str)(sp:Sp):Prop where
 len:∀vs H Q E,sp vs H Q E->vs.length=ps.length
 run:∀(A:Around) (outer:List Env) (s:Shared) (H:Hp) (args:Args) (us:List Value) (vs:List V) (Q:VK) (E:XK),zT k A->aQ P w K mg base A outer s H->BindsTo s fd args (ps.zip us)->x9 vs us->sp vs H Q E->
  codeAny (model P w) A (.call (.ref f) args) (CR CX outer P w H s Q E) s
theorem ue.mono {P:Program}{w:World}{K:xo}{mg:Str->Option Value}{base:Heap}{CX:CXT}{j k:Nat}{f:Addr}{fd:FuncData}{ps:List Str}{sp:Sp}(F:ue P w K mg base CX j f fd ps sp)(h:j<=k) :
  ue P w K mg base CX k f fd ps sp:=⟨F.len,λA outer s H args us vs Q E hr=>F.run A outer s H args us vs Q E (hr.mono h)⟩
def ue.imp {P:Program}{w:World}{K:xo}{mg:Str->Option Value}{base:Heap}{CX:CXT}{k:Nat}{f:Addr}{fd:FuncData}{ps:List Str}{sp sp':Sp}(F:ue P w K mg base CX k f fd ps sp)
  (h:∀vs H Q E,sp' vs H Q E->sp vs H Q E):ue P w K mg base CX k f fd ps sp' :=
 ⟨λvs H Q E q=>F.len vs H Q E (h _ _ _ _ q),λA outer s H args us vs Q E hr he hb hv hs=>F.run A outer s H args us vs Q E hr he hb hv (h _ _ _ _ hs)⟩
section
variable {X:Cx} {xg:List (Addr×Obj)} {σ:St} {H:Hp} {s s':Shared}
def Inv.env0 (I:Inv X xg σ H s):aQ X.prog X.w X.K X.mg X.base X.A X.stack s H:=⟨I.ok.frames,I.ok.mod,I.bs,qj I.ok.bsz I.sz,I.stack,I.stkFree,I.hok,I.bare⟩
def Inv.after {Q:VK}{u:Value}(I:Inv X xg σ H s)(h:CE X.stack X.prog X.w H s Q u s'):EP X xg σ Q u s':=by obtain⟨v,H',os,bare,un,hok,r,q⟩:=h;obtain⟨hh,g,d,t,os'⟩:=s';obtain rfl:os'=s.os:=os;exact⟨v,H',I.call (h':=hh) (g':=g) (d':=d) (t':=t) (ch:=[]) un hok bare (λb z=>absurd z (by simp)),r,q⟩
end
def Oz (sp:Sp)(dvs:List V)(E:XK)(t:TA):TE:=λσ H Q=>t σ H λvs H1=>sp (vs++dvs) H1 Q E
def Binds (K:xo)(fd:FuncData)(ps:List Str)(ds:List Value):Prop:=∀(s:Shared) (us:List Value),K.In s.heap->(us++ds).length=ps.length->BindsTo s fd ⟨us,[]⟩ (ps.zip (us++ds))
def Binds.all {K:xo}{fd:FuncData}{ps:List Str}(h:∀us:List Value,us.length=ps.length->bindArgs fd ⟨us,[]⟩=pure (ps.zip us)):Binds K fd ps []:=λs us _ hl=>by rw[ub] at hl ⊢;exact .of_eq (h us hl)
def mU (CX:CXT)(X:Cx)(E:XK):Prop:=∀(xg:List (Addr×Obj)) (σ:St) (H:Hp) (s:Shared) (e:Value) (s':Shared),Inv X xg σ H s->CX X.stack H s E e s'->X.xe e s'
section
variable {X:Cx} {CX:CXT} {k:Nat} {f C:Addr} {fd:FuncData} {ps:List Str} {sp:Sp} {dvs:List V} {ds:List Value} {E:XK} {x m:Str} {p pos apos:Pos} {e o:Expr} {es:List Expr} {ta:TE} {t:TA}
theorem NF {xg:List (Addr×Obj)}{σ:St}{H:Hp}{s:Shared}{Q:VK}{us:List Value}{vs:List V}(F:ue X.prog X.w X.K X.mg X.base CX k f fd ps sp)(hr:zT k X.A)(hb:Binds X.K fd ps ds)(hd:x9 dvs ds)(hx:mU CX X E)
  (I:Inv X xg σ H s) (r:x9 vs us) (h:sp (vs++dvs) H Q E):wpAny (model X.prog X.w) X.A (call (.ref f) us) (EP X xg σ Q) X.xe s:=by
 have r2:x9 (vs++dvs) (us++ds):=r.append hd;have hl:(us++ds).length=ps.length:=by rw[<-r2.length];exact F.len _ _ _ _ h
 refine wpAny_call (codeAny_mono (F.run X.A X.stack s H ⟨us,[]⟩ (us++ds) (vs++dvs) Q E hr I.env0 (hb s us I.kIn hl) r2 h) λr s' hq=>?_);cases r with
 |error e=>exact hx xg σ H s e s' I hq
 |ok fl=>
  cases fl with
  |ret u=>exact I.after hq
  |next=>exact False.elim hq
  |brk=>exact False.elim hq
  |cont=>exact False.elim hq
def MT (F:ue X.prog X.w X.K X.mg X.base CX k f fd ps sp)(hr:zT k X.A)(hg:Gl X x)(hm:X.mg x=some (.ref f))(hk:PySem.W.keepIn X.K (.ref f)=true)(hb:Binds X.K fd ps ds)(hd:x9 dvs ds)(hx:mU CX X E)
  (ha:PA X (e::es) t) (hdb:(x==("__debug__" : Str))=false:=by decide) (he:starEach (e::es) X.env=(false,eval e X.env)::starEach es X.env:=by rfl) (hpl:(backTo pos (starEach es X.env)).any (·.1)=false:=by rfl) :
  PE X (.Call (.Name x p) (e::es) [] pos) (Oz sp dvs E t):=by
 intro xg s σ H Q I h;refine Ga (Cm I hg hm ?_ hdb);refine PySem.W.callWith_K (h₀:=X.base) I.ok.mod.kin hk (xW (@ha pos xg s σ H _ I h) λus s1 ⟨vs,H1,I1,r,q⟩=>⟨I1.kIn,?_⟩) he hpl;exact NF F hr hb hd hx I1 r q
end
section
variable {X:Cx} {CX:CXT} {k:Nat} {f C:Addr} {fd:FuncData} {ps ks:List Str} {sp:Sp} {E:XK} {x m:Str} {p pos apos kpos:Pos} {e o:Expr} {es:List Expr} {kws:List Keyword} {te ta:TE} {t tk:TA} {nm:Option Str}
variable {g:List Value->List Value->List Value} {gV:List V->List V->List V}
end
structure yj (N P:List Str)(sc:Scope):Prop where
 kind:sc.kind=.function
 co:sc.isCoroutine=false
 gen:sc.isGenerator=false
 nd:N.Nodup
 pre:N.take P.length=P
 par:∀x∈P,sc.names.lookup x=some .local\/sc.names.lookup x=some .cell
 nofree:∀y∈sc.names,y.2≠.free
theorem Aq {kindOf:Str->Option NameKind}{x:Str}:∀ {binds:List (Str×Value)} {m:Str->Option Value},(∀v,(x,v)∉binds)->bindL kindOf binds m x=m x
 |[],_,_=>rfl
 | (n,v)::r,m,h=>by
  unfold bindL;rw[Aq λw hw=>h w (yV _ hw)];split
  .have:x≠n:=by rintro rfl;exact h v xS
   simp[this]
  .rfl
theorem Ao {kindOf:Str->Option NameKind}{x:Str}:∀ {binds:List (Str×Value)} {m:Str->Option Value},(∀v,(x,v)∉binds)->bindC kindOf binds m x=m x
 |[],_,_=>rfl
 | (n,v)::r,m,h=>by
  unfold bindC;rw[Ao λw hw=>h w (yV _ hw)];split
  .rfl
  .have:x≠n:=by rintro rfl;exact h v xS
   simp[this]
theorem Ap {kindOf:Str->Option NameKind}{x:Str}{v:Value}:∀ {P:List Str} {vs:List Value} {i:Nat} {m:Str->Option Value},P.Nodup->P[i]?=some x->vs[i]?=some v->kindOf x=some .local->
  bindL kindOf (P.zip vs) m x=some v
 |[],_,_,_,_,h,_,_=>by simp at h
 |_::_,[],_,_,_,_,h,_=>by simp at h
 |p::P,w::vs,0,m,nd,h1,h2,hk=>by simp at h1 h2;subst h1;subst h2;show bindL kindOf ((p,w)::P.zip vs) m p=_;unfold bindL;rw[Aq λv hv=>(kE.mp nd).1 (ip hv).1,xD hk];simp
 |p::P,w::vs,i+1,m,nd,h1,h2,hk=>by show bindL kindOf ((p,w)::P.zip vs) m x=_;unfold bindL;exact Ap (i:=i) (kE.mp nd).2 (by simpa using h1) (by simpa using h2) hk
theorem An {kindOf:Str->Option NameKind}{x:Str}{v:Value}:∀ {P:List Str} {vs:List Value} {i:Nat} {m:Str->Option Value},P.Nodup->P[i]?=some x->vs[i]?=some v->kindOf x≠some .local->
  bindC kindOf (P.zip vs) m x=some v
 |[],_,_,_,_,h,_,_=>by simp at h
 |_::_,[],_,_,_,_,h,_=>by simp at h
 |p::P,w::vs,0,m,nd,h1,h2,hk=>by simp at h1 h2;subst h1;subst h2;show bindC kindOf ((p,w)::P.zip vs) m p=_;unfold bindC;rw[Ao λv hv=>(kE.mp nd).1 (ip hv).1,xG hk];simp
 |p::P,w::vs,i+1,m,nd,h1,h2,hk=>by show bindC kindOf ((p,w)::P.zip vs) m x=_;unfold bindC;exact An (i:=i) (kE.mp nd).2 (by simpa using h1) (by simpa using h2) hk
def start (N:List Str)(vs:List V):St:=vs.map some++List.replicate (N.length-vs.length) none
def qt (CX:CXT)(P:Program)(w:World)(K:xo)(mg:Str->Option Value)(base:Heap)(N:List Str)(qual:Str)(scope:Scope)(f:Addr)(cd:Value)(A:Around)(outer:List Env)(s:Shared)(H:Hp)(E:XK):Cx where
 prog:=P
 w:=w
 K:=K
 mg:=mg
 base:=base
 A:=A.deeper (envOfC qual scope s.heap.objs.size f cd)
 N:=N
 s₀:=s
 H₀:=H
 env:=envOfC qual scope s.heap.objs.size f cd
 outer:=outer
 stack:=envOfC qual scope s.heap.objs.size f cd::outer
 ex:=[]
 calm:=true
 fn:=λ_=>true
 pn:=[]
 xe:=λe s'=>wpAny (model P w) (A.deeper (envOfC qual scope s.heap.objs.size f cd)) (leaving (envOfC qual scope s.heap.objs.size f cd) e) (λ_ s''=>CX outer H s E e s'') (λe' s''=>CX outer H s E e' s'') s'
def AA {sc:Scope}{n:Nat}{x:Str}(h:sc.names.lookup x=some .cell):∃c,(cellsFrom n sc.names []).lookup x=some c:=by have q:=PySem.W.cellsFrom_some sc.names n [] (.inl h);exact Option.isSome_iff_exists.mp q
def Jn {CX:CXT}{P:Program}{w:World}{K:xo}{mg:Str->Option Value}{base:Heap}{N ps:List Str}{qual:Str}{scope:Scope}{f:Addr}{cd:Value}{A:Around}{outer:List Env}{s s1:Shared}{H:Hp}{E:XK}{us:List Value}{vs:List V}
  (S:yj N ps scope) (hd:A.handled=none) (e0:aQ P w K mg base A outer s H) (hl:vs.length=ps.length) (r:x9 vs us)
  (x:InCallC s s.heap.objs.size (bindL (envOfC qual scope s.heap.objs.size f cd).kindOf (ps.zip us) λ_=>none) (cellsFrom (s.heap.objs.size+1) scope.names []) (bindC (envOfC qual scope s.heap.objs.size f cd).kindOf (ps.zip us) λ_=>none) s1) :
  Inv (qt CX P w K mg base N qual scope f cd A outer s H E) [] (start N vs) H s1:=by
 have hpl:ps.length<=N.length:=by have:=zS List.length S.pre;rw[zQ] at this;lia
 obtain⟨h1,tk,rfl,hk⟩:=x.done;have noA:∀b:Addr,b∉(qt CX P w K mg base N qual scope f cd A outer s H E).ex:=λb z=>absurd (show b∈([]:List Addr) from z) (by simp);refine⟨⟨e0.mod,S.kind,rfl,rfl,xY _,λy z c h1 h2=>?_,λy hy=>?_,λy c _ h=>?_,λ_=>hd,Around.frames_deeper e0.frames,.inr ⟨rfl,rfl⟩,λb z=>absurd z (noA b),e0.bs,e0.bsz,λb _ _=>noA b,λb z=>absurd z (noA b),e0.funs,e0.frf⟩,rfl,e0.bare,Un.kept hk,⟨_,x.toInCall.ns,λi y v h1 h2 h3=>?_⟩,λy c h=>⟨_,x.cell y c h⟩,e0.hok.fresh (xY _),λy c h=>?_,λp hp=>absurd (show p∈([]:List (Addr×Obj)) from hp) (by simp),e0.hok.kept hk,?_⟩
 .exact name_of_addr x.apart (dH h1) (dH h2)
 .have hy:scope.names.lookup y=some .cell\/scope.names.lookup y=some .free:=hy;rcases hy with hy|hy
  .exact AA hy
  .exact absurd rfl (S.nofree _ (dH hy))
 .exact mI (x.above y c (dH h))
 .have hi:i<vs.length:=by
   unfold start at h2;by_cases hi:i<vs.length
   .exact hi
   .rw[List.getElem?_append_right (by simpa using hi)] at h2;rw[List.getElem?_replicate] at h2;split at h2<;>cases h2
  have ha:vs[i]?=some v:=by
   unfold start at h2;rw[FE (by simpa using hi),uN] at h2;cases e:vs[i]? with
   |none=>rw[e] at h2;cases h2
   |some a=>rw[e] at h2;cases h2;rfl
  obtain⟨u,hu,rv⟩:=r.get ha;have hp:ps[i]?=some y:=by rw[<-S.pre,List.getElem?_take_of_lt (by lia)];exact h1
  have ndP:ps.Nodup:=by rw[<-S.pre];exact S.nd.sublist (List.take_sublist _ _)
  refine⟨u,rv,?_⟩;rcases S.par y (zW hp) with k|k
  .exact .inl ⟨k,Ap ndP hp hu k⟩
  .obtain⟨c,e⟩:=AA (n:=s.heap.objs.size+1) k;refine .inr ⟨.inl k,c,e,?_⟩;have q:=x.cell y c e;rw[An ndP hp hu (by show scope.names.lookup y≠_;rw[k];decide)] at q;exact q
 .exact e0.hok.fresh (mI (x.above y c (dH h)))
 .unfold start;show _=N.length;rw[za,xX,ig];lia
theorem IF {CX:CXT}{P:Program}{w:World}{K:xo}{mg:Str->Option Value}{base:Heap}{k:Nat}{f:Addr}{name qual:Str}{params:Arguments}{body:List Stmt}{scope:Scope}{dV kV doc pm cdv ct oc:Value}{an od:Option Addr}
  {osl:Array (Option Value)} {N ps:List Str} {sp:Sp} (lk:K.lookup f=some ⟨oc,od,.func (PySem.W.fnOf name qual params body scope dV kV doc pm an cdv ct),osl⟩) (hcd:PySem.W.codeIn K cdv qual=true) (S:yj N ps scope)
  (len:∀vs H Q E,sp vs H Q E->vs.length=ps.length)
  (hbody:∀(A:Around) (outer:List Env) (s:Shared) (H:Hp) (vs:List V) (Q:VK) (E:XK),zT k (A.deeper (envOfC qual scope s.heap.objs.size f cdv))->sp vs H Q E->∃t,PSs (qt CX P w K mg base N qual scope f cdv A outer s H E) body t/\t {nx:=λ_ H'=>Q .non H',rt:=Q} (start N vs) H) :
  ue P w K mg base CX (k+1) f (PySem.W.fnOf name qual params body scope dV kV doc pm an cdv ct) ps sp:=by
 refine⟨len,λA outer s H args us vs Q E hr e0 hb r hsp=>?_⟩;have hl:=len _ _ _ _ hsp;have KX:K.In s.heap:=e0.mod.kin.keeps λb o e=>(e0.bs b o e).1;have lim:s.heap.NoLimit:=e0.mod.nolimit.keeps λb o e=>(e0.bs b o e).1;have hkind:∀y∈ps.zip us,scope.names.lookup y.1=some .local\/(scope.names.lookup y.1=some .cell/\((cellsFrom (s.heap.objs.size+1) scope.names []).lookup y.1).isSome=true):=λ⟨n,v⟩ hy=>by
  rcases S.par n (ip hy).1 with q|q
  .exact .inl q
  .exact .inr ⟨q,PySem.W.cellsFrom_some _ _ _ (.inl q)⟩
 refine codeAny_call_function hr.depth (KX _ _ lk) rfl S.co S.gen rfl (PySem.W.codeRec_of KX hcd) (hb _ _ _ _ ?_);refine wpAny_newFunctionEnv_cells S.kind hkind λenv he s1 x=>?_;subst he;refine⟨lim.keeps x.toInCall.keep,codeAny_func ?_⟩;obtain⟨t,ht,hq⟩:=hbody A outer s H vs Q E (hr.deeper _) hsp;have I:Inv (qt CX P w K mg base N qual scope f cdv A outer s H E) [] (start N vs) H s1:=Jn S hr.hd e0 hl r x;refine zm (@ht [] s1 (start N vs) H _ I hq) (λfl s' hs=>?_) λe s' hs=>hs;have fin:∀ {σ':St} {H':Hp} {v:V} {u:Value},Inv (qt CX P w K mg base N qual scope f cdv A outer s H E) [] σ' H' s'->RelV v u->Q v H'->CE outer P w H s Q u s' :=λ {σ' H' v u} J rv q=>⟨v,H',J.os,J.bare,J.base,J.hok,rv,q⟩
 cases fl with
 |ret u=>obtain⟨v,σ',H',J,rv,q⟩:=hs;exact fin J rv q
 |next=>obtain⟨σ',H',J,q⟩:=hs;exact fin (v:=V.non) (u:=Value.none) J rfl q
 |brk=>obtain⟨_,_,_,q⟩:=hs;exact False.elim q
 |cont=>obtain⟨_,_,_,q⟩:=hs;exact False.elim q
section
variable {X:Cx} {x:Str} {p pos:Pos} {e:Expr} {es:List Expr} {t:TA} {id T:String} {r:List V->Hp->VK->Prop}
def tCB (r:List V->Hp->VK->Prop)(t:TA):TE:=λσ H Q=>t σ H λvs H1=>r vs H1 Q
def yB (hc:u5 X (.builtin id) r)(hg:Gl X x)(hm:X.mg x=none)(hv:bootBuiltins x=some (.builtin id))(ha:PA X (e::es) t)(hn:x ≠ "__name__" := by decide)(hdb:(x==("__debug__" : Str))=false:=by decide)
  (he:starEach (e::es) X.env=(false,eval e X.env)::starEach es X.env:=by rfl) (hpl:(backTo pos (starEach es X.env)).any (·.1)=false:=by rfl):PE X (.Call (.Name x p) (e::es) [] pos) (tCB r t):=by
 intro xg s σ H Q I h;refine Ga (fy I hg hm hv ?_ hn hdb);exact PyProof.Rows.callWith_builtin1 (xW (@ha pos xg s σ H _ I h) λus s1 ⟨vs,H1,I1,r1,q1⟩=>@hc xg s1 σ H1 vs us Q I1 r1 q1) he hpl
def fM (hc:u5 X (.type T) r)(hg:Gl X x)(hm:X.mg x=none)(hv:bootBuiltins x=some (.type T))(ha:PA X (e::es) t)(hn:x ≠ "__name__" := by decide)(hdb:(x==("__debug__" : Str))=false:=by decide)
  (he:starEach (e::es) X.env=(false,eval e X.env)::starEach es X.env:=by rfl) (hpl:(backTo pos (starEach es X.env)).any (·.1)=false:=by rfl):PE X (.Call (.Name x p) (e::es) [] pos) (tCB r t):=by
 intro xg s σ H Q I h;refine Ga (fy I hg hm hv ?_ hn hdb);exact iA (xW (@ha pos xg s σ H _ I h) λus s1 ⟨vs,H1,I1,r1,q1⟩=>@hc xg s1 σ H1 vs us Q I1 r1 q1) he hpl
end
end L2
namespace HT
open PySem PyProof.Rows
def lexLt:List Int->List Int->Bool
 |[],[]=>false
 |[],_::_=>true
 |_::_,[]=>false
 |x::xs,y::ys=>if x=y then lexLt xs ys else decide (x<y)
def JX (x y:Int)(xs ys:List Int):lexLt (x::xs) (y::ys)=if x=y then lexLt xs ys else decide (x<y):=rfl
def J0:lexLt [] []=false:=rfl
def JZ (y:Int)(ys:List Int):lexLt [] (y::ys)=true:=rfl
def JY (x:Int)(xs:List Int):lexLt (x::xs) []=false:=rfl
def Ig (A:Around)(s:Shared)(a:Int)(t:Tok)(c:Int)(u:Tok):∃e,SeqAt.EqAt A s (.int a t) (.int c u) e/\(e=true↔a=c):=⟨(a==c),SeqAt.EqAt.int_int a t c u,by simp⟩
def Np (A:Around)(s:Shared)(a:Int)(t:Tok)(c:Int)(u:Tok)(prog:Program)(w:World)(E Q:Value->Shared->Prop)(h:Q (.bool (decide (a<c))) s) :
  wpAny (model prog w) A (richCompare .Lt (.int a t) (.int c u)) Q E s:=
 (PyProof.Rows.lt_int h:wpAny (model prog w) A (compareOp .Lt (.int a t) (.int c u)) Q E s)
section
open PySem.SeqAt
open PySem.AutoSeq1 (wpAny_loadPart')
open PySem.MeetsSeq PySem.MeetsSeq2 PySem.MeetsSeq3
def OG (l b:Addr)(items items2:Array Value)(n n2:Nat)(dd dd2:Option Addr)(sl sl2:Array (Option Value))(ns ms:List Int)(hi:IntsAre items.toList ns)(hj:IntsAre items2.toList ms) :
  Meets (Builtin.«tuple.__lt__» ⟨[.ref l,.ref b],[]⟩)
   (λ_ R s=>s.heap.get? l=some {cls:=.type "tuple", dict:=dd,data:=.seq items n,slots:=sl}/\s.heap.get? b=some {cls:=.type "tuple", dict:=dd2,data:=.seq items2 n2,slots:=sl2}/\R (.ok (.ret (.bool (lexLt ns ms)))) s):=
 .of_wp λprog w A R s h=>by
  obtain⟨hp,g,d,tk,os⟩:=s;obtain⟨hl,hb,h⟩:=h;have f2:=AutoSeq1.sub_tuple_tuple;have z1:items.size=ns.length:=by rw[<-hi.length];simp
  have z2:items2.size=ms.length:=by rw[<-hj.length];simp
  wp_walk using vo hl,vo hb,wpAny_forIn_list _ (λrest b s'=>b.1=none/\s'=⟨hp,g,d,tk,os⟩/\∃(vs ws:List Value) (ns' ms':List Int),rest=vs.zip ws/\IntsAre vs ns'/\IntsAre ws ms'/\ns'.length+items2.size=ms'.length+items.size/\R (.ok (.ret (.bool (lexLt ns' ms')))) ⟨hp,g,d,tk,os⟩) _
  case turn=>
   rintro⟨y,x⟩ rest b s' ⟨hb',rfl,vs,ws,ns',ms',hz,hvi,hwi,hlen,hR⟩;cases hvi with
   |nil=>rw[List.zip_nil_left] at hz;cases hz
   |cons a t hvi' =>
    cases hwi with
    |nil=>rw[List.zip_nil_right] at hz;cases hz
    |cons c u hwi' =>
     rw[FN] at hz;injection hz with hyx hrest;injection hyx with hy hx;subst hy hx;rw[JX] at hR;simp only[uA] at hlen;obtain⟨e,he,hiff⟩:=Ig A.in1 ⟨hp,g,d,tk,os⟩ a t c u;refine xl (he prog w _ _ ?_);cases e with
     |true=>
      rw[xD (hiff.mp rfl)] at hR
      wp_walk
      exact⟨rfl,rfl,_,_,_,_,hrest,hvi',hwi',by lia,hR⟩
     |false=>
      rw[xG (λq=>absurd (hiff.mpr q) uM)] at hR;have hri:=Np A.in1 ⟨hp,g,d,tk,os⟩ a t c u prog w
      wp_walk using hri
      exact⟨_,rfl,by simpa using hR⟩
  case fin=>
   rintro⟨b1,b2⟩ s' ⟨hb',rfl,vs,ws,ns',ms',hz,hvi,hwi,hlen,hR⟩;simp only at hb';subst hb';have hv:lexLt ns' ms'=decide (items.size<items2.size):=by
    cases hvi with
    |nil=>
     cases hwi with
     |nil=>simp only[aK] at hlen;rw[J0];exact(wX (by lia)).symm
     |cons c u hw=>simp only[aK,uA] at hlen;rw[JZ];exact(wO (by lia)).symm
    |cons a t hv=>
     cases hwi with
     |nil=>simp only[aK,uA] at hlen;rw[JY];exact(wX (by lia)).symm
     |cons c u hw=>rw[FN] at hz;cases hz
   rw[hv] at hR
   wp_walk
   exact⟨_,rfl,by simpa [Builtin.Tuple.tupleCompareSizes] using hR⟩
  case h=>exact⟨rfl,rfl,items.toList,items2.toList,ns,ms,rfl,hi,hj,by lia,h⟩
end
section
variable {prog:Program} {w:World} {A:Around} {E:Value->Shared->Prop} {s:Shared}
def J4 {l b:Addr}{items items2:Array Value}{ns ms:List Int}{Q:Value->Shared->Prop}(hl:IsTup s.heap l items)(hb:IsTup s.heap b items2)(hi:IntsAre items.toList ns)(hj:IntsAre items2.toList ms)
  (hu:A.units<cLine) (h:Q (.bool (lexLt ns ms)) s):wpAny (model prog w) A (compareOp .Lt (.ref l) (.ref b)) Q E s:=by
 obtain⟨⟨cls,dd,data,sl⟩,ho,hc,n,hd⟩:=id hl;obtain⟨⟨cls2,dd2,data2,sl2⟩,ho2,hc2,n2,hd2⟩:=id hb;simp only at hc hd hc2 hd2;subst hc hd hc2 hd2;exact richCompare_meets_room (op:=.Lt) ⟨_,ho,rfl⟩ ⟨_,ho2,rfl⟩ PySem.F.slot_tuple_lt PySem.F.entry_tuple_lt (PySem.F.args_tuple_lt_2 _ _) (OG l b items items2 n n2 dd dd2 sl sl2 ns ms hi hj)
  ⟨ho,ho2,show Value.bool (lexLt ns ms)≠Value.notImplemented/\Q (.bool (lexLt ns ms)) s from⟨(λx=>nomatch x),h⟩⟩ hu
def G9 {t b:Addr}{vs ws:List Value}{Q:Value->Shared->Prop}(ht:IsTup s.heap t vs.toArray)(hb:IsTup s.heap b ws.toArray)(hv:vs≠[])
  (h1:ws=[]->Q (.ref t) s) (h2:ws≠[]->Q (.ref s.heap.objs.size) {s with heap:=s.heap.push {cls:=.type "tuple", data:=.seq (vs++ws).toArray} })
  (hsz:vs.length+ws.length<=sizeLine):wpAny (model prog w) A (binaryOp .Add (.ref t) (.ref b)) Q E s:=by
 obtain⟨⟨cls,dd,data,sl⟩,ho,hc,n,hd⟩:=id ht;obtain⟨⟨cls2,dd2,data2,sl2⟩,ho2,hc2,n2,hd2⟩:=id hb;simp only at hc hd hc2 hd2;subst hc hd hc2 hd2;have e:vs.toArray++ws.toArray=(vs++ws).toArray:=by simp
 by_cases hw:ws=[]
 .exact concat_meets ⟨_,ho,rfl⟩ ⟨_,ho2,rfl⟩ FZ seq_tuple_add FV FU (FT _ _)
   (tuple_addW1 t b vs.toArray ws.toArray n n2 dd dd2 sl sl2 (by simpa using hv) (by simp[hw])) ⟨ho,ho2,h1 hw⟩
 .refine concat_meets ⟨_,ho,rfl⟩ ⟨_,ho2,rfl⟩ FZ seq_tuple_add FV FU (FT _ _)
   (tuple_addW2 t b vs.toArray ws.toArray n n2 dd dd2 sl sl2 (by simpa using hv) (by simpa using hw) (by rw[zh,zh];exact hsz)) ⟨ho,ho2,?_⟩
  rw[e];exact h2 hw
def yh (n d:Nat):Option Int->Nat
 |none=>d
 |some v=>if v<0 then(v+(n:Int)).toNat else min v.toNat n
def pU (n d:Nat):yh n d none=d:=rfl
def Ed (n d k:Nat):yh n d (some (k:Int))=min k n:=by show(if (k:Int)<0 then((k:Int)+(n:Int)).toNat else min (k:Int).toNat n)=min k n;rw[xG (by lia),gL]
theorem NH (n d:Nat)(hd:d<=n)(o:Option Int):yh n d o<=n:=by
 cases o with
 |none=>exact hd
 |some v=>
  show(if v<0 then(v+(n:Int)).toNat else min v.toNat n)<=n;by_cases hv:v<0
  .rw[xD hv];lia
  .rw[xG hv];exact iz _ _
def AE (v:Int)(n d:Nat):(if v<0 then max (v+(n:Int)) 0 else min v (n:Int))=((yh n d (some v):Nat):Int):=by
 show(if v<0 then max (v+(n:Int)) 0 else min v (n:Int))=(((if v<0 then(v+(n:Int)).toNat else min v.toNat n):Nat):Int)
 by_cases hv:v<0
 .simp only[xD hv];lia
 .simp only[xG hv];lia
def Gn (lo hi:Option Int)(n:Nat):Builtin.Slice.sliceAdjust lo hi 1 (n:Int)=(((yh n 0 lo:Nat):Int),((yh n n hi:Nat):Int)):=by
 have h1:¬((1:Int)<0):=by lia
 unfold Builtin.Slice.sliceAdjust;simp only[h1,jl];refine uu ?_ ?_
 .cases lo with
  |none=>rfl
  |some v=>exact AE v n 0
 .cases hi with
  |none=>rfl
  |some v=>exact AE v n n
def M8 (i j:Nat):Builtin.Slice.slicePlaces (i:Int) (j:Int) 1=j-i:=by
 unfold Builtin.Slice.slicePlaces;have h1:(1:Int)>0:=by lia
 simp only[h1,qU,Int.ediv_one];split<;>lia
theorem Ey {v:Value}{o:Option Int}{Q:Option Int->Shared->Prop}(p:IsPart v o)(h:Q o s):wpAny (model prog w) A (Builtin.Slice.slicePartIndex v) Q E s:=by
 cases p with
 |none=>exact slicePart_none h
 |int i t=>exact slicePart_int h
def Ex {sl:Addr}{vl vu:Value}{lo hi:Option Int}{n:Nat}{Q:Int×Int×Nat->Shared->Prop}(hs:s.heap.IsSliceOf sl vl vu .none)(pl:IsPart vl lo)(pu:IsPart vu hi)
  (h:Q (((yh n 0 lo:Nat):Int),1,yh n n hi-yh n 0 lo) s):wpAny (model prog w) A (Builtin.Slice.sliceApplied (.ref sl) (pure (n:Int))) Q E s:=by
 obtain⟨os,hos,hcs,hds⟩:=id hs;unfold Builtin.Slice.sliceApplied Builtin.Slice.sliceFields;refine xl (xl (ud hos hds (x:=vl) rfl (xl (ud hos hds (x:=vu) rfl (xl (ud hos hds (x:=.none) rfl (xK ?_)))))));refine xl (slicePart_none ?_);show wpAny _ _ (if ((1:Int)==0)=true then _ else _) _ _ s;rw[xG (by decide)];refine xl (Ey pl (xl (Ey pu (xl (xK ?_)))));show wpAny _ _ (match Builtin.Slice.sliceAdjust lo hi 1 (n:Int) with|(lo,hi)=>pure (lo,(1:Int),Builtin.Slice.slicePlaces lo hi 1)) _ _ s;rw[Gn lo hi n];show wpAny _ _ (pure (((yh n 0 lo:Nat):Int),(1:Int),Builtin.Slice.slicePlaces ((yh n 0 lo:Nat):Int) ((yh n n hi:Nat):Int) 1)) _ _ s;rw[M8];exact xK h
def M4 (xs:Array Value)(i k:Nat):((List.range k).filterMap λ(m:Nat)=>xs[((i:Int)+(m:Int)*1).toNat]?).toArray=((xs.toList.drop i).take k).toArray:=by
 have e:(λ(m:Nat)=>xs[((i:Int)+(m:Int)*1).toNat]?)=λm=>xs[i+m]?:=by
  funext m;have:((i:Int)+(m:Int)*1).toNat=i+m:=by lia
  rw[this]
 rw[e];have:=pick_run xs i k;rw[List.filterMap_map] at this;have e2:((λx=>xs[x]?) ∘ λx=>i+x)=λm=>xs[i+m]?:=rfl;rw[e2] at this;rw[this]
def IX {t sl:Addr}{items:Array Value}{vl vu:Value}{lo hi:Option Int}{Q:Value->Shared->Prop}(ht:IsTup s.heap t items)(hs:s.heap.IsSliceOf sl vl vu .none)(pl:IsPart vl lo)(pu:IsPart vu hi)
  (hw:¬(yh items.size 0 lo=0/\yh items.size items.size hi=items.size))
  (h:Q (.ref s.heap.objs.size) {s with heap:=s.heap.push {cls:=.type "tuple", data:=.seq ((items.toList.drop (yh items.size 0 lo)).take (yh items.size items.size hi-yh items.size 0 lo)).toArray} })
  (hsz:items.size<=sizeLine):wpAny (model prog w) A (getItem (.ref t) (.ref sl)) Q E s:=by
 have htake:sizeOk (.seq ((items.toList.drop (yh items.size 0 lo)).take (yh items.size items.size hi-yh items.size 0 lo)).toArray):=by show((items.toList.drop (yh items.size 0 lo)).take (yh items.size items.size hi-yh items.size 0 lo)).toArray.size<=sizeLine;rw[zh,zQ,uO,mz];lia
 have hj:yh items.size items.size hi<=items.size:=NH _ _ (xY _) hi;obtain⟨os,hos,hcs,hds⟩:=id hs;have hTs:s.TypeIs (.ref sl) "slice" := ⟨os,hos,hcs⟩
 unfold getItem
 try with_reducible refine vP ?_
 first|refine xl (xK ?_)|skip
 refine xl (wpAny_sequenceKey ht.typeIs (by decide) ?_);refine xl (jW (name:=Str.ofString "__getitem__") ht.typeIs aO (qV aO ht.typeIs entry_tuple_getitem ?_ (args_tuple_getitem _ _)))
 show wpAny _ _ (Builtin.Tuple.tupleItemsOf (.ref t)>>=_) _ _ s;refine xl (tupleItemsOf_ ht ?_);refine xl (wpAny_typeOf hTs ?_);rw[xD (by decide)];refine xl (Ex hs pl pu ?_);have hno:¬((((yh items.size 0 lo:Nat):Int)==0&&(1:Int)==1&&(yh items.size items.size hi-yh items.size 0 lo)==items.size)=true):=by intro q;rw[dw,dw] at q;have q1:((yh items.size 0 lo:Nat):Int)=0:=eq_of_beq q.1.1;have q2:yh items.size items.size hi-yh items.size 0 lo=items.size:=eq_of_beq q.2;exact hw ⟨by lia,by lia⟩
 show wpAny _ _ (if (((yh items.size 0 lo:Nat):Int)==0&&(1:Int)==1&&(yh items.size items.size hi-yh items.size 0 lo)==items.size)=true then _ else _) _ _ s;rw[xG hno,M4]
 first
  |exact xl (m:=Builtin.Tuple.tupleExact _) (vQ (xK ⟨_,rfl,xK h⟩) htake)
  |exact xl (m:=Builtin.Tuple.tupleExact _) (vQ (xl (xK (xK ⟨_,rfl,xK h⟩))) htake)
  |exact xl (xl (m:=Builtin.Tuple.tupleExact _) (vQ (xK (xK ⟨_,rfl,xK h⟩)) htake))
  |exact xl (xl (m:=Builtin.Tuple.tupleExact _) (vQ (xK ⟨_,rfl,xK h⟩) htake))
end
end HT
namespace L2
open PySem PySem.Spec PyProof.Rows
abbrev TO:=St->Hp->(Option Int->Hp->Prop)->Prop
def PO (X:Cx)(e:Option Expr)(t:TO):Prop:=
 ∀(xg:List (Addr×Obj)) (s:Shared) (σ:St) (H:Hp) (Q:Option Int->Hp->Prop),Inv X xg σ H s->t σ H Q->
  wpAny (model X.prog X.w) X.A (evalPart e X.env) (λu s'=>∃o H',Inv X xg σ H' s'/\IsPart u o/\Q o H') X.xe s
def EW:TO:=λ_ H Q=>Q none H
def lF (t:TE):TO:=λσ H Q=>t σ H λx H1=>∃i,x=.int i/\Q (some i) H1
theorem intsAre_of {ns:List Int}:∀ {us:List Value},x9 (ns.map V.int) us->IntsAre us ns:=by
 induction ns with
 |nil=>intro us r;rw[gN] at r;cases r;exact .nil
 |cons n ns ih=>
  intro us r;rw[uc] at r;cases r with
  |cons r1 r2=>obtain⟨t,e⟩:=r1;subst e;exact .cons n t (ih r2)
section
variable {X:Cx} {e:Expr} {te:TE} {lo hi:Option Expr} {tl th:TO} {pos p2:Pos}
def k9:PO X none EW:=by intro xg s σ H Q I h;rw[evalPart_none];exact xK ⟨none,H,I,.none,h⟩
def km (h:PE X e te):PO X (some e) (lF te):=by intro xg s σ H Q I hw;rw[evalPart_some];refine xW (@h xg s σ H _ I hw) λu s1 ⟨x,H1,I1,r1,q1⟩=>?_;obtain⟨i,rfl,q⟩:=q1;obtain⟨t,rfl⟩:=r1;exact⟨some i,H1,I1,.int i t,q⟩
def SlR (X:Cx)(r:V->Option Int->Option Int->Hp->VK->Prop):Prop:=
 ∀(xg:List (Addr×Obj)) (s:Shared) (σ:St) (H:Hp) (x:V) (v vl vu:Value) (lo hi:Option Int) (sl:Addr) (Q:VK),Inv X xg σ H s->RelV x v->s.heap.IsSliceOf sl vl vu .none->IsPart vl lo->IsPart vu hi->r x lo hi H Q->
  ∃T id,typeLookup (.type T) "__getitem__" = pure (some (.builtin id))/\s.TypeIs v T/\wpAny (model X.prog X.w) X.A (getItem v (.ref sl)) (EP X xg σ Q) X.xe s
def tSl (r:V->Option Int->Option Int->Hp->VK->Prop)(te:TE)(tl th:TO):TE:=λσ H Q=>te σ H λx H1=>tl σ H1 λl H2=>th σ H2 λu H3=>r x l u H3 Q
def k8 {r:V->Option Int->Option Int->Hp->VK->Prop}(hr:SlR X r)(he:PE X e te)(hl:PO X lo tl)(hu:PO X hi th):PE X (.Subscript e (.Slice lo hi none p2) pos) (tSl r te tl th):=by intro xg s σ H Q I h;refine Subscript_ (xW (@he xg s σ H _ I h) λv s1 ⟨x,H1,I1,r1,q1⟩=>?_);refine wpAny_Slice (xW (@hl xg s1 σ H1 _ I1 q1) λvl s2 ⟨l,H2,I2,pl,q2⟩=>xW (@hu xg s2 σ H2 _ I2 q2) λvu s3 ⟨u,H3,I3,pu,q3⟩=>?_);rw[evalPart_none];refine xK ?_;have I4:Inv X xg σ H3 {s3 with heap:=s3.heap.push {cls:=.type "slice", data:=.fields #[vl,vu,.none]} }:=I3.kept (t':=s3.toks) λb ob q=>yQ _ q;obtain⟨T,id,hT,ht,hg⟩:=hr xg {s3 with heap:=s3.heap.push {cls:=.type "slice", data:=.fields #[vl,vu,.none]} } σ H3 x v vl vu l u s3.heap.objs.size Q I4 r1 (Heap.IsSliceOf.new ..) pl pu q3;show wpAny (model X.prog X.w) X.A (subscriptTail e (.Slice lo hi none p2) v (.ref s3.heap.objs.size)) (EP X xg σ Q) X.xe {s3 with heap:=s3.heap.push {cls:=.type "slice", data:=.fields #[vl,vu,.none]} };exact tail_any (ops:=[.ref s3.heap.objs.size,v]) ht hT hg (by with_unfolding_all rfl)
def vp (xs:List V)(lo hi:Option Int):List V:=(xs.drop (HT.yh xs.length 0 lo)).take (HT.yh xs.length xs.length hi-HT.yh xs.length 0 lo)
def AW (xs:List V)(lo hi:Option Int):(vp xs lo hi).length<=xs.length:=by unfold vp;rw[zQ,uO];lia
def Nl (K:xo):V->Option Int->Option Int->Hp->VK->Prop:=λx lo hi H Q=>∃a xs,x=.ref a/\yy K H a xs/\
 ¬(HT.yh xs.length 0 lo=0/\HT.yh xs.length xs.length hi=xs.length)/\∀p,H p=none->Q (.ref p) (upd H p (.tup (vp xs lo hi)))
def Oi:SlR X (Nl X.K):=by
 intro xg s σ H x v vl vu lo hi sl Q I rx hs pl pu h;obtain⟨a,xs,rfl,hx,hw,q⟩:=h;cases rx;obtain⟨xj,r,ht,hz⟩:=I.tuple hx;have hlen:xj.toArray.size=xs.length:=by rw[zh];exact r.length.symm
 refine⟨"tuple", _,aO.lookup,ht.typeIs,?_⟩;refine HT.IX ht hs pl pu (by rw[hlen];exact hw) ?_ (by rw[hlen];exact hz);rw[hlen];refine⟨.ref s.heap.objs.size,_,I.laid (t':=s.toks) (o:=.tup (vp xs lo hi)) (λb ob q=>yQ _ q) (xY _) ?_,rfl,q _ (I.hok.fresh (xY _))⟩;exact⟨qj (AW xs lo hi) hz,_,(r.drop (HT.yh xs.length 0 lo)).take (HT.yh xs.length xs.length hi-HT.yh xs.length 0 lo),IsTup.new _ _⟩
def DC (K:xo):R2:=λx y H Q=>∃a b ns ms,x=.ref a/\y=.ref b/\yy K H a (ns.map V.int)/\yy K H b (ms.map V.int)/\Q (.bl (HT.lexLt ns ms)) H
def LX (hu:X.A.units<cLine):y9 X (compareOp .Lt) (DC X.K):=by intro xg s σ H x y v u Q I rx ry h;obtain⟨a,b,ns,ms,rfl,rfl,ha,hb,q⟩:=h;cases rx;cases ry;obtain⟨xj,r1,p1,_⟩:=I.tuple ha;obtain⟨its2,r2,p2,_⟩:=I.tuple hb;have i1:IntsAre xj.toArray.toList ns:=intsAre_of r1;have i2:IntsAre its2.toArray.toList ms:=intsAre_of r2;exact HT.J4 p1 p2 i1 i2 hu ⟨.bl (HT.lexLt ns ms),H,I,rfl,q⟩
def Nj (K:xo):R2:=λx y H Q=>∃a b xs ys,x=.ref a/\y=.ref b/\yy K H a xs/\yy K H b ys/\xs≠[]/\xs.length+ys.length<=sizeLine/\
 (ys=[]->Q (.ref a) H)/\(ys≠[]->∀p,H p=none->Q (.ref p) (upd H p (.tup (xs++ys))))
theorem x9.nil_iff {xs:List V}{us:List Value}(r:x9 xs us):us=[]↔xs=[]:=by
 cases r with
 |nil=>simp
 |cons _ _=>simp
def LW:y9 X (binaryOp .Add) (Nj X.K):=by intro xg s σ H x y v u Q I rx ry h;obtain⟨a,b,xs,ys,rfl,rfl,ha,hb,hx,hz,q1,q2⟩:=h;cases rx;cases ry;obtain⟨xj,r1,p1,_⟩:=I.tuple ha;obtain⟨its2,r2,p2,_⟩:=I.tuple hb;refine HT.G9 p1 p2 (λz=>hx (r1.nil_iff.mp z)) (λz=>⟨.ref a,H,I,rfl,q1 (r2.nil_iff.mp z)⟩) (λz=>?_) (by rw[<-r1.length,<-r2.length];exact hz);refine⟨.ref s.heap.objs.size,_,I.laid (t':=s.toks) (o:=.tup (xs++ys)) (λb ob q=>yQ _ q) (xY _) ?_,rfl,q2 (λw=>z (r2.nil_iff.mpr w)) _ (I.hok.fresh (xY _))⟩;exact⟨by rw[za];exact hz,_,r1.append r2,IsTup.new _ _⟩
end
def ixN (n:Nat)(i:Int):Option Nat:=if 0<=i then(if i<n then some i.toNat else none) else if -(n:Int)<=i then some (i+n).toNat else none
def atI {α:Type}(xs:List α)(i:Int):Option α:=(ixN xs.length i).bind λj=>xs[j]?
def Cc {n:Nat}{i:Int}{j:Nat}(h:ixN n i=some j):seqIndex? i n=some j/\j<n/\-(n:Int)<=i/\i<n:=by
 unfold ixN at h;by_cases h0:0<=i
 .rw[xD h0] at h;by_cases h1:i<n
  .rw[xD h1] at h;have e:i.toNat=j:=qQ h;exact⟨by rw[seqIndex_of h0 h1,e],by lia,by lia,h1⟩
  .rw[xG h1] at h;cases h
 .rw[xG h0] at h;by_cases h1:-(n:Int)<=i
  .rw[xD h1] at h;have e:(i+n).toNat=j:=qQ h;exact⟨by rw[seqIndex_neg (by lia) h1,e],by lia,h1,by lia⟩
  .rw[xG h1] at h;cases h
theorem nk {α:Type}{xs:List α}{i:Int}{v:α}(h:atI xs i=some v):∃j,seqIndex? i xs.length=some j/\xs[j]?=some v/\j<xs.length/\-(xs.length:Int)<=i/\i<xs.length:=by
 unfold atI at h;cases e:ixN xs.length i with
 |none=>rw[e] at h;cases h
 |some j=>rw[e] at h;obtain⟨h1,h2,h3,h4⟩:=Cc e;exact⟨j,h1,h,h2,h3,h4⟩
def GC {α:Type}{xs:List α}{j:Nat}{v:α}(h:xs[j]?=some v):atI xs (j:Int)=some v:=by
 have hj:j<xs.length:=(zP.mp h).1;have e:ixN xs.length (j:Int)=some j:=by unfold ixN;rw[xD (by lia),xD (by lia)];simp
 unfold atI;rw[e];exact h
def GB {α:Type}(xs:List α)(v:α):atI (xs++[v]) (-1)=some v:=by
 have hl:(xs++[v]).length=xs.length+1:=by simp
 have e:ixN (xs++[v]).length (-1)=some xs.length:=by unfold ixN;rw[hl,xG (by decide),xD (by lia)];congr 1;lia
 unfold atI;rw[e];show(xs++[v])[xs.length]?=some v;simp
def Gj (b:Expr):Prop:=∀o i,subscripted b false o i=operate [o,i] (getItem o i)
def IxR (X:Cx)(r:R2):Prop:=
 ∀(value slice:Expr) (xg:List (Addr×Obj)) (s:Shared) (σ:St) (H:Hp) (x y:V) (v u:Value) (Q:VK),Inv X xg σ H s->RelV x v->RelV y u->r x y H Q->
  subscripted slice false v u=operate [v,u] (getItem v u)->wpAny (model X.prog X.w) X.A (subscriptTail value slice v u) (EP X xg σ Q) X.xe s
def MtR (X:Cx)(id:String)(r:V->List V->Hp->VK->Prop):Prop:=
 ∀(xg:List (Addr×Obj)) (s:Shared) (σ:St) (H:Hp) (x:V) (xs:List V) (v:Value) (us:List Value) (Q:VK),Inv X xg σ H s->RelV x v->x9 xs us->r x xs H Q->
  wpAny (model X.prog X.w) X.A (call (.builtin id) (v::us)) (EP X xg σ Q) X.xe s
section
variable {X:Cx} {a b:Expr} {ta tb:TE} {pos:Pos}
def IxR.or {r r':R2}(h:IxR X r)(h':IxR X r'):IxR X (λx y H Q=>r x y H Q\/r' x y H Q):=by
 intro value slice xg s σ H x y v u Q I rx ry q hs;rcases q with q|q
 .exact h value slice xg s σ H x y v u Q I rx ry q hs
 .exact h' value slice xg s σ H x y v u Q I rx ry q hs
def zZ {r:R2}(hr:IxR X r)(ha:PE X a ta)(hb:PE X b tb)(hs:Gj b):PE X (.Subscript a b pos) (tOp r ta tb):=by intro xg s σ H Q I h;exact Subscript_ (ny ha hb I h λv u s2 x y H2 I2 rx ry q=>hr a @b xg s2 σ H2 x y v u Q I2 rx ry q (hs _ _))
def pH (K:xo):R2:=λx y H Q=>∃p xs i v,x=.ref p/\y=.int i/\ye K H p xs/\atI xs i=some v/\Q v H
def Dy (K:xo):R2:=λx y H Q=>∃p xs i v,x=.ref p/\y=.int i/\yy K H p xs/\atI xs i=some v/\Q v H
def Dx:R2:=λx y H Q=>∃z i c,x=.str z/\y=.int i/\z.length<=sizeLine/\atI z.cps.toList i=some c/\Q (.str ⟨#[c]⟩) H
def Cd:IxR X (pH X.K):=by
 intro value slice xg s σ H x y v u Q I rx ry h hs;obtain⟨p,xs,i,z,rfl,rfl,hq,he,q⟩:=h;cases rx;obtain⟨t,rfl⟩:=ry;obtain⟨xj,r,pl,hz⟩:=I.list hq;obtain⟨j,h1,h2,h3,h4,h5⟩:=nk he;obtain⟨w,ew,rw'⟩:=r.get h2;have hl:=r.length;have hn:=fA;have fin:EP X xg σ Q w s:=⟨z,H,I,rw',q⟩
 by_cases h0:0<=i
 .have hj:i.toNat=j:=by rw[seqIndex_of h0 h5] at h1;exact qQ h1
  exact item_listR pl.isList h0 (by lia) (by rw[hj];simpa using ew) fin hs
 .have hj:(i+(xj.toArray.size:Int)).toNat=j:=by rw[seqIndex_neg (by lia) h4] at h1;rw[zh,<-hl];exact qQ h1
  exact subscriptTail_builtinR (x:=w) pl.isList.typeIs F_.lookup
   (wpAny_getItem_list_neg (Q:=λr s'=>r=w/\EP X xg σ Q r s') pl.isList (by lia) (by rw[zh]<;>lia) (by lia) (by rw[hj];simpa using ew) ⟨rfl,fin⟩) hs
def JD:IxR X (Dy X.K):=by
 intro value slice xg s σ H x y v u Q I rx ry h hs;obtain⟨p,xs,i,z,rfl,rfl,hq,he,q⟩:=h;cases rx;obtain⟨t,rfl⟩:=ry;obtain⟨xj,r,pl,hz⟩:=I.tuple hq;obtain⟨j,h1,h2,h3,h4,h5⟩:=nk he;obtain⟨w,ew,rw'⟩:=r.get h2;have hl:=r.length;have hn:=fA;have fin:EP X xg σ Q w s:=⟨z,H,I,rw',q⟩
 exact subscriptTail_builtinR (x:=w) pl.typeIs slot_tuple_getitem.lookup
  (getItem_tuple (j:=j) (Q:=λr s'=>r=w/\EP X xg σ Q r s') pl (by lia) (by lia) (by rw[zh,<-hl];exact h1) (by simpa using ew) ⟨rfl,fin⟩) hs
def JC:IxR X Dx:=by
 intro value slice xg s σ H x y v u Q I rx ry h hs;obtain⟨z,i,c,rfl,rfl,hz,he,q⟩:=h;obtain⟨t,rfl⟩:=rx;obtain⟨t',rfl⟩:=ry;obtain⟨j,h1,h2,h3,h4,h5⟩:=nk he;have hl:z.cps.toList.length=z.length:=by simp[Str.length]
 rw[hl] at h1 h4 h5;have hn:=fA;exact tail_any (typeIs_str s z t) slot_str_getitem.lookup (getItem_str (c:=c) (by have e1:decide (i < -(2^63:Int))=false:=wX (by lia);have e2:decide (i>=2^63)=false:=wX (by lia);rw[e1,e2,Bool.or_false]) (by rw[h1];simpa using h2) ⟨.str ⟨#[c]⟩,H,I.tok _,⟨_,rfl⟩,q⟩) hs
def rIx (K:xo):R2:=λx y H Q=>pH K x y H Q\/Dy K x y H Q\/Dx x y H Q
def JB:IxR X (rIx X.K):=Cd.or (JD.or JC)
def J5 (xj:List Value)(n j:Nat)(u:Value):Obj.mapSeq (·.setIfInBounds j u) {cls:=.type "list", data:=.seq xj.toArray n}={cls:=.type "list", data:=.seq (xj.set j u).toArray n}:=by simp[Obj.mapSeq]
theorem Inv.lst {xg:List (Addr×Obj)}{σ:St}{H:Hp}{s:Shared}{p:Addr}{xs:List V}(I:Inv X xg σ H s)(h:H p=some (.lst xs)) :
  ∃(xj:List Value) (n:Nat),x9 xs xj/\s.heap.get? p=some {cls:=.type "list", data:=.seq xj.toArray n}/\xs.length<=sizeLine:=by
 obtain⟨z,xj,n,r,e⟩:=I.hok p _ h;exact⟨xj,n,r,e,z⟩
def Inv.lstUpd {xg:List (Addr×Obj)}{σ:St}{H:Hp}{s:Shared}{p:Addr}{xs ys:List V}{xj its':List Value}{n n':Nat}{f:Obj->Obj}(I:Inv X xg σ H s)(h:H p=some (.lst xs))
  (ho:s.heap.get? p=some {cls:=.type "list", data:=.seq xj.toArray n}) (hf:f {cls:=.type "list", data:=.seq xj.toArray n}={cls:=.type "list", data:=.seq its'.toArray n' }) (r:x9 ys its') (hz:ys.length<=sizeLine) (t:Nat) :
  Inv X xg σ (upd H p (.lst ys)) {s with heap:=s.heap.update p f,toks:=t}:=by
 have e:(s.heap.update p f).get? p=some {cls:=.type "list", data:=.seq its'.toArray n' }:=by rw[Fu f ho (by rw[hf]<;>rfl),hf]
 refine I.write (x:=p) (e:=p) (by rw[h];trivial) (.inl rfl) (λb u hb q=>(Ft _ _ (zD hb)).trans q) ⟨_,e⟩ ?_;exact⟨hz,its',n',r,e⟩
def DP:V->V->V->Hp->(Hp->Prop)->Prop:=λo i v H Q=>∃p xs k j,o=.ref p/\i=.int k/\H p=some (.lst xs)/\ixN xs.length k=some j/\Q (upd H p (.lst (xs.set j v)))
def set_list:iO X DP:=by
 intro xg s σ H o i v ov iv u Q I ro ri rv h;obtain⟨p,xs,k,j,rfl,rfl,hp,hj,q⟩:=h;cases ro;obtain⟨t,rfl⟩:=ri;obtain⟨xj,n,r,ho,hz⟩:=I.lst hp;obtain⟨h1,h2,h3,h4⟩:=Cc hj;have hl:=r.length;have hn:=fA;have I':Inv X xg σ (upd H p (.lst (xs.set j v))) {s with heap:=s.heap.update p (Obj.mapSeq (·.setIfInBounds j u))}:=I.lstUpd hp ho (J5 xj n j u) (r.set rv j) (by rw[qO];exact hz) s.toks
 by_cases h0:0<=k
 .have hk:k.toNat=j:=by rw[seqIndex_of h0 h4] at h1;exact qQ h1
  exact PySem.W.ki_setAt ho h0 (by lia) (by rw[zh,<-hl];exact h4) (by rw[hk];exact⟨_,I',q⟩)
 .have hk:(k+(xj.toArray.size:Int)).toNat=j:=by rw[seqIndex_neg (by lia) h3] at h1;rw[zh,<-hl];exact qQ h1
  exact PySem.W.ki_setBack ho (by lia) (by rw[zh,<-hl];exact h3) (by lia) (by rw[hk];exact⟨_,I',q⟩)
def Oo (lo hi:Option Int)(n:Nat):(sliceBounds lo hi none n).1=((HT.yh n 0 lo:Nat):Int)/\(sliceBounds lo hi none n).2.1=((HT.yh n n hi:Nat):Int)/\(sliceBounds lo hi none n).2.2=1:=by
 refine⟨?_,?_,rfl⟩
 .cases lo with
  |none=>simp[sliceBounds,HT.yh]
  |some i=>
   simp only[sliceBounds,HT.yh,Option.getD_none,show(1:Int)>0 by decide,qU];by_cases h:i<0
   .simp only[h,qU]<;>lia
   .simp only[h,jl]<;>lia
 .cases hi with
  |none=>simp[sliceBounds,HT.yh]
  |some i=>
   simp only[sliceBounds,HT.yh,Option.getD_none,show(1:Int)>0 by decide,qU];by_cases h:i<0
   .simp only[h,qU]<;>lia
   .simp only[h,jl]<;>lia
def Ol (xj:List Value)(lo hi:Option Int):slicePick xj.toArray lo hi none=((xj.drop (HT.yh xj.length 0 lo)).take (HT.yh xj.length xj.length hi-HT.yh xj.length 0 lo)).toArray:=by obtain⟨h1,h2,h3⟩:=Oo lo hi xj.toArray.size;unfold slicePick;rw[h1,h2,h3];simp only[sliceRange_one,pick_run,zh]<;>rfl
def tM (K:xo):V->Option Int->Option Int->Hp->VK->Prop:=λx lo hi H Q=>∃a xs,x=.ref a/\ye K H a xs/\∀p,H p=none->Q (.ref p) (upd H p (.lst (vp xs lo hi)))
def Eu:SlR X (tM X.K):=by intro xg s σ H x v vl vu lo hi sl Q I rx hs pl pu h;obtain⟨a,xs,rfl,hx,q⟩:=h;cases rx;obtain⟨xj,r,ht,hz⟩:=I.list hx;have hlen:=r.length;refine⟨"list", _,F_.lookup,ht.isList.typeIs,?_⟩;refine wpAny_getItem_list_slice ht.isList hs pl pu .none (by simp) ?_ (by rw[zh]<;>lia);rw[Ol,<-hlen];refine⟨.ref s.heap.objs.size,_,I.laid (t':=s.toks) (o:=.lst (vp xs lo hi)) (λb ob q=>yQ _ q) (xY _) ?_,rfl,q _ (I.hok.fresh (xY _))⟩;exact⟨qj (AW xs lo hi) hz,_,0,(r.drop (HT.yh xs.length 0 lo)).take (HT.yh xs.length xs.length hi-HT.yh xs.length 0 lo),zO _ rfl⟩
def G3:u5 X (.builtin "len") (λxs H Q=>∃p ys,xs=[.ref p]/\(ye X.K H p ys\/yy X.K H p ys)/\Q (.int ys.length) H):=by
 intro xg s σ H xs us Q I r h;obtain⟨p,ys,rfl,hq,q⟩:=h;obtain⟨u,rfl,rx⟩:=vals1 r;cases rx;have hn:=fA;rcases hq with hq|hq
 .obtain⟨xj,r',pl,hz⟩:=I.list hq;have hlen:=r'.length;exact Calls.call_len_list pl.isList (by simp only[zh]<;>lia) ⟨.int ys.length,H,I.tok _,⟨s.toks+1,by rw[zh,hlen]⟩,q⟩
 .obtain⟨xj,r',pl,hz⟩:=I.tuple hq;have hlen:=r'.length;exact len_tuple pl (by simp only[zh]<;>lia) ⟨.int ys.length,H,I.tok _,⟨s.toks+1,by rw[zh,hlen]⟩,q⟩
def G4:u5 X (.type "list") (λxs H Q=>∃p ys,xs=[.ref p]/\(ye X.K H p ys\/yy X.K H p ys)/\∀l,H l=none->Q (.ref l) (upd H l (.lst ys))):=by
 intro xg s σ H xs us Q I r h;obtain⟨p,ys,rfl,hq,q⟩:=h;obtain⟨u,rfl,rx⟩:=vals1 r;cases rx;have fin:∀(xj:List Value),x9 ys xj->ys.length<=sizeLine->∀(h':Heap) (c':Nat),(∀b o',s.heap.get? b=some o'->h'.get? b=some o')->
   h'.get? s.heap.objs.size=some {cls:=.type "list", dict:=none,data:=.seq xj.toArray c',slots := #[]}->EP X xg σ Q (.ref s.heap.objs.size) {s with heap:=h' }:=λxj r' hz h' c' kp e=>
  ⟨.ref s.heap.objs.size,_,I.laid (t':=s.toks) kp (xY _) (show zA X.prog X.w _ h' _ (.lst ys) from⟨hz,xj,c',r',e⟩),rfl,q _ (I.hok.fresh (xY _))⟩
 rcases hq with hq|hq
 .obtain⟨xj,r',pl,hz⟩:=I.list hq;have hlen:=r'.length;obtain⟨o,ho,hc,n,hd⟩:=pl.isList;exact call_list_seq p (.inl rfl) ho hc hd (λh' c' kp e=>fin xj r' hz h' c' kp e) (by simp only[zh]<;>lia)
 .obtain⟨xj,r',pl,hz⟩:=I.tuple hq;have hlen:=r'.length;obtain⟨o,ho,hc,n,hd⟩:=pl;exact call_list_seq p (.inr rfl) ho hc hd (λh' c' kp e=>fin xj r' hz h' c' kp e) (by simp only[zh]<;>lia)
def G7:u5 X (.type "tuple") (λxs H Q=>∃p ys,xs=[.ref p]/\((ye X.K H p ys/\∀l,H l=none->Q (.ref l) (upd H l (.tup ys)))\/(yy X.K H p ys/\Q (.ref p) H))):=by
 intro xg s σ H xs us Q I r h;obtain⟨p,ys,rfl,h⟩:=h;obtain⟨u,rfl,rx⟩:=vals1 r;cases rx;rcases h with ⟨hq,q⟩|⟨hq,q⟩
 .obtain⟨xj,r',pl,hz⟩:=I.list hq;have hlen:=r'.length;refine call_tuple_list pl.isList (λh' kp=>?_) (by simp only[zh]<;>lia);have I1:Inv X xg σ H {s with heap:=h' }:=I.kept (t':=s.toks) kp;have I2:Inv X xg σ (upd H h'.objs.size (.tup ys)) {s with heap:=h'.push {cls:=.type "tuple", data:=.seq xj.toArray} }:=I1.laid (t':=s.toks) (λb o e=>yQ _ e) (xY _) (show zA X.prog X.w _ _ _ (.tup ys) from⟨hz,xj,r',IsTup.new _ _⟩)
  exact⟨.ref h'.objs.size,_,I2,rfl,q _ (I1.hok.fresh (xY _))⟩
 .obtain⟨xj,r',pl,hz⟩:=I.tuple hq;exact call_tuple_same pl ⟨.ref p,H,I,rfl,q⟩
def tyV (K:xo)(T:String)(x:V)(H:Hp):Prop:=match x with
 |.str _=>T = "str"
 |.int _=>T = "int"
 |.ref p=>(T = "list" /\ ∃xs,ye K H p xs)\/(T = "tuple" /\ ∃o,K.lookup p=some o/\o.cls=.type "tuple" /\ o.dict=none)\/
   (T = "dict" /\ ((∃xB,H p=some (.dK xB))\/∃xB,H p=some (.dT xB)))\/(T = "set" /\ ∃S n,H p=some (.set S n))
 |_=>False
theorem Fb {xg:List (Addr×Obj)}{σ:St}{H:Hp}{s:Shared}{T:String}{x:V}{v:Value}(I:Inv X xg σ H s)(r:RelV x v)(ty:tyV X.K T x H) :
  s.TypeIs v T/\∀a,v=.ref a->∃ob,s.heap.get? a=some ob/\ob.dict=none:=by
 cases x with
 |str z=>obtain⟨t,rfl⟩:=r;cases (show T = "str" from ty);exact⟨typeIs_str s z t,λ_ e=>nomatch e⟩
 |int i=>obtain⟨t,rfl⟩:=r;cases (show T = "int" from ty);exact⟨dI s i t,λ_ e=>nomatch e⟩
 |ref p=>
  cases r;rcases ty with ⟨rfl,xs,hq⟩|⟨rfl,o,hk,hc,hd⟩|⟨rfl,hk⟩|⟨rfl,S,n,hk⟩
  .obtain⟨xj,_,pl,_⟩:=I.list hq;refine⟨pl.isList.typeIs,λa e=>?_⟩;cases e;obtain⟨o,n,e,c,hd,_⟩:=pl;exact⟨o,e,hd⟩
  .refine⟨⟨o,I.kIn p o hk,hc⟩,λa e=>?_⟩;cases e;exact⟨o,I.kIn _ o hk,hd⟩
  .have z:∃o,s.heap.get? p=some o/\o.ExactDict:=by
    rcases hk with ⟨xB,hk⟩|⟨xB,hk⟩
    .obtain⟨_,_,_,_,o,_,_,e,ex,_⟩:=I.hok p _ hk;exact⟨o,e,ex⟩
    .obtain⟨_,_,_,_,o,_,_,e,ex,_⟩:=I.hok p _ hk;exact⟨o,e,ex⟩
   obtain⟨o,e,ex⟩:=z;refine⟨⟨o,e,ex.1⟩,λa e2=>?_⟩;cases e2;exact⟨o,e,ex.2.1⟩
  .obtain⟨o,_,_,_,e,ex,_⟩:=I.hok p _ hk;refine⟨⟨o,e,ex.1⟩,λa e2=>?_⟩;cases e2;exact⟨o,e,ex.2.1⟩
 |_=>exact False.elim ty
def EI (K:xo)(T:String)(r:V->List V->Hp->VK->Prop)(to:TE):TE:=λσ H Q=>to σ H λx H1=>tyV K T x H1/\r x [] H1 Q
def tBM (K:xo)(T:String)(r:V->List V->Hp->VK->Prop)(to:TE)(t:TA):TE:=λσ H Q=>to σ H λx H1=>tyV K T x H1/\t σ H1 λxs H2=>r x xs H2 Q
variable {o e:Expr} {es:List Expr} {to:TE} {t:TA} {name:Str} {apos cpos:Pos} {T id:String} {r:V->List V->Hp->VK->Prop}
def MS (pa:PlainAttrs T)(slot:Slot T name id)(hty:typeOf (.builtin id)=pure (.type "method_descriptor"))(hm:MtR X id r)(ho:PE X o to)
  (hbase:attributeBase o name X.env (eval o X.env)=eval o X.env:=by rfl) (hline:(apos.endLine==cpos.line)=true:=by rfl):PE X (.Call (.Attribute o name apos) [] [] cpos) (EI X.K T r to):=by
 intro xg s σ H Q I h;refine wpAny_Call_method0_late hbase hline (xW (@ho xg s σ H _ I h) λv s1 ⟨x,H1,I1,r1,ty,q1⟩=>?_);obtain⟨h1,h2⟩:=Fb I1 r1 ty;exact⟨T,id,pa,slot,hty,h1,h2,Fo rfl (PySem.evalArgs_none (@hm xg s1 σ H1 x [] v [] Q I1 r1 .nil q1))⟩
def v9 (pa:PlainAttrs T)(slot:Slot T name id)(hty:typeOf (.builtin id)=pure (.type "method_descriptor"))(hm:MtR X id r)(ho:PE X o to)(ha:PA X (e::es) t)
  (hbase:attributeBase o name X.env (eval o X.env)=eval o X.env:=by rfl)
  (hfew:((backTo cpos (starEach (e::es) X.env)).all (λx=>!x.1)&&(backToKw cpos (keywordEach [] X.env)).all (λx=>x.1.isSome) && decide ((e::es).length+([]:List Keyword).length+(if ([]:List Keyword).isEmpty then 0 else 1)<30))=true:=by rfl)
  (hline:(apos.endLine==cpos.line)=true:=by rfl) (hs:starEach (e::es) X.env=(false,eval e X.env)::starEach es X.env:=by rfl) (hplain:(backTo cpos (starEach es X.env)).any (·.1)=false:=by rfl) :
  PE X (.Call (.Attribute o name apos) (e::es) [] cpos) (tBM X.K T r to t):=by
 intro xg s σ H Q I h;refine wpAny_Call_method_late hbase hfew hline rfl (xW (@ho xg s σ H _ I h) λv s1 ⟨x,H1,I1,r1,ty,q1⟩=>?_);obtain⟨h1,h2⟩:=Fb I1 r1 ty;refine⟨T,id,pa,slot,hty,h1,h2,?_⟩;have hA:=@ha cpos xg s1 σ H1 _ I1 q1;rw[hs] at hA ⊢;refine Fo (by show(false||(backTo cpos (starEach es X.env)).any (·.1))=false;rw[hplain]<;>rfl) (Calls.evalArgs_plain ?_);exact xW hA λus s2 ⟨vs,H2,I2,r2,q2⟩=>@hm xg s2 σ H2 x vs v us Q I2 r1 r2 q2
end
def MtM (X:Cx)(id:String)(r:V->List V->Hp->VK->Prop):Prop:=
 ∀(xg:List (Addr×Obj)) (s:Shared) (σ:St) (H:Hp) (x:V) (xs:List V) (v:Value) (us:List Value) (Q:VK),Inv X xg σ H s->RelV x v->x9 xs us->r x xs H Q->
  wpAny (model X.prog X.w) X.A (call (.builtin id) (v::us)) (EP X xg σ Q) X.xe s
theorem x9.one:∀ {x:V} {us:List Value},x9 [x] us->∃u,us=[u]/\RelV x u
 |_,_,.cons r .nil=>⟨_,rfl,r⟩
theorem x9.zero:∀ {us:List Value},x9 [] us->us=[]
 |_,.nil=>rfl
theorem x9.dropLast {xs:List V}{us:List Value}(h:x9 xs us):x9 xs.dropLast us.dropLast:=by
 induction h with
 |nil=>exact .nil
 |cons r t ih=>
  cases t with
  |nil=>exact .nil
  |cons q t'=>exact .cons r ih
theorem x9.rep {xs:List V}{us:List Value}(h:x9 xs us):∀k:Nat,x9 (List.replicate k xs).flatten (List.replicate k us).flatten
 |0=>.nil
 |k+1=>by rw[gP,gP,dB,dB];exact x9.append h (x9.rep h k)
theorem Ik {α:Type}(l:List α):l.eraseIdx (l.length-1)=l.dropLast:=by
 induction l with
 |nil=>rfl
 |cons a r ih=>
  cases r with
  |nil=>rfl
  |cons b r=>
   have e:(a::b::r).length-1=((b::r).length-1)+1:=by have h1:(a::b::r).length=r.length+2:=rfl;have h2:(b::r).length=r.length+1:=rfl;lia
   rw[e,List.eraseIdx_cons_succ,ih]
   all_goals rfl
theorem foldl_rep (xj:List Value):∀(k:Nat) (acc:List Value),
  List.foldl (λx1 x2=>x1++x2) acc.toArray (List.replicate k xj.toArray)=(acc++(List.replicate k xj).flatten).toArray
 |0,acc=>by simp
 |k+1,acc=>by
  have e:acc.toArray++xj.toArray=(acc++xj).toArray:=by simp
  have e2:(acc++xj)++(List.replicate k xj).flatten=acc++(List.replicate (k+1) xj).flatten:=by rw[gP,dB,qM]
  rw[<-e2,<-foldl_rep xj k (acc++xj),<-e,gP,qi]
section
variable {X:Cx} {xg:List (Addr×Obj)} {σ:St} {H:Hp} {s:Shared} {l b:Addr} {xs ys zs:List V}
def Inv.lset {xj its':List Value}{n:Nat}{f:Array Value->Array Value}{t':Nat}(I:Inv X xg σ H s)(hH:H l=some (.lst xs))
  (e:s.heap.get? l=some {cls:=.type "list", data:=.seq xj.toArray n}) (hf:f xj.toArray=its'.toArray) (hv:x9 ys its') (hz:ys.length<=sizeLine) :
  Inv X xg σ (upd H l (.lst ys)) {s with heap:=s.heap.update l (Obj.mapSeq f),toks:=t' }:=by
 have q:=PySem.IsL.update e f;rw[hf] at q;refine I.write (x:=l) (e:=l) (by rw[hH];exact trivial) (.inl rfl) (λb' u hb hu=>(Ft s.heap (Obj.mapSeq f) (zD hb)).trans hu) ⟨_,q⟩ ?_;exact⟨hz,its',_,hv,q⟩
def Inv.lnew {xj:List Value}{t':Nat}(I:Inv X xg σ H s)(hv:x9 ys xj)(hz:ys.length<=sizeLine) :
  Inv X xg σ (upd H s.heap.objs.size (.lst ys)) {s with heap:=s.heap.push {cls:=.type "list", data:=.seq xj.toArray},toks:=t' }:=
 I.laid (λ_ _ q=>yQ _ q) (xY _) ⟨hz,xj,0,hv,zO _ rfl⟩
theorem Inv.fresh (I:Inv X xg σ H s):H s.heap.objs.size=none:=I.hok.fresh (xY _)
def Inv.lstM (I:Inv X xg σ H s)(hH:H l=some (.lst xs)):xs.length<=sizeLine/\∃(xj:List Value) (n:Nat),x9 xs xj/\xs.length=xj.length/\s.heap.get? l=some {cls:=.type "list", data:=.seq xj.toArray n}:=by obtain⟨z,xj,n,r,e⟩:=I.hok l _ hH;exact⟨z,xj,n,r,r.length,e⟩
def Ki {n:Nat}(h:n<=sizeLine):Builtin.List.listTooLong n=false:=by unfold Builtin.List.listTooLong;exact wX (by lia)
end
section
variable {X:Cx}
def Dr:V->List V->Hp->VK->Prop:=λx vs H Q=>∃l xs y,x=.ref l/\vs=[y]/\H l=some (.lst xs)/\xs.length<sizeLine/\Q .non (upd H l (.lst (xs++[y])))
def kS:MtM X "list.append" Dr:=by intro xg s σ H x vs v us Q I rx rv h;obtain⟨l,xs,y,rfl,rfl,hH,hz,q⟩:=h;cases rx;obtain⟨u,rfl,ru⟩:=rv.one;obtain⟨z,xj,n,r,hl,e⟩:=I.lstM hH;refine jj F.slot_list_append ⟨_,e,rfl⟩ F.entry_list_append (F.args_list_append_2 _ _) (PySem.list_append l xj.toArray n u (by rw[zh];lia)) ⟨e,?_⟩;refine⟨.non,_,I.lset (its':=xj++[u]) hH e (by simp) (r.append (.cons ru .nil)) ?_,rfl,q⟩;rw[za,vm];lia
def DK:V->List V->Hp->VK->Prop:=λx vs H Q=>∃l xs y,x=.ref l/\vs=[]/\H l=some (.lst xs)/\xs[xs.length-1]?=some y/\Q y (upd H l (.lst xs.dropLast))
def Kb:MtM X "list.pop" DK:=by
 intro xg s σ H x vs v us Q I rx rv h;obtain⟨l,xs,y,rfl,rfl,hH,hy,q⟩:=h;cases rx;have hus:=rv.zero;subst hus;obtain⟨z,xj,n,r,hl,e⟩:=I.lstM hH;obtain⟨u,hu,ru⟩:=r.get hy;have hy':xj.toArray[xj.toArray.size-1]?=some u:=by show xj.toArray[xj.length-1]?=some u;rw[<-Array.getElem?_toList,<-hl];exact hu
 refine jj F.slot_list_pop ⟨_,e,rfl⟩ F.entry_list_pop (F.args_list_pop_1 _) (MeetsSeq.list_pop_last l xj.toArray n u hy' (by rw[zh];lia)) ⟨e,?_⟩;refine⟨y,_,I.lset (its':=xj.dropLast) hH e ?_ r.dropLast ?_,ru,q⟩
 .show xj.toArray.eraseIdxIfInBounds (xj.toArray.size-1)=xj.dropLast.toArray;rw[zh,List.eraseIdxIfInBounds_toArray,Ik]
 .rw[List.length_dropLast];lia
def tL:R2:=λx y H Q=>∃l b xs zs,x=.ref l/\y=.ref b/\H l=some (.lst xs)/\H b=some (.lst zs)/\xs.length+zs.length<=sizeLine/\∀p,H p=none->Q (.ref p) (upd H p (.lst (xs++zs)))
def tz:y9 X (binaryOp .Add) tL:=by
 intro xg s σ H x y v u Q I rx ry h;obtain⟨l,b,xs,zs,rfl,rfl,hH,hB,hz,q⟩:=h;cases rx;cases ry;obtain⟨z,xj,n,r,hl,e⟩:=I.lstM hH;obtain⟨z2,its2,n2,r2,hl2,e2⟩:=I.lstM hB;refine PySem.P.add_list e e2 ?_ (by rw[zh,zh];lia);have ea:xj.toArray++its2.toArray=(xj++its2).toArray:=by simp
 rw[ea];exact⟨.ref _,_,I.lnew (t':=s.toks) (r.append r2) (by rw[za];lia),rfl,q _ I.fresh⟩
def pK:R2:=λx y H Q=>∃l k xs,x=.ref l/\y=.int k/\H l=some (.lst xs)/\-(2^63)<=k/\k<2^63/\xs.length*k.toNat<=sizeLine/\
 ∀p,H p=none->Q (.ref p) (upd H p (.lst (List.replicate k.toNat xs).flatten))
theorem len_rep {α:Type}(xs:List α)(k:Nat):(List.replicate k xs).flatten.length=k*xs.length:=by
 induction k with
 |zero=>simp
 |succ k ih=>rw[gP,dB,za,ih,Nat.succ_mul,Nat.add_comm]
def C2:y9 X (binaryOp .Mult) pK:=by
 intro xg s σ H x y v u Q I rx ry h;obtain⟨l,k,xs,rfl,rfl,hH,h1,h2,hz,q⟩:=h;cases rx;obtain⟨t,rfl⟩:=ry;obtain⟨z,xj,n,r,hl,e⟩:=I.lstM hH;have hlen:xj.toArray.size*k.toNat<=sizeLine:=by rw[zh,<-hl];exact hz
 have hcap:¬xj.toArray.size*k.toNat>(2^63-1)/8:=by
  have:(sizeLine:Nat)<=(2^63-1)/8:=by decide
  lia
 have hfit:¬(!Builtin.List.listFitsIndex k)=true:=by rw[fitsIndex_both h1 h2];exact uM
 have hlong:¬Builtin.List.listTooLong (xj.toArray.size*k.toNat)=true:=by rw[Ki hlen];exact uM
 have hnew:List.foldl (λx1 x2=>x1++x2) #[] (List.replicate (if xj.toArray.isEmpty=true then 0 else k.toNat) xj.toArray)=(List.replicate k.toNat xj).flatten.toArray:=by
  have f0:∀m:Nat,List.foldl (λx1 x2=>x1++x2) #[] (List.replicate m xj.toArray)=(List.replicate m xj).flatten.toArray:=λm=>by have:=foldl_rep xj m [];rw[vn] at this;exact this
  rw[f0];cases xj with
  |nil=>simp
  |cons a r'=>rw[xG (by simp)]
 refine Gb (T := "list") (U := "int") (by decide) ⟨_,e,rfl⟩ (λs'=>dI s' k t) noFill_list_mul F.fills_int_mul aC repeat_list Fs.lookup
  (jj aC (dI s k t) Fq (Fp _ _) (int___rmul___int_list k t l xj.toArray n) ⟨e,rfl,⟨_,e,rfl⟩,jj F.slot_list_mul ⟨_,e,rfl⟩ F.entry_list_mul (F.args_list_mul_2 _ _) (AutoListH.list___mul___list_int_3 l xj.toArray n k t hfit hcap hlong) ⟨e,?_⟩⟩)
 rw[hnew];exact⟨.ref _,_,I.lnew (t':=s.toks) (r.rep k.toNat) (by rw[len_rep,Nat.mul_comm];exact hz),rfl,q _ I.fresh⟩
end
section
variable {prog:Program} {w:World} {A:Around} {E:Value->Shared->Prop} {s:Shared}
end
section
variable {X:Cx}
end
end L2
namespace Att
open PySem PySem.W PySem.Calls PyProof.Rows
theorem Jm {P:Params}{h:Heap}:∀(ns:List Int) (vs:List Value),WellAll P h vs (ns.map WData.int)->IntsAre vs ns:=by
 intro ns
 induction ns with
 |nil=>intro vs w;rw[gN] at w;cases w;exact .nil
 |cons n ns ih=>
  intro vs w;rw[uc] at w;cases w with
  |cons a b=>cases a;exact .cons _ _ (ih _ b)
theorem Od {l:OpenLaw}{n:Nat}(hn:l.most=some n){P:Params}{h:Heap}{args:List WData}{vals:List Value}
  (hpre:l.row.toRowW.claim.pre args=true) (hwl:WellAll P h vals args) :
  ∃a vs ns,vals=[Value.ref a]/\args=[WData.list (ns.map WData.int)]/\h.get? a=some {cls:=.type "list", data:=.seq vs.toArray}/\IntsAre vs ns/\ns.length<=n:=by
 have hsh:WShape.hasAll [] args [.list .int]=true:=(pre_splitW hpre).1;have hc:l.pre.holds [] {args:=args}=true:=(pre_splitW hpre).2;obtain⟨d,r,rfl,h1,h2⟩:=hasAllW_cons hsh;obtain rfl:=hasAllW_nil h2;obtain⟨xs,rfl,h3⟩:=hasW_list h1;obtain⟨ns,rfl⟩:=items_int h3;have hlen:ns.length<=n:=by
  unfold OpenLaw.pre at hc;have h4:(WTm.not (.lt (.lit (.int (n:Int))) (.len (.arg 0)))).holds [] {args:=[.list (ns.map .int)]}=true:=by have h4:=(holds_andW hc).1;rw[hn] at h4;exact h4
  have h5:=condW_of h4 (w_not (w_lt w_lit (w_len_list (w_arg rfl))));rw[xX] at h5;refine Nat.le_of_not_lt λq=>?_;have q':(n:Int)<((ns.length:Nat):Int):=by lia
  first
   | (rw[wO q'] at h5;exact absurd h5 (by decide))
   | (simp at h5;lia)
 cases hwl with
 |cons w1 w2=>
  cases w2;cases w1 with
  |list ho hall=>exact⟨_,_,ns,rfl,rfl,ho,Jm ns _ hall,hlen⟩
def Nc (l:OpenLaw)(args:List WData):l.row.toRowW.claim.post args (.bool true) args=true:=
 postW_of (r:=l.row.toRowW) (X:=(true==true))
  (show WShape.has [] (.bool true) .bool=true by first|rfl|decide|simp[WShape.has,WShape.arms,WShape.armsAll])
  (show(WTm.eq .res (.lit (.bool true))).value [] {args:=args,res:=some (.bool true),after:=args}=some (.bool (true==true)) from w_eq_bool (w_res rfl) w_lit) rfl
def GH {l:OpenLaw}{n:Nat}{q:Program}{loose:List Str}{XP:(Str->Option Value)->Heap->Prop}{YP:World->Heap->Prop}{d:DefRec}
  (hn:l.most=some n) (hdf:d.params.defaults=[])
  (call:∀(w:World) (s₀ s₁:Shared) (mg mb:Str->Option Value) (fa:Addr) (o:Obj) (pm cd doc:Value) (a:Addr) (vs:List Value) (ns:List Int),Ground q loose [] XP w s₀ mg mb s₁.heap->YP w s₁.heap->s₁.heap.get? fa=some o->o.data=.func (docDef d.name d.params d.body d.scope pm cd doc)->s₁.heap.CodeRec cd d.name->mg d.name=some (.ref fa)->s₁.heap.get? a=some {cls:=.type "list", data:=.seq vs.toArray}->IntsAre vs ns->ns.length<=n->s₁.gens = #[]->codeAny (model l.prog w) callerA (.call (.ref fa) ⟨[.ref a],[]⟩) (λr s'=>r=.ok (.ret (.bool true))/\OldK s₁.heap s'.heap/\s'.os=s₁.os/\AllBare s'.gens) s₁) :
  WalkO q loose XP YP l.row.toRowW d [] (λf vs=>PySem.call f vs):=by
 intro w s₀ s₁ mg mb G Y fa o pm cd doc dV kV ho hd hcd hD hmg hg args vals as hpre hlay hrd hwl hlo;obtain rfl:dV=.none:=Dflts.none hD hdf;obtain rfl:kV=.none:=Dflts.noKw hD;obtain⟨a,vs,ns,rfl,rfl,hobj,hints,hlen⟩:=Od hn hpre hwl;refine enter_call (codeAny_mono (call w s₀ s₁ mg mb fa o pm cd doc a vs ns G Y ho (fd_plain hd) hcd hmg hobj hints hlen hg) λr s' hq=>?_);obtain⟨rfl,h2,h3,h4⟩:=hq;exact⟨.inl ⟨.bool true,.bool true,[],rfl,λ_=>rfl,.bool true,Nc l _,λ_=>⟨List.Pairwise.nil,λ_ hm=>(nomatch hm)⟩⟩,h2,h3,h4⟩
section
variable {prog:Program} {w:World} {A:Around} {E:Value->Shared->Prop} {s:Shared} {K:Frag}
def ledger (h:Heap)(L d:Addr):List (Addr×Obj):=(List.range h.objs.size).filterMap λa=>if a=L\/a=d then none else(h.get? a).map λo=>(a,o)
end
end Att
namespace L2
open PySem PySem.Spec PyProof.Rows
theorem Fd:∀ {vs:List Value} {ns:List Int},IntsAre vs ns->x9 (ns.map V.int) vs
 |_,_,.nil=>.nil
 |_,_,.cons n t h=>.cons ⟨t,rfl⟩ (Fd h)
def mT (H:Hp):Prop:=∀b,H b=none\/∃o xs,H b=some (.frz o (.lst xs))
theorem JN {P:Program}{w:World}{K:xo}{mg mb:Str->Option Value}{CX:CXT}{k:Nat}{fa a:Addr}{fd:FuncData}{x:Str}{sp:Sp}{s₁:Shared}{vs:List Value}{ns:List Int}
  (KX:K.In s₁.heap) (hns:s₁.heap.Ns mainGlobals mg) (hb:s₁.heap.Ns builtinsNs mb) (hbb:∀x:Str,x ≠ "__name__" -> mb x=bootBuiltins x) (hlim:s₁.heap.NoLimit) (hg:s₁.gens = #[])
  (ha:s₁.heap.get? a=some {cls:=.type "list", data:=.seq vs.toArray}) (hi:IntsAre vs ns) (hl:ns.length<=sizeLine) (hr:zT k callerA)
  (F:∀base:Heap,K.In base->base.Ns mainGlobals mg->ue P w K mg base CX k fa fd [x] sp) (hbind:∀(s:Shared) (u:Value),BindsTo s fd ⟨[u],[]⟩ [(x,u)])
  (hsp:∀H:Hp,mT H->ye K H a (ns.map V.int)->sp [.ref a] H (λv _=>v=.bl true) λ_ _ _=>False)
  (hCX:∀H e s',CX [] H s₁ (λ_ _ _=>False) e s'->False) :
  codeAny (model P w) callerA (.call (.ref fa) ⟨[.ref a],[]⟩) (λr s'=>r=.ok (.ret (.bool true))/\OldK s₁.heap s'.heap/\s'.os=s₁.os/\AllBare s'.gens) s₁:=by
 have rv:=Fd hi;have lenV:=hi.length;have core:∀H:Hp,mT H->ye K H a (ns.map V.int)->zE P w H s₁.heap->(∀b,H b≠none->b=a)->(H a≠none->K.lookup a=none)->
   codeAny (model P w) callerA (.call (.ref fa) ⟨[.ref a],[]⟩) (λr s'=>r=.ok (.ret (.bool true))/\OldK s₁.heap s'.heap/\s'.os=s₁.os/\AllBare s'.gens) s₁:=by
  intro H hO hS hok hA hK;have base_of:∀ {b:Addr} {o:Obj},s₁.heap.get? b=some o->H b=none->(kN s₁.heap H).get? b=some o:=λe n=>Jc e n;have noA:∀ {b:Addr} {o:Obj} {es:Array DictEntry} {ep:Nat},s₁.heap.get? b=some o->o.data=.dict es ep->H b=none:=λ {b o es ep} e d=>by
   cases q:H b with
   |none=>rfl
   |some u=>have e':b=a:=hA b (by rw[q];simp);subst e';rw[ha] at e;cases e;have d':Data.seq vs.toArray _=Data.dict es ep:=d;cases d'
  have nsK:∀ {b:Addr} {m:Str->Option Value},s₁.heap.Ns b m->(kN s₁.heap H).Ns b m:=λ {b m} ⟨o,es,ep,e,d,r⟩=>⟨o,es,ep,base_of e (noA e d),d,r⟩
  have hKb:K.In (kN s₁.heap H):=λb o e=>base_of (KX b o e) (by
   cases q:H b with
   |none=>rfl
   |some u=>have e':b=a:=hA b (by rw[q];simp);subst e';rw[hK (by rw[q];simp)] at e;cases e)
  have hM:Mod K mg (kN s₁.heap H):=⟨hKb,nsK hns,⟨mb,nsK hb,hbb⟩,let ⟨mc,h1,h2⟩:=hlim;⟨mc,nsK h1,h2⟩⟩
  have e0:aQ P w K mg (kN s₁.heap H) callerA [] s₁ H:=⟨rfl,hM,λb o e=>Kk e,Nat.le_of_eq (Jd _ _),trivial,λb hb=>absurd (show b∈([]:List Addr) from hb) (by simp),hok,.of_eq hg⟩
  refine codeAny_mono ((F _ hKb (nsK hns)).run callerA [] s₁ H ⟨[.ref a],[]⟩ [.ref a] [.ref a] _ _ hr e0 (hbind s₁ (.ref a)) (.cons rfl .nil) (hsp H hO hS)) λr s' h=>?_;cases r with
  |error e=>exact(hCX H e s' h).elim
  |ok fl=>
   cases fl with
   |next=>exact False.elim h
   |brk=>exact False.elim h
   |cont=>exact False.elim h
   |ret u=>
    obtain⟨v,H',os,bare,un,hok',r',q⟩:=h;have q':v=.bl true:=q;subst q';obtain rfl:u=Value.bool true:=r';refine⟨rfl,OldK.of_keep λb o e=>?_,os,bare⟩;cases q:H b with
    |none=>exact un.keep b o e q (by intro z;exact absurd (show b∈([]:List Addr) from z) (by simp)) (by simp)
    |some u=>
     rcases hO b with z|⟨ob,xs,z⟩
     .rw[q] at z;cases z
     .have z2:=un.frzs b ob _ z;obtain⟨e1,_⟩:=hok b _ z;obtain⟨e2,_⟩:=hok' b _ z2;rw[e] at e1;cases e1;exact e2
 cases hk:K.lookup a with
 |some o=>have e:=KX a o hk;rw[ha] at e;cases e;refine core (λ_=>none) (λ_=>.inl rfl) (.inr ⟨_,vs.toArray,_,hk,rfl,rfl,rfl,by rw[zh,lenV];exact hl,by simpa using rv⟩) (λb u z=>by have z':(none:Option HO)=some u:=z;cases z') (λb z=>absurd rfl z) λz=>absurd rfl z
 |none=>
  refine core (λb=>if b=a then some (.frz {cls:=.type "list", data:=.seq vs.toArray} (.lst (ns.map V.int))) else none) (λb=>?_) (.inl (.inr ⟨{cls:=.type "list", data:=.seq vs.toArray},xD rfl⟩)) (λb u z=>?_) (λb z=>?_) λ_=>hk
  .by_cases hb:b=a
   .exact .inr ⟨_,_,xD hb⟩
   .exact .inl (xG hb)
  .by_cases hb:b=a
   .have z':=(xD hb).symm.trans z;cases z';subst hb;exact⟨ha,by rw[xX];exact hl,vs,_,rv,ha⟩
   .have z':=(xG hb).symm.trans z;cases z'
  .by_cases hb:b=a
   .exact hb
   .exact absurd (xG hb) z
abbrev KOf {K:xo}{h:Heap}(_:K.In h):xo:=K
def OT {l:PySem.W.OpenLaw}{n k:Nat}{q:Program}{loose:List Str}{XP:(Str->Option Value)->Heap->Prop}{YP:World->Heap->Prop}{d:DefRec}{K:Params->xo}{CX:World->CXT}{sp:World->Sp}{x:Str}
  (hn:l.most=some n) (hn2:n<=sizeLine) (hdf:d.params.defaults=[]) (hr:zT k callerA)
  (hY:∀(w:World) (h:Heap),YP w h->(K w.params).In h)
  (F:∀(w:World) (mg:Str->Option Value) (fa:Addr) (h:Heap),(K w.params).In h->h.Ns mainGlobals mg->mg d.name=some (.ref fa)->∃fd:FuncData,(∀(s:Shared) (u:Value),BindsTo s fd ⟨[u],[]⟩ [(x,u)])/\∀base:Heap,(K w.params).In base->base.Ns mainGlobals mg->ue l.prog w (K w.params) mg base (CX w) k fa fd [x] (sp w))
  (hsp:∀(w:World) (H:Hp) (a:Addr) (ns:List Int),ns.length<=n->mT H->ye (K w.params) H a (ns.map V.int)->sp w [.ref a] H (λv _=>v=.bl true) λ_ _ _=>False)
  (hCX:∀(w:World) (H:Hp) (s:Shared) (e:Value) (s':Shared),CX w [] H s (λ_ _ _=>False) e s'->False) :
  PySem.W.WalkO q loose XP YP l.row.toRowW d [] (λf vs=>PySem.call f vs):=by
 refine Att.GH hn hdf λw s₀ s₁ mg mb fa o pm cd doc a vs ns G Y ho hd hcd hmg hobj hints hlen hg=>?_;have KX:=hY w _ Y;obtain⟨fd,hb,hF⟩:=F w mg fa _ KX G.T.g hmg;exact JN KX G.T.g G.T.b G.T.builtins G.T.nolimit hg hobj hints (qj hlen hn2) hr hF hb (λH hO hS=>hsp w H a ns hlen hO hS) λH e s'=>hCX w H s₁ e s'
def vS (s:Stmt):Arguments:=match s with
 |.FunctionDef _ a _ _ _ _ _ _ _ _=>a
 |_=>{posonlyargs:=[],args:=[],vararg:=none,kwonlyargs:=[],kw_defaults:=[],kwarg:=none,defaults:=[]}
def ug (s:Stmt):List Stmt:=match s with
 |.FunctionDef _ _ b _ _ _ _ _ _ _=>b
 |_=>[]
def xH (s:Stmt):Scope:=match s with
 |.FunctionDef _ _ _ _ _ _ sc _ _ _=>sc
 |_=>{kind:=.function,names:=[],isGenerator:=false,isCoroutine:=false}
abbrev CX0:CXT:=λ_ _ _ _ _ _=>False
abbrev E0:XK:=λ_ _ _=>False
def MR {X:Cx}:mU CX0 X E0:=λ_ _ _ _ _ _ _ h=>h.elim
structure Fun (K:xo)(x qual:Str)(st:Stmt)(f:Addr)(fd:FuncData):Prop where
 ex:∃(oc:Value) (od:Option Addr) (kV doc pm:Value) (an:Option Addr) (cdv ct:Value) (osl:Array (Option Value)),
  fd=PySem.W.fnOf x qual (vS st) (ug st) (xH st) .none kV doc pm an cdv ct/\K.lookup f=some ⟨oc,od,.func fd,osl⟩/\PySem.W.codeIn K cdv qual=true
 kp:PySem.W.keepIn K (.ref f)=true
section
variable {P:Program} {w:World} {K:xo} {mg:Str->Option Value} {base:Heap}
def Fun.ok {x qual:Str}{st:Stmt}{f:Addr}{fd:FuncData}{N ps:List Str}{k:Nat}{sp:Sp}(F:Fun K x qual st f fd)(S:yj N ps (xH st))(len:∀vs H Q E,sp vs H Q E->vs.length=ps.length)
  (hbody:∀(cdv:Value) (A:Around) (outer:List Env) (s:Shared) (H:Hp) (vs:List V) (Q:VK) (E:XK),zT k (A.deeper (envOfC qual (xH st) s.heap.objs.size f cdv))->sp vs H Q E->∃t,PSs (qt CX0 P w K mg base N qual (xH st) f cdv A outer s H E).nox (ug st) t/\t {nx:=λ_ H'=>Q .non H',rt:=Q} (start N vs) H):ue P w K mg base CX0 (k+1) f fd ps sp:=by
 obtain⟨oc,od,kV,doc,pm,an,cdv,ct,osl,rfl,lk,hcd⟩:=F.ex;refine IF lk hcd S len λA outer s H vs Q E hr hsp=>?_;obtain⟨t,h,q⟩:=hbody cdv A outer s H vs Q E hr hsp;exact⟨t,h.nox,q⟩
def Fun.binds {x qual:Str}{st:Stmt}{f:Addr}{fd:FuncData}{ps:List Str}(F:Fun K x qual st f fd)
  (h:∀(kV doc pm:Value) (an:Option Addr) (cdv ct:Value) (us:List Value),us.length=ps.length->bindArgs (PySem.W.fnOf x qual (vS st) (ug st) (xH st) .none kV doc pm an cdv ct) ⟨us,[]⟩=pure (ps.zip us)):Binds K fd ps []:=by
 obtain⟨oc,od,kV,doc,pm,an,cdv,ct,osl,rfl,lk,hcd⟩:=F.ex;exact .all (h kV doc pm an cdv ct)
def BL {x qual:Str}{st:Stmt}{f:Addr}{oc:Value}{od an:Option Addr}{osl:Array (Option Value)}{kV doc pm cdv ct:Value}(l:K.lookup f=some ⟨oc,od,.func (PySem.W.fnOf x qual (vS st) (ug st) (xH st) .none kV doc pm an cdv ct),osl⟩)
  (c:PySem.W.codeIn K cdv qual=true) (k:PySem.W.keepIn K (.ref f)=true):Fun K x qual st f (PySem.W.fnOf x qual (vS st) (ug st) (xH st) .none kV doc pm an cdv ct):=⟨⟨oc,od,kV,doc,pm,an,cdv,ct,osl,rfl,l,c⟩,k⟩
end
def Oq {n:Nat}(h:n<=1000):n<sizeLine:=jT h (by decide)
section
variable {X:Cx}
def pv (i:Nat){x:Str}{pos:Pos}(hN:X.N[i]?=some x:=by rfl)(hv:Vis X.env.scope x:=by first|exact Or.inl rfl|exact Or.inr (Or.inl rfl)|exact Or.inr (Or.inr rfl))(hd:(x==("__debug__" : Str))=false:=by decide)
  (hcd:(x==("__classdict__" : Str))=false:=by decide):PE X (.Name x pos) (wK i):=M1 hN hv hd hcd
end
def vc {A B:Prop}(h:B):if false=true then A else B:=by rw[xG uM];exact h
def vW {A B:Prop}(h:A):if true=true then A else B:=by rw[xD rfl];exact h
def B9 {c A B:Prop}[Decidable c](h1:c->A)(h2:¬c->B):if c then A else B:=by
 by_cases h:c
 .rw[xD h];exact h1 h
 .rw[xG h];exact h2 h
def wq (env:Env):List (Str×NameKind)->List (Str×Addr)->List (Str×Addr)
 |[],cs=>cs
 | (n,k)::r,cs=>if k==NameKind.free then(match env.cells.lookup n with|some a=>wq env r ((n,a)::cs)|none=>wq env r cs) else wq env r cs
theorem nG {env:Env}:∀(l:List (Str×NameKind)) (cs:List (Str×Addr)),(∀y∈l,y.2=NameKind.free->∃c,env.cells.lookup y.1=some c)->
  (forIn l cs (λ(x:Str×NameKind) (r:List (Str×Addr))=>(if (x.2==NameKind.free)=true then(do let a <-cellOf env x.1;pure (ForInStep.yield ((x.1,a)::r))) else pure (ForInStep.yield r):Sem (ForInStep (List (Str×Addr))))))=pure (wq env l cs)
 |[],cs,_=>rfl
 | (n,k)::r,cs,h=>by
  rw[List.forIn_cons];have hr:∀y∈r,y.2=NameKind.free->∃c,env.cells.lookup y.1=some c:=λy hy=>h y (yV _ hy);by_cases hk:k=NameKind.free
  .subst hk;obtain⟨c,hc⟩:=h (n,.free) xS rfl;have hc':env.cells.lookup n=some c:=hc;have e1:cellOf env n=pure c:=by unfold cellOf;rw[hc']
   have e2:wq env ((n,.free)::r) cs=wq env r ((n,c)::cs):=by show(if (NameKind.free==NameKind.free)=true then _ else _)=_;rw[xD (show(NameKind.free==NameKind.free)=true from rfl),hc']
   rw[e2,xD (show((NameKind.free==NameKind.free)=true) from rfl),e1,pure_bind,pure_bind];exact nG r _ hr
  .have hb:(k==NameKind.free)=false:=by simpa using hk
   have e2:wq env ((n,k)::r) cs=wq env r cs:=by show(if (k==NameKind.free)=true then _ else _)=_;rw[hb];rfl
   rw[e2,xG (by rw[hb];exact uM),pure_bind];exact nG r _ hr
def nH {sc:Scope}{env:Env}(h:∀y∈sc.names,y.2=NameKind.free->∃c,env.cells.lookup y.1=some c):closureFor sc env=pure (wq env sc.names []):=by
 have q:=nG (env:=env) sc.names [] h;unfold closureFor;show(do let r <-forIn sc.names [] (λ(x:Str×NameKind) (r:List (Str×Addr))=>_);pure r)=_;rw[show(forIn sc.names ([]:List (Str×Addr)) (λ(x:Str×NameKind) (r:List (Str×Addr))=>match x with
   | (name,kind)=>if (kind==NameKind.free)=true then(do let a <-cellOf env name;pure (ForInStep.yield ((name,a)::r))) else pure (ForInStep.yield r)):Sem (List (Str×Addr)))=pure (wq env sc.names []) from q]
 rfl
theorem js {env:Env}{x:Str}{c:Addr}:∀(l:List (Str×NameKind)) (cs:List (Str×Addr)),(wq env l cs).lookup x=some c->(∀c,cs.lookup x=some c->env.cells.lookup x=some c)->env.cells.lookup x=some c
 |[],cs,h,hc=>hc c h
 | (n,k)::r,cs,h,hc=>by
  unfold wq at h;split at h
  .split at h
   .rename_i a ha;refine js r _ h λc' h'=>?_;rw[vL] at h';by_cases e:x==n
    .rw[e] at h';have:x=n:=by simpa using e
     rw[this,ha];exact h'
    .have e':(x==n)=false:=by simpa using e
     rw[e'] at h';exact hc c' h'
   .exact js r _ h hc
  .exact js r _ h hc
theorem rf {env:Env}{x:Str}{c:Addr}(he:env.cells.lookup x=some c):∀(l:List (Str×NameKind)) (cs:List (Str×Addr)),cs.lookup x=some c->(wq env l cs).lookup x=some c
 |[],cs,h=>h
 | (n,k)::r,cs,h=>by
  unfold wq;split
  .split
   .rename_i a ha;refine rf he r _ ?_;rw[vL];by_cases e:x==n
    .rw[e];have e':x=n:=by simpa using e
     rw[e',ha] at he;exact he
    .have e':(x==n)=false:=by simpa using e
     rw[e'];exact h
   .exact rf he r _ h
  .exact rf he r _ h
theorem dZ {env:Env}{x:Str}{c:Addr}(he:env.cells.lookup x=some c):∀(l:List (Str×NameKind)) (cs:List (Str×Addr)),(x,NameKind.free)∈l->(wq env l cs).lookup x=some c
 | (n,k)::r,cs,h=>by
  rcases xR.mp h with e|e
  .have e1:n=x:=zS (·.1) e.symm;have e2:k=.free:=zS (·.2) e.symm;subst e1 e2;unfold wq;rw[xD (show(NameKind.free==NameKind.free)=true from rfl),he];exact rf he r _ (by rw[vL];simp)
  .unfold wq;split
   .split
    .exact dZ he r _ e
    .exact dZ he r _ e
   .exact dZ he r _ e
def yN (X:Cx)(sc:Scope)(N:List Str)(C:Addr)(s:Shared)(H:Hp)(ex:List Addr):Cx:={X with N:=N,s₀:=s,H₀:=H,env:=compEnvC sc (wq X.env sc.names []) C X.env,outer:=X.stack,stack:=X.stack,ex:=ex,fn:=λ_=>false,pn:=[],xe:=λ_ _=>False}
def AH (XN:List Str)(xs sc:Scope)(N:List Str)(xy:List (Option Nat)):Bool:=
 decide (sc.kind=.function)&&sc.names.all (λy=>decide (y.2≠.cell))&&sc.names.all (λy=>decide (y.2≠.local)||decide (sc.names.lookup y.1=some .local))&&decide N.Nodup&&decide (xy.length=N.length) &&
 (xy.zip N).all (λp=>match p.1 with|none=>true|some j=>decide (XN[j]?=some p.2)&&decide (sc.names.lookup p.2=some .free)) &&
 sc.names.all (λy=>decide (y.2≠.free)||decide (xs.names.lookup y.1=some .cell)||decide (xs.names.lookup y.1=some .free))&&decide (xs.kind=.function)
structure u6 (X:Cx)(sc:Scope)(N:List Str)(xy:List (Option Nat)):Prop where
 kind:sc.kind=.function
 nocell:∀y∈sc.names,y.2≠.cell
 loc:∀y∈sc.names,y.2=.local->sc.names.lookup y.1=some .local
 nd:N.Nodup
 len:xy.length=N.length
 out:∀(i j:Nat) (x:Str),xy[i]?=some (some j)->N[i]?=some x->X.N[j]?=some x/\sc.names.lookup x=some .free
 fr:∀y∈sc.names,y.2=.free->X.env.scope.names.lookup y.1=some .cell\/X.env.scope.names.lookup y.1=some .free
 okind:X.env.scope.kind=.function
theorem zip_get {α β:Type}:∀ {l:List α} {k:List β} {i:Nat} {a:α} {b:β},l[i]?=some a->k[i]?=some b->(a,b)∈l.zip k
 |[],_,_,_,_,h,_=>by simp at h
 |_::_,[],_,_,_,_,h=>by simp at h
 |x::l,y::k,0,a,b,h1,h2=>by simp at h1 h2;subst h1;subst h2;simp
 |x::l,y::k,i+1,a,b,h1,h2=>by have:=zip_get (l:=l) (k:=k) (i:=i) (by simpa using h1) (by simpa using h2);rw[FN];exact yV _ this
def uF {X:Cx}{sc:Scope}{N XN:List Str}{xs:Scope}{xy:List (Option Nat)}(h:AH XN xs sc N xy=true)(h1:X.N=XN)(h2:X.env.scope=xs):u6 X sc N xy:=by
 subst h1 h2;unfold AH at h;simp only[dw,jN,gT,Bool.or_eq_true] at h;obtain⟨⟨⟨⟨⟨⟨⟨k,c⟩,l⟩,nd⟩,len⟩,out⟩,fr⟩,ok⟩:=h;refine⟨k,c,λy hy e=>(l y hy).resolve_left (λz=>z e),nd,len,λi j x e1 e2=>?_,λy hy e=>?_,ok⟩
 .have:=out _ (zip_get e1 e2);simpa using this
 .rcases fr y hy with (z|z)|z
  .exact absurd e z
  .exact .inl z
  .exact .inr z
def wd (xy:List (Option Nat))(σ:St):St:=xy.map λo=>match o with|some j=>(σ[j]?).getD none|none=>none
theorem pM {sc:Scope}{env:Env}:∀ {l:List (Str×NameKind)} {x:Str} {k:NameKind},
  (l.map λ(n,k)=>if (k==NameKind.free&&env.scope.kind == .function&&env.kindOf n==some .cell) then(n,NameKind.cell) else(n,k)).lookup x=some k->((∀y∈l,y.2≠NameKind.cell)->k≠.local->(x,NameKind.free)∈l\/l.lookup x=some k/\k≠.cell)
 |[],x,k,h=>by simp at h
 | (n,k')::r,x,k,h=>by
  intro nc nl;have ih:=@pM sc env r x k;have h:List.lookup x ((if (k' == NameKind.free&&env.scope.kind == .function&&env.kindOf n==some .cell)=true then(n,NameKind.cell) else(n,k'))::(r.map _))=some k:=h;by_cases hx:x=n
  .subst hx;by_cases hc:(k' == NameKind.free&&env.scope.kind == .function&&env.kindOf x==some .cell)=true
   .left;have:k'=.free:=by simp only[dw] at hc;simpa using hc.1.1
    subst this;exact xS
   .rw[xG hc,vL] at h;simp at h;subst h;right;exact⟨by rw[vL];simp,nc (x,k') xS⟩
  .have e:(x==n)=false:=by simpa using hx
   have h':List.lookup x (r.map λ(n,k)=>if (k==NameKind.free&&env.scope.kind == .function&&env.kindOf n==some .cell) then(n,NameKind.cell) else(n,k))=some k:=by
    split at h
    .rw[vL,e] at h;exact h
    .rw[vL,e] at h;exact h
   rcases ih h' (λy hy=>nc y (yV _ hy)) nl with z|⟨z,w⟩
   .exact .inl (yV _ z)
   .exact .inr ⟨by rw[vL,e];exact z,w⟩
section
variable {X:Cx} {sc:Scope} {N:List Str} {xy:List (Option Nat)} {xg:List (Addr×Obj)} {σ:St} {H:Hp} {s:Shared}
theorem u6.cells (k:u6 X sc N xy)(ok:X.Ok):∀y∈sc.names,y.2=NameKind.free->∃c,X.env.cells.lookup y.1=some c:=λy hy e=>ok.has y.1 (k.fr y hy e)
def u6.vis (k:u6 X sc N xy){x:Str}(h:(relabel sc X.env).names.lookup x=some .cell\/(relabel sc X.env).names.lookup x=some .free):(x,NameKind.free)∈sc.names:=by
 rcases h with h|h
 .rcases pM (sc:=sc) (env:=X.env) (l:=sc.names) h k.nocell (by decide) with z|⟨_,z⟩
  .exact z
  .exact absurd rfl z
 .rcases pM (sc:=sc) (env:=X.env) (l:=sc.names) h k.nocell (by decide) with z|⟨z,_⟩
  .exact z
  .exact dH z
def nI (k:u6 X sc N xy)(I:Inv X xg σ H s){fp:List Addr}(hf:∀b∈fp,uB X xg H b)(hob:∀b∈fp,∃o,s.heap.get? b=some o) :
  (yN X sc N (s.heap.objs.size+1) s H fp).Ok where
 mod:=I.ok.mod
 kind:=k.kind
 glob:=I.ok.glob
 blt:=I.ok.blt
 above:=aL _
 inj:=λx y c h1 h2=>I.ok.inj x y c (js _ _ h1 λ_ z=>by simp at z) (js _ _ h2 λ_ z=>by simp at z)
 has:=λx h=>by have m:=k.vis h;obtain⟨c,e⟩:=k.cells I.ok _ m rfl;exact⟨c,dZ e _ _ m⟩
 cab:=λx c h=>by cases h
 hd:=I.ok.hd
 frames:=I.ok.frames
 stk:=.inl rfl
 exf:=λb hb=>⟨λz=>by obtain⟨o,e⟩:=hob b hb;have l:=yG e;have z':b=s.heap.objs.size+1:=z;rw[z'] at l;exact gR _ (Nat.lt_of_succ_lt l),λx c h=>(hf b hb).2.2.2.2.1 x c (js _ _ h λ_ z=>by simp at z)⟩
 bs:=I.bs
 bsz:=qj I.ok.bsz I.sz
 noex:=λb o e hb=>by
  rcases(hf b hb).2.2.2.1 with z|z
  .exact I.ok.noex b o e z
  .exact absurd (uR (yG (I.ok.bs b o e).1) z) (gR _)
 exfs:=λb hb z=>by
  rcases xR.mp (I.stkSub b z) with e|e
  .exact(hf b hb).2.1 e
  .exact(hf b hb).2.2.1 e
 funs:=I.stack
 frf:=I.stkFree
theorem bz {i:Nat}{v:V}(h:(wd xy σ)[i]?=some (some v)):∃j,xy[i]?=some (some j)/\σ[j]?=some (some v):=by
 unfold wd at h;rw[uN] at h;cases e:xy[i]? with
 |none=>rw[e] at h;cases h
 |some o=>
  rw[e] at h;cases o with
  |none=>cases h
  |some j=>
   have h':(σ[j]?).getD none=some v:=by simpa using h
   refine⟨j,rfl,?_⟩;cases q:σ[j]? with
   |none=>rw[q] at h';cases h'
   |some o'=>rw[q] at h';exact zS some h'
def AK (k:u6 X sc N xy)(I:Inv X xg σ H s){fp:List Addr}(hf:∀b∈fp,uB X xg H b)(hob:∀b∈fp,∃o,s.heap.get? b=some o){h1:Heap}{t':Nat}
  (kp:∀b o,s.heap.get? b=some o->h1.get? b=some o) (hn:h1.Ns (s.heap.objs.size+1) (λ_=>none)) {ob:Obj} (hob2:∀v,ob.data≠.cell v) (hD:h1.get? s.heap.objs.size=some ob) :
  Inv (yN X sc N (s.heap.objs.size+1) s H fp) [(s.heap.objs.size,ob)] (wd xy σ) H {s with heap:=h1,toks:=t' } where
 ok:=nI k I hf hob
 os:=rfl
 bare:=I.bare
 base:=Un.kept kp
 loc:=⟨_,hn,λi x v e1 e2 e3=>by
  obtain⟨j,t1,t2⟩:=bz e2;obtain⟨o1,o2⟩:=k.out i j x t1 e1;have m:(x,NameKind.free)∈sc.names:=dH o2;have hk:=k.fr _ m rfl;obtain⟨mm,hn',hl⟩:=I.loc;obtain⟨u,r,l⟩:=hl j x v o1 t2 (hk.elim (λz=>.inr (.inl z)) λz=>.inr (.inr z));refine⟨u,r,.inr ⟨?_,?_⟩⟩
  .rcases e3 with z|z|z
   .exfalso;have:∀ {l:List (Str×NameKind)},l.lookup x=some .free->(l.map λ(n,k)=>if (k==NameKind.free&&X.env.scope.kind == .function&&X.env.kindOf n==some .cell) then(n,NameKind.cell) else(n,k)).lookup x≠some .local:=by
     intro l
     induction l with
     |nil=>intro h;simp at h
     |cons y r ih=>
      obtain⟨n,k'⟩:=y;intro h q;have q:List.lookup x ((if (k' == NameKind.free&&X.env.scope.kind == .function&&X.env.kindOf n==some .cell)=true then(n,NameKind.cell) else(n,k'))::(r.map _))=some .local:=q;by_cases hx:x=n
      .subst hx;rw[vL] at h;simp at h;subst h;split at q
       .rw[vL] at q;simp at q
       .rw[vL] at q;simp at q
      .have e:(x==n)=false:=by simpa using hx
       rw[vL,e] at h;refine ih h ?_;split at q
       .rw[vL,e] at q;exact q
       .rw[vL,e] at q;exact q
    exact this o2 z
   .exact .inl z
   .exact .inr z
  .rcases l with ⟨z,_⟩|⟨_,c,ec,hc⟩
   .exfalso;have z:X.env.scope.names.lookup x=some .local:=z;rcases hk with q|q<;>rw[z] at q<;>cases q
   .obtain⟨o,ho,hd⟩:=hc;exact⟨c,dZ ec _ _ m,o,kp c o ho,hd⟩⟩
 cell:=λx c h=>by obtain⟨v,o,ho,hd⟩:=I.cell x c (js _ _ h λ_ z=>by simp at z);exact⟨v,o,kp c o ho,hd⟩
 free:=I.hok.fresh (aL _)
 freeC:=λx c h=>I.freeC x c (js _ _ h λ_ z=>by simp at z)
 pin:=λp hp=>by
  have e:p=(s.heap.objs.size,ob):=by simpa [yN] using hp
  subst e;refine⟨hD,I.hok.fresh (xY _),zq (iy _),λz=>?_,hob2⟩;rcases xR.mp (I.stkSub _ z) with e|e
  .exact absurd (e▸I.lt) (gR _)
  .exact I.nofs (xY _) e
 hok:=I.hok.kept kp
 len:=by show(wd xy σ).length=N.length;unfold wd;rw[xX];exact k.len
def Hn (k:u6 X sc N xy)(I:Inv X xg σ H s){fp:List Addr}(hf:∀b∈fp,uB X xg H b)(hob:∀b∈fp,∃o,s.heap.get? b=some o){h1:Heap}{t':Nat}
  (kp:∀b o,s.heap.get? b=some o->h1.get? b=some o) (hn:h1.Ns (s.heap.objs.size+1) (λ_=>none)) (hD:h1.get? s.heap.objs.size=some {cls:=.type "list", data:=.seq #[] 0}) :
  Inv (yN X sc N (s.heap.objs.size+1) s H fp) [(s.heap.objs.size,{cls:=.type "list", data:=.seq #[] 0})] (wd xy σ) H {s with heap:=h1,toks:=t' }:=AK k I hf hob kp hn (λv=>by simp) hD
end
theorem Hi {prog:Program}{w:World}{A:Around}{R:Result->Shared->Prop}{s:Shared}{elt target iter:Expr}{ifs:List Expr}{scope:Scope}{pos:Pos}{it acc:Value}{env:Env}(I:Nat->Shared->Prop)
  (turn:∀n s,I n s->wpAny (model prog w) A (pyNext it) (λr s₁=>match r with
   |none=>R (.ok .next) s₁
   |some v=>wpAny (model prog w) A (letOwnedTupleGo target it v) (λ_ s₀=>wpAny (model prog w) A (assign target env v) (λ_ s₂=>wpAny (model prog w) A (forIn ifs true λc r=>if r=true then do let ok <-isTrue c env (eval c env);pure (ForInStep.yield ok) else pure (ForInStep.yield r)) (λok s₃=>
      if ok=true then wpAny (model prog w) A (eval elt env) (λx s₄=>wpAny (model prog w) A (call (.builtin "list.append") [acc,x]) (λ_ s₅=>∃m,m<n/\I m s₅) (notedBy (model prog w) A env λe s'=>R (.error e) s') s₄) (notedBy (model prog w) A env λe s'=>R (.error e) s') s₃
      else ∃m,m<n/\I m s₃) (notedBy (model prog w) A env λe s'=>R (.error e) s') s₂) (notedBy (model prog w) A env λe s'=>R (.error e) s') s₀) (notedBy (model prog w) A env λe s'=>R (.error e) s') s₁) (notedBy (model prog w) A env λe s'=>R (.error e) s') s)
  (n:Nat) (h:I n s) :
  codeAny (model prog w) A (.compLoop (.ListComp elt [⟨target,iter,ifs,0⟩] scope pos) 0 it acc env) R s:=by
 refine codeAny_loop rfl I (λn s hI=>?_) n h;show wpAny _ A ((compTurn (.ListComp elt [⟨target,iter,ifs,0⟩] scope pos) 0 it acc env).onRaise (λx=>do noteFrame x env;theTreesLotGoes x)) _ _ s;refine wpAny_noted ?_;rw[compTurn_list];refine xl (jY (xl (zm (turn n s hI) (λr s₁ h₁=>?_) λ_ _ h'=>h')));cases r with
 |none=>exact xK h₁
 |some v=>
  refine xl (zm h₁ (λ_ s₀ h₀=>?_) λ_ _ h'=>h');refine xl (zm h₀ (λ_ s₂ h₂=>xl (zm h₂ (λok s₃ h₃=>?_) λ_ _ h'=>h')) λ_ _ h'=>h');cases ok with
  |false=>exact xK ⟨rfl,h₃⟩
  |true=>exact xl (xl (zm h₃ (λx s₄ h₄=>xl (zm h₄ (λ_ s₅ h₅=>xK (xK ⟨rfl,h₅⟩)) λ_ _ h'=>h')) λ_ _ h'=>h'))
def PIf (Y:Cx)(ifs:List Expr)(t:TT):Prop:=
 ∀(xg:List (Addr×Obj)) (s:Shared) (σ:St) (H:Hp) (Q:Bool->Hp->Prop),Inv Y xg σ H s->t σ H Q->
  wpAny (model Y.prog Y.w) Y.A (forIn ifs true λc r=>if r=true then do let ok <-isTrue c Y.env (eval c Y.env);pure (ForInStep.yield ok) else pure (ForInStep.yield r)) (TP Y xg σ Q) Y.xe s
def EV:TT:=λ_ H Q=>Q true H
def v_ {Y:Cx}:PIf Y [] EV:=λxg s σ H Q I h=>wpAny_tests_nil ⟨H,I,h⟩
def tK {Y:Cx}{c:Expr}{t:TT}(h:PT Y c t):PIf Y [c] t:=λxg s σ H Q I q=>wpAny_tests_one (@h xg s σ H Q I q)
def Agree (xy:List (Option Nat))(σ σ2:St):Prop:=∀i j:Nat,xy[i]?=some (some j)->σ2[i]?=σ[i]?
def GA (xy:List (Option Nat))(g:TG):Prop:=∀x σ H Q,g x σ H Q->g x σ H (λσ2 H2=>Q σ2 H2/\Agree xy σ σ2)
def GAs (xy:List (Option Nat))(t:TGs):Prop:=∀xs σ H Q,t xs σ H Q->t xs σ H (λσ2 H2=>Q σ2 H2/\Agree xy σ σ2)
def q9 {xy:List (Option Nat)}{i:Nat}(h:xy[i]?=some none):GA xy (vV i):=λx σ H Q q=>⟨q,λk j e=>by rw[dD];rintro rfl;rw[h] at e;cases e⟩
def ft {xy:List (Option Nat)}:GAs xy bf:=λxs σ H Q q=>⟨q.1,q.2,λ_ _ _=>rfl⟩
def fq {K:xo}{n:Nat}{t:TGs}{xy:List (Option Nat)}(h:GAs xy t):GA xy (rF K n t):=λx σ H Q q=>by obtain⟨a,xs,e,sq,l,r⟩:=q;exact⟨a,xs,e,sq,l,h _ _ _ _ r⟩
def vx {xy:List (Option Nat)}{i:Nat}{u:TGs}(h:xy[i]?=some none)(hu:GAs xy u):GAs xy (be (vV i) u):=λxs σ H Q q=>by
 obtain⟨v,r,e,q⟩:=q;refine⟨v,r,e,?_⟩;have q':u r (σ.set i (some v)) H Q:=q;show u r (σ.set i (some v)) H _;have:=hu _ _ _ _ q';have e2:(λσ2 H2=>Q σ2 H2/\Agree xy (σ.set i (some v)) σ2)=(λσ2 H2=>Q σ2 H2/\Agree xy σ σ2):=by
  funext σ2 H2;have:Agree xy (σ.set i (some v)) σ2↔Agree xy σ σ2:=by
   have key:∀(k j:Nat),xy[k]?=some (some j)->(σ.set i (some v))[k]?=σ[k]?:=λk j e=>by rw[dD];rintro rfl;rw[h] at e;cases e
   constructor
   .intro z k j e;rw[z k j e,key k j e]
   .intro z k j e;rw[z k j e,key k j e]
  exact propext (and_congr_right λ_=>this)
 rw[<-e2];exact this
def lB (wi:TI)(xy:List (Option Nat))(g:TG)(tc:TT)(te:TE):TE:=λσ H Q=>wi σ H λJ H1=>
 ∃W:Nat->Nat->List V->Hp->Prop,(∃m,W 0 m [] H1)/\∀i m ys H,W i m ys H->
  (J.stop i H/\∀p,H p=none->Q (.ref p) (upd H p (.lst ys)))\/
  (J.go i H/\ys.length<sizeLine/\∀x H',J.yld i H x H'->g x (wd xy σ) H' λσ2 H2=>tc σ2 H2 λb H3=>if b=true then te σ2 H3 λy H4=>∃m',m' < m/\W (i+1) m' (ys++[y]) H4 else ∃m',m' < m/\W (i+1) m' ys H3)
section
variable {X:Cx} {sc:Scope} {N:List Str} {xy:List (Option Nat)} {xg:List (Addr×Obj)} {σ:St} {H:Hp} {s:Shared}
def AJ (k:u6 X sc N xy)(I:Inv X xg σ H s){fp:List Addr}(hf:∀b∈fp,uB X xg H b){σ':St}{H':Hp}{s':Shared}{xj:List Value}{n:Nat}{ys:List V}
  (J:Inv (yN X sc N (s.heap.objs.size+1) s H fp) [(s.heap.objs.size,{cls:=.type "list", data:=.seq xj.toArray n})] σ' H' s') (rv:x9 ys xj) (hz:ys.length<=sizeLine) :
  Inv X xg σ (upd H' s.heap.objs.size (.lst ys)) s'/\H' s.heap.objs.size=none/\(upd H' s.heap.objs.size (.lst ys)) (s.heap.objs.size+1)=none:=by
 obtain⟨pD,nD,_,_,_⟩:=J.pin (s.heap.objs.size,{cls:=.type "list", data:=.seq xj.toArray n}) (by simp[yN]);have nC:H' (s.heap.objs.size+1)=none:=J.free;have B:Un (frs X.stack) fp H H' s.heap s'.heap:=J.base;have ltD:∀b o,s.heap.get? b=some o->b≠s.heap.objs.size:=λb o e=>zq (yG e);refine⟨I.call' (ch:=fp) J.os ⟨B.keep,B.slot,λb o e n hx=>?_,B.there,λb xs e=>?_,λb o u e=>?_,λb ps e=>?_⟩ (λb u e=>?_) J.bare (λb hb=>?_),nD,?_⟩
 .rw[xN (ltD b o e)];exact B.free b o e n hx
 .have q:=B.tups b xs e;rw[xN (yK q nD)];exact q
 .have q:=B.frzs b o u e;rw[xN (yK q nD)];exact q
 .obtain⟨more,q⟩:=B.tbls b ps e;exact⟨more,by rw[xN (yK q nD)];exact q⟩
 .by_cases hb:b=s.heap.objs.size
  .subst hb;rw[yU] at e;cases e;exact⟨hz,xj,n,rv,pD⟩
  .rw[xN hb] at e;exact(J.hok b u e).stay (λc v _ q=>q) (λc q=>by rw[xN (yK q nD)];exact q) (λc xs q=>by rw[xN (yK q nD)];exact q) λc o u q=>by rw[xN (yK q nD)];exact q
 .obtain⟨_,f1,_,f3,f4,f5⟩:=hf b hb;exact⟨f3,f1,f4,f5⟩
 .rw[xN (vO (iy _))];exact nC
def nJ (I0:Inv X xg σ H s){σ':St}{H':Hp}{s':Shared}{h':Heap}(I:Inv X xg σ' H' s')(hC:H' (s.heap.objs.size+1)=none)(hs:Heap.SameBut (s.heap.objs.size+1) s'.heap h') :
  Inv X xg σ' H' {s' with heap:=h' }:=by
 have lt:∀b o,s.heap.get? b=some o->b≠s.heap.objs.size+1:=λb o e=>zq (gS (yG e));refine I.turned (t':=s'.toks) (it:=s.heap.objs.size+1) (λb o hb e=>(hs.2 b hb).trans e) hC ?_ (.inr (qj I0.sz (aL _))) (λx c e=>?_) (λp hp=>?_)
 .exact vO (gS I0.lt)
 .obtain⟨v,o,ho,_⟩:=I0.cell x c e;exact lt c o ho
 .exact lt _ _ (I0.pin p hp).1
def AI {elt tg iter:Expr}{ifs:List Expr}{g:TG}{tc:TT}{te:TE}{pos:Pos}(k:u6 X sc N xy)(hc:X.calm=true)(I:Inv X xg σ H s){it:Addr}{fp:List Addr}{tn:Nat->Heap->Prop}{J:It}
  (T:Turn X.prog X.w X.K tg J fp it tn) (st0:tn 0 s.heap) (hf:∀b∈fp,uB X xg H b) (hga:GA xy g)
  (hg:∀C s H ex,PG (yN X sc N C s H ex) tg g) (ht:∀C s H ex,PIf (yN X sc N C s H ex) ifs tc) (he:∀C s H ex,PE (yN X sc N C s H ex) elt te)
  {W:Nat->Nat->List V->Hp->Prop} {Z:List V->Hp->Prop} (w0:∃m,W 0 m [] H) (turn:∀i m ys H,W i m ys H->(J.stop i H/\Z ys H)\/ (J.go i H/\ys.length<sizeLine/\∀x H',J.yld i H x H'->g x (wd xy σ) H' λσ2 H2=>tc σ2 H2 λb H3=>if b=true then te σ2 H3 λy H4=>∃m',m' < m/\W (i+1) m' (ys++[y]) H4 else ∃m',m' < m/\W (i+1) m' ys H3))
  {E:Value->Shared->Prop} {RR:Value->Addr->Result->Shared->Prop}
  (fin:∀ σ' H' s' ys xj n,Inv (yN X sc N (s.heap.objs.size+1) s H fp) [(s.heap.objs.size,{cls:=.type "list", data:=.seq xj.toArray n})] σ' H' s'->x9 ys xj->ys.length<=sizeLine->Z ys H'->RR (.ref s.heap.objs.size) (s.heap.objs.size+1) (.ok .next) s') :
  wpAny (model X.prog X.w) X.A (newList []) (λacc s₃=>wpAny (model X.prog X.w) X.A (newFunctionEnv sc X.env.globals (wq X.env sc.names []) [] X.env.qual none .none (some X.env)) (λcenv s₄=>codeAny (model X.prog X.w) X.A (.compStart (.ListComp elt [⟨tg,iter,ifs,0⟩] sc pos) 0 (.ref it) acc {cenv with scope:=relabel sc X.env}) (RR acc cenv.locals) s₄) E s₃) E s:=by
 have hob:∀b∈fp,∃o,s.heap.get? b=some o:=λb hb=>let ⟨o,e,_⟩:=T.obj _ _ st0 b hb;⟨o,e⟩
 refine vQ (wpAny_newFunctionEnv k.nocell (by intro y hy;simp at hy) (λh₁ hns₁ hsb₁=>?_) k.kind);dsimp only at hns₁ hsb₁ ⊢;generalize hH2:s.heap.push {cls:=.type "list", dict:=none,data:=.seq ([]:List Value).toArray}=H2 at hns₁ hsb₁ ⊢;have hC:H2.objs.size=s.heap.objs.size+1:=by rw[<-hH2,jM]
 have old:∀b o,s.heap.get? b=some o->h₁.get? b=some o:=λb o e=>hsb₁.extBut b o (by rw[hC];exact zq (gS (yG e))) (yQ _ (hH2▸yQ _ e));have hacc:h₁.get? s.heap.objs.size=some {cls:=.type "list", data:=.seq #[] 0}:=hsb₁.extBut _ _ (by rw[hC];exact zq (iy _)) (yQ _ (hH2▸zO _ rfl));rw[hC] at hns₁ ⊢;have I1:Inv (yN X sc N (s.heap.objs.size+1) s H fp) [(s.heap.objs.size,{cls:=.type "list", data:=.seq #[] 0})] (wd xy σ) H {s with heap:=h₁,toks:=s.toks+([]:List (Str×Value)).length}:=Hn k I hf hob old hns₁ hacc
 have st1:tn 0 h₁:=T.keep _ _ _ st0 λb _ o e=>old b o e;have ltD:∀b∈fp,b≠s.heap.objs.size:=λb hb=>by obtain⟨o,e⟩:=hob b hb;exact zq (yG e)
 have ltC:∀b∈fp,b≠s.heap.objs.size+1:=λb hb=>by obtain⟨o,e⟩:=hob b hb;exact zq (gS (yG e))
 have stat:∀ {H':Hp} {xj:List Value} {n:Nat},(∀b∈fp,H' b=none)->∀b∈fp,uB (yN X sc N (s.heap.objs.size+1) s H fp) [(s.heap.objs.size,{cls:=.type "list", data:=.seq xj.toArray n})] H' b:=λ {H' xj n} hn b hb=>by
  have cx:=nI (N:=N) k I hf hob;refine⟨hn b hb,ltC b hb,cx.exfs b hb,.inl hb,(cx.exf b hb).2,λp hp=>?_⟩;have e:p=(s.heap.objs.size,{cls:=.type "list", data:=.seq xj.toArray n}):=by simpa [yN] using hp
  subst e;exact zD (ltD b hb)
 obtain⟨m0,w0⟩:=w0;have loop:codeAny (model X.prog X.w) X.A (.compLoop (.ListComp elt [⟨tg,iter,ifs,0⟩] sc pos) 0 (.ref it) (.ref s.heap.objs.size) (compEnvC sc (wq X.env sc.names []) (s.heap.objs.size+1) X.env)) (RR (.ref s.heap.objs.size) (s.heap.objs.size+1)) {s with heap:=h₁,toks:=s.toks+([]:List (Str×Value)).length}:=by
  refine Hi (λm s'=>∃i ys H' xj n,Inv (yN X sc N (s.heap.objs.size+1) s H fp) [(s.heap.objs.size,{cls:=.type "list", data:=.seq xj.toArray n})] (wd xy σ) H' s'/\x9 ys xj/\ys.length<=sizeLine/\tn i s'.heap/\(∀b∈fp,H' b=none)/\W i m ys H') ?_ m0
   ⟨0,[],H,[],0,I1,.nil,ji _,st1,λb hb=>(hf b hb).1,w0⟩
  rintro m s3 ⟨i,ys,H3,xj,n,I3,rv,hz,st3,fr3,w3⟩;rcases turn i m ys H3 w3 with ⟨stop,z⟩|⟨go,hlt,step⟩
  .refine zm (T.done (yN X sc N (s.heap.objs.size+1) s H fp) rfl rfl rfl hc i _ s3 _ H3 (λ_ _=>False) I3 (stat fr3) st3 stop) (λr s4 ⟨hr,I4⟩=>?_) λ_ _ f=>f.elim;subst hr;exact fin _ _ _ _ _ _ I4 rv hz z
  .refine zm (T.item (yN X sc N (s.heap.objs.size+1) s H fp) rfl rfl rfl hc i _ s3 _ H3 (λ_ _=>False) I3 (stat fr3) st3 go) (λr s4 ⟨u,hr,h4⟩=>?_) λ_ _ f=>f.elim;subst hr;refine zm h4 (λ_ s5 ⟨x,H5,I5,r5,y5,st5,fr5⟩=>?_) λ_ _ f=>f.elim;have I5':=I5.pinned (stat fr5) (T.obj _ _ st5);refine zm (hg _ _ _ _ _ s5 _ H5 x u _ I5' r5 (hga _ _ _ _ (step x H5 y5))) (λ_ s6 ⟨σ6,H6,I6,q6,ag⟩=>?_) λ_ _ f=>f.elim;refine zm (ht _ _ _ _ _ s6 σ6 H6 _ I6 q6) (λb s7 ⟨H7,I7,q7⟩=>?_) λ_ _ f=>f.elim;have back:∀ {H8:Hp} {s8:Shared},Inv (yN X sc N (s.heap.objs.size+1) s H fp) ([(s.heap.objs.size,{cls:=.type "list", data:=.seq xj.toArray n})]++fO fp s5.heap) σ6 H8 s8->
     Inv (yN X sc N (s.heap.objs.size+1) s H fp) [(s.heap.objs.size,{cls:=.type "list", data:=.seq xj.toArray n})] (wd xy σ) H8 s8/\tn (i+1) s8.heap/\∀b∈fp,H8 b=none:=λ {H8 s8} I8=>by
    refine⟨I8.unpinned.weak (I1.len.trans I8.len.symm) λj v e=>?_,T.keep _ _ _ st5 λb hb o e=>(I8.pin (b,o) (zf _ (zf _ (fC hb e)))).1,λb hb=>?_⟩
    .obtain⟨j',t1,_⟩:=bz e;rw[ag j j' t1];exact e
    .obtain⟨o,e,d⟩:=T.obj _ _ st5 b hb;exact(I8.pin (b,o) (zf _ (zf _ (fC hb e)))).2.1
   cases b with
   |false=>obtain⟨m',hm,w7⟩:=q7;obtain⟨I8,st8,fr8⟩:=back I7;rw[xG uM];exact⟨m',hm,i+1,ys,H7,xj,n,I8,rv,hz,st8,fr8,w7⟩
   |true=>
    rw[xD rfl];refine zm (he _ _ _ _ s7 σ6 H7 _ I7 q7) (λy s8 ⟨yv,H8,I8,r8,m',hm,w8⟩=>?_) λ_ _ f=>f.elim;obtain⟨I9,st9,fr9⟩:=back I8;obtain⟨pD,nD,dL,dF,dC⟩:=I9.pin (s.heap.objs.size,{cls:=.type "list", data:=.seq xj.toArray n}) (by simp[yN]);refine jj F.slot_list_append ⟨_,pD,rfl⟩ F.entry_list_append (F.args_list_append_2 _ _) (PySem.list_append s.heap.objs.size xj.toArray n y (by rw[zh,<-rv.length];exact hz)) ⟨pD,?_⟩;have q:=PySem.IsL.update pD (λx=>x.push y);obtain⟨n',q'⟩:∃n',(s8.heap.update s.heap.objs.size (Obj.mapSeq λx=>x.push y)).get? s.heap.objs.size=some {cls:=.type "list", data:=.seq (xj++[y]).toArray n' }:=⟨_,by rw[show(xj++[y]).toArray=xj.toArray.push y by simp];exact q⟩
    have kp:∀b o,b≠s.heap.objs.size->s8.heap.get? b=some o->(s8.heap.update s.heap.objs.size (Obj.mapSeq λx=>x.push y)).get? b=some o:=λb o hb e=>(Ft s8.heap _ (zD hb)).trans e;have I10:Inv (yN X sc N (s.heap.objs.size+1) s H fp) [] (wd xy σ) H8 s8:=I9.pins_of λp hp=>absurd hp (by simp);have I11:Inv (yN X sc N (s.heap.objs.size+1) s H fp) [] (wd xy σ) H8 {s8 with heap:=s8.heap.update s.heap.objs.size (Obj.mapSeq λx=>x.push y),toks:=s8.toks}:=
     I10.turned (it:=s.heap.objs.size) (t':=s8.toks) kp nD dL (.inr (xY _)) (λx c e z=>by obtain⟨v,o,ho,hd⟩:=I10.cell x c e;rw[z,pD] at ho;cases ho;cases hd) (λp hp=>absurd hp (by simp[yN]))
    refine⟨m',hm,i+1,ys++[yv],H8,xj++[y],n',I11.pins_of λp hp=>?_,rv.append (.cons r8 .nil),?_,T.keep _ _ _ st9 λb hb o e=>kp b o (ltD b hb) e,fr9,w8⟩
    .have e:p=(s.heap.objs.size,{cls:=.type "list", data:=.seq (xj++[y]).toArray n' }):=by simpa using hp
     subst e;exact⟨q',nD,dL,dF,λv=>by simp⟩
    .rw[za,vm];exact hlt
 exact codeAny_compStart_list loop (T.self _ 0 _ _ _ st1 loop)
def vF {elt tg iter:Expr}{ifs:List Expr}{wi:TI}{g:TG}{tc:TT}{te:TE}{pos:Pos}(k:u6 X sc N xy)(hc:X.calm=true)(hga:GA xy g)(hi:PI X tg iter wi)
  (hg:∀C s H ex,PG (yN X sc N C s H ex) tg g) (ht:∀C s H ex,PIf (yN X sc N C s H ex) ifs tc) (he:∀C s H ex,PE (yN X sc N C s H ex) elt te)
  (hs:∀x,foldedSetIterable iter X.env x=pure x:=by intro _;rfl):PE X (.ListComp elt [⟨tg,iter,ifs,0⟩] sc pos) (lB wi xy g tc te):=by
 intro xg s σ H Q I h;rw[eval_ListComp];refine Gc (use:=none) rfl hs (nH (k.cells I.ok)) k.kind k.loc ?_;refine xW (@hi xg s σ H _ I h) λv s1 h1=>xW h1 λitv s2 h2=>?_;obtain⟨it,fp,tn,J,H2,e,I2,T,st2,f2,W,w0,turn⟩:=h2;subst e;refine AI (RR:=λacc C=>compPost (model X.prog X.w) X.A X.xe none (EP X xg σ Q) acc C) (W:=W) (Z:=λys H'=>∀p,H' p=none->Q (.ref p) (upd H' p (.lst ys))) k hc I2 T st2 f2 hga hg ht he w0 turn ?_;intro σ' H' s' ys xj n J' rv hz z;obtain⟨I',hD,hC⟩:=AJ k I2 f2 J' rv hz;obtain⟨m,hn,_⟩:=J'.loc;exact⟨m,hn,λh' hs'=>⟨.ref _,_,nJ I2 I' hC hs',rfl,z _ hD⟩⟩
def Dn {elt tg iter:Expr}{ifs:List Expr}{wi:TI}{g:TG}{tc:TT}{te:TE}{pos spos py:Pos}{i:Nat}{x:Str}(hN:X.N.Nodup)(hi':X.N[i]?=some x)(hx:Loc X.env.scope x)(k:u6 X sc N xy)(hc:X.calm=true)(hga:GA xy g)(hi:PI X tg iter wi)
  (hg:∀C s H ex,PG (yN X sc N C s H ex) tg g) (ht:∀C s H ex,PIf (yN X sc N C s H ex) ifs tc) (he:∀C s H ex,PE (yN X sc N C s H ex) elt te)
  (hsw:swapsWith (.ListComp elt [⟨tg,iter,ifs,0⟩] sc pos) (some (.Name x py)) spos.line X.env=pure true:=by rfl)
  (hs:∀x,foldedSetIterable iter X.env x=pure x:=by intro _;rfl) (hf:X.fn x=true\/X.env.scope.names.lookup x=some .local:=by first|exact .inl rfl|exact .inr rfl|assumption) :
  PS X (.Assign [.Name x py] (.ListComp elt [⟨tg,iter,ifs,0⟩] sc pos) spos) (jc (lB wi xy g tc te) (vV i)):=by
 intro xg s σ H D I h;rw[exec_Assign_Name_used _ _ _ _ hsw];refine xl (jY (xl ?_));show wpAny _ X.A (do let _ <-comprehension (.ListComp elt [⟨tg,iter,ifs,0⟩] sc pos) sc X.env _ (newList []) false (eval iter X.env) (some (assign (.Name x py) X.env))) _ _ s;refine xl (zm (Gc (use:=some (assign (.Name x py) X.env)) (Q:=λ_ s'=>SP X xg D .next s') rfl hs (nH (k.cells I.ok)) k.kind k.loc ?_) (λ_ s' q=>xK (xK q)) λ_ _ e=>e);refine xW (@hi xg s σ H _ I h) λv s1 h1=>xW h1 λitv s2 h2=>?_;obtain⟨it,fp,tn,J,H2,e,I2,T,st2,f2,W,w0,turn⟩:=h2;subst e;refine AI (RR:=λacc C=>compPost (model X.prog X.w) X.A X.xe (some (assign (.Name x py) X.env)) (λ_ s'=>SP X xg D .next s') acc C) (W:=W) (Z:=λys H'=>∀p,H' p=none->D.nx (σ.set i (some (.ref p))) (upd H' p (.lst ys))) k hc I2 T st2 f2 hga hg ht he w0 turn ?_;intro σ' H' s' ys xj n J' rv hz z;obtain⟨I',hD,hC⟩:=AJ k I2 f2 J' rv hz;obtain⟨m,hn,_⟩:=J'.loc;have hn:s'.heap.Ns (s2.heap.objs.size+1) m:=hn;refine wpAny_assign_Name (EE (v:=.ref s2.heap.objs.size) I' hN hi' hx rfl (λs'' I'' ⟨a,sb,ha⟩=>?_) hf);refine⟨m,hn.sameBut sb ?_,λh' hs'=>⟨_,_,nJ I2 I'' hC hs',z _ hD⟩⟩;rcases ha with ha|ha
 .rw[ha];exact vO (gS I2.lt)
 .obtain⟨v,o,ho,_⟩:=I2.cell x a ha;exact vO (gS (yG ho))
end
structure x_ (P:Program)(w:World)(K:xo)(mg:Str->Option Value)(base:Heap)(k:Nat)(x:Str)(ps:List Str)(sp:Sp):Prop where
 ex:∃(f:Addr) (fd:FuncData),ue P w K mg base CX0 k f fd ps sp/\Binds K fd ps []/\PySem.W.keepIn K (.ref f)=true/\mg x=some (.ref f)
theorem x_.mono {P:Program}{w:World}{K:xo}{mg:Str->Option Value}{base:Heap}{j k:Nat}{x:Str}{ps:List Str}{sp:Sp}(h:x_ P w K mg base j x ps sp)(hjk:j<=k):x_ P w K mg base k x ps sp:=by obtain⟨f,fd,F,b,kp,m⟩:=h.ex;exact⟨f,fd,F.mono hjk,b,kp,m⟩
theorem x_.imp {P:Program}{w:World}{K:xo}{mg:Str->Option Value}{base:Heap}{k:Nat}{x:Str}{ps:List Str}{sp sp':Sp}(h:x_ P w K mg base k x ps sp)(q:∀vs H Q E,sp' vs H Q E->sp vs H Q E):x_ P w K mg base k x ps sp':=by obtain⟨f,fd,F,b,kp,m⟩:=h.ex;exact⟨f,fd,F.imp q,b,kp,m⟩
def ay (sp:Sp)(t:TA):TE:=λσ H Q=>t σ H λvs H1=>sp vs H1 Q E0
def xw {X:Cx}{k j:Nat}{x:Str}{ps:List Str}{sp:Sp}{p pos:Pos}{e:Expr}{es:List Expr}{t:TA}(h:x_ X.prog X.w X.K X.mg X.base j x ps sp)(hr:zT k X.A)(ha:PA X (e::es) t)(hjk:j<=k:=by decide)(hg:Gl X x:=by rfl)
  (hdb:(x==("__debug__" : Str))=false:=by decide) (he:starEach (e::es) X.env=(false,eval e X.env)::starEach es X.env:=by rfl) (hpl:(backTo pos (starEach es X.env)).any (·.1)=false:=by rfl) :
  PE X (.Call (.Name x p) (e::es) [] pos) (ay sp t):=by
 obtain⟨f,fd,F,b,kp,m⟩:=(h.mono hjk).ex;intro xg s σ H Q I q;refine MT (E:=E0) F hr hg m kp b .nil MR ha hdb he hpl s σ H Q I ?_;have e:(λ(vs:List V) (H1:Hp)=>sp (vs++[]) H1 Q E0)=λvs H1=>sp vs H1 Q E0:=by funext vs H1;rw[ub]
 show t σ H λvs H1=>sp (vs++[]) H1 Q E0;rw[e];exact q
def sR {P:Program}{w:World}{K:xo}{mg:Str->Option Value}{base:Heap}{k:Nat}{x qual:Str}{st:Stmt}{f:Addr}{fd:FuncData}{N ps:List Str}{sp:Sp}(F:Fun K x qual st f fd)(S:yj N ps (xH st))(mgx:mg x=some (.ref f))(b:Binds K fd ps [])
  (len:∀vs H Q E,sp vs H Q E->vs.length=ps.length)
  (body:∀(cdv:Value) (A:Around) (outer:List Env) (s:Shared) (H:Hp) (vs:List V) (Q:VK) (E:XK),zT k (A.deeper (envOfC qual (xH st) s.heap.objs.size f cdv))->sp vs H Q E->∃t,PSs (qt CX0 P w K mg base N qual (xH st) f cdv A outer s H E).nox (ug st) t/\t {nx:=λ_ H'=>Q .non H',rt:=Q} (start N vs) H):x_ P w K mg base (k+1) x ps sp:=
 ⟨f,fd,F.ok S len body,b,F.kp,mgx⟩
section
variable {X:Cx}
def iJ (i j:Int):Prop:=0<j/\j.natAbs.log2<9000
def CY:y9 X (binaryOp .FloorDiv) (rI iJ λi j=>.int (i/j)):=opI λi j _ _ _ _ _ hc q=>by refine floordiv_int (by have:=hc.1;lia) ?_ (.inl (PyProof.noPylong_of_log2 hc.2));rw[Int.fdiv_eq_ediv_of_nonneg i (by have:=hc.1;lia)];exact q
def Az {i j:Int}(h0:0<j)(h:j<2^128):iJ i j:=by
 refine⟨h0,?_⟩;have:j.natAbs<2^128:=by lia
 have:=Nat.log2_lt (n:=j.natAbs) (k:=128) (by lia);have h':j.natAbs.log2<128:=this.mpr (by lia);lia
def lA (n c:String):Bool:=n==c||(n == "bool" && c == "int")
def bC:List String:=["NoneType", "bool", "int", "str", "list", "tuple", "dict"]
def fx:List String:=["bool", "int", "str", "list", "tuple", "dict"]
def JL {K:xo}{n c:String}(hn:n∈bC)(hc:c∈fx):PySem.W.kitOne K (.type n) (.type c)=some (lA n c):=by simp only[bC,fx,xR,yI,yJ] at hn hc;rcases hn with rfl|rfl|rfl|rfl|rfl|rfl|rfl<;>rcases hc with rfl|rfl|rfl|rfl|rfl|rfl<;>kernel_rfl
def tyN (H:Hp):V->Option String
 |.non=>some "NoneType"
 |.bl _=>some "bool"
 |.int _=>some "int"
 |.str _=>some "str"
 |.ref a=>match H a with
  |some (.lst _)=>some "list"
  |some (.frz _ (.lst _))=>some "list"
  |some (.tup _)=>some "tuple"
  |some (.dK _)=>some "dict"
  |some (.dT _)=>some "dict"
  |some (.frz _ (.dT _))=>some "dict"
  |_=>none
 |_=>none
theorem OP {K:xo}{H:Hp}{x:V}{n:String}(h:tyN H x=some n):u9 K H x (.type n)/\n∈bC:=by
 cases x with
 |non=>cases h;exact⟨.non,by decide⟩
 |bl b=>cases h;exact⟨.bl b,by decide⟩
 |int i=>cases h;exact⟨.int i,by decide⟩
 |str y=>cases h;exact⟨.str y,by decide⟩
 |ref a=>
  have h:(match H a with
   |some (.lst _)=>some "list"
   |some (.frz _ (.lst _))=>some "list"
   |some (.tup _)=>some "tuple"
   |some (.dK _)=>some "dict"
   |some (.dT _)=>some "dict"
   |some (.frz _ (.dT _))=>some "dict"
   |_=>none)=some n:=h
  split at h
  .rename_i xs e;cases h;exact⟨.lst e,by decide⟩
  .rename_i o xs e;cases h;exact⟨.frz e,by decide⟩
  .rename_i xs e;cases h;exact⟨.tup e,by decide⟩
  .rename_i xs e;cases h;exact⟨.dK e,by decide⟩
  .rename_i xs e;cases h;exact⟨.dT e,by decide⟩
  .rename_i o xs e;cases h;exact⟨.dF e,by decide⟩
  .cases h
 |_=>cases h
def Dw (xs:List V)(H:Hp)(Q:VK):Prop:=∃x c n,xs=[x,.ty c]/\tyN H x=some n/\c∈fx/\Q (.bl (lA n c)) H
def qr:u5 X (.builtin "isinstance") Dw:=by intro xg s σ H xs us Q I r h;obtain⟨x,c,n,rfl,ty,hc,q⟩:=h;obtain⟨u,w',rfl,rx,ry⟩:=vals2 r;cases ry;obtain⟨t1,t2⟩:=OP (K:=X.K) ty;exact Jt I rx t1 (JL t2 hc) λtk=>⟨.bl _,H,I.tok tk,rfl,q⟩
theorem Fc:∀ {bs:List Bool} {us:List Value},x9 (bs.map V.bl) us->us=bs.map Value.bool
 |[],_,.nil=>rfl
 |c::cs,_,.cons r t=>by cases r;rw[Fc t];rfl
def pG (K:xo)(xs:List V)(H:Hp)(Q:VK):Prop:=∃(p:Addr) (bs:List Bool),xs=[.ref p]/\ye K H p (bs.map V.bl)/\Q (.bl (bs.all id)) H
def Gu {bs:List Bool}:(List.range bs.length).all (λi=>(bs[i]?).getD false)=bs.all id:=by
 rw[lO];simp only[jN,List.mem_range,id];constructor
 .intro h b hb;obtain⟨i,hi,rfl⟩:=jP.mp hb;have:=h i hi;rw[ze hi] at this;exact this
 .intro h i hi;rw[ze hi];exact h _ (ie hi)
def G1 (hc:X.calm=true):u5 X (.builtin "all") (pG X.K):=by
 intro xg s σ H xs us Q I r h;obtain⟨p,bs,rfl,hl,q⟩:=h;obtain⟨u,rfl,ru⟩:=vals1 r;cases ru;obtain⟨xj,rv,pl,hz⟩:=I.list hl;have e:=Fc rv;subst e;have hl':=pl.isList;refine call_all_walk (iG hl' ?_);have hlt:p<s.heap.objs.size:=by obtain⟨o,ho,_⟩:=id hl';exact yG ho
 have hne:p≠s.heap.objs.size:=zq hlt;refine⟨_,_,_,_,_,_,λi=>(bs[i]?).getD false,rfl,Walks.list (A:=X.A.in1) (I.ok.hd hc) _ p hne (bs.map Value.bool).toArray,⟨⟨_,zO _ rfl,rfl,rfl⟩,hl'.at λo e=>yQ _ e⟩,?_,λh' tk hk=>?_⟩
 .intro i v s' Q' E' hP hq;have hP':(bs.map Value.bool)[i]?=some v:=by simpa using hP
  rw[uN] at hP';cases eb:bs[i]? with
  |none=>rw[eb] at hP';cases hP'
  |some b=>rw[eb] at hP';cases hP';simp only[eb,FQ] at hq;exact jm hq
 .have hk':=old_kept (l:=p) hk;refine⟨.bl (bs.all id),H,I.kept hk',?_,q⟩;show Value.bool _=Value.bool _;have:(bs.map Value.bool).toArray.size=bs.length:=by simp
  rw[this,Gu]
end
structure yo (mg:Str->Option Value)(ns:List Str):Prop where
 all:∀x∈ns,mg x=none
def yo.get {mg:Str->Option Value}{ns:List Str}(B:yo mg ns)(x:Str)(h:x∈ns:=by decide +kernel):mg x=none:=B.all x h
def wm:bootBuiltins "len" = some (.builtin "len"):=by decide +kernel
def GX:bootBuiltins "max" = some (.builtin "max"):=by decide +kernel
def GY:bootBuiltins "min" = some (.builtin "min"):=by decide +kernel
def uC:bootBuiltins "abs" = some (.builtin "abs"):=by decide +kernel
def dW:bootBuiltins "all" = some (.builtin "all"):=by decide +kernel
def qq:bootBuiltins "isinstance" = some (.builtin "isinstance"):=by decide +kernel
def qW:bootBuiltins "tuple" = some (.type "tuple"):=by decide +kernel
def As:bootBuiltins "list" = some (.type "list"):=by decide +kernel
def Ar:bootBuiltins "int" = some (.type "int"):=by decide +kernel
def nA:bootBuiltins "bool" = some (.type "bool"):=by decide +kernel
def GZ:bootBuiltins "zip" = some (.type "zip"):=by decide +kernel
def mW (n:Int)(b:Bool):Prop:=0<=n/\(b=false->n<2147483647)
def u7 (p:Addr)(H:Hp):Prop:=∃(n:Int) (b:Bool),H p=some (.lst [.int n,.bl b])/\mW n b
structure SB (p:Addr)(H H':Hp):Prop where
 keep:∀(b:Addr) (o:HO),b≠p->H b=some o->H' b=some o
 st:u7 p H'
def Ot (K:xo):Sp:=λvs H Q _=>∃(a:Addr) (ns:List Int) (k:Int),vs=[.ref a,.int k]/\ye K H a (ns.map V.int)/\ns.length<=63/\0<=k/\∀n:Int,Q (.int n) H
def EA (K:xo):Sp:=λvs H Q _=>∃(a:Addr) (ns:List Int) (k:Int),vs=[.ref a,.int k]/\ye K H a (ns.map V.int)/\ns.length<=63/\0<=k/\
 ∀(p:Addr) (n:Int) (b:Bool),H p=none->mW n b->Q (.ref p) (upd H p (.lst [.int n,.bl b]))
def EB:Sp:=λvs H Q _=>∃(p:Addr) (many:Int),vs=[.ref p,.int many]/\u7 p H/\0<many/\many<2^128/\∀(r:Int) (H':Hp),0<=r->r<many->SB p H H'->Q (.int r) H'
def Gz {ns:List Int}{k:Int}(h0:0<=k)(h:k<(ns.length:Int)):∃v:Int,atI (ns.map V.int) k=some (.int v):=by
 have hk:k.toNat<ns.length:=by lia
 have ek:k=((k.toNat:Nat):Int):=by lia
 have q:atI (ns.map V.int) ((k.toNat:Nat):Int)=some (.int ns[k.toNat]):=GC (by rw[uN,ze hk]<;>rfl);rw[<-ek] at q;exact⟨_,q⟩
section
variable {X:Cx}
def jw (K:xo)(e:X.K=K:=by rfl):IxR X (pH K):=e▸Cd
def Ew (K:xo)(e:X.K=K:=by rfl):SlR X (tM K):=e▸Eu
def dX (K:xo)(hc:X.calm=true)(e:X.K=K:=by rfl):u5 X (.builtin "all") (pG K):=e▸G1 hc
def pI (K:xo)(xs:List V)(H:Hp)(Q:VK):Prop:=∃p ys,xs=[.ref p]/\(ye K H p ys\/yy K H p ys)/\Q (.int ys.length) H
def wo (K:xo)(e:X.K=K:=by rfl):u5 X (.builtin "len") (pI K):=e▸G3
def pL (K:xo)(xs:List V)(H:Hp)(Q:VK):Prop:=∃p ys,xs=[.ref p]/\((ye K H p ys/\∀l,H l=none->Q (.ref l) (upd H l (.tup ys)))\/(yy K H p ys/\Q (.ref p) H))
def aY (K:xo)(e:X.K=K:=by rfl):u5 X (.type "tuple") (pL K):=e▸G7
def Dz (K:xo)(xs:List V)(H:Hp)(Q:VK):Prop:=∃p ys,xs=[.ref p]/\(ye K H p ys\/yy K H p ys)/\∀l,H l=none->Q (.ref l) (upd H l (.lst ys))
def Aw (K:xo)(e:X.K=K:=by rfl):u5 X (.type "list") (Dz K):=e▸G4
def wG (K:xo){pos:Pos}{es:List Expr}{k:Nat}{t:TGs}{n:Nat}(hc:X.calm=true)(h:PGs X es t)
  (hn:(assignEach es X.env).length=n:=by rfl) (hst:(assignEach es X.env).findIdx? (·.1)=none:=by rfl) (e:X.K=K:=by rfl):PG X (.Tuple es k pos) (rF K n t):=by
 subst e;exact M2 hc h hn hst
end
theorem Dd {α β:Type}{F:α->β->Prop}:∀ {l:List α} {k:List β} {i:Nat} {b:β},Paired F l k->k[i]?=some b->∃a,l[i]?=some a/\F a b
 |_,_,_,_,.nil,h=>by simp at h
 |_,_,0,_,.cons r _,h=>by simp at h;subst h;exact⟨_,rfl,r⟩
 |_,_,i+1,b,.cons _ t,h=>by obtain⟨a,e,f⟩:=Dd (i:=i) t (by simpa using h);exact⟨a,by simpa using e,f⟩
def MQ {α β:Type}{F:α->β->Prop}{l:List α}{k:List β}(h:Paired F l k):l.length=k.length:=dG h
def tF {α β:Type}{F:α->β->Prop}{a:α}{b:β}{l:List α}{k:List β}(h:Paired F l k)(r:F a b):Paired F (l++[a]) (k++[b]):=Paired.snoc h r
theorem Dc {α β:Type}{F:α->β->Prop}:∀ {l l':List α} {k k':List β},Paired F l k->Paired F l' k'->Paired F (l++l') (k++k')
 |_,_,_,_,.nil,s=>s
 |_,_,_,_,.cons r t,s=>.cons r (Dc t s)
theorem c7 {α β:Type}{F:α->β->Prop}:∀(n:Nat) {l:List α} {k:List β},Paired F l k->Paired F (l.drop n) (k.drop n)
 |0,_,_,h=>h
 |_+1,_,_,.nil=>.nil
 |n+1,_,_,.cons _ t=>c7 n t
theorem tG {α β:Type}{F:α->β->Prop}:∀(n:Nat) {l:List α} {k:List β},Paired F l k->Paired F (l.take n) (k.take n)
 |0,_,_,_=>.nil
 |_+1,_,_,.nil=>.nil
 |n+1,_,_,.cons r t=>.cons r (tG n t)
def take_succ {α:Type}{l:List α}{i:Nat}{a:α}(h:l[i]?=some a):l.take (i+1)=l.take i++[a]:=by rw[jS,h];rfl
def sz {n:Nat}(h:n<=1000):n<=sizeLine:=mI (Oq h)
open Builtin.SmallTypes (nextOf)
structure Drw (it a:Addr)(vs:List Value)(tn:Nat->Heap->Prop)(src:Heap->Prop):Prop where
 mv:∀i h h',tn i h->(∀o,h.get? it=some o->h'.get? it=some o)->tn i h'
 smv:∀h h',src h->(∀o,h.get? a=some o->h'.get? a=some o)->src h'
 ob:∀i h,tn i h->∃o,h.get? it=some o/\∀v,o.data≠.cell v
 item:∀(prog:Program) (w:World) (A:Around) (E:Value->Shared->Prop) (i:Nat) (x:Value) (s:Shared) (Q:Value->Shared->Prop),tn i s.heap->src s.heap->vs[i]?=some x->
  (∀h',tn (i+1) h'->Heap.SameBut it s.heap h'->Q x {s with heap:=h' })->wpAny (model prog w) A (nextOf (.ref it)) Q E s
 fin:∀(prog:Program) (w:World) (A:Around) (E:Value->Shared->Prop) (i:Nat) (s:Shared) (Q:Value->Shared->Prop),A.handled=none->tn i s.heap->src s.heap->vs[i]?=none->
  (∀h' e,Heap.ExtBut it s.heap h'->(∃o,h'.get? e=some o/\o.cls=.type "StopIteration")->E (.ref e) {s with heap:=h' })->wpAny (model prog w) A (nextOf (.ref it)) Q E s
def HW (it a:Addr)(vs:List Value):Drw it a vs (λi h=>h.IsListIter it a i) (λh=>h.IsList a vs.toArray) where
 mv:=λi h h' t k=>t.at k
 smv:=λh h' t k=>t.at k
 ob:=λi h t=>let ⟨o,e,_,d⟩:=t;⟨o,e,λv z=>by rw[d] at z;cases z⟩
 item:=λprog w A E i x s Q t l e h=>wpAny_nextOf_list_item t l (by simpa using e) h
 fin:=λprog w A E i s Q hh t l e h=>wpAny_nextOf_list_end hh t l (by simpa using e) h
section
variable {prog:Program} {w:World} {A:Around} {E:Value->Shared->Prop} {s:Shared}
def Kf {it a:Addr}{i:Nat}{vs:List Value}{x:Value}{Q:Value->Shared->Prop}(T:s.heap.IsTupleIter it a i)(S:s.heap.IsTuple a vs.toArray)(e:vs[i]?=some x)
  (h:∀h',h'.IsTupleIter it a (i+1)->Heap.SameBut it s.heap h'->Q x {s with heap:=h' }):wpAny (model prog w) A (nextOf (.ref it)) Q E s:=by
 obtain⟨ob,hob,hcl,hdt⟩:=id T;obtain⟨os,hos,_,nn,hsq⟩:=id S;have e':vs.toArray[i]?=some x:=by simpa using e
 unfold nextOf;refine xl (jW (name:=Str.ofString "__next__") T.typeIs lP (qV lP T.typeIs F.entry_tuple_iterator_next (xl (m:=field (.ref it) 0) (ud hob hdt (x:=.ref a) rfl ?_)) (F.args_tuple_iterator_next_1 _)));refine xl (m:=field (.ref it) 1) (ud hob hdt (x:=.int i 0) rfl (xl (m:=seqItems? (.ref a)) (gU hos hsq ?_)));simp only[gL,e'];refine xl (wpAny_setField hob hdt (by simp) (xK ⟨x,rfl,xK (h _ ⟨_,Fu _ hob (Obj.isFreed_of_fields (Obj.data_mapFields hdt _)),(Obj.cls_mapFields ..).trans hcl,?_⟩ (aD ..))⟩));rw[Obj.data_mapFields hdt];simp[rawInt]
def Ke {it a:Addr}{i:Nat}{vs:List Value}{Q:Value->Shared->Prop}(hn:A.handled=none)(T:s.heap.IsTupleIter it a i)(S:s.heap.IsTuple a vs.toArray)(e:vs[i]?=none)
  (h:∀h' x,Heap.ExtBut it s.heap h'->(∃o,h'.get? x=some o/\o.cls=.type "StopIteration")->E (.ref x) {s with heap:=h' }):wpAny (model prog w) A (nextOf (.ref it)) Q E s:=by
 obtain⟨ob,hob,hcl,hdt⟩:=id T;obtain⟨os,hos,_,nn,hsq⟩:=id S;have e':vs.toArray[i]?=none:=by simpa using e
 unfold nextOf;refine xl (jW (name:=Str.ofString "__next__") T.typeIs lP (qV lP T.typeIs F.entry_tuple_iterator_next (xl (m:=field (.ref it) 0) (ud hob hdt (x:=.ref a) rfl ?_)) (F.args_tuple_iterator_next_1 _)));refine xl (m:=field (.ref it) 1) (ud hob hdt (x:=.int i 0) rfl (xl (m:=seqItems? (.ref a)) (gU hos hsq ?_)));simp only[gL,e'];refine xl (jX (xl (wpAny_setField hob hdt (by simp) (xl ?_))));simp only[newExc,newTuple];refine xl (vQ (xl (m:=firstArgMember _ _) (wpAny_of_eq (a:=Value.none) (by first|rfl|(simp only[firstArgMember];rfl)) (vQ ?_ (by size_fits)))) (by size_fits));simp only[raiseNew];refine xl (wpAny_handled ?_)
 first|rw[show A.in1.handled=none from hn]|rw[hn]
 exact xl (xK (wpAny_throw (h _ _ (((aD ..).extBut.push _).push _) ⟨_,zO _ rfl,rfl⟩)))
end
def HY (it a:Addr)(vs:List Value):Drw it a vs (λi h=>h.IsTupleIter it a i) (λh=>h.IsTuple a vs.toArray) where
 mv:=λi h h' t k=>t.at k
 smv:=λh h' t k=>let ⟨o,e,r⟩:=t;⟨o,k o e,r⟩
 ob:=λi h t=>let ⟨o,e,_,d⟩:=t;⟨o,e,λv z=>by rw[d] at z;cases z⟩
 item:=λprog w A E i x s Q t l e h=>Kf t l e h
 fin:=λprog w A E i s Q hh t l e h=>Ke hh t l e h
structure ZA (z ti to i1 i2 a1 a2:Addr):Prop where
 a:ti≠z/\to≠z/\i1≠z/\i2≠z/\ti≠to/\ti≠i1/\ti≠i2/\to≠i1/\to≠i2/\i1≠i2
 b:a1≠z/\a1≠to/\a1≠i1/\a1≠i2/\a2≠z/\a2≠to/\a2≠i1/\a2≠i2
section
variable {prog:Program} {w:World} {A:Around} {E:Value->Shared->Prop} {s:Shared} {z ti to i1 i2 a1 a2:Addr} {vs us:List Value} {t1 t2:Nat->Heap->Prop} {s1 s2:Heap->Prop}
def O2 {k:Nat}{x y p q:Value}{Q:Value->Shared->Prop}(D:ZA z ti to i1 i2 a1 a2)(W1:Drw i1 a1 vs t1 s1)(W2:Drw i2 a2 us t2 s2)(Z:IsZip s.heap z ti to .none)(TI:IsPair s.heap ti (.ref i1) (.ref i2))(TO:IsPair s.heap to p q)
  (b1:t1 k s.heap) (b2:t2 k s.heap) (c1:s1 s.heap) (c2:s2 s.heap) (ex:vs[k]?=some x) (ey:us[k]?=some y)
  (h:∀h',IsZip h' z ti to (rawInt s.heap.objs.size)->IsPair h' to x y->t1 (k+1) h'->t2 (k+1) h'->IsPair h' s.heap.objs.size x y->(∀c o,c≠z->c≠to->c≠i1->c≠i2->s.heap.get? c=some o->h'.get? c=some o)->Q (.ref s.heap.objs.size) {s with heap:=h' }) :
  wpAny (model prog w) A (Builtin.«zip.__next__» ⟨[.ref z],[]⟩) (λfin s'=>∃v,fin=.done (.ret v)/\Q v s') E s:=by
 obtain⟨⟨d1,d2,d3,d4,d5,d6,d7,d8,d9,d10⟩,e1,e2,e3,e4,e5,e6,e7,e8⟩:=D;refine xl (m:=field (.ref z) 2) (ud Z rfl (x:=.bool false) rfl (xl (m:=field (.ref z) 3) (ud Z rfl (x:=.ref ti) rfl (xl (gU TI rfl ?_)))));refine xl (m:=Builtin.SmallTypes.ownedTupleIsFree (.ref z)) ?_;unfold Builtin.SmallTypes.ownedTupleIsFree;refine xl (ud Z rfl (x:=.none) rfl (xK ?_));simp only[qU];refine xl (jX (xl (ud Z rfl (x:=.ref to) rfl (xl (kF Z (by simp) λg1 Z1 S1=>xl ?_)))))
 replace Z1:IsZip g1 z ti to .ellipsis:=Z1
 simp only[List.zipIdx_cons,List.zipIdx_nil,List.forIn_cons,List.forIn_nil];refine xl (xl (iF (xl (m:=nextOf (.ref i1)) ?_)));refine W1.item _ _ _ _ k x _ _ (W1.mv _ _ _ b1 λo=>S1.extBut _ o d3) (W1.smv _ _ c1 λo=>S1.extBut _ o e1) ex λg2 b12 S2=>xK ?_;have TO2:IsPair g2 to p q:=S2.extBut _ _ d8 (S1.extBut _ _ d2 TO);refine xl (gU TO2 rfl (xl (Gf TO2 λg3 TO3 S3=>xl (iE (xK ?_)))))
 replace TO3:IsPair g3 to x q:=TO3
 refine xl (xl (iF (xl (m:=nextOf (.ref i2)) ?_)));have k3:∀c o,c≠z->c≠to->c≠i1->s.heap.get? c=some o->g3.get? c=some o:=λc o n1 n2 n3 g=>S3.extBut _ _ n2 (S2.extBut _ _ n3 (S1.extBut _ _ n1 g));refine W2.item _ _ _ _ k y _ _ (W2.mv _ _ _ b2 λo=>k3 _ o d4 (zD d9) (zD d10)) (W2.smv _ _ c2 λo=>k3 _ o e5 e6 e7) ey λg4 b24 S4=>xK ?_;have TO4:IsPair g4 to x q:=S4.extBut _ _ d9 TO3;refine xl (gU TO4 rfl (xl (Gf TO4 λg5 TO5 S5=>xl (iE (xK (xK ?_))))))
 replace TO5:IsPair g5 to x y:=TO5
 refine xl (gU TO5 rfl (xl (wpAny_newTuple (xl (m:=Builtin.SmallTypes.ownedTupleHandOut (.ref z) (.ref g5.objs.size)) ?_))));have sz5:g5.objs.size=s.heap.objs.size:=by rw[S5.1,S4.1,S3.1,S2.1,S1.1]
 have k5:∀c o,c≠to->c≠i2->g3.get? c=some o->g5.get? c=some o:=λc o n1 n2 g=>S5.extBut _ _ n1 (S4.extBut _ _ n2 g);have Z5:IsZip g5 z ti to .ellipsis:=k5 _ _ (zD d2) (zD d4) (S3.extBut _ _ (zD d2) (S2.extBut _ _ (zD d3) Z1));have b15:t1 (k+1) g5:=W1.mv _ _ _ b12 λo g=>k5 _ o (zD d8) d10 (S3.extBut _ o (zD d8) g);have b25:t2 (k+1) g5:=W2.mv _ _ _ b24 λo g=>S5.extBut _ o (zD d9) g;have zlt:z<g5.objs.size:=yG Z5;unfold Builtin.SmallTypes.ownedTupleHandOut;refine xl (kF (show IsZip (g5.push {cls:=.type "tuple", data:=.seq #[x,y]}) z ti to .ellipsis from yQ _ Z5) (by simp) λg7 Z7 S7=>kF (show IsZip g7 z ti to (rawInt g5.objs.size) from Z7) (by simp) λg8 Z8 S8=>?_)
 replace Z8:IsZip g8 z ti to (rawInt g5.objs.size):=Z8
 have up8:∀c o,c≠z->g5.get? c=some o->g8.get? c=some o:=λc o n g=>S8.extBut _ _ n (S7.extBut _ _ n (yQ _ g));have T8:IsPair g8 g5.objs.size x y:=S8.extBut _ _ (vO zlt) (S7.extBut _ _ (vO zlt) (zO _ rfl));refine xK ⟨_,rfl,?_⟩;show Q (.ref g5.objs.size) _;rw[sz5] at Z8 T8 ⊢;exact h g8 Z8 (up8 _ _ d2 TO5) (W1.mv _ _ _ b15 λo g=>up8 _ o d3 g) (W2.mv _ _ _ b25 λo g=>up8 _ o d4 g) T8 λc o n1 n2 n3 n4 g=>up8 c o n1 (k5 c o n2 n4 (k3 c o n1 n2 n3 g))
theorem O1 {k:Nat}{p q:Value}{Q:Fin->Shared->Prop}(hn:A.handled=none)(D:ZA z ti to i1 i2 a1 a2)(W1:Drw i1 a1 vs t1 s1)(W2:Drw i2 a2 us t2 s2)(Z:IsZip s.heap z ti to .none)(TI:IsPair s.heap ti (.ref i1) (.ref i2))(TO:IsPair s.heap to p q)
  (b1:t1 k s.heap) (b2:t2 k s.heap) (c1:s1 s.heap) (c2:s2 s.heap) (end':vs[k]?=none\/us[k]?=none)
  (h:∀h' e,(∀c o,c≠z->c≠to->c≠i1->c≠i2->s.heap.get? c=some o->h'.get? c=some o)->(∃o,h'.get? e=some o/\o.cls=.type "StopIteration")->E (.ref e) {s with heap:=h' }) :
  wpAny (model prog w) A (Builtin.«zip.__next__» ⟨[.ref z],[]⟩) Q E s:=by
 obtain⟨⟨d1,d2,d3,d4,d5,d6,d7,d8,d9,d10⟩,e1,e2,e3,e4,e5,e6,e7,e8⟩:=D;refine xl (m:=field (.ref z) 2) (ud Z rfl (x:=.bool false) rfl (xl (m:=field (.ref z) 3) (ud Z rfl (x:=.ref ti) rfl (xl (gU TI rfl ?_)))));refine xl (m:=Builtin.SmallTypes.ownedTupleIsFree (.ref z)) ?_;unfold Builtin.SmallTypes.ownedTupleIsFree;refine xl (ud Z rfl (x:=.none) rfl (xK ?_));simp only[qU];refine xl (jX (xl (ud Z rfl (x:=.ref to) rfl (xl (kF Z (by simp) λg1 Z1 S1=>xl ?_)))))
 replace Z1:IsZip g1 z ti to .ellipsis:=Z1
 simp only[List.zipIdx_cons,List.zipIdx_nil,List.forIn_cons,List.forIn_nil];refine xl (xl (iF (xl (m:=nextOf (.ref i1)) ?_)));have b1':=W1.mv _ _ _ b1 λo=>S1.extBut _ o d3;have c1':=W1.smv _ _ c1 λo=>S1.extBut _ o e1;cases ex:vs[k]? with
 |none=>
  refine W1.fin _ _ _ _ k _ _ hn b1' c1' ex λg2 e S2 he=>?_;obtain⟨oe,hoe,hce⟩:=he;have Z2:IsZip g2 z ti to .ellipsis:=S2 _ _ (zD d3) Z1;have ne:e≠z:=λy=>by subst y;rw[Z2] at hoe;cases hoe;simp at hce
  exact kF Z2 (by simp) λg3 _ S3=>h g3 e (λc o n1 _ n3 _ g=>S3.extBut _ _ n1 (S2 _ _ n3 (S1.extBut _ _ n1 g))) ⟨oe,S3.extBut _ _ ne hoe,hce⟩
 |some x=>
  have ey:us[k]?=none:=end'.resolve_left (by rw[ex];exact λz=>nomatch z);refine W1.item _ _ _ _ k x _ _ b1' c1' ex λg2 b12 S2=>xK ?_;have TO2:IsPair g2 to p q:=S2.extBut _ _ d8 (S1.extBut _ _ d2 TO);refine xl (gU TO2 rfl (xl (Gf TO2 λg3 TO3 S3=>xl (iE (xK ?_)))));refine xl (xl (iF (xl (m:=nextOf (.ref i2)) ?_)));have k3:∀c o,c≠z->c≠to->c≠i1->s.heap.get? c=some o->g3.get? c=some o:=λc o n1 n2 n3 g=>S3.extBut _ _ n2 (S2.extBut _ _ n3 (S1.extBut _ _ n1 g));refine W2.fin _ _ _ _ k _ _ hn (W2.mv _ _ _ b2 λo=>k3 _ o d4 (zD d9) (zD d10)) (W2.smv _ _ c2 λo=>k3 _ o e5 e6 e7) ey λg4 e S4 he=>?_;obtain⟨oe,hoe,hce⟩:=he;have Z4:IsZip g4 z ti to .ellipsis:=S4 _ _ (zD d4) (S3.extBut _ _ (zD d2) (S2.extBut _ _ (zD d3) Z1));have ne:e≠z:=λy=>by subst y;rw[Z4] at hoe;cases hoe;simp at hce
  exact kF Z4 (by simp) λg5 _ S5=>h g5 e (λc o n1 n2 n3 n4 g=>S5.extBut _ _ n1 (S4 _ _ n4 (k3 c o n1 n2 n3 g))) ⟨oe,S5.extBut _ _ ne hoe,hce⟩
end
end L2
namespace L2
open PySem PySem.Spec PyProof.Rows
section
variable {prog:Program} {w:World} {A:Around} {E:Value->Shared->Prop} {s:Shared}
end
def OZ {n a1 a2:Addr}(h1:a1<n)(h2:a2<n):ZA (n+4) (n+2) (n+3) n (n+1) a1 a2:=by
 have up:∀(x k:Nat),x<n->x≠n+k:=λx k h=>zq (uR h (iw n k));have ad:∀j k:Nat,j≠k->n+j≠n+k:=λj k h e=>h (Nat.add_left_cancel e);have a0:∀k:Nat,0≠k->n≠n+k:=λk h e=>h (Nat.add_left_cancel (n:=n) (by simpa using e));exact⟨⟨ad _ _ (by decide),ad _ _ (by decide),a0 _ (by decide),ad _ _ (by decide),ad _ _ (by decide),λe=>a0 2 (by decide) e.symm,ad _ _ (by decide),λe=>a0 3 (by decide) e.symm,ad _ _ (by decide),a0 _ (by decide)⟩,
  up _ _ h1,up _ _ h1,zq h1,up _ _ h1,up _ _ h2,up _ _ h2,zq h2,up _ _ h2⟩
def Sq2 (K:xo)(b:Bool)(H:Hp)(a:Addr)(xs:List V):Prop:=if b=true then yy K H a xs else ye K H a xs
def vR (b:Bool)(a:Addr)(vs:List Value)(h:Heap):Prop:=if b=true then h.IsTuple a vs.toArray else h.IsList a vs.toArray
def Tn2 (b:Bool)(it a:Addr)(i:Nat)(h:Heap):Prop:=if b=true then h.IsTupleIter it a i else h.IsListIter it a i
theorem wZ (b:Bool)(it a:Addr)(vs:List Value):Drw it a vs (Tn2 b it a) (vR b a vs):=by
 cases b with
 |true=>exact HY it a vs
 |false=>exact HW it a vs
theorem Inv.sq2 {X:Cx}{xg:List (Addr×Obj)}{σ:St}{H:Hp}{s:Shared}{b:Bool}{a:Addr}{xs:List V}(I:Inv X xg σ H s)(h:Sq2 X.K b H a xs):∃vs:List Value,x9 xs vs/\vR b a vs s.heap:=by
 cases b with
 |true=>obtain⟨vs,r,p,_⟩:=I.tuple (show yy X.K H a xs from h);exact⟨vs,r,p⟩
 |false=>obtain⟨vs,r,p,_⟩:=I.list (show ye X.K H a xs from h);exact⟨vs,r,p.isList⟩
section
variable {P:Program} {w:World} {K:xo} {z ti to i1 i2 a1 a2:Addr} {b:Bool} {xs ys:List V}
end
section
variable {X:Cx}
end
def Inv.room {X:Cx}{xg:List (Addr×Obj)}{σ:St}{H:Hp}{s:Shared}(I:Inv X xg σ H s):sysModules<s.heap.objs.size:=by have h:mainGlobals<s.heap.objs.size:=(I.mod.glob.keeps I.bk).lt;exact Nat.lt_trans (by decide) h
def HR {P:Program}{w:World}{H:Hp}(h:Heap)(hb:sysModules<h.objs.size):zA P w H (h.push {cls:=.type "dict", data:=.dict #[]}) h.objs.size (.dK []):=⟨ji _,FY.mpr (zD (zq hb)),[],.nil,Heap.DictOf.new h⟩
def EL:TE:=λ_ H Q=>∀p,H p=none->Q (.ref p) (upd H p (.dK []))
def MX {X:Cx}{pos:Pos}:PE X (.Dict [] [] pos) EL:=λxg s σ H Q I h=>wpAny_Dict_empty ⟨.ref s.heap.objs.size,_,I.laid (a:=s.heap.objs.size) (o:=.dK []) (t':=s.toks) (λ_ _ q=>yQ _ q) (xY _) (HR s.heap I.room),rfl,h _ (I.hok.fresh (xY _))⟩
inductive Tr where
 |non|bl (b:Bool)|int (i:Int)|str (x:Str)|emp|tup (xs:List Tr)|lst (xs:List Tr)|dic (o:Obj) (ks:List (List Int)) (xs:List Tr)
mutual
def Rep (F:Addr->Prop)(H:Hp):Tr->V->Prop
 |.non,v=>v=.non
 |.bl b,v=>v=.bl b
 |.int i,v=>v=.int i
 |.str x,v=>v=.str x
 |.emp,v=>∃a,v=.ref a/\¬F a/\H a=some (.dK [])
 |.tup ts,v=>∃a ws,v=.ref a/\¬F a/\H a=some (.tup ws)/\xZ F H ts ws
 |.lst ts,v=>∃a ws,v=.ref a/\¬F a/\H a=some (.lst ws)/\xZ F H ts ws
 |.dic o ks ts,v=>∃a hk,v=.ref a/\¬F a/\H a=some (.frz o (.dT hk))/\hk.map (λp=>p.1)=ks.map (λk=>k.map Sum.inl)/\xZ F H ts (hk.map λp=>p.2)
def xZ (F:Addr->Prop)(H:Hp):List Tr->List V->Prop
 |[],ws=>ws=[]
 |t::ts,ws=>∃w r,ws=w::r/\Rep F H t w/\xZ F H ts r
end
theorem ux {F:Addr->Prop}{H:Hp}:∀ {ts:List Tr} {ws:List V},xZ F H ts ws↔Paired (Rep F H) ts ws
 |[],ws=>by
  constructor
  .intro h;cases (show ws=[] from h);exact .nil
  .intro h;cases h;rfl
 |t::ts,ws=>by
  constructor
  .rintro⟨w,r,rfl,h1,h2⟩;exact .cons h1 (ux.mp h2)
  .intro h;cases h with
   |cons h1 h2=>exact⟨_,_,rfl,h1,ux.mpr h2⟩
def xZ.len {F:Addr->Prop}{H:Hp}{ts:List Tr}{ws:List V}(h:xZ F H ts ws):ts.length=ws.length:=MQ (ux.mp h)
def xZ.app {F:Addr->Prop}{H:Hp}{ts ts':List Tr}{ws ws':List V}(h:xZ F H ts ws)(h':xZ F H ts' ws'):xZ F H (ts++ts') (ws++ws'):=ux.mpr (Dc (ux.mp h) (ux.mp h'))
def xZ.get {F:Addr->Prop}{H:Hp}{ts:List Tr}{ws:List V}{i:Nat}{w:V}(h:xZ F H ts ws)(e:ws[i]?=some w):∃t,ts[i]?=some t/\Rep F H t w:=Dd (ux.mp h) e
def xZ.getT {F:Addr->Prop}{H:Hp}:∀ {ts:List Tr} {ws:List V} {i:Nat} {t:Tr},xZ F H ts ws->ts[i]?=some t->∃w,ws[i]?=some w/\Rep F H t w:=λ {ts ws i t} h e=>by
 have hl:=h.len;have hi:i<ws.length:=by have:=(zP.mp e).1;lia
 obtain⟨t',e',r⟩:=h.get (ze hi);rw[e] at e';cases e';exact⟨_,ze hi,r⟩
mutual
theorem wa {F F':Addr->Prop}{H H':Hp}(m:∀a o,H a=some o->¬F a->H' a=some o/\¬F' a):∀(t:Tr) (v:V),Rep F H t v->Rep F' H' t v
 |.non,v,h=>h
 |.bl b,v,h=>h
 |.int i,v,h=>h
 |.str x,v,h=>h
 |.emp,v,h=>by obtain⟨a,e,n,k⟩:=h;exact⟨a,e,(m a _ k n).2,(m a _ k n).1⟩
 |.tup ts,v,h=>by obtain⟨a,ws,e,n,k,r⟩:=h;exact⟨a,ws,e,(m a _ k n).2,(m a _ k n).1,wk m ts ws r⟩
 |.lst ts,v,h=>by obtain⟨a,ws,e,n,k,r⟩:=h;exact⟨a,ws,e,(m a _ k n).2,(m a _ k n).1,wk m ts ws r⟩
 |.dic o ks ts,v,h=>by obtain⟨a,hk,e,n,k,e2,r⟩:=h;exact⟨a,hk,e,(m a _ k n).2,(m a _ k n).1,e2,wk m ts _ r⟩
theorem wk {F F':Addr->Prop}{H H':Hp}(m:∀a o,H a=some o->¬F a->H' a=some o/\¬F' a):∀(ts:List Tr) (ws:List V),xZ F H ts ws->xZ F' H' ts ws
 |[],ws,h=>h
 |t::ts,ws,h=>by obtain⟨w,r,e,h1,h2⟩:=h;exact⟨w,r,e,wa m t w h1,wk m ts r h2⟩
end
def gC:Tr->Option V
 |.non=>some .non|.bl b=>some (.bl b)|.int i=>some (.int i)|.str x=>some (.str x)|_=>none
theorem gz {F:Addr->Prop}{H:Hp}{t:Tr}{v:V}(h:gC t=some v):Rep F H t v:=by
 cases t with
 |non=>cases h;rfl
 |bl b=>cases h;rfl
 |int i=>cases h;rfl
 |str x=>cases h;rfl
 |_=>cases h
inductive TV where
 |un|fz (t:Tr)|ow (ts:List Tr)|st|sc (ns:List Int)|ob (a:Addr)|od (ks:List (List Int×Tr))
abbrev xQ:=List TV
def yg:xQ->Nat->TV
 |[],_=>.un
 |x::_,0=>x
 |_::r,n+1=>yg r n
theorem rT:∀ {τ:xQ} {i:Nat} (h:i<τ.length),yg τ i=τ[i]
 |[],_,h=>absurd h (by simp)
 |_::_,0,_=>rfl
 |_::r,i+1,h=>rT (τ:=r) (by simpa using h)
theorem kU:∀ {τ:xQ} {i:Nat} (h:τ.length<=i),yg τ i=.un
 |[],_,_=>rfl
 |_::_,0,h=>absurd h (by simp)
 |_::r,i+1,h=>kU (τ:=r) (by simpa using h)
theorem kW:∀ {τ:xQ} {i:Nat} {x:TV} (h:i<τ.length),yg (τ.set i x) i=x
 |[],_,_,h=>absurd h (by simp)
 |_::_,0,_,_=>rfl
 |_::r,i+1,x,h=>kW (τ:=r) (by simpa using h)
theorem uI:∀ {τ:xQ} {i j:Nat} {x:TV} (h:j≠i),yg (τ.set i x) j=yg τ j
 |[],_,_,_,_=>rfl
 |_::_,0,0,_,h=>absurd rfl h
 |_::_,0,_+1,_,_=>rfl
 |_::_,_+1,0,_,_=>rfl
 |_::r,i+1,j+1,x,h=>uI (τ:=r) (λe=>h (by rw[e]))
structure FB where
 F0:Addr->Prop
 S0:Addr->Prop
 H0:Hp
 G0:List (Tr×V)
abbrev yX:=Nat->Option Addr
def Av (B:FB)(φ:yX)(a:Addr):Prop:=B.F0 a\/∃i,φ i=some a
def SA (B:FB)(φ:yX)(τ:xQ)(a:Addr):Prop:=B.S0 a\/∃i,φ i=some a/\yg τ i=.st
def Wk (B:FB)(φ:yX)(τ:xQ)(a:Addr):Prop:=B.F0 a\/SA B φ τ a
def AvB:Bool->FB->yX->xQ->Addr->Prop
 |true,B,φ,_=>Av B φ
 |false,B,φ,τ=>Wk B φ τ
def tabOf (K:xo)(x:Str):Option Addr:=match PySem.W.nsIn K mainGlobals x with
 |some (some (.ref f))=>(match K.lookup f with
  |some ⟨_,_,.func fd,_⟩=>(match fd.code with
   |.ref c=>(match K.lookup c with
    |some ⟨_,_,.fields vs,_⟩=>(match vs.toList.getD 11 Value.none with
     |Value.ref P=>(match K.lookup P with
      |none=>some P
      |some _=>none)
     |_=>none)
    |_=>none)
   |_=>none)
  |_=>none)
 |_=>none
def lH (K:xo):Option (Addr×Str):=match K.lookup 4 with
 |none=>none
 |some _=>match tabOf K "law" with
  |some P=>some (P, "law.<locals>.<lambda>")
  |none=>match tabOf K "_law_sides_right" with
   |some P=>some (P, "_law_sides_right.<locals>.<lambda>")
   |none=>none
def jo (K:xo)(H:Hp):Prop:=∀P q,lH K=some (P,q)->H P=some (.tb q)
theorem jo.none {K:xo}{H:Hp}(h:lH K=Option.none):jo K H:=λP q e=>by rw[h] at e;cases e
def aT (K:xo)(H:Hp)(a:Addr)(ns:List Int):Prop:=((∃o,H a=some (.frz o (.lst (ns.map V.int))))\/∀H',ye K H' a (ns.map V.int))/\jo K H
def jx (ns:List Int):Tr:=.tup (ns.map Tr.int)
def KvR (F:Addr->Prop)(H:Hp)(ks:List (List Int×Tr))(hk:List (List Key×V)):Prop:=Paired (λ(p:List Int×Tr) (q:List Key×V)=>q.1=p.1.map Sum.inl/\Rep F H p.2 q.2) ks hk
def Owd:TV->Prop
 |.ow _=>True
 |.od _=>True
 |_=>False
def Ent (K:xo)(B:FB)(φ:yX)(H:Hp)(i:Nat)(o:Option (Option V)):TV->Prop
 |.un=>True
 |.fz t=>∃v,o=some (some v)/\Rep (Av B φ) H t v
 |.ow ts=>∃a ws,o=some (some (.ref a))/\φ i=some a/\B.H0 a=none/\H a=some (.lst ws)/\xZ (Av B φ) H ts ws
 |.st=>∃p,o=some (some (.ref p))/\φ i=some p/\(B.S0 p\/B.H0 p=none)
 |.sc ns=>∃a,o=some (some (.ref a))/\ns.length<=63/\aT K H a ns
 |.ob a=>o=some (some (.ref a))
 |.od ks=>∃a hk,o=some (some (.ref a))/\φ i=some a/\B.H0 a=none/\H a=some (.dT hk)/\KvR (Av B φ) H ks hk
structure NT (o:Option HO):Prop where
 no:o≠none
 tp:∀ws,o≠some (.tup ws)
structure RS (K:xo)(B:FB)(φ:yX)(σ:St)(τ:xQ)(H:Hp):Prop where
 fN:∀a,B.F0 a->NT (B.H0 a)
 s0:∀a,B.S0 a->B.F0 a
 ext:∀a o,B.H0 a=some o->¬B.S0 a->H a=some o
 sst:∀a,SA B φ τ a->u7 a H
 injG:∀i j a,Owd (yg τ i)->φ i=some a->φ j=some a->i=j
 oN:∀i a,φ i=some a->NT (H a)
 len:σ.length=τ.length
 ent:∀i,Ent K B φ H i (σ[i]?) (yg τ i)
 gh:∀p∈B.G0,Rep (Av B φ) H p.1 p.2
structure HX (B:FB)(φ:yX)(τ:xQ)(H H':Hp):Prop where
 keep:∀a o,H a=some o->¬SA B φ τ a->H' a=some o
 st:∀a,SA B φ τ a->u7 a H'
section
variable {K:xo} {B:FB} {φ:yX} {σ:St} {τ:xQ} {H H' H'':Hp}
def RS.f0 (R:RS K B φ σ τ H)(a:Addr)(h:B.F0 a):B.H0 a≠none:=(R.fN a h).no
def RS.ow (R:RS K B φ σ τ H)(i:Nat)(a:Addr)(h:φ i=some a):H a≠none:=(R.oN i a h).no
def RS.inj (R:RS K B φ σ τ H)(i j:Nat)(a:Addr)(ts:List Tr)(h:yg τ i=.ow ts):φ i=some a->φ j=some a->i=j:=R.injG i j a (by rw[h];trivial)
def u7.ne_none {p:Addr}(h:u7 p H):H p≠none:=by obtain⟨n,b,e,_⟩:=h;rw[e];exact λz=>nomatch z
def u7.nt {p:Addr}(h:u7 p H):NT (H p):=by obtain⟨n,b,e,_⟩:=h;rw[e];exact⟨(λz=>nomatch z),λ_ z=>nomatch z⟩
def RS.sAv (R:RS K B φ σ τ H){a:Addr}(h:SA B φ τ a):Av B φ a:=by
 rcases h with h|⟨i,h,_⟩
 .exact .inl (R.s0 a h)
 .exact .inr ⟨i,h⟩
def RS.wAv (R:RS K B φ σ τ H){a:Addr}(h:Wk B φ τ a):Av B φ a:=by
 rcases h with h|h
 .exact .inl h
 .exact R.sAv h
theorem RS.sB (R:RS K B φ σ τ H){b:Bool}{a:Addr}(h:SA B φ τ a):AvB b B φ τ a:=by
 cases b with
 |true=>exact R.sAv h
 |false=>exact .inr h
def RS.dom (R:RS K B φ σ τ H){a:Addr}(h:Av B φ a):H a≠none:=by
 rcases h with h|⟨i,h⟩
 .by_cases s:B.S0 a
  .exact(R.sst a (.inl s)).ne_none
  .cases e:B.H0 a with
   |none=>exact absurd e (R.f0 a h)
   |some o=>rw[R.ext a o e s];exact λz=>nomatch z
 .exact R.ow i a h
theorem RS.domB (R:RS K B φ σ τ H){b:Bool}{a:Addr}(h:AvB b B φ τ a):H a≠none:=by
 cases b with
 |true=>exact R.dom h
 |false=>exact R.dom (R.wAv h)
theorem RS.nt (R:RS K B φ σ τ H){a:Addr}(h:Av B φ a):NT (H a):=by
 rcases h with h|⟨i,h⟩
 .by_cases s:B.S0 a
  .exact(R.sst a (.inl s)).nt
  .cases e:B.H0 a with
   |none=>exact absurd e (R.f0 a h)
   |some o=>rw[R.ext a o e s,<-e];exact R.fN a h
 .exact R.oN i a h
theorem RS.ntB (R:RS K B φ σ τ H){b:Bool}{a:Addr}(h:AvB b B φ τ a):NT (H a):=by
 cases b with
 |true=>exact R.nt h
 |false=>exact R.nt (R.wAv h)
def HX.refl (R:RS K B φ σ τ H):HX B φ τ H H:=⟨λ_ _ h _=>h,R.sst⟩
def HX.trans (h:HX B φ τ H H')(h':HX B φ τ H' H''):HX B φ τ H H'':=⟨λa o e n=>h'.keep a o (h.keep a o e n) n,h'.st⟩
theorem HX.none (h:HX B φ τ H H'){a:Addr}(e:H' a=none):H a=none:=by
 cases q:H a with
 |none=>rfl
 |some o=>
  by_cases s:SA B φ τ a
  .exact absurd e (h.st a s).ne_none
  .rw[h.keep a o q s] at e;cases e
def HX.new (R:RS K B φ σ τ H){p:Addr}(hp:H p=Option.none)(o:HO):HX B φ τ H (upd H p o):=
 ⟨λa u e _=>by rw[xN (yK e hp)];exact e,λa s=>by obtain⟨n,b,e,z⟩:=R.sst a s;exact⟨n,b,by rw[xN (yK e hp)];exact e,z⟩⟩
def HX.rep (h:HX B φ τ H H'){F:Addr->Prop}(hF:∀a,SA B φ τ a->F a){t:Tr}{v:V}(r:Rep F H t v):Rep F H' t v:=wa (λa o e n=>⟨h.keep a o e (λs=>n (hF a s)),n⟩) t v r
def HX.repL (h:HX B φ τ H H'){F:Addr->Prop}(hF:∀a,SA B φ τ a->F a){t:List Tr}{v:List V}(r:xZ F H t v):xZ F H' t v:=wk (λa o e n=>⟨h.keep a o e (λs=>n (hF a s)),n⟩) t v r
def bc (R:RS K B φ σ τ H){a:Addr}{o:Obj}{u:HO}(e:H a=some (.frz o u)):¬SA B φ τ a:=λs=>by obtain⟨n,b,q,_⟩:=R.sst a s;rw[e] at q;cases q
def OB (R:RS K B φ σ τ H){a:Addr}{q:Str}(e:H a=some (.tb q)):¬SA B φ τ a:=λs=>by obtain⟨n,b,y,_⟩:=R.sst a s;rw[e] at y;cases y
def jo.hx (t:jo K H)(R:RS K B φ σ τ H)(h:HX B φ τ H H'):jo K H':=λP q e=>h.keep P _ (t P q e) (OB R (t P q e))
theorem RS.hx (R:RS K B φ σ τ H)(h:HX B φ τ H H'):RS K B φ σ τ H' where
 fN:=R.fN
 s0:=R.s0
 ext:=λa o e n=>by
  by_cases s:SA B φ τ a
  .have q:=R.ext a o e n;rcases s with s|⟨i,s,hi⟩
   .exact absurd s n
   .have en:=R.ent i;rw[hi] at en;obtain⟨p,_,e2,e3⟩:=en;rw[s] at e2;cases e2;rcases e3 with z|z
    .exact absurd z n
    .rw[z] at e;cases e
  .exact h.keep a o (R.ext a o e n) s
 sst:=h.st
 injG:=R.injG
 oN:=λi a e=>by
  by_cases s:SA B φ τ a
  .exact(h.st a s).nt
  .cases q:H a with
   |none=>exact absurd q (R.ow i a e)
   |some o=>rw[h.keep a o q s,<-q];exact R.oN i a e
 len:=R.len
 ent:=λi=>by
  have en:=R.ent i;revert en;cases hi:yg τ i with
  |un=>exact λ_=>trivial
  |fz t=>exact λ⟨v,e,r⟩=>⟨v,e,h.rep (λa s=>R.sAv s) r⟩
  |ow ts=>
   intro ⟨a,ws,e1,e2,e3,e4,r⟩;refine⟨a,ws,e1,e2,e3,?_,h.repL (λa s=>R.sAv s) r⟩;by_cases s:SA B φ τ a
   .rcases s with s|⟨j,s,hj⟩
    .exact absurd e3 (R.f0 a (R.s0 a s))
    .have:=R.inj i j a ts hi e2 s;subst this;rw[hi] at hj;cases hj
   .exact h.keep a _ e4 s
  |st=>exact λz=>z
  |ob a=>exact λz=>z
  |od ks=>
   intro ⟨a,hk,e1,e2,e3,e4,r⟩;refine⟨a,hk,e1,e2,e3,?_,Paired.mapP r λp q z=>⟨z.1,h.rep (λa s=>R.sAv s) z.2⟩⟩;by_cases s:SA B φ τ a
   .rcases s with s|⟨j,s,hj⟩
    .exact absurd e3 (R.f0 a (R.s0 a s))
    .have:=R.injG i j a (by rw[hi];trivial) e2 s;subst this;rw[hi] at hj;cases hj
   .exact h.keep a _ e4 s
  |sc ns=>
   intro ⟨a,e,l,q,tb⟩;refine⟨a,e,l,?_,tb.hx R h⟩;rcases q with ⟨o,q⟩|q
   .exact .inl ⟨o,h.keep a _ q (bc R q)⟩
   .exact .inr q
 gh:=λp hp=>h.rep (λa s=>R.sAv s) (R.gh p hp)
end
abbrev DE:=xQ->(Tr->Prop)->Prop
abbrev DT:=xQ->(Bool->Prop)->Prop
abbrev DA:=xQ->(List Tr->Prop)->Prop
structure qo where
 nx:xQ->Prop
 rt:Tr->Prop
 bk:xQ->Prop:=λ_=>False
 ct:xQ->Prop:=λ_=>False
abbrev DS:=qo->xQ->Prop
abbrev DG:=Tr->xQ->(xQ->Prop)->Prop
abbrev DGs:=List Tr->xQ->(xQ->Prop)->Prop
def xJ (K:xo)(b:Bool)(te:TE)(d:DE):Prop:=∀(B:FB) (φ:yX) (σ:St) (τ:xQ) (H:Hp) (Q:VK) (KK:Tr->Prop),RS K B φ σ τ H->d τ KK->
 (∀t v H',HX B φ τ H H'->KK t->Rep (AvB b B φ τ) H' t v->Q v H')->te σ H Q
def zF (K:xo)(te:TE)(d:DE):Prop:=∀(B:FB) (φ:yX) (σ:St) (τ:xQ) (H:Hp) (Q:VK) (KK:Tr->Prop),RS K B φ σ τ H->d τ KK->
 (∀ts a ws H',HX B φ τ H H'->KK (.lst ts)->H a=none->H' a=some (.lst ws)->xZ (λc=>Av B φ c\/c=a) H' ts ws->Q (.ref a) H')->te σ H Q
def OkT (K:xo)(t:TT)(d:DT):Prop:=∀(B:FB) (φ:yX) (σ:St) (τ:xQ) (H:Hp) (Q:Bool->Hp->Prop) (KK:Bool->Prop),RS K B φ σ τ H->d τ KK->
 (∀b H',HX B φ τ H H'->KK b->Q b H')->t σ H Q
def OkA (K:xo)(b:Bool)(n:Nat)(ta:TA)(d:DA):Prop:=∀(B:FB) (φ:yX) (σ:St) (τ:xQ) (H:Hp) (Q:List V->Hp->Prop) (KK:List Tr->Prop),RS K B φ σ τ H->d τ KK->
 (∀ts vs H',HX B φ τ H H'->KK ts->ts.length=n->xZ (AvB b B φ τ) H' ts vs->Q vs H')->ta σ H Q
def HXA (B:FB)(φ:yX)(H H':Hp):Prop:=∀a o,H a=some o->¬Av B φ a->H' a=some o
def OkG (K:xo)(g:TG)(d:DG):Prop:=∀(B:FB) (φ:yX) (σ:St) (τ:xQ) (H:Hp) (t:Tr) (v:V) (Q:St->Hp->Prop) (KK:xQ->Prop),RS K B φ σ τ H->Rep (Av B φ) H t v->d t τ KK->
 (∀ φ' σ' τ' H',RS K B φ' σ' τ' H'->(∀a,Av B φ' a->Av B φ a)->HXA B φ H H'->KK τ'->Q σ' H')->g v σ H Q
def FrL (F:Addr->Prop)(H H':Hp)(t:Tr)(v:V):Prop:=∃a ts ws,v=.ref a/\t=.lst ts/\H a=none/\H' a=some (.lst ws)/\xZ (λc=>F c\/c=a) H' ts ws
structure iL (B:FB)(H:Hp):Prop where
 ext:∀a o,B.H0 a=some o->¬B.S0 a->H a=some o
 st:∀a,B.S0 a->u7 a H
structure EOk (K:xo)(B:FB)(fr:Bool)(E:Ends)(G:qo):Prop where
 nx:∀ φ σ τ H,RS K B φ σ τ H->G.nx τ->E.nx σ H
 bk:∀ φ σ τ H,RS K B φ σ τ H->G.bk τ->E.bk σ H
 ct:∀ φ σ τ H,RS K B φ σ τ H->G.ct τ->E.ct σ H
 rt:∀t v H,Rep B.F0 H t v->iL B H->G.rt t->(fr=true->FrL B.F0 B.H0 H t v)->E.rt v H
def zi (K:xo)(fr:Bool)(T:TS)(D:DS):Prop:=∀(B:FB) (φ:yX) (σ:St) (τ:xQ) (H:Hp) (E:Ends) (G:qo),RS K B φ σ τ H->D G τ->EOk K B fr E G->T E σ H
section
variable {K:xo} {B:FB} {φ:yX} {σ:St} {τ:xQ} {H H' H'':Hp}
def RS.extB (R:RS K B φ σ τ H):iL B H:=⟨R.ext,λa s=>R.sst a (.inl s)⟩
theorem pN {b:Bool}{t:Tr}{v:V}(R:RS K B φ σ τ H)(h:Rep (AvB b B φ τ) H' t v):Rep (Wk B φ τ) H' t v:=by
 cases b with
 |true=>exact wa (λa o e n=>⟨e,λw=>n (R.wAv w)⟩) t v h
 |false=>exact h
theorem Nq {b:Bool}{t:List Tr}{v:List V}(R:RS K B φ σ τ H)(h:xZ (AvB b B φ τ) H' t v):xZ (Wk B φ τ) H' t v:=by
 cases b with
 |true=>exact wk (λa o e n=>⟨e,λw=>n (R.wAv w)⟩) t v h
 |false=>exact h
def xJ.weak {b:Bool}{te:TE}{d:DE}(h:xJ K b te d):xJ K false te d:=λB φ σ τ H Q KK R hd q=>h B φ σ τ H Q KK R hd λt v H' x k r=>q t v H' x k (pN R r)
theorem zF.e {te:TE}{d:DE}(h:zF K te d):xJ K true te d:=λB φ σ τ H Q KK R hd q=>h B φ σ τ H Q KK R hd λts a ws H' x k e e' r=>q _ _ H' x k ⟨a,ws,rfl,λz=>R.dom z e,e',wk (λc o e n=>⟨e,λz=>n (.inl z)⟩) _ _ r⟩
def qu (i:Nat):DE:=λτ KK=>match yg τ i with|.fz t=>KK t|_=>False
def Ba (i:Nat):DE:=λτ KK=>match yg τ i with|.fz t=>KK t|.ow ts=>KK (.lst ts)|_=>False
def dC (t:Tr):DE:=λ_ KK=>KK t
theorem xh {i:Nat}:xJ K true (wK i) (qu i):=λB φ σ τ H Q KK R hd q=>by
 have en:=R.ent i;unfold qu at hd;revert en hd;cases yg τ i with
 |fz t=>exact λk ⟨v,e,r⟩=>⟨v,e,q t v H (HX.refl R) k r⟩
 |_=>exact λz _=>z.elim
def C5 (R:RS K B φ σ τ H){i:Nat}{a:Addr}{ts:List Tr}(hi:yg τ i=.ow ts)(e2:φ i=some a)(e3:B.H0 a=none):¬Wk B φ τ a:=λz=>by
 rcases z with z|z|⟨j,z,hj⟩
 .exact R.f0 a z e3
 .exact R.f0 a (R.s0 a z) e3
 .have:=R.inj i j a ts hi e2 z;subst this;rw[hi] at hj;cases hj
theorem gk {i:Nat}:xJ K false (wK i) (Ba i):=λB φ σ τ H Q KK R hd q=>by
 have en:=R.ent i;unfold Ba at hd;revert en hd;cases hi:yg τ i with
 |fz t=>exact λk ⟨v,e,r⟩=>⟨v,e,q t v H (HX.refl R) k (pN (b:=true) R r)⟩
 |ow ts=>intro k ⟨a,ws,e1,e2,e3,e4,r⟩;exact⟨_,e1,q _ _ H (HX.refl R) k ⟨a,ws,rfl,C5 R hi e2 e3,e4,Nq (b:=true) R r⟩⟩
 |_=>exact λz _=>z.elim
def jA {t:Tr}{v:V}(h:gC t=some v:=by rfl):xJ K true (tC v) (dC t):=λB φ σ τ H Q KK R hd q=>q t v H (HX.refl R) hd (gz h)
def d2 (f:Tr->Tr->(Tr->Prop)->Prop)(da db:DE):DE:=λτ KK=>da τ λx=>db τ λy=>f x y KK
def OpS (r:R2)(f:Tr->Tr->(Tr->Prop)->Prop):Prop:=∀(F G:Addr->Prop) (H:Hp) (x y:V) (t u:Tr) (KK:Tr->Prop) (Q:VK),Rep F H t x->Rep G H u y->f t u KK->(∀w v,gC w=some v->KK w->Q v H)->r x y H Q
def xr {b c:Bool}{r:R2}{f:Tr->Tr->(Tr->Prop)->Prop}{ta tb:TE}{da db:DE}(hr:OpS r f)(ha:xJ K b ta da)(hb:xJ K c tb db):xJ K true (tOp r ta tb) (d2 f da db):=λB φ σ τ H Q KK R hd q=>
 ha B φ σ τ H _ _ R hd λt v H1 x1 k1 r1=>hb B φ σ τ H1 _ _ (R.hx x1) k1 λu w H2 x2 k2 r2=>hr _ _ H2 v w t u KK Q (x2.rep (λa s=>R.sB s) r1) r2 k2 λz v' e k=>q z v' H2 (x1.trans x2) k (gz e)
def fI (C:Int->Int->Prop)(g:Int->Int->Tr)(x y:Tr)(KK:Tr->Prop):Prop:=match x,y with|.int i,.int j=>C i j/\KK (g i j)|_,_=>False
def fI0 (g:Int->Int->Tr)(x y:Tr)(KK:Tr->Prop):Prop:=match x,y with|.int i,.int j=>KK (g i j)|_,_=>False
def cX {C:Int->Int->Prop}{g:Int->Int->V}{g':Int->Int->Tr}(h:∀i j,gC (g' i j)=some (g i j)):OpS (rI C g) (fI C g'):=by
 intro F G H x y t u KK Q r1 r2 hf q;unfold fI at hf;split at hf
 .rename_i i j;cases (show x=.int i from r1);cases (show y=.int j from r2);exact⟨i,j,rfl,rfl,hf.1,q _ _ (h i j) hf.2⟩
 .exact hf.elim
def sP {g:Int->Int->V}{g':Int->Int->Tr}(h:∀i j,gC (g' i j)=some (g i j)):OpS (rI0 g) (fI0 g'):=by
 intro F G H x y t u KK Q r1 r2 hf q;unfold fI0 at hf;split at hf
 .rename_i i j;cases (show x=.int i from r1);cases (show y=.int j from r2);exact⟨i,j,rfl,rfl,q _ _ (h i j) hf⟩
 .exact hf.elim
abbrev Io:=fI0 λi j=>.int (i+j)
abbrev Iz:=fI0 λi j=>.int (i-j)
abbrev fLe:=fI0 λi j=>.bl (decide (i<=j))
abbrev fGt:=fI0 λi j=>.bl (decide (j<i))
abbrev fGe:=fI0 λi j=>.bl (decide (j<=i))
def um:OpS (rI0 λi j=>.int (i+j)) Io:=sP λ_ _=>rfl
def wx:OpS (rI0 λi j=>.int (i-j)) Iz:=sP λ_ _=>rfl
def jC:OpS (rI0 λi j=>.bl (decide (i<=j))) fLe:=sP λ_ _=>rfl
def gv:OpS (rI0 λi j=>.bl (decide (j<i))) fGt:=sP λ_ _=>rfl
def C3:OpS (rI0 λi j=>.bl (decide (j<=i))) fGe:=sP λ_ _=>rfl
def Bd (i:Int):Prop:=i.natAbs<2^2000
def nu {i:Int}(h1:-(10^100)<=i)(h2:i<=10^100):Bd i:=by
 have:i.natAbs<=10^100:=by lia
 exact jT this (by decide +kernel)
def log2_lt_of {n k:Nat}(h:n<2^k)(hk:0<k):n.log2<k:=by
 by_cases h0:n=0
 .subst h0;simpa using hk
 .exact(Nat.log2_lt h0).mpr h
def Bd.bits {i:Int}(h:Bd i):Builtin.Int.intBits i<=2000:=by
 unfold Builtin.Int.intBits;split
 .exact ji _
 .have:=log2_lt_of h (by decide);lia
def CM (i j:Int):Prop:=Bd i/\Bd j
def CM.ok {i j:Int}(h:CM i j):IntMulOk i j:=PyProof.Rows.mulOk_of_bits h.1.bits h.2.bits (by decide)
section
variable {X:Cx}
def yP:y9 X (binaryOp .Mult) (rI CM λi j=>.int (i*j)):=opI λ_ _ _ _ _ _ _ hc q=>mul_int q hc.ok
def CDv (_i j:Int):Prop:=j≠0/\Bd j
def qB:y9 X (binaryOp .FloorDiv) (rI CDv λi j=>.int (i.fdiv j)):=opI λi j _ _ _ _ _ hc q=>floordiv_int hc.1 q (.inl (PyProof.noPylong_of_log2 (Nat.lt_trans (log2_lt_of hc.2 (by decide)) (by decide))))
end
abbrev Iw:=fI CM λi j=>.int (i*j)
abbrev Iq:=fI CDv λi j=>.int (i.fdiv j)
abbrev Iv:=fI (λ_ j=>j≠0) λi j=>.int (i.fmod j)
def yR:OpS (rI CM λi j=>.int (i*j)) Iw:=cX λ_ _=>rfl
def qD:OpS (rI CDv λi j=>.int (i.fdiv j)) Iq:=cX λ_ _=>rfl
def tE:OpS (rI (λ_ j=>j≠0) λi j=>.int (i.fmod j)) Iv:=cX λ_ _=>rfl
def d1 (f:Tr->(Tr->Prop)->Prop)(da:DE):DE:=λτ KK=>da τ λx=>f x KK
def Iy (x:Tr)(KK:Tr->Prop):Prop:=match x with|.int i=>KK (.int (-i))|_=>False
def wy {b:Bool}{ta:TE}{da:DE}(ha:xJ K b ta da):xJ K true (tUn (rU λi=>.int (-i)) ta) (d1 Iy da):=λB φ σ τ H Q KK R hd q=>
 ha B φ σ τ H _ _ R hd λt v H1 x1 k1 r1=>by
  cases t with
  |int i=>cases (show v=.int i from r1);exact⟨i,rfl,q _ _ H1 x1 k1 rfl⟩
  |_=>exact k1.elim
def bA:Tr->Bool
 |.non=>true
 |_=>false
theorem D4 {F:Addr->Prop}{t:Tr}{v:V}(r:Rep F H t v):decide (v=.non)=bA t:=by
 cases t with
 |non=>cases (show v=.non from r);rfl
 |bl b=>cases (show v=.bl b from r);rfl
 |int b=>cases (show v=.int b from r);rfl
 |str b=>cases (show v=.str b from r);rfl
 |emp=>obtain⟨a,e,_⟩:=r;subst e;rfl
 |tup ts=>obtain⟨a,ws,e,_⟩:=r;subst e;rfl
 |lst ts=>obtain⟨a,ws,e,_⟩:=r;subst e;rfl
 |dic o ks ts=>obtain⟨a,ws,e,_⟩:=r;subst e;rfl
def cS {b:Bool}{ta:TE}{da:DE}(ha:xJ K b ta da):xJ K true (ER ta) (d1 (λx KK=>KK (.bl (bA x))) da):=λB φ σ τ H Q KK R hd q=>
 ha B φ σ τ H _ _ R hd λt v H1 x1 k1 r1=>by show Q (.bl (decide (v=.non))) H1;rw[D4 r1];exact q _ _ H1 x1 k1 rfl
def r_ {b:Bool}{ta:TE}{da:DE}(ha:xJ K b ta da):xJ K true (EZ ta) (d1 (λx KK=>KK (.bl (!bA x))) da):=λB φ σ τ H Q KK R hd q=>
 ha B φ σ τ H _ _ R hd λt v H1 x1 k1 r1=>by show Q (.bl (!decide (v=.non))) H1;rw[D4 r1];exact q _ _ H1 x1 k1 rfl
def fB (x:Tr)(KK:Bool->Prop):Prop:=match x with|.bl b=>KK b|_=>False
def A9 (d:DE):DT:=λτ KK=>d τ λx=>fB x KK
def zM {b:Bool}{ta:TE}{da:DE}(ha:xJ K b ta da):OkT K (tB ta) (A9 da):=λB φ σ τ H Q KK R hd q=>
 ha B φ σ τ H _ _ R hd λt v H1 x1 k1 r1=>by
  cases t with
  |bl i=>cases (show v=.bl i from r1);exact⟨i,rfl,q _ H1 x1 k1⟩
  |_=>exact k1.elim
def y_ {b:Bool}{ta:TE}{da:DE}(ha:xJ K b ta da):OkT K (lG ta) (A9 da):=zM ha
def Hx (a b:DT):DT:=λτ KK=>a τ λc=>if c=true then b τ KK else KK false
def dOr (a b:DT):DT:=λτ KK=>a τ λc=>if c=true then KK true else b τ KK
def HF (a:DT):DT:=λτ KK=>a τ λc=>KK (!c)
def fJ {ta tb:TT}{da db:DT}(ha:OkT K ta da)(hb:OkT K tb db):OkT K (EF ta tb) (Hx da db):=λB φ σ τ H Q KK R hd q=>
 ha B φ σ τ H _ _ R hd λc H1 x1 k1=>by
  cases c with
  |true=>exact vW (hb B φ σ τ H1 _ _ (R.hx x1) k1 λd H2 x2 k2=>q d H2 (x1.trans x2) k2)
  |false=>exact vc (q false H1 x1 k1)
def uX {ta tb:TT}{da db:DT}(ha:OkT K ta da)(hb:OkT K tb db):OkT K (tOr ta tb) (dOr da db):=λB φ σ τ H Q KK R hd q=>
 ha B φ σ τ H _ _ R hd λc H1 x1 k1=>by
  cases c with
  |false=>exact vc (hb B φ σ τ H1 _ _ (R.hx x1) k1 λd H2 x2 k2=>q d H2 (x1.trans x2) k2)
  |true=>exact vW (q true H1 x1 k1)
def w6 {ta:TT}{da:DT}(ha:OkT K ta da):OkT K (EY ta) (HF da):=λB φ σ τ H Q KK R hd q=>ha B φ σ τ H _ _ R hd λc H1 x1 k1=>q (!c) H1 x1 k1
def Hy (a b:DE):DE:=λτ KK=>a τ λx=>fB x λc=>if c=true then b τ KK else KK (.bl false)
def HH (a b:DE):DE:=λτ KK=>a τ λx=>fB x λc=>if c=true then KK (.bl true) else b τ KK
def HG (a:DE):DE:=λτ KK=>a τ λx=>fB x λc=>KK (.bl (!c))
def vB {b c:Bool}{ta tb:TE}{da db:DE}(ha:xJ K b ta da)(hb:xJ K c tb db):xJ K c (EG ta tb) (Hy da db):=λB φ σ τ H Q KK R hd q=>
 ha B φ σ τ H _ _ R hd λt v H1 x1 k1 r1=>by
  cases t with
  |bl i=>
   cases (show v=.bl i from r1);refine⟨i,rfl,?_⟩;cases i with
   |true=>exact vW (hb B φ σ τ H1 _ _ (R.hx x1) k1 λd w H2 x2 k2 r2=>q d w H2 (x1.trans x2) k2 r2)
   |false=>exact vc (q _ _ H1 x1 k1 (gz rfl))
  |_=>exact k1.elim
def CN {b c:Bool}{ta tb:TE}{da db:DE}(ha:xJ K b ta da)(hb:xJ K c tb db):xJ K c (E2 ta tb) (HH da db):=λB φ σ τ H Q KK R hd q=>
 ha B φ σ τ H _ _ R hd λt v H1 x1 k1 r1=>by
  cases t with
  |bl i=>
   cases (show v=.bl i from r1);refine⟨i,rfl,?_⟩;cases i with
   |false=>exact vc (hb B φ σ τ H1 _ _ (R.hx x1) k1 λd w H2 x2 k2 r2=>q d w H2 (x1.trans x2) k2 r2)
   |true=>exact vW (q _ _ H1 x1 k1 (gz rfl))
  |_=>exact k1.elim
def cT {b:Bool}{ta:TE}{da:DE}(ha:xJ K b ta da):xJ K true (E1 ta) (HG da):=λB φ σ τ H Q KK R hd q=>
 ha B φ σ τ H _ _ R hd λt v H1 x1 k1 r1=>by
  cases t with
  |bl i=>cases (show v=.bl i from r1);exact⟨i,rfl,q _ _ H1 x1 k1 rfl⟩
  |_=>exact k1.elim
def Hz (f f':Tr->Tr->(Tr->Prop)->Prop)(da db dc:DE):DE:=λτ KK=>da τ λx=>db τ λy=>f x y λz=>fB z λk=>if k=true then dc τ λw=>f' y w KK else KK (.bl false)
def KZ {b1 b2 b3:Bool}{r r':R2}{f f':Tr->Tr->(Tr->Prop)->Prop}{ta tb tc:TE}{da db dc:DE}(hr:OpS r f)(hr':OpS r' f')(ha:xJ K b1 ta da)(hb:xJ K b2 tb db)(hc:xJ K b3 tc dc) :
  xJ K true (EJ r r' ta tb tc) (Hz f f' da db dc):=λB φ σ τ H Q KK R hd q=>
 ha B φ σ τ H _ _ R hd λt v H1 x1 k1 r1=>hb B φ σ τ H1 _ _ (R.hx x1) k1 λu w H2 x2 k2 r2=>
  hr _ _ H2 v w t u _ _ (x2.rep (λa s=>R.sB s) r1) r2 k2 λz v' e k=>by
   cases z with
   |bl i=>
    cases e;refine⟨i,rfl,?_⟩;cases i with
    |true=>exact vW (hc B φ σ τ H2 _ _ (R.hx (x1.trans x2)) k λw3 v3 H3 x3 k3 r3=>hr' _ _ H3 w v3 u w3 KK Q (x3.rep (λa s=>R.sB s) r2) r3 k3 λz' v'' e' k'=>q z' v'' H3 ((x1.trans x2).trans x3) k' (gz e'))
    |false=>exact vc (q _ _ H2 (x1.trans x2) k (gz rfl))
   |_=>exact k.elim
def fj:DA:=λ_ KK=>KK []
def j6 (a:DE)(r:DA):DA:=λτ KK=>a τ λx=>r τ λxs=>KK (x::xs)
def uK {b:Bool}:OkA K b 0 vI fj:=λB φ σ τ H Q KK R hd q=>q [] [] H (HX.refl R) hd rfl rfl
def yO {b:Bool}{n:Nat}{te:TE}{ta:TA}{de:DE}{da:DA}(he:xJ K b te de)(ha:OkA K b n ta da):OkA K b (n+1) (wW te ta) (j6 de da):=λB φ σ τ H Q KK R hd q=>he B φ σ τ H _ _ R hd λt v H1 x1 k1 r1=>ha B φ σ τ H1 _ _ (R.hx x1) k1 λts vs H2 x2 k2 l2 r2=>q (t::ts) (v::vs) H2 (x1.trans x2) k2 (by rw[uA,l2]) ⟨v,vs,rfl,x2.rep (λa s=>R.sB s) r1,r2⟩
def HN (a:DA):DE:=λτ KK=>a τ λxs=>KK (.tup xs)
def rj (a:DA):DE:=λτ KK=>a τ λxs=>KK (.lst xs)
def fX {F:Addr->Prop}{p:Addr}{o:HO}{t:Tr}{v:V}(hp:H p=none)(r:Rep F H t v):Rep F (upd H p o) t v:=wa (λa u e n=>⟨by rw[xN (yK e hp)];exact e,n⟩) t v r
def qb {F:Addr->Prop}{p:Addr}{o:HO}{t:List Tr}{v:List V}(hp:H p=none)(r:xZ F H t v):xZ F (upd H p o) t v:=wk (λa u e n=>⟨by rw[xN (yK e hp)];exact e,n⟩) t v r
def jF {F:Addr->Prop}{p:Addr}{o:HO}{t:List Tr}{v:List V}(hp:H p=none)(r:xZ F H t v):xZ (λc=>F c\/c=p) (upd H p o) t v:=wk (λa u e n=>⟨by rw[xN (yK e hp)];exact e,λz=>z.elim n (yK e hp)⟩) t v r
def yC {b:Bool}{n:Nat}{ta:TA}{da:DA}(ha:OkA K b n ta da)(hn:n<=sizeLine:=by decide):xJ K b (E6 ta) (HN da):=λB φ σ τ H Q KK R hd q=>
 ha B φ σ τ H _ _ R hd λts vs H1 x1 k1 l1 r1=>⟨by rw[<-r1.len,l1];exact hn,λp hp=>q _ _ _ (x1.trans (HX.new (R.hx x1) hp _)) k1 ⟨p,vs,rfl,λz=>(R.hx x1).domB z hp,yU,qb hp r1⟩⟩
def qy {n:Nat}{ta:TA}{da:DA}(ha:OkA K true n ta da)(hn:n<=sizeLine:=by decide):zF K (lE ta) (rj da):=λB φ σ τ H Q KK R hd q=>
 ha B φ σ τ H _ _ R hd λts vs H1 x1 k1 l1 r1=>⟨by rw[<-r1.len,l1];exact hn,λp hp=>q ts p vs _ (x1.trans (HX.new (R.hx x1) hp _)) k1 (x1.none hp) yU (jF hp r1)⟩
def uV {b:Bool}{n:Nat}{ta:TA}{da:DA}(ha:OkA K b n ta da)(hn:n<=sizeLine:=by decide):xJ K b (lE ta) (rj da):=λB φ σ τ H Q KK R hd q=>
 ha B φ σ τ H _ _ R hd λts vs H1 x1 k1 l1 r1=>⟨by rw[<-r1.len,l1];exact hn,λp hp=>q _ _ _ (x1.trans (HX.new (R.hx x1) hp _)) k1 ⟨p,vs,rfl,λz=>(R.hx x1).domB z hp,yU,qb hp r1⟩⟩
end
def getT {α:Type}:List α->Nat->Option α
 |[],_=>none
 |x::_,0=>some x
 |_::r,n+1=>getT r n
theorem sG {α:Type}:∀(l:List α) (n:Nat),getT l n=l[n]?
 |[],_=>by simp[getT]
 |_::_,0=>by simp[getT]
 |_::r,n+1=>by simp[getT,sG r n]
def atT {α:Type}(ts:List α):Int->Option α
 |.ofNat n=>getT ts n
 |.negSucc n=>if n<ts.length then getT ts (ts.length-1-n) else none
theorem Ai {α:Type}(ts:List α)(i:Int):atT ts i=atI ts i:=by
 unfold atI ixN;cases i with
 |ofNat n=>
  show getT ts n=_;rw[sG];have h0:(0:Int)<=Int.ofNat n:=lY n;rw[xD h0];by_cases h:(Int.ofNat n)<(ts.length:Int)
  .rw[xD h];rfl
  .rw[xG h];have:ts.length<=n:=by have h':¬((n:Int)<(ts.length:Int)):=h;lia
   rw[ib this];rfl
 |negSucc n=>
  show(if n<ts.length then getT ts (ts.length-1-n) else none)=_;have h0:¬(0:Int)<=Int.negSucc n:=by lia
  rw[xG h0];by_cases h:n<ts.length
  .rw[xD h,sG,xD (by lia)];show ts[ts.length-1-n]?=ts[(Int.negSucc n+(ts.length:Int)).toNat]?;congr 1;lia
  .rw[xG h,xG (by lia)];rfl
section
variable {K:xo} {B:FB} {φ:yX} {σ:St} {τ:xQ} {H H' H'':Hp}
theorem xZ.at {F:Addr->Prop}{ts:List Tr}{ws:List V}{i:Int}{t:Tr}(r:xZ F H ts ws)(h:atT ts i=some t):∃w,atI ws i=some w/\Rep F H t w:=by
 rw[Ai] at h;unfold atI at h ⊢;rw[<-r.len];cases e:ixN ts.length i with
 |none=>rw[e] at h;cases h
 |some j=>rw[e] at h;exact r.getT h
def uT (o:Option Tr)(KK:Tr->Prop):Prop:=match o with|some t=>KK t|none=>False
def fIx (x y:Tr)(KK:Tr->Prop):Prop:=match x,y with|.tup ts,.int i=>uT (atT ts i) KK|.lst ts,.int i=>uT (atT ts i) KK|_,_=>False
def vh {b c:Bool}{ta tb:TE}{da db:DE}(ha:xJ K b ta da)(hb:xJ K c tb db):xJ K b (tOp (rIx K) ta tb) (d2 fIx da db):=λB φ σ τ H Q KK R hd q=>
 ha B φ σ τ H _ _ R hd λt v H1 x1 k1 r1=>hb B φ σ τ H1 _ _ (R.hx x1) k1 λu w H2 x2 k2 r2=>by
  have r1':=x2.rep (λa s=>R.sB s) r1;unfold fIx at k2;split at k2
  .rename_i ts i;obtain⟨a,ws,e,n,ha',rl⟩:=r1';cases (show w=.int i from r2);subst e;cases e:atT ts i with
   |none=>rw[e] at k2;exact k2.elim
   |some z=>rw[e] at k2;obtain⟨y,e1,e2⟩:=rl.at e;exact .inr (.inl ⟨a,ws,i,y,rfl,rfl,yy.of ha',e1,q z y H2 (x1.trans x2) k2 e2⟩)
  .rename_i ts i;obtain⟨a,ws,e,n,ha',rl⟩:=r1';cases (show w=.int i from r2);subst e;cases e:atT ts i with
   |none=>rw[e] at k2;exact k2.elim
   |some z=>rw[e] at k2;obtain⟨y,e1,e2⟩:=rl.at e;exact .inl ⟨a,ws,i,y,rfl,rfl,ye.of ha',e1,q z y H2 (x1.trans x2) k2 e2⟩
  .exact k2.elim
def Iu (ts:List Tr)(y:Tr)(KK:Tr->Prop):Prop:=match y with|.int k=>uT (atT ts k) KK|_=>False
def A6 (i:Nat)(db:DE):DE:=λτ KK=>match yg τ i with|.ow ts=>db τ λy=>Iu ts y KK|_=>False
def sQ {i:Nat}{a:Addr}{ts:List Tr}(R:RS K B φ σ τ H)(x:HX B φ τ H H')(hi:yg τ i=.ow ts)(e1:σ[i]?=some (some (.ref a))):∃ws,H' a=some (.lst ws)/\xZ (Av B φ) H' ts ws/\φ i=some a/\B.H0 a=none:=by have en2:=(R.hx x).ent i;rw[hi] at en2;obtain⟨a',ws',e1',e2,e3,e4',r'⟩:=en2;rw[e1] at e1';cases e1';exact⟨ws',e4',r',e2,e3⟩
theorem CL {c:Bool}{i:Nat}{tb:TE}{db:DE}(hb:xJ K c tb db):xJ K true (tOp (rIx K) (wK i) tb) (A6 i db):=λB φ σ τ H Q KK R hd q=>by
 have en:=R.ent i;unfold A6 at hd;revert en hd;cases hi:yg τ i with
 |ow ts=>
  intro hd ⟨a,ws,e1,e2,e3,e4,r⟩;refine⟨_,e1,hb B φ σ τ H _ _ R hd λu w H2 x2 k2 r2=>?_⟩;obtain⟨ws',e4',r',_⟩:=sQ R x2 hi e1;cases u with
  |int k=>
   cases (show w=.int k from r2);have k2:uT (atT ts k) KK:=k2;cases e:atT ts k with
   |none=>rw[e] at k2;exact k2.elim
   |some z=>rw[e] at k2;obtain⟨y,f1,f2⟩:=r'.at e;exact .inl ⟨a,ws',k,y,rfl,rfl,ye.of e4',f1,q z y H2 x2 k2 f2⟩
  |_=>exact k2.elim
 |_=>exact λz _=>z.elim
abbrev DO:=xQ->(Option Int->Prop)->Prop
def OkO (K:xo)(t:TO)(d:DO):Prop:=∀(B:FB) (φ:yX) (σ:St) (τ:xQ) (H:Hp) (Q:Option Int->Hp->Prop) (KK:Option Int->Prop),RS K B φ σ τ H->d τ KK->(∀o H',HX B φ τ H H'->KK o->Q o H')->t σ H Q
def HE:DO:=λ_ KK=>KK none
def HI (d:DE):DO:=λτ KK=>d τ λx=>match x with|.int i=>KK (some i)|_=>False
def kY:OkO K EW HE:=λB φ σ τ H Q KK R hd q=>q none H (HX.refl R) hd
def kZ {b:Bool}{te:TE}{d:DE}(h:xJ K b te d):OkO K (lF te) (HI d):=λB φ σ τ H Q KK R hd q=>
 h B φ σ τ H _ _ R hd λt v H1 x1 k1 r1=>by
  cases t with
  |int i=>cases (show v=.int i from r1);exact⟨i,rfl,q _ H1 x1 k1⟩
  |_=>exact k1.elim
def zL {α:Type}(xs:List α)(lo hi:Option Int):List α:=(xs.drop (HT.yh xs.length 0 lo)).take (HT.yh xs.length xs.length hi-HT.yh xs.length 0 lo)
def xZ.cut {F:Addr->Prop}{ts:List Tr}{ws:List V}(r:xZ F H ts ws)(lo hi:Option Int):xZ F H (zL ts lo hi) (vp ws lo hi):=by unfold zL vp;rw[<-r.len];exact ux.mpr (tG _ (c7 _ (ux.mp r)))
def dSl (d:DE)(dl dh:DO):DE:=λτ KK=>d τ λx=>dl τ λlo=>dh τ λhi=>match x with|.tup ts=>KK (.tup (zL ts lo hi))|.lst ts=>KK (.lst (zL ts lo hi))|_=>False
def HL (d:DE)(dl dh:DO):DE:=λτ KK=>d τ λx=>dl τ λlo=>dh τ λhi=>match x with|.lst ts=>KK (.lst (zL ts lo hi))|_=>False
def CO {b:Bool}{te:TE}{tl th:TO}{d:DE}{dl dh:DO}(h:xJ K b te d)(hl:OkO K tl dl)(hh:OkO K th dh):xJ K b (tSl (tM K) te tl th) (HL d dl dh):=λB φ σ τ H Q KK R hd q=>
 h B φ σ τ H _ _ R hd λt v H1 x1 k1 r1=>hl B φ σ τ H1 _ _ (R.hx x1) k1 λlo H2 x2 k2=>hh B φ σ τ H2 _ _ (R.hx (x1.trans x2)) k2 λhi H3 x3 k3=>by
  have r3:=(x2.trans x3).rep (λa s=>R.sB s) r1;have x:=(x1.trans x2).trans x3;cases t with
  |lst ts=>obtain⟨a,ws,e,n,ha,rl⟩:=r3;exact⟨a,ws,e,ye.of ha,λp hp=>q _ _ _ (x.trans (HX.new (R.hx x) hp _)) k3 ⟨p,_,rfl,λz=>(R.hx x).domB z hp,yU,qb hp (rl.cut lo hi)⟩⟩
  |_=>exact k3.elim
def nY (x y:Tr)(KK:Tr->Prop):Prop:=match x,y with|.lst ts,.lst us=>ts.length+us.length<=sizeLine/\KK (.lst (ts++us))|_,_=>False
def CS {ta tb:TE}{da db:DE}(ha:xJ K true ta da)(hb:xJ K true tb db):zF K (tOp tL ta tb) (d2 nY da db):=λB φ σ τ H Q KK R hd q=>
 ha B φ σ τ H _ _ R hd λt v H1 x1 k1 r1=>hb B φ σ τ H1 _ _ (R.hx x1) k1 λu w H2 x2 k2 r2=>by
  have r1':=x2.rep (F:=Av B φ) (λa s=>R.sAv s) r1;have x:=x1.trans x2;unfold nY at k2;split at k2
  .rename_i ts us;obtain⟨a,ws,e,n,ha',rl⟩:=r1';obtain⟨a2,ws2,e2,n2,ha2,rl2⟩:=r2;exact⟨a,a2,ws,ws2,e,e2,ha',ha2,by rw[<-rl.len,<-rl2.len];exact k2.1,λp hp=>q _ _ _ _ (x.trans (HX.new (R.hx x) hp _)) k2.2 (x.none hp) yU (jF hp (rl.app rl2))⟩
  .exact k2.elim
def By (x y:Tr)(KK:Tr->Prop):Prop:=match x,y with|.lst ts,.int k=>(0<=k/\k<2^63)/\ts.length*k.toNat<=sizeLine/\KK (.lst (List.replicate k.toNat ts).flatten)|_,_=>False
theorem sW {F:Addr->Prop}{ts:List Tr}{ws:List V}(r:xZ F H ts ws):∀n:Nat,xZ F H (List.replicate n ts).flatten (List.replicate n ws).flatten
 |0=>rfl
 |n+1=>by rw[gP,gP,dB,dB];exact r.app (sW r n)
def LG {c:Bool}{ta tb:TE}{da db:DE}(ha:xJ K true ta da)(hb:xJ K c tb db):zF K (tOp pK ta tb) (d2 By da db):=λB φ σ τ H Q KK R hd q=>
 ha B φ σ τ H _ _ R hd λt v H1 x1 k1 r1=>hb B φ σ τ H1 _ _ (R.hx x1) k1 λu w H2 x2 k2 r2=>by
  have r1':=x2.rep (F:=Av B φ) (λa s=>R.sAv s) r1;have x:=x1.trans x2;unfold By at k2;split at k2
  .rename_i ts k;obtain⟨a,ws,e,n,ha',rl⟩:=r1';exact⟨a,k,ws,e,r2,ha',by have:=k2.1.1;lia,k2.1.2,by rw[<-rl.len];exact k2.2.1,λp hp=>q _ _ _ _ (x.trans (HX.new (R.hx x) hp _)) k2.2.2 (x.none hp) yU (jF hp (sW rl _))⟩
  .exact k2.elim
def dCB (f:List Tr->(Tr->Prop)->Prop)(da:DA):DE:=λτ KK=>da τ λxs=>f xs KK
def CbS (r:List V->Hp->VK->Prop)(f:List Tr->(Tr->Prop)->Prop):Prop:=∀(F:Addr->Prop) (H:Hp) (vs:List V) (ts:List Tr) (KK:Tr->Prop) (Q:VK),xZ F H ts vs->f ts KK->(∀w v,gC w=some v->KK w->Q v H)->r vs H Q
def yY {b:Bool}{n:Nat}{r:List V->Hp->VK->Prop}{f:List Tr->(Tr->Prop)->Prop}{ta:TA}{da:DA}(hr:CbS r f)(ha:OkA K b n ta da):xJ K true (tCB r ta) (dCB f da):=λB φ σ τ H Q KK R hd q=>ha B φ σ τ H _ _ R hd λts vs H1 x1 k1 l1 r1=>hr _ H1 vs ts KK Q r1 k1 λw v e k=>q w v H1 x1 k (gz e)
def vH {F:Addr->Prop}{t:Tr}{vs:List V}(h:xZ F H [t] vs):∃v,vs=[v]/\Rep F H t v:=by obtain⟨w,r,e,h1,h2⟩:=h;cases (show r=[] from h2);exact⟨w,e,h1⟩
def tO {F:Addr->Prop}{t u:Tr}{vs:List V}(h:xZ F H [t,u] vs):∃v w,vs=[v,w]/\Rep F H t v/\Rep F H u w:=by obtain⟨w,r,e,h1,h2⟩:=h;obtain⟨w',e',h3⟩:=vH h2;subst e';exact⟨w,w',e,h1,h3⟩
def Br (xs:List Tr)(KK:Tr->Prop):Prop:=match xs with|[.tup ts]=>KK (.int ts.length)|[.lst ts]=>KK (.int ts.length)|_=>False
def wR:CbS (pI K) Br:=by
 intro F H vs ts KK Q r hf q;unfold Br at hf;split at hf
 .rename_i ts;obtain⟨v,rfl,a,ws,e,n,ha,rl⟩:=vH r;exact⟨a,ws,by rw[e],.inr (yy.of ha),by rw[<-rl.len];exact q _ _ rfl hf⟩
 .rename_i ts;obtain⟨v,rfl,a,ws,e,n,ha,rl⟩:=vH r;exact⟨a,ws,by rw[e],.inl (ye.of ha),by rw[<-rl.len];exact q _ _ rfl hf⟩
 .exact hf.elim
def jv (xs:List Tr)(KK:Tr->Prop):Prop:=match xs with|[.int i]=>KK (.int (if i<0 then -i else i))|_=>False
def uE:CbS (λxs H Q=>∃i,xs=[.int i]/\Q (.int (if i<0 then -i else i)) H) jv:=by
 intro F H vs ts KK Q r hf q;unfold jv at hf;split at hf
 .rename_i i;obtain⟨v,rfl,e⟩:=vH r;cases (show v=.int i from e);exact⟨i,rfl,q _ _ rfl hf⟩
 .exact hf.elim
def Bv (xs:List Tr)(KK:Tr->Prop):Prop:=match xs with|[.int i,.int j]=>KK (.int (if j>i then j else i))|_=>False
def G_:CbS (λxs H Q=>∃i j,xs=[.int i,.int j]/\Q (.int (if j>i then j else i)) H) Bv:=by
 intro F H vs ts KK Q r hf q;unfold Bv at hf;split at hf
 .rename_i i j;obtain⟨v,w,rfl,e,e'⟩:=tO r;cases (show v=.int i from e);cases (show w=.int j from e');exact⟨i,j,rfl,q _ _ rfl hf⟩
 .exact hf.elim
def Bx (xs:List Tr)(KK:Tr->Prop):Prop:=match xs with|[.int i,.int j]=>KK (.int (if j<i then j else i))|_=>False
def Ha:CbS (λxs H Q=>∃i j,xs=[.int i,.int j]/\Q (.int (if j<i then j else i)) H) Bx:=by
 intro F H vs ts KK Q r hf q;unfold Bx at hf;split at hf
 .rename_i i j;obtain⟨v,w,rfl,e,e'⟩:=tO r;cases (show v=.int i from e);cases (show w=.int j from e');exact⟨i,j,rfl,q _ _ rfl hf⟩
 .exact hf.elim
theorem fU {F:Addr->Prop}:∀ {ns:List Int} {ws:List V},xZ F H (ns.map Tr.int) ws->ws=ns.map V.int
 |[],_,h=>h
 |n::ns,_,⟨w,r,e,h1,h2⟩=>by cases (show w=.int n from h1);rw[e,fU h2];rfl
theorem DZ {F:Addr->Prop}:∀ {ns:List Bool} {ws:List V},xZ F H (ns.map Tr.bl) ws->ws=ns.map V.bl
 |[],_,h=>h
 |n::ns,_,⟨w,r,e,h1,h2⟩=>by cases (show w=.bl n from h1);rw[e,DZ h2];rfl
def Ip (xs:List Tr)(KK:Tr->Prop):Prop:=∃bs:List Bool,xs=[.lst (bs.map Tr.bl)]/\KK (.bl (bs.all id))
def dY:CbS (pG K) Ip:=by intro F H vs ts KK Q r hf q;obtain⟨ns,rfl,h1⟩:=hf;obtain⟨v,rfl,a,ws,e,n,ha,rl⟩:=vH r;rw[DZ rl] at ha;exact⟨a,ns,by rw[e],ye.of ha,q _ _ rfl h1⟩
def tyT:Tr->String
 |.non => "NoneType" |.bl _ => "bool" |.int _ => "int" |.str _ => "str" |.emp => "dict" |.tup _ => "tuple" |.lst _ => "list" |.dic _ _ _ => "dict"
theorem Nu {F:Addr->Prop}{t:Tr}{v:V}(r:Rep F H t v):tyN H v=some (tyT t):=by
 cases t with
 |non=>cases (show v=.non from r);rfl
 |bl b=>cases (show v=.bl b from r);rfl
 |int b=>cases (show v=.int b from r);rfl
 |str b=>cases (show v=.str b from r);rfl
 |emp=>obtain⟨a,e,_,h⟩:=r;subst e;simp only[tyN,h,tyT]
 |tup ts=>obtain⟨a,ws,e,_,h,_⟩:=r;subst e;simp only[tyN,h,tyT]
 |lst ts=>obtain⟨a,ws,e,_,h,_⟩:=r;subst e;simp only[tyN,h,tyT]
 |dic o ks ts=>obtain⟨a,ws,e,_,h,_⟩:=r;subst e;simp only[tyN,h,tyT]
def B8 (c:String)(t:Tr):Bool:=match c,t with
 | "int", .int _=>true | "int", .bl _=>true | "bool", .bl _=>true | "str", .str _=>true | "tuple", .tup _=>true | "list", .lst _=>true | "dict", .emp=>true | "dict", .dic _ _ _=>true|_,_=>false
def Js {c:String}(h:c∈fx)(t:Tr):lA (tyT t) c=B8 c t:=by simp only[fx,xR,yI,yJ] at h;rcases h with rfl|rfl|rfl|rfl|rfl|rfl<;>cases t<;>rfl
def HD (c:String)(d:DE):DE:=λτ KK=>d τ λx=>KK (.bl (B8 c x))
def qx {b:Bool}{c:String}{te:TE}{d:DE}(h:xJ K b te d)(hc:c∈fx:=by decide):xJ K true (tCB Dw (wW te (wW (tC (.ty c)) vI))) (HD c d):=λB φ σ τ H Q KK R hd q=>h B φ σ τ H _ _ R hd λt v H1 x1 k1 r1=>⟨v,c,tyT t,rfl,Nu r1,hc,by rw[Js hc];exact q _ _ H1 x1 k1 rfl⟩
def BB (xs:List Tr)(KK:Tr->Prop):Prop:=match xs with|[.tup ts]=>KK (.tup ts)|[.lst ts]=>KK (.tup ts)|_=>False
def CQ {b:Bool}{n:Nat}{ta:TA}{da:DA}(ha:OkA K b n ta da):xJ K b (tCB (pL K) ta) (dCB BB da):=λB φ σ τ H Q KK R hd q=>
 ha B φ σ τ H _ _ R hd λts vs H1 x1 k1 l1 r1=>by
  unfold BB at k1;split at k1
  .rename_i ts;obtain⟨v,rfl,r⟩:=vH r1;obtain⟨a,ws,e,n,ha,rl⟩:=id r;exact⟨a,ws,by rw[e],.inr ⟨yy.of ha,by rw[<-e];exact q _ _ H1 x1 k1 r⟩⟩
  .rename_i ts;obtain⟨v,rfl,a,ws,e,n,ha,rl⟩:=vH r1;exact⟨a,ws,by rw[e],.inl ⟨ye.of ha,λp hp=>q _ _ _ (x1.trans (HX.new (R.hx x1) hp _)) k1 ⟨p,_,rfl,λz=>(R.hx x1).domB z hp,yU,qb hp rl⟩⟩⟩
  .exact k1.elim
def A_ (i:Nat):DE:=λτ KK=>match yg τ i with|.ow ts=>KK (.tup ts)|_=>False
theorem CP {i:Nat}:xJ K true (tCB (pL K) (wW (wK i) vI)) (A_ i):=λB φ σ τ H Q KK R hd q=>by
 have en:=R.ent i;unfold A_ at hd;revert en hd;cases hi:yg τ i with
 |ow ts=>intro hd ⟨a,ws,e1,e2,e3,e4,r⟩;exact⟨_,e1,a,ws,rfl,.inl ⟨ye.of e4,λp hp=>q _ _ _ (HX.new R hp _) hd ⟨p,_,rfl,λz=>R.dom z hp,yU,qb hp r⟩⟩⟩
 |_=>exact λz _=>z.elim
def Bs (xs:List Tr)(KK:Tr->Prop):Prop:=match xs with|[.tup ts]=>KK (.lst ts)|[.lst ts]=>KK (.lst ts)|_=>False
def CT {n:Nat}{ta:TA}{da:DA}(ha:OkA K true n ta da):zF K (tCB (Dz K) ta) (dCB Bs da):=λB φ σ τ H Q KK R hd q=>
 ha B φ σ τ H _ _ R hd λts vs H1 x1 k1 l1 r1=>by
  unfold Bs at k1;split at k1
  .rename_i ts;obtain⟨v,rfl,a,ws,e,n,ha,rl⟩:=vH r1;exact⟨a,ws,by rw[e],.inr (yy.of ha),λp hp=>q _ _ _ _ (x1.trans (HX.new (R.hx x1) hp _)) k1 (x1.none hp) yU (jF hp rl)⟩
  .rename_i ts;obtain⟨v,rfl,a,ws,e,n,ha,rl⟩:=vH r1;exact⟨a,ws,by rw[e],.inl (ye.of ha),λp hp=>q _ _ _ _ (x1.trans (HX.new (R.hx x1) hp _)) k1 (x1.none hp) yU (jF hp rl)⟩
  .exact k1.elim
def A7 (i:Nat):DE:=λτ KK=>match yg τ i with|.sc ns=>ns.length<=63->KK (.int ns.length)|_=>False
theorem Ll {i:Nat}:xJ K true (tCB (pI K) (wW (wK i) vI)) (A7 i):=λB φ σ τ H Q KK R hd q=>by
 have en:=R.ent i;unfold A7 at hd;revert en hd;cases hi:yg τ i with
 |sc ns=>
  intro hd ⟨a,e,l,so,_⟩;have sq:ye K H a (ns.map V.int):=by
   rcases so with ⟨o,h⟩|h
   .exact .inl (.inr ⟨o,h⟩)
   .exact h H
  refine⟨_,e,a,_,rfl,.inl sq,?_⟩;rw[xX];exact q _ _ H (HX.refl R) (hd l) rfl
 |_=>exact λz _=>z.elim
def HC:DE:=λ_ KK=>KK .emp
def K7:xJ K true EL HC:=λB φ σ τ H Q KK R hd q=>λp hp=>q _ _ _ (HX.new R hp _) hd ⟨p,rfl,λz=>R.dom z hp,yU⟩
end
abbrev ym:=List Tr->(Tr->Prop)->Prop
def spT (n:Nat)(st fr:Bool)(sp:ym):Sp:=λvs H Q _=>∃(F S:Addr->Prop) (ts:List Tr) (KK:Tr->Prop) (us:List V),
 (match st with|true=>∃p,vs=.ref p::us/\S p|false=>vs=us)/\(∀a,F a->NT (H a))/\(∀a,S a->F a)/\(∀a,S a->u7 a H)/\xZ F H ts us/\ts.length=n/\sp ts KK/\
 ∀t v H',KK t->(∀a o,H a=some o->¬S a->H' a=some o)->(∀a,S a->u7 a H')->Rep F H' t v->(fr=true->FrL F H H' t v)->Q v H'
def nP (sp:ym)(da:DA):DE:=λτ KK=>da τ λts=>sp ts KK
def AZ (i:Nat)(sp:ym)(da:DA):DE:=λτ KK=>match yg τ i with|.st=>da τ λts=>sp ts KK|_=>False
section
variable {K:xo} {B:FB} {φ:yX} {σ:St} {τ:xQ} {H H' H'':Hp}
def xM {b fr:Bool}{n:Nat}{sp:ym}{ta:TA}{da:DA}(ha:OkA K b n ta da):xJ K b (ay (spT n false fr sp) ta) (nP sp da):=λB φ σ τ H Q KK R hd q=>ha B φ σ τ H _ _ R hd λts vs H1 x1 k1 l1 r1=>⟨AvB b B φ τ,SA B φ τ,ts,KK,vs,rfl,λa z=>(R.hx x1).ntB z,λa z=>R.sB z,x1.st,r1,l1,k1,λt v H' k e s r _=>q t v H' (x1.trans ⟨e,s⟩) k r⟩
def LD {n:Nat}{sp:ym}{ta:TA}{da:DA}(ha:OkA K true n ta da):zF K (ay (spT n false true sp) ta) (nP sp da):=λB φ σ τ H Q KK R hd q=>
 ha B φ σ τ H _ _ R hd λts vs H1 x1 k1 l1 r1=>⟨Av B φ,SA B φ τ,ts,KK,vs,rfl,λa z=>(R.hx x1).nt z,λa z=>R.sAv z,x1.st,r1,l1,k1,λt v H' k e s r f=>by obtain⟨a,ts',ws,rfl,rfl,h1,h2,h3⟩:=f rfl;exact q ts' a ws H' (x1.trans ⟨e,s⟩) k (x1.none h1) h2 h3⟩
theorem zg {b fr:Bool}{n i:Nat}{sp:ym}{ta:TA}{da:DA}(ha:OkA K b n ta da):xJ K b (ay (spT n true fr sp) (wW (wK i) ta)) (AZ i sp da):=λB φ σ τ H Q KK R hd q=>by
 have en:=R.ent i;unfold AZ at hd;revert en hd;cases hi:yg τ i with
 |st=>intro hd ⟨p,e1,e2,e3⟩;exact⟨_,e1,ha B φ σ τ H _ _ R hd λts vs H1 x1 k1 l1 r1=>⟨AvB b B φ τ,SA B φ τ,ts,KK,vs,⟨p,rfl,.inr ⟨i,e2,hi⟩⟩,λa z=>(R.hx x1).ntB z,λa z=>R.sB z,x1.st,r1,l1,k1,λt v H' k e s r _=>q t v H' (x1.trans ⟨e,s⟩) k r⟩⟩
 |_=>exact λz _=>z.elim
def yX.del (φ:yX)(i:Nat):yX:=λj=>if j=i then none else φ j
def yX.put (φ:yX)(i:Nat)(a:Addr):yX:=λj=>if j=i then some a else φ j
def qX {i j:Nat}{a:Addr}(h:φ.del i j=some a):j≠i/\φ j=some a:=by
 unfold yX.del at h;by_cases e:j=i
 .rw[xD e] at h;cases h
 .rw[xG e] at h;exact⟨e,h⟩
def Bc {i j:Nat}(h:j≠i):φ.del i j=φ j:=xG h
def gy {i j:Nat}{a c:Addr}(h:φ.put i a j=some c):(j=i/\c=a)\/(j≠i/\φ j=some c):=by
 unfold yX.put at h;by_cases e:j=i
 .rw[xD e] at h;cases h;exact .inl ⟨e,rfl⟩
 .rw[xG e] at h;exact .inr ⟨e,h⟩
def pF {i:Nat}{a:Addr}:φ.put i a i=some a:=xD rfl
def Ni {i j:Nat}{a:Addr}(h:j≠i):φ.put i a j=φ j:=xG h
def kH {i:Nat}{a:Addr}(h:Av B (φ.del i) a):Av B φ a:=by
 rcases h with h|⟨j,h⟩
 .exact .inl h
 .exact .inr ⟨j,(qX h).2⟩
theorem sy {φ':yX}{i:Nat}{o:Option (Option V)}{x:TV}(h:Ent K B φ H i o x)(hφ:φ' i=φ i)(hr:∀t v,Rep (Av B φ) H t v->Rep (Av B φ') H' t v)(hrl:∀t v,xZ (Av B φ) H t v->xZ (Av B φ') H' t v)
  (hl:∀a o,Owd x->φ i=some a->H a=some o->H' a=some o) (hs:∀a ns,aT K H a ns->aT K H' a ns):Ent K B φ' H' i o x:=by
 cases x with
 |un=>trivial
 |fz t=>obtain⟨v,e,r⟩:=h;exact⟨v,e,hr t v r⟩
 |ow ts=>obtain⟨a,ws,e1,e2,e3,e4,r⟩:=h;exact⟨a,ws,e1,hφ.trans e2,e3,hl a _ trivial e2 e4,hrl _ _ r⟩
 |st=>obtain⟨p,e1,e2,e3⟩:=h;exact⟨p,e1,hφ.trans e2,e3⟩
 |sc ns=>obtain⟨a,e,l,q⟩:=h;exact⟨a,e,l,hs a ns q⟩
 |ob a=>exact h
 |od ks=>obtain⟨a,hk,e1,e2,e3,e4,r⟩:=h;exact⟨a,hk,e1,hφ.trans e2,e3,hl a _ trivial e2 e4,Paired.mapP r λp q z=>⟨z.1,hr _ _ z.2⟩⟩
theorem RS.ow0 (R:RS K B φ σ τ H){j:Nat}{c:Addr}(h:Owd (yg τ j))(e:φ j=some c):B.H0 c=none:=by
 have en:=R.ent j;cases hn:yg τ j with
 |ow ts=>rw[hn] at en;obtain⟨a,ws,_,q2,q3,_⟩:=en;rw[e] at q2;cases q2;exact q3
 |od ks=>rw[hn] at en;obtain⟨a,ws,_,q2,q3,_⟩:=en;rw[e] at q2;cases q2;exact q3
 |_=>rw[hn] at h;exact h.elim
def RS.setFz {i:Nat}{t:Tr}{v:V}(R:RS K B φ σ τ H)(r:Rep (Av B φ) H t v):RS K B (φ.del i) (σ.set i (some v)) (τ.set i (.fz t)) H where
 fN:=R.fN
 s0:=R.s0
 ext:=R.ext
 sst:=λa s=>by
  rcases s with s|⟨j,s,hj⟩
  .exact R.sst a (.inl s)
  .obtain⟨hne,s'⟩:=qX s;rw[uI hne] at hj;exact R.sst a (.inr ⟨j,s',hj⟩)
 injG:=λj k a hj e1 e2=>by obtain⟨hne,e1⟩:=qX e1;rw[uI hne] at hj;exact R.injG j k a hj e1 (qX e2).2
 oN:=λj a e=>R.oN j a (qX e).2
 len:=by rw[qO,qO];exact R.len
 ent:=λj=>by
  have mono:∀t v,Rep (Av B φ) H t v->Rep (Av B (φ.del i)) H t v:=λt v=>wa (λa o e n=>⟨e,λz=>n (kH z)⟩) t v;by_cases e:j=i
  .subst e;by_cases hl:j<τ.length
   .rw[kW hl];exact⟨v,by rw[ic (by rw[R.len];exact hl)],mono _ _ r⟩
   .rw[kU (by rw[qO];lia)];trivial
  .rw[uI e,dD (zD e)];exact sy (R.ent j) (Bc e) mono (λt v=>wk (λa o e n=>⟨e,λz=>n (kH z)⟩) t v) (λ_ _ _ _ z=>z) λ_ _ z=>z
 gh:=λp hp=>wa (λa o e n=>⟨e,λz=>n (kH z)⟩) _ _ (R.gh p hp)
def RS.setNew {i:Nat}{x:TV}{a:Addr}(R:RS K B φ σ τ H)(hx:HX B φ τ H H')(ha:H a=none)(ha':NT (H' a))(hst:x=.st->u7 a H')
  (hen:Ent K B (φ.put i a) H' i (some (some (.ref a))) x):RS K B (φ.put i a) (σ.set i (some (.ref a))) (τ.set i x) H':=by
 have R':=R.hx hx;have nav:∀c,c≠a->Av B (φ.put i a) c->Av B φ c:=λc hc z=>by
  rcases z with z|⟨j,z⟩
  .exact .inl z
  .rcases gy z with ⟨_,e⟩|⟨_,e⟩
   .exact absurd e hc
   .exact .inr ⟨j,e⟩
 have mv:∀c o,H c=some o->¬Av B φ c->H' c=some o/\¬Av B (φ.put i a) c:=λc o e n=>⟨hx.keep c o e λs=>n (R.sAv s),λz=>n (nav c (yK e ha) z)⟩
 refine⟨R.fN,R.s0,R'.ext,λc s=>?_,λj k c hj e1 e2=>?_,λj c e=>?_,?_,λj=>?_,λp hp=>wa mv _ _ (R.gh p hp)⟩
 .rcases s with s|⟨j,s,hj⟩
  .exact R'.sst c (.inl s)
  .rcases gy s with ⟨rfl,rfl⟩|⟨hne,s'⟩
   .by_cases hl:j<τ.length
    .rw[kW hl] at hj;exact hst hj
    .rw[kU (by rw[qO];lia)] at hj;cases hj
   .rw[uI hne] at hj;exact R'.sst c (.inr ⟨j,s',hj⟩)
 .have key:∀j:Nat,φ j=some a->False:=λj e=>R.ow j a e ha;rcases gy e1 with ⟨z1,z2⟩|⟨n1,f1⟩
  .rcases gy e2 with ⟨z3,_⟩|⟨n2,f2⟩
   .rw[z1,z3]
   .exact(key k (by rw[<-z2];exact f2)).elim
  .rcases gy e2 with ⟨z3,z4⟩|⟨n2,f2⟩
   .exact(key j (by rw[<-z4];exact f1)).elim
   .rw[uI n1] at hj;exact R.injG j k c hj f1 f2
 .rcases gy e with ⟨_,rfl⟩|⟨_,e⟩
  .exact ha'
  .exact R'.oN j c e
 .rw[qO,qO];exact R.len
 .by_cases e:j=i
  .subst e;by_cases hl:j<τ.length
   .rw[kW hl,ic (by rw[R.len];exact hl)];exact hen
   .rw[kU (by rw[qO];lia)];trivial
  .rw[uI e,dD (zD e)];refine sy (R.ent j) (Ni e) (λt v=>wa mv t v) (λt v=>wk mv t v) (λc o hj e1 e2=>?_) λc ns z=>?_
   .refine hx.keep c _ e2 λs=>?_;rcases s with s|⟨k,s,hk⟩
    .exact R.f0 c (R.s0 c s) (R.ow0 hj e1)
    .have:=R.injG j k c hj e1 s;subst this;rw[hk] at hj;exact hj.elim
   .refine⟨?_,z.2.hx R hx⟩;rcases z.1 with ⟨o,z⟩|z
    .exact .inl ⟨o,hx.keep c _ z (bc R z)⟩
    .exact .inr z
def RS.wrOw {i:Nat}{ts ts':List Tr}{a:Addr}{ws':List V}(R:RS K B φ σ τ H)(hi:yg τ i=.ow ts)(e1:σ[i]?=some (some (.ref a)))(r:xZ (Av B φ) H ts' ws'):RS K B φ σ (τ.set i (.ow ts')) (upd H a (.lst ws')):=by
 have en:=R.ent i;rw[hi] at en;obtain⟨a',ws,e1',e2,e3,e4,_⟩:=en;rw[e1] at e1';cases e1';have hl:i<τ.length:=by
  by_cases h:i<τ.length
  .exact h
  .rw[kU (by lia)] at hi;cases hi
 have mv:∀c o,H c=some o->¬Av B φ c->(upd H a (.lst ws')) c=some o/\¬Av B φ c:=λc o e n=>⟨by rw[xN (λz=>n (by rw[z];exact .inr ⟨i,e2⟩))];exact e,n⟩
 have nsa:∀c,SA B φ (τ.set i (.ow ts')) c->SA B φ τ c/\c≠a:=λc s=>by
  rcases s with s|⟨j,s,hj⟩
  .exact⟨.inl s,λz=>R.f0 a (R.s0 a (z▸s)) e3⟩
  .by_cases e:j=i
   .subst e;rw[kW hl] at hj;cases hj
   .rw[uI e] at hj;exact⟨.inr ⟨j,s,hj⟩,λz=>e (R.inj i j a ts hi e2 (z▸s)).symm⟩
 refine⟨R.fN,R.s0,λc o e n=>?_,λc s=>?_,λj k c hj f1 f2=>?_,λj c e=>?_,by rw[qO];exact R.len,λj=>?_,λp hp=>wa mv _ _ (R.gh p hp)⟩
 .rw[xN (yK e e3)];exact R.ext c o e n
 .obtain⟨s',hne⟩:=nsa c s;obtain⟨n,b,q,z⟩:=R.sst c s';exact⟨n,b,by rw[xN hne];exact q,z⟩
 .by_cases e:j=i
  .subst e;exact R.inj j k c ts hi f1 f2
  .rw[uI e] at hj;exact R.injG j k c hj f1 f2
 .by_cases z:c=a
  .rw[z,yU];exact⟨(λz=>nomatch z),λ_ z=>nomatch z⟩
  .rw[xN z];exact R.oN j c e
 .by_cases e:j=i
  .subst e;rw[kW hl];exact⟨a,ws',e1,e2,e3,yU,wk mv _ _ r⟩
  .rw[uI e];refine sy (R.ent j) rfl (λt v=>wa mv t v) (λt v=>wk mv t v) (λc o hj f1 f2=>?_) λc ns z=>?_
   .rw[xN (λ(z:c=a)=>e (R.inj i j a ts hi e2 (by rw[<-z];exact f1)).symm)];exact f2
   .refine⟨?_,λP q h=>by rw[xN (jz (z.2 P q h) e4 (λq=>nomatch q))];exact z.2 P q h⟩;rcases z.1 with ⟨o,z⟩|z
    .exact .inl ⟨o,by rw[xN (jz z e4 (λq=>nomatch q))];exact z⟩
    .exact .inr z
def RS.freeze {i:Nat}{ts:List Tr}(R:RS K B φ σ τ H)(hi:yg τ i=.ow ts):RS K B (φ.del i) σ (τ.set i (.fz (.lst ts))) H:=by
 have en:=R.ent i;rw[hi] at en;obtain⟨a,ws,e1,e2,e3,e4,r⟩:=en;have hl:i<τ.length:=by
  by_cases h:i<τ.length
  .exact h
  .rw[kU (by lia)] at hi;cases hi
 have na:¬Av B (φ.del i) a:=λz=>by
  rcases z with z|⟨j,z⟩
  .exact R.f0 a z e3
  .obtain⟨n,z⟩:=qX z;exact n (R.inj i j a ts hi e2 z).symm
 refine⟨R.fN,R.s0,R.ext,λc s=>?_,λj k c hj f1 f2=>?_,λj c e=>R.oN j c (qX e).2,by rw[qO];exact R.len,λj=>?_,λp hp=>wa (λa o e n=>⟨e,λz=>n (kH z)⟩) _ _ (R.gh p hp)⟩
 .rcases s with s|⟨j,s,hj⟩
  .exact R.sst c (.inl s)
  .obtain⟨hne,s'⟩:=qX s;rw[uI hne] at hj;exact R.sst c (.inr ⟨j,s',hj⟩)
 .obtain⟨hne,f1⟩:=qX f1;rw[uI hne] at hj;exact R.injG j k c hj f1 (qX f2).2
 .by_cases e:j=i
  .subst e;rw[kW hl];exact⟨.ref a,e1,a,ws,rfl,na,e4,wk (λa o e n=>⟨e,λz=>n (kH z)⟩) _ _ r⟩
  .rw[uI e];exact sy (R.ent j) (Bc e) (λt v=>wa (λa o e n=>⟨e,λz=>n (kH z)⟩) t v) (λt v=>wk (λa o e n=>⟨e,λz=>n (kH z)⟩) t v) (λ_ _ _ _ z=>z) λ_ _ z=>z
def OkN (K:xo)(g:TG)(d:DG):Prop:=∀(B:FB) (φ:yX) (σ:St) (τ:xQ) (H:Hp) (F:Addr->Prop) (t:Tr) (v:V) (Q:St->Hp->Prop) (KK:xQ->Prop),RS K B φ σ τ H->(∀a,Av B φ a->F a)->Rep F H t v->d t τ KK->
 (∀ φ' σ' τ',RS K B φ' σ' τ' H->(∀a,Av B φ' a->Av B φ a)->KK τ'->Q σ' H)->g v σ H Q
def dM (K:xo)(g:TGs)(d:DGs):Prop:=∀(B:FB) (φ:yX) (σ:St) (τ:xQ) (H:Hp) (F:Addr->Prop) (t:List Tr) (v:List V) (Q:St->Hp->Prop) (KK:xQ->Prop),RS K B φ σ τ H->(∀a,Av B φ a->F a)->xZ F H t v->d t τ KK->
 (∀ φ' σ' τ',RS K B φ' σ' τ' H->(∀a,Av B φ' a->Av B φ a)->KK τ'->Q σ' H)->g v σ H Q
def eName (i:Nat):DG:=λt τ KK=>KK (τ.set i (.fz t))
def ju:DGs:=λts τ KK=>match ts with|[]=>KK τ|_=>False
def jt (d:DG)(r:DGs):DGs:=λts τ KK=>match ts with|t::us=>d t τ λτ'=>r us τ' KK|[]=>False
def Ic (n:Nat)(d:DGs):DG:=λt τ KK=>match t with|.tup ts=>ts.length=n/\d ts τ KK|_=>False
def xV {i:Nat}:OkN K (vV i) (eName i):=λB φ σ τ H F t v Q KK R hF r hd q=>q (φ.del i) _ _ (R.setFz (wa (λa o e n=>⟨e,λz=>n (hF a z)⟩) _ _ r)) (λa z=>kH z) hd
theorem zU:dM K bf ju:=λB φ σ τ H F t v Q KK R hF r hd q=>by
 cases t with
 |nil=>exact⟨r,q φ σ τ R (λ_ z=>z) hd⟩
 |cons _ _=>exact hd.elim
theorem yu {g:TG}{gs:TGs}{d:DG}{ds:DGs}(h:OkN K g d)(hs:dM K gs ds):dM K (be g gs) (jt d ds):=λB φ σ τ H F t v Q KK R hF r hd q=>by
 cases t with
 |nil=>exact hd.elim
 |cons t ts=>obtain⟨w,r',e,h1,h2⟩:=r;exact⟨w,r',e,h B φ σ τ H F t w _ _ R hF h1 hd λφ' σ' τ' R' ha k=>hs B φ' σ' τ' H F ts r' Q KK R' (λa z=>hF a (ha a z)) h2 k λφ2 σ2 τ2 R2 ha2 k2=>q φ2 σ2 τ2 R2 (λa z=>ha a (ha2 a z)) k2⟩
theorem wA {n:Nat}{gs:TGs}{ds:DGs}(h:dM K gs ds):OkN K (rF K n gs) (Ic n ds):=λB φ σ τ H F t v Q KK R hF r hd q=>by
 cases t with
 |tup ts=>obtain⟨a,ws,e,n,ha,rl⟩:=r;exact⟨a,ws,e,yy.of ha,by rw[<-rl.len];exact hd.1,h B φ σ τ H F ts ws Q KK R hF rl hd.2 q⟩
 |_=>exact hd.elim
theorem OkN.g {g:TG}{d:DG}(h:OkN K g d):OkG K g d:=λB φ σ τ H t v Q KK R r hd q=>h B φ σ τ H (Av B φ) t v Q KK R (λ_ z=>z) r hd λφ' σ' τ' R' ha k=>q φ' σ' τ' H R' ha (λ_ _ e _=>e) k
def ao (ts:List Tr)(t:Tr):Int->Option (List Tr)
 |.ofNat n=>if n<ts.length then some (ts.set n t) else none
 |.negSucc n=>if n<ts.length then some (ts.set (ts.length-1-n) t) else none
def sr (i:Nat)(di:DE):DG:=λt τ KK=>match yg τ i with
 |.ow ts=>di τ λy=>match y with|.int k=>(match ao ts t k with|some us=>KK (τ.set i (.ow us))|none=>False)|_=>False
 |_=>False
theorem Oh {ts us:List Tr}{t:Tr}{k:Int}(h:ao ts t k=some us):∃j,ixN ts.length k=some j/\us=ts.set j t:=by
 unfold ixN;cases k with
 |ofNat n=>
  have h:(if n<ts.length then some (ts.set n t) else none)=some us:=h;by_cases hn:n<ts.length
  .rw[xD hn] at h;cases h;refine⟨n,?_,rfl⟩;have h0:(0:Int)<=Int.ofNat n:=lY n;have h1:Int.ofNat n<(ts.length:Int):=Int.ofNat_lt.mpr hn;rw[xD h0,xD h1];rfl
  .rw[xG hn] at h;cases h
 |negSucc n=>
  have h:(if n<ts.length then some (ts.set (ts.length-1-n) t) else none)=some us:=h;by_cases hn:n<ts.length
  .rw[xD hn] at h;cases h;refine⟨ts.length-1-n,?_,rfl⟩;rw[xG (by lia),xD (by lia)];congr 1;lia
  .rw[xG hn] at h;cases h
theorem D3 {F:Addr->Prop}{t:Tr}{v:V}(r:Rep F H t v):∀ {ts:List Tr} {ws:List V} (j:Nat),xZ F H ts ws->xZ F H (ts.set j t) (ws.set j v)
 |[],_,_,h=>by cases (show _=[] from h);exact rfl
 |_::_,_,0,⟨w,r',e,h1,h2⟩=>⟨v,r',by rw[e];rfl,r,h2⟩
 |_::ts,_,j+1,⟨w,r',e,h1,h2⟩=>⟨w,r'.set j v,by rw[e];rfl,h1,D3 r j h2⟩
theorem LI {b:Bool}{i:Nat}{ti:TE}{di:DE}(h:xJ K b ti di):OkG K (BN (wK i) ti DP) (sr i di):=λB φ σ τ H t v Q KK R r hd q=>by
 have en:=R.ent i;unfold sr at hd;revert en hd;cases hi:yg τ i with
 |ow ts=>
  intro hd ⟨a,ws,e1,e2,e3,e4,r0⟩;refine⟨_,e1,h B φ σ τ H _ _ R hd λu w H1 x1 k1 r1=>?_⟩;obtain⟨ws',f4,f5,_⟩:=sQ R x1 hi e1;cases u with
  |int k=>
   cases (show w=.int k from r1);cases e:ao ts t k with
   |none=>simp only[e] at k1
   |some us=>simp only[e] at k1;obtain⟨j,hj,rfl⟩:=Oh e;refine⟨a,ws',k,j,rfl,rfl,f4,by rw[<-f5.len];exact hj,?_⟩;exact q φ σ _ _ ((R.hx x1).wrOw hi e1 (D3 (x1.rep (λa s=>R.sAv s) r) j f5)) (λ_ z=>z) (λc o e n=>by rw[xN (λz=>n (by rw[z];exact .inr ⟨i,e2⟩))];exact x1.keep c o e λs=>n (R.sAv s)) k1
  |_=>exact k1.elim
 |_=>exact λz _=>z.elim
def jI:DS:=λG τ=>G.nx τ
def ja (a b:DS):DS:=λG τ=>a {G with nx:=b G} τ
def NI:DS:=λ_ _=>False
def pV (d:DE):DS:=λG τ=>d τ G.rt
def sIf (c:DT)(a b:DS):DS:=λG τ=>c τ λk=>if k=true then a G τ else b G τ
def Eh (i:Nat)(d:DE):DS:=λG τ=>d τ λt=>G.nx (τ.set i (.fz t))
def NL (i:Nat)(d:DE):DS:=λG τ=>d τ λt=>match t with|.lst ts=>G.nx (τ.set i (.ow ts))|_=>False
def D_ (d:DE)(g:DG):DS:=λG τ=>d τ λt=>g t τ G.nx
def NK (i j:Nat)(d:DA):DS:=λG τ=>d τ λts=>match ts with|[t,u]=>G.nx ((τ.set i (.fz t)).set j (.fz u))|_=>False
def NG (d:DE):DS:=λG τ=>d τ λ_=>G.nx τ
def D9 (i:Nat)(d:DE):DS:=λG τ=>match yg τ i with|.ow ts=>d τ λt=>ts.length<sizeLine/\G.nx (τ.set i (.ow (ts++[t])))|_=>False
def Eb (i:Nat)(a:DS):DS:=λG τ=>match yg τ i with|.ow ts=>a G (τ.set i (.fz (.lst ts)))|_=>False
variable {fr:Bool}
def zc:zi K fr EU jI:=λB φ σ τ H E G R hd e=>e.nx φ σ τ H R hd
def LO:zi K fr ET NI:=λB φ σ τ H E G R hd e=>hd.elim
def xE {a b:TS}{da db:DS}(ha:zi K fr a da)(hb:zi K fr b db):zi K fr (mf a b) (ja da db):=λB φ σ τ H E G R hd e=>ha B φ σ τ H _ _ R hd ⟨λφ' σ' τ' H' R' k=>hb B φ' σ' τ' H' E G R' k e,e.bk,e.ct,e.rt⟩
def yk {b:Bool}{te:TE}{d:DE}(h:xJ K b te d):zi K false (az te) (pV d):=λB φ σ τ H E G R hd e=>h B φ σ τ H _ _ R hd λt v H1 x1 k1 r1=>e.rt t v H1 (wa (λa o e n=>⟨e,λz=>n (.inl z)⟩) _ _ (pN R r1)) (R.hx x1).extB k1 λz=>nomatch z
def sM {te:TE}{d:DE}(h:zF K te d):zi K fr (az te) (pV d):=λB φ σ τ H E G R hd e=>
 h B φ σ τ H _ _ R hd λts a ws H1 x1 k1 h1 h2 h3=>by
  have z0:B.H0 a=none:=by
   cases q:B.H0 a with
   |none=>rfl
   |some o=>
    by_cases s:B.S0 a
    .exact absurd h1 (R.sst a (.inl s)).ne_none
    .rw[R.ext a o q s] at h1;cases h1
  have na:¬B.F0 a:=λz=>R.dom (.inl z) h1;have rr:xZ (λc=>B.F0 c\/c=a) H1 ts ws:=wk (λc o e n=>⟨e,λz=>n (z.elim (λz=>.inl (.inl z)) .inr)⟩) _ _ h3;exact e.rt (.lst ts) _ H1 ⟨a,ws,rfl,na,h2,wk (λc o e n=>⟨e,λz=>n (.inl z)⟩) _ _ rr⟩ (R.hx x1).extB k1 λ_=>⟨a,ts,ws,rfl,rfl,z0,h2,rr⟩
def Eg (i:Nat):DS:=λG τ=>match yg τ i with|.ow ts=>G.rt (.lst ts)|_=>False
theorem fH {i:Nat}:zi K fr (az (wK i)) (Eg i):=λB φ σ τ H E G R hd e=>by
 have en:=R.ent i;unfold Eg at hd;revert en hd;cases hi:yg τ i with
 |ow ts=>intro hd ⟨a,ws,e1,e2,e3,e4,r⟩;have na:¬B.F0 a:=λz=>R.f0 a z e3;have rr:xZ (λc=>B.F0 c\/c=a) H ts ws:=wk (λc o e n=>⟨e,λz=>n (z.elim .inl λz=>.inr ⟨i,by rw[z];exact e2⟩)⟩) _ _ r;exact⟨_,e1,e.rt (.lst ts) _ H ⟨a,ws,rfl,na,e4,wk (λc o e n=>⟨e,λz=>n (.inl z)⟩) _ _ rr⟩ R.extB hd λ_=>⟨a,ts,ws,rfl,rfl,e3,e4,rr⟩⟩
 |_=>exact λz _=>z.elim
def zb {c:TT}{a b:TS}{dc:DT}{da db:DS}(hc:OkT K c dc)(ha:zi K fr a da)(hb:zi K fr b db):zi K fr (EO c a b) (sIf dc da db):=λB φ σ τ H E G R hd e=>
 hc B φ σ τ H _ _ R hd λk H1 x1 k1=>by
  cases k with
  |true=>exact vW (ha B φ σ τ H1 E G (R.hx x1) k1 e)
  |false=>exact vc (hb B φ σ τ H1 E G (R.hx x1) k1 e)
def yL {i:Nat}{te:TE}{d:DE}(h:xJ K true te d):zi K fr (jc te (vV i)) (Eh i d):=λB φ σ τ H E G R hd e=>h B φ σ τ H _ _ R hd λt v H1 x1 k1 r1=>e.nx _ _ _ H1 ((R.hx x1).setFz r1) k1
def qA {i:Nat}{te:TE}{d:DE}(h:zF K te d):zi K fr (jc te (vV i)) (NL i d):=λB φ σ τ H E G R hd e=>
 h B φ σ τ H _ _ R hd λts a ws H1 x1 k1 h1 h2 h3=>by
  have z0:B.H0 a=none:=by
   cases q:B.H0 a with
   |none=>rfl
   |some o=>
    by_cases s:B.S0 a
    .exact absurd h1 (R.sst a (.inl s)).ne_none
    .rw[R.ext a o q s] at h1;cases h1
  refine e.nx _ _ _ H1 (R.setNew (x:=.ow ts) x1 h1 (by rw[h2];exact⟨(λz=>nomatch z),λ_ z=>nomatch z⟩) (λz=>nomatch z) ⟨a,ws,rfl,pF,z0,h2,wk (λc o e n=>⟨e,λz=>n ?_⟩) _ _ h3⟩) k1;rcases z with z|⟨j,z⟩
  .exact .inl (.inl z)
  .rcases gy z with ⟨_,z⟩|⟨_,z⟩
   .exact .inr z
   .exact .inl (.inr ⟨j,z⟩)
def qz {te:TE}{g:TG}{d:DE}{dg:DG}(h:xJ K true te d)(hg:OkG K g dg):zi K fr (jc te g) (D_ d dg):=λB φ σ τ H E G R hd e=>h B φ σ τ H _ _ R hd λt v H1 x1 k1 r1=>hg B φ σ τ H1 t v _ _ (R.hx x1) r1 k1 λφ' σ' τ' H' R' _ _ k=>e.nx φ' σ' τ' H' R' k
def kb {i j:Nat}{ta:TA}{da:DA}{n:Nat}(h:OkA K true n ta da):zi K fr (E3 i j ta) (NK i j da):=λB φ σ τ H E G R hd e=>
 h B φ σ τ H _ _ R hd λts vs H1 x1 k1 l1 r1=>by
  cases ts with
  |nil=>exact k1.elim
  |cons t ts=>
   cases ts with
   |nil=>exact k1.elim
   |cons u ts=>
    cases ts with
    |cons _ _=>exact k1.elim
    |nil=>obtain⟨v,w,rfl,h1,h2⟩:=tO r1;exact⟨v,w,rfl,e.nx _ _ _ H1 (((R.hx x1).setFz h1).setFz (wa (λa o e n=>⟨e,λz=>n (kH z)⟩) _ _ h2)) k1⟩
def CU {b:Bool}{te:TE}{d:DE}(h:xJ K b te d):zi K fr (dn te) (NG d):=λB φ σ τ H E G R hd e=>h B φ σ τ H _ _ R hd λt v H1 x1 k1 r1=>e.nx φ σ τ H1 (R.hx x1) k1
theorem k7 {i:Nat}{te:TE}{d:DE}(h:xJ K true te d):zi K fr (dn (tBM K "list" Dr (wK i) (wW te vI))) (D9 i d):=λB φ σ τ H E G R hd e=>by
 have en:=R.ent i;unfold D9 at hd;revert en hd;cases hi:yg τ i with
 |ow ts=>intro hd ⟨a,ws,e1,e2,e3,e4,r⟩;refine⟨_,e1,.inl ⟨rfl,_,ye.of e4⟩,h B φ σ τ H _ _ R hd λt v H1 x1 k1 r1=>?_⟩;obtain⟨ws',f4,f5,_⟩:=sQ R x1 hi e1;exact⟨a,ws',v,rfl,rfl,f4,by rw[<-f5.len];exact k1.1,e.nx φ σ _ _ ((R.hx x1).wrOw hi e1 (f5.app (show xZ _ _ [t] [v] from⟨v,[],rfl,r1,rfl⟩))) k1.2⟩
 |_=>exact λz _=>z.elim
theorem LN {i:Nat}{a:TS}{da:DS}(h:zi K fr a da):zi K fr a (Eb i da):=λB φ σ τ H E G R hd e=>by
 unfold Eb at hd;revert hd;cases hi:yg τ i with
 |ow ts=>exact λhd=>h B _ σ _ H E G (R.freeze hi) hd e
 |_=>exact λz=>z.elim
end
abbrev DI:=xQ->(List Tr->Prop)->Prop
def aR (H H':Hp):Prop:=H'=H\/∃q o,H q=none/\H'=upd H q o
structure ItC (F S:Addr->Prop)(J:It)(ts:List Tr)(Src:Hp->Prop):Prop where
 stab:∀H H',Src H->(∀a o,H a=some o->¬S a->H' a=some o)->Src H'
 go:∀i H,Src H->i<ts.length->J.go i H
 stop:∀H,Src H->J.stop ts.length H
 yld:∀i H x H',Src H->(∀a,F a->NT (H a))->i<ts.length->J.yld i H x H'->aR H H'/\∃t,ts[i]?=some t/\Rep F H' t x
structure ItL (J:It)(ts:List Tr)(G:List (Tr×V)):Prop where
 go:∀F H i,(∀p∈G,Rep F H p.1 p.2)->i<ts.length->J.go i H
 stop:∀F H,(∀p∈G,Rep F H p.1 p.2)->J.stop ts.length H
 yld:∀F i H x H',(∀p∈G,Rep F H p.1 p.2)->(∀a,F a->NT (H a))->i<ts.length->J.yld i H x H'->aR H H'/\∃t,ts[i]?=some t/\Rep F H' t x
def ItL.c {J:It}{ts:List Tr}{G:List (Tr×V)}(h:ItL J ts G){F S:Addr->Prop}(hS:∀a,S a->F a):ItC F S J ts (λH=>∀p∈G,Rep F H p.1 p.2) where
 stab:=λH H' s k p hp=>wa (λa o e n=>⟨k a o e λz=>n (hS a z),n⟩) _ _ (s p hp)
 go:=λi H s hi=>h.go F H i s hi
 stop:=λH s=>h.stop F H s
 yld:=λi H x H' s d hi y=>h.yld F i H x H' s d hi y
def OkI (K:xo)(b:Bool)(wi:TI)(d:DI):Prop:=∀(B:FB) (φ:yX) (σ:St) (τ:xQ) (H:Hp) (R:It->Hp->Prop) (KK:List Tr->Prop),RS K B φ σ τ H->d τ KK->
 (∀J ts G H',HX B φ τ H H'->KK ts->ItL J ts G->(∀p∈G,Rep (AvB b B φ τ) H' p.1 p.2)->R J H')->wi σ H R
def g6 (K:xo)(wi:TI)(d:DI):Prop:=∀(B:FB) (φ:yX) (σ:St) (τ:xQ) (H:Hp) (R:It->Hp->Prop) (KK:List Tr->Prop),RS K B φ σ τ H->d τ KK->
 (∀J ts Src H',HX B φ τ H H'->KK ts->ItC (Av B φ) (SA B φ τ) J ts Src->Src H'->R J H')->wi σ H R
section
variable {K:xo} {B:FB} {φ:yX} {σ:St} {τ:xQ} {H H' H'':Hp} {fr:Bool}
theorem OkI.c {wi:TI}{d:DI}(h:OkI K true wi d):g6 K wi d:=λB φ σ τ H R KK Rs hd q=>h B φ σ τ H R KK Rs hd λJ ts G H' x k i s=>q J ts _ H' x k (i.c λa z=>Rs.sAv z) s
def Ji (d:DE):DI:=λτ KK=>d τ λx=>match x with|.tup ts=>KK ts|.lst ts=>KK ts|_=>False
def Jx {a:Addr}{ts:List Tr}:ItL (Itl K a) ts [(.lst ts,.ref a)] where
 go:=λF H i s hi=>by obtain⟨a',ws,e,n,h,r⟩:=s _ xS;cases e;obtain⟨w,e1,_⟩:=r.getT (ze hi);exact⟨ws,w,ye.of h,e1⟩
 stop:=λF H s=>by obtain⟨a',ws,e,n,h,r⟩:=s _ xS;cases e;exact⟨ws,ye.of h,by rw[<-r.len];exact xY _⟩
 yld:=λF i H x H' s d hi y=>by obtain⟨a',ws,e,n,h,r⟩:=s _ xS;cases e;obtain⟨rfl,y⟩:=y;obtain⟨t,e1,e2⟩:=r.get (y ws (ye.of h));exact⟨.inl rfl,t,e1,e2⟩
def Jz {a:Addr}{ts:List Tr}:ItL (Itt K a) ts [(.tup ts,.ref a)] where
 go:=λF H i s hi=>by obtain⟨a',ws,e,n,h,r⟩:=s _ xS;cases e;obtain⟨w,e1,_⟩:=r.getT (ze hi);exact⟨ws,w,yy.of h,e1⟩
 stop:=λF H s=>by obtain⟨a',ws,e,n,h,r⟩:=s _ xS;cases e;exact⟨ws,yy.of h,by rw[<-r.len];exact xY _⟩
 yld:=λF i H x H' s d hi y=>by obtain⟨a',ws,e,n,h,r⟩:=s _ xS;cases e;obtain⟨rfl,y⟩:=y;obtain⟨t,e1,e2⟩:=r.get (y ws (yy.of h));exact⟨.inl rfl,t,e1,e2⟩
def br (i:Nat):DI:=λτ KK=>match yg τ i with|.ow ts=>KK ts|_=>False
theorem LK {i:Nat}:g6 K (Jg K (wK i)) (br i):=λB φ σ τ H R KK Rs hd q=>by
 have en:=Rs.ent i;unfold br at hd;revert en hd;cases hi:yg τ i with
 |ow ts=>
  intro hd ⟨a,ws,e1,e2,e3,e4,r⟩;refine⟨_,e1,a,rfl,⟨ws,ye.of e4⟩,q _ ts (λH=>H a=some (.lst ws)/\xZ (Av B φ) H ts ws) H (HX.refl Rs) hd ⟨?_,?_,?_,?_⟩ ⟨e4,r⟩⟩
  .intro H1 H2 ⟨s1,s2⟩ k;exact⟨k a _ s1 λz=>C5 Rs hi e2 e3 (.inr z),wk (λc o e n=>⟨k c o e λz=>n (Rs.sAv z),n⟩) _ _ s2⟩
  .intro j H1 ⟨s1,s2⟩ hj;obtain⟨w,f1,_⟩:=s2.getT (ze hj);exact⟨ws,w,ye.of s1,f1⟩
  .intro H1 ⟨s1,s2⟩;exact⟨ws,ye.of s1,by rw[<-s2.len];exact xY _⟩
  .intro j H1 x H2 ⟨s1,s2⟩ _ hj ⟨f,y⟩;subst f;obtain⟨t,g1,g2⟩:=s2.get (y ws (ye.of s1));exact⟨.inl rfl,t,g1,g2⟩
 |_=>exact λz _=>z.elim
def fY (lo:Int)(n:Nat):List Tr:=(List.range n).map λ(k:Nat)=>Tr.int (lo+k)
def jH (lo:Int)(n:Nat):(fY lo n).length=n:=by unfold fY;rw[xX,List.length_range]
def pP {lo:Int}{n i:Nat}(h:i<n):(fY lo n)[i]?=some (.int (lo+i)):=by unfold fY;rw[uN,List.getElem?_range h];rfl
def Jy {lo:Int}{n:Nat}:ItL (Itr lo n) (fY lo n) [] where
 go:=λF H i s hi=>by rw[jH] at hi;exact hi
 stop:=λF H s=>by rw[jH];exact xY _
 yld:=λF i H x H' s d hi y=>by rw[jH] at hi;obtain⟨rfl,rfl⟩:=y;exact⟨.inl rfl,_,pP hi,rfl⟩
def Jh (d:DA):DI:=λτ KK=>d τ λxs=>match xs with|[.int j]=>(-(2^62)<=j/\j<2^62)/\KK (fY 0 j.toNat)|_=>False
def tj {b:Bool}{n:Nat}{ta:TA}{da:DA}(h:OkA K b n ta da):OkI K true (BX ta) (Jh da):=λB φ σ τ H R KK Rs hd q=>
 h B φ σ τ H _ _ Rs hd λts vs H1 x1 k1 l1 r1=>by
  split at k1
  .rename_i j;obtain⟨v,rfl,e⟩:=vH r1;exact⟨j,by rw[show v=.int j from e],k1.1.1,k1.1.2,q _ _ [] H1 x1 k1.2 Jy λp hp=>absurd hp (by simp)⟩
  .exact k1.elim
def kJ (dg:DG)(body:DS)(G:qo):List Tr->xQ->Prop
 |[],τ=>G.nx τ
 |x::xs,τ=>dg x τ λτ'=>body {G with nx:=kJ dg body G xs,ct:=kJ dg body G xs,bk:=G.nx} τ'
def pR (di:DI)(dg:DG)(body:DS):DS:=λG τ=>di τ λxs=>kJ dg body G xs τ
def FB.more (B:FB)(G:List (Tr×V)):FB:={B with G0:=G++B.G0}
theorem RS.more (R:RS K B φ σ τ H){G:List (Tr×V)}(h:∀p∈G,Rep (Av B φ) H p.1 p.2):RS K (B.more G) φ σ τ H:=⟨R.fN,R.s0,R.ext,R.sst,R.injG,R.oN,R.len,R.ent,λp hp=>(xU.mp hp).elim (h p) (R.gh p)⟩
def RS.less {G:List (Tr×V)}(R:RS K (B.more G) φ σ τ H):RS K B φ σ τ H/\∀p∈G,Rep (Av B φ) H p.1 p.2:=⟨⟨R.fN,R.s0,R.ext,R.sst,R.injG,R.oN,R.len,R.ent,λp hp=>R.gh p (zf _ hp)⟩,λp hp=>R.gh p (yF _ hp)⟩
def aR.hx (R:RS K B φ σ τ H)(g:aR H H'):HX B φ τ H H':=by
 rcases g with rfl|⟨q,o,e,rfl⟩
 .exact HX.refl R
 .exact HX.new R e o
def wB {wi:TI}{g:TG}{tb:TS}{di:DI}{dg:DG}{db:DS}(hi:OkI K true wi di)(hg:OkG K g dg)(hb:zi K fr tb db):zi K fr (EN wi g tb) (pR di dg db):=λB φ σ τ H E G R hd e=>
 hi B φ σ τ H _ _ R hd λJ ts Gh H1 x1 k1 it gh=>by
  let W:Nat->St->Hp->Prop:=λi σ' H'=>i<=ts.length/\∃ φ' τ',RS K (B.more Gh) φ' σ' τ' H'/\kJ dg db G (ts.drop i) τ'
  refine⟨λi m σ' H'=>m=ts.length-i/\W i σ' H',⟨_,rfl,ji _,φ,τ,(R.hx x1).more gh,k1⟩,?_⟩;rintro i m σ' H' ⟨rfl,hle,φ',τ',R',f⟩;obtain⟨R0,g0⟩:=R'.less;by_cases hlt:i<ts.length
  .refine .inr ⟨it.go _ H' i g0 hlt,W (i+1),λσ2 H2 w=>⟨_,by lia,rfl,w⟩,λx H2 y=>?_⟩;obtain⟨gr,t,ht,rt⟩:=it.yld _ i H' x H2 g0 (λa z=>R0.nt z) hlt y;have hx:=gr.hx R';have R2:=R'.hx hx;have ed:ts.drop i=t::ts.drop (i+1):=by rw[aI hlt];rw[ze hlt] at ht;cases ht;rfl
   rw[ed] at f;refine hg (B.more Gh) φ' σ' τ' H2 t x _ _ R2 rt f λφ3 σ3 τ3 H3 R3 _ _ k3=>?_;exact hb (B.more Gh) φ3 σ3 τ3 H3 _ _ R3 k3 ⟨λφ4 σ4 τ4 H4 R4 k4=>⟨hlt,φ4,τ4,R4,k4⟩,λφ4 σ4 τ4 H4 R4 k4=>e.nx φ4 σ4 τ4 H4 R4.less.1 k4,λφ4 σ4 τ4 H4 R4 k4=>⟨hlt,φ4,τ4,R4,k4⟩,λt v H r x k f=>e.rt t v H r ⟨x.ext,x.st⟩ k f⟩
  .have ei:i=ts.length:=by lia
   subst ei;rw[FA] at f;exact .inl ⟨it.stop _ H' g0,e.nx φ' σ' τ' H' R0 f⟩
def gE (c:DT)(body:DS)(G:qo):Nat->xQ->Prop
 |0,_=>False
 |n+1,τ=>c τ λb=>if b=true then body {G with nx:=gE c body G n,ct:=gE c body G n,bk:=G.nx} τ else G.nx τ
def Ek (c:DT)(body:DS):DS:=λG τ=>∃n,gE c body G n τ
theorem sN {c:TT}{tb:TS}{dc:DT}{db:DS}(hc:OkT K c dc)(hb:zi K fr tb db):zi K fr (E7 c tb) (Ek dc db):=λB φ σ τ H E G R hd e=>by
 obtain⟨n,hd⟩:=hd;refine⟨λm σ' H'=>∃ φ' τ',RS K B φ' σ' τ' H'/\gE dc db G m τ',⟨n,φ,τ,R,hd⟩,?_⟩;rintro m σ' H' ⟨φ',τ',R',f⟩;cases m with
 |zero=>exact f.elim
 |succ m=>
  refine hc B φ' σ' τ' H' _ _ R' f λb H1 x1 k1=>?_;cases b with
  |true=>refine vW ⟨λσ2 H2=>∃ φ2 τ2,RS K B φ2 σ2 τ2 H2/\gE dc db G m τ2,λσ2 H2 w=>⟨m,by lia,w⟩,?_⟩;exact hb B φ' σ' τ' H1 _ _ (R'.hx x1) k1 ⟨λφ4 σ4 τ4 H4 R4 k4=>⟨φ4,τ4,R4,k4⟩,λφ4 σ4 τ4 H4 R4 k4=>e.nx φ4 σ4 τ4 H4 R4 k4,λφ4 σ4 τ4 H4 R4 k4=>⟨φ4,τ4,R4,k4⟩,e.rt⟩
  |false=>exact vc (e.nx φ' σ' τ' H1 (R'.hx x1) k1)
def kI (dg:DG)(dc:DT)(de:DE)(τi:xQ)(KK:List Tr->Prop):List Tr->List Tr->Prop
 |[],acc=>KK acc
 |x::xs,acc=>dg x τi λτ2=>dc τ2 λb=>if b=true then de τ2 λy=>kI dg dc de τi KK xs (acc++[y]) else kI dg dc de τi KK xs acc
def BZ:TV->TV
 |.ow _=>.un
 |.od _=>.un
 |x=>x
def qw (xy:List (Option Nat))(τ:xQ):xQ:=xy.map λo=>match o with|some j=>BZ (yg τ j)|none=>.un
def HA (xy:List (Option Nat))(di:DI)(dg:DG)(dc:DT)(de:DE):DE:=λτ KK=>di τ λxs=>xs.length<sizeLine/\kI dg dc de (qw xy τ) (λys=>KK (.lst ys)) xs []
def sf:DT:=λ_ KK=>KK true
def v7:OkT K EV sf:=λB φ σ τ H Q KK R hd q=>q true H (HX.refl R) hd
def FB.inner (B:FB)(φ:yX)(τ:xQ)(H:Hp):FB:=⟨Av B φ,SA B φ τ,H,[]⟩
def hX (xy:List (Option Nat))(φ:yX)(τ:xQ):yX:=λi=>match xy[i]? with|some (some j)=>(match yg τ j with|.st=>φ j|_=>none)|_=>none
def CK {xy:List (Option Nat)}:∀ {i:Nat},yg (qw xy τ) i=match xy[i]? with|some (some j)=>BZ (yg τ j)|_=>.un:=by
 intro i;by_cases h:i<xy.length
 .have h':i<(qw xy τ).length:=by unfold qw;rw[xX];exact h
  rw[rT h',ze h];simp only[qw,List.getElem_map];cases xy[i]<;>rfl
 .rw[kU (by unfold qw;rw[xX];lia),ib (by lia)]
def rH {xy:List (Option Nat)}{i j:Nat}{v:V}(h:xy[i]?=some (some j))(e:σ[j]?=some (some v)):(wd xy σ)[i]?=some (some v):=by unfold wd;rw[uN,h];simp only[Option.map_some,e,FQ]
theorem RS.inner {xy:List (Option Nat)}(R:RS K B φ σ τ H):RS K (B.inner φ τ H) (hX xy φ τ) (wd xy σ) (qw xy τ) H:=by
 have hphi:∀i a,hX xy φ τ i=some a->∃j,xy[i]?=some (some j)/\yg τ j=.st/\φ j=some a:=λi a e=>by
  unfold hX at e;split at e
  .rename_i j hj;split at e
   .rename_i hs;exact⟨j,hj,hs,e⟩
   .cases e
  .cases e
 have hav:∀a,Av (B.inner φ τ H) (hX xy φ τ) a->Av B φ a:=λa z=>by
  rcases z with z|⟨i,z⟩
  .exact z
  .obtain⟨j,_,_,e⟩:=hphi i a z;exact .inr ⟨j,e⟩
 refine⟨λa z=>R.nt z,λa z=>R.sAv z,λa o e _=>e,λa s=>?_,λi j a hi e1 _=>?_,λi a e=>?_,?_,λi=>?_,λp hp=>absurd hp (by simp[FB.inner])⟩
 .rcases s with s|⟨i,s,_⟩
  .exact R.sst a s
  .obtain⟨j,_,hs,e⟩:=hphi i a s;exact R.sst a (.inr ⟨j,e,hs⟩)
 .exfalso;rw[CK] at hi;split at hi
  .rename_i j hj;revert hi;cases yg τ j<;>intro hi<;>exact hi.elim
  .exact hi.elim
 .obtain⟨j,_,_,e⟩:=hphi i a e;exact R.oN j a e
 .unfold wd qw;rw[xX,xX]
 .rw[CK];split
  .rename_i j hj;have en:=R.ent j;cases hn:yg τ j with
   |un=>trivial
   |ow ts=>trivial
   |od ks=>trivial
   |fz t=>rw[hn] at en;obtain⟨v,e,r⟩:=en;exact⟨v,rH hj e,wa (λa o e n=>⟨e,λz=>n (hav a z)⟩) _ _ r⟩
   |st=>rw[hn] at en;obtain⟨p,e1,e2,e3⟩:=en;refine⟨p,rH hj e1,?_,.inl (.inr ⟨j,e2,hn⟩)⟩;unfold hX;simp only[hj,hn];exact e2
   |sc ns=>rw[hn] at en;obtain⟨a,e,l,q⟩:=en;exact⟨a,rH hj e,l,q⟩
   |ob a=>rw[hn] at en;exact rH hj en
  .trivial
def uW {wi:TI}{xy:List (Option Nat)}{g:TG}{tc:TT}{te:TE}{di:DI}{dg:DG}{dc:DT}{de:DE}{b:Bool}(hi:g6 K wi di)(hg:OkN K g dg)(hc:OkT K tc dc)(he:xJ K b te de) :
  zF K (lB wi xy g tc te) (HA xy di dg dc de):=λB φ σ τ H Q KK R hd q=>
 hi B φ σ τ H _ _ R hd λJ ts Src H1 x1 k1 it s1=>by
  refine⟨λi m ys H'=>m=ts.length-i/\i<=ts.length/\ys.length<=i/\HX B φ τ H H'/\Src H'/\∃acc,xZ (Av B φ) H' acc ys/\kI dg dc de (qw xy τ) (λys=>KK (.lst ys)) (ts.drop i) acc,⟨_,rfl,ji _,ji _,x1,s1,[],rfl,k1.2⟩,?_⟩;rintro i m ys H' ⟨rfl,hle,hys,x,s,acc,ra,f⟩;have R':=R.hx x;by_cases hlt:i<ts.length
  .refine .inr ⟨it.go i H' s hlt,by have:=k1.1;lia,λv H2 y=>?_⟩;obtain⟨gr,t,ht,rt⟩:=it.yld i H' v H2 s (λa z=>R'.nt z) hlt y;have hx:=gr.hx R';have R2:=R'.hx hx;have ed:ts.drop i=t::ts.drop (i+1):=by rw[aI hlt];rw[ze hlt] at ht;cases ht;rfl
   rw[ed] at f;refine hg (B.inner φ τ H2) _ _ _ H2 (Av B φ) t v _ _ R2.inner (λa z=>?_) rt f λφ3 σ3 τ3 R3 ha k3=>?_
   .rcases z with z|⟨j,z⟩
    .exact z
    .unfold hX at z;split at z
     .split at z
      .exact .inr ⟨_,z⟩
      .cases z
     .cases z
   have hsa:∀a,SA (B.inner φ τ H2) φ3 τ3 a->SA B φ τ a:=λa z=>by
    rcases z with z|⟨j,z,hj⟩
    .exact z
    .have en:=R3.ent j;rw[hj] at en;obtain⟨p,e1,e2,e3⟩:=en;rw[z] at e2;cases e2;rcases e3 with e3|e3
     .exact e3
     .exact absurd e3 (R3.sst a (.inr ⟨j,z,hj⟩)).ne_none
   have hxo:∀ {H3 H4:Hp},HX (B.inner φ τ H2) φ3 τ3 H3 H4->HX B φ τ H3 H4:=λ {H3 H4} h=>⟨λa o e n=>h.keep a o e λz=>n (hsa a z),λa z=>h.st a (.inl z)⟩
   refine hc _ φ3 σ3 τ3 H2 _ _ R3 k3 λc H3 x3 k4=>?_;have x23:=hxo x3;have s3:=it.stab _ _ (it.stab _ _ s λa o e n=>hx.keep a o e n) λa o e n=>x23.keep a o e n;cases c with
   |false=>refine vc ⟨_,by lia,rfl,hlt,by lia,(x.trans hx).trans x23,s3,acc,(hx.trans x23).repL (λa z=>R.sAv z) ra,?_⟩;simpa using k4
   |true=>
    refine vW (he _ φ3 σ3 τ3 H3 _ _ (R3.hx x3) k4 λu w H4 x4 k5 r5=>?_);have x34:=hxo x4;refine⟨_,by lia,rfl,hlt,by rw[za,vm];lia,((x.trans hx).trans x23).trans x34,it.stab _ _ s3 λa o e n=>x34.keep a o e n,acc++[u],(((hx.trans x23).trans x34).repL (λa z=>R.sAv z) ra).app (show xZ _ _ [u] [w] from⟨w,[],rfl,?_,rfl⟩),k5⟩;refine wa (λa o e n=>⟨e,λz=>n ?_⟩) _ _ r5;cases b with
    |true=>exact .inl z
    |false=>exact .inl z
  .have ei:i=ts.length:=by lia
   subst ei;rw[FA] at f;refine .inl ⟨it.stop H' s,λp hp=>q acc p ys _ (x.trans (HX.new R' hp _)) f (x.none hp) yU (jF hp ra)⟩
end
def startT (N:List Str):Bool->List Tr->xQ
 |true,ts=>.st::(ts.map TV.fz++List.replicate (N.length-(ts.length+1)) .un)
 |false,ts=>ts.map TV.fz++List.replicate (N.length-ts.length) .un
def bL {ts:List Tr}{n i:Nat}{x:TV}(h:yg (ts.map TV.fz++List.replicate n .un) i=x):x=.un\/∃t,ts[i]?=some t/\x=.fz t:=by
 by_cases hi:i<ts.length
 .right;rw[rT (by simp;lia),List.getElem_append_left (by simpa using hi),List.getElem_map] at h;exact⟨_,ze hi,h.symm⟩
 .left;by_cases h2:i<ts.length+n
  .rw[rT (by simp;lia),List.getElem_append_right (by simp;lia),List.getElem_replicate] at h;exact h.symm
  .rw[kU (by simp;lia)] at h;exact h.symm
def me {N:List Str}{vs:List V}{i:Nat}{v:V}(h:vs[i]?=some v):(start N vs)[i]?=some (some v):=by unfold start;have hi:=(zP.mp h).1;rw[FE (by simpa using hi),uN,h];rfl
def lz {N:List Str}{vs:List V}(h:vs.length<=N.length):(start N vs).length=N.length:=by unfold start;rw[za,xX,ig];lia
section
variable {P:Program} {w:World} {K:xo} {mg:Str->Option Value} {base:Heap} {k n:Nat} {x qual:Str} {st:Stmt} {f:Addr} {fd:FuncData} {N ps:List Str} {fr:Bool} {sp:ym}
def NC {F S:Addr->Prop}{H:Hp}{ts:List Tr}{us:List V}(hF:∀a,F a->NT (H a))(hS:∀a,S a->F a)(hst:∀a,S a->u7 a H)(r:xZ F H ts us)(hl:ts.length<=N.length) :
  RS K ⟨F,S,H,[]⟩ (λ_=>none) (start N us) (startT N false ts) H where
 fN:=hF
 s0:=hS
 ext:=λa o e _=>e
 sst:=λa s=>by
  rcases s with s|⟨i,s,_⟩
  .exact hst a s
  .cases s
 injG:=λi j a _ e=>by cases e
 oN:=λi a e=>by cases e
 len:=by have:=r.len;rw[lz (by lia)];simp[startT];lia
 ent:=λi=>by
  rcases bL (ts:=ts) (n:=N.length-ts.length) (i:=i) rfl with e|⟨t,h,e⟩
  .show Ent K _ _ H i _ (yg (ts.map TV.fz++List.replicate (N.length-ts.length) .un) i);rw[e];trivial
  .show Ent K _ _ H i _ (yg (ts.map TV.fz++List.replicate (N.length-ts.length) .un) i);rw[e];obtain⟨v,e1,e2⟩:=r.getT h;exact⟨v,me e1,wa (λa o e n=>⟨e,λz=>n (z.elim id λ⟨_,z⟩=>nomatch z)⟩) _ _ e2⟩
 gh:=λp hp=>absurd hp (by simp)
def ND {F S:Addr->Prop}{H:Hp}{ts:List Tr}{us:List V}{p:Addr}(hp:S p)(hF:∀a,F a->NT (H a))(hS:∀a,S a->F a)(hst:∀a,S a->u7 a H)(r:xZ F H ts us)(hl:ts.length+1<=N.length) :
  RS K ⟨F,S,H,[]⟩ (λi=>if i=0 then some p else none) (start N (.ref p::us)) (startT N true ts) H where
 fN:=hF
 s0:=hS
 ext:=λa o e _=>e
 sst:=λa s=>by
  rcases s with s|⟨i,s,_⟩
  .exact hst a s
  .have s:(if i=0 then some p else none)=some a:=s;by_cases e:i=0
   .rw[xD e] at s;cases s;exact hst _ hp
   .rw[xG e] at s;cases s
 injG:=λi j a hi e=>by
  exfalso;by_cases e0:i=0
  .subst e0;exact hi.elim
  .rw[xG e0] at e;cases e
 oN:=λi a e=>by
  by_cases e0:i=0
  .rw[xD e0] at e;cases e;exact(hst _ hp).nt
  .rw[xG e0] at e;cases e
 len:=by have:=r.len;rw[lz (by rw[uA];lia)];simp[startT];lia
 ent:=λi=>by
  cases i with
  |zero=>exact⟨p,me (by rfl),xD rfl,.inl hp⟩
  |succ i=>
   show Ent K _ _ H (i+1) _ (yg (ts.map TV.fz++List.replicate (N.length-(ts.length+1)) .un) i);rcases bL (ts:=ts) (n:=N.length-(ts.length+1)) (i:=i) rfl with e|⟨t,h,e⟩
   .rw[e];trivial
   .rw[e];obtain⟨v,e1,e2⟩:=r.getT h;refine⟨v,me (by rw[List.getElem?_cons_succ];exact e1),wa (λa o e n=>⟨e,λz=>n ?_⟩) _ _ e2⟩;rcases z with z|⟨j,z⟩
    .exact z
    .have z:(if j=0 then some p else none)=some a:=z;by_cases e0:j=0
     .rw[xD e0] at z;cases z;exact hS _ hp
     .rw[xG e0] at z;cases z
 gh:=λp hp=>absurd hp (by simp)
def C6 (F:Fun K x qual st f fd)(S:yj N ps (xH st))(mgx:mg x=some (.ref f))(b:Binds K fd ps [])(hn:ps.length=n)
  (body:∀(cdv:Value) (A:Around) (outer:List Env) (s:Shared) (H:Hp) (E:XK),zT k (A.deeper (envOfC qual (xH st) s.heap.objs.size f cdv))->∃T D,PSs (qt CX0 P w K mg base N qual (xH st) f cdv A outer s H E).nox (ug st) T/\zi K fr T D/\∀ts KK,ts.length=n->sp ts KK->D {nx:=λ_=>fr=false/\KK .non,rt:=KK} (startT N false ts)) :
  x_ P w K mg base (k+1) x ps (spT n false fr sp):=by
 have hpl:ps.length<=N.length:=by have:=zS List.length S.pre;rw[zQ] at this;lia
 refine sR F S mgx b (λvs H Q E h=>?_) (λcdv A outer s H vs Q E hr h=>?_)
 .obtain⟨F',S',ts,KK,us,e,_,_,_,r,l,_⟩:=h;cases (show vs=us from e);rw[<-r.len,l,hn]
 .obtain⟨F',S',ts,KK,us,e,hF,hS,hst,r,l,hsp,q⟩:=h;cases (show vs=us from e);obtain⟨T,D,ht,hd,h⟩:=body cdv A outer s H E hr;refine⟨T,ht,hd _ _ _ _ H _ _ (NC hF hS hst r (by lia)) (h ts KK l hsp) ⟨λφ σ τ H1 R k=>?_,λ_ _ _ _ _ z=>z.elim,λ_ _ _ _ _ z=>z.elim,λt v H1 r1 x k fl=>?_⟩⟩
  .obtain⟨k1,k2⟩:=k;exact q .non .non H1 k2 R.ext (λa z=>R.sst a (.inl z)) rfl λz=>by rw[k1] at z;cases z
  .exact q t v H1 k x.ext x.st r1 fl
def fL (F:Fun K x qual st f fd)(S:yj N ps (xH st))(mgx:mg x=some (.ref f))(b:Binds K fd ps [])(hn:ps.length=n+1)
  (body:∀(cdv:Value) (A:Around) (outer:List Env) (s:Shared) (H:Hp) (E:XK),zT k (A.deeper (envOfC qual (xH st) s.heap.objs.size f cdv))->∃T D,PSs (qt CX0 P w K mg base N qual (xH st) f cdv A outer s H E).nox (ug st) T/\zi K fr T D/\∀ts KK,ts.length=n->sp ts KK->D {nx:=λ_=>fr=false/\KK .non,rt:=KK} (startT N true ts)) :
  x_ P w K mg base (k+1) x ps (spT n true fr sp):=by
 have hpl:ps.length<=N.length:=by have:=zS List.length S.pre;rw[zQ] at this;lia
 refine sR F S mgx b (λvs H Q E h=>?_) (λcdv A outer s H vs Q E hr h=>?_)
 .obtain⟨F',S',ts,KK,us,⟨p,e,_⟩,_,_,_,r,l,_⟩:=h;rw[e,uA,<-r.len,l,hn]
 .obtain⟨F',S',ts,KK,us,⟨p,e,hp⟩,hF,hS,hst,r,l,hsp,q⟩:=h;subst e;obtain⟨T,D,ht,hd,h⟩:=body cdv A outer s H E hr;refine⟨T,ht,hd _ _ _ _ H _ _ (ND hp hF hS hst r (by lia)) (h ts KK l hsp) ⟨λφ σ τ H1 R k=>?_,λ_ _ _ _ _ z=>z.elim,λ_ _ _ _ _ z=>z.elim,λt v H1 r1 x k fl=>?_⟩⟩
  .obtain⟨k1,k2⟩:=k;exact q .non .non H1 k2 R.ext (λa z=>R.sst a (.inl z)) rfl λz=>by rw[k1] at z;cases z
  .exact q t v H1 k x.ext x.st r1 fl
def Gi (H:Hp):Prop:=∀b,(H b=none\/∃o xs,H b=some (.frz o (.lst xs)))\/∃q,H b=some (.tb q)
def dm (K:xo):Sp:=λvs H Q _=>∃(a:Addr) (ns:List Int),vs=[.ref a]/\(Gi H/\jo K H)/\ye K H a (ns.map V.int)/\ns.length<=63/\∀H',Q (.bl true) H'
def JO (F:Fun K x qual st f fd)(S:yj N ps (xH st))(hn:ps.length=1)
  (body:∀(cdv:Value) (A:Around) (outer:List Env) (s:Shared) (H:Hp) (E:XK),zT k (A.deeper (envOfC qual (xH st) s.heap.objs.size f cdv))->∃T D,PSs (qt CX0 P w K mg base N qual (xH st) f cdv A outer s H E).nox (ug st) T/\zi K false T D/\∀ns:List Int,ns.length<=63->D {nx:=λ_=>False,rt:=λt=>t=.bl true} (.sc ns::List.replicate (N.length-1) .un)) :
  ue P w K mg base CX0 (k+1) f fd ps (dm K):=by
 have hpl:ps.length<=N.length:=by have:=zS List.length S.pre;rw[zQ] at this;lia
 refine F.ok S (λvs H Q E h=>?_) (λcdv A outer s H vs Q E hr h=>?_)
 .obtain⟨a,ns,rfl,_⟩:=h;exact hn.symm
 .obtain⟨a,ns,rfl,⟨hO,hT⟩,hS,hl,q⟩:=h;obtain⟨T,D,ht,hd,h⟩:=body cdv A outer s H E hr;have so:aT K H a ns:=by
   refine⟨?_,hT⟩;rcases hS with (z|⟨o,z⟩)|z
   .exfalso;rcases hO a with (y|⟨o,xs,y⟩)|⟨_,y⟩
    .rw[y] at z;cases z
    .rw[y] at z;cases z
    .rw[y] at z;cases z
   .exact .inl ⟨o,z⟩
   .exact .inr λ_=>.inr z
  have R:RS K ⟨λ_=>False,λ_=>False,H,[]⟩ (λ_=>none) (start N [.ref a]) (.sc ns::List.replicate (N.length-1) .un) H:=by
   refine⟨λ_ z=>z.elim,λ_ z=>z,λ_ _ e _=>e,λa s=>?_,λi j a us _ e=>(by cases e),λi a e=>(by cases e),?_,λi=>?_,λp hp=>absurd hp (by simp)⟩
   .rcases s with s|⟨i,s,_⟩
    .exact s.elim
    .cases s
   .rw[lz (by simp;lia)];simp;lia
   .cases i with
    |zero=>exact⟨a,me rfl,hl,so⟩
    |succ i=>
     show Ent K _ _ H (i+1) _ (yg (List.replicate (N.length-1) .un) i);rcases bL (ts:=[]) (n:=N.length-1) (i:=i) rfl with e|⟨t,h,e⟩
     .rw[gN,vn] at e;rw[e];trivial
     .simp at h
  refine⟨T,ht,hd _ _ _ _ H _ _ R (h ns hl) ⟨λ_ _ _ _ _ z=>z.elim,λ_ _ _ _ _ z=>z.elim,λ_ _ _ _ _ z=>z.elim,λt v H1 r1 x k fl=>?_⟩⟩;cases (show t=.bl true from k);cases (show v=.bl true from r1);exact q H1
end
section
variable {K:xo} {fr:Bool}
def Ej (j i:Nat)(d:DE):DS:=λG τ=>match yg τ i with|.sc _=>d τ (λt=>match t with|.int k=>0<=k/\G.nx (τ.set j .st)|_=>False)|_=>False
theorem LU {b:Bool}{j i:Nat}{te:TE}{d:DE}(h:xJ K b te d):zi K fr (jc (ay (EA K) (wW (wK i) (wW te vI))) (vV j)) (Ej j i d):=λB φ σ τ H E G R hd e=>by
 have en:=R.ent i;unfold Ej at hd;revert en hd;cases hi:yg τ i with
 |sc ns=>
  intro hd ⟨a,e1,hl,so,_⟩;refine⟨_,e1,h B φ σ τ H _ _ R hd λt v H1 x1 k1 r1=>?_⟩;cases t with
  |int k=>
   cases (show v=.int k from r1);have sq:ye K H1 a (ns.map V.int):=by
    rcases so with ⟨o,q⟩|q
    .exact .inl (.inr ⟨o,x1.keep a _ q (bc R q)⟩)
    .exact q H1
   refine⟨a,ns,k,rfl,sq,hl,k1.1,λp n b hp hok=>?_⟩;have x2:=x1.trans (HX.new (R.hx x1) hp (.lst [.int n,.bl b]));have z0:B.H0 p=none:=by
    cases q:B.H0 p with
    |none=>rfl
    |some o=>
     by_cases s:B.S0 p
     .exact absurd hp ((R.hx x1).sst p (.inl s)).ne_none
     .rw[(R.hx x1).ext p o q s] at hp;cases hp
   refine e.nx _ _ _ _ (R.setNew (x:=.st) x2 (x1.none hp) (by rw[yU];exact⟨(λz=>nomatch z),λ_ z=>nomatch z⟩) (λ_=>⟨n,b,yU,hok⟩) ⟨p,rfl,pF,.inr z0⟩) k1.2
  |_=>exact k1.elim
 |_=>exact λz _=>z.elim
def c6:ym:=λts KK=>match ts with|[.int many]=>(0<many/\many<2^128)/\∀r,0<=r->r<many->KK (.int r)|_=>False
def OA {P:Program}{w:World}{mg:Str->Option Value}{base:Heap}{k:Nat}{x:Str}{ps:List Str}(h:x_ P w K mg base k x ps EB):x_ P w K mg base k x ps (spT 1 true false c6):=h.imp λvs H Q E q=>by
 obtain⟨F,S,ts,KK,us,⟨p,e,hp⟩,hF,hS,hst,r,l,hsp,q⟩:=q;unfold c6 at hsp;split at hsp
 .rename_i many;obtain⟨v,rfl,r1⟩:=vH r;cases (show v=.int many from r1);refine⟨p,many,e,hst p hp,hsp.1.1,hsp.1.2,λr H' h0 h1 sb=>q (.int r) (.int r) H' (hsp.2 r h0 h1) (λa o e n=>sb.keep a o (λz=>n (by rw[z];exact hp)) e) (λa s=>?_) rfl (λz=>nomatch z)⟩;by_cases ea:a=p
  .rw[ea];exact sb.st
  .obtain⟨n,b,e1,z⟩:=hst a s;exact⟨n,b,sb.keep a _ ea e1,z⟩
 .exact hsp.elim
end
mutual
def zN:Tr->PyData
 |.non=>.none|.bl b=>.bool b|.int i=>.int i|.str x=>.str x|.emp=>.dict []|.tup ts=>.tuple (wL ts)|.lst ts=>.list (wL ts)|.dic _ _ _=>.dict []
def wL:List Tr->List PyData
 |[]=>[]
 |t::ts=>zN t::wL ts
end
def zC (t u:Tr):Bool:=PyData.eqv (zN t) (zN u)
def pln (t:Tr):Bool:=(zN t).canLay0
def dep (t:Tr):Nat:=(zN t).depth
section
variable {X:Cx} {xg:List (Addr×Obj)} {σ:St} {H:Hp} {s:Shared}
mutual
theorem fW (I:Inv X xg σ H s){F:Addr->Prop}:∀(t:Tr) (x:V) (a:Value),Rep F H t x->RelV x a->pln t=true->∃as,Reads s.heap a (zN t) as
 |.non,x,a,r,e,_=>by cases (show x=.non from r);cases e;exact⟨_,.none⟩
 |.bl b,x,a,r,e,_=>by cases (show x=.bl b from r);cases e;exact⟨_,.bool b⟩
 |.int i,x,a,r,e,_=>by cases (show x=.int i from r);obtain⟨t,rfl⟩:=e;exact⟨_,.int i t⟩
 |.str i,x,a,r,e,_=>by cases (show x=.str i from r);obtain⟨t,rfl⟩:=e;exact⟨_,.str i t⟩
 |.emp,x,a,r,e,h=>by cases h
 |.dic _ _ _,x,a,r,e,h=>by cases h
 |.tup ts,x,a,r,e,h=>by obtain⟨p,ws,rfl,_,hp,rl⟩:=r;cases e;obtain⟨xj,rv,⟨o,ho,hc,n,hd⟩,_⟩:=I.tuple (yy.of hp);obtain⟨as,ra⟩:=sX I ts ws xj rl rv h;exact⟨_,.tuple ho hc hd (by simpa using ra)⟩
 |.lst ts,x,a,r,e,h=>by obtain⟨p,ws,rfl,_,hp,rl⟩:=r;cases e;obtain⟨xj,rv,pl,_⟩:=I.list (ye.of hp);obtain⟨o,ho,hc,n,hd⟩:=pl.isList;obtain⟨as,ra⟩:=sX I ts ws xj rl rv h;exact⟨_,.list ho hc hd (by simpa using ra)⟩
theorem sX (I:Inv X xg σ H s){F:Addr->Prop}:∀(ts:List Tr) (ws:List V) (us:List Value),xZ F H ts ws->x9 ws us->PyData.canLayAll0 (wL ts)=true->∃as,ReadsAll s.heap us (wL ts) as
 |[],ws,us,r,v,_=>by cases (show ws=[] from r);cases v;exact⟨_,.nil⟩
 |t::ts,ws,us,r,v,h=>by
  obtain⟨w,r',rfl,h1,h2⟩:=r;cases v with
  |cons v1 v2=>
   have h':pln t=true/\PyData.canLayAll0 (wL ts)=true:=by have:(pln t&&PyData.canLayAll0 (wL ts))=true:=h;simpa using this
   obtain⟨as,ra⟩:=fW I t w _ h1 v1 h'.1;obtain⟨bs,rb⟩:=sX I ts r' _ h2 v2 h'.2;exact⟨_,.cons ra rb⟩
end
end
def gY (t u:Tr):Prop:=pln t=true/\pln u=true/\min (dep t) (dep u)<=64
def Dt:R2:=λx y H Q=>∃F G t u,Rep F H t x/\Rep G H u y/\gY t u/\Q (.bl (zC t u)) H
def DJ:R2:=λx y H Q=>∃F G t u,Rep F H t x/\Rep G H u y/\gY t u/\Q (.bl (!zC t u)) H
section
variable {X:Cx}
def uk (hu:X.A.units+64<cLine):y9 X (compareOp .Eq) Dt:=by intro xg s σ H x y v u Q I rx ry h;obtain⟨F,G,t,t',r1,r2,⟨p1,p2,p3⟩,q⟩:=h;obtain⟨as,ra⟩:=fW I t x v r1 rx p1;obtain⟨bs,rb⟩:=fW I t' y u r2 ry p2;exact SeqAt.rcAt_reads ra rb p1 p2 (jT (FO p3 _) hu) X.prog X.w _ _ ⟨.bl _,H,I,rfl,q⟩
def vC (hu:X.A.units+64<cLine):y9 X (compareOp .NotEq) DJ:=by intro xg s σ H x y v u Q I rx ry h;obtain⟨F,G,t,t',r1,r2,⟨p1,p2,p3⟩,q⟩:=h;obtain⟨as,ra⟩:=fW I t x v r1 rx p1;obtain⟨bs,rb⟩:=fW I t' y u r2 ry p2;exact SeqAt.rcNeAt_reads ra rb p1 p2 (jT (FO p3 _) hu) X.prog X.w _ _ ⟨.bl _,H,I,rfl,q⟩
def Du (neg:Bool):R2:=λx y H Q=>∃F G t ts,Rep F H t x/\(Rep G H (.lst ts) y\/Rep G H (.tup ts) y)/\pln t=true/\PyData.canLayAll0 (wL ts)=true/\dep t<=60/\Q (.bl (if neg then !(ts.any λu=>zC u t) else ts.any λu=>zC u t)) H
theorem nj {h:Heap}{d0:PyData}(e:Value->Bool)(he:∀y d as,Reads h y d as->d.canLay0=true->e y=PyData.eqv d d0):∀(ts:List Tr) (us:List Value) (as:List Addr),ReadsAll h us (wL ts) as->PyData.canLayAll0 (wL ts)=true->us.any e=ts.any λu=>PyData.eqv (zN u) d0
 |[],us,as,r,_=>by cases r;rfl
 |t::ts,us,as,r,hl=>by
  have h':(zN t).canLay0=true/\PyData.canLayAll0 (wL ts)=true:=by have:((zN t).canLay0&&PyData.canLayAll0 (wL ts))=true:=hl;simpa using this
  generalize hg:wL (t::ts)=ds at r;cases r with
  |nil=>cases hg
  |cons r1 r2=>have e1:zN t=_:=(List.cons.inj hg).1;have e2:wL ts=_:=(List.cons.inj hg).2;subst e1 e2;rw[mD,mD,he _ _ _ r1 h'.1,nj e he ts _ _ r2 h'.2]
theorem Cw {h:Heap}{y:Value}:∀(ds:List PyData) (us:List Value) (as:List Addr),ReadsAll h us ds as->PyData.canLayAll0 ds=true->y∈us->∃d as,Reads h y d as/\d.canLay0=true
 |[],us,as,r,_,hm=>by cases r;exact absurd hm (by simp)
 |d::ds,us,as,r,hl,hm=>by
  have h':d.canLay0=true/\PyData.canLayAll0 ds=true:=by have:(d.canLay0&&PyData.canLayAll0 ds)=true:=hl;simpa using this
  cases r with
  |cons r1 r2=>
   rcases xR.mp hm with rfl|hm
   .exact⟨d,_,r1,h'.1⟩
   .exact Cw ds _ _ r2 h'.2 hm
open Classical in
def eBy (h:Heap)(d0:PyData)(y:Value):Bool:=if ∃d as,Reads h y d as/\d.canLay0=true/\PyData.eqv d d0=true then true else false
theorem nV {h:Heap}{d0:PyData}(y:Value)(d:PyData)(as:List Addr)(r:Reads h y d as)(hl:d.canLay0=true):eBy h d0 y=PyData.eqv d d0:=by
 unfold eBy;cases hq:PyData.eqv d d0 with
 |true=>rw[xD ⟨d,as,r,hl,hq⟩]
 |false=>rw[xG];rintro⟨d',as',r',hl',hq'⟩;have:=SeqAt.Reads.unique d d' y as as' hl r r';subst this;rw[hq] at hq';cases hq'
def C0 (hu:X.A.units+64<cLine):y9 X (compareOp .NotIn) (Du true):=by
 intro xg s σ H x y v u Q I rx ry h;obtain⟨F,G,t,ts,r1,r2,p1,p2,p3,q⟩:=h;obtain⟨as,ra⟩:=fW I t x v r1 rx p1;have room:∀d:PyData,X.A.in1.units+min d.depth (zN t).depth<cLine:=λd=>by have h1:min d.depth (zN t).depth<=60:=qj (iz _ _) p3;show X.A.units+1+_<_;lia
 have eqa:∀(ds:List PyData) (us:List Value) (bs:List Addr),ReadsAll s.heap us ds bs->PyData.canLayAll0 ds=true->∀z∈us,SeqAt.EqAt X.A.in1 s z v (eBy s.heap (zN t) z):=λds us bs rb hl z hz=>by obtain⟨d,cs,rd,hd⟩:=Cw ds us bs rb hl hz;rw[nV z d cs rd hd];exact SeqAt.eqAt_reads d (zN t) _ s z v _ _ rd ra hd p1 (room d)
 rcases r2 with r2|r2
 .obtain⟨p,ws,rfl,_,hp,rl⟩:=r2;cases ry;obtain⟨xj,rv,pl,_⟩:=I.list (ye.of hp);obtain⟨bs,rb⟩:=sX I ts ws xj rl rv p2;refine SeqAt.notIn_listAt (eBy s.heap (zN t)) pl.isList (λz hz=>eqa _ _ _ rb p2 z (by simpa using hz)) ⟨.bl _,H,I,?_,q⟩;show Value.bool _=Value.bool _;rw[xD rfl,show(ts.any λu=>zC u t)=xj.toArray.any (eBy s.heap (zN t)) from by rw[show(xj.toArray.any (eBy s.heap (zN t)))=xj.any (eBy s.heap (zN t)) by simp];exact(nj (eBy s.heap (zN t)) (λy d as r hl=>nV y d as r hl) ts xj bs rb p2).symm]
 .obtain⟨p,ws,rfl,_,hp,rl⟩:=r2;cases ry;obtain⟨xj,rv,pl,_⟩:=I.tuple (yy.of hp);obtain⟨bs,rb⟩:=sX I ts ws xj rl rv p2;refine SeqAt.notIn_tupleAt (eBy s.heap (zN t)) pl (λz hz=>eqa _ _ _ rb p2 z (by simpa using hz)) ⟨.bl _,H,I,?_,q⟩;show Value.bool _=Value.bool _;rw[xD rfl,show(ts.any λu=>zC u t)=xj.toArray.any (eBy s.heap (zN t)) from by rw[show(xj.toArray.any (eBy s.heap (zN t)))=xj.any (eBy s.heap (zN t)) by simp];exact(nj (eBy s.heap (zN t)) (λy d as r hl=>nV y d as r hl) ts xj bs rb p2).symm]
end
def sA (neg:Bool)(x y:Tr)(KK:Tr->Prop):Prop:=match x,y with
 |.int i,.int j=>KK (.bl (if neg then !decide (i=j) else decide (i=j)))
 |x,y=>gY x y/\KK (.bl (if neg then !zC x y else zC x y))
def Ih (i j:Int):gY (.int i) (.int j):=⟨rfl,rfl,by show min 0 0<=64;decide⟩
def Bq {neg:Bool}{x y:Tr}{KK:Tr->Prop}(h:sA neg x y KK):gY x y/\KK (.bl (if neg then !zC x y else zC x y)):=by
 unfold sA at h;split at h
 .exact⟨Ih _ _,h⟩
 .exact h
def os_eq:OpS Dt (sA false):=λF G H x y t u KK Q r1 r2 hf q=>by obtain⟨h1,h2⟩:=Bq hf;exact⟨F,G,t,u,r1,r2,h1,q _ _ rfl h2⟩
def vD:OpS DJ (sA true):=λF G H x y t u KK Q r1 r2 hf q=>by obtain⟨h1,h2⟩:=Bq hf;exact⟨F,G,t,u,r1,r2,h1,q _ _ rfl h2⟩
def fIn (neg:Bool)(x y:Tr)(KK:Tr->Prop):Prop:=match y with
 |.lst ts=>(pln x=true/\PyData.canLayAll0 (wL ts)=true/\dep x<=60)/\KK (.bl (if neg then !(ts.any λu=>zC u x) else ts.any λu=>zC u x))
 |.tup ts=>(pln x=true/\PyData.canLayAll0 (wL ts)=true/\dep x<=60)/\KK (.bl (if neg then !(ts.any λu=>zC u x) else ts.any λu=>zC u x))
 |_=>False
def C4 {neg:Bool}:OpS (Du neg) (fIn neg):=λF G H x y t u KK Q r1 r2 hf q=>by
 unfold fIn at hf;split at hf
 .exact⟨F,G,t,_,r1,.inl r2,hf.1.1,hf.1.2.1,hf.1.2.2,q _ _ rfl hf.2⟩
 .exact⟨F,G,t,_,r1,.inr r2,hf.1.1,hf.1.2.1,hf.1.2.2,q _ _ rfl hf.2⟩
 .exact hf.elim
end L2
namespace L2
open PySem PySem.Spec PyProof.Rows
def bj (K:xo)(tl:TE):TI:=λσ H R=>tl σ H λx H1=>∃a,x=.ref a/\(((∃xs,ye K H1 a xs)/\R (Itl K a) H1)\/((∃xs,yy K H1 a xs)/\R (Itt K a) H1))
section
variable {X:Cx}
def z_ (K:xo){tg l:Expr}{tl:TE}(hl:PE X l tl)(e:X.K=K:=by rfl):PI X tg l (bj K tl):=by
 subst e;intro xg s σ H R I h;refine xW (@hl xg s σ H _ I h) λv s1 ⟨x,H1,I1,r1,q1⟩=>?_;obtain⟨a,e,q⟩:=q1;subst e;cases r1;rcases q with ⟨⟨xs,hq⟩,q⟩|⟨⟨xs,hq⟩,q⟩
 .obtain⟨xj,rv,p,hz⟩:=I1.list hq;refine iG p.isList ?_;refine⟨s1.heap.objs.size,[s1.heap.objs.size],_,_,H1,rfl,I1.kept (t':=s1.toks) λb o e=>yQ _ e,OL a _,⟨_,zO _ rfl,rfl,rfl⟩,λb hb=>?_,q⟩;have e:b=s1.heap.objs.size:=by simpa using hb
  subst e;exact I1.fpOk (xY _) (I1.hok.fresh (xY _))
 .obtain⟨xj,rv,p,hz⟩:=I1.tuple hq;refine mM (show s1.heap.IsTuple a xj.toArray from p) ?_;refine⟨s1.heap.objs.size,[s1.heap.objs.size],_,_,H1,rfl,I1.kept (t':=s1.toks) λb o e=>yQ _ e,ON a _,⟨_,zO _ rfl,rfl,rfl⟩,λb hb=>?_,q⟩;have e:b=s1.heap.objs.size:=by simpa using hb
  subst e;exact I1.fpOk (xY _) (I1.hok.fresh (xY _))
end
section
variable {K:xo}
def we {b:Bool}{te:TE}{d:DE}(h:xJ K b te d):OkI K b (bj K te) (Ji d):=λB φ σ τ H R KK Rs hd q=>
 h B φ σ τ H _ _ Rs hd λt v H1 x1 k1 r1=>by
  cases t with
  |lst ts=>
   obtain⟨a,ws,e,n,ha,rl⟩:=id r1;subst e;exact⟨a,rfl,.inl ⟨⟨ws,ye.of ha⟩,q _ ts _ H1 x1 k1 Jx λp hp=>by cases yS.mp hp;exact r1⟩⟩
  |tup ts=>
   obtain⟨a,ws,e,n,ha,rl⟩:=id r1;subst e;exact⟨a,rfl,.inr ⟨⟨ws,yy.of ha⟩,q _ ts _ H1 x1 k1 Jz λp hp=>by cases yS.mp hp;exact r1⟩⟩
  |_=>exact k1.elim
def LL {i:Nat}:g6 K (bj K (wK i)) (br i):=λB φ σ τ H R KK Rs hd q=>by obtain⟨v,e,a,ea,s,r⟩:=LK (i:=i) B φ σ τ H R KK Rs hd q;exact⟨v,e,a,ea,.inl ⟨s,r⟩⟩
end
def Ite (K:xo)(b:Bool)(a:Addr):It:=
 ⟨λi H=>∃xs x,Sq2 K b H a xs/\xs[i]?=some x,λi H v H'=>∃x q,(∀xs,Sq2 K b H a xs->xs[i]?=some x)/\v=.ref q/\H q=none/\H'=upd H q (.tup [.int i,x]),λi H=>∃xs,Sq2 K b H a xs/\xs.length<=i⟩
theorem Inv.sq2_inj {X:Cx}{xg:List (Addr×Obj)}{σ:St}{H:Hp}{s:Shared}{b:Bool}{a:Addr}{xs ys:List V}(I:Inv X xg σ H s)(h:Sq2 X.K b H a xs)(h':Sq2 X.K b H a ys):xs=ys:=by
 cases b with
 |true=>exact I.tuple_inj (show yy X.K H a xs from h) h'
 |false=>exact I.list_inj (show ye X.K H a xs from h) h'
def HV {prog:Program}{w:World}{A:Around}{it a:Addr}{vs:List Value}{tn:Nat->Heap->Prop}{src:Heap->Prop}(D:Drw it a vs tn src)(hne:a≠it)(hh:A.handled=none) :
  Draws prog w A it [it,a] vs.length (λi x=>vs[i]?=some x) (λi h=>tn i h/\src h) where
 live:=λi h st=>let ⟨o,e,_⟩:=D.ob i h st.1;⟨o,e⟩
 frame:=λi h h' st k=>⟨D.mv _ _ _ st.1 (k it (by simp)),D.smv _ _ st.2 (k a (by simp))⟩
 item:=λi s Q E hi st hQ=>D.item prog w A E i vs[i] s Q st.1 st.2 (ze hi) λh' t' sb=>hQ _ h' s.toks (ze hi) ⟨t',D.smv _ _ st.2 λo e=>sb.extBut _ o hne e⟩ sb
 done:=λs Q E st hE=>D.fin prog w A E vs.length s Q hh st.1 st.2 (ib (xY _)) hE
section
variable {P:Program} {w:World} {K:xo} {e it a:Addr} {b:Bool}
def ESt (b:Bool)(e it a:Addr)(i:Nat)(h:Heap):Prop:=(∃old,IsEnum h e it i old)/\Tn2 b it a i h
def OJ {elts:List Expr}{kk:Nat}{pp:Pos}(hei:e≠it)(hea:a≠e)(hia:a≠it):Turn P w K (.Tuple elts kk pp) (Ite K b a) [e,it] e (ESt b e it a) where
 mem:=by simp
 obj:=λi h st c hc=>by
  obtain⟨⟨old,s1⟩,s2⟩:=st;simp only[xR,yI,yJ] at hc;rcases hc with z|z<;>subst z
  .exact⟨_,s1,λv=>by simp⟩
  .exact(wZ b _ a []).ob _ _ s2
 keep:=λi h h' st k=>by obtain⟨⟨old,s1⟩,s2⟩:=st;exact⟨⟨old,k _ (by simp) _ s1⟩,(wZ b it a []).mv _ _ _ s2 λo e=>k _ (by simp) o e⟩
 item:=by
  intro X hP hw hK hc i xg s σ H E I hf st hg;subst hP hw hK;obtain⟨⟨old,s1⟩,s2⟩:=st;obtain⟨xs,x,sq1,hx⟩:=hg;obtain⟨vs,rv,c1⟩:=I.sq2 sq1;obtain⟨xv,ex,rx⟩:=rv.get hx;have hi:i<vs.length:=(zP.mp ex).1;have fr:H s.heap.objs.size=none:=I.hok.fresh (xY _);have D:=HV (prog:=X.prog) (w:=X.w) (A:=X.A.in1) (wZ b it a vs) hia (show X.A.in1.handled=none from I.ok.hd hc);refine wpAny_pyNext_enum_itemD D s1 ⟨s2,c1⟩ hi hei (by simp[hei,zD hea]) λxv' g tk hP ho st' hT hsz kp=>⟨_,rfl,?_⟩
  rw[ex] at hP;cases hP;refine wpAny_letOwnedTupleGo_enum ho λg2 he2 S2=>?_;have lte:e<s.heap.objs.size:=yG s1;have kp2:∀c o,c∉[e,it]->s.heap.get? c=some o->g2.get? c=some o:=λc o hc e=>by simp only[xR,yI,yJ,not_or] at hc;exact S2.extBut _ _ hc.1 (kp c o hc.1 hc.2 e)
  have T2:=S2.extBut _ _ (vO lte) hT;have st2:ESt b e it a (i+1) g2:=⟨⟨_,by simpa using he2⟩,(wZ b it a vs).mv _ _ _ st'.1 λo q=>S2.extBut _ o (zD hei) q⟩
  have nfp:∀c u,H c=some u->c∉[e,it]:=λc u q hm=>by rw[(hf c hm).1] at q;cases q
  have nT:∀c o,s.heap.get? c=some o->c≠s.heap.objs.size:=λc o e=>zq (yG e);refine⟨.ref s.heap.objs.size,upd H s.heap.objs.size (.tup [.int i,x]),?_,rfl,⟨x,_,λxs' h'=>by rw[<-I.sq2_inj sq1 h'];exact hx,rfl,fr,rfl⟩,st2,λc hm=>?_⟩
  .show Inv X xg σ (upd H s.heap.objs.size (.tup [.int i,x])) {s with heap:=g2,gens:=s.gens,drawn:=s.drawn,toks:=tk+1};refine Inv.step (s:=s) (g':=s.gens) (d':=s.drawn) (t':=tk+1) (ch:=[e,it]) I (λc hm=>?_) (λc o _ _ hm e _=>kp2 c o hm e) (λc o _ _ hm e _=>⟨o.slots,kp2 c o hm e⟩) (λc o hm e n=>by rw[xN (nT c o e)];exact n) (λc o hm e=>⟨o,kp2 c o hm e⟩)
    (λc zs e=>by rw[xN (yK e fr)];exact e) (λc o u e=>by rw[xN (yK e fr)];exact e) (λc ps e=>⟨#[],by rw[xN (yK e fr),e];simp⟩) (λm hm=>?_) (λc u e=>?_) I.bare
   .obtain⟨_,f1,_,f3,f4,f5⟩:=hf c hm;exact⟨f3,f1,f4,f5⟩
   .obtain⟨o,es,ep,ho,r⟩:=hm;exact⟨o,es,ep,kp2 _ o (λz'=>(hf _ z').2.1 rfl) ho,r⟩
   .by_cases hc':c=s.heap.objs.size
    .subst hc';rw[yU] at e;cases e;exact⟨by show 2<=sizeLine;decide,[.int i tk,xv],.cons ⟨_,rfl⟩ (.cons rx .nil),_,T2,rfl,0,rfl⟩
    .rw[xN hc'] at e;refine(I.hok c u e).stay (λc' v hcc q'=>kp2 c' v ?_ q') (λc' q'=>by rw[xN (yK q' fr)];exact q') (λc' zs q'=>by rw[xN (yK q' fr)];exact q') λc' o u q'=>by rw[xN (yK q' fr)];exact q'
     rcases hcc with rfl|hcc
     .exact nfp _ _ e
     .exact nfp _ _ hcc
  .rw[xN]
   .exact(hf c hm).1
   .simp only[xR,yI,yJ] at hm;rcases hm with z|z<;>subst z
    .exact nT _ _ s1
    .obtain⟨o,e,_⟩:=(wZ b _ a []).ob _ _ s2;exact nT _ _ e
 done:=by
  intro X hP hw hK hc i xg s σ H E I hf st hg;subst hP hw hK;obtain⟨⟨old,s1⟩,s2⟩:=st;obtain⟨xs,sq1,hend⟩:=hg;obtain⟨vs,rv,c1⟩:=I.sq2 sq1;have hT:s.TypeIs (.ref e) "enumerate" := ⟨_,s1,rfl⟩
  unfold pyNext;refine xl (mL (jW (name:=Str.ofString "__next__") hT F.slot_enumerate_next (qV F.slot_enumerate_next hT F.entry_enumerate_next ?_ (F.args_enumerate_next_1 _))));show wpAny _ _ (field (.ref e) 2>>=_) _ _ _;refine xl (ud s1 rfl (x:=.ref it) rfl ?_);refine xl ((wZ b it a vs).fin _ _ _ _ i s _ (I.ok.hd hc) s2 c1 (ib (by rw[<-rv.length];exact hend)) λg x kp hx'=>?_);obtain⟨o,ho,hcl⟩:=hx';refine xl (Gd (T := "StopIteration") (b:=true) ⟨o,ho,hcl⟩ isSubtype_stop (xK ⟨rfl,?_⟩));have kp2:∀c o,c∉[e,it]->s.heap.get? c=some o->g.get? c=some o:=λc o hc q=>by simp only[xR,yI,yJ,not_or] at hc;exact kp c o hc.2 q
  have nfp:∀c u,H c=some u->c∉[e,it]:=λc u q hm=>by rw[(hf c hm).1] at q;cases q
  refine Inv.step (s:=s) (g':=s.gens) (d':=s.drawn) (t':=s.toks) (ch:=[e,it]) I (λc hm=>?_) (λc o _ _ hm e _=>kp2 c o hm e) (λc o _ _ hm e _=>⟨o.slots,kp2 c o hm e⟩) (λc o hm e n=>n) (λc o hm e=>⟨o,kp2 c o hm e⟩)
   (λc zs e=>e) (λc o u e=>e) (λc ps e=>⟨#[],by rw[e];simp⟩) (λm hm=>?_) (λc u e=>?_) I.bare
  .obtain⟨_,f1,_,f3,f4,f5⟩:=hf c hm;exact⟨f3,f1,f4,f5⟩
  .obtain⟨o,es,ep,ho,r⟩:=hm;exact⟨o,es,ep,kp2 _ o (λz'=>(hf _ z').2.1 rfl) ho,r⟩
  .refine(I.hok c u e).stay (λc' v hcc q'=>kp2 c' v ?_ q') (λ_ q'=>q') (λ_ _ q'=>q') λ_ _ _ q'=>q';rcases hcc with rfl|hcc
   .exact nfp _ _ e
   .exact nfp _ _ hcc
 self:=λA i s Q E st h=>by obtain⟨⟨old,s1⟩,_⟩:=st;exact wpAny_pyIter_enum s1 h
end
open AutoSeq1 (wpAny_loadPart') in
def J6 (l:Addr)(items:Array Value)(n:Nat)(dct:Option Addr)(sl:Array (Option Value)) :
  Meets (Builtin.«enumerate.__new__» ⟨[.type "enumerate", .ref l],[]⟩) (λ_ R s=>s.heap.get? l=some {cls:=.type "tuple", dict:=dct,data:=.seq items n,slots:=sl}/\R (.ok (.ret (.ref (s.heap.push {cls:=.type "tuple_iterator", data:=.fields #[.ref l,.int 0 0]}).objs.size))) {s with heap:=(s.heap.push {cls:=.type "tuple_iterator", data:=.fields #[.ref l,.int 0 0]}).push {cls:=.type "enumerate", data:=.fields #[.none,.bool false,.ref s.heap.objs.size,rawInt 0,.none,.none]} }):=
 .of_wp λprog w A R s h=>by
  obtain⟨hp,g,d,tk,os⟩:=s;obtain⟨hl,h⟩:=h;have hsub:=sub_enumerate;have hL:Heap.IsTuple (Shared.heap ⟨hp,g,d,tk,os⟩) l items:=⟨_,hl,rfl,n,rfl⟩
  wp_walk using vo hl
  refine wpAny_stack_any λst=>xK ?_;split
  .rename_i c _ _ _ _ _;cases (c==Value.type "enumerate")
   .wp_walk using vo hl,mM hL
    exact⟨_,rfl,h⟩
   .wp_walk using vo hl,mM hL
    exact⟨_,rfl,h⟩
  .wp_walk using vo hl,mM hL
   exact⟨_,rfl,h⟩
section
variable {prog:Program} {w:World} {A:Around} {E:Value->Shared->Prop} {s:Shared}
def G2 {l:Addr}{items:Array Value}{Q:Value->Shared->Prop}(hL:s.heap.IsTuple l items)
  (h:∀h',IsEnum h' (s.heap.objs.size+1) s.heap.objs.size 0 .none->h'.IsTupleIter s.heap.objs.size l 0->h'.objs.size=s.heap.objs.size+2->(∀b o,s.heap.get? b=some o->h'.get? b=some o)->Q (.ref (s.heap.objs.size+1)) {s with heap:=h' }) :
  wpAny (model prog w) A (call (.type "enumerate") [.ref l]) Q E s:=by
 obtain⟨⟨c,dct,dt,sl⟩,hl,hc,n,hd⟩:=hL
 replace hc:c=.type "tuple" := hc
 replace hd:dt=.seq items n:=hd
 subst hc hd;refine callType_new F.called_enumerate (by decide) (F.typeCall_enumerate_1 _) (F.newCall_enumerate_1 _) (λobj=>F.args_object_init_2 obj _) F.entry_enumerate_new
  (J6 l items n dct sl) ⟨hl,?_⟩
 have hz:(s.heap.push {cls:=.type "tuple_iterator", data:=.fields #[.ref l,.int 0 0]}).objs.size=s.heap.objs.size+1:=jM ..;show _/\_;rw[hz];have he:IsEnum ((s.heap.push {cls:=.type "tuple_iterator", data:=.fields #[.ref l,.int 0 0]}).push {cls:=.type "enumerate", data:=.fields #[.none,.bool false,.ref s.heap.objs.size,rawInt 0,.none,.none]}) (s.heap.objs.size+1) s.heap.objs.size 0 .none:=by
  have:=zO (s.heap.push {cls:=.type "tuple_iterator", data:=.fields #[.ref l,.int 0 0]})
   (o:={cls:=.type "enumerate", data:=.fields #[.none,.bool false,.ref s.heap.objs.size,rawInt 0,.none,.none]}) rfl
  rw[hz] at this;exact this
 refine⟨⟨_,he,rfl⟩,h _ he ⟨_,yQ _ (zO _ rfl),rfl,rfl⟩ (by rw[jM,hz]) λb o x=>yQ _ (yQ _ x)⟩
end
def GV:bootBuiltins "enumerate" = some (.type "enumerate"):=by decide +kernel
def BV (K:xo)(ta:TA):TI:=λσ H R=>ta σ H λvs H1=>∃(b:Bool) (a:Addr) (xs:List V),vs=[.ref a]/\Sq2 K b H1 a xs/\R (Ite K b a) H1
section
variable {X:Cx}
theorem pq (K:xo){elts:List Expr}{kk:Nat}{pp:Pos}{a:Expr}{ta:TA}{p pos:Pos}(hg:Gl X "enumerate")(hm:X.mg "enumerate" = none)(ha:PA X [a] ta)(hs:starEach [a] X.env=[(false,eval a X.env)]:=by rfl)(eK:X.K=K:=by rfl) :
  PI X (.Tuple elts kk pp) (.Call (.Name "enumerate" p) [a] [] pos) (BV K ta):=by
 subst eK;intro xg s σ H R I h;refine Call_ (fy I hg hm GV (iA (xW (@ha pos xg s σ H _ I h) λus s1 ⟨vs,H1,I1,r1,q1⟩=>?_) (by rw[hs];rfl) (by rfl)));obtain⟨bb,a1,xs,e,sq1,q⟩:=q1;subst e;obtain⟨u1,rfl,ru⟩:=vals1 r1;obtain rfl:u1=Value.ref a1:=ru;obtain⟨vs,rv,c1⟩:=I1.sq2 sq1;have mk:∀g,ESt bb (s1.heap.objs.size+1) s1.heap.objs.size a1 0 g->a1<s1.heap.objs.size->(∀c o,s1.heap.get? c=some o->g.get? c=some o)->
   wpAny (model X.prog X.w) X.A (pyIter (.ref (s1.heap.objs.size+1))) (PIE X xg σ (.Tuple elts kk pp) R) X.xe {s1 with heap:=g}:=λg st la kp=>by
  obtain⟨⟨old,he⟩,st2⟩:=st;refine wpAny_pyIter_enum he ⟨_,[s1.heap.objs.size+1,s1.heap.objs.size],ESt bb (s1.heap.objs.size+1) s1.heap.objs.size a1,_,H1,rfl,I1.kept (t':=s1.toks) kp,OJ (Nat.succ_ne_self _) (zq (gS la)) (zq la),⟨⟨old,he⟩,st2⟩,λb hb=>?_,q⟩
  simp only[xR,yI,yJ] at hb;rcases hb with rfl|rfl
  .exact I1.fpOk (aL _) (I1.hok.fresh (aL _))
  .exact I1.fpOk (xY _) (I1.hok.fresh (xY _))
 cases bb with
 |true=>have c1:s1.heap.IsTuple a1 vs.toArray:=c1;refine G2 c1 ?_;intro g z1 z2 _ kp;refine mk g ⟨⟨_,z1⟩,z2⟩ ?_ kp;obtain⟨o,e,_⟩:=c1;exact yG e
 |false=>have c1:s1.heap.IsList a1 vs.toArray:=c1;refine call_enumerate_list c1 ?_;intro g z1 z2 _ kp;refine mk g ⟨⟨_,z1⟩,z2⟩ ?_ kp;obtain⟨o,e,_⟩:=c1;exact yG e
end
def fo:Nat->List Tr->List Tr
 |_,[]=>[]
 |k,t::ts=>.tup [.int k,t]::fo (k+1) ts
def uG (ts:List Tr):List Tr:=fo 0 ts
theorem j_:∀(k:Nat) (ts:List Tr),(fo k ts).length=ts.length
 |_,[]=>rfl
 |k,_::ts=>by show(fo (k+1) ts).length+1=_;rw[j_];rfl
theorem rz:∀ {k:Nat} {ts:List Tr} {i:Nat} {t:Tr},ts[i]?=some t->(fo k ts)[i]?=some (.tup [.int ((k+i:Nat):Int),t])
 |_,[],_,_,h=>by simp at h
 |k,x::ts,0,t,h=>by simp at h;subst h;rfl
 |k,x::ts,i+1,t,h=>by show(fo (k+1) ts)[i]?=_;rw[rz (k:=k+1) (ts:=ts) (i:=i) (by simpa using h)];rw[show k+1+i=k+(i+1) by lia]
section
variable {K:xo}
def Ju {a:Addr}{ts:List Tr}:ItL (Ite K false a) (uG ts) [(.lst ts,.ref a)] where
 go:=λF H i s hi=>by obtain⟨a',ws,e,n,h,r⟩:=s _ xS;cases e;rw[show(uG ts).length=ts.length from j_ 0 ts] at hi;obtain⟨w,e1,_⟩:=r.getT (ze hi);exact⟨ws,w,ye.of h,e1⟩
 stop:=λF H s=>by obtain⟨a',ws,e,n,h,r⟩:=s _ xS;cases e;exact⟨ws,ye.of h,by rw[show(uG ts).length=ts.length from j_ 0 ts,<-r.len];exact xY _⟩
 yld:=λF i H x H' s d hi y=>by obtain⟨a',ws,e,n,h,r⟩:=s _ xS;cases e;obtain⟨v,q,hv,rfl,hq,rfl⟩:=y;obtain⟨t,e1,e2⟩:=r.get (hv ws (ye.of h));refine⟨.inr ⟨q,_,hq,rfl⟩,.tup [.int i,t],?_,q,_,rfl,λz=>(d q z).no hq,yU,⟨_,_,rfl,rfl,_,_,rfl,fX hq e2,rfl⟩⟩;have:=rz (k:=0) e1;rw[Nat.zero_add] at this;exact this
def Jv {a:Addr}{ts:List Tr}:ItL (Ite K true a) (uG ts) [(.tup ts,.ref a)] where
 go:=λF H i s hi=>by obtain⟨a',ws,e,n,h,r⟩:=s _ xS;cases e;rw[show(uG ts).length=ts.length from j_ 0 ts] at hi;obtain⟨w,e1,_⟩:=r.getT (ze hi);exact⟨ws,w,yy.of h,e1⟩
 stop:=λF H s=>by obtain⟨a',ws,e,n,h,r⟩:=s _ xS;cases e;exact⟨ws,yy.of h,by rw[show(uG ts).length=ts.length from j_ 0 ts,<-r.len];exact xY _⟩
 yld:=λF i H x H' s d hi y=>by obtain⟨a',ws,e,n,h,r⟩:=s _ xS;cases e;obtain⟨v,q,hv,rfl,hq,rfl⟩:=y;obtain⟨t,e1,e2⟩:=r.get (hv ws (yy.of h));refine⟨.inr ⟨q,_,hq,rfl⟩,.tup [.int i,t],?_,q,_,rfl,λz=>(d q z).no hq,yU,⟨_,_,rfl,rfl,_,_,rfl,fX hq e2,rfl⟩⟩;have:=rz (k:=0) e1;rw[Nat.zero_add] at this;exact this
def Je (d:DA):DI:=λτ KK=>d τ λxs=>match xs with|[.tup ts]=>KK (uG ts)|[.lst ts]=>KK (uG ts)|_=>False
def cU {b:Bool}{n:Nat}{ta:TA}{da:DA}(h:OkA K b n ta da):OkI K b (BV K ta) (Je da):=λB φ σ τ H R KK Rs hd q=>
 h B φ σ τ H _ _ Rs hd λts vs H1 x1 k1 l1 r1=>by
  split at k1
  .rename_i us;obtain⟨v,rfl,r⟩:=vH r1;obtain⟨a,ws,e,n,ha,rl⟩:=id r;subst e;exact⟨true,a,ws,rfl,yy.of ha,q _ _ _ H1 x1 k1 Jv λp hp=>by cases yS.mp hp;exact r⟩
  .rename_i us;obtain⟨v,rfl,r⟩:=vH r1;obtain⟨a,ws,e,n,ha,rl⟩:=id r;subst e;exact⟨false,a,ws,rfl,ye.of ha,q _ _ _ H1 x1 k1 Ju λp hp=>by cases yS.mp hp;exact r⟩
  .exact k1.elim
end
end L2
namespace L2
open PySem PySem.Spec PyProof.Rows
def Ds (K:xo):R2:=λx y H Q=>∃a b xs ys,x=.ref a/\y=.ref b/\yy K H a xs/\yy K H b ys/\xs.length+ys.length<=sizeLine/\
 (xs=[]->Q (.ref b) H)/\(xs≠[]->ys=[]->Q (.ref a) H)/\(xs≠[]->ys≠[]->∀p,H p=none->Q (.ref p) (upd H p (.tup (xs++ys))))
section
variable {X:Cx}
def LV:y9 X (binaryOp .Add) (Ds X.K):=by
 intro xg s σ H x y v u Q I rx ry h;obtain⟨a,b,xs,ys,rfl,rfl,ha,hb,hz,q0,q1,q2⟩:=h;by_cases hx:xs=[]
 .cases rx;cases ry;obtain⟨xj,r1,p1,_⟩:=I.tuple ha;obtain⟨its2,r2,p2,_⟩:=I.tuple hb;obtain⟨⟨cls,dd,data,sl⟩,ho,hc,n,hd⟩:=id p1;obtain⟨⟨cls2,dd2,data2,sl2⟩,ho2,hc2,n2,hd2⟩:=id p2;simp only at hc hd hc2 hd2;subst hc hd hc2 hd2;have hv:xj=[]:=r1.nil_iff.mpr hx;exact concat_meets ⟨_,ho,rfl⟩ ⟨_,ho2,rfl⟩ FZ seq_tuple_add FV FU (FT _ _)
   (tuple_addW0 a b xj.toArray its2.toArray n n2 dd dd2 sl sl2 (by simp[hv])) ⟨ho,ho2,⟨.ref b,H,I,rfl,q0 hx⟩⟩
 .exact LW xg s σ H _ _ _ _ Q I rx ry ⟨a,b,xs,ys,rfl,rfl,ha,hb,hx,hz,q1 hx,q2 hx⟩
def DM (K:xo):R2:=λx y H Q=>∃a k xs,x=.ref a/\y=.int k/\yy K H a xs/\xs≠[]/\2<=k/\k<2^63/\xs.length*k.toNat<=sizeLine/\∀p,H p=none->Q (.ref p) (upd H p (.tup (List.replicate k.toNat xs).flatten))
end
def CF:fillsNumberSlot (.type "tuple") "mul" = pure false:=PySem.fillsNumberSlot_seq (id := "tuple.__mul__") (r:=some (.builtin "tuple.__rmul__")) lQ.lookup (by decide +kernel) F.slot_tuple_rmul.lookup (by decide +kernel)
def D7:seqRepeat? (.type "tuple")=pure (some (.builtin "tuple.__mul__")):=by unfold seqRepeat?;rw[PySem.seqSlot_of (T := "tuple") (name := "__mul__") (id := "tuple.__mul__") lQ.lookup (by decide +kernel),PySem.seqSlot_of (T := "tuple") (name := "__rmul__") (id := "tuple.__rmul__") F.slot_tuple_rmul.lookup (by decide +kernel)];rfl
open AutoSeq1 (wpAny_loadPart') in
def B5 (a:Int)(t:Tok)(l:Addr)(items:Array Value)(n:Nat)(dd:Option Addr)(sl:Array (Option Value)) :
  Meets (Builtin.«int.__rmul__» ⟨[.int a t,.ref l],[]⟩) (λ_ R s=>s.heap.get? l=some {cls:=.type "tuple", dict:=dd,data:=.seq items n,slots:=sl}/\R (.ok (.ret Value.notImplemented)) s):=
 .of_wp λprog w A R s h=>by obtain⟨hp,g,d,tk,os⟩:=s;obtain⟨hl,h⟩:=h;wp_walk using vo hl;exact⟨_,rfl,h⟩
open AutoSeq1 (wpAny_loadPart') in
def OH (l:Addr)(items:Array Value)(n:Nat)(dd:Option Addr)(sl:Array (Option Value))(x:Int)(u:Tok)(h0:¬items.isEmpty=true)(h1:2<=x)(h2:x<2^63)(h3:items.size*x.toNat<=sizeLine) :
  Meets (Builtin.«tuple.__mul__» ⟨[.ref l,.int x u],[]⟩) (λ_ R s=>s.heap.get? l=some {cls:=.type "tuple", dict:=dd,data:=.seq items n,slots:=sl}/\R (.ok (.ret (.ref s.heap.objs.size))) {s with heap:=s.heap.push {cls:=.type "tuple", data:=.seq ((List.replicate x.toNat items).foldl (·++·) #[])} }):=
 .of_wp λprog w A R s h=>by
  obtain⟨hp,g,d,tk,os⟩:=s;obtain⟨hl,h⟩:=h;have f1:=AutoSeq1.idx_int;have c1:¬(decide (x < -(2^63))||decide (x>=2^63))=true:=by simp;lia
  have c2:¬(items.isEmpty||x==1)=true:=by simp;constructor;simpa using h0;lia
  have c3:¬(decide (x<=0)||items.isEmpty)=true:=by simp;constructor;lia;simpa using h0
  wp_walk using vo hl
  rw[xG c1]
  wp_walk using vo hl
  rw[xG c2];show wpAny _ _ (if (decide (x<=0)||items.isEmpty)=true then _ else _) _ _ _;rw[xG c3];have c4:¬((items.size:Int)*x>(2^63-1)/8):=by
   have e:(items.size:Int)*x=((items.size*x.toNat:Nat):Int):=by rw[Int.natCast_mul,lZ (by lia)]
   rw[e];have:items.size*x.toNat<=16777216:=h3;lia
  show wpAny _ _ (if (items.size:Int)*x>(2^63-1)/8 then _ else _) _ _ _;rw[xG c4];have c5:¬Builtin.Tuple.tupleTooMany ((items.size:Int)*x)=true:=by
   unfold Builtin.Tuple.tupleTooMany;have e:(items.size:Int)*x=((items.size*x.toNat:Nat):Int):=by rw[Int.natCast_mul,lZ (by lia)]
   rw[e];intro z;have z':=zr z;have:(sizeLine:Int)<((items.size*x.toNat:Nat):Int):=z';have h4:((items.size*x.toNat:Nat):Int)<=(sizeLine:Int):=Int.ofNat_le.mpr h3;exact absurd this (Int.not_lt.mpr h4)
  show wpAny _ _ (if Builtin.Tuple.tupleTooMany ((items.size:Int)*x)=true then _ else _) _ _ _;rw[xG c5];have hsz:(List.foldl (λx1 x2=>x1++x2) #[] (List.replicate x.toNat items)).size<=sizeLine:=by
   have f0:=foldl_rep items.toList x.toNat [];rw[vn] at f0;have f1:List.foldl (λx1 x2=>x1++x2) #[] (List.replicate x.toNat items)=(List.replicate x.toNat items.toList).flatten.toArray:=by simpa using f0
   rw[f1,zh,len_rep,Nat.mul_comm,mz];exact h3
  exact xl (m:=Builtin.Tuple.tupleExact _) (vQ (xK ⟨_,rfl,h⟩) hsz)
section
variable {X:Cx}
def L1:y9 X (binaryOp .Mult) (DM X.K):=by
 intro xg s σ H x y v u Q I rx ry h;obtain⟨a,k,xs,rfl,rfl,ha,hx,h1,h2,hz,q⟩:=h;cases rx;obtain⟨t,rfl⟩:=ry;obtain⟨xj,r,p1,_⟩:=I.tuple ha;obtain⟨⟨cls,dd,data,sl⟩,ho,hc,n,hd⟩:=id p1;simp only at hc hd;subst hc hd;have hlen:=r.length;have hne:¬xj.toArray.isEmpty=true:=by
  intro z;have:xj=[]:=by simpa using z
  exact hx (r.nil_iff.mp this)
 refine Gb (T := "tuple") (U := "int") (by decide) ⟨_,ho,rfl⟩ (λs'=>dI s' k t) CF F.fills_int_mul aC D7 Fs.lookup
  (jj aC (dI s k t) Fq (Fp _ _) (B5 k t a xj.toArray n dd sl) ⟨ho,rfl,⟨_,ho,rfl⟩,jj lQ ⟨_,ho,rfl⟩ F.entry_tuple_mul (F.args_tuple_mul_2 _ _) (OH a xj.toArray n dd sl k t hne h1 h2 (by rw[zh,<-hlen];exact hz)) ⟨ho,?_⟩⟩)
 have hnew:List.foldl (λx1 x2=>x1++x2) #[] (List.replicate k.toNat xj.toArray)=(List.replicate k.toNat xj).flatten.toArray:=by have:=foldl_rep xj k.toNat [];rw[vn] at this;exact this
 rw[hnew];refine⟨.ref s.heap.objs.size,_,I.laid (t':=s.toks) (o:=.tup (List.replicate k.toNat xs).flatten) (λb ob q=>yQ _ q) (xY _) ?_,rfl,q _ (I.hok.fresh (xY _))⟩;exact⟨by rw[len_rep,Nat.mul_comm];exact hz,_,r.rep k.toNat,IsTup.new _ _⟩
def Dq (K:xo):R2:=λx y H Q=>(rI0 λi j=>.int (i+j)) x y H Q\/tL x y H Q\/Ds K x y H Q
def v8 (K:xo)(e:X.K=K:=by rfl):y9 X (binaryOp .Add) (Dq K):=by subst e;exact wg.or (tz.or LV)
def pJ (K:xo):R2:=λx y H Q=>(rI CM λi j=>.int (i*j)) x y H Q\/pK x y H Q\/DM K x y H Q
def gu (K:xo)(e:X.K=K:=by rfl):y9 X (binaryOp .Mult) (pJ K):=by subst e;exact yP.or (C2.or L1)
def DB (K:xo):R2:=λx y H Q=>(rI0 λi j=>.bl (decide (i<j))) x y H Q\/DC K x y H Q
def qC (K:xo)(hu:X.A.units+64<cLine)(e:X.K=K:=by rfl):y9 X (compareOp .Lt) (DB K):=by subst e;exact CZ.or (LX (jT (iw _ _) hu))
end
section
variable {prog:Program} {w:World} {A:Around} {E:Value->Shared->Prop} {s:Shared}
def IY {t sl:Addr}{items:Array Value}{vl vu:Value}{lo hi:Option Int}{Q:Value->Shared->Prop}(ht:IsTup s.heap t items)(hs:s.heap.IsSliceOf sl vl vu .none)(pl:IsPart vl lo)(pu:IsPart vu hi)
  (hw:HT.yh items.size 0 lo=0/\HT.yh items.size items.size hi=items.size) (h:Q (.ref t) s):wpAny (model prog w) A (getItem (.ref t) (.ref sl)) Q E s:=by
 obtain⟨os,hos,hcs,hds⟩:=id hs;have hTs:s.TypeIs (.ref sl) "slice" := ⟨os,hos,hcs⟩
 unfold getItem
 try with_reducible refine vP ?_
 first|refine xl (xK ?_)|skip
 refine xl (wpAny_sequenceKey ht.typeIs (by decide) ?_);refine xl (jW (name:=Str.ofString "__getitem__") ht.typeIs aO (qV aO ht.typeIs entry_tuple_getitem ?_ (args_tuple_getitem _ _)))
 show wpAny _ _ (Builtin.Tuple.tupleItemsOf (.ref t)>>=_) _ _ s;refine xl (tupleItemsOf_ ht ?_);refine xl (wpAny_typeOf hTs ?_);rw[xD (by decide)];refine xl (HT.Ex hs pl pu ?_);have hyes:(((HT.yh items.size 0 lo:Nat):Int)==0&&(1:Int)==1&&(HT.yh items.size items.size hi-HT.yh items.size 0 lo)==items.size)=true:=by rw[hw.1,hw.2];simp
 show wpAny _ _ (if (((HT.yh items.size 0 lo:Nat):Int)==0&&(1:Int)==1&&(HT.yh items.size items.size hi-HT.yh items.size 0 lo)==items.size)=true then _ else _) _ _ s;rw[xD hyes];have hex:∀ {Q':Bool->Shared->Prop} {E':Value->Shared->Prop} {A':Around},Q' true s->wpAny (model prog w) A' (Builtin.Tuple.tupleIsExact (.ref t)) Q' E' s:=λ {Q' E' A'} hq=>by
  unfold Builtin.Tuple.tupleIsExact;refine xl (wpAny_typeOf ht.typeIs (xK ?_));have e:(Value.type "tuple" == Value.type "tuple")=true:=by decide
  rw[e];exact hq
 refine xl (hex ?_);rw[xD rfl];exact xl (jX (xK ⟨_,rfl,xK h⟩))
end
section
variable {X:Cx}
def DR (K:xo):V->Option Int->Option Int->Hp->VK->Prop:=λx lo hi H Q=>∃a xs,x=.ref a/\yy K H a xs/\
 (vp xs lo hi=xs->Q (.ref a) H)/\∀p,H p=none->Q (.ref p) (upd H p (.tup (vp xs lo hi)))
def Oj:SlR X (DR X.K):=by
 intro xg s σ H x v vl vu lo hi sl Q I rx hs pl pu h;obtain⟨a,xs,rfl,hx,q0,q⟩:=h;by_cases hw:HT.yh xs.length 0 lo=0/\HT.yh xs.length xs.length hi=xs.length
 .cases rx;obtain⟨xj,r,ht,hz⟩:=I.tuple hx;have hlen:xj.toArray.size=xs.length:=by rw[zh];exact r.length.symm
  refine⟨"tuple", _,aO.lookup,ht.typeIs,?_⟩;refine IY ht hs pl pu (by rw[hlen];exact hw) ⟨.ref a,H,I,rfl,q0 ?_⟩;unfold vp;rw[hw.1,hw.2,dA,mJ,gQ]
 .exact Oi xg s σ H _ v vl vu lo hi sl Q I rx hs pl pu ⟨a,xs,rfl,hx,hw,q⟩
def DQ (K:xo):V->Option Int->Option Int->Hp->VK->Prop:=λx lo hi H Q=>tM K x lo hi H Q\/DR K x lo hi H Q
def gD (K:xo)(e:X.K=K:=by rfl):SlR X (DQ K):=by
 subst e;intro xg s σ H x v vl vu lo hi sl Q I rx hs pl pu h;rcases h with h|h
 .exact Eu xg s σ H x v vl vu lo hi sl Q I rx hs pl pu h
 .exact Oj xg s σ H x v vl vu lo hi sl Q I rx hs pl pu h
def Dv:V->List V->Hp->VK->Prop:=λx vs H Q=>∃(l:Addr) (xs:List V) (y:V) (k:Nat),x=.ref l/\vs=[.int k,y]/\H l=some (.lst xs)/\xs.length<sizeLine/\k<=xs.length/\Q .non (upd H l (.lst (xs.take k++[y]++xs.drop k)))
def Jl {xg:List (Addr×Obj)}{s:Shared}{σ:St}{H:Hp}{l:Addr}{xs:List V}{y:V}{u2:Value}{Q:VK}(I:Inv X xg σ H s)(hH:H l=some (.lst xs))(hz:xs.length<sizeLine)(ki:Int)(k:Nat)(t1:Tok)(hk1:0<=ki)(hk3:ki<=(xs.length:Int))(hkt:ki.toNat=k)
  (ru:RelV y u2) (q:Q .non (upd H l (.lst (xs.take k++[y]++xs.drop k)))):wpAny (model X.prog X.w) X.A (call (.builtin "list.insert") [.ref l,.int ki t1,u2]) (EP X xg σ Q) X.xe s:=by
 obtain⟨z,xj,n,r,hl,e⟩:=I.lstM hH;have hk2:ki<2^63:=by have:xs.length<=16777216:=z;lia
 have hfit:¬(!Builtin.List.listFitsIndex ki)=true:=by rw[fitsIndex_both (by lia) hk2];exact uM
 have hsz:xj.toArray.size<=sizeLine:=by rw[zh];lia
 have hk':k<=xj.length:=by lia
 refine jj F.slot_list_insert ⟨_,e,rfl⟩ F.entry_list_insert (F.args_list_insert_3 _ _ _) (AutoSeq1.list_insert_list_int_val_1 l xj.toArray n ki t1 u2 hfit hsz) ⟨e,?_⟩;refine⟨.non,_,I.lset (its':=xj.take k++[u2]++xj.drop k) hH e ?_ ((x9.append (r.take k) (.cons ru .nil)).append (r.drop k)) ?_,rfl,q⟩
 .have e1:(if ki<0 then(ki+(xj.toArray.size:Int)).toNat else min ki.toNat xj.toArray.size)=k:=by rw[xG (by lia),hkt,zh,Nat.min_eq_left hk']
  show((xj.toArray.extract 0 (if ki<0 then(ki+(xj.toArray.size:Int)).toNat else min ki.toNat xj.toArray.size)).push u2++xj.toArray.extract (if ki<0 then(ki+(xj.toArray.size:Int)).toNat else min ki.toNat xj.toArray.size))=_;rw[e1];apply Array.toList_inj.mp;simp;exact ur (by rw[uO];exact xY _)
 .simp only[za,zQ,uO,vm];lia
def CA:MtM X "list.insert" Dv:=by intro xg s σ H x vs v us Q I rx rv h;obtain⟨l,xs,y,k,rfl,rfl,hH,hz,hk,q⟩:=h;cases rx;obtain⟨u1,u2,rfl,⟨t1,rfl⟩,ru⟩:=vals2 rv;have hk1:(0:Int)<=(k:Int):=lY k;have hk3:(k:Int)<=(xs.length:Int):=Int.ofNat_le.mpr hk;have hkt:(k:Int).toNat=k:=gL k;generalize (k:Int)=ki at hk1 hk3 hkt ⊢;exact Jl I hH hz ki k t1 hk1 hk3 hkt ru q
end
section
variable {K:xo} {fr:Bool}
def rA (x y:Tr)(KK:Tr->Prop):Prop:=match x,y with
 |.int i,.int j=>KK (.int (i+j))
 |.lst ts,.lst us=>ts.length+us.length<=sizeLine/\KK (.lst (ts++us))
 |.tup ts,.tup us=>ts.length+us.length<=sizeLine/\KK (.tup (ts++us))
 |_,_=>False
def v5 {b:Bool}{ta tb:TE}{da db:DE}(ha:xJ K b ta da)(hb:xJ K b tb db):xJ K b (tOp (Dq K) ta tb) (d2 rA da db):=λB φ σ τ H Q KK R hd q=>
 ha B φ σ τ H _ _ R hd λt v H1 x1 k1 r1=>hb B φ σ τ H1 _ _ (R.hx x1) k1 λu w H2 x2 k2 r2=>by
  have r1':=x2.rep (λa s=>R.sB s) r1;have x:=x1.trans x2
  replace k2:rA t u KK:=k2
  unfold rA at k2;split at k2
  .rename_i i j;cases (show v=.int i from r1');cases (show w=.int j from r2);exact .inl ⟨i,j,rfl,rfl,q _ _ H2 x k2 rfl⟩
  .rename_i ts us;obtain⟨a,ws,e,n,ha',rl⟩:=r1';obtain⟨a2,ws2,e2,n2,ha2,rl2⟩:=r2;exact .inr (.inl ⟨a,a2,ws,ws2,e,e2,ha',ha2,by rw[<-rl.len,<-rl2.len];exact k2.1,λp hp=>q _ _ _ (x.trans (HX.new (R.hx x) hp _)) k2.2 ⟨p,_,rfl,λz=>(R.hx x).domB z hp,yU,qb hp (rl.app rl2)⟩⟩)
  .rename_i ts us;obtain⟨a,ws,e,n,ha',rl⟩:=id r1';obtain⟨a2,ws2,e2,n2,ha2,rl2⟩:=id r2;refine .inr (.inr ⟨a,a2,ws,ws2,e,e2,yy.of ha',yy.of ha2,by rw[<-rl.len,<-rl2.len];exact k2.1,λz=>?_,λ_ z=>?_,λ_ _ p hp=>q _ _ _ (x.trans (HX.new (R.hx x) hp _)) k2.2 ⟨p,_,rfl,λz=>(R.hx x).domB z hp,yU,qb hp (rl.app rl2)⟩⟩)
   .have e0:ts=[]:=by have:=rl.len;rw[z] at this;exact jg.mp this
    subst e0;rw[<-e2];exact q _ _ H2 x k2.2 (by rw[vn];exact r2)
   .have e0:us=[]:=by have:=rl2.len;rw[z] at this;exact jg.mp this
    subst e0;rw[<-e];exact q _ _ H2 x k2.2 (by rw[ub];exact r1')
  .exact k2.elim
def n5 (x y:Tr)(KK:Tr->Prop):Prop:=match x,y with
 |.int i,.int j=>CM i j/\KK (.int (i*j))
 |.lst ts,.int k=>(0<=k/\k<2^63)/\ts.length*k.toNat<=sizeLine/\KK (.lst (List.replicate k.toNat ts).flatten)
 |.tup ts,.int k=>ts≠[]/\(2<=k/\k<2^63)/\ts.length*k.toNat<=sizeLine/\KK (.tup (List.replicate k.toNat ts).flatten)
 |_,_=>False
def fG {b:Bool}{ta tb:TE}{da db:DE}(ha:xJ K b ta da)(hb:xJ K b tb db):xJ K b (tOp (pJ K) ta tb) (d2 n5 da db):=λB φ σ τ H Q KK R hd q=>
 ha B φ σ τ H _ _ R hd λt v H1 x1 k1 r1=>hb B φ σ τ H1 _ _ (R.hx x1) k1 λu w H2 x2 k2 r2=>by
  have r1':=x2.rep (λa s=>R.sB s) r1;have x:=x1.trans x2
  replace k2:n5 t u KK:=k2
  unfold n5 at k2;split at k2
  .rename_i i j;cases (show v=.int i from r1');cases (show w=.int j from r2);exact .inl ⟨i,j,rfl,rfl,k2.1,q _ _ H2 x k2.2 rfl⟩
  .rename_i ts k;obtain⟨a,ws,e,n,ha',rl⟩:=r1';exact .inr (.inl ⟨a,k,ws,e,r2,ha',by have:=k2.1.1;lia,k2.1.2,by rw[<-rl.len];exact k2.2.1,λp hp=>q _ _ _ (x.trans (HX.new (R.hx x) hp _)) k2.2.2 ⟨p,_,rfl,λz=>(R.hx x).domB z hp,yU,qb hp (sW rl _)⟩⟩)
  .rename_i ts k;obtain⟨a,ws,e,n,ha',rl⟩:=r1';refine .inr (.inr ⟨a,k,ws,e,r2,yy.of ha',λz=>k2.1 ?_,k2.2.1.1,k2.2.1.2,by rw[<-rl.len];exact k2.2.2.1,λp hp=>q _ _ _ (x.trans (HX.new (R.hx x) hp _)) k2.2.2.2 ⟨p,_,rfl,λz=>(R.hx x).domB z hp,yU,qb hp (sW rl _)⟩⟩);have:=rl.len;rw[z] at this;exact jg.mp this
  .exact k2.elim
def Bu (x y:Tr)(KK:Tr->Prop):Prop:=match x,y with
 |.int i,.int j=>KK (.bl (decide (i<j)))
 |x,y=>∃ns ms:List Int,x=.tup (ns.map Tr.int)/\y=.tup (ms.map Tr.int)/\KK (.bl (HT.lexLt ns ms))
def qE:OpS (DB K) Bu:=λF G H x y t u KK Q r1 r2 hf q=>by
 unfold Bu at hf;split at hf
 .rename_i i j;cases (show x=.int i from r1);cases (show y=.int j from r2);exact .inl ⟨i,j,rfl,rfl,q _ _ rfl hf⟩
 .obtain⟨ns,ms,rfl,rfl,k⟩:=hf;obtain⟨a,ws,e,n,ha,rl⟩:=r1;obtain⟨a2,ws2,e2,n2,ha2,rl2⟩:=r2;rw[fU rl] at ha;rw[fU rl2] at ha2;exact .inr ⟨a,a2,ns,ms,e,e2,yy.of ha,yy.of ha2,q _ _ rfl k⟩
def Hs {F:Addr->Prop}{H:Hp}{ts:List Tr}{ws:List V}{lo hi:Option Int}(r:xZ F H ts ws)(h:vp ws lo hi=ws):zL ts lo hi=ts:=by
 unfold zL;unfold vp at h;rw[<-r.len] at h;have h1:((ts.drop (HT.yh ts.length 0 lo)).take (HT.yh ts.length ts.length hi-HT.yh ts.length 0 lo)).length=ts.length:=by have:=zS List.length h;rw[zQ,uO] at this ⊢;rw[<-r.len] at this;exact this
 have h2:HT.yh ts.length 0 lo=0\/ts.length=0:=by rw[zQ,uO] at h1;lia
 rcases h2 with h2|h2
 .rw[h2,dA,mJ];rw[h2,zQ,dA,mJ] at h1;exact ur (by lia)
 .have:ts=[]:=jg.mp h2;subst this;simp
def gj {b:Bool}{te:TE}{tl th:TO}{d:DE}{dl dh:DO}(h:xJ K b te d)(hl:OkO K tl dl)(hh:OkO K th dh):xJ K b (tSl (DQ K) te tl th) (dSl d dl dh):=λB φ σ τ H Q KK R hd q=>
 h B φ σ τ H _ _ R hd λt v H1 x1 k1 r1=>hl B φ σ τ H1 _ _ (R.hx x1) k1 λlo H2 x2 k2=>hh B φ σ τ H2 _ _ (R.hx (x1.trans x2)) k2 λhi H3 x3 k3=>by
  have r3:=(x2.trans x3).rep (λa s=>R.sB s) r1;have x:=(x1.trans x2).trans x3;cases t with
  |lst ts=>obtain⟨a,ws,e,n,ha,rl⟩:=r3;exact .inl ⟨a,ws,e,ye.of ha,λp hp=>q _ _ _ (x.trans (HX.new (R.hx x) hp _)) k3 ⟨p,_,rfl,λz=>(R.hx x).domB z hp,yU,qb hp (rl.cut lo hi)⟩⟩
  |tup ts=>obtain⟨a,ws,e,n,ha,rl⟩:=id r3;refine .inr ⟨a,ws,e,yy.of ha,λz=>?_,λp hp=>q _ _ _ (x.trans (HX.new (R.hx x) hp _)) k3 ⟨p,_,rfl,λz=>(R.hx x).domB z hp,yU,qb hp (rl.cut lo hi)⟩⟩;rw[<-e];exact q _ _ H3 x k3 (by rw[Hs rl z];exact r3)
  |_=>exact k3.elim
def Ec (i:Nat)(dk d:DE):DS:=λG τ=>match yg τ i with
 |.ow ts=>dk τ λk=>d τ λt=>∃n:Nat,k=.int n/\n<=ts.length/\ts.length<sizeLine/\G.nx (τ.set i (.ow (ts.take n++[t]++ts.drop n)))
 |_=>False
def Nt {F:Addr->Prop}{H:Hp}{ts:List Tr}{ws:List V}(n:Nat)(r:xZ F H ts ws):xZ F H (ts.take n) (ws.take n):=ux.mpr (tG n (ux.mp r))
def Nr {F:Addr->Prop}{H:Hp}{ts:List Tr}{ws:List V}(n:Nat)(r:xZ F H ts ws):xZ F H (ts.drop n) (ws.drop n):=ux.mpr (c7 n (ux.mp r))
theorem CV {b:Bool}{i:Nat}{tk te:TE}{dk d:DE}(hk:xJ K b tk dk)(h:xJ K true te d):zi K fr (dn (tBM K "list" Dv (wK i) (wW tk (wW te vI)))) (Ec i dk d):=λB φ σ τ H E G R hd e=>by
 have en:=R.ent i;unfold Ec at hd;revert en hd;cases hi:yg τ i with
 |ow ts=>intro hd ⟨a,ws,e1,e2,e3,e4,r⟩;refine⟨_,e1,.inl ⟨rfl,_,ye.of e4⟩,hk B φ σ τ H _ _ R hd λt0 v0 H0 x0 k0 r0=>h B φ σ τ H0 _ _ (R.hx x0) k0 λt v H1 x1 k1 r1=>?_⟩;obtain⟨n,rfl,hn,hz,k1⟩:=k1;cases (show v0=.int n from r0);obtain⟨ws',f4,f5,_⟩:=sQ R (x0.trans x1) hi e1;exact⟨a,ws',v,n,rfl,rfl,f4,by rw[<-f5.len];exact hz,by rw[<-f5.len];exact hn,e.nx φ σ _ _ ((R.hx (x0.trans x1)).wrOw hi e1 (((Nt n f5).app (show xZ _ _ [t] [v] from⟨v,[],rfl,r1,rfl⟩)).app (Nr n f5))) k1⟩
 |_=>exact λz _=>z.elim
end
end L2
namespace L2
open PySem PySem.Spec PyProof.Rows
def bB (b:Bool):String:=if b then "tuple_iterator" else "list_iterator"
abbrev za1 (b:Bool)(h:Heap)(a:Addr):Heap:=h.push {cls:=.type (bB b),data:=.fields #[.ref a,.int 0 0]}
abbrev za2 (b c:Bool)(h:Heap)(a d:Addr):Heap:=(za1 b h a).push {cls:=.type (bB c),data:=.fields #[.ref d,.int 0 0]}
abbrev za3 (b c:Bool)(h:Heap)(a d:Addr):Heap:=(za2 b c h a d).push {cls:=.type "tuple", data:=.seq #[.ref h.objs.size,.ref (za1 b h a).objs.size]}
abbrev za4 (b c:Bool)(h:Heap)(a d:Addr):Heap:=(za3 b c h a d).push {cls:=.type "tuple", data:=.seq #[.none,.none]}
abbrev za5 (b c:Bool)(h:Heap)(a d:Addr):Heap:=(za4 b c h a d).push {cls:=.type "zip", data:=.fields #[.none,.bool false,.bool false,.ref (za2 b c h a d).objs.size,.ref (za3 b c h a d).objs.size]}
theorem Dp {prog:Program}{w:World}{A:Around}{E:Value->Shared->Prop}{s:Shared}{b:Bool}{a:Addr}{vs:List Value}{Q:Value->Shared->Prop}(h:vR b a vs s.heap)(q:Q (.ref s.heap.objs.size) {s with heap:=za1 b s.heap a}):wpAny (model prog w) A (pyIter (.ref a)) Q E s:=by
 cases b with
 |true=>exact mM (show s.heap.IsTuple a vs.toArray from h) q
 |false=>exact iG (show s.heap.IsList a vs.toArray from h) q
def Ov {b:Bool}{a:Addr}{vs:List Value}{h:Heap}(s:vR b a vs h)(o:Obj):vR b a vs (h.push o):=(wZ b 0 a vs).smv _ _ s λo' e=>yQ _ e
def O0 (b c:Bool)(a d:Addr)(xs ys:List Value):Meets (Builtin.«zip.__new__» ⟨[.type "zip", .ref a,.ref d],[]⟩) (λ_ R s=>vR b a xs s.heap/\vR c d ys s.heap/\R (.ok (.ret (.ref (za4 b c s.heap a d).objs.size))) {s with heap:=za5 b c s.heap a d}):=
 .of_wp λprog w A R s h=>by
  obtain⟨hp,g,dd,tk,os⟩:=s;obtain⟨ha,hb,h⟩:=h;have hsub:=sub_zip;have A1:vR b a xs (Shared.heap ⟨hp,g,dd,tk,os⟩):=ha;have B1:vR c d ys (Shared.heap ⟨hp.push {cls:=.type (bB b),data:=.fields #[.ref a,.int 0 0]},g,dd,tk,os⟩):=Ov hb _
  wp_walk using Dp A1,Dp B1
  exact⟨_,rfl,h⟩
section
variable {prog:Program} {w:World} {A:Around} {E:Value->Shared->Prop} {s:Shared}
def G8 {b c:Bool}{a d:Addr}{xs ys:List Value}{Q:Value->Shared->Prop}(ha:vR b a xs s.heap)(hb:vR c d ys s.heap)
  (h:∀g,IsZip g (s.heap.objs.size+4) (s.heap.objs.size+2) (s.heap.objs.size+3) .none->IsPair g (s.heap.objs.size+2) (.ref s.heap.objs.size) (.ref (s.heap.objs.size+1))->IsPair g (s.heap.objs.size+3) .none .none->Tn2 b s.heap.objs.size a 0 g->Tn2 c (s.heap.objs.size+1) d 0 g->(∀c o,s.heap.get? c=some o->g.get? c=some o)->Q (.ref (s.heap.objs.size+4)) {s with heap:=g}) :
  wpAny (model prog w) A (call (.type "zip") [.ref a,.ref d]) Q E s:=by
 refine callType_new F.called_zip (by decide) (F.typeCall_zip_2 _ _) (F.newCall_zip_2 _ _) (λobj=>F.args_object_init_3 obj _ _) F.entry_zip_new (O0 b c a d xs ys) ⟨ha,hb,?_⟩;have n1:(za1 b s.heap a).objs.size=s.heap.objs.size+1:=jM ..;have n2:(za2 b c s.heap a d).objs.size=s.heap.objs.size+2:=by rw[jM,n1]
 have n3:(za3 b c s.heap a d).objs.size=s.heap.objs.size+3:=by rw[jM,n2]
 have n4:(za4 b c s.heap a d).objs.size=s.heap.objs.size+4:=by rw[jM,n3]
 have o5:(za5 b c s.heap a d).get? (za4 b c s.heap a d).objs.size=some _:=zO _ rfl;have o4:(za5 b c s.heap a d).get? (za3 b c s.heap a d).objs.size=some _:=yQ _ (zO _ rfl);have o3:(za5 b c s.heap a d).get? (za2 b c s.heap a d).objs.size=some _:=yQ _ (yQ _ (zO _ rfl));have o2:(za5 b c s.heap a d).get? (za1 b s.heap a).objs.size=some _:=yQ _ (yQ _ (yQ _ (zO _ rfl)));have o1:(za5 b c s.heap a d).get? s.heap.objs.size=some _:=yQ _ (yQ _ (yQ _ (yQ _ (zO _ rfl))));show _/\_;rw[n2,n3,n4] at o5;rw[n1,n2] at o3;rw[n3] at o4;rw[n1] at o2;rw[n4];refine⟨⟨_,o5,rfl⟩,h _ o5 o3 o4 ?_ ?_ λc o g=>yQ _ (yQ _ (yQ _ (yQ _ (yQ _ g))))⟩
 .cases b with
  |true=>exact⟨_,o1,rfl,rfl⟩
  |false=>exact⟨_,o1,rfl,rfl⟩
 .cases c with
  |true=>exact⟨_,o2,rfl,rfl⟩
  |false=>exact⟨_,o2,rfl,rfl⟩
end
def mR (K:xo)(b c:Bool)(a1 a2:Addr):It:=
 ⟨λi H=>∃xs ys x y,Sq2 K b H a1 xs/\Sq2 K c H a2 ys/\xs[i]?=some x/\ys[i]?=some y,λi H v H'=>∃x y q,(∀xs,Sq2 K b H a1 xs->xs[i]?=some x)/\(∀ys,Sq2 K c H a2 ys->ys[i]?=some y)/\v=.ref q/\H q=none/\H'=upd H q (.tup [x,y]),λi H=>∃xs ys,Sq2 K b H a1 xs/\Sq2 K c H a2 ys/\(xs.length<=i\/ys.length<=i)⟩
section
variable {P:Program} {w:World} {K:xo} {z ti to i1 i2 a1 a2:Addr} {b c':Bool}
def ZS2 (b c:Bool)(z ti to i1 i2 a1 a2:Addr)(i:Nat)(h:Heap):Prop:=IsZip h z ti to .none/\IsPair h ti (.ref i1) (.ref i2)/\(∃p q,IsPair h to p q)/\Tn2 b i1 a1 i h/\Tn2 c i2 a2 i h
def OO {elts:List Expr}{kk:Nat}{pp:Pos}(D:ZA z ti to i1 i2 a1 a2):Turn P w K (.Tuple elts kk pp) (mR K b c' a1 a2) [z,ti,to,i1,i2] z (ZS2 b c' z ti to i1 i2 a1 a2) where
 mem:=by simp
 obj:=λi h st c hc=>by
  obtain⟨s1,s2,⟨p,q,s3⟩,s4,s5⟩:=st;simp only[xR,yI,yJ] at hc;rcases hc with e|e|e|e|e<;>subst e
  .exact⟨_,s1,λv=>by simp⟩
  .exact⟨_,s2,λv=>by simp⟩
  .exact⟨_,s3,λv=>by simp⟩
  .exact(wZ b _ a1 []).ob _ _ s4
  .exact(wZ c' _ a2 []).ob _ _ s5
 keep:=λi h h' st k=>by obtain⟨s1,s2,⟨p,q,s3⟩,s4,s5⟩:=st;exact⟨k _ (by simp) _ s1,k _ (by simp) _ s2,⟨p,q,k _ (by simp) _ s3⟩,(wZ b i1 a1 []).mv _ _ _ s4 λo e=>k _ (by simp) o e,(wZ c' i2 a2 []).mv _ _ _ s5 λo e=>k _ (by simp) o e⟩
 item:=by
  intro X hP hw hK hc i xg s σ H E I hf st hg;subst hP hw hK;obtain⟨Z,TI,⟨p,q,TO⟩,b1,b2⟩:=st;obtain⟨xs,ys,x,y,sq1,sq2,hx,hy⟩:=hg;obtain⟨vs,rv,c1⟩:=I.sq2 sq1;obtain⟨us,ru,c2⟩:=I.sq2 sq2;obtain⟨xv,ex,rx⟩:=rv.get hx;obtain⟨yv,ey,ry⟩:=ru.get hy;have hT:s.TypeIs (.ref z) "zip" := ⟨_,Z,rfl⟩
  have fr:H s.heap.objs.size=none:=I.hok.fresh (xY _);unfold pyNext;refine xl (mL (jW (name:=Str.ofString "__next__") hT lR (qV lR hT F.entry_zip_next (O2 D (wZ b i1 a1 vs) (wZ c' i2 a2 us) Z TI TO b1 b2 c1 c2 ex ey λg Z' TO' b1' b2' T' kp=>?_) (F.args_zip_next_1 _))));refine xK ⟨_,rfl,wpAny_letOwnedTupleGo_zip Z' λg2 Z2 S2=>?_⟩;obtain⟨⟨d1,d2,d3,d4,d5,d6,d7,d8,d9,d10⟩,_⟩:=D;have ltz:z<s.heap.objs.size:=yG Z;have kp2:∀c o,c∉[z,ti,to,i1,i2]->s.heap.get? c=some o->g2.get? c=some o:=λc o hc e=>by simp only[xR,yI,yJ,not_or] at hc;exact S2.extBut _ _ hc.1 (kp c o hc.1 hc.2.2.1 hc.2.2.2.1 hc.2.2.2.2 e)
  have TI2:IsPair g2 ti (.ref i1) (.ref i2):=S2.extBut _ _ d1 (kp _ _ d1 d5 d6 d7 TI);have T2:IsPair g2 s.heap.objs.size xv yv:=S2.extBut _ _ (vO ltz) T';have st2:ZS2 b c' z ti to i1 i2 a1 a2 (i+1) g2:=⟨Z2,TI2,⟨_,_,S2.extBut _ _ d2 TO'⟩,(wZ b i1 a1 vs).mv _ _ _ b1' λo=>S2.extBut _ o d3,(wZ c' i2 a2 us).mv _ _ _ b2' λo=>S2.extBut _ o d4⟩
  have nfp:∀c u,H c=some u->c∉[z,ti,to,i1,i2]:=λc u e hm=>by rw[(hf c hm).1] at e;cases e
  have nT:∀c o,s.heap.get? c=some o->c≠s.heap.objs.size:=λc o e=>zq (yG e);refine⟨.ref s.heap.objs.size,upd H s.heap.objs.size (.tup [x,y]),?_,rfl,⟨x,y,_,λxs' h'=>by rw[<-I.sq2_inj sq1 h'];exact hx,λys' h'=>by rw[<-I.sq2_inj sq2 h'];exact hy,rfl,fr,rfl⟩,st2,λc hm=>?_⟩
  .show Inv X xg σ (upd H s.heap.objs.size (.tup [x,y])) {s with heap:=g2,gens:=s.gens,drawn:=s.drawn,toks:=s.toks};refine Inv.step (s:=s) (g':=s.gens) (d':=s.drawn) (t':=s.toks) (ch:=[z,ti,to,i1,i2]) I (λc hm=>?_) (λc o _ _ hm e _=>kp2 c o hm e) (λc o _ _ hm e _=>⟨o.slots,kp2 c o hm e⟩) (λc o hm e n=>by rw[xN (nT c o e)];exact n) (λc o hm e=>⟨o,kp2 c o hm e⟩)
    (λc zs e=>by rw[xN (yK e fr)];exact e) (λc o u e=>by rw[xN (yK e fr)];exact e) (λc ps e=>⟨#[],by rw[xN (yK e fr),e];simp⟩) (λm hm=>?_) (λc u e=>?_) I.bare
   .obtain⟨_,f1,_,f3,f4,f5⟩:=hf c hm;exact⟨f3,f1,f4,f5⟩
   .obtain⟨o,es,ep,ho,r⟩:=hm;exact⟨o,es,ep,kp2 _ o (λz'=>(hf _ z').2.1 rfl) ho,r⟩
   .by_cases hc':c=s.heap.objs.size
    .subst hc';rw[yU] at e;cases e;exact⟨by show 2<=sizeLine;decide,[xv,yv],.cons rx (.cons ry .nil),_,T2,rfl,0,rfl⟩
    .rw[xN hc'] at e;refine(I.hok c u e).stay (λc' v hcc q'=>kp2 c' v ?_ q') (λc' q'=>by rw[xN (yK q' fr)];exact q') (λc' zs q'=>by rw[xN (yK q' fr)];exact q') λc' o u q'=>by rw[xN (yK q' fr)];exact q'
     rcases hcc with rfl|hcc
     .exact nfp _ _ e
     .exact nfp _ _ hcc
  .rw[xN]
   .exact(hf c hm).1
   .simp only[xR,yI,yJ] at hm;rcases hm with e|e|e|e|e<;>subst e
    .exact nT _ _ Z
    .exact nT _ _ TI
    .exact nT _ _ TO
    .obtain⟨o,e,_⟩:=(wZ b _ a1 []).ob _ _ b1;exact nT _ _ e
    .obtain⟨o,e,_⟩:=(wZ c' _ a2 []).ob _ _ b2;exact nT _ _ e
 done:=by
  intro X hP hw hK hc i xg s σ H E I hf st hg;subst hP hw hK;obtain⟨Z,TI,⟨p,q,TO⟩,b1,b2⟩:=st;obtain⟨xs,ys,sq1,sq2,hend⟩:=hg;obtain⟨vs,rv,c1⟩:=I.sq2 sq1;obtain⟨us,ru,c2⟩:=I.sq2 sq2;have hT:s.TypeIs (.ref z) "zip" := ⟨_,Z,rfl⟩
  have he:vs[i]?=none\/us[i]?=none:=hend.imp (λh=>List.getElem?_eq_none_iff.mpr (by rw[<-rv.length];exact h)) (λh=>List.getElem?_eq_none_iff.mpr (by rw[<-ru.length];exact h));unfold pyNext;refine xl (mL (jW (name:=Str.ofString "__next__") hT lR (qV lR hT F.entry_zip_next (O1 (I.ok.hd hc) D (wZ b i1 a1 vs) (wZ c' i2 a2 us) Z TI TO b1 b2 c1 c2 he λg e kp ho=>?_) (F.args_zip_next_1 _))));obtain⟨o,ho,hcl⟩:=ho;refine xl (Gd (T := "StopIteration") (b:=true) ⟨o,ho,hcl⟩ isSubtype_stop (xK ⟨rfl,?_⟩));have kp2:∀c o,c∉[z,ti,to,i1,i2]->s.heap.get? c=some o->g.get? c=some o:=λc o hc e=>by simp only[xR,yI,yJ,not_or] at hc;exact kp c o hc.1 hc.2.2.1 hc.2.2.2.1 hc.2.2.2.2 e
  have nfp:∀c u,H c=some u->c∉[z,ti,to,i1,i2]:=λc u e hm=>by rw[(hf c hm).1] at e;cases e
  refine Inv.step (s:=s) (g':=s.gens) (d':=s.drawn) (t':=s.toks) (ch:=[z,ti,to,i1,i2]) I (λc hm=>?_) (λc o _ _ hm e _=>kp2 c o hm e) (λc o _ _ hm e _=>⟨o.slots,kp2 c o hm e⟩) (λc o hm e n=>n) (λc o hm e=>⟨o,kp2 c o hm e⟩)
   (λc zs e=>e) (λc o u e=>e) (λc ps e=>⟨#[],by rw[e];simp⟩) (λm hm=>?_) (λc u e=>?_) I.bare
  .obtain⟨_,f1,_,f3,f4,f5⟩:=hf c hm;exact⟨f3,f1,f4,f5⟩
  .obtain⟨o,es,ep,ho,r⟩:=hm;exact⟨o,es,ep,kp2 _ o (λz'=>(hf _ z').2.1 rfl) ho,r⟩
  .refine(I.hok c u e).stay (λc' v hcc q'=>kp2 c' v ?_ q') (λ_ q'=>q') (λ_ _ q'=>q') λ_ _ _ q'=>q';rcases hcc with rfl|hcc
   .exact nfp _ _ e
   .exact nfp _ _ hcc
 self:=λA i s Q E st h=>wpAny_pyIter_zip st.1 h
end
def BY (K:xo)(ta:TA):TI:=λσ H R=>ta σ H λvs H1=>∃(b c:Bool) (a1 a2:Addr) (xs ys:List V),vs=[.ref a1,.ref a2]/\Sq2 K b H1 a1 xs/\Sq2 K c H1 a2 ys/\R (mR K b c a1 a2) H1
section
variable {X:Cx}
def sT (K:xo){elts:List Expr}{kk:Nat}{pp:Pos}{a b:Expr}{ta:TA}{p pos:Pos}(hg:Gl X "zip")(hm:X.mg "zip" = none)(ha:PA X [a,b] ta)(hs:starEach [a,b] X.env=[(false,eval a X.env),(false,eval b X.env)]:=by rfl)(hs2:starEach [b] X.env=[(false,eval b X.env)]:=by rfl)(eK:X.K=K:=by rfl) :
  PI X (.Tuple elts kk pp) (.Call (.Name "zip" p) [a,b] [] pos) (BY K ta):=by
 subst eK;intro xg s σ H R I h;refine Call_ (fy I hg hm GZ (iA (xW (@ha pos xg s σ H _ I h) λus s1 ⟨vs,H1,I1,r1,q1⟩=>?_) (by rw[hs,hs2]) (by rw[hs2];rfl)));obtain⟨bb,cc,a1,a2,xs,ys,e,sq1,sq2,q⟩:=q1;subst e;obtain⟨u1,u2,rfl,e1,e2⟩:=vals2 r1;obtain rfl:u1=Value.ref a1:=e1;obtain rfl:u2=Value.ref a2:=e2;obtain⟨vs,rv,c1⟩:=I1.sq2 sq1;obtain⟨us,ru,c2⟩:=I1.sq2 sq2;have fp:∀k:Nat,uB X xg H1 (s1.heap.objs.size+k):=λk=>I1.fpOk (iw _ _) (I1.hok.fresh (iw _ _));have lt:∀(b:Bool) (a:Addr) (vs:List Value),vR b a vs s1.heap->a<s1.heap.objs.size:=λb a vs h=>by
  cases b with
  |true=>obtain⟨o,e,_⟩:=(show s1.heap.IsTuple a vs.toArray from h);exact yG e
  |false=>obtain⟨o,e,_⟩:=(show s1.heap.IsList a vs.toArray from h);exact yG e
 refine G8 c1 c2 ?_;intro g z1 z2 z3 z4 z5 kp;have st:ZS2 bb cc (s1.heap.objs.size+4) (s1.heap.objs.size+2) (s1.heap.objs.size+3) s1.heap.objs.size (s1.heap.objs.size+1) a1 a2 0 g:=⟨z1,z2,⟨_,_,z3⟩,z4,z5⟩
 refine wpAny_pyIter_zip st.1 ⟨_,_,_,_,H1,rfl,I1.kept (t':=s1.toks) kp,OO (OZ (lt _ _ _ c1) (lt _ _ _ c2)),st,λc hc=>?_,q⟩;simp only[xR,yI,yJ] at hc;rcases hc with e|e|e|e|e<;>subst e
 .exact fp 4
 .exact fp 2
 .exact fp 3
 .exact fp 0
 .exact fp 1
end
def vj:List Tr->List Tr->List Tr
 |t::ts,u::us=>.tup [t,u]::vj ts us
 |_,_=>[]
theorem lN:∀(ts us:List Tr),(vj ts us).length=min ts.length us.length
 |[],_=>by simp[vj]
 |_::_,[]=>by simp[vj]
 |_::ts,_::us=>by simp only[vj,uA,lN ts us];lia
theorem Fj:∀ {ts us:List Tr} {i:Nat} {t u:Tr},ts[i]?=some t->us[i]?=some u->(vj ts us)[i]?=some (.tup [t,u])
 |[],_,_,_,_,h,_=>by simp at h
 |_::_,[],_,_,_,_,h=>by simp at h
 |_::_,_::_,0,_,_,h,h'=>by simp at h h';subst h h';rfl
 |_::ts,_::us,i+1,t,u,h,h'=>by show(vj ts us)[i]?=_;exact Fj (by simpa using h) (by simpa using h')
def sqT (b:Bool)(ts:List Tr):Tr:=if b then .tup ts else .lst ts
section
variable {K:xo}
theorem jG {F:Addr->Prop}{H:Hp}{b:Bool}{ts:List Tr}{a:Addr}(h:Rep F H (sqT b ts) (.ref a)):∃ws,Sq2 K b H a ws/\xZ F H ts ws:=by
 cases b with
 |true=>
  obtain⟨a',ws,e,n,h,r⟩:=(show Rep F H (.tup ts) (.ref a) from h)
  cases e;exact⟨ws,yy.of h,r⟩
 |false=>
  obtain⟨a',ws,e,n,h,r⟩:=(show Rep F H (.lst ts) (.ref a) from h)
  cases e;exact⟨ws,ye.of h,r⟩
def JA {b c:Bool}{a1 a2:Addr}{ts us:List Tr}:ItL (mR K b c a1 a2) (vj ts us) [(sqT b ts,.ref a1),(sqT c us,.ref a2)] where
 go:=λF H i s hi=>by obtain⟨ws,h1,r1⟩:=jG (K:=K) (s _ xS);obtain⟨ws2,h2,r2⟩:=jG (K:=K) (s _ (yV _ xS));rw[lN] at hi;obtain⟨w,e1,_⟩:=r1.getT (ze (i:=i) (by lia));obtain⟨w2,e2,_⟩:=r2.getT (ze (i:=i) (by lia));exact⟨ws,ws2,w,w2,h1,h2,e1,e2⟩
 stop:=λF H s=>by obtain⟨ws,h1,r1⟩:=jG (K:=K) (s _ xS);obtain⟨ws2,h2,r2⟩:=jG (K:=K) (s _ (yV _ xS));refine⟨ws,ws2,h1,h2,?_⟩;rw[lN,<-r1.len,<-r2.len];lia
 yld:=λF i H x H' s d hi y=>by obtain⟨ws,h1,r1⟩:=jG (K:=K) (s _ xS);obtain⟨ws2,h2,r2⟩:=jG (K:=K) (s _ (yV _ xS));obtain⟨v,v2,q,hv,hv2,rfl,hq,rfl⟩:=y;obtain⟨t,e1,g1⟩:=r1.get (hv ws h1);obtain⟨u,e2,g2⟩:=r2.get (hv2 ws2 h2);exact⟨.inr ⟨q,_,hq,rfl⟩,.tup [t,u],Fj e1 e2,q,_,rfl,λz=>(d q z).no hq,yU,⟨_,_,rfl,fX hq g1,_,_,rfl,fX hq g2,rfl⟩⟩
def lx:Tr->Option (Bool×List Tr)
 |.tup ts=>some (true,ts)
 |.lst ts=>some (false,ts)
 |_=>none
def Jj (d:DA):DI:=λτ KK=>d τ λxs=>match xs with
 |[x,y]=>(match lx x,lx y with|some p,some q=>KK (vj p.2 q.2)|_,_=>False)
 |_=>False
theorem Es {x:Tr}{p:Bool×List Tr}(h:lx x=some p):x=sqT p.1 p.2:=by
 cases x with
 |tup ts=>cases h;rfl
 |lst ts=>cases h;rfl
 |_=>cases h
theorem D6 {F:Addr->Prop}{H:Hp}{b:Bool}{ts:List Tr}{v:V}(h:Rep F H (sqT b ts) v):∃a,v=.ref a:=by
 cases b with
 |true=>obtain⟨a,ws,e,_⟩:=(show Rep F H (.tup ts) v from h);exact⟨a,e⟩
 |false=>obtain⟨a,ws,e,_⟩:=(show Rep F H (.lst ts) v from h);exact⟨a,e⟩
def sL {b:Bool}{n:Nat}{ta:TA}{da:DA}(h:OkA K b n ta da):OkI K b (BY K ta) (Jj da):=λB φ σ τ H R KK Rs hd q=>
 h B φ σ τ H _ _ Rs hd λts vs H1 x1 k1 l1 r1=>by
  split at k1
  .rename_i x y;split at k1
   .rename_i p p' e1 e2;obtain⟨v,w,rfl,g1,g2⟩:=tO r1;rw[Es e1] at g1;rw[Es e2] at g2;obtain⟨a1,rfl⟩:=D6 g1;obtain⟨a2,rfl⟩:=D6 g2;obtain⟨ws,s1,_⟩:=jG (K:=K) g1;obtain⟨ws2,s2,_⟩:=jG (K:=K) g2;refine⟨p.1,p'.1,a1,a2,ws,ws2,rfl,s1,s2,q _ _ _ H1 x1 k1 JA λz hz=>?_⟩;simp only[xR,yI,yJ] at hz;rcases hz with rfl|rfl
    .exact g1
    .exact g2
   .exact k1.elim
  .exact k1.elim
end
def uH {X:Cx}(K:xo)(e:X.K=K:=by rfl):IxR X (rIx K):=e▸JB
theorem Bz {dg:DG}{body:DS}{G:qo}(W:List Tr->xQ->Prop)(h0:∀ τ,W [] τ->G.nx τ)
  (h1:∀x xs τ (N:xQ->Prop),W (x::xs) τ->(∀ τ',W xs τ'->N τ')->dg x τ λτ'=>body {G with nx:=N,ct:=N,bk:=G.nx} τ'):∀xs τ,W xs τ->kJ dg body G xs τ
 |[],τ,w=>h0 τ w
 |x::xs,τ,w=>h1 x xs τ (kJ dg body G xs) w (Bz W h0 h1 xs)
def vT {dg:DG}{body:DS}{G:qo}{all:List Tr}{τ:xQ}(W:Nat->xQ->Prop)(w0:W 0 τ)
  (h1:∀i x τ (N:xQ->Prop),all[i]?=some x->W i τ->(∀ τ',W (i+1) τ'->N τ')->dg x τ λτ'=>body {G with nx:=N,ct:=N,bk:=G.nx} τ')
  (h0:∀ τ,W all.length τ->G.nx τ):kJ dg body G all τ:=by
 refine Bz (λxs τ=>∃i,xs=all.drop i/\i<=all.length/\W i τ) (λτ ⟨i,e,hi,w⟩=>h0 τ ?_) (λx xs τ N ⟨i,e,hi,w⟩ hN=>?_) all τ ⟨0,rfl,ji _,w0⟩
 .have:all.length<=i:=by have:=zS List.length e;rw[uO] at this;simp at this;lia
  have:i=all.length:=by lia
  rw[<-this];exact w
 .have hlt:i<all.length:=by have:=zS List.length e;rw[uO] at this;simp at this;lia
  rw[aI hlt] at e;injection e with e1 e2;exact h1 i x τ N (by rw[e1];exact ze hlt) w λτ' w'=>hN τ' ⟨i+1,e2,hlt,w'⟩
theorem Ff {c:DT}{body:DS}{G:qo}(W:Nat->xQ->Prop)
  (h:∀n τ (N:xQ->Prop),W n τ->(∀m τ',m<n->W m τ'->N τ')->c τ λb=>if b=true then body {G with nx:=N,ct:=N,bk:=G.nx} τ else G.nx τ):∀k n τ,n<k->W n τ->gE c body G k τ
 |0,_,_,hk,_=>absurd hk (by lia)
 |k+1,n,τ,hk,w=>h n τ (gE c body G k) w λm τ' hm w'=>Ff W h k m τ' (by lia) w'
def aB {c:DT}{body:DS}{G:qo}{τ:xQ}(W:Nat->xQ->Prop)(n:Nat)(w0:W n τ)
  (h:∀n τ (N:xQ->Prop),W n τ->(∀m τ',m<n->W m τ'->N τ')->c τ λb=>if b=true then body {G with nx:=N,ct:=N,bk:=G.nx} τ else G.nx τ):Ek c body G τ:=
 ⟨n+1,Ff W h (n+1) n τ (iy n) w0⟩
theorem aX {dg:DG}{dc:DT}{de:DE}{τi:xQ}{KK:List Tr->Prop}(W:List Tr->List Tr->Prop)(h0:∀acc,W [] acc->KK acc)
  (h1:∀x xs acc (N:List Tr->Prop),W (x::xs) acc->(∀acc',W xs acc'->N acc')->dg x τi λτ2=>dc τ2 λb=>if b=true then de τ2 λy=>N (acc++[y]) else N acc):∀xs acc,W xs acc->kI dg dc de τi KK xs acc
 |[],acc,w=>h0 acc w
 |x::xs,acc,w=>h1 x xs acc (kI dg dc de τi KK xs) w (aX W h0 h1 xs)
def j5 {dg:DG}{de:DE}{τi:xQ}{KK:List Tr->Prop}{xs:List Tr}(g:Tr->Tr)(h1:∀x∈xs,∀N:Tr->Prop,N (g x)->dg x τi λτ2=>de τ2 N)(h0:KK (xs.map g)):kI dg sf de τi KK xs []:=by
 refine aX (λys acc=>∃zs,xs=zs++ys/\acc=zs.map g) (λacc ⟨zs,e,e2⟩=>?_) (λx ys acc N ⟨zs,e,e2⟩ hN=>?_) xs [] ⟨[],rfl,rfl⟩
 .rw[ub] at e;subst e e2;exact h0
 .subst e2;have hx:x∈xs:=by rw[e];simp
  exact h1 x hx (λy=>N (zs.map g++[y])) (hN _ ⟨zs++[x],by rw[e];simp,by simp⟩)
def Au {dg:DG}{de:DE}{τi:xQ}{KK:List Tr->Prop}{xs:List Tr}(R:Tr->Tr->Prop)(h1:∀x∈xs,∀N:Tr->Prop,(∀y,R x y->N y)->dg x τi λτ2=>de τ2 N)
  (h0:∀ys,Paired R xs ys->KK ys):kI dg sf de τi KK xs []:=by
 refine aX (λys acc=>∃zs,xs=zs++ys/\Paired R zs acc) (λacc ⟨zs,e,e2⟩=>?_) (λx ys acc N ⟨zs,e,e2⟩ hN=>?_) xs [] ⟨[],rfl,.nil⟩
 .rw[ub] at e;subst e;exact h0 acc e2
 .have hx:x∈xs:=by rw[e];simp
  exact h1 x hx (λy=>N (acc++[y])) λy hy=>hN _ ⟨zs++[x],by rw[e];simp,tF e2 hy⟩
theorem vz {α:Type}{f:α->Tr}{l:List α}{i:Nat}{t:Tr}(h:(l.map f)[i]?=some t):∃x,l[i]?=some x/\t=f x:=by
 rw[uN] at h;cases e:l[i]? with
 |none=>rw[e] at h;cases h
 |some x=>rw[e] at h;cases h;exact⟨x,rfl,rfl⟩
def ff {α:Type}(ts:List α)(n:Nat):atT ts (n:Int)=ts[n]?:=sG ts n
def GG {α:Type}{ts:List α}{k:Int}(h0:0<=k):atT ts k=ts[k.toNat]?:=by
 obtain⟨n,rfl⟩:∃n:Nat,k=(n:Int):=⟨k.toNat,by lia⟩
 rw[ff];simp
def Aj {α:Type}(ts:List α)(t:α):atT (ts++[t]) (-1)=some t:=by rw[Ai];exact GB ts t
def sqz {n:Nat}(h:n<=1000000):n<sizeLine:=jT h (by decide)
def qd {n:Nat}(h:n<=1000000):n<=sizeLine:=mI (sqz h)
def vU {a b:Int}(h:0<=b):a.fdiv b=a/b:=Int.fdiv_eq_ediv_of_nonneg a h
def ID {a b:Int}(h:0<=b):a.fmod b=a%b:=Int.fmod_eq_emod_of_nonneg a h
section
variable {prog:Program} {w:World} {A:Around} {E:Value->Shared->Prop} {s:Shared}
theorem Bj {it t:Addr}{items:Array Value}(hne:t≠it):∀(n i:Nat) (s:Shared) (Q:List Value->Shared->Prop),s.heap.IsListIter it t i->s.heap.IsList t items->i+n<=items.size->
  (∀h',h'.IsListIter it t (i+n)->Heap.SameBut it s.heap h'->Q ((items.toList.drop i).take n) {s with heap:=h' })->wpAny (model prog w) A (draw (.ref it) n) Q E s
 |0,i,s,Q,hit,_,_,hQ=>by show wpAny _ _ (pure []) Q E s;exact xK (by simpa using hQ s.heap hit (Heap.SameBut.refl ..))
 |n+1,i,s,Q,hit,ht,hle,hQ=>by
  have hlt:i<items.size:=by lia
  show wpAny _ _ (pyNext (.ref it)>>=_) Q E s;refine xl (wpAny_pyNext_list_item hit ht (x:=items[i]) (by simp[hlt]) λh₁ hit₁ hs₁=>?_);refine xl (vP (Bj hne n (i+1) _ _ hit₁ (ht.extBut hs₁.extBut hne) (by lia) λh₂ hit₂ hs₂=>xK ?_));have hd:items.toList.drop i=items[i]::items.toList.drop (i+1):=by simp[aI,hlt]
  have:=hQ h₂ (by rw[show i+(n+1)=i+1+n by lia];exact hit₂) (hs₁.trans hs₂);rw[hd,List.take_succ_cons] at this;exact this
def OQ {t:Addr}{items:Array Value}{Q:List Value->Shared->Prop}(hh:A.handled=none)(ht:s.heap.IsList t items)
  (hQ:∀h',Heap.ExtBut s.heap.objs.size s.heap h'->Q items.toList {s with heap:=h' }):wpAny (model prog w) A (unpackItems (.ref t) items.size none) Q E s:=by
 have hlt:t≠s.heap.objs.size:=by obtain⟨o,ho,_⟩:=ht;exact zq (yG ho)
 unfold unpackItems;refine xl ?_
 .unfold notIterableAtAll;refine xl (wpAny_specialOf ht.typeIs slot_list_iter.lookup ?_);refine xK ?_;simp only[Fn,jl];refine xl (vP (iG ht ?_));refine xl (vP (Bj hlt items.size 0 _ _ ⟨_,zO _ rfl,rfl,rfl⟩ (ht.push _) (by lia) λh₁ hit₁ hs₁=>?_));have hall:List.take items.size (List.drop 0 items.toList)=items.toList:=by rw[dA];exact ur (by simp)
  rw[hall];rw[xG (by simp)];have ht₁:h₁.IsList t items:=(ht.push _).extBut hs₁.extBut hlt;refine xl (vP (wpAny_pyNext_list_end hh hit₁ ht₁ (by simp) λh₂ he₂=>?_));simp only[Option.isSome_none,Fn,jl];refine xK (hQ h₂ λb o hb e=>he₂ b o hb (hs₁.extBut b o hb (yQ _ e)))
def OR {t:Addr}{items:Array Value}{targets:List (Bool×(Value->Sem Unit))}{Q:Unit->Shared->Prop}(hh:A.handled=none)(ht:s.heap.IsList t items)
  (hn:targets.length=items.size) (hstar:targets.findIdx? (·.1)=none)
  (h:∀h',Heap.ExtBut s.heap.objs.size s.heap h'->wpAny (model prog w) A (assignInOrder (targets.map (·.2)) items.toList) Q E {s with heap:=h' }) :
  wpAny (model prog w) A (unpack (.ref t) targets) Q E s:=by
 unfold unpack;rw[hn,hstar];exact xl (vP (OQ hh ht h))
def Gy {env:Env}{elts:List Expr}{x1}{pos:Pos}{t:Addr}{items:Array Value}{Q:Unit->Shared->Prop}(hh:A.handled=none)(ht:s.heap.IsList t items)
  (hn:(assignEach elts env).length=items.size) (hstar:(assignEach elts env).findIdx? (·.1)=none)
  (h:∀h',Heap.ExtBut s.heap.objs.size s.heap h'->wpAny (model prog w) A (assignInOrder ((assignEach elts env).map (·.2)) items.toList) Q E {s with heap:=h' }) :
  wpAny (model prog w) A (assign (.Tuple elts x1 pos) env (.ref t)) Q E s:=by
 rw[assign_Tuple];exact xl (jY (OR hh ht hn hstar h))
end
def BM (K:xo)(n:Nat)(t:TGs):TG:=λv σ H Q=>∃a xs,v=.ref a/\ye K H a xs/\xs.length=n/\t xs σ H Q
section
variable {X:Cx}
def tI (K:xo){pos:Pos}{es:List Expr}{k:Nat}{t:TGs}{n:Nat}(hc:X.calm=true)(h:PGs X es t)
  (hn:(assignEach es X.env).length=n:=by rfl) (hst:(assignEach es X.env).findIdx? (·.1)=none:=by rfl) (e:X.K=K:=by rfl):PG X (.Tuple es k pos) (BM K n t):=by
 subst e;intro xg s σ H v u Q I r hw;obtain⟨a,xs,e1,hq,hl,hw⟩:=hw;subst e1;cases r;obtain⟨xj,rv,⟨o,m,ho,hcl,hd,hs⟩,hz⟩:=I.list hq;refine Gy (I.ok.hd hc) (items:=xj.toArray) ⟨o,ho,hcl,m,hs⟩ (by simp[hn,<-hl,rv.length]) hst λh' hx=>?_;have I1:Inv X xg σ H {s with heap:=h' }:=I.kept (t':=s.toks) λb o e=>hx b o (zq (yG e)) e;exact @h xg _ σ H xs _ Q I1 (by simpa using rv) hw
end
section
variable {K:xo}
def Ia (n:Nat)(d:DGs):DG:=λt τ KK=>match t with|.lst ts=>ts.length=n/\d ts τ KK|_=>False
theorem tu {n:Nat}{gs:TGs}{ds:DGs}(h:dM K gs ds):OkN K (BM K n gs) (Ia n ds):=λB φ σ τ H F t v Q KK R hF r hd q=>by
 cases t with
 |lst ts=>obtain⟨a,ws,e,n,ha,rl⟩:=r;exact⟨a,ws,e,ye.of ha,by rw[<-rl.len];exact hd.1,h B φ σ τ H F ts ws Q KK R hF rl hd.2 q⟩
 |_=>exact hd.elim
def A4 (i:Nat)(db:DE):DE:=λτ KK=>match yg τ i with|.ow ts=>db τ λy=>nY (.lst ts) y KK|_=>False
theorem LC {i:Nat}{tb:TE}{db:DE}(hb:xJ K true tb db):zF K (tOp tL (wK i) tb) (A4 i db):=λB φ σ τ H Q KK R hd q=>by
 have en:=R.ent i;unfold A4 at hd;revert en hd;cases hi:yg τ i with
 |ow ts=>
  intro hd ⟨a,ws,e1,e2,e3,e4,r⟩;refine⟨_,e1,hb B φ σ τ H _ _ R hd λu w H2 x2 k2 r2=>?_⟩;obtain⟨ws',e4',r',_⟩:=sQ R x2 hi e1;cases u with
  |lst us=>obtain⟨a2,ws2,e2,n2,ha2,rl2⟩:=r2;exact⟨a,a2,ws',ws2,rfl,e2,e4',ha2,by rw[<-r'.len,<-rl2.len];exact k2.1,λp hp=>q _ _ _ _ (x2.trans (HX.new (R.hx x2) hp _)) k2.2 (x2.none hp) yU (jF hp (r'.app rl2))⟩
  |_=>exact k2.elim
 |_=>exact λz _=>z.elim
end
theorem yr {b:Bool}{A B:Prop}(h1:b=true->A)(h0:b=false->B):if b=true then A else B:=by
 cases b with
 |true=>exact vW (h1 rfl)
 |false=>exact vc (h0 rfl)
end L2
namespace Pol
abbrev R3:=Int×Int×Int
def val (r p:R3):Int:=r.1*p.1+r.2.1*p.2.1-r.2.2*p.2.2
def det (u v w:R3):Int:=u.1*(v.2.1*w.2.2-v.2.2*w.2.1)-u.2.1*(v.1*w.2.2-v.2.2*w.1)+u.2.2*(v.1*w.2.1-v.2.1*w.1)
def add (u v:R3):R3:=(u.1+v.1,u.2.1+v.2.1,u.2.2+v.2.2)
def mul (k:Int)(u:R3):R3:=(k*u.1,k*u.2.1,k*u.2.2)
def ext3 {u v:R3}(h1:u.1=v.1)(h2:u.2.1=v.2.1)(h3:u.2.2=v.2.2):u=v:=uu h1 (uu h2 h3)
def val_add (r p q:R3):val r (add p q)=val r p+val r q:=by simp only[val,add];grind
def val_mul (r p:R3)(k:Int):val r (mul k p)=k*val r p:=by simp only[val,mul];grind
def vq (u v w:R3):det u v w=det v w u:=by simp only[det];grind
def Bg (u v w:R3):det u w v = - det u v w:=by simp only[det];grind
def j9 (u v:R3):det u v v=0:=by simp only[det];grind
def si (u v:R3):det u u v=0:=by simp only[det];grind
def sj (u v:R3):det u v u=0:=by simp only[det];grind
def nQ (u v p q:R3):det u v (add p q)=det u v p+det u v q:=by simp only[det,add];grind
def j8 (u v p:R3)(k:Int):det u v (mul k p)=k*det u v p:=by simp only[det,mul];grind
def four (r a b c d:R3):det b c d*val r a+det a b d*val r c=det a c d*val r b+det a b c*val r d:=by simp only[det,val];grind
def AO (u v w p:R3):mul (det u v w) p=add (mul (det p v w) u) (add (mul (det u p w) v) (mul (det u v p) w)):=by apply ext3<;>simp only[det,mul,add]<;>grind
def NA (r u w z p:R3)(hu:val r u=0)(hw:val r w=0):val r p*det u w z=val r z*det u w p:=by have h:=zS (val r) (AO u w z p);rw[val_mul,val_add,val_add,val_mul,val_mul,val_mul,hu,hw] at h;rw[gI (val r p)];rw[h];grind
def pp {a b:Int}(h:0<a)(k:0<b):0<a*b:=jf h k
def pz {a b:Int}(h:0<=a)(k:0<=b):0<=a*b:=Int.mul_nonneg h k
def pn {a b:Int}(h:0<=a)(k:b<=0):a*b<=0:=Int.mul_nonpos_of_nonneg_of_nonpos h k
def np {a b:Int}(h:a<=0)(k:0<=b):a*b<=0:=O5 h k
def nn {a b:Int}(h:a<=0)(k:b<=0):0<=a*b:=Int.mul_nonneg_of_nonpos_of_nonpos h k
def qG {a b:Int}(h:0<a)(k:0<a*b):0<b:=by
 rcases zy 0 b with z|z
 .exact z
 .have:=pn (yA h) z;lia
def h_ {a b:Int}(h:0<a)(k:0<=a*b):0<=b:=by
 rcases zy b 0 with z|z
 .have:=je h z;lia
 .exact z
def Kh {a b:Int}(h:0<a)(k:a*b<=0):b<=0:=by
 rcases zy 0 b with z|z
 .have:=pp h z;lia
 .exact z
def Fi {a b:Int}(h:0<a)(k:a*b=0):b=0:=(vk.mp k).resolve_left (by lia)
inductive Cn (l:List R3):R3->Prop
 |zero:Cn l (0,0,0)
 |mem {v}:v∈l->Cn l v
 |add {p q}:Cn l p->Cn l q->Cn l (add p q)
theorem Cn.nsmul {l:List R3}{p:R3}(h:Cn l p):∀k:Nat,Cn l (mul k p)
 |0=>by
  have:mul ((0:Nat):Int) p=(0,0,0):=by apply ext3<;>simp[mul]
  rw[this];exact .zero
 |k+1=>by
  have:mul ((k+1:Nat):Int) p=Pol.add (mul k p) p:=by apply ext3<;>simp only[mul,Pol.add]<;>grind
  rw[this];exact(h.nsmul k).add h
def Cn.smul {l:List R3}{p:R3}(h:Cn l p){k:Int}(hk:0<=k):Cn l (mul k p):=by have:=h.nsmul k.toNat;rwa [lZ hk] at this
theorem Cn.mono {l l':List R3}{p:R3}(h:Cn l p)(hl:∀v∈l,Cn l' v):Cn l' p:=by
 induction h with
 |zero=>exact .zero
 |mem m=>exact hl _ m
 |add _ _ h1 h2=>exact h1.add h2
theorem Cn.lin {l:List R3}{p:R3}(h:Cn l p)(g:R3->Int)(g0:g (0,0,0)=0)(ga:∀p q,g (Pol.add p q)=g p+g q)(hl:∀v∈l,0<=g v):0<=g p:=by
 induction h with
 |zero=>lia
 |mem m=>exact hl _ m
 |add _ _ h1 h2=>rw[ga];lia
def Cn.valGe {l:List R3}{p:R3}(h:Cn l p)(r:R3)(hl:∀v∈l,0<=Pol.val r v):0<=Pol.val r p:=h.lin (Pol.val r) (by simp[Pol.val]) (val_add r) hl
theorem Cn.det {l:List R3}{p:R3}(h:Cn l p)(u v:R3)(hl:∀w∈l,0<=Pol.det u v w):0<=Pol.det u v p:=h.lin (Pol.det u v) (by simp[Pol.det]) (nQ u v) hl
theorem Cn.bot {l:List R3}{p:R3}(h:Cn l p)(hl:∀v∈l,0<v.2.2):p=(0,0,0)\/0<p.2.2:=by
 induction h with
 |zero=>exact .inl rfl
 |mem m=>exact .inr (hl _ m)
 |@add p q _ _ h1 h2=>
  rcases h1 with rfl|h1
  .have:Pol.add (0,0,0) q=q:=by apply ext3<;>simp[Pol.add]
   rw[this];exact h2
  .right;show 0<p.2.2+q.2.2;rcases h2 with rfl|h2
   .simpa using h1
   .lia
theorem Cn.zeros {l:List R3}{p:R3}(h:Cn l p)(r:R3)(hl:∀v∈l,0<=Pol.val r v)(h0:Pol.val r p<=0):Cn (l.filter λv=>Pol.val r v=0) p:=by
 induction h with
 |zero=>exact .zero
 |@mem v m=>exact .mem (vM.mpr ⟨m,by have:=hl v m;simp;lia⟩)
 |@add p q hp hq h1 h2=>rw[val_add] at h0;have a:=hp.valGe r hl;have b:=hq.valGe r hl;exact(h1 (by lia)).add (h2 (by lia))
theorem Cn.pair {u v p:R3}(h:Cn [u,v] p):∃a b:Int,0<=a/\0<=b/\p=Pol.add (mul a u) (mul b v):=by
 induction h with
 |zero=>exact⟨0,0,by lia,by lia,by apply ext3<;>simp[Pol.add,mul]⟩
 |mem m=>
  simp only[xR,yI,yJ] at m;rcases m with rfl|rfl
  .exact⟨1,0,by lia,by lia,by apply ext3<;>simp[Pol.add,mul]⟩
  .exact⟨0,1,by lia,by lia,by apply ext3<;>simp[Pol.add,mul]⟩
 |add _ _ h1 h2=>obtain⟨a,b,a0,b0,rfl⟩:=h1;obtain⟨c,d,c0,d0,rfl⟩:=h2;exact⟨a+c,b+d,by lia,by lia,by apply ext3<;>simp only[Pol.add,mul]<;>grind⟩
def InC (l:List R3)(p:R3):Prop:=∃m:Int,0<m/\Cn l (mul m p)
structure Ccw (l:List R3):Prop where
 tri:∀u v w:R3,List.Sublist [u,v,w] l->0<det u v w
 nd:l.Nodup
theorem EC {u v w:R3}{l1 l2:List R3}(h:[u,v,w]=l1++l2):(l1=[]/\l2=[u,v,w])\/(l1=[u]/\l2=[v,w])\/(l1=[u,v]/\l2=[w])\/(l1=[u,v,w]/\l2=[]):=by
 cases l1 with
 |nil=>exact .inl ⟨rfl,h.symm⟩
 |cons a t=>
  injection h with h1 h2;subst h1;cases t with
  |nil=>exact .inr (.inl ⟨rfl,h2.symm⟩)
  |cons b t=>
   injection h2 with h1 h2;subst h1;cases t with
   |nil=>exact .inr (.inr (.inl ⟨rfl,h2.symm⟩))
   |cons c t=>injection h2 with h1 h2;subst h1;have:=List.append_eq_nil_iff.mp h2.symm;rw[this.1,this.2];exact .inr (.inr (.inr ⟨rfl,rfl⟩))
def Ccw.rot {a b:List R3}(h:Ccw (a++b)):Ccw (b++a):=by
 refine⟨λu v w s=>?_,?_⟩
 .obtain⟨l1,l2,e,s1,s2⟩:=iu.mp s;have s3:=List.Sublist.append s2 s1;rcases EC e with ⟨rfl,rfl⟩|⟨rfl,rfl⟩|⟨rfl,rfl⟩|⟨rfl,rfl⟩
  .exact h.tri _ _ _ (by simpa using s3)
  .have:=h.tri _ _ _ (show List.Sublist [v,w,u] (a++b) by simpa using s3);rw[vq];exact this
  .have:=h.tri _ _ _ (show List.Sublist [w,u,v] (a++b) by simpa using s3);rw[<-vq];exact this
  .exact h.tri _ _ _ (by simpa using s3)
 .have:=h.nd;rw[jh] at this ⊢;exact⟨this.2.1,this.1,λx hx y hy e=>this.2.2 y hy x hx e.symm⟩
def Ccw.alt {l:List R3}(h:Ccw l)(r:R3){a b c d:R3}(s:List.Sublist [a,b,c,d] l):¬(0<val r a/\val r b<=0/\0<val r c/\val r d<=0)/\¬(val r a<=0/\0<val r b/\val r c<=0/\0<val r d):=by
 have h1:=h.tri b c d (ua (List.Sublist.cons _ (aG _)) s);have h2:=h.tri a b d (ua (by simp) s);have h3:=h.tri a c d (ua (by simp) s);have h4:=h.tri a b c (ua (by simp) s);have e:=four r a b c d;constructor
 .rintro⟨x1,x2,x3,x4⟩;have:=pp h1 x1;have:=pp h2 x3;have:=pn (yA h3) x2;have:=pn (yA h4) x4;lia
 .rintro⟨x1,x2,x3,x4⟩;have:=pn (yA h1) x1;have:=pn (yA h2) x3;have:=pp h3 x2;have:=pp h4 x4;lia
def ly (f:R3->Bool):∀l:List R3,l=l.takeWhile f++l.dropWhile f:=λl=>(List.takeWhile_append_dropWhile (p:=f) (l:=l)).symm
theorem bJ {f:R3->Bool}{x:R3}:∀ {l:List R3},x∈l.takeWhile f->f x=true:=λ {l} h=>by
 induction l with
 |nil=>simp at h
 |cons a t ih=>
  rw[List.takeWhile_cons] at h;split at h
  .rcases xR.mp h with rfl|h
   .assumption
   .exact ih h
  .simp at h
theorem nU {f:R3->Bool}{x:R3}{t:List R3}:∀ {l:List R3},l.dropWhile f=x::t->f x=false:=λ {l} h=>by
 induction l with
 |nil=>simp at h
 |cons a l ih=>
  rw[List.dropWhile_cons] at h;split at h
  .exact ih h
  .rename_i hn;injection h with h1 h2;subst h1;simpa using hn
theorem Ccw.parts {l:List R3}(h:Ccw l)(r:R3):∃a b P Q,l=a++b/\b++a=P++Q/\(∀v∈P,0<val r v)/\∀v∈Q,val r v<=0:=by
 have e1:=ly (λv=>decide (val r v<=0)) l;have m1:∀v∈l.takeWhile λv=>decide (val r v<=0),val r v<=0:=λv hv=>zr (bJ hv);revert e1 m1;generalize l.takeWhile (λv=>decide (val r v<=0))=N1;cases hd:l.dropWhile (λv=>decide (val r v<=0)) with
 |nil=>intro e1 m1;rw[ub] at e1;exact⟨[],l,[],l,rfl,by simp,λv hv=>absurd hv (by simp),λv hv=>m1 v (e1▸hv)⟩
 |cons p R=>
  intro e1 m1;have hp:0<val r p:=by have:=nU hd;have:=wQ this;lia
  have e2:=ly (λv=>decide (0<val r v)) R;have m2:∀v∈R.takeWhile λv=>decide (0<val r v),0<val r v:=λv hv=>zr (bJ hv);revert e2 m2;generalize R.takeWhile (λv=>decide (0<val r v))=P1;cases hd2:R.dropWhile (λv=>decide (0<val r v)) with
  |nil=>
   intro e2 m2;rw[ub] at e2;subst e2;refine⟨N1,p::R,p::R,N1,e1,rfl,λv hv=>?_,m1⟩;rcases xR.mp hv with rfl|hv
   .exact hp
   .exact m2 v hv
  |cons q S=>
   intro e2 m2;have hq:val r q<=0:=by have:=nU hd2;have:=wQ this;lia
   have mp:∀v∈p::P1,0<val r v:=λv hv=>by
    rcases xR.mp hv with rfl|hv
    .exact hp
    .exact m2 v hv
   cases N1 with
   |cons n0 N=>
    refine⟨n0::N,p::R,p::P1,q::S++(n0::N),e1,by rw[e2];simp,mp,λv hv=>?_⟩;rcases xU.mp hv with hv|hv
    .rcases xR.mp hv with rfl|hv
     .exact hq
     .rcases zy 0 (val r v) with z|z
      .exfalso;have s:List.Sublist [n0,p,q,v] l:=by rw[e1,e2];have s1:List.Sublist [v] S:=uQ.mpr hv;have s2:List.Sublist [q,v] (q::S):=s1.cons_cons q;have s3:List.Sublist [q,v] (P1++q::S):=s2.trans (qP _ _);have s4:List.Sublist [p,q,v] (p::(P1++q::S)):=s3.cons_cons p;have s5:List.Sublist [n0] (n0::N):=uQ.mpr xS;exact s5.append s4
       exact(h.alt r s).2 ⟨m1 n0 xS,hp,hq,z⟩
      .exact z
    .exact m1 v hv
   |nil=>
    have e3:=ly (λv=>decide (val r v<=0)) S;have m3:∀v∈S.takeWhile λv=>decide (val r v<=0),val r v<=0:=λv hv=>zr (bJ hv);have hd3:∀v∈S.dropWhile (λv=>decide (val r v<=0)),0<val r v:=λv hv=>by
     cases hc:S.dropWhile (λv=>decide (val r v<=0)) with
     |nil=>rw[hc] at hv;simp at hv
     |cons p2 S2=>
      have hp2:0<val r p2:=by have:=nU hc;have:=wQ this;lia
      rw[hc] at hv;rcases xR.mp hv with rfl|hv
      .exact hp2
      .rcases zy 0 (val r v) with z|z
       .exact z
       .exfalso;have s:List.Sublist [p,q,p2,v] l:=by rw[e1,vn,e2,e3,hc];have s1:List.Sublist [v] S2:=uQ.mpr hv;have s2:List.Sublist [p2,v] (p2::S2):=s1.cons_cons p2;have s3:=s2.trans (qP (S.takeWhile λv=>decide (val r v<=0)) _);have s4:=s3.cons_cons q;have s5:=s4.trans (qP P1 _);exact s5.cons_cons p
        exact(h.alt r s).1 ⟨hp,hq,hp2,z⟩
    refine⟨p::P1++q::S.takeWhile (λv=>decide (val r v<=0)),S.dropWhile (λv=>decide (val r v<=0)),S.dropWhile (λv=>decide (val r v<=0))++p::P1,q::S.takeWhile (λv=>decide (val r v<=0)),?_,?_,λv hv=>?_,λv hv=>?_⟩
    .rw[e1,vn,e2]
     conv=>lhs;rw[e3]
     simp
    .simp
    .rcases xU.mp hv with hv|hv
     .exact hd3 v hv
     .exact mp v hv
    .rcases xR.mp hv with rfl|hv
     .exact hq
     .exact m3 v hv
def xq:R3->List R3->R3
 |p,[]=>p
 |_,x::xs=>xq x xs
def qY (u v w:R3):det u v w=det w u v:=by simp only[det];grind
def HQ (u v w:R3):det u v w = - det v u w:=by simp only[det];grind
theorem bF (p q:R3):∀(xs ys:List R3),xq p (xs++q::ys)=xq q ys
 |[],_=>rfl
 |x::xs,ys=>bF x q xs ys
def Cj (p q:R3)(xs:List R3):xq p (xs++[q])=q:=bF p q xs []
theorem w4 (p:R3):∀(xs:List R3),xq p xs∈p::xs
 |[]=>by simp[xq]
 |x::xs=>yV _ (w4 x xs)
theorem aq (p:R3):∀(xs:List R3),∃ys,p::xs=ys++[xq p xs]
 |[]=>⟨[],rfl⟩
 |x::xs=>by obtain⟨ys,e⟩:=aq x xs;exact⟨p::ys,zS (p::·) e⟩
def chain:R3->List R3->List (R3×R3)
 |_,[]=>[]
 |p,x::xs=>(p,x)::chain x xs
theorem a_ (p:R3):∀(xs ys:List R3),chain p (xs++ys)=chain p xs++chain (xq p xs) ys
 |[],_=>rfl
 |x::xs,ys=>by show(p,x)::chain x (xs++ys)=(p,x)::(chain x xs++chain (xq x xs) ys);rw[a_ x xs ys]
def zp:List R3->List (R3×R3)
 |[]=>[]
 |x::xs=>chain (xq x xs) (x::xs)
def fi {x y:R3}{xs ys:List R3}:zp ((x::xs)++(y::ys))=chain (xq y ys) (x::xs)++chain (xq x xs) (y::ys):=by show chain (xq x (xs++y::ys)) ((x::xs)++(y::ys))=_;rw[bF,a_];rfl
theorem AY (a b:List R3):∃c d,zp (a++b)=c++d/\zp (b++a)=d++c:=by
 cases a with
 |nil=>exact⟨[],zp b,by simp,by simp⟩
 |cons x xs=>
  cases b with
  |nil=>exact⟨[],zp (x::xs),by simp,by simp⟩
  |cons y ys=>exact⟨_,_,fi,fi⟩
def J7 {a b:List R3}{p:R3×R3}(h:p∈zp (b++a)):p∈zp (a++b):=by obtain⟨c,d,e1,e2⟩:=AY a b;rw[e2] at h;rw[e1];exact xU.mpr ((xU.mp h).symm)
theorem rQ {x y:R3}:∀ {p:R3} {l:List R3},(x,y)∈chain p l->∃s t,p::l=s++x::y::t
 |_,[],h=>by simp[chain] at h
 |p,z::l,h=>by
  rcases xR.mp h with e|h
  .injection e with e1 e2;subst e1 e2;exact⟨[],l,rfl⟩
  .obtain⟨s,t,e⟩:=rQ h;exact⟨p::s,t,by rw[e];rfl⟩
theorem Ccw.edge {l:List R3}(h:Ccw l){u v w:R3}(he:(u,v)∈zp l)(hw:w∈l):0<=det u v w:=by
 cases l with
 |nil=>simp at hw
 |cons x xs=>
  have he:(u,v)∈(xq x xs,x)::chain x xs:=he;rcases xR.mp he with e|he
  .injection e with e1 e2;subst e1 e2;obtain⟨ys,e⟩:=aq v xs;generalize xq v xs=L at e ⊢;cases ys with
   |nil=>injection e with e1 e2;rw[<-e1,si];exact uq _
   |cons y ys=>
    injection e with e1 e2;subst e1;have e2:xs=ys++[L]:=e2;rw[e2] at hw;rcases xR.mp hw with rfl|hw
    .rw[j9];exact uq _
    .rcases xU.mp hw with hw|hw
     .have:=h.tri v w L (by rw[e2];exact((uQ.mpr hw).append (aG [L])).cons_cons v)
      rw[qY] at this;exact yA this
     .have:w=L:=by simpa using hw
      rw[this,sj];exact uq _
  .obtain⟨s,t,e⟩:=rQ he;rw[e] at hw;rcases xU.mp hw with hw|hw
   .have:=h.tri w u v (by rw[e];exact(uQ.mpr hw).append ((aG [u,v]).trans (by simp)))
    rw[vq] at this;lia
   .rcases xR.mp hw with rfl|hw
    .rw[sj];exact uq _
    .rcases xR.mp hw with rfl|hw
     .rw[j9];exact uq _
     .have:=h.tri u v w (by rw[e];exact((((uQ.mpr hw).cons_cons v).cons_cons u)).trans (qP s _))
      lia
theorem fan (x p:R3):∀(y:R3) (ys:List R3),(∀u v,(u,v)∈chain y ys->0<det x u v/\0<=det u v p)->0<=det x y p->det x (xq y ys) p<=0->ys≠[]->∃u v,(u,v)∈chain y ys/\0<=det x u p/\det x v p<=0
 |y,[],_,_,_,h=>absurd rfl h
 |y,z::ys,hc,h0,h1,_=>by
  rcases zy 0 (det x z p) with c|c
  .cases ys with
   |nil=>exact absurd h1 (by show ¬det x z p<=0;lia)
   |cons a ys=>obtain⟨u,v,m,h2,h3⟩:=fan x p z (a::ys) (λu v m=>hc u v (yV _ m)) (yA c) h1 (by simp);exact⟨u,v,yV _ m,h2,h3⟩
  .exact⟨y,z,xS,h0,c⟩
theorem Ccw.incone {l:List R3}(h:Ccw l)(h3:3<=l.length){p:R3}(hp:∀u v,(u,v)∈zp l->0<=det u v p):InC l p:=by
 match l,h,h3,hp with
 |x::y::z::t,h,_,hp=>
  have he:∀u v,(u,v)∈chain y (z::t)->0<det x u v/\0<=det u v p:=λu v m=>by obtain⟨s,s2,e⟩:=rQ m;refine⟨h.tri x u v ?_,hp u v (yV _ (yV _ m))⟩;rw[e];exact(((aG [u,v]).trans (show List.Sublist [u,v] (u::v::s2) by simp)).trans (qP s _)).cons_cons x
  have h0:0<=det x y p:=hp x y (yV _ xS);have h1:0<=det (xq x (y::z::t)) x p:=hp _ _ xS;have h1':det x (xq y (z::t)) p<=0:=by have e:det x (xq y (z::t)) p = - det (xq x (y::z::t)) x p:=HQ _ _ _;lia
  obtain⟨u,v,m,h2,h3⟩:=fan x p y (z::t) he h0 h1' (by simp);obtain⟨d1,d2⟩:=he u v m;have mem:∀w,w=u\/w=v->w∈x::y::z::t:=λw hw=>by
   obtain⟨s,s2,e⟩:=rQ m;have:w∈y::z::t:=by rw[e];rcases hw with rfl|rfl<;>simp
   exact yV _ this
  refine⟨det x u v,d1,?_⟩;rw[AO x u v p];have c1:0<=det p u v:=by rw[vq];exact d2
  have c2:0<=det x p v:=by rw[Bg];lia
  exact((Cn.mem xS).smul c1).add (((Cn.mem (mem u (.inl rfl))).smul c2).add ((Cn.mem (mem v (.inr rfl))).smul h2))
def turn (r s:R3):Int:=r.1*s.2.1-r.2.1*s.1
def yT (w:R3):Nat:=Int.gcd (Int.gcd w.1 w.2.1:Int) w.2.2
def red (w:R3):R3:=(w.1/yT w,w.2.1/yT w,w.2.2/yT w)
def BO (w:R3):(yT w:Int)∣w.1/\(yT w:Int)∣w.2.1/\(yT w:Int)∣w.2.2:=by have h1:(yT w:Int)∣(Int.gcd w.1 w.2.1:Int):=lU ..;exact⟨Int.dvd_trans h1 (lU ..),Int.dvd_trans h1 (lV ..),lV ..⟩
def H_ {d:Int}{w:R3}(h1:d∣w.1)(h2:d∣w.2.1)(h3:d∣w.2.2):d∣(yT w:Int):=gG (gG h1 h2) h3
def fu {w:R3}(h:0<w.2.2):0<(yT w:Int):=by have:=aE (Int.gcd w.1 w.2.1:Int) (show w.2.2≠0 by lia);unfold yT;lia
def rS {w:R3}:mul (yT w) (red w)=w:=by obtain⟨h1,h2,h3⟩:=BO w;exact ext3 (lX h1) (lX h2) (lX h3)
def DV {w:R3}(h:0<w.2.2):0<(red w).2.2:=by have e:(yT w:Int)*(red w).2.2=w.2.2:=zS (·.2.2) (rS (w:=w));exact qG (fu h) (by rw[e];exact h)
def IQ {w:R3}(h:0<w.2.2):yT (red w)=1:=by
 obtain⟨h1,h2,h3⟩:=BO (red w);have g:=fu h;have d:(yT w:Int)*(yT (red w):Int)∣(yT w:Int):=by
  have e:=rS (w:=w);refine H_ ?_ ?_ ?_
  .conv=>rhs;rw[<-e]
   exact Fy _ h1
  .conv=>rhs;rw[<-e]
   exact Fy _ h2
  .conv=>rhs;rw[<-e]
   exact Fy _ h3
 have d2:(yT (red w):Int)∣1:=by
  have:(yT w:Int)*(yT (red w):Int)∣(yT w:Int)*1:=by rw[gK];exact d
  exact Int.dvd_of_mul_dvd_mul_left (by lia) this
 have:=Int.le_of_dvd (by decide) d2;have p:=fu (DV h);lia
def AN {v s t:R3}(hg:yT v=1)(hz:0<v.2.2)(hs:val s v=0)(ht:val t v=0)(hn:turn s t≠0) :
  v.2.2<=(turn s t).natAbs/\v.1.natAbs<=(s.2.2*t.2.1-t.2.2*s.2.1).natAbs/\v.2.1.natAbs<=(t.2.2*s.1-s.2.2*t.1).natAbs:=by
 have e1:turn s t*v.1=v.2.2*(s.2.2*t.2.1-t.2.2*s.2.1):=by
  have:turn s t*v.1=v.2.2*(s.2.2*t.2.1-t.2.2*s.2.1)+t.2.1*val s v-s.2.1*val t v:=by simp only[turn,val];grind
  rw[hs,ht] at this;rw[this];grind
 have e2:turn s t*v.2.1=v.2.2*(t.2.2*s.1-s.2.2*t.1):=by
  have:turn s t*v.2.1=v.2.2*(t.2.2*s.1-s.2.2*t.1)+s.1*val t v-t.1*val s v:=by simp only[turn,val];grind
  rw[hs,ht] at this;rw[this];grind
 have dv:v.2.2∣turn s t:=by
  have h1:v.2.2∣turn s t*v.1:=⟨_,e1⟩
  have h2:v.2.2∣turn s t*v.2.1:=⟨_,e2⟩
  have h3:v.2.2∣turn s t*v.2.2:=Fw ..;have g12:v.2.2∣turn s t*(Int.gcd v.1 v.2.1:Int):=by
   have:=gG h1 h2;rw[lW] at this;have h4:((turn s t).natAbs*Int.gcd v.1 v.2.1:Nat)=((turn s t*(Int.gcd v.1 v.2.1:Int)).natAbs:Nat):=by rw[vK];rfl
   rw[h4] at this;exact mC.mp this
  have g3:=gG g12 h3;rw[lW] at g3;have hg':Int.gcd (Int.gcd v.1 v.2.1:Int) v.2.2=1:=hg;rw[hg',Nat.mul_one] at g3;exact mC.mp g3
 have zl:v.2.2<=(turn s t).natAbs:=by have h:=Int.le_of_dvd (show(0:Int)<((turn s t).natAbs:Int) by lia) (mC.mpr dv);exact h
 refine⟨zl,?_,?_⟩
 .have h:=zS Int.natAbs e1;rw[vK,vK] at h;rcases ix (s.2.2*t.2.1-t.2.2*s.2.1).natAbs v.1.natAbs with c|c
  .exfalso;have h1:v.2.2.natAbs<=(turn s t).natAbs:=by lia
   have h2:0<v.2.2.natAbs:=by lia
   have h3:v.2.2.natAbs*(s.2.2*t.2.1-t.2.2*s.2.1).natAbs<v.2.2.natAbs*v.1.natAbs:=Nat.mul_lt_mul_of_pos_left c h2;have h4:v.2.2.natAbs*v.1.natAbs<=(turn s t).natAbs*v.1.natAbs:=FP _ h1;lia
  .exact c
 .have h:=zS Int.natAbs e2;rw[vK,vK] at h;rcases ix (t.2.2*s.1-s.2.2*t.1).natAbs v.2.1.natAbs with c|c
  .exfalso;have h1:v.2.2.natAbs<=(turn s t).natAbs:=by lia
   have h2:0<v.2.2.natAbs:=by lia
   have h3:v.2.2.natAbs*(t.2.2*s.1-s.2.2*t.1).natAbs<v.2.2.natAbs*v.2.1.natAbs:=Nat.mul_lt_mul_of_pos_left c h2;have h4:v.2.2.natAbs*v.2.1.natAbs<=(turn s t).natAbs*v.2.1.natAbs:=FP _ h1;lia
  .exact c
def abs (i:Int):Int:=if i<0 then -i else i
def cw (r u v:R3):R3:=add (mul (abs (val r v)) u) (mul (abs (val r u)) v)
def yf (r u v:R3):R3:=red (cw r u v)
def AX (r u v:R3):cw r u v=cw r v u:=by apply ext3<;>simp only[cw,add]<;>lia
structure Bt (u v x:R3)(a b g:Int):Prop where
 pa:0<a
 pb:0<b
 pg:0<g
 e:mul g x=add (mul a u) (mul b v)
def rh {r u v:R3}(hu:0<u.2.2)(hv:0<v.2.2)(h:val r u*val r v<0):Bt u v (yf r u v) (abs (val r v)) (abs (val r u)) (yT (cw r u v))/\val r (yf r u v)=0/\0<(yf r u v).2.2/\yT (yf r u v)=1:=by
 have sg:(val r u<0/\0<val r v)\/(0<val r u/\val r v<0):=by
  rcases jd (val r u) 0 with c|c|c
  .rcases zy 0 (val r v) with d|d
   .exact .inl ⟨c,d⟩
   .have:=nn (yA c) d;lia
  .rw[c] at h;simp at h
  .rcases zy (val r v) 0 with d|d
   .exact .inr ⟨c,d⟩
   .have:=pz (yA c) d;lia
 have p1:0<abs (val r v):=by unfold abs;split<;>lia
 have p2:0<abs (val r u):=by unfold abs;split<;>lia
 have hz:0<(cw r u v).2.2:=by show 0<abs (val r v)*u.2.2+abs (val r u)*v.2.2;have:=pp p1 hu;have:=pp p2 hv;lia
 have v0:val r (cw r u v)=0:=by
  unfold cw;rw[val_add,val_mul,val_mul];rcases sg with ⟨c,d⟩|⟨c,d⟩
  .have e1:abs (val r v)=val r v:=by unfold abs;rw[xG (by lia)]
   have e2:abs (val r u) = - val r u:=by unfold abs;rw[xD c]
   rw[e1,e2];grind
  .have e1:abs (val r v) = - val r v:=by unfold abs;rw[xD d]
   have e2:abs (val r u)=val r u:=by unfold abs;rw[xG (by lia)]
   rw[e1,e2];grind
 refine⟨⟨p1,p2,fu hz,rS⟩,?_,DV hz,IQ hz⟩;have:=zS (val r) (rS (w:=cw r u v));rw[val_mul,v0] at this;exact Fi (fu hz) this
theorem Bt.val {u v x:R3}{a b g:Int}(h:Bt u v x a b g)(r:R3):g*Pol.val r x=a*Pol.val r u+b*Pol.val r v:=by have:=zS (Pol.val r) h.e;rwa [val_mul,val_add,val_mul,val_mul] at this
theorem Bt.det {u v x:R3}{a b g:Int}(h:Bt u v x a b g)(p q:R3):g*Pol.det p q x=a*Pol.det p q u+b*Pol.det p q v:=by have:=zS (Pol.det p q) h.e;rwa [j8,nQ,j8,j8] at this
def Bt.kept {u v x:R3}{a b g:Int}(h:Bt u v x a b g){r:R3}(hu:Pol.val r u<=0)(hv:Pol.val r v<=0):Pol.val r x<=0:=by have:=h.val r;have:=pn (yA h.pa) hu;have:=pn (yA h.pb) hv;exact Kh h.pg (by lia)
def Bt.tight {u v x:R3}{a b g:Int}(h:Bt u v x a b g){r:R3}(hu:Pol.val r u=0)(hv:Pol.val r v=0):Pol.val r x=0:=by have:=h.val r;rw[hu,hv] at this;exact Fi h.pg (by lia)
def unlike {r s u v:R3}(hs:s.1≠0\/s.2.1≠0)(hu:0<u.2.2)(hv:0<v.2.2)(su:val s u=0)(sv:val s v=0)(h:val r u*val r v<0):turn s r≠0:=by
 intro z;have e:s.1*(val r u*v.2.2-val r v*u.2.2)=r.1*(val s u*v.2.2-val s v*u.2.2)+turn s r*(u.2.1*v.2.2-v.2.1*u.2.2):=by simp only[val,turn];grind
 have e':s.2.1*(val r u*v.2.2-val r v*u.2.2)=r.2.1*(val s u*v.2.2-val s v*u.2.2)-turn s r*(u.1*v.2.2-v.1*u.2.2):=by simp only[val,turn];grind
 rw[z,su,sv] at e e';have k:val r u*v.2.2-val r v*u.2.2=0:=by
  rcases hs with c|c
  .have e:s.1*(val r u*v.2.2-val r v*u.2.2)=0:=by rw[e];grind
   exact(vk.mp e).resolve_left c
  .have e':s.2.1*(val r u*v.2.2-val r v*u.2.2)=0:=by rw[e'];grind
   exact(vk.mp e').resolve_left c
 rcases jd (val r u) 0 with c|c|c
 .have d:0<val r v:=by
   rcases zy 0 (val r v) with d|d
   .exact d
   .have:=nn (yA c) d;lia
  have:=dy c hv;have:=pp d hu;lia
 .rw[c] at h;simp at h
 .have d:val r v<0:=by
   rcases zy (val r v) 0 with d|d
   .exact d
   .have:=pz (yA c) d;lia
  have:=dy d hu;have:=pp c hv;lia
def seg (r:R3)(p:R3×R3):List R3:=(if val r p.1*val r p.2<0 then[yf r p.1 p.2] else[])++(if val r p.2<=0 then[p.2] else[])
def uS (r:R3)(l:List R3):List R3:=(zp l).flatMap (seg r)
def AU (r:R3)(a b:List R3):∃c d,uS r (a++b)=c++d/\uS r (b++a)=d++c:=by obtain⟨c,d,e1,e2⟩:=AY a b;exact⟨c.flatMap (seg r),d.flatMap (seg r),by unfold uS;rw[e1,FD],by unfold uS;rw[e2,FD]⟩
theorem nF {r:R3}:∀ {p:R3} {P:List R3},0<val r p->(∀v∈P,0<val r v)->(chain p P).flatMap (seg r)=[]
 |p,[],_,_=>rfl
 |p,x::P,hp,h=>by
  have hx:=h x xS;show seg r (p,x)++(chain x P).flatMap (seg r)=[]
  rw[nF hx λv hv=>h v (yV _ hv),ub];unfold seg;rw[xG (show ¬val r p*val r x<0 by have:=pp hp hx;lia),xG (show ¬val r x<=0 by lia)];rfl
theorem nE {r:R3}:∀ {p:R3} {Q:List R3},val r p<=0->(∀v∈Q,val r v<=0)->(chain p Q).flatMap (seg r)=Q
 |p,[],_,_=>rfl
 |p,x::Q,hp,h=>by have hx:=h x xS;show seg r (p,x)++(chain x Q).flatMap (seg r)=x::Q;rw[nE hx λv hv=>h v (yV _ hv)];unfold seg;rw[xG (show ¬val r p*val r x<0 by have:=nn hp hx;lia),xD (show val r (p,x).2<=0 from hx)];rfl
def bef (r p q:R3):List R3:=if val r q<0 then[yf r p q] else[]
def Of {r p q:R3}(hp:0<val r p)(hq:val r q<=0):seg r (p,q)=bef r p q++[q]:=by
 unfold seg bef;rw[xD (show val r (p,q).2<=0 from hq)];by_cases c:val r q<0
 .rw[xD c,xD (show val r (p,q).1*val r (p,q).2<0 from je hp c)]
 .rw[xG c,xG (show ¬val r (p,q).1*val r (p,q).2<0 from by
   have e:val r q=0:=by lia
   show ¬val r p*val r q<0;rw[e];simp)]
def Og {r p q:R3}(hp:0<val r p)(hq:val r q<=0):seg r (q,p)=bef r p q:=by
 unfold seg bef;rw[xG (show ¬val r (q,p).2<=0 from by show ¬val r p<=0;lia),ub];by_cases c:val r q<0
 .rw[xD c,xD (show val r (q,p).1*val r (q,p).2<0 from dy c hp)];unfold yf;rw[AX]
 .rw[xG c,xG (show ¬val r (q,p).1*val r (q,p).2<0 from by
   have e:val r q=0:=by lia
   show ¬val r q*val r p<0;rw[e];simp)]
def AS {r p1 q1:R3}{P Q:List R3}(hP:∀v∈p1::P,0<val r v)(hQ:∀v∈q1::Q,val r v<=0) :
  uS r ((p1::P)++(q1::Q))=bef r p1 (xq q1 Q)++(bef r (xq p1 P) q1++q1::Q):=by
 unfold uS;rw[fi,FD];have h1:=hP p1 xS;have h2:=hQ q1 xS;have h3:=hQ _ (w4 q1 Q);have h4:=hP _ (w4 p1 P);have e1:(chain (xq q1 Q) (p1::P)).flatMap (seg r)=bef r p1 (xq q1 Q):=by show seg r (xq q1 Q,p1)++(chain p1 P).flatMap (seg r)=_;rw[nF h1 λv hv=>hP v (yV _ hv),ub,Og h1 h3]
 have e2:(chain (xq p1 P) (q1::Q)).flatMap (seg r)=bef r (xq p1 P) q1++q1::Q:=by show seg r (xq p1 P,q1)++(chain q1 Q).flatMap (seg r)=_;rw[nE h2 λv hv=>hQ v (yV _ hv),Of h4 h2,qM];rfl
 rw[e1,e2]
structure Good (Ls l:List R3):Prop where
 ccw:Ccw l
 bot:∀v∈l,0<v.2.2
 prim:∀v∈l,yT v=1
 kept:∀v∈l,∀s∈Ls,val s v<=0
 edge:∀u v,(u,v)∈zp l->u≠v->∃s∈Ls,val s u=0/\val s v=0
 two:∀v∈l,∃s∈Ls,∃t∈Ls,val s v=0/\val t v=0/\turn s t≠0
 all:∀p:R3,0<p.2.2->(∀s∈Ls,val s p<=0)->InC l p
theorem Good.rot {Ls a b:List R3}(h:Good Ls (a++b)):Good Ls (b++a) where
 ccw:=h.ccw.rot
 bot:=λv hv=>h.bot v (by simpa [or_comm] using hv)
 prim:=λv hv=>h.prim v (by simpa [or_comm] using hv)
 kept:=λv hv=>h.kept v (by simpa [or_comm] using hv)
 edge:=λu v e=>h.edge u v (J7 e)
 two:=λv hv=>h.two v (by simpa [or_comm] using hv)
 all:=λp h0 h1=>by obtain⟨m,hm,c⟩:=h.all p h0 h1;exact⟨m,hm,c.mono λv hv=>.mem (by simpa [or_comm] using hv)⟩
theorem Im {a b:R3}:∀ {l:List R3},List.Sublist [a,b] l->3<=l.length->∃c,List.Sublist [c,a,b] l\/List.Sublist [a,c,b] l\/List.Sublist [a,b,c] l
 |[],_,h=>absurd h (by simp)
 |x::l,s,h=>by
  cases s with
  |cons _ s=>exact⟨x,.inl (s.cons_cons x)⟩
  |cons_cons _ s=>
   have hl:2<=l.length:=by simpa using h
   have hb:b∈l:=uQ.mp s;obtain⟨s1,s2,e⟩:=dz hb;cases s1 with
   |cons c s1=>refine⟨c,.inr (.inl ?_)⟩;rw[e];have:List.Sublist [c,b] (c::s1++b::s2):=(uQ.mpr xS).append (uQ.mpr xS);exact this.cons_cons a
   |nil=>
    cases s2 with
    |nil=>rw[e] at hl;simp at hl
    |cons c s2=>refine⟨c,.inr (.inr ?_)⟩;rw[e];simp
def CJ {l:List R3}(h:∀u v w:R3,List.Sublist [u,v,w] l->0<det u v w)(h3:3<=l.length):l.Nodup:=by
 refine O6.mpr λ {a b} s e=>?_;subst e;obtain⟨c,s|s|s⟩:=Im s h3
 .have:=h _ _ _ s;rw[j9] at this;lia
 .have:=h _ _ _ s;rw[sj] at this;lia
 .have:=h _ _ _ s;rw[si] at this;lia
theorem Ck {p:R3}{P:List R3}(h:P≠[]):List.Sublist [p,xq p P] (p::P):=by
 cases P with
 |nil=>exact absurd rfl h
 |cons y ys=>exact(uQ.mpr (show xq p (y::ys)∈y::ys from w4 y ys)).cons_cons p
structure Bw (u v x:R3)(a b g:Int):Prop where
 pa:0<=a
 pb:0<b
 pg:0<g
 e:mul g x=add (mul a u) (mul b v)
def Bt.w {u v x:R3}{a b g:Int}(h:Bt u v x a b g):Bw u v x a b g:=⟨yA h.pa,h.pb,h.pg,h.e⟩
def Bw.self (u v:R3):Bw u v v 0 1 1:=⟨by lia,by lia,by lia,by apply ext3<;>simp[mul,add]⟩
theorem Bw.det {u v x:R3}{a b g:Int}(h:Bw u v x a b g)(p q:R3):g*Pol.det p q x=a*Pol.det p q u+b*Pol.det p q v:=by have:=zS (Pol.det p q) h.e;rwa [j8,nQ,j8,j8] at this
section
variable {Ls P Q:List R3} {r p1 q1:R3}
structure jn (Ls:List R3)(r p1 q1:R3)(P Q:List R3):Prop where
 good:Good Ls ((p1::P)++(q1::Q))
 hP:∀v∈p1::P,0<val r v
 hQ:∀v∈q1::Q,val r v<=0
 three:P≠[]\/Q≠[]
 dir:∀s∈Ls,s.1≠0\/s.2.1≠0
namespace jn
variable (S:jn Ls r p1 q1 P Q)
include S
def q1le:val r q1<=0:=S.hQ q1 xS
def qmle:val r (xq q1 Q)<=0:=S.hQ _ (w4 q1 Q)
def p1gt:0<val r p1:=S.hP p1 xS
def pkgt:0<val r (xq p1 P):=S.hP _ (w4 p1 P)
def botQ {v:R3}(h:v∈q1::Q):0<v.2.2:=S.good.bot v (zf _ h)
def botP {v:R3}(h:v∈p1::P):0<v.2.2:=S.good.bot v (yF _ h)
def pqq {p x y:R3}(hp:p∈p1::P)(s:List.Sublist [x,y] (q1::Q)):0<det p x y:=S.good.ccw.tri p x y ((uQ.mpr hp).append s)
def ppq {p p' x:R3}(hp:List.Sublist [p,p'] (p1::P))(hx:x∈q1::Q):0<det p p' x:=S.good.ccw.tri p p' x (hp.append (uQ.mpr hx))
def qqq {x y z:R3}(s:List.Sublist [x,y,z] (q1::Q)):0<det x y z:=S.good.ccw.tri x y z (s.trans (qP _ _))
theorem q1xy {x y:R3}(s:List.Sublist [x,y] (q1::Q)):0<=det q1 x y:=by
 cases s with
 |cons _ s=>exact yA (S.qqq (s.cons_cons q1))
 |cons_cons _ s=>rw[si];exact uq _
theorem xyqm {x y:R3}(s:List.Sublist [x,y] (q1::Q)):0<=det x y (xq q1 Q):=by
 obtain⟨ys,e⟩:=aq q1 Q;have s':=s;rw[e] at s';obtain⟨l1,l2,e2,s1,s2⟩:=iu.mp s';cases l2 with
 |nil=>rw[ub] at e2;subst e2;have:=S.qqq (x:=x) (y:=y) (z:=xq q1 Q) (by rw[e];exact s1.append (aG [xq q1 Q]));lia
 |cons b l2=>
  have hb:b=xq q1 Q/\l2=[]:=by
   cases s2 with
   |cons _ s2=>cases s2
   |cons_cons _ s2=>cases s2;exact⟨rfl,rfl⟩
  obtain⟨hb,rfl⟩:=hb;have:y=b:=by
   cases l1 with
   |nil=>cases e2
   |cons c l1=>
    cases l1 with
    |nil=>injection e2 with _ e2;injection e2
    |cons d l1=>injection e2 with _ e2;injection e2 with _ e2;simp at e2
  rw[this,hb,j9];exact uq _
theorem nd:((p1::P)++(q1::Q)).Nodup:=S.good.ccw.nd
def p1pkx {x:R3}(hx:x∈q1::Q):0<=det p1 (xq p1 P) x/\(P≠[]->0<det p1 (xq p1 P) x):=by
 by_cases h:P=[]
 .subst h;exact⟨by show 0<=det p1 p1 x;rw[si];exact uq _,λz=>absurd rfl z⟩
 .have:=S.ppq (Ck h) hx;exact⟨by lia,λ_=>this⟩
def pq1x {p x:R3}(hp:p∈p1::P)(hx:x∈q1::Q):0<=det p q1 x/\(x≠q1->0<det p q1 x):=by
 rcases xR.mp hx with rfl|hx
 .exact⟨by rw[j9];exact uq _,λz=>absurd rfl z⟩
 .have:=S.pqq hp ((uQ.mpr hx).cons_cons q1);exact⟨by lia,λ_=>this⟩
def pxqm {p x:R3}(hp:p∈p1::P)(hx:x∈q1::Q):0<=det p x (xq q1 Q)/\(x≠xq q1 Q->0<det p x (xq q1 Q)):=by
 obtain⟨ys,e⟩:=aq q1 Q;rw[e] at hx;rcases xU.mp hx with hx|hx
 .have:=S.pqq (x:=x) (y:=xq q1 Q) hp (by rw[e];exact(uQ.mpr hx).append (aG [xq q1 Q]));exact⟨by lia,λ_=>this⟩
 .have:x=xq q1 Q:=by simpa using hx
  rw[this];exact⟨by rw[j9];exact uq _,λz=>absurd rfl z⟩
def q1xqm {x:R3}(hx:x∈q1::Q):0<=det q1 x (xq q1 Q):=by
 rcases xR.mp hx with rfl|hx
 .rw[si];exact uq _
 .exact S.xyqm ((uQ.mpr hx).cons_cons q1)
def q1ne (h:Q≠[]):q1≠xq q1 Q:=by have s:=Ck (p:=q1) h;have nd:=(jh.mp S.nd).2.1;exact O6.mp nd s
def w1 (r p1 q1:R3)(P:List R3):R3:=if val r q1<0 then yf r (xq p1 P) q1 else q1
def u1 (r p1 q1:R3)(Q:List R3):R3:=if val r (xq q1 Q)<0 then yf r p1 (xq q1 Q) else xq q1 Q
def X1 (h:val r q1<0):Bt (xq p1 P) q1 (yf r (xq p1 P) q1) (abs (val r q1)) (abs (val r (xq p1 P))) (yT (cw r (xq p1 P) q1))/\val r (yf r (xq p1 P) q1)=0/\0<(yf r (xq p1 P) q1).2.2/\yT (yf r (xq p1 P) q1)=1:=rh (S.botP (w4 p1 P)) (S.botQ xS) (je S.pkgt h)
def X2 (h:val r (xq q1 Q)<0):Bt p1 (xq q1 Q) (yf r p1 (xq q1 Q)) (abs (val r (xq q1 Q))) (abs (val r p1)) (yT (cw r p1 (xq q1 Q)))/\val r (yf r p1 (xq q1 Q))=0/\0<(yf r p1 (xq q1 Q)).2.2/\yT (yf r p1 (xq q1 Q))=1:=rh (S.botP xS) (S.botQ (w4 q1 Q)) (je S.p1gt h)
def w1b:∃a b g,Bw (xq p1 P) q1 (w1 r p1 q1 P) a b g/\(val r q1<0->0<a)/\val r (w1 r p1 q1 P)=0:=by
 unfold w1;by_cases h:val r q1<0
 .rw[xD h];obtain⟨b,z,_⟩:=S.X1 h;exact⟨_,_,_,b.w,λ_=>b.pa,z⟩
 .rw[xG h];exact⟨_,_,_,Bw.self _ _,λz=>absurd z h,by have:=S.q1le;lia⟩
def u1b:∃a b g,Bw p1 (xq q1 Q) (u1 r p1 q1 Q) a b g/\(val r (xq q1 Q)<0->0<a)/\val r (u1 r p1 q1 Q)=0:=by
 unfold u1;by_cases h:val r (xq q1 Q)<0
 .rw[xD h];obtain⟨b,z,_⟩:=S.X2 h;exact⟨_,_,_,b.w,λ_=>b.pa,z⟩
 .rw[xG h];exact⟨_,_,_,Bw.self _ _,λz=>absurd z h,by have:=S.qmle;lia⟩
def close {p:R3}(hc:val r q1<0\/Q≠[])(hp:val r p<=0):0<=det (u1 r p1 q1 Q) (w1 r p1 q1 P) p:=by
 obtain⟨a,b,g,bw,ha,hw⟩:=S.w1b;obtain⟨c,d,g',bu,hcc,hu⟩:=S.u1b;have e1:=bu.det p1 (w1 r p1 q1 P);rw[sj,u0,Int.zero_add] at e1;have e2:=bw.det (xq q1 Q) p1;have d1:det (xq q1 Q) p1 (xq p1 P)=det p1 (xq p1 P) (xq q1 Q):=vq _ _ _;have d2:det (xq q1 Q) p1 q1=det p1 q1 (xq q1 Q):=vq _ _ _;rw[d1,d2] at e2;obtain⟨f1,f2⟩:=S.p1pkx (w4 q1 Q);obtain⟨f3,f4⟩:=S.pq1x (p:=p1) xS (w4 q1 Q);have k1:0<det (xq q1 Q) p1 (w1 r p1 q1 P):=by
  refine qG bw.pg ?_;rw[e2];have n1:=pz bw.pa f1;have n2:=pz (yA bw.pb) f3;by_cases hq:Q=[]
  .have hp':P≠[]:=S.three.resolve_right (λz=>z hq);have h0:val r q1<0:=hc.resolve_right (λz=>z hq);have:=pp (ha h0) (f2 hp');lia
  .have:=pp bw.pb (f4 (zD (S.q1ne hq)));lia
 have d3:det p1 (w1 r p1 q1 P) (xq q1 Q)=det (xq q1 Q) p1 (w1 r p1 q1 P):=qY _ _ _;rw[d3] at e1;have k2:0<det p1 (w1 r p1 q1 P) (u1 r p1 q1 Q):=by refine qG bu.pg ?_;rw[e1];exact pp bu.pb k1
 have e3:=NA r (u1 r p1 q1 Q) (w1 r p1 q1 P) p1 p hu hw;have d4:det (u1 r p1 q1 Q) (w1 r p1 q1 P) p1 = - det p1 (w1 r p1 q1 P) (u1 r p1 q1 Q):=by rw[qY,Bg]
 rw[d4] at e3;refine h_ S.p1gt ?_;rw[<-e3];exact nn hp (by lia)
def left (r p1 q1:R3)(P Q:List R3):List R3:=bef r (xq p1 P) q1++(q1::Q)++bef r p1 (xq q1 Q)
theorem mem_left {v:R3}(h:v∈left r p1 q1 P Q):(v∈q1::Q)\/(val r q1<0/\v=yf r (xq p1 P) q1)\/(val r (xq q1 Q)<0/\v=yf r p1 (xq q1 Q)):=by
 unfold left bef at h;rcases xU.mp h with h|h
 .rcases xU.mp h with h|h
  .split at h
   .exact .inr (.inl ⟨by assumption,by simpa using h⟩)
   .simp at h
  .exact .inl h
 .split at h
  .exact .inr (.inr ⟨by assumption,by simpa using h⟩)
  .simp at h
theorem sub_bef {p q:R3}{l:List R3}(h:List.Sublist l (bef r p q)):l=[]\/(val r q<0/\l=[yf r p q]):=by
 unfold bef at h;split at h
 .cases h with
  |cons _ h=>cases h;exact .inl rfl
  |cons_cons _ h=>cases h;exact .inr ⟨by assumption,rfl⟩
 .cases h;exact .inl rfl
def tri {u v w:R3}(s:List.Sublist [u,v,w] (left r p1 q1 P Q)):0<det u v w:=by
 unfold left at s;rw[qM] at s;obtain⟨l1,l2,e,s1,s2⟩:=iu.mp s;obtain⟨l3,l4,e2,s3,s4⟩:=iu.mp s2;have b1:=S.sub_bef s1;have b4:=S.sub_bef s4;subst e2;rcases b1 with rfl|⟨h1,rfl⟩
 .rcases b4 with rfl|⟨h4,rfl⟩
  .have:[u,v,w]=l3:=by simpa using e
   subst this;exact S.qqq s3
  ·-- q q X2
   obtain⟨bt,_⟩:=S.X2 h4;have:l3=[u,v]/\w=yf r p1 (xq q1 Q):=by
    rcases EC (show[u,v,w]=l3++[yf r p1 (xq q1 Q)] from e) with ⟨_,z⟩|⟨_,z⟩|⟨z1,z⟩|⟨_,z⟩
    .cases z
    .cases z
    .cases z;exact⟨z1,rfl⟩
    .cases z
   obtain⟨rfl,rfl⟩:=this;have e3:=bt.det u v;have k1:0<det u v p1:=by rw[qY];exact S.pqq xS s3
   have k2:=S.xyqm s3;have:=pp bt.pa k1;have:=pz (yA bt.pb) k2;exact qG bt.pg (by lia)
 .obtain⟨bt,_⟩:=S.X1 h1;rcases b4 with rfl|⟨h4,rfl⟩
  .have:u=yf r (xq p1 P) q1/\l3=[v,w]:=by injection e with e1 e2;exact⟨e1,by simpa using e2.symm⟩
   obtain⟨rfl,rfl⟩:=this;have e3:=bt.det v w;have k1:0<det v w (xq p1 P):=by rw[qY];exact S.pqq (w4 p1 P) s3
   have k2:0<=det v w q1:=by rw[qY];exact S.q1xy s3
   have:=pp bt.pa k1;have:=pz (yA bt.pb) k2;rw[vq];exact qG bt.pg (by lia)
  .obtain⟨bu,_⟩:=S.X2 h4;have:u=yf r (xq p1 P) q1/\l3=[v]/\w=yf r p1 (xq q1 Q):=by
    injection e with e1 e;have e:[v,w]=l3++[yf r p1 (xq q1 Q)]:=e;cases l3 with
    |nil=>cases e
    |cons a l3=>
     injection e with e2 e;cases l3 with
     |nil=>injection e with e3 _;exact⟨e1,by rw[e2],e3⟩
     |cons b l3=>injection e with _ e;simp at e
   obtain⟨rfl,rfl,rfl⟩:=this;have hv:v∈q1::Q:=uQ.mp s3;have e3:=bu.det (yf r (xq p1 P) q1) v;have e4:=bt.det v p1;have e5:=bt.det v (xq q1 Q);have r1:det v p1 (xq p1 P)=det p1 (xq p1 P) v:=vq _ _ _;have r2:det v p1 q1=det p1 q1 v:=vq _ _ _;have r3:det v (xq q1 Q) (xq p1 P)=det (xq p1 P) v (xq q1 Q):=qY _ _ _;have r4:det v (xq q1 Q) q1=det q1 v (xq q1 Q):=qY _ _ _;rw[r1,r2] at e4;rw[r3,r4] at e5;obtain⟨f1,f2⟩:=S.p1pkx hv;obtain⟨f3,f4⟩:=S.pq1x (p:=p1) xS hv;obtain⟨f5,f6⟩:=S.pxqm (p:=xq p1 P) (w4 p1 P) hv;have f7:=S.q1xqm hv;have n1:=pz (yA bt.pa) f1;have n2:=pz (yA bt.pb) f3;have n3:=pz (yA bt.pa) f5;have n4:=pz (yA bt.pb) f7;have g1:0<=det v p1 (yf r (xq p1 P) q1):=h_ bt.pg (by lia);have g2:0<=det v (xq q1 Q) (yf r (xq p1 P) q1):=h_ bt.pg (by lia);have some:0<det v p1 (yf r (xq p1 P) q1)\/0<det v (xq q1 Q) (yf r (xq p1 P) q1):=by
    by_cases hq:Q=[]
    .have hp':P≠[]:=S.three.resolve_right (λz=>z hq);left;have:=pp bt.pa (f2 hp');exact qG bt.pg (by lia)
    .by_cases hv1:v=q1
     .right;have:=pp bt.pa (f6 (by rw[hv1];exact S.q1ne hq));exact qG bt.pg (by lia)
     .left;have:=pp bt.pb (f4 hv1);exact qG bt.pg (by lia)
   have m1:det (yf r (xq p1 P) q1) v p1=det v p1 (yf r (xq p1 P) q1):=vq _ _ _;have m2:det (yf r (xq p1 P) q1) v (xq q1 Q)=det v (xq q1 Q) (yf r (xq p1 P) q1):=vq _ _ _;rw[m1,m2] at e3;refine qG bu.pg ?_;rw[e3];have t1:=pz (yA bu.pa) g1;have t2:=pz (yA bu.pb) g2;rcases some with z|z
   .have:=pp bu.pa z;lia
   .have:=pp bu.pb z;lia
end jn
end
end Pol
open Pol
namespace Pol
section
variable {Ls P Q:List R3} {r p1 q1:R3}
namespace jn
variable (S:jn Ls r p1 q1 P Q)
include S
theorem pairs {u v:R3}(h:(u,v)∈zp (left r p1 q1 P Q)):(u=u1 r p1 q1 Q/\v=w1 r p1 q1 P)\/(val r q1<0/\u=yf r (xq p1 P) q1/\v=q1)\/(val r (xq q1 Q)<0/\u=xq q1 Q/\v=yf r p1 (xq q1 Q))\/(u,v)∈chain q1 Q:=by
 unfold left bef at h;unfold u1 w1;by_cases h1:val r q1<0
 .by_cases h2:val r (xq q1 Q)<0
  .simp only[xD h1,xD h2,gM,vn] at h ⊢;have e:zp (yf r (xq p1 P) q1::q1::(Q++[yf r p1 (xq q1 Q)]))=(yf r p1 (xq q1 Q),yf r (xq p1 P) q1)::(yf r (xq p1 P) q1,q1)::(chain q1 Q++[(xq q1 Q,yf r p1 (xq q1 Q))]):=by show(xq q1 (Q++[_]),_)::(_,q1)::chain q1 (Q++[_])=_;rw[Cj,a_];rfl
   rw[e] at h;rcases xR.mp h with h|h
   .injection h with a b;exact .inl ⟨a,b⟩
   .rcases xR.mp h with h|h
    .injection h with a b;exact .inr (.inl ⟨h1,a,b⟩)
    .rcases xU.mp h with h|h
     .exact .inr (.inr (.inr h))
     .have h:=yS.mp h;injection h with a b;exact .inr (.inr (.inl ⟨h2,a,b⟩))
  .simp only[xD h1,xG h2,gM,vn,ub] at h ⊢;have e:zp (yf r (xq p1 P) q1::q1::Q)=(xq q1 Q,yf r (xq p1 P) q1)::(yf r (xq p1 P) q1,q1)::chain q1 Q:=rfl;rw[e] at h;rcases xR.mp h with h|h
   .injection h with a b;exact .inl ⟨a,b⟩
   .rcases xR.mp h with h|h
    .injection h with a b;exact .inr (.inl ⟨h1,a,b⟩)
    .exact .inr (.inr (.inr h))
 .by_cases h2:val r (xq q1 Q)<0
  .simp only[xG h1,xD h2,gM,vn] at h ⊢;have e:zp (q1::(Q++[yf r p1 (xq q1 Q)]))=(yf r p1 (xq q1 Q),q1)::(chain q1 Q++[(xq q1 Q,yf r p1 (xq q1 Q))]):=by show(xq q1 (Q++[_]),_)::chain q1 (Q++[_])=_;rw[Cj,a_];rfl
   rw[e] at h;rcases xR.mp h with h|h
   .injection h with a b;exact .inl ⟨a,b⟩
   .rcases xU.mp h with h|h
    .exact .inr (.inr (.inr h))
    .have h:=yS.mp h;injection h with a b;exact .inr (.inr (.inl ⟨h2,a,b⟩))
  .simp only[xG h1,xG h2,gM,vn,ub] at h ⊢;have e:zp (q1::Q)=(xq q1 Q,q1)::chain q1 Q:=rfl;rw[e] at h;rcases xR.mp h with h|h
   .injection h with a b;exact .inl ⟨a,b⟩
   .exact .inr (.inr (.inr h))
theorem old1:(xq p1 P,q1)∈zp ((p1::P)++(q1::Q)):=by rw[fi];exact zf _ xS
theorem old2:(xq q1 Q,p1)∈zp ((p1::P)++(q1::Q)):=by rw[fi];exact yF _ xS
theorem old3 {u v:R3}(h:(u,v)∈chain q1 Q):(u,v)∈zp ((p1::P)++(q1::Q)):=by rw[fi];exact zf _ (yV _ h)
def pk_ne:xq p1 P≠q1:=λe=>by have:=S.pkgt;have:=S.q1le;rw[e] at *;lia
def p1_ne:xq q1 Q≠p1:=λe=>by have:=S.p1gt;have:=S.qmle;rw[e] at *;lia
theorem len_left:(val r q1<0\/val r (xq q1 Q)<0\/2<=Q.length)->3<=(left r p1 q1 P Q).length:=by
 intro h;unfold left bef;by_cases hq:Q=[]
 .subst hq;have h':val r q1<0:=by
   rcases h with h|h|h
   .exact h
   .exact h
   .simp at h
  rw[xD h',xD (show val r (xq q1 [])<0 from h')];simp
 .have l1:1<=Q.length:=by
   cases Q with
   |nil=>exact absurd rfl hq
   |cons _ _=>simp
  rcases h with h|h|h
  .rw[xD h];simp;lia
  .rw[xD h];simp;lia
  .simp;lia
def small (h:¬(val r q1<0\/val r (xq q1 Q)<0\/2<=Q.length)):left r p1 q1 P Q=q1::Q/\∀v∈q1::Q,val r v=0:=by
 have h1:¬val r q1<0:=λz=>h (.inl z);have h2:¬val r (xq q1 Q)<0:=λz=>h (.inr (.inl z));have h3:¬2<=Q.length:=λz=>h (.inr (.inr z));refine⟨by unfold left bef;rw[xG h1,xG h2];simp,λv hv=>?_⟩;have a:=S.q1le;have b:=S.qmle;rcases xR.mp hv with rfl|hv
 .lia
 .match Q,hv,h3,b,h2 with
  |[x],hv,_,b,h2=>
   have:v=x:=by simpa using hv
   subst this;have b:val r v<=0:=b;have h2:¬val r v<0:=h2;lia
  |_::_::_,_,h3,_,_=>exact absurd (by simp) h3
def good_left:Good (Ls++[r]) (left r p1 q1 P Q):=by
 have keptOld:∀s∈Ls,∀v∈(p1::P)++(q1::Q),val s v<=0:=λs hs v hv=>S.good.kept v hv s hs;have mP:∀ {v},v∈p1::P->v∈(p1::P)++(q1::Q):=λh=>yF _ h;have mQ:∀ {v},v∈q1::Q->v∈(p1::P)++(q1::Q):=λh=>zf _ h;refine⟨⟨λu v w s=>S.tri s,?_⟩,λv hv=>?_,λv hv=>?_,λv hv s hs=>?_,λu v he hne=>?_,λv hv=>?_,λp h0 hp=>?_⟩
 .by_cases c:val r q1<0\/val r (xq q1 Q)<0\/2<=Q.length
  .exact CJ (λu v w s=>S.tri s) (S.len_left c)
  .rw[(S.small c).1];exact(jh.mp S.nd).2.1
 .rcases S.mem_left hv with hv|⟨h,rfl⟩|⟨h,rfl⟩
  .exact S.botQ hv
  .exact(S.X1 h).2.2.1
  .exact(S.X2 h).2.2.1
 .rcases S.mem_left hv with hv|⟨h,rfl⟩|⟨h,rfl⟩
  .exact S.good.prim v (mQ hv)
  .exact(S.X1 h).2.2.2
  .exact(S.X2 h).2.2.2
 .rcases xU.mp hs with hs|hs
  .rcases S.mem_left hv with hv|⟨h,rfl⟩|⟨h,rfl⟩
   .exact keptOld s hs v (mQ hv)
   .exact(S.X1 h).1.kept (keptOld s hs _ (mP (w4 p1 P))) (keptOld s hs _ (mQ xS))
   .exact(S.X2 h).1.kept (keptOld s hs _ (mP xS)) (keptOld s hs _ (mQ (w4 q1 Q)))
  .have:s=r:=by simpa using hs
   subst this;rcases S.mem_left hv with hv|⟨h,rfl⟩|⟨h,rfl⟩
   .exact S.hQ v hv
   .rw[(S.X1 h).2.1];exact uq _
   .rw[(S.X2 h).2.1];exact uq _
 .rcases S.pairs he with ⟨rfl,rfl⟩|⟨h,rfl,rfl⟩|⟨h,rfl,rfl⟩|h
  .obtain⟨_,_,_,_,_,e1⟩:=S.w1b;obtain⟨_,_,_,_,_,e2⟩:=S.u1b;exact⟨r,by simp,e2,e1⟩
  .obtain⟨s,hs,a,b⟩:=S.good.edge _ _ S.old1 S.pk_ne;exact⟨s,yF _ hs,(S.X1 h).1.tight a b,b⟩
  .obtain⟨s,hs,a,b⟩:=S.good.edge _ _ S.old2 S.p1_ne;exact⟨s,yF _ hs,a,(S.X2 h).1.tight b a⟩
  .obtain⟨s,hs,a,b⟩:=S.good.edge _ _ (S.old3 h) hne;exact⟨s,yF _ hs,a,b⟩
 .rcases S.mem_left hv with hv|⟨h,rfl⟩|⟨h,rfl⟩
  .obtain⟨s,hs,t,ht,a,b,c⟩:=S.good.two v (mQ hv);exact⟨s,yF _ hs,t,yF _ ht,a,b,c⟩
  .obtain⟨s,hs,a,b⟩:=S.good.edge _ _ S.old1 S.pk_ne;exact⟨s,yF _ hs,r,by simp,(S.X1 h).1.tight a b,(S.X1 h).2.1,unlike (S.dir s hs) (S.botP (w4 p1 P)) (S.botQ xS) a b (je S.pkgt h)⟩
  .obtain⟨s,hs,a,b⟩:=S.good.edge _ _ S.old2 S.p1_ne;exact⟨s,yF _ hs,r,by simp,(S.X2 h).1.tight b a,(S.X2 h).2.1,unlike (S.dir s hs) (S.botP xS) (S.botQ (w4 q1 Q)) b a (je S.p1gt h)⟩
 .have hpL:∀s∈Ls,val s p<=0:=λs hs=>hp s (yF _ hs);have hpr:val r p<=0:=hp r (by simp);obtain⟨m,hm,cn⟩:=S.good.all p h0 hpL;by_cases c:val r q1<0\/val r (xq q1 Q)<0\/2<=Q.length
  .have he:∀u v,(u,v)∈zp ((p1::P)++(q1::Q))->0<=det u v p:=λu v h=>by have:=cn.det u v λw hw=>S.good.ccw.edge h hw;rw[j8] at this;exact h_ hm this
   refine Ccw.incone ⟨λu v w s=>S.tri s,CJ (λu v w s=>S.tri s) (S.len_left c)⟩ (S.len_left c) λu v hm'=>?_;rcases S.pairs hm' with ⟨e1,e2⟩|⟨h,e1,e2⟩|⟨h,e1,e2⟩|h
   .rw[e1,e2];refine S.close ?_ hpr;rcases c with c|c|c
    .exact .inl c
    .by_cases hq:Q=[]
     .subst hq;exact .inl c
     .exact .inr hq
    .right;intro z;subst z;simp at c
   .rw[e1,e2];have bt:=(S.X1 h).1;have e:=bt.det q1 p;have r1:det q1 p (xq p1 P)=det (xq p1 P) q1 p:=qY _ _ _;rw[r1,sj,u0,kC] at e;have k:=pz (yA bt.pa) (he _ _ S.old1);rw[vq];exact h_ bt.pg (by lia)
   .rw[e1,e2];have bt:=(S.X2 h).1;have e:=bt.det p (xq q1 Q);have r1:det p (xq q1 Q) p1=det (xq q1 Q) p1 p:=vq _ _ _;rw[r1,j9,u0,kC] at e;have k:=pz (yA bt.pa) (he _ _ S.old2);rw[qY];exact h_ bt.pg (by lia)
   .exact he u v (S.old3 h)
  .obtain⟨e,z⟩:=S.small c;refine⟨m,hm,?_⟩;have ge:∀v∈(p1::P)++(q1::Q),0<=val r v:=λv hv=>by
    rcases xU.mp hv with hv|hv
    .have:=S.hP v hv;lia
    .have:=z v hv;lia
   have:=cn.zeros r ge (by rw[val_mul];exact pn (yA hm) hpr);rw[e];refine this.mono λv hv=>?_;obtain⟨hv,hv0⟩:=vM.mp hv;have hv0:val r v=0:=by simpa using hv0
   rcases xU.mp hv with hv|hv
   .have:=S.hP v hv;lia
   .exact .mem hv
end jn
end
end Pol
namespace Pol
def zB (r:R3)(left:List R3)(p:R3×R3):List R3:=
 let l1:=if val r p.1*val r p.2<0 then(if yf r p.1 p.2∈left then left else left++[yf r p.1 p.2]) else left
 if val r p.2<=0 then l1++[p.2] else l1
def wY (l:List R3)(r:R3):List R3:=(zp l).foldl (zB r) []
def Ow {r:R3}{acc:List R3}{p:R3×R3}(h:(acc++seg r p).Nodup):zB r acc p=acc++seg r p:=by
 unfold zB seg at *
 by_cases c:val r p.1*val r p.2<0
 .rw[xD c] at h ⊢;have hn:yf r p.1 p.2∉acc:=λz=>by have:=(jh.mp h).2.2 _ z _ (yF _ (yS.mpr rfl));exact this rfl
  simp only[xG hn];split<;>simp
 .rw[xG c] at h ⊢;simp only;split<;>simp
theorem BI {r:R3}:∀ {ps:List (R3×R3)} {acc:List R3},(acc++ps.flatMap (seg r)).Nodup->ps.foldl (zB r) acc=acc++ps.flatMap (seg r)
 |[],acc,_=>by simp
 |p::ps,acc,h=>by have h':(acc++(seg r p++ps.flatMap (seg r))).Nodup:=h;rw[<-qM] at h';rw[qi,Ow (jh.mp h').1,BI h',qM];rfl
def se {r:R3}{l:List R3}(h:(uS r l).Nodup):wY l r=uS r l:=by unfold wY;rw[BI (by simpa [uS] using h)];rfl
theorem d_ {r:R3}{l:List R3}(h:∀v∈l,val r v<=0):uS r l=l:=by
 cases l with
 |nil=>rfl
 |cons x xs=>exact nE (h _ (w4 x xs)) h
theorem sd {r:R3}{l:List R3}(h:∀v∈l,0<val r v):uS r l=[]:=by
 cases l with
 |nil=>rfl
 |cons x xs=>exact nF (h _ (w4 x xs)) h
def rG {Ls l:List R3}{r:R3}(g:Good Ls l)(h:∀v∈l,val r v<=0):Good (Ls++[r]) l where
 ccw:=g.ccw
 bot:=g.bot
 prim:=g.prim
 kept:=λv hv s hs=>by
  rcases xU.mp hs with hs|hs
  .exact g.kept v hv s hs
  .have:s=r:=by simpa using hs
   subst this;exact h v hv
 edge:=λu v he hn=>by obtain⟨s,hs,a⟩:=g.edge u v he hn;exact⟨s,yF _ hs,a⟩
 two:=λv hv=>by obtain⟨s,hs,t,ht,a⟩:=g.two v hv;exact⟨s,yF _ hs,t,yF _ ht,a⟩
 all:=λp h0 hp=>g.all p h0 λs hs=>hp s (yF _ hs)
def sH {Ls l l':List R3}{r:R3}(g:Good Ls l)(h:∀v∈l,0<=val r v)(hs:List.Sublist l' l)(hl:l'.length<=1)(h0:∀v∈l',val r v=0)(h1:∀v∈l,val r v=0->v∈l'):Good (Ls++[r]) l' where
 ccw:=⟨λu v w s=>by have:=s.length_le;simp at this;lia,g.ccw.nd.sublist hs⟩
 bot:=λv hv=>g.bot v (hs.subset hv)
 prim:=λv hv=>g.prim v (hs.subset hv)
 kept:=λv hv s hs'=>by
  rcases xU.mp hs' with h'|h'
  .exact g.kept v (hs.subset hv) s h'
  .have:s=r:=by simpa using h'
   subst this;rw[h0 v hv];exact uq _
 edge:=λu v he hn=>by
  exfalso
  match l',hl,he with
  |[x],_,he=>
   have:(u,v)=(x,x):=by simpa [zp,chain,xq] using he
   injection this with a b;exact hn (by rw[a,b])
  |[],_,he=>simp[zp] at he
  |_::_::_,hl,_=>simp at hl
 two:=λv hv=>by obtain⟨s,hs',t,ht,a⟩:=g.two v (hs.subset hv);exact⟨s,yF _ hs',t,yF _ ht,a⟩
 all:=λp hz hp=>by
  obtain⟨m,hm,c⟩:=g.all p hz λs hs=>hp s (yF _ hs);refine⟨m,hm,(c.zeros r h ?_).mono λv hv=>?_⟩
  .rw[val_mul];exact pn (yA hm) (hp r (by simp))
  .obtain⟨a,b⟩:=vM.mp hv;exact .mem (h1 v a (by simpa using b))
def BU {Ls:List R3}{r u v x:R3}(g:Good Ls [u,v])(dir:∀s∈Ls,s.1≠0\/s.2.1≠0)(hu:0<val r u)(hv:val r v<0)(hx:x=yf r u v):Good (Ls++[r]) [x,v]:=by
 subst hx;have bu:=g.bot u (by simp);have bv:=g.bot v (by simp);obtain⟨bt,x0,xb,xp⟩:=rh (r:=r) bu bv (je hu hv);have ne:u≠v:=λe=>by rw[e] at hu;lia
 obtain⟨s,hs,su,sv⟩:=g.edge u v (by simp[zp,chain,xq]) ne;have nx:yf r u v≠v:=λe=>by rw[e] at x0;lia
 have sx:=bt.tight su sv;refine⟨⟨λa b c h=>by have:=h.length_le;simp at this,by simp[nx]⟩,λw hw=>?_,λw hw=>?_,λw hw t ht=>?_,λa b he hn=>?_,λw hw=>?_,λp hz hp=>?_⟩
 .simp only[xR,yI,yJ] at hw;rcases hw with rfl|rfl
  .exact xb
  .exact bv
 .simp only[xR,yI,yJ] at hw;rcases hw with rfl|rfl
  .exact xp
  .exact g.prim w (by simp)
 .simp only[xR,yI,yJ] at hw;rcases xU.mp ht with ht|ht
  .rcases hw with rfl|rfl
   .exact bt.kept (g.kept u (by simp) t ht) (g.kept v (by simp) t ht)
   .exact g.kept w (by simp) t ht
  .have:t=r:=by simpa using ht
   subst this;rcases hw with rfl|rfl
   .rw[x0];exact uq _
   .exact yA hv
 .have he:(a,b)=(v,yf r u v)\/(a,b)=(yf r u v,v):=by simpa [zp,chain,xq] using he
  rcases he with e|e<;>injection e with e1 e2<;>subst e1 e2
  .exact⟨s,yF _ hs,sv,sx⟩
  .exact⟨s,yF _ hs,sx,sv⟩
 .simp only[xR,yI,yJ] at hw;rcases hw with rfl|rfl
  .exact⟨s,yF _ hs,r,by simp,sx,x0,unlike (dir s hs) bu bv su sv (je hu hv)⟩
  .obtain⟨s,hs',t,ht,a⟩:=g.two w (by simp);exact⟨s,yF _ hs',t,yF _ ht,a⟩
 .obtain⟨m,hm,c⟩:=g.all p hz λs hs=>hp s (yF _ hs);obtain⟨a,b,a0,b0,e⟩:=c.pair;have hr:val r (mul m p)<=0:=by rw[val_mul];exact pn (yA hm) (hp r (by simp))
  rw[e,val_add,val_mul,val_mul] at hr;have av:abs (val r v) = - val r v:=by unfold abs;rw[xD hv]
  have au:abs (val r u)=val r u:=by unfold abs;rw[xG (by lia)]
  refine⟨(- val r v)*m,pp (by lia) hm,?_⟩;have e2:mul ((- val r v)*m) p=add (mul (a*(yT (cw r u v):Int)) (yf r u v)) (mul (b*(- val r v)-a*val r u) v):=by
   have e3:mul ((- val r v)*m) p=mul (- val r v) (mul m p):=by apply ext3<;>simp only[mul]<;>grind
   have e4:mul (a*(yT (cw r u v):Int)) (yf r u v)=mul a (mul (yT (cw r u v)) (yf r u v)):=by apply ext3<;>simp only[mul]<;>grind
   rw[e3,e,e4,bt.e,av,au];apply ext3<;>simp only[mul,add]<;>grind
  rw[e2];have k:0<=b*(- val r v)-a*val r u:=by
   have:b*(- val r v)-a*val r u = - (a*val r u+b*val r v):=by grind
   lia
  exact((Cn.mem (by simp)).smul (pz a0 (yA bt.pg))).add ((Cn.mem (by simp)).smul k)
def Good.sw {Ls:List R3}{u v:R3}(g:Good Ls [u,v]):Good Ls [v,u]:=Good.rot (a:=[u]) (b:=[v]) g
theorem BR {Ls l:List R3}{r:R3}(g:Good Ls l)(dir:∀s∈Ls,s.1≠0\/s.2.1≠0):Good (Ls++[r]) (wY l r):=by
 match l,g with
 |[],g=>show Good (Ls++[r]) [];exact rG g λv hv=>by simp at hv
 |[v],g=>
  by_cases h:val r v<=0
  .have hk:∀w∈[v],val r w<=0:=λw hw=>by rw[yS.mp hw];exact h
   rw[se (by rw[d_ hk];simp),d_ hk];exact rG g hk
  .have hk:∀w∈[v],0<val r w:=λw hw=>by rw[yS.mp hw];lia
   rw[se (by rw[sd hk];simp),sd hk];exact sH g (λw hw=>yA (hk w hw)) (ik _) (by simp) (λw hw=>by simp at hw) λw hw h0=>by have:=hk w hw;lia
 |[u,v],g=>
  have ne:u≠v:=by have:=g.ccw.nd;simp at this;exact this
  have cy:zp [u,v]=[(v,u),(u,v)]:=rfl;unfold wY;rw[cy];simp only[qi,List.foldl_nil];by_cases c:val r u*val r v<0
  .have c':val r v*val r u<0:=by rw[gI];exact c
   have ex:yf r v u=yf r u v:=by unfold yf;rw[AX]
   have hu0:val r u≠0:=λz=>by rw[z] at c;simp at c
   have hv0:val r v≠0:=λz=>by rw[z] at c;simp at c
   by_cases hu:val r u<=0
   .have hv:0<val r v:=by
     rcases zy 0 (val r v) with z|z
     .exact z
     .have:=nn hu z;lia
    have e1:zB r [] (v,u)=[yf r v u,u]:=by unfold zB;simp only[xD c',xD hu];simp
    have e2:zB r [yf r v u,u] (u,v)=[yf r v u,u]:=by unfold zB;simp only[xD c,xG (show ¬val r v<=0 by lia)];rw[xD (by rw[<-ex];simp)]
    rw[e1,e2];exact BU g.sw dir hv (by lia) rfl
   .have hv:val r v<0:=by
     rcases zy (val r v) 0 with z|z
     .exact z
     .have:=pz (by lia:0<=val r u) z;lia
    have e1:zB r [] (v,u)=[yf r v u]:=by unfold zB;simp only[xD c',xG hu];simp
    have e2:zB r [yf r v u] (u,v)=[yf r v u,v]:=by unfold zB;simp only[xD c,xD (show val r v<=0 by lia)];rw[xD (by rw[<-ex];simp)];rfl
    rw[e1,e2];exact BU g dir (by lia) hv ex
  .have c':¬val r v*val r u<0:=by rw[gI];exact c
   have e1:zB r [] (v,u)=if val r u<=0 then[u] else[]:=by unfold zB;simp only[xG c'];split<;>simp
   have e2:∀l,zB r l (u,v)=if val r v<=0 then l++[v] else l:=λl=>by unfold zB;simp only[xG c]
   rw[e1,e2];by_cases hu:val r u<=0
   .rw[xD hu];by_cases hv:val r v<=0
    .rw[xD hv];show Good (Ls++[r]) [u,v];exact rG g λw hw=>by simp only[xR,yI,yJ] at hw;rcases hw with rfl|rfl<;>assumption
    .rw[xG hv];have hu0:val r u=0:=by
      rcases zy (val r u) 0 with z|z
      .have:=dy z (show 0<val r v by lia);lia
      .lia
     exact sH g (λw hw=>by
      simp only[xR,yI,yJ] at hw;rcases hw with rfl|rfl<;>lia) (by simp) (by simp) (λw hw=>by rw[yS.mp hw];exact hu0) λw hw h0=>by
       simp only[xR,yI,yJ] at hw;rcases hw with rfl|rfl
       .simp
       .lia
   .rw[xG hu];by_cases hv:val r v<=0
    .rw[xD hv];have hv0:val r v=0:=by
      rcases zy (val r v) 0 with z|z
      .have:=je (show 0<val r u by lia) z;lia
      .lia
     exact sH g (λw hw=>by
      simp only[xR,yI,yJ] at hw;rcases hw with rfl|rfl<;>lia) (by simp) (by simp) (λw hw=>by
       have:w=v:=by simpa using hw
       rw[this];exact hv0) λw hw h0=>by
       simp only[xR,yI,yJ] at hw;rcases hw with rfl|rfl
       .lia
       .simp
    .rw[xG hv];exact sH g (λw hw=>by
      simp only[xR,yI,yJ] at hw;rcases hw with rfl|rfl<;>lia) (by simp) (by simp) (λw hw=>by simp at hw) λw hw h0=>by simp only[xR,yI,yJ] at hw;rcases hw with rfl|rfl<;>lia
 |x::y::z::t,g=>
  obtain⟨a,b,P,Q,e1,e2,hP,hQ⟩:=g.ccw.parts r;have e0:x::y::z::t=a++b:=e1;rw[e0] at g ⊢;have gr:Good Ls (b++a):=g.rot;have mem:∀v,v∈a++b->v∈P++Q:=λv hv=>by rw[<-e2];simpa [or_comm] using hv
  have hlen:(P++Q).length=t.length+3:=by rw[<-e2,za,Nat.add_comm,<-za,<-e0];simp
  cases P with
  |nil=>have hk:∀v∈a++b,val r v<=0:=λv hv=>hQ v (by simpa using mem v hv);rw[se (by rw[d_ hk];exact g.ccw.nd),d_ hk];exact rG g hk
  |cons p1 P=>
   cases Q with
   |nil=>have hk:∀v∈a++b,0<val r v:=λv hv=>hP v (by simpa using mem v hv);rw[se (by rw[sd hk];simp),sd hk];exact sH g (λw hw=>yA (hk w hw)) (ik _) (by simp) (λw hw=>by simp at hw) λw hw h0=>by have:=hk w hw;lia
   |cons q1 Q=>
    have S:jn Ls r p1 q1 P Q:=⟨by rw[<-e2];exact gr,hP,hQ,by
     rcases gF (P=[]) with h|h
     .right;intro h';subst h h';simp at hlen
     .exact .inl h,dir⟩
    have gl:=S.good_left;unfold jn.left at gl;have g2:=Good.rot (a:=bef r (xq p1 P) q1++q1::Q) (b:=bef r p1 (xq q1 Q)) gl;rw[<-AS hP hQ,<-e2] at g2;obtain⟨c,d,f1,f2⟩:=AU r a b;rw[f2] at g2;have g3:=g2.rot;rw[<-f1] at g3;rw[se g3.ccw.nd];exact g3
def yn:Int:=60001
def box:List R3:=[(-yn,-yn,1),(yn,-yn,1),(yn,yn,1),(-yn,yn,1)]
def zG:List R3:=[(-1,0,yn),(1,0,yn),(0,-1,yn),(0,1,yn)]
theorem Ox {a b c d u v w:R3}(s:List.Sublist [u,v,w] [a,b,c,d]):(u=a/\v=b/\w=c)\/(u=a/\v=b/\w=d)\/(u=a/\v=c/\w=d)\/(u=b/\v=c/\w=d):=by
 have full:∀ {x y z u v w:R3},List.Sublist [u,v,w] [x,y,z]->u=x/\v=y/\w=z:=λ {x y z u v w} s=>by have:=s.eq_of_length (by simp);injection this with h1 h2;injection h2 with h2 h3;injection h3 with h3 _;exact⟨h1,h2,h3⟩
 cases s with
 |cons _ s=>exact .inr (.inr (.inr (full s)))
 |cons_cons _ s=>
  have two:∀ {x y z v w:R3},List.Sublist [v,w] [x,y,z]->(v=x/\w=y)\/(v=x/\w=z)\/(v=y/\w=z):=λ {x y z v w} s=>by
   cases s with
   |cons _ s=>have:=s.eq_of_length (by simp);injection this with h1 h2;injection h2 with h2 _;exact .inr (.inr ⟨h1,h2⟩)
   |cons_cons _ s=>
    have:w∈[y,z]:=uQ.mp s;simp only[xR,yI,yJ] at this;rcases this with rfl|rfl
    .exact .inl ⟨rfl,rfl⟩
    .exact .inr (.inl ⟨rfl,rfl⟩)
  rcases two s with ⟨h1,h2⟩|⟨h1,h2⟩|⟨h1,h2⟩
  .exact .inl ⟨rfl,h1,h2⟩
  .exact .inr (.inl ⟨rfl,h1,h2⟩)
  .exact .inr (.inr (.inl ⟨rfl,h1,h2⟩))
def Ay:Ccw box:=by refine⟨λu v w s=>?_,by decide⟩;rcases Ox s with ⟨rfl,rfl,rfl⟩|⟨rfl,rfl,rfl⟩|⟨rfl,rfl,rfl⟩|⟨rfl,rfl,rfl⟩<;>decide
def BQ:Good zG box:=by
 refine⟨Ay,by decide,by decide,by decide,λu v h _=>?_,by decide,λp hz hp=>?_⟩
 .have h:(u,v)∈[((-yn,yn,1),(-yn,-yn,1)),((-yn,-yn,1),(yn,-yn,1)),((yn,-yn,1),(yn,yn,1)),((yn,yn,1),(-yn,yn,1))]:=h;simp only[xR,yI,yJ] at h;rcases h with h|h|h|h<;>injection h with h1 h2<;>subst h1 h2
  .exact⟨(-1,0,yn),by decide,by decide,by decide⟩
  .exact⟨(0,-1,yn),by decide,by decide,by decide⟩
  .exact⟨(1,0,yn),by decide,by decide,by decide⟩
  .exact⟨(0,1,yn),by decide,by decide,by decide⟩
 .have h1:=hp (-1,0,yn) (by decide);have h2:=hp (1,0,yn) (by decide);have h3:=hp (0,-1,yn) (by decide);have h4:=hp (0,1,yn) (by decide);simp only[val,yn] at h1 h2 h3 h4;refine Ay.incone (by decide) λu v h=>?_;have h:(u,v)∈[((-yn,yn,1),(-yn,-yn,1)),((-yn,-yn,1),(yn,-yn,1)),((yn,-yn,1),(yn,yn,1)),((yn,yn,1),(-yn,yn,1))]:=h;simp only[xR,yI,yJ] at h;rcases h with h|h|h|h<;>injection h with h5 h6<;>subst h5 h6<;>simp only[det,yn]<;>lia
def pieces (xf:List R3):List R3:=xf.foldl wY box
theorem BS:∀(xf Ls l:List R3),Good Ls l->(∀s∈Ls,s.1≠0\/s.2.1≠0)->(∀s∈xf,s.1≠0\/s.2.1≠0)->Good (Ls++xf) (xf.foldl wY l)
 |[],Ls,l,g,_,_=>by simpa using g
 |r::xf,Ls,l,g,d1,d2=>by
  rw[qi];have:=BS xf (Ls++[r]) (wY l r) (BR g d1) (λs hs=>by
   rcases xU.mp hs with h|h
   .exact d1 s h
   .rw[yS.mp h];exact d2 r xS) (λs hs=>d2 s (yV _ hs))
  rwa [qM] at this
def hJ {xf:List R3}(d:∀s∈xf,s.1≠0\/s.2.1≠0):Good (zG++xf) (pieces xf):=BS xf zG box BQ (by decide) d
def GR (xf:List R3):Prop:=∀u v:Int,(u≠0\/v≠0)->∃r∈xf,0<r.1*u+r.2.1*v
def zk (r:R3):Prop:=((-30<=r.1/\r.1<=30)/\(-30<=r.2.1/\r.2.1<=30))/\(-1000<=r.2.2/\r.2.2<=1000)
structure IsC (xf:List R3)(p:R3):Prop where
 kept:∀r∈xf,val r p<=0
 two:∃s∈xf,∃t∈xf,val s p=0/\val t p=0/\turn s t≠0
def kG (p q:R3):Prop:=p.1*q.2.2=q.1*p.2.2/\p.2.1*q.2.2=q.2.1*p.2.2
def Cv {s t p q:R3}(hn:turn s t≠0)(p1:val s p=0)(p2:val t p=0)(q1:val s q=0)(q2:val t q=0):kG p q:=by
 have e1:turn s t*(p.1*q.2.2-q.1*p.2.2)=(t.2.1*val s p-s.2.1*val t p)*q.2.2-(t.2.1*val s q-s.2.1*val t q)*p.2.2:=by simp only[turn,val];grind
 have e2:turn s t*(p.2.1*q.2.2-q.2.1*p.2.2)=(s.1*val t p-t.1*val s p)*q.2.2-(s.1*val t q-t.1*val s q)*p.2.2:=by simp only[turn,val];grind
 rw[p1,p2,q1,q2] at e1 e2;have e1:turn s t*(p.1*q.2.2-q.1*p.2.2)=0:=by rw[e1];grind
 have e2:turn s t*(p.2.1*q.2.2-q.2.1*p.2.2)=0:=by rw[e2];grind
 have:=(vk.mp e1).resolve_left hn;have:=(vk.mp e2).resolve_left hn;exact⟨by lia,by lia⟩
section
variable {xf more:List R3}
structure j4 (xf more:List R3):Prop where
 box:∀ {p:R3},0<p.2.2->(∀r∈more,val r p<=0)->∀s∈zG,val s p<0
 fr:∀r∈xf,zk r
 sub:∀r∈xf,r∈more
 dir:∀r∈more,r.1≠0\/r.2.1≠0
def j4.corner (F:j4 xf more){v:R3}(hv:v∈pieces more):0<v.2.2/\yT v=1/\IsC more v:=by
 have g:=hJ F.dir;have hz:=g.bot v hv;have hk:∀r∈more,val r v<=0:=λr hr=>g.kept v hv r (zf _ hr);have nb:=F.box hz hk;obtain⟨s,hs,t,ht,a,b,c⟩:=g.two v hv;have in':∀x∈zG++more,val x v=0->x∈more:=λx hx h0=>by
  rcases xU.mp hx with h|h
  .have:=nb x h;lia
  .exact h
 exact⟨hz,g.prim v hv,hk,s,in' s hs a,t,in' t ht b,a,b,c⟩
def j4.incone (F:j4 xf more){p:R3}(hz:0<p.2.2)(hp:∀r∈more,val r p<=0):InC (pieces more) p:=by
 have g:=hJ F.dir;refine g.all p hz λs hs=>?_;rcases xU.mp hs with h|h
 .exact yA (F.box hz hp s h)
 .exact hp s h
def val_neg (r p:R3):val (- r.1,- r.2.1,- r.2.2) p = - val r p:=by simp only[val];grind
theorem j4.found (F:j4 xf more){p:R3}(hz:0<p.2.2)(hp:IsC more p):∃v∈pieces more,kG v p:=by
 obtain⟨m,hm,c⟩:=F.incone hz hp.kept;obtain⟨s,hs,t,ht,a,b,hn⟩:=hp.two;have g:=hJ F.dir;have kept:∀v∈pieces more,∀r∈more,val r v<=0:=λv hv r hr=>g.kept v hv r (zf _ hr);have c1:=c.zeros (- s.1,- s.2.1,- s.2.2) (λv hv=>by rw[val_neg];have:=kept v hv s hs;lia) (by rw[val_neg,val_mul,a];simp);have c2:=c1.zeros (- t.1,- t.2.1,- t.2.2) (λv hv=>by rw[val_neg];have:=kept v (vM.mp hv).1 t ht;lia) (by rw[val_neg,val_mul,b];simp);cases e:((pieces more).filter λv=>val (- s.1,- s.2.1,- s.2.2) v=0).filter (λv=>val (- t.1,- t.2.1,- t.2.2) v=0) with
 |nil=>
  rw[e] at c2;exfalso;rcases c2.bot (λv hv=>by simp at hv) with h|h
  .have:m*p.2.2=0:=zS (·.2.2) h;have:=pp hm hz;lia
  .have:∀q:R3,Cn [] q->q=(0,0,0):=λq hq=>by
    induction hq with
    |zero=>rfl
    |mem h=>simp at h
    |add _ _ h1 h2=>rw[h1,h2];rfl
   rw[this _ c2] at h;simp at h
 |cons v r=>
  have hv:v∈((pieces more).filter λv=>val (- s.1,- s.2.1,- s.2.2) v=0).filter (λv=>val (- t.1,- t.2.1,- t.2.2) v=0):=by rw[e];exact xS
  obtain⟨h1,h2⟩:=vM.mp hv;obtain⟨h3,h4⟩:=vM.mp h1;have h2:val (- t.1,- t.2.1,- t.2.2) v=0:=by simpa using h2
  have h4:val (- s.1,- s.2.1,- s.2.2) v=0:=by simpa using h4
  rw[val_neg] at h2 h4;exact⟨v,h3,Cv hn (by lia) (by lia) a b⟩
end
def dot (r s:R3):Int:=r.1*s.1+r.2.1*s.2.1
def BC (sg:Int)(last:Option R3)(x:R3):Bool:=match last with|none=>true|some l=>decide (0<sg*turn l x)
def vb (r:R3)(sg:Int)(last:Option R3)(x:R3):Option R3:=if 0<sg*turn r x/\BC sg last x=true then some x else last
def far (r:R3)(sg:Int)(rs:List R3):Option R3:=rs.foldl (vb r sg) none
def back (r:R3)(rs:List R3):Bool:=rs.any λx=>decide (turn r x=0)&&decide (dot r x<0)
def q_:List R3->Bool
 |[]=>false
 |r::rs=>match far r 1 (r::rs),far r (-1) (r::rs) with
  |some l,some k=>decide (0<turn l k)||back r (r::rs)
  |_,_=>false
def Dm {a b:Int}(h:0<a)(k:a*b<=0):b<=0:=by
 rcases zy 0 b with z|z
 .have:=pp h z;lia
 .exact z
def plk (r l k z:R3):turn r l*turn k z-turn r k*turn l z+turn r z*turn l k=0:=by obtain⟨a,b,_⟩:=r;obtain⟨c,d,_⟩:=l;obtain⟨e,f,_⟩:=k;obtain⟨g,h,_⟩:=z;simp only[turn];grind
def dS (r l:R3):turn l r = - turn r l:=by obtain⟨a,b,_⟩:=r;obtain⟨c,d,_⟩:=l;simp only[turn];grind
def proj (r x z:R3):dot r r*turn x z=dot r x*turn r z-turn r x*dot r z:=by obtain⟨a,b,_⟩:=r;obtain⟨c,d,_⟩:=x;obtain⟨g,h,_⟩:=z;simp only[turn,dot];grind
def sq {a:Int}(h:a≠0):0<a*a:=by
 rcases zy 0 a with z|z
 .exact pp z z
 .have:0<(-a)*(-a):=pp (by lia) (by lia);rwa [Int.neg_mul_neg] at this
def sq0 (a:Int):0<=a*a:=by
 rcases zy 0 a with z|z
 .exact pz (by lia) (by lia)
 .exact nn z z
def rq {r:R3}(h:r.1≠0\/r.2.1≠0):0<dot r r:=by
 unfold dot;have h1:=sq0 r.1;have h2:=sq0 r.2.1;rcases h with h|h
 .have:=sq h;lia
 .have:=sq h;lia
structure gZ (r:R3)(s:Int)(rs:List R3)(l:R3):Prop where
 mem:l∈rs
 left:0<s*turn r l
 all:∀x∈rs,0<s*turn r x->s*turn l x<=0
def M_ (s:Int)(r l k z:R3):(s*turn r l)*(s*turn k z)=(s*turn r k)*(s*turn l z)-(s*turn r z)*(s*turn l k):=by have:=plk r l k z;grind
def iM (r:R3)(s:Int)(done:List R3):Option R3->Prop
 |none=>∀x∈done,s*turn r x<=0
 |some l=>gZ r s done l
theorem n_ {r:R3}{s:Int}:∀(rs done:List R3) (o:Option R3),iM r s done o->iM r s (done++rs) (rs.foldl (vb r s) o)
 |[],done,o,h=>by simpa using h
 |y::rs,done,o,h=>by
  rw[qi];have ih:=n_ (r:=r) (s:=s) rs (done++[y]) (vb r s o y) (by
   unfold vb;by_cases c:0<s*turn r y/\BC s o y=true
   .rw[xD c];obtain⟨c1,c2⟩:=c;refine⟨by simp,c1,λx hx hp=>?_⟩;rcases xU.mp hx with hx|hx
    .cases o with
     |none=>exact absurd (show s*turn r x<=0 from h x hx) (by lia)
     |some l=>have h:gZ r s done l:=h;have c2:0<s*turn l y:=zr c2;have hl:s*turn l x<=0:=h.all x hx hp;have e:=M_ s r l y x;have p1:=pn (yA c1) hl;have p2:=pp hp c2;exact Dm h.left (by rw[e];lia)
    .have:x=y:=by simpa using hx
     subst this;have:turn x x=0:=by unfold turn;grind
     rw[this];simp
   .rw[xG c];cases o with
    |none=>
     intro x hx;rcases xU.mp hx with hx|hx
     .exact h x hx
     .have:x=y:=by simpa using hx
      subst this;have c':¬0<s*turn r x:=λz=>c ⟨z,rfl⟩;lia
    |some l=>
     have h:gZ r s done l:=h;refine⟨yF _ h.mem,h.left,λx hx hp=>?_⟩;rcases xU.mp hx with hx|hx
     .exact h.all x hx hp
     .have:x=y:=by simpa using hx
      subst this;have c':¬0<s*turn l x:=λz=>c ⟨hp,wO z⟩;lia)
  rwa [qM] at ih
def BD {r:R3}{s:Int}{rs:List R3}(h:far r s rs=none):∀x∈rs,s*turn r x<=0:=by have:=n_ (r:=r) (s:=s) rs [] none (λx hx=>by simp at hx);unfold far at h;rw[h] at this;intro x hx;exact this x (by simpa using hx)
def rB {r l:R3}{s:Int}{rs:List R3}(h:far r s rs=some l):gZ r s rs l:=by have:=n_ (r:=r) (s:=s) rs [] none (λx hx=>by simp at hx);unfold far at h;rw[h,vn] at this;exact this
def Nz {r l k:R3}{rs:List R3}(r0:∀x∈rs,x.1≠0\/x.2.1≠0)(hr:r∈rs)(hl:gZ r 1 rs l)(hk:gZ r (-1) rs k)(h:¬0<turn l k)(hb:back r rs=false):∀x∈rs,turn l x<=0:=by
 intro x hx;have l1:0<turn r l:=by have:=hl.left;lia
 have k1:turn r k<0:=by have:=hk.left;lia
 rcases jd (turn r x) 0 with c|c|c
 .have kx:0<=turn k x:=by have:=hk.all x hx (by lia);lia
  have e:=plk r l k x;have p1:=pz (yA l1) kx;have p2:=nn (yA c) (by lia:turn l k<=0);have p3:0<=turn r k*turn l x:=by lia
  rcases zy 0 (turn l x) with z|z
  .have p4:turn r k*turn l x<0:=dy k1 z;lia
  .exact z
 .have q:=proj r x l;rw[c] at q;simp only[qh,Int.sub_zero] at q;have d0:0<=dot r x:=by
   rcases zy (dot r x) 0 with z|z
   .exfalso;have:back r rs=true:=by unfold back;rw[aH];exact⟨x,hx,by rw[wO c,wO z];rfl⟩
    rw[this] at hb;cases hb
   .exact z
  have q1:=pz d0 (yA l1);have q2:=rq (r0 r hr);have a:=dS x l;rw[a];have:0<=turn x l:=by
   rcases zy (turn x l) 0 with z|z
   .have:=je q2 z;lia
   .exact z
  lia
 .have:=hl.all x hx (by lia);lia
def RA (rs:List R3):Prop:=∀z∈rs,∀s:Int,(s=1\/s = -1)->∃x∈rs,0<s*turn z x
def Ja {rs:List R3}(r0:∀x∈rs,x.1≠0\/x.2.1≠0)(h:GR rs):RA rs:=λz hz s hs=>by
 have key:∀x:R3,x.1*(s * -z.2.1)+x.2.1*(s*z.1)=s*turn z x:=λx=>by unfold turn;grind
 obtain⟨x,hx,p⟩:=h (s * -z.2.1) (s*z.1) (by have:=r0 z hz;rcases hs with e|e<;>subst e<;>lia);exact⟨x,hx,by rw[key x] at p;exact p⟩
theorem Nm {rs:List R3}(r0:∀x∈rs,x.1≠0\/x.2.1≠0)(ne:rs≠[])(h:RA rs):q_ rs=true:=by
 have no:∀z:R3,z∈rs->∀s:Int,(s=1\/s = -1)->(∀x∈rs,s*turn z x<=0)->False:=λz hz s hs hx=>by obtain⟨x,hxm,p⟩:=h z hz s hs;have:=hx x hxm;lia
 cases rs with
 |nil=>exact absurd rfl ne
 |cons r t=>
  have hr:r∈r::t:=xS;have e:q_ (r::t)=match far r 1 (r::t),far r (-1) (r::t) with
   |some l,some k=>decide (0<turn l k)||back r (r::t)
   |_,_=>false:=rfl
  rw[e];cases e1:far r 1 (r::t) with
  |none=>exact(no r hr 1 (.inl rfl) (BD e1)).elim
  |some l=>
   cases e2:far r (-1) (r::t) with
   |none=>exact(no r hr (-1) (.inr rfl) (BD e2)).elim
   |some k=>
    show(decide (0<turn l k)||back r (r::t))=true;have hl:=rB e1;have hk:=rB e2;rcases gF ((decide (0<turn l k)||back r (r::t))=true) with q|q
    .exact q
    .exfalso;simp only[Bool.or_eq_true,gT,not_or,Bool.not_eq_true] at q;exact no l hl.mem 1 (.inl rfl) (λx hx=>by have:=Nz r0 hr hl hk q.1 q.2 x hx;lia)
def I_ {rs:List R3}(h:GR rs):rs≠[]:=λe=>by obtain⟨r,hr,_⟩:=h 1 0 (.inl (by decide));rw[e] at hr;simp at hr
def ED (r:R3)(acc:List R3)(p:R3×R3):(zB r acc p).length<=acc.length+(seg r p).length:=by
 unfold zB seg;by_cases c:val r p.1*val r p.2<0
 .by_cases m:yf r p.1 p.2∈acc
  .simp only[xD c,xD m];split<;>simp<;>lia
  .simp only[xD c,xG m];split<;>simp<;>lia
 .simp only[xG c];split<;>simp
theorem BH (r:R3):∀(ps:List (R3×R3)) (acc:List R3),(ps.foldl (zB r) acc).length<=acc.length+(ps.flatMap (seg r)).length
 |[],acc=>by simp
 |p::ps,acc=>by rw[qi,List.flatMap_cons,za];have:=BH r ps (zB r acc p);have:=ED r acc p;lia
def Al (r p q:R3):(bef r p q).length<=1:=by unfold bef;split<;>simp
theorem Hr {l:List R3}(h:Ccw l)(r:R3):(uS r l).length<=l.length+2:=by
 obtain⟨a,b,P,Q,e1,e2,hP,hQ⟩:=h.parts r;obtain⟨c,d,f1,f2⟩:=AU r a b;have el:(uS r l).length=(uS r (P++Q)).length:=by rw[e1,f1,<-e2,f2,za,za];lia
 have ll:l.length=(P++Q).length:=by rw[e1,<-e2,za,za];lia
 rw[el,ll];cases P with
 |nil=>rw[vn,d_ hQ];lia
 |cons p P=>
  cases Q with
  |nil=>rw[ub,sd hP];simp
  |cons q Q=>rw[AS hP hQ];simp only[za,uA];have:=Al r p (xq q Q);have:=Al r (xq p P) q;lia
def Hu {l:List R3}(h:Ccw l)(r:R3):(wY l r).length<=l.length+2:=by
 have:=BH r (zp l) [];have:=Hr h r;unfold wY uS at *
 simp at *
 lia
theorem BG:∀(xf Ls l:List R3),Good Ls l->(∀s∈Ls,s.1≠0\/s.2.1≠0)->(∀s∈xf,s.1≠0\/s.2.1≠0)->(xf.foldl wY l).length<=l.length+2*xf.length
 |[],Ls,l,_,_,_=>by simp
 |r::xf,Ls,l,g,d,d'=>by
  rw[qi];have h1:=Hu g.ccw r;have dr:=d' r xS;have h2:=BG xf (Ls++[r]) (wY l r) (BR g d) (λs hs=>by
   rcases xU.mp hs with h|h
   .exact d s h
   .rw[yS.mp h];exact dr) (λs hs=>d' s (yV _ hs))
  rw[uA];lia
def Dh {xf:List R3}(d:∀s∈xf,s.1≠0\/s.2.1≠0):(pieces xf).length<=4+2*xf.length:=BG xf zG box BQ (by decide) d
theorem AD (p:R3):∀l:List R3,(chain p l).length=l.length
 |[]=>rfl
 |x::l=>by show(chain x l).length+1=_;rw[AD x l];rfl
theorem Hw:∀l:List R3,(zp l).length=l.length
 |[]=>rfl
 |x::l=>AD _ _
theorem AB (p:R3):∀(l:List R3) (i:Nat) (v:R3),l[i]?=some v->∃u,(p::l)[i]?=some u/\(chain p l)[i]?=some (u,v)
 |[],i,v,h=>by simp at h
 |x::l,0,v,h=>by simp at h;subst h;exact⟨p,rfl,rfl⟩
 |x::l,i+1,v,h=>by
  have h':l[i]?=some v:=by simpa using h
  obtain⟨u,e1,e2⟩:=AB x l i v h';exact⟨u,by simpa using e1,by show(chain x l)[i]?=_;exact e2⟩
theorem Hv {l:List R3}{i:Nat}{v:R3}(h:l[i]?=some v):∃u,u∈l/\(zp l)[i]?=some (u,v)/\((i=0/\∃ys,l=ys++[u])\/(0<i/\l[i-1]?=some u)):=by
 cases l with
 |nil=>simp at h
 |cons x l=>
  obtain⟨u,e1,e2⟩:=AB (xq x l) (x::l) i v h;cases i with
  |zero=>
   have:xq x l=u:=by simpa using e1
   subst this;obtain⟨ys,e⟩:=aq x l;exact⟨_,w4 x l,e2,.inl ⟨rfl,ys,e⟩⟩
  |succ i=>
   have e1:(x::l)[i]?=some u:=by simpa using e1
   exact⟨u,zW e1,e2,.inr ⟨by lia,by simpa using e1⟩⟩
def rD {α β:Type}(f:β->α->β)(b:β){l:List α}{i:Nat}{x:α}(h:l[i]?=some x):(l.take (i+1)).foldl f b=f ((l.take i).foldl f b) x:=by have hi:=(zP.mp h).1;rw[jS,h,jO];rfl
def Ah (p q:R3):Prop:=p.1*q.2.2<q.1*p.2.2\/p.1*q.2.2=q.1*p.2.2/\p.2.1*q.2.2<q.2.1*p.2.2
def bI {a x b y c z:Int}(hx:0<x)(hy:0<y)(hz:0<z)(h1:a*y<b*x)(h2:b*z<=c*y):a*z<c*x:=by
 have e1:a*y*z<b*x*z:=Fz h1 hz;have e2:b*z*x<=c*y*x:=qL h2 (by lia);have:a*z*y<c*x*y:=by
  have e3:a*z*y=a*y*z:=by grind
  have e4:c*x*y=c*y*x:=by grind
  have e5:b*x*z=b*z*x:=by grind
  lia
 exact Fx this (by lia)
def JQ {a x b y c z:Int}(hx:0<x)(hy:0<y)(hz:0<z)(h1:a*y<=b*x)(h2:b*z<c*y):a*z<c*x:=by
 have e1:a*y*z<=b*x*z:=qL h1 (by lia);have e2:b*z*x<c*y*x:=Fz h2 hx;have:a*z*y<c*x*y:=by
  have e3:a*z*y=a*y*z:=by grind
  have e4:c*x*y=c*y*x:=by grind
  have e5:b*x*z=b*z*x:=by grind
  lia
 exact Fx this (by lia)
def Ij {a x b y c z:Int}(hy:0<y)(h1:a*y=b*x)(h2:b*z=c*y):a*z=c*x:=by
 have:a*z*y=c*x*y:=by grind
 exact gH (by lia) this
def Ah.irrefl (p:R3):¬Ah p p:=by rintro(h|h)<;>lia
def Ah.trans {p q w:R3}(hp:0<p.2.2)(hq:0<q.2.2)(hw:0<w.2.2)(h1:Ah p q)(h2:Ah q w):Ah p w:=by
 rcases h1 with a|⟨a,b⟩
 .rcases h2 with c|⟨c,d⟩
  .exact .inl (bI hp hq hw a (by lia))
  .exact .inl (bI hp hq hw a (by lia))
 .rcases h2 with c|⟨c,d⟩
  .exact .inl (JQ hp hq hw (by lia) c)
  .exact .inr ⟨Ij hq a c,bI hp hq hw b (by lia)⟩
def Ah.total {p q:R3}(h1:¬Ah p q)(h2:¬Ah q p):kG p q:=by unfold Ah at h1 h2;unfold kG;lia
def aS (l:List R3):Prop:=∀h t,l=h::t->∀v∈l,¬Ah v h
def Cq {α:Type}:∀ {l k:List α},l.Nodup->k.Nodup->(∀x,x∈l↔x∈k)->l.length=k.length:=λ {l k} h1 h2 h=>((List.perm_ext_iff_of_nodup h1 h2).mpr h).length_eq
def zj (s t:R3):R3:=if turn s t<0 then(-(s.2.2*t.2.1-s.2.1*t.2.2),-(s.1*t.2.2-s.2.2*t.1),-turn s t) else(s.2.2*t.2.1-s.2.1*t.2.2,s.1*t.2.2-s.2.2*t.1,turn s t)
def fh {s t:R3}(h:turn s t≠0):0<(zj s t).2.2/\val s (zj s t)=0/\val t (zj s t)=0:=by
 unfold zj;split
 .refine⟨by simp only;lia,?_,?_⟩<;>simp only[val,turn]<;>grind
 .refine⟨by simp only;lia,?_,?_⟩<;>simp only[val,turn]<;>grind
def Hq {s t v:R3}(h:turn s t≠0)(h1:val s v=0)(h2:val t v=0):kG (zj s t) v:=Cv h (fh h).2.1 (fh h).2.2 h1 h2
end Pol
namespace L2
open PySem PySem.Spec PyProof.Rows
def Bk (k:Nat)(i:Int):Prop:=i.natAbs<2^k
def Bk.mono {k m:Nat}{i:Int}(h:Bk k i)(hk:k<=m):Bk m i:=uR h (Nat.pow_le_pow_right (by decide) hk)
def Bk.mul {k m:Nat}{i j:Int}(h:Bk k i)(h':Bk m j):Bk (k+m) (i*j):=by
 unfold Bk at *
 rw[vK,Nat.pow_add];exact Nat.mul_lt_mul'' h h'
def Bk.add {k:Nat}{i j:Int}(h:Bk k i)(h':Bk k j):Bk (k+1) (i+j):=by
 unfold Bk at *
 rw[Nat.pow_succ];have:=Int.natAbs_add_le i j;lia
def Bk.neg {k:Nat}{i:Int}(h:Bk k i):Bk k (-i):=by unfold Bk at *;rw[Int.natAbs_neg];exact h
def Bk.sub {k:Nat}{i j:Int}(h:Bk k i)(h':Bk k j):Bk (k+1) (i-j):=by rw[Int.sub_eq_add_neg];exact h.add h'.neg
def Bk.bd {k:Nat}{i:Int}(h:Bk k i)(hk:k<=2000:=by decide):Bd i:=h.mono hk
def Bk.abs {k:Nat}{i:Int}(h:Bk k i):Bk k (if i<0 then -i else i):=by split;exact h.neg;exact h
def Bk.le {k:Nat}{i j:Int}(h:Bk k i)(hl:j.natAbs<=i.natAbs):Bk k j:=jT hl h
def yW (k:Nat)(r:Pol.R3):Prop:=(Bk k r.1/\Bk k r.2.1)/\Bk k r.2.2
theorem yW.mono {k m:Nat}{r:Pol.R3}(h:yW k r)(hk:k<=m):yW m r:=⟨⟨h.1.1.mono hk,h.1.2.mono hk⟩,h.2.mono hk⟩
def B3 (r:Pol.R3):Prop:=(Bd r.1/\Bd r.2.1)/\Bd r.2.2
def yW.b3 {k:Nat}{r:Pol.R3}(h:yW k r)(hk:k<=2000:=by decide):B3 r:=h.mono hk
theorem yW.val {k m:Nat}{r p:Pol.R3}(h:yW k r)(h':yW m p):Bk (k+m+2) (Pol.val r p):=((h.1.1.mul h'.1.1).add (h.1.2.mul h'.1.2)).sub ((h.2.mul h'.2).mono (aL _))
def fv:Tr->Bool
 |.int _=>true
 |_=>false
def frT (n d:Int):Tr:=.tup [.int n,.int d]
def vf (t b:Int):Int:=t/(Int.gcd t b:Int)
def uw (t b:Int):Int:=b/(Int.gcd t b:Int)
def xi (r:Pol.R3):Tr:=.tup [.int r.1,.int r.2.1,.int r.2.2]
def yi (v:Pol.R3):Tr:=.tup [frT (vf v.1 v.2.2) (uw v.1 v.2.2),frT (vf v.2.1 v.2.2) (uw v.2.1 v.2.2)]
def pA (p:Pol.R3):pln (xi p)=true:=rfl
def E9 (p q:Pol.R3):zC (xi p) (xi q)=decide (p=q):=by
 have e:zC (xi p) (xi q)=(decide (p.1=q.1)&&(decide (p.2.1=q.2.1)&&(decide (p.2.2=q.2.2)&&true))):=rfl;rw[e];by_cases h:p=q
 .subst h;simp
 .rw[wX h];by_cases h1:p.1=q.1
  .by_cases h2:p.2.1=q.2.1
   .by_cases h3:p.2.2=q.2.2
    .exact absurd (ext3 h1 h2 h3) h
    .simp[h3]
   .simp[h2]
  .simp[h1]
theorem aZ {α:Type}(f:α->Tr)(h:∀x,pln (f x)=true):∀l:List α,PyData.canLayAll0 (wL (l.map f))=true
 |[]=>rfl
 |x::l=>by show((zN (f x)).canLay0&&PyData.canLayAll0 (wL (l.map f)))=true;rw[aZ f h l,show(zN (f x)).canLay0=true from h x];rfl
def Ae (l:List Pol.R3)(c:Pol.R3):((l.map xi).any λu=>zC u (xi c))=decide (c∈l):=by
 rw[lO,aH,gT];constructor
 .rintro⟨u,hu,h⟩;obtain⟨x,hx,rfl⟩:=wN.mp hu;rw[E9,gT] at h;subst h;exact hx
 .intro h;exact⟨xi c,gO h,by rw[E9];simp⟩
def IS {x y:Int}(hx:0<=x)(hy:0<=y):Int.gcd y (x%y)=Int.gcd x y:=by obtain⟨n,rfl⟩:=Int.eq_ofNat_of_zero_le hy;obtain⟨m,rfl⟩:=Int.eq_ofNat_of_zero_le hx;show Nat.gcd n (((m%n:Nat):Int)).natAbs=Nat.gcd m n;rw[Int.natAbs_natCast,Nat.gcd_comm m n,Nat.gcd_rec n m,Nat.gcd_comm]
def nr {t b:Int}(hb:b≠0)(h:Bd b):Bd (Int.gcd t b:Int):=by unfold Bd;refine jT ?_ h;have:=Int.gcd_le_natAbs_right (a:=t) hb;lia
def C9:ym:=λts KK=>∃t,ts=[t]/\KK (.bl (fv t))
def L5:ym:=λts KK=>∃t,ts=[t]/\∃us,(t=.tup us\/t=.lst us)/\us.length<sizeLine/\KK (.bl (us.all fv))
def C7:ym:=λts KK=>∃a b:Int,ts=[.int a,.int b]/\KK (.int (Int.gcd a b))
def MA:ym:=λts KK=>∃t b:Int,ts=[.int t,.int b]/\b≠0/\Bd b/\KK (frT (vf t b) (uw t b))
def L8:ym:=λts KK=>∃r p:Pol.R3,ts=[xi r,xi p]/\B3 r/\B3 p/\KK (.int (Pol.val r p))
def Mb:ym:=λts KK=>∃r u v:Pol.R3,ts=[xi r,xi u,xi v]/\(yW 100 r/\yW 800 u/\yW 800 v)/\(0<u.2.2/\0<v.2.2)/\Pol.val r u*Pol.val r v<0/\KK (xi (yf r u v))
def ahead (p q:Pol.R3):Bool:=decide (p.1*q.2.2<q.1*p.2.2\/p.1*q.2.2=q.1*p.2.2/\p.2.1*q.2.2<q.2.1*p.2.2)
def L3:ym:=λts KK=>∃p q:Pol.R3,ts=[xi p,xi q]/\B3 p/\B3 q/\KK (.bl (ahead p q))
def cZ:ym:=λts KK=>∃(l:List Pol.R3) (r:Pol.R3),ts=[.lst (l.map xi),xi r]/\yW 100 r/\(∀v∈l,yW 800 v/\0<v.2.2)/\l.length<=100000/\KK (.lst ((wY l r).map xi))
def wu (l:List Pol.R3)(s i:Nat):Nat:=if ahead (l.getD i (0,0,0)) (l.getD s (0,0,0))=true then i else s
def kQ (l:List Pol.R3):Nat:=(List.range l.length).foldl (wu l) 0
def wV (l:List Pol.R3):List Pol.R3:=l.drop (kQ l)++l.take (kQ l)
def Mf:ym:=λts KK=>∃l:List Pol.R3,ts=[.lst (l.map xi)]/\(∀v∈l,B3 v)/\l.length<=100000/\KK (.lst ((wV l).map xi))
structure qm (xf:List Pol.R3):Prop where
 dir:∀r∈xf,r.1≠0\/r.2.1≠0
 sm:∀r∈xf,yW 100 r
 len:xf.length<=10000
def Mc:ym:=λts KK=>∃(t:Tr) (r0 xf:List Pol.R3),ts=[.lst ((pieces r0).map xi),t]/\(t=.tup (xf.map xi)\/t=.lst (xf.map xi))/\qm (r0++xf)/\KK (.lst ((pieces (r0++xf)).map xi))
def MK:ym:=λts KK=>∃(t:Tr) (xf:List Pol.R3),ts=[t]/\(t=.tup (xf.map xi)\/t=.lst (xf.map xi))/\qm xf/\KK (.lst ((pieces xf).map xi))
def ML:ym:=λts KK=>∃l:List Pol.R3,ts=[.lst (l.map xi)]/\(∀v∈l,yW 800 v/\0<v.2.2)/\l.length<=100000/\KK (.lst ((wV l).map yi))
def Ma:ym:=λts KK=>∃(t:Tr) (xf:List Pol.R3),ts=[t]/\(t=.tup (xf.map xi)\/t=.lst (xf.map xi))/\qm xf/\KK (.lst ((wV (pieces xf)).map yi))
def qc:Tr->Option Pol.R3
 |.tup [.int a,.int b,.int c]=>some (a,b,c)
 |_=>none
def sI (t:Tr):Bool:=match qc t with|some r=>decide (r.1≠0\/r.2.1≠0)|none=>false
def Mm:ym:=λts KK=>∃t,ts=[t]/\KK (.bl (sI t))
def jD:ym:=λts KK=>∃(a b c d:Int) (x y:List Tr),ts=[.tup (.int a::.int b::x),.tup (.int c::.int d::y)]/\((Bd a/\Bd b)/\Bd c/\Bd d)/\KK (.int (a*d-b*c))
def cY:Option Pol.R3->Tr
 |some r=>xi r
 |none=>.non
def Mg:ym:=λts KK=>∃(r:Pol.R3) (xf:List Pol.R3) (s:Int),ts=[xi r,.tup (xf.map xi),.int s]/\(s=1\/s = -1)/\yW 900 r/\(∀x∈xf,yW 900 x)/\KK (cY (far r s xf))
def L6:ym:=λts KK=>∃(r:Pol.R3) (xf:List Pol.R3),ts=[xi r,.tup (xf.map xi)]/\yW 900 r/\(∀x∈xf,yW 900 x)/\KK (.bl (Pol.back r xf))
def Mh:ym:=λts KK=>∃xf:List Pol.R3,ts=[.tup (xf.map xi)]/\(∀x∈xf,yW 900 x)/\KK (.bl (q_ xf))
instance (r:Pol.R3):Decidable (zk r):=by unfold zk;infer_instance
def ka (t:Tr):Bool:=match qc t with|some r=>decide ((r.1≠0\/r.2.1≠0)/\zk r)|none=>false
def Mj:ym:=λts KK=>∃t,ts=[t]/\KK (.bl (ka t))
def nearF (n d:Int):Bool:=decide (-(12*d)<=n/\n<=12*d)
def Ml:ym:=λts KK=>∃fs:List (Int×Int),ts=[.tup (fs.map λf=>frT f.1 f.2)]/\fs.length<=1000/\(∀f∈fs,Bd f.2)/\KK (.bl (fs.all λf=>nearF f.1 f.2))
def kT (v:Pol.R3):Bool:=nearF (vf v.1 v.2.2) (uw v.1 v.2.2)&&nearF (vf v.2.1 v.2.2) (uw v.2.1 v.2.2)
def rowsOf:List Tr->Option (List Pol.R3)
 |[]=>some []
 |t::ts=>match qc t,rowsOf ts with|some r,some rs=>some (r::rs)|_,_=>none
def zY (xf:List Pol.R3):Bool:=decide (3<=xf.length/\xf.length<=8)&&(xf.all λr=>decide ((r.1≠0\/r.2.1≠0)/\zk r))&&q_ xf&&(pieces xf).all kT
def isField:Tr->Bool
 |.tup us=>match rowsOf us with|some xf=>zY xf|none=>false
 |_=>false
def Mi:ym:=λts KK=>∃t,ts=[t]/\KK (.bl (isField t))
def nN {α:Type}(ts:List α)(s:Nat):zL ts (some (s:Int)) none=ts.drop s:=by
 unfold zL;rw[HT.Ed,HT.pU];by_cases h:s<=ts.length
 .rw[Nat.min_eq_left h,ur (by rw[uO];lia)]
 .rw[Nat.min_eq_right (by lia),List.drop_eq_nil_of_le (xY _),List.drop_eq_nil_of_le (by lia)];simp
def nO {α:Type}(ts:List α)(s:Nat):zL ts none (some (s:Int))=ts.take s:=by
 unfold zL;rw[HT.Ed,HT.pU,dA,mJ];by_cases h:s<=ts.length
 .rw[Nat.min_eq_left h]
 .rw[Nat.min_eq_right (by lia),ur (xY _),ur (by lia)]
def nX {α:Type}{f:α->Tr}{l:List α}{i:Nat}{x:Tr}(h:(uG (l.map f))[i]?=some x):∃v,l[i]?=some v/\x=.tup [.int i,f v]:=by
 have hi:i<l.length:=by have:=(zP.mp h).1;unfold uG at this;rw[j_,xX] at this;exact this
 have e:(l.map f)[i]?=some (f l[i]):=by rw[uN,ze hi];rfl
 unfold uG at h;rw[rz e] at h;refine⟨l[i],ze hi,?_⟩;have:=qQ h;rw[<-this];simp
def nW {α:Type}(f:α->Tr)(l:List α):(uG (l.map f)).length=l.length:=by unfold uG;rw[j_,xX]
def GD {l:List Pol.R3}{i:Nat}{v:Pol.R3}(h:l[i]?=some v):∃u,u∈l/\(zp l)[i]?=some (u,v)/\atT (l.map xi) ((i:Int)-1)=some (xi u):=by
 obtain⟨u,hu,hc,hw⟩:=Hv h;refine⟨u,hu,hc,?_⟩;rcases hw with ⟨rfl,ys,e⟩|⟨h0,e⟩
 .rw[e,zR];exact Aj (ys.map xi) (xi u)
 .rw[show((i:Int)-1)=((i-1:Nat):Int) by lia,ff,uN,e];rfl
def IZ {Ls l:List Pol.R3}(g:Good Ls l){k:Nat}(hs:∀s∈Ls,yW k s):∀v∈l,yW (2*k+1) v:=λv hv=>by obtain⟨s,hs1,t,ht1,e1,e2,hn⟩:=g.two v hv;have z:=g.bot v hv;obtain⟨b1,b2,b3⟩:=AN (g.prim v hv) z e1 e2 hn;have S:=hs s hs1;have T:=hs t ht1;have m:∀ {x y z w:Int},Bk k x->Bk k y->Bk k z->Bk k w->Bk (2*k+1) (x*y-z*w):=λh1 h2 h3 h4=>((h1.mul h2).sub (h3.mul h4)).mono (by lia);refine⟨⟨(m S.2 T.1.2 T.2 S.1.2).le b2,(m T.2 S.1.1 S.2 T.1.1).le b3⟩,?_⟩;have:=m S.1.1 T.1.2 S.1.2 T.1.1;refine this.le ?_;unfold Pol.turn at b1;lia
def GU:∀s∈zG,yW 100 s:=λs hs=>by have h:s∈zG:=hs;simp only[zG,xR,yI,yJ] at h;unfold yW Bk;rcases h with rfl|rfl|rfl|rfl<;>simp only[yn]<;>decide
def qm.good {xf:List Pol.R3}(h:qm xf)(i:Nat):Good (zG++xf.take i) ((xf.take i).foldl wY box):=hJ (xf:=xf.take i) λs hs=>h.dir s (vN hs)
def qm.small {xf:List Pol.R3}(h:qm xf)(i:Nat):∀v∈(xf.take i).foldl wY box,yW 800 v/\0<v.2.2:=λv hv=>by
 have g:=h.good i;refine⟨(IZ g (k:=100) (λs hs=>?_) v hv).mono (by decide),g.bot v hv⟩;rcases xU.mp hs with z|z
 .exact GU s z
 .exact h.sm s (vN z)
def qm.plen {xf:List Pol.R3}(h:qm xf)(i:Nat):((xf.take i).foldl wY box).length<=100000:=by
 have:=Dh (xf:=xf.take i) λs hs=>h.dir s (vN hs);unfold pieces at this;have l:(xf.take i).length<=xf.length:=by rw[zQ];lia
 have:=h.len;lia
def rR {l:List Pol.R3}{v:Pol.R3}(h:v∈wV l):v∈l:=by
 unfold wV at h;rcases xU.mp h with h|h
 .exact FL h
 .exact vN h
def Gr (p:Pol.R3->Bool)(l:List Pol.R3):(wV l).all p=l.all p:=by unfold wV;rw[List.all_append,Bool.and_comm,<-List.all_append,mH]
def rM (l:List Pol.R3):(wV l).length=l.length:=by unfold wV;rw[za,uO,zQ];lia
def JW (a b c d:Int):HT.lexLt [a,b] [c,d]=decide (a<c\/a=c/\b<d):=by
 simp only[HT.lexLt];by_cases h:a<c
 .simp[h];lia
 .by_cases h2:a=c
  .subst h2;simp;lia
  .simp[h,h2]
def JT {α:Type}{l:List α}{n:Nat}(e:l.length=n)(h:n<=1000000:=by decide):l.length<sizeLine:=sqz (by lia)
def GN {i z:Int}(hz:0<z)(h:Bd z):Bd (uw i z):=by
 unfold uw;have g:(0:Int)<(Int.gcd i z:Int):=by have:=aE i (show z≠0 by lia);lia
 have h1:=Int.ediv_le_self (Int.gcd i z:Int) (show 0<=z by lia);have h2:=Int.ediv_nonneg (show 0<=z by lia) (show 0<=(Int.gcd i z:Int) by lia);unfold Bd at *
 lia
def tP {t:Tr}{r:Pol.R3}(h:qc t=some r):t=xi r:=by
 unfold qc at h;split at h
 .cases h;rfl
 .cases h
theorem pQ (xf:List Pol.R3):rowsOf (xf.map xi)=some xf:=by
 induction xf with
 |nil=>rfl
 |cons r xf ih=>show(match qc (xi r),rowsOf (xf.map xi) with|some r,some rs=>some (r::rs)|_,_=>none)=_;rw[ih];rfl
theorem tQ:∀ {us:List Tr} {xf:List Pol.R3},rowsOf us=some xf->us=xf.map xi
 |[],xf,h=>by cases h;rfl
 |t::us,xf,h=>by
  unfold rowsOf at h;cases e1:qc t with
  |none=>rw[e1] at h;cases h
  |some r=>
   cases e2:rowsOf us with
   |none=>rw[e1,e2] at h;cases h
   |some rs=>rw[e1,e2] at h;cases h;rw[tP e1,tQ e2];rfl
theorem NB {us:List Tr}(h:us.all ka=true):∃xf:List Pol.R3,us=xf.map xi/\∀r∈xf,(r.1≠0\/r.2.1≠0)/\zk r:=by
 induction us with
 |nil=>exact⟨[],rfl,λr hr=>by simp at hr⟩
 |cons t us ih=>
  rw[List.all_cons,dw] at h;obtain⟨xf,e,hr⟩:=ih h.2;have ht:=h.1;unfold ka at ht;cases e1:qc t with
  |none=>rw[e1] at ht;cases ht
  |some r=>
   rw[e1] at ht;have ht:=zr ht;refine⟨r::xf,by rw[tP e1,e];rfl,λx hx=>?_⟩;rcases xR.mp hx with z|z
   .rw[z];exact ht
   .exact hr x z
def BK {r:Pol.R3}(h:zk r):yW 100 r:=by obtain⟨⟨⟨a,b⟩,c,d⟩,e,f⟩:=h;refine⟨⟨?_,?_⟩,?_⟩<;>unfold Bk<;>lia
def Gs (xf:List Pol.R3):(xf.map xi).all ka=xf.all λr=>decide ((r.1≠0\/r.2.1≠0)/\zk r):=by rw[l5];rfl
theorem Jq {us:List Tr}(h:us.all ka=false):isField (.tup us)=false:=by
 show(match rowsOf us with|some xf=>zY xf|none=>false)=false;cases e:rowsOf us with
 |none=>rfl
 |some xf=>rw[tQ e,Gs] at h;show zY xf=false;unfold zY;rw[h];simp
end L2
namespace Fra
def gd (a b:Int):Int:=(Int.gcd a b:Int)
def low (n d:Int):Int×Int:=(n/gd n d,d/gd n d)
def BP (a b:Int):0<=gd a b:=lY _
def sE {a b:Int}(h:a≠0\/b≠0):0<gd a b:=by
 unfold gd;have:0<Int.gcd a b:=by
  rcases h with h|h
  .exact Int.gcd_pos_of_ne_zero_left _ h
  .exact aE _ h
 lia
def sD (a b:Int):gd a b∣a:=lU ..
def sF (a b:Int):gd a b∣b:=lV ..
def IW (a:Int):gd a 0=if a<0 then -a else a:=by unfold gd;rw[Int.gcd_zero_right];split<;>lia
def IT {a b c d:Int}(h:∀k:Int,(k∣a/\k∣b)↔(k∣c/\k∣d)):gd a b=gd c d:=by have e1:gd a b∣gd c d:=gG ((h _).mp ⟨sD a b,sF a b⟩).1 ((h _).mp ⟨sD a b,sF a b⟩).2;have e2:gd c d∣gd a b:=gG ((h _).mpr ⟨sD c d,sF c d⟩).1 ((h _).mpr ⟨sD c d,sF c d⟩).2;exact Fv (BP _ _) (BP _ _) e1 e2
def IV (a b q:Int):gd b (a-b*q)=gd a b:=by
 refine IT λk=>⟨λ⟨h1,h2⟩=>⟨?_,h1⟩,λ⟨h1,h2⟩=>⟨h2,?_⟩⟩
 .have:=Int.dvd_add h2 (Int.dvd_mul_of_dvd_left (c:=q) h1);rwa [Int.sub_add_cancel] at this
 .exact Int.dvd_sub h1 (Int.dvd_mul_of_dvd_left h2)
def IU (a b:Int):gd b (a.fmod b)=gd a b:=by rw[Int.fmod_def];exact IV a b _
def IE {a b:Int}(h:b≠0):(a.fmod b).natAbs<b.natAbs:=by
 by_cases hb:0<b
 .have h1:=Int.fmod_nonneg_of_pos a hb;have h2:=Int.fmod_lt_of_pos a hb;lia
 .have hn:0 < -b:=by lia
  have e:a.fmod b = - ((-a).fmod (-b)):=by rw[Int.neg_fmod_neg];lia
  have h1:=Int.fmod_nonneg_of_pos (-a) hn;have h2:=Int.fmod_lt_of_pos (-a) hn;lia
def Ct (n d:Int):(low n d).1*gd n d=n:=Int.ediv_mul_cancel (sD n d)
def bH (n d:Int):(low n d).2*gd n d=d:=Int.ediv_mul_cancel (sF n d)
def h9 (n d:Int):(low n d).1*d=n*(low n d).2:=by have h1:=Ct n d;have h2:=bH n d;grind
def vy {n d:Int}(h:0<d):0<(low n d).2:=by
 have h2:=bH n d;have g:=sE (a:=n) (b:=d) (.inr (by lia));generalize gd n d=k at *
 generalize (low n d).2=m at *
 by_cases hm:0<m
 .exact hm
 .have:m*k<=0:=O5 (by lia) (by lia);lia
def rN {n d:Int}(h:0<d):Int.gcd (low n d).1 (low n d).2=1:=by
 have g:=sE (a:=n) (b:=d) (.inr (by lia));unfold low gd at *
 exact Int.gcd_ediv_gcd_ediv_gcd (by lia)
def Bn {b a d:Int}(h:b∣a*d)(g:Int.gcd b a=1):b∣d:=by
 have h':b.natAbs∣a.natAbs*d.natAbs:=by rw[<-vK];exact Int.natAbs_dvd_natAbs.mpr h
 exact Int.natAbs_dvd_natAbs.mp (Nat.Coprime.dvd_of_dvd_mul_left (show Nat.Coprime b.natAbs a.natAbs from g) h')
def AM {a b c d:Int}(h1:Int.gcd a b=1)(h2:Int.gcd c d=1)(hb:0<b)(hd:0<d)(e:a*d=c*b):a=c/\b=d:=by
 have k1:b∣d:=by
  have:b∣a*d:=⟨c,by rw[e,gI]⟩
  exact Bn this (by rw[Int.gcd_comm];exact h1)
 have k2:d∣b:=by
  have:d∣c*b:=⟨a,by rw[<-e,gI]⟩
  exact Bn this (by rw[Int.gcd_comm];exact h2)
 have ebd:b=d:=Fv (by lia) (by lia) k1 k2;subst ebd;exact⟨gH (by lia) e,rfl⟩
def rP {n d n' d':Int}(h:0<d)(h':0<d')(e:n*d'=n'*d):low n d=low n' d':=by
 have c1:=rN (n:=n) h;have c2:=rN (n:=n') h';have p1:=vy (n:=n) h;have p2:=vy (n:=n') h';have x1:=h9 n d;have x2:=h9 n' d';have key:(low n d).1*(low n' d').2=(low n' d').1*(low n d).2:=by
  generalize (low n d).1=a at *
  generalize (low n d).2=b at *
  generalize (low n' d').1=c at *
  generalize (low n' d').2=f at *
  have:(a*f)*(d*d')=(c*b)*(d*d'):=by grind
  exact gH (by have:=jf h h';lia) this
 obtain⟨u,v⟩:=AM c1 c2 p1 p2 key;exact uu u v
def OS {a b x0 x1 y0 y1:Int}(hx:0<x1)(hy:0<y1) :
  low ((low (a*x0) x1).1*(low (b*y0) y1).2+(low (b*y0) y1).1*(low (a*x0) x1).2) ((low (a*x0) x1).2*(low (b*y0) y1).2)=low (a*x0*y1+b*y0*x1) (x1*y1):=by
 have p1:=vy (n:=a*x0) hx;have p2:=vy (n:=b*y0) hy;have e1:=h9 (a*x0) x1;have e2:=h9 (b*y0) y1;refine rP (jf p1 p2) (jf hx hy) ?_;generalize (low (a*x0) x1).1=p at *
 generalize (low (a*x0) x1).2=q at *
 generalize (low (b*y0) y1).1=r at *
 generalize (low (b*y0) y1).2=t at *
 grind
end Fra
namespace L2
open PySem PySem.Spec PyProof.Rows
abbrev F2:=Int×Int
abbrev P2:=F2×F2
def fT (f:F2):Tr:=frT f.1 f.2
def pT (p:P2):Tr:=.tup [fT p.1,fT p.2]
def lfr (t b:Int):F2:=if b<0 then Fra.low (-t) (-b) else Fra.low t b
def kR {t b:Int}(h:0<b):lfr t b=Fra.low t b:=by unfold lfr;rw[xG (by lia)]
def J1 {t b:Int}(h:b<0):lfr t b=Fra.low (-t) (-b):=by unfold lfr;rw[xD h]
def yE (v:Pol.R3):P2:=(Fra.low v.1 v.2.2,Fra.low v.2.1 v.2.2)
def dq (v:Pol.R3):yi v=pT (yE v):=rfl
def vt (r:Pol.R3)(p:P2):F2:=lfr (r.1*p.1.1*p.2.2+r.2.1*p.2.1*p.1.2) (p.1.2*p.2.2)
def kM (f g:F2):Bool:=decide (f.1*g.2<g.1*f.2)
def fmin (f g:F2):F2:=lfr (f.1*g.2-g.1*f.2) (f.2*g.2)
def wc (f g:F2):F2:=lfr (f.1*g.1) (f.2*g.2)
def qv (f g:F2):F2:=lfr (f.1*g.2+g.1*f.2) (f.2*g.2)
def rC (p q w:P2):Int:=(fmin (wc (fmin q.1 p.1) (fmin w.2 p.2)) (wc (fmin q.2 p.2) (fmin w.1 p.1))).1
def kL (r:Pol.R3)(p:P2):Bool:=decide ((vt r p).1<=r.2.2*(vt r p).2)
structure Fk (k:Nat)(f:F2):Prop where
 top:Bk k f.1
 bot:Bk k f.2
 pos:0<f.2
theorem Fk.mono {k m:Nat}{f:F2}(h:Fk k f)(hk:k<=m):Fk m f:=⟨h.top.mono hk,h.bot.mono hk,h.pos⟩
def rO {k:Nat}{t b:Int}(h:0<b)(ht:Bk k t)(hb:Bk k b):Fk k (Fra.low t b):=by
 have g:=Fra.sE (a:=t) (b:=b) (.inr (by lia));refine⟨ht.le ?_,hb.le ?_,Fra.vy h⟩
 .have e:=Fra.Ct t b;generalize (Fra.low t b).1=x at *
  generalize Fra.gd t b=y at *
  rw[<-e,vK];exact Nat.le_mul_of_pos_right _ (by lia)
 .have e:=Fra.bH t b;generalize (Fra.low t b).2=x at *
  generalize Fra.gd t b=y at *
  have:b.natAbs=x.natAbs*y.natAbs:=by rw[<-vK,e]
  rw[this];exact Nat.le_mul_of_pos_right _ (by lia)
def h8 {k:Nat}{t b:Int}(h:b≠0)(ht:Bk k t)(hb:Bk k b):Fk k (lfr t b):=by
 unfold lfr;split
 .exact rO (by lia) ht.neg hb.neg
 .exact rO (by lia) ht hb
structure Sd (f:F2)(N D:Int):Prop where
 pf:0<f.2
 pd:0<D
 e:f.1*D=N*f.2
def md {t b:Int}(h:0<b):Sd (Fra.low t b) t b:=⟨Fra.vy h,h,Fra.h9 t b⟩
def Oe {f:F2}(h:0<f.2):Sd f f.1 f.2:=⟨h,h,rfl⟩
theorem Sd.lfr {f:F2}{t b N D:Int}(hb:0<b)(hD:0<D)(e:t*D=N*b)(hf:f=L2.lfr t b):Sd f N D:=by
 subst hf;rw[kR hb];refine⟨Fra.vy hb,hD,?_⟩;have h:=Fra.h9 t b;generalize (Fra.low t b).1=x at *
 generalize (Fra.low t b).2=y at *
 have:(x*D)*b=(N*y)*b:=by grind
 exact gH (by lia) this
def Sd.minus {f g:F2}{N D M E:Int}(h:Sd f N D)(h':Sd g M E):Sd (fmin f g) (N*E-M*D) (D*E):=by refine Sd.lfr (Pol.pp h.pf h'.pf) (Pol.pp h.pd h'.pd) ?_ rfl;have:=h.e;have:=h'.e;grind
def Sd.times {f g:F2}{N D M E:Int}(h:Sd f N D)(h':Sd g M E):Sd (wc f g) (N*M) (D*E):=by refine Sd.lfr (Pol.pp h.pf h'.pf) (Pol.pp h.pd h'.pd) ?_ rfl;have:=h.e;have:=h'.e;grind
def sJ {a b k:Int}(hk:0<k):a*k<=b*k↔a<=b:=⟨λh=>Int.le_of_mul_le_mul_right h hk,λh=>qL h (by lia)⟩
def bK {a b k:Int}(hk:0<k):a*k<b*k↔a<b:=⟨λh=>Fx h (by lia),λh=>Fz h hk⟩
def CB {a b k:Int}(hk:0<k):a*k=b*k↔a=b:=⟨λh=>gH (by lia) h,λh=>by rw[h]⟩
def CC {a k:Int}(hk:0<k):a*k<0↔a<0:=by have:=bK (a:=a) (b:=0) hk;rwa [qh] at this
def Sd.le {f:F2}{N D:Int}(h:Sd f N D)(c:Int):f.1<=c*f.2↔N<=c*D:=by have e:=h.e;rw[<-sJ h.pd,e,show c*f.2*D=(c*D)*f.2 by grind,sJ h.pf]
def Sd.neg {f:F2}{N D:Int}(h:Sd f N D):f.1<0↔N<0:=by have e:=h.e;rw[<-CC h.pd,e,CC h.pf]
def Sd.lt {f g:F2}{N D M E:Int}(h:Sd f N D)(h':Sd g M E):f.1*g.2<g.1*f.2↔N*E<M*D:=by have e:=h.e;have e':=h'.e;rw[<-bK (Pol.pp h.pd h'.pd),show f.1*g.2*(D*E)=(N*E)*(f.2*g.2) by grind,show g.1*f.2*(D*E)=(M*D)*(f.2*g.2) by grind,bK (Pol.pp h.pf h'.pf)]
def Sd.eq {f g:F2}{N D M E:Int}(h:Sd f N D)(h':Sd g M E):f.1*g.2=g.1*f.2↔N*E=M*D:=by have e:=h.e;have e':=h'.e;rw[<-CB (Pol.pp h.pd h'.pd),show f.1*g.2*(D*E)=(N*E)*(f.2*g.2) by grind,show g.1*f.2*(D*E)=(M*D)*(f.2*g.2) by grind,CB (Pol.pp h.pf h'.pf)]
section
variable {p q v w:Pol.R3}
def sdx (h:0<v.2.2):Sd (yE v).1 v.1 v.2.2:=md h
def sdy (h:0<v.2.2):Sd (yE v).2 v.2.1 v.2.2:=md h
def IL (r:Pol.R3)(h:0<v.2.2):Sd (vt r (yE v)) (r.1*v.1+r.2.1*v.2.1) v.2.2:=by have a:=sdx h;have b:=sdy h;refine Sd.lfr (Pol.pp a.pf b.pf) h ?_ rfl;have:=a.e;have:=b.e;grind
def BF (r:Pol.R3)(h:0<v.2.2):kL r (yE v)=decide (Pol.val r v<=0):=by unfold kL;rw[jk,(IL r h).le];unfold Pol.val;lia
def Di (hp:0<p.2.2)(hq:0<q.2.2)(h:kG p q):yE p=yE q:=by unfold yE;rw[Fra.rP hp hq h.1,Fra.rP hp hq h.2]
def M9 (hp:0<p.2.2)(hq:0<q.2.2)(h:yE p=yE q):kG p q:=by have a:=(sdx hp).eq (sdx hq);have b:=(sdy hp).eq (sdy hq);rw[h] at a b;exact⟨a.mp rfl,b.mp rfl⟩
def pC (hp:0<p.2.2)(hq:0<q.2.2)(gp:yT p=1)(gq:yT q=1)(h:kG p q):p=q:=by
 have key:∀ {p q:Pol.R3},0<p.2.2->0<q.2.2->yT p=1->kG p q->p.2.2∣q.2.2:=λ {p q} hp hq gp h=>by
  have h1:p.2.2∣q.2.2*p.1:=⟨q.1,by have:=h.1;grind⟩
  have h2:p.2.2∣q.2.2*p.2.1:=⟨q.2.1,by have:=h.2;grind⟩
  have h3:p.2.2∣q.2.2*p.2.2:=Fw ..;have g12:p.2.2∣q.2.2*(Int.gcd p.1 p.2.1:Int):=by
   have:=gG h1 h2;rw[lW] at this;have h4:((q.2.2).natAbs*Int.gcd p.1 p.2.1:Nat)=((q.2.2*(Int.gcd p.1 p.2.1:Int)).natAbs:Nat):=by rw[vK];rfl
   rw[h4] at this;exact mC.mp this
  have g3:=gG g12 h3;rw[lW] at g3;have hg':Int.gcd (Int.gcd p.1 p.2.1:Int) p.2.2=1:=gp;rw[hg',Nat.mul_one] at g3;exact mC.mp g3
 have ez:p.2.2=q.2.2:=Fv (by lia) (by lia) (key hp hq gp h) (key hq hp gq ⟨h.1.symm,h.2.symm⟩);have h1:=h.1;have h2:=h.2;rw[ez] at h1 h2;exact ext3 (gH (by lia) h1) (gH (by lia) h2) ez
def sU {k:Nat}(h:0<v.2.2)(hb:yW k v):Fk k (yE v).1/\Fk k (yE v).2:=⟨rO h hb.1.1 hb.2,rO h hb.1.2 hb.2⟩
end
def Na (p:P2):pln (pT p)=true:=rfl
def aA (f g:F2):zC (fT f) (fT g)=decide (f=g):=by
 have e:zC (fT f) (fT g)=(decide (f.1=g.1)&&(decide (f.2=g.2)&&true)):=rfl;rw[e];by_cases h1:f.1=g.1
 .by_cases h2:f.2=g.2
  .simp[h1,h2,aM]
  .simp[h1,h2,aM]
 .simp[h1,aM]
def E8 (p q:P2):zC (pT p) (pT q)=decide (p=q):=by
 have e:zC (pT p) (pT q)=(zC (fT p.1) (fT q.1)&&(zC (fT p.2) (fT q.2)&&true)):=rfl;rw[e,aA,aA];by_cases h1:p.1=q.1
 .by_cases h2:p.2=q.2
  .simp[h1,h2,aM]
  .simp[h1,h2,aM]
 .simp[h1,aM]
def Gv (l:List P2)(c:P2):((l.map pT).any λu=>zC u (pT c))=decide (c∈l):=by
 rw[lO,aH,gT];constructor
 .rintro⟨u,hu,h⟩;obtain⟨x,hx,rfl⟩:=wN.mp hu;rw[E8,gT] at h;subst h;exact hx
 .intro h;exact⟨pT c,gO h,by rw[E8];simp⟩
def aW {α:Type}{dg:DG}{dc:DT}{de:DE}{τi:xQ}{KK:List Tr->Prop}{f:α->Tr}{l:List α}(p:α->Bool)(g:α->Tr)
  (h1:∀a∈l,∀(N:Tr->Prop) (M:Prop),(p a=true->N (g a))->(p a=false->M)->dg (f a) τi λτ2=>dc τ2 λb=>if b=true then de τ2 N else M) (h0:KK ((l.filter p).map g)):kI dg dc de τi KK (l.map f) []:=by
 refine aX (λys acc=>∃zs us,l=zs++us/\ys=us.map f/\acc=(zs.filter p).map g) (λacc ⟨zs,us,e,ey,e2⟩=>?_) (λx ys acc N ⟨zs,us,e,ey,e2⟩ hN=>?_) _ [] ⟨[],l,rfl,rfl,rfl⟩
 .cases us with
  |nil=>rw[ub] at e;subst e e2;exact h0
  |cons u us=>cases ey
 .cases us with
  |nil=>cases ey
  |cons u us=>
   injection ey with ex ey;subst ex ey e2;have hu:u∈l:=by rw[e];simp
   refine h1 u hu (λy=>N ((zs.filter p).map g++[y])) (N ((zs.filter p).map g)) (λhp=>hN _ ⟨zs++[u],us,by rw[e];simp,rfl,?_⟩) (λhp=>hN _ ⟨zs++[u],us,by rw[e];simp,rfl,?_⟩)
   .rw[List.filter_append,ia hp];simp
   .rw[List.filter_append,FC (by rw[hp];exact uM)];simp
def OC (xs:List Tr):zC (.lst xs) (.lst [])=xs.isEmpty:=by cases xs<;>rfl
def Ii {xs:List Tr}(h:PyData.canLayAll0 (wL xs)=true):gY (.lst xs) (.lst []):=⟨h,rfl,qj (iz _ _) (by decide)⟩
def Ir {neg:Bool}{xs:List Tr}{KK:Tr->Prop}(h:PyData.canLayAll0 (wL xs)=true)(k:KK (.bl (if neg then !xs.isEmpty else xs.isEmpty))):sA neg (.lst xs) (.lst []) KK:=⟨Ii h,by rw[OC];exact k⟩
theorem filter_empty {α:Type}(p:α->Bool)(l:List α):(l.filter p).isEmpty=l.all λx=>!p x:=by
 induction l with
 |nil=>rfl
 |cons x l ih=>
  by_cases h:p x=true
  .rw[ia h,List.all_cons,h];rfl
  .rw[FC h,ih,List.all_cons];have:p x=false:=by simpa using h
   rw[this];rfl
def My:ym:=λts KK=>∃t b:Int,ts=[.int t,.int b]/\b≠0/\Bd b/\KK (fT (lfr t b))
def nK (s t:Pol.R3):Tr:=if Pol.turn s t=0 then .non else yi (zj s t)
def Ms:ym:=λts KK=>∃s t:Pol.R3,ts=[xi s,xi t]/\yW 900 s/\yW 900 t/\KK (nK s t)
def MG:ym:=λts KK=>∃(r:Pol.R3) (p:P2),ts=[xi r,pT p]/\yW 200 r/\Fk 600 p.1/\Fk 600 p.2/\KK (fT (vt r p))
def Mx:ym:=λts KK=>∃f g:F2,ts=[fT f,fT g]/\Fk 1000 f/\Fk 1000 g/\KK (.bl (kM f g))
def Mz:ym:=λts KK=>∃f g:F2,ts=[fT f,fT g]/\Fk 900 f/\Fk 900 g/\KK (fT (fmin f g))
def MB:ym:=λts KK=>∃f g:F2,ts=[fT f,fT g]/\Fk 900 f/\Fk 900 g/\KK (fT (qv f g))
def MF:ym:=λts KK=>∃f g:F2,ts=[fT f,fT g]/\Fk 900 f/\Fk 900 g/\KK (fT (wc f g))
def Pk (k:Nat)(p:P2):Prop:=Fk k p.1/\Fk k p.2
def Mr:ym:=λts KK=>∃p q w:P2,ts=[pT p,pT q,pT w]/\Pk 200 p/\Pk 200 q/\Pk 200 w/\KK (.int (rC p q w))
structure mV (n:Nat)(l:List Pol.R3):Prop where
 ccw:Ccw l
 pos:∀v∈l,0<v.2.2
 prim:∀v∈l,yT v=1
 sm:∀v∈l,yW 190 v
 least:aS l
 len:l.length<=n
abbrev g9:=mV 900
def MC:ym:=λts KK=>∃ps l:List Pol.R3,ts=[.lst (ps.map yi)]/\(∀v,v∈ps↔v∈l)/\ps.length<=1000/\g9 l/\KK (.lst (l.map yi))
structure qk (xf:List Pol.R3):Prop where
 fine:j4 xf xf
 len:xf.length<=8
def uv (xf:List Pol.R3):List Pol.R3:=wV (pieces xf)
def Mq:ym:=λts KK=>∃xf:List Pol.R3,ts=[.tup (xf.map xi)]/\qk xf/\KK (.lst ((uv xf).map yi))
def J2 {t b:Int}(h:b≠0):0<(lfr t b).2:=by
 unfold lfr;split
 .exact Fra.vy (by lia)
 .exact Fra.vy (by lia)
def Fk.min {k:Nat}{f g:F2}(h:Fk k f)(h':Fk k g):Fk (2*k+1) (fmin f g):=by
 unfold fmin;refine h8 (by have:=Pol.pp h.pos h'.pos;lia) ?_ ?_
 .exact((h.top.mul h'.bot).sub (h'.top.mul h.bot)).mono (by lia)
 .exact(h.bot.mul h'.bot).mono (by lia)
def Fk.tim {k:Nat}{f g:F2}(h:Fk k f)(h':Fk k g):Fk (2*k) (wc f g):=by
 unfold wc;refine h8 (by have:=Pol.pp h.pos h'.pos;lia) ?_ ?_
 .exact(h.top.mul h'.top).mono (by lia)
 .exact(h.bot.mul h'.bot).mono (by lia)
def Ac (p q:Pol.R3):ahead p q=true↔Ah p q:=by unfold ahead Ah;exact mK
theorem bG (l:List Pol.R3)(hl:l≠[]):∀n,n<=l.length->(List.range n).foldl (wu l) 0<l.length
 |0,_=>by simp;exact FH.mpr hl
 |n+1,h=>by rw[List.range_succ,jO];have ih:=bG l hl n (by lia);generalize (List.range n).foldl (wu l) 0=m at ih ⊢;show wu l m n<_;unfold wu;split<;>lia
theorem Co (l:List Pol.R3)(hp:∀v∈l,0<v.2.2)(hl:l≠[]):∀n,n<=l.length->∀j,j<n->¬Ah (l.getD j (0,0,0)) (l.getD ((List.range n).foldl (wu l) 0) (0,0,0))
 |0,_=>λj hj=>by lia
 |n+1,h=>λj hj=>by
  rw[List.range_succ,jO];have ih:=Co l hp hl n (by lia);have s:=bG l hl n (by lia);have g:∀i,i<l.length->0<(l.getD i (0,0,0)).2.2:=λi hi=>by rw[mF,ze hi];exact hp _ (ie hi)
  generalize (List.range n).foldl (wu l) 0=m at ih s ⊢;show ¬Ah _ (l.getD (wu l m n) (0,0,0));by_cases c:ahead (l.getD n (0,0,0)) (l.getD m (0,0,0))=true
  .have e:wu l m n=n:=by unfold wu;rw[xD c]
   rw[e];have c:=(Ac _ _).mp c;by_cases hjn:j=n
   .rw[hjn];exact Ah.irrefl _
   .intro z;exact ih j (by lia) (z.trans (g j (by lia)) (g n (by lia)) (g m s) c)
  .have e:wu l m n=m:=by unfold wu;rw[xG c]
   rw[e];by_cases hjn:j=n
   .rw[hjn];exact λz=>c ((Ac _ _).mpr z)
   .exact ih j (by lia)
def II {l:List Pol.R3}(hp:∀v∈l,0<v.2.2):aS (wV l):=by
 intro h t e v hv;have hl:l≠[]:=λz=>by rw[z] at e;unfold wV at e;simp at e
 have s:=bG l hl l.length (xY _);have ok:=Co l hp hl l.length (xY _);have hh:h=l.getD (kQ l) (0,0,0):=by unfold wV at e;rw[aI (show kQ l<l.length from s),gM] at e;injection e with e1 e2;rw[<-e1,mF,ze (show kQ l<l.length from s)];rfl
 have hv:=rR hv;obtain⟨j,hj,rfl⟩:=jP.mp hv;have:=ok j hj;rw[hh];rw[mF,ze hj] at this;exact this
def J8 {l:List Pol.R3}{v:Pol.R3}:v∈wV l↔v∈l:=by unfold wV;rw[xU,Or.comm,<-xU,mH]
def IH {l:List Pol.R3}(h:Ccw l):Ccw (wV l):=by unfold wV;apply Ccw.rot;rw[mH];exact h
def rE {r:Pol.R3}(h:zk r):yW 10 r:=by obtain⟨⟨⟨a,b⟩,c,d⟩,e,f⟩:=h;refine⟨⟨?_,?_⟩,?_⟩<;>unfold Bk<;>lia
theorem qk.corner {xf:List Pol.R3}(h:qk xf){v:Pol.R3}(hv:v∈uv xf):(0<v.2.2/\yT v=1/\IsC xf v)/\yW 21 v:=by have hv:v∈pieces xf:=rR hv;have c:=h.fine.corner hv;refine⟨c,?_⟩;obtain⟨hz,g,⟨_,s,hs,t,ht,e1,e2,hn⟩⟩:=c;obtain⟨b1,b2,b3⟩:=AN g hz e1 e2 hn;have S:=rE (h.fine.fr s hs);have T:=rE (h.fine.fr t ht);have m:∀ {x y z w:Int},Bk 10 x->Bk 10 y->Bk 10 z->Bk 10 w->Bk 21 (x*y-z*w):=λh1 h2 h3 h4=>(h1.mul h2).sub (h3.mul h4);refine⟨⟨(m S.2 T.1.2 T.2 S.1.2).le b2,(m T.2 S.1.1 S.2 T.1.1).le b3⟩,?_⟩;refine(m S.1.1 T.1.2 S.1.2 T.1.1).le ?_;unfold Pol.turn at b1;lia
def qk.ring {xf:List Pol.R3}(h:qk xf):g9 (uv xf) where
 ccw:=IH (hJ h.fine.dir).ccw
 pos:=λv hv=>(h.corner hv).1.1
 prim:=λv hv=>(h.corner hv).1.2.1
 sm:=λv hv=>(h.corner hv).2.mono (by decide)
 least:=II (hJ h.fine.dir).bot
 len:=by unfold uv;rw[rM];have:=Dh h.fine.dir;have:=h.len;lia
def qk.crossing {xf:List Pol.R3}(h:qk xf){s t:Pol.R3}(hs:s∈xf)(ht:t∈xf)(hn:Pol.turn s t≠0)(hk:∀r∈xf,Pol.val r (zj s t)<=0):∃v∈uv xf,yi (zj s t)=yi v:=by obtain⟨z,e1,e2⟩:=fh hn;obtain⟨v,hv,sm⟩:=h.fine.found z ⟨hk,s,hs,t,ht,e1,e2,hn⟩;refine⟨v,J8.mpr hv,?_⟩;rw[dq,dq,Di z (h.fine.corner hv).1 ⟨sm.1.symm,sm.2.symm⟩]
def qk.tightPt {xf:List Pol.R3}(h:qk xf){s t v:Pol.R3}(hv:v∈uv xf)(hn:Pol.turn s t≠0)(h1:Pol.val s v=0)(h2:Pol.val t v=0):yi (zj s t)=yi v/\∀r∈xf,Pol.val r (zj s t)<=0:=by
 obtain⟨⟨hz,_,hc⟩,_⟩:=h.corner hv;obtain⟨z,e1,e2⟩:=fh hn;have sm:=Hq hn h1 h2;refine⟨by rw[dq,dq,Di z hz sm],λr hr=>?_⟩;have k:=hc.kept r hr;have e:Pol.val r (zj s t)*v.2.2=Pol.val r v*(zj s t).2.2:=by have a:=sm.1;have b:=sm.2;unfold Pol.val;grind
 have:Pol.val r (zj s t)*v.2.2<=0:=by rw[e];exact np k (by lia)
 rcases zy 0 (Pol.val r (zj s t)) with q|q
 .have:=Pol.pp q hz;lia
 .exact q
def E_ {p q:Pol.R3}(hp:0<p.2.2)(hq:0<q.2.2)(gp:yT p=1)(gq:yT q=1)(h:yE p=yE q):p=q:=pC hp hq gp gq (M9 hp hq h)
def Ho {s t:Pol.R3}(h:Pol.turn s t≠0):yi (zj s t)=pT (lfr (s.2.2*t.2.1-s.2.1*t.2.2) (Pol.turn s t),lfr (s.1*t.2.2-s.2.2*t.1) (Pol.turn s t)):=by rw[dq];congr 1;unfold zj lfr yE;split<;>rfl
def AQ {s t:Pol.R3}(h:Pol.turn s t=0):nK s t=.non:=xD h
def AR {s t:Pol.R3}(h:Pol.turn s t≠0):nK s t=yi (zj s t):=xG h
def JU {p q:Pol.R3}(hp:0<p.2.2)(hq:0<q.2.2):kM (yE p).1 (yE q).1=true↔p.1*q.2.2<q.1*p.2.2:=by unfold kM;rw[mK];exact(sdx hp).lt (sdx hq)
def JV {p q:Pol.R3}(hp:0<p.2.2)(hq:0<q.2.2):kM (yE p).2 (yE q).2=true↔p.2.1*q.2.2<q.2.1*p.2.2:=by unfold kM;rw[mK];exact(sdy hp).lt (sdy hq)
def Ie {p q:Pol.R3}(hp:0<p.2.2)(hq:0<q.2.2):(yE p).1=(yE q).1↔p.1*q.2.2=q.1*p.2.2:=⟨λe=>((sdx hp).eq (sdx hq)).mp (by rw[e]),λe=>Fra.rP hp hq e⟩
theorem Jb {m:Nat}{l ss:List Pol.R3}(hr:mV m l)(hm:∀v,v∈ss↔v∈l)(hl:aS ss):ss.head?=l.head?:=by
 cases ss with
 |nil=>
  cases l with
  |nil=>rfl
  |cons a t=>exact absurd ((hm a).mpr xS) (by simp)
 |cons b u=>
  cases l with
  |nil=>exact absurd ((hm b).mp xS) (by simp)
  |cons a t=>have hb:=(hm b).mp xS;have ha:=(hm a).mpr xS;have h1:=hr.least a t rfl b hb;have h2:=hl b u rfl a ha;have:=pC (hr.pos b hb) (hr.pos a xS) (hr.prim b hb) (hr.prim a xS) (Ah.total h1 h2);rw[this];rfl
def Ny {m:Nat}{l ss:List Pol.R3}(hr:mV m l)(nd:ss.Nodup)(hm:∀v,v∈ss↔v∈l)(hl:aS ss)(h3:ss.length<3):ss=l:=by
 have hh:=Jb hr hm hl;have len:=Cq nd hr.ccw.nd hm;rcases ss with _|⟨a,_|⟨b,_|⟨e,t⟩⟩⟩
 .rcases l with _|⟨c,u⟩
  .rfl
  .cases len
 .rcases l with _|⟨c,_|⟨d,u⟩⟩
  .cases len
  .simpa using hh
  .cases len
 .rcases l with _|⟨c,_|⟨d,_|⟨g,u⟩⟩⟩
  .cases len
  .cases len
  .have e:a=c:=by simpa using hh
   subst e;have hb:=(hm b).mp (by simp);have:b≠a:=λz=>by subst z;simp at nd
   simp[this] at hb;rw[hb]
  .cases len
 .exact absurd h3 (by simp)
def BA {f g:F2}(h:fT f=fT g):f=g:=by have e:=aA f g;unfold fT frT at h;injection h with h;injection h with h1 h;injection h with h2 h;injection h1 with h1;injection h2 with h2;exact uu h1 h2
def MN {p q:P2}(h:pT p=pT q):p=q:=by unfold pT at h;injection h with h;injection h with h1 h;injection h with h2 h;exact uu (BA h1) (BA h2)
def OD (l:List Pol.R3):l.map yi=(l.map yE).map pT:=by rw[uP];rfl
def Ad {l:List Pol.R3}(hp:∀v∈l,0<v.2.2)(hg:∀v∈l,yT v=1){ss:List Pol.R3}(hs:∀v∈ss,v∈l){p:Pol.R3}(h:p∈l):((ss.map yi).any λu=>zC u (yi p))=decide (p∈ss):=by
 rw[OD,dq,Gv,jk];constructor
 .intro z;obtain⟨y,hy,e⟩:=wN.mp z;rw[<-E_ (hp y (hs y hy)) (hp p h) (hg y (hs y hy)) (hg p h) e];exact hy
 .intro z;exact gO z
def Ax (l:List Pol.R3):PyData.canLayAll0 (wL (l.map yi))=true:=aZ yi (λv=>Na (yE v)) l
def yl {A B:DS}{G:qo}{τ:xQ}(P:xQ->Prop)(hB:∀ τ',P τ'->B G τ')(hA:∀N:xQ->Prop,(∀ τ',P τ'->N τ')->A {G with nx:=N} τ):ja A B G τ:=hA (B G) hB
def kA {di:DI}{dg:DG}{body:DS}{G:qo}{τ:xQ}(all:List Tr)(W:Nat->xQ->Prop)(hd:∀KK:List Tr->Prop,KK all->di τ KK)(w0:W 0 τ)
  (h1:∀i x τ (N:xQ->Prop),all[i]?=some x->W i τ->(∀ τ',W (i+1) τ'->N τ')->dg x τ λτ'=>body {G with nx:=N,ct:=N,bk:=G.nx} τ')
  (h0:∀ τ,W all.length τ->G.nx τ):pR di dg body G τ:=hd _ (vT W w0 h1 h0)
def fg {i:Int}(h:-1000000<=i/\i<=1000000):Bd i:=nu (by lia) (by lia)
def uf {i j:Int}(h:-1000000<=i/\i<=1000000)(h':-1000000<=j/\j<=1000000):CM i j:=⟨fg h,fg h'⟩
def tk {m:Int}(h:0<m/\m<1000000):0<m/\m<2^128:=⟨h.1,by lia⟩
structure LF0 (xf:List Pol.R3):Prop where
 l3:3<=xf.length
 l8:xf.length<=8
 sm:∀r∈xf,((-14<=r.1/\r.1<=14)/\(-14<=r.2.1/\r.2.1<=14))/\(-100<=r.2.2/\r.2.2<=100)
 dir:∀r∈xf,r.1≠0\/r.2.1≠0
 gr:GR xf
 near:∀p:Pol.R3,0<p.2.2->(∀r∈xf,Pol.val r p<=0)->(-(9*p.2.2)<=p.1/\p.1<=9*p.2.2)/\(-(9*p.2.2)<=p.2.1/\p.2.1<=9*p.2.2)
structure LF (xf:List Pol.R3):Prop where
 l3:3<=xf.length
 l8:xf.length<=8
 sm:∀r∈xf,((-14<=r.1/\r.1<=14)/\(-14<=r.2.1/\r.2.1<=14))/\(-200<=r.2.2/\r.2.2<=200)
 dir:∀r∈xf,r.1≠0\/r.2.1≠0
 gr:GR xf
 near:∀p:Pol.R3,0<p.2.2->(∀r∈xf,Pol.val r p<=0)->(-(12*p.2.2)<=p.1/\p.1<=12*p.2.2)/\(-(12*p.2.2)<=p.2.1/\p.2.1<=12*p.2.2)
def Mt:ym:=λts KK=>ts=[]/\∀xf,LF xf->KK (.tup (xf.map xi))
def vY (u v:Int)(r:Pol.R3):Pol.R3:=(r.1,r.2.1,r.2.2+r.1*u+r.2.1*v)
def jy {a b m n:Int}(h1:-m<=a)(h2:a<=m)(h3:-n<=b)(h4:b<=n)(hm:0<=m)(hn:0<=n):-(m*n)<=a*b/\a*b<=m*n:=by
 have key:(a*b).natAbs<=(m*n).natAbs:=by rw[vK,vK];exact Nat.mul_le_mul (by lia) (by lia)
 have:=pz hm hn;lia
def LF0.moved {xf:List Pol.R3}(h:LF0 xf){u v:Int}(hu:-3<=u/\u<=3)(hv:-3<=v/\v<=3):LF (xf.map (vY u v)) where
 l3:=by rw[xX];exact h.l3
 l8:=by rw[xX];exact h.l8
 sm:=λr hr=>by obtain⟨s,hs,rfl⟩:=wN.mp hr;obtain⟨⟨⟨a1,a2⟩,b1,b2⟩,c1,c2⟩:=h.sm s hs;have x:=jy a1 a2 hu.1 hu.2 (by decide) (by decide);have y:=jy b1 b2 hv.1 hv.2 (by decide) (by decide);simp only[vY];lia
 dir:=λr hr=>by obtain⟨s,hs,rfl⟩:=wN.mp hr;exact h.dir s hs
 gr:=λx y hn=>by obtain⟨r,hr,p⟩:=h.gr x y hn;exact⟨vY u v r,gO hr,p⟩
 near:=λp hz hk=>by
  have:=h.near (p.1-u*p.2.2,p.2.1-v*p.2.2,p.2.2) hz λr hr=>by
   have:=hk _ (gO hr);have e:Pol.val r (p.1-u*p.2.2,p.2.1-v*p.2.2,p.2.2)=Pol.val (vY u v r) p:=by simp only[Pol.val,vY];grind
   rw[e];exact this
  simp only at this;have x:=qL hu.1 (show 0<=p.2.2 by lia);have x':=qL hu.2 (show 0<=p.2.2 by lia);have y:=qL hv.1 (show 0<=p.2.2 by lia);have y':=qL hv.2 (show 0<=p.2.2 by lia);lia
def LF.frow {xf:List Pol.R3}(h:LF xf):∀r∈xf,zk r:=λr hr=>by have:=h.sm r hr;unfold zk;lia
def LF.fine {xf:List Pol.R3}(h:LF xf):qk xf:=⟨⟨λ {p} hz hp s hs=>by have:=h.near p hz hp;simp only[zG,xR,yI,yJ] at hs;rcases hs with rfl|rfl|rfl|rfl<;>simp only[Pol.val,yn]<;>lia,h.frow,λ_ h=>h,h.dir⟩,h.l8⟩
def CD {n d:Int}(hd:0<d):nearF (vf n d) (uw n d)=true↔-(12*d)<=n/\n<=12*d:=by
 have s:=md (t:=n) (b:=d) hd;unfold nearF;rw[mK];have h1:=s.le 12;have h2:-(12*uw n d)<=vf n d↔-(12*d)<=n:=by have e:=s.e;have p:=s.pf;show -(12*(Fra.low n d).2)<=(Fra.low n d).1↔_;rw[<-sJ hd,e,show -(12*(Fra.low n d).2)*d=(-(12*d))*(Fra.low n d).2 by grind,sJ p]
 have h3:vf n d<=12*uw n d↔n<=12*d:=h1;rw[h2,h3]
def Kd {v:Pol.R3}(hz:0<v.2.2):kT v=true↔(-(12*v.2.2)<=v.1/\v.1<=12*v.2.2)/\(-(12*v.2.2)<=v.2.1/\v.2.1<=12*v.2.2):=by unfold kT;rw[dw,CD hz,CD hz]
def LF.field {xf:List Pol.R3}(h:LF xf):isField (.tup (xf.map xi))=true:=by
 show(match rowsOf (xf.map xi) with|some xf=>zY xf|none=>false)=true;rw[pQ];show zY xf=true;unfold zY;rw[wO ⟨h.l3,h.l8⟩,Nm h.dir (I_ h.gr) (Ja h.dir h.gr)];have e1:(xf.all λr=>decide ((r.1≠0\/r.2.1≠0)/\zk r))=true:=by rw[jN];intro r hr;exact wO ⟨h.dir r hr,h.frow r hr⟩
 have e2:(pieces xf).all kT=true:=by rw[jN];intro v hv;obtain⟨hz,_,hc⟩:=h.fine.fine.corner hv;exact(Kd hz).mpr (h.near v hz hc.kept)
 rw[e1,e2];rfl
def rp {b c x z:Int}(hb:1<=b)(hc:c<=5*b)(hz:0<z)(h:b*x<=c*z):x<=5*z:=by
 have h1:c*z<=5*b*z:=qL hc (by lia);have h2:b*x<=b*(5*z):=by
  have:b*(5*z)=5*b*z:=by grind
  lia
 exact Int.le_of_mul_le_mul_left h2 (by lia)
def Extra (r:Pol.R3):Prop:=(((-6<=r.1/\r.1<=6)/\(-6<=r.2.1/\r.2.1<=6))/\(-40<=r.2.2/\r.2.2<=40))/\(r.1≠0\/r.2.1≠0)
def dT (d:Int×Int):Tr:=.tup [.int d.1,.int d.2]
def Drawn (d:Int×Int)(y:Tr):Prop:=∃c:Int,(0<=c/\c<8)/\y=.tup [.int d.1,.int d.2,.int c]
def Ou {k:Int}(h1:1<=k)(h7:k<=7):LF0 [(-1,0,0),(1,-2*k,0),(1,2*k,2*k)]:=by
 refine⟨by simp,by simp,λr hr=>?_,λr hr=>?_,λu v hn=>?_,λp hz hk=>?_⟩
 .simp only[xR,yI,yJ] at hr;rcases hr with rfl|rfl|rfl<;>simp only<;>lia
 .simp only[xR,yI,yJ] at hr;rcases hr with rfl|rfl|rfl<;>simp only<;>lia
 .rcases zy u 0 with c|c
  .exact⟨_,xS,by simp only;lia⟩
  .rcases jd v 0 with d|d|d
   .refine⟨(1,-2*k,0),by simp,?_⟩;simp only;have:=jf (show 0<k by lia) (show 0 < -v by lia);grind
   .refine⟨(1,2*k,2*k),by simp,?_⟩;simp only;subst d;lia
   .refine⟨(1,2*k,2*k),by simp,?_⟩;simp only;have:=jf (show 0<k by lia) d;grind
 .have k1:=hk (-1,0,0) (by simp);have k2:=hk (1,-2*k,0) (by simp);have k3:=hk (1,2*k,2*k) (by simp);simp only[Pol.val] at k1 k2 k3;have e2:p.1<=2*(k*p.2.1):=by grind
  have e3:p.1+2*(k*p.2.1)<=2*(k*p.2.2):=by grind
  have kz:k*p.2.2<=7*p.2.2:=qL h7 (by lia);have y0:0<=p.2.1:=h_ (show 0<k by lia) (by lia);have y1:p.2.1<=p.2.2:=by
   have:k*p.2.1<=k*p.2.2:=by lia
   exact Int.le_of_mul_le_mul_left this (by lia)
  lia
def n8 {ts:List Tr}{r:Int}{KK:Tr->Prop}(h0:0<=r)(h1:r<ts.length)(h:∀t∈ts,KK t):uT (atT ts r) KK:=by
 rw[GG h0];have hl:r.toNat<ts.length:=by lia
 rw[ze hl];exact h _ (ie hl)
def Cp {α:Type}(ts:List α)(lo hi:Option Int):(zL ts lo hi).length<=ts.length:=by unfold zL;rw[zQ,uO];lia
def B7 {xf:List Pol.R3}:isField (.tup (xf.map xi))=zY xf:=by show(match rowsOf (xf.map xi) with|some xf=>zY xf|none=>false)=_;rw[pQ]
def DD (K:xo)(x:Str)(st:Stmt):Prop:=∃f fd,PySem.W.nsIn K mainGlobals x=some (some (.ref f))/\Fun K x x st f fd
def dd {K:xo}{x:Str}{st:Stmt}{f:Addr}{oc:Value}{od an:Option Addr}{sl:Array (Option Value)}{kV dc pm cd ct:Value}(a:PySem.W.nsIn K mainGlobals x=some (some (.ref f)))
  (l:K.lookup f=some ⟨oc,od,.func (PySem.W.fnOf x x (vS st) (ug st) (xH st) .none kV dc pm an cd ct),sl⟩) (c:PySem.W.codeIn K cd x=true) (k:PySem.W.keepIn K (.ref f)=true):DD K x st:=⟨f,_,a,BL l c k⟩
def zK {K:xo}{x qual:Str}(p1:Str){st:Stmt}{f:Addr}{fd:FuncData}(F:Fun K x qual st f fd)(h:∀(kV doc pm:Value) (an:Option Addr) (cdv ct u1:Value),bindArgs (PySem.W.fnOf x qual (vS st) (ug st) (xH st) .none kV doc pm an cdv ct) ⟨[u1],[]⟩=pure [(p1,u1)]:=by intros;rfl):Binds K fd [p1] []:=F.binds λa b c d e g us hl=>match us,hl with|[u1],_=>h a b c d e g u1
def zI {K:xo}{x qual:Str}(p1 p2:Str){st:Stmt}{f:Addr}{fd:FuncData}(F:Fun K x qual st f fd)(h:∀(kV doc pm:Value) (an:Option Addr) (cdv ct u1 u2:Value),bindArgs (PySem.W.fnOf x qual (vS st) (ug st) (xH st) .none kV doc pm an cdv ct) ⟨[u1,u2],[]⟩=pure [(p1,u1),(p2,u2)]:=by intros;rfl):Binds K fd [p1,p2] []:=F.binds λa b c d e g us hl=>match us,hl with|[u1,u2],_=>h a b c d e g u1 u2
def dU {K:xo}{x qual:Str}(p1 p2 p3:Str){st:Stmt}{f:Addr}{fd:FuncData}(F:Fun K x qual st f fd)(h:∀(kV doc pm:Value) (an:Option Addr) (cdv ct u1 u2 u3:Value),bindArgs (PySem.W.fnOf x qual (vS st) (ug st) (xH st) .none kV doc pm an cdv ct) ⟨[u1,u2,u3],[]⟩=pure [(p1,u1),(p2,u2),(p3,u3)]:=by intros;rfl):Binds K fd [p1,p2,p3] []:=F.binds λa b c d e g us hl=>match us,hl with|[u1,u2,u3],_=>h a b c d e g u1 u2 u3
def sC (w:Int)(f:F2):F2:=Fra.low (w*f.1) f.2
def IJ (r:Pol.R3)(p:P2):Bool:=decide ((vt r p).1=r.2.2*(vt r p).2)
def MI:ym:=λts KK=>∃t,ts=[t]/\isField t=true/\KK .non
def brk (v:Pol.R3):Bool:=!decide ((yE v).1.2=1) || !decide ((yE v).2.2=1)
def hZ {xf:List Pol.R3}(h:zY xf=true):(3<=xf.length/\xf.length<=8)/\(∀r∈xf,(r.1≠0\/r.2.1≠0)/\zk r)/\q_ xf=true/\∀v∈pieces xf,kT v=true:=by unfold zY at h;simp only[dw,gT,jN] at h;exact⟨h.1.1.1,h.1.1.2,h.1.2,h.2⟩
def LF.isf {xf:List Pol.R3}(h:LF xf):zY xf=true:=by rw[<-B7];exact h.field
def IP {a b:Int}{p:P2}(hx:0<p.1.2)(hy:0<p.2.2):qv (sC a p.1) (sC b p.2)=vt (a,b,0) p:=by unfold qv sC vt;rw[kR (Pol.pp (Fra.vy hx) (Fra.vy hy)),kR (Pol.pp hx hy)];exact Fra.OS hx hy
def IK {k m n:Nat}{a b c:Int}{p:P2}(ha:Bk k a)(hb:Bk k b)(hp:Pk m p)(h:k+m+m+1<=n):Fk n (vt (a,b,c) p):=by unfold vt;exact h8 (k:=n) (by have:=Pol.pp hp.1.pos hp.2.pos;lia) (((ha.mul hp.1.top |>.mul hp.2.bot).add (hb.mul hp.2.top |>.mul hp.1.bot)).mono h) ((hp.1.bot.mul hp.2.bot).mono (by lia))
def Om (xj:List Value):slicePick xj.toArray none none (some (-1))=xj.reverse.toArray:=by
 unfold slicePick sliceBounds;simp only[FQ,show ¬((-1:Int)>0) by decide,jl,zh];unfold sliceRange;simp only[show ¬((-1:Int)>0) by decide,jl];congr 1;have key:∀l:List Value,(List.map (λk:Nat=>((l.length:Int)-1+-1*(k:Int)).toNat) (List.range l.length)).filterMap (λk=>l[k]?)=l.reverse:=λl=>by
  have e:(List.map (λk:Nat=>((l.length:Int)-1+-1*(k:Int)).toNat) (List.range l.length)).filterMap (λk=>l[k]?)=(List.range l.length).filterMap (λk=>l.reverse[k]?):=by
   rw[List.filterMap_map];have g:∀ks:List Nat,(∀k∈ks,k<l.length)->ks.filterMap ((λk=>l[k]?) ∘ λk:Nat=>((l.length:Int)-1+-1*(k:Int)).toNat)=ks.filterMap (λk=>l.reverse[k]?):=λks=>by
    induction ks with
    |nil=>exact λ_=>rfl
    |cons k ks ih=>
     intro h;have hk:=h k xS;have e:((λk=>l[k]?) ∘ λk:Nat=>((l.length:Int)-1+-1*(k:Int)).toNat) k=l.reverse[k]?:=by simp only[Function.comp];rw[List.getElem?_reverse hk];congr 1;lia
     rw[mE,mE,e,ih λq hq=>h q (yV _ hq)]
   exact g _ λk hk=>List.mem_range.mp hk
  rw[e];have:∀m:List Value,(List.range m.length).filterMap (λk=>m[k]?)=m:=λm=>by have:=pick_run m.toArray 0 m.length;simp at this;exact this
  have t:=this l.reverse;rw[qN] at t;exact t
 by_cases h:(xj.length:Int)-1 > -1
 .rw[xD h];have e:(((xj.length:Int)-1 - -1 - -1-1) / - -1).toNat=xj.length:=by
   have:((xj.length:Int)-1 - -1 - -1-1) / - -1=(xj.length:Int):=by rw[show(- -1:Int)=1 by decide,Int.ediv_one];lia
   rw[this,gL]
  rw[e];have:=key xj;simpa using this
 .have:xj=[]:=by cases xj with|nil=>rfl|cons a l=>simp at h;lia
  subst this;simp
theorem Fe:∀ {xs:List V} {us:List Value},x9 xs us->x9 xs.reverse us.reverse
 |_,_,.nil=>.nil
 |_,_,.cons r rs=>by rw[jR,jR];exact(Fe rs).append (.cons r .nil)
section
variable {X:Cx} {e:Expr} {te:TE}
def Nk (K:xo):V->Hp->VK->Prop:=λx H Q=>∃a xs,x=.ref a/\ye K H a xs/\∀p,H p=none->Q (.ref p) (upd H p (.lst xs.reverse))
def E4 (K:xo)(te:TE)(ts:TO):TE:=λσ H Q=>te σ H λx H1=>ts σ H1 λo H2=>o=some (-1)/\Nk K x H2 Q
def M0 (K:xo){st:Expr}{ts:TO}{p2 pos:Pos}(he:PE X e te)(hs:PO X (some st) ts)(eK:X.K=K:=by rfl):PE X (.Subscript e (.Slice none none (some st) p2) pos) (E4 K te ts):=by subst eK;intro xg s σ H Q I h;refine Subscript_ (xW (@he xg s σ H _ I h) λv s1 ⟨x,H1,I1,r1,q1⟩=>?_);refine wpAny_Slice ?_;rw[evalPart_none];refine xK (xK (xW (@hs xg s1 σ H1 _ I1 q1) λvs s2 ⟨o,H2,I2,ps,eo,q2⟩=>?_));obtain⟨a,xs,rfl,hx,q⟩:=q2;cases r1;subst eo;have I4:Inv X xg σ H2 {s2 with heap:=s2.heap.push {cls:=.type "slice", data:=.fields #[.none,.none,vs]} }:=I2.kept (t':=s2.toks) λb ob q=>yQ _ q;obtain⟨xj,r,ht,hz⟩:=I4.list hx;have hlen:=r.length;show wpAny (model X.prog X.w) X.A (subscriptTail e (.Slice none none (some st) p2) (.ref a) (.ref s2.heap.objs.size)) (EP X xg σ Q) X.xe {s2 with heap:=s2.heap.push {cls:=.type "slice", data:=.fields #[.none,.none,vs]} };refine tail_any (ops:=[.ref a,.ref s2.heap.objs.size]) ht.isList.typeIs F_.lookup ?_ (by with_unfolding_all rfl);refine wpAny_getItem_list_slice ht.isList (Heap.IsSliceOf.new ..) .none .none ps (by decide) ?_ (by rw[zh]<;>lia);rw[Om];refine⟨.ref _,_,I4.laid (t':=s2.toks) (o:=.lst xs.reverse) (λb ob q=>yQ _ q) (xY _) ?_,rfl,q _ (I4.hok.fresh (xY _))⟩;exact⟨by rw[qN];exact hz,_,0,Fe r,zO _ rfl⟩
end
abbrev two (elt t1 i1:Expr)(f1:List Expr)(t2 i2:Expr)(f2:List Expr)(sc:Scope)(pos:Pos):Expr:=.ListComp elt [⟨t1,i1,f1,0⟩,⟨t2,i2,f2,0⟩] sc pos
section
variable {prog:Program} {w:World} {A:Around} {R:Result->Shared->Prop} {s:Shared} {elt t1 i1 t2 i2:Expr} {f1 f2:List Expr} {sc:Scope} {pos:Pos} {it acc:Value} {env:Env}
end
abbrev lo (xj:List Value)(n:Nat):Obj:={cls:=.type "list", data:=.seq xj.toArray n}
section
variable {X:Cx} {sc:Scope} {N:List Str} {xy tid:List (Option Nat)} {xg:List (Addr×Obj)} {σ:St} {H:Hp} {s:Shared}
end
section
variable {K:xo} {B:FB} {φ:yX} {σ:St} {τ:xQ} {H H' H'':Hp} {fr:Bool}
end
section
variable {X:Cx} {sc:Scope} {N:List Str} {xy:List (Option Nat)} {xg:List (Addr×Obj)} {σ:St} {H:Hp} {s:Shared}
end
section
variable {X:Cx} {sc:Scope} {N:List Str} {xy:List (Option Nat)} {xg:List (Addr×Obj)} {σ:St} {H:Hp} {s:Shared}
end
section
variable {K:xo} {fr:Bool} {H:Hp}
theorem De {α β:Type}{R:α->β->Prop}:∀ {xs:List α} {ys:List β},Paired R xs ys->Paired R xs.reverse ys.reverse
 |_,_,.nil=>.nil
 |_,_,.cons r rs=>by rw[jR,jR];exact tF (De rs) r
def xZ.rev {F:Addr->Prop}{ts:List Tr}{ws:List V}(r:xZ F H ts ws):xZ F H ts.reverse ws.reverse:=ux.mpr (De (ux.mp r))
theorem xZ.take {F:Addr->Prop}{ts:List Tr}{ws:List V}(r:xZ F H ts ws)(n:Nat):xZ F H (ts.take n) (ws.take n):=ux.mpr (tG _ (ux.mp r))
def HJ (d ds:DE):DE:=λτ KK=>d τ λx=>ds τ λy=>y=.int (-1)/\match x with|.lst ts=>KK (.lst ts.reverse)|_=>False
def LH {c:Bool}{te ts:TE}{d ds:DE}(h:xJ K true te d)(hs:xJ K c ts ds):zF K (E4 K te (lF ts)) (HJ d ds):=λB φ σ τ H Q KK R hd q=>
 h B φ σ τ H _ _ R hd λt v H1 x1 k1 r1=>hs B φ σ τ H1 _ _ (R.hx x1) k1 λu w H2 x2 k2 r2=>by
  obtain⟨rfl,k2⟩:=k2;have r3:=x2.rep (F:=Av B φ) (λa s=>R.sAv s) r1;have x:=x1.trans x2;cases t with
  |lst us=>obtain⟨a,ws,e,n,ha,rl⟩:=r3;exact⟨-1,r2,rfl,a,ws,e,ye.of ha,λp hp=>q _ _ _ _ (x.trans (HX.new (R.hx x) hp _)) k2 (x.none hp) yU (jF hp rl.rev)⟩
  |_=>exact k2.elim
def Ee (i:Nat):DS:=λG τ=>match yg τ i with|.ow ts=>ts≠[]/\G.nx (τ.set i (.ow ts.dropLast))|_=>False
theorem LQ {i:Nat}:zi K fr (dn (EI K "list" DK (wK i))) (Ee i):=λB φ σ τ H E G R hd e=>by
 have en:=R.ent i;unfold Ee at hd;revert en hd;cases hi:yg τ i with
 |ow ts=>
  intro hd ⟨a,ws,e1,e2,e3,e4,r⟩;refine⟨_,e1,.inl ⟨rfl,_,ye.of e4⟩,?_⟩;have l:=r.len;have ne:ws≠[]:=λz=>hd.1 (by rw[z] at l;exact jg.mp l);have lt:ws.length-1<ws.length:=by have:=FH.mpr ne;lia
  refine⟨a,ws,ws[ws.length-1],rfl,rfl,e4,ze lt,e.nx φ σ _ _ (R.wrOw hi e1 ?_) hd.2⟩;rw[List.dropLast_eq_take,List.dropLast_eq_take,l];exact r.take _
 |_=>exact λz _=>z.elim
theorem IG {B:FB}{φ:yX}{σ:St}{τ:xQ}{a:Addr}(R:RS K B φ σ τ H)(h:H a=none):B.H0 a=none:=by
 cases q:B.H0 a with
 |none=>rfl
 |some o=>
  by_cases s:B.S0 a
  .exact absurd h (R.sst a (.inl s)).ne_none
  .rw[R.ext a o q s] at h;cases h
end
section
variable {P:Program} {w:World} {K:xo} {mg:Str->Option Value} {base:Heap} {N:List Str} {qual:Str} {scope:Scope} {f:Addr} {cd:Value} {A:Around} {outer:List Env} {s:Shared} {H H':Hp} {E:XK}
end
end L2
namespace L2
open PySem PySem.Spec PySem.Calls PyProof.Rows
section
variable {prog:Program} {w:World} {A:Around} {E:Value->Shared->Prop} {s:Shared} {K:xo} {ea C:Addr}
end
section
variable {P:Program} {w:World}
variable {X:Cx} {xg:List (Addr×Obj)} {σ:St} {H H':Hp} {s s':Shared} {ea C:Addr}
end
section
variable {X:Cx} {xg:List (Addr×Obj)} {σ:St} {H H':Hp} {s s':Shared} {ea C:Addr}
end
section
variable {X:Cx} {xg:List (Addr×Obj)} {σ:St} {H:Hp} {s:Shared} {c P:Addr} {params:Arguments} {body:Expr} {scope:Scope} {pos:Pos} {clos:List (Str×Addr)} {E:Value->Shared->Prop} {Q:Value->Shared->Prop} {q:Str}
end
section
variable {X:Cx} {xg:List (Addr×Obj)} {σ:St} {H:Hp} {s:Shared}
end
end L2
namespace L2
open PySem PySem.Spec PyProof.Rows
section
variable {K:xo} {B:FB} {φ:yX} {σ:St} {τ:xQ} {H H' H'':Hp} {EX:Hp->Prop}
end
section
variable {P:Program} {w:World} {K:xo} {mg:Str->Option Value} {base:Heap} {k n:Nat} {x qual:Str} {st:Stmt} {f:Addr} {fd:FuncData} {N ps:List Str} {C:Addr} {R:List Tr->Prop}
end
section
variable {K:xo}
def O7 {T:TS}{D:DS}{H:Hp}{g:V}{ea:Addr}{j:Int}{Q:VK}(hd:zi K true T D)(h:D {nx:=λ_=>False,rt:=λt=>t=.lst [.int j]} [.un,.ob ea,.un,.un])
  (q:∀H2 a,(∀b o,H b=some o->H2 b=some o)->H a=none->H2 a=some (.lst [.int j])->Q (.ref a) H2):T {nx:=λ_ H'=>Q .non H',rt:=Q} [some g,some (.ref ea),none,none] H:=by
 refine hd ⟨λ_=>False,λ_=>False,H,[]⟩ (λ_=>none) _ _ H _ _ ⟨λ_ z=>z.elim,λ_ z=>z.elim,λa o e _=>e,λa z=>?_,λi j a _ z=>(nomatch z),λi a z=>(nomatch z),rfl,λi=>?_,λp z=>absurd z (by simp)⟩ h ⟨λ_ _ _ _ _ z=>z.elim,λ_ _ _ _ _ z=>z.elim,λ_ _ _ _ _ z=>z.elim,λt v H2 r x e fl=>?_⟩
 .rcases z with z|⟨i,z,_⟩
  .exact z.elim
  .cases z
 .match i with
  |0=>trivial
  |1=>rfl
  |2=>trivial
  |3=>trivial
  |n+4=>trivial
 .obtain⟨a,ts,ws,rfl,rfl,h1,h2,h3⟩:=fl rfl;cases e;obtain⟨v,vs,rfl,e1,e2⟩:=h3;cases e1;cases e2;exact q H2 a (λb o e=>x.ext b o e λz=>z) h1 h2
end
section
variable {X:Cx} {ea C D:Addr}
end
section
variable {P:Program} {w:World} {K:xo} {mg:Str->Option Value} {base:Heap} {k:Nat} {x qual:Str} {st:Stmt} {f:Addr} {fd:FuncData} {N ps:List Str}
end
section
variable {X:Cx} {pos:Pos}
end
section
variable {K:xo} {fr:Bool}
end
end L2
namespace L2
open PySem
def tn (a b c d:Int):Int:=a*d-b*c
end L2
namespace Trn
abbrev D2:=Int×Int
def cr (p q:D2):Int:=p.1*q.2-p.2*q.1
def sc (m:Int)(p:D2):D2:=(m*p.1,m*p.2)
def ad (p q:D2):D2:=(p.1+q.1,p.2+q.2)
def sb (p q:D2):D2:=(p.1-q.1,p.2-q.2)
def InC (u v x:D2):Prop:=0<=cr u x/\0<=cr x v
def gd (p:D2):Int:=(Int.gcd p.1 p.2:Nat)
def sE {p:D2}(h:p≠(0,0)):0<gd p:=by
 unfold gd;have:0<Int.gcd p.1 p.2:=Int.gcd_pos_iff.mpr (by
  by_cases c:p.1=0
  .exact .inr λz=>h (uu c z)
  .exact .inl c)
 lia
end Trn
namespace L2
open PySem Trn
def GF {α:Type}(ts:List α)(x y:α):atT (ts++[x,y]) (-2)=some x:=by
 show(if 1<(ts++[x,y]).length then getT (ts++[x,y]) ((ts++[x,y]).length-1-1) else none)=_;have e:(ts++[x,y]).length=ts.length+2:=by simp
 rw[e,xD (by lia),sG,show ts.length+2-1-1=ts.length by lia];simp
end L2
namespace L2
open PySem
def uh:Tr->Bool
 |.tup [.int a,.int b]=>decide (1<=b)&&decide (Int.gcd a b=1)
 |_=>false
def wtT:Tr->Bool
 |.tup [.int a,.int b]=>(decide (1<=b)&&decide (Int.gcd a b=1))&&decide (0<=a)
 |_=>false
def va (n:Nat):Tr->Bool
 |.tup us=>decide (us.length=n)&&us.all wtT
 |_=>false
structure Wt (w:F2):Prop where
 pos:0<w.2
 cop:Int.gcd w.1 w.2=1
 nn:0<=w.1
 sm:Fk 40 w
theorem Wt.wtT {w:F2}(h:Wt w):wtT (fT w)=true:=by show((decide (1<=w.2)&&decide (Int.gcd w.1 w.2=1))&&decide (0<=w.1))=true;rw[wO (show 1<=w.2 from h.pos),wO h.cop,wO h.nn];rfl
def Gw {ws:List F2}(h:∀w∈ws,Wt w):va ws.length (.tup (ws.map fT))=true:=by show(decide ((ws.map fT).length=ws.length)&&(ws.map fT).all L2.wtT)=true;rw[wO (xX _),qK,jN];intro u hu;obtain⟨w,hw,rfl⟩:=wN.mp hu;exact(h w hw).wtT
def Cop (f:F2):Prop:=0<f.2/\Int.gcd f.1 f.2=1
def AL {t b:Int}(h:0<b):Cop (lfr t b):=by rw[kR h];exact⟨Fra.vy h,Fra.rN h⟩
theorem Sd.low {f:F2}{N D:Int}(h:Sd f N D)(c:Cop f):L2.lfr N D=f:=by
 rw[kR h.pd];have:=Fra.AM (Fra.rN h.pd) c.2 (Fra.vy h.pd) c.1 (by
  have e:=h.e;have l:=Fra.h9 N D;generalize (Fra.low N D).1=x at *
  generalize (Fra.low N D).2=y at *
  have hD:=h.pd;have:(x*f.2)*D=(f.1*y)*D:=by grind
  exact gH (by lia) this)
 exact uu this.1 this.2
def Sd.plusD {f g:F2}{N M D:Int}(h:Sd f N D)(h':Sd g M D):Sd (qv f g) (N+M) D:=by refine Sd.lfr (Pol.pp h.pf h'.pf) h.pd ?_ rfl;have:=h.e;have:=h'.e;grind
def vJ (k:Pol.R3->Int)(f:F2)(x:Pol.R3×F2):F2:=qv f (wc x.2 (k x.1,1))
def wsum (k:Pol.R3->Int)(l:List (Pol.R3×F2)):F2:=l.foldl (vJ k) (0,1)
def lu {w:F2}{r q D:Int}(hw:0<w.2)(hD:0<D)(e:w.2*q=D):Sd (wc w (r,1)) (q*w.1*r) D:=by
 refine Sd.lfr (by show 0<w.2*1;lia) hD ?_ rfl;show w.1*r*D=q*w.1*r*(w.2*1)
 rw[<-e];grind
def Fk.plus2 {k m:Nat}{f g:F2}(h:Fk k f)(h':Fk m g):Fk (k+m+1) (qv f g):=by
 unfold qv;refine h8 (by have:=Pol.pp h.pos h'.pos;lia) ?_ ?_
 .exact(h.top.mul h'.bot).add ((h'.top.mul h.bot).mono (by lia))
 .exact(h.bot.mul h'.bot).mono (by lia)
def Fk.timI {k m:Nat}{f:F2}{r:Int}(h:Fk k f)(hr:Bk m r):Fk (k+m) (wc f (r,1)):=by unfold wc;refine h8 (by have:=h.pos;show f.2*1≠0;lia) (h.top.mul hr) ?_;show Bk (k+m) (f.2*1);rw[gK];exact h.bot.mono (by lia)
def OY (k:Pol.R3->Int):∀(l:List (Pol.R3×F2)),(∀x∈l,Fk 40 x.2/\Bk 10 (k x.1))->Fk (1+51*l.length) (wsum k l):=by
 have go:∀(l:List (Pol.R3×F2)) (f:F2) (n:Nat),Fk n f->(∀x∈l,Fk 40 x.2/\Bk 10 (k x.1))->Fk (n+51*l.length) (l.foldl (vJ k) f):=λl=>by
  induction l with
  |nil=>exact λf n c _=>c
  |cons x l ih=>intro f n c h;have hx:=h x xS;have:=ih (vJ k f x) (n+51) (c.plus2 (hx.1.timI hx.2)) λy hy=>h y (yV _ hy);rw[uA];exact this.mono (by lia)
 exact λl h=>go l (0,1) 1 ⟨by unfold Bk;decide,by unfold Bk;decide,by decide⟩ h
def wsum_snoc (k:Pol.R3->Int)(l:List (Pol.R3×F2))(x:Pol.R3×F2):wsum k (l++[x])=vJ k (wsum k l) x:=by unfold wsum;rw[jO];rfl
def k0 (r:Pol.R3):Int:=r.1
def k1 (r:Pol.R3):Int:=r.2.1
def k2 (r:Pol.R3):Int:=r.2.2
structure WS (xf:List Pol.R3)(ws:List F2):Prop where
 len:xf.length=ws.length
 l100:xf.length<=8
 sm:∀r∈xf,yW 10 r
 wt:∀w∈ws,Wt w
theorem WS.zip {xf:List Pol.R3}{ws:List F2}(h:WS xf ws){x:Pol.R3×F2}(hx:x∈xf.zip ws):yW 10 x.1/\Wt x.2:=by obtain⟨a,b⟩:=x;have:=ip hx;exact⟨h.sm a this.1,h.wt b this.2⟩
def Mk:ym:=λts KK=>∃t,ts=[t]/\KK (.bl (uh t))
def L4:ym:=λts KK=>∃(rs:List Tr) (t:Tr),ts=[.tup rs,t]/\rs.length<=1000/\KK (.bl (va rs.length t))
def MP:ym:=λts KK=>∃(xf:List Pol.R3) (ws:List F2),ts=[.tup (xf.map xi),.tup (ws.map fT)]/\WS xf ws/\
 ∀a b c D:Int,Sd (wsum k0 (xf.zip ws)) a D->Sd (wsum k1 (xf.zip ws)) b D->Sd (wsum k2 (xf.zip ws)) c D->Bd D->KK (.tup [.lst [.int a,.int b,.int c],.int D])
def AV (a b:F2):Prop:=a.2=1/\b.2=1/\¬(a.1=0/\b.1=0)
theorem my {α β:Type}(f:α->Tr)(g:β->Tr):∀(l:List α) (m:List β),vj (l.map f) (m.map g)=(l.zip m).map λx=>.tup [f x.1,g x.2]
 |[],_=>rfl
 |_::_,[]=>rfl
 |x::l,y::m=>by show Tr.tup [f x,g y]::vj (l.map f) (m.map g)=_;rw[my f g l m];rfl
def Fh {t b:Int}(ht:0<=t/\t<=1000000)(hb:1<=b/\b<=1000000):Wt (lfr t b):=by
 have c:=AL (t:=t) (b:=b) (by lia);have s:Sd (lfr t b) t b:=by rw[kR (by lia)];exact md (by lia)
 refine⟨c.1,c.2,?_,h8 (by lia) (by unfold Bk;lia) (by unfold Bk;lia)⟩;refine Int.not_lt.mp λz=>?_;have:=s.neg.mp z;lia
def du {t:Int}(ht:0<=t/\t<=1000000):Wt (t,1):=⟨by show(0:Int)<1;decide,by show Int.gcd t 1=1;simp,ht.1,⟨by unfold Bk;simp only;lia,by show Bk 40 1;unfold Bk;decide,by show(0:Int)<1;decide⟩⟩
theorem Cop.lfr {f:F2}(c:Cop f):L2.lfr f.1 f.2=f:=Sd.low (Oe c.1) c
def rwT (x:Pol.R3×F2):Tr:=.tup [xi x.1,fT x.2]
def kB (x:Pol.R3×F2):Bool:=!decide (x.2.1=0)
def OX {k:Pol.R3->Int}{f:F2}{x:Pol.R3×F2}(c:Cop f)(h:Wt x.2)(hz:x.2.1=0):vJ k f x=f:=by
 have e:x.2=(0,1):=by have g:=h.cop;rw[hz,Int.gcd_zero_left] at g;have p:=h.pos;exact uu hz (by show x.2.2=1;lia)
 unfold vJ;rw[e];have e2:wc (0,1) (k x.1,1)=(0,1):=by
  unfold wc;show L2.lfr (0*k x.1) (1*1)=(0,1)
  rw[qh];decide
 rw[e2];unfold qv;show L2.lfr (f.1*1+0*f.2) (f.2*1)=f;rw[gK,qh,kC,gK];exact c.lfr
def lL (k:Pol.R3->Int)(l:List (Pol.R3×F2))(h:∀x∈l,Wt x.2):wsum k (l.filter kB)=wsum k l:=by
 have go:∀(l:List (Pol.R3×F2)) (f:F2),Cop f->(∀x∈l,Wt x.2)->(l.filter kB).foldl (vJ k) f=l.foldl (vJ k) f:=λl=>by
  induction l with
  |nil=>exact λf c _=>rfl
  |cons x l ih=>
   intro f c h;have hx:=h x xS;have hl:=λy hy=>h y (yV x hy);have c':Cop (vJ k f x):=AL (Pol.pp c.1 (J2 (by have:=hx.pos;show x.2.2*1≠0;lia)));by_cases z:x.2.1=0
   .rw[FC (by simp[kB,z]),ih f c hl,qi,OX c hx z]
   .rw[ia (by simp[kB,z]),qi,qi,ih _ c' hl]
 exact go l (0,1) ⟨by decide,by decide⟩ h
def JP {D w:Int}(hD:0<D)(hw:0<w):0<D/(Int.gcd D w:Nat)*w/\D∣D/(Int.gcd D w:Nat)*w/\w∣D/(Int.gcd D w:Nat)*w/\(D/(Int.gcd D w:Nat)*w).natAbs<=(D*w).natAbs:=by
 have g0:(0:Int)<(Int.gcd D w:Nat):=by have:=aE D (show w≠0 by lia);lia
 have dl:=lU D w;have dr:=lV D w;generalize ((Int.gcd D w:Nat):Int)=g at *
 obtain⟨q,rfl⟩:=dl;obtain⟨p,rfl⟩:=dr;rw[Int.mul_ediv_cancel_left q (show g≠0 by lia)];have q0:0<q:=Int.pos_of_mul_pos_right hD g0;refine⟨Pol.pp q0 hw,⟨p,by grind⟩,Fw ..,?_⟩;rw[vK,vK (g*q)];refine FP _ ?_;have:1*q<=g*q:=qL (by lia) (by lia);lia
theorem pO {α:Type}(x:α):∀n:Nat,(List.replicate n [x]).flatten=List.replicate n x
 |0=>rfl
 |n+1=>by rw[gP,dB,pO x n];rfl
theorem c8 {P:F2->Prop}:∀ {xs ys:List Tr},Paired (λ_ y=>∃w,y=fT w/\P w) xs ys->∃ws:List F2,ys=ws.map fT/\(∀w∈ws,P w)/\ws.length=xs.length
 |_,_,.nil=>⟨[],rfl,λ_ h=>(nomatch h),rfl⟩
 |_,_,.cons ⟨w,e,hw⟩ r=>by obtain⟨ws,e2,h,l⟩:=c8 r;exact⟨w::ws,by rw[e,e2];rfl,λv hv=>by rcases xR.mp hv with rfl|hv;exact hw;exact h v hv,by simp[l]⟩
def Ib {α:Type}{f:α->Tr}{i n:Nat}{di:DE}{τ:xQ}{KK:xQ->Prop}{l:List α}{w:α}(h:yg τ i=.ow (l.map f))(hn:n<l.length)(hd:∀KK':Tr->Prop,KK' (.int n)->di τ KK')(k:KK (τ.set i (.ow ((l.set n w).map f)))):sr i di (f w) τ KK:=by
 unfold sr;rw[h];refine hd _ ?_;have e:ao (l.map f) (f w) (n:Int)=some ((l.set n w).map f):=by show(if n<(l.map f).length then some ((l.map f).set n (f w)) else none)=_;rw[xD (by rw[xX];exact hn),List.map_set]
 show match ao (l.map f) (f w) (n:Int) with|some us=>KK (τ.set i (.ow us))|none=>False
 rw[e];exact k
def nM {α:Type}(ts:List α):zL ts none (some (-1))=ts.take (ts.length-1):=by
 unfold zL;have e:HT.yh ts.length ts.length (some (-1))=ts.length-1:=by show(if (-1:Int)<0 then((-1:Int)+(ts.length:Int)).toNat else min (-1:Int).toNat ts.length)=_;rw[xD (by decide)];lia
 rw[e,HT.pU,dA,mJ]
def Ht {α:Type}(ts:List α):(zL ts none (some (-1))).length=ts.length-1:=by rw[nM,zQ];lia
instance (a b:F2):Decidable (AV a b):=by unfold AV;infer_instance
def wsT (ws:List F2):Tr:=.tup (ws.map fT)
def GW (n:Nat)(ws:List F2):Prop:=ws.length=n/\∀w∈ws,Wt w
end L2
namespace L2
open PySem Trn
def LF0.grow {xf rows':List Pol.R3}(h:LF0 xf)(hl:rows'.length<=8)(l3:3<=rows'.length)(m:∀r∈xf,r∈rows')(hx:∀r∈rows',r∈xf\/Extra r):LF0 rows' :=⟨l3,hl,λr hr=>(hx r hr).elim (h.sm r) λz=>by unfold Extra at z;lia,λr hr=>(hx r hr).elim (h.dir r) λz=>z.2,λu v hn=>let ⟨r,hr,p⟩:=h.gr u v hn;⟨r,m r hr,p⟩,λp hz hk=>h.near p hz λr hr=>hk r (m r hr)⟩
def LF0.ins {xf:List Pol.R3}(h:LF0 xf){r:Pol.R3}(hr:Extra r)(hl:xf.length<=7)(k:Nat):LF0 (xf.take k++[r]++xf.drop k):=by
 have mem:∀x,x∈xf.take k++[r]++xf.drop k↔x∈xf\/x=r:=λx=>by
  have:=mH k xf;rw[xU,xU,yS]
  conv=>rhs;lhs;rw[<-this,xU]
  constructor
  .rintro((z|z)|z)
   .exact .inl (.inl z)
   .exact .inr z
   .exact .inl (.inr z)
  .rintro((z|z)|z)
   .exact .inl (.inl z)
   .exact .inr z
   .exact .inl (.inr z)
 have len:(xf.take k++[r]++xf.drop k).length=xf.length+1:=by simp only[za,zQ,uO,vm];lia
 have:=h.l3;exact h.grow (by lia) (by lia) (λx hx=>(mem x).mpr (.inl hx)) λx hx=>((mem x).mp hx).imp id λz=>by rw[z];exact hr
def sk:List (Int×Int):=[(1,0),(-1,0),(0,1),(0,-1)]
def jZ (i:Nat)(xf:List Pol.R3):Prop:=xf.length=i/\∀(j:Nat) (r:Pol.R3) (d:Int×Int),xf[j]?=some r->sk[j]?=some d->∃b c:Int,((1<=b/\b<=4)/\0<=c/\c<=3*b)/\r=(d.1*b,d.2*b,c)
def HU {i:Nat}{d:Int×Int}(h:sk[i]?=some d):(-1<=d.1/\d.1<=1)/\(-1<=d.2/\d.2<=1):=by have:=zW h;simp only[sk,xR,yI,yJ] at this;rcases this with rfl|rfl|rfl|rfl<;>decide
def jZ.step {i:Nat}{xf:List Pol.R3}(h:jZ i xf){d:Int×Int}(hd:sk[i]?=some d){b c:Int}(hb:(1<=b/\b<=4)/\0<=c/\c<=3*b):jZ (i+1) (xf++[(d.1*b,d.2*b,c)]):=by
 refine⟨by rw[za,h.1];rfl,λj r d' hr hd'=>?_⟩;by_cases hj:j<i
 .rw[FE (by rw[h.1];exact hj)] at hr;exact h.2 j r d' hr hd'
 .have hl:=(zP.mp hr).1;rw[za,h.1,vm] at hl;have:j=i:=by lia
  subst this;rw[List.getElem?_append_right (by rw[h.1];exact xY _),h.1,Nat.sub_self] at hr;rw[hd] at hd';cases hr;cases hd';exact⟨b,c,hb,rfl⟩
def jZ.lf {xf:List Pol.R3}(h:jZ 4 xf):LF0 xf:=by
 obtain⟨hl,h⟩:=h;rcases xf with _|⟨r1,_|⟨r2,_|⟨r3,_|⟨r4,_|⟨r5,rs⟩⟩⟩⟩⟩
 .cases hl
 .cases hl
 .cases hl
 .cases hl
 .obtain⟨b2,c2,h2,e2⟩:=h 0 r1 (1,0) rfl rfl;obtain⟨b1,c1,h1,e1⟩:=h 1 r2 (-1,0) rfl rfl;obtain⟨b4,c4,h4,e4⟩:=h 2 r3 (0,1) rfl rfl;obtain⟨b3,c3,h3,e3⟩:=h 3 r4 (0,-1) rfl rfl;have e1:r2=(-b1,0,c1):=by rw[e1];simp
  have e2:r1=(b2,0,c2):=by rw[e2];simp
  have e3:r4=(0,-b3,c3):=by rw[e3];simp
  have e4:r3=(0,b4,c4):=by rw[e4];simp
  have m1:(-b1,0,c1)∈[r1,r2,r3,r4]:=by rw[<-e1];simp
  have m2:(b2,0,c2)∈[r1,r2,r3,r4]:=by rw[<-e2];simp
  have m3:(0,-b3,c3)∈[r1,r2,r3,r4]:=by rw[<-e3];simp
  have m4:(0,b4,c4)∈[r1,r2,r3,r4]:=by rw[<-e4];simp
  have four:∀r∈[r1,r2,r3,r4],r=(b2,0,c2)\/r=(-b1,0,c1)\/r=(0,b4,c4)\/r=(0,-b3,c3):=λr hr=>by simp only[xR,yI,yJ] at hr;rw[<-e1,<-e2,<-e3,<-e4];exact hr
  refine⟨by simp,by simp,λr hr=>?_,λr hr=>?_,λu v hn=>?_,λp hz hk=>?_⟩
  .rcases four r hr with h|h|h|h<;>subst h<;>simp only<;>lia
  .rcases four r hr with h|h|h|h
   .subst h;exact .inl (by simp only;lia)
   .subst h;exact .inl (by simp only;lia)
   .subst h;exact .inr (by simp only;lia)
   .subst h;exact .inr (by simp only;lia)
  .rcases jd u 0 with c|c|c
   .refine⟨_,m1,?_⟩;simp only;have:=jf (show 0<b1 by lia) (show 0 < -u by lia);grind
   .rcases jd v 0 with d|d|d
    .refine⟨_,m3,?_⟩;simp only;have:=jf (show 0<b3 by lia) (show 0 < -v by lia);grind
    .lia
    .refine⟨_,m4,?_⟩;simp only;have:=jf (show 0<b4 by lia) d;grind
   .refine⟨_,m2,?_⟩;simp only;have:=jf (show 0<b2 by lia) c;grind
  .have k1:=hk _ m1;have k2:=hk _ m2;have k3:=hk _ m3;have k4:=hk _ m4;simp only[Pol.val] at k1 k2 k3 k4;have e1:=rp (c:=c1) (x:=-p.1) h1.1.1 (by lia) hz (by grind);have e2:=rp (c:=c2) (x:=p.1) h2.1.1 (by lia) hz (by grind);have e3:=rp (c:=c3) (x:=-p.2.1) h3.1.1 (by lia) hz (by grind);have e4:=rp (c:=c4) (x:=p.2.1) h4.1.1 (by lia) hz (by grind);lia
 .simp at hl
def qf (sw:Bool)(s t:Int)(r:Pol.R3):Pol.R3:=if sw=true then(r.2.1*s,r.1*t,r.2.2) else(r.1*s,r.2.1*t,r.2.2)
def LF0.turned {xf:List Pol.R3}(h:LF0 xf)(sw:Bool){s t:Int}(hs:s=1\/s = -1)(ht:t=1\/t = -1):LF0 (xf.map (qf sw s t)):=by
 have val:∀(r p:Pol.R3),Pol.val (qf sw s t r) p=Pol.val r (if sw=true then(t*p.2.1,s*p.1,p.2.2) else(s*p.1,t*p.2.1,p.2.2)):=λr p=>by unfold qf;split<;>simp only[Pol.val]<;>grind
 refine⟨by rw[xX];exact h.l3,by rw[xX];exact h.l8,λr hr=>?_,λr hr=>?_,λu v hn=>?_,λp hz hk=>?_⟩
 .obtain⟨q,hq,rfl⟩:=wN.mp hr;have:=h.sm q hq;unfold qf;split<;>simp only<;>rcases hs with rfl|rfl<;>rcases ht with rfl|rfl<;>lia
 .obtain⟨q,hq,rfl⟩:=wN.mp hr;have:=h.dir q hq;unfold qf;split<;>simp only<;>rcases hs with rfl|rfl<;>rcases ht with rfl|rfl<;>lia
 .cases sw with
  |true=>obtain⟨r,hr,p⟩:=h.gr (t*v) (s*u) (by rcases hs with rfl|rfl<;>rcases ht with rfl|rfl<;>lia);refine⟨_,gO hr,?_⟩;show 0<r.2.1*s*u+r.1*t*v;grind
  |false=>obtain⟨r,hr,p⟩:=h.gr (s*u) (t*v) (by rcases hs with rfl|rfl<;>rcases ht with rfl|rfl<;>lia);refine⟨_,gO hr,?_⟩;show 0<r.1*s*u+r.2.1*t*v;grind
 .have:=h.near (if sw=true then(t*p.2.1,s*p.1,p.2.2) else(s*p.1,t*p.2.1,p.2.2)) (by split<;>exact hz) λr hr=>by rw[<-val];exact hk _ (gO hr)
  cases sw with
  |true=>simp only[qU] at this;rcases hs with rfl|rfl<;>rcases ht with rfl|rfl<;>lia
  |false=>simp only[Fn,jl] at this;rcases hs with rfl|rfl<;>rcases ht with rfl|rfl<;>lia
def kK (p q:P2):Bool:=if p.1=q.1 then kM p.2 q.2 else kM p.1 q.1
def Mn:ym:=λts KK=>∃p q:P2,ts=[pT p,pT q]/\Pk 900 p/\Pk 900 q/\KK (.bl (kK p q))
end L2
namespace Pol
def CG {a b c d:R3}(h1:0<det b c d)(h2:0<det a b d)(h3:0<det a c d)(h4:0<det a b c)(hc:0<c.2.2)(ha:Ah a c)(hb:Ah c b)(hd:Ah c d):False:=by
 have ex:=four (c.2.2,0,c.1) a b c d;have ey:=four (0,c.2.2,c.2.1) a b c d;have xa:val (c.2.2,0,c.1) a=a.1*c.2.2-c.1*a.2.2:=by simp only[val];grind
 have xb:val (c.2.2,0,c.1) b=b.1*c.2.2-c.1*b.2.2:=by simp only[val];grind
 have xc:val (c.2.2,0,c.1) c=0:=by simp only[val];grind
 have xd:val (c.2.2,0,c.1) d=d.1*c.2.2-c.1*d.2.2:=by simp only[val];grind
 have ya:val (0,c.2.2,c.2.1) a=a.2.1*c.2.2-c.2.1*a.2.2:=by simp only[val];grind
 have yb:val (0,c.2.2,c.2.1) b=b.2.1*c.2.2-c.2.1*b.2.2:=by simp only[val];grind
 have yc:val (0,c.2.2,c.2.1) c=0:=by simp only[val];grind
 have yd:val (0,c.2.2,c.2.1) d=d.2.1*c.2.2-c.2.1*d.2.2:=by simp only[val];grind
 rw[xa,xb,xc,xd] at ex;rw[ya,yb,yc,yd] at ey;have A:(a.1*c.2.2-c.1*a.2.2<0)\/(a.1*c.2.2-c.1*a.2.2=0/\a.2.1*c.2.2-c.2.1*a.2.2<0):=by
  rcases ha with z|⟨z1,z2⟩
  .exact .inl (by lia)
  .exact .inr ⟨by lia,by lia⟩
 have B:(0<b.1*c.2.2-c.1*b.2.2)\/(b.1*c.2.2-c.1*b.2.2=0/\0<b.2.1*c.2.2-c.2.1*b.2.2):=by
  rcases hb with z|⟨z1,z2⟩
  .exact .inl (by lia)
  .exact .inr ⟨by lia,by lia⟩
 have D:(0<d.1*c.2.2-c.1*d.2.2)\/(d.1*c.2.2-c.1*d.2.2=0/\0<d.2.1*c.2.2-c.2.1*d.2.2):=by
  rcases hd with z|⟨z1,z2⟩
  .exact .inl (by lia)
  .exact .inr ⟨by lia,by lia⟩
 generalize a.1*c.2.2-c.1*a.2.2=XA at *
 generalize b.1*c.2.2-c.1*b.2.2=XB at *
 generalize d.1*c.2.2-c.1*d.2.2=XD at *
 generalize a.2.1*c.2.2-c.2.1*a.2.2=YA at *
 generalize b.2.1*c.2.2-c.2.1*b.2.2=YB at *
 generalize d.2.1*c.2.2-c.2.1*d.2.2=YD at *
 have npos:∀ {p q:Int},0<p->q<0->p*q<0:=λ {p q} hp hq=>by have:=pp hp (show 0 < -q by lia);rw[gJ] at this;lia
 rcases A with A|⟨A1,A2⟩
 .have t1:=npos h1 A;have t2:0<=det a c d*XB:=by
   rcases B with B|B
   .exact yA (pp h3 B)
   .rw[B.1];simp
  have t3:0<=det a b c*XD:=by
   rcases D with D|D
   .exact yA (pp h4 D)
   .rw[D.1];simp
  rw[u0] at ex;lia
 .rw[A1] at ex;rcases B with B|⟨B1,B2⟩
  .have t2:=pp h3 B;have t3:0<=det a b c*XD:=by
    rcases D with D|D
    .exact yA (pp h4 D)
    .rw[D.1];simp
   rw[u0,u0] at ex;lia
  .rcases D with D|⟨D1,D2⟩
   .have t3:=pp h4 D;rw[B1] at ex;rw[u0,u0,u0] at ex;lia
   .have t1:=npos h1 A2;have t2:=pp h3 B2;have t3:=pp h4 D2;rw[u0] at ey;lia
def zd:List R3->R3->List R3
 |b::a::s,p=>if 0<det a b p then b::a::s else zd (a::s) p
 |s,_=>s
def zw (ps:List R3):List R3:=ps.foldl (λs p=>p::zd s p) []
def Nb {b a p:R3}{s:List R3}(h:det a b p<0):zd (b::a::s) p=zd (a::s) p:=by
 conv=>lhs;unfold zd
 rw[xG (by lia)]
def Dl {p:R3}{A:List R3}(h:∀A' a' a,A=A'++[a',a]->0<det a' a p):zd A.reverse p=A.reverse:=by
 rcases l9 A with rfl|⟨A1,a,rfl⟩
 .rfl
 .rw[l6] at *
  rcases l9 A1 with rfl|⟨A2,a',rfl⟩
  .rfl
  .rw[l6] at *
   have:=h A2 a' a (by rw[qM];rfl);rw[ir,ir];show zd (a::a'::A2.reverse) p=_;unfold zd;rw[xD this];rfl
def fe {p q:R3}(hp:0<p.2.2)(hq:0<q.2.2)(h:Ah p q):¬Ah q p:=λh'=>Ah.irrefl p (Ah.trans hp hq hp h h')
section
variable {A B S:List R3} {x p0:R3}
structure Up (A:List R3)(x:R3)(B:List R3):Prop where
 ccw:Ccw (A++x::B)
 pos:∀v∈A++x::B,0<v.2.2
 least:∀h t,A++x::B=h::t->∀v∈t,Ah h v
 most:∀v∈A++B,Ah v x
def Up.rise (U:Up A x B):(A++[x]).Pairwise Ah:=by
 rw[iq];refine⟨?_,List.pairwise_singleton _ _,λa ha y hy=>by rw[yS.mp hy];exact U.most a (yF _ ha)⟩;rcases A with _|⟨h,t⟩
 .exact .nil
 .rw[jQ];refine⟨λv hv=>U.least h (t++x::B) rfl v (yF _ hv),?_⟩;have key:∀(t1 t2:List R3),t=t1++t2->t2.Pairwise Ah:=λt1 t2=>by
   induction t2 generalizing t1 with
   |nil=>exact λ_=>.nil
   |cons a t2 ih=>
    intro e;rw[jQ];refine⟨λb hb=>?_,ih (t1++[a]) (by rw[e];simp)⟩;obtain⟨u1,u2,rfl⟩:=dz hb;have s4:List.Sublist [h,a,b,x] (h::t++x::B):=by rw[e];refine List.Sublist.cons₂ h ?_;show List.Sublist [a,b,x] ((t1++a::(u1++b::u2))++x::B);simp only[qM,gM];refine ua ?_ (qP t1 _);refine List.Sublist.cons₂ a ?_;refine ua ?_ (qP u1 _);refine List.Sublist.cons₂ b ?_;refine ua ?_ (qP u2 _);exact List.Sublist.cons₂ x (ik _)
    have inl:∀v∈[h,a,b,x],v∈(h::t++x::B):=λv hv=>s4.subset hv;have pa:=U.pos a (inl a (by simp));have pb:=U.pos b (inl b (by simp));have ne:a≠b:=λz=>by have nd:=U.ccw.nd.sublist s4;subst z;simp at nd
    rcases gF (Ah a b) with q|q
    .exact q
    .rcases gF (Ah b a) with q'|q'
     .exfalso;have hb':Ah h b:=U.least h (t++x::B) rfl b (by rw[e];simp);have bx:Ah b x:=U.most b (by rw[e];simp);exact CG (U.ccw.tri a b x (ua (by simp) s4)) (U.ccw.tri h a x (ua (by simp) s4)) (U.ccw.tri h b x (ua (by simp) s4)) (U.ccw.tri h a b (ua (by simp) s4)) pb hb' q' bx
     .exfalso;have sm:=Ah.total q q';have d:=U.ccw.tri h a b (ua (by simp) s4);have:det h a b*b.2.2=0:=by have:=sm.1;have:=sm.2;simp only[det];grind
      have:=pp d pb;lia
  exact key [] t rfl
def aw {l:List R3}{u v w:R3}{l1 l2 l3 l4:List R3}(h:l=l1++u::(l2++v::(l3++w::l4))):List.Sublist [u,v,w] l:=by rw[h];refine ua ?_ (qP l1 _);refine List.Sublist.cons₂ u ?_;refine ua ?_ (qP l2 _);refine List.Sublist.cons₂ v ?_;refine ua ?_ (qP l3 _);exact List.Sublist.cons₂ w (ik _)
def Up.fall (U:Up A x B)(ne:A≠[]):B.Pairwise λb c=>Ah c b:=by
 rcases A with _|⟨h,t⟩
 .exact absurd rfl ne
 have key:∀(t1 t2:List R3),B=t1++t2->t2.Pairwise λb c=>Ah c b:=λt1 t2=>by
  induction t2 generalizing t1 with
  |nil=>exact λ_=>.nil
  |cons a t2 ih=>
   intro e;rw[jQ];refine⟨λb hb=>?_,ih (t1++[a]) (by rw[e];simp)⟩;obtain⟨u1,u2,rfl⟩:=dz hb;have s4:List.Sublist [h,x,a,b] (h::t++x::B):=by rw[e];refine List.Sublist.cons₂ h ?_;show List.Sublist [x,a,b] (t++x::(t1++a::(u1++b::u2)));exact aw rfl
   have inl:∀v∈[h,x,a,b],v∈(h::t++x::B):=λv hv=>s4.subset hv;have pa:=U.pos a (inl a (by simp));have pb:=U.pos b (inl b (by simp));rcases gF (Ah b a) with q|q
   .exact q
   .exfalso;rcases gF (Ah a b) with q'|q'
    .have ha':Ah h a:=U.least h (t++x::B) rfl a (by rw[e];simp);have ax:Ah a x:=U.most a (by rw[e];simp);exact CG (U.ccw.tri x a b (ua (by simp) s4)) (U.ccw.tri h x b (ua (by simp) s4)) (U.ccw.tri h a b (ua (by simp) s4)) (U.ccw.tri h x a (ua (by simp) s4)) pa ha' ax q'
    .have sm:=Ah.total q' q;have d:=U.ccw.tri h a b (ua (by simp) s4);have:det h a b*b.2.2=0:=by have:=sm.1;have:=sm.2;simp only[det];grind
     have:=pp d pb;lia
 exact key [] B rfl
structure Gg (A:List R3)(x:R3)(B T st A1 A2:List R3):Prop where
 cut:A++[x]=A1++A2
 ne:A1≠[]
 inT:∀v∈A1,v∈T
 out:∀v∈A2,v∉T
 st:st=A1.reverse\/∃b∈B,b∈T/\st=b::A1.reverse/\∀v∈T,v=b\/Ah v b
def Be (a b p:R3):det a b p = - det a p b:=by simp only[det];grind
def He (T:List R3)(p:R3):zw (T++[p])=p::zd (zw T) p:=by unfold zw;rw[jO];rfl
theorem Up.chain (U:Up A x B)(hne:A≠[])(hS:S.Pairwise Ah)(hm:∀v,v∈S↔v∈A++x::B):∀i,0<i->i<=S.length->∃A1 A2,Gg A x B (S.take i) (zw (S.take i)) A1 A2:=by
 have lp:∀v∈S,0<v.2.2:=λv hv=>U.pos v ((hm v).mp hv);have rise:=U.rise;have fall:=U.fall hne;have nd:=U.ccw.nd;have el:A++x::B=(A++[x])++B:=by simp
 intro i
 induction i with
 |zero=>intro h;lia
 |succ i ih=>
  intro _ hi;have hp:S[i]?=some S[i]:=ze (by lia);generalize hpe:S[i]=p at hp;have pS:p∈S:=zW hp;have tk:S.take (i+1)=S.take i++[p]:=by rw[jS,hp];rfl
  have lt:∀v∈S.take i,Ah v p:=λv hv=>by obtain⟨j,hj,rfl⟩:=jP.mp hv;rw[zQ] at hj;rw[List.getElem_take,<-hpe];exact List.pairwise_iff_getElem.mp hS j i (by lia) (by lia) (by lia)
  have inT:∀v∈S,Ah v p->v∈S.take i:=λv hv h=>by
   obtain⟨j,hj,rfl⟩:=jP.mp hv;rcases Nat.lt_trichotomy j i with c|c|c
   .exact jP.mpr ⟨j,by rw[zQ];lia,List.getElem_take⟩
   .subst c;rw[hpe] at h;exact absurd h (Ah.irrefl p)
   .have:=List.pairwise_iff_getElem.mp hS i j (by lia) hj c;rw[hpe] at this;exact absurd h (fe (lp p pS) (lp _ hv) this)
  have pT:p∉S.take i:=λz=>Ah.irrefl p (lt p z);rw[tk,He];rcases Nat.eq_zero_or_pos i with z|ipos
  .subst z;rcases A with _|⟨h,t⟩
   .exact absurd rfl hne
   have eh:p=h:=by
    have hS':h∈S:=(hm h).mpr (by simp);refine jL λne=>?_;have ap:Ah h p:=U.least h (t++x::B) rfl p (by
     have:=(hm p).mp pS;rcases xR.mp (show p∈h::(t++x::B) from this) with e|e
     .exact absurd e ne
     .exact e)
    have:=inT h hS' ap;simp at this
   subst eh;refine⟨[p],t++[x],⟨rfl,by simp,λv hv=>by simpa using hv,λv hv z=>?_,.inl rfl⟩⟩;have z:v=p:=by simpa using z
   subst z;have nd':(v::(t++x::B)).Nodup:=nd;rw[kE] at nd';exact nd'.1 (by
    rcases xU.mp hv with q|q
    .exact yF _ q
    .rw[yS.mp q];simp)
  obtain⟨A1,A2,Hf⟩:=ih ipos (by lia);obtain⟨A'',a,ea⟩:∃A'' a,A1=A''++[a]:=by
   rcases l9 A1 with e|⟨A'',a,e⟩
   .exact absurd e Hf.ne
   .exact⟨A'',a,by rw[e,l6]⟩
  have top:∀ {b:R3},det a b p<0->zd A1.reverse p=A1.reverse->zd (b::A1.reverse) p=A1.reverse:=λ {b} hd hst=>by rw[ea,ir] at hst ⊢;exact(Nb hd).trans hst
  rcases xU.mp (show p∈(A++[x])++B by rw[<-el];exact(hm p).mp pS) with hpA|hpB
  .rw[Hf.cut] at hpA;have hp2:p∈A2:=(xU.mp hpA).resolve_left λz=>pT (Hf.inT p z);rcases A2 with _|⟨q,A3⟩
   .simp at hp2
   have eq:p=q:=by refine jL λne=>?_;have p3:p∈A3:=(xR.mp hp2).resolve_left ne;have rr:=rise;rw[Hf.cut,iq,jQ] at rr;have qp:=rr.2.1.1 p p3;have qS:q∈S:=(hm q).mpr (by rw[el,Hf.cut];simp);exact Hf.out q xS (inT q qS qp)
   subst eq;have ll:A++x::B=A1++p::(A3++B):=by rw[el,Hf.cut];simp
   have stay:zd A1.reverse p=A1.reverse:=Dl λA' a' a e=>U.ccw.tri a' a p (aw (l1:=A') (l2:=[]) (l3:=[]) (l4:=A3++B) (by rw[ll,e];simp));have go:zd (zw (S.take i)) p=A1.reverse:=by
    rcases Hf.st with e|⟨b,hb,_,e,_⟩
    .rw[e];exact stay
    .rw[e];refine top ?_ stay;obtain⟨u1,u2,eb⟩:=dz hb;have:=U.ccw.tri a p b (aw (l1:=A'') (l2:=[]) (l3:=A3++u1) (l4:=u2) (by rw[ll,ea,eb];simp));rw[Be];lia
   refine⟨A1++[p],A3,⟨by rw[Hf.cut];simp,by simp,λv hv=>?_,λv hv z=>?_,.inl (by rw[go,ir];rfl)⟩⟩
   .rcases xU.mp hv with q|q
    .exact yF _ (Hf.inT v q)
    .exact zf _ q
   .rcases xU.mp z with q|q
    .exact Hf.out v (yV _ hv) q
    .rw[yS.mp q] at hv;rw[ll,jh] at nd;have:=nd.2.1;rw[kE] at this;exact this.1 (yF _ hv)
  .obtain⟨u1,u2,eb⟩:=dz hpB;have ll:A++x::B=A1++(A2++(u1++p::u2)):=by rw[el,Hf.cut,eb];simp
   have stay:zd A1.reverse p=A1.reverse:=Dl λA' a' a e=>U.ccw.tri a' a p (aw (l1:=A') (l2:=[]) (l3:=A2++u1) (l4:=u2) (by rw[ll,e];simp));have go:zd (zw (S.take i)) p=A1.reverse:=by
    rcases Hf.st with e|⟨b,hb,hbT,e,_⟩
    .rw[e];exact stay
    .rw[e];refine top ?_ stay;have bp:=lt b hbT;have b2:b∈u2:=by
      rw[eb] at hb;rcases xU.mp hb with q|q
      .rw[eb,iq] at fall;have:=fall.2.2 b q p xS;exact absurd bp (fe (lp p pS) (lp b (vN hbT)) this)
      .rcases xR.mp q with e|e
       .rw[e] at bp;exact absurd bp (Ah.irrefl p)
       .exact e
     obtain⟨v1,v2,ev⟩:=dz b2;have:=U.ccw.tri a p b (aw (l1:=A'') (l2:=A2++u1) (l3:=v1) (l4:=v2) (by rw[ll,ea,ev];simp));rw[Be];lia
   refine⟨A1,A2,⟨Hf.cut,Hf.ne,λv hv=>yF _ (Hf.inT v hv),λv hv z=>?_,.inr ⟨p,hpB,by simp,by rw[go],λv hv=>?_⟩⟩⟩
   .rcases xU.mp z with q|q
    .exact Hf.out v hv q
    .rw[yS.mp q] at hv;rw[el,Hf.cut,jh] at nd;exact nd.2.2 p (zf _ hv) p hpB rfl
   .rcases xU.mp hv with q|q
    .exact .inr (lt v q)
    .exact .inl (yS.mp q)
def Up.low (U:Up A x B)(hne:A≠[])(hS:S.Pairwise Ah)(hm:∀v,v∈S↔v∈A++x::B):zw S=(A++[x]).reverse:=by
 have ne:S≠[]:=λz=>by have:=(hm x).mpr (by simp);rw[z] at this;simp at this
 obtain⟨A1,A2,Hf⟩:=U.chain hne hS hm S.length (FH.mpr ne) (xY _);rw[gQ] at Hf;have e2:A2=[]:=by
  rcases A2 with _|⟨q,A3⟩
  .rfl
  .exact absurd ((hm q).mpr (by rw[show A++x::B=(A++[x])++B by simp,Hf.cut];simp)) (Hf.out q xS)
 have cut:=Hf.cut;rw[e2,ub] at cut;rw[cut];rcases Hf.st with e|⟨b,hb,_,_,most⟩
 .exact e
 .exfalso;have bx:=U.most b (zf _ hb);rcases most x ((hm x).mpr (by simp)) with z|z
  .rw[z] at bx;exact Ah.irrefl _ bx
  .exact fe (U.pos b (by simp[hb])) (U.pos x (by simp)) bx z
end
def refl (v:R3):R3:=(-v.1,-v.2.1,v.2.2)
def DX (v:R3):refl (refl v)=v:=by simp[refl]
def DW {v w:R3}(h:refl v=refl w):v=w:=by rw[<-DX v,h,DX]
def Bf (a b c:R3):det (refl a) (refl b) (refl c)=det a b c:=by simp only[det,refl];grind
def nh {a b:R3}:Ah (refl a) (refl b)↔Ah b a:=by
 unfold Ah refl;simp only;rw[kD,kD,kD,kD];constructor
 .rintro(h|⟨h1,h2⟩)
  .exact .inl (by lia)
  .exact .inr ⟨by lia,by lia⟩
 .rintro(h|⟨h1,h2⟩)
  .exact .inl (by lia)
  .exact .inr ⟨by lia,by lia⟩
theorem Dk (p:R3):∀s:List R3,zd (s.map refl) (refl p)=(zd s p).map refl
 |[]=>rfl
 |[_]=>rfl
 |b::a::s=>by
  show zd (refl b::refl a::s.map refl) (refl p)=_;unfold zd;rw[Bf];split
  .rfl
  .exact Dk p (a::s)
def Hd (ps:List R3):zw (ps.map refl)=(zw ps).map refl:=by
 have go:∀(ps s:List R3),(ps.map refl).foldl (λs p=>p::zd s p) (s.map refl)=(ps.foldl (λs p=>p::zd s p) s).map refl:=λps=>by
  induction ps with
  |nil=>exact λs=>rfl
  |cons p ps ih=>intro s;rw[uc,qi,qi,Dk];exact ih (p::zd s p)
 exact go ps []
theorem Cu:∀ {l k:List R3},l.map refl=k.map refl->l=k
 |[],[],_=>rfl
 |[],_::_,h=>by simp at h
 |_::_,[],h=>by simp at h
 |a::l,b::k,h=>by rw[uc,uc] at h;injection h with h1 h2;rw[DW h1,Cu h2]
theorem Ccw.refl {l:List R3}(h:Ccw l):Ccw (l.map Pol.refl) where
 tri:=λu v w s=>by
  obtain⟨k,hk,e⟩:=List.sublist_map_iff.mp s;rcases k with _|⟨a,_|⟨b,_|⟨c,_|⟨d,k⟩⟩⟩⟩
  .simp at e
  .simp at e
  .simp at e
  .simp only[uc,gN,List.cons.injEq,and_true] at e;obtain⟨rfl,rfl,rfl⟩:=e;rw[Bf];exact h.tri a b c hk
  .simp at e
 nd:=by rw[List.Nodup,List.pairwise_map];exact h.nd.imp λ {a b} n e=>n (DW e)
def Nv {l S:List R3}(C:Ccw l)(pos:∀v∈l,0<v.2.2)(least:∀h t,l=h::t->∀v∈t,Ah h v)(h2:2<=l.length)(hS:S.Pairwise Ah)(hm:∀v,v∈S↔v∈l) :
  (zw S).reverse.take ((zw S).length-1)++(zw S.reverse).reverse.take ((zw S.reverse).length-1)=l:=by
 obtain⟨S',x,rfl⟩:∃S' x,S=S'++[x]:=by
  rcases l9 S with e|⟨S',x,e⟩
  .exfalso;rcases l with _|⟨a,l⟩
   .simp at h2
   .have:=(hm a).mpr xS;rw[e] at this;simp at this
  .exact⟨S',x,by rw[e,l6]⟩
 obtain⟨A,B,rfl⟩:=dz ((hm x).mp (by simp));have nd:=C.nd;have most:∀v∈A++B,Ah v x:=λv hv=>by
  have vl:v∈A++x::B:=by
   rcases xU.mp hv with q|q
   .exact yF _ q
   .exact zf _ (yV _ q)
  have ne:v≠x:=λe=>by
   subst e;rw[jh] at nd;rcases xU.mp hv with q|q
   .exact nd.2.2 v q v xS rfl
   .exact(kE.mp nd.2.1).1 q
  rcases xU.mp ((hm v).mpr vl) with q|q
  .exact(iq.mp hS).2.2 v q x (by simp)
  .exact absurd (yS.mp q) ne
 have U:Up A x B:=⟨C,pos,least,most⟩
 have hne:A≠[]:=λe=>by
  subst e;rcases B with _|⟨b,B⟩
  .simp at h2
  .have a:=least x (b::B) rfl b xS;have b':=most b (by simp);exact fe (pos x (by simp)) (pos b (by simp)) a b'
 have low:=U.low hne hS hm;rcases A with _|⟨h,t⟩
 .exact absurd rfl hne
 have U':Up ((x::B).map Pol.refl) (Pol.refl h) (t.map Pol.refl):=by
  have el:(x::B).map Pol.refl++Pol.refl h::t.map Pol.refl=((x::B)++(h::t)).map Pol.refl:=by rw[zR];rfl
  refine⟨by rw[el];exact(Ccw.rot (a:=h::t) (b:=x::B) C).refl,λv hv=>?_,λh' t' e v hv=>?_,λv hv=>?_⟩
  .rw[el] at hv;obtain⟨w,hw,rfl⟩:=wN.mp hv;exact pos w (by
    rcases xU.mp hw with q|q
    .exact zf _ q
    .exact yF _ q)
  .have e:Pol.refl x::(B.map Pol.refl++Pol.refl h::t.map Pol.refl)=h'::t':=e;injection e with e1 e2;subst e1 e2;rw[show B.map Pol.refl++Pol.refl h::t.map Pol.refl=(B++h::t).map Pol.refl by rw[zR];rfl] at hv;obtain⟨w,hw,rfl⟩:=wN.mp hv;rw[nh];exact most w (by
    rcases xU.mp hw with q|q
    .exact zf _ q
    .exact yF _ q)
  .rw[<-zR] at hv;obtain⟨w,hw,rfl⟩:=wN.mp hv;rw[nh];exact least h (t++x::B) rfl w (by
    rcases xU.mp hw with q|q
    .exact zf _ q
    .exact yF _ q)
 have hi:=U'.low (S:=((S'++[x]).reverse).map Pol.refl) (by simp) (by
  rw[List.pairwise_map,List.pairwise_reverse];exact hS.imp λ {a b} q=>nh.mpr q) (λv=>by
  rw[wN,show(x::B).map Pol.refl++Pol.refl h::t.map Pol.refl=((x::B)++(h::t)).map Pol.refl by rw[zR];rfl,wN];refine exists_congr λw=>and_congr_left λ_=>?_;rw[List.mem_reverse,hm w,xU,xU,Or.comm])
 rw[Hd,show(x::B).map Pol.refl++[Pol.refl h]=((x::B)++[h]).map Pol.refl by rw[zR];rfl,<-List.map_reverse] at hi;have hi:=Cu hi;rw[low,hi,List.reverse_reverse,List.reverse_reverse,qN,qN,za,za,vm,Nat.add_sub_cancel];rw[show([h]:List R3).length=1 from rfl,Nat.add_sub_cancel,List.take_left,List.take_left]
end Pol
namespace L2
open PySem PySem.Spec PyProof.Rows
section
variable {K:xo} {B:FB} {φ:yX} {σ:St} {τ:xQ} {H:Hp}
end
section
variable {P:Program} {w:World} {K:xo} {mg:Str->Option Value} {base:Heap} {k n g:Nat} {x qual gx:Str} {st:Stmt} {f c:Addr} {fd:FuncData} {N ps:List Str} {fr:Bool} {sp:ym}
end
section
variable {K:xo}
end
open AutoSeq1 (wpAny_loadPart') in
def OI (l:Addr)(items:Array Value)(n:Nat)(dd:Option Addr)(sl:Array (Option Value))(u:Tok) :
  Meets (Builtin.«tuple.__mul__» ⟨[.ref l,.int 1 u],[]⟩) (λ_ R s=>s.heap.get? l=some {cls:=.type "tuple", dict:=dd,data:=.seq items n,slots:=sl}/\R (.ok (.ret (.ref l))) s):=
 .of_wp λprog w A R s h=>by
  obtain⟨hp,g,d,tk,os⟩:=s;obtain⟨hl,h⟩:=h;have f1:=AutoSeq1.idx_int
  wp_walk using vo hl
  exact⟨_,rfl,h⟩
section
variable {X:Cx}
def DL (K:xo):R2:=λx y H Q=>∃a xs,x=.ref a/\y=.int 1/\yy K H a xs/\Q (.ref a) H
def LZ:y9 X (binaryOp .Mult) (DL X.K):=by
 intro xg s σ H x y v u Q I rx ry h;obtain⟨a,xs,rfl,rfl,ha,q⟩:=h;cases rx;obtain⟨t,rfl⟩:=ry;obtain⟨xj,r,p1,_⟩:=I.tuple ha;obtain⟨⟨cls,dd,data,sl⟩,ho,hc,n,hd⟩:=id p1;simp only at hc hd;subst hc hd;exact Gb (T := "tuple") (U := "int") (by decide) ⟨_,ho,rfl⟩ (λs'=>dI s' 1 t) CF F.fills_int_mul aC D7 Fs.lookup
  (jj aC (dI s 1 t) Fq (Fp _ _) (B5 1 t a xj.toArray n dd sl) ⟨ho,rfl,⟨_,ho,rfl⟩,jj lQ ⟨_,ho,rfl⟩ F.entry_tuple_mul (F.args_tuple_mul_2 _ _) (OI a xj.toArray n dd sl t) ⟨ho,⟨.ref a,H,I,rfl,q⟩⟩⟩)
def DH (K:xo):R2:=λx y H Q=>pJ K x y H Q\/DL K x y H Q
def LY (K:xo)(e:X.K=K:=by rfl):y9 X (binaryOp .Mult) (DH K):=by subst e;exact(gu X.K).or LZ
end
section
variable {K:xo}
def n6 (x y:Tr)(KK:Tr->Prop):Prop:=match x,y with
 |.tup ts,.int k=>ts≠[]/\(1<=k/\k<2^63)/\ts.length*k.toNat<=sizeLine/\KK (.tup (List.replicate k.toNat ts).flatten)
 |_,_=>False
def Ln {b:Bool}{ta tb:TE}{da db:DE}(ha:xJ K b ta da)(hb:xJ K b tb db):xJ K b (tOp (DH K) ta tb) (d2 n6 da db):=λB φ σ τ H Q KK R hd q=>
 ha B φ σ τ H _ _ R hd λt v H1 x1 k1 r1=>hb B φ σ τ H1 _ _ (R.hx x1) k1 λu w H2 x2 k2 r2=>by
  have r1':=x2.rep (λa s=>R.sB s) r1;have x:=x1.trans x2
  replace k2:n6 t u KK:=k2
  unfold n6 at k2;split at k2
  .rename_i ts k;obtain⟨a,ws,e,n,ha',rl⟩:=id r1';obtain⟨h0,⟨h1,h2⟩,h3,kk⟩:=k2;rcases Int.lt_or_eq_of_le h1 with c|c
   .refine .inl (.inr (.inr ⟨a,k,ws,e,r2,yy.of ha',λz=>h0 ?_,by lia,h2,by rw[<-rl.len];exact h3,λp hp=>q _ _ _ (x.trans (HX.new (R.hx x) hp _)) kk ⟨p,_,rfl,λz=>(R.hx x).domB z hp,yU,qb hp (sW rl _)⟩⟩));have:=rl.len;rw[z] at this;exact jg.mp this
   .subst c;refine .inr ⟨a,ws,e,r2,yy.of ha',?_⟩;have e1:(List.replicate (1:Int).toNat ts).flatten=ts:=by simp
    rw[e1] at kk;rw[<-e];exact q _ _ H2 x kk r1'
  .exact k2.elim
end
end L2
namespace L2
open PySem Trn
def lin (k:Pol.R3->Int)(xf:List Pol.R3)(ns:List Int):Int:=((xf.zip ns).map λx=>x.2*k x.1).sum
end L2
namespace L2
open PySem PySem.Spec PyProof.Rows
open Builtin.SmallTypes (nextOf)
section
variable {prog:Program} {w:World} {A:Around} {E:Value->Shared->Prop} {s:Shared} {z ti to i1 i2 i3 a1 a2 a3:Addr} {vs us ws:List Value} {t1 t2 t3:Nat->Heap->Prop} {s1 s2 s3:Heap->Prop}
end
end L2
namespace L2
open PySem PySem.Spec PyProof.Rows
section
variable {prog:Program} {w:World} {A:Around} {E:Value->Shared->Prop} {s:Shared}
end
section
variable {P:Program} {w:World} {K:xo} {z ti to i1 i2 i3 a1 a2 a3:Addr} {b c' e':Bool}
end
section
variable {X:Cx}
end
section
variable {K:xo}
end
open Builtin.SmallTypes (nextOf)
section
variable {prog:Program} {w:World} {A:Around} {E:Value->Shared->Prop} {s:Shared} {z ti to i1 i2 a1 a2:Addr} {vs us:List Value} {t1 t2:Nat->Heap->Prop} {s1 s2:Heap->Prop}
end
section
variable {P:Program} {w:World} {K:xo} {z ti to i1 i2 a1 a2:Addr} {b c':Bool}
end
section
variable {X:Cx}
end
end L2
namespace L2
open PySem Trn
end L2
namespace L2
open PySem PySem.Spec PySem.Calls PyProof.Rows
section
variable {X:Cx} {xg:List (Addr×Obj)} {σ:St} {H H':Hp} {s s':Shared} {ea C:Addr}
end
end L2
namespace L2
open PySem PySem.Spec PyProof.Rows
section
variable {X:Cx} {a b:Expr} {rest:List Expr} {ta tb:TE} {pos:Pos}
def E5 (K:xo)(ta:TE):TT:=λσ H Q=>ta σ H λx H'=>∃k,aU K x H' k/\Q k H'
def pE (K:xo)(ha:PE X a ta)(he:∀whole,isTrue a X.env whole=(do let v <-whole;standAt a.pos;holding [v] (truthy v)):=by exact λ_=>rfl)(e:X.K=K:=by rfl):PT X a (E5 K ta):=by subst e;exact Nh ha he
end
def trT:Tr->Option Bool
 |.non=>some false
 |.bl b=>some b
 |.int i=>some (i != 0)
 |.tup ts=>some (!ts.isEmpty)
 |.lst ts=>some (!ts.isEmpty)
 |.emp=>some false
 |.dic _ _ _=>none
 |.str y=>if y.length<=sizeLine then some ((y.length:Int) != 0) else none
section
variable {K:xo} {fr:Bool}
def D0 {F:Addr->Prop}{H:Hp}{ts:List Tr}{ws:List V}(h:xZ F H ts ws):(!ts.isEmpty) = !ws.isEmpty:=by have:=h.len;cases ts<;>cases ws<;>simp_all
theorem OE {F:Addr->Prop}{H:Hp}{t:Tr}{v:V}{k:Bool}(r:Rep F H t v)(h:trT t=some k):aU K v H k:=by
 cases t with
 |non=>cases (show v=.non from r);cases h;rfl
 |bl b=>cases (show v=.bl b from r);cases h;rfl
 |int i=>cases (show v=.int i from r);cases h;rfl
 |str x=>
  cases (show v=.str x from r);have h:(if x.length<=sizeLine then some ((x.length:Int) != 0) else none)=some k:=h;split at h
  .rename_i e;cases h;exact⟨e,rfl⟩
  .cases h
 |emp=>obtain⟨p,e,_,hp⟩:=r;subst e;cases h;exact .inr (.inr ⟨[],hp,rfl⟩)
 |tup ts=>obtain⟨p,ws,e,_,hp,rl⟩:=r;subst e;cases h;exact .inr (.inl ⟨ws,yy.of hp,D0 rl⟩)
 |lst ts=>obtain⟨p,ws,e,_,hp,rl⟩:=r;subst e;cases h;exact .inl ⟨ws,ye.of hp,D0 rl⟩
 |dic o ks ts=>cases h
def HM (d:DE):DT:=λτ KK=>d τ λx=>match trT x with|some k=>KK k|none=>False
def cV {b:Bool}{te:TE}{d:DE}(h:xJ K b te d):OkT K (E5 K te) (HM d):=λB φ σ τ H Q KK R hd q=>
 h B φ σ τ H _ _ R hd λt v H1 x1 k1 r1=>by
  split at k1
  .rename_i k e;exact⟨k,OE r1 e,q _ H1 x1 k1⟩
  .exact k1.elim
end
section
variable {P:Program} {w:World} {K:xo} {mg:Str->Option Value} {base:Heap} {k n:Nat} {x qual:Str} {st:Stmt} {f:Addr} {fd:FuncData} {N ps:List Str} {fr:Bool} {sp:ym}
end
end L2
namespace L2
open PySem
def BJ:Tr->F2
 |.tup [.int a,.int b]=>(a,b)
 |_=>(0,1)
def Fg:Tr->List F2
 |.tup us=>us.map BJ
 |_=>[]
def lJ (ws:List F2):Fg (wsT ws)=ws:=by show(ws.map fT).map BJ=ws;rw[uP];exact(List.map_congr_left (g:=id) λw _=>rfl).trans (List.map_id _)
theorem hZ.ws {xf:List Pol.R3}{ws:List F2}(hf:zY xf=true)(h:GW xf.length ws):WS xf ws:=⟨h.1.symm,(hZ hf).1.2,λr hr=>rE ((hZ hf).2.1 r hr).2,h.2⟩
def Mv:ym:=λts KK=>∃t,ts=[t]/\KK (.bl (uh t))
def aV {n:Nat}{us:List Tr}(h:us.length≠n):va n (.tup us)=false:=by show(decide (us.length=n)&&us.all wtT)=false;rw[wX h,qg]
def Af {n:Nat}{us:List Tr}{u:Tr}(hu:u∈us)(h:wtT u=false):va n (.tup us)=false:=by show(decide (us.length=n)&&us.all wtT)=false;rw[Bool.and_eq_false_iff];exact .inr (Bool.eq_false_iff.mpr λz=>by have:=jN.mp z u hu;rw[h] at this;cases this)
def lM {u:Tr}:wtT u=(uh u&&match u with|.tup [.int a,.int _]=>decide (0<=a)|_=>false):=by
 unfold wtT uh;split
 .rfl
 .first
  |rfl
  | (rename_i h
     split
     .rename_i a b;exact absurd rfl (h a b)
     .rfl)
def Jr {u:Tr}(h:uh u=true):∃a b:Int,u=.tup [.int a,.int b]:=by
 unfold uh at h;split at h
 .exact⟨_,_,rfl⟩
 .cases h
end L2
namespace Pol
def sw (p:R3):R3:=(p.2.1,p.1,p.2.2)
end Pol
namespace L2
open PySem PySem.Spec PyProof.Rows
section
variable {xf:List Pol.R3} (FR:qk xf) {r v:Pol.R3} (hr:r∈xf) (hv:v∈uv xf) (ht:IJ r (yE v)=true)
include FR hr
include hv ht
end
end L2
namespace L2
open PySem Trn
end L2
namespace Pol
theorem Cz {d:R3}:∀l:List R3,l≠[]->(∀r∈l,0<turn r d)->∃i∈l,∀r∈l,turn i r<=0
 |[],h,_=>absurd rfl h
 |x::l,_,h=>by
  by_cases e:l=[]
  .subst e;exact⟨x,xS,λr hr=>by rw[yS.mp hr];simp only[turn];grind⟩
  obtain⟨i,hi,hm⟩:=Cz l e λr hr=>h r (yV _ hr);have self:turn x x<=0:=by simp only[turn];grind
  by_cases c:turn i x<=0
  .exact⟨i,yV _ hi,λr hr=>(xR.mp hr).elim (λz=>by rw[z];exact c) (hm r)⟩
  .refine⟨x,xS,λr hr=>(xR.mp hr).elim (λz=>by rw[z];exact self) λhr=>?_⟩;have p:=plk i x r d;have hx:=h x xS;have hi':=h i (yV _ hi);have hr':=h r (yV _ hr);have a:0<=turn i x*turn r d:=pz (by lia) (by lia);have b:0<=-turn i r*turn x d:=pz (by have:=hm r hr;lia) (by lia);rw[kD] at b;exact Dm hi' (by lia)
def IB {xf:List R3}(gr:GR xf){d:R3}(d0:d.1≠0\/d.2.1≠0)(hd:∀r∈xf,turn r d≠0)(r0:∀r∈xf,r.1≠0\/r.2.1≠0):∃i∈xf,∃j∈xf,0<turn i j/\0<turn i d/\0<turn d j:=by
 obtain⟨x,hx,px⟩:=gr d.2.1 (-d.1) (by lia);have ex:0<turn x d:=by simp only[turn];rw[gJ] at px;lia
 obtain⟨i,hi,hm⟩:=Cz (d:=d) (xf.filter λr=>decide (0<turn r d)) (λz=>by have:x∈xf.filter λr=>decide (0<turn r d):=vM.mpr ⟨hx,wO ex⟩;rw[z] at this;simp at this) λr hr=>zr (vM.mp hr).2;obtain⟨hi,pi⟩:=vM.mp hi;have pi:=zr pi;obtain⟨j,hj,pj⟩:=gr (-i.2.1) i.1 (by have:=r0 i hi;lia);have ej:0<turn i j:=by simp only[turn];rw[gJ,gI j.1,gI j.2.1] at pj;lia
 refine⟨i,hi,j,hj,ej,pi,?_⟩;have n:=hd j hj;have a:=dS d j;rcases zy 0 (turn j d) with c|c
 .have:=hm j (vM.mpr ⟨hj,wO c⟩);lia
 .lia
theorem Cy {α:Type}(N T:α->Int):∀l:List α,l≠[]->(∀x∈l,0<T x)->∃m∈l,∀x∈l,N m*T x<=N x*T m
 |[],h,_=>absurd rfl h
 |x::l,_,h=>by
  by_cases e:l=[]
  .subst e;exact⟨x,xS,λr hr=>by rw[yS.mp hr];exact uq _⟩
  obtain⟨m,hm,hl⟩:=Cy N T l e λr hr=>h r (yV _ hr);by_cases c:N m*T x<=N x*T m
  .exact⟨m,yV _ hm,λr hr=>(xR.mp hr).elim (λz=>by rw[z];exact c) (hl r)⟩
  .refine⟨x,xS,λr hr=>(xR.mp hr).elim (λz=>by rw[z];exact uq _) λhr=>?_⟩;have tx:=h x xS;have tm:=h m (yV _ hm);have tr:=h r (yV _ hr);have a:=hl r hr;have b:N x*T m*T r<=N m*T x*T r:=qL (by lia) (by lia);have c':N m*T r*T x<=N r*T m*T x:=qL a (by lia);refine Int.le_of_mul_le_mul_right (a:=T m) ?_ tm;have e1:N x*T m*T r=N x*T r*T m:=by grind
   have e2:N m*T x*T r=N m*T r*T x:=by grind
   have e3:N r*T m*T x=N r*T x*T m:=by grind
   lia
def dN (d i j:R3):Int:=turn d j*i.2.2+turn i d*j.2.2
def nL {i j:R3}(h:0<turn i j):zj i j=(i.2.2*j.2.1-i.2.1*j.2.2,i.1*j.2.2-i.2.2*j.1,turn i j):=by unfold zj;rw[xG (by lia)]
def M6 {d i j k:R3}(h:0<turn i j):dN d i j*turn k j-dN d k j*turn i j=turn d j*val k (zj i j):=by rw[nL h];simp only[dN,turn,val];grind
def M7 {d i j k:R3}(h:0<turn i j):dN d i j*turn i k-dN d i k*turn i j=turn i d*val k (zj i j):=by rw[nL h];simp only[dN,turn,val];grind
def Kg {i j k w:R3}(h:0<turn i j):turn i j*val k w=turn k j*val i w+turn i k*val j w+w.2.2*val k (zj i j):=by rw[nL h];simp only[turn,val];grind
def GP {xf:List R3}(gr:GR xf){d:R3}(d0:d.1≠0\/d.2.1≠0)(hd:∀r∈xf,turn r d≠0)(r0:∀r∈xf,r.1≠0\/r.2.1≠0){w:R3}(hw:0<w.2.2)(kw:∀r∈xf,val r w<=0):∃i∈xf,∃j∈xf,(0<turn i j/\0<turn i d/\0<turn d j)/\∀r∈xf,val r (zj i j)<=0:=by
 obtain⟨i,hi,j,hj,hp⟩:=IB gr d0 hd r0
 let P:=(xf.flatMap λi=>xf.map λj=>(i,j)).filter λp=>decide (0<turn p.1 p.2/\0<turn p.1 d/\0<turn d p.2)
 have mP:∀p:R3×R3,p∈P↔(p.1∈xf/\p.2∈xf)/\(0<turn p.1 p.2/\0<turn p.1 d/\0<turn d p.2):=λp=>by
  show p∈List.filter _ _↔_;rw[vM,gT,List.mem_flatMap];refine and_congr_left λ_=>⟨λ⟨a,ha,hm⟩=>?_,λ⟨a,b⟩=>⟨p.1,a,wN.mpr ⟨p.2,b,rfl⟩⟩⟩
  obtain⟨b,hb,rfl⟩:=wN.mp hm;exact⟨ha,hb⟩
 obtain⟨m,hm,hmin⟩:=Cy (λp:R3×R3=>dN d p.1 p.2) (λp=>turn p.1 p.2) P (λz=>by have:=(mP (i,j)).mpr ⟨⟨hi,hj⟩,hp⟩;rw[z] at this;simp at this) λx hx=>((mP x).mp hx).2.1;obtain⟨⟨mi,mj⟩,t1,t2,t3⟩:=(mP m).mp hm;obtain⟨i,j⟩:=m;refine⟨i,mi,j,mj,⟨t1,t2,t3⟩,λk hk=>?_⟩;simp only at *
 refine jL λno=>?_;have no:0<val k (zj i j):=by lia
 have id:turn k d*turn i j=turn k j*turn i d-turn i k*turn d j:=by simp only[turn];grind
 have nd:=hd k hk;have ad:=dS d k;have byJ:0<turn k j->0<turn k d->False:=λa b=>by
  have:=hmin (k,j) ((mP _).mpr ⟨⟨hk,mj⟩,a,b,t3⟩);have e:=M6 (d:=d) (k:=k) t1;have:=pp t3 no;simp only at *
  lia
 have byI:0<turn i k->turn k d<0->False:=λa b=>by
  have:=hmin (i,k) ((mP _).mpr ⟨⟨mi,hk⟩,a,t2,show 0<turn d k by lia⟩);have e:=M7 (d:=d) (k:=k) t1;have:=pp t2 no;simp only at *
  lia
 by_cases t:0<turn k j
 .rcases zy 0 (turn k d) with c|c
  .exact byJ t c
  .by_cases s:0<turn i k
   .exact byI s (by lia)
   .have a:=pp t t2;have b:0<=-turn i k*turn d j:=pz (by lia) (by lia);rw[kD] at b;have:turn k d*turn i j<=0:=by have:=pz (a:=-turn k d) (b:=turn i j) (by lia) (by lia);rw[kD] at this;lia
    lia
 .by_cases s:0<turn i k
  .refine byI s ?_;rcases zy (turn k d) 0 with c|c
   .exact c
   .have a:=pp s t3;have b:0<=-turn k j*turn i d:=pz (by lia) (by lia);rw[kD] at b;have:=pz (a:=turn k d) (b:=turn i j) (by lia) (by lia);lia
  .have e:=Kg (k:=k) (w:=w) t1;have a:0<=turn k j*val i w:=nn (by lia) (kw i mi);have b:0<=turn i k*val j w:=nn (by lia) (kw j mj);have c:=pp hw no;have:=kw k hk;have:turn i j*val k w<=0:=by have:=pz (a:=turn i j) (b:=-val k w) (by lia) (by lia);rw[gJ] at this;lia
   lia
theorem Am (f:R3->Int):∀l:List R3,∃M:Int,0<M/\∀r∈l,f r<M/\-M<f r
 |[]=>⟨1,by decide,λr h=>by simp at h⟩
 |x::l=>by
  obtain⟨M,h0,h⟩:=Am f l;refine⟨M+(f x).natAbs,by lia,λr hr=>?_⟩;rcases xR.mp hr with rfl|hr
  .lia
  .have:=h r hr;lia
def GO {xf:List R3}(gr:GR xf){d:R3}(d0:d.1≠0\/d.2.1≠0)(r0:∀r∈xf,r.1≠0\/r.2.1≠0){w:R3}(hw:0<w.2.2)(kw:∀r∈xf,val r w<=0):∃i∈xf,∃j∈xf,(0<turn i j/\0<=turn i d/\0<=turn d j)/\∀r∈xf,val r (zj i j)<=0:=by
 obtain⟨M,h0,hM⟩:=Am (λr=>dot r d) xf;have tr:∀r:R3,turn r (M*d.1-d.2.1,M*d.2.1+d.1,0)=M*turn r d+dot r d:=λr=>by simp only[turn,dot];grind
 have step:∀r∈xf,(0<M*turn r d+dot r d->0<=turn r d)/\(M*turn r d+dot r d<0->turn r d<=0):=λr hr=>by
  have b:=hM r hr;refine⟨λz=>?_,λz=>?_⟩
  .rcases zy (turn r d) 0 with c|c
   .have:M*turn r d<=M*(-1):=aF (by lia) (by lia);lia
   .exact c
  .rcases zy 0 (turn r d) with c|c
   .have:M*1<=M*turn r d:=aF (by lia) (by lia);lia
   .exact c
 have nz:∀r∈xf,turn r (M*d.1-d.2.1,M*d.2.1+d.1,0)≠0:=λr hr z=>by
  rw[tr] at z;have b:=hM r hr;have t0:turn r d=0:=by
   rcases jd (turn r d) 0 with c|c|c
   .have:M*turn r d<=M*(-1):=aF (by lia) (by lia);lia
   .exact c
   .have:M*1<=M*turn r d:=aF (by lia) (by lia);lia
  rw[t0,u0,Int.zero_add] at z;have e:dot r r*dot d d=dot r d*dot r d+turn r d*turn r d:=by simp only[turn,dot];grind
  rw[z,t0] at e;have:=pp (rq (r0 r hr)) (rq d0);lia
 have d1:(M*d.1-d.2.1≠0\/M*d.2.1+d.1≠0):=by
  refine jL λno=>?_;have e1:M*d.1=d.2.1:=by lia
  have e2:M*d.2.1 = -d.1:=by lia
  have:=rq d0;have z:dot d d=0:=by
   have:dot d d=d.1*d.1+(M*d.1)*(M*d.1):=by unfold dot;rw[e1]
   have q:M*(M*d.1) = -d.1:=by rw[e1];exact e2
   have:(M*M+1)*d.1=0:=by grind
   rcases vk.mp this with y|y
   .have:=sq0 M;lia
   .unfold dot;rw[<-e1,y];simp
  lia
 obtain⟨i,hi,j,hj,⟨t1,t2,t3⟩,k⟩:=GP (d:=(M*d.1-d.2.1,M*d.2.1+d.1,0)) gr d1 nz r0 hw kw;refine⟨i,hi,j,hj,⟨t1,(step i hi).1 (by rw[<-tr];exact t2),?_⟩,k⟩;have a:=dS j (M*d.1-d.2.1,M*d.2.1+d.1,0);rw[a,tr] at t3;have:=(step j hj).2 (by lia);have:=dS j d;lia
end Pol
namespace L2
open PySem Trn
def IA {p q w:Pol.R3}(hp:0<p.2.2)(hq:0<q.2.2)(hw:0<w.2.2):rC (yE p) (yE q) (yE w)<=0↔det p q w<=0:=by
 unfold rC;have s:=(((sdx hq).minus (sdx hp)).times ((sdy hw).minus (sdy hp))).minus (((sdy hq).minus (sdy hp)).times ((sdx hw).minus (sdx hp)));have l:=s.le 0;rw[qh,qh] at l;rw[l];have D:0<q.2.2*p.2.2*(w.2.2*p.2.2):=Pol.pp (Pol.pp hq hp) (Pol.pp hw hp);have e:(q.1*p.2.2-p.1*q.2.2)*(w.2.1*p.2.2-p.2.1*w.2.2)*(q.2.2*p.2.2*(w.2.2*p.2.2))-(q.2.1*p.2.2-p.2.1*q.2.2)*(w.1*p.2.2-p.1*w.2.2)*(q.2.2*p.2.2*(w.2.2*p.2.2))
   = det p q w*(p.2.2*(q.2.2*p.2.2*(w.2.2*p.2.2))):=by unfold det;grind
 rw[e];have P:=Pol.pp hp D;generalize p.2.2*(q.2.2*p.2.2*(w.2.2*p.2.2))=M at P;have:=sJ (a:=det p q w) (b:=0) P;rw[qh] at this;exact this
def n9 {p q:Pol.R3}(hp:0<p.2.2)(hq:0<q.2.2):kK (yE p) (yE q)=true↔Ah p q:=by
 unfold kK Ah;have e:=Ie hp hq;have l1:=JU hp hq;have l2:=JV hp hq;split
 .rename_i h;have h:=e.mp h;rw[l2];constructor
  .exact λz=>.inr ⟨h,z⟩
  .rintro(z|z)
   .lia
   .exact z.2
 .rename_i h;rw[l1];constructor
  .exact λz=>.inl z
  .rintro(z|z)
   .exact z
   .exact absurd (e.mpr z.1) h
def u_ (ss:List Pol.R3)(p:Pol.R3):Nat:=(ss.filter λv=>kK (yE v) (yE p)).length
def Gp {ss:List Pol.R3}{p:Pol.R3}:u_ ss p<=ss.length:=List.length_filter_le _ _
theorem B4 {p:Pol.R3}(hp:0<p.2.2):∀ {ss:List Pol.R3},ss.Pairwise Ah->(∀v∈ss,0<v.2.2)->(∀v∈ss,Ah v p\/Ah p v)->(ss.take (u_ ss p)++[p]++ss.drop (u_ ss p)).Pairwise Ah
 |[],_,_,_=>by simp[u_]
 |a::t,h,pos,tot=>by
  have ha:=pos a xS;rw[jQ] at h;by_cases c:kK (yE a) (yE p)=true
  .have e:u_ (a::t) p=u_ t p+1:=by unfold u_;rw[ia (p:=λv=>kK (yE v) (yE p)) c,uA]
   have ih:=B4 hp h.2 (λv hv=>pos v (yV _ hv)) (λv hv=>tot v (yV _ hv));rw[e,List.take_succ_cons,List.drop_succ_cons,gM,gM,jQ];refine⟨λv hv=>?_,ih⟩;rcases xU.mp hv with hv|hv
   .rcases xU.mp hv with hv|hv
    .exact h.1 v (vN hv)
    .rw[yS.mp hv];exact(n9 ha hp).mp c
   .exact h.1 v (FL hv)
  .have pa:Ah p a:=(tot a xS).resolve_left λz=>c ((n9 ha hp).mpr z);have all:∀v∈a::t,Ah p v:=λv hv=>by
    rcases xR.mp hv with e|hv'
    .rw[e];exact pa
    .exact Ah.trans hp ha (pos v hv) pa (h.1 v hv')
   have e:u_ (a::t) p=0:=by unfold u_;rw[jg,List.filter_eq_nil_iff];exact λv hv z=>fe hp (pos v hv) (all v hv) ((n9 (pos v hv) hp).mp z)
   rw[e,List.take_zero,dA,vn];show(p::a::t).Pairwise Ah;rw[jQ];exact⟨all,jQ.mpr h⟩
def J9 {ss:List Pol.R3}{p v:Pol.R3}{k:Nat}:v∈ss.take k++[p]++ss.drop k↔v∈ss\/v=p:=by
 have:=mH k ss;rw[xU,xU,yS]
 conv=>rhs;lhs;rw[<-this,xU]
 constructor
 .rintro((z|z)|z)
  .exact .inl (.inl z)
  .exact .inr z
  .exact .inl (.inr z)
 .rintro((z|z)|z)
  .exact .inl (.inl z)
  .exact .inr z
  .exact .inl (.inr z)
def g9.tot {l:List Pol.R3}(hr:g9 l){p q:Pol.R3}(hp:p∈l)(hq:q∈l)(ne:p≠q):Ah p q\/Ah q p:=by
 rcases gF (Ah p q) with a|a
 .exact .inl a
 .rcases gF (Ah q p) with b|b
  .exact .inr b
  .exact absurd (pC (hr.pos p hp) (hr.pos q hq) (hr.prim p hp) (hr.prim q hq) (Ah.total a b)) ne
def Ez {ss:List Pol.R3}(h:ss.Pairwise Ah):ss.Nodup:=h.imp λ {a b} z e=>by rw[e] at z;exact Ah.irrefl _ z
def Nw {l ss:List Pol.R3}(hr:g9 l)(hs:ss.Pairwise Ah)(hm:∀v,v∈ss↔v∈l)(h3:ss.length<3):ss=l:=
 Ny hr (Ez hs) hm (λh t e v hv z=>by
  subst e;rcases xR.mp hv with e|hv'
  .rw[e] at z;exact Ah.irrefl _ z
  .exact fe (hr.pos h ((hm h).mp xS)) (hr.pos v ((hm v).mp hv)) ((jQ.mp hs).1 v hv') z) h3
def Nx {l ss:List Pol.R3}(hr:g9 l)(hs:ss.Pairwise Ah)(hm:∀v,v∈ss↔v∈l)(h3:¬ss.length<3) :
  (zw ss).reverse.take ((zw ss).length-1)++(zw ss.reverse).reverse.take ((zw ss.reverse).length-1)=l:=by
 have len:=Cq (Ez hs) hr.ccw.nd hm;refine Nv hr.ccw hr.pos (λh t e v hv=>?_) (by lia) hs hm;have nd:=hr.ccw.nd;rw[e,kE] at nd;rcases hr.tot (p:=h) (q:=v) (by rw[e];exact xS) (by rw[e];exact yV _ hv) (λz=>nd.1 (by rw[z];exact hv)) with z|z
 .exact z
 .exact absurd z (hr.least h t e v (by rw[e];exact yV _ hv))
open Pol in
theorem Dj {p x:R3}:∀ {s:List R3},x∈zd s p->x∈s
 |[],h=>h
 |[_],h=>h
 |b::a::s,h=>by
  unfold zd at h;split at h
  .exact h
  .exact yV _ (Dj h)
open Pol in
theorem pB {p:R3}:∀ {s:List R3},(zd s p).length<=s.length
 |[]=>xY _
 |[_]=>xY _
 |b::a::s=>by
  unfold zd;split
  .exact xY _
  .have:=pB (p:=p) (s:=a::s);simp only[uA] at *
   lia
def Hg {ps:List Pol.R3}{i:Nat}{p:Pol.R3}(h:ps[i]?=some p):zw (ps.take (i+1))=p::Pol.zd (zw (ps.take i)) p:=rD (λs p=>p::Pol.zd s p) [] h
def Hc {P:Pol.R3->Prop}{ps:List Pol.R3}(h:∀p∈ps,P p):∀x∈zw ps,P x:=by
 have go:∀(ps:List Pol.R3) (s:List Pol.R3),(∀p∈ps,P p)->(∀x∈s,P x)->∀x∈ps.foldl (λs p=>p::Pol.zd s p) s,P x:=λps=>by
  induction ps with
  |nil=>exact λs _ hs=>hs
  |cons p ps ih=>intro s hp hs;exact ih _ (λq hq=>hp q (yV _ hq)) λx hx=>(xR.mp hx).elim (λe=>by rw[e];exact hp p xS) λhx=>hs x (Dj hx)
 exact go ps [] h λx hx=>by simp at hx
def nB (ps:List Pol.R3):(zw ps).length<=ps.length:=by
 have go:∀(ps:List Pol.R3) (s:List Pol.R3),(ps.foldl (λs p=>p::Pol.zd s p) s).length<=s.length+ps.length:=λps=>by
  induction ps with
  |nil=>exact λs=>xY _
  |cons p ps ih=>intro s;have a:=ih (p::Pol.zd s p);have b:=pB (p:=p) (s:=s);rw[qi,uA];rw[uA] at a;lia
 have:=go ps [];rw[aK,Nat.zero_add] at this;exact this
def IM {r:Pol.R3}{p:P2}(hx:0<p.1.2)(hy:0<p.2.2):qv (wc (r.1,1) p.1) (wc (r.2.1,1) p.2)=vt r p:=by
 have e:∀(a:Int) (f:F2),0<f.2->wc (a,1) f=sC a f:=λa f h=>by unfold wc sC;rw[Int.one_mul,kR h]
 rw[e _ _ hx,e _ _ hy,IP hx hy];rfl
def IC {r:Pol.R3}{p:P2}:(!kM (r.2.2,1) (vt r p))=kL r p:=by unfold kM kL;rw[lO,Bool.not_eq_true',decide_eq_false_iff_not,mK];simp only[gK];lia
def SmR (r:Pol.R3):Prop:=(((-14<=r.1/\r.1<=14)/\(-14<=r.2.1/\r.2.1<=14))/\(-200<=r.2.2/\r.2.2<=200))/\(r.1≠0\/r.2.1≠0)
def LF.smr {xf:List Pol.R3}(h:LF xf){r:Pol.R3}(hr:r∈xf):SmR r:=⟨h.sm r hr,h.dir r hr⟩
def LF.grow {xf rows':List Pol.R3}(h:LF xf)(hl:rows'.length<=8)(l3:3<=rows'.length)(m:∀r∈xf,r∈rows')(hx:∀r∈rows',SmR r):LF rows' :=⟨l3,hl,λr hr=>(hx r hr).1,λr hr=>(hx r hr).2,λu v hn=>let ⟨r,hr,p⟩:=h.gr u v hn;⟨r,m r hr,p⟩,λp hz hk=>h.near p hz λr hr=>hk r (m r hr)⟩
def LF.snoc {xf:List Pol.R3}(h:LF xf)(l7:xf.length<=7){r:Pol.R3}(hr:SmR r):LF (xf++[r]):=by
 have:=h.l3;refine h.grow (by simp;lia) (by simp;lia) (λx hx=>yF _ hx) λx hx=>?_;rcases xU.mp hx with z|z
 .exact h.smr z
 .rw[yS.mp z];exact hr
def O8 (xf:List Pol.R3):List Pol.R3:=xf++List.replicate (8-xf.length) (xf.getD 0 (0,0,0))
def j0 (p:Pol.R3):Prop:=0<p.2.2/\yW 190 p
def Mp:ym:=λts KK=>∃ps:List Pol.R3,ts=[.lst (ps.map yi)]/\(∀p∈ps,j0 p)/\ps.length<=1000/\KK (.lst ((zw ps).reverse.map yi))
def Mw:ym:=λts KK=>∃(r:Pol.R3) (p:P2),ts=[xi r,pT p]/\yW 200 r/\Fk 200 p.1/\Fk 200 p.2/\KK (.bl (kL r p))
def C8:ym:=λts KK=>ts=[]/\∀xf,LF0 xf->xf.length<=7->KK (.lst (xf.map xi))
def Mu:ym:=λts KK=>ts=[]/\∀xf,LF xf->xf.length<=7->KK (.tup (xf.map xi))
end L2
namespace Pol
structure gW (r i j:R3)(t a b:Int):Prop where
 t0:0<t
 a0:0<=a
 b0:0<=b
 x:t*r.1+a*i.1+b*j.1=0
 y:t*r.2.1+a*i.2.1+b*j.2.1=0
 c:t*r.2.2+a*i.2.2+b*j.2.2<0
def gW.void {r i j p:R3}{t a b:Int}(C:gW r i j t a b)(pz':0<p.2.2)(kr:val r p<=0)(ki:a≠0->val i p<=0)(kj:b≠0->val j p<=0):False:=by
 have e:t*val r p+a*val i p+b*val j p=(t*r.1+a*i.1+b*j.1)*p.1+(t*r.2.1+a*i.2.1+b*j.2.1)*p.2.1-(t*r.2.2+a*i.2.2+b*j.2.2)*p.2.2:=by simp only[val];grind
 rw[C.x,C.y,qh,qh] at e;have h1:t*val r p<=0:=pn (yA C.t0) kr;have h2:a*val i p<=0:=by
  by_cases z:a=0
  .rw[z,qh];exact uq _
  .exact pn C.a0 (ki z)
 have h3:b*val j p<=0:=by
  by_cases z:b=0
  .rw[z,qh];exact uq _
  .exact pn C.b0 (kj z)
 have h4:0 < -(t*r.2.2+a*i.2.2+b*j.2.2)*p.2.2:=pp (by have:=C.c;lia) pz';rw[kD] at h4;lia
def ngd (r:R3):R3:=(-r.1,-r.2.1,0)
def Hb {S:List R3}{r w:R3}(gr:GR S)(dir:∀s∈S,s.1≠0\/s.2.1≠0)(rd:r.1≠0\/r.2.1≠0)(wz:0<w.2.2)(kw:∀s∈S,val s w<=0)(vd:∀p:R3,0<p.2.2->(∀s∈S,val s p<=0)->0<val r p) :
  ∃i∈S,∃j∈S,0<turn i j/\gW r i j (turn i j) (turn (ngd r) j) (turn i (ngd r)):=by
 obtain⟨i,hi,j,hj,⟨t1,t2,t3⟩,ku⟩:=GO (d:=ngd r) gr (by unfold ngd;simp only;lia) dir wz kw;obtain⟨uz,ui,uj⟩:=fh (show turn i j≠0 by lia);have vr:=vd _ uz ku;refine⟨i,hi,j,hj,t1,t1,t3,t2,?_,?_,?_⟩
 .simp only[turn,ngd];grind
 .simp only[turn,ngd];grind
 .generalize zj i j=u at *
  have e:turn i j*val r u+turn (ngd r) j*val i u+turn i (ngd r)*val j u = -(turn i j*r.2.2+turn (ngd r) j*i.2.2+turn i (ngd r)*j.2.2)*u.2.2:=by simp only[turn,ngd,val];grind
  rw[ui,uj,u0,u0] at e;have h:=pp t1 vr;generalize turn i j*r.2.2+turn (ngd r) j*i.2.2+turn i (ngd r)*j.2.2=s at *
  rcases zy s 0 with q|q
  .exact q
  .have:=pz q (yA uz);rw[kD] at e;lia
def jr {x y:Int}(hx:-30<=x/\x<=30)(hy:-1000<=y/\y<=1000):-30000<=x*y/\x*y<=30000:=by
 have key:∀ {x y:Int},0<=x->x<=30->-1000<=y/\y<=1000->-30000<=x*y/\x*y<=30000:=λ {x y} h0 h1 hy=>by have a:=aF hy.2 h0;have b:=aF hy.1 h0;lia
 rcases Int.le_total 0 x with q|q
 .exact key q hx.2 hy
 .have:=key (x:=-x) (y:=y) (by lia) (by lia) hy;rw[kD] at this;lia
def GQ {r i j:R3}(fr:zk r)(hi:i∈zG)(hj:zk j\/j∈zG)(C:gW r i j (turn i j) (turn (ngd r) j) (turn i (ngd r))):turn (ngd r) j=0:=by
 refine jL λz=>?_;obtain⟨t0,a0,b0,_,_,c⟩:=C;have a1:1<=turn (ngd r) j:=by lia
 generalize hA:turn (ngd r) j=A at *
 have m:60001<=A*60001:=by lia
 obtain⟨⟨r1,r2⟩,r3⟩:=fr;simp only[zG,yn,xR,yI,yJ] at hi;rcases hj with ⟨⟨j1,j2⟩,j3⟩|hj
 .have p1:=jr j1 r3;have p2:=jr j2 r3;have q1:=jr r1 j3;have q2:=jr r2 j3;rcases hi with rfl|rfl|rfl|rfl<;>simp only[turn,ngd] at t0 b0 c<;>grind
 .simp only[zG,yn,xR,yI,yJ] at hj;rcases hi with rfl|rfl|rfl|rfl<;>rcases hj with rfl|rfl|rfl|rfl<;>simp only[turn,ngd] at t0 b0 c<;>lia
def GS {r i j:R3}(fr:zk r)(hj:j∈zG)(hi:zk i\/i∈zG)(C:gW r i j (turn i j) (turn (ngd r) j) (turn i (ngd r))):turn i (ngd r)=0:=by
 refine jL λz=>?_;obtain⟨t0,a0,b0,_,_,c⟩:=C;have a1:1<=turn i (ngd r):=by lia
 generalize hA:turn i (ngd r)=A at *
 have m:60001<=A*60001:=by lia
 obtain⟨⟨r1,r2⟩,r3⟩:=fr;simp only[zG,yn,xR,yI,yJ] at hj;rcases hi with ⟨⟨j1,j2⟩,j3⟩|hi
 .have p1:=jr j1 r3;have p2:=jr j2 r3;have q1:=jr r1 j3;have q2:=jr r2 j3;rcases hj with rfl|rfl|rfl|rfl<;>simp only[turn,ngd] at t0 a0 c<;>grind
 .simp only[zG,yn,xR,yI,yJ] at hi;rcases hi with rfl|rfl|rfl|rfl<;>rcases hj with rfl|rfl|rfl|rfl<;>simp only[turn,ngd] at t0 a0 c<;>lia
theorem lI:∀(n:Nat) (core:List R3),core.length=n->(∀s∈core,s.1≠0\/s.2.1≠0)->(∀s∈core,zk s)->(∀p:R3,0<p.2.2->(∀s∈zG++core,val s p<=0)->False)->
  ∃r∈core,∃i j t a b,gW r i j t a b/\(a≠0->i∈core)/\(b≠0->j∈core)/\(a≠0->b≠0->0<turn i j)
 |0,core,hn,_,_,vd=>by have:core=[]:=jg.mp hn;subst this;refine(vd (0,0,1) (by decide) ?_).elim;decide
 |n+1,core,hn,dir,fr,vd=>by
  have ne:core≠[]:=λe=>by rw[e] at hn;simp at hn
  obtain⟨l,r,rfl⟩:∃l r,core=l++[r]:=⟨core.dropLast,core.getLast ne,(List.dropLast_concat_getLast ne).symm⟩
  have ll:l.length=n:=by rw[za,vm] at hn;lia
  have dl:∀s∈l,s.1≠0\/s.2.1≠0:=λs hs=>dir s (yF _ hs);have fl:∀s∈l,zk s:=λs hs=>fr s (yF _ hs);by_cases q:∃w:R3,0<w.2.2/\∀s∈zG++l,val s w<=0
  .obtain⟨w,wz,kw⟩:=q;have gr:GR (zG++l):=λu v h=>by
    rcases jd u 0 with a|a|a
    .exact⟨(-1,0,yn),by simp[zG],by simp only;lia⟩
    .rcases jd v 0 with b|b|b
     .exact⟨(0,-1,yn),by simp[zG],by simp only;lia⟩
     .lia
     .exact⟨(0,1,yn),by simp[zG],by simp only;lia⟩
    .exact⟨(1,0,yn),by simp[zG],by simp only;lia⟩
   have db:∀s∈zG++l,s.1≠0\/s.2.1≠0:=λs hs=>by
    rcases xU.mp hs with hs|hs
    .exact(by decide:∀s∈zG,s.1≠0\/s.2.1≠0) s hs
    .exact dl s hs
   have fr':=fr r (zf _ xS);obtain⟨i,hi,j,hj,t1,C⟩:=Hb gr db (dir r (zf _ xS)) wz kw λp pz' kp=>by
    refine jL λno=>vd p pz' λs hs=>?_;rw[<-qM] at hs;rcases xU.mp hs with hs|hs
    .exact kp s hs
    .rw[yS.mp hs];lia
   have kind:∀ {s},s∈zG++l->zk s\/s∈zG:=λhs=>(xU.mp hs).elim .inr λh=>.inl (fl _ h);refine⟨r,zf _ xS,i,j,_,_,_,C,λa0=>?_,λb0=>?_,λ_ _=>t1⟩
   .rcases xU.mp hi with h|h
    .exact absurd (GQ fr' h (kind hj) C) a0
    .exact yF _ h
   .rcases xU.mp hj with h|h
    .exact absurd (GS fr' h (kind hi) C) b0
    .exact yF _ h
  .obtain⟨r',hr,i,j,t,a,b,C,h1,h2,h3⟩:=lI n l ll dl fl λp pz' kp=>q ⟨p,pz',kp⟩;exact⟨r',yF _ hr,i,j,t,a,b,C,λz=>yF _ (h1 z),λz=>yF _ (h2 z),h3⟩
def M5 {core:List R3}(dir:∀s∈core,s.1≠0\/s.2.1≠0)(fr:∀s∈core,zk s):pieces core=[]↔∀p:R3,0<p.2.2->¬ ∀s∈core,val s p<=0:=by
 have G:=hJ dir;constructor
 .intro e p pz' kp;obtain⟨r,hr,i,j,t,a,b,C,h1,h2,_⟩:=lI core.length core rfl dir fr λp pz' kp=>by obtain⟨m,m0,cn⟩:=G.all p pz' kp;rw[e] at cn;have hb:=cn.bot (λv hv=>by simp at hv);have z:mul m p=(0,0,0)\/0<(mul m p).2.2:=hb;have nz:=cn.lin (λq=>-q.2.2) rfl (λp q=>by simp only[add];lia) (λv hv=>by simp at hv);have:(mul m p).2.2=m*p.2.2:=rfl;have:=pp m0 pz';lia
  exact C.void pz' (kp r hr) (λz=>kp i (h1 z)) λz=>kp j (h2 z)
 .intro vd;cases e:pieces core with
  |nil=>rfl
  |cons v l=>
   have hv:v∈pieces core:=by rw[e];exact xS
   exact absurd (λs hs=>G.kept v hv s (zf _ hs)) (vd v (G.bot v hv))
def bal:List R3->List Int
 |[s,t]=>[abs t.1+abs t.2.1,abs s.1+abs s.2.1]
 |[s,t,u]=>[abs (turn t u),abs (turn u s),abs (turn s t)]
 |_=>[]
def comb (f:R3->Int):List R3->List Int->Int
 |s::l,k::m=>k*f s+comb f l m
 |_,_=>0
structure Bal (core:List R3):Prop where
 len:core.length=2\/core.length=3
 pos:∀k∈bal core,0<k
 x:comb (λr=>r.1) core (bal core)=0
 y:comb (λr=>r.2.1) core (bal core)=0
 c:comb (λr=>r.2.2) core (bal core)<0
def Ab (x:Int):0<=abs x:=by unfold abs;split<;>lia
def jq (k x:Int)(h:0<=k):abs (k*x)=k*abs x:=by
 unfold abs;rcases jd x 0 with q|q|q
 .rcases zy 0 k with z|z
  .have:=pp z (show 0 < -x by lia);rw[gJ] at this;rw[xD q,xD (by lia),gJ]
  .have:k=0:=by lia
   subst this;simp
 .subst q;simp
 .have:=pz h (yA q);rw[xG (by lia),xG (by lia)]
def Aa (x:Int):abs (-x)=abs x:=by unfold abs;split<;>split<;>lia
def ng {x:Int}(h:x≠0):0<abs x:=by unfold abs;split<;>lia
def GI {s t:R3}{a b:Int}(a0:0<a)(b0:0<b)(ds:s.1≠0\/s.2.1≠0)(dt:t.1≠0\/t.2.1≠0)(x:a*s.1+b*t.1=0)(y:a*s.2.1+b*t.2.1=0)(c:a*s.2.2+b*t.2.2<0):Bal [s,t]:=by
 have n:∀ {u:R3},u.1≠0\/u.2.1≠0->0<abs u.1+abs u.2.1:=λ {u} h=>by
  have:=Ab u.1;have:=Ab u.2.1;rcases h with h|h
  .have:=ng h;lia
  .have:=ng h;lia
 have ns:=n ds;have nt:=n dt;have e1:a*abs s.1=b*abs t.1:=by rw[<-jq _ _ (yA a0),<-jq _ _ (yA b0),<-Aa (b*t.1)];congr 1;lia
 have e2:a*abs s.2.1=b*abs t.2.1:=by rw[<-jq _ _ (yA a0),<-jq _ _ (yA b0),<-Aa (b*t.2.1)];congr 1;lia
 have e:a*(abs s.1+abs s.2.1)=b*(abs t.1+abs t.2.1):=by rw[Int.mul_add,Int.mul_add,e1,e2]
 generalize hS:abs s.1+abs s.2.1=S at *
 generalize hT:abs t.1+abs t.2.1=T at *
 have key:∀f g:Int,a*(T*f+S*g)=T*(a*f+b*g):=λf g=>by
  have:a*(T*f+S*g)=T*(a*f)+(a*S)*g:=by grind
  rw[this,e];grind
 have zero:∀f g:Int,a*f+b*g=0->T*f+S*g=0:=λf g h=>by have:=key f g;rw[h,u0] at this;exact(vk.mp this).resolve_left (by lia)
 refine⟨.inl rfl,λk hk=>?_,?_,?_,?_⟩
 .simp only[bal,hS,hT,xR,yI,yJ] at hk;rcases hk with rfl|rfl
  .exact nt
  .exact ns
 .simp only[bal,comb,hS,hT,kC];exact zero _ _ x
 .simp only[bal,comb,hS,hT,kC];exact zero _ _ y
 .simp only[bal,comb,hS,hT,kC];have k:=key s.2.2 t.2.2;have:=pp nt (show 0 < -(a*s.2.2+b*t.2.2) by lia);rw[gJ] at this;rcases zy (T*s.2.2+S*t.2.2) 0 with q|q
  .exact q
  .have:=pz (yA a0) q;lia
def GJ {s t u:R3}{a b g:Int}(a0:0<a)(b0:0<b)(g0:0<g)(nz:turn s t≠0\/turn t u≠0\/turn u s≠0)(x:a*s.1+b*t.1+g*u.1=0)(y:a*s.2.1+b*t.2.1+g*u.2.1=0)(c:a*s.2.2+b*t.2.2+g*u.2.2<0):Bal [s,t,u]:=by
 have h1:g*turn t u=a*turn s t:=by
  have:g*turn t u=t.1*(g*u.2.1)-t.2.1*(g*u.1):=by simp only[turn];grind
  rw[this,show g*u.2.1 = -(a*s.2.1)-b*t.2.1 by lia,show g*u.1 = -(a*s.1)-b*t.1 by lia];simp only[turn];grind
 have h2:g*turn u s=b*turn s t:=by
  have:g*turn u s=(g*u.1)*s.2.1-(g*u.2.1)*s.1:=by simp only[turn];grind
  rw[this,show g*u.2.1 = -(a*s.2.1)-b*t.2.1 by lia,show g*u.1 = -(a*s.1)-b*t.1 by lia];simp only[turn];grind
 have k1:g*abs (turn t u)=a*abs (turn s t):=by rw[<-jq _ _ (yA g0),<-jq _ _ (yA a0),h1]
 have k2:g*abs (turn u s)=b*abs (turn s t):=by rw[<-jq _ _ (yA g0),<-jq _ _ (yA b0),h2]
 have nz:turn s t≠0:=λz=>by rw[z,u0] at h1 h2;have z1:=(vk.mp h1).resolve_left (by lia);have z2:=(vk.mp h2).resolve_left (by lia);lia
 have W0:=ng nz;generalize hU:abs (turn t u)=U at *
 generalize hV:abs (turn u s)=V at *
 generalize hW:abs (turn s t)=W at *
 have key:∀f h k:Int,g*(U*f+(V*h+W*k))=W*(a*f+b*h+g*k):=λf h k=>by
  have:g*(U*f+(V*h+W*k))=(g*U)*f+(g*V)*h+g*W*k:=by grind
  rw[this,k1,k2];grind
 have zero:∀f h k:Int,a*f+b*h+g*k=0->U*f+(V*h+W*k)=0:=λf h k z=>by have:=key f h k;rw[z,u0] at this;exact(vk.mp this).resolve_left (by lia)
 have U0:0<U:=qG g0 (by rw[k1];exact pp a0 W0);have V0:0<V:=qG g0 (by rw[k2];exact pp b0 W0);refine⟨.inr rfl,λk hk=>?_,?_,?_,?_⟩
 .simp only[bal,hU,hV,hW,xR,yI,yJ] at hk;rcases hk with rfl|rfl|rfl
  .exact U0
  .exact V0
  .exact W0
 .simp only[bal,comb,hU,hV,hW,kC];exact zero _ _ _ x
 .simp only[bal,comb,hU,hV,hW,kC];exact zero _ _ _ y
 .simp only[bal,comb,hU,hV,hW,kC];have k:=key s.2.2 t.2.2 u.2.2;have:=pp W0 (show 0 < -(a*s.2.2+b*t.2.2+g*u.2.2) by lia);rw[gJ] at this;rcases zy (U*s.2.2+(V*t.2.2+W*u.2.2)) 0 with q|q
  .exact q
  .have:=pz (yA g0) q;lia
def Hh {core:List R3}(dir:∀s∈core,s.1≠0\/s.2.1≠0)(fr:∀s∈core,zk s)(vd:∀p:R3,0<p.2.2->¬ ∀s∈core,val s p<=0)
  (mn:∀k,k<core.length->∃p:R3,0<p.2.2/\∀s∈core.eraseIdx k,val s p<=0):Bal core:=by
 obtain⟨r,hr,i,j,t,a,b,C,h1,h2,h3⟩:=lI core.length core rfl dir fr λp pz' kp=>vd p pz' λs hs=>kp s (zf _ hs);have P:∀k (hk:k<core.length),core[k]=r\/(a≠0/\core[k]=i)\/(b≠0/\core[k]=j):=λk hk=>by
  refine jL λno=>?_;obtain⟨p,pz',kp⟩:=mn k hk;have mem:∀ {x},x∈core->core[k]≠x->x∈core.eraseIdx k:=λ {x} hx ne=>by obtain⟨l,hl,e⟩:=jP.mp hx;refine FK.mpr ⟨l,λz=>ne (by subst z;exact e),?_⟩;rw[ze hl,e]
  exact C.void pz' (kp r (mem hr λz=>no (.inl z))) (λz=>kp i (mem (h1 z) λy=>no (.inr (.inl ⟨z,y⟩)))) λz=>kp j (mem (h2 z) λy=>no (.inr (.inr ⟨z,y⟩)))
 have D:∀k l (hk:k<core.length) (hl:l<core.length),k≠l->core[k]≠core[l]:=λk l hk hl ne e=>by
  obtain⟨p,pz',kp⟩:=mn k hk;refine vd p pz' λs hs=>kp s ?_;obtain⟨m,hm,em⟩:=jP.mp hs;by_cases q:m=k
  .subst q;exact FK.mpr ⟨l,λz=>ne z.symm,by rw[ze hl,<-e,em]⟩
  .exact FK.mpr ⟨m,q,by rw[ze hm,em]⟩
 obtain⟨t0,a0,b0,cx,cy,cc⟩:=C;have dr:=dir r hr;rcases core with _|⟨s,_|⟨u,_|⟨v,_|⟨w,l⟩⟩⟩⟩
 .simp at hr
 .exfalso;have e1:r=s:=yS.mp hr;have e2:a=0\/i=s:=by
   by_cases z:a=0
   .exact .inl z
   .exact .inr (yS.mp (h1 z))
  have e3:b=0\/j=s:=by
   by_cases z:b=0
   .exact .inl z
   .exact .inr (yS.mp (h2 z))
  subst e1;have z:∀f:Int,(t+a+b)*f=0->f=0:=λf h=>(vk.mp h).resolve_left (by lia);have key:∀f:R3->Int,t*f r+a*f i+b*f j=(t+a+b)*f r:=λf=>by rcases e2 with rfl|rfl<;>rcases e3 with rfl|rfl<;>grind
  have k1:=key (λr=>r.1);have k2:=key (λr=>r.2.1);rw[k1] at cx;rw[k2] at cy;have:=z _ cx;have:=z _ cy;lia
 .have p0:=P 0 (by simp);have p1:=P 1 (by simp);have d01:=D 0 1 (by simp) (by simp) (by decide);simp only[FG,FF] at p0 p1 d01;have dsu:(s.1≠0\/s.2.1≠0)/\(u.1≠0\/u.2.1≠0):=⟨dir s (by simp),dir u (by simp)⟩
  have m1:a=0\/i=s\/i=u:=by
   by_cases z:a=0
   .exact .inl z
   .exact .inr (by simpa using h1 z)
  have m2:b=0\/j=s\/j=u:=by
   by_cases z:b=0
   .exact .inl z
   .exact .inr (by simpa using h2 z)
  have m0:r=s\/r=u:=by simpa using hr
  have ex:∃A B:Int,0<A/\0<B/\∀f:R3->Int,t*f r+a*f i+b*f j=A*f s+B*f u:=by
   refine⟨(if r=s then t else 0)+(if i=s then a else 0)+(if j=s then b else 0),(if r=u then t else 0)+(if i=u then a else 0)+(if j=u then b else 0),?_,?_,λf=>?_⟩
   .rcases p0 with e|⟨z,e⟩|⟨z,e⟩
    .rw[xD e.symm];split<;>split<;>lia
    .rw[xD e.symm];split<;>split<;>lia
    .rw[xD e.symm];split<;>split<;>lia
   .rcases p1 with e|⟨z,e⟩|⟨z,e⟩
    .rw[xD e.symm];split<;>split<;>lia
    .rw[xD e.symm];split<;>split<;>lia
    .rw[xD e.symm];split<;>split<;>lia
   .have d10:u≠s:=λz=>d01 z.symm;rcases m0 with rfl|rfl<;>rcases m1 with rfl|rfl|rfl<;>rcases m2 with rfl|rfl|rfl<;>simp[d01,d10]<;>grind
  obtain⟨A,B,A0,B0,e⟩:=ex;have ex:=e (λr=>r.1);have ey:=e (λr=>r.2.1);have ec:=e (λr=>r.2.2);exact GI A0 B0 dsu.1 dsu.2 (by lia) (by lia) (by lia)
 .have p0:=P 0 (by simp);have p1:=P 1 (by simp);have p2:=P 2 (by simp);have d01:=D 0 1 (by simp) (by simp) (by decide);have d02:=D 0 2 (by simp) (by simp) (by decide);have d12:=D 1 2 (by simp) (by simp) (by decide);simp only[FG,FF] at p0 p1 p2 d01 d02 d12;have an:∀x y:R3,turn x y = -turn y x:=λx y=>by simp only[turn];grind
  have an0:a≠0:=by grind
  have bn0:b≠0:=by grind
  have tij:=h3 an0 bn0;have m1:i=s\/i=u\/i=v:=by simpa using h1 an0
  have m2:j=s\/j=u\/j=v:=by simpa using h2 bn0
  have m0:r=s\/r=u\/r=v:=by simpa using hr
  have nz:turn s u≠0\/turn u v≠0\/turn v s≠0:=by
   have a1:=an u s;have a2:=an v u;have a3:=an s v;have zz:∀x:R3,turn x x=0:=λx=>by simp only[turn];grind
   rcases m1 with rfl|rfl|rfl<;>rcases m2 with rfl|rfl|rfl<;>first
    | (rw[zz] at tij;lia)
    |lia
  have ex:∃A B G:Int,0<A/\0<B/\0<G/\∀f:R3->Int,t*f r+a*f i+b*f j=A*f s+B*f u+G*f v:=by
   refine⟨(if r=s then t else 0)+(if i=s then a else 0)+(if j=s then b else 0),(if r=u then t else 0)+(if i=u then a else 0)+(if j=u then b else 0),(if r=v then t else 0)+(if i=v then a else 0)+(if j=v then b else 0),?_,?_,?_,λf=>?_⟩
   .rcases p0 with e|⟨z,e⟩|⟨z,e⟩
    .rw[xD e.symm];split<;>split<;>lia
    .rw[xD e.symm];split<;>split<;>lia
    .rw[xD e.symm];split<;>split<;>lia
   .rcases p1 with e|⟨z,e⟩|⟨z,e⟩
    .rw[xD e.symm];split<;>split<;>lia
    .rw[xD e.symm];split<;>split<;>lia
    .rw[xD e.symm];split<;>split<;>lia
   .rcases p2 with e|⟨z,e⟩|⟨z,e⟩
    .rw[xD e.symm];split<;>split<;>lia
    .rw[xD e.symm];split<;>split<;>lia
    .rw[xD e.symm];split<;>split<;>lia
   .have d10:u≠s:=λz=>d01 z.symm;have d20:v≠s:=λz=>d02 z.symm;have d21:v≠u:=λz=>d12 z.symm;clear p0 p1 p2 tij nz cx cy cc P D;rcases m0 with rfl|rfl|rfl<;>rcases m1 with rfl|rfl|rfl<;>rcases m2 with rfl|rfl|rfl<;>simp[d01,d10,d02,d20,d12,d21]<;>grind
  obtain⟨A,B,G,A0,B0,G0,e⟩:=ex;have ex:=e (λr=>r.1);have ey:=e (λr=>r.2.1);have ec:=e (λr=>r.2.2);exact GJ A0 B0 G0 nz (by lia) (by lia) (by lia)
 .exfalso;have p0:=P 0 (by simp);have p1:=P 1 (by simp);have p2:=P 2 (by simp);have p3:=P 3 (by simp);have d01:=D 0 1 (by simp) (by simp) (by decide);have d02:=D 0 2 (by simp) (by simp) (by decide);have d03:=D 0 3 (by simp) (by simp) (by decide);have d12:=D 1 2 (by simp) (by simp) (by decide);have d13:=D 1 3 (by simp) (by simp) (by decide);have d23:=D 2 3 (by simp) (by simp) (by decide);simp only[FG,FF] at p0 p1 p2 p3 d01 d02 d03 d12 d13 d23;grind
end Pol
namespace L2
open PySem PySem.Spec PyProof.Rows
section
variable {κ:Type} [DecidableEq κ]
def uy (xB:List (κ×V))(k:κ):Option V:=(xB.find? λkv=>decide (kv.1=k)).map (·.2)
def putK (xB:List (κ×V))(k:κ)(v:V):List (κ×V):=if (xB.any λkv=>decide (kv.1=k))=true then xB.map (λkv=>if kv.1=k then(kv.1,v) else kv) else xB++[(k,v)]
def mq {p:κ×V}{r:List (κ×V)}{k:κ}(e:p.1=k):uy (p::r) k=some p.2:=by simp[uy,aJ,e]
def mo {p:κ×V}{r:List (κ×V)}{k:κ}(e:¬p.1=k):uy (p::r) k=uy r k:=by simp[uy,aJ,e]
theorem mh (k:κ):∀xB:List (κ×V),(xB.any λkv=>decide (kv.1=k))=(uy xB k).isSome
 |[]=>rfl
 |p::r=>by
  rw[mD];by_cases e:p.1=k
  .simp only[mq e,wO e,Bool.true_or,Option.isSome_some]
  .rw[mo e,wX e,Bool.false_or];exact mh k r
def Cr (xB:List (κ×V))(k:κ)(v:V):(putK xB k v).length<=xB.length+1:=by
 unfold putK;split
 .rw[xX];lia
 .rw[za,uA,aK];lia
theorem ql.isSome_eq {o:Option V}{u:Option Value}(r:ql o u):o.isSome=u.isSome:=by
 cases o with
 |none=>cases u with
  |none=>rfl
  |some _=>exact(show False from r).elim
 |some _=>cases u with
  |none=>exact(show False from r).elim
  |some _=>rfl
theorem KV.val {xB:List (κ×V)}{vs:List (κ×Value)}(r:KV xB vs)(k:κ):ql (uy xB k) (valueAt vs k):=by
 unfold KV at r
 induction r with
 |nil=>exact True.intro
 |@cons p q ps qs h t ih=>
  obtain⟨h1,h2⟩:=h;by_cases e:p.1=k
  .have e':q.1=k:=h1.symm.trans e;have b:valueAt (q::qs) k=some q.2:=by simp[valueAt,aJ,e']
   rw[mq e,b];exact h2
  .have e':¬q.1=k:=λz=>e (h1.trans z);have b:valueAt (q::qs) k=valueAt qs k:=by simp[valueAt,aJ,e']
   rw[mo e,b];exact ih
end
theorem Ce {P:Program}{w:World}{k:Key}{u:Value}(r:RelV (kV k) u):(vX P w).is k u=true:=by
 cases k with
 |inl i=>obtain⟨t,e⟩:=(show ∃t,u=Value.int i t from r);subst e;exact J_ P w i t
 |inr x=>obtain⟨t,e⟩:=(show ∃t,u=Value.str x t from r);subst e;exact Ka P w x t
theorem Cb {P:Program}{w:World}:∀ {ks:List Key} {us:List Value},x9 (ks.map kV) us->ItemsAre (vX P w) ks us
 |[],_,r=>by rw[gN] at r;cases r;exact .nil
 |k::ks,_,r=>by
  rw[uc] at r;cases r with
  |cons h t=>exact .cons (Ce h) (Cb t)
abbrev KT (H:Hp):List (List Key×V)->List (List Key×Addr×Value)->Prop:=Paired λp q=>p.1=q.1/\H q.2.1=some (.tup (p.1.map kV))/\RelV p.2 q.2.2
theorem KT.val {H:Hp}{xB:List (List Key×V)}{xs:List (List Key×Addr×Value)}(r:KT H xB xs)(k:List Key):ql (uy xB k) ((atKey xs k).map (·.2)):=by
 induction r with
 |nil=>exact True.intro
 |@cons p q ps qs h t ih=>
  obtain⟨h1,_,h2⟩:=h;by_cases e:p.1=k
  .have e':q.1=k:=h1.symm.trans e;have b:atKey (q::qs) k=some q.2:=by simp[atKey,aJ,e']
   rw[mq e,b];exact h2
  .have e':¬q.1=k:=λz=>e (h1.trans z);have b:atKey (q::qs) k=atKey qs k:=by simp[atKey,aJ,e']
   rw[mo e,b];exact ih
theorem KT.repl {H:Hp}{xB:List (List Key×V)}{xs:List (List Key×Addr×Value)}(r:KT H xB xs)(k:List Key){y:V}{u:Value}(ry:RelV y u) :
  KT H (xB.map λkv=>if kv.1=k then(kv.1,y) else kv) (xs.map (putAt k u)):=by
 induction r with
 |nil=>exact .nil
 |@cons p q ps qs h t ih=>
  rw[uc,uc];refine .cons ?_ ih;obtain⟨h1,h2,h3⟩:=h;unfold putAt;by_cases e:p.1=k
  .rw[xD e,xD (h1.symm.trans e)];exact⟨h1,h2,ry⟩
  .rw[xG e,xG (λz=>e (h1.trans z))];exact⟨h1,h2,h3⟩
def KT.put {H:Hp}{xB:List (List Key×V)}{xs:List (List Key×Addr×Value)}(r:KT H xB xs)(k:List Key){b:Addr}{y:V}{u:Value}(hb:H b=some (.tup (k.map kV)))(ry:RelV y u) :
  KT H (putK xB k y) (storedH xs k b u):=by
 have e:(xB.any λkv=>decide (kv.1=k))=(atKey xs k).isSome:=by rw[mh,(r.val k).isSome_eq,Option.isSome_map]
 unfold putK storedH;rw[e];by_cases q:(atKey xs k).isSome=true
 .rw[xD q,xD q];exact r.repl k ry
 .rw[xG q,xG q];exact Paired.snoc r ⟨rfl,hb,ry⟩
def KT.keeps {H H':Hp}{xB:List (List Key×V)}{xs:List (List Key×Addr×Value)}(r:KT H xB xs)(ht:∀b ys,H b=some (.tup ys)->H' b=some (.tup ys)):KT H' xB xs:=Paired.mapP r λ_ _ z=>⟨z.1,ht _ _ z.2.1,z.2.2⟩
section
variable {P:Program} {w:World} {H:Hp} {h:Heap} {a:Addr}
def DU {u:HO}(ok:zE P w H h)(e:Rd H a u):zA P w H h a u:=e.ok ok
def Bi {xB:List (Key×V)}(ok:zE P w H h)(e:Rd H a (.dK xB)):xB.length<=sizeLine/\(a==sysModules)=false/\∃vs,KV xB vs/\h.DictOf (vX P w) a vs:=show zA P w H h a (.dK xB) from DU ok e
def rL {ks:List Key}(ok:zE P w H h)(e:H a=some (.tup (ks.map kV))):(tupleKind (vX P w)).is h ks a:=by
 obtain⟨_,xj,r,o,h1,h2,n,h3⟩:=(show zA P w H h a (.tup (ks.map kV)) from ok a _ e)
 exact⟨o,xj.toArray,n,h1,h2,h3,by simpa using Cb r⟩
def nS {xB:List (List Key×V)}(ok:zE P w H h)(e:Rd H a (.dT xB)):xB.length<=sizeLine/\(a==sysModules)=false/\
  ∃xs,KT H xB xs/\h.DictOfH (tupleKind (vX P w)) a xs:=by
 obtain⟨z,y,xs,r,o,es,ep,h1,h2,h3,h4,h5⟩:=(show zA P w H h a (.dT xB) from DU ok e)
 refine⟨z,y,xs,r,o,es,ep,h1,h2,h3,h4,λx hx=>?_,h5⟩;have all:∀ {l:List (List Key×V)} {m:List (List Key×Addr×Value)},KT H l m->∀x∈m,(tupleKind (vX P w)).is h x.1 x.2.1:=by
  intro l m q
  induction q with
  |nil=>intro x hx;exact nomatch hx
  |@cons p q ps qs hq t ih=>
   intro x hx;rcases xR.mp hx with e|hx
   .subst e;exact rL ok (by rw[<-hq.1];exact hq.2.1)
   .exact ih x hx
 exact all r x hx
def Bm {xB:List (List Key×V)}(ok:zE P w H h)(e:H a=some (.dT xB)):xB.length<=sizeLine/\(a==sysModules)=false/\
  ∃xs,KT H xB xs/\h.DictOfH (tupleKind (vX P w)) a xs:=nS ok (.inl e)
end
def mN (H:Hp)(a:Addr)(y:V)(r:Option V):Prop:=(∃xB k,Rd H a (.dK xB)/\y=kV k/\r=uy xB k)\/∃xB k b,Rd H a (.dT xB)/\y=.ref b/\H b=some (.tup (k.map kV))/\r=uy xB k
section
variable {X:Cx} {xg:List (Addr×Obj)} {σ:St} {H:Hp} {s:Shared} {a:Addr} {y v:V} {u r:Value} {o:Option V} {A:Around} {E:Value->Shared->Prop}
def Inv.big (I:Inv X xg σ H s):sysModules<s.heap.objs.size:=by have h:mainGlobals<s.heap.objs.size:=(I.mod.glob.keeps I.bk).lt;exact Nat.lt_trans (by decide) h
def HP {Q:Value->Shared->Prop}(hu:A.units+1<cLine)(I:Inv X xg σ H s)(g:mN H a y (some v))(ry:RelV y u)(h:∀w' s',Inv X xg σ H s'->RelV v w'->Q w' s') :
  wpAny (model X.prog X.w) A (getItem (.ref a) u) Q E s:=by
 rcases g with ⟨xB,k,e,ey,l⟩|⟨xB,k,b,e,ey,eb,l⟩
 .subst ey;obtain⟨z,hd,vs,rel,dd⟩:=Bi I.hok e;obtain⟨w',hw,rw'⟩:=ql.some_of (v:=v) (o:=valueAt vs k) (by rw[l];exact rel.val k);exact wpAny_getItem_of (Ce ry) dd.mapOf hw (h w' _ (I.tok _) rw')
 .subst ey;cases (show u=Value.ref b from ry);obtain⟨z,hd,xs,rel,dd⟩:=nS I.hok e;obtain⟨w',hw,rw'⟩:=ql.some_of (v:=v) (o:=(atKey xs k).map (·.2)) (by rw[l];exact rel.val k);obtain⟨p,hp,hp2⟩:=Option.map_eq_some_iff.mp hw;refine wpAny_getItem_heap (tupleKind_room_in1 hu) (rL I.hok eb) dd hp ?_;rw[hp2];exact h w' _ (I.tok _) rw'
def Bb {h':Heap}{t':Nat}{ob:HO}(I:Inv X xg σ H s)(mu:Mut (H a))(hs:Heap.SameBut a s.heap h')(he:∃q,h'.get? a=some q)(new:zA X.prog X.w (upd H a ob) h' a ob) :
  Inv X xg σ (upd H a ob) {s with heap:=h',toks:=t' }:=
 I.write (x:=a) (e:=a) mu (.inl rfl) (λb q hb z=>(hs.2 b hb).trans z) he new
end
section
variable {X:Cx} {xg:List (Addr×Obj)} {σ:St} {H:Hp} {s:Shared} {a:Addr} {xB:List (Key×V)} {k:Key} {u:Value} {A:Around} {E:Value->Shared->Prop}
end
def iN (i:Expr):Prop:=∀ov iv,subscripted i false ov iv=operate [ov,iv] (getItem ov iv)
def Oy {prog:Program}{w:World}{A:Around}{E:Value->Shared->Prop}{s:Shared}{env:Env}{value slice:Expr}{pos:Pos}{T id:String}{Q:Value->Shared->Prop}
  (hl:typeLookup (.type T) "__getitem__" = pure (some (.builtin id))) (hs:iN slice)
  (h:wpAny (model prog w) A (eval value env) (λo s₁=>wpAny (model prog w) A (eval slice env) (λi s₂=>s₂.TypeIs o T/\wpAny (model prog w) A (getItem o i) Q E s₂) E s₁) E s) :
  wpAny (model prog w) A (eval (.Subscript value slice pos) env) Q E s:=by
 refine Subscript_ (zm h (λo s₁ h₁=>zm h₁ (λi s₂ h₂=>?_) λ_ _ x=>x) λ_ _ x=>x);obtain⟨hT,h₂⟩:=h₂;unfold subscriptTail;refine xl ?_;rw[getitemInPython_of_ne hT.not_modules];refine xl (wpAny_specialOf hT hl ?_);have fin:wpAny (model prog w) A (subscripted slice false o i) (λr s₃=>wpAny (model prog w) A (letTemporaryGo value o r>>=λ_=>pure r) Q E s₃) E s₂:=by rw[hs o i];exact wpAny_operating (zm h₂ (λr s₃ h₃=>xl (wpAny_letTemporaryGo (xK h₃))) λ_ _ x=>x)
 first
  |exact xK (xl fin)
  |exact xl (xK (xl fin))
  |exact xl fin
def HS {X:Cx}{xg:List (Addr×Obj)}{σ:St}{H:Hp}{s:Shared}{a:Addr}{y:V}{o:Option V}(I:Inv X xg σ H s)(g:mN H a y o):s.TypeIs (.ref a) "dict" := by
 rcases g with ⟨xB,k,e,_,_⟩|⟨xB,k,b,e,_,_,_⟩
 .obtain⟨_,_,vs,_,dd⟩:=Bi I.hok e;exact dd.typeIs
 .obtain⟨_,_,xs,_,dd⟩:=nS I.hok e;exact dd.typeIs
def EK (td ty:TE):TE:=λσ H Q=>td σ H λx H1=>ty σ H1 λy H2=>∃a v,x=.ref a/\mN H2 a y (some v)/\Q v H2
section
variable {X:Cx} {o i e value:Expr} {pos pos' tpos:Pos} {td ty tv:TE}
def MW (hu:X.A.units+1<cLine)(ho:PE X o td)(hi:PE X i ty)(hs:iN i):PE X (.Subscript o i pos) (EK td ty):=by intro xg s σ H Q I h;refine Oy PySem.F.slot_dict_getitem.lookup hs (xW (@ho xg s σ H _ I h) λu s1 ⟨x,H1,I1,rx,q1⟩=>xW (@hi xg s1 σ H1 _ I1 q1) λiv s2 ⟨y,H2,I2,ry,a,v,ex,g,q2⟩=>?_);subst ex;obtain rfl:u=Value.ref a:=rx;exact⟨HS I2 g,HP hu I2 g ry λw' s3 I3 rw'=>⟨v,H2,I3,rw',q2⟩⟩
end
def Bl {P:Program}{w:World}{H:Hp}(h:Heap)(hb:sysModules<h.objs.size):zA P w H (h.push {cls:=.type "dict", data:=.dict #[]}) h.objs.size (.dT []):=⟨ji _,FY.mpr (zD (zq hb)),[],.nil,_,#[],0,zO _ rfl,⟨rfl,rfl,rfl⟩,rfl,rfl,List.nodup_nil⟩
def EM:TE:=λ_ H Q=>∀p,H p=none->Q (.ref p) (upd H p (.dT []))
section
variable {X:Cx} {pos:Pos}
def MY:PE X (.Dict [] [] pos) EM:=λxg s σ H Q I h=>wpAny_Dict_empty ⟨.ref s.heap.objs.size,_,I.laid (a:=s.heap.objs.size) (o:=.dT []) (t':=s.toks) (λ_ _ q=>yQ _ q) (xY _) (Bl s.heap I.big),rfl,h _ (I.hok.fresh (xY _))⟩
end
section
variable {X:Cx} {xg:List (Addr×Obj)} {σ:St} {H:Hp} {s:Shared} {a:Addr} {y d:V} {u r:Value} {o:Option V} {A:Around} {E:Value->Shared->Prop}
end
section
variable {X:Cx} {o e f:Expr} {apos cpos:Pos} {td ty tx:TE}
end
section
variable {X:Cx} {xg:List (Addr×Obj)} {σ:St} {H:Hp} {s:Shared} {a:Addr} {xB:List (Key×V)} {A:Around} {E:Value->Shared->Prop}
end
section
variable {X:Cx} {xg:List (Addr×Obj)} {σ:St} {H:Hp} {s:Shared} {a:Addr} {y:V} {u:Value} {A:Around} {E:Value->Shared->Prop}
end
section
variable {prog:Program} {w:World} {A:Around} {E:Value->Shared->Prop} {s:Shared}
end
section
variable {prog:Program} {w:World} {κ:Type} [DecidableEq κ] {knd:HeapKind prog w κ} {A:Around} {E:Value->Shared->Prop} {s:Shared}
def HZ {d a:Addr}{xs:List (κ×Addr×Value)}{k:κ}{v:Value}{Q:Value->Shared->Prop}(hu:knd.room A)(hkey:knd.is s.heap k a)(hm:s.heap.DictOfH knd d xs)
  (hthere:∀p,atKey xs k=some p->Q p.2 {s with toks:=s.toks+knd.draws k})
  (hnew:atKey xs k=none->∀h',h'.DictOfH knd d (xs++[(k,a,v)])->Heap.SameBut d s.heap h'->Q v {s with heap:=h',toks:=s.toks+knd.draws k}) (hsz:xs.length<=sizeLine) :
  wpAny (model prog w) A (dictSetDefault d (.ref a) v) Q E s:=by
 obtain⟨o,es,ep,ho,hc,hd,he,his,hn⟩:=hm;unfold dictSetDefault
 try with_reducible refine vP ?_
 refine xl (knd.pyHash hu hkey ?_);refine xl (wpAny_dictFind_heap (s:={s with toks:=s.toks+knd.draws k}) hu hkey ho hd he his hn ?_ ?_)
 .intro hno;have hnot:k∉xs.map (·.1):=not_mem_keys_of_get hno;refine xl (jX (xl (wpAny_updateDictKeys (hz:=by have e:=size_of_entries he;lia) (s:={s with toks:=s.toks+knd.draws k}) ho hd (xK (hnew (atKey_none_of_get hno) _ ⟨_,_,ep+1,Fu _ ho (Obj.isFreed_of_dict (Obj.data_mapDictKeys hd _)),
   hc.mapDictKeys _,Obj.data_mapDictKeys hd _,?_,?_,?_⟩ (aD ..))))))
  .simp[he,entryOfKey]
  .intro x hx;rcases xU.mp hx with hx|hx
   .exact knd.keeps (his x hx) ho hd (aD ..)
   .simp only[yS] at hx;subst hx;exact knd.keeps hkey ho hd (aD ..)
  .rw[zR,jh];refine⟨hn,by simp,?_⟩;intro x hx y hy;simp only[uc,gN,yS] at hy;subst hy;exact λe=>hnot (e▸hx)
 .intro j p hj;refine xl (iC (s:={s with toks:=s.toks+knd.draws k}) ho hd ?_);rw[entry_at he j,hj];exact xl (jX (xK (hthere p (atKey_of_get hn hj))))
end
section
variable {X:Cx}
def DN:V->List V->Hp->VK->Prop:=λx vs H Q=>∃d b xB k v,x=.ref d/\vs=[.ref b,v]/\H d=some (.dT xB)/\H b=some (.tup (k.map kV))/\xB.length<sizeLine/\
 (∀u,uy xB k=some u->Q u H)/\(uy xB k=none->Q v (upd H d (.dT (xB++[(k,v)]))))
def Kc (hu:X.A.units+1<cLine):MtM X "dict.setdefault" DN:=by
 intro xg s σ H x vs v us Q I rx rv h;obtain⟨d,b,xB,k,y,rfl,rfl,hH,hB,hz,q1,q2⟩:=h;cases rx;obtain⟨u1,u2,rfl,r1,r2⟩:=vals2 rv;cases (show u1=Value.ref b from r1);obtain⟨z,hd,xs,rel,dd⟩:=Bm I.hok hH;have hl:xs.length<=sizeLine:=by rw[<-dG rel];exact z
 refine qV F.slot_dict_setdefault dd.typeIs F.entry_dict_setdefault ?_ (F.args_dict_setdefault_3 _ _ _);show wpAny _ _ (Builtin.Dict.keyAndDefault "setdefault" ⟨[.ref d,.ref b,u2],[]⟩ >>= _) _ _ s;unfold Builtin.Dict.keyAndDefault;refine xl (xl (wpAny_notOrdered_dict dd.typeIs ?_));refine xK ?_;show wpAny _ _ (if (d==sysModules)=true then _ else(dictSetDefault d (.ref b) u2>>=_)) _ _ s;rw[xG (by rw[hd];exact uM)];have rk:=rel.val k;refine xl (HZ (tupleKind_room_in1 hu) (rL I.hok hB) dd (λp hp=>?_) (λhn h' dd' hs=>?_) hl)
 .rw[hp] at rk;cases e:uy xB k with
  |none=>rw[e] at rk;exact rk.elim
  |some u=>rw[e] at rk;exact xK ⟨_,rfl,u,H,I.tok _,rk,q1 u e⟩
 .rw[hn] at rk;have e:uy xB k=none:=by
   cases e:uy xB k with
   |none=>rfl
   |some u=>rw[e] at rk;exact rk.elim
  refine xK ⟨_,rfl,y,_,?_,r2,q2 e⟩;obtain⟨q,es,ep,hq,h2,h3,h4,_,h5⟩:=dd';refine Bb I (by rw[hH];exact True.intro) hs ⟨q,hq⟩ ⟨by rw[za,vm];lia,hd,_,KT.keeps (Paired.snoc rel ⟨rfl,hB,r2⟩) λc ys ec=>?_,q,es,ep,hq,h2,h3,h4,h5⟩;rw[xN (jz ec hH (λz=>nomatch z))];exact ec
end
end L2
namespace L2
open PySem PySem.Spec PyProof.Rows PySem.W
section
variable {prog:Program} {w:World} {A:Around}
end
section
variable {X:Cx}
theorem C_ {α β:Type}{F:α->β->Prop}:∀ {l:List α} {m:List β},Paired F l m->∀ {i:Nat} {y:β},m[i]?=some y->∃x,l[i]?=some x/\F x y
 |_,_,.nil,i,y,h=>by simp at h
 |_,_,.cons r t,0,y,h=>by cases h;exact⟨_,rfl,r⟩
 |_,_,.cons r t,i+1,y,h=>C_ t (i:=i) (by simpa using h)
end
end L2
namespace L2
open PySem PySem.Spec PyProof.Rows
section
variable {K:xo} {B:FB} {φ:yX} {σ:St} {τ:xQ} {H H' H'':Hp} {fr:Bool}
def RS.wrOd {i:Nat}{ks ks':List (List Int×Tr)}{a:Addr}{hk':List (List Key×V)}(R:RS K B φ σ τ H)(hi:yg τ i=.od ks)(e1:σ[i]?=some (some (.ref a)))(r:KvR (Av B φ) H ks' hk'):RS K B φ σ (τ.set i (.od ks')) (upd H a (.dT hk')):=by
 have en:=R.ent i;rw[hi] at en;have ow:Owd (yg τ i):=by rw[hi];trivial
 obtain⟨a',hk,e1',e2,e3,e4,_⟩:=en;rw[e1] at e1';cases e1';have hl:i<τ.length:=by
  by_cases h:i<τ.length
  .exact h
  .rw[kU (by lia)] at hi;cases hi
 have mv:∀c o,H c=some o->¬Av B φ c->(upd H a (.dT hk')) c=some o/\¬Av B φ c:=λc o e n=>⟨by rw[xN (λz=>n (by rw[z];exact .inr ⟨i,e2⟩))];exact e,n⟩
 have nsa:∀c,SA B φ (τ.set i (.od ks')) c->SA B φ τ c/\c≠a:=λc s=>by
  rcases s with s|⟨j,s,hj⟩
  .exact⟨.inl s,λz=>R.f0 a (R.s0 a (z▸s)) e3⟩
  .by_cases e:j=i
   .subst e;rw[kW hl] at hj;cases hj
   .rw[uI e] at hj;exact⟨.inr ⟨j,s,hj⟩,λz=>e (R.injG i j a ow e2 (z▸s)).symm⟩
 refine⟨R.fN,R.s0,λc o e n=>?_,λc s=>?_,λj k c hj f1 f2=>?_,λj c e=>?_,by rw[qO];exact R.len,λj=>?_,λp hp=>wa mv _ _ (R.gh p hp)⟩
 .rw[xN (yK e e3)];exact R.ext c o e n
 .obtain⟨s',hne⟩:=nsa c s;obtain⟨n,b,q,z⟩:=R.sst c s';exact⟨n,b,by rw[xN hne];exact q,z⟩
 .by_cases e:j=i
  .subst e;exact R.injG j k c ow f1 f2
  .rw[uI e] at hj;exact R.injG j k c hj f1 f2
 .by_cases z:c=a
  .rw[z,yU];exact⟨(λz=>nomatch z),λ_ z=>nomatch z⟩
  .rw[xN z];exact R.oN j c e
 .by_cases e:j=i
  .subst e;rw[kW hl];exact⟨a,hk',e1,e2,e3,yU,Paired.mapP r λp q z=>⟨z.1,wa mv _ _ z.2⟩⟩
  .rw[uI e];refine sy (R.ent j) rfl (λt v=>wa mv t v) (λt v=>wk mv t v) (λc o hj f1 f2=>?_) λc ns z=>?_
   .rw[xN (λ(z:c=a)=>e (R.injG i j a ow e2 (by rw[<-z];exact f1)).symm)];exact f2
   .refine⟨?_,λP q h=>by rw[xN (jz (z.2 P q h) e4 (λq=>nomatch q))];exact z.2 P q h⟩;rcases z.1 with ⟨o,z⟩|z
    .exact .inl ⟨o,by rw[xN (jz z e4 (λq=>nomatch q))];exact z⟩
    .exact .inr z
def Kj {i:Nat}{a:Addr}{ks:List (List Int×Tr)}(R:RS K B φ σ τ H)(x:HX B φ τ H H')(hi:yg τ i=.od ks)(e1:σ[i]?=some (some (.ref a))):∃hk,H' a=some (.dT hk)/\KvR (Av B φ) H' ks hk:=by have en:=(R.hx x).ent i;rw[hi] at en;obtain⟨a',hk,q1,_,_,q4,r⟩:=en;rw[e1] at q1;cases q1;exact⟨hk,q4,r⟩
theorem Et:∀(τ:xQ) (i:Nat),τ.set i (yg τ i)=τ
 |[],_=>rfl
 |x::r,0=>rfl
 |x::r,i+1=>by show x::r.set i (yg r i)=_;rw[Et r i]
def NJ (i:Nat):DS:=λG τ=>G.nx (τ.set i (.od []))
def LP {i:Nat}:zi K fr (jc EM (vV i)) (NJ i):=λB φ σ τ H E G R hd e p hp=>e.nx _ _ _ _ (R.setNew (x:=.od []) (HX.new R hp _) hp (by rw[yU];exact⟨(λz=>nomatch z),λ_ z=>nomatch z⟩) (λz=>nomatch z) ⟨p,[],rfl,pF,IG R hp,yU,.nil⟩) hd
def putD (ks:List (List Int×Tr))(k:List Int)(t:Tr):List (List Int×Tr):=if (ks.any λp=>decide (p.1=k))=true then ks else ks++[(k,t)]
theorem Cf {F:Addr->Prop}{ks:List (List Int×Tr)}{hk:List (List Key×V)}(r:KvR F H ks hk)(k:List Int):(ks.any λp=>decide (p.1=k))=(uy hk (k.map Sum.inl)).isSome:=by
 rw[<-mh]
 induction r with
 |nil=>rfl
 |cons h t ih=>
  rw[mD,mD,ih,h.1];congr 1;rw[jk];constructor
  .intro e;rw[e]
  .intro e;exact(FI λx y h=>iB h).mp e
def rK (k:List Int):(k.map (Sum.inl:Int->Key)).map kV=k.map V.int:=by rw[uP];rfl
def Ei (i:Nat)(dk d:DE):DS:=λG τ=>match yg τ i with
 |.od ks=>dk τ λk=>d τ λt=>∃ns:List Int,k=jx ns/\ks.length<sizeLine/\G.nx (τ.set i (.od (putD ks ns t)))
 |_=>False
theorem LS {i:Nat}{tk te:TE}{dk d:DE}(hk:xJ K true tk dk)(h:xJ K true te d):zi K fr (dn (tBM K "dict" DN (wK i) (wW tk (wW te vI)))) (Ei i dk d):=λB φ σ τ H E G R hd e=>by
 have en:=R.ent i;unfold Ei at hd;revert en hd;cases hi:yg τ i with
 |od ks=>
  intro hd ⟨a,hk0,e1,e2,e3,e4,r⟩;refine⟨_,e1,.inr (.inr (.inl ⟨rfl,.inr ⟨_,e4⟩⟩)),hk B φ σ τ H _ _ R hd λt0 v0 H0 x0 k0 r0=>h B φ σ τ H0 _ _ (R.hx x0) k0 λt v H1 x1 k1 r1=>?_⟩;obtain⟨ns,rfl,hz,k1⟩:=k1;obtain⟨hk',f4,f5⟩:=Kj R (x0.trans x1) hi e1;obtain⟨b,ws,rfl,_,hb,rl⟩:=x1.rep (F:=Av B φ) (λa s=>R.sAv s) r0;rw[fU rl] at hb;have an:=Cf f5 ns;refine⟨a,b,hk',ns.map Sum.inl,v,rfl,rfl,f4,by rw[rK];exact hb,by rw[<-dG f5];exact hz,λu hu=>?_,λhn=>?_⟩
  .have ep:putD ks ns t=ks:=xD (by rw[an,hu];rfl);rw[ep] at k1;have es:τ.set i (.od ks)=τ:=by rw[<-hi];exact Et τ i
   rw[es] at k1;exact e.nx φ σ _ _ (R.hx (x0.trans x1)) k1
  .have ep:putD ks ns t=ks++[(ns,t)]:=xG (by rw[an,hn];exact uM);rw[ep] at k1;exact e.nx φ σ _ _ ((R.hx (x0.trans x1)).wrOd hi e1 (tF (a:=(ns,t)) (b:=(ns.map Sum.inl,v)) f5 ⟨rfl,r1⟩)) k1
 |_=>exact λz _=>z.elim
def huR {A:Around}{k:Nat}(hr:zT k A):A.units+1<cLine:=jT (FO (by decide:1<=64) _) hr.units
end
section
variable {K:xo} {B:FB} {φ:yX} {σ:St} {τ:xQ} {H H' H'':Hp} {fr:Bool}
def dj (ks:List (List Int×Tr))(k:List Int)(t:Tr):List (List Int×Tr):=if (ks.any λp=>decide (p.1=k))=true then ks.map (λp=>if p.1=k then(p.1,t) else p) else ks++[(k,t)]
theorem Ci {F:Addr->Prop}{ns:List Int}{t:Tr}{v:V}(rt:Rep F H t v):∀ {ks:List (List Int×Tr)} {hk:List (List Key×V)},KvR F H ks hk->KvR F H (ks.map λp=>if p.1=ns then(p.1,t) else p) (hk.map λkv=>if kv.1=ns.map Sum.inl then(kv.1,v) else kv)
 |_,_,.nil=>.nil
 |p::_,q::_,.cons h r=>by
  refine .cons ?_ (Ci rt r);dsimp only;by_cases c:p.1=ns
  .rw[xD c,xD (by rw[h.1,c])];exact⟨h.1,rt⟩
  .rw[xG c,xG (λz=>c ((FI λx y e=>iB e).mp (by rw[<-h.1];exact z)))];exact h
def JM {F:Addr->Prop}{ks:List (List Int×Tr)}{hk:List (List Key×V)}(r:KvR F H ks hk)(ns:List Int){t:Tr}{v:V}(rt:Rep F H t v):KvR F H (dj ks ns t) (putK hk (ns.map Sum.inl) v):=by
 have an:=Cf r ns;rw[<-mh] at an;unfold dj putK;rw[an];split
 .exact Ci rt r
 .exact tF (a:=(ns,t)) (b:=(ns.map Sum.inl,v)) r ⟨rfl,rt⟩
theorem DY {F:Addr->Prop}:∀ns:List Int,xZ F H (ns.map Tr.int) (ns.map V.int)
 |[]=>rfl
 |n::ns=>⟨_,_,rfl,rfl,DY ns⟩
end
section
variable {prog:Program} {w:World} {A:Around} {E:Value->Shared->Prop} {s:Shared}
def OU {v d:Addr}{od:Obj}{es:Array DictEntry}{ep:Nat}{Q:Value->Shared->Prop}(hv:s.heap.IsItemsView v d)(hod:s.heap.get? d=some od)(hoc:od.ExactDict)(hdd:od.data=.dict es ep)
  (hQ:Q (.ref s.heap.objs.size) {s with heap:=s.heap.push {cls:=.type "dict_itemiterator", data:=.fields #[.none,.bool false,.ref d,.int 0 0,.int es.size 0,.int ep 0,.none,.none]} }) :
  wpAny (model prog w) A (pyIter (.ref v)) Q E s:=by
 obtain⟨ov,hov,hcv,hdv⟩:=id hv;refine wpAny_pyIter_slot hv.typeIs F.slot_dict_items_iter (qV F.slot_dict_items_iter hv.typeIs F.entry_dict_items_iter ?_ (F.args_dict_items_iter_1 _));unfold Builtin.«dict_items.__iter__»;refine xl (xK ?_);refine xl ?_;unfold Builtin.Dict_items.dictOf;refine xl (ud hov hdv (x:=.ref d) rfl (xK ?_));refine xl ?_;unfold Builtin.Dict_items.newIterator;refine xl (iC hod hdd ?_);refine xl (wpAny_dictEpoch hod hdd ?_);have hsz:es.size=es.size:=rfl;have hown:Builtin.Dict_items.ownsTuple "dict_itemiterator" = true:=by decide
 simp only[hown,qU];refine vQ (xK ⟨_,rfl, "dict_itemiterator", _,⟨_,zO _ rfl,rfl⟩,mB.lookup,?_⟩)
  (by simp only[sizeOk,Builtin.Dict_items.ownedTupleFields,zh,za,uA,aK,sizeLine_eq];lia)
 simpa [rawInt,hsz,Builtin.Dict_items.ownedTupleFields] using hQ
def OW {it d:Addr}{i ep:Nat}{od:Obj}{es:Array DictEntry}{en:DictEntry}{ok ov:Value}{Q:Option Value->Shared->Prop}(hit:IsItemIter s.heap it d i es.size ep ok ov)
  (hod:s.heap.get? d=some od) (hoc:od.ExactDict) (hdd:od.data=.dict es ep) (hx:es[i]?=some en)
  (hQ:∀h',IsItemIterOut h' it d (i+1) es.size ep en.key en.val s.heap.objs.size->h'.get? s.heap.objs.size=some {cls:=.type "tuple", data:=.seq #[en.key,en.val]}->h'.objs.size=s.heap.objs.size+1->(∀b o,b≠it->s.heap.get? b=some o->h'.get? b=some o)->Q (some (.ref s.heap.objs.size)) {s with heap:=h' }) :
  wpAny (model prog w) A (pyNext (.ref it)) Q E s:=by
 obtain⟨hp,g,dr,tk,os⟩:=s;have hT:Shared.TypeIs ⟨hp,g,dr,tk,os⟩ (.ref it) "dict_itemiterator" := ⟨_,hit,rfl⟩
 unfold pyNext;refine xl (mL (jW (name:=Str.ofString "__next__") hT mB (qV mB hT O4 ?_ (O3 _))))
 refine xl (xK ?_);refine xl ?_;refine xl ?_
 first|refine xl (iH hT (xK ?_))|refine xl (iI hT (xK ?_))
 refine xl (wpAny_fieldsOf hit rfl ?_);have hown:Builtin.Dict_items.ownsTuple "dict_itemiterator" = true:=by decide
 simp only[hown,qU];show wpAny _ _ (if (Value.ref d==Value.none)=true then _ else _) _ _ _;rw[xG (show ¬((Value.ref d==Value.none)=true) from uM)];refine xl (xK ?_);refine xl (iC hod hdd ?_);have hsz:es.size=es.size:=rfl;rw[xG (by simp)];refine xl (xK ?_);refine xl (wpAny_dictEpoch hod hdd ?_);rw[xG (by simp)];refine xK ?_;have hlt:i<es.size:=by
  rcases ix i es.size with h|h
  .exact h
  .rw[Fm h] at hx;cases hx
 have hlt':i<es.size:=hlt;have hen:es[i]=en:=by rw[Fl hlt'] at hx;cases hx;rfl
 simp only[show ¬((i:Int)<0) from by lia,jl,gL,Fl hlt',hen];refine xl ?_
 first|refine xl (iH hT (xK ?_))|refine xl (iI hT (xK ?_))
 refine xl (Ge hT ?_);show wpAny _ _ (setField (.ref it) 3 (rawInt ((i:Int)+1))>>=_) _ _ ⟨hp,g,dr,tk,os⟩;refine xl (kF hit (by simp) λh₁ he₁ hs₁=>?_)
 replace hs₁:Heap.SameBut it hp h₁:=hs₁
 replace he₁:IsItemIter h₁ it d (i+1) es.size ep ok ov:=by
  have e:((i+1:Nat):Int)=(i:Int)+1:=by lia
  unfold IsItemIter;rw[e];simpa [rawInt] using he₁
 have hT₁:Shared.TypeIs ⟨h₁,g,dr,tk,os⟩ (.ref it) "dict_itemiterator" := ⟨_,he₁,rfl⟩
 refine xl (vP ?_);refine xl (Ge hT₁ ?_);refine xl (Ge hT₁ ?_);show wpAny _ _ (Builtin.Dict_items.pairFromOwner (.ref it) 6 en.key en.val) _ _ ⟨h₁,g,dr,tk,os⟩;unfold Builtin.Dict_items.pairFromOwner;refine xl (wpAny_newTuple ?_);have he₂:IsItemIter (h₁.push {cls:=.type "tuple", data:=.seq #[en.key,en.val]}) it d (i+1) es.size ep ok ov:=yQ _ he₁;generalize hh₂:h₁.push {cls:=.type "tuple", data:=.seq #[en.key,en.val]}=h₂ at he₂;have hz₁:h₁.objs.size=hp.objs.size:=hs₁.1;have hil:it<hp.objs.size:=yG hit;have ht₂:h₂.get? hp.objs.size=some {cls:=.type "tuple", data:=.seq #[en.key,en.val]}:=by rw[<-hh₂,<-hz₁];exact zO _ rfl
 have hz₂:h₂.objs.size=hp.objs.size+1:=by rw[<-hh₂,jM,hz₁]
 have hk₂:∀b o,b≠it->hp.get? b=some o->h₂.get? b=some o:=λb o hb e=>by rw[<-hh₂];exact yQ _ (hs₁.extBut b o hb e)
 show wpAny _ _ (Builtin.Dict_items.ownedTupleIsFree (.ref it)>>=_) _ _ ⟨h₂,g,dr,tk,os⟩;rw[hz₁];clear hh₂ he₁ hs₁ hT₁ hz₁ h₁;refine xl ?_;unfold Builtin.Dict_items.ownedTupleIsFree;refine xl (ud he₂ rfl (x:=.none) rfl (xK ?_));simp only[qU];refine xl (ud he₂ rfl (x:=ok) rfl ?_);refine xl (ud he₂ rfl (x:=ov) rfl ?_);refine xl (kF he₂ (by simp) λh₃ he₃ hs₃=>?_)
 replace hs₃:Heap.SameBut it h₂ h₃:=hs₃
 replace he₃:IsItemIter h₃ it d (i+1) es.size ep en.key ov:=he₃
 refine xl (kF he₃ (by simp) λh₄ he₄ hs₄=>?_)
 replace hs₄:Heap.SameBut it h₃ h₄:=hs₄
 replace he₄:IsItemIter h₄ it d (i+1) es.size ep en.key en.val:=he₄
 refine xl (kF he₄ (by simp) λh₅ he₅ hs₅=>?_)
 replace hs₅:Heap.SameBut it h₄ h₅:=hs₅
 replace he₅:IsItemIterOut h₅ it d (i+1) es.size ep en.key en.val hp.objs.size:=he₅
 refine xl (kF he₅ (by simp) λh₆ he₆ hs₆=>?_)
 replace hs₆:Heap.SameBut it h₅ h₆:=hs₆
 replace he₆:IsItemIterOut h₆ it d (i+1) es.size ep en.key en.val hp.objs.size:=he₆
 refine xl (iE (xK (xK ⟨_,rfl,xK (hQ h₆ he₆ ?_ ?_ ?_)⟩)))
 .exact hs₆.extBut _ _ (vO hil) (hs₅.extBut _ _ (vO hil) (hs₄.extBut _ _ (vO hil) (hs₃.extBut _ _ (vO hil) ht₂)))
 .show h₆.objs.size=hp.objs.size+1;rw[hs₆.1,hs₅.1,hs₄.1,hs₃.1,hz₂]
 .exact λb o hb e=>hs₆.extBut b o hb (hs₅.extBut b o hb (hs₄.extBut b o hb (hs₃.extBut b o hb (hk₂ b o hb e))))
def OV {it d:Addr}{i ep:Nat}{od:Obj}{es:Array DictEntry}{ok ov:Value}{Q:Option Value->Shared->Prop}(hh:A.handled=none)(hit:IsItemIter s.heap it d i es.size ep ok ov)
  (hod:s.heap.get? d=some od) (hoc:od.ExactDict) (hdd:od.data=.dict es ep) (hx:es[i]?=none)
  (hQ:∀h',Heap.ExtBut it s.heap h'->Q none {s with heap:=h' }):wpAny (model prog w) A (pyNext (.ref it)) Q E s:=by
 have hT:s.TypeIs (.ref it) "dict_itemiterator" := ⟨_,hit,rfl⟩
 unfold pyNext;refine xl (mL (jW (name:=Str.ofString "__next__") hT mB (qV mB hT O4 ?_ (O3 _))))
 refine xl (xK ?_);refine xl ?_;refine xl ?_
 first|refine xl (iH hT (xK ?_))|refine xl (iI hT (xK ?_))
 refine xl (wpAny_fieldsOf hit rfl ?_);have hown:Builtin.Dict_items.ownsTuple "dict_itemiterator" = true:=by decide
 simp only[hown,qU];show wpAny _ _ (if (Value.ref d==Value.none)=true then _ else _) _ _ s;rw[xG (show ¬((Value.ref d==Value.none)=true) from uM)];refine xl (xK ?_);refine xl (iC hod hdd ?_);have hsz:es.size=es.size:=rfl;rw[xG (by simp)];refine xl (xK ?_);refine xl (wpAny_dictEpoch hod hdd ?_);rw[xG (by simp)];refine xK ?_;have hge:es.size<=i:=by simpa using hx
 simp only[show ¬((i:Int)<0) from by lia,jl,gL,Fm hge];refine xl ?_
 first|refine xl (iH hT (xK ?_))|refine xl (iI hT (xK ?_))
 show wpAny _ _ (setField (.ref it) 2 .none>>=_) _ _ s;refine xl (wpAny_setField hit rfl (by simp) ?_);show wpAny _ _ (newExc (.type "StopIteration") []>>=_) _ _ _;refine xl ?_;simp only[newExc,newTuple];refine xl (vQ ?_ (by size_fits));refine xl (m:=firstArgMember _ _) (wpAny_of_eq (a:=Value.none) (by first|rfl|(simp only[firstArgMember];rfl)) ?_);refine vQ ?_ (by size_fits);simp only[raiseNew];refine xl (wpAny_handled ?_);rw[show A.in1.handled=none from hh];refine xl (xK (wpAny_throw ?_));refine xl (Gd (T := "StopIteration") (b:=true) ⟨_,zO _ rfl,rfl⟩ isSubtype_stop ?_);exact xK (hQ _ (((aD ..).extBut.push _).push _))
end
end L2
namespace L2
open PySem PySem.Spec PyProof.Rows PySem.W
section
variable {X:Cx} {xg:List (Addr×Obj)} {σ:St} {H:Hp} {s:Shared}
def Inv.freeze {a:Addr}{hk:List (List Key×V)}(I:Inv X xg σ H s)(e:H a=some (.dT hk)):∃o,Inv X xg σ (upd H a (.frz o (.dT hk))) s:=by
 obtain⟨z,y,xs,r,o,es,ep,h1,h2⟩:=(show zA X.prog X.w H s.heap a (.dT hk) from I.hok a _ e)
 refine⟨o,I.write (x:=a) (e:=a) (t':=s.toks) (h':=s.heap) (by rw[e];trivial) (.inl rfl) (λ_ _ _ q=>q) ⟨o,h1⟩ ⟨h1,z,y,xs,Paired.mapP r λp q z=>⟨z.1,?_,z.2.2⟩,o,es,ep,h1,h2⟩⟩;rw[xN (jz z.2.1 e (λq=>nomatch q))];exact z.2.1
def lD (te:TE):TE:=λσ H Q=>te σ H λx H1=>∃a hk,x=.ref a/\H1 a=some (.dT hk)/\∀o,Q x (upd H1 a (.frz o (.dT hk)))
def Df {e:Expr}{te:TE}(h:PE X e te):PE X e (lD te):=λxg s σ H Q I hd=>
 xW (@h xg s σ H _ I hd) λv s1 ⟨x,H1,I1,r1,q1⟩=>by obtain⟨a,hk,rfl,e,q⟩:=q1;obtain⟨o,I2⟩:=I1.freeze e;exact⟨_,_,I2,r1,q o⟩
end
theorem tN {P:Program}{w:World}{H:Hp}{h:Heap}{d:Addr}{o:Obj}{xB:List (List Key×V)}(ok:zE P w H h)(e:H d=some (.frz o (.dT xB))):∃(es:Array DictEntry) (ep:Nat),h.get? d=some o/\o.ExactDict/\o.data=.dict es ep/\es.size=xB.length/\(d==sysModules)=false/\xB.length<=sizeLine/\
  (∀(i:Nat) (en:DictEntry),es[i]?=some en->∃kv:List Key×V,xB[i]?=some kv/\RelV kv.2 en.val/\∃q,en.key=.ref q/\H q=some (.tup (kv.1.map kV))):=by
 obtain⟨h0,z,hd,xs,rel,o',es,ep,h1,h2,h3,h4,_⟩:=(show zA P w H h d (.frz o (.dT xB)) from ok d _ e)
 rw[h0] at h1;cases h1;have len:xB.length=xs.length:=dG rel;have hs:es.size=xs.length:=by rw[<-mz,h4,xX]
 refine⟨es,ep,h0,h2,h3,by lia,hd,z,λi en hi=>?_⟩;have hi':es.toList[i]?=some en:=by rw[Array.getElem?_toList];exact hi
 rw[h4,uN] at hi';cases ex:xs[i]? with
 |none=>rw[ex] at hi';cases hi'
 |some x=>rw[ex] at hi';cases hi';obtain⟨kv,ekv,r1,r2,r3⟩:=C_ rel ex;exact⟨kv,ekv,r3,x.2.1,rfl,r2⟩
section
variable {X:Cx}
def mw (v d:Addr):HO:=.ext λh=>h.IsItemsView v d
def ES (to:TE):TE:=λσ H Q=>to σ H λx H1=>∃d o xB,x=.ref d/\H1 d=some (.frz o (.dT xB))/\∀v,H1 v=none->Q (.ref v) (upd H1 v (mw v d))
def MZ {o:Expr}{to:TE}{apos cpos:Pos}(ho:PE X o to)(hbase:attributeBase o "items" X.env (eval o X.env)=eval o X.env:=by rfl)(hline:(apos.endLine==cpos.line)=true:=by rfl):PE X (.Call (.Attribute o "items" apos) [] [] cpos) (ES to):=by
 intro xg s σ H Q I h;refine wpAny_Call_method0_late hbase hline (xW (@ho xg s σ H _ I h) λv s1 ⟨x,H1,I1,r1,d,ob,xB,e,hH,q⟩=>?_);subst e;cases r1;obtain⟨es,ep,h0,h2,h3,hs,hd,z,_⟩:=tN I1.hok hH;have hT:s1.TypeIs (.ref d) "dict" := ⟨ob,h0,h2.1⟩
 refine⟨"dict", _,PySem.F.plainAttrs_dict,PySem.F.slot_dict_items,PySem.F.type_dict_items,hT,λa e2=>?_,Fo rfl (PySem.evalArgs_none ?_)⟩
 .cases e2;exact⟨ob,h0,h2.2.1⟩
 refine qV F.slot_dict_items hT F.entry_dict_items ?_ (F.args_dict_items_1 _);unfold Builtin.«dict.items»;refine xl ?_;unfold Builtin.Dict.noArgs;refine xl (wpAny_notOrdered_dict hT ?_);show wpAny _ _ (pure d) _ _ s1;refine xK ?_;show wpAny _ _ (Builtin.Dict.showsAll d>>=_) _ _ s1;unfold Builtin.Dict.showsAll;rw[xG (by rw[hd];exact uM)];refine xl (xK ?_);refine xl (vQ (xK ⟨_,rfl,.ref s1.heap.objs.size,_,I1.laid (t':=s1.toks) (o:=mw s1.heap.objs.size d) (λb ob q=>yQ _ q) (xY _) ?_,rfl,q _ (I1.hok.fresh (xY _))⟩));have at0:(s1.heap.push {cls:=.type "dict_items", data:=.fields #[.ref d]}).get? s1.heap.objs.size=some {cls:=.type "dict_items", data:=.fields #[.ref d]}:=zO _ rfl;exact⟨⟨_,at0,rfl,rfl⟩,⟨_,at0⟩,λh1 h2 x k=>let ⟨o,e,r⟩:=x;⟨o,k o e,r⟩⟩
end
def Iti (d:Addr)(o:Obj):It:=
 ⟨λi H=>∃xB kv,H d=some (.frz o (.dT xB))/\xB[i]?=some kv,λi H v H'=>∃kv q key,(∀xB,H d=some (.frz o (.dT xB))->xB[i]?=some kv)/\v=.ref q/\H q=none/\H key=some (.tup (kv.1.map kV))/\H'=upd H q (.tup [.ref key,kv.2]),λi H=>∃xB,H d=some (.frz o (.dT xB))/\xB.length<=i⟩
section
variable {P:Program} {w:World} {K:xo} {d it:Addr} {od:Obj} {es:Array DictEntry} {ep:Nat}
def OK {elts:List Expr}{kk:Nat}{pp:Pos}(hne:d≠it)(hod:od.data=.dict es ep):Turn P w K (.Tuple elts kk pp) (Iti d od) [it] it (λi h=>∃ok ov,IsItemIter h it d i es.size ep ok ov) where
 mem:=by simp
 obj:=λi h st c hc=>by obtain⟨a,b,s1⟩:=st;cases yS.mp hc;exact⟨_,s1,λv=>by simp⟩
 keep:=λi h h' st k=>by obtain⟨a,b,s1⟩:=st;exact⟨a,b,k _ (by simp) _ s1⟩
 item:=by
  intro X hP hw hK hc i xg s σ H E I hf st hg;subst hP hw hK;obtain⟨a,b,s1⟩:=st;obtain⟨xB,kv,hH,hx⟩:=hg;obtain⟨es',ep',h0,h2,h3,hs,hd,z,all⟩:=tN I.hok hH;rw[hod] at h3;cases h3;have hi:i<es.size:=by rw[hs];exact(zP.mp hx).1
  have fr:H s.heap.objs.size=none:=I.hok.fresh (xY _);have ee:es[i]?=some es[i]:=Fl hi;obtain⟨kv',ekv,rv,key,ek,hkey⟩:=all i _ ee;rw[hx] at ekv;cases ekv;refine OW s1 h0 h2 hod ee λg ho hT hsz kp=>⟨_,rfl,?_⟩
  refine wpAny_letOwnedTupleGo_items ho λg2 he2 S2=>?_;have lte:it<s.heap.objs.size:=yG s1;have kp2:∀c o,c∉[it]->s.heap.get? c=some o->g2.get? c=some o:=λc o hc e=>S2.extBut _ _ (λz=>hc (by simp[z])) (kp c o (λz=>hc (by simp[z])) e);have T2:=S2.extBut _ _ (vO lte) hT;have nfp:∀c u,H c=some u->c∉[it]:=λc u q hm=>by rw[(hf c hm).1] at q;cases q
  have nT:∀c o,s.heap.get? c=some o->c≠s.heap.objs.size:=λc o e=>zq (yG e);refine⟨.ref s.heap.objs.size,upd H s.heap.objs.size (.tup [.ref key,kv.2]),?_,rfl,⟨kv,_,key,λkvs' h'=>by rw[hH] at h';cases h';exact hx,rfl,fr,hkey,rfl⟩,⟨_,_,he2⟩,λc hm=>?_⟩
  .show Inv X xg σ (upd H s.heap.objs.size (.tup [.ref key,kv.2])) {s with heap:=g2,gens:=s.gens,drawn:=s.drawn,toks:=s.toks};refine Inv.step (s:=s) (g':=s.gens) (d':=s.drawn) (t':=s.toks) (ch:=[it]) I (λc hm=>?_) (λc o _ _ hm e _=>kp2 c o hm e) (λc o _ _ hm e _=>⟨o.slots,kp2 c o hm e⟩) (λc o hm e n=>by rw[xN (nT c o e)];exact n) (λc o hm e=>⟨o,kp2 c o hm e⟩)
    (λc zs e=>by rw[xN (yK e fr)];exact e) (λc o u e=>by rw[xN (yK e fr)];exact e) (λc ps e=>⟨#[],by rw[xN (yK e fr),e];simp⟩) (λm hm=>?_) (λc u e=>?_) I.bare
   .obtain⟨_,f1,_,f3,f4,f5⟩:=hf c hm;exact⟨f3,f1,f4,f5⟩
   .obtain⟨o,es,ep,ho,r⟩:=hm;exact⟨o,es,ep,kp2 _ o (λz'=>(hf _ z').2.1 rfl) ho,r⟩
   .by_cases hc':c=s.heap.objs.size
    .subst hc';rw[yU] at e;cases e;refine⟨by show 2<=sizeLine;decide,[es[i].key,es[i].val],.cons ?_ (.cons rv .nil),_,T2,rfl,0,rfl⟩;rw[ek];rfl
    .rw[xN hc'] at e;refine(I.hok c u e).stay (λc' v hcc q'=>kp2 c' v ?_ q') (λc' q'=>by rw[xN (yK q' fr)];exact q') (λc' zs q'=>by rw[xN (yK q' fr)];exact q') λc' o u q'=>by rw[xN (yK q' fr)];exact q'
     rcases hcc with rfl|hcc
     .exact nfp _ _ e
     .exact nfp _ _ hcc
  .rw[xN]
   .exact(hf c hm).1
   .cases yS.mp hm;exact nT _ _ s1
 done:=by intro X hP hw hK hc i xg s σ H E I hf st hg;subst hP hw hK;obtain⟨a,b,s1⟩:=st;obtain⟨xB,hH,hend⟩:=hg;obtain⟨es',ep',h0,h2,h3,hs,hd,z,all⟩:=tN I.hok hH;rw[hod] at h3;cases h3;obtain⟨f0,f1,f2,f3,f4,f5⟩:=hf it (by simp);exact OV (I.ok.hd hc) s1 h0 h2 hod (Fm (by lia)) λh' eb=>⟨rfl,I.turned (t':=s.toks) (λb o hb e=>eb b o hb e) f0 f1 f3 f4 f5⟩
 self:=λA i s Q E st h=>by obtain⟨a,b,s1⟩:=st;exact kcp_self s1 h
end
def BW (te:TE):TI:=λσ H R=>te σ H λx H1=>∃v d o xB,x=.ref v/\H1 v=some (mw v d)/\H1 d=some (.frz o (.dT xB))/\R (Iti d o) H1
section
variable {X:Cx}
def M3 {elts:List Expr}{kk:Nat}{pp:Pos}{l:Expr}{tl:TE}(hl:PE X l tl):PI X (.Tuple elts kk pp) l (BW tl):=by
 intro xg s σ H R I h;refine xW (@hl xg s σ H _ I h) λv s1 ⟨x,H1,I1,r1,q1⟩=>?_;obtain⟨v',d,o,xB,e,hv,hH,q⟩:=q1;subst e;cases r1;obtain⟨es,ep,h0,h2,h3,hs,hd,z,all⟩:=tN I1.hok hH;obtain⟨vw,_,_⟩:=(show zA X.prog X.w H1 s1.heap v' (mw v' d) from I1.hok v' _ hv)
 refine OU vw h0 h2 h3 ?_;refine⟨s1.heap.objs.size,[s1.heap.objs.size],_,_,H1,rfl,I1.kept (t':=s1.toks) λb o e=>yQ _ e,OK (zq (yG h0)) h3,⟨_,_,zO _ rfl⟩,λb hb=>?_,q⟩;have e:b=s1.heap.objs.size:=by simpa using hb
 subst e;exact I1.fpOk (xY _) (I1.hok.fresh (xY _))
end
def compTurn_dict (ke ve target iter:Expr)(ifs:List Expr)(scope:Scope)(pos:Pos)(it:Value)(d:Addr)(env:Env) :
  compTurn (.DictComp ke ve [⟨target,iter,ifs,0⟩] scope pos) 0 it (.ref d) env=(do
   standAt iter.pos
   match <-pyNext it with
   |none=>pure (.done .next)
   |some v=>
    letOwnedTupleGo target it v
    assign target env v
    let mut ok:=true
    for c in ifs do
     if ok then ok <-isTrue c env (eval c env)
    if ok then
     (do
      let kv <-eval ke env
      let vv <-holding [kv] (eval ve env)
      standAt {ke.pos with endLine:=ve.pos.endLine,endCol:=ve.pos.endCol}
      holding [kv,vv] (dictSet d kv vv))
    again (.compLoop (.DictComp ke ve [⟨target,iter,ifs,0⟩] scope pos) 0 it (.ref d) env)):=by rfl
theorem Hj {prog:Program}{w:World}{A:Around}{R:Result->Shared->Prop}{s:Shared}{ke ve target iter:Expr}{ifs:List Expr}{scope:Scope}{pos:Pos}{it:Value}{d:Addr}{env:Env}(I:Nat->Shared->Prop)
  (turn:∀n s,I n s->wpAny (model prog w) A (pyNext it) (λr s₁=>match r with
   |none=>R (.ok .next) s₁
   |some v=>wpAny (model prog w) A (letOwnedTupleGo target it v) (λ_ s₀=>wpAny (model prog w) A (assign target env v) (λ_ s₂=>wpAny (model prog w) A (forIn ifs true λc r=>if r=true then do let ok <-isTrue c env (eval c env);pure (ForInStep.yield ok) else pure (ForInStep.yield r)) (λok s₃=>
      if ok=true then wpAny (model prog w) A (eval ke env) (λkv s₄=>wpAny (model prog w) A (eval ve env) (λvv s₅=>wpAny (model prog w) A (dictSet d kv vv) (λ_ s₆=>∃m,m<n/\I m s₆) (notedBy (model prog w) A env λe s'=>R (.error e) s') s₅) (notedBy (model prog w) A env λe s'=>R (.error e) s') s₄) (notedBy (model prog w) A env λe s'=>R (.error e) s') s₃
      else ∃m,m<n/\I m s₃) (notedBy (model prog w) A env λe s'=>R (.error e) s') s₂) (notedBy (model prog w) A env λe s'=>R (.error e) s') s₀) (notedBy (model prog w) A env λe s'=>R (.error e) s') s₁) (notedBy (model prog w) A env λe s'=>R (.error e) s') s)
  (n:Nat) (h:I n s) :
  codeAny (model prog w) A (.compLoop (.DictComp ke ve [⟨target,iter,ifs,0⟩] scope pos) 0 it (.ref d) env) R s:=by
 refine codeAny_loop rfl I (λn s hI=>?_) n h;show wpAny _ A ((compTurn (.DictComp ke ve [⟨target,iter,ifs,0⟩] scope pos) 0 it (.ref d) env).onRaise (λx=>do noteFrame x env;theTreesLotGoes x)) _ _ s;refine wpAny_noted ?_;rw[compTurn_dict];refine xl (jY (xl (zm (turn n s hI) (λr s₁ h₁=>?_) λ_ _ h'=>h')));cases r with
 |none=>exact xK h₁
 |some v=>
  refine xl (zm h₁ (λ_ s₀ h₀=>?_) λ_ _ h'=>h');refine xl (zm h₀ (λ_ s₂ h₂=>xl (zm h₂ (λok s₃ h₃=>?_) λ_ _ h'=>h')) λ_ _ h'=>h');cases ok with
  |false=>exact xK ⟨rfl,h₃⟩
  |true=>exact xl (xl (zm h₃ (λkv s₄ h₄=>xl (vP (zm h₄ (λvv s₅ h₅=>xl (jY (vP (zm h₅ (λ_ s₆ h₆=>xK ⟨rfl,h₆⟩) λ_ _ h'=>h')))) λ_ _ h'=>h'))) λ_ _ h'=>h'))
def codeAny_compStart_dict {prog:Program}{w:World}{A:Around}{R:Result->Shared->Prop}{s:Shared}{ke ve target iter ifs rest scope pos it acc env}
  (h0:codeAny (model prog w) A (.compLoop (.DictComp ke ve (⟨target,iter,ifs,0⟩::rest) scope pos) 0 it acc env) R s)
  (h:wpAny (model prog w) A (pyIter it) (λit' s'=>codeAny (model prog w) A (.compLoop (.DictComp ke ve (⟨target,iter,ifs,0⟩::rest) scope pos) 0 it' acc env) R s') (notedBy (model prog w) A env λx s'=>R (.error x) s') s) :
  codeAny (model prog w) A (.compStart (.DictComp ke ve (⟨target,iter,ifs,0⟩::rest) scope pos) 0 it acc env) R s:=by
 refine codeAny_of_tree ?_;show wpAny _ _ ((compStart (.DictComp ke ve (⟨target,iter,ifs,0⟩::rest) scope pos) 0 it acc env).onRaise (λx=>do noteFrame x env;standAt theWindowsPlace)) _ _ s;refine wpAny_notedAt ?_;unfold compStart;show wpAny _ _ (ask>>=_) _ _ s;refine xl (wpAny_askSetting (wpAny_ite ?_));split
 .first
   |exact xl (xK (xK (And.intro rfl h0)))
   |exact xK (And.intro rfl h0)
 .first
   |exact xl (jX (xl (jY (xl (zm h (λit' s' h'=>xK (And.intro rfl h')) λ_ _ x=>x)))))
   | (refine xl (jX ?_);show wpAny _ _ (standAt iter.pos>>=_) _ _ s;exact xl (jY (xl (zm h (λit' s' h'=>xK (And.intro rfl h')) λ_ _ x=>x))))
def lC (wi:TI)(xy:List (Option Nat))(g:TG)(tc:TT)(tk te:TE):TE:=λσ H Q=>wi σ H λJ H1=>∀d,H1 d=none->
 ∃W:Nat->Nat->List (List Key×V)->Hp->Prop,(∃m,W 0 m [] (upd H1 d (.dT [])))/\∀i m ys H,W i m ys H->H d=some (.dT ys)/\
  ((J.stop i H/\Q (.ref d) H)\/ (J.go i H/\ys.length<sizeLine/\∀x H',J.yld i H x H'->g x (wd xy σ) H' λσ2 H2=>tc σ2 H2 λb H3=>if b=true then tk σ2 H3 λk H4=>te σ2 H4 λy H5=>∃a ns m',k=.ref a/\H5 a=some (.tup (ns.map kV))/\H5 d=some (.dT ys)/\m' < m/\W (i+1) m' (putK ys ns y) (upd H5 d (.dT (putK ys ns y))) else ∃m',m' < m/\W (i+1) m' ys H3))
section
variable {X:Cx} {sc:Scope} {N:List Str} {xy:List (Option Nat)} {xg:List (Addr×Obj)} {σ:St} {H:Hp} {s:Shared}
def Hm (I:Inv X xg σ H s){fp:List Addr}(hf:∀b∈fp,uB X xg H b){σ':St}{H':Hp}{s':Shared}
  (J:Inv (yN X sc N (s.heap.objs.size+1) s H fp) [] σ' H' s'):Inv X xg σ H' s' :=
 I.call' (ch:=fp) J.os (show Un (frs X.stack) fp H H' s.heap s'.heap from J.base) J.hok J.bare λb hb=>by obtain⟨_,f1,_,f3,f4,f5⟩:=hf b hb;exact⟨f3,f1,f4,f5⟩
def Hl {ke ve tg iter:Expr}{ifs:List Expr}{g:TG}{tc:TT}{tk te:TE}{pos:Pos}(k:u6 X sc N xy)(hc:X.calm=true)(hu:X.A.units<cLine)(I:Inv X xg σ H s){it:Addr}{fp:List Addr}{tn:Nat->Heap->Prop}{J:It}
  (T:Turn X.prog X.w X.K tg J fp it tn) (st0:tn 0 s.heap) (hf:∀b∈fp,uB X xg H b) (hga:GA xy g)
  (hg:∀C s H ex,PG (yN X sc N C s H ex) tg g) (ht:∀C s H ex,PIf (yN X sc N C s H ex) ifs tc) (hk:∀C s H ex,PE (yN X sc N C s H ex) ke tk) (he:∀C s H ex,PE (yN X sc N C s H ex) ve te)
  {W:Nat->Nat->List (List Key×V)->Hp->Prop} {Z:Hp->Prop} (w0:∃m,W 0 m [] (upd H s.heap.objs.size (.dT []))) (turn:∀i m ys H,W i m ys H->H s.heap.objs.size=some (.dT ys)/\((J.stop i H/\Z H)\/ (J.go i H/\ys.length<sizeLine/\∀x H',J.yld i H x H'->g x (wd xy σ) H' λσ2 H2=>tc σ2 H2 λb H3=>if b=true then tk σ2 H3 λk H4=>te σ2 H4 λy H5=>∃a ns m',k=.ref a/\H5 a=some (.tup (ns.map kV))/\H5 s.heap.objs.size=some (.dT ys)/\m' < m/\W (i+1) m' (putK ys ns y) (upd H5 s.heap.objs.size (.dT (putK ys ns y))) else ∃m',m' < m/\W (i+1) m' ys H3)))
  {E:Value->Shared->Prop} {RR:Value->Addr->Result->Shared->Prop}
  (fin:∀ σ' H' s',Inv (yN X sc N (s.heap.objs.size+1) s H fp) [] σ' H' s'->Z H'->RR (.ref s.heap.objs.size) (s.heap.objs.size+1) (.ok .next) s') :
  wpAny (model X.prog X.w) X.A newDict (λacc s₃=>wpAny (model X.prog X.w) X.A (newFunctionEnv sc X.env.globals (wq X.env sc.names []) [] X.env.qual none .none (some X.env)) (λcenv s₄=>codeAny (model X.prog X.w) X.A (.compStart (.DictComp ke ve [⟨tg,iter,ifs,0⟩] sc pos) 0 (.ref it) acc {cenv with scope:=relabel sc X.env}) (RR acc cenv.locals) s₄) E s₃) E s:=by
 have hob:∀b∈fp,∃o,s.heap.get? b=some o:=λb hb=>let ⟨o,e,_⟩:=T.obj _ _ st0 b hb;⟨o,e⟩
 refine vQ (wpAny_newFunctionEnv k.nocell (by intro y hy;simp at hy) (λh₁ hns₁ hsb₁=>?_) k.kind);dsimp only at hns₁ hsb₁ ⊢;generalize hH2:s.heap.push {cls:=.type "dict", dict:=none,data:=.dict #[]}=H2 at hns₁ hsb₁ ⊢;have hC:H2.objs.size=s.heap.objs.size+1:=by rw[<-hH2,jM]
 have old2:∀b o,H2.get? b=some o->h₁.get? b=some o:=λb o e=>by refine hsb₁.extBut b o ?_ (yQ _ e);exact zq (yG e)
 have old:∀b o,s.heap.get? b=some o->h₁.get? b=some o:=λb o e=>old2 b o (hH2▸yQ _ e);have hacc:h₁.get? s.heap.objs.size=some {cls:=.type "dict", data:=.dict #[]}:=old2 _ _ (hH2▸zO _ rfl);have I0:Inv (yN X sc N (s.heap.objs.size+1) s H fp) [(s.heap.objs.size,{cls:=.type "dict", data:=.dict #[]})] (wd xy σ) H {s with heap:=h₁,toks:=s.toks+([]:List (Str×Value)).length}:=AK k I hf hob old (by rw[hC] at hns₁;exact hns₁) (λv=>by simp) hacc
 obtain⟨pD,nD,dL,dF,dC⟩:=I0.pin (s.heap.objs.size,{cls:=.type "dict", data:=.dict #[]}) (by simp[yN]);rw[hC];have I00:=I0.pins_of (pins':=[]) λp hp=>absurd hp (by simp);have eqD:∀b o,s.heap.get? b=some o->b≠s.heap.objs.size:=λb o e=>zq (yG e);have I1:Inv (yN X sc N (s.heap.objs.size+1) s H fp) [] (wd xy σ) (upd H s.heap.objs.size (.dT [])) {s with heap:=h₁,toks:=s.toks+([]:List (Str×Value)).length}:=by
  refine Inv.step (s:={s with heap:=h₁,toks:=s.toks+([]:List (Str×Value)).length}) (g':=s.gens) (d':=s.drawn) (ch:=[s.heap.objs.size]) I00 (λb hb=>?_) (λb o _ _ _ e _=>e) (λb o _ _ _ e _=>⟨o.slots,e⟩) (λb o hb e n=>?_) (λb o _ e=>⟨o,e⟩)
   (λb xs e=>?_) (λb o u e=>?_) (λb ps e=>⟨#[],?_⟩) (λm hm=>hm) (λc u e=>?_) I.bare
  .cases yS.mp hb;refine⟨.inr (xY _),dL,λx c e z=>?_,λp hp=>absurd hp (by simp[yN])⟩;obtain⟨v,o,ho,hd⟩:=I00.cell x c e;rw[z,pD] at ho;cases ho;cases hd
  .rw[xN (λz=>hb (by simp[z]))];exact n
  .rw[xN (yK e nD)];exact e
  .rw[xN (yK e nD)];exact e
  .rw[xN (yK e nD),e];simp
  .by_cases hc':c=s.heap.objs.size
   .subst hc';rw[yU] at e;cases e;exact(Bl (P:=X.prog) (w:=X.w) (H:=upd H s.heap.objs.size (.dT [])) s.heap I.big).stay (λb u _ e=>old2 b u (hH2▸e)) (λ_ q=>q) (λ_ _ q=>q) λ_ _ _ q=>q
   .rw[xN hc'] at e;exact(I00.hok c u e).stay (λb v _ q=>q) (λb q=>by rw[xN (yK q nD)];exact q) (λb xs q=>by rw[xN (yK q nD)];exact q) λb o u q=>by rw[xN (yK q nD)];exact q
 have st1:tn 0 h₁:=T.keep _ _ _ st0 λb _ o e=>old b o e;have ltD:∀b∈fp,b≠s.heap.objs.size:=λb hb=>by obtain⟨o,e⟩:=hob b hb;exact eqD b o e
 have ltC:∀b∈fp,b≠s.heap.objs.size+1:=λb hb=>by obtain⟨o,e⟩:=hob b hb;exact zq (gS (yG e))
 have stat:∀ {H':Hp},(∀b∈fp,H' b=none)->∀b∈fp,uB (yN X sc N (s.heap.objs.size+1) s H fp) [] H' b:=λ {H'} hn b hb=>by have cx:=nI (N:=N) k I hf hob;exact⟨hn b hb,ltC b hb,cx.exfs b hb,.inl hb,(cx.exf b hb).2,λp hp=>absurd hp (by simp[yN])⟩
 obtain⟨m0,w0⟩:=w0;have loop:codeAny (model X.prog X.w) X.A (.compLoop (.DictComp ke ve [⟨tg,iter,ifs,0⟩] sc pos) 0 (.ref it) (.ref s.heap.objs.size) (compEnvC sc (wq X.env sc.names []) (s.heap.objs.size+1) X.env)) (RR (.ref s.heap.objs.size) (s.heap.objs.size+1)) {s with heap:=h₁,toks:=s.toks+([]:List (Str×Value)).length}:=by
  refine Hj (λm s'=>∃i ys H',Inv (yN X sc N (s.heap.objs.size+1) s H fp) [] (wd xy σ) H' s'/\tn i s'.heap/\(∀b∈fp,H' b=none)/\W i m ys H') ?_ m0
   ⟨0,[],_,I1,st1,λb hb=>by rw[xN (ltD b hb)];exact(hf b hb).1,w0⟩
  rintro m s3 ⟨i,ys,H3,I3,st3,fr3,w3⟩;obtain⟨hD3,turn⟩:=turn i m ys H3 w3;rcases turn with ⟨stop,z⟩|⟨go,hlt,step⟩
  .refine zm (T.done (yN X sc N (s.heap.objs.size+1) s H fp) rfl rfl rfl hc i _ s3 _ H3 (λ_ _=>False) I3 (stat fr3) st3 stop) (λr s4 ⟨hr,I4⟩=>?_) λ_ _ f=>f.elim;subst hr;exact fin _ _ _ I4 z
  .refine zm (T.item (yN X sc N (s.heap.objs.size+1) s H fp) rfl rfl rfl hc i _ s3 _ H3 (λ_ _=>False) I3 (stat fr3) st3 go) (λr s4 ⟨u,hr,h4⟩=>?_) λ_ _ f=>f.elim;subst hr;refine zm h4 (λ_ s5 ⟨x,H5,I5,r5,y5,st5,fr5⟩=>?_) λ_ _ f=>f.elim;have I5':=I5.pinned (stat fr5) (T.obj _ _ st5);refine zm (hg _ _ _ _ _ s5 _ H5 x u _ I5' r5 (hga _ _ _ _ (step x H5 y5))) (λ_ s6 ⟨σ6,H6,I6,q6,ag⟩=>?_) λ_ _ f=>f.elim;refine zm (ht _ _ _ _ _ s6 σ6 H6 _ I6 q6) (λb s7 ⟨H7,I7,q7⟩=>?_) λ_ _ f=>f.elim;have back:∀ {H8:Hp} {s8:Shared},Inv (yN X sc N (s.heap.objs.size+1) s H fp) ([]++fO fp s5.heap) σ6 H8 s8->
     Inv (yN X sc N (s.heap.objs.size+1) s H fp) [] (wd xy σ) H8 s8/\tn (i+1) s8.heap/\∀b∈fp,H8 b=none:=λ {H8 s8} I8=>by
    refine⟨I8.unpinned.weak (I1.len.trans I8.len.symm) λj v e=>?_,T.keep _ _ _ st5 λb hb o e=>(I8.pin (b,o) (zf _ (zf _ (fC hb e)))).1,λb hb=>?_⟩
    .obtain⟨j',t1,_⟩:=bz e;rw[ag j j' t1];exact e
    .obtain⟨o,e,d⟩:=T.obj _ _ st5 b hb;exact(I8.pin (b,o) (zf _ (zf _ (fC hb e)))).2.1
   cases b with
   |false=>obtain⟨m',hm,w7⟩:=q7;obtain⟨I8,st8,fr8⟩:=back I7;rw[xG uM];exact⟨m',hm,i+1,ys,H7,I8,st8,fr8,w7⟩
   |true=>
    rw[xD rfl];refine zm (hk _ _ _ _ s7 σ6 H7 _ I7 q7) (λkv s8 ⟨kx,H8,I8,r8,q8⟩=>?_) λ_ _ f=>f.elim;refine zm (he _ _ _ _ s8 σ6 H8 _ I8 q8) (λy s9 ⟨yv,H9,I9,r9,a,ns,m',ek,eb,hD9,hm,w9⟩=>?_) λ_ _ f=>f.elim;subst ek;cases (show kv=Value.ref a from r8);obtain⟨I10,st10,fr10⟩:=back I9;obtain⟨z,hd,xs,rel,dd⟩:=Bm I10.hok hD9;have hz:xs.length<=sizeLine:=by rw[<-dG rel];exact z
    have hl:(putK ys ns yv).length<=sizeLine:=by have:=Cr ys ns yv;lia
    refine wpAny_dictSet_heap (hsz:=hz) hu (rL I10.hok eb) dd λh' dd' hs=>?_;obtain⟨q,es,ep,hq,h2,h3,h4,_,h5⟩:=dd';refine⟨m',hm,i+1,putK ys ns yv,_,Bb (ob:=.dT (putK ys ns yv)) I10 (by rw[hD9];exact True.intro) hs ⟨q,hq⟩ ⟨hl,hd,_,(rel.put ns eb r9).keeps λc ys ec=>?_,q,es,ep,hq,h2,h3,h4,h5⟩,T.keep _ _ _ st10 λb hb o e=>(hs.2 b (ltD b hb)).trans e,λb hb=>by rw[xN (ltD b hb)];exact fr10 b hb,w9⟩;rw[xN (jz ec hD9 (λz=>nomatch z))];exact ec
 exact codeAny_compStart_dict loop (T.self _ 0 _ _ _ st1 loop)
def Il {env:Env}(ke ve gens scope pos):eval (.DictComp ke ve gens scope pos) env =
  comprehension (.DictComp ke ve gens scope pos) scope env (firstIterPos gens pos) newDict (firstAsync gens) (firstIter gens env):=rfl
def MV {ke ve tg iter:Expr}{ifs:List Expr}{wi:TI}{g:TG}{tc:TT}{tk te:TE}{pos:Pos}(k:u6 X sc N xy)(hc:X.calm=true)(hu:X.A.units<cLine)(hga:GA xy g)(hi:PI X tg iter wi)
  (hg:∀C s H ex,PG (yN X sc N C s H ex) tg g) (ht:∀C s H ex,PIf (yN X sc N C s H ex) ifs tc) (hk:∀C s H ex,PE (yN X sc N C s H ex) ke tk) (he:∀C s H ex,PE (yN X sc N C s H ex) ve te)
  (hs:∀x,foldedSetIterable iter X.env x=pure x:=by intro _;rfl):PE X (.DictComp ke ve [⟨tg,iter,ifs,0⟩] sc pos) (lC wi xy g tc tk te):=by
 intro xg s σ H Q I h;rw[Il];refine Gc (use:=none) rfl hs (nH (k.cells I.ok)) k.kind k.loc ?_;refine xW (@hi xg s σ H _ I h) λv s1 h1=>xW h1 λitv s2 h2=>?_;obtain⟨it,fp,tn,J,H2,e,I2,T,st2,f2,h2⟩:=h2;subst e;obtain⟨W,w0,turn⟩:=h2 s2.heap.objs.size (I2.hok.fresh (xY _));refine Hl (RR:=λacc C=>compPost (model X.prog X.w) X.A X.xe none (EP X xg σ Q) acc C) (W:=W) (Z:=λH'=>Q (.ref s2.heap.objs.size) H') k hc hu I2 T st2 f2 hga hg ht hk he w0 turn ?_;intro σ' H' s' J' z;obtain⟨m,hn,_⟩:=J'.loc;exact⟨m,hn,λh' hs'=>⟨.ref _,_,nJ I2 (Hm I2 f2 J') J'.free hs',rfl,z⟩⟩
end
end L2
namespace L2
open PySem PySem.Spec PyProof.Rows
mutual
theorem D5 {F F':Addr->Prop}{H H':Hp}(m:∀a o,(∀hk,o≠.dT hk)->H a=some o->¬F a->H' a=some o/\¬F' a):∀(t:Tr) (v:V),Rep F H t v->Rep F' H' t v
 |.non,v,h=>h
 |.bl b,v,h=>h
 |.int i,v,h=>h
 |.str x,v,h=>h
 |.emp,v,h=>by obtain⟨a,e,n,k⟩:=h;have:=m a _ (by intro _ z;cases z) k n;exact⟨a,e,this.2,this.1⟩
 |.tup ts,v,h=>by obtain⟨a,ws,e,n,k,r⟩:=h;have:=m a _ (by intro _ z;cases z) k n;exact⟨a,ws,e,this.2,this.1,fV m ts ws r⟩
 |.lst ts,v,h=>by obtain⟨a,ws,e,n,k,r⟩:=h;have:=m a _ (by intro _ z;cases z) k n;exact⟨a,ws,e,this.2,this.1,fV m ts ws r⟩
 |.dic o ks ts,v,h=>by obtain⟨a,hk,e,n,k,e2,r⟩:=h;have:=m a _ (by intro _ z;cases z) k n;exact⟨a,hk,e,this.2,this.1,e2,fV m ts _ r⟩
theorem fV {F F':Addr->Prop}{H H':Hp}(m:∀a o,(∀hk,o≠.dT hk)->H a=some o->¬F a->H' a=some o/\¬F' a):∀(ts:List Tr) (ws:List V),xZ F H ts ws->xZ F' H' ts ws
 |[],ws,h=>h
 |t::ts,ws,h=>by obtain⟨w,r,e,h1,h2⟩:=h;exact⟨w,r,e,D5 m t w h1,fV m ts r h2⟩
end
section
variable {K:xo} {B:FB} {φ:yX} {σ:St} {τ:xQ} {H H' H'':Hp} {fr:Bool}
def cR {F:Addr->Prop}{d:Addr}{ys:List (List Key×V)}{o:HO}(hd:H d=some (.dT ys)):∀a u,(∀hk,u≠.dT hk)->H a=some u->¬F a->(upd H d o) a=some u/\¬F a:=λa u k e n=>by
 have:a≠d:=λz=>by rw[z,hd] at e;cases e;exact k _ rfl
 exact⟨by rw[xN this];exact e,n⟩
def wU (o:Obj)(ks:List (List Int×Tr)):Tr:=.dic o (ks.map λp=>p.1) (ks.map λp=>p.2)
theorem bE {F:Addr->Prop}:∀ {ks:List (List Int×Tr)} {hk:List (List Key×V)},KvR F H ks hk->hk.map (λp=>p.1)=(ks.map λp=>p.1).map (λk=>k.map Sum.inl)/\xZ F H (ks.map λp=>p.2) (hk.map λp=>p.2)
 |_,_,.nil=>⟨rfl,rfl⟩
 |_,_,.cons h t=>by obtain⟨a,b⟩:=bE t;refine⟨?_,_,_,rfl,h.2,b⟩;rw[uc,uc,uc,a,h.1]
theorem Bh {F:Addr->Prop}:∀ {ks:List (List Int)} {ts:List Tr} {hk:List (List Key×V)},hk.map (λp=>p.1)=ks.map (λk=>k.map Sum.inl)->xZ F H ts (hk.map λp=>p.2)->KvR F H (ks.zip ts) hk/\ts.length=ks.length
 |[],ts,[],_,r=>by have:ts.length=0:=r.len;rw[jg.mp this];exact⟨.nil,rfl⟩
 |[],_,_::_,e,_=>by simp at e
 |_::_,_,[],e,_=>by simp at e
 |k::ks,ts,p::hk,e,r=>by
  rw[uc,uc] at e;injection e with e1 e2;cases ts with
  |nil=>have:=r.len;simp at this
  |cons t ts=>obtain⟨w,q,e3,r1,r2⟩:=r;rw[uc] at e3;injection e3 with e4 e5;obtain⟨a,b⟩:=Bh e2 (by rw[e5];exact r2);exact⟨.cons ⟨e1,by rw[e4];exact r1⟩ a,by rw[uA,uA,b]⟩
def Ef (i:Nat):DS:=λG τ=>match yg τ i with|.od ks=>∀o,G.rt (wU o ks)|_=>False
theorem LR {i:Nat}:zi K false (az (lD (wK i))) (Ef i):=λB φ σ τ H E G R hd e=>by
 have en:=R.ent i;unfold Ef at hd;revert en hd;cases hi:yg τ i with
 |od ks=>
  intro hd ⟨a,hk,e1,e2,e3,e4,r⟩;have na:¬B.F0 a:=λz=>R.f0 a z e3;obtain⟨k1,k2⟩:=bE r;refine⟨_,e1,a,hk,rfl,e4,λo=>e.rt (wU o ks) _ _ ⟨a,hk,rfl,na,yU,k1,wk (λc o e n=>⟨e,λz=>n (.inl z)⟩) _ _ (fV (cR e4) _ _ k2)⟩ ⟨λc u h n=>?_,λc s=>?_⟩ (hd o) λz=>nomatch z⟩
  .rw[xN (yK h e3)];exact R.ext c u h n
  .obtain⟨n,b,q,z⟩:=R.sst c (.inl s);exact⟨n,b,by rw[xN (jz q e4 (λz=>nomatch z))];exact q,z⟩
 |_=>exact λz _=>z.elim
def atD:List (List Int)->List Tr->List Int->Option Tr
 |k::ks,t::ts,n=>if k=n then some t else atD ks ts n
 |_,_,_=>none
theorem Cg {F:Addr->Prop}:∀ {ks:List (List Int)} {ts:List Tr} {hk:List (List Key×V)} {n:List Int} {t:Tr},KvR F H (ks.zip ts) hk->ts.length=ks.length->atD ks ts n=some t->∃v,uy hk (n.map Sum.inl)=some v/\Rep F H t v
 |[],_,_,_,_,_,_,h=>by simp[atD] at h
 |_::_,[],_,_,_,_,_,h=>by simp[atD] at h
 |k::ks,u::ts,hk,n,t,r,l,h=>by
  cases r with
  |cons h1 h2=>
   rename_i q hk;unfold atD at h;by_cases c:k=n
   .rw[xD c] at h;cases h;exact⟨_,mq (by rw[h1.1,<-c]),h1.2⟩
   .rw[xG c] at h;obtain⟨v,e,rv⟩:=Cg h2 (by simpa using l) h;exact⟨v,by rw[mo (λz=>c ((FI λx y e=>iB e).mp (by rw[<-h1.1];exact z)))];exact e,rv⟩
def nZ (d k:Tr)(KK:Tr->Prop):Prop:=∃o ks ts ns t,d=.dic o ks ts/\k=jx ns/\atD ks ts ns=some t/\KK t
def K6 {td tk:TE}{dd dk:DE}(hd:xJ K true td dd)(hk:xJ K true tk dk):xJ K true (EK td tk) (d2 nZ dd dk):=λB φ σ τ H Q KK R h q=>
 hd B φ σ τ H _ _ R h λd v H1 x1 k1 r1=>hk B φ σ τ H1 _ _ (R.hx x1) k1 λk w H2 x2 k2 r2=>by obtain⟨o,ks,ts,ns,t,rfl,rfl,ea,k2⟩:=k2;obtain⟨a,hk',rfl,na,e4,e5,rl⟩:=x2.rep (F:=Av B φ) (λa s=>R.sAv s) r1;obtain⟨b,ws,rfl,_,hb,rl2⟩:=r2;rw[fU rl2] at hb;obtain⟨kv,ln⟩:=Bh e5 rl;obtain⟨u,eu,ru⟩:=Cg kv ln ea;exact⟨a,u,rfl,.inr ⟨hk',ns.map Sum.inl,b,.inr ⟨o,e4⟩,rfl,by rw[rK];exact hb,eu.symm⟩,q _ _ _ (x1.trans x2) k2 ru⟩
def fm (dg:DG)(dc:DT)(dk de:DE)(τi:xQ)(KK:List (List Int×Tr)->Prop):List Tr->List (List Int×Tr)->Prop
 |[],acc=>KK acc
 |x::xs,acc=>dg x τi λτ2=>dc τ2 λb=>if b=true then dk τ2 λk=>de τ2 λy=>∃ns,k=jx ns/\fm dg dc dk de τi KK xs (dj acc ns y) else fm dg dc dk de τi KK xs acc
def A5 (xy:List (Option Nat))(di:DI)(dg:DG)(dc:DT)(dk de:DE):xQ->(List (List Int×Tr)->Prop)->Prop:=λτ KK=>di τ λxs=>xs.length<sizeLine/\fm dg dc dk de (qw xy τ) KK xs []
def era (H:Hp)(d:Addr):Hp:=λa=>if a=d then none else H a
def Bp {d a:Addr}{o:HO}(h:era H d a=some o):a≠d/\H a=some o:=by
 unfold era at h;split at h
 .cases h
 .rename_i n;exact⟨n,h⟩
def Bo {d a:Addr}(h:a≠d):era H d a=H a:=by unfold era;rw[xG h]
def HX.off {d:Addr}{o:HO}(R:RS K B φ σ τ H)(x:HX B φ τ H H')(hd:H d=Option.none):HX B φ τ H (upd H' d o):=
 ⟨λa u e n=>by rw[xN (yK e hd)];exact x.keep a u e n,λa s=>by obtain⟨n,b,e,z⟩:=x.st a s;have:a≠d:=λz=>(R.sst a s).ne_none (by rw[z];exact hd);exact⟨n,b,by rw[xN this];exact e,z⟩⟩
def LB {wi:TI}{xy:List (Option Nat)}{g:TG}{tc:TT}{tk te:TE}{di:DI}{dg:DG}{dc:DT}{dk de:DE}(hi:g6 K wi di)(hg:OkN K g dg)(hc:OkT K tc dc)(hk:xJ K true tk dk)(he:xJ K true te de)
  (R:RS K B φ σ τ H) {Q:VK} {KK:List (List Int×Tr)->Prop} (hd:A5 xy di dg dc dk de τ KK) (q:∀ks d hk H',HX B φ τ H H'->KK ks->H d=none->H' d=some (.dT hk)->KvR (Av B φ) H' ks hk->Q (.ref d) H'):lC wi xy g tc tk te σ H Q:=
 hi B φ σ τ H _ _ R hd λJ ts Src H1 x1 k1 it s1 d hd1=>by
  have hd0:H d=none:=x1.none hd1;refine⟨λi m ys H'=>m=ts.length-i/\i<=ts.length/\ys.length<=i/\HX B φ τ H H'/\Src (era H' d)/\H' d=some (.dT ys)/\∃acc,KvR (Av B φ) H' acc ys/\fm dg dc dk de (qw xy τ) KK (ts.drop i) acc,⟨_,rfl,ji _,ji _,x1.off R hd0,it.stab _ _ s1 λa o e n=>by rw[Bo (yK e hd1),xN (yK e hd1)];exact e,yU,[],.nil,k1.2⟩,?_⟩;rintro i m ys H' ⟨rfl,hle,hys,x,s0,hD,acc,ra,f⟩;refine⟨hD,?_⟩;have s:Src H':=it.stab _ _ s0 λa o e n=>(Bp e).2;have srx:∀ {H3:Hp},(∀a o,a≠d->H' a=some o->¬SA B φ τ a->H3 a=some o)->Src (era H3 d):=λ {H3} h=>it.stab _ _ s0 λa o e n=>by obtain⟨e1,e2⟩:=Bp e;rw[Bo e1];exact h a o e1 e2 n
  have R':=R.hx x;by_cases hlt:i<ts.length
  .refine .inr ⟨it.go i H' s hlt,by have:=k1.1;lia,λv H2 y=>?_⟩;obtain⟨gr,t,ht,rt⟩:=it.yld i H' v H2 s (λa z=>R'.nt z) hlt y;have hx:=gr.hx R';have R2:=R'.hx hx;have ed:ts.drop i=t::ts.drop (i+1):=by rw[aI hlt];rw[ze hlt] at ht;cases ht;rfl
   rw[ed] at f;refine hg (B.inner φ τ H2) _ _ _ H2 (Av B φ) t v _ _ R2.inner (λa z=>?_) rt f λφ3 σ3 τ3 R3 ha k3=>?_
   .rcases z with z|⟨j,z⟩
    .exact z
    .unfold hX at z;split at z
     .split at z
      .exact .inr ⟨_,z⟩
      .cases z
     .cases z
   have hsa:∀a,SA (B.inner φ τ H2) φ3 τ3 a->SA B φ τ a:=λa z=>by
    rcases z with z|⟨j,z,hj⟩
    .exact z
    .have en:=R3.ent j;rw[hj] at en;obtain⟨p,e1,e2,e3⟩:=en;rw[z] at e2;cases e2;rcases e3 with e3|e3
     .exact e3
     .exact absurd e3 (R3.sst a (.inr ⟨j,z,hj⟩)).ne_none
   have hxo:∀ {H3 H4:Hp},HX (B.inner φ τ H2) φ3 τ3 H3 H4->HX B φ τ H3 H4:=λ {H3 H4} h=>⟨λa o e n=>h.keep a o e λz=>n (hsa a z),λa z=>h.st a (.inl z)⟩
   have nsd:∀ {H3:Hp},HX B φ τ H' H3->H3 d=some (.dT ys):=λ {H3} h=>h.keep d _ hD λz=>(R.sst d z).ne_none hd0;have kvx:∀ {H3:Hp},HX B φ τ H' H3->KvR (Av B φ) H3 acc ys:=λ {H3} h=>Paired.mapP ra λp q z=>⟨z.1,h.rep (λa s=>R.sAv s) z.2⟩
   refine hc _ φ3 σ3 τ3 H2 _ _ R3 k3 λc H3 x3 k4=>?_;have x23:=hxo x3;cases c with
   |false=>refine vc ⟨_,by lia,rfl,hlt,by lia,(x.trans hx).trans x23,srx λa o _ e n=>(hx.trans x23).keep a o e n,nsd (hx.trans x23),acc,kvx (hx.trans x23),?_⟩;simpa using k4
   |true=>refine vW (hk _ φ3 σ3 τ3 H3 _ _ (R3.hx x3) k4 λu w H4 x4 k5 r5=>he _ φ3 σ3 τ3 H4 _ _ (R3.hx (x3.trans x4)) k5 λu' w' H5 x5 k6 r6=>?_);have x34:=hxo x4;have x45:=hxo x5;obtain⟨ns,rfl,k6⟩:=k6;have r5':=x5.rep (F:=AvB true (B.inner φ τ H2) φ3 τ3) (λa s=>(R3.hx (x3.trans x4)).sAv s) r5;obtain⟨b,ws,rfl,_,hb,rl⟩:=r5';rw[fU rl] at hb;have xx:=((hx.trans x23).trans x34).trans x45;have dd:=nsd xx;have rv:Rep (Av B φ) H5 u' w':=wa (λa o e n=>⟨e,λz=>n (.inl z)⟩) _ _ r6;have kn:=JM (kvx xx) ns rv;refine⟨b,ns.map Sum.inl,_,rfl,by rw[rK];exact hb,dd,(by lia:ts.length-(i+1)<ts.length-i),rfl,hlt,?_,(x.trans xx).off R hd0,srx λa o na e n=>by rw[xN na];exact xx.keep a o e n,yU,_,Paired.mapP kn λp q z=>⟨z.1,D5 (cR dd) _ _ z.2⟩,k6⟩;have:=Cr ys (ns.map Sum.inl) w';lia
  .have ei:i=ts.length:=by lia
   subst ei;rw[FA] at f;exact .inl ⟨it.stop H' s,q acc d ys _ x f hd0 hD ra⟩
def HB (xy:List (Option Nat))(di:DI)(dg:DG)(dc:DT)(dk de:DE):DE:=λτ KK=>A5 xy di dg dc dk de τ λks=>∀o,KK (wU o ks)
def K5 {wi:TI}{xy:List (Option Nat)}{g:TG}{tc:TT}{tk te:TE}{di:DI}{dg:DG}{dc:DT}{dk de:DE}(hi:g6 K wi di)(hg:OkN K g dg)(hc:OkT K tc dc)(hk:xJ K true tk dk)(he:xJ K true te de) :
  xJ K true (lD (lC wi xy g tc tk te)) (HB xy di dg dc dk de):=λB φ σ τ H Q KK R hd q=>
 LB hi hg hc hk he R hd λks d hk H' x kk hn hD kv=>by obtain⟨k1,k2⟩:=bE kv;exact⟨d,hk,rfl,hD,λo=>q (wU o ks) _ _ (x.off R hn) (kk o) ⟨d,hk,rfl,λz=>R.dom z hn,yU,k1,fV (cR hD) _ _ k2⟩⟩
def kO:List (List Int)->List Tr->List Tr
 |k::ks,t::ts=>.tup [jx k,t]::kO ks ts
 |_,_=>[]
theorem rJ:∀ {ks:List (List Int)} {ts:List Tr},ts.length=ks.length->(kO ks ts).length=ks.length
 |[],_,_=>rfl
 |_::_,[],h=>by simp at h
 |_::ks,_::ts,h=>by show(kO ks ts).length+1=ks.length+1;rw[rJ (by simpa using h)]
theorem B_:∀ {ks:List (List Int)} {ts:List Tr} {i:Nat} {k:List Int} {t:Tr},ks[i]?=some k->ts[i]?=some t->(kO ks ts)[i]?=some (.tup [jx k,t])
 |[],_,_,_,_,h,_=>by simp at h
 |_::_,[],_,_,_,_,h=>by simp at h
 |_::_,_::_,0,_,_,h,h'=>by simp at h h';subst h h';rfl
 |_::ks,_::ts,i+1,k,t,h,h'=>B_ (ks:=ks) (ts:=ts) (i:=i) (by simpa using h) (by simpa using h')
def nR {F:Addr->Prop}{ks:List (List Int)}{ts:List Tr}{hk:List (List Key×V)}(e:hk.map (λp=>p.1)=ks.map (λk=>k.map Sum.inl))(r:xZ F H ts (hk.map λp=>p.2)):hk.length=ks.length/\ts.length=ks.length:=by have a:=zS List.length e;have b:=r.len;simp only[xX] at a b;lia
def Jw {d:Addr}{o:Obj}{ks:List (List Int)}{ts:List Tr}:ItL (Iti d o) (kO ks ts) [(.dic o ks ts,.ref d)] where
 go:=λF H i s hi=>by obtain⟨a,hk,e,n,h,ek,r⟩:=s _ xS;cases e;obtain⟨l1,l2⟩:=nR ek r;rw[rJ l2] at hi;exact⟨hk,_,h,ze (by lia)⟩
 stop:=λF H s=>by obtain⟨a,hk,e,n,h,ek,r⟩:=s _ xS;cases e;obtain⟨l1,l2⟩:=nR ek r;exact⟨hk,h,by rw[rJ l2];lia⟩
 yld:=λF i H x H' s nt hi y=>by
  obtain⟨a,hk,e,n,h,ek,r⟩:=s _ xS;cases e;obtain⟨l1,l2⟩:=nR ek r;rw[rJ l2] at hi;obtain⟨kv,q,key,hkv,rfl,hq,hkey,rfl⟩:=y;have hkv:=hkv hk h;obtain⟨t,e1,e2⟩:=r.get (i:=i) (w:=kv.2) (by rw[uN,hkv];rfl);have e3:ks[i]?=some ks[i]:=ze hi;have e4:kv.1=(ks[i]).map Sum.inl:=by have:=zS (λl=>l[i]?) ek;simp only[uN,hkv,e3,Option.map_some] at this;exact qQ this
  rw[e4,rK] at hkey;exact⟨.inr ⟨q,_,hq,rfl⟩,_,B_ e3 e1,q,_,rfl,λz=>(nt q z).no hq,yU,⟨_,_,rfl,⟨key,_,rfl,λz=>(nt key z).tp _ hkey,by rw[xN (yK hkey hq)];exact hkey,DY _⟩,_,_,rfl,fX hq e2,rfl⟩⟩
def Jf (d:DE):DI:=λτ KK=>d τ λx=>match x with|.dic _ ks ts=>KK (kO ks ts)|_=>False
def LJ {te:TE}{de:DE}(h:xJ K true te de):OkI K true (BW (ES te)) (Jf de):=λB φ σ τ H R KK Rs hd q=>
 h B φ σ τ H _ _ Rs hd λt v H1 x1 k1 r1=>by
  cases t with
  |dic o ks ts=>obtain⟨d,hk,e,n,hd,ek,rl⟩:=id r1;subst e;refine⟨d,o,hk,rfl,hd,λw hw=>⟨w,d,o,hk,rfl,yU,by rw[xN (yK hd hw)];exact hd,q _ _ _ _ (x1.trans (HX.new (Rs.hx x1) hw _)) k1 Jw λp hp=>?_⟩⟩;cases yS.mp hp;exact fX hw r1
  |_=>exact k1.elim
def Ea (i:Nat)(d:DE):DS:=λG τ=>match yg τ i with|.fz (.int a)=>d τ λy=>∃b,y=.int b/\G.nx (τ.set i (.fz (.int (a+b))))|_=>False
theorem LM {i:Nat}{b:Bool}{te:TE}{d:DE}(h:xJ K b te d):zi K fr (EH i te (ipI λi j=>i+j)) (Ea i d):=λB φ σ τ H E G R hd e=>by
 have en:=R.ent i;unfold Ea at hd;revert en hd;cases hi:yg τ i with
 |fz t=>
  cases t with
  |int a=>intro hd ⟨v,ev,r⟩;cases (show v=.int a from r);refine⟨_,ev,h B φ σ τ H _ _ R hd λt v H1 x1 k1 r1=>?_⟩;obtain⟨b,rfl,k1⟩:=k1;cases (show v=.int b from r1);exact⟨a,b,rfl,rfl,e.nx _ _ _ H1 ((R.hx x1).setFz (t:=.int (a+b)) rfl) k1⟩
  |_=>exact λz _=>z.elim
 |_=>exact λz _=>z.elim
def HK (d:DE):DE:=λτ KK=>d τ λx=>gC x≠none/\KK x
def Lv {b:Bool}{te:TE}{d:DE}(h:xJ K b te d):xJ K true te (HK d):=λB φ σ τ H Q KK R hd q=>
 h B φ σ τ H _ _ R hd λt v H1 x1 k1 r1=>q t v H1 x1 k1.2 (by
  cases t with
  |non=>exact r1
  |bl b=>exact r1
  |int i=>exact r1
  |str x=>exact r1
  |_=>exact absurd rfl k1.1)
def huS {A:Around}{k:Nat}(hr:zT k A):A.units<cLine:=Nat.lt_of_succ_lt (huR hr)
end
end L2
namespace L2
open PySem
def uo (r:Pol.R3):List Int:=[r.1,r.2.1,r.2.2]
def D8 {r s:Pol.R3}(h:uo r=uo s):r=s:=by obtain⟨a,b,c⟩:=r;obtain⟨d,e,f⟩:=s;simp only[uo,List.cons.injEq,and_true] at h;obtain⟨rfl,rfl,rfl⟩:=h;rfl
def Void (S:List Pol.R3):Prop:=∀p:Pol.R3,0<p.2.2->¬ ∀s∈S,Pol.val s p<=0
def Void.mono {S T:List Pol.R3}(h:Void S)(m:∀r∈S,r∈T):Void T:=λp z k=>h p z λs hs=>k s (m s hs)
structure FR (xf:List Pol.R3):Prop where
 dir:∀r∈xf,r.1≠0\/r.2.1≠0
 fr:∀r∈xf,zk r
 len:xf.length<=1000
def FR.ok {xf:List Pol.R3}(h:FR xf):qm xf:=⟨h.dir,λr hr=>BK (h.fr r hr),by have:=h.len;lia⟩
def FR.void {xf:List Pol.R3}(h:FR xf):pieces xf=[]↔Void xf:=M5 h.dir h.fr
def FR.sub {xf S:List Pol.R3}(h:FR xf)(m:∀r∈S,r∈xf)(l:S.length<=1000):FR S:=⟨λr hr=>h.dir r (m r hr),λr hr=>h.fr r (m r hr),l⟩
def LF.fR {xf:List Pol.R3}(h:LF xf):FR xf:=⟨h.dir,h.frow,by have:=h.l8;lia⟩
structure gX (xf core rest:List Pol.R3):Prop where
 mc:∀r∈core,r∈xf
 mr:∀r∈rest,r∈xf
 vd:Void (core++rest)
 mn:∀k,k<core.length->¬Void (core.eraseIdx k++rest)
 len:core.length+rest.length<=xf.length
def take_snoc {α:Type}{l:List α}{n:Nat}{x:α}(h:l[n]?=some x):l.take (n+1)=l.take n++[x]:=by rw[jS,h];rfl
def gX.step {xf core rest:List Pol.R3}(h:gX xf core rest){n:Nat}{x:Pol.R3}(hx:rest[n]?=some x)(v:Void (core++rest.take (n+1)))(nv:¬Void (core++rest.take n)):gX xf (core++[x]) (rest.take n):=by
 have hn:=(zP.mp hx).1;have hm:=zW hx;refine⟨λr hr=>?_,λr hr=>h.mr r (vN hr),v.mono λr hr=>?_,λk hk=>?_,?_⟩
 .rcases xU.mp hr with z|z
  .exact h.mc r z
  .rw[yS.mp z];exact h.mr x hm
 .rw[take_snoc hx] at hr;simp only[xU,yS] at hr ⊢;rcases hr with z|z|z
  .exact .inl (.inl z)
  .exact .inr z
  .exact .inl (.inr z)
 .rw[za,vm] at hk;by_cases c:k<core.length
  .rw[List.eraseIdx_append_of_lt_length c];refine λz=>h.mn k c (z.mono λr hr=>?_);simp only[xU,yS] at hr ⊢;rcases hr with (z|z)|z
   .exact .inl z
   .rw[z];exact .inr hm
   .exact .inr (vN z)
  .have:k=core.length:=by lia
   subst this;rw[List.eraseIdx_append_of_length_le (xY _)];simpa using nv
 .have:=h.len;simp only[za,vm,zQ];lia
def gX.bal {xf core rest:List Pol.R3}(h:gX xf core rest)(f:FR xf)(v:Void core):Bal core:=
 Hh (λs hs=>f.dir s (h.mc s hs)) (λs hs=>f.fr s (h.mc s hs)) v λk hk=>jL λno=>h.mn k hk λp z kp=>no ⟨p,z,λs hs=>kp s (yF _ hs)⟩
def Ak {core:List Pol.R3}(B:Bal core):core.Nodup:=by
 obtain⟨len,pos,x,y,c⟩:=B;have t0:∀r:Pol.R3,Pol.turn r r=0:=λr=>by unfold Pol.turn;rw[gI];lia
 rcases len with l|l
 .match core,l with
  |[s,t],_=>
   refine kE.mpr ⟨λz=>?_,kE.mpr ⟨by simp,List.nodup_nil⟩⟩;have e:s=t:=by simpa using z
   subst e;have p:=pos (abs s.1+abs s.2.1) (by simp[Pol.bal]);simp only[comb,Pol.bal] at x y;generalize abs s.1+abs s.2.1=k at p x y;have z1:s.1=0:=by
    have:k*(2*s.1)=0:=by grind
    rcases vk.mp this with q|q<;>lia
   have z2:s.2.1=0:=by
    have:k*(2*s.2.1)=0:=by grind
    rcases vk.mp this with q|q<;>lia
   have p:=pos (abs s.1+abs s.2.1) (by simp[Pol.bal]);rw[z1,z2] at p;exact absurd p (by decide)
 .match core,l with
  |[s,t,u],_=>
   have no:∀ {a b:Pol.R3},abs (Pol.turn a b)∈Pol.bal [s,t,u]->a≠b:=λ {a b} h e=>by have:=pos _ h;rw[e,t0] at this;exact absurd this (by decide)
   have h1:=no (a:=t) (b:=u) (by simp[Pol.bal]);have h2:=no (a:=u) (b:=s) (by simp[Pol.bal]);have h3:=no (a:=s) (b:=t) (by simp[Pol.bal]);simp[h1,h3,zD h2]
def nq {core:List Pol.R3}(B:Bal core):(Pol.bal core).length=core.length:=by
 rcases B.len with l|l
 .match core,l with
  |[s,t],_=>rfl
 .match core,l with
  |[s,t,u],_=>rfl
def m_ {x m:Int}(h:-m<=x/\x<=m):abs x<=m:=by unfold abs;split<;>lia
def GK {core:List Pol.R3}(B:Bal core)(f:∀r∈core,zk r):∀k∈Pol.bal core,k<=100000:=by
 have tb:∀ {r s:Pol.R3},zk r->zk s->abs (Pol.turn r s)<=100000:=λ {r s} h1 h2=>by have a:=jy h1.1.1.1 h1.1.1.2 h2.1.2.1 h2.1.2.2 (by decide) (by decide);have b:=jy h1.1.2.1 h1.1.2.2 h2.1.1.1 h2.1.1.2 (by decide) (by decide);refine m_ ?_;unfold Pol.turn;lia
 have sb:∀ {r:Pol.R3},zk r->abs r.1+abs r.2.1<=100000:=λ {r} h=>by have a:=m_ (x:=r.1) (m:=30) h.1.1;have b:=m_ (x:=r.2.1) (m:=30) h.1.2;lia
 rcases B.len with l|l
 .match core,l with
  |[s,t],_=>
   have hs:=f s (by simp);have ht:=f t (by simp);intro k hk;simp only[Pol.bal,xR,yI,yJ] at hk;rcases hk with rfl|rfl
   .exact sb ht
   .exact sb hs
 .match core,l with
  |[s,t,u],_=>
   have hs:=f s (by simp);have ht:=f t (by simp);have hu:=f u (by simp);intro k hk;simp only[Pol.bal,xR,yI,yJ] at hk;rcases hk with rfl|rfl|rfl
   .exact tb ht hu
   .exact tb hu hs
   .exact tb hs ht
structure ClE (xf core:List Pol.R3):Prop where
 bal:Bal core
 mem:∀r∈core,r∈xf
def wI (m:Int):F2:=(m,1)
def shL (core:List Pol.R3):List (List Int×Tr):=(core.zip (Pol.bal core)).map λx=>(uo x.1,fT (wI x.2))
def mO (xf:List Pol.R3)(ks:List (List Int×Tr)):Prop:=∀r∈xf,∃n:Nat,xf[n]?=some r/\atD (ks.map λp=>p.1) (ks.map λp=>p.2) (uo r)=some (.int n)
theorem Ag:∀ {ks:List (List Int×Tr)} {k:List Int},(∃p∈ks,p.1=k)->∃p∈ks,p.1=k/\atD (ks.map λp=>p.1) (ks.map λp=>p.2) k=some p.2
 |[],_,⟨_,h,_⟩=>by simp at h
 |q::ks,k,h=>by
  rw[uc,uc];unfold atD;by_cases c:q.1=k
  .rw[xD c];exact⟨q,xS,c,rfl⟩
  .rw[xG c];obtain⟨p,hp,e⟩:=h;rcases xR.mp hp with z|z
   .exact absurd (z▸e) c
   .obtain⟨p',h1,h2,h3⟩:=Ag ⟨p,z,e⟩;exact⟨p',yV _ h1,h2,h3⟩
theorem Ca:∀l:List (List Int×Tr),kO (l.map λp=>p.1) (l.map λp=>p.2)=l.map λp=>.tup [jx p.1,p.2]
 |[]=>rfl
 |p::l=>by show Tr.tup [jx p.1,p.2]::kO (l.map λp=>p.1) (l.map λp=>p.2)=_;rw[Ca l];rfl
theorem A8 {α:Type}{dg:DG}{dk de:DE}{τi:xQ}{KK:List (List Int×Tr)->Prop}{f:α->Tr}{key:α->List Int}{v:α->Tr}:∀(l:List α) (acc:List (List Int×Tr)),
  (∀x∈l,∀N:List Int->Tr->Prop,N (key x) (v x)->dg (f x) τi λτ2=>dk τ2 λk=>de τ2 λy=>∃ns,k=jx ns/\N ns y)->(l.map key).Nodup->(∀x∈l,∀p∈acc,p.1≠key x)->KK (acc++l.map λx=>(key x,v x))->fm dg sf dk de τi KK (l.map f) acc
 |[],acc,_,_,_,k=>by rw[gN,ub] at k;exact k
 |x::l,acc,h,nd,na,k=>by
  refine h x xS (λns y=>fm dg sf dk de τi KK (l.map f) (dj acc ns y)) ?_;have e:dj acc (key x) (v x)=acc++[(key x,v x)]:=by unfold dj;rw[xG];intro z;obtain⟨p,hp,e⟩:=aH.mp z;exact na x xS p hp (zr e)
  rw[e];rw[uc] at nd;obtain⟨n1,n2⟩:=kE.mp nd;refine A8 l _ (λy hy=>h y (yV _ hy)) n2 (λy hy p hp=>?_) (by simpa using k);rcases xU.mp hp with z|z
  .exact na y (yV _ hy) p z
  .rw[yS.mp z];exact λz=>n1 (wN.mpr ⟨y,hy,z.symm⟩)
theorem AF {f:Pol.R3->Int}{m:Int}:∀ {xf:List Pol.R3} {ms:List Int} {n:Nat} {r:Pol.R3},xf[n]?=some r->ms[n]?=some 0->comb f xf (ms.set n m)=comb f xf ms+m*f r
 |[],_,_,_,h,_=>by simp at h
 |_::_,[],_,_,_,h=>by simp at h
 |s::xf,k::ms,0,r,h,h'=>by simp at h h';subst h h';show m*f s+comb f xf ms=0*f s+comb f xf ms+m*f s;grind
 |s::xf,k::ms,n+1,r,h,h'=>by have:=AF (f:=f) (m:=m) (xf:=xf) (ms:=ms) (n:=n) (r:=r) (by simpa using h) (by simpa using h');show k*f s+comb f xf (ms.set n m)=k*f s+comb f xf ms+m*f r;rw[this];lia
theorem rg {f:Pol.R3->Int}:∀(xf:List Pol.R3) (n:Nat),comb f xf (List.replicate n 0)=0
 |[],n=>by cases n<;>rfl
 |_::_,0=>rfl
 |s::xf,n+1=>by show 0*f s+comb f xf (List.replicate n 0)=0;rw[rg xf n];lia
theorem AG {f:Pol.R3->Int}:∀ {l:List Pol.R3} {bs:List Int} {i:Nat} {r:Pol.R3} {b:Int},l[i]?=some r->bs[i]?=some b->comb f (l.take (i+1)) (bs.take (i+1))=comb f (l.take i) (bs.take i)+b*f r
 |[],_,_,_,_,h,_=>by simp at h
 |_::_,[],_,_,_,_,h=>by simp at h
 |s::l,k::bs,0,r,b,h,h'=>by simp at h h';subst h h';show k*f s+0=0+k*f s;lia
 |s::l,k::bs,i+1,r,b,h,h'=>by have:=AG (f:=f) (l:=l) (bs:=bs) (i:=i) (r:=r) (b:=b) (by simpa using h) (by simpa using h');show k*f s+comb f (l.take (i+1)) (bs.take (i+1))=k*f s+comb f (l.take i) (bs.take i)+b*f r;rw[this];lia
def Cs (n:Int):lfr n 1=(n,1):=by
 rw[kR (by decide)];have g:Fra.gd n 1=1:=by unfold Fra.gd;simp
 exact uu (by simp[Fra.low,g]) (by simp[Fra.low,g])
def lK (f:Pol.R3->Int)(xf:List Pol.R3)(ms:List Int):wsum f (xf.zip (ms.map wI))=(comb f xf ms,1):=by
 have go:∀(xf:List Pol.R3) (ms:List Int) (a:Int),(xf.zip (ms.map wI)).foldl (vJ f) (a,1)=(a+comb f xf ms,1):=λxf=>by
  induction xf with
  |nil=>intro ms a;show(a,1)=(a+0,1);rw[kC]
  |cons s xf ih=>
   intro ms a;cases ms with
   |nil=>show(a,1)=(a+0,1);rw[kC]
   |cons m ms=>
    show(xf.zip (ms.map wI)).foldl (vJ f) (vJ f (a,1) (s,wI m))=(a+(m*f s+comb f xf ms),1)
    have e:vJ f (a,1) (s,wI m)=(a+m*f s,1):=by
     show qv (a,1) (wc (m,1) (f s,1))=_;have e1:wc (m,1) (f s,1)=(m*f s,1):=by unfold wc;exact Cs _
     rw[e1];unfold qv;show lfr (a*1+m*f s*1) (1*1)=_;rw[show(1:Int)*1=1 by decide,Cs,gK,gK]
    rw[e,ih];exact uu (by show a+m*f s+comb f xf ms=a+(m*f s+comb f xf ms);lia) rfl
 have:=go xf ms 0;rw[Int.zero_add] at this;exact this
structure VW (xf:List Pol.R3)(ms:List Int):Prop where
 len:ms.length=xf.length
 nn:∀m∈ms,0<=m/\m<=100000
 cnt:(ms.filter λm=>decide (0<m)).length<=3
 x:comb k0 xf ms=0
 y:comb k1 xf ms=0
 c:comb k2 xf ms<0
structure WL (xf core:List Pol.R3)(bs:List Int)(i:Nat)(ms:List Int):Prop where
 len:ms.length=xf.length
 nn:∀m∈ms,0<=m/\m<=100000
 cnt:(ms.filter λm=>decide (0<m)).length<=i
 off:∀(n:Nat) (r:Pol.R3),xf[n]?=some r->r∉core.take i->ms[n]?=some 0
 x:comb k0 xf ms=comb k0 (core.take i) (bs.take i)
 y:comb k1 xf ms=comb k1 (core.take i) (bs.take i)
 c:comb k2 xf ms=comb k2 (core.take i) (bs.take i)
def WL.start (xf core:List Pol.R3)(bs:List Int):WL xf core bs 0 (List.replicate xf.length 0):=by
 refine⟨ig,λm hm=>?_,?_,λn r h _=>?_,rg _ _,rg _ _,rg _ _⟩
 .rw[(List.mem_replicate.mp hm).2];decide
 .rw[List.filter_replicate,xG (by decide)];simp
 .rw[List.getElem?_replicate,xD (zP.mp h).1]
theorem BE {p:Int->Bool}:∀ {l:List Int} {n:Nat} {m:Int},((l.set n m).filter p).length<=(l.filter p).length+1
 |[],_,_=>by simp
 |x::l,0,m=>by show((m::l).filter p).length<=((x::l).filter p).length+1;rw[l_,l_];split<;>split<;>simp<;>lia
 |x::l,n+1,m=>by show((x::l.set n m).filter p).length<=((x::l).filter p).length+1;have:=BE (p:=p) (l:=l) (n:=n) (m:=m);rw[l_,l_];split<;>simp<;>lia
def WL.step {xf core:List Pol.R3}{bs:List Int}{i:Nat}{ms:List Int}(h:WL xf core bs i ms)(nd:core.Nodup){n:Nat}{r:Pol.R3}{b:Int}(hr:xf[n]?=some r)(hc:core[i]?=some r)(hb:bs[i]?=some b)(b0:0<=b/\b<=100000):WL xf core bs (i+1) (ms.set n b):=by
 have ni:r∉core.take i:=λz=>by have e:=take_snoc hc;have nd':(core.take (i+1)).Nodup:=List.Nodup.sublist (List.take_sublist _ _) nd;rw[e] at nd';exact(jh.mp nd').2.2 r z r (yS.mpr rfl) rfl
 have z0:=h.off n r hr ni;have mv:∀f,comb f xf ms=comb f (core.take i) (bs.take i)->comb f xf (ms.set n b)=comb f (core.take (i+1)) (bs.take (i+1)):=λf e=>by rw[AF hr z0,AG hc hb,e]
 refine⟨by rw[qO];exact h.len,λm hm=>?_,?_,λk s hs no=>?_,mv _ h.x,mv _ h.y,mv _ h.c⟩
 .rcases List.mem_or_eq_of_mem_set hm with z|z
  .exact h.nn m z
  .rw[z];exact b0
 .have:=BE (p:=λm=>decide (0<m)) (l:=ms) (n:=n) (m:=b);have:=h.cnt;lia
 .rw[take_snoc hc] at no;simp only[xU,yS,not_or] at no;rw[dD]
  .exact h.off k s hs no.1
  .rintro rfl;rw[hs] at hr;cases hr;exact no.2 rfl
def WL.fin {xf core:List Pol.R3}{ms:List Int}(B:Bal core)(h:WL xf core (Pol.bal core) core.length ms):VW xf ms:=by have l:=nq B;have x:=h.x;have y:=h.y;have c:=h.c;rw[gQ,<-l,gQ] at x y c;have:=h.cnt;have:=B.len;exact⟨h.len,h.nn,by lia,by rw[x];exact B.x,by rw[y];exact B.y,by rw[c];exact B.c⟩
def mx (xf:List Pol.R3)(ws:List F2):Bool:=decide ((wsum k0 (xf.zip ws)).1=0)&&(decide ((wsum k1 (xf.zip ws)).1=0)&&decide ((wsum k2 (xf.zip ws)).1<0))
def vi (xf:List Pol.R3)(t:Tr):Bool:=va xf.length t&&mx xf (Fg t)
def ThS (n:Nat)(t:Tr):Prop:=va n t=true->∃ws,t=wsT ws/\GW n ws
def VW.gw {xf:List Pol.R3}{ms:List Int}(h:VW xf ms):GW xf.length (ms.map wI):=⟨by rw[xX];exact h.len,λw hw=>by obtain⟨m,hm,rfl⟩:=wN.mp hw;have:=h.nn m hm;exact du (by lia)⟩
def VW.void {xf:List Pol.R3}{ms:List Int}(h:VW xf ms):vi xf (wsT (ms.map wI))=true:=by
 have a:va xf.length (wsT (ms.map wI))=true:=by have:=Gw h.gw.2;rw[h.gw.1] at this;exact this
 unfold vi mx;rw[a,lJ,lK,lK,lK,h.x,h.y,wO (show comb k2 xf ms<0 from h.c)];rfl
def Sd.zero {f:F2}{N D:Int}(h:Sd f N D):N=0↔f.1=0:=by
 have e:=h.e;have a:=h.pf;have b:=h.pd;constructor
 .intro z;rw[z,qh] at e;rcases vk.mp e with q|q<;>lia
 .intro z;rw[z,qh] at e;rcases vk.mp e.symm with q|q<;>lia
def Sd.negT {f:F2}{N D:Int}(h:Sd f N D):N<0↔f.1<0:=by
 have e:=h.e;have a:=h.pf;have b:=h.pd;constructor
 .intro z;have:N*f.2<0:=dy z a;rcases zy f.1 0 with q|q
  .exact q
  .have:=pz q (yA b);lia
 .intro z;have:f.1*D<0:=dy z b;rcases zy N 0 with q|q
  .exact q
  .have:=pz q (yA a);lia
def L_:ym:=λts KK=>∃(t:Tr) (xf:List Pol.R3),ts=[t]/\(t=.tup (xf.map xi)\/t=.lst (xf.map xi))/\FR xf/\Void xf/\∀core,ClE xf core->KK (.lst (core.map xi))
def Md:ym:=λts KK=>∃core rest:List Pol.R3,ts=[.lst (core.map xi),.lst (rest.map xi)]/\FR (core++rest)/\Void (core++rest)/\¬Void core/\
 ∀n x,rest[n]?=some x->Void (core++rest.take (n+1))->¬Void (core++rest.take n)->KK (.int (n:Nat))
def L7:ym:=λts KK=>∃core:List Pol.R3,ts=[.lst (core.map xi)]/\Bal core/\(∀r∈core,zk r)/\KK (.lst ((Pol.bal core).map Tr.int))
def L9:ym:=λts KK=>∃(t:Tr) (xf:List Pol.R3),ts=[t]/\(t=.tup (xf.map xi)\/t=.lst (xf.map xi))/\FR xf/\Void xf/\∀core o,ClE xf core->KK (wU o (shL core))
def Me:ym:=λts KK=>∃xf:List Pol.R3,ts=[.tup (xf.map xi)]/\xf.length<=1000/\∀ks o,mO xf ks->KK (wU o ks)
def MO:ym:=λts KK=>∃(xf core:List Pol.R3) (ks:List (List Int×Tr)) (o o':Obj),ts=[wU o ks,wU o' (shL core),.int (xf.length:Nat)]/\mO xf ks/\ClE xf core/\xf.length<=1000/\(∀r∈xf,zk r)/\∀ms,VW xf ms->KK (wsT (ms.map wI))
def MJ:ym:=λts KK=>∃xf:List Pol.R3,ts=[.tup (xf.map xi)]/\LF xf/\(¬Void xf->KK .non)/\(Void xf->∀ms,VW xf ms->KK (wsT (ms.map wI)))
def MM:ym:=λts KK=>∃(xf:List Pol.R3) (t:Tr),ts=[.tup (xf.map xi),t]/\zY xf=true/\ThS xf.length t/\KK (.bl (vi xf t))
def ME:ym:=λts KK=>∃(xf:List Pol.R3) (ws:List F2),ts=[.tup (xf.map xi),.tup (ws.map fT)]/\WS xf ws/\KK (.lst [fT (wsum k0 (xf.zip ws)),fT (wsum k1 (xf.zip ws)),fT (wsum k2 (xf.zip ws))])
def MH:ym:=λts KK=>∃(xf:List Pol.R3) (t:Tr),ts=[.tup (xf.map xi),t]/\zY xf=true/\ThS xf.length t/\KK (.bl (vi xf t))
def Mo:ym:=λts KK=>∃ws:List F2,ts=[wsT ws]/\(3<=ws.length/\ws.length<=8)/\(∀w∈ws,Wt w)/\∀t,ThS ws.length t->KK t
def MD:ym:=λts KK=>∃(xf:List Pol.R3) (told:Tr),ts=[.tup (xf.map xi),told]/\LF xf/\(told=.non\/∃ms,told=wsT (ms.map wI)/\VW xf ms)/\∀L:List (List F2),L.length<=4->(∀ws∈L,GW xf.length ws)->KK (.lst (L.map wsT))
def xP {X:Cx}(K:xo)(i:Nat){x:Str}{n:Int}{j p q r}(e:X.K=K:=by rfl)(hN:X.N[i]?=some x:=by rfl)(hv:Vis X.env.scope x:=by first|exact Or.inl rfl|exact Or.inr (Or.inl rfl)|exact Or.inr (Or.inr rfl))(hd:(x==("__debug__" : Str))=false:=by decide)
  (hcd:(x==("__classdict__" : Str))=false:=by decide):PE X (.Subscript (.Name x p) (.Constant (.int n) j q) r) (tOp (rIx K) (wK i) (tC (.int n))):=zZ (uH K e) (pv i hN hv hd hcd) xk (λ_ _=>rfl)
def xO {K:xo}{i:Nat}{n:Int}:xJ K true (tOp (rIx K) (wK i) (tC (.int n))) (d2 fIx (qu i) (dC (Tr.int n))):=vh xh (jA (t:=Tr.int _))
def xI {X:Cx}{e te}(a:PE X e te)(h:starEach [e] X.env=(false,eval e X.env)::starEach [] X.env:=by rfl):PA X [e] (wW te vI):=yz a uL h
def xn {X:Cx}{e te f tf}(a:PE X e te)(b:PE X f tf)(h:starEach [f] X.env=(false,eval f X.env)::starEach [] X.env:=by rfl)(g:starEach [e,f] X.env=(false,eval e X.env)::starEach [f] X.env:=by rfl):PA X [e,f] (wW te (wW tf vI)):=yz a (yz b uL h) g
def xF {K:xo}{b:Bool}{te:TE}{de:DE}(h:xJ K b te de):OkA K b 1 (wW te vI) (j6 de fj):=yO h uK
def xt {K:xo}{b:Bool}{te tf:TE}{de df:DE}(h:xJ K b te de)(g:xJ K b tf df):OkA K b 2 (wW te (wW tf vI)) (j6 de (j6 df fj)):=yO h (yO g uK)
def xm {K:xo}{i:Int}:xJ K true (tC (.int i)) (dC (.int i)):=jA
def w5 {K:xo}{i:Bool}:xJ K true (tC (.bl i)) (dC (.bl i)):=jA
def yp {N P:List Str}{sc:Scope}(h:sc.kind=.function/\sc.isCoroutine=false/\sc.isGenerator=false/\N.Nodup/\N.take P.length=P/\(∀x∈P,sc.names.lookup x=some .local\/sc.names.lookup x=some .cell)/\∀y∈sc.names,y.2≠.free:=by decide +kernel):yj N P sc:=⟨h.1,h.2.1,h.2.2.1,h.2.2.2.1,h.2.2.2.2.1,h.2.2.2.2.2.1,h.2.2.2.2.2.2⟩
def yH {X:Cx}(i:Nat){x:Str}{pos:Pos}(hN:X.N.Nodup)(hi:X.N[i]?=some x:=by rfl)(hx:X.env.scope.names.lookup x=some .local:=by rfl):PG X (.Name x pos) (vV i):=zH hN hi (.inl hx) (.inr hx)
def yx {X:Cx}(i:Nat){x:Str}{e:Expr}{te:TE}{pos pos':Pos}(hN:X.N.Nodup)(he:PE X e te)(hi:X.N[i]?=some x:=by rfl)(hx:X.env.scope.names.lookup x=some .local:=by rfl)(hs:swapsWith e (some (.Name x pos')) pos.line X.env=pure false:=by rfl):PS X (.Assign [.Name x pos'] e pos) (jc te (vV i)):=k_ hN hi (.inl hx) he hs (.inr hx)
end L2
namespace K50
open PySem L2 Trn
structure DF (K:xo)(mg:Str->Option Value)(x:Str)(st:Stmt)(f:Addr)(fd:FuncData)(ps:List Str):Prop where
 F:Fun K x x st f fd
 m:mg x=some (.ref f)
 b:Binds K fd ps []
def yM {P:Program}{w:World}{K:xo}{mg:Str->Option Value}{base:Heap}{k n:Nat}{x:Str}{st:Stmt}{f:Addr}{fd:FuncData}{N ps:List Str}{fr:Bool}{sp:ym}{T:TS}{D:DS}(F:DF K mg x st f fd ps)(S:yj N ps (xH st))(pe:∀ {cdv:Value} {A:Around} {outer:List Env} {s:Shared} {H:Hp} {E:XK},zT k (A.deeper (PyProof.Rows.envOfC x (xH st) s.heap.objs.size f cdv))->PSs (qt CX0 P w K mg base N x (xH st) f cdv A outer s H E).nox (ug st) T)(ok:zi K fr T D)(rd:∀ts KK,ts.length=n->sp ts KK->D {nx:=λ_=>fr=false/\KK .non,rt:=KK} (startT N false ts))(hn:ps.length=n:=by rfl):x_ P w K mg base (k+1) x ps (spT n false fr sp):=C6 F.1 S F.2 F.3 hn λ_ _ _ _ _ _ hr=>⟨T,D,pe hr,ok,rd⟩
section
variable (P:Program) (w:World) (K:xo) (mg:Str->Option Value) (base:Heap)
abbrev iU:=x_ P w K mg base 1 "_law_cell_at" ["_law_script", "_law_k"] (Ot K)
abbrev i9:=x_ P w K mg base 2 "_law_state" ["_law_script", "_law_k"] (EA K)
abbrev m8:=x_ P w K mg base 1 "is_whole" ["thing"] (spT 1 false false C9)
abbrev eB:=x_ P w K mg base 2 "are_whole" ["things"] (spT 1 false false L5)
abbrev dP:=x_ P w K mg base 1 "greatest_divisor" ["one", "other"] (spT 2 false false C7)
abbrev eT:=x_ P w K mg base 2 "lowest" ["top", "bottom"] (spT 2 false false MA)
abbrev eV:=x_ P w K mg base 3 "places_of" ["piece"] (spT 1 false true ML)
abbrev dQ:=x_ P w K mg base 5 "piece_left" ["rows"] (spT 1 false false MK)
abbrev eF:=x_ P w K mg base 6 "corners_left" ["rows"] (spT 1 false true Ma)
abbrev eG:=x_ P w K mg base 4 "cut_down" ["piece", "rows"] (spT 2 false false Mc)
abbrev m7:=x_ P w K mg base 3 "cut_piece" ["piece", "row"] (spT 2 false false cZ)
abbrev eJ:=x_ P w K mg base 2 "from_least" ["piece"] (spT 1 false true Mf)
abbrev eZ:=x_ P w K mg base 2 "where_crossed" ["row", "one", "other"] (spT 3 false false Mb)
abbrev m6:=x_ P w K mg base 1 "beyond" ["row", "corner"] (spT 2 false false L8)
abbrev eN:=x_ P w K mg base 1 "is_ahead" ["one", "other"] (spT 2 false false L3)
abbrev eS:=x_ P w K mg base 3 "is_row" ["thing"] (spT 1 false false Mm)
abbrev dR:=x_ P w K mg base 1 "turn_to" ["one", "other"] (spT 2 false false jD)
abbrev eL:=x_ P w K mg base 2 "furthest" ["first", "rows", "sign"] (spT 3 false false Mg)
abbrev eW:=x_ P w K mg base 2 "points_back" ["first", "rows"] (spT 2 false false L6)
abbrev eM:=x_ P w K mg base 3 "go_round" ["rows"] (spT 1 false false Mh)
abbrev eR:=x_ P w K mg base 1 "is_near" ["place"] (spT 1 false false Ml)
abbrev eP:=x_ P w K mg base 4 "is_field_row" ["thing"] (spT 1 false false Mj)
abbrev eO:=x_ P w K mg base 7 "is_field" ["thing"] (spT 1 false false Mi)
abbrev m9:=x_ P w K mg base 8 "need_field" ["thing"] (spT 1 false false MI)
abbrev eQ:=x_ P w K mg base 2 "is_fraction" ["thing"] (spT 1 false false Mk)
abbrev eA:=x_ P w K mg base 3 "are_weights" ["field", "thing"] (spT 2 false false L4)
abbrev e_:=x_ P w K mg base 2 "whole_sum" ["rows", "weights"] (spT 2 false false MP)
abbrev eE:=x_ P w K mg base 7 "clashing" ["rows"] (spT 1 false true L_)
abbrev eC:=x_ P w K mg base 2 "balance" ["core"] (spT 1 false true L7)
abbrev eD:=x_ P w K mg base 8 "clash_shares" ["rows"] (spT 1 false false L9)
abbrev eI:=x_ P w K mg base 6 "first_that_empties" ["core", "rest"] (spT 2 false false Md)
abbrev eH:=x_ P w K mg base 1 "first_numbers" ["rows"] (spT 1 false false Me)
abbrev eY:=x_ P w K mg base 1 "weights_by" ["numbers", "shares", "many"] (spT 3 false false MO)
abbrev eU:=x_ P w K mg base 9 "nothing_weights" ["field"] (spT 1 false false MJ)
abbrev eX:=x_ P w K mg base 9 "shows_nothing" ["field", "thing"] (spT 2 false false MM)
abbrev mY:=x_ P w K mg base 1 "_law_divisor" ["_law_one", "_law_other"] (spT 2 false false C7)
abbrev g_:=x_ P w K mg base 2 "_law_low" ["_law_top", "_law_bottom"] (spT 2 false false My)
abbrev dO:=x_ P w K mg base 3 "_law_times" ["_law_one", "_law_other"] (spT 2 false false MF)
abbrev mZ:=x_ P w K mg base 1 "_law_less" ["_law_one", "_law_other"] (spT 2 false false Mx)
abbrev m5:=x_ P w K mg base 3 "_law_plus" ["_law_one", "_law_other"] (spT 2 false false MB)
abbrev i5:=x_ P w K mg base 3 "_law_minus" ["_law_one", "_law_other"] (spT 2 false false Mz)
abbrev iP:=x_ P w K mg base 2 "_law_ahead" ["_law_one", "_law_other"] (spT 2 false false Mn)
abbrev iR:=x_ P w K mg base 4 "_law_bend" ["_law_one", "_law_other", "_law_third"] (spT 3 false false Mr)
abbrev iV:=x_ P w K mg base 5 "_law_chain" ["_law_places"] (spT 1 false false Mp)
abbrev i6:=x_ P w K mg base 6 "_law_ring" ["_law_places"] (spT 1 false false MC)
abbrev iX:=x_ P w K mg base 3 "_law_cross" ["_law_one", "_law_other"] (spT 2 false false Ms)
abbrev i4:=x_ P w K mg base 5 "_law_keeps" ["_law_row", "_law_place"] (spT 2 false false Mw)
abbrev iW:=x_ P w K mg base 7 "_law_corners" ["_law_rows"] (spT 1 false false Mq)
abbrev eg:=x_ P w K mg base 4 "_law_value" ["_law_row", "_law_place"] (spT 2 false false MG)
abbrev fb:=x_ P w K mg base 1 "_law_take" ["_law_state_here", "_law_many"] (spT 1 true false c6)
abbrev iT:=x_ P w K mg base 2 "_law_box" ["_law_state_here"] (spT 0 true false C8)
abbrev i8:=x_ P w K mg base 2 "_law_spike" ["_law_state_here"] (spT 0 true false C8)
abbrev iY:=x_ P w K mg base 3 "_law_field" ["_law_state_here"] (spT 0 true false Mu)
abbrev iQ:=x_ P w K mg base 4 "_law_bare" ["_law_state_here"] (spT 0 true false Mt)
abbrev er:=x_ P w K mg base 1 "_law_whole" ["_law_thing"] (spT 1 false false C9)
abbrev iZ:=x_ P w K mg base 2 "_law_is_fraction" ["_law_thing"] (spT 1 false false Mv)
abbrev i_:=x_ P w K mg base 4 "_law_sums" ["_law_rows", "_law_weights"] (spT 2 false false ME)
abbrev i0:=x_ P w K mg base 5 "_law_is_void" ["_law_field_here", "_law_thing"] (spT 2 false false MH)
abbrev iS:=x_ P w K mg base 2 "_law_bent" ["_law_state_here", "_law_weights"] (spT 1 true false Mo)
abbrev i7:=x_ P w K mg base 4 "_law_some" ["_law_state_here", "_law_field_here", "_law_told"] (spT 2 true false MD)
end
def top (i:Nat):Stmt:=PySem.Challenge.pw_roundcuts_k50_weights_that_show_nothing.main.body.getD i (.Pass ⟨0,0,0,0⟩)
abbrev oS:Stmt:=top 4
abbrev tV:Stmt:=top 5
abbrev oQ:Stmt:=top 6
abbrev oM:Stmt:=top 7
abbrev oT:Stmt:=top 8
abbrev oD:Stmt:=top 11
abbrev oW:Stmt:=top 12
abbrev oE:Stmt:=top 13
abbrev tY:Stmt:=top 14
abbrev oF:Stmt:=top 15
abbrev oB:Stmt:=top 16
abbrev tZ:Stmt:=top 17
abbrev oI:Stmt:=top 18
abbrev oO:Stmt:=top 19
abbrev oR:Stmt:=top 21
abbrev oZ:Stmt:=top 22
abbrev oK:Stmt:=top 23
abbrev oJ:Stmt:=top 24
abbrev oX:Stmt:=top 25
abbrev sZ:Stmt:=top 27
abbrev oP:Stmt:=top 28
abbrev tX:Stmt:=top 29
abbrev oU:Stmt:=top 30
abbrev tW:Stmt:=top 32
abbrev oC:Stmt:=top 33
abbrev oH:Stmt:=top 34
abbrev oA:Stmt:=top 35
abbrev tU:Stmt:=top 37
abbrev s_:Stmt:=top 38
abbrev oG:Stmt:=top 40
abbrev o6:Stmt:=top 41
abbrev oV:Stmt:=top 43
abbrev oY:Stmt:=top 44
abbrev ou:Stmt:=top 46
abbrev p9:Stmt:=top 47
abbrev oj:Stmt:=top 48
abbrev ox:Stmt:=top 49
abbrev p6:Stmt:=top 50
abbrev ot:Stmt:=top 51
abbrev p5:Stmt:=top 52
abbrev oq:Stmt:=top 53
abbrev p_:Stmt:=top 54
abbrev pX:Stmt:=top 55
abbrev p8:Stmt:=top 56
abbrev oi:Stmt:=top 57
abbrev oo:Stmt:=top 58
abbrev oy:Stmt:=top 59
abbrev oh:Stmt:=top 60
abbrev pW:Stmt:=top 61
abbrev om:Stmt:=top 62
abbrev pY:Stmt:=top 63
abbrev p7:Stmt:=top 64
abbrev tS:Stmt:=top 65
abbrev tR:Stmt:=top 66
abbrev oz:Stmt:=top 67
abbrev oa:Stmt:=top 68
abbrev tT:Stmt:=top 69
abbrev og:Stmt:=top 70
abbrev pZ:Stmt:=top 71
abbrev sY:Stmt:=top 72
abbrev qH:Stmt:=top 73
def N8:yj ["thing"] ["thing"] (xH oS):=yp
def NY:yj ["things"] ["things"] (xH tV):=yp
def lr:yj ["thing", "top", "bottom"] ["thing"] (xH oQ):=yp
def lq:yj ["one", "other"] ["one", "other"] (xH oM):=yp
def Ep:yj ["top", "bottom", "shared"] ["top", "bottom"] (xH oT):=yp
def NZ:yj ["rows"] ["rows"] (xH oD):=yp
def Oa:yj ["rows"] ["rows"] (xH oW):=yp
def lj:yj ["piece", "rows", "row"] ["piece", "rows"] (xH oE):=yp
def Ob:yj ["piece"] ["piece"] (xH tY):=yp
def f_:yj ["piece", "row", "left", "at", "corner", "before", "crossing"] ["piece", "row"] (xH oF):=yp
def gA:yj ["row", "corner", "a", "b", "c", "x", "y", "bottom"] ["row", "corner"] (xH oB):=yp
def gB:yj ["row", "one", "other", "one_off", "other_off", "x", "y", "bottom", "shared"] ["row", "one", "other"] (xH tZ):=yp
def ak:yj ["piece", "start", "at", "corner"] ["piece"] (xH oI):=yp
def N0:yj ["one", "other"] ["one", "other"] (xH oO):=yp
def N7:yj ["thing"] ["thing"] (xH oR):=yp
def Oc:yj ["one", "other"] ["one", "other"] (xH oZ):=yp
def t8:yj ["rows", "first", "left", "right"] ["rows"] (xH oK):=yp
def t7:yj ["first", "rows", "sign", "last", "row"] ["first", "rows", "sign"] (xH oJ):=yp
def Er:yj ["first", "rows", "row"] ["first", "rows"] (xH oX):=yp
def N5:yj ["thing"] ["thing"] (xH sZ):=yp
def t_:yj ["thing", "a", "b", "c"] ["thing"] (xH oP):=yp
def N6:yj ["place"] ["place"] (xH tX):=yp
def N9:yj ["thing"] ["thing"] (xH oU):=yp
def Eo:yj ["rows", "core"] ["rows"] (xH tW):=yp
def ai:yj ["rows", "core", "rest", "at"] ["rows"] (xH oC):=yp
def aj:yj ["core", "rest", "at", "piece"] ["core", "rest"] (xH oH):=yp
def fZ:yj ["core", "one", "other", "third"] ["core"] (xH oA):=yp
def NX:yj ["field", "thing"] ["field", "thing"] (xH tU):=yp
def qJ:yj ["rows", "weights", "used", "bottom", "row", "weight", "tops", "many"] ["rows", "weights"] (xH s_):=yp
def t6:yj ["rows", "numbers", "number", "row"] ["rows"] (xH oG):=yp
def ma:yj ["numbers", "shares", "many", "weights", "row", "share"] ["numbers", "shares", "many"] (xH o6):=yp
def N_:yj ["field"] ["field"] (xH oV):=yp
def ls:yj ["field", "thing", "tops", "bottom"] ["field", "thing"] (xH oY):=yp
def t5:yj ["_law_state_here", "_law_many", "_law_found", "_law_stirred"] ["_law_state_here", "_law_many"] (xH ou):=yp
def Em:yj ["_law_one", "_law_other"] ["_law_one", "_law_other"] (xH p9):=yp
def o_:yj ["_law_top", "_law_bottom", "_law_by"] ["_law_top", "_law_bottom"] (xH oj):=yp
def NU:yj ["_law_one", "_law_other"] ["_law_one", "_law_other"] (xH ox):=yp
def NN:yj ["_law_script", "_law_k"] ["_law_script", "_law_k"] (xH p6):=yp
def En:yj ["_law_script", "_law_k", "_law_cell"] ["_law_script", "_law_k"] (xH ot):=yp
def jb:yj ["_law_state_here", "_law_rows", "_law_a", "_law_b", "_law_many", "_law_turn", "_law_x", "_law_y"] ["_law_state_here"] (xH p5):=yp
def lh:yj ["_law_state_here", "_law_long", "_law_rows"] ["_law_state_here"] (xH oq):=yp
def qI:yj ["_law_state_here", "_law_rows", "_law_way", "_law_u", "_law_v", "_law_found", "_law_a", "_law_b", "_law_c"] ["_law_state_here"] (xH p_):=yp
def jJ:yj ["_law_state_here", "_law_field_here", "_law_way", "_law_a", "_law_b", "_law_c"] ["_law_state_here"] (xH pX):=yp
def o8:yj ["_law_one", "_law_other", "_law_by", "_law_x"] ["_law_one", "_law_other"] (xH p8):=yp
def NQ:yj ["_law_one", "_law_other"] ["_law_one", "_law_other"] (xH oi):=yp
def NS:yj ["_law_one", "_law_other"] ["_law_one", "_law_other"] (xH oo):=yp
def NV:yj ["_law_row", "_law_place"] ["_law_row", "_law_place"] (xH oy):=yp
def NP:yj ["_law_row", "_law_place"] ["_law_row", "_law_place"] (xH oh):=yp
def NM:yj ["_law_one", "_law_other"] ["_law_one", "_law_other"] (xH pW):=yp
def NR:yj ["_law_one", "_law_other"] ["_law_one", "_law_other"] (xH om):=yp
def El:yj ["_law_one", "_law_other", "_law_third", "_law_ahead_here"] ["_law_one", "_law_other", "_law_third"] (xH pY):=yp
def o7:yj ["_law_places", "_law_found", "_law_place"] ["_law_places"] (xH p7):=yp
def lb:yj ["_law_places", "_law_some_here", "_law_place"] ["_law_places"] (xH tS):=yp
def ae:yj ["_law_rows", "_law_found", "_law_k", "_law_other", "_law_place"] ["_law_rows"] (xH tR):=yp
def NW:yj ["_law_thing"] ["_law_thing"] (xH oz):=yp
def NO:yj ["_law_thing"] ["_law_thing"] (xH oa):=yp
def ah:yj ["_law_rows", "_law_weights", "_law_found", "_law_row", "_law_weight"] ["_law_rows", "_law_weights"] (xH tT):=yp
def af:yj ["_law_field_here", "_law_thing", "_law_weight", "_law_a", "_law_b", "_law_c"] ["_law_field_here", "_law_thing"] (xH og):=yp
def aa:yj ["_law_state_here", "_law_weights", "_law_at", "_law_odd", "_law_some_here"] ["_law_state_here", "_law_weights"] (xH pZ):=yp
def lg:yj ["_law_state_here", "_law_field_here", "_law_told", "_law_found"] ["_law_state_here", "_law_field_here", "_law_told"] (xH sY):=yp
def jK:yj ["_law_script", "_law_k", "_law_state_here", "_law_field_here", "_law_told", "_law_weights", "_law_thing", "_law_found"] ["_law_script"] (xH qH):=yp
abbrev bn:List Str:=["len", "range", "max", "min", "abs", "isinstance", "tuple", "list", "int", "bool", "str", "dict", "all", "zip", "enumerate", "ValueError"]
section
variable (P:Program) (w:World) {K:xo} {mg:Str->Option Value} (base:Heap) {f:Addr} {fd:FuncData}
def Ks (B:yo mg bn)(D:DF K mg "_law_cell_at" p6 f fd ["_law_script", "_law_k"]):iU P w K mg base:=by
 refine sR D.1 NN D.2 D.3 (λvs H Q E h=>?_) (λcdv A outer s H vs Q E hr h=>?_)
 .obtain⟨a,ns,k,rfl,_⟩:=h;rfl
 obtain⟨a,ns,k,rfl,hS,h63,h0,q⟩:=h;refine⟨_,(xA (y3 (y8 CZ (pv 1) (yB (wo K) rfl (B.get "len") wm (yz (pv 0) uL)) (yt _)) (xC (xT (zZ (jw K) (pv 0) (pv 1) (λ_ _=>rfl)))) y4) (xC (xT xk))),?_⟩
 refine⟨_,rfl,_,rfl,a,_,rfl,.inl hS,_,_,rfl,rfl,_,rfl,?_⟩;have hl:(ns.map V.int).length=ns.length:=xX _;refine B9 (λc=>?_) (λc=>?_)
 .have c':=zr c;rw[hl] at c';obtain⟨v,hv⟩:=Gz h0 c';exact⟨_,rfl,_,rfl,a,_,_,_,rfl,rfl,hS,hv,q v⟩
 .exact q 0
def KL (F:Fun K "_law_state" "_law_state" ot f fd)(m:mg "_law_state" = some (.ref f))(b:Binds K fd ["_law_script", "_law_k"] [])(bR:iU P w K mg base) :
  i9 P w K mg base:=by
 refine sR F En m b (λvs H Q E h=>?_) (λcdv A outer s H vs Q E hr h=>?_)
 .obtain⟨a,ns,k,rfl,_⟩:=h;rfl
 obtain⟨a,ns,k,rfl,hS,h63,h0,q⟩:=h;refine⟨_,(xA (k_ (i:=2) En.nd rfl (Or.inl rfl) (xw bR hr (yz (pv 0) (yz (pv 1) uL)))) (xA (y3 (y8 cW (pv 2) (xu C1 xk xk) (yt _)) (xC (xT (zJ (yz (xu wj (pv 2) (xu C1 xk xk)) (yz wC uL))))) y4) (xC (xT (zJ (yz (xu fK (pv 2) xk) (yz wC uL))))))),?_⟩
 refine⟨_,rfl,_,rfl,a,ns,k,rfl,hS,h63,h0,λn=>?_⟩;have pw:iK 10 18:=⟨by decide,by decide,by decide⟩
 refine⟨_,rfl,_,_,rfl,rfl,pw,_,_,rfl,rfl,_,rfl,?_⟩;refine B9 (λc=>?_) (λc=>?_)
 .have c':n>=10^(18:Int).toNat:=zr c;refine⟨_,rfl,_,_,rfl,rfl,pw,_,_,rfl,rfl,(by show 2<=sizeLine;decide),λp hp=>q p _ _ hp ⟨?_,λz=>by cases z⟩⟩;show 0<=n-10^(18:Int).toNat;lia
 .refine⟨_,rfl,_,_,rfl,rfl,(by show(0:Int)<2147483647;decide),(by show 2<=sizeLine;decide),λp hp=>q p _ _ hp ⟨?_,λ_=>?_⟩⟩
  .show 0<=n%2147483647;lia
  .show n%2147483647<2147483647;lia
theorem KO (F:Fun K "_law_take" "_law_take" ou f fd)(m:mg "_law_take" = some (.ref f))(b:Binds K fd ["_law_state_here", "_law_many"] []):x_ P w K mg base 1 "_law_take" ["_law_state_here", "_law_many"] EB:=by
 refine sR F t5 m b (λvs H Q E h=>?_) (λcdv A outer s H vs Q E hr h=>?_)
 .obtain⟨p,k,rfl,_⟩:=h;rfl
 obtain⟨p,many,rfl,⟨n,bb,hp,hn,hb⟩,h0,h1,q⟩:=h;refine⟨_,(xA (y3 (wJ (zZ (jw K) (pv 0) xk (λ_ _=>rfl))) (xA (k_ (i:=2) t5.nd rfl (Or.inl rfl) (xu fK (zZ (jw K) (pv 0) xk (λ_ _=>rfl)) (pv 1))) (xA (vG (xu CY (zZ (jw K) (pv 0) xk (λ_ _=>rfl)) (pv 1)) (ph (pv 0) xk set_list)) (xC (xT (pv 2))))) y4) (xA (vG (xu fK (xu wg (xu sO (zZ (jw K) (pv 0) xk (λ_ _=>rfl)) xk) xk) xk) (ph (pv 0) xk set_list)) (xA (k_ (i:=3) t5.nd rfl (Or.inl rfl) (xu fK (xu wg (xu wg (xu sO (zZ (jw K) (pv 0) xk (λ_ _=>rfl)) (zZ (jw K) (pv 0) xk (λ_ _=>rfl))) (xu sO xk (zZ (jw K) (pv 0) xk (λ_ _=>rfl)))) xk) xk)) (xA (k_ (i:=3) t5.nd rfl (Or.inl rfl) (xu fK (xu wg (xu sO (pv 3) (pv 3)) (xu sO xk (pv 3))) xk)) (xC (xT (xu fK (xu CY (pv 3) xk) (pv 1)))))))),?_⟩
 refine⟨_,rfl,p,_,_,_,rfl,rfl,ye.of hp,rfl,bb,rfl,?_⟩;have fin:∀(r n':Int),0<=r->r<many->mW n' bb->Q (.int r) (upd H p (.lst [.int n',.bl bb])):=λr n' h2 h3 h4=>q r _ h2 h3 ⟨λb o hb k=>by rw[xN hb];exact k,n',bb,yU,h4⟩;cases bb with
 |true=>refine vW ?_;refine⟨_,rfl,p,_,_,_,rfl,rfl,ye.of hp,rfl,_,rfl,_,_,rfl,rfl,h0,?_⟩;refine⟨_,rfl,p,_,_,_,rfl,rfl,ye.of hp,rfl,_,rfl,_,_,rfl,rfl,Az h0 h1,?_⟩;refine⟨_,rfl,p,_,_,0,rfl,rfl,hp,rfl,?_⟩;refine⟨_,rfl,?_⟩;exact fin _ _ (lT _ (by lia)) (lS _ h0) ⟨Int.ediv_nonneg hn (by lia),λz=>by cases z⟩
 |false=>
  refine vc ?_;have hb':=hb rfl;have cm:∀(i j:Int),0<=i->i<2147483700->aP i j:=λi j a b=>.inl ⟨by lia,by lia⟩;refine⟨_,rfl,p,_,_,_,rfl,rfl,ye.of hp,rfl,_,_,rfl,rfl,cm _ _ hn (by lia),_,_,rfl,rfl,_,_,rfl,rfl,(by show(0:Int)<2147483647;decide),?_⟩;refine⟨_,rfl,p,_,_,0,rfl,rfl,hp,rfl,?_⟩;have hz:∃z:Int,(n*48271+29)%2147483647=z/\0<=z/\z<2147483647:=⟨_,rfl,by lia,by lia⟩
  obtain⟨z,ez,z0,z1⟩:=hz;have hp':(upd H p (.lst [.int z,.bl false])) p=some (.lst [.int z,.bl false]):=yU;show mf _ _ _ _ (upd H p (.lst [.int ((n*48271+29)%2147483647),.bl false]));rw[ez];refine⟨_,rfl,p,_,_,_,rfl,rfl,ye.of hp',rfl,_,rfl,p,_,_,_,rfl,rfl,ye.of hp',rfl,_,_,rfl,rfl,cm _ _ z0 (by lia),?_⟩;refine⟨_,rfl,p,_,_,_,rfl,rfl,ye.of hp',rfl,_,_,rfl,rfl,.inl ⟨by decide,by decide⟩,_,_,rfl,rfl,_,_,rfl,rfl,_,_,rfl,rfl,(by show(0:Int)<2147483629;decide),?_⟩;have hy:∃y:Int,(z*z+39373*z+7)%2147483629=y/\0<=y/\y<2147483629:=⟨_,rfl,lT _ (by decide),lS _ (by decide)⟩
  obtain⟨y,ey,y0,y1⟩:=hy;show mf _ _ _ [_,_,_,some (.int ((z*z+39373*z+7)%2147483629))] _;rw[ey];refine⟨_,rfl,_,rfl,_,_,rfl,rfl,cm _ _ y0 (by lia),_,rfl,_,_,rfl,rfl,.inl ⟨by decide,by decide⟩,_,_,rfl,rfl,_,_,rfl,rfl,(by show(0:Int)<2147483587;decide),?_⟩;refine⟨_,rfl,_,_,rfl,rfl,Az (by decide) (by decide),_,rfl,_,_,rfl,rfl,h0,?_⟩;exact fin _ _ (lT _ (by lia)) (lS _ h0) ⟨z0,λ_=>z1⟩
end
section
variable (P:Program) (w:World) {K:xo} {mg:Str->Option Value} (base:Heap) {f:Addr} {fd:FuncData}
def Lj (B:yo mg bn)(D:DF K mg "is_whole" oS f fd ["thing"])  :
  m8 P w K mg base:=by
 refine yM D N8 (λhr=>(xC (xT (vE (yB qr rfl (B.get "isinstance") qq (xn (pv 0) (qF (v:=V.ty "int") rfl (B.get "int") Ar rfl))) (kl (c_ (yB qr rfl (B.get "isinstance") qq (xn (pv 0) (qF (v:=V.ty "bool") rfl (B.get "bool") nA rfl)))))))))
  (yk (vB (qx xh) (cT (qx xh)))) λts KK hl h=>?_
 obtain⟨t,rfl,k⟩:=h;cases t<;>exact k
def KU (B:yo mg bn)(D:DF K mg "are_whole" tV f fd ["things"])(gi:m8 P w K mg base) :
  eB P w K mg base:=by
 refine yM D NY (λhr=>(xC (xT (yB (dX K rfl) rfl (B.get "all") dW (xI (vF (uF (N:=["thing"]) (xy:=[none]) (XN:=["things"]) (xs:=xH tV) (by decide +kernel) rfl rfl) rfl (q9 rfl) (z_ K (pv 0)) (λ_ _ _ _=>(zH (i:=0) (show(["thing"]:List Str).Nodup by decide +kernel) rfl (Or.inl rfl))) (λ_ _ _ _=>v_) (λ_ _ _ _=>(xw gi hr (xI (pv 0))))))))))
  (yk (yY dY (xF (zF.e (uW (we xh).c xV v7 (xM (xF xh))))))) λts KK hl h=>?_
 obtain⟨t,rfl,us,hs,hz,k⟩:=h;rcases hs with rfl|rfl
 .refine⟨hz,j5 (λx=>.bl (fv x)) (λx _ N hN=>⟨x,rfl,hN⟩) ⟨us.map fv,by rw[uP];rfl,?_⟩⟩;simpa using k
 .refine⟨hz,j5 (λx=>.bl (fv x)) (λx _ N hN=>⟨x,rfl,hN⟩) ⟨us.map fv,by rw[uP];rfl,?_⟩⟩;simpa using k
def Lc (B:yo mg bn)(D:DF K mg "greatest_divisor" oM f fd ["one", "other"])  :
  dP P w K mg base:=by
 refine yM D lq (λhr=>(xA (ko (i:=0) (j:=1) rfl lq.nd rfl rfl (by decide) rfl rfl (xn (yB uD rfl (B.get "abs") uC (xI (pv 0))) (yB uD rfl (B.get "abs") uC (xI (pv 1)))) (by rfl))
  (xA (sV zX (y8 (vC hr.units) (pv 1) xk (yt _)) (xC (ko (i:=0) (j:=1) rfl lq.nd rfl rfl (by decide) rfl rfl (xn (pv 1) (xu tD (pv 0) (pv 1))) (by rfl))))
  (xC (xT (pv 0))))))
  (xE (kb (xt (yY uE (xF xh)) (yY uE (xF xh)))) (xE (sN (y_ (xr vD xh xm)) (kb (xt xh (xr tE xh xh)))) (yk xh))) λts KK hl h=>?_
 obtain⟨a,c,rfl,k⟩:=h;refine aB (λn τ=>∃x y:Int,τ=[.fz (.int x),.fz (.int y)]/\0<=x/\0<=y/\n=y.toNat/\Int.gcd x y=Int.gcd a c) c.natAbs ⟨_,_,rfl,by split<;>lia,by split<;>lia,by split<;>lia,?_⟩ ?_
 .have e1:(if a<0 then -a else a)=(a.natAbs:Int):=by split<;>lia
  have e2:(if c<0 then -c else c)=(c.natAbs:Int):=by split<;>lia
  rw[e1,e2];simp[Int.gcd]
 .rintro n τ N ⟨x,y,rfl,hx,hy,rfl,hg⟩ hN;refine yr (b:=!decide (y=0)) (λc0=>?_) (λc0=>?_)
  .have c0:y≠0:=by simpa using c0
   have e:x.fmod y=x%y:=ID hy;have l:=lS x (show 0<y by lia);have l0:=lT x c0;refine⟨c0,hN (x%y).toNat _ (by lia) ⟨_,_,rfl,hy,by rw[e];exact l0,by rw[e],?_⟩⟩;rw[e,<-hg,IS hx hy]
  .have c0:y=0:=by simpa using c0
   subst c0;have:(Int.gcd a c:Int)=x:=by rw[<-hg];simp[Int.gcd];lia
   exact this▸k
def Lm (B:yo mg bn)(D:DF K mg "lowest" oT f fd ["top", "bottom"])(vA:dP P w K mg base) :
  eT P w K mg base:=by
 refine yM D Ep (λhr=>(xA (yx 2 Ep.nd (xw vA hr (xn (pv 0) (pv 1)))) (xC (xT (yD (xn (xu qB (pv 0) (pv 2)) (xu qB (pv 1) (pv 2))))))))
  (xE (yL (xM (xt xh xh))) (yk (yC (b:=true) (xt (xr qD xh xh) (xr qD xh xh))))) λts KK hl h=>?_
 obtain⟨t,bo,rfl,hb,bd,k⟩:=h;have gp:(0:Int)<(Int.gcd t bo:Int):=by have:=aE t hb;lia
 have gb:=nr (t:=t) hb bd;refine⟨t,bo,rfl,⟨by lia,gb⟩,⟨by lia,gb⟩,?_⟩;show KK (.tup [.int (t.fdiv (Int.gcd t bo)),.int (bo.fdiv (Int.gcd t bo))]);rw[vU (by lia),vU (by lia)];exact k
def K2 (B:yo mg bn)(D:DF K mg "corners_left" oD f fd ["rows"])(cL:eV P w K mg base)(vZ:dQ P w K mg base) :
  eF P w K mg base:=by
 refine yM D NZ (λhr=>(xC (xT (xw cL hr (xI (xw vZ hr (xI (pv 0))))))))
  (sM (LD (xF (xM (xF xh))))) λts KK hl h=>?_
 obtain⟨t,xf,rfl,ht,hr,k⟩:=h;have sm:=hr.small xf.length;have pl:=hr.plen xf.length;rw[ur (xY _)] at sm pl;exact⟨t,xf,rfl,ht,hr,_,rfl,sm,pl,k⟩
def Lq (B:yo mg bn)(D:DF K mg "piece_left" oW f fd ["rows"]){t_FAR:Tok}(qZ:mg "FAR" = some (.int 60001 t_FAR))(cq:eG P w K mg base) :
  dQ P w K mg base:=by
 refine yM D Oa (λhr=>(xC (xT (xw cq hr (xn (zJ (yz (yD (yz (wF wM (jE (v:=V.int 60001) rfl qZ ⟨_,rfl⟩)) (xn (wF wM (jE (v:=V.int 60001) rfl qZ ⟨_,rfl⟩)) xk))) (yz (yD (yz (jE (v:=V.int 60001) rfl qZ ⟨_,rfl⟩) (xn (wF wM (jE (v:=V.int 60001) rfl qZ ⟨_,rfl⟩)) xk))) (xn (yD (yz (jE (v:=V.int 60001) rfl qZ ⟨_,rfl⟩) (xn (jE (v:=V.int 60001) rfl qZ ⟨_,rfl⟩) xk))) (yD (yz (wF wM (jE (v:=V.int 60001) rfl qZ ⟨_,rfl⟩)) (xn (jE (v:=V.int 60001) rfl qZ ⟨_,rfl⟩) xk))))))) (pv 0))))))
  (yk (xM (xt (uV (b:=true) (yO (yC (b:=true) (yO (wy xm) (xt (wy xm) xm))) (yO (yC (b:=true) (yO xm (xt (wy xm) xm))) (xt (yC (b:=true) (yO xm (xt xm xm))) (yC (b:=true) (yO (wy xm) (xt xm xm))))))) xh))) λts KK hl h=>?_
 obtain⟨t,xf,rfl,ht,hr,k⟩:=h;exact⟨t,[],xf,rfl,ht,hr,k⟩
def K3 (B:yo mg bn)(D:DF K mg "cut_down" oE f fd ["piece", "rows"])(gg:m7 P w K mg base) :
  eG P w K mg base:=by
 refine yM D lj (λhr=>(xA (wH zX rfl (z_ K (pv 1)) (yH 2 lj.nd) (xC (yx 0 lj.nd (xw gg hr (xn (pv 0) (pv 2)))))) (xC (xT (pv 0)))))
  (xE (wB (we xh) xV.g (yL (xM (xt xh xh)))) (yk xh)) λts KK hl h=>?_
 obtain⟨t,r0,xf,rfl,ht,hr,k⟩:=h;have tk:∀i,((r0++xf).take (r0.length+i)).foldl wY box=(xf.take i).foldl wY (pieces r0):=λi=>by rw[List.take_append,ur (by lia),show r0.length+i-r0.length=i by lia,jO];rfl
 have main:kJ (eName 2) (Eh 0 (nP cZ (j6 (qu 0) (j6 (qu 2) fj)))) {nx:=pV (qu 0) {nx:=λx=>false=false/\KK Tr.non,rt:=KK},rt:=KK} (xf.map xi) [.fz (.lst ((pieces r0).map xi)),.fz t,.un]:=by
  refine vT (λi τ=>∃x2,τ=[.fz (.lst (((xf.take i).foldl wY (pieces r0)).map xi)),.fz t,x2]) ⟨_,rfl⟩ ?_ ?_
  .rintro i x τ N hx ⟨x2,rfl⟩ hN;obtain⟨r,hri,rfl⟩:=vz hx;rw[rD _ _ hri] at hN;have sm:=hr.small (r0.length+i);have pl:=hr.plen (r0.length+i);rw[tk] at sm pl;exact⟨_,r,rfl,hr.sm r (zf _ (zW hri)),sm,pl,hN _ ⟨_,rfl⟩⟩
  .rintro τ ⟨x2,rfl⟩;rw[xX,ur (xY _)];unfold pieces at k ⊢;rw[jO] at k;exact k
 rcases ht with rfl|rfl<;>exact main
def Lr (B:yo mg bn)(D:DF K mg "places_of" tY f fd ["piece"])(rZ:eT P w K mg base)(cC:eJ P w K mg base) :
  eV P w K mg base:=by
 refine yM D Ob (λhr=>(xC (xT (vF (uF (N:=["x", "y", "bottom"]) (xy:=[none,none,none]) (XN:=["piece"]) (xs:=xH tY) (by decide +kernel) rfl rfl) rfl (fq (vx rfl (vx rfl (vx rfl ft)))) (z_ K (xw cC hr (xI (pv 0)))) (λ_ _ _ _=>(wG K (n:=3) rfl (yw (zH (i:=0) (show(["x", "y", "bottom"]:List Str).Nodup by decide +kernel) rfl (Or.inl rfl)) (yw (zH (i:=1) (show(["x", "y", "bottom"]:List Str).Nodup by decide +kernel) rfl (Or.inl rfl)) (yw (zH (i:=2) (show(["x", "y", "bottom"]:List Str).Nodup by decide +kernel) rfl (Or.inl rfl)) zV))))) (λ_ _ _ _=>v_) (λ_ _ _ _=>(yD (xn (xw rZ hr (xn (pv 0) (pv 2))) (xw rZ hr (xn (pv 1) (pv 2))))))))))
  (sM (uW (we (xM (xF xh))).c (wA (yu xV (yu xV (yu xV zU)))) v7 (yC (b:=true) (xt (xM (xt xh xh)) (xM (xt xh xh)))))) λts KK hl h=>?_
 obtain⟨l,rfl,sm,pl,k⟩:=h;refine⟨l,rfl,λv hv=>(sm v hv).1.b3,pl,?_,?_⟩
 .rw[xX,rM];exact sqz (by lia)
 .refine j5 (λx=>match qc x with|some v=>yi v|none=>.non) (λx hx N hN=>?_) ?_
  .obtain⟨v,hv,rfl⟩:=wN.mp hx;have hb:=sm v (rR hv);exact⟨rfl,_,_,rfl,by lia,hb.1.2.bd,_,_,rfl,by lia,hb.1.2.bd,hN⟩
  .rw[uP];exact k
def K4 (B:yo mg bn)(D:DF K mg "cut_piece" oF f fd ["piece", "row"])(cP:eZ P w K mg base)(kX:m6 P w K mg base) :
  m7 P w K mg base:=by
 refine yM D f_ (λhr=>(xA (yx 2 f_.nd (zJ uL)) (xA (wH zX rfl (pq K rfl (B.get "enumerate") (xI (pv 0))) (wG K (n:=2) rfl (yw (yH 3 f_.nd) (yw (yH 4 f_.nd) zV))) (xA (yx 5 f_.nd (zZ (uH K) (pv 0) (xu wj (pv 3) xk) (λ_ _=>rfl))) (xA (y3 (y8 (qC K hr.units) (xu yP (xw kX hr (xn (pv 1) (pv 5))) (xw kX hr (xn (pv 1) (pv 4)))) xk (yt _)) (xA (yx 6 f_.nd (xw cP hr (yz (pv 1) (xn (pv 5) (pv 4))))) (xC (y3 (y8 (C0 hr.units) (pv 6) (pv 2) (by with_unfolding_all rfl)) (xC (uY (v9 qR jU jV kS (pv 2) (xI (pv 6))))) y4))) y4)
  (xC (y3 (y8 jB (xw kX hr (xn (pv 1) (pv 4))) xk (yt _)) (xC (uY (v9 qR jU jV kS (pv 2) (xI (pv 4))))) y4)))))
  (xC (xT (pv 2))))))
  (xE (qA (qy uK)) (xE (wB (cU (xF xh)) (wA (yu xV (yu xV zU))).g (xE (yL (vh xh (xr wx xh xm))) (xE (zb (y_ (xr qE (xr yR (xM (xt xh xh)) (xM (xt xh xh))) xm)) (xE (yL (xM (yO xh (xt xh xh)))) (zb (y_ (xr C4 xh gk)) (k7 xh) zc)) zc) (zb (y_ (xr jC (xM (xt xh xh)) xm)) (k7 xh) zc)))) fH)) λts KK hl h=>?_
 obtain⟨l,r,rfl,hr,hl',hz,k⟩:=h;refine vT (all:=uG (l.map xi)) (λi τ=>∃x3 x4 x5 x6,τ=[.fz (.lst (l.map xi)),.fz (xi r),.ow ((((zp l).take i).foldl (zB r) []).map xi),x3,x4,x5,x6]/\(((zp l).take i).foldl (zB r) []).length<=2*i)
  ⟨_,_,_,_,rfl,xY _⟩ ?_ ?_
 .rintro i x τ N hx ⟨x3,x4,x5,x6,rfl,hlen⟩ hN;obtain⟨v,hv,rfl⟩:=nX hx;obtain⟨u,hu,hc,ha⟩:=GD hv;have hvm:=zW hv;have hi:=(zP.mp hv).1;have fold:=rD (zB r) [] hc;generalize hacc:((zp l).take i).foldl (zB r) []=acc at fold hlen ⊢;have leaf:∀(ts:List Tr) (y6:TV),ts=(zB r acc (u,v)).map xi->N [.fz (.lst (l.map xi)),.fz (xi r),.ow ts,.fz (.int i),.fz (xi v),.fz (xi u),y6]:=λts y6 e=>by
   rw[fold] at hN;refine hN _ ⟨_,_,_,y6,by rw[e],?_⟩
   .have:=ED r acc (u,v);have s2:(seg r (u,v)).length<=2:=by unfold seg;split<;>split<;>simp
    lia
  have bu:=hl' u hu;have bv:=hl' v hvm;have len0:∀n:Nat,n<=acc.length+1->n<sizeLine:=λn hn=>sqz (by lia);refine⟨rfl,?_⟩;show uT (atT (l.map xi) ((i:Int)-1)) _;rw[ha];refine⟨r,u,rfl,hr.b3,bu.1.b3,r,v,rfl,hr.b3,bv.1.b3,⟨(hr.val bu.1).bd,(hr.val bv.1).bd⟩,?_⟩;refine yr (b:=decide (Pol.val r u*Pol.val r v<0)) (λc=>?_) (λc=>?_)
  .have c:=zr c;refine⟨r,u,v,rfl,⟨hr,bu.1,bv.1⟩,⟨bu.2,bv.2⟩,c,⟨pA _,aZ xi pA acc,(by show(1:Nat)<=60;decide)⟩,?_⟩;refine yr (b:=!((acc.map xi).any λt=>zC t (xi (yf r u v)))) (λd=>?_) (λd=>?_)
   .rw[Ae] at d;have d:yf r u v∉acc:=by simpa using d
    refine⟨len0 _ (by simp),r,v,rfl,hr.b3,bv.1.b3,?_⟩;refine yr (b:=decide (Pol.val r v<=0)) (λe=>?_) (λe=>?_)
    .have e:=zr e;exact⟨len0 _ (by simp),leaf _ _ (by simp[zB,c,d,e])⟩
    .have e:=wQ e;exact leaf _ _ (by simp[zB,c,d,e])
   .rw[Ae] at d;have d:yf r u v∈acc:=by simpa using d
    refine⟨r,v,rfl,hr.b3,bv.1.b3,?_⟩;refine yr (b:=decide (Pol.val r v<=0)) (λe=>?_) (λe=>?_)
    .have e:=zr e;exact⟨len0 _ (by simp),leaf _ _ (by simp[zB,c,d,e])⟩
    .have e:=wQ e;exact leaf _ _ (by simp[zB,c,d,e])
  .have c:=wQ c;refine⟨r,v,rfl,hr.b3,bv.1.b3,?_⟩;refine yr (b:=decide (Pol.val r v<=0)) (λe=>?_) (λe=>?_)
   .have e:=zr e;exact⟨len0 _ (by simp),leaf _ _ (by simp[zB,c,e])⟩
   .have e:=wQ e;exact leaf _ _ (by simp[zB,c,e])
 .rintro τ ⟨x3,x4,x5,x6,rfl,hlen⟩;rw[nW,ur (by rw[Hw];exact xY _)];exact k
def KY (B:yo mg bn)(D:DF K mg "beyond" oB f fd ["row", "corner"])  :
  m6 P w K mg base:=by
 refine yM D gA (λhr=>(xA (vG (pv 0) (wG K (n:=3) rfl (yw (yH 2 gA.nd) (yw (yH 3 gA.nd) (yw (yH 4 gA.nd) zV))))) (xA (vG (pv 1) (wG K (n:=3) rfl (yw (yH 5 gA.nd) (yw (yH 6 gA.nd) (yw (yH 7 gA.nd) zV))))) (xC (xT (xu wj (xu wg (xu yP (pv 2) (pv 5)) (xu yP (pv 3) (pv 6))) (xu yP (pv 4) (pv 7))))))))
  (xE (qz xh (wA (yu xV (yu xV (yu xV zU)))).g) (xE (qz xh (wA (yu xV (yu xV (yu xV zU)))).g) (yk (xr wx (xr um (xr yR xh xh) (xr yR xh xh)) (xr yR xh xh))))) λts KK hl h=>?_
 obtain⟨r,p,rfl,hr,hp,k⟩:=h;exact⟨rfl,rfl,⟨hr.1.1,hp.1.1⟩,⟨hr.1.2,hp.1.2⟩,⟨hr.2,hp.2⟩,k⟩
def Lz (B:yo mg bn)(D:DF K mg "where_crossed" tZ f fd ["row", "one", "other"])(vA:dP P w K mg base)(kX:m6 P w K mg base) :
  eZ P w K mg base:=by
 refine yM D gB (λhr=>(xA (vG (yD (xn (yB uD rfl (B.get "abs") uC (xI (xw kX hr (xn (pv 0) (pv 1))))) (yB uD rfl (B.get "abs") uC (xI (xw kX hr (xn (pv 0) (pv 2))))))) (wG K (n:=2) rfl (yw (zH (i:=3) gB.nd rfl (Or.inr rfl)) (yw (zH (i:=4) gB.nd rfl (Or.inr rfl)) zV)))) (xA (vG (vF (uF (N:=["here", "there", "other_off", "one_off"]) (xy:=[none,none,some 4,some 3]) (XN:=["row", "one", "other", "one_off", "other_off", "x", "y", "bottom", "shared"]) (xs:=xH tZ) (by decide +kernel) rfl rfl) rfl (fq (vx rfl (vx rfl ft))) (sT K rfl (B.get "zip") (xn (pv 1) (pv 2))) (λ_ _ _ _=>(wG K (n:=2) rfl (yw (zH (i:=0) (show(["here", "there", "other_off", "one_off"]:List Str).Nodup by decide +kernel) rfl (Or.inl rfl)) (yw (zH (i:=1) (show(["here", "there", "other_off", "one_off"]:List Str).Nodup by decide +kernel) rfl (Or.inl rfl)) zV)))) (λ_ _ _ _=>v_) (λ_ _ _ _=>(xu wg (xu yP (pv 2) (pv 0)) (xu yP (pv 3) (pv 1))))) (tI K (n:=3) rfl (yw (yH 5 gB.nd) (yw (yH 6 gB.nd) (yw (yH 7 gB.nd) zV)))))
  (xA (yx 8 gB.nd (xw vA hr (xn (xw vA hr (xn (pv 5) (pv 6))) (pv 7)))) (xC (xT (yD (yz (xu qB (pv 5) (pv 8)) (xn (xu qB (pv 6) (pv 8)) (xu qB (pv 7) (pv 8)))))))))))
  (xE (qz (yC (b:=true) (xt (yY uE (xF (xM (xt xh xh)))) (yY uE (xF (xM (xt xh xh)))))) (wA (yu xV (yu xV zU))).g) (xE (qz (zF.e (uW (sL (xt xh xh)).c (wA (yu xV (yu xV zU))) v7 (xr um (xr yR xh xh) (xr yR xh xh)))) (tu (yu xV (yu xV (yu xV zU)))).g) (xE (yL (xM (xt (xM (xt xh xh)) xh))) (yk (yC (b:=true) (yO (xr qD xh xh) (xt (xr qD xh xh) (xr qD xh xh)))))))) λts KK hl h=>?_
 obtain⟨r,u,v,rfl,⟨hr,hu,hv⟩,⟨zu,zv⟩,hn,k⟩:=h;have au:Bk 1000 (abs (Pol.val r u)):=((hr.val hu).mono (by decide)).abs;have av:Bk 1000 (abs (Pol.val r v)):=((hr.val hv).mono (by decide)).abs;have cu:∀ {i},Bk 800 i->CM (abs (Pol.val r v)) i:=λh=>⟨av.bd,h.bd⟩
 have cv:∀ {i},Bk 800 i->CM (abs (Pol.val r u)) i:=λh=>⟨au.bd,h.bd⟩
 obtain⟨b,_,_,_⟩:=rh zu zv hn;have wz:0<(cw r u v).2.2:=by have h1:=Pol.pp b.pa zu;have h2:=Pol.pp b.pb zv;show 0<abs (Pol.val r v)*u.2.2+abs (Pol.val r u)*v.2.2;lia
 have wb:Bd (cw r u v).2.2:=((av.mul hu.2).add (au.mul hv.2)).bd;have gp:=fu wz;have gb:Bd (yT (cw r u v):Int):=nr (by lia) wb;refine⟨r,u,rfl,hr.b3,hu.b3,r,v,rfl,hr.b3,hv.b3,rfl,sqz (show(3:Nat)<=1000000 by decide),rfl,cu hu.1.1,cv hv.1.1,rfl,cu hu.1.2,cv hv.1.2,rfl,cu hu.2,cv hv.2,rfl,_,_,rfl,_,_,rfl,⟨?_,gb⟩,⟨?_,gb⟩,⟨?_,gb⟩,?_⟩
 .show(yT (cw r u v):Int)≠0;lia
 .show(yT (cw r u v):Int)≠0;lia
 .show(yT (cw r u v):Int)≠0;lia
 show KK (.tup [.int ((cw r u v).1.fdiv (yT (cw r u v))),.int ((cw r u v).2.1.fdiv (yT (cw r u v))),.int ((cw r u v).2.2.fdiv (yT (cw r u v)))]);rw[vU (by lia),vU (by lia),vU (by lia)];exact k
def K_ (B:yo mg bn)(D:DF K mg "from_least" oI f fd ["piece"])(cE:eN P w K mg base) :
  eJ P w K mg base:=by
 refine yM D ak (λhr=>(xA (yx 1 ak.nd xk) (xA (wH zX rfl (pq K rfl (B.get "enumerate") (xI (pv 0))) (wG K (n:=2) rfl (yw (yH 2 ak.nd) (yw (yH 3 ak.nd) zV))) (xC (y3 (wJ (xw cE hr (xn (pv 3) (zZ (uH K) (pv 0) (pv 1) (λ_ _=>rfl))))) (xC (yx 1 ak.nd (pv 2))) y4))) (xC (xT (xu tz (k8 (Ew K) (pv 0) (km (pv 1)) k9) (k8 (Ew K) (pv 0) k9 (km (pv 1)))))))))
  (xE (yL xm) (xE (wB (cU (xF xh)) (wA (yu xV (yu xV zU))).g (zb (zM (xM (xt xh (vh xh xh)))) (yL xh) zc)) (sM (CS (CO xh (kZ xh) kY) (CO xh kY (kZ xh)))))) λts KK hl h=>?_
 obtain⟨l,rfl,hl',hz,k⟩:=h;refine vT (all:=uG (l.map xi)) (λi τ=>∃x2 x3,τ=[.fz (.lst (l.map xi)),.fz (.int ((List.range i).foldl (wu l) 0:Nat)),x2,x3]/\((List.range i).foldl (wu l) 0<l.length\/l=[]))
  ⟨_,_,rfl,?_⟩ ?_ ?_
 .cases l with
  |nil=>exact .inr rfl
  |cons a t=>exact .inl (by simp)
 .rintro i x τ N hx ⟨x2,x3,rfl,hlen⟩ hN;obtain⟨v,hv,rfl⟩:=nX hx;have hvm:=zW hv;have hi:=(zP.mp hv).1;have fold:(List.range (i+1)).foldl (wu l) 0=wu l ((List.range i).foldl (wu l) 0) i:=by rw[List.range_succ,jO];rfl
  generalize hs:(List.range i).foldl (wu l) 0=s at fold hlen ⊢;have hs':s<l.length:=hlen.resolve_right (λz=>by rw[z] at hi;simp at hi);have eu:atT (l.map xi) (s:Int)=some (xi l[s]):=by rw[ff,uN,ze hs'];rfl
  refine⟨rfl,?_⟩;show uT (atT (l.map xi) (s:Int)) _;rw[eu];have ev:l.getD i (0,0,0)=v:=by rw[mF,hv];rfl
  have es:l.getD s (0,0,0)=l[s]:=by rw[mF,ze hs'];rfl
  refine⟨v,l[s],rfl,hl' _ hvm,hl' _ (ie hs'),?_⟩;refine yr (b:=ahead v l[s]) (λc=>?_) (λc=>?_)
  .have f2:wu l s i=i:=by unfold wu;rw[ev,es,xD c]
   rw[fold,f2] at hN;exact hN _ ⟨_,_,rfl,.inl hi⟩
  .have c':¬ahead v l[s]=true:=by rw[c];exact uM
   have f2:wu l s i=s:=by unfold wu;rw[ev,es,xG c']
   rw[fold,f2] at hN;exact hN _ ⟨_,_,rfl,.inl hs'⟩
 .rintro τ ⟨x2,x3,rfl,hlen⟩;rw[nW];show(zL (l.map xi) (some ((kQ l:Nat):Int)) none).length+(zL (l.map xi) none (some ((kQ l:Nat):Int))).length<=sizeLine/\KK (.lst (zL (l.map xi) (some ((kQ l:Nat):Int)) none++zL (l.map xi) none (some ((kQ l:Nat):Int))));rw[nN,nO];refine⟨qd (by simp;lia),?_⟩;unfold wV at k;rw[zR,mG,dE] at k;exact k
def Ld (B:yo mg bn)(D:DF K mg "is_ahead" oO f fd ["one", "other"])  :
  eN P w K mg base:=by
 refine yM D N0 (λhr=>(xC (xT (wD (qC K hr.units) (yD (xn (xu yP (xP K 0) (xP K 1)) (xu yP (xP K 0) (xP K 1)))) (yD (xn (xu yP (xP K 1) (xP K 0)) (xu yP (xP K 1) (xP K 0)))) (yt _)))))
  (yk (xr qE (yC (b:=true) (xt (xr yR xO xO) (xr yR xO xO))) (yC (b:=true) (xt (xr yR xO xO) (xr yR xO xO))))) λts KK hl h=>?_
 obtain⟨p,q,rfl,hp,hq,k⟩:=h;refine⟨⟨hp.1.1,hq.2⟩,⟨hp.1.2,hq.2⟩,⟨hq.1.1,hp.2⟩,⟨hq.1.2,hp.2⟩,[p.1*q.2.2,p.2.1*q.2.2],[q.1*p.2.2,q.2.1*p.2.2],rfl,rfl,?_⟩;rw[JW];exact k
theorem Li (B:yo mg bn)(D:DF K mg "is_row" oR f fd ["thing"])(b9:eB P w K mg base) :
  eS P w K mg base:=by
 refine yM D N7 (λhr=>(xA (y3 (PW.pt (uZ (w_ (wJ (yB qr rfl (B.get "isinstance") qq (xn (pv 0) (qF (v:=V.ty "tuple") rfl (B.get "tuple") qW rfl))))) (uZ (y8 (vC hr.units) (yB (wo K) rfl (B.get "len") wm (xI (pv 0))) xk (yt _)) (qa (w_ (wJ (xw b9 hr (xI (pv 0))))))))) (xC (xT wC)) y4) (xC (xT (Dg (wD (vC hr.units) (xP K 0) xk (yt _)) (kl (wD (vC hr.units) (xP K 0) xk (yt _))))))))
  (xE (zb (uX (w6 (zM (qx xh))) (uX (y_ (xr vD (yY wR (xF xh)) xm)) (w6 (zM (xM (xF xh)))))) (yk w5) zc) (yk (CN (xr vD xO xm) (xr vD xO xm)))) λts KK hl h=>?_
 obtain⟨t,rfl,k⟩:=h;cases t with
 |tup us=>
  refine yr (b:=!decide ((us.length:Int)=3)) (λc=>?_) (λc=>?_)
  .have c:¬(us.length:Int)=3:=by simpa using c
   have e:sI (.tup us)=false:=by
    unfold sI;cases e:qc (.tup us) with
    |none=>rfl
    |some r=>have:=tP e;unfold xi at this;injection this with this;rw[this] at c;exact absurd rfl c
   rw[e] at k;exact k
  .have c:us.length=3:=by simp at c;lia
   obtain⟨x,y,z,rfl⟩:∃x y z,us=[x,y,z]:=by
    match us,c with
    |[x,y,z],_=>exact⟨x,y,z,rfl⟩
   refine⟨_,rfl,_,.inl rfl,JT c,?_⟩;cases x with
   |int a=>
    cases y with
    |int b=>
     cases z with
     |int d=>
      show if (!decide (a=0))=true then KK (.bl true) else KK (.bl (!decide (b=0)))
      by_cases ha:a=0<;>by_cases hb:b=0<;>simp[ha,hb,sI,qc] at k ⊢<;>exact k
     |_=>exact k
    |_=>exact k
   |_=>exact k
 |_=>exact k
def Lx (B:yo mg bn)(D:DF K mg "turn_to" oZ f fd ["one", "other"])  :
  dR P w K mg base:=by
 refine yM D Oc (λhr=>(xC (xT (xu wj (xu yP (xP K 0) (xP K 1)) (xu yP (xP K 0) (xP K 1))))))
  (yk (xr wx (xr yR xO xO) (xr yR xO xO))) λts KK hl h=>?_
 obtain⟨a,b,c,d,x,y,rfl,hb,k⟩:=h;exact⟨⟨hb.1.1,hb.2.2⟩,⟨hb.1.2,hb.2.1⟩,k⟩
theorem Lb (B:yo mg bn)(D:DF K mg "go_round" oK f fd ["rows"])(rY:eL P w K mg base)(cM:eW P w K mg base)(uU:dR P w K mg base) :
  eM P w K mg base:=by
 refine yM D t8 (λhr=>(xA (y3 (y8 (uk hr.units) (yB (wo K) rfl (B.get "len") wm (xI (pv 0))) xk (yt _)) (xC (xT wC)) y4) (xA (yx 1 t8.nd (xP K 0)) (xA (yx 2 t8.nd (xw rY hr (yz (pv 1) (xn (pv 0) xk)))) (xA (yx 3 t8.nd (xw rY hr (yz (pv 1) (xn (pv 0) (wF wM xk))))) (xA (y3 (PW.pt (uZ (fP (c9 (pv 2))) (qa (fP (c9 (pv 3)))))) (xC (xT wC)) y4) (xC (xT (Dg (wD gm (xw uU hr (xn (pv 2) (pv 3))) xk (yt _)) (kl (xw cM hr (xn (pv 1) (pv 0)))))))))))))
  (xE (zb (y_ (xr os_eq (yY wR (xF xh)) xm)) (yk w5) zc) (xE (yL xO) (xE (yL (xM (yO xh (xt xh xm)))) (xE (yL (xM (yO xh (xt xh (wy xm))))) (xE (zb (uX (zM (cS xh)) (zM (cS xh))) (yk w5) zc) (yk (CN (xr gv (xM (xt xh xh)) xm) (xM (xt xh xh))))))))) λts KK hl h=>?_
 obtain⟨xf,rfl,hx,k⟩:=h;cases xf with
 |nil=>exact k
 |cons r t=>
  have hr:=hx r xS;refine⟨r,r::t,1,rfl,.inl rfl,hr,hx,r,r::t,-1,rfl,.inr rfl,hr,hx,?_⟩;have e:q_ (r::t)=match far r 1 (r::t),far r (-1) (r::t) with
   |some l,some k=>decide (0<Pol.turn l k)||Pol.back r (r::t)
   |_,_=>false:=rfl
  rw[e] at k;cases e1:far r 1 (r::t) with
  |none=>rw[e1] at k;exact k
  |some l=>
   cases e2:far r (-1) (r::t) with
   |none=>rw[e1,e2] at k;exact k
   |some q=>
    rw[e1,e2] at k;have hl2:=hx l (rB e1).mem;have hq2:=hx q (rB e2).mem;refine⟨l.1,l.2.1,q.1,q.2.1,_,_,rfl,⟨⟨hl2.1.1.bd,hl2.1.2.bd⟩,hq2.1.1.bd,hq2.1.2.bd⟩,?_⟩;have k:KK (.bl (decide (0<Pol.turn l q)||Pol.back r (r::t))):=k;refine yr (b:=decide (0<Pol.turn l q)) (λc=>?_) (λc=>?_)
    .rw[c] at k;exact k
    .rw[c,Bool.false_or] at k;exact⟨r,r::t,rfl,hr,hx,k⟩
def La (B:yo mg bn)(D:DF K mg "furthest" oJ f fd ["first", "rows", "sign"])(uU:dR P w K mg base) :
  eL P w K mg base:=by
 refine yM D t7 (λhr=>(xA (yx 3 t7.nd sS) (xA (wH zX rfl (z_ K (pv 1)) (yH 4 t7.nd) (xC (y3 (PW.pt (fQ (y8 gm (xu yP (pv 2) (xw uU hr (xn (pv 0) (pv 4)))) xk (yt _)) (fS (PW.pt (uZ (fP (c9 (pv 3))) (qa (y8 gm (xu yP (pv 2) (xw uU hr (xn (pv 3) (pv 4)))) xk (yt _)))))))) (xC (yx 3 t7.nd (pv 4))) y4))) (xC (xT (pv 3))))))
  (xE (yL (jA (t:=Tr.non))) (xE (wB (we xh) xV.g (zb (fJ (y_ (xr gv (xr yR xh (xM (xt xh xh))) xm)) (uX (zM (cS xh)) (y_ (xr gv (xr yR xh (xM (xt xh xh))) xm)))) (yL xh) zc)) (yk xh))) λts KK hl h=>?_
 obtain⟨r,xf,s,rfl,hs,hr,hx,k⟩:=h;have tb:∀ {p q:Pol.R3},yW 900 p->yW 900 q->Bk 1801 (Pol.turn p q):=λhp hq=>(hp.1.1.mul hq.1.2).sub (hp.1.2.mul hq.1.1);have sb:Bd s:=by rcases hs with rfl|rfl<;>exact nu (by decide) (by decide)
 refine vT (all:=xf.map xi) (λi τ=>∃x4,τ=[.fz (xi r),.fz (.tup (xf.map xi)),.fz (.int s),.fz (cY ((xf.take i).foldl (vb r s) none)),x4]/\∀y,(xf.take i).foldl (vb r s) none=some y->yW 900 y) ⟨_,rfl,λy hy=>by cases hy⟩ ?_ ?_
 .rintro i x τ N hxi ⟨x4,rfl,hb⟩ hN;obtain⟨y,hyi,rfl⟩:=vz hxi;have hy:=hx y (zW hyi);have fold:=rD (vb r s) none hyi;generalize hacc:(xf.take i).foldl (vb r s) none=acc at fold hb ⊢;have leaf:∀o:Option Pol.R3,o=vb r s acc y->N [.fz (xi r),.fz (.tup (xf.map xi)),.fz (.int s),.fz (cY o),.fz (xi y)]:=λo e=>by
   rw[fold] at hN;refine hN _ ⟨_,by rw[e],?_⟩
   .unfold vb;split
    .intro z hz;cases hz;exact hy
    .exact hb
  refine⟨r.1,r.2.1,y.1,y.2.1,_,_,rfl,⟨⟨hr.1.1.bd,hr.1.2.bd⟩,hy.1.1.bd,hy.1.2.bd⟩,⟨sb,(tb hr hy).bd⟩,?_⟩;refine yr (b:=decide (0<s*Pol.turn r y)) (λc=>?_) (λc=>?_)
  .have c:=zr c;cases acc with
   |none=>exact leaf (some y) (by unfold vb;rw[xD ⟨c,rfl⟩])
   |some z=>
    have hz:=hb z rfl;refine⟨z.1,z.2.1,y.1,y.2.1,_,_,rfl,⟨⟨hz.1.1.bd,hz.1.2.bd⟩,hy.1.1.bd,hy.1.2.bd⟩,⟨sb,(tb hz hy).bd⟩,?_⟩;refine yr (b:=decide (0<s*Pol.turn z y)) (λd=>?_) (λd=>?_)
    .exact leaf (some y) (by unfold vb;rw[xD ⟨c,d⟩])
    .refine leaf (some z) ?_;unfold vb;rw[xG (λw=>by have w2:decide (0<s*Pol.turn z y)=true:=w.2;rw[d] at w2;cases w2)]
  .have c:=wQ c;exact leaf acc (by unfold vb;rw[xG λw=>c w.1])
 .rintro τ ⟨x4,rfl,_⟩;rw[xX,ur (xY _)];exact k
def Lu (B:yo mg bn)(D:DF K mg "points_back" oX f fd ["first", "rows"])(uU:dR P w K mg base) :
  eW P w K mg base:=by
 refine yM D Er (λhr=>(xA (wH zX rfl (z_ K (pv 1)) (yH 2 Er.nd) (xC (y3 (PW.pt (fQ (y8 (uk hr.units) (xw uU hr (xn (pv 0) (pv 2))) xk (yt _)) (fS (y8 (qC K hr.units) (xu wg (xu yP (xP K 0) (xP K 2)) (xu yP (xP K 0) (xP K 2))) xk (yt _))))) (xC (xT wC)) y4))) (xC (xT wC))))
  (xE (wB (we xh) xV.g (zb (fJ (y_ (xr os_eq (xM (xt xh xh)) xm)) (y_ (xr qE (xr um (xr yR xO xO) (xr yR xO xO)) xm))) (yk w5) zc)) (yk w5)) λts KK hl h=>?_
 obtain⟨r,xf,rfl,hr,hx,k⟩:=h;refine vT (all:=xf.map xi) (λi τ=>∃x2,τ=[.fz (xi r),.fz (.tup (xf.map xi)),x2]/\∀y∈xf.take i,¬(Pol.turn r y=0/\dot r y<0)) ⟨_,rfl,λy hy=>by simp at hy⟩ ?_ ?_
 .rintro i x τ N hxi ⟨x2,rfl,hb⟩ hN;obtain⟨y,hyi,rfl⟩:=vz hxi;have hym:=zW hyi;have hy:=hx y hym;have leaf:¬(Pol.turn r y=0/\dot r y<0)->N [.fz (xi r),.fz (.tup (xf.map xi)),.fz (xi y)]:=λc=>hN _ ⟨_,rfl,λz hz=>by
   rw[jS,hyi] at hz;rcases xU.mp hz with q|q
   .exact hb z q
   .have:z=y:=by simpa using q
    rw[this];exact c⟩
  refine⟨r.1,r.2.1,y.1,y.2.1,_,_,rfl,⟨⟨hr.1.1.bd,hr.1.2.bd⟩,hy.1.1.bd,hy.1.2.bd⟩,?_⟩;refine yr (b:=decide (Pol.turn r y=0)) (λc=>?_) (λc=>?_)
  .have c:=zr c;refine⟨⟨hr.1.1.bd,hy.1.1.bd⟩,⟨hr.1.2.bd,hy.1.2.bd⟩,?_⟩;refine yr (b:=decide (dot r y<0)) (λd=>?_) (λd=>?_)
   .have d:=zr d;have:Pol.back r xf=true:=by unfold Pol.back;rw[aH];exact⟨y,hym,by simp[c,d]⟩
    rw[this] at k;exact k
   .have d:=wQ d;exact leaf λw=>d w.2
  .have c:=wQ c;exact leaf λw=>c w.1
 .rintro τ ⟨x2,rfl,hb⟩;rw[xX,ur (xY _)] at hb;have:Pol.back r xf=false:=by unfold Pol.back;rw[List.any_eq_false];intro y hy w;simp at w;exact hb y hy w
  rw[this] at k;exact k
theorem Le (B:yo mg bn)(D:DF K mg "is_field" sZ f fd ["thing"])(cD:eM P w K mg base)(cI:eR P w K mg base)(cj:eF P w K mg base)(cG:eP P w K mg base) :
  eO P w K mg base:=by
 refine yM D N5 (λhr=>(xA (y3 (PW.pt (uZ (w_ (wJ (yB qr rfl (B.get "isinstance") qq (xn (pv 0) (qF (v:=V.ty "tuple") rfl (B.get "tuple") qW rfl))))) (qa (w_ (Ng jB jB xk (yB (wo K) rfl (B.get "len") wm (xI (pv 0))) xk))))) (xC (xT wC)) y4) (xA (y3 (PW.pt (uZ (w_ (wJ (yB (dX K rfl) rfl (B.get "all") dW (xI (vF (uF (N:=["row"]) (xy:=[none]) (XN:=["thing"]) (xs:=xH sZ) (by decide +kernel) rfl rfl) rfl (q9 rfl) (z_ K (pv 0)) (λ_ _ _ _=>(zH (i:=0) (show(["row"]:List Str).Nodup by decide +kernel) rfl (Or.inl rfl))) (λ_ _ _ _=>v_) (λ_ _ _ _=>(xw cG hr (xI (pv 0))))))))) (qa (w_ (wJ (xw cD hr (xI (pv 0)))))))) (xC (xT wC)) y4)
  (xC (xT (yB (dX K rfl) rfl (B.get "all") dW (xI (vF (uF (N:=["place"]) (xy:=[none]) (XN:=["thing"]) (xs:=xH sZ) (by decide +kernel) rfl rfl) rfl (q9 rfl) (z_ K (xw cj hr (xI (pv 0)))) (λ_ _ _ _=>(zH (i:=0) (show(["place"]:List Str).Nodup by decide +kernel) rfl (Or.inl rfl))) (λ_ _ _ _=>v_) (λ_ _ _ _=>(xw cI hr (xI (pv 0))))))))))))
  (xE (zb (uX (w6 (zM (qx xh))) (w6 (y_ (KZ jC jC xm (yY wR (xF xh)) xm)))) (yk w5) zc) (xE (zb (uX (w6 (zM (yY dY (xF (zF.e (uW (we xh).c xV v7 (xM (xF xh)))))))) (w6 (zM (xM (xF xh))))) (yk w5) zc) (yk (yY dY (xF (zF.e (uW (we (xM (xF xh))).c xV v7 (xM (xF xh))))))))) λts KK hl h=>?_
 obtain⟨t,rfl,k⟩:=h;cases t with
 |tup us=>
  refine yr (b:=decide ((3:Int)<=us.length)) (λc1=>?_) (λc1=>?_)
  .have c1:=zr c1;refine yr (b:=!decide ((us.length:Int)<=8)) (λc2=>?_) (λc2=>?_)
   .have c2:8<us.length:=by simp at c2;lia
    have e:isField (.tup us)=false:=by
     show(match rowsOf us with|some xf=>zY xf|none=>false)=false;cases e:rowsOf us with
     |none=>rfl
     |some xf=>show zY xf=false;unfold zY;rw[tQ e,xX] at c2;rw[wX (by lia)];rfl
    rw[e] at k;exact k
   .have c2:us.length<=8:=by simp at c2;lia
    refine⟨sqz (by lia),j5 (λx=>.bl (ka x)) (λx _ N hN=>⟨x,rfl,hN⟩) ⟨us.map ka,by rw[uP];rfl,?_⟩⟩;rw[l5];show if (!us.all ka)=true then _ else _
    refine yr (λc=>?_) (λc=>?_)
    .rw[Jq (by simpa using c)] at k;exact k
    .have c:us.all ka=true:=by simpa using c
     obtain⟨xf,rfl,hrows⟩:=NB c;rw[xX] at c1 c2;have ea:(xf.all λr=>decide ((r.1≠0\/r.2.1≠0)/\zk r))=true:=by rw[jN];intro r hr;exact wO (hrows r hr)
     have ef:isField (.tup (xf.map xi))=(q_ xf&&(pieces xf).all kT):=by show(match rowsOf (xf.map xi) with|some xf=>zY xf|none=>false)=_;rw[pQ];show zY xf=_;unfold zY;rw[ea,wO (by lia)];simp
     rw[ef] at k;have ok:qm xf:=⟨λr hr=>(hrows r hr).1,λr hr=>BK (hrows r hr).2,by lia⟩
     refine⟨xf,rfl,λr hr=>(ok.sm r hr).mono (by decide),?_⟩;refine yr (b:=!q_ xf) (λd=>?_) (λd=>?_)
     .have d:q_ xf=false:=by simpa using d
      rw[d] at k;exact k
     .have d:q_ xf=true:=by simpa using d
      rw[d,qK] at k;have sm:=ok.small xf.length;have pl:=ok.plen xf.length;rw[ur (xY _)] at sm pl;refine⟨_,xf,rfl,.inl rfl,ok,?_,?_⟩
      .rw[xX,rM];exact sqz (by have:(pieces xf).length<=100000:=pl;lia)
      .refine j5 (λx=>match x with|.tup [.tup [.int n,.int d],.tup [.int n2,.int d2]]=>.bl (nearF n d&&nearF n2 d2)|_=>.non) (λx hx N hN=>?_) ?_
       .obtain⟨v,hv,rfl⟩:=wN.mp hx;have hb:=sm v (rR hv);have ld:∀i,Bd (uw i v.2.2):=λi=>GN hb.2 hb.1.2.bd;refine⟨[(vf v.1 v.2.2,uw v.1 v.2.2),(vf v.2.1 v.2.2,uw v.2.1 v.2.2)],rfl,(show(2:Nat)<=1000 by decide),λf hf=>?_,?_⟩
        .simp only[xR,yI,yJ] at hf;rcases hf with rfl|rfl<;>exact ld _
        .have e:([(vf v.1 v.2.2,uw v.1 v.2.2),(vf v.2.1 v.2.2,uw v.2.1 v.2.2)].all λf=>nearF f.1 f.2)=(nearF (vf v.1 v.2.2) (uw v.1 v.2.2)&&nearF (vf v.2.1 v.2.2) (uw v.2.1 v.2.2)):=by simp
         rw[e];exact hN
       .refine⟨(wV (pieces xf)).map kT,by rw[uP,uP];rfl,?_⟩;rw[l5];have e:=Gr kT (pieces xf);show KK (.bl ((wV (pieces xf)).all kT));rw[e];exact k
  .have c1:us.length<3:=by have:=wQ c1;lia
   have e:isField (.tup us)=false:=by
    show(match rowsOf us with|some xf=>zY xf|none=>false)=false;cases e:rowsOf us with
    |none=>rfl
    |some xf=>show zY xf=false;unfold zY;rw[tQ e,xX] at c1;rw[wX (by lia)];rfl
   rw[e] at k;exact k
 |_=>exact k
theorem Lf (B:yo mg bn)(D:DF K mg "is_field_row" oP f fd ["thing"])(cJ:eS P w K mg base) :
  eP P w K mg base:=by
 refine yM D t_ (λhr=>(xA (y3 (w_ (wJ (xw cJ hr (xI (pv 0))))) (xC (xT wC)) y4) (xA (vG (pv 0) (wG K (n:=3) rfl (yw (yH 1 t_.nd) (yw (yH 2 t_.nd) (yw (yH 3 t_.nd) zV))))) (xC (xT (vE (wD jB (yB uD rfl (B.get "abs") uC (xI (pv 1))) xk (yt _)) (vE (wD jB (yB uD rfl (B.get "abs") uC (xI (pv 2))) xk (yt _)) (kl (wD jB (yB uD rfl (B.get "abs") uC (xI (pv 3))) xk (yt _))))))))))
  (xE (zb (w6 (zM (xM (xF xh)))) (yk w5) zc) (xE (qz xh (wA (yu xV (yu xV (yu xV zU)))).g) (yk (vB (xr jC (yY uE (xF xh)) xm) (vB (xr jC (yY uE (xF xh)) xm) (xr jC (yY uE (xF xh)) xm)))))) λts KK hl h=>?_
 obtain⟨t,rfl,k⟩:=h;refine⟨t,rfl,?_⟩;unfold sI;unfold ka at k;cases e:qc t with
 |none=>rw[e] at k;exact k
 |some r=>
  rw[e] at k;cases tP e;have k:KK (.bl (decide ((r.1≠0\/r.2.1≠0)/\zk r))):=k;refine yr (b:=!decide (r.1≠0\/r.2.1≠0)) (λc=>?_) (λc=>?_)
  .have c:¬(r.1≠0\/r.2.1≠0):=by simpa using c
   rw[wX λw=>c w.1] at k;exact k
  .have c:r.1≠0\/r.2.1≠0:=by simp at c;lia
   refine⟨rfl,?_⟩;have ab:∀i m:Int,(if i<0 then -i else i)<=m↔-m<=i/\i<=m:=λi m=>by split<;>lia
   refine yr (b:=decide ((if r.1<0 then -r.1 else r.1)<=30)) (λd=>?_) (λd=>?_)
   .have d:=(ab _ _).mp (zr d);refine yr (b:=decide ((if r.2.1<0 then -r.2.1 else r.2.1)<=30)) (λd2=>?_) (λd2=>?_)
    .have d2:=(ab _ _).mp (zr d2);show KK (.bl (decide ((if r.2.2<0 then -r.2.2 else r.2.2)<=1000)));have e3:decide ((r.1≠0\/r.2.1≠0)/\zk r)=decide ((if r.2.2<0 then -r.2.2 else r.2.2)<=1000):=by rw[jk,ab];exact⟨λw=>w.2.2,λw=>⟨c,⟨d,d2⟩,w⟩⟩
     rw[<-e3];exact k
    .have d2:=λw=>wQ d2 ((ab _ _).mpr w);rw[wX λw=>d2 w.2.1.2] at k;exact k
   .have d:=λw=>wQ d ((ab _ _).mpr w);rw[wX λw=>d w.2.1.1] at k;exact k
def Lh (B:yo mg bn)(D:DF K mg "is_near" tX f fd ["place"])  :
  eR P w K mg base:=by
 refine yM D N6 (λhr=>(xC (xT (yB (dX K rfl) rfl (B.get "all") dW (xI (vF (uF (N:=["top", "bottom"]) (xy:=[none,none]) (XN:=["place"]) (xs:=xH tX) (by decide +kernel) rfl rfl) rfl (fq (vx rfl (vx rfl ft))) (z_ K (pv 0)) (λ_ _ _ _=>(wG K (n:=2) rfl (yw (zH (i:=0) (show(["top", "bottom"]:List Str).Nodup by decide +kernel) rfl (Or.inl rfl)) (yw (zH (i:=1) (show(["top", "bottom"]:List Str).Nodup by decide +kernel) rfl (Or.inl rfl)) zV)))) (λ_ _ _ _=>v_) (λ_ _ _ _=>(wD jB (yB uD rfl (B.get "abs") uC (xI (pv 0))) (xu yP xk (pv 1)) (yt _)))))))))
  (yk (yY dY (xF (zF.e (uW (we xh).c (wA (yu xV (yu xV zU))) v7 (xr jC (yY uE (xF xh)) (xr yR xm xh))))))) λts KK hl h=>?_
 obtain⟨fs,rfl,hz,hb,k⟩:=h;refine⟨by rw[xX];exact sqz (by lia),?_⟩;have ab:∀i m:Int,decide ((if i<0 then -i else i)<=12*m)=nearF i m:=λi m=>by unfold nearF;rw[jk];split<;>lia
 refine j5 (λx=>match x with|.tup [.int n,.int d]=>.bl (nearF n d)|_=>.non) (λx hx N hN=>?_) ?_
 .obtain⟨f,hf,rfl⟩:=wN.mp hx;refine⟨rfl,⟨nu (by decide) (by decide),hb f hf⟩,?_⟩;show N (.bl (decide ((if f.1<0 then -f.1 else f.1)<=12*f.2)));rw[ab];exact hN
 .refine⟨fs.map λf=>nearF f.1 f.2,by rw[uP,uP];rfl,?_⟩;rw[l5];exact k
def Lo (B:yo mg bn)(D:DF K mg "need_field" oU f fd ["thing"])(cF:eO P w K mg base) :
  m9 P w K mg base:=by
 refine yM D N9 (λhr=>(xC (y3 (w_ (wJ (xw cF hr (xI (pv 0))))) (xC Nf) y4)))
  (zb (w6 (zM (xM (xF xh)))) LO zc) λts KK hl h=>?_
 obtain⟨t,rfl,hf,k⟩:=h;refine⟨t,rfl,?_⟩;rw[hf];exact⟨rfl,k⟩
end
section
variable (P:Program) (w:World) {K:xo} {mg:Str->Option Value} (base:Heap) {f:Addr} {fd:FuncData}
theorem Lg (B:yo mg bn)(D:DF K mg "is_fraction" oQ f fd ["thing"])(gi:m8 P w K mg base)(vA:dP P w K mg base) :
  eQ P w K mg base:=by
 refine yM D lr (λhr=>(xA (y3 (PW.pt (uZ (w_ (wJ (yB qr rfl (B.get "isinstance") qq (xn (pv 0) (qF (v:=V.ty "tuple") rfl (B.get "tuple") qW rfl))))) (qa (y8 (vC hr.units) (yB (wo K) rfl (B.get "len") wm (xI (pv 0))) xk (yt _))))) (xC (xT wC)) y4) (xA (vG (pv 0) (wG K (n:=2) rfl (yw (yH 1 lr.nd) (yw (yH 2 lr.nd) zV)))) (xC (xT (vE (xw gi hr (xI (pv 1))) (vE (xw gi hr (xI (pv 2))) (vE (wD cW (pv 2) xk (yt _)) (kl (wD (uk hr.units) (xw vA hr (xn (pv 1) (pv 2))) xk (yt _)))))))))))
  (xE (zb (uX (w6 (zM (qx xh))) (y_ (xr vD (yY wR (xF xh)) xm))) (yk w5) zc) (xE (qz xh (wA (yu xV (yu xV zU))).g) (yk (vB (xM (xF xh)) (vB (xM (xF xh)) (vB (xr C3 xh xm) (xr os_eq (xM (xt xh xh)) xm))))))) λts KK hl h=>?_
 obtain⟨t,rfl,k⟩:=h;cases t with
 |tup us=>
  refine yr (b:=!decide ((us.length:Int)=2)) (λc=>?_) (λc=>?_)
  .have c:¬(us.length:Int)=2:=by simpa using c
   have e:uh (.tup us)=false:=by
    unfold uh;split
    .rename_i z;injection z with z;rw[z] at c;exact absurd rfl c
    .rfl
   rw[e] at k;exact k
  .have c:us.length=2:=by simp at c;lia
   obtain⟨x,y,rfl⟩:∃x y,us=[x,y]:=by
    match us,c with
    |[x,y],_=>exact⟨x,y,rfl⟩
   refine⟨rfl,x,rfl,?_⟩;cases x with
   |int a=>
    refine⟨y,rfl,?_⟩;cases y with
    |int b=>
     have e:uh (.tup [.int a,.int b])=(decide (1<=b)&&decide (Int.gcd a b=1)):=rfl;rw[e] at k;refine yr (b:=decide (1<=b)) (λc1=>?_) (λc1=>?_)
     .refine⟨a,b,rfl,?_⟩;rw[c1,qK] at k;have e2:decide (((Int.gcd a b:Nat):Int)=1)=decide (Int.gcd a b=1):=by rw[jk];lia
      show KK (.bl (decide (((Int.gcd a b:Nat):Int)=1)));rw[e2];exact k
     .rw[c1,qg] at k;exact k
    |_=>exact k
   |_=>exact k
 |_=>exact k
theorem KS (B:yo mg bn)(D:DF K mg "are_weights" tU f fd ["field", "thing"])(cH:eQ P w K mg base) :
  eA P w K mg base:=by
 refine yM D NX (λhr=>(xA (y3 (PW.pt (uZ (w_ (wJ (yB qr rfl (B.get "isinstance") qq (xn (pv 1) (qF (v:=V.ty "tuple") rfl (B.get "tuple") qW rfl))))) (qa (y8 (vC hr.units) (yB (wo K) rfl (B.get "len") wm (xI (pv 1))) (yB (wo K) rfl (B.get "len") wm (xI (pv 0))) (yt _))))) (xC (xT wC)) y4) (xC (xT (yB (dX K rfl) rfl (B.get "all") dW (xI (vF (uF (N:=["weight"]) (xy:=[none]) (XN:=["field", "thing"]) (xs:=xH tU) (by decide +kernel) rfl rfl) rfl (q9 rfl) (z_ K (pv 1)) (λ_ _ _ _=>(zH (i:=0) (show(["weight"]:List Str).Nodup by decide +kernel) rfl (Or.inl rfl))) (λ_ _ _ _=>v_) (λ_ _ _ _=>(vE (xw cH hr (xI (pv 0))) (kl (wD cW (xP K 0) xk (yt _))))))))))))
  (xE (zb (uX (w6 (zM (qx xh))) (y_ (xr vD (yY wR (xF xh)) (yY wR (xF xh))))) (yk w5) zc) (yk (yY dY (xF (zF.e (uW (we xh).c xV v7 (vB (xM (xF xh)) (xr C3 xO xm)))))))) λts KK hl h=>?_
 obtain⟨rs,t,rfl,hl2,k⟩:=h;cases t with
 |tup us=>
  refine yr (b:=!decide ((us.length:Int)=(rs.length:Int))) (λc=>?_) (λc=>?_)
  .have c:¬(us.length:Int)=(rs.length:Int):=by simpa using c
   have e:va rs.length (.tup us)=false:=by show(decide (us.length=rs.length)&&us.all wtT)=false;rw[wX (by lia),qg]
   rw[e] at k;exact k
  .have c:(us.length:Int)=(rs.length:Int):=by simpa using c
   have e:va rs.length (.tup us)=us.all wtT:=by show(decide (us.length=rs.length)&&us.all wtT)=us.all wtT;rw[wO (by lia),qK]
   rw[e] at k;refine⟨sqz (by lia),j5 (λu=>.bl (wtT u)) (λu hu N hN=>?_) ⟨us.map wtT,by rw[uP];rfl,?_⟩⟩
   .refine⟨u,rfl,?_⟩;have no:uh u=false->N (.bl false):=λz=>by
     have:wtT u=false:=by
      unfold wtT;split
      .rename_i a b;have z:(decide (1<=b)&&decide (Int.gcd a b=1))=false:=z;rw[z,qg]
      .rfl
     rw[this] at hN;exact hN
    refine yr (b:=uh u) (λc=>?_) no;unfold uh at c;split at c
    .rename_i a b;have e:wtT (.tup [.int a,.int b])=((decide (1<=b)&&decide (Int.gcd a b=1))&&decide (0<=a)):=rfl;rw[e,c,qK] at hN;exact hN
    .cases c
   .simpa using k
 |_=>exact k
def LA (B:yo mg bn)(D:DF K mg "whole_sum" s_ f fd ["rows", "weights"])(vA:dP P w K mg base) :
  e_ P w K mg base:=by
 refine yM D qJ (λhr=>(xA (Dn (i:=2) qJ.nd rfl (Or.inl rfl) (uF (N:=["row", "weight"]) (xy:=[none,none]) (XN:=["rows", "weights", "used", "bottom", "row", "weight", "tops", "many"]) (xs:=xH s_) (by decide +kernel) rfl rfl) rfl (fq (vx rfl (vx rfl ft))) (sT K rfl (B.get "zip") (xn (pv 0) (pv 1))) (λ_ _ _ _=>(wG K (n:=2) rfl (yw (zH (i:=0) (show(["row", "weight"]:List Str).Nodup by decide +kernel) rfl (Or.inl rfl)) (yw (zH (i:=1) (show(["row", "weight"]:List Str).Nodup by decide +kernel) rfl (Or.inl rfl)) zV)))) (λ_ _ _ _=>(tK (y8 (vC hr.units) (xP K 1) xk (yt _)))) (λ_ _ _ _=>(yD (xn (pv 0) (pv 1)))))
  (xA (yx 3 qJ.nd xk) (xA (wH zX rfl (z_ K (pv 2)) (wG K (n:=2) rfl (yw (yH 4 qJ.nd) (yw (yH 5 qJ.nd) zV))) (xC (yx 3 qJ.nd (xu yP (xu qB (pv 3) (xw vA hr (xn (pv 3) (xP K 5)))) (xP K 5))))) (xA (yx 6 qJ.nd (zJ (yz xk (xn xk xk)))) (xA (wH zX rfl (z_ K (pv 2)) (wG K (n:=2) rfl (yw (yH 4 qJ.nd) (yw (yH 5 qJ.nd) zV))) (xA (k_ (i:=7) qJ.nd rfl (Or.inr rfl) (xu yP (xu qB (pv 3) (xP K 5)) (xP K 5))) (xC (Dn (i:=6) qJ.nd rfl (Or.inl rfl) (uF (N:=["top", "number", "many"]) (xy:=[none,none,some 7]) (XN:=["rows", "weights", "used", "bottom", "row", "weight", "tops", "many"]) (xs:=xH s_) (by decide +kernel) rfl rfl) rfl (fq (vx rfl (vx rfl ft))) (sT K rfl (B.get "zip") (xn (pv 6) (pv 4))) (λ_ _ _ _=>(wG K (n:=2) rfl (yw (zH (i:=0) (show(["top", "number", "many"]:List Str).Nodup by decide +kernel) rfl (Or.inl rfl)) (yw (zH (i:=1) (show(["top", "number", "many"]:List Str).Nodup by decide +kernel) rfl (Or.inl rfl)) zV)))) (λ_ _ _ _=>v_) (λ_ _ _ _=>(xu wg (pv 0) (xu yP (pv 2) (pv 1))))))))
  (xC (xT (yD (xn (pv 6) (pv 3)))))))))))
  (xE (yL (zF.e (uW (sL (xt xh xh)).c (wA (yu xV (yu xV zU))) (y_ (xr vD xO xm)) (yC (b:=true) (xt xh xh))))) (xE (yL xm) (xE (wB (we xh) (wA (yu xV (yu xV zU))).g (yL (xr yR (xr qD xh (xM (xt xh xO))) xO))) (xE (yL (uV (b:=true) (yO xm (xt xm xm)))) (xE (wB (we xh) (wA (yu xV (yu xV zU))).g (xE (yL (xr yR (xr qD xh xO) xO)) (yL (zF.e (uW (sL (xt xh xh)).c (wA (yu xV (yu xV zU))) v7 (xr um xh (xr yR xh xh))))))) (yk (yC (b:=true) (xt xh xh)))))))) λts KK hl h=>?_
 obtain⟨xf,ws,rfl,H0,k⟩:=h;have hl8:=H0.l100;have hlen:=H0.len;have zl:(xf.zip ws).length=xf.length:=by rw[ij];lia
 have hz:=λx hx=>H0.zip (x:=x) hx;have hu:∀x∈(xf.zip ws).filter kB,yW 10 x.1/\Wt x.2:=λx hx=>hz x (vM.mp hx).1;have ul:((xf.zip ws).filter kB).length<=8:=by have:=List.length_filter_le kB (xf.zip ws);lia
 refine yl (λτ=>τ=[.fz (.tup (xf.map xi)),.fz (.tup (ws.map fT)),.fz (.lst (((xf.zip ws).filter kB).map rwT)),.un,.un,.un,.un,.un]) ?_ (λN hN=>?_)
 rotate_left
 .show(vj (xf.map xi) (ws.map fT)).length<sizeLine/\_;rw[my];refine⟨by rw[xX];exact sqz (by lia),aW kB rwT (λx hx N M h1 h0=>?_) (hN _ rfl)⟩;exact⟨rfl,yr (b:=!decide (x.2.1=0)) h1 h0⟩
 rintro _ rfl;rw[<-lL k0 _ λx hx=>(hz x hx).2,<-lL k1 _ λx hx=>(hz x hx).2,<-lL k2 _ λx hx=>(hz x hx).2] at k;generalize (xf.zip ws).filter kB=U at hu ul k;refine yl (λτ=>τ=[.fz (.tup (xf.map xi)),.fz (.tup (ws.map fT)),.fz (.lst (U.map rwT)),.fz (.int 1),.un,.un,.un,.un]) ?_ (λN hN=>hN _ rfl);rintro _ rfl;refine yl (λτ=>∃(D:Int) (x4 x5:TV),(0<D/\Bk 330 D/\∀x∈U,x.2.2∣D)/\τ=[.fz (.tup (xf.map xi)),.fz (.tup (ws.map fT)),.fz (.lst (U.map rwT)),.fz (.int D),x4,x5,.un,.un]) ?_ (λN hN=>?_)
 rotate_left
 .refine kA (U.map rwT) (λi τ=>∃(D:Int) (x4 x5:TV),(0<D/\Bk (1+40*i) D/\∀x∈U.take i,x.2.2∣D)/\τ=[.fz (.tup (xf.map xi)),.fz (.tup (ws.map fT)),.fz (.lst (U.map rwT)),.fz (.int D),x4,x5,.un,.un]) (λKK h=>h) ⟨1,_,_,⟨by decide,by unfold Bk;decide,λx hx=>by simp at hx⟩,rfl⟩ ?_ (λτ h=>?_)
  rotate_left
  .obtain⟨D,x4,x5,⟨d1,d2,d3⟩,rfl⟩:=h;rw[xX] at d2 d3;rw[gQ] at d3;exact hN _ ⟨D,_,_,⟨d1,d2.mono (by lia),d3⟩,rfl⟩
  rintro i x τ N2 hx ⟨D,x4,x5,⟨d1,d2,d3⟩,rfl⟩ hN2;obtain⟨y,hy,rfl⟩:=vz hx;have il:i<U.length:=(zP.mp hy).1;obtain⟨hr,hw⟩:=hu y (zW hy);have bD:Bk 330 D:=d2.mono (by lia);obtain⟨s1,s2,s3,s4⟩:=JP d1 hw.pos;have g0:(0:Int)<(Int.gcd D y.2.2:Nat):=by have:=aE D (show y.2.2≠0 by have:=hw.pos;lia);lia
  have bg:Bd (Int.gcd D y.2.2:Nat):=by have:=Int.gcd_le_natAbs_left y.2.2 (show D≠0 by lia);exact(bD.le (by lia)).bd
  have bq:Bk 330 (D.fdiv (Int.gcd D y.2.2:Nat)):=by rw[vU (by lia)];exact bD.le (Int.natAbs_ediv_le_natAbs _ _)
  refine⟨rfl,D,y.2.2,rfl,⟨by lia,bg⟩,⟨bq.bd,hw.sm.bot.bd⟩,?_⟩;have e:D.fdiv (Int.gcd D y.2.2:Nat)*y.2.2=D/(Int.gcd D y.2.2:Nat)*y.2.2:=by rw[vU (by lia)]
  refine hN2 _ ⟨D/(Int.gcd D y.2.2:Nat)*y.2.2,.fz (xi y.1),.fz (fT y.2),⟨s1,?_,λz hz'=>?_⟩,by rw[<-e];rfl⟩
  .exact((d2.mul hw.sm.bot).le s4).mono (by lia)
  .rw[jS,hy] at hz';rcases xU.mp hz' with h|h
   .exact Int.dvd_trans (d3 z h) s2
   .simp at h;rw[h];exact s3
 rintro _ ⟨D,x4,x5,⟨d1,d2,d3⟩,rfl⟩;refine yl (λτ=>τ=[.fz (.tup (xf.map xi)),.fz (.tup (ws.map fT)),.fz (.lst (U.map rwT)),.fz (.int D),x4,x5,.fz (.lst [.int 0,.int 0,.int 0]),.un]) ?_ (λN hN=>hN _ rfl);rintro _ rfl;refine yl (λτ=>∃(a b c:Int) (x4 x5 x7:TV),(Sd (wsum k0 U) a D/\Sd (wsum k1 U) b D/\Sd (wsum k2 U) c D)/\τ=[.fz (.tup (xf.map xi)),.fz (.tup (ws.map fT)),.fz (.lst (U.map rwT)),.fz (.int D),x4,x5,.fz (.lst [.int a,.int b,.int c]),x7]) ?_ (λN hN=>?_)
 .rintro _ ⟨a,b',c,x4,x5,x7,⟨h1,h2,h3⟩,rfl⟩;exact k a b' c D h1 h2 h3 d2.bd
 have z0:∀k:Pol.R3->Int,Sd (wsum k []) 0 D:=λk=>⟨by show(0:Int)<1;decide,d1,by show(0:Int)*D=0*1;lia⟩
 refine kA (U.map rwT) (λi τ=>∃(a b c:Int) (x4 x5 x7:TV),(Sd (wsum k0 (U.take i)) a D/\Sd (wsum k1 (U.take i)) b D/\Sd (wsum k2 (U.take i)) c D)/\τ=[.fz (.tup (xf.map xi)),.fz (.tup (ws.map fT)),.fz (.lst (U.map rwT)),.fz (.int D),x4,x5,.fz (.lst [.int a,.int b,.int c]),x7]) (λKK h=>h) ⟨0,0,0,_,_,_,⟨z0 _,z0 _,z0 _⟩,rfl⟩ ?_ (λτ h=>?_)
 rotate_left
 .obtain⟨a,b',c,x4,x5,x7,hs,rfl⟩:=h;rw[xX,gQ] at hs;exact hN _ ⟨a,b',c,_,_,_,hs,rfl⟩
 rintro i x τ N2 hx ⟨a,b',c,x4,x5,x7,⟨h1,h2,h3⟩,rfl⟩ hN2;obtain⟨y,hy,rfl⟩:=vz hx;obtain⟨hr,hw⟩:=hu y (zW hy);have dv:=d3 y (zW hy);have qe:y.2.2*D.fdiv y.2.2=D:=by rw[vU (yA hw.pos)];exact lX dv
 have bq:Bk 330 (D.fdiv y.2.2):=by rw[vU (yA hw.pos)];exact d2.le (Int.natAbs_ediv_le_natAbs _ _)
 have bm:=bq.mul hw.sm.top;have tk1:U.take (i+1)=U.take i++[y]:=by rw[jS,hy];rfl
 refine⟨rfl,⟨by have:=hw.pos;show y.2.2≠0;lia,hw.sm.bot.bd⟩,⟨bq.bd,hw.sm.top.bd⟩,sqz (by show 3<=1000000;decide),?_⟩;refine⟨rfl,⟨bm.bd,hr.1.1.bd⟩,rfl,⟨bm.bd,hr.1.2.bd⟩,rfl,⟨bm.bd,hr.2.bd⟩,?_⟩;refine hN2 _ ⟨_,_,_,_,_,_,⟨?_,?_,?_⟩,rfl⟩
 .rw[tk1,wsum_snoc];exact h1.plusD (lu hw.pos d1 qe)
 .rw[tk1,wsum_snoc];exact h2.plusD (lu hw.pos d1 qe)
 .rw[tk1,wsum_snoc];exact h3.plusD (lu hw.pos d1 qe)
end
section
variable (P:Program) (w:World) {K:xo} {mg:Str->Option Value} (base:Heap) {f:Addr} {fd:FuncData}
def K0 (B:yo mg bn)(D:DF K mg "clash_shares" tW f fd ["rows"])(cg:eE P w K mg base)(b_:eC P w K mg base) :
  eD P w K mg base:=by
 refine yM D Eo (λhr=>(xA (yx 1 Eo.nd (xw cg hr (xI (pv 0)))) (xC (xT (Df (MV (uF (N:=["row", "many"]) (xy:=[none,none]) (XN:=["rows", "core"]) (xs:=xH tW) (by decide +kernel) rfl rfl) rfl (huS hr) (fq (vx rfl (vx rfl ft))) (sT K rfl (B.get "zip") (xn (pv 1) (xw b_ hr (xI (pv 1))))) (λ_ _ _ _=>(wG K (n:=2) rfl (yw (zH (i:=0) (show(["row", "many"]:List Str).Nodup by decide +kernel) rfl (Or.inl rfl)) (yw (zH (i:=1) (show(["row", "many"]:List Str).Nodup by decide +kernel) rfl (Or.inl rfl)) zV)))) (λ_ _ _ _=>v_) (λ_ _ _ _=>(pv 0)) (λ_ _ _ _=>(yD (xn (pv 1) xk)))))))))
  (xE (yL (xM (xF xh))) (yk (K5 (sL (xt xh (xM (xF xh)))).c (wA (yu xV (yu xV zU))) v7 xh (yC (b:=true) (xt xh xm))))) λts KK hl h=>?_
 obtain⟨t,xf,rfl,ht,hF,hV,k⟩:=h;refine yl (λτ=>∃core,ClE xf core/\τ=[.fz t,.fz (.lst (core.map xi))]) ?_ (λN hN=>⟨t,xf,rfl,ht,hF,hV,λcore h=>hN _ ⟨core,h,rfl⟩⟩);rintro _ ⟨core,hC,rfl⟩;have bl:=nq hC.bal;have cl:=hC.bal.len;refine⟨core,rfl,hC.bal,λr hr=>hF.fr r (hC.mem r hr),?_⟩;show(vj (core.map xi) ((Pol.bal core).map Tr.int)).length<sizeLine/\_;rw[my];refine⟨by rw[xX,ij];exact sqz (by lia),A8 (key:=λx:Pol.R3×Int=>uo x.1) (v:=λx=>fT (wI x.2)) _ [] (λx _ N hN=>?_) ?_ (λx _ p hp=>by simp at hp) (λo=>?_)⟩
 .exact⟨rfl,uo x.1,rfl,hN⟩
 .have e:(core.zip (Pol.bal core)).map (λx:Pol.R3×Int=>uo x.1)=core.map uo:=by rw[show(λx:Pol.R3×Int=>uo x.1)=uo ∘ Prod.fst from rfl,<-uP,List.map_fst_zip (by lia)]
  rw[e];exact List.Pairwise.map (S:=(·≠·)) uo (λa b h e=>h (D8 e)) (Ak hC.bal)
 .rw[vn];exact k core o hC
def K1 (B:yo mg bn)(D:DF K mg "clashing" oC f fd ["rows"])(vZ:dQ P w K mg base)(cB:eI P w K mg base) :
  eE P w K mg base:=by
 refine yM D ai (λhr=>(xA (yx 1 ai.nd (zJ uL)) (xA (yx 2 ai.nd (fM (Aw K) rfl (B.get "list") As (xI (pv 0)))) (xA (sV zX (pE K (xw vZ hr (xI (pv 1)))) (xA (yx 3 ai.nd (xw cB hr (xn (pv 1) (pv 2)))) (xA (uY (v9 qR jU jV kS (pv 1) (xI (zZ (uH K) (pv 2) (pv 3) (λ_ _=>rfl))))) (xC (yx 2 ai.nd (k8 (gD K) (pv 2) k9 (km (pv 3)))))))) (xC (xT (pv 1)))))))
  (xE (qA (qy uK)) (xE (yL (zF.e (CT (xF xh)))) (xE (sN (cV (xM (xF gk))) (xE (yL (Lv (xM (xt gk (xJ.weak xh))))) (xE (k7 (vh xh xh)) (yL (gj xh kY (kZ xh)))))) fH))) λts KK hl h=>?_
 obtain⟨t,xf,rfl,ht,hF,hV,k⟩:=h;have hl1:=hF.len;refine yl (λτ=>τ=[.fz t,.ow [],.un,.un]) ?_ (λN hN=>hN _ rfl);rintro _ rfl;refine yl (λτ=>τ=[.fz t,.ow [],.fz (.lst (xf.map xi)),.un]) ?_ (λN hN=>?_)
 rotate_left
 .rcases ht with rfl|rfl<;>exact hN _ rfl
 rintro _ rfl;refine yl (λτ=>∃(core:List Pol.R3) (x2 x3:TV),ClE xf core/\τ=[.fz t,.ow (core.map xi),x2,x3]) ?_ (λN hN=>?_)
 .rintro _ ⟨core,x2,x3,h,rfl⟩;exact k core h
 refine aB (λm τ=>∃(core rest:List Pol.R3) (x3:TV),(m=rest.length/\gX xf core rest)/\τ=[.fz t,.ow (core.map xi),.fz (.lst (rest.map xi)),x3]) _ ⟨[],xf,.un,⟨rfl,λr hr=>by simp at hr,λr hr=>hr,hV,λk hk=>by simp at hk,by simp⟩,rfl⟩ ?_;rintro m τ N2 ⟨core,rest,x3,⟨rfl,hC⟩,rfl⟩ hN2;have ln:=hC.len;have fc:FR core:=hF.sub hC.mc (by lia);refine⟨_,core,rfl,.inr rfl,fc.ok,?_⟩;refine yr (b:=!((pieces core).map xi).isEmpty) (λc=>?_) (λc=>?_)
 .have c:pieces core≠[]:=λz=>by rw[z] at c;cases c
  have nv:¬Void core:=λz=>c (fc.void.mpr z);refine yl (λτ=>∃(n:Nat) (x:Pol.R3),(rest[n]?=some x/\Void (core++rest.take (n+1))/\¬Void (core++rest.take n))/\τ=[.fz t,.ow (core.map xi),.fz (.lst (rest.map xi)),.fz (.int n)]) ?_ (λN hN=>⟨core,rest,rfl,hF.sub (λr hr=>(xU.mp hr).elim (hC.mc r) (hC.mr r)) (by rw[za];lia),hC.vd,nv,λn x h1 h2 h3=>⟨(λz=>nomatch z),hN _ ⟨n,x,⟨h1,h2,h3⟩,rfl⟩⟩⟩);rintro _ ⟨n,x,⟨h1,h2,h3⟩,rfl⟩;have st:=hC.step h1 h2 h3;have hn:=(zP.mp h1).1;refine yl (λτ=>τ=[.fz t,.ow ((core++[x]).map xi),.fz (.lst (rest.map xi)),.fz (.int n)]) ?_ (λN hN=>?_)
  rotate_left
  .show uT (atT (rest.map xi) (n:Int)) _;rw[ff,uN,h1];refine⟨by rw[xX];exact sqz (by lia),hN _ ?_⟩;rw[zR];rfl
  rintro _ rfl;have e:zL (rest.map xi) none (some (n:Int))=(rest.take n).map xi:=by rw[nO,dE]
  show N2 [.fz t,.ow ((core++[x]).map xi),.fz (.lst (zL (rest.map xi) none (some (n:Int)))),.fz (.int n)];rw[e];exact hN2 _ _ (by rw[zQ];lia) ⟨core++[x],rest.take n,_,⟨rfl,st⟩,rfl⟩
 .have c:pieces core=[]:=by
   cases e:pieces core with
   |nil=>rfl
   |cons a l=>rw[e] at c;cases c
  exact hN _ ⟨core,_,_,⟨hC.bal hF (fc.void.mp c),hC.mc⟩,rfl⟩
def K9 (B:yo mg bn)(D:DF K mg "first_that_empties" oH f fd ["core", "rest"])(gg:m7 P w K mg base)(vZ:dQ P w K mg base) :
  eI P w K mg base:=by
 refine yM D aj (λhr=>(xA (yx 2 aj.nd xk) (xA (yx 3 aj.nd (xw gg hr (xn (xw vZ hr (xI (pv 0))) (xP K 1)))) (xA (sV zX (pE K (pv 3)) (xA (Nd (i:=2) aj.nd rfl (Or.inl rfl) xk Jo) (xC (yx 3 aj.nd (xw gg hr (xn (pv 3) (zZ (uH K) (pv 1) (pv 2) (λ_ _=>rfl)))))))) (xC (xT (pv 2)))))))
  (xE (yL xm) (xE (yL (xM (xt (xM (xF xh)) xO))) (xE (sN (cV xh) (xE (LM xm) (yL (xM (xt xh (vh xh xh)))))) (yk xh)))) λts KK hl h=>?_
 obtain⟨core,rest,rfl,hF,hV,hnv,k⟩:=h;have hR:=hF.ok;have rn:rest≠[]:=λz=>hnv (by rw[z,ub] at hV;exact hV);have pl:∀n,FR (core++rest.take n):=λn=>hF.sub (λr hr=>(xU.mp hr).elim (yF _) λz=>zf _ (vN z)) (by have:=hF.len;simp only[za,zQ] at *;lia);have cp:∀ {n:Nat} {x:Pol.R3},rest[n]?=some x->pieces (core++rest.take (n+1))=wY (pieces (core++rest.take n)) x:=λ {n x} hx=>by rw[take_snoc hx,<-qM];unfold pieces;rw[jO];rfl
 have call:∀ {n:Nat} {x:Pol.R3} {KK':Tr->Prop},rest[n]?=some x->KK' (.lst ((pieces (core++rest.take (n+1))).map xi))->cZ [.lst ((pieces (core++rest.take n)).map xi),xi x] KK':=λ {n x KK'} hx hk=>by have sm:=(pl n).ok.small (core++rest.take n).length;have ln:=(pl n).ok.plen (core++rest.take n).length;rw[ur (xY _)] at sm ln;rw[cp hx] at hk;exact⟨_,x,rfl,hR.sm x (zf _ (zW hx)),sm,ln,hk⟩
 have at':∀ {n:Nat} {x:Pol.R3},rest[n]?=some x->atT (rest.map xi) (n:Int)=some (xi x):=λ {n x} hx=>by rw[ff,uN,hx];rfl
 refine yl (λτ=>τ=[.fz (.lst (core.map xi)),.fz (.lst (rest.map xi)),.fz (.int (0:Nat)),.un]) ?_ (λN hN=>hN _ rfl);rintro _ rfl;obtain⟨r0,h0⟩:∃x,rest[0]?=some x:=by
  cases rest with
  |nil=>exact absurd rfl rn
  |cons a l=>exact⟨a,rfl⟩
 refine yl (λτ=>τ=[.fz (.lst (core.map xi)),.fz (.lst (rest.map xi)),.fz (.int (0:Nat)),.fz (.lst ((pieces (core++rest.take 1)).map xi))]) ?_ (λN hN=>?_)
 rotate_left
 .have pc:FR core:=hF.sub (λr hr=>yF _ hr) (by have:=hF.len;rw[za] at this;lia);refine⟨_,core,rfl,.inr rfl,pc.ok,?_⟩;show uT (atT (rest.map xi) ((0:Nat):Int)) _;rw[at' h0];have c:=call (KK':=λt=>N [.fz (.lst (core.map xi)),.fz (.lst (rest.map xi)),.fz (.int (0:Nat)),.fz t]) h0 (hN _ rfl);rw[List.take_zero,ub] at c;exact c
 rintro _ rfl;refine yl (λτ=>∃(n:Nat) (x:Pol.R3) (p:Tr),(rest[n]?=some x/\Void (core++rest.take (n+1))/\¬Void (core++rest.take n))/\τ=[.fz (.lst (core.map xi)),.fz (.lst (rest.map xi)),.fz (.int n),.fz p]) ?_ (λN hN=>?_)
 .rintro _ ⟨n,x,p,⟨h1,h2,h3⟩,rfl⟩;exact k n x h1 h2 h3
 refine aB (λm τ=>∃(n:Nat) (x:Pol.R3),(m=rest.length-n/\rest[n]?=some x/\¬Void (core++rest.take n))/\τ=[.fz (.lst (core.map xi)),.fz (.lst (rest.map xi)),.fz (.int n),.fz (.lst ((pieces (core++rest.take (n+1))).map xi))]) _ ⟨0,r0,⟨rfl,h0,by rw[List.take_zero,ub];exact hnv⟩,rfl⟩ ?_;rintro m τ N2 ⟨n,x,⟨rfl,hx,nv⟩,rfl⟩ hN2;refine yr (b:=!((pieces (core++rest.take (n+1))).map xi).isEmpty) (λc=>?_) (λc=>?_)
 .have c:pieces (core++rest.take (n+1))≠[]:=λz=>by rw[z] at c;cases c
  have nv':¬Void (core++rest.take (n+1)):=λz=>c ((pl _).void.mpr z);have hn:n+1<rest.length:=by
   have:=(zP.mp hx).1;rcases ix (n+1) rest.length with q|q
   .exact q
   .rw[ur q] at nv';exact absurd hV nv'
  have hy:rest[n+1]?=some rest[n+1]:=ze hn;refine yl (λτ=>τ=[.fz (.lst (core.map xi)),.fz (.lst (rest.map xi)),.fz (.int (n+1:Nat)),.fz (.lst ((pieces (core++rest.take (n+1))).map xi))]) ?_ (λN hN=>⟨1,rfl,hN _ rfl⟩);rintro _ rfl;show uT (atT (rest.map xi) ((n+1:Nat):Int)) _;rw[at' hy];exact call (KK':=λt=>N2 [.fz (.lst (core.map xi)),.fz (.lst (rest.map xi)),.fz (.int (n+1:Nat)),.fz t]) hy (hN2 (rest.length-(n+1)) _ (by lia) ⟨n+1,_,⟨rfl,hy,nv'⟩,rfl⟩)
 .have c:pieces (core++rest.take (n+1))=[]:=by
   cases e:pieces (core++rest.take (n+1)) with
   |nil=>rfl
   |cons a l=>rw[e] at c;cases c
  exact hN _ ⟨n,x,_,⟨hx,(pl _).void.mp c,nv⟩,rfl⟩
def KW (B:yo mg bn)(D:DF K mg "balance" oA f fd ["core"])(uU:dR P w K mg base) :
  eC P w K mg base:=by
 refine yM D fZ (λhr=>(xA (y3 (y8 (uk hr.units) (yB (wo K) rfl (B.get "len") wm (xI (pv 0))) xk (yt _)) (xA (vG (pv 0) (tI K (n:=2) rfl (yw (yH 1 fZ.nd) (yw (yH 2 fZ.nd) zV)))) (xC (xT (zJ (xn (xu wg (yB uD rfl (B.get "abs") uC (xI (xP K 2))) (yB uD rfl (B.get "abs") uC (xI (xP K 2)))) (xu wg (yB uD rfl (B.get "abs") uC (xI (xP K 1))) (yB uD rfl (B.get "abs") uC (xI (xP K 1))))))))) y4) (xA (vG (pv 0) (tI K (n:=3) rfl (yw (yH 1 fZ.nd) (yw (yH 2 fZ.nd) (yw (yH 3 fZ.nd) zV))))) (xC (xT (zJ (yz (yB uD rfl (B.get "abs") uC (xI (xw uU hr (xn (pv 2) (pv 3))))) (xn (yB uD rfl (B.get "abs") uC (xI (xw uU hr (xn (pv 3) (pv 1))))) (yB uD rfl (B.get "abs") uC (xI (xw uU hr (xn (pv 1) (pv 2)))))))))))))
  (xE (zb (y_ (xr os_eq (yY wR (xF xh)) xm)) (xE (qz xh (tu (yu xV (yu xV zU))).g) (sM (qy (xt (xr um (yY uE (xF xO)) (yY uE (xF xO))) (xr um (yY uE (xF xO)) (yY uE (xF xO))))))) zc) (xE (qz xh (tu (yu xV (yu xV (yu xV zU)))).g) (sM (qy (yO (yY uE (xF (xM (xt xh xh)))) (xt (yY uE (xF (xM (xt xh xh)))) (yY uE (xF (xM (xt xh xh)))))))))) λts KK hl h=>?_
 obtain⟨core,rfl,B,hF,k⟩:=h;have bt:∀ {r s:Pol.R3} {x y:List Tr} {KK':Tr->Prop},zk r->zk s->KK' (.int (Pol.turn r s))->jD [.tup (.int r.1::.int r.2.1::x),.tup (.int s.1::.int s.2.1::y)] KK':=λ {r s x y KK'} h1 h2 hk=>by have b:∀ {i:Int},-30<=i/\i<=30->Bd i:=λh=>fg (by lia);exact⟨_,_,_,_,_,_,rfl,⟨⟨b h1.1.1,b h1.1.2⟩,b h2.1.1,b h2.1.2⟩,hk⟩
 rcases B.len with l|l
 .match core,l with
  |[s,t],_=>exact⟨rfl,k⟩
 .match core,l with
  |[s,t,u],_=>have hs:=hF s (by simp);have ht:=hF t (by simp);have hu:=hF u (by simp);refine⟨rfl,?_⟩;show jD [xi t,xi u] (λx=>jv [x] λa=>jD [xi u,xi s] λy=>jv [y] λb=>jD [xi s,xi t] λz=>jv [z] λc=>KK (.lst [a,b,c]));refine bt ht hu ?_;show jD [xi u,xi s] (λy=>jv [y] λb=>jD [xi s,xi t] λz=>jv [z] λc=>KK (.lst [.int (abs (Pol.turn t u)),b,c]));refine bt hu hs ?_;show jD [xi s,xi t] (λz=>jv [z] λc=>KK (.lst [.int (abs (Pol.turn t u)),.int (abs (Pol.turn u s)),c]));exact bt hs ht k
def K8 (B:yo mg bn)(D:DF K mg "first_numbers" oG f fd ["rows"])  :
  eH P w K mg base:=by
 refine yM D t6 (λhr=>(xA (yx 1 t6.nd MY) (xA (wH zX rfl (pq K rfl (B.get "enumerate") (xI (pv 0))) (wG K (n:=2) rfl (yw (yH 2 t6.nd) (yw (yH 3 t6.nd) zV))) (xC (uY (v9 PySem.F.plainAttrs_dict PySem.F.slot_dict_setdefault PySem.F.type_dict_setdefault (Kc (huR hr)) (pv 1) (xn (pv 3) (pv 2)))))) (xC (xT (Df (pv 1)))))))
  (xE LP (xE (wB (cU (xF xh)) (wA (yu xV (yu xV zU))).g (LS xh xh)) LR)) λts KK hl h=>?_
 obtain⟨xf,rfl,hl1,k⟩:=h;refine yl (λτ=>τ=[.fz (.tup (xf.map xi)),.od [],.un,.un]) ?_ (λN hN=>hN _ rfl);rintro _ rfl;refine yl (λτ=>∃(ks:List (List Int×Tr)) (x2 x3:TV),mO xf ks/\τ=[.fz (.tup (xf.map xi)),.od ks,x2,x3]) ?_ (λN hN=>?_)
 .rintro _ ⟨ks,x2,x3,h,rfl⟩;exact λo=>k ks o h
 refine kA (uG (xf.map xi)) (λi τ=>∃(ks:List (List Int×Tr)) (x2 x3:TV),((∀p∈ks,∃(n:Nat) (r:Pol.R3),xf[n]?=some r/\p=(uo r,.int n))/\(∀r∈xf.take i,∃p∈ks,p.1=uo r)/\ks.length<=i)/\τ=[.fz (.tup (xf.map xi)),.od ks,x2,x3]) (λKK h=>h) ⟨[],_,_,⟨λp hp=>by simp at hp,λr hr=>by simp at hr,xY _⟩,rfl⟩ ?_ (λτ h=>?_)
 rotate_left
 .obtain⟨ks,x2,x3,⟨h1,h2,_⟩,rfl⟩:=h;refine hN _ ⟨ks,x2,x3,λr hr=>?_,rfl⟩;rw[nW,ur (xY _)] at h2;obtain⟨p,hp,e1,e2⟩:=Ag (h2 r hr);obtain⟨n,r',e3,e4⟩:=h1 p hp;subst e4;have:=D8 e1;subst this;exact⟨n,e3,e2⟩
 rintro i x τ N2 hx ⟨ks,x2,x3,⟨h1,h2,h3⟩,rfl⟩ hN2;obtain⟨r,hr,rfl⟩:=nX hx;have hi:=(zP.mp hr).1;refine⟨rfl,uo r,rfl,sqz (by lia),?_⟩;show N2 [.fz (.tup (xf.map xi)),.od (putD ks (uo r) (.int i)),.fz (.int i),.fz (xi r)];refine hN2 _ ⟨_,_,_,⟨?_,?_,?_⟩,rfl⟩
 .unfold putD;split
  .exact h1
  .intro p hp;rcases xU.mp hp with z|z
   .exact h1 p z
   .rw[yS.mp z];exact⟨i,r,hr,rfl⟩
 .intro s hs;have old:∀p∈ks,p∈putD ks (uo r) (.int i):=λp hp=>by
   unfold putD;split
   .exact hp
   .exact yF _ hp
  rw[take_snoc hr] at hs;rcases xU.mp hs with z|z
  .obtain⟨p,hp,e⟩:=h2 s z;exact⟨p,old p hp,e⟩
  .rw[yS.mp z];unfold putD;split
   .rename_i c;obtain⟨p,hp,e⟩:=aH.mp c;exact⟨p,hp,zr e⟩
   .exact⟨_,zf _ (yS.mpr rfl),rfl⟩
 .unfold putD;split
  .lia
  .rw[za,vm];lia
def Ly (B:yo mg bn)(D:DF K mg "weights_by" o6 f fd ["numbers", "shares", "many"])  :
  eY P w K mg base:=by
 refine yM D ma (λhr=>(xA (yx 3 ma.nd (xu C2 (zJ (xI (yD (xn xk xk)))) (pv 2))) (xA (wH zX rfl (M3 (MZ (pv 1))) (wG K (n:=2) rfl (yw (yH 4 ma.nd) (yw (yH 5 ma.nd) zV))) (xC (vG (pv 5) (ph (pv 3) (MW (huR hr) (pv 0) (pv 4) (λ_ _=>rfl)) set_list)))) (xC (xT (fM (aY K) rfl (B.get "tuple") qW (xI (pv 3))))))))
  (xE (qA (LG (uV (b:=true) (xF (yC (b:=true) (xt xm xm)))) xh)) (xE (wB (LJ xh) (wA (yu xV (yu xV zU))).g (qz xh (LI (K6 xh xh)))) (yk CP))) λts KK hl h=>?_
 obtain⟨xf,core,ks,o,o',rfl,hN1,hC,hl1,hF,k⟩:=h;have bl:=nq hC.bal;refine yl (λτ=>τ=[.fz (wU o ks),.fz (wU o' (shL core)),.fz (.int (xf.length:Nat)),.ow (((List.replicate xf.length (0:Int)).map wI).map fT),.un,.un]) ?_ (λN hN=>⟨⟨by lia,by lia⟩,qd (by simp;lia),hN _ (by show([.fz (wU o ks),.fz (wU o' (shL core)),.fz (.int (xf.length:Nat)),.ow (List.replicate xf.length [fT (0,1)]).flatten,.un,.un]:xQ)=_;rw[pO,FJ,FJ];rfl)⟩)
 rintro _ rfl;refine yl (λτ=>∃(ms:List Int) (x4 x5:TV),VW xf ms/\τ=[.fz (wU o ks),.fz (wU o' (shL core)),.fz (.int (xf.length:Nat)),.ow ((ms.map wI).map fT),x4,x5]) ?_ (λN hN=>?_)
 .rintro _ ⟨ms,x4,x5,h,rfl⟩;exact k ms h
 refine kA ((core.zip (Pol.bal core)).map λx=>Tr.tup [xi x.1,fT (wI x.2)]) (λi τ=>∃(ms:List Int) (x4 x5:TV),WL xf core (Pol.bal core) i ms/\τ=[.fz (wU o ks),.fz (wU o' (shL core)),.fz (.int (xf.length:Nat)),.ow ((ms.map wI).map fT),x4,x5]) (λKK h=>?_) ⟨_,_,_,WL.start xf core _,rfl⟩ ?_ (λτ h=>?_)
 .show KK (kO ((shL core).map λp=>p.1) ((shL core).map λp=>p.2));rw[Ca];unfold shL;rw[uP];exact h
 rotate_left
 .obtain⟨ms,x4,x5,h,rfl⟩:=h;rw[xX,ij,bl,Nat.min_self] at h;exact hN _ ⟨ms,x4,x5,h.fin hC.bal,rfl⟩
 rintro i x τ N2 hx ⟨ms,x4,x5,hW,rfl⟩ hN2;obtain⟨y,hy,rfl⟩:=vz hx;obtain⟨y1,y2⟩:=List.getElem?_zip_eq_some.mp hy;obtain⟨n,n1,n2⟩:=hN1 y.1 (hC.mem _ (zW y1));have pos:=hC.bal.pos y.2 (zW y2);have le:=GK hC.bal (λr hr=>hF r (hC.mem r hr)) y.2 (zW y2);have hn:=(zP.mp n1).1;have st:=hW.step (Ak hC.bal) n1 y1 y2 ⟨by lia,le⟩;have wl:=hW.len;refine⟨rfl,?_⟩;dsimp only[jI,jt,eName,ju];show sr 3 (d2 nZ (qu 0) (qu 4)) (fT (wI y.2)) ([.fz (wU o ks),.fz (wU o' (shL core)),.fz (.int (xf.length:Nat)),.ow ((ms.map wI).map fT),.fz (xi y.1),.fz (fT (wI y.2))]:xQ) _;refine Ib (f:=fT) (n:=n) (w:=wI y.2) (di:=d2 nZ (qu 0) (qu 4)) rfl (by rw[xX];lia) (λKK' h=>⟨o,_,_,uo y.1,.int n,rfl,rfl,n2,h⟩) ?_;rw[<-List.map_set];exact hN2 _ ⟨_,_,_,st,rfl⟩
def Lp (B:yo mg bn)(D:DF K mg "nothing_weights" oV f fd ["field"])(fF:m9 P w K mg base)(vZ:dQ P w K mg base)(cO:eY P w K mg base)(cA:eH P w K mg base)(cf:eD P w K mg base) :
  eU P w K mg base:=by
 refine yM D N_ (λhr=>(xA (uY (xw fF hr (xI (pv 0)))) (xA (y3 (pE K (xw vZ hr (xI (pv 0)))) (xC (xT sS)) y4) (xC (xT (xw cO hr (yz (xw cA hr (xI (pv 0))) (xn (xw cf hr (xI (pv 0))) (yB (wo K) rfl (B.get "len") wm (xI (pv 0)))))))))))
  (xE (CU (xM (xF xh))) (xE (zb (cV (xM (xF xh))) (yk (jA (t:=Tr.non))) zc) (yk (xM (yO (xM (xF xh)) (xt (xM (xF xh)) (yY wR (xF xh)))))))) λts KK hl h=>?_
 obtain⟨xf,rfl,hL,k1,k2⟩:=h;have hF:=hL.fR;refine⟨_,rfl,hL.field,?_⟩;refine⟨_,xf,rfl,.inl rfl,hF.ok,?_⟩;refine yr (b:=!((pieces xf).map xi).isEmpty) (λc=>?_) (λc=>?_)
 .exact k1 λz=>by rw[hF.void.mpr z] at c;cases c
 .have v:Void xf:=hF.void.mp (by
   cases e:pieces xf with
   |nil=>rfl
   |cons a l=>rw[e] at c;cases c)
  have l8:=hL.l8;refine⟨xf,rfl,by lia,λks o hN=>⟨_,xf,rfl,.inl rfl,hF,v,λcore o' hC=>⟨xf,core,ks,o,o',?_,hN,hC,by lia,hF.fr,k2 v⟩⟩⟩;show[wU o ks,wU o' (shL core),Tr.int (((xf.map xi).length:Nat):Int)]=_;rw[xX]
def Lw (B:yo mg bn)(D:DF K mg "shows_nothing" oY f fd ["field", "thing"])(fF:m9 P w K mg base)(cQ:e_ P w K mg base)(b8:eA P w K mg base) :
  eX P w K mg base:=by
 refine yM D ls (λhr=>(xA (uY (xw fF hr (xI (pv 0)))) (xA (y3 (w_ (wJ (xw b8 hr (xn (pv 0) (pv 1))))) (xC (xT wC)) y4) (xA (vG (xw cQ hr (xn (pv 0) (pv 1))) (wG K (n:=2) rfl (yw (yH 2 ls.nd) (yw (yH 3 ls.nd) zV)))) (xC (xT (vE (wD (uk hr.units) (xP K 2) xk (yt _)) (vE (wD (uk hr.units) (xP K 2) xk (yt _)) (kl (wD (qC K hr.units) (xP K 2) xk (yt _)))))))))))
  (xE (CU (xM (xF xh))) (xE (zb (w6 (zM (xM (xt xh xh)))) (yk w5) zc) (xE (qz (xM (xt xh xh)) (wA (yu xV (yu xV zU))).g) (yk (vB (xr os_eq xO xm) (vB (xr os_eq xO xm) (xr qE xO xm))))))) λts KK hl h=>?_
 obtain⟨xf,t,rfl,hf,hS,k⟩:=h;refine⟨_,rfl,by rw[B7];exact hf,?_⟩;have l8:=(hZ hf).1.2;have ml:(xf.map xi).length=xf.length:=xX _;refine⟨_,t,rfl,by rw[ml];lia,?_⟩;rw[ml];refine yr (b:=!va xf.length t) (λc=>?_) (λc=>?_)
 .have c:va xf.length t=false:=by simpa using c
  unfold vi at k;rw[c,qg] at k;exact k
 .have c:va xf.length t=true:=by simpa using c
  obtain⟨ws,rfl,hG⟩:=hS c;unfold vi mx at k;rw[c,qK,lJ] at k;dsimp only[jI,jt,eName,ju];show ja (D_ _ _) _ _ ([.fz (.tup (xf.map xi)),.fz (wsT ws),.un,.un]:xQ);refine yl (λτ=>∃a b c' D:Int,(Sd (wsum k0 (xf.zip ws)) a D/\Sd (wsum k1 (xf.zip ws)) b D/\Sd (wsum k2 (xf.zip ws)) c' D)/\τ=[.fz (.tup (xf.map xi)),.fz (wsT ws),.fz (.lst [.int a,.int b,.int c']),.fz (.int D)]) ?_ (λN hN=>⟨xf,ws,rfl,hZ.ws hf hG,λa b c' D h1 h2 h3 _=>⟨rfl,hN _ ⟨a,b,c',D,⟨h1,h2,h3⟩,rfl⟩⟩⟩);rintro _ ⟨a,b,c',D,⟨h1,h2,h3⟩,rfl⟩;rw[<-jk.mpr h1.zero,<-jk.mpr h2.zero,<-jk.mpr h3.negT] at k;refine yr (b:=decide (a=0)) (λc1=>?_) (λc1=>?_)
  .rw[c1,qK] at k;refine yr (b:=decide (b=0)) (λc2=>?_) (λc2=>?_)
   .rw[c2,qK] at k;exact k
   .rw[c2,qg] at k;exact k
  .rw[c1,qg] at k;exact k
end
section
variable (P:Program) (w:World) {K:xo} {mg:Str->Option Value} (base:Heap) {f:Addr} {fd:FuncData}
def Kw (B:yo mg bn)(D:DF K mg "_law_divisor" p9 f fd ["_law_one", "_law_other"])  :
  mY P w K mg base:=by
 refine yM D Em (λhr=>(xA (sV zX (y8 (vC hr.units) (pv 1) xk (yt _)) (xC (ko (i:=0) (j:=1) rfl Em.nd rfl rfl (by decide) rfl rfl (xn (pv 1) (xu tD (pv 0) (pv 1))) (by rfl))))
  (xC (xT (yB uD rfl (B.get "abs") uC (xI (pv 0)))))))
  (xE (sN (y_ (xr vD xh xm)) (kb (xt xh (xr tE xh xh)))) (yk (yY uE (xF xh)))) λts KK hl h=>?_
 obtain⟨a,c,rfl,k⟩:=h;refine aB (λn τ=>∃x y:Int,τ=[.fz (.int x),.fz (.int y)]/\n=y.natAbs/\Fra.gd x y=Fra.gd a c) c.natAbs ⟨_,_,rfl,rfl,rfl⟩ ?_;rintro n τ N ⟨x,y,rfl,rfl,hg⟩ hN;refine yr (b:=!decide (y=0)) (λc0=>?_) (λc0=>?_)
 .have c0:y≠0:=by simpa using c0
  exact⟨c0,hN (x.fmod y).natAbs _ (Fra.IE c0) ⟨_,_,rfl,rfl,by rw[Fra.IU];exact hg⟩⟩
 .have c0:y=0:=by simpa using c0
  subst c0;rw[Fra.IW] at hg;have k:KK (.int (Fra.gd a c)):=k;rw[<-hg] at k;exact k
def KD (B:yo mg bn)(D:DF K mg "_law_low" oj f fd ["_law_top", "_law_bottom"])(fD:mY P w K mg base) :
  g_ P w K mg base:=by
 refine yM D o_ (λhr=>(xA (yx 2 o_.nd (xw fD hr (xn (pv 0) (pv 1)))) (xA (y3 (y8 (qC K hr.units) (pv 1) xk (yt _)) (xC (yx 2 o_.nd (xu wj xk (pv 2)))) y4) (xC (xT (yD (xn (xu qB (pv 0) (pv 2)) (xu qB (pv 1) (pv 2)))))))))
  (xE (yL (xM (xt xh xh))) (xE (zb (y_ (xr qE xh xm)) (yL (xr wx xm xh)) zc) (yk (yC (b:=true) (xt (xr qD xh xh) (xr qD xh xh)))))) λts KK hl h=>?_
 obtain⟨t,b,rfl,hb,bd,k⟩:=h;refine⟨t,b,rfl,?_⟩;have gp:=Fra.sE (a:=t) (b:=b) (.inr hb);have gb:Bd (Fra.gd t b):=nr hb bd;refine yr (b:=decide (b<0)) (λc=>?_) (λc=>?_)
 .have c:=zr c;rw[J1 c] at k;have gn:Bd (0-Fra.gd t b):=by unfold Bd at *;lia
  have e1:∀x:Int,x.fdiv (0-Fra.gd t b)=(-x)/Fra.gd t b:=λx=>by have h:=Int.neg_fdiv_neg (-x) (Fra.gd t b);rw[Int.neg_neg] at h;rw[show 0-Fra.gd t b = -(Fra.gd t b) by lia,h,vU (by lia)]
  have e2:Fra.low (-t) (-b)=((-t)/Fra.gd t b,(-b)/Fra.gd t b):=by unfold Fra.low;rw[show Fra.gd (-t) (-b)=Fra.gd t b by unfold Fra.gd;simp]
  rw[e2,<-e1,<-e1] at k;exact⟨⟨by show(0-Fra.gd t b)≠0;lia,gn⟩,⟨by show(0-Fra.gd t b)≠0;lia,gn⟩,k⟩
 .have c:=wQ c;rw[kR (by lia)] at k;refine⟨⟨by show Fra.gd t b≠0;lia,gb⟩,⟨by show Fra.gd t b≠0;lia,gb⟩,?_⟩;show KK (.tup [.int (t.fdiv (Fra.gd t b)),.int (b.fdiv (Fra.gd t b))]);rw[vU (by lia),vU (by lia)];exact k
def KP (B:yo mg bn)(D:DF K mg "_law_times" ox f fd ["_law_one", "_law_other"])(uJ:g_ P w K mg base) :
  dO P w K mg base:=by
 refine yM D NU (λhr=>(xC (xT (xw uJ hr (xn (xu yP (xP K 0) (xP K 1)) (xu yP (xP K 0) (xP K 1)))))))
  (yk (xM (xt (xr yR xO xO) (xr yR xO xO)))) λts KK hl h=>?_
 obtain⟨f,g,rfl,hf,hg,k⟩:=h;exact⟨⟨hf.top.bd,hg.top.bd⟩,⟨hf.bot.bd,hg.bot.bd⟩,_,_,rfl,by have:=Pol.pp hf.pos hg.pos;lia,(hf.bot.mul hg.bot).bd,k⟩
def KC (B:yo mg bn)(D:DF K mg "_law_less" oi f fd ["_law_one", "_law_other"])  :
  mZ P w K mg base:=by
 refine yM D NQ (λhr=>(xC (xT (wD (qC K hr.units) (xu yP (xP K 0) (xP K 1)) (xu yP (xP K 1) (xP K 0)) (yt _)))))
  (yk (xr qE (xr yR xO xO) (xr yR xO xO))) λts KK hl h=>?_
 obtain⟨f,g,rfl,hf,hg,k⟩:=h;exact⟨⟨hf.top.bd,hg.bot.bd⟩,⟨hg.top.bd,hf.bot.bd⟩,k⟩
def KG (B:yo mg bn)(D:DF K mg "_law_plus" oo f fd ["_law_one", "_law_other"])(uJ:g_ P w K mg base) :
  m5 P w K mg base:=by
 refine yM D NS (λhr=>(xC (xT (xw uJ hr (xn (xu wg (xu yP (xP K 0) (xP K 1)) (xu yP (xP K 1) (xP K 0))) (xu yP (xP K 0) (xP K 1)))))))
  (yk (xM (xt (xr um (xr yR xO xO) (xr yR xO xO)) (xr yR xO xO)))) λts KK hl h=>?_
 obtain⟨f,g,rfl,hf,hg,k⟩:=h;exact⟨⟨hf.top.bd,hg.bot.bd⟩,⟨hg.top.bd,hf.bot.bd⟩,⟨hf.bot.bd,hg.bot.bd⟩,_,_,rfl,by have:=Pol.pp hf.pos hg.pos;lia,(hf.bot.mul hg.bot).bd,k⟩
def KE (B:yo mg bn)(D:DF K mg "_law_minus" om f fd ["_law_one", "_law_other"])(uJ:g_ P w K mg base) :
  i5 P w K mg base:=by
 refine yM D NR (λhr=>(xC (xT (xw uJ hr (xn (xu wj (xu yP (xP K 0) (xP K 1)) (xu yP (xP K 1) (xP K 0))) (xu yP (xP K 0) (xP K 1)))))))
  (yk (xM (xt (xr wx (xr yR xO xO) (xr yR xO xO)) (xr yR xO xO)))) λts KK hl h=>?_
 obtain⟨f,g,rfl,hf,hg,k⟩:=h;exact⟨⟨hf.top.bd,hg.bot.bd⟩,⟨hg.top.bd,hf.bot.bd⟩,⟨hf.bot.bd,hg.bot.bd⟩,_,_,rfl,by have:=Pol.pp hf.pos hg.pos;lia,(hf.bot.mul hg.bot).bd,k⟩
end
section
variable (P:Program) (w:World) {K:xo} {mg:Str->Option Value} (base:Heap) {f:Addr} {fd:FuncData}
def Km (B:yo mg bn)(D:DF K mg "_law_ahead" pW f fd ["_law_one", "_law_other"])(gc:mZ P w K mg base) :
  iP P w K mg base:=by
 refine yM D NM (λhr=>(xA (y3 (y8 (vC hr.units) (xP K 0) (xP K 1) (yt _)) (xC (xT (xw gc hr (xn (xP K 0) (xP K 1))))) y4) (xC (xT (xw gc hr (xn (xP K 0) (xP K 1)))))))
  (xE (zb (y_ (xr vD xO xO)) (yk (xM (xt xO xO))) zc) (yk (xM (xt xO xO)))) λts KK hl h=>?_
 obtain⟨p,q,rfl,hp,hq,k⟩:=h;refine⟨⟨rfl,rfl,by show min 1 1<=64;decide⟩,?_⟩;refine yr (b:=!zC (fT p.1) (fT q.1)) (λc=>?_) (λc=>?_)
 .rw[aA] at c;have c:¬p.1=q.1:=by simpa using c
  unfold kK at k;rw[xG c] at k;exact⟨p.1,q.1,rfl,hp.1.mono (by decide),hq.1.mono (by decide),k⟩
 .rw[aA] at c;have c:p.1=q.1:=by simpa using c
  unfold kK at k;rw[xD c] at k;exact⟨p.2,q.2,rfl,hp.2.mono (by decide),hq.2.mono (by decide),k⟩
def Ko (B:yo mg bn)(D:DF K mg "_law_bend" pY f fd ["_law_one", "_law_other", "_law_third"])(vg:dO P w K mg base)(gf:i5 P w K mg base) :
  iR P w K mg base:=by
 refine yM D El (λhr=>(xA (yx 3 El.nd (xw vg hr (xn (xw gf hr (xn (xP K 1) (xP K 0))) (xw gf hr (xn (xP K 2) (xP K 0)))))) (xC (xT (zZ (uH K) (xw gf hr (xn (pv 3) (xw vg hr (xn (xw gf hr (xn (xP K 1) (xP K 0))) (xw gf hr (xn (xP K 2) (xP K 0))))))) xk (λ_ _=>rfl))))))
  (xE (yL (xM (xt (xM (xt xO xO)) (xM (xt xO xO))))) (yk (vh (xM (xt xh (xM (xt (xM (xt xO xO)) (xM (xt xO xO)))))) xm))) λts KK hl h=>?_
 obtain⟨p,q,w,rfl,hp,hq,hw,k⟩:=h;have m:∀ {f g:F2},Fk 200 f->Fk 200 g->Fk 401 (fmin f g):=λh1 h2=>h1.min h2;have t:∀ {f g:F2},Fk 401 f->Fk 401 g->Fk 900 (wc f g):=λh1 h2=>(h1.tim h2).mono (by decide);have u:∀ {k:Nat} {f:F2},Fk k f->k<=900->Fk 900 f:=λh hk=>h.mono hk;exact⟨q.1,p.1,rfl,u hq.1 (by decide),u hp.1 (by decide),w.2,p.2,rfl,u hw.2 (by decide),u hp.2 (by decide),_,_,rfl,u (m hq.1 hp.1) (by decide),u (m hw.2 hp.2) (by decide),
  q.2,p.2,rfl,u hq.2 (by decide),u hp.2 (by decide),w.1,p.1,rfl,u hw.1 (by decide),u hp.1 (by decide),_,_,rfl,u (m hq.2 hp.2) (by decide),u (m hw.1 hp.1) (by decide),
  _,_,rfl,t (m hq.1 hp.1) (m hw.2 hp.2),t (m hq.2 hp.2) (m hw.1 hp.1),k⟩
def Kt (B:yo mg bn)(D:DF K mg "_law_chain" p7 f fd ["_law_places"])(bO:iR P w K mg base) :
  iV P w K mg base:=by
 refine yM D o7 (λhr=>(xA (yx 1 o7.nd (zJ uL)) (xA (wH zX rfl (z_ K (pv 0)) (yH 2 o7.nd) (xA (sV zX (PW.pt (fQ (y8 gm (yB (wo K) rfl (B.get "len") wm (xI (pv 1))) xk (yt _)) (fS (y8 jB (xw bO hr (yz (zZ (uH K) (pv 1) (wF wM xk) (λ_ _=>rfl)) (xn (zZ (uH K) (pv 1) (wF wM xk) (λ_ _=>rfl)) (pv 2)))) xk (yt _))))) (xC (uY (MS qR PySem.F.slot_list_pop PySem.F.type_list_pop Kb (pv 1))))) (xC (uY (v9 qR jU jV kS (pv 1) (xI (pv 2))))))) (xC (xT (pv 1))))))
  (xE (qA (qy uK)) (xE (wB (we xh) xV.g (xE (sN (fJ (y_ (xr gv (yY wR (xF gk)) xm)) (y_ (xr jC (xM (yO (CL (wy xm)) (xt (CL (wy xm)) xh))) xm))) LQ) (k7 xh))) fH)) λts KK hl h=>?_
 obtain⟨ps,rfl,hp,hl',k⟩:=h;have ba:∀ {i x},x∈zw (ps.take i)->j0 x:=λ {i x} hx=>Hc (P:=λx=>j0 x) (λq hq=>hp q (vN hq)) x hx;refine vT (all:=ps.map yi) (λi τ=>∃x2:TV,τ=[.fz (.lst (ps.map yi)),.ow ((zw (ps.take i)).reverse.map yi),x2]) ⟨.un,rfl⟩ ?_ ?_
 .rintro i x τ N hx ⟨x2,rfl⟩ hN;obtain⟨p,hpi,rfl⟩:=vz hx;have bp:=hp p (zW hpi);have cl:=nB (ps.take i);have cl:(zw (ps.take i)).length<=1000:=by rw[zQ] at cl;lia
  have fold:=Hg hpi;have bs:∀x∈zw (ps.take i),j0 x:=λx hx=>ba hx;show ja _ _ _ ([.fz (.lst (ps.map yi)),.ow ((zw (ps.take i)).reverse.map yi),.fz (yi p)]:xQ);refine yl (λτ=>τ=[.fz (.lst (ps.map yi)),.ow ((Pol.zd (zw (ps.take i)) p).reverse.map yi),.fz (yi p)]) ?_ (λN3 hN3=>?_)
  .rintro _ rfl;have pl:=pB (p:=p) (s:=zw (ps.take i));refine⟨by rw[xX,qN];exact sqz (by lia),hN _ ⟨.fz (yi p),?_⟩⟩;rw[fold,jR,zR];rfl
  generalize zw (ps.take i)=s0 at *
  refine aB (λn τ=>∃s:List Pol.R3,n=s.length/\(∀x∈s,j0 x)/\Pol.zd s p=Pol.zd s0 p/\τ=[.fz (.lst (ps.map yi)),.ow (s.reverse.map yi),.fz (yi p)]) _ ⟨s0,rfl,bs,rfl,rfl⟩ ?_;rintro n τ N4 ⟨s,rfl,hs,e,rfl⟩ hN4;have fin:s.length<=1->Pol.zd s p=s:=λh=>by
   rcases s with _|⟨a,_|⟨b,r⟩⟩
   .rfl
   .rfl
   .simp at h
  refine yr (b:=decide ((((s.reverse.map yi).length:Nat):Int)>1)) (λc=>?_) (λc=>?_)
  rotate_left
  .have c:=wQ c;rw[xX,qN] at c;rw[<-e,fin (by lia)] at hN3;exact vc (hN3 _ rfl)
  have c:=zr c;rw[xX,qN] at c;rcases s with _|⟨b,_|⟨a,s⟩⟩
  .simp at c
  .simp at c
  have at1:atT ((b::a::s).reverse.map yi) (-1)=some (yi b):=by rw[jR,zR];exact Aj _ _
  have at2:atT ((b::a::s).reverse.map yi) (-2)=some (yi a):=by rw[jR,jR,qM,zR];exact GF _ _ _
  show uT (atT ((b::a::s).reverse.map yi) (-2)) _;rw[at2];show uT (atT ((b::a::s).reverse.map yi) (-1)) _;rw[at1];have k200:∀ {x:Pol.R3},j0 x->Pk 200 (yE x):=λh=>⟨(sU h.1 h.2).1.mono (by decide),(sU h.1 h.2).2.mono (by decide)⟩
  have cr:=IA (hs a (by simp)).1 (hs b (by simp)).1 bp.1;refine⟨yE a,yE b,yE p,rfl,k200 (hs a (by simp)),k200 (hs b (by simp)),k200 bp,?_⟩;refine yr (b:=decide (rC (yE a) (yE b) (yE p)<=0)) (λd=>?_) (λd=>?_)
  .have d:=zr d;have d:=cr.mp d;refine⟨by simp,?_⟩;have el:((b::a::s).reverse.map yi).dropLast=(a::s).reverse.map yi:=by rw[jR,zR];simp
   show N4 [.fz (.lst (ps.map yi)),.ow (((b::a::s).reverse.map yi).dropLast),.fz (yi p)];rw[el];refine hN4 _ _ ?_ ⟨a::s,rfl,λx hx=>hs x (yV _ hx),?_,rfl⟩
   .simp
   .rw[<-e]
    conv=>rhs;unfold Pol.zd
    rw[xG (by lia)]
  .have d:=wQ d;have d:0<det a b p:=by have:¬det a b p<=0:=λz=>d (cr.mpr z);lia
   have:Pol.zd (b::a::s) p=b::a::s:=by unfold Pol.zd;rw[xD d]
   rw[<-e,this] at hN3;exact hN3 _ rfl
 .rintro τ ⟨x2,rfl⟩;rw[xX,ur (xY _)];exact k
def KH (B:yo mg bn)(D:DF K mg "_law_ring" tS f fd ["_law_places"])(rV:iV P w K mg base)(bM:iP P w K mg base) :
  i6 P w K mg base:=by
 refine C6 D.1 lb D.2 D.3 rfl (λ_ _ _ _ _ _ hr=>⟨_,_,(xA (yx 1 lb.nd (zJ uL)) (xA (wH zX rfl (z_ K (pv 0)) (zH (i:=2) lb.nd rfl (Or.inr rfl)) (xC (y3 (y8 (C0 hr.units) (pv 2) (pv 1) (by with_unfolding_all rfl)) (xC (uY (v9 qR PySem.F.slot_list_insert PySem.F.type_list_insert CA (pv 1) (xn (yB (wo K) rfl (B.get "len") wm (xI (vF (uF (N:=["_law_other", "_law_place"]) (xy:=[none,some 2]) (XN:=["_law_places", "_law_some_here", "_law_place"]) (xs:=xH tS) (by decide +kernel) rfl rfl) rfl (q9 rfl) (z_ K (pv 1)) (λ_ _ _ _=>(zH (i:=0) (show(["_law_other", "_law_place"]:List Str).Nodup by decide +kernel) rfl (Or.inl rfl))) (λ_ _ _ _=>(tK (wJ (xw bM hr (xn (pv 0) (pv 1)))))) (λ_ _ _ _=>(pv 0))))) (pv 2))))) y4)))
  (xA (y3 (y8 (qC K hr.units) (yB (wo K) rfl (B.get "len") wm (xI (pv 1))) xk (yt _)) (xC (xT (pv 1))) y4) (xC (xT (xu (v8 K) (k8 (gD K) (xw rV hr (xI (pv 1))) k9 (km (wF wM xk))) (k8 (gD K) (xw rV hr (xI (M0 K (pv 1) (km (wF wM xk))))) k9 (km (wF wM xk))))))))),
  (xE (qA (qy uK)) (xE (wB (we xh) xV.g (zb (y_ (xr C4 xh gk)) (CV (yY wR (xF (zF.e (uW LL xV (zM (xM (xt xh xh))) xh)))) xh) zc)) (xE (LN (i:=1) (zb (y_ (xr qE (yY wR (xF xh)) xm)) (yk xh) zc)) (yk (v5 (gj (xM (xF xh)) kY (kZ (wy xm))) (gj (xM (xF (zF.e (LH xh (wy xm))))) kY (kZ (wy xm)))))))),λts KK hl h=>?_⟩)
 obtain⟨ps,l,rfl,hm,hl',hr,k⟩:=h;have inl:∀ {i v},v∈ps.take i->v∈l:=λhv=>(hm _).mp (vN hv);have pk:∀ {v},v∈l->Pk 900 (yE v):=λ {v} hv=>⟨(sU (hr.pos v hv) (hr.sm v hv)).1.mono (by decide),(sU (hr.pos v hv) (hr.sm v hv)).2.mono (by decide)⟩
 refine yl (λτ=>τ=[.fz (.lst (ps.map yi)),.ow [],.un]) ?_ (λN hN=>hN _ rfl);rintro _ rfl;refine yl (λτ=>∃(ss:List Pol.R3) (x2:TV),ss.Pairwise Ah/\(∀v,v∈ss↔v∈l)/\ss.length<=1000/\τ=[.fz (.lst (ps.map yi)),.ow (ss.map yi),x2]) ?_ (λN hN=>?_)
 rotate_left
 .refine kA (ps.map yi) (λi τ=>∃(ss:List Pol.R3) (x2:TV),ss.Pairwise Ah/\(∀v,v∈ss↔v∈ps.take i)/\ss.length<=i/\τ=[.fz (.lst (ps.map yi)),.ow (ss.map yi),x2]) (λKK h=>h) ⟨[],.un,.nil,λv=>by simp,xY _,rfl⟩ ?_ (λτ h=>?_)
  rotate_left
  .obtain⟨ss,x2,h1,h2,h3,e⟩:=h;rw[xX] at h2 h3;rw[ur (xY _)] at h2;exact hN _ ⟨ss,x2,h1,λv=>(h2 v).trans (hm v),by lia,e⟩
  rintro i x τ N2 hx ⟨ss,x2,h1,h2,h3,rfl⟩ hN2;obtain⟨p,hp,rfl⟩:=vz hx;have hpl:=(hm p).mp (zW hp);have hi:=(zP.mp hp).1;have tk1:ps.take (i+1)=ps.take i++[p]:=by rw[jS,hp];rfl
  have sl:∀v∈ss,v∈l:=λv hv=>inl ((h2 v).mp hv);refine⟨⟨rfl,Ax ss,by show(2:Nat)<=60;decide⟩,?_⟩;refine yr (b:=!((ss.map yi).any λu=>zC u (yi p))) (λc=>?_) (λc=>?_)
  .rw[Ad hr.pos hr.prim sl hpl] at c;have c:p∉ss:=by simpa using c
   refine⟨by rw[xX];exact sqz (by lia),aW (λv=>kK (yE v) (yE p)) yi (λv hv N M h1 h0=>⟨yE v,yE p,rfl,pk (sl v hv),pk hpl,yr h1 h0⟩) ?_⟩;refine⟨u_ ss p,?_,?_,?_,?_⟩
   .rw[xX];rfl
   .rw[xX];exact Gp
   .rw[xX];exact sqz (by lia)
   .have e:(ss.map yi).take (u_ ss p)++[yi p]++(ss.map yi).drop (u_ ss p)=(ss.take (u_ ss p)++[p]++ss.drop (u_ ss p)).map yi:=by rw[zR,zR,dE,mG];rfl
    rw[e];refine hN2 _ ⟨_,_,B4 (hr.pos p hpl) h1 (λv hv=>hr.pos v (sl v hv)) (λv hv=>hr.tot (sl v hv) hpl λz=>c (by rw[<-z];exact hv)),λv=>?_,?_,rfl⟩
    .rw[J9,h2 v,tk1,xU,yS]
    .rw[za,za,zQ,uO,vm];lia
  .rw[Ad hr.pos hr.prim sl hpl] at c;have c:p∈ss:=by simpa using c
   refine hN2 _ ⟨ss,_,h1,λv=>?_,by lia,rfl⟩;rw[tk1,xU,yS,<-h2 v];exact⟨λz=>.inl z,λz=>z.elim id λe=>by rw[e];exact c⟩
 rintro _ ⟨ss,x2,h1,h2,h3,rfl⟩;have ck:∀v∈ss,j0 v:=λv hv=>⟨hr.pos v ((h2 v).mp hv),hr.sm v ((h2 v).mp hv)⟩
 refine yl (λτ=>τ=[.fz (.lst (ps.map yi)),.fz (.lst (ss.map yi)),x2]/\¬ss.length<3) ?_ (λN hN=>?_)
 rotate_left
 .refine yr (b:=decide ((((ss.map yi).length:Nat):Int)<3)) (λc=>?_) (λc=>?_)
  .have c:=zr c;rw[xX] at c;rw[<-Nw hr h1 h2 (by lia)] at k;exact k
  .have c:=wQ c;rw[xX] at c;exact hN _ ⟨rfl,by lia⟩
 rintro _ ⟨rfl,c3⟩;have rm:=Nx hr h1 h2 c3;have a1:=nB ss;have a2:=nB ss.reverse;rw[qN] at a2;refine⟨ss,rfl,ck,h3,rfl,ss.reverse,by rw[List.map_reverse],λp hp'=>ck p (List.mem_reverse.mp hp'),by rw[qN];exact h3,?_⟩;show rA (.lst (zL ((zw ss).reverse.map yi) none (some (-1)))) (.lst (zL ((zw ss.reverse).reverse.map yi) none (some (-1)))) KK;rw[nM,nM,xX,xX,qN,qN,<-dE,<-dE];refine⟨qd (by simp only[xX,zQ,qN];lia),?_⟩;rw[<-zR,rm];exact k
def Ku (B:yo mg bn)(D:DF K mg "_law_corners" tR f fd ["_law_rows"])(bX:i6 P w K mg base)(bT:iX P w K mg base)(bW:i4 P w K mg base) :
  iW P w K mg base:=by
 refine yM D ae (λhr=>(xA (yx 1 ae.nd (zJ uL)) (xA (wH zX rfl (tJ rfl (B.get "range") (xI (yB (wo K) rfl (B.get "len") wm (xI (pv 0))))) (yH 2 ae.nd) (xC (wH zX rfl (z_ K (k8 (gD K) (pv 0) (km (xu wg (pv 2) xk)) k9)) (yH 3 ae.nd) (xA (k_ (i:=4) ae.nd rfl (Or.inr rfl) (xw bT hr (xn (zZ (uH K) (pv 0) (pv 2) (λ_ _=>rfl)) (pv 3)))) (xC (y3 (PW.pt (fQ (fP (tH (pv 4))) (fS (y8 (uk hr.units) (vF (uF (N:=["_law_row", "_law_place"]) (xy:=[none,some 4]) (XN:=["_law_rows", "_law_found", "_law_k", "_law_other", "_law_place"]) (xs:=xH tR) (by decide +kernel) rfl rfl) rfl (q9 rfl) (z_ K (pv 0)) (λ_ _ _ _=>(zH (i:=0) (show(["_law_row", "_law_place"]:List Str).Nodup by decide +kernel) rfl (Or.inl rfl))) (λ_ _ _ _=>(tK (w_ (wJ (xw bW hr (xn (pv 0) (pv 1))))))) (λ_ _ _ _=>(pv 0))) (zJ uL) (yt _))))) (xC (uY (v9 qR jU jV kS (pv 1) (xI (pv 4))))) y4))))))
  (xC (xT (xw bX hr (xI (pv 1))))))))
  (xE (qA (qy uK)) (xE (wB (tj (xF (yY wR (xF xh)))) xV.g (wB (we (gj xh (kZ (xr um xh xm)) kY)) xV.g (xE (yL (xM (xt (vh xh xh) xh))) (zb (fJ (zM (r_ xh)) (y_ (xr os_eq (zF.e (uW (we xh).c xV (w6 (zM (xM (xt xh xh)))) xh)) (uV (b:=true) uK)))) (k7 xh) zc)))) (yk (xM (xF gk))))) λts KK hl h=>?_
 obtain⟨xf,rfl,hr,k⟩:=h;have ring:=hr.ring;have rl:=hr.len;have r3:∀r∈xf,yW 10 r:=λr hm=>rE (hr.fine.fr r hm);have cl:(uv xf).length<=900:=ring.len
 let W:Nat->Nat->List Pol.R3->Prop:=λi j ps=>(∀v∈ps,v∈uv xf)/\ps.length<=i*8+j/\∀v∈uv xf,∀a b s t,a<b->xf[a]?=some s->xf[b]?=some t->Pol.val s v=0->Pol.val t v=0->Pol.turn s t≠0->(a<i\/a=i/\b<i+1+j)->v∈ps
 refine⟨⟨by rw[xX];lia,by rw[xX];lia⟩,?_⟩;rw[xX,gL];refine vT (λi τ=>∃(ps:List Pol.R3) (x2 x3 x4:TV),τ=[.fz (.tup (xf.map xi)),.ow (ps.map yi),x2,x3,x4]/\W i 0 ps) ⟨[],_,_,_,rfl,by simp,by simp,?_⟩ ?_ ?_
 .intro v hv a b s t hab ha hb e1 e2 hn hc;lia
 .rintro i x τ N hx ⟨ps,x2,x3,x4,rfl,hW⟩ hN;have hi:i<xf.length:=by have:=(zP.mp hx).1;rw[jH] at this;exact this
  rw[pP hi] at hx;cases hx;have es:xf[i]?=some xf[i]:=ze hi;generalize egen:xf[i]=s at es;have hs:=zW es;show kJ _ _ _ (zL (xf.map xi) (some ((0:Int)+i+1)) none) _;rw[show(0:Int)+(i:Int)+1=((i+1:Nat):Int) by lia,nN,<-mG];refine vT (λj τ=>∃(ps:List Pol.R3) (x3 x4:TV),τ=[.fz (.tup (xf.map xi)),.ow (ps.map yi),.fz (.int ((0:Int)+i)),x3,x4]/\W i j ps) ⟨ps,_,_,rfl,hW⟩ ?_ ?_
  .rintro j y τ N2 hy ⟨ps,x3,x4,rfl,hW⟩ hN2;obtain⟨t,ht,rfl⟩:=vz hy;rw[List.getElem?_drop] at ht;have htm:=zW ht;have hj:=(zP.mp ht).1;have at0:atT (xf.map xi) ((0:Int)+i)=some (xi s):=by rw[show(0:Int)+(i:Int)=((i:Nat):Int) by lia,ff,uN,es];rfl
   show uT (atT (xf.map xi) ((0:Int)+i)) _;rw[at0];have step:∀qs:List Pol.R3,(∀v∈qs,v∈uv xf)->(∀v∈ps,v∈qs)->qs.length<=ps.length+1->(∀v∈uv xf,Pol.val s v=0->Pol.val t v=0->Pol.turn s t≠0->v∈qs)->W i (j+1) qs:=λqs h1 h2 h3 h4=>by
    refine⟨h1,by have:=hW.2.1;lia,λv hv a b s' t' hab ha hb e1 e2 hn hc=>?_⟩;by_cases q:a=i/\b=i+1+j
    .obtain⟨rfl,rfl⟩:=q;rw[es] at ha;rw[ht] at hb;cases ha;cases hb;exact h4 v hv e1 e2 hn
    .exact h2 v (hW.2.2 v hv a b s' t' hab ha hb e1 e2 hn (by lia))
   refine⟨s,t,rfl,(r3 s hs).mono (by decide),(r3 t htm).mono (by decide),?_⟩;by_cases hn:Pol.turn s t=0
   .rw[AQ hn];exact hN2 _ ⟨ps,_,_,rfl,step ps hW.1 (λv h=>h) (by lia) (λv hv e1 e2 h=>absurd hn h)⟩
   .rw[AR hn];obtain⟨cz,c1,c2⟩:=fh hn;have cb:yW 21 (zj s t):=by
     have S:=r3 s hs;have T:=r3 t htm;have m:∀ {x y z w:Int},Bk 10 x->Bk 10 y->Bk 10 z->Bk 10 w->Bk 21 (x*y-z*w):=λh1 h2 h3 h4=>(h1.mul h2).sub (h3.mul h4);unfold zj Pol.turn;split
     .exact⟨⟨(m S.2 T.1.2 S.1.2 T.2).neg,(m S.1.1 T.2 S.2 T.1.1).neg⟩,(m S.1.1 T.1.2 S.1.2 T.1.1).neg⟩
     .exact⟨⟨m S.2 T.1.2 S.1.2 T.2,m S.1.1 T.2 S.2 T.1.1⟩,m S.1.1 T.1.2 S.1.2 T.1.1⟩
    have pk:=sU cz cb;refine⟨by rw[xX];exact sqz (by lia),aW (f:=xi) (λr=>!kL r (yE (zj s t))) xi (λr hm N M h1 h0=>?_) ?_⟩
    .refine⟨r,yE (zj s t),rfl,(r3 r hm).mono (by decide),pk.1.mono (by decide),pk.2.mono (by decide),?_⟩;exact yr (b:=!kL r (yE (zj s t))) h1 h0
    .dsimp only[rj,fj];refine Ir (aZ xi pA _) ?_;rw[List.isEmpty_map,filter_empty];have ek:(xf.all λr=>!!kL r (yE (zj s t)))=true↔∀r∈xf,Pol.val r (zj s t)<=0:=by
      rw[jN];refine⟨λh r hm=>?_,λh r hm=>?_⟩
      .have:=h r hm;rw[Bool.not_not,BF r cz] at this;exact zr this
      .rw[Bool.not_not,BF r cz];exact wO (h r hm)
     refine yr (b:=xf.all λr=>!!kL r (yE (zj s t))) (λc=>?_) (λc=>?_)
     .have c:=ek.mp c;obtain⟨v,hv,e⟩:=hr.crossing hs htm hn c;refine⟨by rw[xX];exact sqz (by have:=hW.2.1;lia),?_⟩;have e2:ps.map yi++[yi (zj s t)]=(ps++[v]).map yi:=by rw[e,zR];rfl
      show N2 _;rw[e2];refine hN2 _ ⟨ps++[v],_,_,rfl,step _ ?_ (λw hw=>yF _ hw) (by simp) (λw hw e1 e2 _=>?_)⟩
      .intro w hw;rcases xU.mp hw with q|q
       .exact hW.1 w q
       .rw[yS.mp q];exact hv
      .have e3:=(hr.tightPt hw hn e1 e2).1;have:w=v:=by have p1:=hr.corner hw;have p2:=hr.corner hv;refine E_ p1.1.1 p2.1.1 p1.1.2.1 p2.1.2.1 ?_;have e4:yi w=yi v:=e3.symm.trans e;exact MN e4
       rw[this];simp
     .exact hN2 _ ⟨ps,_,_,rfl,step ps hW.1 (λv h=>h) (by lia) (λv hv e1 e2 _=>by have:=ek.mpr (hr.tightPt hv hn e1 e2).2;rw[c] at this;cases this)⟩
  .rintro τ ⟨ps,x3,x4,rfl,hW⟩;refine hN _ ⟨ps,_,_,_,rfl,hW.1,?_,λv hv a b s' t' hab ha hb e1 e2 hn hc=>?_⟩
   .have:=hW.2.1;rw[xX,uO] at this;lia
   .refine hW.2.2 v hv a b s' t' hab ha hb e1 e2 hn ?_;have:=(zP.mp hb).1;rw[xX,uO];lia
 .rintro τ ⟨ps,x2,x3,x4,rfl,hW⟩;rw[jH] at hW;refine⟨ps,uv xf,rfl,λv=>⟨hW.1 v,λhv=>?_⟩,by have:=hW.2.1;lia,ring,k⟩;obtain⟨⟨_,_,hc⟩,_⟩:=hr.corner hv;obtain⟨s,hs,t,ht,e1,e2,hn⟩:=hc.two;obtain⟨a,ha,ea⟩:=jP.mp hs;obtain⟨b,hb,eb⟩:=jP.mp ht;have ha':xf[a]?=some s:=by rw[ze ha,ea]
  have hb':xf[b]?=some t:=by rw[ze hb,eb]
  rcases Nat.lt_trichotomy a b with q|q|q
  .exact hW.2.2 v hv a b s t q ha' hb' e1 e2 hn (.inl ha)
  .subst q;rw[ha'] at hb';cases hb';unfold Pol.turn at hn;grind
  .exact hW.2.2 v hv b a t s q hb' ha' e2 e1 (λz=>hn (by unfold Pol.turn at *;grind)) (.inl hb)
def KQ (B:yo mg bn)(D:DF K mg "_law_value" oy f fd ["_law_row", "_law_place"])(fE:m5 P w K mg base)(vg:dO P w K mg base) :
  eg P w K mg base:=by
 refine yM D NV (λhr=>(xC (xT (xw fE hr (xn (xw vg hr (xn (yD (xn (xP K 0) xk)) (xP K 1))) (xw vg hr (xn (yD (xn (xP K 0) xk)) (xP K 1))))))))
  (yk (xM (xt (xM (xt (yC (b:=true) (xt xO xm)) xO)) (xM (xt (yC (b:=true) (xt xO xm)) xO))))) λts KK hl h=>?_
 obtain⟨r,p,rfl,hr,hx,hy,k⟩:=h;have o9:∀ {n:Int},Bk 200 n->Fk 900 (n,1):=λh=>⟨h.mono (by decide),by show Bk 900 1;unfold Bk;decide,by show(0:Int)<1;decide⟩
 have t9:∀ {n:Int} {f:F2},Bk 200 n->Fk 600 f->Fk 900 (wc (n,1) f):=λ {n f} h h'=>by unfold wc;exact h8 (by have:=h'.pos;show 1*f.2≠0;lia) ((h.mul h'.top).mono (by decide)) (by show Bk 900 (1*f.2);rw[Int.one_mul];exact h'.bot.mono (by decide))
 rw[<-IM hx.pos hy.pos] at k;exact⟨(r.1,1),p.1,rfl,o9 hr.1.1,hx.mono (by decide),(r.2.1,1),p.2,rfl,o9 hr.1.2,hy.mono (by decide),_,_,rfl,t9 hr.1.1 hx,t9 hr.1.2 hy,k⟩
def KA (B:yo mg bn)(D:DF K mg "_law_keeps" oh f fd ["_law_row", "_law_place"])(gc:mZ P w K mg base)(b7:eg P w K mg base) :
  i4 P w K mg base:=by
 refine yM D NP (λhr=>(xC (xT (c_ (xw gc hr (xn (yD (xn (xP K 0) xk)) (xw b7 hr (xn (pv 0) (pv 1)))))))))
  (yk (cT (xM (xt (yC (b:=true) (xt xO xm)) (xM (xt xh xh)))))) λts KK hl h=>?_
 obtain⟨r,p,rfl,hr,hx,hy,k⟩:=h;refine⟨r,p,rfl,hr.mono (by decide),hx.mono (by decide),hy.mono (by decide),(r.2.2,1),vt r p,rfl,⟨hr.2.mono (by decide),by show Bk 1000 1;unfold Bk;decide,by show(0:Int)<1;decide⟩,?_,?_⟩
 .exact IK (c:=r.2.2) hr.1.1 hr.1.2 (show Pk 200 p from⟨hx,hy⟩) (by decide)
 rw[<-IC] at k;exact k
def Kv (B:yo mg bn)(D:DF K mg "_law_cross" p8 f fd ["_law_one", "_law_other"])(uJ:g_ P w K mg base) :
  iX P w K mg base:=by
 refine yM D o8 (λhr=>(xA (yx 2 o8.nd (xu wj (xu yP (xP K 0) (xP K 1)) (xu yP (xP K 0) (xP K 1)))) (xA (y3 (y8 (uk hr.units) (pv 2) xk (yt _)) (xC (xT sS)) y4) (xA (yx 3 o8.nd (xw uJ hr (xn (xu wj (xu yP (xP K 0) (xP K 1)) (xu yP (xP K 0) (xP K 1))) (pv 2)))) (xC (xT (yD (xn (pv 3) (xw uJ hr (xn (xu wj (xu yP (xP K 0) (xP K 1)) (xu yP (xP K 0) (xP K 1))) (pv 2)))))))))))
  (xE (yL (xr wx (xr yR xO xO) (xr yR xO xO))) (xE (zb (y_ (xr os_eq xh xm)) (yk (jA (t:=Tr.non))) zc) (xE (yL (xM (xt (xr wx (xr yR xO xO) (xr yR xO xO)) xh))) (yk (yC (b:=true) (xt xh (xM (xt (xr wx (xr yR xO xO) (xr yR xO xO)) xh)))))))) λts KK hl h=>?_
 obtain⟨s,t,rfl,hs,ht,k⟩:=h;refine⟨⟨hs.1.1.bd,ht.1.2.bd⟩,⟨hs.1.2.bd,ht.1.1.bd⟩,?_⟩;refine yr (b:=decide (Pol.turn s t=0)) (λc=>?_) (λc=>?_)
 .rw[AQ (zr c)] at k;exact k
 .have c:=wQ c;have bt:Bd (Pol.turn s t):=((hs.1.1.mul ht.1.2).sub (hs.1.2.mul ht.1.1)).bd;rw[AR c,Ho c] at k;exact⟨⟨hs.2.bd,ht.1.2.bd⟩,⟨hs.1.2.bd,ht.2.bd⟩,_,_,rfl,c,bt,⟨hs.1.1.bd,ht.2.bd⟩,⟨hs.2.bd,ht.1.1.bd⟩,_,_,rfl,c,bt,k⟩
end
section
variable (P:Program) (w:World) {K:xo} {mg:Str->Option Value} (base:Heap) {f:Addr} {fd:FuncData}
def Kr (B:yo mg bn)(D:DF K mg "_law_box" p5 f fd ["_law_state_here"])(yZ:fb P w K mg base) :
  iT P w K mg base:=by
 refine fL D.1 jb D.2 D.3 rfl (λ_ _ _ _ _ _ hr=>⟨_,_,(xA (yx 1 jb.nd (zJ uL)) (xA (wH zX rfl (z_ K (zJ (yz (yD (xn xk xk)) (yz (yD (xn (wF wM xk) xk)) (xn (yD (xn xk xk)) (yD (xn xk (wF wM xk)))))))) (wG K (n:=2) rfl (yw (yH 2 jb.nd) (yw (yH 3 jb.nd) zV))) (xA (yx 4 jb.nd (xu wg xk (xw yZ hr (xn (pv 0) xk)))) (xC (uY (v9 qR jU jV kS (pv 1) (xI (yD (yz (xu yP (pv 2) (pv 4)) (xn (xu yP (pv 3) (pv 4)) (xw yZ hr (xn (pv 0) (xu wg (xu yP xk (pv 4)) xk)))))))))))) (xA (wH zX rfl (tJ rfl (B.get "range") (xI (xw yZ hr (xn (pv 0) xk)))) (yH 5 jb.nd) (xA (ko (i:=2) (j:=3) rfl jb.nd rfl rfl (by decide) rfl rfl (xn (xu wj (xw yZ hr (xn (pv 0) xk)) xk) (xu wj (xw yZ hr (xn (pv 0) xk)) xk)) (by rfl))
  (xA (y3 (PW.pt (fQ (y8 (uk hr.units) (pv 2) xk (yt _)) (fS (y8 (uk hr.units) (pv 3) xk (yt _))))) (xC (yx 2 jb.nd xk)) y4) (xA (ko (i:=6) (j:=7) rfl jb.nd rfl rfl (by decide) rfl rfl (xn (xu wj (xw yZ hr (xn (pv 0) xk)) xk) (xu wj (xw yZ hr (xn (pv 0) xk)) xk)) (by rfl))
  (xC (uY (v9 qR PySem.F.slot_list_insert PySem.F.type_list_insert CA (pv 1) (xn (xw yZ hr (xn (pv 0) (xu wg (yB (wo K) rfl (B.get "len") wm (xI (pv 1))) xk))) (yD (yz (pv 2) (xn (pv 3) (xu wj (xu wg (xu wg (xu yP (pv 2) (pv 6)) (xu yP (pv 3) (pv 7))) (xw yZ hr (xn (pv 0) xk))) xk))))))))))))
  (xC (xT (pv 1)))))),
  (xE (qA (qy uK)) (xE (wB (we (uV (b:=true) (yO (yC (b:=true) (xt xm xm)) (yO (yC (b:=true) (xt (wy xm) xm)) (xt (yC (b:=true) (xt xm xm)) (yC (b:=true) (xt xm (wy xm)))))))) (wA (yu xV (yu xV zU))).g (xE (yL (xr um xm (zg (xF xm)))) (k7 (yC (b:=true) (yO (xr yR xh xh) (xt (xr yR xh xh) (zg (xF (xr um (xr yR xm xh) xm))))))))) (xE (wB (tj (xF (zg (xF xm)))) xV.g (xE (kb (xt (xr wx (zg (xF xm)) xm) (xr wx (zg (xF xm)) xm))) (xE (zb (fJ (y_ (xr os_eq xh xm)) (y_ (xr os_eq xh xm))) (yL xm) zc) (xE (kb (xt (xr wx (zg (xF xm)) xm) (xr wx (zg (xF xm)) xm))) (CV (zg (xF (xr um (yY wR (xF gk)) xm))) (yC (b:=true) (yO xh (xt xh (xr wx (xr um (xr um (xr yR xh xh) (xr yR xh xh)) (zg (xF xm))) xm))))))))) fH))),λts KK hl h=>?_⟩)
 obtain⟨rfl,k⟩:=h;refine yl (λτ=>τ=[.st,.ow [],.un,.un,.un,.un,.un,.un]) ?_ (λN hN=>hN _ rfl);rintro _ rfl;refine yl (λτ=>∃(xf:List Pol.R3) (x2 x3 x4:TV),τ=[.st,.ow (xf.map xi),x2,x3,x4,.un,.un,.un]/\jZ 4 xf) ?_ (λN hN=>?_)
 rotate_left
 .refine kA (sk.map dT) (λi τ=>∃(xf:List Pol.R3) (x2 x3 x4:TV),τ=[.st,.ow (xf.map xi),x2,x3,x4,.un,.un,.un]/\jZ i xf) (λKK h=>h) ⟨[],_,_,_,rfl,rfl,λj r d h=>by simp at h⟩ ?_ (λτ ⟨xf,x2,x3,x4,e,h⟩=>hN _ ⟨xf,x2,x3,x4,e,h⟩);rintro i it τ N2 hx ⟨xf,x2,x3,x4,rfl,hu⟩ hN2;obtain⟨d,hd,rfl⟩:=vz hx;have ds:=HU hd;have hi:i<4:=(zP.mp hd).1;refine⟨rfl,tk (by decide),λr a1 a2=>⟨uf (by lia) (by lia),uf (by lia) (by lia),uf (by lia) (by lia),tk (by lia),λq a5 a6=>⟨by rw[xX,hu.1];exact sqz (by lia),?_⟩⟩⟩;have st:=hu.step hd (b:=1+r) (c:=q) (by lia);have e:xf.map xi++[Tr.tup [.int (d.1*(1+r)),.int (d.2*(1+r)),.int q]]=(xf++[(d.1*(1+r),d.2*(1+r),q)]).map xi:=by rw[zR];rfl
  show N2 [.st,.ow (xf.map xi++[Tr.tup [.int (d.1*(1+r)),.int (d.2*(1+r)),.int q]]),_,_,_,_,_,_];rw[e];exact hN2 _ ⟨_,_,_,_,rfl,st⟩
 rintro _ ⟨four,x2,x3,x4,rfl,hB⟩;have L0:=hB.lf;have fl:=hB.1;refine yl (λτ=>∃(xf:List Pol.R3) (x2 x3 x4 x5 x6 x7:TV),τ=[.st,.ow (xf.map xi),x2,x3,x4,x5,x6,x7]/\LF0 xf/\xf.length<=7) ?_ (λN hN=>?_)
 .rintro _ ⟨xf,x2,x3,x4,x5,x6,x7,rfl,h,h7⟩;exact k xf h h7
 refine⟨tk (by decide),λn n0 n4=>⟨⟨by lia,by lia⟩,?_⟩⟩;refine vT (λi τ=>∃(xf:List Pol.R3) (x2 x3 x4 x5 x6 x7:TV),τ=[.st,.ow (xf.map xi),x2,x3,x4,x5,x6,x7]/\LF0 xf/\xf.length=4+i) ⟨four,_,_,_,_,_,_,rfl,L0,fl⟩ ?_ (λτ ⟨xf,x2,x3,x4,x5,x6,x7,e,h,h4⟩=>hN _ ⟨xf,x2,x3,x4,x5,x6,x7,e,h,by rw[jH] at h4;lia⟩);rintro i it τ N2 hx ⟨xf,x2,x3,x4,x5,x6,x7,rfl,h0,hl⟩ hN2;have hi:i<n.toNat:=by have:=(zP.mp hx).1;rw[jH] at this;exact this
 show ja _ _ _ ([.st,.ow (xf.map xi),x2,x3,x4,.fz it,x6,x7]:xQ);refine yl (λτ=>∃a b:Int,τ=[.st,.ow (xf.map xi),.fz (.int a),.fz (.int b),x4,.fz it,x6,x7]/\((-4<=a/\a<=4)/\(-4<=b/\b<=4))) ?_ (λN3 hN3=>⟨tk (by decide),λa a0 a1=>⟨tk (by decide),λb b0 b1=>hN3 _ ⟨a-4,b-4,rfl,by lia⟩⟩⟩);rintro _ ⟨a,b,rfl,hab⟩;refine yl (λτ=>∃a b:Int,τ=[.st,.ow (xf.map xi),.fz (.int a),.fz (.int b),x4,.fz it,x6,x7]/\((-4<=a/\a<=4)/\(-4<=b/\b<=4))/\(a≠0\/b≠0)) ?_ (λN3 hN3=>?_)
 rotate_left
 .refine yr (b:=decide (a=0)) (λc=>?_) (λc=>?_)
  .refine yr (b:=decide (b=0)) (λd=>?_) (λd=>?_)
   .exact hN3 _ ⟨3,b,rfl,by lia,.inl (by decide)⟩
   .exact hN3 _ ⟨a,b,rfl,by lia,.inr (wQ d)⟩
  .exact vc (hN3 _ ⟨a,b,rfl,by lia,.inl (wQ c)⟩)
 rintro _ ⟨a,b,rfl,hab,hne⟩;refine yl (λτ=>∃x y:Int,τ=[.st,.ow (xf.map xi),.fz (.int a),.fz (.int b),x4,.fz it,.fz (.int x),.fz (.int y)]/\((-2<=x/\x<=2)/\(-2<=y/\y<=2))) ?_ (λN3 hN3=>⟨tk (by decide),λa a0 a1=>⟨tk (by decide),λb b0 b1=>hN3 _ ⟨a-2,b-2,rfl,by lia⟩⟩⟩);rintro _ ⟨x,y,rfl,hxy⟩;have ml:(xf.map xi).length=xf.length:=xX _;refine⟨tk (by rw[ml];lia),λkk k0 k1=>⟨uf (by lia) (by lia),uf (by lia) (by lia),tk (by decide),λt t0 t4=>?_⟩⟩;rw[ml] at k1;have m1:=jy hab.1.1 hab.1.2 hxy.1.1 hxy.1.2 (by decide) (by decide);have m2:=jy hab.2.1 hab.2.2 hxy.2.1 hxy.2.2 (by decide) (by decide);refine⟨kk.toNat,by rw[lZ k0],by rw[ml];lia,by rw[ml];exact sqz (by lia),?_⟩;have e:(xf.map xi).take kk.toNat++[Tr.tup [.int a,.int b,.int (a*x+b*y+t-1)]]++(xf.map xi).drop kk.toNat=(xf.take kk.toNat++[(a,b,a*x+b*y+t-1)]++xf.drop kk.toNat).map xi:=by rw[zR,zR,dE,mG];rfl
 show N2 [.st,.ow ((xf.map xi).take kk.toNat++[Tr.tup [.int a,.int b,.int (a*x+b*y+t-1)]]++(xf.map xi).drop kk.toNat),_,_,_,_,_,_];rw[e];refine hN2 _ ⟨_,_,_,_,_,_,_,rfl,h0.ins ?_ (by lia) _,?_⟩
 .unfold Extra;simp only;lia
 .simp only[za,zQ,uO,vm];lia
def KJ (B:yo mg bn)(D:DF K mg "_law_spike" oq f fd ["_law_state_here"])(yZ:fb P w K mg base) :
  i8 P w K mg base:=by
 refine fL D.1 lh D.2 D.3 rfl (λ_ _ _ _ _ _ hr=>⟨_,_,(xA (yx 1 lh.nd (xu wg xk (xw yZ hr (xn (pv 0) xk)))) (xA (yx 2 lh.nd (zJ (yz (yD (yz (wF wM xk) (xn xk xk))) (xn (yD (yz xk (xn (xu yP (wF wM xk) (pv 1)) xk))) (yD (yz xk (xn (xu yP xk (pv 1)) (xu yP xk (pv 1))))))))) (xA (y3 (y8 (uk hr.units) (xw yZ hr (xn (pv 0) xk)) xk (yt _)) (xC (uY (v9 qR jU jV kS (pv 2) (xI (yD (yz (xw yZ hr (xn (pv 0) xk)) (xn (xu wg xk (xw yZ hr (xn (pv 0) xk))) (xu wg xk (xw yZ hr (xn (pv 0) xk)))))))))) y4) (xC (xT (pv 2)))))),(xE (yL (xr um xm (zg (xF xm)))) (xE (qA (qy (yO (yC (b:=true) (yO (wy xm) (xt xm xm))) (xt (yC (b:=true) (yO xm (xt (xr yR (wy xm) xh) xm))) (yC (b:=true) (yO xm (xt (xr yR xm xh) (xr yR xm xh)))))))) (xE (zb (y_ (xr os_eq (zg (xF xm)) xm)) (k7 (yC (b:=true) (yO (zg (xF xm)) (xt (xr um xm (zg (xF xm))) (xr um xm (zg (xF xm))))))) zc) fH))),λts KK hl h=>?_⟩)
 obtain⟨rfl,k⟩:=h;refine yl (λτ=>∃l:Int,(1<=l/\l<=4)/\τ=[.st,.fz (.int l),.un]) ?_ (λN hN=>⟨tk (by decide),λr r0 r1=>hN _ ⟨1+r,by lia,rfl⟩⟩);rintro _ ⟨l,hl2,rfl⟩;refine yl (λτ=>τ=[.st,.fz (.int l),.ow ([(-1,0,0),(1,-2*l,0),(1,2*l,2*l)].map xi)]) ?_ (λN hN=>⟨uf (by lia) (by lia),uf (by lia) (by lia),uf (by lia) (by lia),hN _ rfl⟩);rintro _ rfl;have L0:=Ou (k:=l) hl2.1 (by lia);refine yl (λτ=>∃xf,(LF0 xf/\xf.length<=7)/\τ=[.st,.fz (.int l),.ow (xf.map xi)]) ?_ (λN hN=>?_)
 .rintro _ ⟨xf,h,rfl⟩;exact k xf h.1 h.2
 refine⟨tk (by decide),λr r0 r2=>?_⟩;refine yr (b:=decide (r=1)) (λ_=>?_) (λ_=>hN _ ⟨_,⟨L0,by simp⟩,rfl⟩);refine⟨tk (by decide),λa a0 a3=>⟨tk (by decide),λb b0 b2=>⟨tk (by decide),λc c0 c4=>⟨sqz (by show(3:Nat)<=1000000;decide),hN _ ⟨[(-1,0,0),(1,-2*l,0),(1,2*l,2*l)]++[(a,1+b,1+c)],⟨L0.grow (by simp) (by simp) (λr hr=>yF _ hr) (λr hr=>(xU.mp hr).imp id λz=>?_),by simp⟩,rfl⟩⟩⟩⟩⟩;rw[yS.mp z];unfold Extra;simp only;lia
def Kx (B:yo mg bn)(D:DF K mg "_law_field" p_ f fd ["_law_state_here"])(bQ:iT P w K mg base)(yZ:fb P w K mg base)(bZ:i8 P w K mg base) :
  iY P w K mg base:=by
 refine fL D.1 qI D.2 D.3 rfl (λ_ _ _ _ _ _ hr=>⟨_,_,(xA (yx 1 qI.nd (xw bQ hr (xI (pv 0)))) (xA (y3 (y8 (uk hr.units) (xw yZ hr (xn (pv 0) xk)) xk (yt _)) (xC (yx 1 qI.nd (xw bZ hr (xI (pv 0))))) y4) (xA (yx 2 qI.nd (xw yZ hr (xn (pv 0) xk))) (xA (ko (i:=3) (j:=4) rfl qI.nd rfl rfl (by decide) rfl rfl (xn (xu wj (xw yZ hr (xn (pv 0) xk)) xk) (xu wj (xw yZ hr (xn (pv 0) xk)) xk)) (by rfl))
  (xA (yx 5 qI.nd (zJ uL)) (xA (wH zX rfl (z_ K (pv 1)) (wG K (n:=3) rfl (yw (yH 6 qI.nd) (yw (yH 7 qI.nd) (yw (yH 8 qI.nd) zV)))) (xA (y3 (y8 (uk hr.units) (xu tD (pv 2) xk) xk (yt _)) (xC (ko (i:=6) (j:=7) rfl qI.nd rfl rfl (by decide) rfl rfl (xn (pv 7) (pv 6)) (by rfl))) y4)
  (xA (ko (i:=6) (j:=7) rfl qI.nd rfl rfl (by decide) rfl rfl (xn (xu yP (pv 6) (zZ (uH K) (zJ (xn xk (wF wM xk))) (xu tD (xu qB (pv 2) xk) xk) (λ_ _=>rfl))) (xu yP (pv 7) (zZ (uH K) (zJ (xn xk (wF wM xk))) (xu qB (pv 2) xk) (λ_ _=>rfl)))) (by rfl))
  (xC (uY (v9 qR jU jV kS (pv 5) (xI (yD (yz (pv 6) (xn (pv 7) (xu wg (xu wg (pv 8) (xu yP (pv 6) (pv 3))) (xu yP (pv 7) (pv 4)))))))))))))
  (xC (xT (fM (aY K) rfl (B.get "tuple") qW (xI (pv 5))))))))))),
  (xE (yL (zg (b:=true) uK)) (xE (zb (y_ (xr os_eq (zg (xF xm)) xm)) (yL (zg (b:=true) uK)) zc) (xE (yL (zg (xF xm))) (xE (kb (xt (xr wx (zg (xF xm)) xm) (xr wx (zg (xF xm)) xm))) (xE (qA (qy uK)) (xE (wB (we xh) (wA (yu xV (yu xV (yu xV zU)))).g (xE (zb (y_ (xr os_eq (xr tE xh xm) xm)) (kb (xt xh xh)) zc) (xE (kb (xt (xr yR xh (vh (uV (b:=true) (xt xm (wy xm))) (xr tE (xr qD xh xm) xm))) (xr yR xh (vh (uV (b:=true) (xt xm (wy xm))) (xr qD xh xm))))) (k7 (yC (b:=true) (yO xh (xt xh (xr um (xr um xh (xr yR xh xh)) (xr yR xh xh))))))))) (yk CP))))))),λts KK hl h=>?_⟩)
 obtain⟨rfl,k⟩:=h;refine yl (λτ=>∃xf,(LF0 xf/\xf.length<=7)/\τ=[.st,.fz (.lst (xf.map xi)),.un,.un,.un,.un,.un,.un,.un]) ?_ (λN hN=>⟨rfl,λxf h h7=>hN _ ⟨xf,⟨h,h7⟩,rfl⟩⟩);rintro _ ⟨xf,h0,rfl⟩;refine yl (λτ=>∃xf,(LF0 xf/\xf.length<=7)/\τ=[.st,.fz (.lst (xf.map xi)),.un,.un,.un,.un,.un,.un,.un]) ?_ (λN hN=>⟨tk (by decide),λr r0 r1=>yr (b:=decide (r=0)) (λ_=>⟨rfl,λxf h h7=>hN _ ⟨xf,⟨h,h7⟩,rfl⟩⟩) (λ_=>hN _ ⟨xf,h0,rfl⟩)⟩);clear h0;rintro _ ⟨xf,⟨h0,h7⟩,rfl⟩;refine yl (λτ=>∃w:Int,(0<=w/\w<8)/\τ=[.st,.fz (.lst (xf.map xi)),.fz (.int w),.un,.un,.un,.un,.un,.un]) ?_ (λN hN=>⟨tk (by decide),λw w0 w8=>hN _ ⟨w,⟨w0,w8⟩,rfl⟩⟩);rintro _ ⟨w,hw,rfl⟩;refine yl (λτ=>∃u v:Int,((-2<=u/\u<=2)/\(-2<=v/\v<=2))/\τ=[.st,.fz (.lst (xf.map xi)),.fz (.int w),.fz (.int u),.fz (.int v),.un,.un,.un,.un]) ?_ (λN hN=>⟨tk (by decide),λa a0 a1=>⟨tk (by decide),λb b0 b1=>hN _ ⟨a-2,b-2,by lia,rfl⟩⟩⟩);rintro _ ⟨u,v,huv,rfl⟩;refine yl (λτ=>τ=[.st,.fz (.lst (xf.map xi)),.fz (.int w),.fz (.int u),.fz (.int v),.ow [],.un,.un,.un]) ?_ (λN hN=>hN _ rfl);rintro _ rfl;have w8:w=0\/w=1\/w=2\/w=3\/w=4\/w=5\/w=6\/w=7:=by lia
 obtain⟨s,hs,es⟩:∃s:Int,(s=1\/s = -1)/\atT [Tr.int 1,Tr.int (-1)] ((w.fdiv 2).fmod 2)=some (.int s):=by rcases w8 with rfl|rfl|rfl|rfl|rfl|rfl|rfl|rfl<;>first|exact⟨1,.inl rfl,rfl⟩|exact⟨-1,.inr rfl,rfl⟩
 obtain⟨t,ht,et⟩:∃s:Int,(s=1\/s = -1)/\atT [Tr.int 1,Tr.int (-1)] (w.fdiv 4)=some (.int s):=by rcases w8 with rfl|rfl|rfl|rfl|rfl|rfl|rfl|rfl<;>first|exact⟨1,.inl rfl,rfl⟩|exact⟨-1,.inr rfl,rfl⟩
 have LFx:=(h0.turned (decide (w.fmod 2=1)) hs ht).moved (u:=u) (v:=v) (by lia) (by lia);rw[uP] at LFx;refine yl (λτ=>∃x6 x7 x8:TV,τ=[.st,.fz (.lst (xf.map xi)),.fz (.int w),.fz (.int u),.fz (.int v),.ow ((xf.map (vY u v ∘ qf (decide (w.fmod 2=1)) s t)).map xi),x6,x7,x8]) ?_ (λN hN=>?_)
 .rintro _ ⟨x6,x7,x8,rfl⟩;exact k _ LFx (by rw[xX];exact h7)
 refine kA (xf.map xi) (λi τ=>∃x6 x7 x8:TV,τ=[.st,.fz (.lst (xf.map xi)),.fz (.int w),.fz (.int u),.fz (.int v),.ow (((xf.take i).map (vY u v ∘ qf (decide (w.fmod 2=1)) s t)).map xi),x6,x7,x8]) (λKK h=>h) ⟨_,_,_,rfl⟩ ?_ (λτ ⟨x6,x7,x8,e⟩=>hN _ ⟨x6,x7,x8,by rw[e,xX,ur (xY _)]⟩);rintro i it τ N2 hx ⟨x6,x7,x8,rfl⟩ hN2;obtain⟨r,hr,rfl⟩:=vz hx;have sm:=h0.sm r (zW hr);have l8:=h0.l8;refine⟨rfl,?_⟩;dsimp only[jI,jt,eName,ju];show ja _ _ _ ([.st,.fz (.lst (xf.map xi)),.fz (.int w),.fz (.int u),.fz (.int v),.ow (((xf.take i).map (vY u v ∘ qf (decide (w.fmod 2=1)) s t)).map xi),.fz (.int r.1),.fz (.int r.2.1),.fz (.int r.2.2)]:xQ);refine yl (λτ=>∃a b:Int,(a=(if decide (w.fmod 2=1)=true then r.2.1 else r.1)/\b=(if decide (w.fmod 2=1)=true then r.1 else r.2.1))/\τ=[.st,.fz (.lst (xf.map xi)),.fz (.int w),.fz (.int u),.fz (.int v),.ow (((xf.take i).map (vY u v ∘ qf (decide (w.fmod 2=1)) s t)).map xi),.fz (.int a),.fz (.int b),.fz (.int r.2.2)]) ?_ (λN3 hN3=>⟨(show(2:Int)≠0 by decide),yr (b:=decide (w.fmod 2=1)) (λc=>hN3 _ ⟨r.2.1,r.1,by rw[c];exact⟨rfl,rfl⟩,rfl⟩) (λc=>hN3 _ ⟨r.1,r.2.1,by rw[c];exact⟨rfl,rfl⟩,rfl⟩)⟩);rintro _ ⟨a,b',⟨ea,eb⟩,rfl⟩;have ab:(-14<=a/\a<=14)/\(-14<=b'/\b'<=14):=by rw[ea,eb];split<;>lia
 have s1:-1<=s/\s<=1:=by lia
 have t1:-1<=t/\t<=1:=by lia
 have as:=jy ab.1.1 ab.1.2 s1.1 s1.2 (by decide) (by decide);have bt:=jy ab.2.1 ab.2.2 t1.1 t1.2 (by decide) (by decide);have tr:vY u v (qf (decide (w.fmod 2=1)) s t r)=(a*s,b'*t,r.2.2+a*s*u+b'*t*v):=by unfold vY qf;rw[ea,eb];split<;>rfl
 refine yl (λτ=>τ=[.st,.fz (.lst (xf.map xi)),.fz (.int w),.fz (.int u),.fz (.int v),.ow (((xf.take i).map (vY u v ∘ qf (decide (w.fmod 2=1)) s t)).map xi),.fz (.int (a*s)),.fz (.int (b'*t)),.fz (.int r.2.2)]) ?_ (λN3 hN3=>?_)
 rotate_left
 .refine⟨⟨(show(2:Int)≠0 by decide),fg (by decide)⟩,(show(2:Int)≠0 by decide),?_⟩;show uT (atT [Tr.int 1,Tr.int (-1)] ((w.fdiv 2).fmod 2)) _;rw[es];refine⟨uf (by lia) (by lia),⟨(show(4:Int)≠0 by decide),fg (by decide)⟩,?_⟩;show uT (atT [Tr.int 1,Tr.int (-1)] (w.fdiv 4)) _;rw[et];exact⟨uf (by lia) (by lia),hN3 _ rfl⟩
 rintro _ rfl;refine⟨uf (by lia) (by lia),uf (by lia) (by lia),by simp only[xX,zQ];exact sqz (by lia),hN2 _ ⟨.fz (.int (a*s)),.fz (.int (b'*t)),.fz (.int r.2.2),?_⟩⟩;rw[jS,hr];simp only[zR,Option.toList,uc,gN,Function.comp,tr];rfl
def Kn (B:yo mg bn)(D:DF K mg "_law_bare" pX f fd ["_law_state_here"])(bU:iY P w K mg base)(yZ:fb P w K mg base) :
  iQ P w K mg base:=by
 refine fL D.1 jJ D.2 D.3 rfl (λ_ _ _ _ _ _ hr=>⟨_,_,(xA (yx 1 jJ.nd (xw bU hr (xI (pv 0)))) (xA (yx 2 jJ.nd (xw yZ hr (xn (pv 0) xk))) (xA (y3 (PW.pt (fQ (y8 (qC K hr.units) (pv 2) xk (yt _)) (fS (y8 (qC K hr.units) (yB (wo K) rfl (B.get "len") wm (xI (pv 1))) xk (yt _))))) (xA (ko (i:=3) (j:=4) rfl jJ.nd rfl rfl (by decide) rfl rfl (xn (xu (v8 K) xk (xw yZ hr (xn (pv 0) xk))) (xu wj (xw yZ hr (xn (pv 0) xk)) xk)) (by rfl))
  (xA (yx 5 jJ.nd (xu wj (xw yZ hr (xn (pv 0) xk)) xk)) (xC (yx 1 jJ.nd (xu (v8 K) (pv 1) (yD (xn (yD (yz (xu (gu K) xk (pv 3)) (xn (xu (gu K) xk (pv 4)) (xu (v8 K) (xu (gu K) xk (pv 5)) xk)))) (yD (yz (xu (gu K) (wF wM xk) (pv 3)) (xn (xu (gu K) (wF wM xk) (pv 4)) (xu wj (wF wM xk) (xu (gu K) xk (pv 5))))))))))))) y4)
  (xA (y3 (y8 (uk hr.units) (pv 2) xk (yt _)) (xA (ko (i:=3) (j:=4) rfl jJ.nd rfl rfl (by decide) rfl rfl (xn (xu wj (xw yZ hr (xn (pv 0) xk)) xk) (xu (v8 K) xk (xw yZ hr (xn (pv 0) xk)))) (by rfl))
  (xC (yx 1 jJ.nd (xu (v8 K) (pv 1) (yD (xI (yD (yz (pv 3) (xn (pv 4) (xu wj (xu wj xk xk) (xw yZ hr (xn (pv 0) xk)))))))))))) y4)
  (xC (xT (pv 1))))))),
  (xE (yL (zg (b:=true) uK)) (xE (yL (zg (xF xm))) (xE (zb (fJ (y_ (xr qE xh xm)) (y_ (xr qE (yY wR (xF xh)) xm))) (xE (kb (xt (v5 xm (zg (xF xm))) (xr wx (zg (xF xm)) xm))) (xE (yL (xr wx (zg (xF xm)) xm)) (yL (v5 xh (yC (b:=true) (xt (yC (b:=true) (yO (fG xm xh) (xt (fG xm xh) (v5 (fG xm xh) xm)))) (yC (b:=true) (yO (fG (wy xm) xh) (xt (fG (wy xm) xh) (xr wx (wy xm) (fG xm xh))))))))))) zc) (xE (zb (y_ (xr os_eq xh xm)) (xE (kb (xt (xr wx (zg (xF xm)) xm) (v5 xm (zg (xF xm))))) (yL (v5 xh (yC (b:=true) (xF (yC (b:=true) (yO xh (xt xh (xr wx (xr wx xm xm) (zg (xF xm))))))))))) zc) (yk xh))))),λts KK hl h=>?_⟩)
 obtain⟨rfl,k⟩:=h;refine yl (λτ=>∃xf,(LF xf/\xf.length<=7)/\τ=[.st,.fz (.tup (xf.map xi)),.un,.un,.un,.un]) ?_ (λN hN=>⟨rfl,λxf h h7=>hN _ ⟨xf,⟨h,h7⟩,rfl⟩⟩);rintro _ ⟨xf,⟨hL,h7⟩,rfl⟩;have ml:∀l:List Pol.R3,(l.map xi).length=l.length:=λl=>xX _;refine yl (λτ=>∃way:Int,τ=[.st,.fz (.tup (xf.map xi)),.fz (.int way),.un,.un,.un]) ?_ (λN hN=>⟨tk (by decide),λw _ _=>hN _ ⟨w,rfl⟩⟩);rintro _ ⟨way,rfl⟩;refine yl (λτ=>∃(rows':List Pol.R3) (x3 x4 x5:TV),(LF rows'/\(way=2->rows'.length<=7))/\τ=[.st,.fz (.tup (rows'.map xi)),.fz (.int way),x3,x4,x5]) ?_ (λN hN=>?_)
 rotate_left
 .refine yr (b:=decide (way<2)) (λc=>?_) (λc=>vc (hN _ ⟨xf,_,_,_,⟨hL,λ_=>h7⟩,rfl⟩));have c:=zr c;refine yr (b:=decide ((((xf.map xi).length:Nat):Int)<7)) (λd=>?_) (λd=>hN _ ⟨xf,_,_,_,⟨hL,λ_=>h7⟩,rfl⟩);have d:=zr d;rw[ml] at d;refine yl (λτ=>∃a b:Int,((1<=a/\a<=3)/\(-2<=b/\b<=2))/\τ=[.st,.fz (.tup (xf.map xi)),.fz (.int way),.fz (.int a),.fz (.int b),.un]) ?_ (λN hN=>⟨tk (by decide),λa a0 a1=>⟨tk (by decide),λb b0 b1=>hN _ ⟨1+a,b-2,by lia,rfl⟩⟩⟩);rintro _ ⟨a,b',hab,rfl⟩;refine yl (λτ=>∃c:Int,(-4<=c/\c<=4)/\τ=[.st,.fz (.tup (xf.map xi)),.fz (.int way),.fz (.int a),.fz (.int b'),.fz (.int c)]) ?_ (λN hN=>⟨tk (by decide),λc c0 c1=>hN _ ⟨c-4,by lia,rfl⟩⟩);rintro _ ⟨c',hc,rfl⟩;refine⟨uf (by decide) (by lia),uf (by decide) (by lia),uf (by decide) (by lia),uf (by decide) (by lia),uf (by decide) (by lia),uf (by decide) (by lia),qd (by show(xf.map xi).length+2<=_;rw[ml];lia),hN _ ⟨xf++[(3*a,3*b',3*c'+2),(-3*a,-3*b',-1-3*c')],_,_,_,⟨?_,λz=>by lia⟩,by rw[zR];rfl⟩⟩;refine hL.grow (by simp;lia) (by have:=hL.l3;simp;lia) (λr hr=>yF _ hr) λr hr=>?_;rcases xU.mp hr with z|z
  .exact hL.smr z
  .simp only[xR,yI,yJ] at z;rcases z with rfl|rfl<;>unfold SmR<;>simp only<;>lia
 rintro _ ⟨rows',x3,x4,x5,⟨hL',h7'⟩,rfl⟩;refine yl (λτ=>∃(xf:List Pol.R3) (x3 x4 x5:TV),LF xf/\τ=[.st,.fz (.tup (xf.map xi)),.fz (.int way),x3,x4,x5]) ?_ (λN hN=>?_)
 .rintro _ ⟨r,_,_,_,h,rfl⟩;exact k r h
 refine yr (b:=decide (way=2)) (λc=>?_) (λc=>hN _ ⟨rows',_,_,_,hL',rfl⟩);have h7':=h7' (zr c);refine yl (λτ=>∃a b:Int,((-2<=a/\a<=2)/\(1<=b/\b<=3))/\τ=[.st,.fz (.tup (rows'.map xi)),.fz (.int way),.fz (.int a),.fz (.int b),x5]) ?_ (λN hN=>⟨tk (by decide),λa a0 a1=>⟨tk (by decide),λb b0 b1=>hN _ ⟨a-2,1+b,by lia,rfl⟩⟩⟩);rintro _ ⟨a,b',hab,rfl⟩;refine⟨tk (by decide),λt t0 t1=>⟨qd (by show(rows'.map xi).length+1<=_;rw[ml];lia),hN _ ⟨rows'++[(a,b',0-7-t)],_,_,_,hL'.snoc h7' (by unfold SmR;simp only;lia),by rw[zR];rfl⟩⟩⟩
end
section
variable (P:Program) (w:World) {K:xo} {mg:Str->Option Value} (base:Heap) {f:Addr} {fd:FuncData}
def KR (B:yo mg bn)(D:DF K mg "_law_whole" oz f fd ["_law_thing"])  :
  er P w K mg base:=by
 refine yM D NW (λhr=>(xC (xT (vE (yB qr rfl (B.get "isinstance") qq (xn (pv 0) (qF (v:=V.ty "int") rfl (B.get "int") Ar rfl))) (kl (c_ (yB qr rfl (B.get "isinstance") qq (xn (pv 0) (qF (v:=V.ty "bool") rfl (B.get "bool") nA rfl)))))))))
  (yk (vB (qx xh) (cT (qx xh)))) λts KK hl h=>?_
 obtain⟨t,rfl,k⟩:=h;cases t<;>exact k
theorem Ky (B:yo mg bn)(D:DF K mg "_law_is_fraction" oa f fd ["_law_thing"])(rX:er P w K mg base)(fD:mY P w K mg base) :
  iZ P w K mg base:=by
 refine yM D NO (λhr=>(xA (y3 (PW.pt (uZ (w_ (wJ (yB qr rfl (B.get "isinstance") qq (xn (pv 0) (qF (v:=V.ty "tuple") rfl (B.get "tuple") qW rfl))))) (uZ (y8 (vC hr.units) (yB (wo K) rfl (B.get "len") wm (xI (pv 0))) xk (yt _)) (uZ (w_ (wJ (xw rX hr (xI (xP K 0))))) (qa (w_ (wJ (xw rX hr (xI (xP K 0)))))))))) (xC (xT wC)) y4) (xC (xT (vE (wD gm (xP K 0) xk (yt _)) (kl (wD (uk hr.units) (xw fD hr (xn (xP K 0) (xP K 0))) xk (yt _))))))))
  (xE (zb (uX (w6 (zM (qx xh))) (uX (y_ (xr vD (yY wR (xF xh)) xm)) (uX (w6 (zM (xM (xF xO)))) (w6 (zM (xM (xF xO))))))) (yk w5) zc) (yk (vB (xr gv xO xm) (xr os_eq (xM (xt xO xO)) xm)))) λts KK hl h=>?_
 obtain⟨t,rfl,k⟩:=h;cases t with
 |tup us=>
  refine yr (b:=!decide ((us.length:Int)=2)) (λc=>?_) (λc=>?_)
  .have c:¬(us.length:Int)=2:=by simpa using c
   have e:uh (.tup us)=false:=by
    unfold uh;split
    .rename_i z;injection z with z;rw[z] at c;exact absurd rfl c
    .rfl
   rw[e] at k;exact k
  .have c:us.length=2:=by simp at c;lia
   obtain⟨x,y,rfl⟩:∃x y,us=[x,y]:=by
    match us,c with
    |[x,y],_=>exact⟨x,y,rfl⟩
   refine⟨x,rfl,?_⟩;cases x with
   |int a=>
    refine⟨y,rfl,?_⟩;cases y with
    |int b=>
     have e:uh (.tup [.int a,.int b])=(decide (1<=b)&&decide (Int.gcd a b=1)):=rfl;rw[e] at k;refine yr (b:=decide (0<b)) (λc1=>?_) (λc1=>?_)
     .have c1:=zr c1;rw[wO (show 1<=b by lia),qK] at k;refine⟨a,b,rfl,?_⟩;have e2:decide (((Int.gcd a b:Nat):Int)=1)=decide (Int.gcd a b=1):=by rw[jk];lia
      show KK (.bl (decide (((Int.gcd a b:Nat):Int)=1)));rw[e2];exact k
     .have c1:=wQ c1;rw[wX (show ¬1<=b by lia),qg] at k;exact k
    |_=>exact k
   |_=>exact k
 |_=>exact k
def KN (B:yo mg bn)(D:DF K mg "_law_sums" tT f fd ["_law_rows", "_law_weights"])(fE:m5 P w K mg base)(vg:dO P w K mg base) :
  i_ P w K mg base:=by
 refine yM D ah (λhr=>(xA (k_ (i:=2) ah.nd rfl (Or.inr rfl) (zJ (yz (yD (xn xk xk)) (xn (yD (xn xk xk)) (yD (xn xk xk)))))) (xA (wH zX rfl (sT K rfl (B.get "zip") (xn (pv 0) (pv 1))) (wG K (n:=2) rfl (yw (zH (i:=3) ah.nd rfl (Or.inr rfl)) (yw (zH (i:=4) ah.nd rfl (Or.inr rfl)) zV))) (xC (k_ (i:=2) ah.nd rfl (Or.inr rfl) (vF (uF (N:=["_law_k", "_law_found", "_law_weight", "_law_row"]) (xy:=[none,some 2,some 4,some 3]) (XN:=["_law_rows", "_law_weights", "_law_found", "_law_row", "_law_weight"]) (xs:=xH tT) (by decide +kernel) rfl rfl) rfl (q9 rfl) (tJ rfl (B.get "range") (xI xk)) (λ_ _ _ _=>(zH (i:=0) (show(["_law_k", "_law_found", "_law_weight", "_law_row"]:List Str).Nodup by decide +kernel) rfl (Or.inl rfl))) (λ_ _ _ _=>v_) (λ_ _ _ _=>(xw fE hr (xn (zZ (uH K) (pv 1) (pv 0) (λ_ _=>rfl)) (xw vg hr (xn (pv 2) (yD (xn (zZ (uH K) (pv 3) (pv 0) (λ_ _=>rfl)) xk)))))))))))
  (xC (xT (pv 2))))))
  (xE (yL (uV (b:=true) (yO (yC (b:=true) (xt xm xm)) (xt (yC (b:=true) (xt xm xm)) (yC (b:=true) (xt xm xm)))))) (xE (wB (sL (xt xh xh)) (wA (yu xV (yu xV zU))).g (yL (zF.e (uW (tj (xF xm)).c xV v7 (xM (xt (vh xh xh) (xM (xt xh (yC (b:=true) (xt (vh xh xh) xm)))))))))) (yk xh))) λts KK hl h=>?_
 obtain⟨xf,ws,rfl,H0,k⟩:=h;have hl8:=H0.l100;have hlen:=H0.len;have hz:=λx hx=>H0.zip (x:=x) hx;refine yl (λτ=>τ=[.fz (.tup (xf.map xi)),.fz (.tup (ws.map fT)),.fz (.lst [fT (0,1),fT (0,1),fT (0,1)]),.un,.un]) ?_ (λN hN=>hN _ rfl);rintro _ rfl;refine yl (λτ=>∃x3 x4:TV,τ=[.fz (.tup (xf.map xi)),.fz (.tup (ws.map fT)),.fz (.lst [fT (wsum k0 (xf.zip ws)),fT (wsum k1 (xf.zip ws)),fT (wsum k2 (xf.zip ws))]),x3,x4]) ?_ (λN hN=>?_)
 .rintro _ ⟨x3,x4,rfl⟩;exact k
 show pR _ _ _ _ _;have zt:vj (xf.map xi) (ws.map fT)=(xf.zip ws).map rwT:=my xi fT xf ws;refine kA ((xf.zip ws).map rwT) (λi τ=>∃x3 x4:TV,τ=[.fz (.tup (xf.map xi)),.fz (.tup (ws.map fT)),.fz (.lst [fT (wsum k0 ((xf.zip ws).take i)),fT (wsum k1 ((xf.zip ws).take i)),fT (wsum k2 ((xf.zip ws).take i))]),x3,x4]) (λKK h=>by rw[<-zt] at h;exact h) ⟨_,_,rfl⟩ ?_ (λτ ⟨x3,x4,e⟩=>hN _ ⟨x3,x4,by rw[e,xX,gQ]⟩);rintro i x τ N2 hx ⟨x3,x4,rfl⟩ hN2;obtain⟨y,hy,rfl⟩:=vz hx;obtain⟨hr,hw⟩:=hz y (zW hy);have fk:∀(k:Pol.R3->Int),(∀r,yW 10 r->Bk 10 (k r))->Fk 900 (wsum k ((xf.zip ws).take i)):=λk hk=>(OY k _ λx hx=>⟨(hz x (vN hx)).2.sm,hk _ (hz x (vN hx)).1⟩).mono (by rw[zQ,ij];lia)
 have f0:=fk k0 λr h=>h.1.1;have f1:=fk k1 λr h=>h.1.2;have f2:=fk k2 λr h=>h.2;rw[take_snoc hy,wsum_snoc,wsum_snoc,wsum_snoc] at hN2;generalize wsum k0 ((xf.zip ws).take i)=A0 at f0 hN2;generalize wsum k1 ((xf.zip ws).take i)=A1 at f1 hN2;generalize wsum k2 ((xf.zip ws).take i)=A2 at f2 hN2;refine⟨rfl,?_⟩;have one9:∀ {n:Int},Bk 10 n->Fk 900 (n,1):=λh=>⟨h.mono (by decide),by show Bk 900 1;unfold Bk;decide,by show(0:Int)<1;decide⟩
 have w9:Fk 900 y.2:=hw.sm.mono (by decide);have t9:∀ {n:Int},Bk 10 n->Fk 900 (wc y.2 (n,1)):=λh=>(hw.sm.timI h).mono (by decide);refine⟨⟨by decide,by decide⟩,sqz (show(3:Nat)<=1000000 by decide),?_⟩;refine⟨y.2,(y.1.1,1),rfl,w9,one9 hr.1.1,A0,_,rfl,f0,t9 hr.1.1,?_⟩;refine⟨y.2,(y.1.2.1,1),rfl,w9,one9 hr.1.2,A1,_,rfl,f1,t9 hr.1.2,?_⟩;refine⟨y.2,(y.1.2.2,1),rfl,w9,one9 hr.2,A2,_,rfl,f2,t9 hr.2,?_⟩;exact hN2 _ ⟨_,_,rfl⟩
theorem Kz (B:yo mg bn)(D:DF K mg "_law_is_void" og f fd ["_law_field_here", "_law_thing"])(b6:i_ P w K mg base)(bV:iZ P w K mg base) :
  i0 P w K mg base:=by
 refine yM D af (λhr=>(xA (y3 (PW.pt (uZ (w_ (wJ (yB qr rfl (B.get "isinstance") qq (xn (pv 1) (qF (v:=V.ty "tuple") rfl (B.get "tuple") qW rfl))))) (qa (y8 (vC hr.units) (yB (wo K) rfl (B.get "len") wm (xI (pv 1))) (yB (wo K) rfl (B.get "len") wm (xI (pv 0))) (yt _))))) (xC (xT wC)) y4) (xA (wH zX rfl (z_ K (pv 1)) (yH 2 af.nd) (xC (y3 (PW.pt (uZ (w_ (wJ (xw bV hr (xI (pv 2))))) (qa (y8 (qC K hr.units) (xP K 2) xk (yt _))))) (xC (xT wC)) y4))) (xA (vG (xw b6 hr (xn (pv 0) (pv 1))) (tI K (n:=3) rfl (yw (yH 3 af.nd) (yw (yH 4 af.nd) (yw (yH 5 af.nd) zV))))) (xC (xT (vE (wD (uk hr.units) (xP K 3) xk (yt _)) (vE (wD (uk hr.units) (xP K 4) xk (yt _)) (kl (wD (qC K hr.units) (xP K 5) xk (yt _)))))))))))
  (xE (zb (uX (w6 (zM (qx xh))) (y_ (xr vD (yY wR (xF xh)) (yY wR (xF xh))))) (yk w5) zc) (xE (wB (we xh) xV.g (zb (uX (w6 (zM (xM (xF xh)))) (y_ (xr qE xO xm))) (yk w5) zc)) (xE (qz (xM (xt xh xh)) (tu (yu xV (yu xV (yu xV zU)))).g) (yk (vB (xr os_eq xO xm) (vB (xr os_eq xO xm) (xr qE xO xm))))))) λts KK hl h=>?_
 obtain⟨xf,t,rfl,hf,hS,k⟩:=h;have l8:=(hZ hf).1.2;have ml:(xf.map xi).length=xf.length:=xX _;have no:va xf.length t=false->KK (.bl false):=λz=>by unfold vi at k;rw[z,qg] at k;exact k
 cases t with
 |tup us=>
  refine yr (b:=!decide ((us.length:Int)=((xf.map xi).length:Int))) (λc=>?_) (λc=>?_)
  .have c:¬(us.length:Int)=((xf.map xi).length:Int):=by simpa using c
   rw[ml] at c;exact no (aV (by lia))
  .have c:(us.length:Int)=((xf.map xi).length:Int):=by simpa using c
   rw[ml] at c;dsimp only[jI,jt,eName,ju];show ja _ _ _ ([.fz (.tup (xf.map xi)),.fz (.tup us),.un,.un,.un,.un]:xQ);refine yl (λτ=>∃x2:TV,us.all wtT=true/\τ=[.fz (.tup (xf.map xi)),.fz (.tup us),x2,.un,.un,.un]) ?_ (λN hN=>?_)
   rotate_left
   .refine kA us (λi τ=>∃x2:TV,(us.take i).all wtT=true/\τ=[.fz (.tup (xf.map xi)),.fz (.tup us),x2,.un,.un,.un]) (λKK h=>h) ⟨_,rfl,rfl⟩ ?_ (λτ ⟨x2,h,e⟩=>hN _ ⟨x2,by rw[gQ] at h;exact h,e⟩);rintro i u τ N2 hu ⟨x2,ha,rfl⟩ hN2;have hm:=zW hu;have bad:wtT u=false->KK (.bl false):=λz=>no (Af hm z);refine⟨u,rfl,?_⟩;refine yr (b:=!uh u) (λc1=>?_) (λc1=>?_)
    .have c1:uh u=false:=by simpa using c1
     refine vW (bad ?_);rw[lM,c1,qg]
    .have c1:uh u=true:=by simpa using c1
     obtain⟨a,b',rfl⟩:=Jr c1;refine yr (b:=decide (a<0)) (λc2=>?_) (λc2=>?_)
     .have c2:=zr c2;refine bad ?_;rw[lM];show(_&&decide (0<=a))=false;rw[wX (by lia),Bool.and_false]
     .have c2:=wQ c2;refine hN2 _ ⟨_,?_,rfl⟩;rw[take_snoc hu,List.all_append,ha];show(true&&(wtT _&&true))=true;rw[lM,c1];show(true&&((true&&decide (0<=a))&&true))=true;rw[wO (by lia)];rfl
   rintro _ ⟨x2,ha,rfl⟩;have hA:va xf.length (.tup us)=true:=by show(decide (us.length=xf.length)&&us.all wtT)=true;rw[wO (by lia),ha];rfl
   obtain⟨ws,e,hG⟩:=hS hA;rw[e] at k ⊢;rw[e] at hA;unfold vi mx at k;rw[hA,qK,lJ] at k;refine yl (λτ=>τ=[.fz (.tup (xf.map xi)),.fz (wsT ws),x2,.fz (fT (wsum k0 (xf.zip ws))),.fz (fT (wsum k1 (xf.zip ws))),.fz (fT (wsum k2 (xf.zip ws)))]) ?_ (λN hN=>⟨xf,ws,rfl,hZ.ws hf hG,⟨rfl,hN _ rfl⟩⟩);rintro _ rfl;refine yr (b:=decide ((wsum k0 (xf.zip ws)).1=0)) (λc1=>?_) (λc1=>?_)
   .rw[c1,qK] at k;refine yr (b:=decide ((wsum k1 (xf.zip ws)).1=0)) (λc2=>?_) (λc2=>?_)
    .rw[c2,qK] at k;exact k
    .rw[c2,qg] at k;exact k
   .rw[c1,qg] at k;exact k
 |_=>exact no rfl
def Kq (B:yo mg bn)(D:DF K mg "_law_bent" pZ f fd ["_law_state_here", "_law_weights"])(yZ:fb P w K mg base) :
  iS P w K mg base:=by
 refine fL D.1 aa D.2 D.3 rfl (λ_ _ _ _ _ _ hr=>⟨_,_,(xA (yx 2 aa.nd (xw yZ hr (xn (pv 0) (yB (wo K) rfl (B.get "len") wm (xI (pv 1)))))) (xA (yx 3 aa.nd (zZ (uH K) (zJ (yz (yD (xn xk xk)) (yz (yD (xn (wF wM xk) xk)) (yz (yD (xn xk xk)) (yz (yD (xn xk xk)) (yz xk (yz sS (xn (yD (xn wC xk)) (yD (xn xk xk)))))))))) (xw yZ hr (xn (pv 0) xk)) (λ_ _=>rfl))) (xA (yx 4 aa.nd (zJ (yz (xu (v8 K) (xu (v8 K) (k8 (gD K) (pv 1) k9 (km (pv 2))) (yD (xI (pv 3)))) (k8 (gD K) (pv 1) (km (xu (v8 K) (pv 2) xk)) k9)) (xn (k8 (gD K) (pv 1) k9 (km (wF wM xk))) (xu (v8 K) (pv 1) (yD (xI (yD (xn xk xk))))))))) (xA (yx 4 aa.nd (xu tz (pv 4) (zJ (yz (fM (Aw K) rfl (B.get "list") As (xI (pv 1))) (yz sS (xn MX (yD uL))))))) (xC (xT (zZ (uH K) (pv 4) (zZ (uH K) (zJ (yz xk (yz xk (yz xk (yz xk (yz xk (yz xk (yz xk (yz xk (yz xk (xn xk xk))))))))))) (xw yZ hr (xn (pv 0) xk)) (λ_ _=>rfl)) (λ_ _=>rfl)))))))),(xE (yL (zg (xF (yY wR (xF xh))))) (xE (yL (vh (uV (b:=true) (yO (yC (b:=true) (xt xm xm)) (yO (yC (b:=true) (xt (wy xm) xm)) (yO (yC (b:=true) (xt xm xm)) (yO (yC (b:=true) (xt xm xm)) (yO xm (yO (jA (t:=Tr.non)) (xt (yC (b:=true) (xt w5 xm)) (yC (b:=true) (xt xm xm)))))))))) (zg (xF xm)))) (xE (yL (uV (b:=true) (yO (v5 (v5 (gj xh kY (kZ xh)) (yC (b:=true) (xF xh))) (gj xh (kZ (v5 xh xm)) kY)) (xt (gj xh kY (kZ (wy xm))) (v5 xh (yC (b:=true) (xF (yC (b:=true) (xt xm xm))))))))) (xE (yL (zF.e (CS xh (uV (b:=true) (yO (zF.e (CT (xF xh))) (yO (jA (t:=Tr.non)) (xt K7 (yC (b:=true) uK)))))))) (yk (vh xh (vh (uV (b:=true) (yO xm (yO xm (yO xm (yO xm (yO xm (yO xm (yO xm (yO xm (yO xm (xt xm xm))))))))))) (zg (xF xm))))))))),λts KK hl h=>?_⟩)
 obtain⟨ws,rfl,⟨l3,l8⟩,hg,k⟩:=h;have wl:(ws.map fT).length=ws.length:=xX _;refine yl (λτ=>∃n:Nat,n<ws.length/\τ=[.st,.fz (wsT ws),.fz (.int n),.un,.un]) ?_ (λN hN=>⟨tk (by rw[wl];lia),λq q0 q1=>hN _ ⟨q.toNat,by rw[wl] at q1;lia,by rw[show((q.toNat:Nat):Int)=q by lia];rfl⟩⟩);rintro _ ⟨n,hn,rfl⟩;refine yl (λτ=>∃o:Tr,(wtT o=true->∃w,o=fT w/\Wt w)/\τ=[.st,.fz (wsT ws),.fz (.int n),.fz o,.un]) ?_ (λN hN=>⟨tk (by decide),λq q0 q1=>n8 q0 q1 λt ht=>hN _ ⟨t,?_,rfl⟩⟩)
 rotate_left
 .simp only[xR,yI,yJ] at ht;rcases ht with rfl|rfl|rfl|rfl|rfl|rfl|rfl|rfl
  .exact λ_=>⟨(1,2),rfl,⟨by decide,by decide,by decide,⟨by unfold Bk;decide,by unfold Bk;decide,by decide⟩⟩⟩
  .exact λz=>absurd z (by decide)
  .exact λz=>absurd z (by decide)
  .exact λ_=>⟨(0,1),rfl,du (by decide)⟩
  .exact λz=>absurd z (by decide)
  .exact λz=>absurd z (by decide)
  .exact λz=>absurd z (by decide)
  .exact λ_=>⟨(5,1),rfl,du (by decide)⟩
 rintro _ ⟨o,ho,rfl⟩;refine yl (λτ=>∃us:List Tr,us.length=3/\(∀u∈us,ThS ws.length u)/\τ=[.st,.fz (wsT ws),.fz (.int n),.fz o,.fz (.lst us)]) ?_ (λN hN=>?_)
 rotate_left
 .have c1:=Cp (ws.map fT) none (some (n:Int));have c2:=Cp (ws.map fT) (some ((n:Int)+1)) none;rw[wl] at c1 c2;refine⟨qd (by show _+1<=1000000;lia),qd (by rw[za];show _+1+_<=1000000;lia),qd (by show(ws.map fT).length+1<=1000000;rw[wl];lia),hN _ ⟨_,rfl,λu hu=>?_,rfl⟩⟩;simp only[xR,yI,yJ] at hu;rcases hu with rfl|rfl|rfl
  .intro z;have zo:wtT o=true:=by
    cases q:wtT o with
    |true=>rfl
    |false=>rw[Af (yF _ (zf _ (yS.mpr rfl))) q] at z;cases z
   obtain⟨w,rfl,hw⟩:=ho zo;have e1:zL (ws.map fT) none (some (n:Int))=(ws.take n).map fT:=by rw[nO,dE]
   have e2:zL (ws.map fT) (some ((n:Int)+1)) none=(ws.drop (n+1)).map fT:=by rw[show(n:Int)+1=((n+1:Nat):Int) by lia,nN,mG]
   rw[e1,e2];refine⟨ws.take n++[w]++ws.drop (n+1),by unfold wsT;rw[zR,zR];rfl,?_,λv hv=>?_⟩
   .simp only[za,zQ,uO,vm];lia
   .rcases xU.mp hv with hv|hv
    .rcases xU.mp hv with hv|hv
     .exact hg v (vN hv)
     .rw[yS.mp hv];exact hw
    .exact hg v (FL hv)
  .intro z;rw[aV (by rw[Ht,wl];lia)] at z;cases z
  .intro z;rw[aV (by rw[za,wl];simp)] at z;cases z
 rintro _ ⟨us,ul,hu,rfl⟩;refine yl (λτ=>∃us:List Tr,us.length=7/\(∀u∈us,ThS ws.length u)/\τ=[.st,.fz (wsT ws),.fz (.int n),.fz o,.fz (.lst us)]) ?_ (λN hN=>⟨qd (by rw[ul];show 3+4<=1000000;decide),hN _ ⟨_,by rw[za,ul];rfl,λu hm=>?_,rfl⟩⟩)
 rotate_left
 .rcases xU.mp hm with z|z
  .exact hu u z
  .simp only[xR,yI,yJ] at z;rcases z with rfl|rfl|rfl|rfl
   .exact λz=>nomatch z
   .exact λz=>nomatch z
   .exact λz=>nomatch z
   .intro z;rw[aV (by simp;lia)] at z;cases z
 rintro _ ⟨us,ul,hu,rfl⟩;refine⟨tk (by decide),λq q0 q1=>n8 q0 q1 λt ht=>?_⟩;obtain⟨j,j7,rfl⟩:∃j:Nat,j<7/\t=.int j:=by
  simp only[xR,yI,yJ] at ht;rcases ht with rfl|rfl|rfl|rfl|rfl|rfl|rfl|rfl|rfl|rfl|rfl
  .exact⟨0,by decide,rfl⟩
  .exact⟨0,by decide,rfl⟩
  .exact⟨0,by decide,rfl⟩
  .exact⟨0,by decide,rfl⟩
  .exact⟨0,by decide,rfl⟩
  .exact⟨1,by decide,rfl⟩
  .exact⟨2,by decide,rfl⟩
  .exact⟨3,by decide,rfl⟩
  .exact⟨4,by decide,rfl⟩
  .exact⟨5,by decide,rfl⟩
  .exact⟨6,by decide,rfl⟩
 exact n8 (by lia) (by lia) λt ht=>k t (hu t ht)
def KI (B:yo mg bn)(D:DF K mg "_law_some" sY f fd ["_law_state_here", "_law_field_here", "_law_told"])(uJ:g_ P w K mg base)(yZ:fb P w K mg base)(vg:dO P w K mg base) :
  i7 P w K mg base:=by
 refine fL D.1 lg D.2 D.3 rfl (λ_ _ _ _ _ _ hr=>⟨_,_,(xA (yx 3 lg.nd (zJ (xI (fM (aY K) rfl (B.get "tuple") qW (xI (vF (uF (N:=["_law_row", "_law_state_here"]) (xy:=[none,some 0]) (XN:=["_law_state_here", "_law_field_here", "_law_told", "_law_found"]) (xs:=xH sY) (by decide +kernel) rfl rfl) rfl (q9 rfl) (z_ K (pv 1)) (λ_ _ _ _=>(zH (i:=0) (show(["_law_row", "_law_state_here"]:List Str).Nodup by decide +kernel) rfl (Or.inl rfl))) (λ_ _ _ _=>v_) (λ_ _ _ _=>(xw uJ hr (xn (xw yZ hr (xn (pv 1) xk)) (xu (v8 K) xk (xw yZ hr (xn (pv 1) xk))))))))))))
  (xA (uY (v9 qR jU jV kS (pv 3) (xI (xu (v8 K) (xu (LY K) (yD (xI (yD (xn xk xk)))) (xu wj (yB (wo K) rfl (B.get "len") wm (xI (pv 1))) xk)) (yD (xn (yD (xn xk xk)) (yD (xn xk xk)))))))) (xA (y3 (fP (tH (pv 2))) (xC (yx 3 lg.nd (xu tz (pv 3) (zJ (xn (pv 2) (fM (aY K) rfl (B.get "tuple") qW (xI (vF (uF (N:=["_law_weight"]) (xy:=[none]) (XN:=["_law_state_here", "_law_field_here", "_law_told", "_law_found"]) (xs:=xH sY) (by decide +kernel) rfl rfl) rfl (q9 rfl) (z_ K (pv 2)) (λ_ _ _ _=>(zH (i:=0) (show(["_law_weight"]:List Str).Nodup by decide +kernel) rfl (Or.inl rfl))) (λ_ _ _ _=>v_) (λ_ _ _ _=>(xw vg hr (xn (pv 0) (yD (xn xk xk))))))))))))) y4)
  (xC (xT (pv 3)))))),
  (xE (qA (qy (xF (CQ (xF (zF.e (uW (we xh).c xV v7 (xM (xt (zg (xF xm)) (v5 xm (zg (xF xm)))))))))))) (xE (k7 (v5 (Ln (yC (b:=true) (xF (yC (b:=true) (xt xm xm)))) (xr wx (yY wR (xF xh)) xm)) (yC (b:=true) (xt (yC (b:=true) (xt xm xm)) (yC (b:=true) (xt xm xm)))))) (xE (zb (zM (r_ xh)) (qA (LC (uV (b:=true) (xt xh (CQ (xF (zF.e (uW (we xh).c xV v7 (xM (xt xh (yC (b:=true) (xt xm xm)))))))))))) zc) fH))),λts KK hl h=>?_⟩)
 obtain⟨xf,told,rfl,hL,ht,k⟩:=h;have l3:=hL.l3;have l8:=hL.l8;have ml:(xf.map xi).length=xf.length:=xX _;refine yl (λτ=>∃ws,GW xf.length ws/\τ=[.st,.fz (.tup (xf.map xi)),.fz told,.ow ([ws].map wsT)]) ?_ (λN hN=>?_)
 rotate_left
 .refine⟨by rw[ml];exact sqz (by lia),Au (λ_ y=>∃w,y=fT w/\Wt w) (λx _ N h1=>?_) (λys hp=>?_)⟩
  .refine⟨tk (by decide),λp p0 p1=>⟨tk (by decide),λq q0 q1=>⟨_,_,rfl,by lia,fg (by lia),h1 _ ⟨_,rfl,Fh (by lia) (by lia)⟩⟩⟩⟩
  .obtain⟨ws,rfl,hw,hl2⟩:=c8 hp;rw[ml] at hl2;exact hN _ ⟨ws,⟨hl2,hw⟩,rfl⟩
 rintro _ ⟨ws,hg,rfl⟩;refine yl (λτ=>∃L:List (List F2),L.length=2/\(∀ws∈L,GW xf.length ws)/\τ=[.st,.fz (.tup (xf.map xi)),.fz told,.ow (L.map wsT)]) ?_ (λN hN=>?_)
 rotate_left
 .have en:((((xf.map xi).length:Nat):Int)-2).toNat=xf.length-2:=by rw[ml];lia
  have e2:(List.replicate (xf.length-2) [Tr.tup [.int 0,.int 1]]).flatten=(List.replicate (xf.length-2) ((0:Int),(1:Int))).map fT:=by rw[pO,FJ];rfl
  refine⟨(λz=>nomatch z),⟨?_,?_⟩,?_,?_,sqz (show(1:Nat)<=1000000 by decide),hN _ ⟨[ws,List.replicate (xf.length-2) ((0:Int),(1:Int))++[(1,1),(1,1)]],rfl,λv hv=>?_,?_⟩⟩
  .show(1:Int)<=((xf.map xi).length:Nat)-2;rw[ml];lia
  .show((xf.map xi).length:Nat)-(2:Int)<2^63;rw[ml];lia
  .show 1*((((xf.map xi).length:Nat):Int)-2).toNat<=sizeLine;rw[en];exact qd (by lia)
  .show(List.replicate ((((xf.map xi).length:Nat):Int)-2).toNat [Tr.tup [.int 0,.int 1]]).flatten.length+2<=sizeLine;rw[en,e2,xX,ig];exact qd (by lia)
  .simp only[xR,yI,yJ] at hv;rcases hv with rfl|rfl
   .exact hg
   .refine⟨by simp;lia,λw hw=>?_⟩;rcases xU.mp hw with z|z
    .rw[(List.mem_replicate.mp z).2];exact du (by decide)
    .simp only[xR,yI,yJ] at z;rcases z with rfl|rfl<;>exact du (by decide)
  .show([.st,.fz (.tup (xf.map xi)),.fz told,.ow [wsT ws,.tup ((List.replicate ((((xf.map xi).length:Nat):Int)-2).toNat [Tr.tup [.int 0,.int 1]]).flatten++[fT (1,1),fT (1,1)])]]:xQ)=[.st,.fz (.tup (xf.map xi)),.fz told,.ow [wsT ws,.tup ((List.replicate (xf.length-2) ((0:Int),(1:Int))++[(1,1),(1,1)]).map fT)]]
   rw[en,e2,zR];rfl
 rintro _ ⟨L,hl2,hG,rfl⟩;refine yl (λτ=>∃L:List (List F2),L.length<=4/\(∀ws∈L,GW xf.length ws)/\τ=[.st,.fz (.tup (xf.map xi)),.fz told,.ow (L.map wsT)]) ?_ (λN hN=>?_)
 .rintro _ ⟨L,h1,h2,rfl⟩;exact k L h1 h2
 rcases ht with rfl|⟨ms,rfl,hv⟩
 .exact hN _ ⟨L,by lia,hG,rfl⟩
 .have tl:((ms.map wI).map fT).length=xf.length:=by rw[xX,xX];exact hv.len
  refine⟨by rw[tl];exact sqz (by lia),Au (λ_ y=>∃w,y=fT w/\Wt w) (λx hx N h1=>?_) (λys hp=>?_)⟩
  .obtain⟨w,hw,rfl⟩:=wN.mp hx;obtain⟨m,hm,rfl⟩:=wN.mp hw;have b:=hv.nn m hm;refine⟨wI m,(7,3),rfl,(du (by lia)).sm.mono (by decide),⟨by unfold Bk;decide,by unfold Bk;decide,by decide⟩,h1 _ ⟨_,rfl,?_⟩⟩;show Wt (lfr (m*7) (1*3));exact Fh (by lia) (by decide)
  .obtain⟨vs,rfl,hw,hl3⟩:=c8 hp;rw[tl] at hl3;refine⟨qd (by show(L.map wsT).length+2<=_;rw[xX];lia),hN _ ⟨L++[ms.map wI,vs],by simp;lia,λv hv'=>?_,by rw[zR];rfl⟩⟩;rcases xU.mp hv' with z|z
   .exact hG v z
   .simp only[xR,yI,yJ] at z;rcases z with rfl|rfl
    .exact hv.gw
    .exact⟨hl3,hw⟩
end
section
variable (P:Program) (w:World) {K:xo} {mg:Str->Option Value} (base:Heap) {f:Addr} {fd:FuncData}
def Lk (B:yo mg bn)(F:Fun K "law" "law" qH f fd)(b5:i9 P w K mg base)(bN:iQ P w K mg base)(cK:eU P w K mg base)(bY:i7 P w K mg base)(bS:iW P w K mg base)(bP:iS P w K mg base)(cN:eX P w K mg base)(rW:i0 P w K mg base) :
  ue P w K mg base CX0 10 f fd ["_law_script"] (dm K):=by
 refine JO F jK rfl (λ_ _ _ _ _ _ hr=>⟨_,_,(xA (wH zX rfl (tJ rfl (B.get "range") (xI (yB (G5 rfl) rfl (B.get "max") GX (xn xk (yB (G6 rfl) rfl (B.get "min") GY (xn (yB (wo K) rfl (B.get "len") wm (xI (pv 0))) xk)))))) (yH 1 jK.nd) (xA (yx 2 jK.nd (xw b5 hr (xn (pv 0) (pv 1)))) (xA (yx 3 jK.nd (xw bN hr (xI (pv 2)))) (xA (yx 4 jK.nd (xw cK hr (xI (pv 3)))) (xA (y3 (y8 (vC hr.units) (wD (uk hr.units) (xw bS hr (xI (pv 3))) (zJ uL) (yt _)) (MU (tH (pv 4))) (yt _)) (xC (xT wC)) y4) (xA (y3 (fP (tH (pv 4))) (xC (y3 (PW.pt (uZ (w_ (wJ (xw rW hr (xn (pv 3) (pv 4))))) (qa (y8 gm (yB (wo K) rfl (B.get "len") wm (xI (vF (uF (N:=["_law_one"]) (xy:=[none]) (XN:=["_law_script", "_law_k", "_law_state_here", "_law_field_here", "_law_told", "_law_weights", "_law_thing", "_law_found"]) (xs:=xH qH) (by decide +kernel) rfl rfl) rfl (q9 rfl) (z_ K (pv 4)) (λ_ _ _ _=>(zH (i:=0) (show(["_law_one"]:List Str).Nodup by decide +kernel) rfl (Or.inl rfl))) (λ_ _ _ _=>(tK (y8 gm (xP K 0) xk (yt _)))) (λ_ _ _ _=>(pv 0))))) xk (yt _))))) (xC (xT wC)) y4)) y4)
  (xC (wH zX rfl (z_ K (xw bY hr (yz (pv 2) (xn (pv 3) (pv 4))))) (yH 5 jK.nd) (xC (wH zX rfl (z_ K (zJ (xn (pv 5) (xw bP hr (xn (pv 2) (pv 5)))))) (yH 6 jK.nd) (xA (yx 7 jK.nd (xw cN hr (xn (pv 3) (pv 6)))) (xC (y3 (PW.pt (uZ (w_ (wJ (yB qr rfl (B.get "isinstance") qq (xn (pv 7) (qF (v:=V.ty "bool") rfl (B.get "bool") nA rfl))))) (qa (y8 (vC hr.units) (pv 7) (xw rW hr (xn (pv 3) (pv 6))) (yt _))))) (xC (xT wC)) y4)))))))))))))
  (xC (xT wC))),
  (xE (wB (tj (xF (yY G_ (xt xm (yY Ha (xt Ll xm)))))) xV.g (xE (LU xh) (xE (yL (zg (b:=true) uK)) (xE (yL (xM (xF xh))) (xE (zb (y_ (xr vD (xr os_eq (xM (xF xh)) (uV (b:=true) uK)) (r_ xh))) (yk w5) zc) (xE (zb (zM (r_ xh)) (zb (uX (w6 (zM (xM (xt xh xh)))) (y_ (xr gv (yY wR (xF (zF.e (uW (we xh).c xV (y_ (xr gv xO xm)) xh)))) xm))) (yk w5) zc) zc) (wB (we (zg (xt xh xh))) xV.g (wB (we (uV (b:=true) (xt xh (zg (xF xh))))) xV.g (xE (yL (xM (xt xh xh))) (zb (uX (w6 (zM (qx xh))) (y_ (xr vD xh (xM (xt xh xh))))) (yk w5) zc)))))))))) (yk w5)),λns hl=>?_⟩)
 refine yl (λτ=>True) (λτ _=>rfl) (λN hN=>?_);refine kA _ (λi τ=>∃(x1 x2 x3 x4 x5 x6 x7:TV),τ=[.sc ns,x1,x2,x3,x4,x5,x6,x7]) (λKK h=>λ_=>⟨⟨by split<;>split<;>lia,by split<;>split<;>lia⟩,h⟩) ⟨_,_,_,_,_,_,_,rfl⟩ ?_ (λτ _=>hN _ trivial);rintro i x τ N2 hx ⟨x1,x2,x3,x4,x5,x6,x7,rfl⟩ hN2;have hi:=(zP.mp hx).1;rw[jH] at hi;rw[pP hi] at hx;cases hx;dsimp only[jI,jt,eName,ju];have hk:(0:Int)<=(0:Int)+i:=by lia
 generalize (0:Int)+i=kk at hk;show ja _ _ _ ([.sc ns,.fz (.int kk),x2,x3,x4,x5,x6,x7]:xQ);refine yl (λτ=>τ=[.sc ns,.fz (.int kk),.st,x3,x4,x5,x6,x7]) ?_ (λN hN=>⟨hk,hN _ rfl⟩);rintro _ rfl;refine yl (λτ=>∃xf,LF xf/\τ=[.sc ns,.fz (.int kk),.st,.fz (.tup (xf.map xi)),x4,x5,x6,x7]) ?_ (λN hN=>⟨rfl,λxf h=>hN _ ⟨xf,h,rfl⟩⟩);rintro _ ⟨xf,hL,rfl⟩;have hf:=hL.isf;have hF:=hL.fR;have l3:=hL.l3;have l8:=hL.l8;refine yl (λτ=>∃told:Tr,((¬Void xf/\told=.non)\/(Void xf/\∃ms,told=wsT (ms.map wI)/\VW xf ms))/\τ=[.sc ns,.fz (.int kk),.st,.fz (.tup (xf.map xi)),.fz told,x5,x6,x7]) ?_ (λN hN=>⟨xf,rfl,hL,λv=>hN _ ⟨_,.inl ⟨v,rfl⟩,rfl⟩,λv ms h=>hN _ ⟨_,.inr ⟨v,ms,rfl,h⟩,rfl⟩⟩);rintro _ ⟨told,ht,rfl⟩;have cv:Void xf↔uv xf=[]:=by
  rw[<-hF.void];constructor
  .intro e;unfold uv;rw[e];rfl
  .intro e;have:=zS List.length e;unfold uv at this;rw[rM] at this;exact jg.mp this
 refine yl (λτ=>τ=[.sc ns,.fz (.int kk),.st,.fz (.tup (xf.map xi)),.fz told,x5,x6,x7]) ?_ (λN hN=>?_)
 rotate_left
 .refine⟨xf,rfl,hL.fine,⟨Ax _,rfl,qj (iz _ _) (by decide)⟩,?_⟩;rcases ht with ⟨v,rfl⟩|⟨v,ms,rfl,hv⟩
  .cases e:uv xf with
   |nil=>exact absurd (cv.mpr e) v
   |cons a l=>exact⟨⟨rfl,rfl,by show(min 0 0:Nat)<=64;decide⟩,hN _ rfl⟩
  .rw[cv.mp v];exact⟨⟨rfl,rfl,by show(min 0 0:Nat)<=64;decide⟩,hN _ rfl⟩
 rintro _ rfl;refine yl (λτ=>τ=[.sc ns,.fz (.int kk),.st,.fz (.tup (xf.map xi)),.fz told,x5,x6,x7]) ?_ (λN hN=>?_)
 rotate_left
 .rcases ht with ⟨v,rfl⟩|⟨v,ms,rfl,hv⟩
  .exact hN _ rfl
  .refine⟨xf,_,rfl,hf,λ_=>⟨_,rfl,hv.gw⟩,?_⟩;rw[hv.void];have tl:((ms.map wI).map fT).length=xf.length:=by rw[xX,xX];exact hv.len
   refine⟨by rw[tl];exact sqz (by lia),?_⟩;rw[uP];refine aW (λm:Int=>decide (0<m)) (λm=>fT (wI m)) (λm hm N M h1 h0=>?_) ?_
   .exact yr (b:=decide (0<m)) h1 h0
   .have c:=hv.cnt;refine yr (b:=decide (3<((((ms.filter λm:Int=>decide (0<m)).map λm=>fT (wI m)).length:Nat):Int))) (λd=>?_) (λd=>hN _ rfl);have d:=zr d;rw[xX] at d;lia
 rintro _ rfl;refine⟨xf,told,rfl,hL,ht.elim (λz=>.inl z.2) λz=>.inr z.2,λL hl4 hG=>?_⟩;refine vT (λj τ=>∃y5 y6 y7:TV,τ=[.sc ns,.fz (.int kk),.st,.fz (.tup (xf.map xi)),.fz told,y5,y6,y7]) ⟨_,_,_,rfl⟩ ?_ ?_
 rotate_left
 .rintro τ ⟨y5,y6,y7,e⟩;exact hN2 _ ⟨_,_,_,_,_,_,_,e⟩
 rintro j x τ N3 hx ⟨y5,y6,y7,rfl⟩ hN3;obtain⟨ws,hws,rfl⟩:=vz hx;have hg:=hG ws (zW hws);dsimp only[jI,jt,eName,ju];refine⟨ws,rfl,by have:=hg.1;lia,hg.2,λt hS=>?_⟩;rw[hg.1] at hS;have hS':∀u∈[wsT ws,t],ThS xf.length u:=λu hu=>by
  simp only[xR,yI,yJ] at hu;rcases hu with rfl|rfl
  .exact λ_=>⟨ws,rfl,hg⟩
  .exact hS
 dsimp only[fj,j6,rj,qu];refine vT (all:=[wsT ws,t]) (λj τ=>∃y6 y7:TV,τ=[.sc ns,.fz (.int kk),.st,.fz (.tup (xf.map xi)),.fz told,.fz (wsT ws),y6,y7]) ⟨_,_,rfl⟩ ?_ ?_
 rotate_left
 .rintro τ ⟨y6,y7,e⟩;exact hN3 _ ⟨_,_,_,e⟩
 rintro l u τ N4 hu ⟨y6',y7',rfl⟩ hN4;have hU:=hS' u (zW hu);dsimp only[jI,jt,eName,ju];show ja _ _ _ ([.sc ns,.fz (.int kk),.st,.fz (.tup (xf.map xi)),.fz told,.fz (wsT ws),.fz u,y7']:xQ);refine yl (λτ=>τ=[.sc ns,.fz (.int kk),.st,.fz (.tup (xf.map xi)),.fz told,.fz (wsT ws),.fz u,.fz (.bl (vi xf u))]) ?_ (λN hN=>⟨xf,u,rfl,hf,hU,hN _ rfl⟩);rintro _ rfl;refine⟨xf,u,rfl,hf,hU,⟨rfl,rfl,by show(min 0 0:Nat)<=64;decide⟩,?_⟩;have e:zC (.bl (vi xf u)) (.bl (vi xf u))=true:=by cases vi xf u<;>rfl
 exact yr (b:=!zC (.bl (vi xf u)) (.bl (vi xf u))) (λc=>by rw[e] at c;cases c) (λ_=>hN4 _ ⟨_,_,rfl⟩)
end
def all_mk {l:PySem.W.OpenLaw}{w:World}{K:xo}{h:Heap}{mg:Str->Option Value}{fa:Addr}{fn:Addr}{od an:Option Addr}{sl:Array (Option Value)}{oc kV dc pm cd ct:Value}{tc1:Tok}(X:K.In h)(G:h.Ns mainGlobals mg)(hfa:mg "law" = some (.ref fa))
  (d1:DD K "is_whole" oS) (d2:DD K "greatest_divisor" oM) (d3:DD K "beyond" oB) (d4:DD K "is_ahead" oO) (d5:DD K "turn_to" oZ) (d6:DD K "is_near" tX) (d7:DD K "first_numbers" oG) (d8:DD K "weights_by" o6) (d9:DD K "_law_take" ou) (d10:DD K "_law_divisor" p9) (d11:DD K "_law_cell_at" p6) (d12:DD K "_law_less" oi) (d13:DD K "_law_whole" oz) (d14:DD K "are_whole" tV) (d15:DD K "is_fraction" oQ) (d16:DD K "lowest" oT) (d17:DD K "where_crossed" tZ) (d18:DD K "from_least" oI) (d19:DD K "furthest" oJ) (d20:DD K "points_back" oX) (d21:DD K "balance" oA) (d22:DD K "whole_sum" s_) (d23:DD K "_law_low" oj) (d24:DD K "_law_state" ot) (d25:DD K "_law_box" p5) (d26:DD K "_law_spike" oq) (d27:DD K "_law_ahead" pW) (d28:DD K "_law_is_fraction" oa) (d29:DD K "_law_bent" pZ) (d30:DD K "places_of" tY) (d31:DD K "cut_piece" oF) (d32:DD K "is_row" oR) (d33:DD K "go_round" oK) (d34:DD K "are_weights" tU) (d35:DD K "_law_times" ox) (d36:DD K "_law_field" p_) (d37:DD K "_law_cross" p8) (d38:DD K "_law_plus" oo) (d39:DD K "_law_minus" om) (d40:DD K "cut_down" oE) (d41:DD K "is_field_row" oP) (d42:DD K "_law_bare" pX) (d43:DD K "_law_value" oy) (d44:DD K "_law_bend" pY) (d45:DD K "_law_sums" tT) (d46:DD K "_law_some" sY) (d47:DD K "piece_left" oW) (d48:DD K "_law_keeps" oh) (d49:DD K "_law_chain" p7) (d50:DD K "_law_is_void" og) (d51:DD K "corners_left" oD) (d52:DD K "first_that_empties" oH) (d53:DD K "_law_ring" tS) (d54:DD K "is_field" sZ) (d55:DD K "clashing" oC) (d56:DD K "_law_corners" tR) (d57:DD K "need_field" oU) (d58:DD K "clash_shares" tW) (d59:DD K "nothing_weights" oV) (d60:DD K "shows_nothing" oY)
  (aN:PySem.W.nsIn K mainGlobals "law" = some (some (.ref fn))) (ln:K.lookup fn=some ⟨oc,od,.func (PySem.W.fnOf "law" "law" (vS qH) (ug qH) (xH qH) .none kV dc pm an cd ct),sl⟩) (cn:PySem.W.codeIn K cd "law" = true) (kn:PySem.W.keepIn K (.ref fn)=true)
  (z1:PySem.W.nsIn K mainGlobals "len" = some none)
  (z2:PySem.W.nsIn K mainGlobals "range" = some none)
  (z3:PySem.W.nsIn K mainGlobals "max" = some none)
  (z4:PySem.W.nsIn K mainGlobals "min" = some none)
  (z5:PySem.W.nsIn K mainGlobals "abs" = some none)
  (z6:PySem.W.nsIn K mainGlobals "isinstance" = some none)
  (z7:PySem.W.nsIn K mainGlobals "tuple" = some none)
  (z8:PySem.W.nsIn K mainGlobals "list" = some none)
  (z9:PySem.W.nsIn K mainGlobals "int" = some none)
  (z10:PySem.W.nsIn K mainGlobals "bool" = some none)
  (z11:PySem.W.nsIn K mainGlobals "str" = some none)
  (z12:PySem.W.nsIn K mainGlobals "dict" = some none)
  (z13:PySem.W.nsIn K mainGlobals "all" = some none)
  (z14:PySem.W.nsIn K mainGlobals "zip" = some none)
  (z15:PySem.W.nsIn K mainGlobals "enumerate" = some none)
  (z16:PySem.W.nsIn K mainGlobals "ValueError" = some none)
  (y1:PySem.W.nsIn K mainGlobals "FAR" = some (some (.int 60001 tc1))) :
  ∃fd:FuncData,(∀(s:Shared) (v:Value),BindsTo s fd ⟨[v],[]⟩ [("_law_script", v)])/\∀base:Heap,K.In base->base.Ns mainGlobals mg->ue l.prog w K mg base CX0 10 fa fd ["_law_script"] (dm K):=by
 have e:=hfa.symm.trans (yq X G aN);cases e;obtain⟨f1,e1,a1,F1⟩:=d1;obtain⟨f2,e2,a2,F2⟩:=d2;obtain⟨f3,e3,a3,F3⟩:=d3;obtain⟨f4,e4,a4,F4⟩:=d4;obtain⟨f5,e5,a5,F5⟩:=d5;obtain⟨f6,e6,a6,F6⟩:=d6;obtain⟨f7,e7,a7,F7⟩:=d7;obtain⟨f8,e8,a8,F8⟩:=d8;obtain⟨f9,e9,a9,F9⟩:=d9;obtain⟨f10,e10,a10,F10⟩:=d10;obtain⟨f11,e11,a11,F11⟩:=d11;obtain⟨f12,e12,a12,F12⟩:=d12;obtain⟨f13,e13,a13,F13⟩:=d13;obtain⟨f14,e14,a14,F14⟩:=d14;obtain⟨f15,e15,a15,F15⟩:=d15;obtain⟨f16,e16,a16,F16⟩:=d16;obtain⟨f17,e17,a17,F17⟩:=d17;obtain⟨f18,e18,a18,F18⟩:=d18;obtain⟨f19,e19,a19,F19⟩:=d19;obtain⟨f20,e20,a20,F20⟩:=d20;obtain⟨f21,e21,a21,F21⟩:=d21;obtain⟨f22,e22,a22,F22⟩:=d22;obtain⟨f23,e23,a23,F23⟩:=d23;obtain⟨f24,e24,a24,F24⟩:=d24;obtain⟨f25,e25,a25,F25⟩:=d25;obtain⟨f26,e26,a26,F26⟩:=d26;obtain⟨f27,e27,a27,F27⟩:=d27;obtain⟨f28,e28,a28,F28⟩:=d28;obtain⟨f29,e29,a29,F29⟩:=d29;obtain⟨f30,e30,a30,F30⟩:=d30;obtain⟨f31,e31,a31,F31⟩:=d31;obtain⟨f32,e32,a32,F32⟩:=d32;obtain⟨f33,e33,a33,F33⟩:=d33;obtain⟨f34,e34,a34,F34⟩:=d34;obtain⟨f35,e35,a35,F35⟩:=d35;obtain⟨f36,e36,a36,F36⟩:=d36;obtain⟨f37,e37,a37,F37⟩:=d37;obtain⟨f38,e38,a38,F38⟩:=d38;obtain⟨f39,e39,a39,F39⟩:=d39;obtain⟨f40,e40,a40,F40⟩:=d40;obtain⟨f41,e41,a41,F41⟩:=d41;obtain⟨f42,e42,a42,F42⟩:=d42;obtain⟨f43,e43,a43,F43⟩:=d43;obtain⟨f44,e44,a44,F44⟩:=d44;obtain⟨f45,e45,a45,F45⟩:=d45;obtain⟨f46,e46,a46,F46⟩:=d46;obtain⟨f47,e47,a47,F47⟩:=d47;obtain⟨f48,e48,a48,F48⟩:=d48;obtain⟨f49,e49,a49,F49⟩:=d49;obtain⟨f50,e50,a50,F50⟩:=d50;obtain⟨f51,e51,a51,F51⟩:=d51;obtain⟨f52,e52,a52,F52⟩:=d52;obtain⟨f53,e53,a53,F53⟩:=d53;obtain⟨f54,e54,a54,F54⟩:=d54;obtain⟨f55,e55,a55,F55⟩:=d55;obtain⟨f56,e56,a56,F56⟩:=d56;obtain⟨f57,e57,a57,F57⟩:=d57;obtain⟨f58,e58,a58,F58⟩:=d58;obtain⟨f59,e59,a59,F59⟩:=d59;obtain⟨f60,e60,a60,F60⟩:=d60;have F61:=BL (st:=qH) ln cn kn;have B:yo mg bn:=⟨λx hx=>by
  simp only[bn,xR,yI,yJ] at hx;rcases hx with rfl|rfl|rfl|rfl|rfl|rfl|rfl|rfl|rfl|rfl|rfl|rfl|rfl|rfl|rfl|rfl
  .exact u4 X G z1
  .exact u4 X G z2
  .exact u4 X G z3
  .exact u4 X G z4
  .exact u4 X G z5
  .exact u4 X G z6
  .exact u4 X G z7
  .exact u4 X G z8
  .exact u4 X G z9
  .exact u4 X G z10
  .exact u4 X G z11
  .exact u4 X G z12
  .exact u4 X G z13
  .exact u4 X G z14
  .exact u4 X G z15
  .exact u4 X G z16⟩
 have qZ:=yq X G y1;refine⟨PySem.W.fnOf "law" "law" (vS qH) (ug qH) (xH qH) .none kV dc pm an cd ct,λs v=>.of_eq rfl,λbase XB _=>?_⟩;have gi:=Lj l.prog w base B ⟨F1,yq X G a1,zK "thing" F1⟩;have vA:=Lc l.prog w base B ⟨F2,yq X G a2,zI "one" "other" F2⟩;have kX:=KY l.prog w base B ⟨F3,yq X G a3,zI "row" "corner" F3⟩;have cE:=Ld l.prog w base B ⟨F4,yq X G a4,zI "one" "other" F4⟩;have uU:=Lx l.prog w base B ⟨F5,yq X G a5,zI "one" "other" F5⟩;have cI:=Lh l.prog w base B ⟨F6,yq X G a6,zK "place" F6⟩;have cA:=K8 l.prog w base B ⟨F7,yq X G a7,zK "rows" F7⟩;have cO:=Ly l.prog w base B ⟨F8,yq X G a8,dU "numbers" "shares" "many" F8⟩;have yZ:=OA (KO l.prog w base F9 (yq X G a9) (zI "_law_state_here" "_law_many" F9));have fD:=Kw l.prog w base B ⟨F10,yq X G a10,zI "_law_one" "_law_other" F10⟩;have bR:=Ks l.prog w base B ⟨F11,yq X G a11,zI "_law_script" "_law_k" F11⟩;have gc:=KC l.prog w base B ⟨F12,yq X G a12,zI "_law_one" "_law_other" F12⟩;have rX:=KR l.prog w base B ⟨F13,yq X G a13,zK "_law_thing" F13⟩;have b9:=KU l.prog w base B ⟨F14,yq X G a14,zK "things" F14⟩ gi;have cH:=Lg l.prog w base B ⟨F15,yq X G a15,zK "thing" F15⟩ gi vA;have rZ:=Lm l.prog w base B ⟨F16,yq X G a16,zI "top" "bottom" F16⟩ vA;have cP:=Lz l.prog w base B ⟨F17,yq X G a17,dU "row" "one" "other" F17⟩ vA kX;have cC:=K_ l.prog w base B ⟨F18,yq X G a18,zK "piece" F18⟩ cE;have rY:=La l.prog w base B ⟨F19,yq X G a19,dU "first" "rows" "sign" F19⟩ uU;have cM:=Lu l.prog w base B ⟨F20,yq X G a20,zI "first" "rows" F20⟩ uU;have b_:=KW l.prog w base B ⟨F21,yq X G a21,zK "core" F21⟩ uU;have cQ:=LA l.prog w base B ⟨F22,yq X G a22,zI "rows" "weights" F22⟩ vA;have uJ:=KD l.prog w base B ⟨F23,yq X G a23,zI "_law_top" "_law_bottom" F23⟩ fD;have b5:=KL l.prog w base F24 (yq X G a24) (zI "_law_script" "_law_k" F24) bR;have bQ:=Kr l.prog w base B ⟨F25,yq X G a25,zK "_law_state_here" F25⟩ yZ;have bZ:=KJ l.prog w base B ⟨F26,yq X G a26,zK "_law_state_here" F26⟩ yZ;have bM:=Km l.prog w base B ⟨F27,yq X G a27,zI "_law_one" "_law_other" F27⟩ gc;have bV:=Ky l.prog w base B ⟨F28,yq X G a28,zK "_law_thing" F28⟩ rX fD;have bP:=Kq l.prog w base B ⟨F29,yq X G a29,zI "_law_state_here" "_law_weights" F29⟩ yZ;have cL:=Lr l.prog w base B ⟨F30,yq X G a30,zK "piece" F30⟩ rZ cC;have gg:=K4 l.prog w base B ⟨F31,yq X G a31,zI "piece" "row" F31⟩ cP kX;have cJ:=Li l.prog w base B ⟨F32,yq X G a32,zK "thing" F32⟩ b9;have cD:=Lb l.prog w base B ⟨F33,yq X G a33,zK "rows" F33⟩ rY cM uU;have b8:=KS l.prog w base B ⟨F34,yq X G a34,zI "field" "thing" F34⟩ cH;have vg:=KP l.prog w base B ⟨F35,yq X G a35,zI "_law_one" "_law_other" F35⟩ uJ;have bU:=Kx l.prog w base B ⟨F36,yq X G a36,zK "_law_state_here" F36⟩ bQ yZ bZ;have bT:=Kv l.prog w base B ⟨F37,yq X G a37,zI "_law_one" "_law_other" F37⟩ uJ;have fE:=KG l.prog w base B ⟨F38,yq X G a38,zI "_law_one" "_law_other" F38⟩ uJ;have gf:=KE l.prog w base B ⟨F39,yq X G a39,zI "_law_one" "_law_other" F39⟩ uJ;have cq:=K3 l.prog w base B ⟨F40,yq X G a40,zI "piece" "rows" F40⟩ gg;have cG:=Lf l.prog w base B ⟨F41,yq X G a41,zK "thing" F41⟩ cJ;have bN:=Kn l.prog w base B ⟨F42,yq X G a42,zK "_law_state_here" F42⟩ bU yZ;have b7:=KQ l.prog w base B ⟨F43,yq X G a43,zI "_law_row" "_law_place" F43⟩ fE vg;have bO:=Ko l.prog w base B ⟨F44,yq X G a44,dU "_law_one" "_law_other" "_law_third" F44⟩ vg gf;have b6:=KN l.prog w base B ⟨F45,yq X G a45,zI "_law_rows" "_law_weights" F45⟩ fE vg;have bY:=KI l.prog w base B ⟨F46,yq X G a46,dU "_law_state_here" "_law_field_here" "_law_told" F46⟩ uJ yZ vg;have vZ:=Lq l.prog w base B ⟨F47,yq X G a47,zK "rows" F47⟩ qZ cq;have bW:=KA l.prog w base B ⟨F48,yq X G a48,zI "_law_row" "_law_place" F48⟩ gc b7;have rV:=Kt l.prog w base B ⟨F49,yq X G a49,zK "_law_places" F49⟩ bO;have rW:=Kz l.prog w base B ⟨F50,yq X G a50,zI "_law_field_here" "_law_thing" F50⟩ b6 bV;have cj:=K2 l.prog w base B ⟨F51,yq X G a51,zK "rows" F51⟩ cL vZ;have cB:=K9 l.prog w base B ⟨F52,yq X G a52,zI "core" "rest" F52⟩ gg vZ;have bX:=KH l.prog w base B ⟨F53,yq X G a53,zK "_law_places" F53⟩ rV bM;have cF:=Le l.prog w base B ⟨F54,yq X G a54,zK "thing" F54⟩ cD cI cj cG;have cg:=K1 l.prog w base B ⟨F55,yq X G a55,zK "rows" F55⟩ vZ cB;have bS:=Ku l.prog w base B ⟨F56,yq X G a56,zK "_law_rows" F56⟩ bX bT bW;have fF:=Lo l.prog w base B ⟨F57,yq X G a57,zK "thing" F57⟩ cF;have cf:=K0 l.prog w base B ⟨F58,yq X G a58,zK "rows" F58⟩ cg b_;have cK:=Lp l.prog w base B ⟨F59,yq X G a59,zK "field" F59⟩ fF vZ cO cA cf;have cN:=Lw l.prog w base B ⟨F60,yq X G a60,zI "field" "thing" F60⟩ fF cQ b8;exact Lk l.prog w base B F61 b5 bN cK bY bS bP cN rW
def walk {l:PySem.W.OpenLaw}{q:Program}{loose:List Str}{XP:(Str->Option Value)->Heap->Prop}{YP:World->Heap->Prop}{d:DefRec}{K:Params->xo}(hn:l.most=some 63)(hdf:d.params.defaults=[])
  (hY:∀(w:World) (h:Heap),YP w h->(K w.params).In h) (hT:∀P,lH (K P)=none)
  (F:∀(w:World) (mg:Str->Option Value) (fa:Addr) (h:Heap),(K w.params).In h->h.Ns mainGlobals mg->mg d.name=some (.ref fa)->∃fd:FuncData,(∀(s:Shared) (u:Value),BindsTo s fd ⟨[u],[]⟩ [("_law_script", u)])/\∀base:Heap,(K w.params).In base->base.Ns mainGlobals mg->ue l.prog w (K w.params) mg base CX0 10 fa fd ["_law_script"] (dm (K w.params))) :
  PySem.W.WalkO q loose XP YP l.row.toRowW d [] (λf vs=>PySem.call f vs):=
 L2.OT (n:=63) (k:=10) (x := "_law_script") (CX:=λ_=>CX0) (sp:=λw=>dm (K w.params)) hn (by decide) hdf ⟨rfl,by decide,by decide⟩ hY F (λ_ _ a ns hl hO hS=>⟨a,ns,rfl,⟨λb=>.inl (hO b),jo.none (hT _)⟩,hS,hl,λ_=>rfl⟩) λ_ _ _ _ _ z=>z
def ke (k:Str)(t:Nat)(v:Value):Str×Nat×Value:=(k,t,v)
def kd (P:Params)(n:Nat)(l:List (Str×Nat×Value)):Obj:=⟨.type "dict", none,.dict ⟨l.map λe=>⟨PyData.keyHash P e.1,.str e.1 e.2.1,e.2.2⟩⟩ n,#[]⟩
def kf (x:Str)(st:Stmt)(cd:Nat)(m:Str)(t:Nat):Obj:=⟨.type "function", none,.func (PySem.W.fnOf x x (vS st) (ug st) (xH st) .none .none .none (.str m t) none (.ref cd) .none),#[]⟩
def kp (x:Str)(st:Stmt):Obj:=⟨.none,none,.func {name:=x,qualname:=x,params:=vS st,body:=.stmts (ug st),scope:=xH st,globals:=0,closure:=[],defaults:=.none,kwdefaults:=.none},#[]⟩
def kc (x:Str)(a l n m c d:Nat)(u v:Value)(e t f:Nat):Obj:=⟨.type "code", none,.fields ⟨[.str x a,.str x (a+1),.str "/claim/cut.py" (a+2),.int l 0,.int n 0,.int 0 0,.int 0 0,.int m 0,.ref c,.bool true,.int 181 0,.ref d,.none,u,v,.ref e,.int t 0,.int l 0,.str "/claim/cut.py" f]⟩,#[]⟩
def k0:Obj:=⟨.none,none,.fields ⟨[]⟩,#[]⟩
def k1 (l:List Value):Obj:=⟨.type "tuple", none,.seq ⟨l⟩ 0,#[]⟩
def tp (p:Program)(i:Nat):Stmt:=p.main.body.getD i (.Pass ⟨0,0,0,0⟩)
def tq:List (Int×Nat):=[(2,20),(4,33),(7,45),(9,50),(11,57),(16,64),(21,71),(26,78),(28,85),(30,92),(34,97),(36,104),(47,111),(51,116),(56,123),(62,130),(65,137),(69,144),(71,151),(80,158),(86,165),(92,170),(98,177),(103,182),(105,189),(109,194),(112,201),(120,208),(127,215),(134,220),(138,225),(149,232),(154,239),(160,246),(165,253),(172,260),(181,267),(185,274),(190,281),(192,288),(196,295),(201,302),(213,309),(219,316),(232,323),(243,330),(249,337),(251,344),(253,351),(255,358),(257,365),(261,372),(263,379),(266,386),(273,391),(281,396),(289,403),(291,410),(295,415),(300,422),(308,429),(314,434),(320,439)]
def tl (n:Nat):Obj:=⟨.none,none,.fields ⟨(tq.take n).flatMap λx=>[.int x.1 0,.int 0 0,.ref x.2]⟩,#[]⟩
def kx (n:Str)(b a s m p q:Nat):Obj:=⟨.type "type", none,.cls {name:=n,bases:=[.ref b],mro:=[.ref a,.ref b,.type "ValueError", .type "Exception", .type "BaseException", .type "object"],ns:=s,qualname:=n,hasDict:=true,slotNames:=[],subclasses:=[],abstract:=false,hasDel:=false},⟨[some (.ref m),none,some (.str n p),some (.str n q),some (.builtin "ValueError.__new__"),some (.bool true)]⟩⟩
def ky (x:Str)(a b c:Nat)(l:Int)(d e:Nat)(i j:Int)(k:Nat):Obj:=⟨.type "code", none,.fields ⟨[.str x a,.str x b,.str "/claim/cut.py" c,.int l 0,.int 0 0,.int 0 0,.int 0 0,.int 0 0,.ref d,.bool false,.int 181 0,.ref e,.none,.none,.none,.none,.int i 0,.int j 0,.str "/claim/cut.py" k]⟩,#[]⟩
def kz (a b c:Nat)(x:Str)(d e:Nat):Obj:=⟨.type "frame", none,.plain,⟨[some (.ref a),some (.ref b),some (.ref c),none,some (.str x d),none,some (.ref e)]⟩⟩
def kv (x:String)(v:Value):Obj:=⟨.type "builtin_function_or_method", none,.fields ⟨[.builtin x,v]⟩,#[]⟩
def kq (a:Nat)(x:Str)(b c:Nat)(y:Str)(d e:Nat)(i:Int)(f g h:Nat):List (Str×Nat×Value):=ke "__module__" a (.str x b)::ke "__qualname__" c (.str y d)::ke "__firstlineno__" e (.int i f)::ke "__static_attributes__" g (.ref h)::[]
def kr (a:Nat)(x:Str)(b e:Nat)(i:Int)(f g h d:Nat):List (Str×Nat×Value):=ke "__module__" a (.str x b)::ke "__firstlineno__" e (.int i f)::ke "__static_attributes__" g (.ref h)::ke "__doc__" d .none::[]
def lw:Str := "law_roundcuts_k50_weights_that_show_nothing"
def lw0:Str := "roundcuts.clashes"
def lw1:Str := "roundcuts.errors"
def lw2:Str := "roundcuts.fields"
def lw3:Str := "roundcuts.fractions"
def lw4:Str := "roundcuts.lines"
def lw6:Str := "roundcuts.pieces"
def lw7:Str := "roundcuts.rows"
def mn:List (Str×Nat×Value):=ke "__name__" 165 (.str lw 521)::ke "__doc__" 166 .none::ke "__package__" 167 .none::ke "__loader__" 168 (.builtin "__main__.__loader__#opaque")::ke "__spec__" 169 .none::ke "__annotations__" 170 (.ref 6)::ke "__builtins__" 171 (.ref 4)::ke "__file__" 173 (.str "/claim/cut.py" 172)::ke "__cached__" 174 .none::ke "CutError" 206 (.ref 24)::ke "NoField" 222 (.ref 37)::ke "is_whole" 231 (.ref 46)::ke "are_whole" 237 (.ref 51)::ke "is_fraction" 246 (.ref 58)::ke "greatest_divisor" 254 (.ref 65)::ke "lowest" 263 (.ref 72)::ke "FAR" 267 (.int 60001 266)::ke "corners_left" 274 (.ref 79)::ke "piece_left" 281 (.ref 86)::ke "cut_down" 290 (.ref 93)::ke "places_of" 296 (.ref 98)::ke "cut_piece" 309 (.ref 105)::ke "beyond" 323 (.ref 112)::ke "where_crossed" 329 (.ref 117)::ke "from_least" 339 (.ref 124)::ke "is_ahead" 347 (.ref 131)::ke "is_row" 356 (.ref 138)::ke "turn_to" 364 (.ref 145)::ke "go_round" 374 (.ref 152)::ke "furthest" 385 (.ref 159)::ke "points_back" 394 (.ref 166)::ke "is_field" 402 (.ref 171)::ke "is_field_row" 412 (.ref 178)::ke "is_near" 418 (.ref 183)::ke "need_field" 425 (.ref 190)::ke "clash_shares" 433 (.ref 195)::ke "clashing" 443 (.ref 202)::ke "first_that_empties" 453 (.ref 209)::ke "balance" 463 (.ref 216)::ke "are_weights" 471 (.ref 221)::ke "whole_sum" 477 (.ref 226)::ke "first_numbers" 489 (.ref 233)::ke "weights_by" 501 (.ref 240)::ke "nothing_weights" 510 (.ref 247)::ke "shows_nothing" 520 (.ref 254)::ke "_law_take" 532 (.ref 261)::ke "_law_divisor" 540 (.ref 268)::ke "_law_low" 549 (.ref 275)::ke "_law_times" 557 (.ref 282)::ke "_law_cell_at" 565 (.ref 289)::ke "_law_state" 574 (.ref 296)::ke "_law_box" 588 (.ref 303)::ke "_law_spike" 597 (.ref 310)::ke "_law_field" 612 (.ref 317)::ke "_law_bare" 624 (.ref 324)::ke "_law_cross" 634 (.ref 331)::ke "_law_less" 642 (.ref 338)::ke "_law_plus" 650 (.ref 345)::ke "_law_value" 658 (.ref 352)::ke "_law_keeps" 666 (.ref 359)::ke "_law_ahead" 674 (.ref 366)::ke "_law_minus" 682 (.ref 373)::ke "_law_bend" 692 (.ref 380)::ke "_law_chain" 701 (.ref 387)::ke "_law_ring" 707 (.ref 392)::ke "_law_corners" 713 (.ref 397)::ke "_law_whole" 720 (.ref 404)::ke "_law_is_fraction" 727 (.ref 411)::ke "_law_sums" 733 (.ref 416)::ke "_law_is_void" 745 (.ref 423)::ke "_law_bent" 756 (.ref 430)::ke "_law_some" 762 (.ref 435)::ke "law" 768 (.ref 440)::[]
def kn:List Str->Nat->List Value
 |[],_=>[]
 |v::vs,a=>.str v a::kn vs (a+1)
def kg (p:Program)(x:Str)(i a l n c:Nat)(m:Str)(t:Nat)(vs:List Str)(r:List Obj):List Obj:=k1 []::k0::k1 (kn vs (a+3))::k1 []::kp x (tp p i)::kc x a l n 3 c (c+1) (.ref (c+2)) (.ref (c+3)) (c+4) (a+3+vs.length) (a+4+vs.length)::kf x (tp p i) (c+5) m t::r
def kh (p:Program)(x:Str)(i a l n c:Nat)(m:Str)(t:Nat)(r:List Obj):List Obj:=k1 []::k0::kp x (tp p i)::kc x a l n 3 c (c+1) .none .none (c+2) (a+3) (a+4)::kf x (tp p i) (c+3) m t::r
def ob (p:Program)(P:Params):List Obj:=k1 []::tl 63::ky "<module>" 182 183 184 1 11 12 185 1 186::kz 13 3 3 "__main__" 164 0::k1 [(.type "ValueError")]::kv "type.__prepare__" (.type "type")::kd P 4 (kq 196 lw1 187 198 "CutError" 197 200 2 199 201 22)::k1 []::k0::ky "CutError" 191 192 193 2 18 19 194 2 195::kz 20 3 17 lw1 187 0::k1 []::kd P 3 (ke "__module__" 196 (.str lw1 187)::ke "__firstlineno__" 200 (.int 2 199)::ke "__static_attributes__" 201 (.ref 22)::ke "__weakref__" 203 (.ref 25)::ke "__doc__" 204 .none::[])::⟨(.type "type"),none,.cls {name := "CutError", bases:=[(.type "ValueError")],mro:=[(.ref 24),(.type "ValueError"),(.type "Exception"),(.type "BaseException"),(.type "object")],ns:=23,qualname := "CutError", hasDict:=true,slotNames:=[],subclasses:=[(.ref 37)],abstract:=false,hasDel:=false},⟨[some (.ref 15),none,some (.str "CutError" 189),some (.str "CutError" 197),some (.builtin "ValueError.__new__"),some (.bool true)]⟩⟩::⟨(.type "getset_descriptor"),none,.fields ⟨[(.str "__weakref__" 202),(.ref 24),(.builtin "ExceptionGroup.__weakref__"),.none]⟩,#[]⟩::⟨(.type "super"),none,.fields ⟨[(.ref 24),(.ref 24),(.ref 24)]⟩,#[]⟩::kv "object.__init_subclass__" (.ref 24)::k1 [(.ref 24)]::kv "type.__prepare__" (.type "type")::kd P 4 (kq 214 lw1 187 216 "NoField" 215 218 4 217 219 35)::k1 []::k0::ky "NoField" 209 210 211 4 31 32 212 4 213::kz 33 3 30 lw1 187 0::k1 []::kd P 2 (kr 214 lw1 187 218 4 217 219 35 220)::kx "NoField" 24 37 36 28 207 215::⟨(.type "super"),none,.fields ⟨[(.ref 37),(.ref 37),(.ref 37)]⟩,#[]⟩::kv "object.__init_subclass__" (.ref 37)::kg p "is_whole" 4 225 7 1 40 lw3 223 ["thing"] (kh p "are_whole" 5 232 9 1 47 lw3 223 (kg p "is_fraction" 6 238 11 1 52 lw3 223 ["thing", "top", "bottom"] (kg p "greatest_divisor" 7 247 16 2 59 lw3 223 ["one", "other"] (kg p "lowest" 8 255 21 2 66 lw3 223 ["top", "bottom", "shared"] (kg p "corners_left" 11 268 26 1 73 lw6 264 ["rows"] (kg p "piece_left" 12 275 28 1 80 lw6 264 ["rows"] (kg p "cut_down" 13 282 30 2 87 lw6 264 ["piece", "rows", "row"] (kh p "places_of" 14 291 34 1 94 lw6 264 (kg p "cut_piece" 15 297 36 2 99 lw6 264 ["piece", "row", "left", "at", "corner", "before", "crossing"] (kg p "beyond" 16 310 47 2 106 lw6 264 ["row", "corner", "a", "b", "c", "x", "y", "bottom"] (kh p "where_crossed" 17 324 51 3 113 lw6 264 (kg p "from_least" 18 330 56 1 118 lw6 264 ["piece", "start", "at", "corner"] (kg p "is_ahead" 19 340 62 2 125 lw6 264 ["one", "other"] (kg p "is_row" 21 350 65 1 132 lw7 348 ["thing"] (kg p "turn_to" 22 357 69 2 139 lw7 348 ["one", "other"] (kg p "go_round" 23 365 71 1 146 lw7 348 ["rows", "first", "left", "right"] (kg p "furthest" 24 375 80 3 153 lw7 348 ["first", "rows", "sign", "last", "row"] (kg p "points_back" 25 386 86 2 160 lw7 348 ["first", "rows", "row"] (kh p "is_field" 27 397 92 1 167 lw2 395 (kg p "is_field_row" 28 403 98 1 172 lw2 395 ["thing", "a", "b", "c"] (kh p "is_near" 29 413 103 1 179 lw2 395 (kg p "need_field" 30 419 105 1 184 lw2 395 ["thing"] (kh p "clash_shares" 32 428 109 1 191 lw0 426 (kg p "clashing" 33 434 112 1 196 lw0 426 ["rows", "core", "rest", "at"] (kg p "first_that_empties" 34 444 120 2 203 lw0 426 ["core", "rest", "at", "piece"] (kg p "balance" 35 454 127 1 210 lw0 426 ["core", "one", "other", "third"] (kh p "are_weights" 37 466 134 2 217 "roundcuts.sums" 464 (kh p "whole_sum" 38 472 138 2 222 "roundcuts.sums" 464 (kg p "first_numbers" 40 480 149 1 227 lw4 478 ["rows", "numbers", "number", "row"] (kg p "weights_by" 41 490 154 3 234 lw4 478 ["numbers", "shares", "many", "weights", "row", "share"] (kg p "nothing_weights" 43 504 160 1 241 "roundcuts.nones" 502 ["field"] (kg p "shows_nothing" 44 511 165 2 248 "roundcuts.nones" 502 ["field", "thing", "tops", "bottom"] (kg p "_law_take" 46 523 172 2 255 lw 521 ["_law_state_here", "_law_many", "_law_found", "_law_stirred"] (kg p "_law_divisor" 47 533 181 2 262 lw 521 ["_law_one", "_law_other"] (kg p "_law_low" 48 541 185 2 269 lw 521 ["_law_top", "_law_bottom", "_law_by"] (kg p "_law_times" 49 550 190 2 276 lw 521 ["_law_one", "_law_other"] (kg p "_law_cell_at" 50 558 192 2 283 lw 521 ["_law_script", "_law_k"] (kg p "_law_state" 51 566 196 2 290 lw 521 ["_law_script", "_law_k", "_law_cell"] (kg p "_law_box" 52 575 201 1 297 lw 521 ["_law_state_here", "_law_rows", "_law_a", "_law_b", "_law_many", "_law_turn", "_law_x", "_law_y"] (kg p "_law_spike" 53 589 213 1 304 lw 521 ["_law_state_here", "_law_long", "_law_rows"] (kg p "_law_field" 54 598 219 1 311 lw 521 ["_law_state_here", "_law_rows", "_law_way", "_law_u", "_law_v", "_law_found", "_law_a", "_law_b", "_law_c"] (kg p "_law_bare" 55 613 232 1 318 lw 521 ["_law_state_here", "_law_field_here", "_law_way", "_law_a", "_law_b", "_law_c"] (kg p "_law_cross" 56 625 243 2 325 lw 521 ["_law_one", "_law_other", "_law_by", "_law_x"] (kg p "_law_less" 57 635 249 2 332 lw 521 ["_law_one", "_law_other"] (kg p "_law_plus" 58 643 251 2 339 lw 521 ["_law_one", "_law_other"] (kg p "_law_value" 59 651 253 2 346 lw 521 ["_law_row", "_law_place"] (kg p "_law_keeps" 60 659 255 2 353 lw 521 ["_law_row", "_law_place"] (kg p "_law_ahead" 61 667 257 2 360 lw 521 ["_law_one", "_law_other"] (kg p "_law_minus" 62 675 261 2 367 lw 521 ["_law_one", "_law_other"] (kg p "_law_bend" 63 683 263 3 374 lw 521 ["_law_one", "_law_other", "_law_third", "_law_ahead_here"] (kg p "_law_chain" 64 693 266 1 381 lw 521 ["_law_places", "_law_found", "_law_place"] (kh p "_law_ring" 65 702 273 1 388 lw 521 (kh p "_law_corners" 66 708 281 1 393 lw 521 (kg p "_law_whole" 67 714 289 1 398 lw 521 ["_law_thing"] (kg p "_law_is_fraction" 68 721 291 1 405 lw 521 ["_law_thing"] (kh p "_law_sums" 69 728 295 2 412 lw 521 (kg p "_law_is_void" 70 734 300 2 417 lw 521 ["_law_field_here", "_law_thing", "_law_weight", "_law_a", "_law_b", "_law_c"] (kg p "_law_bent" 71 746 308 2 424 lw 521 ["_law_state_here", "_law_weights", "_law_at", "_law_odd", "_law_some_here"] (kh p "_law_some" 72 757 314 3 431 lw 521 (k1 []::k0::kp "law" (tp p 73)::kc "law" 763 320 1 3 436 437 .none .none 438 766 767::kf "law" (tp p 73) 439 lw 521::[]))))))))))))))))))))))))))))))))))))))))))))))))))))))))))))
def hp (p:Program)(P:Params)(n:Nat)(m:List (Str×Nat×Value))(e:Nat)(c:List (Nat×Obj)):List Obj:=c.foldl (λl x=>l.set x.1 x.2) ((PySem.W.boot_heap P).objs.toList.set 3 (kd P e m)++(ob p P).take n)
def sh (p:Program)(w:World)(os:OsState)(n:Nat)(m:List (Str×Nat×Value))(e:Nat)(c:List (Nat×Obj))(k:Nat):Shared:=⟨⟨⟨hp p w.params n m e c⟩,{}⟩,⟨[]⟩,{},k,os⟩
def hf (p:Program)(P:Params):Heap:=⟨⟨hp p P 430 mn 73 []⟩,{}⟩
abbrev as:List Addr:=[3,45,46,50,51,57,58,64,65,71,72,78,79,85,86,92,93,97,98,104,105,111,112,116,117,123,124,130,131,137,138,144,145,151,152,158,159,165,166,170,171,177,178,182,183,189,190,194,195,201,202,208,209,215,216,220,221,225,226,232,233,239,240,246,247,253,254,260,261,267,268,274,275,281,282,288,289,295,296,302,303,309,310,316,317,323,324,330,331,337,338,344,345,351,352,358,359,365,366,372,373,379,380,386,387,391,392,396,397,403,404,410,411,415,416,422,423,429,430,434,435,439,440]
def Kp (p:Program)(P:Params):xo:=as.map λa=>(a,(hp p P 430 mn 73 []).getD a k0)
abbrev pg:Program:=PySem.Challenge.pw_roundcuts_k50_weights_that_show_nothing
abbrev K (P:Params):xo:=Kp pg P
def Gx (p:Program)(P:Params):as=(Kp p P).map (·.1):=by unfold Kp;rw[uP];exact(List.map_id _).symm
abbrev Hk (p:Program):PySem.W.Hook:=PySem.W.kHook (Kp p) as (Gx p)
abbrev keep:List Nat:=[1,2,4,5,6,7,8,10,11,12,13,14,15,16,17,18,19,21,22,23,24,25,27,28,29,30,32,33,34,35,37,38,40,41,43,44,46,47,48,49,50,51,52,53,54,55,56,57,58,59,60,61,62,63,64,65,66,67,68,69,70,71,72,73]
abbrev vw:Program:=PySem.W.view pg keep
def dk {P:Params}{x:Str}{st:Stmt}{f cd t:Nat}{m:Str}(a:PySem.W.nsIn (K P) mainGlobals x=some (some (.ref f)))(l:(K P).lookup f=some (kf x st cd m t))(c:PySem.W.codeIn (K P) (.ref cd) x=true):DD (K P) x st:=dd a l c (by unfold PySem.W.keepIn;dsimp only;rw[l];rfl)
def dl {P:Params}{x:Str}{st:Stmt}(f cd:Nat)(m:Str)(t:Nat)(a:PySem.W.nsIn (K P) mainGlobals x=some (some (.ref f)):=by kernel_rfl)(l:(K P).lookup f=some (kf x st cd m t):=by kernel_rfl)(c:PySem.W.codeIn (K P) (.ref cd) x=true:=by kernel_rfl):DD (K P) x st:=dk a l c
end K50
set_option maxHeartbeats 0 in
lay_quick PySem.Challenge.pw_roundcuts_k50_weights_that_show_nothing
namespace K50
open PySem L2 PySem.W
abbrev tb:=PySem.W.Fast.tw14364793385576792824
abbrev p':=PySem.W.Fast.tw3802899579455937501
abbrev v':=view p' keep
abbrev im:=PySem.W.Fast.tw5923862056798008813 p'.main.body
abbrev ann:Option Value:=some (.ref 6)
abbrev q:Pos:=⟨0,0,0,0⟩
abbrev bd:=behindTheImports p'
abbrev env:Env:={scope:=p'.main.scope,locals:=mainNs,globals:=mainNs,cells:=[],code:=(.ref 13),frame:=some 14}
abbrev cb:Code:=.body bd env
def r0 (w:World)(os:OsState):topGo tb p' w 11 ann 12 ⟨boot_heap w.params,⟨[]⟩,boot_drawn,boot_toks,os⟩ (topStub p')=some ((sh p' w os 4 ((mn.take 9).set 0 (ke "__name__" 165 (.str "__main__" 164))) 9 [(12,k0)] 187),⟨denote tb cb,cb,⟨0,0,0,0⟩,[topFrame q]⟩):=by kernel_rfl
def r1 (w:World)(os:OsState):segRun tb p' w 11 ann 1 1 (sh p' w os 4 ((mn.take 9).set 0 (ke "__name__" 165 (.str "__main__" 164))) 9 [(12,k0)] 187) (blockOf bd env cb ⟨0,0,0,0⟩ [topFrame q])=some (.next,(sh p' w os 4 ((mn.take 9).set 0 (ke "__name__" 165 (.str "__main__" 164))) 9 [(12,k0)] 187),cb,⟨0,0,0,0⟩):=by kernel_rfl
def c0 (w:World)(os:OsState):segRun tb p' w 11 ann 1 713 (sh p' w os 4 ((mn.take 9).set 0 (ke "__name__" 165 (.str "__main__" 164))) 9 [(12,k0)] 187) (piecesOf ((bd.drop 0).take 15) env cb ⟨0,0,0,0⟩ [topFrame q])=some (.next,(sh p' w os 88 ((mn.take 21).set 0 (ke "__name__" 165 (.str lw6 264))) 21 [(12,tl 11)] 297),cb,⟨34,0,35,89⟩):=by kernel_rfl
def c1 (w:World)(os:OsState):segRun tb p' w 11 ann 1 705 (sh p' w os 88 ((mn.take 21).set 0 (ke "__name__" 165 (.str lw6 264))) 21 [(12,tl 11)] 297) (piecesOf ((bd.drop 15).take 26) env cb ⟨34,0,35,89⟩ [topFrame q])=some (.next,(sh p' w os 223 ((mn.take 42).set 0 (ke "__name__" 165 (.str lw4 478))) 42 [(12,tl 32)] 490),cb,⟨149,0,153,18⟩):=by kernel_rfl
def c2 (w:World)(os:OsState):segRun tb p' w 11 ann 1 703 (sh p' w os 223 ((mn.take 42).set 0 (ke "__name__" 165 (.str lw4 478))) 42 [(12,tl 32)] 490) (piecesOf ((bd.drop 41).take 23) env cb ⟨149,0,153,18⟩ [topFrame q])=some (.next,(sh p' w os 370 (mn.take 63) 63 [(12,tl 53)] 693),cb,⟨263,0,265,133⟩):=by kernel_rfl
def c3 (w:World)(os:OsState):segRun tb p' w 11 ann 1 297 (sh p' w os 370 (mn.take 63) 63 [(12,tl 53)] 693) (piecesOf ((bd.drop 64).take 10) env cb ⟨263,0,265,133⟩ [topFrame q])=some (.next,(sh p' w os 430 mn 73 [] 769),cb,⟨320,0,335,15⟩):=by kernel_rfl
def GL:bd=(((bd.drop 0).take 15)++(((bd.drop 15).take 26)++(((bd.drop 41).take 23)++(((bd.drop 64).take 10)++[])))):=by kernel_rfl
def cl (w:World)(os:OsState):topRun tb p' w 11 ann 2 (sh p' w os 430 mn 73 [] 769) ⟨doneF .next,cb,⟨320,0,335,15⟩,[topFrame q]⟩=some (sh p' w os 430 mn 73 [] 769):=by kernel_rfl
def run (w:World)(os:OsState):topRun tb p' w 11 ann (12+(1+(713+(705+(703+(297+2)))))) ⟨boot_heap w.params,⟨[]⟩,boot_drawn,boot_toks,os⟩ (topStub p')=some ⟨hf p' w.params,⟨[]⟩,{},769,os⟩:=go_top (r0 w os) (piece_block (r1 w os) (GL▸(piece_app (c0 w os) (piece_app (c1 w os) (piece_app (c2 w os) (piece_app (c3 w os) (piece_nil (cl w os))))))))
def z0 (w:World):((boot_heap w.params).isNs mainGlobals&&(⟨[]⟩:Array GenState).size==0,(boot_heap w.params).objs.size,(boot_heap w.params).nsMap mainGlobals "__annotations__")=(true,11,ann):=by kernel_rfl
def z1 (w:World)(os:OsState):(staticsOk im (boot_heap w.params) (hf p' w.params)&&namesBound p' (hf p' w.params)&&gensDone ⟨hf p' w.params,⟨[]⟩,{},769,os⟩&&laidKept (boot_heap w.params) (hf p' w.params))=true:=by kernel_rfl
abbrev zx (w:World)(os:OsState):=PySem.W.Fast.tw4187177175401517315 v' [] im (λs=>xlAt v' [] s&&recOk [] s) true ⟨hf p' w.params,⟨[]⟩,{},769,os⟩
def z20 (w os):(zx w os).1=PyProof.Rows.expectedOf v':=by kernel_rfl
def z21 (w os):(zx w os).2.1=bltViewBooted:=by kernel_rfl
def z22 (w os):(zx w os).2.2.1=true:=by kernel_rfl
def z23 (w os):(zx w os).2.2.2.1=true:=by kernel_rfl
def z24 (w os):(zx w os).2.2.2.2.1=pinGoodD (PyProof.Rows.drecsOf v'):=by kernel_rfl
def z25 (w os):(zx w os).2.2.2.2.2.1=PyProof.Rows.plainGoodE v' (looseW v' []):=by kernel_rfl
def z26 (w os):(zx w os).2.2.2.2.2.2.1=PyProof.Rows.plainGoodD v' []:=by kernel_rfl
def z27 (w os):(zx w os).2.2.2.2.2.2.2.1=wideGood v':=by kernel_rfl
def z28 (w os):(zx w os).2.2.2.2.2.2.2.2=clsGoodW v' []:=by kernel_rfl
def z2 (w os):zx w os=openGood v' []:=uu (z20 w os) (uu (z21 w os) (uu (z22 w os) (uu (z23 w os) (uu (z24 w os) (uu (z25 w os) (uu (z26 w os) (uu (z27 w os) (z28 w os))))))))
def z3 (w:World)(os:OsState):Hook.obs (Hk p') ⟨hf p' w.params,⟨[]⟩,{},769,os⟩=Hook.val (Hk p') w:=by kernel_rfl
def JR:LeftO p' v' [] (λs=>xlAt v' [] s&&recOk [] s) (Hook.obs (Hk p')) (Hook.val (Hk p')) 4806:=by
 have h1:=run;have h2:=z1;have h3:=z2;unfold zx at h3;rw[show tb=treeTable from PySem.W.Fast.te14364793385576792824.symm] at h1;rw[show im=importedModules p'.main.body from congrFun PySem.W.Fast.te5923862056798008813.symm _] at h2 h3;rw[show PySem.W.Fast.tw4187177175401517315=openSeen from PySem.W.Fast.te4187177175401517315.symm] at h3;exact LeftO.of_pieces (boot_open rfl rfl λ_=>rfl) z0 h1 (by decide) λw=>funext λos=>by rw[h2 w os,h3 w os,z3 w os]
def JS (p:Program)(h:p=p'):LeftO p (view p keep) [] (λs=>xlAt (view p keep) [] s&&recOk [] s) (Hook.obs (Hk p)) (Hook.val (Hk p)) 4806:=by subst h;exact JR
def left:LeftO pg vw [] (λs=>xlAt vw [] s&&recOk [] s) (Hook.obs (Hk pg)) (Hook.val (Hk pg)) 4806:=JS pg PySem.W.Fast.te3802899579455937501
end K50
namespace K50
open PySem L2 Trn
def there {l:PySem.W.OpenLaw}{w:World}{P:Params}{h:Heap}{mg:Str->Option Value}{fa:Addr}(X:(K P).In h)(G:h.Ns mainGlobals mg)(hfa:mg "law" = some (.ref fa)) :
  ∃fd:FuncData,(∀(s:Shared) (v:Value),BindsTo s fd ⟨[v],[]⟩ [("_law_script", v)])/\∀base:Heap,(K P).In base->base.Ns mainGlobals mg->ue l.prog w (K P) mg base CX0 10 fa fd ["_law_script"] (dm (K P)):=
 all_mk X G hfa (dl 46 45 lw3 223)
  (dl 65 64 lw3 223)
  (dl 112 111 lw6 264)
  (dl 131 130 lw6 264)
  (dl 145 144 lw7 348)
  (dl 183 182 lw2 395)
  (dl 233 232 lw4 478)
  (dl 240 239 lw4 478)
  (dl 261 260 lw 521)
  (dl 268 267 lw 521)
  (dl 289 288 lw 521)
  (dl 338 337 lw 521)
  (dl 404 403 lw 521)
  (dl 51 50 lw3 223)
  (dl 58 57 lw3 223)
  (dl 72 71 lw3 223)
  (dl 117 116 lw6 264)
  (dl 124 123 lw6 264)
  (dl 159 158 lw7 348)
  (dl 166 165 lw7 348)
  (dl 216 215 lw0 426)
  (dl 226 225 "roundcuts.sums" 464)
  (dl 275 274 lw 521)
  (dl 296 295 lw 521)
  (dl 303 302 lw 521)
  (dl 310 309 lw 521)
  (dl 366 365 lw 521)
  (dl 411 410 lw 521)
  (dl 430 429 lw 521)
  (dl 98 97 lw6 264)
  (dl 105 104 lw6 264)
  (dl 138 137 lw7 348)
  (dl 152 151 lw7 348)
  (dl 221 220 "roundcuts.sums" 464)
  (dl 282 281 lw 521)
  (dl 317 316 lw 521)
  (dl 331 330 lw 521)
  (dl 345 344 lw 521)
  (dl 373 372 lw 521)
  (dl 93 92 lw6 264)
  (dl 178 177 lw2 395)
  (dl 324 323 lw 521)
  (dl 352 351 lw 521)
  (dl 380 379 lw 521)
  (dl 416 415 lw 521)
  (dl 435 434 lw 521)
  (dl 86 85 lw6 264)
  (dl 359 358 lw 521)
  (dl 387 386 lw 521)
  (dl 423 422 lw 521)
  (dl 79 78 lw6 264)
  (dl 209 208 lw0 426)
  (dl 392 391 lw 521)
  (dl 171 170 lw2 395)
  (dl 202 201 lw0 426)
  (dl 397 396 lw 521)
  (dl 190 189 lw2 395)
  (dl 195 194 lw0 426)
  (dl 247 246 "roundcuts.nones" 502)
  (dl 254 253 "roundcuts.nones" 502)
  (by kernel_rfl:PySem.W.nsIn (K P) mainGlobals "law" = some (some (.ref 440))) (by kernel_rfl:(K P).lookup 440=some (kf "law" qH 439 lw 521)) (by kernel_rfl:PySem.W.codeIn (K P) (.ref 439) "law" = true) (by kernel_rfl) (by kernel_rfl) (by kernel_rfl) (by kernel_rfl) (by kernel_rfl) (by kernel_rfl) (by kernel_rfl) (by kernel_rfl) (by kernel_rfl) (by kernel_rfl) (by kernel_rfl) (by kernel_rfl) (by kernel_rfl) (by kernel_rfl) (by kernel_rfl) (by kernel_rfl) (by kernel_rfl) ((by kernel_rfl:PySem.W.nsIn (K P) mainGlobals "FAR" = some (some (.int 60001 266))))
end K50
end
open PySem PySem.W PyProof.Rows
set_option maxRecDepth 100000 in
set_option maxHeartbeats 0 in
theorem PySem.Challenge.cw_roundcuts_k50_weights_that_show_nothing_holds : PySem.Challenge.rw_roundcuts_k50_weights_that_show_nothing.Holds := by
 w_on;o_law
 refine holds_open (q:=K50.vw) (XP:=XL K50.vw []) (YP:=Hook.says (K50.Hk _)) K50.left (Hook.of _) (Hook.keeps _) (fun s e=>xl_of s (Bool.and_eq_true_iff.mp e).1)
  XL.keeps rfl rfl rfl (fun s e=>recFacts_of (Bool.and_eq_true_iff.mp e).2) rfl (by assumption) (by decide +kernel) ⟨rfl,rfl,rfl,rfl,rfl,by decide +kernel⟩ ?hw ?hc
 case hw=>w_witness2
 exact K50.walk (l:=PySem.Challenge.rw_roundcuts_k50_weights_that_show_nothing) rfl rfl (fun w h Y=>PySem.W.kIn_of Y) (fun P=>by kernel_rfl) (fun w mg fa h X G e=>K50.there X G e)
