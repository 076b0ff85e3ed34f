import PyProof.Rows.All
import Wide.All
import OpenK.AllK
import Wide.FinOn
import Lean
import PyProof.EqAt
import PyProof.EqKinds
import PyProof.TupleCall
import PyProof.ZipIter
import PyProof.NeData
import PyProof.P3Eq
import PyProof.EnumFor
import PyProof.EnumMake
import PyProof.Draws
import KE.KTryMore
import KE.KIsAll
import PyProof.ExcAttrAll.ValueError
import KE.KLam
import PySem.Challenge.RW_roundcuts_k15_whole_between_directions
set_option bootstrap.genMatcherCode false
set_option genSizeOfSpec false
set_option genInjectivity false
set_option Elab.async false
set_option linter.all false
set_option maxRecDepth 100000
namespace L2
open PySem PySem.Spec PyProof.Rows
noncomputable abbrev Key := Sum Int Str
noncomputable def keyIs : Key → Value → Bool
  | .inl k, v => Value.isInt k v
  | .inr x, v => Value.isStrOf x v
noncomputable def keyH (w : World) : Key → Int
  | .inl k => hashInt k
  | .inr x => hashStr w x
theorem keyIs_shape : ∀ {k : Key} {v : Value}, keyIs k v = true → (∃ i t, k = Sum.inl i ∧ v = Value.int i t) ∨ (∃ x t, k = Sum.inr x ∧ v = Value.str x t)
  | .inl i, v, h => by
    obtain ⟨t, e⟩ := Value.isInt_shape (k := i) (v := v) h
    exact .inl ⟨i, t, rfl, e⟩
  | .inr x, v, h => by
    obtain ⟨t, e⟩ := Value.isStrOf_shape (x := x) (v := v) h
    exact .inr ⟨x, t, rfl, e⟩
theorem key_ll (a b : Int) : decide ((Sum.inl a : Key) = Sum.inl b) = (a == b) := by
  by_cases e : a = b
  · subst e; simp
  · have h : ¬ (Sum.inl a : Key) = Sum.inl b := fun q => e (Sum.inl.inj q)
    rw [decide_eq_false h]
    exact (beq_eq_false_iff_ne.mpr e).symm
theorem key_rr (a b : Str) : decide ((Sum.inr a : Key) = Sum.inr b) = decide (a = b) := by
  by_cases e : a = b
  · subst e; simp
  · have h : ¬ (Sum.inr a : Key) = Sum.inr b := fun q => e (Sum.inr.inj q)
    rw [decide_eq_false h, decide_eq_false e]
theorem key_lr (a : Int) (b : Str) : decide ((Sum.inl a : Key) = Sum.inr b) = false := decide_eq_false (fun q => nomatch q)
theorem key_rl (a : Str) (b : Int) : decide ((Sum.inr a : Key) = Sum.inl b) = false := decide_eq_false (fun q => nomatch q)
noncomputable def mixKind (prog : Program) (w : World) : PySem.KeyKind prog w Key where
  is := keyIs
  hash := keyH w
  inj := fun v a b ha hb => by
    rcases keyIs_shape ha with ⟨i, t, rfl, rfl⟩ | ⟨x, t, rfl, rfl⟩
    · rcases keyIs_shape hb with ⟨j, u, rfl, e⟩ | ⟨y, u, rfl, e⟩
      · injection e with e1 _; rw [e1]
      · exact nomatch e
    · rcases keyIs_shape hb with ⟨j, u, rfl, e⟩ | ⟨y, u, rfl, e⟩
      · exact nomatch e
      · injection e with e1 _; rw [e1]
  byValue := fun k v h => by
    rcases keyIs_shape h with ⟨i, t, rfl, rfl⟩ | ⟨x, t, rfl, rfl⟩ <;> rfl
  pyHash := fun hv h => by
    rcases keyIs_shape hv with ⟨i, t, rfl, rfl⟩ | ⟨x, t, rfl, rfl⟩
    · exact wpAny_pyHash_int h
    · exact wpAny_pyHash_str h
  eqBool := fun hu hv h => by
    rcases keyIs_shape hu with ⟨i, t, rfl, rfl⟩ | ⟨x, t, rfl, rfl⟩
    · rcases keyIs_shape hv with ⟨j, u, rfl, rfl⟩ | ⟨y, u, rfl, rfl⟩
      · rw [key_ll] at h; exact wpAny_eqBool_int h
      · rw [key_lr] at h; exact SeqAt.EqAt.int_str i t y u _ _ _ _ h
    · rcases keyIs_shape hv with ⟨j, u, rfl, rfl⟩ | ⟨y, u, rfl, rfl⟩
      · rw [key_rl] at h; exact SeqAt.EqAt.str_int x t j u _ _ _ _ h
      · rw [key_rr] at h; exact wpAny_eqBool_str h
  «strs» := fun k x t v h => by
    rcases keyIs_shape h with ⟨i, u, rfl, e⟩ | ⟨y, u, rfl, e⟩
    · exact nomatch e
    · injection e with e1 _
      subst e1
      cases v <;> rfl
end L2
namespace L2
open PySem PySem.Spec PyProof.Rows
inductive V where
  | non | bl (b : Bool) | int (i : Int) | str (x : Str) | byt (b : Array UInt8) | flt (b : UInt64) | ref (a : Addr) | ty (n : String)
  deriving DecidableEq
noncomputable def RelV : V → Value → Prop
  | .non, u => u = Value.none
  | .bl b, u => u = Value.bool b
  | .int i, u => ∃ t, u = Value.int i t
  | .str x, u => ∃ t, u = Value.str x t
  | .byt b, u => ∃ t, u = Value.bytes b t
  | .flt b, u => ∃ t, u = Value.float b t
  | .ref a, u => u = Value.ref a
  | .ty n, u => u = Value.type n
noncomputable abbrev Vals : List V → List Value → Prop := Paired RelV
theorem Vals.length {xs : List V} {us : List Value} (r : Vals xs us) : xs.length = us.length := Paired.length r
theorem Vals.get : ∀ {xs : List V} {us : List Value} {i : Nat} {x : V}, Vals xs us → xs[i]? = some x → ∃ u, us[i]? = some u ∧ RelV x u
  | _, _, _, _, .nil, e => by simp at e
  | _, _, 0, _, .cons r _, e => by simp at e; subst e; exact ⟨_, rfl, r⟩
  | _, _, i + 1, x, .cons _ t, e => by
    obtain ⟨u, h1, h2⟩ := Vals.get (i := i) (x := x) t (by simpa using e)
    exact ⟨u, by simpa using h1, h2⟩
theorem Vals.set {x : V} {u : Value} (r : RelV x u) : ∀ {xs : List V} {us : List Value} (i : Nat), Vals xs us → Vals (xs.set i x) (us.set i u)
  | _, _, _, .nil => .nil
  | _, _, 0, .cons _ t => .cons r t
  | _, _, i + 1, .cons q t => .cons q (Vals.set r i t)
theorem Vals.append : ∀ {xs ys : List V} {us ws : List Value}, Vals xs us → Vals ys ws → Vals (xs ++ ys) (us ++ ws)
  | _, _, _, _, .nil, s => s
  | _, _, _, _, .cons r t, s => .cons r (Vals.append t s)
theorem Vals.take : ∀ {xs : List V} {us : List Value} (n : Nat), Vals xs us → Vals (xs.take n) (us.take n)
  | _, _, 0, _ => .nil
  | _, _, _ + 1, .nil => .nil
  | _, _, n + 1, .cons r t => .cons r (Vals.take n t)
theorem Vals.drop : ∀ {xs : List V} {us : List Value} (n : Nat), Vals xs us → Vals (xs.drop n) (us.drop n)
  | _, _, 0, r => r
  | _, _, _ + 1, .nil => .nil
  | _, _, n + 1, .cons _ t => Vals.drop n t
noncomputable def RelO : Option V → Option Value → Prop
  | some v, some u => RelV v u
  | none, none => True
  | _, _ => False
noncomputable def KV {κ : Type} : List (κ × V) → List (κ × Value) → Prop := Paired fun (p : κ × V) (q : κ × Value) => p.1 = q.1 ∧ RelV p.2 q.2
noncomputable def kV : Key → V
  | .inl i => .int i
  | .inr x => .str x
inductive HO where
    | lst (xs : List V)
    | tup (xs : List V)
    | dK (kvs : List (Key × V)) | dT (kvs : List (List Key × V))
    | set (S : Int → Bool) (n : Nat)
    | ins (C dx : Addr) (fs : List (Str × V))
    | own (x : Addr)
    | xd (fs : List (Str × V))
    | met (f x : Addr)
    | rng (lo hi : Int)
    | frz (o : Obj) (u : HO)
    | tbl (ps : Array Value)
  | tb (q : Str)
    | ext (φ : Heap → Prop)
noncomputable abbrev Hp := Addr → Option HO
noncomputable def upd (H : Hp) (a : Addr) (o : HO) : Hp := fun b => if b = a then some o else H b
theorem upd_same {H : Hp} {a : Addr} {o : HO} : upd H a o a = some o := by unfold upd; rw [if_pos rfl]
theorem upd_ne {H : Hp} {a b : Addr} {o : HO} (h : b ≠ a) : upd H a o b = H b := by unfold upd; rw [if_neg h]
theorem ne_of {H : Hp} {a b : Addr} {o u : HO} (h : H a = some o) (h' : H b = some u) (d : o ≠ u) : a ≠ b := by
  intro e; subst e; rw [h] at h'; exact d (Option.some.inj h')
theorem ne_of_none {H : Hp} {a b : Addr} {o : HO} (h : H a = some o) (h' : H b = none) : a ≠ b := by
  intro e; subst e; rw [h] at h'; cases h'
section
variable (P : Program) (w : World)
noncomputable def ObjOk (H : Hp) (h : Heap) (a : Addr) : HO → Prop
  | .lst xs => xs.length ≤ sizeLine ∧ ∃ (its : List Value) (n : Nat), Vals xs its ∧ h.get? a = some { cls := .type "list", data := .seq its.toArray n }
  | .tup xs => xs.length ≤ sizeLine ∧ ∃ its : List Value, Vals xs its ∧ IsTup h a its.toArray
  | .dK kvs => kvs.length ≤ sizeLine ∧ (a == sysModules) = false ∧ ∃ vs, KV kvs vs ∧ h.DictOf (mixKind P w) a vs
  | .dT kvs => kvs.length ≤ sizeLine ∧ (a == sysModules) = false ∧ ∃ xs : List (List Key × Addr × Value),
      Paired (fun (p : List Key × V) (q : List Key × Addr × Value) => p.1 = q.1 ∧ H q.2.1 = some (.tup (p.1.map kV)) ∧ RelV p.2 q.2.2) kvs xs ∧
      ∃ o es ep, h.get? a = some o ∧ o.ExactDict ∧ o.data = .dict es ep ∧ es.toList = xs.map (entryOfKey (tupleKind (mixKind P w))) ∧ (xs.map (·.1)).Nodup
  | .set S n => h.SetOf (intKind P w) a S n
  | .ins C dx fs => H dx = some (.own a) ∧ fs.length ≤ 1000 ∧ dx ≠ a ∧ h.get? a = some (PySem.W.instObj C dx) ∧
      ∃ mA, h.Ns1 dx mA ∧ (∀ f, RelO (fs.lookup f) (mA f)) ∧ PySem.Within mA (fs.map (·.1))
  | .own _ => ∃ o, h.get? a = some o
  | .xd fs => ∃ mA, h.Ns1 a mA ∧ ∀ f, RelO (fs.lookup f) (mA f)
  | .rng lo hi => ∃ t u v, h.get? a = some { cls := .type "range", data := .fields #[.int lo t, .int hi u, .int 1 v] }
  | .frz o u => h.get? a = some o ∧ ObjOk H h a u
  | .tbl ps => h.get? a = some { cls := .none, data := .fields ps }
  | .tb q => ∃ ps : Array Value, h.get? a = some { cls := .none, data := .fields ps } ∧ TriplesOk ps.toList ∧ ∀ pos cv, codeAmong pos ps.toList = some cv →
      ∃ c oc vs t, cv = .ref c ∧ H c = some (.frz oc (.own c)) ∧ oc.data = .fields vs ∧ vs[1]? = some (.str q t)
  | .met f x => h.get? a = some (PySem.W.methodObj (.ref f) (.ref x))
  | .ext φ => φ h ∧ (∃ o, h.get? a = some o) ∧ ∀ h1 h2 : Heap, φ h1 → (∀ o, h1.get? a = some o → h2.get? a = some o) → φ h2
noncomputable def HOk (H : Hp) (h : Heap) : Prop := ∀ a o, H a = some o → ObjOk P w H h a o
end
section
variable {P : Program} {w : World} {H H' : Hp} {h h' : Heap} {a : Addr} {o : HO}
theorem ObjOk.lt (x : ObjOk P w H h a o) : a < h.objs.size := by
  cases o with
  | lst xs => obtain ⟨_, _, _, _, e⟩ := x; exact Heap.lt_size e
  | tup xs => obtain ⟨_, _, _, p⟩ := x; exact p.lt
  | dK kvs => obtain ⟨_, _, _, _, o, _, _, e, _⟩ := x; exact Heap.lt_size e
  | dT kvs => obtain ⟨_, _, _, _, o, _, _, e, _⟩ := x; exact Heap.lt_size e
  | set S n => obtain ⟨o, _, _, _, e, _⟩ := x; exact Heap.lt_size e
  | ins C dx fs => obtain ⟨_, _, _, e, _⟩ := x; exact Heap.lt_size e
  | own y => obtain ⟨_, e⟩ := x; exact Heap.lt_size e
  | xd fs => obtain ⟨_, ⟨_, _, _, e, _⟩, _⟩ := x; exact Heap.lt_size e
  | rng lo hi => obtain ⟨_, _, _, e⟩ := x; exact Heap.lt_size e
  | frz ob u => obtain ⟨e, _⟩ := x; exact Heap.lt_size e
  | tbl ps => exact Heap.lt_size (show h.get? a = some _ from x)
  | tb q => obtain ⟨_, e, _⟩ := x; exact Heap.lt_size e
  | met f y => exact Heap.lt_size (show h.get? a = some _ from x)
  | ext φ => obtain ⟨_, ⟨_, e⟩, _⟩ := x; exact Heap.lt_size e
theorem Paired.mapP {α β : Type} {F G : α → β → Prop} : ∀ {l₁ : List α} {l₂ : List β}, Paired F l₁ l₂ → (∀ a b, F a b → G a b) → Paired G l₁ l₂
  | _, _, .nil, _ => .nil
  | _, _, .cons r t, f => .cons (f _ _ r) (Paired.mapP t f)
theorem ObjOk.stay (x : ObjOk P w H h a o) (k : ∀ b u, (b = a ∨ H b = some (.own a)) → h.get? b = some u → h'.get? b = some u)
    (ho : ∀ b, H b = some (.own a) → H' b = some (.own a)) (ht : ∀ b xs, H b = some (.tup xs) → H' b = some (.tup xs)) (hf : ∀ b o u, H b = some (.frz o u) → H' b = some (.frz o u)) : ObjOk P w H' h' a o := by
  induction o with
  | lst xs => obtain ⟨z, its, n, r, e⟩ := x; exact ⟨z, its, n, r, k _ _ (.inl rfl) e⟩
  | tup xs => obtain ⟨z, its, r, ob, e, c⟩ := x; exact ⟨z, its, r, ob, k _ _ (.inl rfl) e, c⟩
  | dK kvs => obtain ⟨z, y, vs, r, ob, es, ep, e, c⟩ := x; exact ⟨z, y, vs, r, ob, es, ep, k _ _ (.inl rfl) e, c⟩
  | dT kvs =>
    obtain ⟨z, y, xs, r, ob, es, ep, e, c⟩ := x
    exact ⟨z, y, xs, Paired.mapP r fun p q z => ⟨z.1, ht _ _ z.2.1, z.2.2⟩, ob, es, ep, k _ _ (.inl rfl) e, c⟩
  | set S n => obtain ⟨ob, es, ep, t, e, c⟩ := x; exact ⟨ob, es, ep, t, k _ _ (.inl rfl) e, c⟩
  | ins C dx fs =>
    obtain ⟨d, z, ne, e, mA, ⟨od, es, ep, e2, c⟩, r⟩ := x
    exact ⟨ho _ d, z, ne, k _ _ (.inl rfl) e, mA, ⟨od, es, ep, k _ _ (.inr d) e2, c⟩, r⟩
  | own y => obtain ⟨ob, e⟩ := x; exact ⟨ob, k _ _ (.inl rfl) e⟩
  | xd fs => obtain ⟨mA, ⟨od, es, ep, e, c⟩, r⟩ := x; exact ⟨mA, ⟨od, es, ep, k _ _ (.inl rfl) e, c⟩, r⟩
  | rng lo hi => obtain ⟨t, u, v, e⟩ := x; exact ⟨t, u, v, k _ _ (.inl rfl) e⟩
  | frz ob u ih => obtain ⟨e, q⟩ := x; exact ⟨k _ _ (.inl rfl) e, ih q⟩
  | tbl ps =>
    have e : h.get? a = some { cls := .none, data := .fields ps } := x
    show h'.get? a = some { cls := .none, data := .fields ps }
    exact k a _ (.inl rfl) e
  | tb q =>
    obtain ⟨ps, e, z, y⟩ := x
    exact ⟨ps, k _ _ (.inl rfl) e, z, fun pos cv e => let ⟨c, oc, vs, t, e1, e2, e3⟩ := y pos cv e; ⟨c, oc, vs, t, e1, hf _ _ _ e2, e3⟩⟩
  | met f y =>
    have e : h.get? a = some (PySem.W.methodObj (.ref f) (.ref y)) := x
    show h'.get? a = some (PySem.W.methodObj (.ref f) (.ref y))
    exact k a _ (.inl rfl) e
  | ext φ => obtain ⟨p, ⟨o, e⟩, st⟩ := x; exact ⟨st _ _ p fun o q => k _ _ (.inl rfl) q, ⟨o, k _ _ (.inl rfl) e⟩, st⟩
theorem HOk.lt (x : HOk P w H h) (e : H a = some o) : a < h.objs.size := (x a o e).lt
theorem HOk.fresh (x : HOk P w H h) (e : h.objs.size ≤ a) : H a = none := by
  cases q : H a with
  | none => rfl
  | some u => exact absurd (Nat.lt_of_lt_of_le (x.lt q) e) (Nat.lt_irrefl _)
theorem HOk.kept (x : HOk P w H h) (k : ∀ b u, h.get? b = some u → h'.get? b = some u) : HOk P w H h' := fun a o e =>
  (x a o e).stay (fun b u _ q => k b u q) (fun _ q => q) (fun _ _ q => q) fun _ _ _ q => q
theorem HOk.laid (x : HOk P w H h) (k : ∀ b u, h.get? b = some u → h'.get? b = some u) (hp : h.objs.size ≤ a) (new : ObjOk P w (upd H a o) h' a o) : HOk P w (upd H a o) h' := fun b u e => by
  have hn := x.fresh hp
  by_cases hb : b = a
  · subst hb; rw [upd_same] at e; cases e; exact new
  · rw [upd_ne hb] at e
    exact (x b u e).stay (fun c v _ q => k c v q) (fun c q => by rw [upd_ne (ne_of_none q hn)]; exact q) (fun c xs q => by rw [upd_ne (ne_of_none q hn)]; exact q) fun c o u q => by rw [upd_ne (ne_of_none q hn)]; exact q
end
noncomputable def Rd (H : Hp) (a : Addr) (u : HO) : Prop := H a = some u ∨ ∃ o, H a = some (.frz o u)
theorem Rd.ok {P : Program} {w : World} {H : Hp} {h : Heap} {a : Addr} {u : HO} (r : Rd H a u) (x : HOk P w H h) : ObjOk P w H h a u := by
  rcases r with r | ⟨o, r⟩
  · exact x a u r
  · obtain ⟨_, q⟩ := x a _ r
    exact q
noncomputable def Mut : Option HO → Prop
  | some (.lst _) => True
  | some (.dK _) => True
  | some (.dT _) => True
  | some (.set _ _) => True
  | some (.ins _ _ _) => True
  | some (.ext _) => True
  | some (.tb _) => True
  | _ => False
section
variable {P : Program} {w : World} {H : Hp} {h h' : Heap} {x e : Addr} {o' : HO}
theorem HOk.write (ok : HOk P w H h) (mu : Mut (H x)) (he : e = x ∨ H e = some (.own x)) (k : ∀ b u, b ≠ e → h.get? b = some u → h'.get? b = some u) (heo : ∃ u, h'.get? e = some u)
    (new : ObjOk P w (upd H x o') h' x o') : HOk P w (upd H x o') h' := fun b u q => by
  have nown : ∀ c y, H c = some (.own y) → c ≠ x := fun c y r z => by subst z; rw [r] at mu; exact mu
  have ntup : ∀ c xs, H c = some (.tup xs) → c ≠ x := fun c xs r z => by subst z; rw [r] at mu; exact mu
  have nfrz : ∀ c o u, H c = some (.frz o u) → c ≠ x := fun c o u r z => by subst z; rw [r] at mu; exact mu
  by_cases hb : b = x
  · subst hb; rw [upd_same] at q; cases q; exact new
  · rw [upd_ne hb] at q
    by_cases hbe : b = e
    · have q' : H b = some (.own x) := by
        rcases he with z | z
        · exact absurd (hbe.trans z) hb
        · rw [hbe]; exact z
      rw [q] at q'; cases q'
      obtain ⟨v, hv⟩ := heo
      exact ⟨v, by rw [hbe]; exact hv⟩
    · refine (ok b u q).stay (fun c v hc r => k c v ?_ r) (fun c r => by rw [upd_ne (nown c b r)]; exact r) (fun c xs r => by rw [upd_ne (ntup c xs r)]; exact r) fun c o u r => by rw [upd_ne (nfrz c o u r)]; exact r
      rcases hc with rfl | hc
      · exact hbe
      · rintro rfl
        rcases he with z | z
        · exact nown c b hc z
        · rw [hc] at z; cases z; exact hb rfl
end
structure Un (fs ex : List Addr) (H H' : Hp) (h h' : Heap) : Prop where
  keep : ∀ b o, h.get? b = some o → H b = none → b ∉ fs → b ∉ ex → h'.get? b = some o
  slot : ∀ b o, h.get? b = some o → H b = none → b ∈ fs → b ∉ ex → ∃ sl, h'.get? b = some { o with slots := sl }
  free : ∀ b o, h.get? b = some o → H b = none → b ∉ ex → H' b = none
  there : ∀ b o, h.get? b = some o → b ∉ ex → ∃ o', h'.get? b = some o'
  tups : ∀ b xs, H b = some (.tup xs) → H' b = some (.tup xs)
  frzs : ∀ b o u, H b = some (.frz o u) → H' b = some (.frz o u)
  tbls : ∀ b ps, H b = some (.tbl ps) → ∃ more, H' b = some (.tbl (ps ++ more))
section
variable {fs fs' ex ex' : List Addr} {H H1 H2 : Hp} {h h1 h2 h' : Heap} {a x e : Addr} {o : HO}
theorem Un.any (u : Un fs ex H H1 h h1) {b : Addr} {ob : Obj} (q : h.get? b = some ob) (n : H b = none) (hx : b ∉ ex) : ∃ sl, h1.get? b = some { ob with slots := sl } := by
  by_cases hb : b ∈ fs
  · exact u.slot b ob q n hb hx
  · exact ⟨ob.slots, u.keep b ob q n hb hx⟩
theorem Un.kept (k : ∀ b u, h.get? b = some u → h'.get? b = some u) : Un fs ex H H h h' :=
  ⟨fun b ob q _ _ _ => k b ob q, fun b ob q _ _ _ => ⟨ob.slots, k b ob q⟩, fun _ _ _ n _ => n, fun b ob q _ => ⟨ob, k b ob q⟩, fun _ _ q => q, fun _ _ _ q => q, fun _ ps q => ⟨#[], by rw [q]; simp⟩⟩
theorem Un.refl : Un fs ex H H h h := Un.kept fun _ _ q => q
theorem Un.laid (k : ∀ b u, h.get? b = some u → h'.get? b = some u) (hp : h.objs.size ≤ a) (hn : H a = none) : Un fs ex H (upd H a o) h h' where
  keep := fun b u q _ _ _ => k b u q
  slot := fun b u q _ _ _ => ⟨u.slots, k b u q⟩
  free := fun b u q n _ => by rw [upd_ne (Nat.ne_of_lt (Nat.lt_of_lt_of_le (Heap.lt_size q) hp))]; exact n
  there := fun b u q _ => ⟨u, k b u q⟩
  tups := fun b xs q => by rw [upd_ne (ne_of_none q hn)]; exact q
  frzs := fun b u xs q => by rw [upd_ne (ne_of_none q hn)]; exact q
  tbls := fun b ps q => ⟨#[], by rw [upd_ne (ne_of_none q hn), q]; simp⟩
theorem Un.write (mu : Mut (H x)) (he : e = x ∨ H e = some (.own x)) (k : ∀ b u, b ≠ e → h.get? b = some u → h'.get? b = some u) (heo : ∃ u, h'.get? e = some u) : Un fs ex H (upd H x o) h h' := by
  have hx : ∀ b, H b = none → b ≠ x := fun b n z => by subst z; rw [n] at mu; exact mu
  have hb : ∀ b, H b = none → b ≠ e := fun b n z => by
    subst z
    rcases he with r | r
    · exact hx b n r
    · rw [n] at r; cases r
  have hm : ∀ b u, H b = some u → ¬ Mut (some u) → b ≠ x := fun b u q nm z => by subst z; rw [q] at mu; exact nm mu
  refine ⟨fun b u q n _ _ => k b u (hb b n) q, fun b u q n _ _ => ⟨u.slots, k b u (hb b n) q⟩, fun b u q n _ => by rw [upd_ne (hx b n)]; exact n, fun b u q _ => ?_,
    fun b xs q => by rw [upd_ne (hm b _ q fun z => z)]; exact q, fun b u xs q => by rw [upd_ne (hm b _ q fun z => z)]; exact q, fun b ps q => ⟨#[], by rw [upd_ne (hm b _ q fun z => z), q]; simp⟩⟩
  by_cases hbe : b = e
  · subst hbe; exact heo
  · exact ⟨u, k b u hbe q⟩
end
noncomputable def trk (h : Heap) (H : Hp) : List Addr := (List.range h.objs.size).filter fun a => (H a).isSome
noncomputable def hidT (h : Heap) (H : Hp) : Heap := PySem.W.hideAll h (trk h H)
theorem hidT_size (h : Heap) (H : Hp) : (hidT h H).objs.size = h.objs.size := PySem.W.hideAll_size _ _
theorem hidT_get {h : Heap} {H : Hp} {b : Addr} {o : Obj} (e : h.get? b = some o) (n : H b = none) : (hidT h H).get? b = some o :=
  PySem.W.hideAll_get _ e fun hm => by
    have q : (H b).isSome = true := (List.mem_filter.mp hm).2
    rw [n] at q; simp at q
theorem of_hidT {h : Heap} {H : Hp} {b : Addr} {o : Obj} (e : (hidT h H).get? b = some o) : h.get? b = some o ∧ H b = none := by
  have e' : h.get? b = some o := PySem.W.of_hideAll (trk h H) e
  refine ⟨e', ?_⟩
  cases q : H b with
  | none => rfl
  | some x =>
    have hm : b ∈ trk h H := List.mem_filter.mpr ⟨List.mem_range.mpr (Heap.lt_size e'), by simp [q]⟩
    have z : (hidT h H).get? b = none := PySem.W.hideAll_none (trk h H) hm
    rw [z] at e; cases e
noncomputable def allNews (g h : Heap) (L : Addr) : List (Addr × Obj) := (List.range h.objs.size).filterMap fun a => if a = L ∨ (g.get? a).isSome = true then none else (h.get? a).map fun o => (a, o)
noncomputable def rest (g h : Heap) (L d : Addr) : List (Addr × Obj) := (allNews g h L).filter fun p => decide (p.1 ≠ d)
end L2
namespace L2
open PySem PySem.Spec PyProof.Rows
structure Mod (K : PySem.W.Frag) (mg : Str → Option Value) (base : Heap) : Prop where
  kin : K.In base
  glob : base.Ns mainGlobals mg
  blt : ∃ mb, base.Ns builtinsNs mb ∧ ∀ x : Str, x ≠ "__name__" → mb x = bootBuiltins x
  nolimit : base.NoLimit
structure Cx where
  prog : Program
  w : World
  K : PySem.W.Frag
  mg : Str → Option Value
  base : Heap
  A : Around
  N : List Str
  s₀ : Shared
  H₀ : Hp
  env : Env
  outer : List Env
  stack : List Env
  ex : List Addr
  fn : Str → Bool
  calm : Bool
  pn : List (Addr × Obj)
  xe : Value → Shared → Prop
noncomputable def frs (l : List Env) : List Addr := l.filterMap (·.frame)
noncomputable abbrev Cx.fs (X : Cx) : List Addr := frs X.outer
noncomputable def Vis (sc : Scope) (x : Str) : Prop := sc.names.lookup x = some .local ∨ sc.names.lookup x = some .cell ∨ sc.names.lookup x = some .free
noncomputable def Loc (sc : Scope) (x : Str) : Prop := sc.names.lookup x = some .local ∨ sc.names.lookup x = some .cell
noncomputable def Look (env : Env) (h : Heap) (m : Str → Option Value) (x : Str) (u : Value) : Prop :=
  (env.kindOf x = some .local ∧ m x = some u) ∨ ((env.kindOf x = some .cell ∨ env.kindOf x = some .free) ∧ ∃ c, env.cells.lookup x = some c ∧ h.IsCell c (some u))
structure Cx.Ok (X : Cx) : Prop where
  mod : Mod X.K X.mg X.base
  kind : X.env.scope.kind = .function
  glob : X.env.globals = mainGlobals
  blt : X.env.builtins = builtinsNs
  above : X.s₀.heap.objs.size ≤ X.env.locals
  inj : ∀ x y c, X.env.cells.lookup x = some c → X.env.cells.lookup y = some c → x = y
  has : ∀ x, (X.env.kindOf x = some .cell ∨ X.env.kindOf x = some .free) → ∃ c, X.env.cells.lookup x = some c
  cab : ∀ x c, X.fn x = true → X.env.cells.lookup x = some c → X.s₀.heap.objs.size ≤ c
  hd : X.calm = true → X.A.handled = none
  frames : X.A.frames = some X.stack
  stk : X.stack = X.outer ∨ (X.stack = X.env :: X.outer ∧ X.env.frame = some X.env.locals)
  exf : ∀ b ∈ X.ex, b ≠ X.env.locals ∧ ∀ x c, X.env.cells.lookup x = some c → c ≠ b
  bs : ∀ b o, X.base.get? b = some o → X.s₀.heap.get? b = some o ∧ X.H₀ b = none
  bsz : X.base.objs.size ≤ X.s₀.heap.objs.size
  noex : ∀ b o, X.base.get? b = some o → b ∉ X.ex
  exfs : ∀ b ∈ X.ex, b ∉ X.fs
  funs : X.s₀.heap.FunFrames X.base X.outer
  frf : ∀ b ∈ X.fs, X.H₀ b = none
structure Inv (X : Cx) (pins : List (Addr × Obj)) (σ : List (Option V)) (H : Hp) (s : Shared) : Prop where
  ok : X.Ok
  os : s.os = X.s₀.os
  bare : AllBare s.gens
  base : Un X.fs X.ex X.H₀ H X.s₀.heap s.heap
  loc : ∃ m, s.heap.Ns X.env.locals m ∧ ∀ (i : Nat) (x : Str) (v : V), X.N[i]? = some x → σ[i]? = some (some v) → Vis X.env.scope x → ∃ u, RelV v u ∧ Look X.env s.heap m x u
  cell : ∀ x c, X.env.cells.lookup x = some c → ∃ v, s.heap.IsCell c v
  free : H X.env.locals = none
  freeC : ∀ x c, X.env.cells.lookup x = some c → H c = none
  pin : ∀ p ∈ X.pn ++ pins, s.heap.get? p.1 = some p.2 ∧ H p.1 = none ∧ p.1 ≠ X.env.locals ∧ p.1 ∉ X.fs ∧ ∀ v, p.2.data ≠ .cell v
  hok : HOk X.prog X.w H s.heap
  len : σ.length = X.N.length
section
variable {X : Cx} {pins : List (Addr × Obj)} {σ : List (Option V)} {H H' : Hp} {s : Shared} {h' : Heap}
theorem Cx.Ok.nofr (ok : X.Ok) {b : Addr} {o : Obj} (e : X.base.get? b = some o) : b ∉ X.fs := fun hb => by
  have := (ok.funs.mem hb).1
  rw [e] at this; cases this
theorem Inv.bs (I : Inv X pins σ H s) : ∀ b o, X.base.get? b = some o → s.heap.get? b = some o ∧ H b = none := fun b o e =>
  ⟨I.base.keep b o (I.ok.bs b o e).1 (I.ok.bs b o e).2 (I.ok.nofr e) (I.ok.noex b o e), I.base.free b o (I.ok.bs b o e).1 (I.ok.bs b o e).2 (I.ok.noex b o e)⟩
theorem Inv.bk (I : Inv X pins σ H s) : ∀ b o, X.base.get? b = some o → s.heap.get? b = some o := fun b o e => (I.bs b o e).1
theorem Inv.mod (I : Inv X pins σ H s) : Mod X.K X.mg X.base := I.ok.mod
theorem Inv.kIn (I : Inv X pins σ H s) : X.K.In s.heap := I.ok.mod.kin.keeps I.bk
theorem Inv.lt (I : Inv X pins σ H s) : X.env.locals < s.heap.objs.size := let ⟨_, hn, _⟩ := I.loc; hn.lt
theorem Inv.sz (I : Inv X pins σ H s) : X.s₀.heap.objs.size ≤ s.heap.objs.size := Nat.le_trans I.ok.above (Nat.le_of_lt I.lt)
theorem Inv.nofs (I : Inv X pins σ H s) {a : Addr} (h : s.heap.objs.size ≤ a) : a ∉ X.fs := fun hb => by
  obtain ⟨_, o, ho, _⟩ := I.ok.funs.mem hb
  exact absurd (Nat.lt_of_lt_of_le (Heap.lt_size ho) (Nat.le_trans I.sz h)) (Nat.lt_irrefl _)
theorem Inv.cne (I : Inv X pins σ H s) : ∀ x c, X.env.cells.lookup x = some c → c ≠ X.env.locals := fun x c e z => by
  obtain ⟨v, o, ho, hd⟩ := I.cell x c e
  obtain ⟨m, ⟨o', es, ep, ho', hd', _⟩, _⟩ := I.loc
  rw [z, ho'] at ho; cases ho; rw [hd'] at hd; cases hd
theorem Inv.funs (I : Inv X pins σ H s) : s.heap.FunFrames X.base X.outer := by
  have all : ∀ (l : List Env), (∀ b ∈ frs l, b ∈ X.fs) → X.s₀.heap.FunFrames X.base l → s.heap.FunFrames X.base l := by
    intro l
    induction l with
    | nil => intro _ _; trivial
    | cons env r ih =>
      intro hs hl
      obtain ⟨hk, ⟨L, o, hf, hn, ho, hd⟩, hr⟩ := hl
      have hL : L ∈ X.fs := hs L (by unfold frs; rw [List.filterMap_cons, hf]; exact List.mem_cons_self)
      obtain ⟨sl, e⟩ := I.base.slot L o ho (I.ok.frf L hL) hL fun z => I.ok.exfs L z hL
      exact ⟨hk, ⟨L, _, hf, hn, e, hd⟩, ih (fun b hb => hs b (by unfold frs; rw [List.filterMap_cons, hf]; exact List.mem_cons_of_mem _ hb)) hr⟩
  exact all X.outer (fun _ hb => hb) I.ok.funs
theorem Inv.stack (I : Inv X pins σ H s) : s.heap.FunFrames X.base X.stack := by
  rcases I.ok.stk with e | ⟨e, hf⟩
  · rw [e]; exact I.funs
  · rw [e]
    obtain ⟨m, hn, _⟩ := I.loc
    refine .cons (by rw [I.ok.kind]; decide) hf hn ?_ I.funs
    exact Heap.get?_none_of_le (Nat.le_trans I.ok.bsz I.ok.above)
theorem Inv.stkSub (I : Inv X pins σ H s) : ∀ b ∈ frs X.stack, b ∈ X.env.locals :: X.fs := fun b hb => by
  rcases I.ok.stk with e | ⟨e, hf⟩
  · rw [e] at hb; exact List.mem_cons_of_mem _ hb
  · rw [e] at hb
    unfold frs at hb
    rw [List.filterMap_cons, hf] at hb
    exact hb
theorem Inv.stkFree (I : Inv X pins σ H s) : ∀ b ∈ frs X.stack, H b = none := fun b hb => by
  rcases List.mem_cons.mp (I.stkSub b hb) with e | hb
  · rw [e]; exact I.free
  · obtain ⟨_, o, ho, _⟩ := I.ok.funs.mem hb
    exact I.base.free b o ho (I.ok.frf b hb) fun z => I.ok.exfs b z hb
theorem Inv.step {g' : Array GenState} {t' : Nat} {d' : Drawn} {ch : List Addr} (I : Inv X pins σ H s)
    (hch : ∀ b ∈ ch, (b ∈ X.ex ∨ X.s₀.heap.objs.size ≤ b) ∧ b ≠ X.env.locals ∧ (∀ x c, X.env.cells.lookup x = some c → c ≠ b) ∧ ∀ p ∈ X.pn ++ pins, p.1 ≠ b)
    (keep : ∀ b o, b ≠ X.env.locals → b ∉ X.fs → b ∉ ch → s.heap.get? b = some o → H b = none → h'.get? b = some o)
    (slot : ∀ b o, b ≠ X.env.locals → b ∈ X.fs → b ∉ ch → s.heap.get? b = some o → H b = none → ∃ sl, h'.get? b = some { o with slots := sl }) (free : ∀ b o, b ∉ ch → s.heap.get? b = some o → H b = none → H' b = none)
    (there : ∀ b o, b ∉ ch → s.heap.get? b = some o → ∃ o', h'.get? b = some o')
    (tups : ∀ b xs, H b = some (.tup xs) → H' b = some (.tup xs)) (frzs : ∀ b o u, H b = some (.frz o u) → H' b = some (.frz o u)) (tbls : ∀ b ps, H b = some (.tbl ps) → ∃ more, H' b = some (.tbl (ps ++ more)))
    (ns : ∀ m, s.heap.Ns X.env.locals m → h'.Ns X.env.locals m) (hok : HOk X.prog X.w H' h') (hg : AllBare g') :
    Inv X pins σ H' { s with heap := h', gens := g', drawn := d', toks := t' } := by
  have neL : ∀ b o, X.s₀.heap.get? b = some o → b ≠ X.env.locals := fun b o e => Nat.ne_of_lt (Nat.lt_of_lt_of_le (Heap.lt_size e) I.ok.above)
  have neC : ∀ b o, X.s₀.heap.get? b = some o → b ∉ X.ex → b ∉ ch := fun b o e hx hb => by
    rcases (hch b hb).1 with z | z
    · exact hx z
    · exact absurd (Nat.lt_of_lt_of_le (Heap.lt_size e) z) (Nat.lt_irrefl _)
  have cellK : ∀ x c, X.env.cells.lookup x = some c → ∀ v, s.heap.IsCell c v → h'.IsCell c v := fun x c e v ⟨o, ho, hd⟩ => by
    have nch : c ∉ ch := fun z => (hch c z).2.2.1 x c e rfl
    by_cases hc : c ∈ X.fs
    · obtain ⟨sl, q⟩ := slot c o (I.cne x c e) hc nch ho (I.freeC x c e)
      exact ⟨_, q, hd⟩
    · exact ⟨o, keep c o (I.cne x c e) hc nch ho (I.freeC x c e), hd⟩
  refine ⟨I.ok, I.os, hg, ⟨fun b o e n hb hx => ?_, fun b o e n hb hx => ?_, fun b o e n hx => ?_, fun b o e hx => ?_, fun b xs e => tups b xs (I.base.tups b xs e), fun b o xs e => frzs b o xs (I.base.frzs b o xs e), fun b ps e => ?_⟩, ?_, fun x c e => ?_, ?_, fun x c e => ?_, fun p hp => ?_, hok, I.len⟩
  · exact keep b o (neL b o e) hb (neC b o e hx) (I.base.keep b o e n hb hx) (I.base.free b o e n hx)
  · obtain ⟨sl, e1⟩ := I.base.slot b o e n hb hx
    obtain ⟨sl', e2⟩ := slot b _ (neL b o e) hb (neC b o e hx) e1 (I.base.free b o e n hx)
    exact ⟨sl', e2⟩
  · obtain ⟨o', e1⟩ := I.base.there b o e hx
    exact free b o' (neC b o e hx) e1 (I.base.free b o e n hx)
  · obtain ⟨o', e1⟩ := I.base.there b o e hx
    exact there b o' (neC b o e hx) e1
  · obtain ⟨m1, e1⟩ := I.base.tbls b ps e
    obtain ⟨m2, e2⟩ := tbls b _ e1
    exact ⟨m1 ++ m2, by rw [e2, Array.append_assoc]⟩
  · obtain ⟨m, hn, hl⟩ := I.loc
    refine ⟨m, ns m hn, fun i x v e1 e2 e3 => ?_⟩
    obtain ⟨u, r, l⟩ := hl i x v e1 e2 e3
    refine ⟨u, r, ?_⟩
    rcases l with l | ⟨k, c, e, z⟩
    · exact .inl l
    · exact .inr ⟨k, c, e, cellK x c e _ z⟩
  · obtain ⟨v, z⟩ := I.cell x c e
    exact ⟨v, cellK x c e v z⟩
  · obtain ⟨m, ⟨o, _, _, ho, _⟩, _⟩ := I.loc
    exact free _ o (fun z => (hch _ z).2.1 rfl) ho I.free
  · obtain ⟨v, o, ho, hd⟩ := I.cell x c e
    exact free c o (fun z => (hch c z).2.2.1 x c e rfl) ho (I.freeC x c e)
  · obtain ⟨e, n, ne, nf, d⟩ := I.pin p hp
    have nch : p.1 ∉ ch := fun z => (hch p.1 z).2.2.2 p hp rfl
    exact ⟨keep p.1 p.2 ne nf nch e n, free p.1 p.2 nch e n, ne, nf, d⟩
theorem Inv.un {t' : Nat} (I : Inv X pins σ H s) (u : Un X.fs [] H H' s.heap h') (hok : HOk X.prog X.w H' h') : Inv X pins σ H' { s with heap := h', toks := t' } := by
  obtain ⟨m, ⟨o, es, ep, ho, r⟩, _⟩ := id I.loc
  obtain ⟨sl, hL⟩ := u.any ho I.free (by simp)
  exact I.step (g' := s.gens) (d' := s.drawn) (ch := []) (fun _ z => nomatch z) (fun b o _ hb _ e n => u.keep b o e n hb (by simp)) (fun b o _ hb _ e n => u.slot b o e n hb (by simp)) (fun b o _ e n => u.free b o e n (by simp)) (fun b o _ e => u.there b o e (by simp)) u.tups u.frzs u.tbls (fun m' hm => by
    obtain ⟨o', es', ep', ho', r'⟩ := hm
    rw [ho] at ho'; cases ho'
    exact ⟨_, es', ep', hL, r'⟩) hok I.bare
theorem Inv.call {g' : Array GenState} {t' : Nat} {d' : Drawn} {ch : List Addr} (I : Inv X pins σ H s) (u : Un (frs X.stack) ch H H' s.heap h') (hok : HOk X.prog X.w H' h') (hg : AllBare g')
    (hch : ∀ b ∈ ch, (b ∈ X.ex ∨ X.s₀.heap.objs.size ≤ b) ∧ b ≠ X.env.locals ∧ (∀ x c, X.env.cells.lookup x = some c → c ≠ b) ∧ ∀ p ∈ X.pn ++ pins, p.1 ≠ b) :
    Inv X pins σ H' { s with heap := h', gens := g', drawn := d', toks := t' } := by
  obtain ⟨m, ⟨o, es, ep, ho, r⟩, _⟩ := id I.loc
  obtain ⟨sl, hL⟩ := u.any ho I.free fun z => (hch _ z).2.1 rfl
  exact I.step (ch := ch) hch (fun b o hL hb hc e n => u.keep b o e n (fun z => (List.mem_cons.mp (I.stkSub b z)).elim hL hb) hc) (fun b o _ _ hc e n => u.any e n hc) (fun b o hc e n => u.free b o e n hc) (fun b o hc e => u.there b o e hc) u.tups u.frzs u.tbls (fun m' hm => by
    obtain ⟨o', es', ep', ho', r'⟩ := hm
    rw [ho] at ho'; cases ho'
    exact ⟨_, es', ep', hL, r'⟩) hok hg
theorem Inv.turned {t' : Nat} {it : Addr} (I : Inv X pins σ H s) (k : ∀ b o, b ≠ it → s.heap.get? b = some o → h'.get? b = some o) (hn : H it = none) (hL : it ≠ X.env.locals)
    (h1 : it ∈ X.ex ∨ X.s₀.heap.objs.size ≤ it) (h2 : ∀ x c, X.env.cells.lookup x = some c → c ≠ it) (h3 : ∀ p ∈ X.pn ++ pins, p.1 ≠ it) : Inv X pins σ H { s with heap := h', toks := t' } := by
  have nit : ∀ b u, H b = some u → b ≠ it := fun b u e z => by rw [z, hn] at e; cases e
  refine I.step (g' := s.gens) (d' := s.drawn) (ch := [it]) (fun b hb => ?_) (fun b o _ _ hc e _ => k b o (fun z => hc (by simp [z])) e) (fun b o _ _ hc e _ => ⟨o.slots, k b o (fun z => hc (by simp [z])) e⟩) (fun _ _ _ _ n => n)
    (fun b o hc e => ⟨o, k b o (fun z => hc (by simp [z])) e⟩) (fun _ _ e => e) (fun _ _ _ e => e) (fun b ps e => ⟨#[], by rw [e]; simp⟩) (fun m hm => ?_) (fun b u e => ?_) I.bare
  · have e : b = it := by simpa using hb
    subst e
    exact ⟨h1, hL, h2, h3⟩
  · obtain ⟨o, es, ep, ho, r⟩ := hm
    exact ⟨o, es, ep, k _ o (Ne.symm hL) ho, r⟩
  · refine (I.hok b u e).stay (fun c v hc q => k c v ?_ q) (fun _ q => q) (fun _ _ q => q) fun _ _ _ q => q
    rcases hc with z | z
    · rw [z]; exact nit b u e
    · exact nit c _ z
theorem Inv.tok (I : Inv X pins σ H s) (t : Nat) : Inv X pins σ H { s with toks := t } := I.un (h' := s.heap) (t' := t) Un.refl I.hok
theorem Inv.kept {t' : Nat} (I : Inv X pins σ H s) (k : ∀ b u, s.heap.get? b = some u → h'.get? b = some u) : Inv X pins σ H { s with heap := h', toks := t' } := I.un (Un.kept k) (I.hok.kept k)
theorem Inv.laid {a : Addr} {o : HO} {t' : Nat} (I : Inv X pins σ H s) (k : ∀ b u, s.heap.get? b = some u → h'.get? b = some u) (hp : s.heap.objs.size ≤ a) (new : ObjOk X.prog X.w (upd H a o) h' a o) :
    Inv X pins σ (upd H a o) { s with heap := h', toks := t' } := I.un (Un.laid k hp (I.hok.fresh hp)) (I.hok.laid k hp new)
theorem Inv.write {x e : Addr} {o : HO} {t' : Nat} (I : Inv X pins σ H s) (mu : Mut (H x)) (he : e = x ∨ H e = some (.own x)) (k : ∀ b u, b ≠ e → s.heap.get? b = some u → h'.get? b = some u) (heo : ∃ u, h'.get? e = some u)
    (new : ObjOk X.prog X.w (upd H x o) h' x o) : Inv X pins σ (upd H x o) { s with heap := h', toks := t' } := I.un (Un.write mu he k heo) (I.hok.write mu he k heo new)
theorem Inv.weak {σ' : List (Option V)} (I : Inv X pins σ H s) (hl : σ'.length = σ.length) (w : ∀ (i : Nat) v, σ'[i]? = some (some v) → σ[i]? = some (some v)) : Inv X pins σ' H s :=
  ⟨I.ok, I.os, I.bare, I.base, let ⟨m, hn, hl'⟩ := I.loc; ⟨m, hn, fun i x v e1 e2 e3 => hl' i x v e1 (w i v e2) e3⟩, I.cell, I.free, I.freeC, I.pin, I.hok, hl.trans I.len⟩
theorem Inv.pins_of {pins' : List (Addr × Obj)} (I : Inv X pins σ H s) (h : ∀ p ∈ pins', s.heap.get? p.1 = some p.2 ∧ H p.1 = none ∧ p.1 ≠ X.env.locals ∧ p.1 ∉ X.fs ∧ ∀ v, p.2.data ≠ .cell v) : Inv X pins' σ H s :=
  ⟨I.ok, I.os, I.bare, I.base, I.loc, I.cell, I.free, I.freeC, fun p hp => (List.mem_append.mp hp).elim (fun z => I.pin p (List.mem_append_left _ z)) (h p), I.hok, I.len⟩
theorem nodup_ix {N : List Str} (hN : N.Nodup) {i j : Nat} {x : Str} (a : N[i]? = some x) (b : N[j]? = some x) : i = j := by
  obtain ⟨h1, e1⟩ := List.getElem?_eq_some_iff.mp a
  obtain ⟨h2, e2⟩ := List.getElem?_eq_some_iff.mp b
  exact (List.getElem_inj hN).mp (e1.trans e2.symm)
theorem store_ok2 {M : Model} {A : Around} {E : Value → Shared → Prop} {i : Nat} {x : Str} {v : V} {u : Value} {Q : Unit → Shared → Prop} (I : Inv X pins σ H s) (hN : X.N.Nodup) (hi : X.N[i]? = some x) (hx : Loc X.env.scope x) (r : RelV v u)
    (h : ∀ s', Inv X pins (σ.set i (some v)) H s' → (∃ a, Heap.SameBut a s.heap s'.heap ∧ (a = X.env.locals ∨ X.env.cells.lookup x = some a)) → Q () s') (hf : X.fn x = true ∨ X.env.scope.names.lookup x = some .local := by first | exact .inl rfl | exact .inr rfl | assumption) : wpAny M A (storeName X.env x u) Q E s := by
  obtain ⟨m, hn, hl⟩ := id I.loc
  have hcls : (X.env.scope.kind == .class || (X.env.scope.kind == .module && X.env.locals != X.env.globals)) = false := by rw [I.ok.kind]; rfl
  have hiσ : i < σ.length := by rw [I.len]; exact (List.getElem?_eq_some_iff.mp hi).1
  have cne := I.cne
  have tracked : ∀ {a : Addr} {h' : Heap}, (∃ o, s.heap.get? a = some o ∧ H a = none) → Heap.SameBut a s.heap h' → HOk X.prog X.w H h' := fun {a h'} ha hs b ob e => by
    obtain ⟨_, _, hfree⟩ := ha
    refine (I.hok b ob e).stay (fun c w' hc q => (hs.2 c ?_).trans q) (fun _ q => q) (fun _ _ q => q) fun _ _ _ q => q
    rintro rfl
    rcases hc with rfl | hc
    · rw [hfree] at e; cases e
    · rw [hfree] at hc; cases hc
  rcases hx with hk | hk
  · refine wpAny_storeName_local hk hn (fun h' hn' hs => ?_) hcls
    obtain ⟨oL, _, _, hoL, _⟩ := id hn
    refine h _ ⟨I.ok, I.os, I.bare, ⟨fun b o e n hb hx => ?_, fun b o e n hb hx => ?_, I.base.free, fun b o e hx => ?_, I.base.tups, I.base.frzs, I.base.tbls⟩, ⟨_, hn', fun j y v' e1 e2 e3 => ?_⟩, fun y c e => ?_, I.free, I.freeC, fun p hp => ?_, tracked ⟨oL, hoL, I.free⟩ hs, by simpa using I.len⟩ ⟨_, hs, .inl rfl⟩
    · exact (hs.2 b (Nat.ne_of_lt (Nat.lt_of_lt_of_le (Heap.lt_size e) I.ok.above))).trans (I.base.keep b o e n hb hx)
    · obtain ⟨sl, e1⟩ := I.base.slot b o e n hb hx
      exact ⟨sl, (hs.2 b (Nat.ne_of_lt (Nat.lt_of_lt_of_le (Heap.lt_size e) I.ok.above))).trans e1⟩
    · obtain ⟨o', e1⟩ := I.base.there b o e hx
      exact ⟨o', (hs.2 b (Nat.ne_of_lt (Nat.lt_of_lt_of_le (Heap.lt_size e) I.ok.above))).trans e1⟩
    · by_cases hj : j = i
      · subst hj
        rw [hi] at e1; cases e1
        rw [List.getElem?_set_self hiσ] at e2
        cases e2
        exact ⟨u, r, .inl ⟨hk, by simp⟩⟩
      · rw [List.getElem?_set_ne (Ne.symm hj)] at e2
        obtain ⟨u', r', q⟩ := hl j y v' e1 e2 e3
        refine ⟨u', r', ?_⟩
        rcases q with ⟨k, e⟩ | ⟨k, c, e, z⟩
        · refine .inl ⟨k, ?_⟩
          have : y ≠ x := fun e => hj (nodup_ix hN e1 (e ▸ hi))
          simp [this, e]
        · exact .inr ⟨k, c, e, z.sameBut hs (cne y c e)⟩
    · obtain ⟨w', z⟩ := I.cell y c e
      exact ⟨w', z.sameBut hs (cne y c e)⟩
    · obtain ⟨e, n, ne, nf, d⟩ := I.pin p hp
      exact ⟨(hs.2 p.1 ne).trans e, n, ne, nf, d⟩
  · have hfn : X.fn x = true := by
      rcases hf with z | z
      · exact z
      · rw [z] at hk; cases hk
    obtain ⟨c, hc⟩ := I.ok.has x (.inl hk)
    obtain ⟨w', z⟩ := I.cell x c hc
    refine wpAny_storeName_cell I.ok.kind hk hc z (fun h' hc' hs => ?_)
    obtain ⟨oc, hoc, hocd⟩ := id z
    refine h { s with heap := h' } ⟨I.ok, I.os, I.bare, ⟨fun b o e n hb hx => ?_, fun b o e n hb hx => ?_, I.base.free, fun b o e hx => ?_, I.base.tups, I.base.frzs, I.base.tbls⟩, ⟨m, hn.sameBut hs (Ne.symm (cne x c hc)), fun j y v' e1 e2 e3 => ?_⟩, fun y c' e => ?_, I.free, I.freeC, fun p hp => ?_, tracked ⟨oc, hoc, I.freeC x c hc⟩ hs, by simpa using I.len⟩ ⟨c, hs, .inr hc⟩
    · exact (hs.2 b (Nat.ne_of_lt (Nat.lt_of_lt_of_le (Heap.lt_size e) (I.ok.cab x c hfn hc)))).trans (I.base.keep b o e n hb hx)
    · obtain ⟨sl, e1⟩ := I.base.slot b o e n hb hx
      exact ⟨sl, (hs.2 b (Nat.ne_of_lt (Nat.lt_of_lt_of_le (Heap.lt_size e) (I.ok.cab x c hfn hc)))).trans e1⟩
    · obtain ⟨o', e1⟩ := I.base.there b o e hx
      exact ⟨o', (hs.2 b (Nat.ne_of_lt (Nat.lt_of_lt_of_le (Heap.lt_size e) (I.ok.cab x c hfn hc)))).trans e1⟩
    · by_cases hj : j = i
      · subst hj
        rw [hi] at e1; cases e1
        rw [List.getElem?_set_self hiσ] at e2
        cases e2
        exact ⟨u, r, .inr ⟨.inl hk, c, hc, hc'⟩⟩
      · rw [List.getElem?_set_ne (Ne.symm hj)] at e2
        obtain ⟨u', r', q⟩ := hl j y v' e1 e2 e3
        refine ⟨u', r', ?_⟩
        rcases q with q | ⟨k, c', e, z'⟩
        · exact .inl q
        · refine .inr ⟨k, c', e, z'.sameBut hs ?_⟩
          rintro rfl
          exact hj (nodup_ix hN e1 (I.ok.inj _ _ _ e hc ▸ hi))
    · by_cases hcc : c' = c
      · subst hcc; exact ⟨_, hc'⟩
      · obtain ⟨w2, z2⟩ := I.cell y c' e
        exact ⟨w2, z2.sameBut hs hcc⟩
    · obtain ⟨e, n, ne, nf, d⟩ := I.pin p hp
      refine ⟨(hs.2 p.1 ?_).trans e, n, ne, nf, d⟩
      intro q
      rw [q, hoc] at e
      have q' : oc = p.2 := Option.some.inj e
      exact d w' (by rw [← q']; exact hocd)
theorem store_ok {M : Model} {A : Around} {E : Value → Shared → Prop} {i : Nat} {x : Str} {v : V} {u : Value} {Q : Unit → Shared → Prop} (I : Inv X pins σ H s) (hN : X.N.Nodup) (hi : X.N[i]? = some x) (hx : Loc X.env.scope x) (r : RelV v u)
    (h : ∀ s', Inv X pins (σ.set i (some v)) H s' → Q () s') (hf : X.fn x = true ∨ X.env.scope.names.lookup x = some .local := by first | exact .inl rfl | exact .inr rfl | assumption) : wpAny M A (storeName X.env x u) Q E s :=
  store_ok2 I hN hi hx r (fun s' I' _ => h s' I') hf
theorem Inv.call' {s' : Shared} {ch : List Addr} (I : Inv X pins σ H s) (ho : s'.os = s.os) (u : Un (frs X.stack) ch H H' s.heap s'.heap) (hok : HOk X.prog X.w H' s'.heap) (hg : AllBare s'.gens)
    (hch : ∀ b ∈ ch, (b ∈ X.ex ∨ X.s₀.heap.objs.size ≤ b) ∧ b ≠ X.env.locals ∧ (∀ x c, X.env.cells.lookup x = some c → c ≠ b) ∧ ∀ p ∈ X.pn ++ pins, p.1 ≠ b) : Inv X pins σ H' s' := by
  obtain ⟨h', g', d', t', o'⟩ := s'
  have e : o' = s.os := ho
  subst e
  exact I.call (g' := g') (t' := t') (d' := d') u hok hg hch
end
noncomputable abbrev XK := Value → Option Addr → Hp → Prop
noncomputable abbrev St := List (Option V)
noncomputable abbrev VK := V → Hp → Prop
noncomputable abbrev TE := St → Hp → VK → Prop
noncomputable abbrev TT := St → Hp → (Bool → Hp → Prop) → Prop
noncomputable abbrev TA := St → Hp → (List V → Hp → Prop) → Prop
structure Ends where
  nx : St → Hp → Prop
  rt : VK
  bk : St → Hp → Prop := fun _ _ => False
  ct : St → Hp → Prop := fun _ _ => False
noncomputable abbrev TS := Ends → St → Hp → Prop
noncomputable def EP (X : Cx) (pins : List (Addr × Obj)) (σ : St) (Q : VK) (u : Value) (s' : Shared) : Prop := ∃ v H', Inv X pins σ H' s' ∧ RelV v u ∧ Q v H'
noncomputable def TP (X : Cx) (pins : List (Addr × Obj)) (σ : St) (Q : Bool → Hp → Prop) (b : Bool) (s' : Shared) : Prop := ∃ H', Inv X pins σ H' s' ∧ Q b H'
noncomputable def AP (X : Cx) (pins : List (Addr × Obj)) (σ : St) (Q : List V → Hp → Prop) (us : List Value) (s' : Shared) : Prop := ∃ vs H', Inv X pins σ H' s' ∧ Vals vs us ∧ Q vs H'
noncomputable def SP (X : Cx) (pins : List (Addr × Obj)) (D : Ends) (f : Flow) (s' : Shared) : Prop :=
  match f with
  | .next => ∃ σ' H', Inv X pins σ' H' s' ∧ D.nx σ' H'
  | .brk => ∃ σ' H', Inv X pins σ' H' s' ∧ D.bk σ' H'
  | .cont => ∃ σ' H', Inv X pins σ' H' s' ∧ D.ct σ' H'
  | .ret u => ∃ v σ' H', Inv X pins σ' H' s' ∧ RelV v u ∧ D.rt v H'
noncomputable def PE (X : Cx) (e : Expr) (t : TE) : Prop :=
  ∀ ⦃pins : List (Addr × Obj)⦄ (s : Shared) (σ : St) (H : Hp) (Q : VK), Inv X pins σ H s → t σ H Q → wpAny (model X.prog X.w) X.A (eval e X.env) (EP X pins σ Q) X.xe s
noncomputable def PT (X : Cx) (e : Expr) (t : TT) : Prop :=
  ∀ ⦃pins : List (Addr × Obj)⦄ (s : Shared) (σ : St) (H : Hp) (Q : Bool → Hp → Prop), Inv X pins σ H s → t σ H Q → wpAny (model X.prog X.w) X.A (isTrue e X.env (eval e X.env)) (TP X pins σ Q) X.xe s
noncomputable def PW (X : Cx) (e : Expr) (t : TT) : Prop :=
  ∀ ⦃whole : Sem Value⦄ (pins : List (Addr × Obj)) (s : Shared) (σ : St) (H : Hp) (Q : Bool → Hp → Prop), Inv X pins σ H s → t σ H Q → wpAny (model X.prog X.w) X.A (isTrue e X.env whole) (TP X pins σ Q) X.xe s
theorem PW.pt {X : Cx} {e : Expr} {t : TT} (h : PW X e t) : PT X e t := @h _
noncomputable def PA (X : Cx) (es : List Expr) (t : TA) : Prop :=
  ∀ ⦃pos : Pos⦄ (pins : List (Addr × Obj)) (s : Shared) (σ : St) (H : Hp) (Q : List V → Hp → Prop), Inv X pins σ H s → t σ H Q → wpAny (model X.prog X.w) X.A (spliced (backTo pos (starEach es X.env))) (AP X pins σ Q) X.xe s
noncomputable def PS (X : Cx) (st : Stmt) (t : TS) : Prop :=
  ∀ ⦃pins : List (Addr × Obj)⦄ (s : Shared) (σ : St) (H : Hp) (D : Ends), Inv X pins σ H s → t D σ H → wpAny (model X.prog X.w) X.A (exec st X.env) (SP X pins D) X.xe s
noncomputable def PSs (X : Cx) (st : List Stmt) (t : TS) : Prop :=
  ∀ ⦃pins : List (Addr × Obj)⦄ (s : Shared) (σ : St) (H : Hp) (D : Ends), Inv X pins σ H s → t D σ H → wpAny (model X.prog X.w) X.A (execs st X.env) (SP X pins D) X.xe s
theorem thn {α : Type} {t : Sem α} {Q Q' : α → Shared → Prop} {M : Model} {A : Around} {E : Value → Shared → Prop} {s : Shared} (h : wpAny M A t Q E s) (hQ : ∀ a s, Q a s → Q' a s) : wpAny M A t Q' E s := wpAny_mono h hQ fun _ _ x => x
end L2
namespace L2
open PySem PySem.Spec PyProof.Rows
section
variable {X : Cx}
noncomputable def tVar (i : Nat) : TE := fun σ H Q => ∃ v, σ[i]? = some (some v) ∧ Q v H
noncomputable def tC (v : V) : TE := fun _ H Q => Q v H
theorem pe_var {i : Nat} {x : Str} {pos : Pos} (hN : X.N[i]? = some x) (hv : Vis X.env.scope x) (hd : (x == ("__debug__" : Str)) = false := by decide) (hcd : (x == ("__classdict__" : Str)) = false := by decide) : PE X (.Name x pos) (tVar i) := by
  intro pins s σ H Q I h
  obtain ⟨v, e, h⟩ := h
  obtain ⟨m, hn, hl⟩ := I.loc
  obtain ⟨u, r, l⟩ := hl i x v hN e hv
  have fin : EP X pins σ Q u s := ⟨v, H, I, r, h⟩
  rcases l with ⟨hk, hm⟩ | ⟨hk, c, hc, hcell⟩
  · exact wpAny_Name (wpAny_loadName_local I.ok.kind hk hn hm fin) hd
  · rcases hk with hk | hk
    · exact wpAny_Name (wpAny_loadName_cell I.ok.kind hk hc hcell fin) hd
    · exact wpAny_Name (wpAny_loadName_free I.ok.kind hk hc hcell fin hcd) hd
theorem pe_int {i j pos} : PE X (.Constant (.int i) j pos) (tC (.int i)) := fun _ _ _ H _ I h => wpAny_Constant_int ⟨.int i, H, I.tok _, ⟨_, rfl⟩, h⟩
theorem pe_bl {b j pos} : PE X (.Constant (.bool b) j pos) (tC (.bl b)) := fun _ _ _ H _ I h => Constant_bool ⟨.bl b, H, I, rfl, h⟩
theorem pe_non {j pos} : PE X (.Constant .none j pos) (tC .non) := fun _ _ _ H _ I h => Constant_none ⟨.non, H, I, rfl, h⟩
noncomputable def Gl (X : Cx) (x : Str) : Prop := X.env.kindOf x = some .globalImplicit
theorem ld_glob {E : Value → Shared → Prop} {pins : List (Addr × Obj)} {s : Shared} {σ : St} {H : Hp} {x : Str} {u : Value} {pos : Pos} {Q : Value → Shared → Prop} (I : Inv X pins σ H s) (hg : Gl X x) (hm : X.mg x = some u) (h : Q u s)
    (hd : (x == ("__debug__" : Str)) = false := by decide) : wpAny (model X.prog X.w) X.A (eval (.Name x pos) X.env) Q E s :=
  Calls.Name_function_global I.ok.kind hg (Calls.loadGlobal_global (by rw [I.ok.glob]; exact I.mod.glob.keeps I.bk) hm h) hd
theorem ld_blt {E : Value → Shared → Prop} {pins : List (Addr × Obj)} {s : Shared} {σ : St} {H : Hp} {x : Str} {u : Value} {pos : Pos} {Q : Value → Shared → Prop} (I : Inv X pins σ H s) (hg : Gl X x) (hm : X.mg x = none) (hv : bootBuiltins x = some u) (h : Q u s)
    (hn : x ≠ "__name__" := by decide) (hd : (x == ("__debug__" : Str)) = false := by decide) : wpAny (model X.prog X.w) X.A (eval (.Name x pos) X.env) Q E s := by
  obtain ⟨mb, h1, h2⟩ := I.mod.blt
  exact Calls.Name_function_global I.ok.kind hg (Calls.loadGlobal_builtin (by rw [I.ok.glob]; exact I.mod.glob.keeps I.bk) hm (by rw [I.ok.blt]; exact h1.keeps I.bk) ((h2 x hn).trans hv) h) hd
theorem pe_bltn {x : Str} {v : V} {u : Value} {pos : Pos} (hg : Gl X x) (hm : X.mg x = none) (hv : bootBuiltins x = some u) (r : RelV v u) (hn : x ≠ "__name__" := by decide) (hd : (x == ("__debug__" : Str)) = false := by decide) : PE X (.Name x pos) (tC v) :=
  fun _ _ _ H _ I h => ld_blt I hg hm hv ⟨v, H, I, r, h⟩ hn hd
variable {a b : Expr} {ta tb : TE} {pos : Pos}
noncomputable def PC (X : Cx) (op : CmpOp) (a b : Expr) (t : TE) : Prop :=
  ∀ (pins : List (Addr × Obj)) (s : Shared) (σ : St) (H : Hp) (Q : VK), Inv X pins σ H s → t σ H Q →
    wpAny (model X.prog X.w) X.A (eval a X.env) (fun v s₁ => wpAny (model X.prog X.w) X.A (eval b X.env) (fun u s₂ => wpAny (model X.prog X.w) X.A (compareOp op v u) (EP X pins σ Q) X.xe s₂) X.xe s₁) X.xe s
theorem nobehind (b : Expr) {op : CmpOp} (h : op ≠ .In) (h2 : op ≠ .NotIn) : behindInMarks op b = false := by
  have e1 : (op == CmpOp.In) = false := by cases op <;> first | rfl | exact absurd rfl h
  have e2 : (op == CmpOp.NotIn) = false := by cases op <;> first | rfl | exact absurd rfl h2
  cases b <;> simp [behindInMarks, e1, e2]
noncomputable def tIsN (ta : TE) : TE := fun σ H Q => ta σ H fun x H1 => Q (.bl (decide (x = .non))) H1
noncomputable def tNotN (ta : TE) : TE := fun σ H Q => ta σ H fun x H1 => Q (.bl (!decide (x = .non))) H1
theorem RelV.none_iff {x : V} {v : Value} (r : RelV x v) : (v == Value.none) = decide (x = .non) := by
  cases x with
  | non => cases r; rfl
  | bl _ => cases r; rfl
  | int _ => obtain ⟨t, rfl⟩ := r; rfl
  | str _ => obtain ⟨t, rfl⟩ := r; rfl
  | byt _ => obtain ⟨t, rfl⟩ := r; rfl
  | flt _ => obtain ⟨t, rfl⟩ := r; rfl
  | ref _ => cases r; rfl
  | ty _ => cases r; rfl
theorem pc_isN {j pos'} (ha : PE X a ta) : PC X .Is a (.Constant .none j pos') (tIsN ta) := by
  intro pins s σ H Q I h
  refine thn (@ha pins s σ H _ I h) fun v s1 ⟨x, H1, I1, r1, q1⟩ => ?_
  exact Constant_none (is_none_gen ⟨.bl _, H1, I1, by rw [r1.none_iff]; rfl, q1⟩)
theorem pc_notN {j pos'} (ha : PE X a ta) : PC X .IsNot a (.Constant .none j pos') (tNotN ta) := by
  intro pins s σ H Q I h
  refine thn (@ha pins s σ H _ I h) fun v s1 ⟨x, H1, I1, r1, q1⟩ => ?_
  exact Constant_none (isnot_none_gen ⟨.bl _, H1, I1, by rw [r1.none_iff]; rfl, q1⟩)
noncomputable def tB (t : TE) : TT := fun σ H Q => t σ H fun x H1 => ∃ c, x = .bl c ∧ Q c H1
theorem pe_cmp {op : CmpOp} {t : TE} (h : PC X op a b t) (h1 : behindInMarks op b = false := by first | exact nobehind _ (by decide) (by decide) | rfl) : PE X (.Compare a [op] [b] pos) t := fun pins s σ H Q I hw => wpAny_Compare1 (@h pins s σ H Q I hw) h1
theorem pt_cmp {op : CmpOp} {t : TE} (h : PC X op a b t) (h1 : behindInMarks op b = false := by first | exact nobehind _ (by decide) (by decide) | rfl) : PT X (.Compare a [op] [b] pos) (tB t) := by
  intro pins s σ H Q I hw
  refine wpAny_isTrue_Compare1 (thn (@h pins s σ H _ I hw) fun v s1 h1 => thn h1 fun u s2 h2 => thn h2 fun c s3 ⟨x, H1, I1, r1, q1⟩ => ?_) h1
  obtain ⟨d, rfl, q⟩ := q1
  cases r1
  exact wpAny_truthy_bool ⟨H1, I1, q⟩
theorem pt_val {e : Expr} {t : TE} (h : PE X e t) (he : ∀ whole, isTrue e X.env whole = (do let v ← whole; standAt e.pos; holding [v] (truthy v)) := by intro _; rfl) : PT X e (tB t) := by
  intro pins s σ H Q I hw
  refine isTrue_plain (thn (@h pins s σ H _ I hw) fun v s1 ⟨x, H1, I1, r1, q1⟩ => ?_) (he _)
  obtain ⟨d, rfl, q⟩ := q1
  cases r1
  exact wpAny_truthy_bool ⟨H1, I1, q⟩
variable {tA tB' : TT} {rest : List Expr}
noncomputable def tAnd (t u : TT) : TT := fun σ H Q => t σ H fun c H1 => if c = true then u σ H1 Q else Q false H1
noncomputable def tOr (t u : TT) : TT := fun σ H Q => t σ H fun c H1 => if c = true then Q true H1 else u σ H1 Q
noncomputable def tNot (t : TT) : TT := fun σ H Q => t σ H fun c H1 => Q (!c) H1
theorem pw_and1 (ha : PT X a tA) : PW X (.BoolOp .And [a] pos) tA := by
  intro wh pins s σ H Q I h
  refine isTrue_and (thn (@ha pins s σ H Q I h) fun c s1 e => ?_)
  cases c with
  | true => exact isTrue_and_nil e
  | false => exact e
theorem pw_or1 (ha : PT X a tA) : PW X (.BoolOp .Or [a] pos) tA := by
  intro wh pins s σ H Q I h
  refine isTrue_or (thn (@ha pins s σ H Q I h) fun c s1 e => ?_)
  cases c with
  | false => exact isTrue_or_nil e
  | true => exact e
theorem pw_and (ha : PT X a tA) (hb : PW X (.BoolOp .And (b :: rest) pos) tB') : PW X (.BoolOp .And (a :: b :: rest) pos) (tAnd tA tB') := by
  intro wh pins s σ H Q I h
  refine isTrue_and (thn (@ha pins s σ H _ I h) fun c s1 ⟨H1, I1, q1⟩ => ?_)
  cases c with
  | true => exact @hb wh pins s1 σ H1 Q I1 q1
  | false => exact ⟨H1, I1, q1⟩
theorem pw_or (ha : PT X a tA) (hb : PW X (.BoolOp .Or (b :: rest) pos) tB') : PW X (.BoolOp .Or (a :: b :: rest) pos) (tOr tA tB') := by
  intro wh pins s σ H Q I h
  refine isTrue_or (thn (@ha pins s σ H _ I h) fun c s1 ⟨H1, I1, q1⟩ => ?_)
  cases c with
  | true => exact ⟨H1, I1, q1⟩
  | false => exact @hb wh pins s1 σ H1 Q I1 q1
theorem pt_not (ha : PT X a tA) : PT X (.UnaryOp .Not a pos) (tNot tA) := by
  intro pins s σ H Q I h
  exact isTrue_not (@ha pins s σ H (fun c H1 => Q (!c) H1) I h)
noncomputable def tAndV (ta tb : TE) : TE := fun σ H Q => ta σ H fun x H1 => ∃ c, x = .bl c ∧ if c = true then tb σ H1 Q else Q (.bl false) H1
noncomputable def tOrV (ta tb : TE) : TE := fun σ H Q => ta σ H fun x H1 => ∃ c, x = .bl c ∧ if c = true then Q (.bl true) H1 else tb σ H1 Q
noncomputable def tNotV (ta : TE) : TE := fun σ H Q => ta σ H fun x H1 => ∃ c, x = .bl c ∧ Q (.bl (!c)) H1
theorem pe_one {op} {t : TE} (h : PE X a t) : PE X (.BoolOp op [a] pos) t := fun pins s σ H Q I hw => BoolOp_one (@h pins s σ H Q I hw)
theorem pe_and (ha : PE X a ta) (hb : PE X (.BoolOp .And (b :: rest) pos) tb) : PE X (.BoolOp .And (a :: b :: rest) pos) (tAndV ta tb) := by
  intro pins s σ H Q I h
  refine BoolOp_and (thn (@ha pins s σ H _ I h) fun v s1 ⟨x, H1, I1, r1, q1⟩ => ?_)
  obtain ⟨c, rfl, q1⟩ := q1
  cases r1
  refine wpAny_truthy_bool ?_
  cases c with
  | true => exact @hb pins s1 σ H1 Q I1 q1
  | false => exact ⟨.bl false, H1, I1, rfl, q1⟩
theorem pe_or (ha : PE X a ta) (hb : PE X (.BoolOp .Or (b :: rest) pos) tb) : PE X (.BoolOp .Or (a :: b :: rest) pos) (tOrV ta tb) := by
  intro pins s σ H Q I h
  refine BoolOp_or (thn (@ha pins s σ H _ I h) fun v s1 ⟨x, H1, I1, r1, q1⟩ => ?_)
  obtain ⟨c, rfl, q1⟩ := q1
  cases r1
  refine wpAny_truthy_bool ?_
  cases c with
  | false => exact @hb pins s1 σ H1 Q I1 q1
  | true => exact ⟨.bl true, H1, I1, rfl, q1⟩
theorem pe_not (ha : PE X a ta) : PE X (.UnaryOp .Not a pos) (tNotV ta) := by
  intro pins s σ H Q I h
  refine UnaryOp_ (thn (@ha pins s σ H _ I h) fun v s1 ⟨x, H1, I1, r1, q1⟩ => ?_)
  obtain ⟨c, rfl, q1⟩ := q1
  cases r1
  exact not_of (wpAny_truthy_bool ⟨.bl (!c), H1, I1, rfl, q1⟩)
end
end L2
namespace L2
open PySem PySem.Spec PyProof.Rows
noncomputable def SqL (K : PySem.W.Frag) (H : Hp) (a : Addr) (xs : List V) : Prop :=
  Rd H a (.lst xs) ∨
    ∃ (o : Obj) (its : Array Value) (n : Nat), K.lookup a = some o ∧ o.cls = .type "list" ∧ o.dict = none ∧ o.data = .seq its n ∧ its.size ≤ sizeLine ∧ Vals xs its.toList
noncomputable def SqT (K : PySem.W.Frag) (H : Hp) (a : Addr) (xs : List V) : Prop :=
  Rd H a (.tup xs) ∨
    ∃ (o : Obj) (its : Array Value) (n : Nat), K.lookup a = some o ∧ o.cls = .type "tuple" ∧ o.data = .seq its n ∧ its.size ≤ sizeLine ∧ Vals xs its.toList
noncomputable def absV : Value → Option V
  | .none => some .non
  | .bool b => some (.bl b)
  | .int i _ => some (.int i)
  | .str x _ => some (.str x)
  | .bytes b _ => some (.byt b)
  | .float b _ => some (.flt b)
  | .ref a => some (.ref a)
  | .type n => some (.ty n)
  | _ => none
theorem RelV.abs {x : V} {u : Value} (r : RelV x u) : absV u = some x := by
  cases x with
  | non => cases r; rfl
  | bl _ => cases r; rfl
  | int _ => obtain ⟨t, rfl⟩ := r; rfl
  | str _ => obtain ⟨t, rfl⟩ := r; rfl
  | byt _ => obtain ⟨t, rfl⟩ := r; rfl
  | flt _ => obtain ⟨t, rfl⟩ := r; rfl
  | ref _ => cases r; rfl
  | ty _ => cases r; rfl
theorem RelV.inj {x y : V} {u : Value} (r : RelV x u) (q : RelV y u) : x = y := Option.some.inj (r.abs.symm.trans q.abs)
theorem Vals.inj : ∀ {xs ys : List V} {us : List Value}, Vals xs us → Vals ys us → xs = ys
  | _, _, _, .nil, .nil => rfl
  | _, _, _, .cons r t, .cons r' t' => by rw [r.inj r', Vals.inj t t']
section
variable {X : Cx} {pins : List (Addr × Obj)} {σ : St} {H : Hp} {s : Shared} {a : Addr} {xs ys : List V}
theorem SqL.of {K : PySem.W.Frag} (h : H a = some (.lst xs)) : SqL K H a xs := .inl (.inl h)
theorem SqT.of {K : PySem.W.Frag} (h : H a = some (.tup xs)) : SqT K H a xs := .inl (.inl h)
theorem Inv.list (I : Inv X pins σ H s) (h : SqL X.K H a xs) : ∃ its : List Value, Vals xs its ∧ PlainL s.heap a its.toArray ∧ xs.length ≤ sizeLine := by
  rcases h with h | ⟨o, its, n, hk, hc, hd, hs, hz, r⟩
  · obtain ⟨z, its, n, r, e⟩ := h.ok I.hok
    exact ⟨its, r, ⟨_, n, e, rfl, rfl, rfl⟩, z⟩
  · refine ⟨its.toList, r, ⟨o, n, I.kIn a o hk, hc, hd, by simpa using hs⟩, ?_⟩
    have e := r.length
    simp only [Array.length_toList] at e
    (first | lia | omega)
theorem Inv.tuple (I : Inv X pins σ H s) (h : SqT X.K H a xs) : ∃ its : List Value, Vals xs its ∧ IsTup s.heap a its.toArray ∧ xs.length ≤ sizeLine := by
  rcases h with h | ⟨o, its, n, hk, hc, hs, hz, r⟩
  · obtain ⟨z, its, r, p⟩ := h.ok I.hok
    exact ⟨its, r, p, z⟩
  · refine ⟨its.toList, r, ⟨o, I.kIn a o hk, hc, n, by simpa using hs⟩, ?_⟩
    have e := r.length
    simp only [Array.length_toList] at e
    (first | lia | omega)
theorem Inv.list_inj (I : Inv X pins σ H s) (h : SqL X.K H a xs) (h' : SqL X.K H a ys) : xs = ys := by
  obtain ⟨its, r, ⟨o, n, e, _, _, d⟩, _⟩ := I.list h
  obtain ⟨its', r', ⟨o', n', e', _, _, d'⟩, _⟩ := I.list h'
  rw [e] at e'; cases e'
  rw [d] at d'
  injection d' with d1 _
  have : its = its' := by simpa using congrArg Array.toList d1
  subst this
  exact r.inj r'
theorem Inv.tuple_inj (I : Inv X pins σ H s) (h : SqT X.K H a xs) (h' : SqT X.K H a ys) : xs = ys := by
  obtain ⟨its, r, ⟨o, e, _, n, d⟩, _⟩ := I.tuple h
  obtain ⟨its', r', ⟨o', e', _, n', d'⟩, _⟩ := I.tuple h'
  rw [e] at e'; cases e'
  rw [d] at d'
  injection d' with d1 _
  have : its = its' := by simpa using congrArg Array.toList d1
  subst this
  exact r.inj r'
end
noncomputable abbrev Cx.wish (X : Cx) (E : Value → Shared → Prop) : Cx := { X with xe := E }
noncomputable abbrev Cx.nox (X : Cx) : Cx := X.wish fun _ _ => False
theorem Cx.Ok.wish {X : Cx} (ok : X.Ok) (E : Value → Shared → Prop) : (X.wish E).Ok :=
  ⟨ok.mod, ok.kind, ok.glob, ok.blt, ok.above, ok.inj, ok.has, ok.cab, ok.hd, ok.frames, ok.stk, ok.exf, ok.bs, ok.bsz, ok.noex, ok.exfs, ok.funs, ok.frf⟩
theorem Cx.Ok.unwish {X : Cx} {E : Value → Shared → Prop} (ok : (X.wish E).Ok) : X.Ok :=
  ⟨ok.mod, ok.kind, ok.glob, ok.blt, ok.above, ok.inj, ok.has, ok.cab, ok.hd, ok.frames, ok.stk, ok.exf, ok.bs, ok.bsz, ok.noex, ok.exfs, ok.funs, ok.frf⟩
section
variable {X : Cx} {pins : List (Addr × Obj)} {σ : St} {H : Hp} {s : Shared} {E : Value → Shared → Prop}
theorem Inv.wish (I : Inv X pins σ H s) (E : Value → Shared → Prop) : Inv (X.wish E) pins σ H s := ⟨I.ok.wish E, I.os, I.bare, I.base, I.loc, I.cell, I.free, I.freeC, I.pin, I.hok, I.len⟩
theorem Inv.unwish (I : Inv (X.wish E) pins σ H s) : Inv X pins σ H s := ⟨I.ok.unwish, I.os, I.bare, I.base, I.loc, I.cell, I.free, I.freeC, I.pin, I.hok, I.len⟩
theorem SP.unwish {D : Ends} {f : Flow} {s' : Shared} (h : SP (X.wish E) pins D f s') : SP X pins D f s' := by
  cases f with
  | next => obtain ⟨σ', H', I, q⟩ := h; exact ⟨σ', H', I.unwish, q⟩
  | brk => obtain ⟨σ', H', I, q⟩ := h; exact ⟨σ', H', I.unwish, q⟩
  | cont => obtain ⟨σ', H', I, q⟩ := h; exact ⟨σ', H', I.unwish, q⟩
  | ret u => obtain ⟨v, σ', H', I, r, q⟩ := h; exact ⟨v, σ', H', I.unwish, r, q⟩
theorem PSs.nox {st : List Stmt} {t : TS} (h : PSs X.nox st t) : PSs X st t := fun pins s σ H D I hw =>
  wpAny_mono (@h pins s σ H D (I.wish _) hw) (fun _ _ q => q.unwish) fun _ _ z => False.elim z
end
section
variable {X : Cx} {st : Stmt} {rest : List Stmt} {t u : TS} {e : Expr} {te : TE} {pos : Pos}
noncomputable def tNext : TS := fun D σ H => D.nx σ H
noncomputable def tSeq (t u : TS) : TS := fun D σ H => t { D with nx := u D } σ H
theorem pss_nil : PSs X [] tNext := fun _ _ σ H _ I h => wpAny_execs_nil ⟨σ, H, I, h⟩
theorem pss_cons (h1 : PS X st t) (h2 : PSs X rest u) : PSs X (st :: rest) (tSeq t u) := by
  intro pins s σ H D I h
  refine wpAny_execs_cons (thn (@h1 pins s σ H { D with nx := u D } I h) fun f s1 q => ?_)
  cases f with
  | next =>
    obtain ⟨σ', H', I', q⟩ := q
    exact @h2 pins s1 σ' H' D I' q
  | ret v => exact q
  | brk => exact q
  | cont => exact q
theorem pss_one (h1 : PS X st t) : PSs X [st] t := by
  intro pins s σ H D I h
  refine wpAny_execs_cons (thn (@h1 pins s σ H D I h) fun f s1 q => ?_)
  cases f with
  | next => exact wpAny_execs_nil q
  | ret v => exact q
  | brk => exact q
  | cont => exact q
theorem Inv.quiet {pins : List (Addr × Obj)} {σ : St} {H : Hp} {s : Shared} (I : Inv X pins σ H s) : interactive X.env = false := by simp [interactive, I.ok.kind]
noncomputable def tDrop (te : TE) : TS := fun D σ H => te σ H fun _ H1 => D.nx σ H1
theorem ps_expr (he : PE X e te) (hs : swapsWith e none pos.line X.env = pure false := by rfl) : PS X (.Expr e pos) (tDrop te) := by
  intro pins s σ H D I h
  exact wpAny_Expr_any (thn (@he pins s σ H _ I h) fun v s1 ⟨x, H1, I1, r1, q1⟩ => ⟨σ, H1, I1, q1⟩) I.quiet hs
noncomputable def tRet (te : TE) : TS := fun D σ H => te σ H D.rt
theorem ps_ret (he : PE X e te) : PS X (.Return (some e) pos) (tRet te) := by
  intro pins s σ H D I h
  exact wpAny_Return_some (thn (@he pins s σ H _ I h) fun v s1 ⟨x, H1, I1, r1, q1⟩ => ⟨x, σ, H1, I1, r1, q1⟩)
noncomputable def tIfS (c : TT) (t u : TS) : TS := fun D σ H => c σ H fun b H1 => if b = true then t D σ H1 else u D σ H1
theorem ps_if {c : Expr} {a b : List Stmt} {tc : TT} (hc : PT X c tc) (ha : PSs X a t) (hb : PSs X b u) : PS X (.If c a b pos) (tIfS tc t u) := by
  intro pins s σ H D I h
  refine wpAny_If (thn (@hc pins s σ H _ I h) fun d s1 ⟨H1, I1, q1⟩ => ?_)
  cases d with
  | true => exact @ha pins s1 σ H1 D I1 q1
  | false => exact @hb pins s1 σ H1 D I1 q1
noncomputable def tNever : TS := fun _ _ _ => False
theorem ps_never : PS X st tNever := fun _ _ _ _ _ _ h => h.elim
end
noncomputable abbrev TG := V → St → Hp → (St → Hp → Prop) → Prop
noncomputable abbrev TGs := List V → St → Hp → (St → Hp → Prop) → Prop
noncomputable def PG (X : Cx) (target : Expr) (t : TG) : Prop :=
  ∀ (pins : List (Addr × Obj)) (s : Shared) (σ : St) (H : Hp) (v : V) (u : Value) (Q : St → Hp → Prop), Inv X pins σ H s → RelV v u → t v σ H Q →
    wpAny (model X.prog X.w) X.A (assign target X.env u) (fun _ s' => ∃ σ' H', Inv X pins σ' H' s' ∧ Q σ' H') X.xe s
noncomputable def PGs (X : Cx) (ts : List Expr) (t : TGs) : Prop :=
  ∀ (pins : List (Addr × Obj)) (s : Shared) (σ : St) (H : Hp) (vs : List V) (us : List Value) (Q : St → Hp → Prop), Inv X pins σ H s → Vals vs us → t vs σ H Q →
    wpAny (model X.prog X.w) X.A (assignInOrder ((assignEach ts X.env).map (·.2)) us) (fun _ s' => ∃ σ' H', Inv X pins σ' H' s' ∧ Q σ' H') X.xe s
noncomputable abbrev TSet := V → V → V → Hp → (Hp → Prop) → Prop
noncomputable def PSet (X : Cx) (t : TSet) : Prop :=
  ∀ (pins : List (Addr × Obj)) (s : Shared) (σ : St) (H : Hp) (o i v : V) (ov iv u : Value) (Q : Hp → Prop), Inv X pins σ H s → RelV o ov → RelV i iv → RelV v u → t o i v H Q →
    wpAny (model X.prog X.w) X.A (setItem ov iv u) (fun _ s' => ∃ H', Inv X pins σ H' s' ∧ Q H') X.xe s
section
variable {X : Cx} {pos : Pos}
noncomputable def gName (i : Nat) : TG := fun v σ H Q => Q (σ.set i (some v)) H
theorem pg_name {i : Nat} {x : Str} (hN : X.N.Nodup) (hi : X.N[i]? = some x) (hx : Loc X.env.scope x) (hf : X.fn x = true ∨ X.env.scope.names.lookup x = some .local := by first | exact .inl rfl | exact .inr rfl | assumption) : PG X (.Name x pos) (gName i) := by
  intro pins s σ H v u Q I r h
  exact wpAny_assign_Name (store_ok I hN hi hx r (fun s' I' => ⟨_, H, I', h⟩) hf)
noncomputable def gNil : TGs := fun vs σ H Q => vs = [] ∧ Q σ H
noncomputable def gCons (t : TG) (u : TGs) : TGs := fun vs σ H Q => ∃ v r, vs = v :: r ∧ t v σ H fun σ' H' => u r σ' H' Q
theorem pgs_nil : PGs X [] gNil := by
  intro pins s σ H vs us Q I r h
  obtain ⟨e, h⟩ := h
  subst e
  cases r
  exact assignInOrder_nil ⟨σ, H, I, h⟩
theorem pgs_cons {e : Expr} {es : List Expr} {t : TG} {u : TGs} (h1 : PG X e t) (h2 : PGs X es u)
    (hs : (assignEach (e :: es) X.env).map (·.2) = assign e X.env :: (assignEach es X.env).map (·.2) := by rfl) : PGs X (e :: es) (gCons t u) := by
  intro pins s σ H vs us Q I r h
  obtain ⟨v, vr, e1, h⟩ := h
  subst e1
  cases r with
  | cons r rr =>
    rw [hs]
    refine assignInOrder_cons (thn (@h1 pins s σ H _ _ _ I r h) fun _ s1 ⟨σ1, H1, I1, q1⟩ => ?_)
    exact @h2 pins s1 σ1 H1 _ _ Q I1 rr q1
noncomputable def gTup (K : PySem.W.Frag) (n : Nat) (t : TGs) : TG := fun v σ H Q => ∃ a xs, v = .ref a ∧ SqT K H a xs ∧ xs.length = n ∧ t xs σ H Q
theorem pg_tup {es : List Expr} {k : Nat} {t : TGs} {n : Nat} (hc : X.calm = true) (h : PGs X es t)
    (hn : (assignEach es X.env).length = n := by rfl) (hst : (assignEach es X.env).findIdx? (·.1) = none := by rfl) : PG X (.Tuple es k pos) (gTup X.K n t) := by
  intro pins s σ H v u Q I r hw
  obtain ⟨a, xs, e1, hq, hl, hw⟩ := hw
  subst e1
  cases r
  obtain ⟨its, rv, ht, hz⟩ := I.tuple hq
  refine assign_Tuple_tuple (I.ok.hd hc) ht (by simp [hn, ← hl, rv.length]) hst fun h' hx => ?_
  have I1 : Inv X pins σ H { s with heap := h' } := I.kept (t' := s.toks) fun b o e => hx b o (Nat.ne_of_lt (Heap.lt_size e)) e
  exact @h pins _ σ H xs _ Q I1 (by simpa using rv) hw
noncomputable def gSub (to ti : TE) (t : TSet) : TG := fun v σ H Q => to σ H fun o H1 => ti σ H1 fun i H2 => t o i v H2 fun H3 => Q σ H3
theorem pg_sub {o i : Expr} {to ti : TE} {t : TSet} (ho : PE X o to) (hi : PE X i ti) (hs : PSet X t)
    (ha : ∀ v, assign (.Subscript o i pos) X.env v = (do
      let ov ← holding [v] (eval o X.env)
      let iv ← holding [v, ov] (eval i X.env)
      standAt pos
      holding [v, ov, iv] (setItem ov iv v)
      release [v, ov, iv] []) := by intro _; rfl) : PG X (.Subscript o i pos) (gSub to ti t) := by
  intro pins s σ H v u Q I r h
  rw [ha]
  refine wpAny_bind (wpAny_holding (thn (@ho pins s σ H _ I h) fun ov s1 ⟨x, H1, I1, r1, q1⟩ => ?_))
  refine wpAny_bind (wpAny_holding (thn (@hi pins s1 σ H1 _ I1 q1) fun iv s2 ⟨y, H2, I2, r2, q2⟩ => ?_))
  refine wpAny_bind (wpAny_standAt (wpAny_bind (wpAny_holding (thn (@hs pins s2 σ H2 x y v ov iv u _ I2 r1 r2 r q2) fun _ s3 ⟨H3, I3, q3⟩ => ?_))))
  exact wpAny_release ⟨σ, H3, I3, q3⟩
noncomputable def tAsg (te : TE) (g : TG) : TS := fun D σ H => te σ H fun x H1 => g x σ H1 D.nx
theorem ps_asg {tg e : Expr} {te : TE} {g : TG} (he : PE X e te) (hg : PG X tg g) (hs : swapsWithSole [tg] e pos.line X.env = pure false := by rfl) (hw : swappedStores [tg] e X.env = pure none := by rfl)
    (h1 : (assignEach [tg] X.env).map (·.2) = [assign tg X.env] := by rfl) : PS X (.Assign [tg] e pos) (tAsg te g) := by
  intro pins s σ H D I h
  refine wpAny_Assign_stores (thn (@he pins s σ H _ I h) fun v s1 ⟨x, H1, I1, r1, q1⟩ => ?_) hs hw
  rw [h1]
  exact thn (@hg pins s1 σ H1 x v _ I1 r1 q1) fun _ s2 q => q
theorem ps_set {i : Nat} {x : Str} {e : Expr} {te : TE} {pos' : Pos} (hN : X.N.Nodup) (hi : X.N[i]? = some x) (hx : Loc X.env.scope x) (he : PE X e te) (hs : swapsWith e (some (.Name x pos')) pos.line X.env = pure false := by rfl) (hf : X.fn x = true ∨ X.env.scope.names.lookup x = some .local := by first | exact .inl rfl | exact .inr rfl | assumption) :
    PS X (.Assign [.Name x pos'] e pos) (tAsg te (gName i)) := by
  intro pins s σ H D I h
  refine wpAny_Assign_Name (thn (@he pins s σ H _ I h) fun v s1 ⟨y, H1, I1, r1, q1⟩ => ?_) hs
  exact store_ok I1 hN hi hx r1 (fun s2 I2 => ⟨_, H1, I2, q1⟩) hf
noncomputable def tPar (i j : Nat) (ta : TA) : TS := fun D σ H => ta σ H fun vs H1 => ∃ v w, vs = [v, w] ∧ D.nx ((σ.set i (some v)).set j (some w)) H1
theorem ps_par {i j : Nat} {x y : Str} {a b : Expr} {ta : TA} {px py pt : Pos} {kt k2 pt2} (hc : X.calm = true) (hN : X.N.Nodup) (hi : X.N[i]? = some x) (hj : X.N[j]? = some y) (hij : i ≠ j)
    (hx : X.env.scope.names.lookup x = some .local) (hy : X.env.scope.names.lookup y = some .local) (ha : PA X [a, b] ta)
    (hw : swappedStores [.Tuple [.Name x px, .Name y py] kt pt] (.Tuple [a, b] k2 pt2) X.env = pure (some [x, y]))
    (hs : swapsWithSole [.Tuple [.Name x px, .Name y py] kt pt] (.Tuple [a, b] k2 pt2) pos.line X.env = pure false := by rfl) :
    PS X (.Assign [.Tuple [.Name x px, .Name y py] kt pt] (.Tuple [a, b] k2 pt2) pos) (tPar i j ta) := by
  intro pins s σ H D I h
  rw [exec_Assign_arm]
  refine wpAny_bind (wpAny_standAt ?_)
  rw [hs]
  refine wpAny_bind (wpAny_pure ?_)
  rw [if_neg (by decide)]
  refine wpAny_bind (Tuple_ (thn (@ha _ pins s σ H _ I h) fun us s1 ⟨vs, H1, I1, r1, q1⟩ => ?_))
  obtain ⟨v, w, e1, q1⟩ := q1
  subst e1
  obtain ⟨u1, u2, rfl, rv, rw'⟩ : ∃ u1 u2, us = [u1, u2] ∧ RelV v u1 ∧ RelV w u2 := by
    cases r1 with
    | cons p q =>
      cases q with
      | cons p' q' =>
        cases q'
        exact ⟨_, _, rfl, p, p'⟩
  refine wpAny_newObj_type ?_ (by show 2 ≤ sizeLine; decide)
  have I2 : Inv X pins σ H1 { s1 with heap := s1.heap.push { cls := .type "tuple", data := .seq [u1, u2].toArray } } := I1.kept (t' := s1.toks) fun b o e => Heap.get?_push_of_some _ e
  rw [hw]
  refine wpAny_bind (wpAny_pure ?_)
  show wpAny (model X.prog X.w) X.A (do rule "assign.swapped-stores"; let items ← unpackItems (.ref s1.heap.objs.size) 2 none; assignInOrder [fun v => bindName X.env y v, fun v => bindName X.env x v] items.reverse; pure Flow.next) _ _ _
  refine wpAny_bind (wpAny_rule (wpAny_bind (unpackItems_tuple (items := #[u1, u2]) (I.ok.hd hc) (IsTup.new s1.heap _) fun h' hx' => ?_)))
  have I3 := I2.kept (h' := h') (t' := s1.toks) fun b o e => hx' b o (Nat.ne_of_lt (Heap.lt_size e)) e
  show wpAny _ _ (assignInOrder [fun v => bindName X.env y v, fun v => bindName X.env x v] [u2, u1] >>= fun _ => pure Flow.next) _ _ _
  refine wpAny_bind (assignInOrder_cons (wpAny_bindName (store_ok I3 hN hj (.inl hy) rw' (fun s2 I4 => ?_) (.inr hy))))
  refine assignInOrder_cons (wpAny_bindName (store_ok I4 hN hi (.inl hx) rv (fun s3 I5 => assignInOrder_nil (wpAny_pure ?_)) (.inr hx)))
  rw [List.set_comm _ _ (Ne.symm hij)] at I5
  exact ⟨_, H1, I5, q1⟩
end
section
variable {X : Cx} {pos : Pos}
noncomputable def tWhile (c : TT) (tb : TS) : TS := fun D σ H => ∃ W : Nat → St → Hp → Prop, (∃ m, W m σ H) ∧ ∀ m σ H, W m σ H →
  c σ H fun b H1 => if b = true then ∃ N : St → Hp → Prop, (∀ σ' H', N σ' H' → ∃ m', m' < m ∧ W m' σ' H') ∧ tb { D with nx := N, ct := N, bk := D.nx } σ H1 else D.nx σ H1
theorem ps_while {c : Expr} {body : List Stmt} {tc : TT} {tb : TS} (hp : PassesOwn (model X.prog X.w) X.A X.env X.xe) (hc : PT X c tc) (hb : PSs X body tb) : PS X (.While c body [] pos) (tWhile tc tb) := by
  intro pins s σ H D I h
  obtain ⟨W, ⟨m0, w0⟩, turn⟩ := h
  refine wpAny_While (codeAny_whileLoop (fun n s' => ∃ σ' H', Inv X pins σ' H' s' ∧ W n σ' H') ?_ m0 ⟨σ, H, I, w0⟩)
  rintro n s1 ⟨σ1, H1, I1, w1⟩
  refine wpAny_passesOwn hp (thn (@hc pins s1 σ1 H1 _ I1 (turn n σ1 H1 w1)) fun b s2 ⟨H2, I2, q2⟩ => ?_)
  cases b with
  | true =>
    obtain ⟨N, hN, q2⟩ := q2
    rw [if_pos rfl]
    refine wpAny_passesOwn hp (thn (@hb pins s2 σ1 H2 _ I2 q2) fun f s3 q3 => ?_)
    cases f with
    | next =>
      obtain ⟨σ3, H3, I3, n3⟩ := q3
      obtain ⟨m', hm, w3⟩ := hN σ3 H3 n3
      exact ⟨m', hm, σ3, H3, I3, w3⟩
    | cont =>
      obtain ⟨σ3, H3, I3, n3⟩ := q3
      obtain ⟨m', hm, w3⟩ := hN σ3 H3 n3
      exact ⟨m', hm, σ3, H3, I3, w3⟩
    | brk => exact q3
    | ret v => exact q3
  | false =>
    rw [if_neg Bool.false_ne_true]
    exact wpAny_execs_nil ⟨σ1, H2, I2, q2⟩
end
structure It where
  go : Nat → Hp → Prop
  yld : Nat → Hp → V → Hp → Prop
  stop : Nat → Hp → Prop
noncomputable def FpOk (X : Cx) (pins : List (Addr × Obj)) (H : Hp) (b : Addr) : Prop :=
  H b = none ∧ b ≠ X.env.locals ∧ b ∉ X.fs ∧ (b ∈ X.ex ∨ X.s₀.heap.objs.size ≤ b) ∧ (∀ x c, X.env.cells.lookup x = some c → c ≠ b) ∧ ∀ p ∈ X.pn ++ pins, p.1 ≠ b
theorem Inv.fpOk {X : Cx} {pins : List (Addr × Obj)} {σ : St} {H H' : Hp} {s : Shared} {b : Addr} (I : Inv X pins σ H s) (hb : s.heap.objs.size ≤ b) (hn : H' b = none) : FpOk X pins H' b := by
  refine ⟨hn, Nat.ne_of_gt (Nat.lt_of_lt_of_le I.lt hb), I.nofs hb, .inr (Nat.le_trans I.sz hb), fun x c e z => ?_, fun p hp z => ?_⟩
  · obtain ⟨v, q⟩ := I.cell x c e
    exact absurd (Nat.lt_of_lt_of_le q.lt (by rw [z]; exact hb)) (Nat.lt_irrefl _)
  · exact absurd (Nat.lt_of_lt_of_le (Heap.lt_size (I.pin p hp).1) (by rw [z]; exact hb)) (Nat.lt_irrefl _)
structure Turn (P : Program) (w : World) (K : PySem.W.Frag) (tg : Expr) (J : It) (fp : List Addr) (it : Addr) (tn : Nat → Heap → Prop) : Prop where
  mem : it ∈ fp
  obj : ∀ i h, tn i h → ∀ b ∈ fp, ∃ o, h.get? b = some o ∧ ∀ v, o.data ≠ .cell v
  keep : ∀ i h h', tn i h → (∀ b ∈ fp, ∀ o, h.get? b = some o → h'.get? b = some o) → tn i h'
  item : ∀ (X : Cx), X.prog = P → X.w = w → X.K = K → X.calm = true → ∀ (i : Nat) (pins : List (Addr × Obj)) (s : Shared) (σ : St) (H : Hp) (E : Value → Shared → Prop), Inv X pins σ H s → (∀ b ∈ fp, FpOk X pins H b) → tn i s.heap → J.go i H →
    wpAny (model P w) X.A (pyNext (.ref it)) (fun r s1 => ∃ u, r = some u ∧
      wpAny (model P w) X.A (letOwnedTupleGo tg (.ref it) u) (fun _ s2 => ∃ x H', Inv X pins σ H' s2 ∧ RelV x u ∧ J.yld i H x H' ∧ tn (i + 1) s2.heap ∧ ∀ b ∈ fp, H' b = none) E s1) E s
  done : ∀ (X : Cx), X.prog = P → X.w = w → X.K = K → X.calm = true → ∀ (i : Nat) (pins : List (Addr × Obj)) (s : Shared) (σ : St) (H : Hp) (E : Value → Shared → Prop), Inv X pins σ H s → (∀ b ∈ fp, FpOk X pins H b) → tn i s.heap → J.stop i H →
    wpAny (model P w) X.A (pyNext (.ref it)) (fun r s1 => r = none ∧ Inv X pins σ H s1) E s
  self : ∀ (A : Around) (i : Nat) (s : Shared) (Q : Value → Shared → Prop) (E : Value → Shared → Prop), tn i s.heap → Q (.ref it) s → wpAny (model P w) A (pyIter (.ref it)) Q E s
noncomputable abbrev TI := St → Hp → (It → Hp → Prop) → Prop
noncomputable def PIE (X : Cx) (pins : List (Addr × Obj)) (σ : St) (tg : Expr) (R : It → Hp → Prop) (itv : Value) (s2 : Shared) : Prop :=
  ∃ (it : Addr) (fp : List Addr) (tn : Nat → Heap → Prop) (J : It) (H' : Hp), itv = .ref it ∧ Inv X pins σ H' s2 ∧ Turn X.prog X.w X.K tg J fp it tn ∧ tn 0 s2.heap ∧ (∀ b ∈ fp, FpOk X pins H' b) ∧ R J H'
noncomputable def PI (X : Cx) (tg iter : Expr) (wi : TI) : Prop :=
  ∀ (pins : List (Addr × Obj)) (s : Shared) (σ : St) (H : Hp) (R : It → Hp → Prop), Inv X pins σ H s → wi σ H R →
    wpAny (model X.prog X.w) X.A (eval iter X.env) (fun v s1 => wpAny (model X.prog X.w) X.A (pyIter v) (PIE X pins σ tg R) X.xe s1) X.xe s
theorem go_of {M : Model} {A : Around} {E : Value → Shared → Prop} {s : Shared} {tg : Expr} {it : Addr} {u : Value} {o : Obj} {n : String} {vs : Array Value} {Q : Unit → Shared → Prop} (ho : s.heap.get? it = some o) (hc : o.cls = .type n) (hd : o.data = .fields vs)
    (hn : ["enumerate", "zip", "dict_itemiterator", "dict_reverseitemiterator", "odict_iterator", "itertools.zip_longest", "itertools.pairwise"].contains n = false) (hQ : Q () s) : wpAny M A (letOwnedTupleGo tg (.ref it) u) Q E s := by
  unfold letOwnedTupleGo
  cases tg <;> first
    | exact wpAny_pure hQ
    | (cases u <;> first
        | exact wpAny_pure hQ
        | (refine wpAny_bind (wpAny_load ho ?_)
           rw [hc, hd]
           show wpAny M A (if (["enumerate", "zip", "dict_itemiterator", "dict_reverseitemiterator", "odict_iterator", "itertools.zip_longest", "itertools.pairwise"].contains n && vs[0]? == some (rawInt _)) = true then _ else _) Q E s
           rw [if_neg (by intro h; rw [hn, Bool.false_and] at h; cases h)]
           exact wpAny_pure hQ))
noncomputable def Itl (K : PySem.W.Frag) (a : Addr) : It :=
  ⟨fun i H => ∃ xs x, SqL K H a xs ∧ xs[i]? = some x, fun i H x H' => H' = H ∧ ∀ xs, SqL K H a xs → xs[i]? = some x, fun i H => ∃ xs, SqL K H a xs ∧ xs.length ≤ i⟩
noncomputable def Itt (K : PySem.W.Frag) (a : Addr) : It :=
  ⟨fun i H => ∃ xs x, SqT K H a xs ∧ xs[i]? = some x, fun i H x H' => H' = H ∧ ∀ xs, SqT K H a xs → xs[i]? = some x, fun i H => ∃ xs, SqT K H a xs ∧ xs.length ≤ i⟩
noncomputable def Itr (lo : Int) (n : Nat) : It := ⟨fun i _ => i < n, fun i H x H' => H' = H ∧ x = .int (lo + i), fun i _ => n ≤ i⟩
theorem turn_list {P : Program} {w : World} {K : PySem.W.Frag} {tg : Expr} (a it : Addr) : Turn P w K tg (Itl K a) [it] it (fun i h => h.IsListIter it a i) where
  mem := by simp
  obj := fun i h st b hb => by
    have e : b = it := by simpa using hb
    subst e
    obtain ⟨o, e, c, d⟩ := st
    exact ⟨o, e, fun v z => by rw [d] at z; cases z⟩
  keep := fun i h h' st k => st.at fun o e => k it (by simp) o e
  item := by
    intro X hP hw hK hc i pins s σ H E I hf st hg
    subst hP hw hK
    obtain ⟨xs, x, hq, hx⟩ := hg
    obtain ⟨its, rv, p, hz⟩ := I.list hq
    obtain ⟨u, hu, ru⟩ := rv.get hx
    obtain ⟨f0, f1, f2, f3, f4, f5⟩ := hf it (by simp)
    refine wpAny_pyNext_list_item st p.isList (x := u) (by simpa using hu) fun h' st' sb => ?_
    have I1 : Inv X pins σ H { s with heap := h' } := I.turned (t' := s.toks) (fun b o hb e => (sb.2 b hb).trans e) f0 f1 f3 f4 f5
    obtain ⟨o, e, c, d⟩ := id st'
    exact ⟨u, rfl, go_of (s := { s with heap := h' }) e c d (by decide) ⟨x, H, I1, ru, ⟨rfl, fun ys hy => by rw [I.list_inj hy hq]; exact hx⟩, st', fun b hb => (hf b hb).1⟩⟩
  done := by
    intro X hP hw hK hc i pins s σ H E I hf st hg
    subst hP hw hK
    obtain ⟨xs, hq, hx⟩ := hg
    obtain ⟨its, rv, p, hz⟩ := I.list hq
    obtain ⟨f0, f1, f2, f3, f4, f5⟩ := hf it (by simp)
    have hl := rv.length
    exact wpAny_pyNext_list_end (I.ok.hd hc) st p.isList (by simp; (first | lia | omega)) fun h' eb => ⟨rfl, I.turned (t' := s.toks) (fun b o hb e => eb b o hb e) f0 f1 f3 f4 f5⟩
  self := fun _ _ _ _ _ st h => wpAny_pyIter_listiter st h
theorem turn_tuple {P : Program} {w : World} {K : PySem.W.Frag} {tg : Expr} (a it : Addr) : Turn P w K tg (Itt K a) [it] it (fun i h => h.IsTupleIter it a i) where
  mem := by simp
  obj := fun i h st b hb => by
    have e : b = it := by simpa using hb
    subst e
    obtain ⟨o, e, c, d⟩ := st
    exact ⟨o, e, fun v z => by rw [d] at z; cases z⟩
  keep := fun i h h' st k => st.at fun o e => k it (by simp) o e
  item := by
    intro X hP hw hK hc i pins s σ H E I hf st hg
    subst hP hw hK
    obtain ⟨xs, x, hq, hx⟩ := hg
    obtain ⟨its, rv, p, hz⟩ := I.tuple hq
    obtain ⟨u, hu, ru⟩ := rv.get hx
    obtain ⟨f0, f1, f2, f3, f4, f5⟩ := hf it (by simp)
    refine wpAny_pyNext_tuple_item st (show s.heap.IsTuple a its.toArray from p) (x := u) (by simpa using hu) fun h' st' sb => ?_
    have I1 : Inv X pins σ H { s with heap := h' } := I.turned (t' := s.toks) (fun b o hb e => (sb.2 b hb).trans e) f0 f1 f3 f4 f5
    obtain ⟨o, e, c, d⟩ := id st'
    exact ⟨u, rfl, go_of (s := { s with heap := h' }) e c d (by decide) ⟨x, H, I1, ru, ⟨rfl, fun ys hy => by rw [I.tuple_inj hy hq]; exact hx⟩, st', fun b hb => (hf b hb).1⟩⟩
  done := by
    intro X hP hw hK hc i pins s σ H E I hf st hg
    subst hP hw hK
    obtain ⟨xs, hq, hx⟩ := hg
    obtain ⟨its, rv, p, hz⟩ := I.tuple hq
    obtain ⟨f0, f1, f2, f3, f4, f5⟩ := hf it (by simp)
    have hl := rv.length
    exact wpAny_pyNext_tuple_end (I.ok.hd hc) st (show s.heap.IsTuple a its.toArray from p) (by simp; (first | lia | omega)) fun h' eb => ⟨rfl, I.turned (t' := s.toks) (fun b o hb e => eb b o hb e) f0 f1 f3 f4 f5⟩
  self := fun _ _ _ _ _ st h => wpAny_pyIter_tupleiter st h
theorem turn_range {P : Program} {w : World} {K : PySem.W.Frag} {tg : Expr} (it : Addr) (lo : Int) (n : Nat) : Turn P w K tg (Itr lo n) [it] it (fun i h => IsRangeIter h it (lo + (i : Nat) * 1) ((n : Int) - (i : Nat)) 1) where
  mem := by simp
  obj := fun i h st b hb => by
    have e : b = it := by simpa using hb
    subst e
    exact ⟨_, st, fun v z => by
      have z' : Data.fields _ = Data.cell v := z
      cases z'⟩
  keep := fun i h h' st k => k it (by simp) _ st
  item := by
    intro X hP hw hK hc i pins s σ H E I hf st hg
    subst hP hw hK
    obtain ⟨f0, f1, f2, f3, f4, f5⟩ := hf it (by simp)
    have W := Walks.range (prog := X.prog) (w := X.w) (I.ok.hd hc) it lo 1 n
    refine W.item i s _ _ hg st fun v h' tk hv st' kk => ?_
    obtain ⟨t, rfl⟩ := hv
    have I1 : Inv X pins σ H { s with heap := h', toks := tk } := I.turned (fun b o hb e => kk b o (by simpa using hb) e) f0 f1 f3 f4 f5
    refine ⟨_, rfl, go_of (s := { s with heap := h', toks := tk }) (n := "range_iterator") st' rfl rfl (by decide) ⟨.int (lo + i), H, I1, ⟨t, ?_⟩, ⟨rfl, rfl⟩, st', fun b hb => (hf b hb).1⟩⟩
    rw [Int.mul_one]
  done := by
    intro X hP hw hK hc i pins s σ H E I hf st hg
    subst hP hw hK
    obtain ⟨f0, f1, f2, f3, f4, f5⟩ := hf it (by simp)
    exact wpAny_pyNext_range_end (I.ok.hd hc) st (by have : n ≤ i := hg; (first | lia | omega)) fun h' eb => ⟨rfl, I.turned (t' := s.toks) (fun b o hb e => eb b o hb e) f0 f1 f3 f4 f5⟩
  self := fun _ _ _ _ _ st h => wpAny_pyIter_rangeiter st h
end L2
namespace L2
open PySem PySem.Spec PyProof.Rows
section
variable {X : Cx} {tg : Expr}
theorem range_it {pins : List (Addr × Obj)} {σ : St} {H : Hp} {s : Shared} {R : It → Hp → Prop} {E : Value → Shared → Prop} {lo hi : Int} {t u v : Tok} {tk : Nat} (I : Inv X pins σ H s) (h1 : -(2 ^ 62) ≤ lo) (h2 : lo < 2 ^ 62) (h3 : -(2 ^ 62) ≤ hi) (h4 : hi < 2 ^ 62)
    (q : R (Itr lo (hi - lo).toNat) H) : wpAny (model X.prog X.w) X.A (pyIter (.ref s.heap.objs.size)) (PIE X pins σ tg R) E { s with heap := s.heap.push { cls := .type "range", data := .fields #[.int lo t, .int hi u, .int 1 v] }, toks := tk } := by
  refine wpAny_pyIter_range (IsRange.new ..) (small_one h1 h2 h3 h4) ?_
  have I1 : Inv X pins σ H { s with heap := s.heap.push { cls := .type "range", data := .fields #[.int lo t, .int hi u, .int 1 v] }, toks := tk } := I.kept fun b o e => Heap.get?_push_of_some _ e
  refine ⟨(s.heap.push { cls := .type "range", data := .fields #[.int lo t, .int hi u, .int 1 v] }).objs.size, [(s.heap.push { cls := .type "range", data := .fields #[.int lo t, .int hi u, .int 1 v] }).objs.size], _, _, H, rfl,
    I1.kept (t' := tk) fun b o e => Heap.get?_push_of_some _ e, turn_range _ lo (hi - lo).toNat, ?_, fun b hb => ?_, q⟩
  · have e1 : lo + ((0 : Nat) : Int) * 1 = lo := by simp
    have e2 : (((hi - lo).toNat : Nat) : Int) - ((0 : Nat) : Int) = Builtin.Range.rangeSize lo hi 1 := by rw [rangeSize_one]; split <;> (first | lia | omega)
    show IsRangeIter _ _ (lo + ((0 : Nat) : Int) * 1) ((((hi - lo).toNat : Nat) : Int) - ((0 : Nat) : Int)) 1
    rw [e1, e2]
    exact Heap.get?_push_size _ rfl
  · have e : b = (s.heap.push { cls := .type "range", data := .fields #[.int lo t, .int hi u, .int 1 v] }).objs.size := by simpa using hb
    subst e
    exact I1.fpOk (Nat.le_refl _) (I1.hok.fresh (Nat.le_refl _))
noncomputable def iRng1 (ta : TA) : TI := fun σ H R => ta σ H fun vs H1 => ∃ j : Int, vs = [.int j] ∧ -(2 ^ 62) ≤ j ∧ j < 2 ^ 62 ∧ R (Itr 0 j.toNat) H1
theorem pi_range1 {a : Expr} {ta : TA} {p pos : Pos} (hg : Gl X "range") (hm : X.mg "range" = none) (ha : PA X [a] ta) (hs : starEach [a] X.env = [(false, eval a X.env)] := by rfl) : PI X tg (.Call (.Name "range" p) [a] [] pos) (iRng1 ta) := by
  intro pins s σ H R I h
  refine Call_ (ld_blt I hg hm boot_range (PyProof.Rows.callWith_type1 (thn (@ha pos pins s σ H _ I h) fun us s1 ⟨vs, H1, I1, r1, q1⟩ => ?_) hs rfl))
  obtain ⟨j, e, q1, q2, q⟩ := q1
  subst e
  cases r1 with
  | cons r rr =>
    cases rr
    obtain ⟨t, rfl⟩ := r
    exact call_range_1 (range_it I1 (by (first | lia | omega)) (by (first | lia | omega)) q1 q2 (by simpa using q))
noncomputable def tFor (wi : TI) (g : TG) (tb : TS) : TS := fun D σ H => wi σ H fun J H1 => ∃ W : Nat → Nat → St → Hp → Prop, (∃ m, W 0 m σ H1) ∧ ∀ i m σ H, W i m σ H →
  (J.stop i H ∧ D.nx σ H) ∨ (J.go i H ∧ ∃ N : St → Hp → Prop, (∀ σ' H', N σ' H' → ∃ m', m' < m ∧ W (i + 1) m' σ' H') ∧ ∀ x H', J.yld i H x H' → g x σ H' fun σ2 H2 => tb { D with nx := N, ct := N, bk := D.nx } σ2 H2)
noncomputable def pinsAt (fp : List Addr) (h : Heap) : List (Addr × Obj) := fp.filterMap fun b => (h.get? b).map fun o => (b, o)
theorem mem_pinsAt {fp : List Addr} {h : Heap} {b : Addr} {o : Obj} (hb : b ∈ fp) (e : h.get? b = some o) : (b, o) ∈ pinsAt fp h := List.mem_filterMap.mpr ⟨b, hb, by rw [e]; rfl⟩
theorem of_pinsAt {fp : List Addr} {h : Heap} {p : Addr × Obj} (hp : p ∈ pinsAt fp h) : p.1 ∈ fp ∧ h.get? p.1 = some p.2 := by
  obtain ⟨b, hb, e⟩ := List.mem_filterMap.mp hp
  cases q : h.get? b with
  | none => rw [q] at e; cases e
  | some o =>
    rw [q] at e
    have e' : (b, o) = p := Option.some.inj e
    subst e'
    exact ⟨hb, q⟩
theorem Inv.pinned {pins : List (Addr × Obj)} {σ : St} {H : Hp} {s : Shared} {fp : List Addr} (I : Inv X pins σ H s) (hf : ∀ b ∈ fp, FpOk X pins H b) (ho : ∀ b ∈ fp, ∃ o, s.heap.get? b = some o ∧ ∀ v, o.data ≠ .cell v) : Inv X (pins ++ pinsAt fp s.heap) σ H s :=
  I.pins_of fun p hp => (List.mem_append.mp hp).elim (fun z => I.pin p (List.mem_append_right _ z)) fun z => by
    obtain ⟨hb, e⟩ := of_pinsAt z
    obtain ⟨f0, f1, f2, _⟩ := hf p.1 hb
    obtain ⟨o, e', d⟩ := ho p.1 hb
    rw [e] at e'; cases e'
    exact ⟨e, f0, f1, f2, d⟩
theorem Inv.unpinned {pins pl : List (Addr × Obj)} {σ : St} {H : Hp} {s : Shared} (I : Inv X (pins ++ pl) σ H s) : Inv X pins σ H s := I.pins_of fun p hp => I.pin p (List.mem_append_right _ (List.mem_append_left _ hp))
theorem ps_for {iter : Expr} {body : List Stmt} {wi : TI} {g : TG} {tb : TS} {pos : Pos} (hp : PassesOwn (model X.prog X.w) X.A X.env X.xe) (hc : X.calm = true) (hi : PI X tg iter wi) (hg : PG X tg g) (hb : PSs X body tb)
    (hs : ∀ x, foldedSetIterable iter X.env x = pure x := by intro _; rfl) : PS X (.For tg iter body [] pos) (tFor wi g tb) := by
  intro pins s σ H D I h
  refine wpAny_For (thn (@hi pins s σ H _ I h) fun v s1 h1 => thn h1 fun itv s2 h2 => ?_) hs
  obtain ⟨it, fp, tn, J, H2, e, I2, T, st2, f2, W, ⟨m0, w0⟩, turn⟩ := h2
  subst e
  have stat : ∀ {H' : Hp}, (∀ b ∈ fp, H' b = none) → ∀ b ∈ fp, FpOk X pins H' b := fun hn b hb => ⟨hn b hb, (f2 b hb).2⟩
  refine codeAny_forLoop_any (fun n s' => ∃ i σ' H', Inv X pins σ' H' s' ∧ tn i s'.heap ∧ (∀ b ∈ fp, H' b = none) ∧ W i n σ' H') ?_ m0 ⟨0, σ, H2, I2, st2, fun b hb => (f2 b hb).1, w0⟩
  rintro n s3 ⟨i, σ3, H3, I3, st3, fr3, w3⟩
  rcases turn i n σ3 H3 w3 with ⟨stop, qn⟩ | ⟨go, N, hN, step⟩
  · refine wpAny_passesOwn hp (thn (T.done X rfl rfl rfl hc i pins s3 σ3 H3 X.xe I3 (stat fr3) st3 stop) fun r s4 ⟨hr, I4⟩ => ?_)
    subst hr
    exact wpAny_execs_nil ⟨σ3, H3, I4, qn⟩
  · refine wpAny_passesOwn hp (thn (T.item X rfl rfl rfl hc i pins s3 σ3 H3 X.xe I3 (stat fr3) st3 go) fun r s4 ⟨u, hr, h4⟩ => ?_)
    subst hr
    refine wpAny_passesOwn hp (thn h4 fun _ s5 ⟨x, H5, I5, r5, y5, st5, fr5⟩ => ?_)
    have I5' := I5.pinned (stat fr5) (T.obj _ _ st5)
    refine wpAny_passesOwn hp (thn (hg _ s5 σ3 H5 x u _ I5' r5 (step x H5 y5)) fun _ s6 ⟨σ6, H6, I6, q6⟩ => ?_)
    refine wpAny_passesOwn hp (thn (@hb _ s6 σ6 H6 _ I6 q6) fun f s7 q7 => ?_)
    have again : ∀ {σ7 : St} {H7 : Hp}, Inv X (pins ++ pinsAt fp s5.heap) σ7 H7 s7 → N σ7 H7 → ∃ m, m < n ∧ ∃ i σ' H', Inv X pins σ' H' s7 ∧ tn i s7.heap ∧ (∀ b ∈ fp, H' b = none) ∧ W i m σ' H' := fun {σ7 H7} I7 n7 => by
      obtain ⟨m', hm, w7⟩ := hN σ7 H7 n7
      refine ⟨m', hm, i + 1, σ7, H7, I7.unpinned, T.keep _ _ _ st5 fun b hb o e => (I7.pin (b, o) (List.mem_append_right _ (List.mem_append_right _ (mem_pinsAt hb e)))).1, fun b hb => ?_, w7⟩
      obtain ⟨o, e, d⟩ := T.obj _ _ st5 b hb
      exact (I7.pin (b, o) (List.mem_append_right _ (List.mem_append_right _ (mem_pinsAt hb e)))).2.1
    cases f with
    | next => obtain ⟨σ7, H7, I7, n7⟩ := q7; exact again I7 n7
    | cont => obtain ⟨σ7, H7, I7, n7⟩ := q7; exact again I7 n7
    | brk => obtain ⟨σ7, H7, I7, q7⟩ := q7; exact ⟨σ7, H7, I7.unpinned, q7⟩
    | ret v => obtain ⟨x7, σ7, H7, I7, r7, q7⟩ := q7; exact ⟨x7, σ7, H7, I7.unpinned, r7, q7⟩
end
end L2
namespace L2
open PySem PySem.Spec PyProof.Rows
noncomputable abbrev R2 := V → V → Hp → VK → Prop
noncomputable def OpR (X : Cx) (f : Value → Value → Sem Value) (r : R2) : Prop :=
  ∀ (pins : List (Addr × Obj)) (s : Shared) (σ : St) (H : Hp) (x y : V) (v u : Value) (Q : VK), Inv X pins σ H s → RelV x v → RelV y u → r x y H Q →
    wpAny (model X.prog X.w) X.A (f v u) (EP X pins σ Q) X.xe s
noncomputable def UnR (X : Cx) (f : Value → Sem Value) (r : V → Hp → VK → Prop) : Prop :=
  ∀ (pins : List (Addr × Obj)) (s : Shared) (σ : St) (H : Hp) (x : V) (v : Value) (Q : VK), Inv X pins σ H s → RelV x v → r x H Q →
    wpAny (model X.prog X.w) X.A (f v) (EP X pins σ Q) X.xe s
noncomputable def CallR (X : Cx) (f : Value) (r : List V → Hp → VK → Prop) : Prop :=
  ∀ (pins : List (Addr × Obj)) (s : Shared) (σ : St) (H : Hp) (xs : List V) (us : List Value) (Q : VK), Inv X pins σ H s → Vals xs us → r xs H Q →
    wpAny (model X.prog X.w) X.A (call f us) (EP X pins σ Q) X.xe s
noncomputable def tOp (r : R2) (ta tb : TE) : TE := fun σ H Q => ta σ H fun x H1 => tb σ H1 fun y H2 => r x y H2 Q
noncomputable def tUn (r : V → Hp → VK → Prop) (ta : TE) : TE := fun σ H Q => ta σ H fun x H1 => r x H1 Q
noncomputable def rI (C : Int → Int → Prop) (g : Int → Int → V) : R2 := fun x y H Q => ∃ i j, x = .int i ∧ y = .int j ∧ C i j ∧ Q (g i j) H
noncomputable def rI0 (g : Int → Int → V) : R2 := fun x y H Q => ∃ i j, x = .int i ∧ y = .int j ∧ Q (g i j) H
noncomputable def rU (g : Int → V) : V → Hp → VK → Prop := fun x H Q => ∃ i, x = .int i ∧ Q (g i) H
section
variable {X : Cx} {a b c : Expr} {ta tb tc : TE} {pos : Pos}
theorem binT (ha : PE X a ta) (hb : PE X b tb) {pins : List (Addr × Obj)} {s : Shared} {σ : St} {H : Hp} {R : V → V → Hp → Prop} (I : Inv X pins σ H s)
    (h : ta σ H fun x H1 => tb σ H1 fun y H2 => R x y H2) {Q : Value → Shared → Prop} {f : Value → Value → Sem Value}
    (hf : ∀ v u s2 x y H2, Inv X pins σ H2 s2 → RelV x v → RelV y u → R x y H2 → wpAny (model X.prog X.w) X.A (f v u) Q X.xe s2) :
    wpAny (model X.prog X.w) X.A (eval a X.env) (fun v s₁ => wpAny (model X.prog X.w) X.A (eval b X.env) (fun u s₂ => wpAny (model X.prog X.w) X.A (f v u) Q X.xe s₂) X.xe s₁) X.xe s := by
  refine thn (@ha pins s σ H _ I h) fun v s1 ⟨x, H1, I1, r1, q1⟩ => ?_
  refine thn (@hb pins s1 σ H1 _ I1 q1) fun u s2 ⟨y, H2, I2, r2, q2⟩ => ?_
  exact hf v u s2 x y H2 I2 r1 r2 q2
theorem pe_op {op : Operator} {r : R2} (ho : OpR X (binaryOp op) r) (ha : PE X a ta) (hb : PE X b tb) : PE X (.BinOp a op b pos) (tOp r ta tb) := by
  intro pins s σ H Q I h
  exact wpAny_BinOp (binT ha hb I h fun v u s2 x y H2 I2 rx ry q => @ho pins s2 σ H2 x y v u Q I2 rx ry q)
theorem pe_un {op : UnaryOp} {r : V → Hp → VK → Prop} (ho : UnR X (unaryOp op) r) (ha : PE X a ta) : PE X (.UnaryOp op a pos) (tUn r ta) := by
  intro pins s σ H Q I h
  exact UnaryOp_ (thn (@ha pins s σ H _ I h) fun v s1 ⟨x, H1, I1, r1, q1⟩ => @ho pins s1 σ H1 x v Q I1 r1 q1)
theorem opI {f : Value → Value → Sem Value} {C : Int → Int → Prop} {g : Int → Int → Int}
    (rule : ∀ (i j : Int) (t u : Tok) (s : Shared) (Q : Value → Shared → Prop) (E : Value → Shared → Prop), C i j → Q (.int (g i j) s.toks) { s with toks := s.toks + 1 } → wpAny (model X.prog X.w) X.A (f (.int i t) (.int j u)) Q E s) :
    OpR X f (rI C fun i j => .int (g i j)) := by
  intro pins s σ H x y v u Q I rx ry h
  obtain ⟨i, j, rfl, rfl, hc, q⟩ := h
  obtain ⟨t, rfl⟩ := rx
  obtain ⟨t', rfl⟩ := ry
  exact rule i j t t' s _ _ hc ⟨.int (g i j), H, I.tok _, ⟨_, rfl⟩, q⟩
theorem opI0 {f : Value → Value → Sem Value} {g : Int → Int → Int}
    (rule : ∀ (i j : Int) (t u : Tok) (s : Shared) (Q : Value → Shared → Prop) (E : Value → Shared → Prop), Q (.int (g i j) s.toks) { s with toks := s.toks + 1 } → wpAny (model X.prog X.w) X.A (f (.int i t) (.int j u)) Q E s) :
    OpR X f (rI0 fun i j => .int (g i j)) := by
  intro pins s σ H x y v u Q I rx ry h
  obtain ⟨i, j, rfl, rfl, q⟩ := h
  obtain ⟨t, rfl⟩ := rx
  obtain ⟨t', rfl⟩ := ry
  exact rule i j t t' s _ _ ⟨.int (g i j), H, I.tok _, ⟨_, rfl⟩, q⟩
theorem opB0 {f : Value → Value → Sem Value} {g : Int → Int → Bool}
    (rule : ∀ (i j : Int) (t u : Tok) (s : Shared) (Q : Value → Shared → Prop) (E : Value → Shared → Prop), Q (.bool (g i j)) s → wpAny (model X.prog X.w) X.A (f (.int i t) (.int j u)) Q E s) :
    OpR X f (rI0 fun i j => .bl (g i j)) := by
  intro pins s σ H x y v u Q I rx ry h
  obtain ⟨i, j, rfl, rfl, q⟩ := h
  obtain ⟨t, rfl⟩ := rx
  obtain ⟨t', rfl⟩ := ry
  exact rule i j t t' s _ _ ⟨.bl (g i j), H, I, rfl, q⟩
noncomputable def CPow (i j : Int) : Prop := 0 ≤ j ∧ j ≤ 1000000 ∧ i.natAbs < 2 ^ 64
noncomputable def CMul (i j : Int) : Prop := (-(2 ^ 64) < i ∧ i < 2 ^ 64) ∨ (-(2 ^ 64) < j ∧ j < 2 ^ 64)
theorem CMul.ok {i j : Int} (h : CMul i j) : IntMulOk i j := by
  rcases h with ⟨h1, h2⟩ | ⟨h1, h2⟩
  · exact .of_left (intBits_le_64 h1 h2)
  · exact .of_right (intBits_le_64 h1 h2)
theorem op_add : OpR X (binaryOp .Add) (rI0 fun i j => .int (i + j)) := opI0 fun _ _ _ _ _ _ _ q => add_int q
theorem op_sub : OpR X (binaryOp .Sub) (rI0 fun i j => .int (i - j)) := opI0 fun _ _ _ _ _ _ _ q => sub_int q
theorem op_mul : OpR X (binaryOp .Mult) (rI CMul fun i j => .int (i * j)) := opI fun _ _ _ _ _ _ _ hc q => mul_int q hc.ok
theorem op_mod : OpR X (binaryOp .Mod) (rI (fun _ j => 0 < j) fun i j => .int (i % j)) := opI fun i j _ _ _ _ _ hc q => by
  have h1 : (0 : Int) < j := hc
  exact mod_int' (by (first | lia | omega)) (by rw [Int.fmod_eq_emod_of_nonneg i (by (first | lia | omega))]; exact q)
theorem op_modN : OpR X (binaryOp .Mod) (rI (fun _ j => j ≠ 0) fun i j => .int (i.fmod j)) := opI fun _ _ _ _ _ _ _ hc q => mod_int' hc q
theorem op_pow : OpR X (binaryOp .Pow) (rI CPow fun i j => .int (i ^ j.toNat)) := opI fun _ _ _ _ _ _ _ hc q => pow_int_small hc.1 hc.2.1 hc.2.2 q
theorem unI {f : Value → Sem Value} {g : Int → Int}
    (rule : ∀ (i : Int) (t : Tok) (s : Shared) (Q : Value → Shared → Prop) (E : Value → Shared → Prop), Q (.int (g i) s.toks) { s with toks := s.toks + 1 } → wpAny (model X.prog X.w) X.A (f (.int i t)) Q E s) :
    UnR X f (rU fun i => .int (g i)) := by
  intro pins s σ H x v Q I rx h
  obtain ⟨i, rfl, q⟩ := h
  obtain ⟨t, rfl⟩ := rx
  exact rule i t s _ _ ⟨.int (g i), H, I.tok _, ⟨_, rfl⟩, q⟩
theorem un_neg : UnR X (unaryOp .USub) (rU fun i => .int (-i)) := unI fun _ _ _ _ _ q => neg_int q
end
section
variable {X : Cx} {a b c : Expr} {ta tb tc : TE} {pos : Pos}
theorem op_lt : OpR X (compareOp .Lt) (rI0 fun i j => .bl (decide (i < j))) := opB0 fun _ _ _ _ _ _ _ q => lt_int q
theorem op_le : OpR X (compareOp .LtE) (rI0 fun i j => .bl (decide (i ≤ j))) := opB0 fun _ _ _ _ _ _ _ q => le_int q
theorem op_gt : OpR X (compareOp .Gt) (rI0 fun i j => .bl (decide (j < i))) := opB0 fun _ _ _ _ _ _ _ q => gt_int q
theorem op_ge : OpR X (compareOp .GtE) (rI0 fun i j => .bl (decide (j ≤ i))) := opB0 fun _ _ _ _ _ _ _ q => ge_int q
theorem OpR.or {f : Value → Value → Sem Value} {r r' : R2} (h : OpR X f r) (h' : OpR X f r') : OpR X f (fun x y H Q => r x y H Q ∨ r' x y H Q) := by
  intro pins s σ H x y v u Q I rx ry q
  rcases q with q | q
  · exact @h pins s σ H x y v u Q I rx ry q
  · exact @h' pins s σ H x y v u Q I rx ry q
theorem nomark (b : Expr) {op : CmpOp} (h : op ≠ .In := by decide) (h2 : op ≠ .NotIn := by decide) : behindInMarks op b = false := by
  have e1 : (op == CmpOp.In) = false := by cases op <;> first | rfl | exact absurd rfl h
  have e2 : (op == CmpOp.NotIn) = false := by cases op <;> first | rfl | exact absurd rfl h2
  cases b <;> simp [behindInMarks, e1, e2]
theorem pe_cmpR {op : CmpOp} {r : R2} (ho : OpR X (compareOp op) r) (ha : PE X a ta) (hb : PE X b tb) (hm : behindInMarks op b = false) : PE X (.Compare a [op] [b] pos) (tOp r ta tb) := by
  intro pins s σ H Q I h
  exact wpAny_Compare1 (binT ha hb I h fun v u s2 x y H2 I2 rx ry q => @ho pins s2 σ H2 x y v u Q I2 rx ry q) hm
noncomputable def tTest (t : TE) : TT := fun σ H Q => t σ H fun x H' => ∃ k, x = .bl k ∧ Q k H'
theorem pt_cmpR {op : CmpOp} {r : R2} (ho : OpR X (compareOp op) r) (ha : PE X a ta) (hb : PE X b tb) (hm : behindInMarks op b = false) : PT X (.Compare a [op] [b] pos) (tTest (tOp r ta tb)) := by
  intro pins s σ H Q I h
  refine wpAny_isTrue_Compare1 (thn (@ha pins s σ H _ I h) fun v s1 ⟨x, H1, I1, r1, q1⟩ => thn (@hb pins s1 σ H1 _ I1 q1) fun u s2 ⟨y, H2, I2, r2, q2⟩ =>
    thn (@ho pins s2 σ H2 x y v u _ I2 r1 r2 q2) fun c s3 ⟨z, H3, I3, r3, k, e, q3⟩ => ?_) hm
  subst e
  cases r3
  exact wpAny_truthy_bool ⟨H3, I3, q3⟩
theorem line63 : (sizeLine : Nat) < 2 ^ 63 := by rw [sizeLine_eq]; decide
theorem vals1 {x : V} {us : List Value} (r : Vals [x] us) : ∃ u, us = [u] ∧ RelV x u := by
  cases r with
  | cons r1 r2 => cases r2; exact ⟨_, rfl, r1⟩
theorem vals2 {x y : V} {us : List Value} (r : Vals [x, y] us) : ∃ u w', us = [u, w'] ∧ RelV x u ∧ RelV y w' := by
  cases r with
  | cons r1 r2 =>
    cases r2 with
    | cons r3 r4 => cases r4; exact ⟨_, _, rfl, r1, r3⟩
theorem call_abs : CallR X (.builtin "abs") (fun xs H Q => ∃ i, xs = [.int i] ∧ Q (.int (if i < 0 then -i else i)) H) := by
  intro pins s σ H xs us Q I r h
  obtain ⟨i, rfl, q⟩ := h
  obtain ⟨u, rfl, t, rfl⟩ := vals1 r
  exact call_abs_int fun u tk => ⟨.int (if i < 0 then -i else i), H, I.tok _, ⟨_, rfl⟩, q⟩
theorem call_max2 (hc : X.calm = true) : CallR X (.builtin "max") (fun xs H Q => ∃ i j, xs = [.int i, .int j] ∧ Q (.int (if j > i then j else i)) H) := by
  intro pins s σ H xs us Q I r h
  obtain ⟨i, j, rfl, q⟩ := h
  obtain ⟨u, w', rfl, ⟨t, rfl⟩, ⟨t', rfl⟩⟩ := vals2 r
  refine max_two_ints (I.ok.hd hc) fun h' tk k => ⟨_, H, I.kept k, ?_, q⟩
  by_cases hj : j > i
  · rw [if_pos hj, if_pos hj]; exact ⟨_, rfl⟩
  · rw [if_neg hj, if_neg hj]; exact ⟨_, rfl⟩
theorem call_min2 (hc : X.calm = true) : CallR X (.builtin "min") (fun xs H Q => ∃ i j, xs = [.int i, .int j] ∧ Q (.int (if j < i then j else i)) H) := by
  intro pins s σ H xs us Q I r h
  obtain ⟨i, j, rfl, q⟩ := h
  obtain ⟨u, w', rfl, ⟨t, rfl⟩, ⟨t', rfl⟩⟩ := vals2 r
  refine min_two_ints (I.ok.hd hc) fun h' tk k => ⟨_, H, I.kept k, ?_, q⟩
  by_cases hj : j < i
  · rw [if_pos hj, if_pos hj]; exact ⟨_, rfl⟩
  · rw [if_neg hj, if_neg hj]; exact ⟨_, rfl⟩
end
end L2
namespace L2
open PySem PySem.Spec PyProof.Rows
structure ObjM (h : Heap) (x dx C : Addr) (mA : Str → Option Value) : Prop where
  obj : h.get? x = some (PySem.W.instObj C dx)
  ns : h.Ns1 dx mA
  ne : dx ≠ x
theorem lookIn_ns {h : Heap} {dx : Addr} {mA : Str → Option Value} (n : h.Ns1 dx mA) : ∃ od, h.get? dx = some od ∧ ∀ name, PySem.W.lookIn name od = some (mA name) := by
  obtain ⟨o, es, ep, ho, hd, hk, _, hm⟩ := n
  refine ⟨o, ho, fun name => ?_⟩
  have e := hm name
  unfold nsFind findBy at e
  rw [← Array.find?_toList] at e
  unfold PySem.W.lookIn
  rw [hd]
  dsimp only
  split
  · rename_i y q
    rw [q] at e
    exact congrArg some e
  · rename_i q
    rw [q] at e
    have a : es.toList.any (·.refKey) = false := by
      rw [List.any_eq_false]
      intro y hy
      obtain ⟨z, t, hkey⟩ := hk y (Array.mem_toList_iff.mp hy)
      simp [DictEntry.refKey, hkey]
    have a' : ¬ es.toList.any (·.refKey) = true := by rw [a]; exact Bool.false_ne_true
    rw [if_neg a']
    exact congrArg some e
theorem ObjM.look {h : Heap} {x dx C : Addr} {mA : Str → Option Value} (I : ObjM h x dx C mA) : ∃ od, PySem.W.InstAt h x (PySem.W.instObj C dx) C (some od) ∧ ∀ name, PySem.W.lookIn name od = some (mA name) :=
  let ⟨od, ho, hl⟩ := lookIn_ns I.ns
  ⟨od, ⟨I.obj, rfl, rfl, ho⟩, hl⟩
section
variable {prog : Program} {w : World} {A : Around} {E : Value → Shared → Prop} {s : Shared} {K : PySem.W.Frag} {x dx C f : Addr} {mA : Str → Option Value} {name : Str} {v : Value}
end
section
variable {P : Program} {w : World} {H H' : Hp} {h h' : Heap} {a C dx : Addr} {fs fs' : List (Str × V)}
theorem ins_get (hok : HOk P w H h) (e : H a = some (.ins C dx fs)) : ∃ mA, ObjM h a dx C mA ∧ (∀ f, RelO (fs.lookup f) (mA f)) ∧ PySem.Within mA (fs.map (·.1)) ∧ fs.length ≤ 1000 ∧ H dx = some (.own a) := by
  obtain ⟨d, z, ne, ob, mA, n, r, q⟩ := (show ObjOk P w H h a (.ins C dx fs) from hok a _ e)
  exact ⟨mA, ⟨ob, n, ne⟩, r, q, z, d⟩
end
structure Cls (K : PySem.W.Frag) (C : Addr) : Prop where
  pg : PySem.W.plainGet K C Str.empty = true
  hd : PySem.W.hasDictIn K C = true
  po : PySem.W.plainOver K C = true
  sa : PySem.W.findIn K (.ref C) "__setattr__" = some (some (.builtin "object.__setattr__"))
theorem Cls.get {K : PySem.W.Frag} {C : Addr} (c : Cls K C) (f : Str) : PySem.W.plainGet K C f = true := c.pg
section
variable {X : Cx} {pins : List (Addr × Obj)} {σ : St} {H : Hp} {s : Shared} {a C dx : Addr} {fs : List (Str × V)} {f : Str} {v : V} {A : Around} {E : Value → Shared → Prop}
end
section
variable {X : Cx} {o e value : Expr} {f : Str} {pos pos' tpos : Pos} {ta tv : TE}
end
section
variable {X : Cx} {pins : List (Addr × Obj)} {σ : St} {H : Hp} {s : Shared} {A : Around} {E : Value → Shared → Prop} {Q : Value → Shared → Prop} {c : Value} {b : Bool}
inductive TyOf (K : PySem.W.Frag) (H : Hp) : V → Value → Prop where
  | non : TyOf K H .non (.type "NoneType")
  | bl (x : Bool) : TyOf K H (.bl x) (.type "bool")
  | int (i : Int) : TyOf K H (.int i) (.type "int")
  | str (x : Str) : TyOf K H (.str x) (.type "str")
  | flt (x : UInt64) : TyOf K H (.flt x) (.type "float")
  | lst {a : Addr} {xs : List V} (e : H a = some (.lst xs)) : TyOf K H (.ref a) (.type "list")
  | frz {a : Addr} {o : Obj} {xs : List V} (e : H a = some (.frz o (.lst xs))) : TyOf K H (.ref a) (.type "list")
  | tup {a : Addr} {xs : List V} (e : H a = some (.tup xs)) : TyOf K H (.ref a) (.type "tuple")
  | dK {a : Addr} {kvs : List (Key × V)} (e : H a = some (.dK kvs)) : TyOf K H (.ref a) (.type "dict")
  | dT {a : Addr} {kvs : List (List Key × V)} (e : H a = some (.dT kvs)) : TyOf K H (.ref a) (.type "dict")
  | ins {a C dx : Addr} {fs : List (Str × V)} (e : H a = some (.ins C dx fs)) (cl : Cls K C) (ha : PySem.W.findIn K (.ref C) "__class__" = some (some (.builtin "object.__class__")))
      (hn : PySem.W.specialIn K (.builtin "object.__class__") "__get__" = some (some (.builtin "getset_descriptor.__get__"))) (htk : PySem.W.takesIn K (.builtin "object.__class__") = some true)
      (hm : PySem.W.mroIn K C (.type "object") = some true) : TyOf K H (.ref a) (.ref C)
theorem isinst_ok {x : V} {u t : Value} (I : Inv X pins σ H s) (rx : RelV x u) (ty : TyOf X.K H x t) (e : PySem.W.kitOne X.K t c = some b) (h : ∀ tk, Q (.bool b) { s with toks := tk }) :
    wpAny (model X.prog X.w) A (call (.builtin "isinstance") [u, c]) Q E s := by
  cases ty with
  | non => cases (show u = Value.none from rx); exact PySem.W.kia_one PySem.W.kitx_none I.kIn True.intro e (fun z => nomatch z) h
  | bl y => cases (show u = Value.bool y from rx); exact PySem.W.kia_one PySem.W.kitx_bool I.kIn True.intro e (fun z => nomatch z) h
  | int i => obtain ⟨t, q⟩ := (show ∃ t, u = Value.int i t from rx); cases q; exact PySem.W.kia_one PySem.W.kitx_int I.kIn True.intro e (fun z => nomatch z) h
  | str y => obtain ⟨t, q⟩ := (show ∃ t, u = Value.str y t from rx); cases q; exact PySem.W.kia_one PySem.W.kitx_str I.kIn True.intro e (fun z => nomatch z) h
  | flt y => obtain ⟨t, q⟩ := (show ∃ t, u = Value.float y t from rx); cases q; exact PySem.W.kia_one PySem.W.kitx_float I.kIn True.intro e (fun z => nomatch z) h
  | @lst a xs ea =>
    cases (show u = Value.ref a from rx)
    obtain ⟨_, _, n, _, h1⟩ := (show ObjOk X.prog X.w H s.heap a (.lst xs) from I.hok a _ ea)
    exact PySem.W.kia_one PySem.W.kitx_list I.kIn ⟨_, h1, rfl⟩ e (fun z => nomatch z) h
  | @frz a ob xs ea =>
    cases (show u = Value.ref a from rx)
    obtain ⟨_, _, _, n, _, h1⟩ := (show ObjOk X.prog X.w H s.heap a (.frz ob (.lst xs)) from I.hok a _ ea)
    exact PySem.W.kia_one PySem.W.kitx_list I.kIn ⟨_, h1, rfl⟩ e (fun z => nomatch z) h
  | @tup a xs ea =>
    cases (show u = Value.ref a from rx)
    obtain ⟨_, _, _, p⟩ := (show ObjOk X.prog X.w H s.heap a (.tup xs) from I.hok a _ ea)
    obtain ⟨o, h1, h2, _⟩ := p
    exact PySem.W.kia_one PySem.W.kitx_tuple I.kIn ⟨o, h1, h2⟩ e (fun z => nomatch z) h
  | @dK a kvs ea =>
    cases (show u = Value.ref a from rx)
    obtain ⟨_, _, vs, _, p⟩ := (show ObjOk X.prog X.w H s.heap a (.dK kvs) from I.hok a _ ea)
    obtain ⟨o, es, ep, h1, h2, _⟩ := p
    exact PySem.W.kia_one PySem.W.kitx_dict I.kIn ⟨o, h1, h2.1⟩ e (fun z => nomatch z) h
  | @dT a kvs ea =>
    cases (show u = Value.ref a from rx)
    obtain ⟨_, _, xs, _, o, es, ep, h1, h2, _⟩ := (show ObjOk X.prog X.w H s.heap a (.dT kvs) from I.hok a _ ea)
    exact PySem.W.kia_one PySem.W.kitx_dict I.kIn ⟨o, h1, h2.1⟩ e (fun z => nomatch z) h
  | @ins a C dx fs ea cl ha hn htk hm =>
    cases (show u = Value.ref a from rx)
    obtain ⟨mA, O, _⟩ := ins_get I.hok ea
    obtain ⟨od, J, _⟩ := O.look
    exact PySem.W.kia_one (PySem.W.kitx_own (cl.get _) cl.hd ha hn htk hm) I.kIn J e (fun z => nomatch z) h
end
end L2
namespace L2
open PySem PySem.Spec PyProof.Rows
structure Room (k : Nat) (A : Around) : Prop where
  hd : A.handled = none
  dp : A.depth + 3 * k + 5 < recursionLimit
  un : A.units + 16 * k + 200 < cLine
theorem Room.mono {j k : Nat} {A : Around} (r : Room k A) (h : j ≤ k) : Room j A := ⟨r.hd, by have := r.dp; (first | lia | omega), by have := r.un; (first | lia | omega)⟩
theorem Room.deeper {k : Nat} {A : Around} (r : Room (k + 1) A) (env : Env) : Room k (A.deeper env) :=
  ⟨r.hd, by have := r.dp; show A.depth + 1 + 3 * k + 5 < _; (first | lia | omega), by have := r.un; show A.units + 3 + 16 * k + 200 < _; (first | lia | omega)⟩
theorem Room.depth {k : Nat} {A : Around} (r : Room k A) : A.depth < recursionLimit := by have := r.dp; (first | lia | omega)
theorem Room.units {k : Nat} {A : Around} (r : Room k A) : A.units + 64 < cLine := by have := r.un; (first | lia | omega)
noncomputable def tNil : TA := fun _ H Q => Q [] H
noncomputable def tCons (ta : TE) (tr : TA) : TA := fun σ H Q => ta σ H fun x H1 => tr σ H1 fun xs H2 => Q (x :: xs) H2
section
variable {X : Cx} {e : Expr} {es : List Expr} {te : TE} {t : TA} {pos : Pos}
theorem pa_nil : PA X [] tNil := fun _ _ _ _ H Q I h => Calls.spliced_nil ⟨[], H, I, .nil, h⟩
theorem pa_cons (ha : PE X e te) (hr : PA X es t) (hs : starEach (e :: es) X.env = (false, eval e X.env) :: starEach es X.env := by rfl) : PA X (e :: es) (tCons te t) := by
  intro pos pins s σ H Q I h
  rw [hs]
  show wpAny _ _ (spliced ((false, eval e X.env) :: backTo pos (starEach es X.env))) _ _ s
  refine Calls.spliced_cons (thn (@ha pins s σ H _ I h) fun u s1 ⟨x, H1, I1, r1, q1⟩ => ?_)
  exact thn (@hr pos pins s1 σ H1 _ I1 q1) fun us s2 ⟨xs, H2, I2, r2, q2⟩ => ⟨x :: xs, H2, I2, .cons r1 r2, q2⟩
noncomputable def tTup (t : TA) : TE := fun σ H Q => t σ H fun xs H1 => xs.length ≤ sizeLine ∧ ∀ p, H1 p = none → Q (.ref p) (upd H1 p (.tup xs))
noncomputable def tLst (t : TA) : TE := fun σ H Q => t σ H fun xs H1 => xs.length ≤ sizeLine ∧ ∀ p, H1 p = none → Q (.ref p) (upd H1 p (.lst xs))
theorem pe_tup {x1} (h : PA X es t) : PE X (.Tuple es x1 pos) (tTup t) := by
  intro pins s σ H Q I hq
  refine wpAny_Tuple_spliced (thn (@h pos pins s σ H _ I hq) fun us s1 ⟨xs, H1, I1, r, z, q⟩ => ⟨by rw [← r.length]; exact z, ?_⟩)
  have hf : H1 s1.heap.objs.size = none := I1.hok.fresh (Nat.le_refl _)
  refine ⟨.ref s1.heap.objs.size, upd H1 s1.heap.objs.size (.tup xs), I1.laid (t' := s1.toks) (fun b u e => Heap.get?_push_of_some _ e) (Nat.le_refl _) ?_, rfl, q _ hf⟩
  exact ⟨z, us, r, ⟨_, Heap.get?_push_size _ rfl, rfl, _, rfl⟩⟩
theorem pe_lst (h : PA X es t) : PE X (.List es pos) (tLst t) := by
  intro pins s σ H Q I hq
  refine wpAny_List_spliced (thn (@h pos pins s σ H _ I hq) fun us s1 ⟨xs, H1, I1, r, z, q⟩ => ⟨by rw [← r.length]; exact z, ?_⟩)
  have hf : H1 s1.heap.objs.size = none := I1.hok.fresh (Nat.le_refl _)
  refine ⟨.ref s1.heap.objs.size, upd H1 s1.heap.objs.size (.lst xs), I1.laid (t' := s1.toks) (fun b u e => Heap.get?_push_of_some _ e) (Nat.le_refl _) ?_, rfl, q _ hf⟩
  exact ⟨z, us, 0, r, Heap.get?_push_size _ rfl⟩
end
noncomputable abbrev Sp := List V → Hp → VK → XK → Prop
noncomputable abbrev CXT := List Env → Hp → Shared → XK → Value → Shared → Prop
structure Env0 (P : Program) (w : World) (K : PySem.W.Frag) (mg : Str → Option Value) (base : Heap) (A : Around) (outer : List Env) (s : Shared) (H : Hp) : Prop where
  frames : A.frames = some outer
  mod : Mod K mg base
  bs : ∀ b o, base.get? b = some o → s.heap.get? b = some o ∧ H b = none
  bsz : base.objs.size ≤ s.heap.objs.size
  funs : s.heap.FunFrames base outer
  frf : ∀ b ∈ frs outer, H b = none
  hok : HOk P w H s.heap
  bare : AllBare s.gens
noncomputable def CE (outer : List Env) (P : Program) (w : World) (H : Hp) (s : Shared) (Q : VK) (u : Value) (s' : Shared) : Prop :=
  ∃ v H', s'.os = s.os ∧ AllBare s'.gens ∧ Un (frs outer) [] H H' s.heap s'.heap ∧ HOk P w H' s'.heap ∧ RelV v u ∧ Q v H'
noncomputable def CR (CX : CXT) (outer : List Env) (P : Program) (w : World) (H : Hp) (s : Shared) (Q : VK) (E : XK) (r : Result) (s' : Shared) : Prop :=
  match r with
  | .ok (.ret u) => CE outer P w H s Q u s'
  | .ok _ => False
  | .error e => CX outer H s E e s'
structure FnOk (P : Program) (w : World) (K : PySem.W.Frag) (mg : Str → Option Value) (base : Heap) (CX : CXT) (k : Nat) (f : Addr) (fd : FuncData) (ps : List Str) (sp : Sp) : Prop where
  len : ∀ vs H Q E, sp vs H Q E → vs.length = ps.length
  run : ∀ (A : Around) (outer : List Env) (s : Shared) (H : Hp) (args : Args) (us : List Value) (vs : List V) (Q : VK) (E : XK), Room k A → Env0 P w K mg base A outer s H → BindsTo s fd args (ps.zip us) → Vals vs us → sp vs H Q E →
    codeAny (model P w) A (.call (.ref f) args) (CR CX outer P w H s Q E) s
theorem FnOk.mono {P : Program} {w : World} {K : PySem.W.Frag} {mg : Str → Option Value} {base : Heap} {CX : CXT} {j k : Nat} {f : Addr} {fd : FuncData} {ps : List Str} {sp : Sp} (F : FnOk P w K mg base CX j f fd ps sp) (h : j ≤ k) :
    FnOk P w K mg base CX k f fd ps sp := ⟨F.len, fun A outer s H args us vs Q E hr => F.run A outer s H args us vs Q E (hr.mono h)⟩
theorem FnOk.imp {P : Program} {w : World} {K : PySem.W.Frag} {mg : Str → Option Value} {base : Heap} {CX : CXT} {k : Nat} {f : Addr} {fd : FuncData} {ps : List Str} {sp sp' : Sp} (F : FnOk P w K mg base CX k f fd ps sp)
    (h : ∀ vs H Q E, sp' vs H Q E → sp vs H Q E) : FnOk P w K mg base CX k f fd ps sp' :=
  ⟨fun vs H Q E q => F.len vs H Q E (h _ _ _ _ q), fun A outer s H args us vs Q E hr he hb hv hs => F.run A outer s H args us vs Q E hr he hb hv (h _ _ _ _ hs)⟩
section
variable {X : Cx} {pins : List (Addr × Obj)} {σ : St} {H : Hp} {s s' : Shared}
theorem Inv.env0 (I : Inv X pins σ H s) : Env0 X.prog X.w X.K X.mg X.base X.A X.stack s H :=
  ⟨I.ok.frames, I.ok.mod, I.bs, Nat.le_trans I.ok.bsz I.sz, I.stack, I.stkFree, I.hok, I.bare⟩
theorem Inv.after {Q : VK} {u : Value} (I : Inv X pins σ H s) (h : CE X.stack X.prog X.w H s Q u s') : EP X pins σ Q u s' := by
  obtain ⟨v, H', os, bare, un, hok, r, q⟩ := h
  obtain ⟨hh, g, d, t, os'⟩ := s'
  obtain rfl : os' = s.os := os
  exact ⟨v, H', I.call (h' := hh) (g' := g) (d' := d) (t' := t) (ch := []) un hok bare (fun b z => absurd z (by simp)), r, q⟩
end
noncomputable def tCall (sp : Sp) (dvs : List V) (E : XK) (t : TA) : TE := fun σ H Q => t σ H fun vs H1 => sp (vs ++ dvs) H1 Q E
noncomputable def Binds (K : PySem.W.Frag) (fd : FuncData) (ps : List Str) (ds : List Value) : Prop :=
  ∀ (s : Shared) (us : List Value), K.In s.heap → (us ++ ds).length = ps.length → BindsTo s fd ⟨us, []⟩ (ps.zip (us ++ ds))
theorem Binds.all {K : PySem.W.Frag} {fd : FuncData} {ps : List Str} (h : ∀ us : List Value, us.length = ps.length → bindArgs fd ⟨us, []⟩ = pure (ps.zip us)) : Binds K fd ps [] := fun s us _ hl => by
  rw [List.append_nil] at hl ⊢
  exact .of_eq (h us hl)
noncomputable def Passes (CX : CXT) (X : Cx) (E : XK) : Prop := ∀ (pins : List (Addr × Obj)) (σ : St) (H : Hp) (s : Shared) (e : Value) (s' : Shared), Inv X pins σ H s → CX X.stack H s E e s' → X.xe e s'
section
variable {X : Cx} {CX : CXT} {k : Nat} {f C : Addr} {fd : FuncData} {ps : List Str} {sp : Sp} {dvs : List V} {ds : List Value} {E : XK} {x m : Str} {p pos apos : Pos} {e o : Expr} {es : List Expr} {ta : TE} {t : TA}
theorem run_fn {pins : List (Addr × Obj)} {σ : St} {H : Hp} {s : Shared} {Q : VK} {us : List Value} {vs : List V} (F : FnOk X.prog X.w X.K X.mg X.base CX k f fd ps sp) (hr : Room k X.A) (hb : Binds X.K fd ps ds) (hd : Vals dvs ds) (hx : Passes CX X E)
    (I : Inv X pins σ H s) (r : Vals vs us) (h : sp (vs ++ dvs) H Q E) : wpAny (model X.prog X.w) X.A (call (.ref f) us) (EP X pins σ Q) X.xe s := by
  have r2 : Vals (vs ++ dvs) (us ++ ds) := r.append hd
  have hl : (us ++ ds).length = ps.length := by rw [← r2.length]; exact F.len _ _ _ _ h
  refine wpAny_call (codeAny_mono (F.run X.A X.stack s H ⟨us, []⟩ (us ++ ds) (vs ++ dvs) Q E hr I.env0 (hb s us I.kIn hl) r2 h) fun r s' hq => ?_)
  cases r with
  | error e => exact hx pins σ H s e s' I hq
  | ok fl =>
    cases fl with
    | ret u => exact I.after hq
    | next => exact False.elim hq
    | brk => exact False.elim hq
    | cont => exact False.elim hq
theorem pe_call (F : FnOk X.prog X.w X.K X.mg X.base CX k f fd ps sp) (hr : Room k X.A) (hg : Gl X x) (hm : X.mg x = some (.ref f)) (hk : PySem.W.keepIn X.K (.ref f) = true) (hb : Binds X.K fd ps ds) (hd : Vals dvs ds) (hx : Passes CX X E)
    (ha : PA X (e :: es) t) (hdb : (x == ("__debug__" : Str)) = false := by decide) (he : starEach (e :: es) X.env = (false, eval e X.env) :: starEach es X.env := by rfl) (hpl : (backTo pos (starEach es X.env)).any (·.1) = false := by rfl) :
    PE X (.Call (.Name x p) (e :: es) [] pos) (tCall sp dvs E t) := by
  intro pins s σ H Q I h
  refine wpAny_Call_Name_kw (ld_glob I hg hm ?_ hdb)
  refine PySem.W.callWith_K (h₀ := X.base) I.ok.mod.kin hk (thn (@ha pos pins s σ H _ I h) fun us s1 ⟨vs, H1, I1, r, q⟩ => ⟨I1.kIn, ?_⟩) he hpl
  exact run_fn F hr hb hd hx I1 r q
end
section
variable {X : Cx} {CX : CXT} {k : Nat} {f C : Addr} {fd : FuncData} {ps ks : List Str} {sp : Sp} {E : XK} {x m : Str} {p pos apos kpos : Pos} {e o : Expr} {es : List Expr} {kws : List Keyword} {te ta : TE} {t tk : TA} {nm : Option Str}
variable {g : List Value → List Value → List Value} {gV : List V → List V → List V}
end
structure FnScope (N P : List Str) (sc : Scope) : Prop where
  kind : sc.kind = .function
  co : sc.isCoroutine = false
  gen : sc.isGenerator = false
  nd : N.Nodup
  pre : N.take P.length = P
  par : ∀ x ∈ P, sc.names.lookup x = some .local ∨ sc.names.lookup x = some .cell
  nofree : ∀ y ∈ sc.names, y.2 ≠ .free
theorem bindL_out {kindOf : Str → Option NameKind} {x : Str} : ∀ {binds : List (Str × Value)} {m : Str → Option Value}, (∀ v, (x, v) ∉ binds) → bindL kindOf binds m x = m x
  | [], _, _ => rfl
  | (n, v) :: r, m, h => by
    unfold bindL
    rw [bindL_out fun w hw => h w (List.mem_cons_of_mem _ hw)]
    split
    · have : x ≠ n := by rintro rfl; exact h v List.mem_cons_self
      simp [this]
    · rfl
theorem bindC_out {kindOf : Str → Option NameKind} {x : Str} : ∀ {binds : List (Str × Value)} {m : Str → Option Value}, (∀ v, (x, v) ∉ binds) → bindC kindOf binds m x = m x
  | [], _, _ => rfl
  | (n, v) :: r, m, h => by
    unfold bindC
    rw [bindC_out fun w hw => h w (List.mem_cons_of_mem _ hw)]
    split
    · rfl
    · have : x ≠ n := by rintro rfl; exact h v List.mem_cons_self
      simp [this]
theorem bindL_get {kindOf : Str → Option NameKind} {x : Str} {v : Value} : ∀ {P : List Str} {vs : List Value} {i : Nat} {m : Str → Option Value}, P.Nodup → P[i]? = some x → vs[i]? = some v → kindOf x = some .local →
    bindL kindOf (P.zip vs) m x = some v
  | [], _, _, _, _, h, _, _ => by simp at h
  | _ :: _, [], _, _, _, _, h, _ => by simp at h
  | p :: P, w :: vs, 0, m, nd, h1, h2, hk => by
    simp at h1 h2; subst h1; subst h2
    show bindL kindOf ((p, w) :: P.zip vs) m p = _
    unfold bindL
    rw [bindL_out fun v hv => (List.nodup_cons.mp nd).1 (List.of_mem_zip hv).1, if_pos hk]
    simp
  | p :: P, w :: vs, i + 1, m, nd, h1, h2, hk => by
    show bindL kindOf ((p, w) :: P.zip vs) m x = _
    unfold bindL
    exact bindL_get (i := i) (List.nodup_cons.mp nd).2 (by simpa using h1) (by simpa using h2) hk
theorem bindC_get {kindOf : Str → Option NameKind} {x : Str} {v : Value} : ∀ {P : List Str} {vs : List Value} {i : Nat} {m : Str → Option Value}, P.Nodup → P[i]? = some x → vs[i]? = some v → kindOf x ≠ some .local →
    bindC kindOf (P.zip vs) m x = some v
  | [], _, _, _, _, h, _, _ => by simp at h
  | _ :: _, [], _, _, _, _, h, _ => by simp at h
  | p :: P, w :: vs, 0, m, nd, h1, h2, hk => by
    simp at h1 h2; subst h1; subst h2
    show bindC kindOf ((p, w) :: P.zip vs) m p = _
    unfold bindC
    rw [bindC_out fun v hv => (List.nodup_cons.mp nd).1 (List.of_mem_zip hv).1, if_neg hk]
    simp
  | p :: P, w :: vs, i + 1, m, nd, h1, h2, hk => by
    show bindC kindOf ((p, w) :: P.zip vs) m x = _
    unfold bindC
    exact bindC_get (i := i) (List.nodup_cons.mp nd).2 (by simpa using h1) (by simpa using h2) hk
noncomputable def start (N : List Str) (vs : List V) : St := vs.map some ++ List.replicate (N.length - vs.length) none
noncomputable def cxOf (CX : CXT) (P : Program) (w : World) (K : PySem.W.Frag) (mg : Str → Option Value) (base : Heap) (N : List Str) (qual : Str) (scope : Scope) (f : Addr) (cd : Value) (A : Around) (outer : List Env) (s : Shared) (H : Hp) (E : XK) : Cx where
  prog := P
  w := w
  K := K
  mg := mg
  base := base
  A := A.deeper (envOfC qual scope s.heap.objs.size f cd)
  N := N
  s₀ := s
  H₀ := H
  env := envOfC qual scope s.heap.objs.size f cd
  outer := outer
  stack := envOfC qual scope s.heap.objs.size f cd :: outer
  ex := []
  calm := true
  fn := fun _ => true
  pn := []
  xe := fun e s' => wpAny (model P w) (A.deeper (envOfC qual scope s.heap.objs.size f cd)) (leaving (envOfC qual scope s.heap.objs.size f cd) e) (fun _ s'' => CX outer H s E e s'') (fun e' s'' => CX outer H s E e' s'') s'
theorem cell_has {sc : Scope} {n : Nat} {x : Str} (h : sc.names.lookup x = some .cell) : ∃ c, (cellsFrom n sc.names []).lookup x = some c := by
  have q := PySem.W.cellsFrom_some sc.names n [] (.inl h)
  exact Option.isSome_iff_exists.mp q
theorem inv_start {CX : CXT} {P : Program} {w : World} {K : PySem.W.Frag} {mg : Str → Option Value} {base : Heap} {N ps : List Str} {qual : Str} {scope : Scope} {f : Addr} {cd : Value} {A : Around} {outer : List Env} {s s1 : Shared} {H : Hp} {E : XK} {us : List Value} {vs : List V}
    (S : FnScope N ps scope) (hd : A.handled = none) (e0 : Env0 P w K mg base A outer s H) (hl : vs.length = ps.length) (r : Vals vs us)
    (x : InCallC s s.heap.objs.size (bindL (envOfC qual scope s.heap.objs.size f cd).kindOf (ps.zip us) fun _ => none) (cellsFrom (s.heap.objs.size + 1) scope.names []) (bindC (envOfC qual scope s.heap.objs.size f cd).kindOf (ps.zip us) fun _ => none) s1) :
    Inv (cxOf CX P w K mg base N qual scope f cd A outer s H E) [] (start N vs) H s1 := by
  have hpl : ps.length ≤ N.length := by have := congrArg List.length S.pre; rw [List.length_take] at this; (first | lia | omega)
  obtain ⟨h1, tk, rfl, hk⟩ := x.done
  have noA : ∀ b : Addr, b ∉ (cxOf CX P w K mg base N qual scope f cd A outer s H E).ex := fun b z => absurd (show b ∈ ([] : List Addr) from z) (by simp)
  refine ⟨⟨e0.mod, S.kind, rfl, rfl, Nat.le_refl _, fun y z c h1 h2 => ?_, fun y hy => ?_, fun y c _ h => ?_, fun _ => hd, Around.frames_deeper e0.frames, .inr ⟨rfl, rfl⟩, fun b z => absurd z (noA b), e0.bs, e0.bsz, fun b _ _ => noA b, fun b z => absurd z (noA b), e0.funs, e0.frf⟩,
    rfl, e0.bare, Un.kept hk, ⟨_, x.toInCall.ns, fun i y v h1 h2 h3 => ?_⟩, fun y c h => ⟨_, x.cell y c h⟩, e0.hok.fresh (Nat.le_refl _), fun y c h => ?_, fun p hp => absurd (show p ∈ ([] : List (Addr × Obj)) from hp) (by simp), e0.hok.kept hk, ?_⟩
  · exact name_of_addr x.apart (PySem.mem_of_lookup h1) (PySem.mem_of_lookup h2)
  · have hy : scope.names.lookup y = some .cell ∨ scope.names.lookup y = some .free := hy
    rcases hy with hy | hy
    · exact cell_has hy
    · exact absurd rfl (S.nofree _ (PySem.mem_of_lookup hy))
  · exact Nat.le_of_lt (x.above y c (PySem.mem_of_lookup h))
  · have hi : i < vs.length := by
      unfold start at h2
      by_cases hi : i < vs.length
      · exact hi
      · rw [List.getElem?_append_right (by simpa using hi)] at h2
        rw [List.getElem?_replicate] at h2
        split at h2 <;> cases h2
    have ha : vs[i]? = some v := by
      unfold start at h2
      rw [List.getElem?_append_left (by simpa using hi), List.getElem?_map] at h2
      cases e : vs[i]? with
      | none => rw [e] at h2; cases h2
      | some a => rw [e] at h2; cases h2; rfl
    obtain ⟨u, hu, rv⟩ := r.get ha
    have hp : ps[i]? = some y := by
      rw [← S.pre, List.getElem?_take_of_lt (by (first | lia | omega))]; exact h1
    have ndP : ps.Nodup := by rw [← S.pre]; exact S.nd.sublist (List.take_sublist _ _)
    refine ⟨u, rv, ?_⟩
    rcases S.par y (List.mem_of_getElem? hp) with k | k
    · exact .inl ⟨k, bindL_get ndP hp hu k⟩
    · obtain ⟨c, e⟩ := cell_has (n := s.heap.objs.size + 1) k
      refine .inr ⟨.inl k, c, e, ?_⟩
      have q := x.cell y c e
      rw [bindC_get ndP hp hu (by show scope.names.lookup y ≠ _; rw [k]; decide)] at q
      exact q
  · exact e0.hok.fresh (Nat.le_of_lt (x.above y c (PySem.mem_of_lookup h)))
  · unfold start
    show _ = N.length
    rw [List.length_append, List.length_map, List.length_replicate]
    (first | lia | omega)
theorem fn_of {CX : CXT} {P : Program} {w : World} {K : PySem.W.Frag} {mg : Str → Option Value} {base : Heap} {k : Nat} {f : Addr} {name qual : Str} {params : Arguments} {body : List Stmt} {scope : Scope} {dV kV doc pm cdv ct oc : Value} {an od : Option Addr}
    {osl : Array (Option Value)} {N ps : List Str} {sp : Sp} (lk : K.lookup f = some ⟨oc, od, .func (PySem.W.fnOf name qual params body scope dV kV doc pm an cdv ct), osl⟩) (hcd : PySem.W.codeIn K cdv qual = true) (S : FnScope N ps scope)
    (len : ∀ vs H Q E, sp vs H Q E → vs.length = ps.length)
    (hbody : ∀ (A : Around) (outer : List Env) (s : Shared) (H : Hp) (vs : List V) (Q : VK) (E : XK), Room k (A.deeper (envOfC qual scope s.heap.objs.size f cdv)) → sp vs H Q E →
      ∃ t, PSs (cxOf CX P w K mg base N qual scope f cdv A outer s H E) body t ∧ t { nx := fun _ H' => Q .non H', rt := Q } (start N vs) H) :
    FnOk P w K mg base CX (k + 1) f (PySem.W.fnOf name qual params body scope dV kV doc pm an cdv ct) ps sp := by
  refine ⟨len, fun A outer s H args us vs Q E hr e0 hb r hsp => ?_⟩
  have hl := len _ _ _ _ hsp
  have KX : K.In s.heap := e0.mod.kin.keeps fun b o e => (e0.bs b o e).1
  have lim : s.heap.NoLimit := e0.mod.nolimit.keeps fun b o e => (e0.bs b o e).1
  have hkind : ∀ y ∈ ps.zip us, scope.names.lookup y.1 = some .local ∨ (scope.names.lookup y.1 = some .cell ∧ ((cellsFrom (s.heap.objs.size + 1) scope.names []).lookup y.1).isSome = true) := fun ⟨n, v⟩ hy => by
    rcases S.par n (List.of_mem_zip hy).1 with q | q
    · exact .inl q
    · exact .inr ⟨q, PySem.W.cellsFrom_some _ _ _ (.inl q)⟩
  refine codeAny_call_function hr.depth (KX _ _ lk) rfl S.co S.gen rfl (PySem.W.codeRec_of KX hcd) (hb _ _ _ _ ?_)
  refine wpAny_newFunctionEnv_cells S.kind hkind fun env he s1 x => ?_
  subst he
  refine ⟨lim.keeps x.toInCall.keep, codeAny_func ?_⟩
  obtain ⟨t, ht, hq⟩ := hbody A outer s H vs Q E (hr.deeper _) hsp
  have I : Inv (cxOf CX P w K mg base N qual scope f cdv A outer s H E) [] (start N vs) H s1 := inv_start S hr.hd e0 hl r x
  refine wpAny_mono (@ht [] s1 (start N vs) H _ I hq) (fun fl s' hs => ?_) fun e s' hs => hs
  have fin : ∀ {σ' : St} {H' : Hp} {v : V} {u : Value}, Inv (cxOf CX P w K mg base N qual scope f cdv A outer s H E) [] σ' H' s' → RelV v u → Q v H' → CE outer P w H s Q u s' :=
    fun {σ' H' v u} J rv q => ⟨v, H', J.os, J.bare, J.base, J.hok, rv, q⟩
  cases fl with
  | ret u =>
    obtain ⟨v, σ', H', J, rv, q⟩ := hs
    exact fin J rv q
  | next =>
    obtain ⟨σ', H', J, q⟩ := hs
    exact fin (v := V.non) (u := Value.none) J rfl q
  | brk =>
    obtain ⟨_, _, _, q⟩ := hs
    exact False.elim q
  | cont =>
    obtain ⟨_, _, _, q⟩ := hs
    exact False.elim q
end L2
namespace L2
open PySem PySem.Spec PyProof.Rows
section
variable {X : Cx} {x : Str} {p pos : Pos} {e : Expr} {es : List Expr} {t : TA} {id T : String} {r : List V → Hp → VK → Prop}
noncomputable def tCB (r : List V → Hp → VK → Prop) (t : TA) : TE := fun σ H Q => t σ H fun vs H1 => r vs H1 Q
theorem pe_callB (hc : CallR X (.builtin id) r) (hg : Gl X x) (hm : X.mg x = none) (hv : bootBuiltins x = some (.builtin id)) (ha : PA X (e :: es) t) (hn : x ≠ "__name__" := by decide) (hdb : (x == ("__debug__" : Str)) = false := by decide)
    (he : starEach (e :: es) X.env = (false, eval e X.env) :: starEach es X.env := by rfl) (hpl : (backTo pos (starEach es X.env)).any (·.1) = false := by rfl) : PE X (.Call (.Name x p) (e :: es) [] pos) (tCB r t) := by
  intro pins s σ H Q I h
  refine wpAny_Call_Name_kw (ld_blt I hg hm hv ?_ hn hdb)
  exact PyProof.Rows.callWith_builtin1 (thn (@ha pos pins s σ H _ I h) fun us s1 ⟨vs, H1, I1, r1, q1⟩ => @hc pins s1 σ H1 vs us Q I1 r1 q1) he hpl
end
end L2
namespace HT
open PySem PyProof.Rows
noncomputable def lexLt : List Int → List Int → Bool
  | [], [] => false
  | [], _ :: _ => true
  | _ :: _, [] => false
  | x :: xs, y :: ys => if x = y then lexLt xs ys else decide (x < y)
theorem lexLt_cons (x y : Int) (xs ys : List Int) : lexLt (x :: xs) (y :: ys) = if x = y then lexLt xs ys else decide (x < y) := rfl
theorem lexLt_nil_nil : lexLt [] [] = false := rfl
theorem lexLt_nil_cons (y : Int) (ys : List Int) : lexLt [] (y :: ys) = true := rfl
theorem lexLt_cons_nil (x : Int) (xs : List Int) : lexLt (x :: xs) [] = false := rfl
theorem eqAt_int (A : Around) (s : Shared) (a : Int) (t : Tok) (c : Int) (u : Tok) : ∃ e, SeqAt.EqAt A s (.int a t) (.int c u) e ∧ (e = true ↔ a = c) :=
  ⟨(a == c), SeqAt.EqAt.int_int a t c u, by simp⟩
theorem rcLt_int (A : Around) (s : Shared) (a : Int) (t : Tok) (c : Int) (u : Tok) (prog : Program) (w : World) (E : Value → Shared → Prop) (Q : Value → Shared → Prop) (h : Q (.bool (decide (a < c))) s) :
    wpAny (model prog w) A (richCompare .Lt (.int a t) (.int c u)) Q E s :=
  (PyProof.Rows.lt_int h : wpAny (model prog w) A (compareOp .Lt (.int a t) (.int c u)) Q E s)
section
open PySem.SeqAt
open PySem.AutoSeq1 (wpAny_loadPart')
open PySem.MeetsSeq PySem.MeetsSeq2 PySem.MeetsSeq3
theorem tuple_lt_ints (l b : Addr) (items items2 : Array Value) (n n2 : Nat) (dd dd2 : Option Addr) (sl sl2 : Array (Option Value)) (ns ms : List Int) (hi : IntsAre items.toList ns) (hj : IntsAre items2.toList ms) :
    Meets (Builtin.«tuple.__lt__» ⟨[.ref l, .ref b], []⟩)
      (fun _ R s => s.heap.get? l = some { cls := .type "tuple", dict := dd, data := .seq items n, slots := sl } ∧ s.heap.get? b = some { cls := .type "tuple", dict := dd2, data := .seq items2 n2, slots := sl2 } ∧
        R (.ok (.ret (.bool (lexLt ns ms)))) s) :=
  .of_wp fun prog w A R s h => by
    obtain ⟨hp, g, d, tk, os⟩ := s; obtain ⟨hl, hb, h⟩ := h
    have f2 := AutoSeq1.sub_tuple_tuple
    have z1 : items.size = ns.length := by rw [← hi.length]; simp
    have z2 : items2.size = ms.length := by rw [← hj.length]; simp
    wp_walk using wpAny_loadPart' hl, wpAny_loadPart' hb, wpAny_forIn_list _ (fun rest b s' => b.1 = none ∧ s' = ⟨hp, g, d, tk, os⟩ ∧ ∃ (vs ws : List Value) (ns' ms' : List Int), rest = vs.zip ws ∧
      IntsAre vs ns' ∧ IntsAre ws ms' ∧ ns'.length + items2.size = ms'.length + items.size ∧ R (.ok (.ret (.bool (lexLt ns' ms')))) ⟨hp, g, d, tk, os⟩) _
    case turn =>
      rintro ⟨y, x⟩ rest b s' ⟨hb', rfl, vs, ws, ns', ms', hz, hvi, hwi, hlen, hR⟩
      cases hvi with
      | nil => rw [List.zip_nil_left] at hz; cases hz
      | cons a t hvi' =>
        cases hwi with
        | nil => rw [List.zip_nil_right] at hz; cases hz
        | cons c u hwi' =>
          rw [List.zip_cons_cons] at hz
          injection hz with hyx hrest
          injection hyx with hy hx
          subst hy hx
          rw [lexLt_cons] at hR
          simp only [List.length_cons] at hlen
          obtain ⟨e, he, hiff⟩ := eqAt_int A.in1 ⟨hp, g, d, tk, os⟩ a t c u
          refine wpAny_bind (he prog w _ _ ?_)
          cases e with
          | true =>
            rw [if_pos (hiff.mp rfl)] at hR
            wp_walk
            exact ⟨rfl, rfl, _, _, _, _, hrest, hvi', hwi', by (first | lia | omega), hR⟩
          | false =>
            rw [if_neg (fun q => absurd (hiff.mpr q) Bool.false_ne_true)] at hR
            have hri := rcLt_int A.in1 ⟨hp, g, d, tk, os⟩ a t c u prog w
            wp_walk using hri
            exact ⟨_, rfl, by simpa using hR⟩
    case fin =>
      rintro ⟨b1, b2⟩ s' ⟨hb', rfl, vs, ws, ns', ms', hz, hvi, hwi, hlen, hR⟩
      simp only at hb'
      subst hb'
      have hv : lexLt ns' ms' = decide (items.size < items2.size) := by
        cases hvi with
        | nil =>
          cases hwi with
          | nil =>
            simp only [List.length_nil] at hlen
            rw [lexLt_nil_nil]
            exact (decide_eq_false (by (first | lia | omega))).symm
          | cons c u hw =>
            simp only [List.length_nil, List.length_cons] at hlen
            rw [lexLt_nil_cons]
            exact (decide_eq_true (by (first | lia | omega))).symm
        | cons a t hv =>
          cases hwi with
          | nil =>
            simp only [List.length_nil, List.length_cons] at hlen
            rw [lexLt_cons_nil]
            exact (decide_eq_false (by (first | lia | omega))).symm
          | cons c u hw =>
            rw [List.zip_cons_cons] at hz
            cases hz
      rw [hv] at hR
      wp_walk
      exact ⟨_, rfl, by simpa [Builtin.Tuple.tupleCompareSizes] using hR⟩
    case h =>
      exact ⟨rfl, rfl, items.toList, items2.toList, ns, ms, rfl, hi, hj, by (first | lia | omega), h⟩
end
section
variable {prog : Program} {w : World} {A : Around} {E : Value → Shared → Prop} {s : Shared}
theorem lt_tupInts {l b : Addr} {items items2 : Array Value} {ns ms : List Int} {Q : Value → Shared → Prop} (hl : IsTup s.heap l items) (hb : IsTup s.heap b items2) (hi : IntsAre items.toList ns) (hj : IntsAre items2.toList ms)
    (hu : A.units < cLine) (h : Q (.bool (lexLt ns ms)) s) : wpAny (model prog w) A (compareOp .Lt (.ref l) (.ref b)) Q E s := by
  obtain ⟨⟨cls, dd, data, sl⟩, ho, hc, n, hd⟩ := id hl
  obtain ⟨⟨cls2, dd2, data2, sl2⟩, ho2, hc2, n2, hd2⟩ := id hb
  simp only at hc hd hc2 hd2
  subst hc hd hc2 hd2
  exact richCompare_meets_room (op := .Lt) ⟨_, ho, rfl⟩ ⟨_, ho2, rfl⟩ PySem.F.slot_tuple_lt PySem.F.entry_tuple_lt (PySem.F.args_tuple_lt_2 _ _) (tuple_lt_ints l b items items2 n n2 dd dd2 sl sl2 ns ms hi hj)
    ⟨ho, ho2, show Value.bool (lexLt ns ms) ≠ Value.notImplemented ∧ Q (.bool (lexLt ns ms)) s from ⟨(fun x => nomatch x), h⟩⟩ hu
noncomputable def sIx (n d : Nat) : Option Int → Nat
  | none => d
  | some v => if v < 0 then (v + (n : Int)).toNat else min v.toNat n
theorem sIx_none (n d : Nat) : sIx n d none = d := rfl
theorem sIx_nat (n d k : Nat) : sIx n d (some (k : Int)) = min k n := by
  show (if (k : Int) < 0 then ((k : Int) + (n : Int)).toNat else min (k : Int).toNat n) = min k n
  rw [if_neg (by (first | lia | omega)), Int.toNat_natCast]
theorem sIx_le (n d : Nat) (hd : d ≤ n) (o : Option Int) : sIx n d o ≤ n := by
  cases o with
  | none => exact hd
  | some v =>
    show (if v < 0 then (v + (n : Int)).toNat else min v.toNat n) ≤ n
    by_cases hv : v < 0
    · rw [if_pos hv]; (first | lia | omega)
    · rw [if_neg hv]; exact Nat.min_le_right _ _
theorem clip_eq (v : Int) (n d : Nat) : (if v < 0 then max (v + (n : Int)) 0 else min v (n : Int)) = ((sIx n d (some v) : Nat) : Int) := by
  show (if v < 0 then max (v + (n : Int)) 0 else min v (n : Int)) = (((if v < 0 then (v + (n : Int)).toNat else min v.toNat n) : Nat) : Int)
  by_cases hv : v < 0
  · simp only [if_pos hv]; (first | lia | omega)
  · simp only [if_neg hv]; (first | lia | omega)
theorem adjust_gen (lo hi : Option Int) (n : Nat) : Builtin.Slice.sliceAdjust lo hi 1 (n : Int) = (((sIx n 0 lo : Nat) : Int), ((sIx n n hi : Nat) : Int)) := by
  have h1 : ¬ ((1 : Int) < 0) := by (first | lia | omega)
  unfold Builtin.Slice.sliceAdjust
  simp only [h1, if_false]
  refine Prod.ext ?_ ?_
  · cases lo with
    | none => rfl
    | some v => exact clip_eq v n 0
  · cases hi with
    | none => rfl
    | some v => exact clip_eq v n n
theorem places_gen (i j : Nat) : Builtin.Slice.slicePlaces (i : Int) (j : Int) 1 = j - i := by
  unfold Builtin.Slice.slicePlaces
  have h1 : (1 : Int) > 0 := by (first | lia | omega)
  simp only [h1, if_true, Int.ediv_one]
  split <;> (first | lia | omega)
theorem slicePart_ {v : Value} {o : Option Int} {Q : Option Int → Shared → Prop} (p : IsPart v o) (h : Q o s) : wpAny (model prog w) A (Builtin.Slice.slicePartIndex v) Q E s := by
  cases p with
  | none => exact slicePart_none h
  | int i t => exact slicePart_int h
theorem sliceApplied_gen {sl : Addr} {vl vu : Value} {lo hi : Option Int} {n : Nat} {Q : Int × Int × Nat → Shared → Prop} (hs : s.heap.IsSliceOf sl vl vu .none) (pl : IsPart vl lo) (pu : IsPart vu hi)
    (h : Q (((sIx n 0 lo : Nat) : Int), 1, sIx n n hi - sIx n 0 lo) s) : wpAny (model prog w) A (Builtin.Slice.sliceApplied (.ref sl) (pure (n : Int))) Q E s := by
  obtain ⟨os, hos, hcs, hds⟩ := id hs
  unfold Builtin.Slice.sliceApplied Builtin.Slice.sliceFields
  refine wpAny_bind (wpAny_bind (wpAny_field hos hds (x := vl) rfl (wpAny_bind (wpAny_field hos hds (x := vu) rfl (wpAny_bind (wpAny_field hos hds (x := .none) rfl (wpAny_pure ?_)))))))
  refine wpAny_bind (slicePart_none ?_)
  show wpAny _ _ (if ((1 : Int) == 0) = true then _ else _) _ _ s
  rw [if_neg (by decide)]
  refine wpAny_bind (slicePart_ pl (wpAny_bind (slicePart_ pu (wpAny_bind (wpAny_pure ?_)))))
  show wpAny _ _ (match Builtin.Slice.sliceAdjust lo hi 1 (n : Int) with | (lo, hi) => pure (lo, (1 : Int), Builtin.Slice.slicePlaces lo hi 1)) _ _ s
  rw [adjust_gen lo hi n]
  show wpAny _ _ (pure (((sIx n 0 lo : Nat) : Int), (1 : Int), Builtin.Slice.slicePlaces ((sIx n 0 lo : Nat) : Int) ((sIx n n hi : Nat) : Int) 1)) _ _ s
  rw [places_gen]
  exact wpAny_pure h
theorem pick_gen (xs : Array Value) (i k : Nat) : ((List.range k).filterMap fun (m : Nat) => xs[((i : Int) + (m : Int) * 1).toNat]?).toArray = ((xs.toList.drop i).take k).toArray := by
  have e : (fun (m : Nat) => xs[((i : Int) + (m : Int) * 1).toNat]?) = fun m => xs[i + m]? := by
    funext m
    have : ((i : Int) + (m : Int) * 1).toNat = i + m := by (first | lia | omega)
    rw [this]
  rw [e]
  have := pick_run xs i k
  rw [List.filterMap_map] at this
  have e2 : ((fun x => xs[x]?) ∘ fun x => i + x) = fun m => xs[i + m]? := rfl
  rw [e2] at this
  rw [this]
theorem getItem_tuple_cut {t sl : Addr} {items : Array Value} {vl vu : Value} {lo hi : Option Int} {Q : Value → Shared → Prop} (ht : IsTup s.heap t items) (hs : s.heap.IsSliceOf sl vl vu .none) (pl : IsPart vl lo) (pu : IsPart vu hi)
    (hw : ¬ (sIx items.size 0 lo = 0 ∧ sIx items.size items.size hi = items.size))
    (h : Q (.ref s.heap.objs.size) { s with heap := s.heap.push { cls := .type "tuple", data := .seq ((items.toList.drop (sIx items.size 0 lo)).take (sIx items.size items.size hi - sIx items.size 0 lo)).toArray } })
    (hsz : items.size ≤ sizeLine) : wpAny (model prog w) A (getItem (.ref t) (.ref sl)) Q E s := by
  have htake : sizeOk (.seq ((items.toList.drop (sIx items.size 0 lo)).take (sIx items.size items.size hi - sIx items.size 0 lo)).toArray) := by
    show ((items.toList.drop (sIx items.size 0 lo)).take (sIx items.size items.size hi - sIx items.size 0 lo)).toArray.size ≤ sizeLine
    rw [List.size_toArray, List.length_take, List.length_drop, Array.length_toList]
    (first | lia | omega)
  have hj : sIx items.size items.size hi ≤ items.size := sIx_le _ _ (Nat.le_refl _) hi
  obtain ⟨os, hos, hcs, hds⟩ := id hs
  have hTs : s.TypeIs (.ref sl) "slice" := ⟨os, hos, hcs⟩
  unfold getItem
  try with_reducible refine wpAny_holding ?_
  first | refine wpAny_bind (wpAny_pure ?_) | skip
  refine wpAny_bind (wpAny_sequenceKey ht.typeIs (by decide) ?_)
  refine wpAny_bind (wpAny_callSpecial?_slot (name := Str.ofString "__getitem__") ht.typeIs PyProof.Rows.slot_tuple_getitem
    (wpAny_call_entry PyProof.Rows.slot_tuple_getitem ht.typeIs entry_tuple_getitem ?_ (args_tuple_getitem _ _)))
  show wpAny _ _ (Builtin.Tuple.tupleItemsOf (.ref t) >>= _) _ _ s
  refine wpAny_bind (tupleItemsOf_ ht ?_)
  refine wpAny_bind (wpAny_typeOf hTs ?_)
  rw [if_pos (by decide)]
  refine wpAny_bind (sliceApplied_gen hs pl pu ?_)
  have hno : ¬ ((((sIx items.size 0 lo : Nat) : Int) == 0 && (1 : Int) == 1 && (sIx items.size items.size hi - sIx items.size 0 lo) == items.size) = true) := by
    intro q
    rw [Bool.and_eq_true, Bool.and_eq_true] at q
    have q1 : ((sIx items.size 0 lo : Nat) : Int) = 0 := eq_of_beq q.1.1
    have q2 : sIx items.size items.size hi - sIx items.size 0 lo = items.size := eq_of_beq q.2
    exact hw ⟨by (first | lia | omega), by (first | lia | omega)⟩
  show wpAny _ _ (if (((sIx items.size 0 lo : Nat) : Int) == 0 && (1 : Int) == 1 && (sIx items.size items.size hi - sIx items.size 0 lo) == items.size) = true then _ else _) _ _ s
  rw [if_neg hno, pick_gen]
  first
    | exact wpAny_bind (m := Builtin.Tuple.tupleExact _) (wpAny_newObj_type (wpAny_pure ⟨_, rfl, wpAny_pure h⟩) htake)
    | exact wpAny_bind (m := Builtin.Tuple.tupleExact _) (wpAny_newObj_type (wpAny_bind (wpAny_pure (wpAny_pure ⟨_, rfl, wpAny_pure h⟩))) htake)
    | exact wpAny_bind (wpAny_bind (m := Builtin.Tuple.tupleExact _) (wpAny_newObj_type (wpAny_pure (wpAny_pure ⟨_, rfl, wpAny_pure h⟩)) htake))
    | exact wpAny_bind (wpAny_bind (m := Builtin.Tuple.tupleExact _) (wpAny_newObj_type (wpAny_pure ⟨_, rfl, wpAny_pure h⟩) htake))
end
end HT
namespace L2
open PySem PySem.Spec PyProof.Rows
noncomputable abbrev TO := St → Hp → (Option Int → Hp → Prop) → Prop
noncomputable def PO (X : Cx) (e : Option Expr) (t : TO) : Prop :=
  ∀ (pins : List (Addr × Obj)) (s : Shared) (σ : St) (H : Hp) (Q : Option Int → Hp → Prop), Inv X pins σ H s → t σ H Q →
    wpAny (model X.prog X.w) X.A (evalPart e X.env) (fun u s' => ∃ o H', Inv X pins σ H' s' ∧ IsPart u o ∧ Q o H') X.xe s
noncomputable def tNoPart : TO := fun _ H Q => Q none H
noncomputable def tPart (t : TE) : TO := fun σ H Q => t σ H fun x H1 => ∃ i, x = .int i ∧ Q (some i) H1
theorem intsAre_of {ns : List Int} : ∀ {us : List Value}, Vals (ns.map V.int) us → IntsAre us ns := by
  induction ns with
  | nil => intro us r; rw [List.map_nil] at r; cases r; exact .nil
  | cons n ns ih =>
    intro us r
    rw [List.map_cons] at r
    cases r with
    | cons r1 r2 =>
      obtain ⟨t, e⟩ := r1
      subst e
      exact .cons n t (ih r2)
section
variable {X : Cx} {e : Expr} {te : TE} {lo hi : Option Expr} {tl th : TO} {pos p2 : Pos}
theorem po_none : PO X none tNoPart := by
  intro pins s σ H Q I h
  rw [evalPart_none]
  exact wpAny_pure ⟨none, H, I, .none, h⟩
theorem po_some (h : PE X e te) : PO X (some e) (tPart te) := by
  intro pins s σ H Q I hw
  rw [evalPart_some]
  refine thn (@h pins s σ H _ I hw) fun u s1 ⟨x, H1, I1, r1, q1⟩ => ?_
  obtain ⟨i, rfl, q⟩ := q1
  obtain ⟨t, rfl⟩ := r1
  exact ⟨some i, H1, I1, .int i t, q⟩
noncomputable def SlR (X : Cx) (r : V → Option Int → Option Int → Hp → VK → Prop) : Prop :=
  ∀ (pins : List (Addr × Obj)) (s : Shared) (σ : St) (H : Hp) (x : V) (v vl vu : Value) (lo hi : Option Int) (sl : Addr) (Q : VK), Inv X pins σ H s → RelV x v → s.heap.IsSliceOf sl vl vu .none → IsPart vl lo → IsPart vu hi → r x lo hi H Q →
    ∃ T id, typeLookup (.type T) "__getitem__" = pure (some (.builtin id)) ∧ s.TypeIs v T ∧ wpAny (model X.prog X.w) X.A (getItem v (.ref sl)) (EP X pins σ Q) X.xe s
noncomputable def tSl (r : V → Option Int → Option Int → Hp → VK → Prop) (te : TE) (tl th : TO) : TE := fun σ H Q => te σ H fun x H1 => tl σ H1 fun l H2 => th σ H2 fun u H3 => r x l u H3 Q
theorem pe_slice {r : V → Option Int → Option Int → Hp → VK → Prop} (hr : SlR X r) (he : PE X e te) (hl : PO X lo tl) (hu : PO X hi th) : PE X (.Subscript e (.Slice lo hi none p2) pos) (tSl r te tl th) := by
  intro pins s σ H Q I h
  refine Subscript_ (thn (@he pins s σ H _ I h) fun v s1 ⟨x, H1, I1, r1, q1⟩ => ?_)
  refine wpAny_Slice (thn (@hl pins s1 σ H1 _ I1 q1) fun vl s2 ⟨l, H2, I2, pl, q2⟩ => thn (@hu pins s2 σ H2 _ I2 q2) fun vu s3 ⟨u, H3, I3, pu, q3⟩ => ?_)
  rw [evalPart_none]
  refine wpAny_pure ?_
  have I4 : Inv X pins σ H3 { s3 with heap := s3.heap.push { cls := .type "slice", data := .fields #[vl, vu, .none] } } := I3.kept (t' := s3.toks) fun b ob q => Heap.get?_push_of_some _ q
  obtain ⟨T, id, hT, ht, hg⟩ := hr pins { s3 with heap := s3.heap.push { cls := .type "slice", data := .fields #[vl, vu, .none] } } σ H3 x v vl vu l u s3.heap.objs.size Q I4 r1 (Heap.IsSliceOf.new ..) pl pu q3
  show wpAny (model X.prog X.w) X.A (subscriptTail e (.Slice lo hi none p2) v (.ref s3.heap.objs.size)) (EP X pins σ Q) X.xe { s3 with heap := s3.heap.push { cls := .type "slice", data := .fields #[vl, vu, .none] } }
  exact tail_any (ops := [.ref s3.heap.objs.size, v]) ht hT hg (by with_unfolding_all rfl)
noncomputable def cutV (xs : List V) (lo hi : Option Int) : List V := (xs.drop (HT.sIx xs.length 0 lo)).take (HT.sIx xs.length xs.length hi - HT.sIx xs.length 0 lo)
theorem cutV_length (xs : List V) (lo hi : Option Int) : (cutV xs lo hi).length ≤ xs.length := by
  unfold cutV
  rw [List.length_take, List.length_drop]
  (first | lia | omega)
noncomputable def rSlT (K : PySem.W.Frag) : V → Option Int → Option Int → Hp → VK → Prop := fun x lo hi H Q => ∃ a xs, x = .ref a ∧ SqT K H a xs ∧
  ¬ (HT.sIx xs.length 0 lo = 0 ∧ HT.sIx xs.length xs.length hi = xs.length) ∧ ∀ p, H p = none → Q (.ref p) (upd H p (.tup (cutV xs lo hi)))
theorem sl_tup : SlR X (rSlT X.K) := by
  intro pins s σ H x v vl vu lo hi sl Q I rx hs pl pu h
  obtain ⟨a, xs, rfl, hx, hw, q⟩ := h
  cases rx
  obtain ⟨its, r, ht, hz⟩ := I.tuple hx
  have hlen : its.toArray.size = xs.length := by rw [List.size_toArray]; exact r.length.symm
  refine ⟨"tuple", _, PyProof.Rows.slot_tuple_getitem.lookup, ht.typeIs, ?_⟩
  refine HT.getItem_tuple_cut ht hs pl pu (by rw [hlen]; exact hw) ?_ (by rw [hlen]; exact hz)
  rw [hlen]
  refine ⟨.ref s.heap.objs.size, _, I.laid (t' := s.toks) (o := .tup (cutV xs lo hi)) (fun b ob q => Heap.get?_push_of_some _ q) (Nat.le_refl _) ?_, rfl, q _ (I.hok.fresh (Nat.le_refl _))⟩
  exact ⟨Nat.le_trans (cutV_length xs lo hi) hz, _, (r.drop (HT.sIx xs.length 0 lo)).take (HT.sIx xs.length xs.length hi - HT.sIx xs.length 0 lo), IsTup.new _ _⟩
noncomputable def rLtT (K : PySem.W.Frag) : R2 := fun x y H Q => ∃ a b ns ms, x = .ref a ∧ y = .ref b ∧ SqT K H a (ns.map V.int) ∧ SqT K H b (ms.map V.int) ∧ Q (.bl (HT.lexLt ns ms)) H
theorem op_ltT (hu : X.A.units < cLine) : OpR X (compareOp .Lt) (rLtT X.K) := by
  intro pins s σ H x y v u Q I rx ry h
  obtain ⟨a, b, ns, ms, rfl, rfl, ha, hb, q⟩ := h
  cases rx
  cases ry
  obtain ⟨its, r1, p1, _⟩ := I.tuple ha
  obtain ⟨its2, r2, p2, _⟩ := I.tuple hb
  have i1 : IntsAre its.toArray.toList ns := intsAre_of r1
  have i2 : IntsAre its2.toArray.toList ms := intsAre_of r2
  exact HT.lt_tupInts p1 p2 i1 i2 hu ⟨.bl (HT.lexLt ns ms), H, I, rfl, q⟩
end
end L2
namespace L2
open PySem PySem.Spec PyProof.Rows
noncomputable def ixN (n : Nat) (i : Int) : Option Nat := if 0 ≤ i then (if i < n then some i.toNat else none) else if -(n : Int) ≤ i then some (i + n).toNat else none
noncomputable def atI {α : Type} (xs : List α) (i : Int) : Option α := (ixN xs.length i).bind fun j => xs[j]?
theorem ixN_seq {n : Nat} {i : Int} {j : Nat} (h : ixN n i = some j) : seqIndex? i n = some j ∧ j < n ∧ -(n : Int) ≤ i ∧ i < n := by
  unfold ixN at h
  by_cases h0 : 0 ≤ i
  · rw [if_pos h0] at h
    by_cases h1 : i < n
    · rw [if_pos h1] at h
      have e : i.toNat = j := Option.some.inj h
      exact ⟨by rw [seqIndex_of h0 h1, e], by (first | lia | omega), by (first | lia | omega), h1⟩
    · rw [if_neg h1] at h; cases h
  · rw [if_neg h0] at h
    by_cases h1 : -(n : Int) ≤ i
    · rw [if_pos h1] at h
      have e : (i + n).toNat = j := Option.some.inj h
      exact ⟨by rw [seqIndex_neg (by (first | lia | omega)) h1, e], by (first | lia | omega), h1, by (first | lia | omega)⟩
    · rw [if_neg h1] at h; cases h
theorem atI_get {α : Type} {xs : List α} {i : Int} {v : α} (h : atI xs i = some v) : ∃ j, seqIndex? i xs.length = some j ∧ xs[j]? = some v ∧ j < xs.length ∧ -(xs.length : Int) ≤ i ∧ i < xs.length := by
  unfold atI at h
  cases e : ixN xs.length i with
  | none => rw [e] at h; cases h
  | some j =>
    rw [e] at h
    obtain ⟨h1, h2, h3, h4⟩ := ixN_seq e
    exact ⟨j, h1, h, h2, h3, h4⟩
theorem atI_nat {α : Type} {xs : List α} {j : Nat} {v : α} (h : xs[j]? = some v) : atI xs (j : Int) = some v := by
  have hj : j < xs.length := (List.getElem?_eq_some_iff.mp h).1
  have e : ixN xs.length (j : Int) = some j := by
    unfold ixN
    rw [if_pos (by (first | lia | omega)), if_pos (by (first | lia | omega))]; simp
  unfold atI; rw [e]; exact h
theorem atI_last {α : Type} (xs : List α) (v : α) : atI (xs ++ [v]) (-1) = some v := by
  have hl : (xs ++ [v]).length = xs.length + 1 := by simp
  have e : ixN (xs ++ [v]).length (-1) = some xs.length := by
    unfold ixN
    rw [hl, if_neg (by decide), if_pos (by (first | lia | omega))]
    congr 1
    (first | lia | omega)
  unfold atI
  rw [e]
  show (xs ++ [v])[xs.length]? = some v
  simp
noncomputable def PlainIx (b : Expr) : Prop := ∀ o i, subscripted b false o i = operate [o, i] (getItem o i)
noncomputable def IxR (X : Cx) (r : R2) : Prop :=
  ∀ (value slice : Expr) (pins : List (Addr × Obj)) (s : Shared) (σ : St) (H : Hp) (x y : V) (v u : Value) (Q : VK), Inv X pins σ H s → RelV x v → RelV y u → r x y H Q →
    subscripted slice false v u = operate [v, u] (getItem v u) → wpAny (model X.prog X.w) X.A (subscriptTail value slice v u) (EP X pins σ Q) X.xe s
noncomputable def MtR (X : Cx) (id : String) (r : V → List V → Hp → VK → Prop) : Prop :=
  ∀ (pins : List (Addr × Obj)) (s : Shared) (σ : St) (H : Hp) (x : V) (xs : List V) (v : Value) (us : List Value) (Q : VK), Inv X pins σ H s → RelV x v → Vals xs us → r x xs H Q →
    wpAny (model X.prog X.w) X.A (call (.builtin id) (v :: us)) (EP X pins σ Q) X.xe s
section
variable {X : Cx} {a b : Expr} {ta tb : TE} {pos : Pos}
theorem IxR.or {r r' : R2} (h : IxR X r) (h' : IxR X r') : IxR X (fun x y H Q => r x y H Q ∨ r' x y H Q) := by
  intro value slice pins s σ H x y v u Q I rx ry q hs
  rcases q with q | q
  · exact h value slice pins s σ H x y v u Q I rx ry q hs
  · exact h' value slice pins s σ H x y v u Q I rx ry q hs
theorem pe_ix {r : R2} (hr : IxR X r) (ha : PE X a ta) (hb : PE X b tb) (hs : PlainIx b) : PE X (.Subscript a b pos) (tOp r ta tb) := by
  intro pins s σ H Q I h
  exact Subscript_ (binT ha hb I h fun v u s2 x y H2 I2 rx ry q => hr a @b pins s2 σ H2 x y v u Q I2 rx ry q (hs _ _))
noncomputable def rIxL (K : PySem.W.Frag) : R2 := fun x y H Q => ∃ p xs i v, x = .ref p ∧ y = .int i ∧ SqL K H p xs ∧ atI xs i = some v ∧ Q v H
noncomputable def rIxT (K : PySem.W.Frag) : R2 := fun x y H Q => ∃ p xs i v, x = .ref p ∧ y = .int i ∧ SqT K H p xs ∧ atI xs i = some v ∧ Q v H
noncomputable def rIxS : R2 := fun x y H Q => ∃ z i c, x = .str z ∧ y = .int i ∧ z.length ≤ sizeLine ∧ atI z.cps.toList i = some c ∧ Q (.str ⟨#[c]⟩) H
theorem ix_list : IxR X (rIxL X.K) := by
  intro value slice pins s σ H x y v u Q I rx ry h hs
  obtain ⟨p, xs, i, z, rfl, rfl, hq, he, q⟩ := h
  cases rx
  obtain ⟨t, rfl⟩ := ry
  obtain ⟨its, r, pl, hz⟩ := I.list hq
  obtain ⟨j, h1, h2, h3, h4, h5⟩ := atI_get he
  obtain ⟨w, ew, rw'⟩ := r.get h2
  have hl := r.length
  have hn := line63
  have fin : EP X pins σ Q w s := ⟨z, H, I, rw', q⟩
  by_cases h0 : 0 ≤ i
  · have hj : i.toNat = j := by
      rw [seqIndex_of h0 h5] at h1
      exact Option.some.inj h1
    exact item_listR pl.isList h0 (by (first | lia | omega)) (by rw [hj]; simpa using ew) fin hs
  · have hj : (i + (its.toArray.size : Int)).toNat = j := by
      rw [seqIndex_neg (by (first | lia | omega)) h4] at h1
      rw [List.size_toArray, ← hl]
      exact Option.some.inj h1
    exact subscriptTail_builtinR (x := w) pl.isList.typeIs slot_list_getitem.lookup
      (wpAny_getItem_list_neg (Q := fun r s' => r = w ∧ EP X pins σ Q r s') pl.isList (by (first | lia | omega)) (by rw [List.size_toArray] <;> (first | lia | omega)) (by (first | lia | omega)) (by rw [hj]; simpa using ew) ⟨rfl, fin⟩) hs
theorem ix_tup : IxR X (rIxT X.K) := by
  intro value slice pins s σ H x y v u Q I rx ry h hs
  obtain ⟨p, xs, i, z, rfl, rfl, hq, he, q⟩ := h
  cases rx
  obtain ⟨t, rfl⟩ := ry
  obtain ⟨its, r, pl, hz⟩ := I.tuple hq
  obtain ⟨j, h1, h2, h3, h4, h5⟩ := atI_get he
  obtain ⟨w, ew, rw'⟩ := r.get h2
  have hl := r.length
  have hn := line63
  have fin : EP X pins σ Q w s := ⟨z, H, I, rw', q⟩
  exact subscriptTail_builtinR (x := w) pl.typeIs slot_tuple_getitem.lookup
    (getItem_tuple (j := j) (Q := fun r s' => r = w ∧ EP X pins σ Q r s') pl (by (first | lia | omega)) (by (first | lia | omega)) (by rw [List.size_toArray, ← hl]; exact h1) (by simpa using ew) ⟨rfl, fin⟩) hs
theorem ix_str : IxR X rIxS := by
  intro value slice pins s σ H x y v u Q I rx ry h hs
  obtain ⟨z, i, c, rfl, rfl, hz, he, q⟩ := h
  obtain ⟨t, rfl⟩ := rx
  obtain ⟨t', rfl⟩ := ry
  obtain ⟨j, h1, h2, h3, h4, h5⟩ := atI_get he
  have hl : z.cps.toList.length = z.length := by simp [Str.length]
  rw [hl] at h1 h4 h5
  have hn := line63
  exact tail_any (typeIs_str s z t) slot_str_getitem.lookup (getItem_str (c := c) (by
    have e1 : decide (i < -(2 ^ 63 : Int)) = false := decide_eq_false (by (first | lia | omega))
    have e2 : decide (i ≥ 2 ^ 63) = false := decide_eq_false (by (first | lia | omega))
    rw [e1, e2, Bool.or_false]) (by rw [h1]; simpa using h2) ⟨.str ⟨#[c]⟩, H, I.tok _, ⟨_, rfl⟩, q⟩) hs
noncomputable def rIx (K : PySem.W.Frag) : R2 := fun x y H Q => rIxL K x y H Q ∨ rIxT K x y H Q ∨ rIxS x y H Q
theorem ix_seq : IxR X (rIx X.K) := ix_list.or (ix_tup.or ix_str)
theorem mapSeq_set (its : List Value) (n j : Nat) (u : Value) : Obj.mapSeq (·.setIfInBounds j u) { cls := .type "list", data := .seq its.toArray n } = { cls := .type "list", data := .seq (its.set j u).toArray n } := by
  simp [Obj.mapSeq]
theorem Inv.lst {pins : List (Addr × Obj)} {σ : St} {H : Hp} {s : Shared} {p : Addr} {xs : List V} (I : Inv X pins σ H s) (h : H p = some (.lst xs)) :
    ∃ (its : List Value) (n : Nat), Vals xs its ∧ s.heap.get? p = some { cls := .type "list", data := .seq its.toArray n } ∧ xs.length ≤ sizeLine := by
  obtain ⟨z, its, n, r, e⟩ := I.hok p _ h
  exact ⟨its, n, r, e, z⟩
theorem Inv.lstUpd {pins : List (Addr × Obj)} {σ : St} {H : Hp} {s : Shared} {p : Addr} {xs ys : List V} {its its' : List Value} {n n' : Nat} {f : Obj → Obj} (I : Inv X pins σ H s) (h : H p = some (.lst xs))
    (ho : s.heap.get? p = some { cls := .type "list", data := .seq its.toArray n }) (hf : f { cls := .type "list", data := .seq its.toArray n } = { cls := .type "list", data := .seq its'.toArray n' }) (r : Vals ys its') (hz : ys.length ≤ sizeLine) (t : Nat) :
    Inv X pins σ (upd H p (.lst ys)) { s with heap := s.heap.update p f, toks := t } := by
  have e : (s.heap.update p f).get? p = some { cls := .type "list", data := .seq its'.toArray n' } := by
    rw [Heap.get?_update_self f ho (by rw [hf] <;> rfl), hf]
  refine I.write (x := p) (e := p) (by rw [h]; trivial) (.inl rfl) (fun b u hb q => (Heap.get?_update_other _ _ (Ne.symm hb)).trans q) ⟨_, e⟩ ?_
  exact ⟨hz, its', n', r, e⟩
noncomputable def rSetL : V → V → V → Hp → (Hp → Prop) → Prop := fun o i v H Q => ∃ p xs k j, o = .ref p ∧ i = .int k ∧ H p = some (.lst xs) ∧ ixN xs.length k = some j ∧ Q (upd H p (.lst (xs.set j v)))
theorem set_list : PSet X rSetL := by
  intro pins s σ H o i v ov iv u Q I ro ri rv h
  obtain ⟨p, xs, k, j, rfl, rfl, hp, hj, q⟩ := h
  cases ro
  obtain ⟨t, rfl⟩ := ri
  obtain ⟨its, n, r, ho, hz⟩ := I.lst hp
  obtain ⟨h1, h2, h3, h4⟩ := ixN_seq hj
  have hl := r.length
  have hn := line63
  have I' : Inv X pins σ (upd H p (.lst (xs.set j v))) { s with heap := s.heap.update p (Obj.mapSeq (·.setIfInBounds j u)) } :=
    I.lstUpd hp ho (mapSeq_set its n j u) (r.set rv j) (by rw [List.length_set]; exact hz) s.toks
  by_cases h0 : 0 ≤ k
  · have hk : k.toNat = j := by
      rw [seqIndex_of h0 h4] at h1
      exact Option.some.inj h1
    exact PySem.W.ki_setAt ho h0 (by (first | lia | omega)) (by rw [List.size_toArray, ← hl]; exact h4) (by rw [hk]; exact ⟨_, I', q⟩)
  · have hk : (k + (its.toArray.size : Int)).toNat = j := by
      rw [seqIndex_neg (by (first | lia | omega)) h3] at h1
      rw [List.size_toArray, ← hl]
      exact Option.some.inj h1
    exact PySem.W.ki_setBack ho (by (first | lia | omega)) (by rw [List.size_toArray, ← hl]; exact h3) (by (first | lia | omega)) (by rw [hk]; exact ⟨_, I', q⟩)
theorem slice_bounds (lo hi : Option Int) (n : Nat) : (sliceBounds lo hi none n).1 = ((HT.sIx n 0 lo : Nat) : Int) ∧ (sliceBounds lo hi none n).2.1 = ((HT.sIx n n hi : Nat) : Int) ∧ (sliceBounds lo hi none n).2.2 = 1 := by
  refine ⟨?_, ?_, rfl⟩
  · cases lo with
    | none => simp [sliceBounds, HT.sIx]
    | some i =>
      simp only [sliceBounds, HT.sIx, Option.getD_none, show (1 : Int) > 0 by decide, if_true]
      by_cases h : i < 0
      · simp only [h, if_true] <;> (first | lia | omega)
      · simp only [h, if_false] <;> (first | lia | omega)
  · cases hi with
    | none => simp [sliceBounds, HT.sIx]
    | some i =>
      simp only [sliceBounds, HT.sIx, Option.getD_none, show (1 : Int) > 0 by decide, if_true]
      by_cases h : i < 0
      · simp only [h, if_true] <;> (first | lia | omega)
      · simp only [h, if_false] <;> (first | lia | omega)
theorem slicePick_cut (its : List Value) (lo hi : Option Int) : slicePick its.toArray lo hi none = ((its.drop (HT.sIx its.length 0 lo)).take (HT.sIx its.length its.length hi - HT.sIx its.length 0 lo)).toArray := by
  obtain ⟨h1, h2, h3⟩ := slice_bounds lo hi its.toArray.size
  unfold slicePick
  rw [h1, h2, h3]
  simp only [sliceRange_one, pick_run, List.size_toArray] <;> rfl
noncomputable def rSlL (K : PySem.W.Frag) : V → Option Int → Option Int → Hp → VK → Prop := fun x lo hi H Q => ∃ a xs, x = .ref a ∧ SqL K H a xs ∧ ∀ p, H p = none → Q (.ref p) (upd H p (.lst (cutV xs lo hi)))
theorem sl_list : SlR X (rSlL X.K) := by
  intro pins s σ H x v vl vu lo hi sl Q I rx hs pl pu h
  obtain ⟨a, xs, rfl, hx, q⟩ := h
  cases rx
  obtain ⟨its, r, ht, hz⟩ := I.list hx
  have hlen := r.length
  refine ⟨"list", _, slot_list_getitem.lookup, ht.isList.typeIs, ?_⟩
  refine wpAny_getItem_list_slice ht.isList hs pl pu .none (by simp) ?_ (by rw [List.size_toArray] <;> (first | lia | omega))
  rw [slicePick_cut, ← hlen]
  refine ⟨.ref s.heap.objs.size, _, I.laid (t' := s.toks) (o := .lst (cutV xs lo hi)) (fun b ob q => Heap.get?_push_of_some _ q) (Nat.le_refl _) ?_, rfl, q _ (I.hok.fresh (Nat.le_refl _))⟩
  exact ⟨Nat.le_trans (cutV_length xs lo hi) hz, _, 0, (r.drop (HT.sIx xs.length 0 lo)).take (HT.sIx xs.length xs.length hi - HT.sIx xs.length 0 lo), Heap.get?_push_size _ rfl⟩
theorem call_len_seq : CallR X (.builtin "len") (fun xs H Q => ∃ p ys, xs = [.ref p] ∧ (SqL X.K H p ys ∨ SqT X.K H p ys) ∧ Q (.int ys.length) H) := by
  intro pins s σ H xs us Q I r h
  obtain ⟨p, ys, rfl, hq, q⟩ := h
  obtain ⟨u, rfl, rx⟩ := vals1 r
  cases rx
  have hn := line63
  rcases hq with hq | hq
  · obtain ⟨its, r', pl, hz⟩ := I.list hq
    have hlen := r'.length
    exact Calls.call_len_list pl.isList (by simp only [List.size_toArray] <;> (first | lia | omega)) ⟨.int ys.length, H, I.tok _, ⟨s.toks + 1, by rw [List.size_toArray, hlen]⟩, q⟩
  · obtain ⟨its, r', pl, hz⟩ := I.tuple hq
    have hlen := r'.length
    exact len_tuple pl (by simp only [List.size_toArray] <;> (first | lia | omega)) ⟨.int ys.length, H, I.tok _, ⟨s.toks + 1, by rw [List.size_toArray, hlen]⟩, q⟩
noncomputable def tyV (K : PySem.W.Frag) (T : String) (x : V) (H : Hp) : Prop := match x with
  | .str _ => T = "str"
  | .int _ => T = "int"
  | .ref p => (T = "list" ∧ ∃ xs, SqL K H p xs) ∨ (T = "tuple" ∧ ∃ o, K.lookup p = some o ∧ o.cls = .type "tuple" ∧ o.dict = none) ∨
      (T = "dict" ∧ ((∃ kvs, H p = some (.dK kvs)) ∨ ∃ kvs, H p = some (.dT kvs))) ∨ (T = "set" ∧ ∃ S n, H p = some (.set S n))
  | _ => False
theorem tyV_is {pins : List (Addr × Obj)} {σ : St} {H : Hp} {s : Shared} {T : String} {x : V} {v : Value} (I : Inv X pins σ H s) (r : RelV x v) (ty : tyV X.K T x H) :
    s.TypeIs v T ∧ ∀ a, v = .ref a → ∃ ob, s.heap.get? a = some ob ∧ ob.dict = none := by
  cases x with
  | str z =>
    obtain ⟨t, rfl⟩ := r
    cases (show T = "str" from ty)
    exact ⟨typeIs_str s z t, fun _ e => nomatch e⟩
  | int i =>
    obtain ⟨t, rfl⟩ := r
    cases (show T = "int" from ty)
    exact ⟨typeIs_int s i t, fun _ e => nomatch e⟩
  | ref p =>
    cases r
    rcases ty with ⟨rfl, xs, hq⟩ | ⟨rfl, o, hk, hc, hd⟩ | ⟨rfl, hk⟩ | ⟨rfl, S, n, hk⟩
    · obtain ⟨its, _, pl, _⟩ := I.list hq
      refine ⟨pl.isList.typeIs, fun a e => ?_⟩
      cases e
      obtain ⟨o, n, e, c, hd, _⟩ := pl
      exact ⟨o, e, hd⟩
    · refine ⟨⟨o, I.kIn p o hk, hc⟩, fun a e => ?_⟩
      cases e
      exact ⟨o, I.kIn _ o hk, hd⟩
    · have z : ∃ o, s.heap.get? p = some o ∧ o.ExactDict := by
        rcases hk with ⟨kvs, hk⟩ | ⟨kvs, hk⟩
        · obtain ⟨_, _, _, _, o, _, _, e, ex, _⟩ := I.hok p _ hk
          exact ⟨o, e, ex⟩
        · obtain ⟨_, _, _, _, o, _, _, e, ex, _⟩ := I.hok p _ hk
          exact ⟨o, e, ex⟩
      obtain ⟨o, e, ex⟩ := z
      refine ⟨⟨o, e, ex.1⟩, fun a e2 => ?_⟩
      cases e2
      exact ⟨o, e, ex.2.1⟩
    · obtain ⟨o, _, _, _, e, ex, _⟩ := I.hok p _ hk
      refine ⟨⟨o, e, ex.1⟩, fun a e2 => ?_⟩
      cases e2
      exact ⟨o, e, ex.2.1⟩
  | _ => exact False.elim ty
noncomputable def tBM (K : PySem.W.Frag) (T : String) (r : V → List V → Hp → VK → Prop) (to : TE) (t : TA) : TE := fun σ H Q => to σ H fun x H1 => tyV K T x H1 ∧ t σ H1 fun xs H2 => r x xs H2 Q
variable {o e : Expr} {es : List Expr} {to : TE} {t : TA} {name : Str} {apos cpos : Pos} {T id : String} {r : V → List V → Hp → VK → Prop}
theorem pe_bm (pa : PlainAttrs T) (slot : Slot T name id) (hty : typeOf (.builtin id) = pure (.type "method_descriptor")) (hm : MtR X id r) (ho : PE X o to) (ha : PA X (e :: es) t)
    (hbase : attributeBase o name X.env (eval o X.env) = eval o X.env := by rfl)
    (hfew : ((backTo cpos (starEach (e :: es) X.env)).all (fun x => !x.1) && (backToKw cpos (keywordEach [] X.env)).all (fun x => x.1.isSome)
      && decide ((e :: es).length + ([] : List Keyword).length + (if ([] : List Keyword).isEmpty then 0 else 1) < 30)) = true := by rfl)
    (hline : (apos.endLine == cpos.line) = true := by rfl) (hs : starEach (e :: es) X.env = (false, eval e X.env) :: starEach es X.env := by rfl) (hplain : (backTo cpos (starEach es X.env)).any (·.1) = false := by rfl) :
    PE X (.Call (.Attribute o name apos) (e :: es) [] cpos) (tBM X.K T r to t) := by
  intro pins s σ H Q I h
  refine wpAny_Call_method_late hbase hfew hline rfl (thn (@ho pins s σ H _ I h) fun v s1 ⟨x, H1, I1, r1, ty, q1⟩ => ?_)
  obtain ⟨h1, h2⟩ := tyV_is I1 r1 ty
  refine ⟨T, id, pa, slot, hty, h1, h2, ?_⟩
  have hA := @ha cpos pins s1 σ H1 _ I1 q1
  rw [hs] at hA ⊢
  refine Calls.callWith_builtin (by show (false || (backTo cpos (starEach es X.env)).any (·.1)) = false; rw [hplain] <;> rfl) (Calls.evalArgs_plain ?_)
  exact thn hA fun us s2 ⟨vs, H2, I2, r2, q2⟩ => @hm pins s2 σ H2 x vs v us Q I2 r1 r2 q2
/- xs.append(e), list.index on a module's tuple .. are MtR facts of 06m -/
end
end L2
namespace L2
open PySem PySem.Spec PyProof.Rows
noncomputable def MtM (X : Cx) (id : String) (r : V → List V → Hp → VK → Prop) : Prop :=
  ∀ (pins : List (Addr × Obj)) (s : Shared) (σ : St) (H : Hp) (x : V) (xs : List V) (v : Value) (us : List Value) (Q : VK), Inv X pins σ H s → RelV x v → Vals xs us → r x xs H Q →
    wpAny (model X.prog X.w) X.A (call (.builtin id) (v :: us)) (EP X pins σ Q) X.xe s
theorem Vals.one : ∀ {x : V} {us : List Value}, Vals [x] us → ∃ u, us = [u] ∧ RelV x u
  | _, _, .cons r .nil => ⟨_, rfl, r⟩
section
variable {X : Cx} {pins : List (Addr × Obj)} {σ : St} {H : Hp} {s : Shared} {l b : Addr} {xs ys zs : List V}
theorem Inv.lset {its its' : List Value} {n : Nat} {f : Array Value → Array Value} {t' : Nat} (I : Inv X pins σ H s) (hH : H l = some (.lst xs))
    (e : s.heap.get? l = some { cls := .type "list", data := .seq its.toArray n }) (hf : f its.toArray = its'.toArray) (hv : Vals ys its') (hz : ys.length ≤ sizeLine) :
    Inv X pins σ (upd H l (.lst ys)) { s with heap := s.heap.update l (Obj.mapSeq f), toks := t' } := by
  have q := PySem.IsL.update e f
  rw [hf] at q
  refine I.write (x := l) (e := l) (by rw [hH]; exact trivial) (.inl rfl) (fun b' u hb hu => (Heap.get?_update_other s.heap (Obj.mapSeq f) (Ne.symm hb)).trans hu) ⟨_, q⟩ ?_
  exact ⟨hz, its', _, hv, q⟩
theorem Inv.lstM (I : Inv X pins σ H s) (hH : H l = some (.lst xs)) : xs.length ≤ sizeLine ∧ ∃ (its : List Value) (n : Nat), Vals xs its ∧ xs.length = its.length ∧ s.heap.get? l = some { cls := .type "list", data := .seq its.toArray n } := by
  obtain ⟨z, its, n, r, e⟩ := I.hok l _ hH
  exact ⟨z, its, n, r, r.length, e⟩
end
section
variable {X : Cx}
noncomputable def rAppend : V → List V → Hp → VK → Prop := fun x vs H Q => ∃ l xs y, x = .ref l ∧ vs = [y] ∧ H l = some (.lst xs) ∧ xs.length < sizeLine ∧ Q .non (upd H l (.lst (xs ++ [y])))
theorem mt_append : MtM X "list.append" rAppend := by
  intro pins s σ H x vs v us Q I rx rv h
  obtain ⟨l, xs, y, rfl, rfl, hH, hz, q⟩ := h
  cases rx
  obtain ⟨u, rfl, ru⟩ := rv.one
  obtain ⟨z, its, n, r, hl, e⟩ := I.lstM hH
  refine call_meets F.slot_list_append ⟨_, e, rfl⟩ F.entry_list_append (F.args_list_append_2 _ _) (PySem.list_append l its.toArray n u (by rw [List.size_toArray]; (first | lia | omega))) ⟨e, ?_⟩
  refine ⟨.non, _, I.lset (its' := its ++ [u]) hH e (by simp) (r.append (.cons ru .nil)) ?_, rfl, q⟩
  rw [List.length_append, List.length_singleton]
  (first | lia | omega)
end
section
variable {prog : Program} {w : World} {A : Around} {E : Value → Shared → Prop} {s : Shared}
end
section
variable {X : Cx}
end
end L2
namespace Att
open PySem PySem.W PySem.Calls PyProof.Rows
theorem ints_of_wellAll {P : Params} {h : Heap} : ∀ (ns : List Int) (vs : List Value), WellAll P h vs (ns.map WData.int) → IntsAre vs ns := by
  intro ns
  induction ns with
  | nil =>
    intro vs w
    rw [List.map_nil] at w
    cases w
    exact .nil
  | cons n ns ih =>
    intro vs w
    rw [List.map_cons] at w
    cases w with
    | cons a b =>
      cases a
      exact .cons _ _ (ih _ b)
theorem script_of {l : OpenLaw} {n : Nat} (hn : l.most = some n) {P : Params} {h : Heap} {args : List WData} {vals : List Value}
    (hpre : l.row.toRowW.claim.pre args = true) (hwl : WellAll P h vals args) :
    ∃ a vs ns, vals = [Value.ref a] ∧ args = [WData.list (ns.map WData.int)] ∧ h.get? a = some { cls := .type "list", data := .seq vs.toArray } ∧ IntsAre vs ns ∧ ns.length ≤ n := by
  have hsh : WShape.hasAll [] args [.list .int] = true := (pre_splitW hpre).1
  have hc : l.pre.holds [] { args := args } = true := (pre_splitW hpre).2
  obtain ⟨d, r, rfl, h1, h2⟩ := hasAllW_cons hsh
  obtain rfl := hasAllW_nil h2
  obtain ⟨xs, rfl, h3⟩ := hasW_list h1
  obtain ⟨ns, rfl⟩ := items_int h3
  have hlen : ns.length ≤ n := by
    unfold OpenLaw.pre at hc
    have h4 : (WTm.not (.lt (.lit (.int (n : Int))) (.len (.arg 0)))).holds [] { args := [.list (ns.map .int)] } = true := by
      have h4 := (holds_andW hc).1
      rw [hn] at h4
      exact h4
    have h5 := condW_of h4 (w_not (w_lt w_lit (w_len_list (w_arg rfl))))
    rw [List.length_map] at h5
    refine Nat.le_of_not_lt fun q => ?_
    have q' : (n : Int) < ((ns.length : Nat) : Int) := by (first | lia | omega)
    first
      | (rw [decide_eq_true q'] at h5; exact absurd h5 (by decide))
      | (simp at h5; (first | lia | omega))
  cases hwl with
  | cons w1 w2 =>
    cases w2
    cases w1 with
    | list ho hall => exact ⟨_, _, ns, rfl, rfl, ho, ints_of_wellAll ns _ hall, hlen⟩
theorem post_true (l : OpenLaw) (args : List WData) : l.row.toRowW.claim.post args (.bool true) args = true :=
  postW_of (r := l.row.toRowW) (X := (true == true))
    (show WShape.has [] (.bool true) .bool = true by first | rfl | decide | simp [WShape.has, WShape.arms, WShape.armsAll])
    (show (WTm.eq .res (.lit (.bool true))).value [] { args := args, res := some (.bool true), after := args } = some (.bool (true == true)) from w_eq_bool (w_res rfl) w_lit) rfl
theorem attach_call {l : OpenLaw} {n : Nat} {q : Program} {loose : List Str} {XP : (Str → Option Value) → Heap → Prop} {YP : World → Heap → Prop} {d : DefRec}
    (hn : l.most = some n) (hdf : d.params.defaults = [])
    (call : ∀ (w : World) (s₀ s₁ : Shared) (mg mb : Str → Option Value) (fa : Addr) (o : Obj) (pm cd doc : Value) (a : Addr) (vs : List Value) (ns : List Int),
      Ground q loose [] XP w s₀ mg mb s₁.heap → YP w s₁.heap →
      s₁.heap.get? fa = some o → o.data = .func (docDef d.name d.params d.body d.scope pm cd doc) → s₁.heap.CodeRec cd d.name → mg d.name = some (.ref fa) →
      s₁.heap.get? a = some { cls := .type "list", data := .seq vs.toArray } → IntsAre vs ns → ns.length ≤ n → s₁.gens = #[] →
      codeAny (model l.prog w) callerA (.call (.ref fa) ⟨[.ref a], []⟩) (fun r s' => r = .ok (.ret (.bool true)) ∧ OldK s₁.heap s'.heap ∧ s'.os = s₁.os ∧ AllBare s'.gens) s₁) :
    WalkO q loose XP YP l.row.toRowW d [] (fun f vs => PySem.call f vs) := by
  intro w s₀ s₁ mg mb G Y fa o pm cd doc dV kV ho hd hcd hD hmg hg args vals as hpre hlay hrd hwl hlo
  obtain rfl : dV = .none := Dflts.none hD hdf
  obtain rfl : kV = .none := Dflts.noKw hD
  obtain ⟨a, vs, ns, rfl, rfl, hobj, hints, hlen⟩ := script_of hn hpre hwl
  refine enter_call (codeAny_mono (call w s₀ s₁ mg mb fa o pm cd doc a vs ns G Y ho (fd_plain hd) hcd hmg hobj hints hlen hg) fun r s' hq => ?_)
  obtain ⟨rfl, h2, h3, h4⟩ := hq
  exact ⟨.inl ⟨.bool true, .bool true, [], rfl, fun _ => rfl, .bool true, post_true l _, fun _ => ⟨List.Pairwise.nil, fun _ hm => (nomatch hm)⟩⟩, h2, h3, h4⟩
section
variable {prog : Program} {w : World} {A : Around} {E : Value → Shared → Prop} {s : Shared} {K : Frag}
noncomputable def ledger (h : Heap) (L d : Addr) : List (Addr × Obj) := (List.range h.objs.size).filterMap fun a => if a = L ∨ a = d then none else (h.get? a).map fun o => (a, o)
end
end Att
namespace L2
open PySem PySem.Spec PyProof.Rows
theorem vals_ints : ∀ {vs : List Value} {ns : List Int}, IntsAre vs ns → Vals (ns.map V.int) vs
  | _, _, .nil => .nil
  | _, _, .cons n t h => .cons ⟨t, rfl⟩ (vals_ints h)
noncomputable def Only (H : Hp) : Prop := ∀ b, H b = none ∨ ∃ o xs, H b = some (.frz o (.lst xs))
theorem law_call {P : Program} {w : World} {K : PySem.W.Frag} {mg mb : Str → Option Value} {CX : CXT} {k : Nat} {fa a : Addr} {fd : FuncData} {x : Str} {sp : Sp} {s₁ : Shared} {vs : List Value} {ns : List Int}
    (KX : K.In s₁.heap) (hns : s₁.heap.Ns mainGlobals mg) (hb : s₁.heap.Ns builtinsNs mb) (hbb : ∀ x : Str, x ≠ "__name__" → mb x = bootBuiltins x) (hlim : s₁.heap.NoLimit) (hg : s₁.gens = #[])
    (ha : s₁.heap.get? a = some { cls := .type "list", data := .seq vs.toArray }) (hi : IntsAre vs ns) (hl : ns.length ≤ sizeLine) (hr : Room k callerA)
    (F : ∀ base : Heap, K.In base → base.Ns mainGlobals mg → FnOk P w K mg base CX k fa fd [x] sp) (hbind : ∀ (s : Shared) (u : Value), BindsTo s fd ⟨[u], []⟩ [(x, u)])
    (hsp : ∀ H : Hp, Only H → SqL K H a (ns.map V.int) → sp [.ref a] H (fun v _ => v = .bl true) fun _ _ _ => False)
    (hCX : ∀ H e s', CX [] H s₁ (fun _ _ _ => False) e s' → False) :
    codeAny (model P w) callerA (.call (.ref fa) ⟨[.ref a], []⟩) (fun r s' => r = .ok (.ret (.bool true)) ∧ OldK s₁.heap s'.heap ∧ s'.os = s₁.os ∧ AllBare s'.gens) s₁ := by
  have rv := vals_ints hi
  have lenV := hi.length
  have core : ∀ H : Hp, Only H → SqL K H a (ns.map V.int) → HOk P w H s₁.heap → (∀ b, H b ≠ none → b = a) → (H a ≠ none → K.lookup a = none) →
      codeAny (model P w) callerA (.call (.ref fa) ⟨[.ref a], []⟩) (fun r s' => r = .ok (.ret (.bool true)) ∧ OldK s₁.heap s'.heap ∧ s'.os = s₁.os ∧ AllBare s'.gens) s₁ := by
    intro H hO hS hok hA hK
    have base_of : ∀ {b : Addr} {o : Obj}, s₁.heap.get? b = some o → H b = none → (hidT s₁.heap H).get? b = some o := fun e n => hidT_get e n
    have noA : ∀ {b : Addr} {o : Obj} {es : Array DictEntry} {ep : Nat}, s₁.heap.get? b = some o → o.data = .dict es ep → H b = none := fun {b o es ep} e d => by
      cases q : H b with
      | none => rfl
      | some u =>
        have e' : b = a := hA b (by rw [q]; simp)
        subst e'
        rw [ha] at e; cases e
        have d' : Data.seq vs.toArray _ = Data.dict es ep := d
        cases d'
    have nsK : ∀ {b : Addr} {m : Str → Option Value}, s₁.heap.Ns b m → (hidT s₁.heap H).Ns b m := fun {b m} ⟨o, es, ep, e, d, r⟩ => ⟨o, es, ep, base_of e (noA e d), d, r⟩
    have hKb : K.In (hidT s₁.heap H) := fun b o e => base_of (KX b o e) (by
      cases q : H b with
      | none => rfl
      | some u =>
        have e' : b = a := hA b (by rw [q]; simp)
        subst e'
        rw [hK (by rw [q]; simp)] at e; cases e)
    have hM : Mod K mg (hidT s₁.heap H) := ⟨hKb, nsK hns, ⟨mb, nsK hb, hbb⟩, let ⟨mc, h1, h2⟩ := hlim; ⟨mc, nsK h1, h2⟩⟩
    have e0 : Env0 P w K mg (hidT s₁.heap H) callerA [] s₁ H := ⟨rfl, hM, fun b o e => of_hidT e, Nat.le_of_eq (hidT_size _ _), trivial, fun b hb => absurd (show b ∈ ([] : List Addr) from hb) (by simp), hok, .of_eq hg⟩
    refine codeAny_mono ((F _ hKb (nsK hns)).run callerA [] s₁ H ⟨[.ref a], []⟩ [.ref a] [.ref a] _ _ hr e0 (hbind s₁ (.ref a)) (.cons rfl .nil) (hsp H hO hS)) fun r s' h => ?_
    cases r with
    | error e => exact (hCX H e s' h).elim
    | ok fl =>
      cases fl with
      | next => exact False.elim h
      | brk => exact False.elim h
      | cont => exact False.elim h
      | ret u =>
        obtain ⟨v, H', os, bare, un, hok', r', q⟩ := h
        have q' : v = .bl true := q
        subst q'
        obtain rfl : u = Value.bool true := r'
        refine ⟨rfl, OldK.of_keep fun b o e => ?_, os, bare⟩
        cases q : H b with
        | none => exact un.keep b o e q (by intro z; exact absurd (show b ∈ ([] : List Addr) from z) (by simp)) (by simp)
        | some u =>
          rcases hO b with z | ⟨ob, xs, z⟩
          · rw [q] at z; cases z
          · have z2 := un.frzs b ob _ z
            obtain ⟨e1, _⟩ := hok b _ z
            obtain ⟨e2, _⟩ := hok' b _ z2
            rw [e] at e1; cases e1
            exact e2
  cases hk : K.lookup a with
  | some o =>
    have e := KX a o hk
    rw [ha] at e
    cases e
    refine core (fun _ => none) (fun _ => .inl rfl) (.inr ⟨_, vs.toArray, _, hk, rfl, rfl, rfl, by rw [List.size_toArray, lenV]; exact hl, by simpa using rv⟩) (fun b u z => by have z' : (none : Option HO) = some u := z; cases z') (fun b z => absurd rfl z) fun z => absurd rfl z
  | none =>
    refine core (fun b => if b = a then some (.frz { cls := .type "list", data := .seq vs.toArray } (.lst (ns.map V.int))) else none) (fun b => ?_) (.inl (.inr ⟨{ cls := .type "list", data := .seq vs.toArray }, if_pos rfl⟩)) (fun b u z => ?_) (fun b z => ?_) fun _ => hk
    · by_cases hb : b = a
      · exact .inr ⟨_, _, if_pos hb⟩
      · exact .inl (if_neg hb)
    · by_cases hb : b = a
      · have z' := (if_pos hb).symm.trans z
        cases z'
        subst hb
        exact ⟨ha, by rw [List.length_map]; exact hl, vs, _, rv, ha⟩
      · have z' := (if_neg hb).symm.trans z
        cases z'
    · by_cases hb : b = a
      · exact hb
      · exact absurd (if_neg hb) z
end L2
namespace L2
open PySem PySem.Spec PyProof.Rows
noncomputable abbrev KOf {K : PySem.W.Frag} {h : Heap} (_ : K.In h) : PySem.W.Frag := K
theorem walk_of {l : PySem.W.OpenLaw} {n k : Nat} {q : Program} {loose : List Str} {XP : (Str → Option Value) → Heap → Prop} {YP : World → Heap → Prop} {d : DefRec} {K : Params → PySem.W.Frag} {CX : World → CXT} {sp : World → Sp} {x : Str}
    (hn : l.most = some n) (hn2 : n ≤ sizeLine) (hdf : d.params.defaults = []) (hr : Room k callerA)
    (hY : ∀ (w : World) (h : Heap), YP w h → (K w.params).In h)
    (F : ∀ (w : World) (mg : Str → Option Value) (fa : Addr) (h : Heap), (K w.params).In h → h.Ns mainGlobals mg → mg d.name = some (.ref fa) →
      ∃ fd : FuncData, (∀ (s : Shared) (u : Value), BindsTo s fd ⟨[u], []⟩ [(x, u)]) ∧
        ∀ base : Heap, (K w.params).In base → base.Ns mainGlobals mg → FnOk l.prog w (K w.params) mg base (CX w) k fa fd [x] (sp w))
    (hsp : ∀ (w : World) (H : Hp) (a : Addr) (ns : List Int), ns.length ≤ n → Only H → SqL (K w.params) H a (ns.map V.int) → sp w [.ref a] H (fun v _ => v = .bl true) fun _ _ _ => False)
    (hCX : ∀ (w : World) (H : Hp) (s : Shared) (e : Value) (s' : Shared), CX w [] H s (fun _ _ _ => False) e s' → False) :
    PySem.W.WalkO q loose XP YP l.row.toRowW d [] (fun f vs => PySem.call f vs) := by
  refine Att.attach_call hn hdf fun w s₀ s₁ mg mb fa o pm cd doc a vs ns G Y ho hd hcd hmg hobj hints hlen hg => ?_
  have KX := hY w _ Y
  obtain ⟨fd, hb, hF⟩ := F w mg fa _ KX G.T.g hmg
  exact law_call KX G.T.g G.T.b G.T.builtins G.T.nolimit hg hobj hints (Nat.le_trans hlen hn2) hr hF hb (fun H hO hS => hsp w H a ns hlen hO hS) fun H e s' => hCX w H s₁ e s'
end L2
/- THE LAST THEOREM (shape; LID, My.* are yours):
   My.Adr: a structure of the addresses that your layer names (classes, functions); My.Txt K t: a structure (Prop) of the equations over K;
   My.txt_mk : {K} {implicit addresses ..} (e1 : nsIn K mainGlobals "law" = some (some (.ref f))) (e2 : K.lookup f = some ⟨oc, od, .func (fnOf "law" "law" params body scope dV kV doc pm an cdv ct), sl⟩) (e3 : codeIn K cdv "law" = true) .. : ∃ t, My.Txt K t
set_option maxRecDepth 100000 in
set_option maxHeartbeats 0 in
theorem PySem.Challenge.cw_LID_holds : PySem.Challenge.rw_LID.Holds := by
  w_on; o_law; k_head; (case hw => w_witness2)
  k_fill
  refine L2.walk_of (l := PySem.Challenge.rw_LID) (n := 63) (k := 40) (x := "script") (CX := fun w => ..) (sp := fun _ => My.sp_law) rfl (by decide) rfl ⟨rfl, by decide, by decide⟩ (fun w h Y => PySem.W.kIn_of Y) ?F ?S ?C
  case F =>
    intro w mg fa h KX G hmg
    have T : ∃ t, My.Txt (L2.KOf KX) t := by
      dsimp only [L2.KOf]                          -- K must stand as «<heap const> w.params» for k_is
      refine' My.txt_mk ?e1 ?e2 ?e3 ..
      (case e1 => PySem.W.k_is)                    -- in the order: a name -> its address -> its object -> its parts
      (case e2 => PySem.W.k_is)
      ..
    obtain ⟨t, T⟩ := T
    have e0 := hmg.symm.trans (PySem.W.mg_of KX G T.law)
    cases e0                                       -- fa is the law's own address
    exact ⟨_, fun s u => .of_eq rfl, fun base kb nb => My.law_fn T kb nb⟩     -- if «.of_eq rfl» comes too early: refine' ⟨_, ?b, fun base kb nb => My.law_fn T kb nb⟩; exact fun s u => .of_eq rfl
  case S => exact fun w H a ns hl hO hS => ..
  case C => exact ..
(the tactic k_is has no namespace: write k_is) -/
namespace L2
open PySem PySem.Spec PyProof.Rows
noncomputable def defArgs (s : Stmt) : Arguments := match s with
  | .FunctionDef _ a _ _ _ _ _ _ _ _ => a
  | _ => { posonlyargs := [], args := [], vararg := none, kwonlyargs := [], kw_defaults := [], kwarg := none, defaults := [] }
noncomputable def defBody (s : Stmt) : List Stmt := match s with
  | .FunctionDef _ _ b _ _ _ _ _ _ _ => b
  | _ => []
noncomputable def defScope (s : Stmt) : Scope := match s with
  | .FunctionDef _ _ _ _ _ _ sc _ _ _ => sc
  | _ => { kind := .function, names := [], isGenerator := false, isCoroutine := false }
noncomputable abbrev CX0 : CXT := fun _ _ _ _ _ _ => False
noncomputable abbrev E0 : XK := fun _ _ _ => False
theorem pass0 {X : Cx} : Passes CX0 X E0 := fun _ _ _ _ _ _ _ h => h.elim
structure Fun (K : PySem.W.Frag) (x qual : Str) (st : Stmt) (f : Addr) (fd : FuncData) : Prop where
  ex : ∃ (oc : Value) (od : Option Addr) (kV doc pm : Value) (an : Option Addr) (cdv ct : Value) (osl : Array (Option Value)),
    fd = PySem.W.fnOf x qual (defArgs st) (defBody st) (defScope st) .none kV doc pm an cdv ct ∧ K.lookup f = some ⟨oc, od, .func fd, osl⟩ ∧ PySem.W.codeIn K cdv qual = true
  kp : PySem.W.keepIn K (.ref f) = true
section
variable {P : Program} {w : World} {K : PySem.W.Frag} {mg : Str → Option Value} {base : Heap}
theorem Fun.ok {x qual : Str} {st : Stmt} {f : Addr} {fd : FuncData} {N ps : List Str} {k : Nat} {sp : Sp} (F : Fun K x qual st f fd) (S : FnScope N ps (defScope st)) (len : ∀ vs H Q E, sp vs H Q E → vs.length = ps.length)
    (hbody : ∀ (cdv : Value) (A : Around) (outer : List Env) (s : Shared) (H : Hp) (vs : List V) (Q : VK) (E : XK), Room k (A.deeper (envOfC qual (defScope st) s.heap.objs.size f cdv)) → sp vs H Q E →
      ∃ t, PSs (cxOf CX0 P w K mg base N qual (defScope st) f cdv A outer s H E).nox (defBody st) t ∧ t { nx := fun _ H' => Q .non H', rt := Q } (start N vs) H) : FnOk P w K mg base CX0 (k + 1) f fd ps sp := by
  obtain ⟨oc, od, kV, doc, pm, an, cdv, ct, osl, rfl, lk, hcd⟩ := F.ex
  refine fn_of lk hcd S len fun A outer s H vs Q E hr hsp => ?_
  obtain ⟨t, h, q⟩ := hbody cdv A outer s H vs Q E hr hsp
  exact ⟨t, h.nox, q⟩
theorem Fun.binds {x qual : Str} {st : Stmt} {f : Addr} {fd : FuncData} {ps : List Str} (F : Fun K x qual st f fd)
    (h : ∀ (kV doc pm : Value) (an : Option Addr) (cdv ct : Value) (us : List Value), us.length = ps.length → bindArgs (PySem.W.fnOf x qual (defArgs st) (defBody st) (defScope st) .none kV doc pm an cdv ct) ⟨us, []⟩ = pure (ps.zip us)) : Binds K fd ps [] := by
  obtain ⟨oc, od, kV, doc, pm, an, cdv, ct, osl, rfl, lk, hcd⟩ := F.ex
  exact .all (h kV doc pm an cdv ct)
theorem fun_mk {x qual : Str} {st : Stmt} {f : Addr} {oc : Value} {od an : Option Addr} {osl : Array (Option Value)} {kV doc pm cdv ct : Value} (l : K.lookup f = some ⟨oc, od, .func (PySem.W.fnOf x qual (defArgs st) (defBody st) (defScope st) .none kV doc pm an cdv ct), osl⟩)
    (c : PySem.W.codeIn K cdv qual = true) (k : PySem.W.keepIn K (.ref f) = true) : Fun K x qual st f (PySem.W.fnOf x qual (defArgs st) (defBody st) (defScope st) .none kV doc pm an cdv ct) := ⟨⟨oc, od, kV, doc, pm, an, cdv, ct, osl, rfl, l, c⟩, k⟩
end
theorem small1000 {n : Nat} (h : n ≤ 1000) : n < sizeLine := Nat.lt_of_le_of_lt h (by decide)
section
variable {X : Cx}
theorem pv (i : Nat) {x : Str} {pos : Pos} (hN : X.N[i]? = some x := by rfl) (hv : Vis X.env.scope x := by first | exact Or.inl rfl | exact Or.inr (Or.inl rfl) | exact Or.inr (Or.inr rfl)) (hd : (x == ("__debug__" : Str)) = false := by decide)
    (hcd : (x == ("__classdict__" : Str)) = false := by decide) : PE X (.Name x pos) (tVar i) := pe_var hN hv hd hcd
end
theorem iteF {A B : Prop} (h : B) : if false = true then A else B := by
  rw [if_neg Bool.false_ne_true]
  exact h
theorem iteT {A B : Prop} (h : A) : if true = true then A else B := by
  rw [if_pos rfl]
  exact h
theorem ite2 {c A B : Prop} [Decidable c] (h1 : c → A) (h2 : ¬ c → B) : if c then A else B := by
  by_cases h : c
  · rw [if_pos h]
    exact h1 h
  · rw [if_neg h]
    exact h2 h
end L2
set_option Elab.async false
set_option linter.all false
set_option maxRecDepth 100000
set_option maxHeartbeats 4000000
namespace L2
open PySem PySem.Spec PyProof.Rows
noncomputable def clOf (env : Env) : List (Str × NameKind) → List (Str × Addr) → List (Str × Addr)
  | [], cs => cs
  | (n, k) :: r, cs => if k == NameKind.free then (match env.cells.lookup n with | some a => clOf env r ((n, a) :: cs) | none => clOf env r cs) else clOf env r cs
theorem clos_go {env : Env} : ∀ (l : List (Str × NameKind)) (cs : List (Str × Addr)), (∀ y ∈ l, y.2 = NameKind.free → ∃ c, env.cells.lookup y.1 = some c) →
    (forIn l cs (fun (x : Str × NameKind) (r : List (Str × Addr)) => (if (x.2 == NameKind.free) = true then (do let a ← cellOf env x.1; pure (ForInStep.yield ((x.1, a) :: r))) else pure (ForInStep.yield r) : Sem (ForInStep (List (Str × Addr)))))) = pure (clOf env l cs)
  | [], cs, _ => rfl
  | (n, k) :: r, cs, h => by
    rw [List.forIn_cons]
    have hr : ∀ y ∈ r, y.2 = NameKind.free → ∃ c, env.cells.lookup y.1 = some c := fun y hy => h y (List.mem_cons_of_mem _ hy)
    by_cases hk : k = NameKind.free
    · subst hk
      obtain ⟨c, hc⟩ := h (n, .free) List.mem_cons_self rfl
      have hc' : env.cells.lookup n = some c := hc
      have e1 : cellOf env n = pure c := by unfold cellOf; rw [hc']
      have e2 : clOf env ((n, .free) :: r) cs = clOf env r ((n, c) :: cs) := by
        show (if (NameKind.free == NameKind.free) = true then _ else _) = _
        rw [if_pos (show (NameKind.free == NameKind.free) = true from rfl), hc']
      rw [e2, if_pos (show ((NameKind.free == NameKind.free) = true) from rfl), e1, pure_bind, pure_bind]
      exact clos_go r _ hr
    · have hb : (k == NameKind.free) = false := by simpa using hk
      have e2 : clOf env ((n, k) :: r) cs = clOf env r cs := by
        show (if (k == NameKind.free) = true then _ else _) = _
        rw [hb]; rfl
      rw [e2, if_neg (by rw [hb]; exact Bool.false_ne_true), pure_bind]
      exact clos_go r _ hr
theorem clos_of {sc : Scope} {env : Env} (h : ∀ y ∈ sc.names, y.2 = NameKind.free → ∃ c, env.cells.lookup y.1 = some c) : closureFor sc env = pure (clOf env sc.names []) := by
  have q := clos_go (env := env) sc.names [] h
  unfold closureFor
  show (do let r ← forIn sc.names [] (fun (x : Str × NameKind) (r : List (Str × Addr)) => _); pure r) = _
  rw [show (forIn sc.names ([] : List (Str × Addr)) (fun (x : Str × NameKind) (r : List (Str × Addr)) => match x with
      | (name, kind) => if (kind == NameKind.free) = true then (do let a ← cellOf env name; pure (ForInStep.yield ((name, a) :: r))) else pure (ForInStep.yield r)) : Sem (List (Str × Addr))) = pure (clOf env sc.names []) from q]
  rfl
theorem clOf_sub {env : Env} {x : Str} {c : Addr} : ∀ (l : List (Str × NameKind)) (cs : List (Str × Addr)), (clOf env l cs).lookup x = some c → (∀ c, cs.lookup x = some c → env.cells.lookup x = some c) → env.cells.lookup x = some c
  | [], cs, h, hc => hc c h
  | (n, k) :: r, cs, h, hc => by
    unfold clOf at h
    split at h
    · split at h
      · rename_i a ha
        refine clOf_sub r _ h fun c' h' => ?_
        rw [List.lookup_cons] at h'
        by_cases e : x == n
        · rw [e] at h'
          have : x = n := by simpa using e
          rw [this, ha]; exact h'
        · have e' : (x == n) = false := by simpa using e
          rw [e'] at h'
          exact hc c' h'
      · exact clOf_sub r _ h hc
    · exact clOf_sub r _ h hc
theorem clOf_keep {env : Env} {x : Str} {c : Addr} (he : env.cells.lookup x = some c) : ∀ (l : List (Str × NameKind)) (cs : List (Str × Addr)), cs.lookup x = some c → (clOf env l cs).lookup x = some c
  | [], cs, h => h
  | (n, k) :: r, cs, h => by
    unfold clOf
    split
    · split
      · rename_i a ha
        refine clOf_keep he r _ ?_
        rw [List.lookup_cons]
        by_cases e : x == n
        · rw [e]
          have e' : x = n := by simpa using e
          rw [e', ha] at he
          exact he
        · have e' : (x == n) = false := by simpa using e
          rw [e']
          exact h
      · exact clOf_keep he r _ h
    · exact clOf_keep he r _ h
theorem clOf_has {env : Env} {x : Str} {c : Addr} (he : env.cells.lookup x = some c) : ∀ (l : List (Str × NameKind)) (cs : List (Str × Addr)), (x, NameKind.free) ∈ l → (clOf env l cs).lookup x = some c
  | (n, k) :: r, cs, h => by
    rcases List.mem_cons.mp h with e | e
    · have e1 : n = x := congrArg (·.1) e.symm
      have e2 : k = .free := congrArg (·.2) e.symm
      subst e1 e2
      unfold clOf
      rw [if_pos (show (NameKind.free == NameKind.free) = true from rfl), he]
      exact clOf_keep he r _ (by rw [List.lookup_cons]; simp)
    · unfold clOf
      split
      · split
        · exact clOf_has he r _ e
        · exact clOf_has he r _ e
      · exact clOf_has he r _ e
noncomputable def cxComp (X : Cx) (sc : Scope) (N : List Str) (C : Addr) (s : Shared) (H : Hp) (ex : List Addr) : Cx :=
  { X with N := N, s₀ := s, H₀ := H, env := compEnvC sc (clOf X.env sc.names []) C X.env, outer := X.stack, stack := X.stack, ex := ex, fn := fun _ => false, pn := [], xe := fun _ _ => False }
noncomputable def compChk (XN : List Str) (xs sc : Scope) (N : List Str) (tau : List (Option Nat)) : Bool :=
  decide (sc.kind = .function) && sc.names.all (fun y => decide (y.2 ≠ .cell)) && sc.names.all (fun y => decide (y.2 ≠ .local) || decide (sc.names.lookup y.1 = some .local)) && decide N.Nodup && decide (tau.length = N.length) &&
  (tau.zip N).all (fun p => match p.1 with | none => true | some j => decide (XN[j]? = some p.2) && decide (sc.names.lookup p.2 = some .free)) &&
  sc.names.all (fun y => decide (y.2 ≠ .free) || decide (xs.names.lookup y.1 = some .cell) || decide (xs.names.lookup y.1 = some .free)) && decide (xs.kind = .function)
structure CompOk (X : Cx) (sc : Scope) (N : List Str) (tau : List (Option Nat)) : Prop where
  kind : sc.kind = .function
  nocell : ∀ y ∈ sc.names, y.2 ≠ .cell
  loc : ∀ y ∈ sc.names, y.2 = .local → sc.names.lookup y.1 = some .local
  nd : N.Nodup
  len : tau.length = N.length
  out : ∀ (i j : Nat) (x : Str), tau[i]? = some (some j) → N[i]? = some x → X.N[j]? = some x ∧ sc.names.lookup x = some .free
  fr : ∀ y ∈ sc.names, y.2 = .free → X.env.scope.names.lookup y.1 = some .cell ∨ X.env.scope.names.lookup y.1 = some .free
  okind : X.env.scope.kind = .function
theorem zip_get {α β : Type} : ∀ {l : List α} {k : List β} {i : Nat} {a : α} {b : β}, l[i]? = some a → k[i]? = some b → (a, b) ∈ l.zip k
  | [], _, _, _, _, h, _ => by simp at h
  | _ :: _, [], _, _, _, _, h => by simp at h
  | x :: l, y :: k, 0, a, b, h1, h2 => by simp at h1 h2; subst h1; subst h2; simp
  | x :: l, y :: k, i + 1, a, b, h1, h2 => by
    have := zip_get (l := l) (k := k) (i := i) (by simpa using h1) (by simpa using h2)
    rw [List.zip_cons_cons]
    exact List.mem_cons_of_mem _ this
theorem compOk_of {X : Cx} {sc : Scope} {N XN : List Str} {xs : Scope} {tau : List (Option Nat)} (h : compChk XN xs sc N tau = true) (h1 : X.N = XN) (h2 : X.env.scope = xs) : CompOk X sc N tau := by
  subst h1 h2
  unfold compChk at h
  simp only [Bool.and_eq_true, List.all_eq_true, decide_eq_true_eq, Bool.or_eq_true] at h
  obtain ⟨⟨⟨⟨⟨⟨⟨k, c⟩, l⟩, nd⟩, len⟩, out⟩, fr⟩, ok⟩ := h
  refine ⟨k, c, fun y hy e => (l y hy).resolve_left (fun z => z e), nd, len, fun i j x e1 e2 => ?_, fun y hy e => ?_, ok⟩
  · have := out _ (zip_get e1 e2)
    simpa using this
  · rcases fr y hy with (z | z) | z
    · exact absurd e z
    · exact .inl z
    · exact .inr z
noncomputable def inSt (tau : List (Option Nat)) (σ : St) : St := tau.map fun o => match o with | some j => (σ[j]?).getD none | none => none
theorem relabel_free {sc : Scope} {env : Env} : ∀ {l : List (Str × NameKind)} {x : Str} {k : NameKind},
    (l.map fun (n, k) => if (k == NameKind.free && env.scope.kind == .function && env.kindOf n == some .cell) then (n, NameKind.cell) else (n, k)).lookup x = some k → ((∀ y ∈ l, y.2 ≠ NameKind.cell) → k ≠ .local → (x, NameKind.free) ∈ l ∨ l.lookup x = some k ∧ k ≠ .cell)
  | [], x, k, h => by simp at h
  | (n, k') :: r, x, k, h => by
    intro nc nl
    have ih := @relabel_free sc env r x k
    have h : List.lookup x ((if (k' == NameKind.free && env.scope.kind == .function && env.kindOf n == some .cell) = true then (n, NameKind.cell) else (n, k')) :: (r.map _)) = some k := h
    by_cases hx : x = n
    · subst hx
      by_cases hc : (k' == NameKind.free && env.scope.kind == .function && env.kindOf x == some .cell) = true
      · left
        have : k' = .free := by
          simp only [Bool.and_eq_true] at hc
          simpa using hc.1.1
        subst this
        exact List.mem_cons_self
      · rw [if_neg hc, List.lookup_cons] at h
        simp at h
        subst h
        right
        exact ⟨by rw [List.lookup_cons]; simp, nc (x, k') List.mem_cons_self⟩
    · have e : (x == n) = false := by simpa using hx
      have h' : List.lookup x (r.map fun (n, k) => if (k == NameKind.free && env.scope.kind == .function && env.kindOf n == some .cell) then (n, NameKind.cell) else (n, k)) = some k := by
        split at h
        · rw [List.lookup_cons, e] at h; exact h
        · rw [List.lookup_cons, e] at h; exact h
      rcases ih h' (fun y hy => nc y (List.mem_cons_of_mem _ hy)) nl with z | ⟨z, w⟩
      · exact .inl (List.mem_cons_of_mem _ z)
      · exact .inr ⟨by rw [List.lookup_cons, e]; exact z, w⟩
section
variable {X : Cx} {sc : Scope} {N : List Str} {tau : List (Option Nat)} {pins : List (Addr × Obj)} {σ : St} {H : Hp} {s : Shared}
theorem CompOk.cells (k : CompOk X sc N tau) (ok : X.Ok) : ∀ y ∈ sc.names, y.2 = NameKind.free → ∃ c, X.env.cells.lookup y.1 = some c := fun y hy e => ok.has y.1 (k.fr y hy e)
theorem CompOk.vis (k : CompOk X sc N tau) {x : Str} (h : (relabel sc X.env).names.lookup x = some .cell ∨ (relabel sc X.env).names.lookup x = some .free) : (x, NameKind.free) ∈ sc.names := by
  rcases h with h | h
  · rcases relabel_free (sc := sc) (env := X.env) (l := sc.names) h k.nocell (by decide) with z | ⟨_, z⟩
    · exact z
    · exact absurd rfl z
  · rcases relabel_free (sc := sc) (env := X.env) (l := sc.names) h k.nocell (by decide) with z | ⟨z, _⟩
    · exact z
    · exact PySem.mem_of_lookup z
theorem comp_cx (k : CompOk X sc N tau) (I : Inv X pins σ H s) {fp : List Addr} (hf : ∀ b ∈ fp, FpOk X pins H b) (hob : ∀ b ∈ fp, ∃ o, s.heap.get? b = some o) :
    (cxComp X sc N (s.heap.objs.size + 1) s H fp).Ok where
  mod := I.ok.mod
  kind := k.kind
  glob := I.ok.glob
  blt := I.ok.blt
  above := Nat.le_succ _
  inj := fun x y c h1 h2 => I.ok.inj x y c (clOf_sub _ _ h1 fun _ z => by simp at z) (clOf_sub _ _ h2 fun _ z => by simp at z)
  has := fun x h => by
    have m := k.vis h
    obtain ⟨c, e⟩ := k.cells I.ok _ m rfl
    exact ⟨c, clOf_has e _ _ m⟩
  cab := fun x c h => by cases h
  hd := I.ok.hd
  frames := I.ok.frames
  stk := .inl rfl
  exf := fun b hb => ⟨fun z => by
    obtain ⟨o, e⟩ := hob b hb
    have l := Heap.lt_size e
    have z' : b = s.heap.objs.size + 1 := z
    rw [z'] at l
    exact Nat.lt_irrefl _ (Nat.lt_of_succ_lt l), fun x c h => (hf b hb).2.2.2.2.1 x c (clOf_sub _ _ h fun _ z => by simp at z)⟩
  bs := I.bs
  bsz := Nat.le_trans I.ok.bsz I.sz
  noex := fun b o e hb => by
    rcases (hf b hb).2.2.2.1 with z | z
    · exact I.ok.noex b o e z
    · exact absurd (Nat.lt_of_lt_of_le (Heap.lt_size (I.ok.bs b o e).1) z) (Nat.lt_irrefl _)
  exfs := fun b hb z => by
    rcases List.mem_cons.mp (I.stkSub b z) with e | e
    · exact (hf b hb).2.1 e
    · exact (hf b hb).2.2.1 e
  funs := I.stack
  frf := I.stkFree
theorem inSt_get {i : Nat} {v : V} (h : (inSt tau σ)[i]? = some (some v)) : ∃ j, tau[i]? = some (some j) ∧ σ[j]? = some (some v) := by
  unfold inSt at h
  rw [List.getElem?_map] at h
  cases e : tau[i]? with
  | none => rw [e] at h; cases h
  | some o =>
    rw [e] at h
    cases o with
    | none => cases h
    | some j =>
      have h' : (σ[j]?).getD none = some v := by simpa using h
      refine ⟨j, rfl, ?_⟩
      cases q : σ[j]? with
      | none => rw [q] at h'; cases h'
      | some o' => rw [q] at h'; exact congrArg some h'
theorem comp_inv (k : CompOk X sc N tau) (I : Inv X pins σ H s) {fp : List Addr} (hf : ∀ b ∈ fp, FpOk X pins H b) (hob : ∀ b ∈ fp, ∃ o, s.heap.get? b = some o) {h1 : Heap} {t' : Nat}
    (kp : ∀ b o, s.heap.get? b = some o → h1.get? b = some o) (hn : h1.Ns (s.heap.objs.size + 1) (fun _ => none)) (hD : h1.get? s.heap.objs.size = some { cls := .type "list", data := .seq #[] 0 }) :
    Inv (cxComp X sc N (s.heap.objs.size + 1) s H fp) [(s.heap.objs.size, { cls := .type "list", data := .seq #[] 0 })] (inSt tau σ) H { s with heap := h1, toks := t' } where
  ok := comp_cx k I hf hob
  os := rfl
  bare := I.bare
  base := Un.kept kp
  loc := ⟨_, hn, fun i x v e1 e2 e3 => by
    obtain ⟨j, t1, t2⟩ := inSt_get e2
    obtain ⟨o1, o2⟩ := k.out i j x t1 e1
    have m : (x, NameKind.free) ∈ sc.names := PySem.mem_of_lookup o2
    have hk := k.fr _ m rfl
    obtain ⟨mm, hn', hl⟩ := I.loc
    obtain ⟨u, r, l⟩ := hl j x v o1 t2 (hk.elim (fun z => .inr (.inl z)) fun z => .inr (.inr z))
    refine ⟨u, r, .inr ⟨?_, ?_⟩⟩
    · rcases e3 with z | z | z
      · exfalso
        have : ∀ {l : List (Str × NameKind)}, l.lookup x = some .free → (l.map fun (n, k) => if (k == NameKind.free && X.env.scope.kind == .function && X.env.kindOf n == some .cell) then (n, NameKind.cell) else (n, k)).lookup x ≠ some .local := by
          intro l
          induction l with
          | nil => intro h; simp at h
          | cons y r ih =>
            obtain ⟨n, k'⟩ := y
            intro h q
            have q : List.lookup x ((if (k' == NameKind.free && X.env.scope.kind == .function && X.env.kindOf n == some .cell) = true then (n, NameKind.cell) else (n, k')) :: (r.map _)) = some .local := q
            by_cases hx : x = n
            · subst hx
              rw [List.lookup_cons] at h
              simp at h
              subst h
              split at q
              · rw [List.lookup_cons] at q; simp at q
              · rw [List.lookup_cons] at q; simp at q
            · have e : (x == n) = false := by simpa using hx
              rw [List.lookup_cons, e] at h
              refine ih h ?_
              split at q
              · rw [List.lookup_cons, e] at q; exact q
              · rw [List.lookup_cons, e] at q; exact q
        exact this o2 z
      · exact .inl z
      · exact .inr z
    · rcases l with ⟨z, _⟩ | ⟨_, c, ec, hc⟩
      · exfalso
        have z : X.env.scope.names.lookup x = some .local := z
        rcases hk with q | q <;> rw [z] at q <;> cases q
      · obtain ⟨o, ho, hd⟩ := hc
        exact ⟨c, clOf_has ec _ _ m, o, kp c o ho, hd⟩⟩
  cell := fun x c h => by
    obtain ⟨v, o, ho, hd⟩ := I.cell x c (clOf_sub _ _ h fun _ z => by simp at z)
    exact ⟨v, o, kp c o ho, hd⟩
  free := I.hok.fresh (Nat.le_succ _)
  freeC := fun x c h => I.freeC x c (clOf_sub _ _ h fun _ z => by simp at z)
  pin := fun p hp => by
    have e : p = (s.heap.objs.size, { cls := .type "list", data := .seq #[] 0 }) := by simpa [cxComp] using hp
    subst e
    refine ⟨hD, I.hok.fresh (Nat.le_refl _), Nat.ne_of_lt (Nat.lt_succ_self _), fun z => ?_, fun v => by simp⟩
    rcases List.mem_cons.mp (I.stkSub _ z) with e | e
    · exact absurd (e ▸ I.lt) (Nat.lt_irrefl _)
    · exact I.nofs (Nat.le_refl _) e
  hok := I.hok.kept kp
  len := by
    show (inSt tau σ).length = N.length
    unfold inSt
    rw [List.length_map]
    exact k.len
end
end L2
set_option Elab.async false
set_option linter.all false
set_option maxRecDepth 100000
set_option maxHeartbeats 4000000
namespace L2
open PySem PySem.Spec PyProof.Rows
theorem compLoop_any {prog : Program} {w : World} {A : Around} {R : Result → Shared → Prop} {s : Shared} {elt target iter : Expr} {ifs : List Expr} {scope : Scope} {pos : Pos} {it acc : Value} {env : Env} (I : Nat → Shared → Prop)
    (turn : ∀ n s, I n s → wpAny (model prog w) A (pyNext it) (fun r s₁ => match r with
      | none => R (.ok .next) s₁
      | some v => wpAny (model prog w) A (letOwnedTupleGo target it v) (fun _ s₀ => wpAny (model prog w) A (assign target env v) (fun _ s₂ =>
          wpAny (model prog w) A (forIn ifs true fun c r => if r = true then do let ok ← isTrue c env (eval c env); pure (ForInStep.yield ok) else pure (ForInStep.yield r)) (fun ok s₃ =>
            if ok = true then wpAny (model prog w) A (eval elt env) (fun x s₄ =>
              wpAny (model prog w) A (call (.builtin "list.append") [acc, x]) (fun _ s₅ => ∃ m, m < n ∧ I m s₅) (notedBy (model prog w) A env fun e s' => R (.error e) s') s₄) (notedBy (model prog w) A env fun e s' => R (.error e) s') s₃
            else ∃ m, m < n ∧ I m s₃) (notedBy (model prog w) A env fun e s' => R (.error e) s') s₂) (notedBy (model prog w) A env fun e s' => R (.error e) s') s₀) (notedBy (model prog w) A env fun e s' => R (.error e) s') s₁) (notedBy (model prog w) A env fun e s' => R (.error e) s') s)
    (n : Nat) (h : I n s) :
    codeAny (model prog w) A (.compLoop (.ListComp elt [⟨target, iter, ifs, 0⟩] scope pos) 0 it acc env) R s := by
  refine codeAny_loop rfl I (fun n s hI => ?_) n h
  show wpAny _ A ((compTurn (.ListComp elt [⟨target, iter, ifs, 0⟩] scope pos) 0 it acc env).onRaise (fun x => do noteFrame x env; theTreesLotGoes x)) _ _ s
  refine wpAny_noted ?_
  rw [compTurn_list]
  refine wpAny_bind (wpAny_standAt (wpAny_bind (wpAny_mono (turn n s hI) (fun r s₁ h₁ => ?_) fun _ _ h' => h')))
  cases r with
  | none => exact wpAny_pure h₁
  | some v =>
    refine wpAny_bind (wpAny_mono h₁ (fun _ s₀ h₀ => ?_) fun _ _ h' => h')
    refine wpAny_bind (wpAny_mono h₀ (fun _ s₂ h₂ => wpAny_bind (wpAny_mono h₂ (fun ok s₃ h₃ => ?_) fun _ _ h' => h')) fun _ _ h' => h')
    cases ok with
    | false => exact wpAny_pure ⟨rfl, h₃⟩
    | true =>
      exact wpAny_bind (wpAny_bind (wpAny_mono h₃ (fun x s₄ h₄ => wpAny_bind (wpAny_mono h₄ (fun _ s₅ h₅ => wpAny_pure (wpAny_pure ⟨rfl, h₅⟩)) fun _ _ h' => h')) fun _ _ h' => h'))
noncomputable def PIf (Y : Cx) (ifs : List Expr) (t : TT) : Prop :=
  ∀ (pins : List (Addr × Obj)) (s : Shared) (σ : St) (H : Hp) (Q : Bool → Hp → Prop), Inv Y pins σ H s → t σ H Q →
    wpAny (model Y.prog Y.w) Y.A (forIn ifs true fun c r => if r = true then do let ok ← isTrue c Y.env (eval c Y.env); pure (ForInStep.yield ok) else pure (ForInStep.yield r)) (TP Y pins σ Q) Y.xe s
noncomputable def tNoIf : TT := fun _ H Q => Q true H
theorem pif_nil {Y : Cx} : PIf Y [] tNoIf := fun pins s σ H Q I h => wpAny_tests_nil ⟨H, I, h⟩
theorem pif_one {Y : Cx} {c : Expr} {t : TT} (h : PT Y c t) : PIf Y [c] t := fun pins s σ H Q I q => wpAny_tests_one (@h pins s σ H Q I q)
noncomputable def Agree (tau : List (Option Nat)) (σ σ2 : St) : Prop := ∀ i j : Nat, tau[i]? = some (some j) → σ2[i]? = σ[i]?
noncomputable def GA (tau : List (Option Nat)) (g : TG) : Prop := ∀ x σ H Q, g x σ H Q → g x σ H (fun σ2 H2 => Q σ2 H2 ∧ Agree tau σ σ2)
theorem ga_name {tau : List (Option Nat)} {i : Nat} (h : tau[i]? = some none) : GA tau (gName i) := fun x σ H Q q => ⟨q, fun k j e => by
  rw [List.getElem?_set_ne]
  rintro rfl
  rw [h] at e; cases e⟩
noncomputable def tComp (wi : TI) (tau : List (Option Nat)) (g : TG) (tc : TT) (te : TE) : TE := fun σ H Q => wi σ H fun J H1 =>
  ∃ W : Nat → Nat → List V → Hp → Prop, (∃ m, W 0 m [] H1) ∧ ∀ i m ys H, W i m ys H →
    (J.stop i H ∧ ∀ p, H p = none → Q (.ref p) (upd H p (.lst ys))) ∨
    (J.go i H ∧ ys.length < sizeLine ∧ ∀ x H', J.yld i H x H' → g x (inSt tau σ) H' fun σ2 H2 => tc σ2 H2 fun b H3 => if b = true then te σ2 H3 fun y H4 => ∃ m', m' < m ∧ W (i + 1) m' (ys ++ [y]) H4 else ∃ m', m' < m ∧ W (i + 1) m' ys H3)
section
variable {X : Cx} {sc : Scope} {N : List Str} {tau : List (Option Nat)} {pins : List (Addr × Obj)} {σ : St} {H : Hp} {s : Shared}
theorem comp_end (k : CompOk X sc N tau) (I : Inv X pins σ H s) {fp : List Addr} (hf : ∀ b ∈ fp, FpOk X pins H b) {σ' : St} {H' : Hp} {s' : Shared} {its : List Value} {n : Nat} {ys : List V}
    (J : Inv (cxComp X sc N (s.heap.objs.size + 1) s H fp) [(s.heap.objs.size, { cls := .type "list", data := .seq its.toArray n })] σ' H' s') (rv : Vals ys its) (hz : ys.length ≤ sizeLine) :
    Inv X pins σ (upd H' s.heap.objs.size (.lst ys)) s' ∧ H' s.heap.objs.size = none ∧ (upd H' s.heap.objs.size (.lst ys)) (s.heap.objs.size + 1) = none := by
  obtain ⟨pD, nD, _, _, _⟩ := J.pin (s.heap.objs.size, { cls := .type "list", data := .seq its.toArray n }) (by simp [cxComp])
  have nC : H' (s.heap.objs.size + 1) = none := J.free
  have B : Un (frs X.stack) fp H H' s.heap s'.heap := J.base
  have ltD : ∀ b o, s.heap.get? b = some o → b ≠ s.heap.objs.size := fun b o e => Nat.ne_of_lt (Heap.lt_size e)
  refine ⟨I.call' (ch := fp) J.os ⟨B.keep, B.slot, fun b o e n hx => ?_, B.there, fun b xs e => ?_, fun b o u e => ?_, fun b ps e => ?_⟩ (fun b u e => ?_) J.bare (fun b hb => ?_), nD, ?_⟩
  · rw [upd_ne (ltD b o e)]; exact B.free b o e n hx
  · have q := B.tups b xs e
    rw [upd_ne (ne_of_none q nD)]; exact q
  · have q := B.frzs b o u e
    rw [upd_ne (ne_of_none q nD)]; exact q
  · obtain ⟨more, q⟩ := B.tbls b ps e
    exact ⟨more, by rw [upd_ne (ne_of_none q nD)]; exact q⟩
  · by_cases hb : b = s.heap.objs.size
    · subst hb
      rw [upd_same] at e
      cases e
      exact ⟨hz, its, n, rv, pD⟩
    · rw [upd_ne hb] at e
      exact (J.hok b u e).stay (fun c v _ q => q) (fun c q => by rw [upd_ne (ne_of_none q nD)]; exact q) (fun c xs q => by rw [upd_ne (ne_of_none q nD)]; exact q) fun c o u q => by rw [upd_ne (ne_of_none q nD)]; exact q
  · obtain ⟨_, f1, _, f3, f4, f5⟩ := hf b hb
    exact ⟨f3, f1, f4, f5⟩
  · rw [upd_ne (Nat.ne_of_gt (Nat.lt_succ_self _))]; exact nC
theorem comp_gone (I0 : Inv X pins σ H s) {σ' : St} {H' : Hp} {s' : Shared} {h' : Heap} (I : Inv X pins σ' H' s') (hC : H' (s.heap.objs.size + 1) = none) (hs : Heap.SameBut (s.heap.objs.size + 1) s'.heap h') :
    Inv X pins σ' H' { s' with heap := h' } := by
  have lt : ∀ b o, s.heap.get? b = some o → b ≠ s.heap.objs.size + 1 := fun b o e => Nat.ne_of_lt (Nat.lt_succ_of_lt (Heap.lt_size e))
  refine I.turned (t' := s'.toks) (it := s.heap.objs.size + 1) (fun b o hb e => (hs.2 b hb).trans e) hC ?_ (.inr (Nat.le_trans I0.sz (Nat.le_succ _))) (fun x c e => ?_) (fun p hp => ?_)
  · exact Nat.ne_of_gt (Nat.lt_succ_of_lt I0.lt)
  · obtain ⟨v, o, ho, _⟩ := I0.cell x c e
    exact lt c o ho
  · exact lt _ _ (I0.pin p hp).1
theorem comp_block {elt tg iter : Expr} {ifs : List Expr} {g : TG} {tc : TT} {te : TE} {pos : Pos} (k : CompOk X sc N tau) (hc : X.calm = true) (I : Inv X pins σ H s) {it : Addr} {fp : List Addr} {tn : Nat → Heap → Prop} {J : It}
    (T : Turn X.prog X.w X.K tg J fp it tn) (st0 : tn 0 s.heap) (hf : ∀ b ∈ fp, FpOk X pins H b) (hga : GA tau g)
    (hg : ∀ C s H ex, PG (cxComp X sc N C s H ex) tg g) (ht : ∀ C s H ex, PIf (cxComp X sc N C s H ex) ifs tc) (he : ∀ C s H ex, PE (cxComp X sc N C s H ex) elt te)
    {W : Nat → Nat → List V → Hp → Prop} {Z : List V → Hp → Prop} (w0 : ∃ m, W 0 m [] H) (turn : ∀ i m ys H, W i m ys H →
      (J.stop i H ∧ Z ys H) ∨
      (J.go i H ∧ ys.length < sizeLine ∧ ∀ x H', J.yld i H x H' → g x (inSt tau σ) H' fun σ2 H2 => tc σ2 H2 fun b H3 => if b = true then te σ2 H3 fun y H4 => ∃ m', m' < m ∧ W (i + 1) m' (ys ++ [y]) H4 else ∃ m', m' < m ∧ W (i + 1) m' ys H3))
    {E : Value → Shared → Prop} {RR : Value → Addr → Result → Shared → Prop}
    (fin : ∀ σ' H' s' ys its n, Inv (cxComp X sc N (s.heap.objs.size + 1) s H fp) [(s.heap.objs.size, { cls := .type "list", data := .seq its.toArray n })] σ' H' s' → Vals ys its → ys.length ≤ sizeLine → Z ys H' → RR (.ref s.heap.objs.size) (s.heap.objs.size + 1) (.ok .next) s') :
    wpAny (model X.prog X.w) X.A (newList []) (fun acc s₃ => wpAny (model X.prog X.w) X.A (newFunctionEnv sc X.env.globals (clOf X.env sc.names []) [] X.env.qual none .none (some X.env)) (fun cenv s₄ =>
      codeAny (model X.prog X.w) X.A (.compStart (.ListComp elt [⟨tg, iter, ifs, 0⟩] sc pos) 0 (.ref it) acc { cenv with scope := relabel sc X.env }) (RR acc cenv.locals) s₄) E s₃) E s := by
  have hob : ∀ b ∈ fp, ∃ o, s.heap.get? b = some o := fun b hb => let ⟨o, e, _⟩ := T.obj _ _ st0 b hb; ⟨o, e⟩
  refine wpAny_newObj_type (wpAny_newFunctionEnv k.nocell (by intro y hy; simp at hy) (fun h₁ hns₁ hsb₁ => ?_) k.kind)
  dsimp only at hns₁ hsb₁ ⊢
  generalize hH2 : s.heap.push { cls := .type "list", dict := none, data := .seq ([] : List Value).toArray } = H2 at hns₁ hsb₁ ⊢
  have hC : H2.objs.size = s.heap.objs.size + 1 := by rw [← hH2, Heap.size_push]
  have old : ∀ b o, s.heap.get? b = some o → h₁.get? b = some o := fun b o e => hsb₁.extBut b o (by rw [hC]; exact Nat.ne_of_lt (Nat.lt_succ_of_lt (Heap.lt_size e))) (Heap.get?_push_of_some _ (hH2 ▸ Heap.get?_push_of_some _ e))
  have hacc : h₁.get? s.heap.objs.size = some { cls := .type "list", data := .seq #[] 0 } := hsb₁.extBut _ _ (by rw [hC]; exact Nat.ne_of_lt (Nat.lt_succ_self _)) (Heap.get?_push_of_some _ (hH2 ▸ Heap.get?_push_size _ rfl))
  rw [hC] at hns₁ ⊢
  have I1 : Inv (cxComp X sc N (s.heap.objs.size + 1) s H fp) [(s.heap.objs.size, { cls := .type "list", data := .seq #[] 0 })] (inSt tau σ) H { s with heap := h₁, toks := s.toks + ([] : List (Str × Value)).length } :=
    comp_inv k I hf hob old hns₁ hacc
  have st1 : tn 0 h₁ := T.keep _ _ _ st0 fun b _ o e => old b o e
  have ltD : ∀ b ∈ fp, b ≠ s.heap.objs.size := fun b hb => by
    obtain ⟨o, e⟩ := hob b hb
    exact Nat.ne_of_lt (Heap.lt_size e)
  have ltC : ∀ b ∈ fp, b ≠ s.heap.objs.size + 1 := fun b hb => by
    obtain ⟨o, e⟩ := hob b hb
    exact Nat.ne_of_lt (Nat.lt_succ_of_lt (Heap.lt_size e))
  have stat : ∀ {H' : Hp} {its : List Value} {n : Nat}, (∀ b ∈ fp, H' b = none) → ∀ b ∈ fp, FpOk (cxComp X sc N (s.heap.objs.size + 1) s H fp) [(s.heap.objs.size, { cls := .type "list", data := .seq its.toArray n })] H' b := fun {H' its n} hn b hb => by
    have cx := comp_cx (N := N) k I hf hob
    refine ⟨hn b hb, ltC b hb, cx.exfs b hb, .inl hb, (cx.exf b hb).2, fun p hp => ?_⟩
    have e : p = (s.heap.objs.size, { cls := .type "list", data := .seq its.toArray n }) := by simpa [cxComp] using hp
    subst e
    exact Ne.symm (ltD b hb)
  obtain ⟨m0, w0⟩ := w0
  have loop : codeAny (model X.prog X.w) X.A (.compLoop (.ListComp elt [⟨tg, iter, ifs, 0⟩] sc pos) 0 (.ref it) (.ref s.heap.objs.size) (compEnvC sc (clOf X.env sc.names []) (s.heap.objs.size + 1) X.env)) (RR (.ref s.heap.objs.size) (s.heap.objs.size + 1)) { s with heap := h₁, toks := s.toks + ([] : List (Str × Value)).length } := by
    refine compLoop_any (fun m s' => ∃ i ys H' its n, Inv (cxComp X sc N (s.heap.objs.size + 1) s H fp) [(s.heap.objs.size, { cls := .type "list", data := .seq its.toArray n })] (inSt tau σ) H' s' ∧ Vals ys its ∧ ys.length ≤ sizeLine ∧ tn i s'.heap ∧ (∀ b ∈ fp, H' b = none) ∧ W i m ys H') ?_ m0
      ⟨0, [], H, [], 0, I1, .nil, Nat.zero_le _, st1, fun b hb => (hf b hb).1, w0⟩
    rintro m s3 ⟨i, ys, H3, its, n, I3, rv, hz, st3, fr3, w3⟩
    rcases turn i m ys H3 w3 with ⟨stop, z⟩ | ⟨go, hlt, step⟩
    · refine wpAny_mono (T.done (cxComp X sc N (s.heap.objs.size + 1) s H fp) rfl rfl rfl hc i _ s3 _ H3 (fun _ _ => False) I3 (stat fr3) st3 stop) (fun r s4 ⟨hr, I4⟩ => ?_) fun _ _ f => f.elim
      subst hr
      exact fin _ _ _ _ _ _ I4 rv hz z
    · refine wpAny_mono (T.item (cxComp X sc N (s.heap.objs.size + 1) s H fp) rfl rfl rfl hc i _ s3 _ H3 (fun _ _ => False) I3 (stat fr3) st3 go) (fun r s4 ⟨u, hr, h4⟩ => ?_) fun _ _ f => f.elim
      subst hr
      refine wpAny_mono h4 (fun _ s5 ⟨x, H5, I5, r5, y5, st5, fr5⟩ => ?_) fun _ _ f => f.elim
      have I5' := I5.pinned (stat fr5) (T.obj _ _ st5)
      refine wpAny_mono (hg _ _ _ _ _ s5 _ H5 x u _ I5' r5 (hga _ _ _ _ (step x H5 y5))) (fun _ s6 ⟨σ6, H6, I6, q6, ag⟩ => ?_) fun _ _ f => f.elim
      refine wpAny_mono (ht _ _ _ _ _ s6 σ6 H6 _ I6 q6) (fun b s7 ⟨H7, I7, q7⟩ => ?_) fun _ _ f => f.elim
      have back : ∀ {H8 : Hp} {s8 : Shared}, Inv (cxComp X sc N (s.heap.objs.size + 1) s H fp) ([(s.heap.objs.size, { cls := .type "list", data := .seq its.toArray n })] ++ pinsAt fp s5.heap) σ6 H8 s8 →
          Inv (cxComp X sc N (s.heap.objs.size + 1) s H fp) [(s.heap.objs.size, { cls := .type "list", data := .seq its.toArray n })] (inSt tau σ) H8 s8 ∧ tn (i + 1) s8.heap ∧ ∀ b ∈ fp, H8 b = none := fun {H8 s8} I8 => by
        refine ⟨I8.unpinned.weak (I1.len.trans I8.len.symm) fun j v e => ?_, T.keep _ _ _ st5 fun b hb o e => (I8.pin (b, o) (List.mem_append_right _ (List.mem_append_right _ (mem_pinsAt hb e)))).1, fun b hb => ?_⟩
        · obtain ⟨j', t1, _⟩ := inSt_get e
          rw [ag j j' t1]; exact e
        · obtain ⟨o, e, d⟩ := T.obj _ _ st5 b hb
          exact (I8.pin (b, o) (List.mem_append_right _ (List.mem_append_right _ (mem_pinsAt hb e)))).2.1
      cases b with
      | false =>
        obtain ⟨m', hm, w7⟩ := q7
        obtain ⟨I8, st8, fr8⟩ := back I7
        rw [if_neg Bool.false_ne_true]
        exact ⟨m', hm, i + 1, ys, H7, its, n, I8, rv, hz, st8, fr8, w7⟩
      | true =>
        rw [if_pos rfl]
        refine wpAny_mono (he _ _ _ _ s7 σ6 H7 _ I7 q7) (fun y s8 ⟨yv, H8, I8, r8, m', hm, w8⟩ => ?_) fun _ _ f => f.elim
        obtain ⟨I9, st9, fr9⟩ := back I8
        obtain ⟨pD, nD, dL, dF, dC⟩ := I9.pin (s.heap.objs.size, { cls := .type "list", data := .seq its.toArray n }) (by simp [cxComp])
        refine call_meets F.slot_list_append ⟨_, pD, rfl⟩ F.entry_list_append (F.args_list_append_2 _ _) (PySem.list_append s.heap.objs.size its.toArray n y (by rw [List.size_toArray, ← rv.length]; exact hz)) ⟨pD, ?_⟩
        have q := PySem.IsL.update pD (fun x => x.push y)
        obtain ⟨n', q'⟩ : ∃ n', (s8.heap.update s.heap.objs.size (Obj.mapSeq fun x => x.push y)).get? s.heap.objs.size = some { cls := .type "list", data := .seq (its ++ [y]).toArray n' } := ⟨_, by
          rw [show (its ++ [y]).toArray = its.toArray.push y by simp]; exact q⟩
        have kp : ∀ b o, b ≠ s.heap.objs.size → s8.heap.get? b = some o → (s8.heap.update s.heap.objs.size (Obj.mapSeq fun x => x.push y)).get? b = some o := fun b o hb e => (Heap.get?_update_other s8.heap _ (Ne.symm hb)).trans e
        have I10 : Inv (cxComp X sc N (s.heap.objs.size + 1) s H fp) [] (inSt tau σ) H8 s8 := I9.pins_of fun p hp => absurd hp (by simp)
        have I11 : Inv (cxComp X sc N (s.heap.objs.size + 1) s H fp) [] (inSt tau σ) H8 { s8 with heap := s8.heap.update s.heap.objs.size (Obj.mapSeq fun x => x.push y), toks := s8.toks } :=
          I10.turned (it := s.heap.objs.size) (t' := s8.toks) kp nD dL (.inr (Nat.le_refl _)) (fun x c e z => by
            obtain ⟨v, o, ho, hd⟩ := I10.cell x c e
            rw [z, pD] at ho
            cases ho
            cases hd) (fun p hp => absurd hp (by simp [cxComp]))
        refine ⟨m', hm, i + 1, ys ++ [yv], H8, its ++ [y], n', I11.pins_of fun p hp => ?_, rv.append (.cons r8 .nil), ?_, T.keep _ _ _ st9 fun b hb o e => kp b o (ltD b hb) e, fr9, w8⟩
        · have e : p = (s.heap.objs.size, { cls := .type "list", data := .seq (its ++ [y]).toArray n' }) := by simpa using hp
          subst e
          exact ⟨q', nD, dL, dF, fun v => by simp⟩
        · rw [List.length_append, List.length_singleton]; exact hlt
  exact codeAny_compStart_list loop (T.self _ 0 _ _ _ st1 loop)
theorem pe_comp {elt tg iter : Expr} {ifs : List Expr} {wi : TI} {g : TG} {tc : TT} {te : TE} {pos : Pos} (k : CompOk X sc N tau) (hc : X.calm = true) (hga : GA tau g) (hi : PI X tg iter wi)
    (hg : ∀ C s H ex, PG (cxComp X sc N C s H ex) tg g) (ht : ∀ C s H ex, PIf (cxComp X sc N C s H ex) ifs tc) (he : ∀ C s H ex, PE (cxComp X sc N C s H ex) elt te)
    (hs : ∀ x, foldedSetIterable iter X.env x = pure x := by intro _; rfl) : PE X (.ListComp elt [⟨tg, iter, ifs, 0⟩] sc pos) (tComp wi tau g tc te) := by
  intro pins s σ H Q I h
  rw [eval_ListComp]
  refine wpAny_comprehension_free (use := none) rfl hs (clos_of (k.cells I.ok)) k.kind k.loc ?_
  refine thn (@hi pins s σ H _ I h) fun v s1 h1 => thn h1 fun itv s2 h2 => ?_
  obtain ⟨it, fp, tn, J, H2, e, I2, T, st2, f2, W, w0, turn⟩ := h2
  subst e
  refine comp_block (RR := fun acc C => compPost (model X.prog X.w) X.A X.xe none (EP X pins σ Q) acc C) (W := W) (Z := fun ys H' => ∀ p, H' p = none → Q (.ref p) (upd H' p (.lst ys))) k hc I2 T st2 f2 hga hg ht he w0 turn ?_
  intro σ' H' s' ys its n J' rv hz z
  obtain ⟨I', hD, hC⟩ := comp_end k I2 f2 J' rv hz
  obtain ⟨m, hn, _⟩ := J'.loc
  exact ⟨m, hn, fun h' hs' => ⟨.ref _, _, comp_gone I2 I' hC hs', rfl, z _ hD⟩⟩
end
end L2
set_option Elab.async false
set_option linter.all false
set_option maxRecDepth 100000
set_option maxHeartbeats 4000000
namespace L2
open PySem PySem.Spec PyProof.Rows
structure Own (P : Program) (w : World) (K : PySem.W.Frag) (mg : Str → Option Value) (base : Heap) (k : Nat) (x : Str) (ps : List Str) (sp : Sp) : Prop where
  ex : ∃ (f : Addr) (fd : FuncData), FnOk P w K mg base CX0 k f fd ps sp ∧ Binds K fd ps [] ∧ PySem.W.keepIn K (.ref f) = true ∧ mg x = some (.ref f)
theorem Own.mono {P : Program} {w : World} {K : PySem.W.Frag} {mg : Str → Option Value} {base : Heap} {j k : Nat} {x : Str} {ps : List Str} {sp : Sp} (h : Own P w K mg base j x ps sp) (hjk : j ≤ k) : Own P w K mg base k x ps sp := by
  obtain ⟨f, fd, F, b, kp, m⟩ := h.ex
  exact ⟨f, fd, F.mono hjk, b, kp, m⟩
theorem Own.imp {P : Program} {w : World} {K : PySem.W.Frag} {mg : Str → Option Value} {base : Heap} {k : Nat} {x : Str} {ps : List Str} {sp sp' : Sp} (h : Own P w K mg base k x ps sp) (q : ∀ vs H Q E, sp' vs H Q E → sp vs H Q E) : Own P w K mg base k x ps sp' := by
  obtain ⟨f, fd, F, b, kp, m⟩ := h.ex
  exact ⟨f, fd, F.imp q, b, kp, m⟩
noncomputable def tOwn (sp : Sp) (t : TA) : TE := fun σ H Q => t σ H fun vs H1 => sp vs H1 Q E0
theorem pe_own {X : Cx} {k j : Nat} {x : Str} {ps : List Str} {sp : Sp} {p pos : Pos} {e : Expr} {es : List Expr} {t : TA} (h : Own X.prog X.w X.K X.mg X.base j x ps sp) (hr : Room k X.A) (ha : PA X (e :: es) t) (hjk : j ≤ k := by decide) (hg : Gl X x := by rfl)
    (hdb : (x == ("__debug__" : Str)) = false := by decide) (he : starEach (e :: es) X.env = (false, eval e X.env) :: starEach es X.env := by rfl) (hpl : (backTo pos (starEach es X.env)).any (·.1) = false := by rfl) :
    PE X (.Call (.Name x p) (e :: es) [] pos) (tOwn sp t) := by
  obtain ⟨f, fd, F, b, kp, m⟩ := (h.mono hjk).ex
  intro pins s σ H Q I q
  refine pe_call (E := E0) F hr hg m kp b .nil pass0 ha hdb he hpl s σ H Q I ?_
  have e : (fun (vs : List V) (H1 : Hp) => sp (vs ++ []) H1 Q E0) = fun vs H1 => sp vs H1 Q E0 := by
    funext vs H1; rw [List.append_nil]
  show t σ H fun vs H1 => sp (vs ++ []) H1 Q E0
  rw [e]; exact q
theorem own_mk {P : Program} {w : World} {K : PySem.W.Frag} {mg : Str → Option Value} {base : Heap} {k : Nat} {x qual : Str} {st : Stmt} {f : Addr} {fd : FuncData} {N ps : List Str} {sp : Sp} (F : Fun K x qual st f fd) (S : FnScope N ps (defScope st)) (mgx : mg x = some (.ref f)) (b : Binds K fd ps [])
    (len : ∀ vs H Q E, sp vs H Q E → vs.length = ps.length)
    (body : ∀ (cdv : Value) (A : Around) (outer : List Env) (s : Shared) (H : Hp) (vs : List V) (Q : VK) (E : XK), Room k (A.deeper (envOfC qual (defScope st) s.heap.objs.size f cdv)) → sp vs H Q E →
      ∃ t, PSs (cxOf CX0 P w K mg base N qual (defScope st) f cdv A outer s H E).nox (defBody st) t ∧ t { nx := fun _ H' => Q .non H', rt := Q } (start N vs) H) : Own P w K mg base (k + 1) x ps sp :=
  ⟨f, fd, F.ok S len body, b, F.kp, mgx⟩
section
variable {X : Cx}
noncomputable def CDivB (i j : Int) : Prop := 0 < j ∧ j.natAbs.log2 < 9000
theorem op_fdivB : OpR X (binaryOp .FloorDiv) (rI CDivB fun i j => .int (i / j)) := opI fun i j _ _ _ _ _ hc q => by
  refine floordiv_int (by have := hc.1; (first | lia | omega)) ?_ (.inl (PyProof.noPylong_of_log2 hc.2))
  rw [Int.fdiv_eq_ediv_of_nonneg i (by have := hc.1; (first | lia | omega))]
  exact q
theorem cdivB_small {i j : Int} (h0 : 0 < j) (h : j < 2 ^ 128) : CDivB i j := by
  refine ⟨h0, ?_⟩
  have : j.natAbs < 2 ^ 128 := by (first | lia | omega)
  have := Nat.log2_lt (n := j.natAbs) (k := 128) (by (first | lia | omega))
  have h' : j.natAbs.log2 < 128 := this.mpr (by (first | lia | omega))
  (first | lia | omega)
noncomputable def subTy (n c : String) : Bool := n == c || (n == "bool" && c == "int")
noncomputable def knownTy : List String := ["NoneType", "bool", "int", "str", "list", "tuple", "dict"]
noncomputable def knownCl : List String := ["bool", "int", "str", "list", "tuple", "dict"]
theorem kit_known {K : PySem.W.Frag} {n c : String} (hn : n ∈ knownTy) (hc : c ∈ knownCl) : PySem.W.kitOne K (.type n) (.type c) = some (subTy n c) := by
  simp only [knownTy, knownCl, List.mem_cons, List.not_mem_nil, or_false] at hn hc
  rcases hn with rfl | rfl | rfl | rfl | rfl | rfl | rfl <;> rcases hc with rfl | rfl | rfl | rfl | rfl | rfl <;> kernel_rfl
noncomputable def tyN (H : Hp) : V → Option String
  | .non => some "NoneType"
  | .bl _ => some "bool"
  | .int _ => some "int"
  | .str _ => some "str"
  | .ref a => match H a with
    | some (.lst _) => some "list"
    | some (.frz _ (.lst _)) => some "list"
    | some (.tup _) => some "tuple"
    | some (.dK _) => some "dict"
    | _ => none
  | _ => none
theorem tyN_of {K : PySem.W.Frag} {H : Hp} {x : V} {n : String} (h : tyN H x = some n) : TyOf K H x (.type n) ∧ n ∈ knownTy := by
  cases x with
  | non => cases h; exact ⟨.non, by decide⟩
  | bl b => cases h; exact ⟨.bl b, by decide⟩
  | int i => cases h; exact ⟨.int i, by decide⟩
  | str y => cases h; exact ⟨.str y, by decide⟩
  | ref a =>
    have h : (match H a with
      | some (.lst _) => some "list"
      | some (.frz _ (.lst _)) => some "list"
      | some (.tup _) => some "tuple"
      | some (.dK _) => some "dict"
      | _ => none) = some n := h
    split at h
    · rename_i xs e; cases h; exact ⟨.lst e, by decide⟩
    · rename_i o xs e; cases h; exact ⟨.frz e, by decide⟩
    · rename_i xs e; cases h; exact ⟨.tup e, by decide⟩
    · rename_i xs e; cases h; exact ⟨.dK e, by decide⟩
    · cases h
  | _ => cases h
noncomputable def rIsi (xs : List V) (H : Hp) (Q : VK) : Prop := ∃ x c n, xs = [x, .ty c] ∧ tyN H x = some n ∧ c ∈ knownCl ∧ Q (.bl (subTy n c)) H
theorem call_isi : CallR X (.builtin "isinstance") rIsi := by
  intro pins s σ H xs us Q I r h
  obtain ⟨x, c, n, rfl, ty, hc, q⟩ := h
  obtain ⟨u, w', rfl, rx, ry⟩ := vals2 r
  cases ry
  obtain ⟨t1, t2⟩ := tyN_of (K := X.K) ty
  exact isinst_ok I rx t1 (kit_known t2 hc) fun tk => ⟨.bl _, H, I.tok tk, rfl, q⟩
theorem vals_bools : ∀ {bs : List Bool} {us : List Value}, Vals (bs.map V.bl) us → us = bs.map Value.bool
  | [], _, .nil => rfl
  | c :: cs, _, .cons r t => by
    cases r
    rw [vals_bools t]; rfl
noncomputable def rAllL (K : PySem.W.Frag) (xs : List V) (H : Hp) (Q : VK) : Prop := ∃ (p : Addr) (bs : List Bool), xs = [.ref p] ∧ SqL K H p (bs.map V.bl) ∧ Q (.bl (bs.all id)) H
theorem all_range_get {bs : List Bool} : (List.range bs.length).all (fun i => (bs[i]?).getD false) = bs.all id := by
  rw [Bool.eq_iff_iff]
  simp only [List.all_eq_true, List.mem_range, id]
  constructor
  · intro h b hb
    obtain ⟨i, hi, rfl⟩ := List.mem_iff_getElem.mp hb
    have := h i hi
    rw [List.getElem?_eq_getElem hi] at this
    exact this
  · intro h i hi
    rw [List.getElem?_eq_getElem hi]
    exact h _ (List.getElem_mem hi)
theorem call_allL (hc : X.calm = true) : CallR X (.builtin "all") (rAllL X.K) := by
  intro pins s σ H xs us Q I r h
  obtain ⟨p, bs, rfl, hl, q⟩ := h
  obtain ⟨u, rfl, ru⟩ := vals1 r
  cases ru
  obtain ⟨its, rv, pl, hz⟩ := I.list hl
  have e := vals_bools rv
  subst e
  have hl' := pl.isList
  refine call_all_walk (wpAny_pyIter_list hl' ?_)
  have hlt : p < s.heap.objs.size := by obtain ⟨o, ho, _⟩ := id hl'; exact Heap.lt_size ho
  have hne : p ≠ s.heap.objs.size := Nat.ne_of_lt hlt
  refine ⟨_, _, _, _, _, _, fun i => (bs[i]?).getD false, rfl, Walks.list (A := X.A.in1) (I.ok.hd hc) _ p hne (bs.map Value.bool).toArray, ⟨⟨_, Heap.get?_push_size _ rfl, rfl, rfl⟩, hl'.at fun o e => Heap.get?_push_of_some _ e⟩, ?_, fun h' tk hk => ?_⟩
  · intro i v s' Q' E' hP hq
    have hP' : (bs.map Value.bool)[i]? = some v := by simpa using hP
    rw [List.getElem?_map] at hP'
    cases eb : bs[i]? with
    | none => rw [eb] at hP'; cases hP'
    | some b =>
      rw [eb] at hP'
      cases hP'
      simp only [eb, Option.getD_some] at hq
      exact wpAny_truthy_bool hq
  · have hk' := old_kept (l := p) hk
    refine ⟨.bl (bs.all id), H, I.kept hk', ?_, q⟩
    show Value.bool _ = Value.bool _
    have : (bs.map Value.bool).toArray.size = bs.length := by simp
    rw [this, all_range_get]
end
end L2
set_option Elab.async false
set_option linter.all false
set_option maxRecDepth 100000
set_option maxHeartbeats 4000000
namespace L2
open PySem PySem.Spec PyProof.Rows
structure Blt (mg : Str → Option Value) (ns : List Str) : Prop where
  all : ∀ x ∈ ns, mg x = none
theorem Blt.get {mg : Str → Option Value} {ns : List Str} (B : Blt mg ns) (x : Str) (h : x ∈ ns := by decide +kernel) : mg x = none := B.all x h
theorem bt_len : bootBuiltins "len" = some (.builtin "len") := by decide +kernel
theorem bt_max : bootBuiltins "max" = some (.builtin "max") := by decide +kernel
theorem bt_min : bootBuiltins "min" = some (.builtin "min") := by decide +kernel
theorem bt_abs : bootBuiltins "abs" = some (.builtin "abs") := by decide +kernel
theorem bt_all : bootBuiltins "all" = some (.builtin "all") := by decide +kernel
theorem bt_isinstance : bootBuiltins "isinstance" = some (.builtin "isinstance") := by decide +kernel
theorem bt_tuple : bootBuiltins "tuple" = some (.type "tuple") := by decide +kernel
theorem bt_int : bootBuiltins "int" = some (.type "int") := by decide +kernel
theorem bt_bool : bootBuiltins "bool" = some (.type "bool") := by decide +kernel
theorem bt_zip : bootBuiltins "zip" = some (.type "zip") := by decide +kernel
noncomputable def StOk (n : Int) (b : Bool) : Prop := 0 ≤ n ∧ (b = false → n < 2147483647)
noncomputable def IsSt (p : Addr) (H : Hp) : Prop := ∃ (n : Int) (b : Bool), H p = some (.lst [.int n, .bl b]) ∧ StOk n b
structure SB (p : Addr) (H H' : Hp) : Prop where
  keep : ∀ (b : Addr) (o : HO), b ≠ p → H b = some o → H' b = some o
  st : IsSt p H'
noncomputable def spCell (K : PySem.W.Frag) : Sp := fun vs H Q _ => ∃ (a : Addr) (ns : List Int) (k : Int), vs = [.ref a, .int k] ∧ SqL K H a (ns.map V.int) ∧ ns.length ≤ 63 ∧ 0 ≤ k ∧ ∀ n : Int, Q (.int n) H
noncomputable def spState (K : PySem.W.Frag) : Sp := fun vs H Q _ => ∃ (a : Addr) (ns : List Int) (k : Int), vs = [.ref a, .int k] ∧ SqL K H a (ns.map V.int) ∧ ns.length ≤ 63 ∧ 0 ≤ k ∧
  ∀ (p : Addr) (n : Int) (b : Bool), H p = none → StOk n b → Q (.ref p) (upd H p (.lst [.int n, .bl b]))
noncomputable def spTake : Sp := fun vs H Q _ => ∃ (p : Addr) (many : Int), vs = [.ref p, .int many] ∧ IsSt p H ∧ 0 < many ∧ many < 2 ^ 128 ∧ ∀ (r : Int) (H' : Hp), 0 ≤ r → r < many → SB p H H' → Q (.int r) H'
theorem atI_ints {ns : List Int} {k : Int} (h0 : 0 ≤ k) (h : k < (ns.length : Int)) : ∃ v : Int, atI (ns.map V.int) k = some (.int v) := by
  have hk : k.toNat < ns.length := by (first | lia | omega)
  have ek : k = ((k.toNat : Nat) : Int) := by (first | lia | omega)
  have q : atI (ns.map V.int) ((k.toNat : Nat) : Int) = some (.int ns[k.toNat]) := atI_nat (by rw [List.getElem?_map, List.getElem?_eq_getElem hk] <;> rfl)
  rw [← ek] at q
  exact ⟨_, q⟩
end L2
set_option Elab.async false
set_option linter.all false
set_option maxRecDepth 100000
set_option maxHeartbeats 4000000
namespace L2
open PySem PySem.Spec PyProof.Rows
section
variable {X : Cx}
theorem ix_listK (K : PySem.W.Frag) (e : X.K = K := by rfl) : IxR X (rIxL K) := e ▸ ix_list
theorem call_allLK (K : PySem.W.Frag) (hc : X.calm = true) (e : X.K = K := by rfl) : CallR X (.builtin "all") (rAllL K) := e ▸ call_allL hc
noncomputable def rLenS (K : PySem.W.Frag) (xs : List V) (H : Hp) (Q : VK) : Prop := ∃ p ys, xs = [.ref p] ∧ (SqL K H p ys ∨ SqT K H p ys) ∧ Q (.int ys.length) H
theorem call_lenK (K : PySem.W.Frag) (e : X.K = K := by rfl) : CallR X (.builtin "len") (rLenS K) := e ▸ call_len_seq
theorem pg_tupK (K : PySem.W.Frag) {pos : Pos} {es : List Expr} {k : Nat} {t : TGs} {n : Nat} (hc : X.calm = true) (h : PGs X es t)
    (hn : (assignEach es X.env).length = n := by rfl) (hst : (assignEach es X.env).findIdx? (·.1) = none := by rfl) (e : X.K = K := by rfl) : PG X (.Tuple es k pos) (gTup K n t) := by
  subst e
  exact pg_tup hc h hn hst
end
theorem paired_get {α β : Type} {F : α → β → Prop} : ∀ {l : List α} {k : List β} {i : Nat} {b : β}, Paired F l k → k[i]? = some b → ∃ a, l[i]? = some a ∧ F a b
  | _, _, _, _, .nil, h => by simp at h
  | _, _, 0, _, .cons r _, h => by simp at h; subst h; exact ⟨_, rfl, r⟩
  | _, _, i + 1, b, .cons _ t, h => by
    obtain ⟨a, e, f⟩ := paired_get (i := i) t (by simpa using h)
    exact ⟨a, by simpa using e, f⟩
theorem paired_len {α β : Type} {F : α → β → Prop} {l : List α} {k : List β} (h : Paired F l k) : l.length = k.length := Paired.length h
theorem paired_app {α β : Type} {F : α → β → Prop} : ∀ {l l' : List α} {k k' : List β}, Paired F l k → Paired F l' k' → Paired F (l ++ l') (k ++ k')
  | _, _, _, _, .nil, s => s
  | _, _, _, _, .cons r t, s => .cons r (paired_app t s)
theorem paired_drop {α β : Type} {F : α → β → Prop} : ∀ (n : Nat) {l : List α} {k : List β}, Paired F l k → Paired F (l.drop n) (k.drop n)
  | 0, _, _, h => h
  | _ + 1, _, _, .nil => .nil
  | n + 1, _, _, .cons _ t => paired_drop n t
theorem paired_take {α β : Type} {F : α → β → Prop} : ∀ (n : Nat) {l : List α} {k : List β}, Paired F l k → Paired F (l.take n) (k.take n)
  | 0, _, _, _ => .nil
  | _ + 1, _, _, .nil => .nil
  | n + 1, _, _, .cons r t => .cons r (paired_take n t)
theorem sz {n : Nat} (h : n ≤ 1000) : n ≤ sizeLine := Nat.le_of_lt (small1000 h)
end L2
set_option Elab.async false
set_option linter.all false
set_option maxRecDepth 100000
set_option maxHeartbeats 4000000
namespace L2
open PySem PySem.Spec PyProof.Rows
open Builtin.SmallTypes (nextOf)
structure Drw (it a : Addr) (vs : List Value) (tn : Nat → Heap → Prop) (src : Heap → Prop) : Prop where
  mv : ∀ i h h', tn i h → (∀ o, h.get? it = some o → h'.get? it = some o) → tn i h'
  smv : ∀ h h', src h → (∀ o, h.get? a = some o → h'.get? a = some o) → src h'
  ob : ∀ i h, tn i h → ∃ o, h.get? it = some o ∧ ∀ v, o.data ≠ .cell v
  item : ∀ (prog : Program) (w : World) (A : Around) (E : Value → Shared → Prop) (i : Nat) (x : Value) (s : Shared) (Q : Value → Shared → Prop), tn i s.heap → src s.heap → vs[i]? = some x →
    (∀ h', tn (i + 1) h' → Heap.SameBut it s.heap h' → Q x { s with heap := h' }) → wpAny (model prog w) A (nextOf (.ref it)) Q E s
  fin : ∀ (prog : Program) (w : World) (A : Around) (E : Value → Shared → Prop) (i : Nat) (s : Shared) (Q : Value → Shared → Prop), A.handled = none → tn i s.heap → src s.heap → vs[i]? = none →
    (∀ h' e, Heap.ExtBut it s.heap h' → (∃ o, h'.get? e = some o ∧ o.cls = .type "StopIteration") → E (.ref e) { s with heap := h' }) → wpAny (model prog w) A (nextOf (.ref it)) Q E s
theorem drw_list (it a : Addr) (vs : List Value) : Drw it a vs (fun i h => h.IsListIter it a i) (fun h => h.IsList a vs.toArray) where
  mv := fun i h h' t k => t.at k
  smv := fun h h' t k => t.at k
  ob := fun i h t => let ⟨o, e, _, d⟩ := t; ⟨o, e, fun v z => by rw [d] at z; cases z⟩
  item := fun prog w A E i x s Q t l e h => wpAny_nextOf_list_item t l (by simpa using e) h
  fin := fun prog w A E i s Q hh t l e h => wpAny_nextOf_list_end hh t l (by simpa using e) h
section
variable {prog : Program} {w : World} {A : Around} {E : Value → Shared → Prop} {s : Shared}
theorem nextTup_item {it a : Addr} {i : Nat} {vs : List Value} {x : Value} {Q : Value → Shared → Prop} (T : s.heap.IsTupleIter it a i) (S : s.heap.IsTuple a vs.toArray) (e : vs[i]? = some x)
    (h : ∀ h', h'.IsTupleIter it a (i + 1) → Heap.SameBut it s.heap h' → Q x { s with heap := h' }) : wpAny (model prog w) A (nextOf (.ref it)) Q E s := by
  obtain ⟨ob, hob, hcl, hdt⟩ := id T
  obtain ⟨os, hos, _, nn, hsq⟩ := id S
  have e' : vs.toArray[i]? = some x := by simpa using e
  unfold nextOf
  refine wpAny_bind (wpAny_callSpecial?_slot (name := Str.ofString "__next__") T.typeIs F.slot_tuple_iterator_next (wpAny_call_entry F.slot_tuple_iterator_next T.typeIs F.entry_tuple_iterator_next (wpAny_bind (m := field (.ref it) 0) (wpAny_field hob hdt (x := .ref a) rfl ?_)) (F.args_tuple_iterator_next_1 _)))
  refine wpAny_bind (m := field (.ref it) 1) (wpAny_field hob hdt (x := .int i 0) rfl (wpAny_bind (m := seqItems? (.ref a)) (wpAny_seqItems hos hsq ?_)))
  simp only [Int.toNat_natCast, e']
  refine wpAny_bind (wpAny_setField hob hdt (by simp) (wpAny_pure ⟨x, rfl, wpAny_pure (h _ ⟨_, Heap.get?_update_self _ hob (Obj.isFreed_of_fields (Obj.data_mapFields hdt _)), (Obj.cls_mapFields ..).trans hcl, ?_⟩ (Heap.SameBut.update ..))⟩))
  rw [Obj.data_mapFields hdt]
  simp [rawInt]
theorem nextTup_end {it a : Addr} {i : Nat} {vs : List Value} {Q : Value → Shared → Prop} (hn : A.handled = none) (T : s.heap.IsTupleIter it a i) (S : s.heap.IsTuple a vs.toArray) (e : vs[i]? = none)
    (h : ∀ h' x, Heap.ExtBut it s.heap h' → (∃ o, h'.get? x = some o ∧ o.cls = .type "StopIteration") → E (.ref x) { s with heap := h' }) : wpAny (model prog w) A (nextOf (.ref it)) Q E s := by
  obtain ⟨ob, hob, hcl, hdt⟩ := id T
  obtain ⟨os, hos, _, nn, hsq⟩ := id S
  have e' : vs.toArray[i]? = none := by simpa using e
  unfold nextOf
  refine wpAny_bind (wpAny_callSpecial?_slot (name := Str.ofString "__next__") T.typeIs F.slot_tuple_iterator_next (wpAny_call_entry F.slot_tuple_iterator_next T.typeIs F.entry_tuple_iterator_next (wpAny_bind (m := field (.ref it) 0) (wpAny_field hob hdt (x := .ref a) rfl ?_)) (F.args_tuple_iterator_next_1 _)))
  refine wpAny_bind (m := field (.ref it) 1) (wpAny_field hob hdt (x := .int i 0) rfl (wpAny_bind (m := seqItems? (.ref a)) (wpAny_seqItems hos hsq ?_)))
  simp only [Int.toNat_natCast, e']
  refine wpAny_bind (wpAny_rule (wpAny_bind (wpAny_setField hob hdt (by simp) (wpAny_bind ?_))))
  simp only [newExc, newTuple]
  refine wpAny_bind (wpAny_newObj_type (wpAny_bind (m := firstArgMember _ _) (wpAny_of_eq (a := Value.none) (by first | rfl | (simp only [firstArgMember]; rfl)) (wpAny_newObj_type ?_ (by size_fits)))) (by size_fits))
  simp only [raiseNew]
  refine wpAny_bind (wpAny_handled ?_)
  first | rw [show A.in1.handled = none from hn] | rw [hn]
  exact wpAny_bind (wpAny_pure (wpAny_throw (h _ _ (((Heap.SameBut.update ..).extBut.push _).push _) ⟨_, Heap.get?_push_size _ rfl, rfl⟩)))
end
theorem drw_tup (it a : Addr) (vs : List Value) : Drw it a vs (fun i h => h.IsTupleIter it a i) (fun h => h.IsTuple a vs.toArray) where
  mv := fun i h h' t k => t.at k
  smv := fun h h' t k => let ⟨o, e, r⟩ := t; ⟨o, k o e, r⟩
  ob := fun i h t => let ⟨o, e, _, d⟩ := t; ⟨o, e, fun v z => by rw [d] at z; cases z⟩
  item := fun prog w A E i x s Q t l e h => nextTup_item t l e h
  fin := fun prog w A E i s Q hh t l e h => nextTup_end hh t l e h
structure ZA (z ti to i1 i2 a1 a2 : Addr) : Prop where
  a : ti ≠ z ∧ to ≠ z ∧ i1 ≠ z ∧ i2 ≠ z ∧ ti ≠ to ∧ ti ≠ i1 ∧ ti ≠ i2 ∧ to ≠ i1 ∧ to ≠ i2 ∧ i1 ≠ i2
  b : a1 ≠ z ∧ a1 ≠ to ∧ a1 ≠ i1 ∧ a1 ≠ i2 ∧ a2 ≠ z ∧ a2 ≠ to ∧ a2 ≠ i1 ∧ a2 ≠ i2
section
variable {prog : Program} {w : World} {A : Around} {E : Value → Shared → Prop} {s : Shared} {z ti to i1 i2 a1 a2 : Addr} {vs us : List Value} {t1 t2 : Nat → Heap → Prop} {s1 s2 : Heap → Prop}
theorem zipN_item {k : Nat} {x y p q : Value} {Q : Value → Shared → Prop} (D : ZA z ti to i1 i2 a1 a2) (W1 : Drw i1 a1 vs t1 s1) (W2 : Drw i2 a2 us t2 s2) (Z : IsZip s.heap z ti to .none) (TI : IsPair s.heap ti (.ref i1) (.ref i2)) (TO : IsPair s.heap to p q)
    (b1 : t1 k s.heap) (b2 : t2 k s.heap) (c1 : s1 s.heap) (c2 : s2 s.heap) (ex : vs[k]? = some x) (ey : us[k]? = some y)
    (h : ∀ h', IsZip h' z ti to (rawInt s.heap.objs.size) → IsPair h' to x y → t1 (k + 1) h' → t2 (k + 1) h' → IsPair h' s.heap.objs.size x y →
      (∀ c o, c ≠ z → c ≠ to → c ≠ i1 → c ≠ i2 → s.heap.get? c = some o → h'.get? c = some o) → Q (.ref s.heap.objs.size) { s with heap := h' }) :
    wpAny (model prog w) A (Builtin.«zip.__next__» ⟨[.ref z], []⟩) (fun fin s' => ∃ v, fin = .done (.ret v) ∧ Q v s') E s := by
  obtain ⟨⟨d1, d2, d3, d4, d5, d6, d7, d8, d9, d10⟩, e1, e2, e3, e4, e5, e6, e7, e8⟩ := D
  refine wpAny_bind (m := field (.ref z) 2) (wpAny_field Z rfl (x := .bool false) rfl (wpAny_bind (m := field (.ref z) 3) (wpAny_field Z rfl (x := .ref ti) rfl (wpAny_bind (wpAny_seqItems TI rfl ?_)))))
  refine wpAny_bind (m := Builtin.SmallTypes.ownedTupleIsFree (.ref z)) ?_
  unfold Builtin.SmallTypes.ownedTupleIsFree
  refine wpAny_bind (wpAny_field Z rfl (x := .none) rfl (wpAny_pure ?_))
  simp only [if_true]
  refine wpAny_bind (wpAny_rule (wpAny_bind (wpAny_field Z rfl (x := .ref to) rfl (wpAny_bind (wpAny_setField_rec Z (by simp) fun g1 Z1 S1 => wpAny_bind ?_)))))
  replace Z1 : IsZip g1 z ti to .ellipsis := Z1
  simp only [List.zipIdx_cons, List.zipIdx_nil, List.forIn_cons, List.forIn_nil]
  refine wpAny_bind (wpAny_bind (wpAny_onRaise (wpAny_bind (m := nextOf (.ref i1)) ?_)))
  refine W1.item _ _ _ _ k x _ _ (W1.mv _ _ _ b1 fun o => S1.extBut _ o d3) (W1.smv _ _ c1 fun o => S1.extBut _ o e1) ex fun g2 b12 S2 => wpAny_pure ?_
  have TO2 : IsPair g2 to p q := S2.extBut _ _ d8 (S1.extBut _ _ d2 TO)
  refine wpAny_bind (wpAny_seqItems TO2 rfl (wpAny_bind (wpAny_updateSeq_pair TO2 fun g3 TO3 S3 => wpAny_bind (wpAny_letGo (wpAny_pure ?_)))))
  replace TO3 : IsPair g3 to x q := TO3
  refine wpAny_bind (wpAny_bind (wpAny_onRaise (wpAny_bind (m := nextOf (.ref i2)) ?_)))
  have k3 : ∀ c o, c ≠ z → c ≠ to → c ≠ i1 → s.heap.get? c = some o → g3.get? c = some o := fun c o n1 n2 n3 g => S3.extBut _ _ n2 (S2.extBut _ _ n3 (S1.extBut _ _ n1 g))
  refine W2.item _ _ _ _ k y _ _ (W2.mv _ _ _ b2 fun o => k3 _ o d4 (Ne.symm d9) (Ne.symm d10)) (W2.smv _ _ c2 fun o => k3 _ o e5 e6 e7) ey fun g4 b24 S4 => wpAny_pure ?_
  have TO4 : IsPair g4 to x q := S4.extBut _ _ d9 TO3
  refine wpAny_bind (wpAny_seqItems TO4 rfl (wpAny_bind (wpAny_updateSeq_pair TO4 fun g5 TO5 S5 => wpAny_bind (wpAny_letGo (wpAny_pure (wpAny_pure ?_))))))
  replace TO5 : IsPair g5 to x y := TO5
  refine wpAny_bind (wpAny_seqItems TO5 rfl (wpAny_bind (wpAny_newTuple (wpAny_bind (m := Builtin.SmallTypes.ownedTupleHandOut (.ref z) (.ref g5.objs.size)) ?_))))
  have sz5 : g5.objs.size = s.heap.objs.size := by rw [S5.1, S4.1, S3.1, S2.1, S1.1]
  have k5 : ∀ c o, c ≠ to → c ≠ i2 → g3.get? c = some o → g5.get? c = some o := fun c o n1 n2 g => S5.extBut _ _ n1 (S4.extBut _ _ n2 g)
  have Z5 : IsZip g5 z ti to .ellipsis := k5 _ _ (Ne.symm d2) (Ne.symm d4) (S3.extBut _ _ (Ne.symm d2) (S2.extBut _ _ (Ne.symm d3) Z1))
  have b15 : t1 (k + 1) g5 := W1.mv _ _ _ b12 fun o g => k5 _ o (Ne.symm d8) d10 (S3.extBut _ o (Ne.symm d8) g)
  have b25 : t2 (k + 1) g5 := W2.mv _ _ _ b24 fun o g => S5.extBut _ o (Ne.symm d9) g
  have zlt : z < g5.objs.size := Heap.lt_size Z5
  unfold Builtin.SmallTypes.ownedTupleHandOut
  refine wpAny_bind (wpAny_setField_rec (show IsZip (g5.push { cls := .type "tuple", data := .seq #[x, y] }) z ti to .ellipsis from Heap.get?_push_of_some _ Z5) (by simp) fun g7 Z7 S7 => wpAny_setField_rec (show IsZip g7 z ti to (rawInt g5.objs.size) from Z7) (by simp) fun g8 Z8 S8 => ?_)
  replace Z8 : IsZip g8 z ti to (rawInt g5.objs.size) := Z8
  have up8 : ∀ c o, c ≠ z → g5.get? c = some o → g8.get? c = some o := fun c o n g => S8.extBut _ _ n (S7.extBut _ _ n (Heap.get?_push_of_some _ g))
  have T8 : IsPair g8 g5.objs.size x y := S8.extBut _ _ (Nat.ne_of_gt zlt) (S7.extBut _ _ (Nat.ne_of_gt zlt) (Heap.get?_push_size _ rfl))
  refine wpAny_pure ⟨_, rfl, ?_⟩
  show Q (.ref g5.objs.size) _
  rw [sz5] at Z8 T8 ⊢
  exact h g8 Z8 (up8 _ _ d2 TO5) (W1.mv _ _ _ b15 fun o g => up8 _ o d3 g) (W2.mv _ _ _ b25 fun o g => up8 _ o d4 g) T8 fun c o n1 n2 n3 n4 g => up8 c o n1 (k5 c o n2 n4 (k3 c o n1 n2 n3 g))
theorem zipN_end {k : Nat} {p q : Value} {Q : Fin → Shared → Prop} (hn : A.handled = none) (D : ZA z ti to i1 i2 a1 a2) (W1 : Drw i1 a1 vs t1 s1) (W2 : Drw i2 a2 us t2 s2) (Z : IsZip s.heap z ti to .none) (TI : IsPair s.heap ti (.ref i1) (.ref i2)) (TO : IsPair s.heap to p q)
    (b1 : t1 k s.heap) (b2 : t2 k s.heap) (c1 : s1 s.heap) (c2 : s2 s.heap) (end' : vs[k]? = none ∨ us[k]? = none)
    (h : ∀ h' e, (∀ c o, c ≠ z → c ≠ to → c ≠ i1 → c ≠ i2 → s.heap.get? c = some o → h'.get? c = some o) → (∃ o, h'.get? e = some o ∧ o.cls = .type "StopIteration") → E (.ref e) { s with heap := h' }) :
    wpAny (model prog w) A (Builtin.«zip.__next__» ⟨[.ref z], []⟩) Q E s := by
  obtain ⟨⟨d1, d2, d3, d4, d5, d6, d7, d8, d9, d10⟩, e1, e2, e3, e4, e5, e6, e7, e8⟩ := D
  refine wpAny_bind (m := field (.ref z) 2) (wpAny_field Z rfl (x := .bool false) rfl (wpAny_bind (m := field (.ref z) 3) (wpAny_field Z rfl (x := .ref ti) rfl (wpAny_bind (wpAny_seqItems TI rfl ?_)))))
  refine wpAny_bind (m := Builtin.SmallTypes.ownedTupleIsFree (.ref z)) ?_
  unfold Builtin.SmallTypes.ownedTupleIsFree
  refine wpAny_bind (wpAny_field Z rfl (x := .none) rfl (wpAny_pure ?_))
  simp only [if_true]
  refine wpAny_bind (wpAny_rule (wpAny_bind (wpAny_field Z rfl (x := .ref to) rfl (wpAny_bind (wpAny_setField_rec Z (by simp) fun g1 Z1 S1 => wpAny_bind ?_)))))
  replace Z1 : IsZip g1 z ti to .ellipsis := Z1
  simp only [List.zipIdx_cons, List.zipIdx_nil, List.forIn_cons, List.forIn_nil]
  refine wpAny_bind (wpAny_bind (wpAny_onRaise (wpAny_bind (m := nextOf (.ref i1)) ?_)))
  have b1' := W1.mv _ _ _ b1 fun o => S1.extBut _ o d3
  have c1' := W1.smv _ _ c1 fun o => S1.extBut _ o e1
  cases ex : vs[k]? with
  | none =>
    refine W1.fin _ _ _ _ k _ _ hn b1' c1' ex fun g2 e S2 he => ?_
    obtain ⟨oe, hoe, hce⟩ := he
    have Z2 : IsZip g2 z ti to .ellipsis := S2 _ _ (Ne.symm d3) Z1
    have ne : e ≠ z := fun y => by subst y; rw [Z2] at hoe; cases hoe; simp at hce
    exact wpAny_setField_rec Z2 (by simp) fun g3 _ S3 => h g3 e (fun c o n1 _ n3 _ g => S3.extBut _ _ n1 (S2 _ _ n3 (S1.extBut _ _ n1 g))) ⟨oe, S3.extBut _ _ ne hoe, hce⟩
  | some x =>
    have ey : us[k]? = none := end'.resolve_left (by rw [ex]; exact fun z => nomatch z)
    refine W1.item _ _ _ _ k x _ _ b1' c1' ex fun g2 b12 S2 => wpAny_pure ?_
    have TO2 : IsPair g2 to p q := S2.extBut _ _ d8 (S1.extBut _ _ d2 TO)
    refine wpAny_bind (wpAny_seqItems TO2 rfl (wpAny_bind (wpAny_updateSeq_pair TO2 fun g3 TO3 S3 => wpAny_bind (wpAny_letGo (wpAny_pure ?_)))))
    refine wpAny_bind (wpAny_bind (wpAny_onRaise (wpAny_bind (m := nextOf (.ref i2)) ?_)))
    have k3 : ∀ c o, c ≠ z → c ≠ to → c ≠ i1 → s.heap.get? c = some o → g3.get? c = some o := fun c o n1 n2 n3 g => S3.extBut _ _ n2 (S2.extBut _ _ n3 (S1.extBut _ _ n1 g))
    refine W2.fin _ _ _ _ k _ _ hn (W2.mv _ _ _ b2 fun o => k3 _ o d4 (Ne.symm d9) (Ne.symm d10)) (W2.smv _ _ c2 fun o => k3 _ o e5 e6 e7) ey fun g4 e S4 he => ?_
    obtain ⟨oe, hoe, hce⟩ := he
    have Z4 : IsZip g4 z ti to .ellipsis := S4 _ _ (Ne.symm d4) (S3.extBut _ _ (Ne.symm d2) (S2.extBut _ _ (Ne.symm d3) Z1))
    have ne : e ≠ z := fun y => by subst y; rw [Z4] at hoe; cases hoe; simp at hce
    exact wpAny_setField_rec Z4 (by simp) fun g5 _ S5 => h g5 e (fun c o n1 n2 n3 n4 g => S5.extBut _ _ n1 (S4 _ _ n4 (k3 c o n1 n2 n3 g))) ⟨oe, S5.extBut _ _ ne hoe, hce⟩
end
end L2
set_option Elab.async false
set_option linter.all false
set_option maxRecDepth 100000
set_option maxHeartbeats 4000000
namespace L2
open PySem PySem.Spec PyProof.Rows
section
variable {prog : Program} {w : World} {A : Around} {E : Value → Shared → Prop} {s : Shared}
end
theorem za_new {n a1 a2 : Addr} (h1 : a1 < n) (h2 : a2 < n) : ZA (n + 4) (n + 2) (n + 3) n (n + 1) a1 a2 := by
  have up : ∀ (x k : Nat), x < n → x ≠ n + k := fun x k h => Nat.ne_of_lt (Nat.lt_of_lt_of_le h (Nat.le_add_right n k))
  have ad : ∀ j k : Nat, j ≠ k → n + j ≠ n + k := fun j k h e => h (Nat.add_left_cancel e)
  have a0 : ∀ k : Nat, 0 ≠ k → n ≠ n + k := fun k h e => h (Nat.add_left_cancel (n := n) (by simpa using e))
  exact ⟨⟨ad _ _ (by decide), ad _ _ (by decide), a0 _ (by decide), ad _ _ (by decide), ad _ _ (by decide), fun e => a0 2 (by decide) e.symm, ad _ _ (by decide), fun e => a0 3 (by decide) e.symm, ad _ _ (by decide), a0 _ (by decide)⟩,
    up _ _ h1, up _ _ h1, Nat.ne_of_lt h1, up _ _ h1, up _ _ h2, up _ _ h2, Nat.ne_of_lt h2, up _ _ h2⟩
noncomputable def Sq2 (K : PySem.W.Frag) (b : Bool) (H : Hp) (a : Addr) (xs : List V) : Prop := if b = true then SqT K H a xs else SqL K H a xs
noncomputable def Src2 (b : Bool) (a : Addr) (vs : List Value) (h : Heap) : Prop := if b = true then h.IsTuple a vs.toArray else h.IsList a vs.toArray
noncomputable def Tn2 (b : Bool) (it a : Addr) (i : Nat) (h : Heap) : Prop := if b = true then h.IsTupleIter it a i else h.IsListIter it a i
theorem drw2 (b : Bool) (it a : Addr) (vs : List Value) : Drw it a vs (Tn2 b it a) (Src2 b a vs) := by
  cases b with
  | true => exact drw_tup it a vs
  | false => exact drw_list it a vs
theorem Inv.sq2 {X : Cx} {pins : List (Addr × Obj)} {σ : St} {H : Hp} {s : Shared} {b : Bool} {a : Addr} {xs : List V} (I : Inv X pins σ H s) (h : Sq2 X.K b H a xs) : ∃ vs : List Value, Vals xs vs ∧ Src2 b a vs s.heap := by
  cases b with
  | true => obtain ⟨vs, r, p, _⟩ := I.tuple (show SqT X.K H a xs from h); exact ⟨vs, r, p⟩
  | false => obtain ⟨vs, r, p, _⟩ := I.list (show SqL X.K H a xs from h); exact ⟨vs, r, p.isList⟩
section
variable {P : Program} {w : World} {K : PySem.W.Frag} {z ti to i1 i2 a1 a2 : Addr} {b : Bool} {xs ys : List V}
end
section
variable {X : Cx}
end
end L2
set_option Elab.async false
set_option linter.all false
set_option maxRecDepth 100000
set_option maxHeartbeats 4000000
namespace L2
open PySem PySem.Spec PyProof.Rows
end L2
set_option Elab.async false
set_option linter.all false
set_option maxRecDepth 100000
set_option maxHeartbeats 4000000
namespace L2
open PySem PySem.Spec PyProof.Rows
inductive Tr where
  | non | bl (b : Bool) | int (i : Int) | str (x : Str) | emp | tup (xs : List Tr) | lst (xs : List Tr)
mutual
noncomputable def Rep (F : Addr → Prop) (H : Hp) : Tr → V → Prop
  | .non, v => v = .non
  | .bl b, v => v = .bl b
  | .int i, v => v = .int i
  | .str x, v => v = .str x
  | .emp, v => ∃ a, v = .ref a ∧ ¬ F a ∧ H a = some (.dK [])
  | .tup ts, v => ∃ a ws, v = .ref a ∧ ¬ F a ∧ H a = some (.tup ws) ∧ RepL F H ts ws
  | .lst ts, v => ∃ a ws, v = .ref a ∧ ¬ F a ∧ H a = some (.lst ws) ∧ RepL F H ts ws
noncomputable def RepL (F : Addr → Prop) (H : Hp) : List Tr → List V → Prop
  | [], ws => ws = []
  | t :: ts, ws => ∃ w r, ws = w :: r ∧ Rep F H t w ∧ RepL F H ts r
end
theorem repL_iff {F : Addr → Prop} {H : Hp} : ∀ {ts : List Tr} {ws : List V}, RepL F H ts ws ↔ Paired (Rep F H) ts ws
  | [], ws => by
    constructor
    · intro h; cases (show ws = [] from h); exact .nil
    · intro h; cases h; rfl
  | t :: ts, ws => by
    constructor
    · rintro ⟨w, r, rfl, h1, h2⟩; exact .cons h1 (repL_iff.mp h2)
    · intro h
      cases h with
      | cons h1 h2 => exact ⟨_, _, rfl, h1, repL_iff.mpr h2⟩
theorem RepL.len {F : Addr → Prop} {H : Hp} {ts : List Tr} {ws : List V} (h : RepL F H ts ws) : ts.length = ws.length := paired_len (repL_iff.mp h)
theorem RepL.app {F : Addr → Prop} {H : Hp} {ts ts' : List Tr} {ws ws' : List V} (h : RepL F H ts ws) (h' : RepL F H ts' ws') : RepL F H (ts ++ ts') (ws ++ ws') := repL_iff.mpr (paired_app (repL_iff.mp h) (repL_iff.mp h'))
theorem RepL.get {F : Addr → Prop} {H : Hp} {ts : List Tr} {ws : List V} {i : Nat} {w : V} (h : RepL F H ts ws) (e : ws[i]? = some w) : ∃ t, ts[i]? = some t ∧ Rep F H t w := paired_get (repL_iff.mp h) e
theorem RepL.getT {F : Addr → Prop} {H : Hp} : ∀ {ts : List Tr} {ws : List V} {i : Nat} {t : Tr}, RepL F H ts ws → ts[i]? = some t → ∃ w, ws[i]? = some w ∧ Rep F H t w := fun {ts ws i t} h e => by
  have hl := h.len
  have hi : i < ws.length := by have := (List.getElem?_eq_some_iff.mp e).1; (first | lia | omega)
  obtain ⟨t', e', r⟩ := h.get (List.getElem?_eq_getElem hi)
  rw [e] at e'; cases e'
  exact ⟨_, List.getElem?_eq_getElem hi, r⟩
mutual
theorem rep_mono {F F' : Addr → Prop} {H H' : Hp} (m : ∀ a o, H a = some o → ¬ F a → H' a = some o ∧ ¬ F' a) : ∀ (t : Tr) (v : V), Rep F H t v → Rep F' H' t v
  | .non, v, h => h
  | .bl b, v, h => h
  | .int i, v, h => h
  | .str x, v, h => h
  | .emp, v, h => by
    obtain ⟨a, e, n, k⟩ := h
    exact ⟨a, e, (m a _ k n).2, (m a _ k n).1⟩
  | .tup ts, v, h => by
    obtain ⟨a, ws, e, n, k, r⟩ := h
    exact ⟨a, ws, e, (m a _ k n).2, (m a _ k n).1, repL_mono m ts ws r⟩
  | .lst ts, v, h => by
    obtain ⟨a, ws, e, n, k, r⟩ := h
    exact ⟨a, ws, e, (m a _ k n).2, (m a _ k n).1, repL_mono m ts ws r⟩
theorem repL_mono {F F' : Addr → Prop} {H H' : Hp} (m : ∀ a o, H a = some o → ¬ F a → H' a = some o ∧ ¬ F' a) : ∀ (ts : List Tr) (ws : List V), RepL F H ts ws → RepL F' H' ts ws
  | [], ws, h => h
  | t :: ts, ws, h => by
    obtain ⟨w, r, e, h1, h2⟩ := h
    exact ⟨w, r, e, rep_mono m t w h1, repL_mono m ts r h2⟩
end
noncomputable def scalT : Tr → Option V
  | .non => some .non | .bl b => some (.bl b) | .int i => some (.int i) | .str x => some (.str x) | _ => none
theorem rep_scal {F : Addr → Prop} {H : Hp} {t : Tr} {v : V} (h : scalT t = some v) : Rep F H t v := by
  cases t with
  | non => cases h; rfl
  | bl b => cases h; rfl
  | int i => cases h; rfl
  | str x => cases h; rfl
  | _ => cases h
inductive TV where
  | un | fz (t : Tr) | ow (ts : List Tr) | st | sc (ns : List Int) | ob (a : Addr)
noncomputable abbrev TSt := List TV
noncomputable def nth : TSt → Nat → TV
  | [], _ => .un
  | x :: _, 0 => x
  | _ :: r, n + 1 => nth r n
theorem nth_of_lt : ∀ {τ : TSt} {i : Nat} (h : i < τ.length), nth τ i = τ[i]
  | [], _, h => absurd h (by simp)
  | _ :: _, 0, _ => rfl
  | _ :: r, i + 1, h => nth_of_lt (τ := r) (by simpa using h)
theorem nth_of_ge : ∀ {τ : TSt} {i : Nat} (h : τ.length ≤ i), nth τ i = .un
  | [], _, _ => rfl
  | _ :: _, 0, h => absurd h (by simp)
  | _ :: r, i + 1, h => nth_of_ge (τ := r) (by simpa using h)
theorem nth_set_same : ∀ {τ : TSt} {i : Nat} {x : TV} (h : i < τ.length), nth (τ.set i x) i = x
  | [], _, _, h => absurd h (by simp)
  | _ :: _, 0, _, _ => rfl
  | _ :: r, i + 1, x, h => nth_set_same (τ := r) (by simpa using h)
theorem nth_set_ne : ∀ {τ : TSt} {i j : Nat} {x : TV} (h : j ≠ i), nth (τ.set i x) j = nth τ j
  | [], _, _, _, _ => rfl
  | _ :: _, 0, 0, _, h => absurd rfl h
  | _ :: _, 0, _ + 1, _, _ => rfl
  | _ :: _, _ + 1, 0, _, _ => rfl
  | _ :: r, i + 1, j + 1, x, h => nth_set_ne (τ := r) (fun e => h (by rw [e]))
structure FB where
  F0 : Addr → Prop
  S0 : Addr → Prop
  H0 : Hp
  G0 : List (Tr × V)
noncomputable abbrev Phi := Nat → Option Addr
noncomputable def Av (B : FB) (φ : Phi) (a : Addr) : Prop := B.F0 a ∨ ∃ i, φ i = some a
noncomputable def SA (B : FB) (φ : Phi) (τ : TSt) (a : Addr) : Prop := B.S0 a ∨ ∃ i, φ i = some a ∧ nth τ i = .st
noncomputable def Wk (B : FB) (φ : Phi) (τ : TSt) (a : Addr) : Prop := B.F0 a ∨ SA B φ τ a
noncomputable def AvB : Bool → FB → Phi → TSt → Addr → Prop
  | true, B, φ, _ => Av B φ
  | false, B, φ, τ => Wk B φ τ
noncomputable def tabK (K : PySem.W.Frag) : Option (Addr × Str) := match K.lookup 4 with
  | none => none
  | some _ => match PySem.W.nsIn K mainGlobals "law" with
    | some (some (.ref f)) => (match K.lookup f with
      | some ⟨_, _, .func fd, _⟩ => (match fd.code with
        | .ref c => (match K.lookup c with
          | some ⟨_, _, .fields vs, _⟩ => (match vs.toList.getD 11 Value.none with
            | Value.ref P => some (P, "law.<locals>.<lambda>")
            | _ => none)
          | _ => none)
        | _ => none)
      | _ => none)
    | _ => none
noncomputable def TabH (K : PySem.W.Frag) (H : Hp) : Prop := ∀ P q, tabK K = some (P, q) → H P = some (.tb q)
theorem TabH.none {K : PySem.W.Frag} {H : Hp} (h : tabK K = Option.none) : TabH K H := fun P q e => by rw [h] at e; cases e
noncomputable def ScrOk (K : PySem.W.Frag) (H : Hp) (a : Addr) (ns : List Int) : Prop := ((∃ o, H a = some (.frz o (.lst (ns.map V.int)))) ∨ ∀ H', SqL K H' a (ns.map V.int)) ∧ TabH K H
noncomputable def Ent (K : PySem.W.Frag) (B : FB) (φ : Phi) (H : Hp) (i : Nat) (o : Option (Option V)) : TV → Prop
  | .un => True
  | .fz t => ∃ v, o = some (some v) ∧ Rep (Av B φ) H t v
  | .ow ts => ∃ a ws, o = some (some (.ref a)) ∧ φ i = some a ∧ B.H0 a = none ∧ H a = some (.lst ws) ∧ RepL (Av B φ) H ts ws
  | .st => ∃ p, o = some (some (.ref p)) ∧ φ i = some p ∧ (B.S0 p ∨ B.H0 p = none)
  | .sc ns => ∃ a, o = some (some (.ref a)) ∧ ns.length ≤ 63 ∧ ScrOk K H a ns
  | .ob a => o = some (some (.ref a))
structure RS (K : PySem.W.Frag) (B : FB) (φ : Phi) (σ : St) (τ : TSt) (H : Hp) : Prop where
  f0 : ∀ a, B.F0 a → B.H0 a ≠ none
  s0 : ∀ a, B.S0 a → B.F0 a
  ext : ∀ a o, B.H0 a = some o → ¬ B.S0 a → H a = some o
  sst : ∀ a, SA B φ τ a → IsSt a H
  inj : ∀ i j a ts, nth τ i = .ow ts → φ i = some a → φ j = some a → i = j
  ow : ∀ i a, φ i = some a → H a ≠ none
  len : σ.length = τ.length
  ent : ∀ i, Ent K B φ H i (σ[i]?) (nth τ i)
  gh : ∀ p ∈ B.G0, Rep (Av B φ) H p.1 p.2
structure HX (B : FB) (φ : Phi) (τ : TSt) (H H' : Hp) : Prop where
  keep : ∀ a o, H a = some o → ¬ SA B φ τ a → H' a = some o
  st : ∀ a, SA B φ τ a → IsSt a H'
section
variable {K : PySem.W.Frag} {B : FB} {φ : Phi} {σ : St} {τ : TSt} {H H' H'' : Hp}
theorem IsSt.ne_none {p : Addr} (h : IsSt p H) : H p ≠ none := by
  obtain ⟨n, b, e, _⟩ := h
  rw [e]; exact fun z => nomatch z
theorem RS.sAv (R : RS K B φ σ τ H) {a : Addr} (h : SA B φ τ a) : Av B φ a := by
  rcases h with h | ⟨i, h, _⟩
  · exact .inl (R.s0 a h)
  · exact .inr ⟨i, h⟩
theorem RS.wAv (R : RS K B φ σ τ H) {a : Addr} (h : Wk B φ τ a) : Av B φ a := by
  rcases h with h | h
  · exact .inl h
  · exact R.sAv h
theorem RS.sB (R : RS K B φ σ τ H) {b : Bool} {a : Addr} (h : SA B φ τ a) : AvB b B φ τ a := by
  cases b with
  | true => exact R.sAv h
  | false => exact .inr h
theorem RS.dom (R : RS K B φ σ τ H) {a : Addr} (h : Av B φ a) : H a ≠ none := by
  rcases h with h | ⟨i, h⟩
  · by_cases s : B.S0 a
    · exact (R.sst a (.inl s)).ne_none
    · cases e : B.H0 a with
      | none => exact absurd e (R.f0 a h)
      | some o => rw [R.ext a o e s]; exact fun z => nomatch z
  · exact R.ow i a h
theorem RS.domB (R : RS K B φ σ τ H) {b : Bool} {a : Addr} (h : AvB b B φ τ a) : H a ≠ none := by
  cases b with
  | true => exact R.dom h
  | false => exact R.dom (R.wAv h)
theorem HX.refl (R : RS K B φ σ τ H) : HX B φ τ H H := ⟨fun _ _ h _ => h, R.sst⟩
theorem HX.trans (h : HX B φ τ H H') (h' : HX B φ τ H' H'') : HX B φ τ H H'' := ⟨fun a o e n => h'.keep a o (h.keep a o e n) n, h'.st⟩
theorem HX.none (h : HX B φ τ H H') {a : Addr} (e : H' a = none) : H a = none := by
  cases q : H a with
  | none => rfl
  | some o =>
    by_cases s : SA B φ τ a
    · exact absurd e (h.st a s).ne_none
    · rw [h.keep a o q s] at e; cases e
theorem HX.new (R : RS K B φ σ τ H) {p : Addr} (hp : H p = Option.none) (o : HO) : HX B φ τ H (upd H p o) :=
  ⟨fun a u e _ => by rw [upd_ne (ne_of_none e hp)]; exact e, fun a s => by
    obtain ⟨n, b, e, z⟩ := R.sst a s
    exact ⟨n, b, by rw [upd_ne (ne_of_none e hp)]; exact e, z⟩⟩
theorem HX.rep (h : HX B φ τ H H') {F : Addr → Prop} (hF : ∀ a, SA B φ τ a → F a) {t : Tr} {v : V} (r : Rep F H t v) : Rep F H' t v := rep_mono (fun a o e n => ⟨h.keep a o e (fun s => n (hF a s)), n⟩) t v r
theorem HX.repL (h : HX B φ τ H H') {F : Addr → Prop} (hF : ∀ a, SA B φ τ a → F a) {t : List Tr} {v : List V} (r : RepL F H t v) : RepL F H' t v := repL_mono (fun a o e n => ⟨h.keep a o e (fun s => n (hF a s)), n⟩) t v r
theorem frz_noSA (R : RS K B φ σ τ H) {a : Addr} {o : Obj} {u : HO} (e : H a = some (.frz o u)) : ¬ SA B φ τ a := fun s => by
  obtain ⟨n, b, q, _⟩ := R.sst a s
  rw [e] at q; cases q
theorem tb_noSA (R : RS K B φ σ τ H) {a : Addr} {q : Str} (e : H a = some (.tb q)) : ¬ SA B φ τ a := fun s => by
  obtain ⟨n, b, y, _⟩ := R.sst a s
  rw [e] at y; cases y
theorem TabH.hx (t : TabH K H) (R : RS K B φ σ τ H) (h : HX B φ τ H H') : TabH K H' := fun P q e => h.keep P _ (t P q e) (tb_noSA R (t P q e))
theorem RS.hx (R : RS K B φ σ τ H) (h : HX B φ τ H H') : RS K B φ σ τ H' where
  f0 := R.f0
  s0 := R.s0
  ext := fun a o e n => by
    by_cases s : SA B φ τ a
    · have q := R.ext a o e n
      rcases s with s | ⟨i, s, hi⟩
      · exact absurd s n
      · have en := R.ent i
        rw [hi] at en
        obtain ⟨p, _, e2, e3⟩ := en
        rw [s] at e2; cases e2
        rcases e3 with z | z
        · exact absurd z n
        · rw [z] at e; cases e
    · exact h.keep a o (R.ext a o e n) s
  sst := h.st
  inj := R.inj
  ow := fun i a e z => R.ow i a e (h.none z)
  len := R.len
  ent := fun i => by
    have en := R.ent i
    revert en
    cases hi : nth τ i with
    | un => exact fun _ => trivial
    | fz t => exact fun ⟨v, e, r⟩ => ⟨v, e, h.rep (fun a s => R.sAv s) r⟩
    | ow ts =>
      intro ⟨a, ws, e1, e2, e3, e4, r⟩
      refine ⟨a, ws, e1, e2, e3, ?_, h.repL (fun a s => R.sAv s) r⟩
      by_cases s : SA B φ τ a
      · rcases s with s | ⟨j, s, hj⟩
        · exact absurd e3 (R.f0 a (R.s0 a s))
        · have := R.inj i j a ts hi e2 s
          subst this
          rw [hi] at hj; cases hj
      · exact h.keep a _ e4 s
    | st => exact fun z => z
    | ob a => exact fun z => z
    | sc ns =>
      intro ⟨a, e, l, q, tb⟩
      refine ⟨a, e, l, ?_, tb.hx R h⟩
      rcases q with ⟨o, q⟩ | q
      · exact .inl ⟨o, h.keep a _ q (frz_noSA R q)⟩
      · exact .inr q
  gh := fun p hp => h.rep (fun a s => R.sAv s) (R.gh p hp)
end
end L2
set_option Elab.async false
set_option linter.all false
set_option maxRecDepth 100000
set_option maxHeartbeats 4000000
namespace L2
open PySem PySem.Spec PyProof.Rows
noncomputable abbrev DE := TSt → (Tr → Prop) → Prop
noncomputable abbrev DT := TSt → (Bool → Prop) → Prop
noncomputable abbrev DA := TSt → (List Tr → Prop) → Prop
structure TEnds where
  nx : TSt → Prop
  rt : Tr → Prop
  bk : TSt → Prop := fun _ => False
  ct : TSt → Prop := fun _ => False
noncomputable abbrev DS := TEnds → TSt → Prop
noncomputable abbrev DG := Tr → TSt → (TSt → Prop) → Prop
noncomputable abbrev DGs := List Tr → TSt → (TSt → Prop) → Prop
noncomputable def OkE (K : PySem.W.Frag) (b : Bool) (te : TE) (d : DE) : Prop := ∀ (B : FB) (φ : Phi) (σ : St) (τ : TSt) (H : Hp) (Q : VK) (KK : Tr → Prop), RS K B φ σ τ H → d τ KK →
  (∀ t v H', HX B φ τ H H' → KK t → Rep (AvB b B φ τ) H' t v → Q v H') → te σ H Q
noncomputable def OkF (K : PySem.W.Frag) (te : TE) (d : DE) : Prop := ∀ (B : FB) (φ : Phi) (σ : St) (τ : TSt) (H : Hp) (Q : VK) (KK : Tr → Prop), RS K B φ σ τ H → d τ KK →
  (∀ ts a ws H', HX B φ τ H H' → KK (.lst ts) → H a = none → H' a = some (.lst ws) → RepL (fun c => Av B φ c ∨ c = a) H' ts ws → Q (.ref a) H') → te σ H Q
noncomputable def OkT (K : PySem.W.Frag) (t : TT) (d : DT) : Prop := ∀ (B : FB) (φ : Phi) (σ : St) (τ : TSt) (H : Hp) (Q : Bool → Hp → Prop) (KK : Bool → Prop), RS K B φ σ τ H → d τ KK →
  (∀ b H', HX B φ τ H H' → KK b → Q b H') → t σ H Q
noncomputable def OkA (K : PySem.W.Frag) (b : Bool) (n : Nat) (ta : TA) (d : DA) : Prop := ∀ (B : FB) (φ : Phi) (σ : St) (τ : TSt) (H : Hp) (Q : List V → Hp → Prop) (KK : List Tr → Prop), RS K B φ σ τ H → d τ KK →
  (∀ ts vs H', HX B φ τ H H' → KK ts → ts.length = n → RepL (AvB b B φ τ) H' ts vs → Q vs H') → ta σ H Q
noncomputable def HXA (B : FB) (φ : Phi) (H H' : Hp) : Prop := ∀ a o, H a = some o → ¬ Av B φ a → H' a = some o
noncomputable def OkG (K : PySem.W.Frag) (g : TG) (d : DG) : Prop := ∀ (B : FB) (φ : Phi) (σ : St) (τ : TSt) (H : Hp) (t : Tr) (v : V) (Q : St → Hp → Prop) (KK : TSt → Prop), RS K B φ σ τ H → Rep (Av B φ) H t v → d t τ KK →
  (∀ φ' σ' τ' H', RS K B φ' σ' τ' H' → (∀ a, Av B φ' a → Av B φ a) → HXA B φ H H' → KK τ' → Q σ' H') → g v σ H Q
noncomputable def FrL (F : Addr → Prop) (H H' : Hp) (t : Tr) (v : V) : Prop := ∃ a ts ws, v = .ref a ∧ t = .lst ts ∧ H a = none ∧ H' a = some (.lst ws) ∧ RepL (fun c => F c ∨ c = a) H' ts ws
structure ExtB (B : FB) (H : Hp) : Prop where
  ext : ∀ a o, B.H0 a = some o → ¬ B.S0 a → H a = some o
  st : ∀ a, B.S0 a → IsSt a H
structure EOk (K : PySem.W.Frag) (B : FB) (fr : Bool) (E : Ends) (G : TEnds) : Prop where
  nx : ∀ φ σ τ H, RS K B φ σ τ H → G.nx τ → E.nx σ H
  bk : ∀ φ σ τ H, RS K B φ σ τ H → G.bk τ → E.bk σ H
  ct : ∀ φ σ τ H, RS K B φ σ τ H → G.ct τ → E.ct σ H
  rt : ∀ t v H, Rep B.F0 H t v → ExtB B H → G.rt t → (fr = true → FrL B.F0 B.H0 H t v) → E.rt v H
noncomputable def OkS (K : PySem.W.Frag) (fr : Bool) (T : TS) (D : DS) : Prop := ∀ (B : FB) (φ : Phi) (σ : St) (τ : TSt) (H : Hp) (E : Ends) (G : TEnds), RS K B φ σ τ H → D G τ → EOk K B fr E G → T E σ H
section
variable {K : PySem.W.Frag} {B : FB} {φ : Phi} {σ : St} {τ : TSt} {H H' H'' : Hp}
theorem RS.extB (R : RS K B φ σ τ H) : ExtB B H := ⟨R.ext, fun a s => R.sst a (.inl s)⟩
theorem repB {b : Bool} {t : Tr} {v : V} (R : RS K B φ σ τ H) (h : Rep (AvB b B φ τ) H' t v) : Rep (Wk B φ τ) H' t v := by
  cases b with
  | true => exact rep_mono (fun a o e n => ⟨e, fun w => n (R.wAv w)⟩) t v h
  | false => exact h
theorem OkF.e {te : TE} {d : DE} (h : OkF K te d) : OkE K true te d := fun B φ σ τ H Q KK R hd q => h B φ σ τ H Q KK R hd fun ts a ws H' x k e e' r => q _ _ H' x k ⟨a, ws, rfl, fun z => R.dom z e, e', repL_mono (fun c o e n => ⟨e, fun z => n (.inl z)⟩) _ _ r⟩
noncomputable def dVar (i : Nat) : DE := fun τ KK => match nth τ i with | .fz t => KK t | _ => False
noncomputable def dC (t : Tr) : DE := fun _ KK => KK t
theorem ok_var {i : Nat} : OkE K true (tVar i) (dVar i) := fun B φ σ τ H Q KK R hd q => by
  have en := R.ent i
  unfold dVar at hd
  revert en hd
  cases nth τ i with
  | fz t => exact fun k ⟨v, e, r⟩ => ⟨v, e, q t v H (HX.refl R) k r⟩
  | _ => exact fun z _ => z.elim
theorem ok_c {t : Tr} {v : V} (h : scalT t = some v := by rfl) : OkE K true (tC v) (dC t) := fun B φ σ τ H Q KK R hd q => q t v H (HX.refl R) hd (rep_scal h)
noncomputable def d2 (f : Tr → Tr → (Tr → Prop) → Prop) (da db : DE) : DE := fun τ KK => da τ fun x => db τ fun y => f x y KK
noncomputable def OpS (r : R2) (f : Tr → Tr → (Tr → Prop) → Prop) : Prop := ∀ (F G : Addr → Prop) (H : Hp) (x y : V) (t u : Tr) (KK : Tr → Prop) (Q : VK), Rep F H t x → Rep G H u y → f t u KK → (∀ w v, scalT w = some v → KK w → Q v H) → r x y H Q
theorem ok_opS {b c : Bool} {r : R2} {f : Tr → Tr → (Tr → Prop) → Prop} {ta tb : TE} {da db : DE} (hr : OpS r f) (ha : OkE K b ta da) (hb : OkE K c tb db) : OkE K true (tOp r ta tb) (d2 f da db) := fun B φ σ τ H Q KK R hd q =>
  ha B φ σ τ H _ _ R hd fun t v H1 x1 k1 r1 => hb B φ σ τ H1 _ _ (R.hx x1) k1 fun u w H2 x2 k2 r2 =>
    hr _ _ H2 v w t u KK Q (x2.rep (fun a s => R.sB s) r1) r2 k2 fun z v' e k => q z v' H2 (x1.trans x2) k (rep_scal e)
noncomputable def fI (C : Int → Int → Prop) (g : Int → Int → Tr) (x y : Tr) (KK : Tr → Prop) : Prop := match x, y with | .int i, .int j => C i j ∧ KK (g i j) | _, _ => False
noncomputable def fI0 (g : Int → Int → Tr) (x y : Tr) (KK : Tr → Prop) : Prop := match x, y with | .int i, .int j => KK (g i j) | _, _ => False
theorem ops_I {C : Int → Int → Prop} {g : Int → Int → V} {g' : Int → Int → Tr} (h : ∀ i j, scalT (g' i j) = some (g i j)) : OpS (rI C g) (fI C g') := by
  intro F G H x y t u KK Q r1 r2 hf q
  unfold fI at hf
  split at hf
  · rename_i i j
    cases (show x = .int i from r1); cases (show y = .int j from r2)
    exact ⟨i, j, rfl, rfl, hf.1, q _ _ (h i j) hf.2⟩
  · exact hf.elim
theorem ops_I0 {g : Int → Int → V} {g' : Int → Int → Tr} (h : ∀ i j, scalT (g' i j) = some (g i j)) : OpS (rI0 g) (fI0 g') := by
  intro F G H x y t u KK Q r1 r2 hf q
  unfold fI0 at hf
  split at hf
  · rename_i i j
    cases (show x = .int i from r1); cases (show y = .int j from r2)
    exact ⟨i, j, rfl, rfl, q _ _ (h i j) hf⟩
  · exact hf.elim
noncomputable abbrev fAdd := fI0 fun i j => .int (i + j)
noncomputable abbrev fSub := fI0 fun i j => .int (i - j)
noncomputable abbrev fLe := fI0 fun i j => .bl (decide (i ≤ j))
noncomputable abbrev fGt := fI0 fun i j => .bl (decide (j < i))
noncomputable abbrev fGe := fI0 fun i j => .bl (decide (j ≤ i))
theorem os_add : OpS (rI0 fun i j => .int (i + j)) fAdd := ops_I0 fun _ _ => rfl
theorem os_sub : OpS (rI0 fun i j => .int (i - j)) fSub := ops_I0 fun _ _ => rfl
theorem os_le : OpS (rI0 fun i j => .bl (decide (i ≤ j))) fLe := ops_I0 fun _ _ => rfl
theorem os_gt : OpS (rI0 fun i j => .bl (decide (j < i))) fGt := ops_I0 fun _ _ => rfl
theorem os_ge : OpS (rI0 fun i j => .bl (decide (j ≤ i))) fGe := ops_I0 fun _ _ => rfl
noncomputable def Bd (i : Int) : Prop := i.natAbs < 2 ^ 2000
theorem bd_of {i : Int} (h1 : -(10 ^ 100) ≤ i) (h2 : i ≤ 10 ^ 100) : Bd i := by
  have : i.natAbs ≤ 10 ^ 100 := by (first | lia | omega)
  exact Nat.lt_of_le_of_lt this (by decide +kernel)
theorem log2_lt_of {n k : Nat} (h : n < 2 ^ k) (hk : 0 < k) : n.log2 < k := by
  by_cases h0 : n = 0
  · subst h0; simpa using hk
  · exact (Nat.log2_lt h0).mpr h
theorem Bd.bits {i : Int} (h : Bd i) : Builtin.Int.intBits i ≤ 2000 := by
  unfold Builtin.Int.intBits
  split
  · exact Nat.zero_le _
  · have := log2_lt_of h (by decide)
    (first | lia | omega)
noncomputable def CM (i j : Int) : Prop := Bd i ∧ Bd j
theorem CM.ok {i j : Int} (h : CM i j) : IntMulOk i j := PyProof.Rows.mulOk_of_bits h.1.bits h.2.bits (by decide)
section
variable {X : Cx}
theorem op_mulB : OpR X (binaryOp .Mult) (rI CM fun i j => .int (i * j)) := opI fun _ _ _ _ _ _ _ hc q => mul_int q hc.ok
noncomputable def CDv (_i j : Int) : Prop := j ≠ 0 ∧ Bd j
theorem op_fdvB : OpR X (binaryOp .FloorDiv) (rI CDv fun i j => .int (i.fdiv j)) := opI fun i j _ _ _ _ _ hc q =>
  floordiv_int hc.1 q (.inl (PyProof.noPylong_of_log2 (Nat.lt_trans (log2_lt_of hc.2 (by decide)) (by decide))))
end
noncomputable abbrev fMul := fI CM fun i j => .int (i * j)
noncomputable abbrev fDiv := fI CDv fun i j => .int (i.fdiv j)
noncomputable abbrev fMod := fI (fun _ j => j ≠ 0) fun i j => .int (i.fmod j)
theorem os_mul : OpS (rI CM fun i j => .int (i * j)) fMul := ops_I fun _ _ => rfl
theorem os_div : OpS (rI CDv fun i j => .int (i.fdiv j)) fDiv := ops_I fun _ _ => rfl
theorem os_mod : OpS (rI (fun _ j => j ≠ 0) fun i j => .int (i.fmod j)) fMod := ops_I fun _ _ => rfl
noncomputable def d1 (f : Tr → (Tr → Prop) → Prop) (da : DE) : DE := fun τ KK => da τ fun x => f x KK
noncomputable def fNeg (x : Tr) (KK : Tr → Prop) : Prop := match x with | .int i => KK (.int (-i)) | _ => False
theorem ok_neg {b : Bool} {ta : TE} {da : DE} (ha : OkE K b ta da) : OkE K true (tUn (rU fun i => .int (-i)) ta) (d1 fNeg da) := fun B φ σ τ H Q KK R hd q =>
  ha B φ σ τ H _ _ R hd fun t v H1 x1 k1 r1 => by
    cases t with
    | int i => cases (show v = .int i from r1); exact ⟨i, rfl, q _ _ H1 x1 k1 rfl⟩
    | _ => exact k1.elim
noncomputable def isNon : Tr → Bool
  | .non => true
  | _ => false
theorem rep_isNon {F : Addr → Prop} {t : Tr} {v : V} (r : Rep F H t v) : decide (v = .non) = isNon t := by
  cases t with
  | non => cases (show v = .non from r); rfl
  | bl b => cases (show v = .bl b from r); rfl
  | int b => cases (show v = .int b from r); rfl
  | str b => cases (show v = .str b from r); rfl
  | emp => obtain ⟨a, e, _⟩ := r; subst e; rfl
  | tup ts => obtain ⟨a, ws, e, _⟩ := r; subst e; rfl
  | lst ts => obtain ⟨a, ws, e, _⟩ := r; subst e; rfl
theorem ok_isN {b : Bool} {ta : TE} {da : DE} (ha : OkE K b ta da) : OkE K true (tIsN ta) (d1 (fun x KK => KK (.bl (isNon x))) da) := fun B φ σ τ H Q KK R hd q =>
  ha B φ σ τ H _ _ R hd fun t v H1 x1 k1 r1 => by
    show Q (.bl (decide (v = .non))) H1
    rw [rep_isNon r1]; exact q _ _ H1 x1 k1 rfl
theorem ok_notN {b : Bool} {ta : TE} {da : DE} (ha : OkE K b ta da) : OkE K true (tNotN ta) (d1 (fun x KK => KK (.bl (!isNon x))) da) := fun B φ σ τ H Q KK R hd q =>
  ha B φ σ τ H _ _ R hd fun t v H1 x1 k1 r1 => by
    show Q (.bl (!decide (v = .non))) H1
    rw [rep_isNon r1]; exact q _ _ H1 x1 k1 rfl
noncomputable def fB (x : Tr) (KK : Bool → Prop) : Prop := match x with | .bl b => KK b | _ => False
noncomputable def dTst (d : DE) : DT := fun τ KK => d τ fun x => fB x KK
theorem okt_tB {b : Bool} {ta : TE} {da : DE} (ha : OkE K b ta da) : OkT K (tB ta) (dTst da) := fun B φ σ τ H Q KK R hd q =>
  ha B φ σ τ H _ _ R hd fun t v H1 x1 k1 r1 => by
    cases t with
    | bl i => cases (show v = .bl i from r1); exact ⟨i, rfl, q _ H1 x1 k1⟩
    | _ => exact k1.elim
theorem okt_test {b : Bool} {ta : TE} {da : DE} (ha : OkE K b ta da) : OkT K (tTest ta) (dTst da) := okt_tB ha
noncomputable def dAnd (a b : DT) : DT := fun τ KK => a τ fun c => if c = true then b τ KK else KK false
noncomputable def dOr (a b : DT) : DT := fun τ KK => a τ fun c => if c = true then KK true else b τ KK
noncomputable def dNot (a : DT) : DT := fun τ KK => a τ fun c => KK (!c)
theorem okt_and {ta tb : TT} {da db : DT} (ha : OkT K ta da) (hb : OkT K tb db) : OkT K (tAnd ta tb) (dAnd da db) := fun B φ σ τ H Q KK R hd q =>
  ha B φ σ τ H _ _ R hd fun c H1 x1 k1 => by
    cases c with
    | true => exact iteT (hb B φ σ τ H1 _ _ (R.hx x1) k1 fun d H2 x2 k2 => q d H2 (x1.trans x2) k2)
    | false => exact iteF (q false H1 x1 k1)
theorem okt_or {ta tb : TT} {da db : DT} (ha : OkT K ta da) (hb : OkT K tb db) : OkT K (tOr ta tb) (dOr da db) := fun B φ σ τ H Q KK R hd q =>
  ha B φ σ τ H _ _ R hd fun c H1 x1 k1 => by
    cases c with
    | false => exact iteF (hb B φ σ τ H1 _ _ (R.hx x1) k1 fun d H2 x2 k2 => q d H2 (x1.trans x2) k2)
    | true => exact iteT (q true H1 x1 k1)
theorem okt_not {ta : TT} {da : DT} (ha : OkT K ta da) : OkT K (tNot ta) (dNot da) := fun B φ σ τ H Q KK R hd q =>
  ha B φ σ τ H _ _ R hd fun c H1 x1 k1 => q (!c) H1 x1 k1
noncomputable def dAndV (a b : DE) : DE := fun τ KK => a τ fun x => fB x fun c => if c = true then b τ KK else KK (.bl false)
noncomputable def dOrV (a b : DE) : DE := fun τ KK => a τ fun x => fB x fun c => if c = true then KK (.bl true) else b τ KK
noncomputable def dNotV (a : DE) : DE := fun τ KK => a τ fun x => fB x fun c => KK (.bl (!c))
theorem ok_andV {b c : Bool} {ta tb : TE} {da db : DE} (ha : OkE K b ta da) (hb : OkE K c tb db) : OkE K c (tAndV ta tb) (dAndV da db) := fun B φ σ τ H Q KK R hd q =>
  ha B φ σ τ H _ _ R hd fun t v H1 x1 k1 r1 => by
    cases t with
    | bl i =>
      cases (show v = .bl i from r1)
      refine ⟨i, rfl, ?_⟩
      cases i with
      | true => exact iteT (hb B φ σ τ H1 _ _ (R.hx x1) k1 fun d w H2 x2 k2 r2 => q d w H2 (x1.trans x2) k2 r2)
      | false => exact iteF (q _ _ H1 x1 k1 (rep_scal rfl))
    | _ => exact k1.elim
theorem ok_orV {b c : Bool} {ta tb : TE} {da db : DE} (ha : OkE K b ta da) (hb : OkE K c tb db) : OkE K c (tOrV ta tb) (dOrV da db) := fun B φ σ τ H Q KK R hd q =>
  ha B φ σ τ H _ _ R hd fun t v H1 x1 k1 r1 => by
    cases t with
    | bl i =>
      cases (show v = .bl i from r1)
      refine ⟨i, rfl, ?_⟩
      cases i with
      | false => exact iteF (hb B φ σ τ H1 _ _ (R.hx x1) k1 fun d w H2 x2 k2 r2 => q d w H2 (x1.trans x2) k2 r2)
      | true => exact iteT (q _ _ H1 x1 k1 (rep_scal rfl))
    | _ => exact k1.elim
theorem ok_notV {b : Bool} {ta : TE} {da : DE} (ha : OkE K b ta da) : OkE K true (tNotV ta) (dNotV da) := fun B φ σ τ H Q KK R hd q =>
  ha B φ σ τ H _ _ R hd fun t v H1 x1 k1 r1 => by
    cases t with
    | bl i => cases (show v = .bl i from r1); exact ⟨i, rfl, q _ _ H1 x1 k1 rfl⟩
    | _ => exact k1.elim
noncomputable def dNil : DA := fun _ KK => KK []
noncomputable def dCons (a : DE) (r : DA) : DA := fun τ KK => a τ fun x => r τ fun xs => KK (x :: xs)
theorem oka_nil {b : Bool} : OkA K b 0 tNil dNil := fun B φ σ τ H Q KK R hd q => q [] [] H (HX.refl R) hd rfl rfl
theorem oka_cons {b : Bool} {n : Nat} {te : TE} {ta : TA} {de : DE} {da : DA} (he : OkE K b te de) (ha : OkA K b n ta da) : OkA K b (n + 1) (tCons te ta) (dCons de da) := fun B φ σ τ H Q KK R hd q =>
  he B φ σ τ H _ _ R hd fun t v H1 x1 k1 r1 => ha B φ σ τ H1 _ _ (R.hx x1) k1 fun ts vs H2 x2 k2 l2 r2 => q (t :: ts) (v :: vs) H2 (x1.trans x2) k2 (by rw [List.length_cons, l2]) ⟨v, vs, rfl, x2.rep (fun a s => R.sB s) r1, r2⟩
noncomputable def dTup (a : DA) : DE := fun τ KK => a τ fun xs => KK (.tup xs)
noncomputable def dLst (a : DA) : DE := fun τ KK => a τ fun xs => KK (.lst xs)
theorem rep_upd {F : Addr → Prop} {p : Addr} {o : HO} {t : Tr} {v : V} (hp : H p = none) (r : Rep F H t v) : Rep F (upd H p o) t v := rep_mono (fun a u e n => ⟨by rw [upd_ne (ne_of_none e hp)]; exact e, n⟩) t v r
theorem repL_upd {F : Addr → Prop} {p : Addr} {o : HO} {t : List Tr} {v : List V} (hp : H p = none) (r : RepL F H t v) : RepL F (upd H p o) t v := repL_mono (fun a u e n => ⟨by rw [upd_ne (ne_of_none e hp)]; exact e, n⟩) t v r
theorem repL_new {F : Addr → Prop} {p : Addr} {o : HO} {t : List Tr} {v : List V} (hp : H p = none) (r : RepL F H t v) : RepL (fun c => F c ∨ c = p) (upd H p o) t v := repL_mono (fun a u e n => ⟨by rw [upd_ne (ne_of_none e hp)]; exact e, fun z => z.elim n (ne_of_none e hp)⟩) t v r
theorem ok_tup {b : Bool} {n : Nat} {ta : TA} {da : DA} (ha : OkA K b n ta da) (hn : n ≤ sizeLine := by decide) : OkE K b (tTup ta) (dTup da) := fun B φ σ τ H Q KK R hd q =>
  ha B φ σ τ H _ _ R hd fun ts vs H1 x1 k1 l1 r1 => ⟨by rw [← r1.len, l1]; exact hn, fun p hp =>
    q _ _ _ (x1.trans (HX.new (R.hx x1) hp _)) k1 ⟨p, vs, rfl, fun z => (R.hx x1).domB z hp, upd_same, repL_upd hp r1⟩⟩
theorem okf_lst {n : Nat} {ta : TA} {da : DA} (ha : OkA K true n ta da) (hn : n ≤ sizeLine := by decide) : OkF K (tLst ta) (dLst da) := fun B φ σ τ H Q KK R hd q =>
  ha B φ σ τ H _ _ R hd fun ts vs H1 x1 k1 l1 r1 => ⟨by rw [← r1.len, l1]; exact hn, fun p hp =>
    q ts p vs _ (x1.trans (HX.new (R.hx x1) hp _)) k1 (x1.none hp) upd_same (repL_new hp r1)⟩
theorem ok_lst {b : Bool} {n : Nat} {ta : TA} {da : DA} (ha : OkA K b n ta da) (hn : n ≤ sizeLine := by decide) : OkE K b (tLst ta) (dLst da) := fun B φ σ τ H Q KK R hd q =>
  ha B φ σ τ H _ _ R hd fun ts vs H1 x1 k1 l1 r1 => ⟨by rw [← r1.len, l1]; exact hn, fun p hp =>
    q _ _ _ (x1.trans (HX.new (R.hx x1) hp _)) k1 ⟨p, vs, rfl, fun z => (R.hx x1).domB z hp, upd_same, repL_upd hp r1⟩⟩
end
end L2
set_option Elab.async false
set_option linter.all false
set_option maxRecDepth 100000
set_option maxHeartbeats 4000000
namespace L2
open PySem PySem.Spec PyProof.Rows
noncomputable def getT {α : Type} : List α → Nat → Option α
  | [], _ => none
  | x :: _, 0 => some x
  | _ :: r, n + 1 => getT r n
theorem getT_eq {α : Type} : ∀ (l : List α) (n : Nat), getT l n = l[n]?
  | [], _ => by simp [getT]
  | _ :: _, 0 => by simp [getT]
  | _ :: r, n + 1 => by simp [getT, getT_eq r n]
noncomputable def atT {α : Type} (ts : List α) : Int → Option α
  | .ofNat n => getT ts n
  | .negSucc n => if n < ts.length then getT ts (ts.length - 1 - n) else none
theorem atT_eq {α : Type} (ts : List α) (i : Int) : atT ts i = atI ts i := by
  unfold atI ixN
  cases i with
  | ofNat n =>
    show getT ts n = _
    rw [getT_eq]
    have h0 : (0 : Int) ≤ Int.ofNat n := Int.natCast_nonneg n
    rw [if_pos h0]
    by_cases h : (Int.ofNat n) < (ts.length : Int)
    · rw [if_pos h]; rfl
    · rw [if_neg h]
      have : ts.length ≤ n := by
        have h' : ¬ ((n : Int) < (ts.length : Int)) := h
        (first | lia | omega)
      rw [List.getElem?_eq_none this]; rfl
  | negSucc n =>
    show (if n < ts.length then getT ts (ts.length - 1 - n) else none) = _
    have h0 : ¬ (0 : Int) ≤ Int.negSucc n := by (first | lia | omega)
    rw [if_neg h0]
    by_cases h : n < ts.length
    · rw [if_pos h, getT_eq, if_pos (by (first | lia | omega))]
      show ts[ts.length - 1 - n]? = ts[(Int.negSucc n + (ts.length : Int)).toNat]?
      congr 1
      (first | lia | omega)
    · rw [if_neg h, if_neg (by (first | lia | omega))]; rfl
section
variable {K : PySem.W.Frag} {B : FB} {φ : Phi} {σ : St} {τ : TSt} {H H' H'' : Hp}
theorem RepL.at {F : Addr → Prop} {ts : List Tr} {ws : List V} {i : Int} {t : Tr} (r : RepL F H ts ws) (h : atT ts i = some t) : ∃ w, atI ws i = some w ∧ Rep F H t w := by
  rw [atT_eq] at h
  unfold atI at h ⊢
  rw [← r.len]
  cases e : ixN ts.length i with
  | none => rw [e] at h; cases h
  | some j =>
    rw [e] at h
    exact r.getT h
noncomputable def fOpt (o : Option Tr) (KK : Tr → Prop) : Prop := match o with | some t => KK t | none => False
noncomputable def fIx (x y : Tr) (KK : Tr → Prop) : Prop := match x, y with | .tup ts, .int i => fOpt (atT ts i) KK | .lst ts, .int i => fOpt (atT ts i) KK | _, _ => False
theorem ok_ix {b c : Bool} {ta tb : TE} {da db : DE} (ha : OkE K b ta da) (hb : OkE K c tb db) : OkE K b (tOp (rIx K) ta tb) (d2 fIx da db) := fun B φ σ τ H Q KK R hd q =>
  ha B φ σ τ H _ _ R hd fun t v H1 x1 k1 r1 => hb B φ σ τ H1 _ _ (R.hx x1) k1 fun u w H2 x2 k2 r2 => by
    have r1' := x2.rep (fun a s => R.sB s) r1
    unfold fIx at k2
    split at k2
    · rename_i ts i
      obtain ⟨a, ws, e, n, ha', rl⟩ := r1'
      cases (show w = .int i from r2)
      subst e
      cases e : atT ts i with
      | none => rw [e] at k2; exact k2.elim
      | some z =>
        rw [e] at k2
        obtain ⟨y, e1, e2⟩ := rl.at e
        exact .inr (.inl ⟨a, ws, i, y, rfl, rfl, SqT.of ha', e1, q z y H2 (x1.trans x2) k2 e2⟩)
    · rename_i ts i
      obtain ⟨a, ws, e, n, ha', rl⟩ := r1'
      cases (show w = .int i from r2)
      subst e
      cases e : atT ts i with
      | none => rw [e] at k2; exact k2.elim
      | some z =>
        rw [e] at k2
        obtain ⟨y, e1, e2⟩ := rl.at e
        exact .inl ⟨a, ws, i, y, rfl, rfl, SqL.of ha', e1, q z y H2 (x1.trans x2) k2 e2⟩
    · exact k2.elim
noncomputable def fIxL (ts : List Tr) (y : Tr) (KK : Tr → Prop) : Prop := match y with | .int k => fOpt (atT ts k) KK | _ => False
noncomputable def dIxO (i : Nat) (db : DE) : DE := fun τ KK => match nth τ i with | .ow ts => db τ fun y => fIxL ts y KK | _ => False
theorem ow_after {i : Nat} {a : Addr} {ts : List Tr} (R : RS K B φ σ τ H) (x : HX B φ τ H H') (hi : nth τ i = .ow ts) (e1 : σ[i]? = some (some (.ref a))) : ∃ ws, H' a = some (.lst ws) ∧ RepL (Av B φ) H' ts ws ∧ φ i = some a ∧ B.H0 a = none := by
  have en2 := (R.hx x).ent i
  rw [hi] at en2
  obtain ⟨a', ws', e1', e2, e3, e4', r'⟩ := en2
  rw [e1] at e1'; cases e1'
  exact ⟨ws', e4', r', e2, e3⟩
theorem ok_ixO {c : Bool} {i : Nat} {tb : TE} {db : DE} (hb : OkE K c tb db) : OkE K true (tOp (rIx K) (tVar i) tb) (dIxO i db) := fun B φ σ τ H Q KK R hd q => by
  have en := R.ent i
  unfold dIxO at hd
  revert en hd
  cases hi : nth τ i with
  | ow ts =>
    intro hd ⟨a, ws, e1, e2, e3, e4, r⟩
    refine ⟨_, e1, hb B φ σ τ H _ _ R hd fun u w H2 x2 k2 r2 => ?_⟩
    obtain ⟨ws', e4', r', _⟩ := ow_after R x2 hi e1
    cases u with
    | int k =>
      cases (show w = .int k from r2)
      have k2 : fOpt (atT ts k) KK := k2
      cases e : atT ts k with
      | none => rw [e] at k2; exact k2.elim
      | some z =>
        rw [e] at k2
        obtain ⟨y, f1, f2⟩ := r'.at e
        exact .inl ⟨a, ws', k, y, rfl, rfl, SqL.of e4', f1, q z y H2 x2 k2 f2⟩
    | _ => exact k2.elim
  | _ => exact fun z _ => z.elim
noncomputable abbrev DO := TSt → (Option Int → Prop) → Prop
noncomputable def OkO (K : PySem.W.Frag) (t : TO) (d : DO) : Prop := ∀ (B : FB) (φ : Phi) (σ : St) (τ : TSt) (H : Hp) (Q : Option Int → Hp → Prop) (KK : Option Int → Prop), RS K B φ σ τ H → d τ KK → (∀ o H', HX B φ τ H H' → KK o → Q o H') → t σ H Q
noncomputable def dNoPart : DO := fun _ KK => KK none
noncomputable def dPart (d : DE) : DO := fun τ KK => d τ fun x => match x with | .int i => KK (some i) | _ => False
theorem oko_none : OkO K tNoPart dNoPart := fun B φ σ τ H Q KK R hd q => q none H (HX.refl R) hd
theorem oko_some {b : Bool} {te : TE} {d : DE} (h : OkE K b te d) : OkO K (tPart te) (dPart d) := fun B φ σ τ H Q KK R hd q =>
  h B φ σ τ H _ _ R hd fun t v H1 x1 k1 r1 => by
    cases t with
    | int i => cases (show v = .int i from r1); exact ⟨i, rfl, q _ H1 x1 k1⟩
    | _ => exact k1.elim
noncomputable def cutT {α : Type} (xs : List α) (lo hi : Option Int) : List α := (xs.drop (HT.sIx xs.length 0 lo)).take (HT.sIx xs.length xs.length hi - HT.sIx xs.length 0 lo)
theorem RepL.cut {F : Addr → Prop} {ts : List Tr} {ws : List V} (r : RepL F H ts ws) (lo hi : Option Int) : RepL F H (cutT ts lo hi) (cutV ws lo hi) := by
  unfold cutT cutV
  rw [← r.len]
  exact repL_iff.mpr (paired_take _ (paired_drop _ (repL_iff.mp r)))
noncomputable def dSl (d : DE) (dl dh : DO) : DE := fun τ KK => d τ fun x => dl τ fun lo => dh τ fun hi => match x with | .tup ts => KK (.tup (cutT ts lo hi)) | .lst ts => KK (.lst (cutT ts lo hi)) | _ => False
noncomputable def dCB (f : List Tr → (Tr → Prop) → Prop) (da : DA) : DE := fun τ KK => da τ fun xs => f xs KK
noncomputable def CbS (r : List V → Hp → VK → Prop) (f : List Tr → (Tr → Prop) → Prop) : Prop := ∀ (F : Addr → Prop) (H : Hp) (vs : List V) (ts : List Tr) (KK : Tr → Prop) (Q : VK), RepL F H ts vs → f ts KK → (∀ w v, scalT w = some v → KK w → Q v H) → r vs H Q
theorem ok_cbS {b : Bool} {n : Nat} {r : List V → Hp → VK → Prop} {f : List Tr → (Tr → Prop) → Prop} {ta : TA} {da : DA} (hr : CbS r f) (ha : OkA K b n ta da) : OkE K true (tCB r ta) (dCB f da) := fun B φ σ τ H Q KK R hd q =>
  ha B φ σ τ H _ _ R hd fun ts vs H1 x1 k1 l1 r1 => hr _ H1 vs ts KK Q r1 k1 fun w v e k => q w v H1 x1 k (rep_scal e)
theorem repL1 {F : Addr → Prop} {t : Tr} {vs : List V} (h : RepL F H [t] vs) : ∃ v, vs = [v] ∧ Rep F H t v := by
  obtain ⟨w, r, e, h1, h2⟩ := h
  cases (show r = [] from h2)
  exact ⟨w, e, h1⟩
theorem repL2 {F : Addr → Prop} {t u : Tr} {vs : List V} (h : RepL F H [t, u] vs) : ∃ v w, vs = [v, w] ∧ Rep F H t v ∧ Rep F H u w := by
  obtain ⟨w, r, e, h1, h2⟩ := h
  obtain ⟨w', e', h3⟩ := repL1 h2
  subst e'
  exact ⟨w, w', e, h1, h3⟩
noncomputable def fLen (xs : List Tr) (KK : Tr → Prop) : Prop := match xs with | [.tup ts] => KK (.int ts.length) | [.lst ts] => KK (.int ts.length) | _ => False
theorem cb_len : CbS (rLenS K) fLen := by
  intro F H vs ts KK Q r hf q
  unfold fLen at hf
  split at hf
  · rename_i ts
    obtain ⟨v, rfl, a, ws, e, n, ha, rl⟩ := repL1 r
    exact ⟨a, ws, by rw [e], .inr (SqT.of ha), by rw [← rl.len]; exact q _ _ rfl hf⟩
  · rename_i ts
    obtain ⟨v, rfl, a, ws, e, n, ha, rl⟩ := repL1 r
    exact ⟨a, ws, by rw [e], .inl (SqL.of ha), by rw [← rl.len]; exact q _ _ rfl hf⟩
  · exact hf.elim
noncomputable def fAbs (xs : List Tr) (KK : Tr → Prop) : Prop := match xs with | [.int i] => KK (.int (if i < 0 then -i else i)) | _ => False
theorem cb_abs : CbS (fun xs H Q => ∃ i, xs = [.int i] ∧ Q (.int (if i < 0 then -i else i)) H) fAbs := by
  intro F H vs ts KK Q r hf q
  unfold fAbs at hf
  split at hf
  · rename_i i
    obtain ⟨v, rfl, e⟩ := repL1 r
    cases (show v = .int i from e)
    exact ⟨i, rfl, q _ _ rfl hf⟩
  · exact hf.elim
noncomputable def fMax2 (xs : List Tr) (KK : Tr → Prop) : Prop := match xs with | [.int i, .int j] => KK (.int (if j > i then j else i)) | _ => False
theorem cb_max2 : CbS (fun xs H Q => ∃ i j, xs = [.int i, .int j] ∧ Q (.int (if j > i then j else i)) H) fMax2 := by
  intro F H vs ts KK Q r hf q
  unfold fMax2 at hf
  split at hf
  · rename_i i j
    obtain ⟨v, w, rfl, e, e'⟩ := repL2 r
    cases (show v = .int i from e); cases (show w = .int j from e')
    exact ⟨i, j, rfl, q _ _ rfl hf⟩
  · exact hf.elim
noncomputable def fMin2 (xs : List Tr) (KK : Tr → Prop) : Prop := match xs with | [.int i, .int j] => KK (.int (if j < i then j else i)) | _ => False
theorem cb_min2 : CbS (fun xs H Q => ∃ i j, xs = [.int i, .int j] ∧ Q (.int (if j < i then j else i)) H) fMin2 := by
  intro F H vs ts KK Q r hf q
  unfold fMin2 at hf
  split at hf
  · rename_i i j
    obtain ⟨v, w, rfl, e, e'⟩ := repL2 r
    cases (show v = .int i from e); cases (show w = .int j from e')
    exact ⟨i, j, rfl, q _ _ rfl hf⟩
  · exact hf.elim
theorem repL_ints {F : Addr → Prop} : ∀ {ns : List Int} {ws : List V}, RepL F H (ns.map Tr.int) ws → ws = ns.map V.int
  | [], _, h => h
  | n :: ns, _, ⟨w, r, e, h1, h2⟩ => by
    cases (show w = .int n from h1)
    rw [e, repL_ints h2]; rfl
theorem repL_bls {F : Addr → Prop} : ∀ {ns : List Bool} {ws : List V}, RepL F H (ns.map Tr.bl) ws → ws = ns.map V.bl
  | [], _, h => h
  | n :: ns, _, ⟨w, r, e, h1, h2⟩ => by
    cases (show w = .bl n from h1)
    rw [e, repL_bls h2]; rfl
noncomputable def fAllL (xs : List Tr) (KK : Tr → Prop) : Prop := ∃ bs : List Bool, xs = [.lst (bs.map Tr.bl)] ∧ KK (.bl (bs.all id))
theorem cb_allL : CbS (rAllL K) fAllL := by
  intro F H vs ts KK Q r hf q
  obtain ⟨ns, rfl, h1⟩ := hf
  obtain ⟨v, rfl, a, ws, e, n, ha, rl⟩ := repL1 r
  rw [repL_bls rl] at ha
  exact ⟨a, ns, by rw [e], SqL.of ha, q _ _ rfl h1⟩
noncomputable def tyT : Tr → String
  | .non => "NoneType" | .bl _ => "bool" | .int _ => "int" | .str _ => "str" | .emp => "dict" | .tup _ => "tuple" | .lst _ => "list"
theorem rep_ty {F : Addr → Prop} {t : Tr} {v : V} (r : Rep F H t v) : tyN H v = some (tyT t) := by
  cases t with
  | non => cases (show v = .non from r); rfl
  | bl b => cases (show v = .bl b from r); rfl
  | int b => cases (show v = .int b from r); rfl
  | str b => cases (show v = .str b from r); rfl
  | emp => obtain ⟨a, e, _, h⟩ := r; subst e; simp only [tyN, h, tyT]
  | tup ts => obtain ⟨a, ws, e, _, h, _⟩ := r; subst e; simp only [tyN, h, tyT]
  | lst ts => obtain ⟨a, ws, e, _, h, _⟩ := r; subst e; simp only [tyN, h, tyT]
noncomputable def isTy (c : String) (t : Tr) : Bool := match c, t with
  | "int", .int _ => true | "int", .bl _ => true | "bool", .bl _ => true | "str", .str _ => true | "tuple", .tup _ => true | "list", .lst _ => true | "dict", .emp => true | _, _ => false
theorem isTy_eq {c : String} (h : c ∈ knownCl) (t : Tr) : subTy (tyT t) c = isTy c t := by
  simp only [knownCl, List.mem_cons, List.not_mem_nil, or_false] at h
  rcases h with rfl | rfl | rfl | rfl | rfl | rfl <;> cases t <;> rfl
noncomputable def dIsi (c : String) (d : DE) : DE := fun τ KK => d τ fun x => KK (.bl (isTy c x))
theorem ok_isi {b : Bool} {c : String} {te : TE} {d : DE} (h : OkE K b te d) (hc : c ∈ knownCl := by decide) : OkE K true (tCB rIsi (tCons te (tCons (tC (.ty c)) tNil))) (dIsi c d) := fun B φ σ τ H Q KK R hd q =>
  h B φ σ τ H _ _ R hd fun t v H1 x1 k1 r1 => ⟨v, c, tyT t, rfl, rep_ty r1, hc, by rw [isTy_eq hc]; exact q _ _ H1 x1 k1 rfl⟩
noncomputable def dLenSc (i : Nat) : DE := fun τ KK => match nth τ i with | .sc ns => ns.length ≤ 63 → KK (.int ns.length) | _ => False
theorem ok_lenSc {i : Nat} : OkE K true (tCB (rLenS K) (tCons (tVar i) tNil)) (dLenSc i) := fun B φ σ τ H Q KK R hd q => by
  have en := R.ent i
  unfold dLenSc at hd
  revert en hd
  cases hi : nth τ i with
  | sc ns =>
    intro hd ⟨a, e, l, so, _⟩
    have sq : SqL K H a (ns.map V.int) := by
      rcases so with ⟨o, h⟩ | h
      · exact .inl (.inr ⟨o, h⟩)
      · exact h H
    refine ⟨_, e, a, _, rfl, .inl sq, ?_⟩
    rw [List.length_map]
    exact q _ _ H (HX.refl R) (hd l) rfl
  | _ => exact fun z _ => z.elim
end
end L2
set_option Elab.async false
set_option linter.all false
set_option maxRecDepth 100000
set_option maxHeartbeats 4000000
namespace L2
open PySem PySem.Spec PyProof.Rows
noncomputable abbrev TSp := List Tr → (Tr → Prop) → Prop
noncomputable def spT (n : Nat) (st fr : Bool) (sp : TSp) : Sp := fun vs H Q _ => ∃ (F S : Addr → Prop) (ts : List Tr) (KK : Tr → Prop) (us : List V),
  (match st with | true => ∃ p, vs = .ref p :: us ∧ S p | false => vs = us) ∧ (∀ a, F a → H a ≠ none) ∧ (∀ a, S a → F a) ∧ (∀ a, S a → IsSt a H) ∧ RepL F H ts us ∧ ts.length = n ∧ sp ts KK ∧
  ∀ t v H', KK t → (∀ a o, H a = some o → ¬ S a → H' a = some o) → (∀ a, S a → IsSt a H') → Rep F H' t v → (fr = true → FrL F H H' t v) → Q v H'
noncomputable def dCall (sp : TSp) (da : DA) : DE := fun τ KK => da τ fun ts => sp ts KK
noncomputable def dCallS (i : Nat) (sp : TSp) (da : DA) : DE := fun τ KK => match nth τ i with | .st => da τ fun ts => sp ts KK | _ => False
section
variable {K : PySem.W.Frag} {B : FB} {φ : Phi} {σ : St} {τ : TSt} {H H' H'' : Hp}
theorem ok_own {b fr : Bool} {n : Nat} {sp : TSp} {ta : TA} {da : DA} (ha : OkA K b n ta da) : OkE K b (tOwn (spT n false fr sp) ta) (dCall sp da) := fun B φ σ τ H Q KK R hd q =>
  ha B φ σ τ H _ _ R hd fun ts vs H1 x1 k1 l1 r1 => ⟨AvB b B φ τ, SA B φ τ, ts, KK, vs, rfl, fun a z => (R.hx x1).domB z, fun a z => R.sB z, x1.st, r1, l1, k1, fun t v H' k e s r _ => q t v H' (x1.trans ⟨e, s⟩) k r⟩
theorem ok_ownS {b fr : Bool} {n i : Nat} {sp : TSp} {ta : TA} {da : DA} (ha : OkA K b n ta da) : OkE K b (tOwn (spT n true fr sp) (tCons (tVar i) ta)) (dCallS i sp da) := fun B φ σ τ H Q KK R hd q => by
  have en := R.ent i
  unfold dCallS at hd
  revert en hd
  cases hi : nth τ i with
  | st =>
    intro hd ⟨p, e1, e2, e3⟩
    exact ⟨_, e1, ha B φ σ τ H _ _ R hd fun ts vs H1 x1 k1 l1 r1 => ⟨AvB b B φ τ, SA B φ τ, ts, KK, vs, ⟨p, rfl, .inr ⟨i, e2, hi⟩⟩, fun a z => (R.hx x1).domB z, fun a z => R.sB z, x1.st, r1, l1, k1, fun t v H' k e s r _ => q t v H' (x1.trans ⟨e, s⟩) k r⟩⟩
  | _ => exact fun z _ => z.elim
noncomputable def Phi.del (φ : Phi) (i : Nat) : Phi := fun j => if j = i then none else φ j
noncomputable def Phi.put (φ : Phi) (i : Nat) (a : Addr) : Phi := fun j => if j = i then some a else φ j
theorem del_some {i j : Nat} {a : Addr} (h : φ.del i j = some a) : j ≠ i ∧ φ j = some a := by
  unfold Phi.del at h
  by_cases e : j = i
  · rw [if_pos e] at h; cases h
  · rw [if_neg e] at h; exact ⟨e, h⟩
theorem del_ne {i j : Nat} (h : j ≠ i) : φ.del i j = φ j := if_neg h
theorem put_some {i j : Nat} {a c : Addr} (h : φ.put i a j = some c) : (j = i ∧ c = a) ∨ (j ≠ i ∧ φ j = some c) := by
  unfold Phi.put at h
  by_cases e : j = i
  · rw [if_pos e] at h; cases h; exact .inl ⟨e, rfl⟩
  · rw [if_neg e] at h; exact .inr ⟨e, h⟩
theorem put_same {i : Nat} {a : Addr} : φ.put i a i = some a := if_pos rfl
theorem put_ne {i j : Nat} {a : Addr} (h : j ≠ i) : φ.put i a j = φ j := if_neg h
theorem av_del {i : Nat} {a : Addr} (h : Av B (φ.del i) a) : Av B φ a := by
  rcases h with h | ⟨j, h⟩
  · exact .inl h
  · exact .inr ⟨j, (del_some h).2⟩
theorem ent_move {φ' : Phi} {i : Nat} {o : Option (Option V)} {x : TV} (h : Ent K B φ H i o x) (hφ : φ' i = φ i) (hr : ∀ t v, Rep (Av B φ) H t v → Rep (Av B φ') H' t v) (hrl : ∀ t v, RepL (Av B φ) H t v → RepL (Av B φ') H' t v)
    (hl : ∀ a ws ts, x = .ow ts → φ i = some a → H a = some (.lst ws) → H' a = some (.lst ws)) (hs : ∀ a ns, ScrOk K H a ns → ScrOk K H' a ns) : Ent K B φ' H' i o x := by
  cases x with
  | un => trivial
  | fz t => obtain ⟨v, e, r⟩ := h; exact ⟨v, e, hr t v r⟩
  | ow ts => obtain ⟨a, ws, e1, e2, e3, e4, r⟩ := h; exact ⟨a, ws, e1, hφ.trans e2, e3, hl a ws ts rfl e2 e4, hrl _ _ r⟩
  | st => obtain ⟨p, e1, e2, e3⟩ := h; exact ⟨p, e1, hφ.trans e2, e3⟩
  | sc ns => obtain ⟨a, e, l, q⟩ := h; exact ⟨a, e, l, hs a ns q⟩
  | ob a => exact h
theorem RS.setFz {i : Nat} {t : Tr} {v : V} (R : RS K B φ σ τ H) (r : Rep (Av B φ) H t v) : RS K B (φ.del i) (σ.set i (some v)) (τ.set i (.fz t)) H where
  f0 := R.f0
  s0 := R.s0
  ext := R.ext
  sst := fun a s => by
    rcases s with s | ⟨j, s, hj⟩
    · exact R.sst a (.inl s)
    · obtain ⟨hne, s'⟩ := del_some s
      rw [nth_set_ne hne] at hj
      exact R.sst a (.inr ⟨j, s', hj⟩)
  inj := fun j k a ts hj e1 e2 => by
    obtain ⟨hne, e1⟩ := del_some e1
    rw [nth_set_ne hne] at hj
    exact R.inj j k a ts hj e1 (del_some e2).2
  ow := fun j a e => R.ow j a (del_some e).2
  len := by rw [List.length_set, List.length_set]; exact R.len
  ent := fun j => by
    have mono : ∀ t v, Rep (Av B φ) H t v → Rep (Av B (φ.del i)) H t v := fun t v => rep_mono (fun a o e n => ⟨e, fun z => n (av_del z)⟩) t v
    by_cases e : j = i
    · subst e
      by_cases hl : j < τ.length
      · rw [nth_set_same hl]
        exact ⟨v, by rw [List.getElem?_set_self (by rw [R.len]; exact hl)], mono _ _ r⟩
      · rw [nth_of_ge (by rw [List.length_set]; (first | lia | omega))]; trivial
    · rw [nth_set_ne e, List.getElem?_set_ne (Ne.symm e)]
      exact ent_move (R.ent j) (del_ne e) mono (fun t v => repL_mono (fun a o e n => ⟨e, fun z => n (av_del z)⟩) t v) (fun _ _ _ _ _ z => z) fun _ _ z => z
  gh := fun p hp => rep_mono (fun a o e n => ⟨e, fun z => n (av_del z)⟩) _ _ (R.gh p hp)
theorem RS.setNew {i : Nat} {x : TV} {a : Addr} (R : RS K B φ σ τ H) (hx : HX B φ τ H H') (ha : H a = none) (ha' : H' a ≠ none) (hst : x = .st → IsSt a H')
    (hen : Ent K B (φ.put i a) H' i (some (some (.ref a))) x) : RS K B (φ.put i a) (σ.set i (some (.ref a))) (τ.set i x) H' := by
  have R' := R.hx hx
  have nav : ∀ c, c ≠ a → Av B (φ.put i a) c → Av B φ c := fun c hc z => by
    rcases z with z | ⟨j, z⟩
    · exact .inl z
    · rcases put_some z with ⟨_, e⟩ | ⟨_, e⟩
      · exact absurd e hc
      · exact .inr ⟨j, e⟩
  have mv : ∀ c o, H c = some o → ¬ Av B φ c → H' c = some o ∧ ¬ Av B (φ.put i a) c := fun c o e n => ⟨hx.keep c o e fun s => n (R.sAv s), fun z => n (nav c (ne_of_none e ha) z)⟩
  refine ⟨R.f0, R.s0, R'.ext, fun c s => ?_, fun j k c ts hj e1 e2 => ?_, fun j c e => ?_, ?_, fun j => ?_, fun p hp => rep_mono mv _ _ (R.gh p hp)⟩
  · rcases s with s | ⟨j, s, hj⟩
    · exact R'.sst c (.inl s)
    · rcases put_some s with ⟨rfl, rfl⟩ | ⟨hne, s'⟩
      · by_cases hl : j < τ.length
        · rw [nth_set_same hl] at hj
          exact hst hj
        · rw [nth_of_ge (by rw [List.length_set]; (first | lia | omega))] at hj; cases hj
      · rw [nth_set_ne hne] at hj
        exact R'.sst c (.inr ⟨j, s', hj⟩)
  · have key : ∀ j : Nat, φ j = some a → False := fun j e => R.ow j a e ha
    rcases put_some e1 with ⟨z1, z2⟩ | ⟨n1, f1⟩
    · rcases put_some e2 with ⟨z3, _⟩ | ⟨n2, f2⟩
      · rw [z1, z3]
      · exact (key k (by rw [← z2]; exact f2)).elim
    · rcases put_some e2 with ⟨z3, z4⟩ | ⟨n2, f2⟩
      · exact (key j (by rw [← z4]; exact f1)).elim
      · rw [nth_set_ne n1] at hj
        exact R.inj j k c ts hj f1 f2
  · rcases put_some e with ⟨_, rfl⟩ | ⟨_, e⟩
    · exact ha'
    · exact R'.ow j c e
  · rw [List.length_set, List.length_set]; exact R.len
  · by_cases e : j = i
    · subst e
      by_cases hl : j < τ.length
      · rw [nth_set_same hl, List.getElem?_set_self (by rw [R.len]; exact hl)]
        exact hen
      · rw [nth_of_ge (by rw [List.length_set]; (first | lia | omega))]; trivial
    · rw [nth_set_ne e, List.getElem?_set_ne (Ne.symm e)]
      refine ent_move (R.ent j) (put_ne e) (fun t v => rep_mono mv t v) (fun t v => repL_mono mv t v) (fun c ws ts hj e1 e2 => ?_) fun c ns z => ?_
      · refine hx.keep c _ e2 fun s => ?_
        rcases s with s | ⟨k, s, hk⟩
        · have en := R.ent j
          rw [hj] at en
          obtain ⟨a', ws', _, q2, q3, _⟩ := en
          rw [e1] at q2; cases q2
          exact R.f0 c (R.s0 c s) q3
        · have := R.inj j k c ts hj e1 s
          subst this
          rw [hj] at hk; cases hk
      · refine ⟨?_, z.2.hx R hx⟩
        rcases z.1 with ⟨o, z⟩ | z
        · exact .inl ⟨o, hx.keep c _ z (frz_noSA R z)⟩
        · exact .inr z
theorem RS.wrOw {i : Nat} {ts ts' : List Tr} {a : Addr} {ws' : List V} (R : RS K B φ σ τ H) (hi : nth τ i = .ow ts) (e1 : σ[i]? = some (some (.ref a))) (r : RepL (Av B φ) H ts' ws') : RS K B φ σ (τ.set i (.ow ts')) (upd H a (.lst ws')) := by
  have en := R.ent i
  rw [hi] at en
  obtain ⟨a', ws, e1', e2, e3, e4, _⟩ := en
  rw [e1] at e1'; cases e1'
  have hl : i < τ.length := by
    by_cases h : i < τ.length
    · exact h
    · rw [nth_of_ge (by (first | lia | omega))] at hi; cases hi
  have mv : ∀ c o, H c = some o → ¬ Av B φ c → (upd H a (.lst ws')) c = some o ∧ ¬ Av B φ c := fun c o e n => ⟨by rw [upd_ne (fun z => n (by rw [z]; exact .inr ⟨i, e2⟩))]; exact e, n⟩
  have nsa : ∀ c, SA B φ (τ.set i (.ow ts')) c → SA B φ τ c ∧ c ≠ a := fun c s => by
    rcases s with s | ⟨j, s, hj⟩
    · exact ⟨.inl s, fun z => R.f0 a (R.s0 a (z ▸ s)) e3⟩
    · by_cases e : j = i
      · subst e
        rw [nth_set_same hl] at hj; cases hj
      · rw [nth_set_ne e] at hj
        exact ⟨.inr ⟨j, s, hj⟩, fun z => e (R.inj i j a ts hi e2 (z ▸ s)).symm⟩
  refine ⟨R.f0, R.s0, fun c o e n => ?_, fun c s => ?_, fun j k c us hj f1 f2 => ?_, fun j c e => ?_, by rw [List.length_set]; exact R.len, fun j => ?_, fun p hp => rep_mono mv _ _ (R.gh p hp)⟩
  · rw [upd_ne (ne_of_none e e3)]; exact R.ext c o e n
  · obtain ⟨s', hne⟩ := nsa c s
    obtain ⟨n, b, q, z⟩ := R.sst c s'
    exact ⟨n, b, by rw [upd_ne hne]; exact q, z⟩
  · by_cases e : j = i
    · subst e; exact R.inj j k c ts hi f1 f2
    · rw [nth_set_ne e] at hj
      exact R.inj j k c us hj f1 f2
  · by_cases z : c = a
    · rw [z, upd_same]; exact fun z => nomatch z
    · rw [upd_ne z]; exact R.ow j c e
  · by_cases e : j = i
    · subst e
      rw [nth_set_same hl]
      exact ⟨a, ws', e1, e2, e3, upd_same, repL_mono mv _ _ r⟩
    · rw [nth_set_ne e]
      refine ent_move (R.ent j) rfl (fun t v => rep_mono mv t v) (fun t v => repL_mono mv t v) (fun c us vs hj f1 f2 => ?_) fun c ns z => ?_
      · rw [upd_ne (fun (z : c = a) => e (R.inj i j a ts hi e2 (by rw [← z]; exact f1)).symm)]; exact f2
      · refine ⟨?_, fun P q h => by rw [upd_ne (ne_of (z.2 P q h) e4 (fun q => nomatch q))]; exact z.2 P q h⟩
        rcases z.1 with ⟨o, z⟩ | z
        · exact .inl ⟨o, by rw [upd_ne (ne_of z e4 (fun q => nomatch q))]; exact z⟩
        · exact .inr z
noncomputable def OkN (K : PySem.W.Frag) (g : TG) (d : DG) : Prop := ∀ (B : FB) (φ : Phi) (σ : St) (τ : TSt) (H : Hp) (F : Addr → Prop) (t : Tr) (v : V) (Q : St → Hp → Prop) (KK : TSt → Prop), RS K B φ σ τ H → (∀ a, Av B φ a → F a) → Rep F H t v → d t τ KK →
  (∀ φ' σ' τ', RS K B φ' σ' τ' H → (∀ a, Av B φ' a → Av B φ a) → KK τ' → Q σ' H) → g v σ H Q
noncomputable def OkNs (K : PySem.W.Frag) (g : TGs) (d : DGs) : Prop := ∀ (B : FB) (φ : Phi) (σ : St) (τ : TSt) (H : Hp) (F : Addr → Prop) (t : List Tr) (v : List V) (Q : St → Hp → Prop) (KK : TSt → Prop), RS K B φ σ τ H → (∀ a, Av B φ a → F a) → RepL F H t v → d t τ KK →
  (∀ φ' σ' τ', RS K B φ' σ' τ' H → (∀ a, Av B φ' a → Av B φ a) → KK τ' → Q σ' H) → g v σ H Q
noncomputable def eName (i : Nat) : DG := fun t τ KK => KK (τ.set i (.fz t))
noncomputable def eNil : DGs := fun ts τ KK => match ts with | [] => KK τ | _ => False
noncomputable def eCons (d : DG) (r : DGs) : DGs := fun ts τ KK => match ts with | t :: us => d t τ fun τ' => r us τ' KK | [] => False
noncomputable def eTup (n : Nat) (d : DGs) : DG := fun t τ KK => match t with | .tup ts => ts.length = n ∧ d ts τ KK | _ => False
theorem okn_name {i : Nat} : OkN K (gName i) (eName i) := fun B φ σ τ H F t v Q KK R hF r hd q =>
  q (φ.del i) _ _ (R.setFz (rep_mono (fun a o e n => ⟨e, fun z => n (hF a z)⟩) _ _ r)) (fun a z => av_del z) hd
theorem okns_nil : OkNs K gNil eNil := fun B φ σ τ H F t v Q KK R hF r hd q => by
  cases t with
  | nil => exact ⟨r, q φ σ τ R (fun _ z => z) hd⟩
  | cons _ _ => exact hd.elim
theorem okns_cons {g : TG} {gs : TGs} {d : DG} {ds : DGs} (h : OkN K g d) (hs : OkNs K gs ds) : OkNs K (gCons g gs) (eCons d ds) := fun B φ σ τ H F t v Q KK R hF r hd q => by
  cases t with
  | nil => exact hd.elim
  | cons t ts =>
    obtain ⟨w, r', e, h1, h2⟩ := r
    exact ⟨w, r', e, h B φ σ τ H F t w _ _ R hF h1 hd fun φ' σ' τ' R' ha k => hs B φ' σ' τ' H F ts r' Q KK R' (fun a z => hF a (ha a z)) h2 k fun φ2 σ2 τ2 R2 ha2 k2 => q φ2 σ2 τ2 R2 (fun a z => ha a (ha2 a z)) k2⟩
theorem okn_tup {n : Nat} {gs : TGs} {ds : DGs} (h : OkNs K gs ds) : OkN K (gTup K n gs) (eTup n ds) := fun B φ σ τ H F t v Q KK R hF r hd q => by
  cases t with
  | tup ts =>
    obtain ⟨a, ws, e, n, ha, rl⟩ := r
    exact ⟨a, ws, e, SqT.of ha, by rw [← rl.len]; exact hd.1, h B φ σ τ H F ts ws Q KK R hF rl hd.2 q⟩
  | _ => exact hd.elim
theorem OkN.g {g : TG} {d : DG} (h : OkN K g d) : OkG K g d := fun B φ σ τ H t v Q KK R r hd q => h B φ σ τ H (Av B φ) t v Q KK R (fun _ z => z) r hd fun φ' σ' τ' R' ha k => q φ' σ' τ' H R' ha (fun _ _ e _ => e) k
noncomputable def sNext : DS := fun G τ => G.nx τ
noncomputable def sSeq (a b : DS) : DS := fun G τ => a { G with nx := b G } τ
noncomputable def sNever : DS := fun _ _ => False
noncomputable def sRet (d : DE) : DS := fun G τ => d τ G.rt
noncomputable def sIf (c : DT) (a b : DS) : DS := fun G τ => c τ fun k => if k = true then a G τ else b G τ
noncomputable def sSet (i : Nat) (d : DE) : DS := fun G τ => d τ fun t => G.nx (τ.set i (.fz t))
noncomputable def sSetO (i : Nat) (d : DE) : DS := fun G τ => d τ fun t => match t with | .lst ts => G.nx (τ.set i (.ow ts)) | _ => False
noncomputable def sAsg (d : DE) (g : DG) : DS := fun G τ => d τ fun t => g t τ G.nx
noncomputable def sPar (i j : Nat) (d : DA) : DS := fun G τ => d τ fun ts => match ts with | [t, u] => G.nx ((τ.set i (.fz t)).set j (.fz u)) | _ => False
noncomputable def sDrop (d : DE) : DS := fun G τ => d τ fun _ => G.nx τ
noncomputable def sApp (i : Nat) (d : DE) : DS := fun G τ => match nth τ i with | .ow ts => d τ fun t => ts.length < sizeLine ∧ G.nx (τ.set i (.ow (ts ++ [t]))) | _ => False
variable {fr : Bool}
theorem oks_next : OkS K fr tNext sNext := fun B φ σ τ H E G R hd e => e.nx φ σ τ H R hd
theorem oks_never : OkS K fr tNever sNever := fun B φ σ τ H E G R hd e => hd.elim
theorem oks_seq {a b : TS} {da db : DS} (ha : OkS K fr a da) (hb : OkS K fr b db) : OkS K fr (tSeq a b) (sSeq da db) := fun B φ σ τ H E G R hd e =>
  ha B φ σ τ H _ _ R hd ⟨fun φ' σ' τ' H' R' k => hb B φ' σ' τ' H' E G R' k e, e.bk, e.ct, e.rt⟩
theorem oks_ret {b : Bool} {te : TE} {d : DE} (h : OkE K b te d) : OkS K false (tRet te) (sRet d) := fun B φ σ τ H E G R hd e =>
  h B φ σ τ H _ _ R hd fun t v H1 x1 k1 r1 => e.rt t v H1 (rep_mono (fun a o e n => ⟨e, fun z => n (.inl z)⟩) _ _ (repB R r1)) (R.hx x1).extB k1 fun z => nomatch z
noncomputable def sRetO (i : Nat) : DS := fun G τ => match nth τ i with | .ow ts => G.rt (.lst ts) | _ => False
theorem oks_retO {i : Nat} : OkS K fr (tRet (tVar i)) (sRetO i) := fun B φ σ τ H E G R hd e => by
  have en := R.ent i
  unfold sRetO at hd
  revert en hd
  cases hi : nth τ i with
  | ow ts =>
    intro hd ⟨a, ws, e1, e2, e3, e4, r⟩
    have na : ¬ B.F0 a := fun z => R.f0 a z e3
    have rr : RepL (fun c => B.F0 c ∨ c = a) H ts ws := repL_mono (fun c o e n => ⟨e, fun z => n (z.elim .inl fun z => .inr ⟨i, by rw [z]; exact e2⟩)⟩) _ _ r
    exact ⟨_, e1, e.rt (.lst ts) _ H ⟨a, ws, rfl, na, e4, repL_mono (fun c o e n => ⟨e, fun z => n (.inl z)⟩) _ _ rr⟩ R.extB hd fun _ => ⟨a, ts, ws, rfl, rfl, e3, e4, rr⟩⟩
  | _ => exact fun z _ => z.elim
theorem oks_if {c : TT} {a b : TS} {dc : DT} {da db : DS} (hc : OkT K c dc) (ha : OkS K fr a da) (hb : OkS K fr b db) : OkS K fr (tIfS c a b) (sIf dc da db) := fun B φ σ τ H E G R hd e =>
  hc B φ σ τ H _ _ R hd fun k H1 x1 k1 => by
    cases k with
    | true => exact iteT (ha B φ σ τ H1 E G (R.hx x1) k1 e)
    | false => exact iteF (hb B φ σ τ H1 E G (R.hx x1) k1 e)
theorem oks_set {i : Nat} {te : TE} {d : DE} (h : OkE K true te d) : OkS K fr (tAsg te (gName i)) (sSet i d) := fun B φ σ τ H E G R hd e =>
  h B φ σ τ H _ _ R hd fun t v H1 x1 k1 r1 => e.nx _ _ _ H1 ((R.hx x1).setFz r1) k1
theorem oks_setO {i : Nat} {te : TE} {d : DE} (h : OkF K te d) : OkS K fr (tAsg te (gName i)) (sSetO i d) := fun B φ σ τ H E G R hd e =>
  h B φ σ τ H _ _ R hd fun ts a ws H1 x1 k1 h1 h2 h3 => by
    have z0 : B.H0 a = none := by
      cases q : B.H0 a with
      | none => rfl
      | some o =>
        by_cases s : B.S0 a
        · exact absurd h1 (R.sst a (.inl s)).ne_none
        · rw [R.ext a o q s] at h1; cases h1
    refine e.nx _ _ _ H1 (R.setNew (x := .ow ts) x1 h1 (by rw [h2]; exact fun z => nomatch z) (fun z => nomatch z) ⟨a, ws, rfl, put_same, z0, h2, repL_mono (fun c o e n => ⟨e, fun z => n ?_⟩) _ _ h3⟩) k1
    rcases z with z | ⟨j, z⟩
    · exact .inl (.inl z)
    · rcases put_some z with ⟨_, z⟩ | ⟨_, z⟩
      · exact .inr z
      · exact .inl (.inr ⟨j, z⟩)
theorem oks_asg {te : TE} {g : TG} {d : DE} {dg : DG} (h : OkE K true te d) (hg : OkG K g dg) : OkS K fr (tAsg te g) (sAsg d dg) := fun B φ σ τ H E G R hd e =>
  h B φ σ τ H _ _ R hd fun t v H1 x1 k1 r1 => hg B φ σ τ H1 t v _ _ (R.hx x1) r1 k1 fun φ' σ' τ' H' R' _ _ k => e.nx φ' σ' τ' H' R' k
theorem oks_par {i j : Nat} {ta : TA} {da : DA} {n : Nat} (h : OkA K true n ta da) : OkS K fr (tPar i j ta) (sPar i j da) := fun B φ σ τ H E G R hd e =>
  h B φ σ τ H _ _ R hd fun ts vs H1 x1 k1 l1 r1 => by
    cases ts with
    | nil => exact k1.elim
    | cons t ts =>
      cases ts with
      | nil => exact k1.elim
      | cons u ts =>
        cases ts with
        | cons _ _ => exact k1.elim
        | nil =>
          obtain ⟨v, w, rfl, h1, h2⟩ := repL2 r1
          exact ⟨v, w, rfl, e.nx _ _ _ H1 (((R.hx x1).setFz h1).setFz (rep_mono (fun a o e n => ⟨e, fun z => n (av_del z)⟩) _ _ h2)) k1⟩
theorem oks_drop {b : Bool} {te : TE} {d : DE} (h : OkE K b te d) : OkS K fr (tDrop te) (sDrop d) := fun B φ σ τ H E G R hd e =>
  h B φ σ τ H _ _ R hd fun t v H1 x1 k1 r1 => e.nx φ σ τ H1 (R.hx x1) k1
theorem oks_app {i : Nat} {te : TE} {d : DE} (h : OkE K true te d) : OkS K fr (tDrop (tBM K "list" rAppend (tVar i) (tCons te tNil))) (sApp i d) := fun B φ σ τ H E G R hd e => by
  have en := R.ent i
  unfold sApp at hd
  revert en hd
  cases hi : nth τ i with
  | ow ts =>
    intro hd ⟨a, ws, e1, e2, e3, e4, r⟩
    refine ⟨_, e1, .inl ⟨rfl, _, SqL.of e4⟩, h B φ σ τ H _ _ R hd fun t v H1 x1 k1 r1 => ?_⟩
    obtain ⟨ws', f4, f5, _⟩ := ow_after R x1 hi e1
    exact ⟨a, ws', v, rfl, rfl, f4, by rw [← f5.len]; exact k1.1, e.nx φ σ _ _ ((R.hx x1).wrOw hi e1 (f5.app (show RepL _ _ [t] [v] from ⟨v, [], rfl, r1, rfl⟩))) k1.2⟩
  | _ => exact fun z _ => z.elim
end
end L2
set_option Elab.async false
set_option linter.all false
set_option maxRecDepth 100000
set_option maxHeartbeats 4000000
namespace L2
open PySem PySem.Spec PyProof.Rows
noncomputable abbrev DI := TSt → (List Tr → Prop) → Prop
noncomputable def Grown (H H' : Hp) : Prop := H' = H ∨ ∃ q o, H q = none ∧ H' = upd H q o
structure ItC (F S : Addr → Prop) (J : It) (ts : List Tr) (Src : Hp → Prop) : Prop where
  stab : ∀ H H', Src H → (∀ a o, H a = some o → ¬ S a → H' a = some o) → Src H'
  go : ∀ i H, Src H → i < ts.length → J.go i H
  stop : ∀ H, Src H → J.stop ts.length H
  yld : ∀ i H x H', Src H → (∀ a, F a → H a ≠ none) → i < ts.length → J.yld i H x H' → Grown H H' ∧ ∃ t, ts[i]? = some t ∧ Rep F H' t x
structure ItL (J : It) (ts : List Tr) (G : List (Tr × V)) : Prop where
  go : ∀ F H i, (∀ p ∈ G, Rep F H p.1 p.2) → i < ts.length → J.go i H
  stop : ∀ F H, (∀ p ∈ G, Rep F H p.1 p.2) → J.stop ts.length H
  yld : ∀ F i H x H', (∀ p ∈ G, Rep F H p.1 p.2) → (∀ a, F a → H a ≠ none) → i < ts.length → J.yld i H x H' → Grown H H' ∧ ∃ t, ts[i]? = some t ∧ Rep F H' t x
theorem ItL.c {J : It} {ts : List Tr} {G : List (Tr × V)} (h : ItL J ts G) {F S : Addr → Prop} (hS : ∀ a, S a → F a) : ItC F S J ts (fun H => ∀ p ∈ G, Rep F H p.1 p.2) where
  stab := fun H H' s k p hp => rep_mono (fun a o e n => ⟨k a o e fun z => n (hS a z), n⟩) _ _ (s p hp)
  go := fun i H s hi => h.go F H i s hi
  stop := fun H s => h.stop F H s
  yld := fun i H x H' s d hi y => h.yld F i H x H' s d hi y
noncomputable def OkI (K : PySem.W.Frag) (b : Bool) (wi : TI) (d : DI) : Prop := ∀ (B : FB) (φ : Phi) (σ : St) (τ : TSt) (H : Hp) (R : It → Hp → Prop) (KK : List Tr → Prop), RS K B φ σ τ H → d τ KK →
  (∀ J ts G H', HX B φ τ H H' → KK ts → ItL J ts G → (∀ p ∈ G, Rep (AvB b B φ τ) H' p.1 p.2) → R J H') → wi σ H R
noncomputable def OkIC (K : PySem.W.Frag) (wi : TI) (d : DI) : Prop := ∀ (B : FB) (φ : Phi) (σ : St) (τ : TSt) (H : Hp) (R : It → Hp → Prop) (KK : List Tr → Prop), RS K B φ σ τ H → d τ KK →
  (∀ J ts Src H', HX B φ τ H H' → KK ts → ItC (Av B φ) (SA B φ τ) J ts Src → Src H' → R J H') → wi σ H R
section
variable {K : PySem.W.Frag} {B : FB} {φ : Phi} {σ : St} {τ : TSt} {H H' H'' : Hp} {fr : Bool}
theorem OkI.c {wi : TI} {d : DI} (h : OkI K true wi d) : OkIC K wi d := fun B φ σ τ H R KK Rs hd q => h B φ σ τ H R KK Rs hd fun J ts G H' x k i s => q J ts _ H' x k (i.c fun a z => Rs.sAv z) s
noncomputable def iSeq (d : DE) : DI := fun τ KK => d τ fun x => match x with | .tup ts => KK ts | .lst ts => KK ts | _ => False
theorem itl_list {a : Addr} {ts : List Tr} : ItL (Itl K a) ts [(.lst ts, .ref a)] where
  go := fun F H i s hi => by
    obtain ⟨a', ws, e, n, h, r⟩ := s _ List.mem_cons_self
    cases e
    obtain ⟨w, e1, _⟩ := r.getT (List.getElem?_eq_getElem hi)
    exact ⟨ws, w, SqL.of h, e1⟩
  stop := fun F H s => by
    obtain ⟨a', ws, e, n, h, r⟩ := s _ List.mem_cons_self
    cases e
    exact ⟨ws, SqL.of h, by rw [← r.len]; exact Nat.le_refl _⟩
  yld := fun F i H x H' s d hi y => by
    obtain ⟨a', ws, e, n, h, r⟩ := s _ List.mem_cons_self
    cases e
    obtain ⟨rfl, y⟩ := y
    obtain ⟨t, e1, e2⟩ := r.get (y ws (SqL.of h))
    exact ⟨.inl rfl, t, e1, e2⟩
theorem itl_tup {a : Addr} {ts : List Tr} : ItL (Itt K a) ts [(.tup ts, .ref a)] where
  go := fun F H i s hi => by
    obtain ⟨a', ws, e, n, h, r⟩ := s _ List.mem_cons_self
    cases e
    obtain ⟨w, e1, _⟩ := r.getT (List.getElem?_eq_getElem hi)
    exact ⟨ws, w, SqT.of h, e1⟩
  stop := fun F H s => by
    obtain ⟨a', ws, e, n, h, r⟩ := s _ List.mem_cons_self
    cases e
    exact ⟨ws, SqT.of h, by rw [← r.len]; exact Nat.le_refl _⟩
  yld := fun F i H x H' s d hi y => by
    obtain ⟨a', ws, e, n, h, r⟩ := s _ List.mem_cons_self
    cases e
    obtain ⟨rfl, y⟩ := y
    obtain ⟨t, e1, e2⟩ := r.get (y ws (SqT.of h))
    exact ⟨.inl rfl, t, e1, e2⟩
noncomputable def rngT (lo : Int) (n : Nat) : List Tr := (List.range n).map fun (k : Nat) => Tr.int (lo + k)
theorem rngT_len (lo : Int) (n : Nat) : (rngT lo n).length = n := by unfold rngT; rw [List.length_map, List.length_range]
theorem rngT_get {lo : Int} {n i : Nat} (h : i < n) : (rngT lo n)[i]? = some (.int (lo + i)) := by unfold rngT; rw [List.getElem?_map, List.getElem?_range h]; rfl
theorem itl_range {lo : Int} {n : Nat} : ItL (Itr lo n) (rngT lo n) [] where
  go := fun F H i s hi => by rw [rngT_len] at hi; exact hi
  stop := fun F H s => by rw [rngT_len]; exact Nat.le_refl _
  yld := fun F i H x H' s d hi y => by
    rw [rngT_len] at hi
    obtain ⟨rfl, rfl⟩ := y
    exact ⟨.inl rfl, _, rngT_get hi, rfl⟩
noncomputable def iRange1 (d : DA) : DI := fun τ KK => d τ fun xs => match xs with | [.int j] => (-(2 ^ 62) ≤ j ∧ j < 2 ^ 62) ∧ KK (rngT 0 j.toNat) | _ => False
theorem oki_range1 {b : Bool} {n : Nat} {ta : TA} {da : DA} (h : OkA K b n ta da) : OkI K true (iRng1 ta) (iRange1 da) := fun B φ σ τ H R KK Rs hd q =>
  h B φ σ τ H _ _ Rs hd fun ts vs H1 x1 k1 l1 r1 => by
    split at k1
    · rename_i j
      obtain ⟨v, rfl, e⟩ := repL1 r1
      exact ⟨j, by rw [show v = .int j from e], k1.1.1, k1.1.2, q _ _ [] H1 x1 k1.2 itl_range fun p hp => absurd hp (by simp)⟩
    · exact k1.elim
noncomputable def fRun (dg : DG) (body : DS) (G : TEnds) : List Tr → TSt → Prop
  | [], τ => G.nx τ
  | x :: xs, τ => dg x τ fun τ' => body { G with nx := fRun dg body G xs, ct := fRun dg body G xs, bk := G.nx } τ'
noncomputable def sFor (di : DI) (dg : DG) (body : DS) : DS := fun G τ => di τ fun xs => fRun dg body G xs τ
noncomputable def FB.more (B : FB) (G : List (Tr × V)) : FB := { B with G0 := G ++ B.G0 }
theorem RS.more (R : RS K B φ σ τ H) {G : List (Tr × V)} (h : ∀ p ∈ G, Rep (Av B φ) H p.1 p.2) : RS K (B.more G) φ σ τ H :=
  ⟨R.f0, R.s0, R.ext, R.sst, R.inj, R.ow, R.len, R.ent, fun p hp => (List.mem_append.mp hp).elim (h p) (R.gh p)⟩
theorem RS.less {G : List (Tr × V)} (R : RS K (B.more G) φ σ τ H) : RS K B φ σ τ H ∧ ∀ p ∈ G, Rep (Av B φ) H p.1 p.2 :=
  ⟨⟨R.f0, R.s0, R.ext, R.sst, R.inj, R.ow, R.len, R.ent, fun p hp => R.gh p (List.mem_append_right _ hp)⟩, fun p hp => R.gh p (List.mem_append_left _ hp)⟩
theorem Grown.hx (R : RS K B φ σ τ H) (g : Grown H H') : HX B φ τ H H' := by
  rcases g with rfl | ⟨q, o, e, rfl⟩
  · exact HX.refl R
  · exact HX.new R e o
theorem oks_for {wi : TI} {g : TG} {tb : TS} {di : DI} {dg : DG} {db : DS} (hi : OkI K true wi di) (hg : OkG K g dg) (hb : OkS K fr tb db) : OkS K fr (tFor wi g tb) (sFor di dg db) := fun B φ σ τ H E G R hd e =>
  hi B φ σ τ H _ _ R hd fun J ts Gh H1 x1 k1 it gh => by
    let W : Nat → St → Hp → Prop := fun i σ' H' => i ≤ ts.length ∧ ∃ φ' τ', RS K (B.more Gh) φ' σ' τ' H' ∧ fRun dg db G (ts.drop i) τ'
    refine ⟨fun i m σ' H' => m = ts.length - i ∧ W i σ' H', ⟨_, rfl, Nat.zero_le _, φ, τ, (R.hx x1).more gh, k1⟩, ?_⟩
    rintro i m σ' H' ⟨rfl, hle, φ', τ', R', f⟩
    obtain ⟨R0, g0⟩ := R'.less
    by_cases hlt : i < ts.length
    · refine .inr ⟨it.go _ H' i g0 hlt, W (i + 1), fun σ2 H2 w => ⟨_, by (first | lia | omega), rfl, w⟩, fun x H2 y => ?_⟩
      obtain ⟨gr, t, ht, rt⟩ := it.yld _ i H' x H2 g0 (fun a z => R0.dom z) hlt y
      have hx := gr.hx R'
      have R2 := R'.hx hx
      have ed : ts.drop i = t :: ts.drop (i + 1) := by
        rw [List.drop_eq_getElem_cons hlt]
        rw [List.getElem?_eq_getElem hlt] at ht
        cases ht; rfl
      rw [ed] at f
      refine hg (B.more Gh) φ' σ' τ' H2 t x _ _ R2 rt f fun φ3 σ3 τ3 H3 R3 _ _ k3 => ?_
      exact hb (B.more Gh) φ3 σ3 τ3 H3 _ _ R3 k3 ⟨fun φ4 σ4 τ4 H4 R4 k4 => ⟨hlt, φ4, τ4, R4, k4⟩, fun φ4 σ4 τ4 H4 R4 k4 => e.nx φ4 σ4 τ4 H4 R4.less.1 k4, fun φ4 σ4 τ4 H4 R4 k4 => ⟨hlt, φ4, τ4, R4, k4⟩, fun t v H r x k f => e.rt t v H r ⟨x.ext, x.st⟩ k f⟩
    · have ei : i = ts.length := by (first | lia | omega)
      subst ei
      rw [List.drop_length] at f
      exact .inl ⟨it.stop _ H' g0, e.nx φ' σ' τ' H' R0 f⟩
noncomputable def wRun (c : DT) (body : DS) (G : TEnds) : Nat → TSt → Prop
  | 0, _ => False
  | n + 1, τ => c τ fun b => if b = true then body { G with nx := wRun c body G n, ct := wRun c body G n, bk := G.nx } τ else G.nx τ
noncomputable def sWhile (c : DT) (body : DS) : DS := fun G τ => ∃ n, wRun c body G n τ
theorem oks_while {c : TT} {tb : TS} {dc : DT} {db : DS} (hc : OkT K c dc) (hb : OkS K fr tb db) : OkS K fr (tWhile c tb) (sWhile dc db) := fun B φ σ τ H E G R hd e => by
  obtain ⟨n, hd⟩ := hd
  refine ⟨fun m σ' H' => ∃ φ' τ', RS K B φ' σ' τ' H' ∧ wRun dc db G m τ', ⟨n, φ, τ, R, hd⟩, ?_⟩
  rintro m σ' H' ⟨φ', τ', R', f⟩
  cases m with
  | zero => exact f.elim
  | succ m =>
    refine hc B φ' σ' τ' H' _ _ R' f fun b H1 x1 k1 => ?_
    cases b with
    | true =>
      refine iteT ⟨fun σ2 H2 => ∃ φ2 τ2, RS K B φ2 σ2 τ2 H2 ∧ wRun dc db G m τ2, fun σ2 H2 w => ⟨m, by (first | lia | omega), w⟩, ?_⟩
      exact hb B φ' σ' τ' H1 _ _ (R'.hx x1) k1 ⟨fun φ4 σ4 τ4 H4 R4 k4 => ⟨φ4, τ4, R4, k4⟩, fun φ4 σ4 τ4 H4 R4 k4 => e.nx φ4 σ4 τ4 H4 R4 k4, fun φ4 σ4 τ4 H4 R4 k4 => ⟨φ4, τ4, R4, k4⟩, e.rt⟩
    | false => exact iteF (e.nx φ' σ' τ' H1 (R'.hx x1) k1)
noncomputable def cRun (dg : DG) (dc : DT) (de : DE) (τi : TSt) (KK : List Tr → Prop) : List Tr → List Tr → Prop
  | [], acc => KK acc
  | x :: xs, acc => dg x τi fun τ2 => dc τ2 fun b => if b = true then de τ2 fun y => cRun dg dc de τi KK xs (acc ++ [y]) else cRun dg dc de τi KK xs acc
noncomputable def inV1 : TV → TV
  | .ow _ => .un
  | x => x
noncomputable def inTau (tau : List (Option Nat)) (τ : TSt) : TSt := tau.map fun o => match o with | some j => inV1 (nth τ j) | none => .un
noncomputable def dComp (tau : List (Option Nat)) (di : DI) (dg : DG) (dc : DT) (de : DE) : DE := fun τ KK => di τ fun xs => xs.length < sizeLine ∧ cRun dg dc de (inTau tau τ) (fun ys => KK (.lst ys)) xs []
noncomputable def dNoIf : DT := fun _ KK => KK true
theorem okt_noif : OkT K tNoIf dNoIf := fun B φ σ τ H Q KK R hd q => q true H (HX.refl R) hd
noncomputable def FB.inner (B : FB) (φ : Phi) (τ : TSt) (H : Hp) : FB := ⟨Av B φ, SA B φ τ, H, []⟩
noncomputable def inPhi (tau : List (Option Nat)) (φ : Phi) (τ : TSt) : Phi := fun i => match tau[i]? with | some (some j) => (match nth τ j with | .st => φ j | _ => none) | _ => none
theorem nth_inTau {tau : List (Option Nat)} : ∀ {i : Nat}, nth (inTau tau τ) i = match tau[i]? with | some (some j) => inV1 (nth τ j) | _ => .un := by
  intro i
  by_cases h : i < tau.length
  · have h' : i < (inTau tau τ).length := by unfold inTau; rw [List.length_map]; exact h
    rw [nth_of_lt h', List.getElem?_eq_getElem h]
    simp only [inTau, List.getElem_map]
    cases tau[i] <;> rfl
  · rw [nth_of_ge (by unfold inTau; rw [List.length_map]; (first | lia | omega)), List.getElem?_eq_none (by (first | lia | omega))]
theorem inSt_at {tau : List (Option Nat)} {i j : Nat} {v : V} (h : tau[i]? = some (some j)) (e : σ[j]? = some (some v)) : (inSt tau σ)[i]? = some (some v) := by
  unfold inSt
  rw [List.getElem?_map, h]
  simp only [Option.map_some, e, Option.getD_some]
theorem RS.inner {tau : List (Option Nat)} (R : RS K B φ σ τ H) : RS K (B.inner φ τ H) (inPhi tau φ τ) (inSt tau σ) (inTau tau τ) H := by
  have hphi : ∀ i a, inPhi tau φ τ i = some a → ∃ j, tau[i]? = some (some j) ∧ nth τ j = .st ∧ φ j = some a := fun i a e => by
    unfold inPhi at e
    split at e
    · rename_i j hj
      split at e
      · rename_i hs; exact ⟨j, hj, hs, e⟩
      · cases e
    · cases e
  have hav : ∀ a, Av (B.inner φ τ H) (inPhi tau φ τ) a → Av B φ a := fun a z => by
    rcases z with z | ⟨i, z⟩
    · exact z
    · obtain ⟨j, _, _, e⟩ := hphi i a z
      exact .inr ⟨j, e⟩
  refine ⟨fun a z => R.dom z, fun a z => R.sAv z, fun a o e _ => e, fun a s => ?_, fun i j a ts hi e1 _ => ?_, fun i a e => ?_, ?_, fun i => ?_, fun p hp => absurd hp (by simp [FB.inner])⟩
  · rcases s with s | ⟨i, s, _⟩
    · exact R.sst a s
    · obtain ⟨j, _, hs, e⟩ := hphi i a s
      exact R.sst a (.inr ⟨j, e, hs⟩)
  · exfalso
    rw [nth_inTau] at hi
    split at hi
    · rename_i j hj
      revert hi
      cases nth τ j <;> intro hi <;> cases hi
    · cases hi
  · obtain ⟨j, _, _, e⟩ := hphi i a e
    exact R.ow j a e
  · unfold inSt inTau; rw [List.length_map, List.length_map]
  · rw [nth_inTau]
    split
    · rename_i j hj
      have en := R.ent j
      cases hn : nth τ j with
      | un => trivial
      | ow ts => trivial
      | fz t =>
        rw [hn] at en
        obtain ⟨v, e, r⟩ := en
        exact ⟨v, inSt_at hj e, rep_mono (fun a o e n => ⟨e, fun z => n (hav a z)⟩) _ _ r⟩
      | st =>
        rw [hn] at en
        obtain ⟨p, e1, e2, e3⟩ := en
        refine ⟨p, inSt_at hj e1, ?_, .inl (.inr ⟨j, e2, hn⟩)⟩
        unfold inPhi
        simp only [hj, hn]; exact e2
      | sc ns =>
        rw [hn] at en
        obtain ⟨a, e, l, q⟩ := en
        exact ⟨a, inSt_at hj e, l, q⟩
      | ob a =>
        rw [hn] at en
        exact inSt_at hj en
    · trivial
theorem okf_comp {wi : TI} {tau : List (Option Nat)} {g : TG} {tc : TT} {te : TE} {di : DI} {dg : DG} {dc : DT} {de : DE} {b : Bool} (hi : OkIC K wi di) (hg : OkN K g dg) (hc : OkT K tc dc) (he : OkE K b te de) :
    OkF K (tComp wi tau g tc te) (dComp tau di dg dc de) := fun B φ σ τ H Q KK R hd q =>
  hi B φ σ τ H _ _ R hd fun J ts Src H1 x1 k1 it s1 => by
    refine ⟨fun i m ys H' => m = ts.length - i ∧ i ≤ ts.length ∧ ys.length ≤ i ∧ HX B φ τ H H' ∧ Src H' ∧ ∃ acc, RepL (Av B φ) H' acc ys ∧ cRun dg dc de (inTau tau τ) (fun ys => KK (.lst ys)) (ts.drop i) acc, ⟨_, rfl, Nat.zero_le _, Nat.zero_le _, x1, s1, [], rfl, k1.2⟩, ?_⟩
    rintro i m ys H' ⟨rfl, hle, hys, x, s, acc, ra, f⟩
    have R' := R.hx x
    by_cases hlt : i < ts.length
    · refine .inr ⟨it.go i H' s hlt, by have := k1.1; (first | lia | omega), fun v H2 y => ?_⟩
      obtain ⟨gr, t, ht, rt⟩ := it.yld i H' v H2 s (fun a z => R'.dom z) hlt y
      have hx := gr.hx R'
      have R2 := R'.hx hx
      have ed : ts.drop i = t :: ts.drop (i + 1) := by
        rw [List.drop_eq_getElem_cons hlt]
        rw [List.getElem?_eq_getElem hlt] at ht
        cases ht; rfl
      rw [ed] at f
      refine hg (B.inner φ τ H2) _ _ _ H2 (Av B φ) t v _ _ R2.inner (fun a z => ?_) rt f fun φ3 σ3 τ3 R3 ha k3 => ?_
      · rcases z with z | ⟨j, z⟩
        · exact z
        · unfold inPhi at z
          split at z
          · split at z
            · exact .inr ⟨_, z⟩
            · cases z
          · cases z
      have hsa : ∀ a, SA (B.inner φ τ H2) φ3 τ3 a → SA B φ τ a := fun a z => by
        rcases z with z | ⟨j, z, hj⟩
        · exact z
        · have en := R3.ent j
          rw [hj] at en
          obtain ⟨p, e1, e2, e3⟩ := en
          rw [z] at e2; cases e2
          rcases e3 with e3 | e3
          · exact e3
          · exact absurd e3 (R3.sst a (.inr ⟨j, z, hj⟩)).ne_none
      have hxo : ∀ {H3 H4 : Hp}, HX (B.inner φ τ H2) φ3 τ3 H3 H4 → HX B φ τ H3 H4 := fun {H3 H4} h => ⟨fun a o e n => h.keep a o e fun z => n (hsa a z), fun a z => h.st a (.inl z)⟩
      refine hc _ φ3 σ3 τ3 H2 _ _ R3 k3 fun c H3 x3 k4 => ?_
      have x23 := hxo x3
      have s3 := it.stab _ _ (it.stab _ _ s fun a o e n => hx.keep a o e n) fun a o e n => x23.keep a o e n
      cases c with
      | false =>
        refine iteF ⟨_, by (first | lia | omega), rfl, hlt, by (first | lia | omega), (x.trans hx).trans x23, s3, acc, (hx.trans x23).repL (fun a z => R.sAv z) ra, ?_⟩
        simpa using k4
      | true =>
        refine iteT (he _ φ3 σ3 τ3 H3 _ _ (R3.hx x3) k4 fun u w H4 x4 k5 r5 => ?_)
        have x34 := hxo x4
        refine ⟨_, by (first | lia | omega), rfl, hlt, by rw [List.length_append, List.length_singleton]; (first | lia | omega), ((x.trans hx).trans x23).trans x34, it.stab _ _ s3 fun a o e n => x34.keep a o e n, acc ++ [u], (((hx.trans x23).trans x34).repL (fun a z => R.sAv z) ra).app (show RepL _ _ [u] [w] from ⟨w, [], rfl, ?_, rfl⟩), k5⟩
        refine rep_mono (fun a o e n => ⟨e, fun z => n ?_⟩) _ _ r5
        cases b with
        | true => exact .inl z
        | false => exact .inl z
    · have ei : i = ts.length := by (first | lia | omega)
      subst ei
      rw [List.drop_length] at f
      refine .inl ⟨it.stop H' s, fun p hp => q acc p ys _ (x.trans (HX.new R' hp _)) f (x.none hp) upd_same (repL_new hp ra)⟩
end
end L2
set_option Elab.async false
set_option linter.all false
set_option maxRecDepth 100000
set_option maxHeartbeats 4000000
namespace L2
open PySem PySem.Spec PyProof.Rows
noncomputable def startT (N : List Str) : Bool → List Tr → TSt
  | true, ts => .st :: (ts.map TV.fz ++ List.replicate (N.length - (ts.length + 1)) .un)
  | false, ts => ts.map TV.fz ++ List.replicate (N.length - ts.length) .un
theorem nth_app_fz {ts : List Tr} {n i : Nat} {x : TV} (h : nth (ts.map TV.fz ++ List.replicate n .un) i = x) : x = .un ∨ ∃ t, ts[i]? = some t ∧ x = .fz t := by
  by_cases hi : i < ts.length
  · right
    rw [nth_of_lt (by simp; (first | lia | omega)), List.getElem_append_left (by simpa using hi), List.getElem_map] at h
    exact ⟨_, List.getElem?_eq_getElem hi, h.symm⟩
  · left
    by_cases h2 : i < ts.length + n
    · rw [nth_of_lt (by simp; (first | lia | omega)), List.getElem_append_right (by simp; (first | lia | omega)), List.getElem_replicate] at h
      exact h.symm
    · rw [nth_of_ge (by simp; (first | lia | omega))] at h
      exact h.symm
theorem start_get {N : List Str} {vs : List V} {i : Nat} {v : V} (h : vs[i]? = some v) : (start N vs)[i]? = some (some v) := by
  unfold start
  have hi := (List.getElem?_eq_some_iff.mp h).1
  rw [List.getElem?_append_left (by simpa using hi), List.getElem?_map, h]; rfl
theorem start_len {N : List Str} {vs : List V} (h : vs.length ≤ N.length) : (start N vs).length = N.length := by
  unfold start; rw [List.length_append, List.length_map, List.length_replicate]; (first | lia | omega)
section
variable {P : Program} {w : World} {K : PySem.W.Frag} {mg : Str → Option Value} {base : Heap} {k n : Nat} {x qual : Str} {st : Stmt} {f : Addr} {fd : FuncData} {N ps : List Str} {fr : Bool} {sp : TSp}
theorem rs_start0 {F S : Addr → Prop} {H : Hp} {ts : List Tr} {us : List V} (hF : ∀ a, F a → H a ≠ none) (hS : ∀ a, S a → F a) (hst : ∀ a, S a → IsSt a H) (r : RepL F H ts us) (hl : ts.length ≤ N.length) :
    RS K ⟨F, S, H, []⟩ (fun _ => none) (start N us) (startT N false ts) H where
  f0 := hF
  s0 := hS
  ext := fun a o e _ => e
  sst := fun a s => by
    rcases s with s | ⟨i, s, _⟩
    · exact hst a s
    · cases s
  inj := fun i j a us _ e => by cases e
  ow := fun i a e => by cases e
  len := by
    have := r.len
    rw [start_len (by (first | lia | omega))]
    simp [startT]; (first | lia | omega)
  ent := fun i => by
    rcases nth_app_fz (ts := ts) (n := N.length - ts.length) (i := i) rfl with e | ⟨t, h, e⟩
    · show Ent K _ _ H i _ (nth (ts.map TV.fz ++ List.replicate (N.length - ts.length) .un) i)
      rw [e]; trivial
    · show Ent K _ _ H i _ (nth (ts.map TV.fz ++ List.replicate (N.length - ts.length) .un) i)
      rw [e]
      obtain ⟨v, e1, e2⟩ := r.getT h
      exact ⟨v, start_get e1, rep_mono (fun a o e n => ⟨e, fun z => n (z.elim id fun ⟨_, z⟩ => nomatch z)⟩) _ _ e2⟩
  gh := fun p hp => absurd hp (by simp)
theorem own_tree (F : Fun K x qual st f fd) (S : FnScope N ps (defScope st)) (mgx : mg x = some (.ref f)) (b : Binds K fd ps []) (hn : ps.length = n)
    (body : ∀ (cdv : Value) (A : Around) (outer : List Env) (s : Shared) (H : Hp) (E : XK), Room k (A.deeper (envOfC qual (defScope st) s.heap.objs.size f cdv)) →
      ∃ T D, PSs (cxOf CX0 P w K mg base N qual (defScope st) f cdv A outer s H E).nox (defBody st) T ∧ OkS K fr T D ∧ ∀ ts KK, ts.length = n → sp ts KK → D { nx := fun _ => fr = false ∧ KK .non, rt := KK } (startT N false ts)) :
    Own P w K mg base (k + 1) x ps (spT n false fr sp) := by
  have hpl : ps.length ≤ N.length := by have := congrArg List.length S.pre; rw [List.length_take] at this; (first | lia | omega)
  refine own_mk F S mgx b (fun vs H Q E h => ?_) (fun cdv A outer s H vs Q E hr h => ?_)
  · obtain ⟨F', S', ts, KK, us, e, _, _, _, r, l, _⟩ := h
    cases (show vs = us from e)
    rw [← r.len, l, hn]
  · obtain ⟨F', S', ts, KK, us, e, hF, hS, hst, r, l, hsp, q⟩ := h
    cases (show vs = us from e)
    obtain ⟨T, D, ht, hd, h⟩ := body cdv A outer s H E hr
    refine ⟨T, ht, hd _ _ _ _ H _ _ (rs_start0 hF hS hst r (by (first | lia | omega))) (h ts KK l hsp) ⟨fun φ σ τ H1 R k => ?_, fun _ _ _ _ _ z => z.elim, fun _ _ _ _ _ z => z.elim, fun t v H1 r1 x k fl => ?_⟩⟩
    · obtain ⟨k1, k2⟩ := k
      exact q .non .non H1 k2 R.ext (fun a z => R.sst a (.inl z)) rfl fun z => by rw [k1] at z; cases z
    · exact q t v H1 k x.ext x.st r1 fl
noncomputable def OnlyT (H : Hp) : Prop := ∀ b, (H b = none ∨ ∃ o xs, H b = some (.frz o (.lst xs))) ∨ ∃ q, H b = some (.tb q)
noncomputable def spLaw (K : PySem.W.Frag) : Sp := fun vs H Q _ => ∃ (a : Addr) (ns : List Int), vs = [.ref a] ∧ (OnlyT H ∧ TabH K H) ∧ SqL K H a (ns.map V.int) ∧ ns.length ≤ 63 ∧ ∀ H', Q (.bl true) H'
theorem law_tree (F : Fun K x qual st f fd) (S : FnScope N ps (defScope st)) (hn : ps.length = 1)
    (body : ∀ (cdv : Value) (A : Around) (outer : List Env) (s : Shared) (H : Hp) (E : XK), Room k (A.deeper (envOfC qual (defScope st) s.heap.objs.size f cdv)) →
      ∃ T D, PSs (cxOf CX0 P w K mg base N qual (defScope st) f cdv A outer s H E).nox (defBody st) T ∧ OkS K false T D ∧ ∀ ns : List Int, ns.length ≤ 63 → D { nx := fun _ => False, rt := fun t => t = .bl true } (.sc ns :: List.replicate (N.length - 1) .un)) :
    FnOk P w K mg base CX0 (k + 1) f fd ps (spLaw K) := by
  have hpl : ps.length ≤ N.length := by have := congrArg List.length S.pre; rw [List.length_take] at this; (first | lia | omega)
  refine F.ok S (fun vs H Q E h => ?_) (fun cdv A outer s H vs Q E hr h => ?_)
  · obtain ⟨a, ns, rfl, _⟩ := h
    exact hn.symm
  · obtain ⟨a, ns, rfl, ⟨hO, hT⟩, hS, hl, q⟩ := h
    obtain ⟨T, D, ht, hd, h⟩ := body cdv A outer s H E hr
    have so : ScrOk K H a ns := by
      refine ⟨?_, hT⟩
      rcases hS with (z | ⟨o, z⟩) | z
      · exfalso
        rcases hO a with (y | ⟨o, xs, y⟩) | ⟨_, y⟩
        · rw [y] at z; cases z
        · rw [y] at z; cases z
        · rw [y] at z; cases z
      · exact .inl ⟨o, z⟩
      · exact .inr fun _ => .inr z
    have R : RS K ⟨fun _ => False, fun _ => False, H, []⟩ (fun _ => none) (start N [.ref a]) (.sc ns :: List.replicate (N.length - 1) .un) H := by
      refine ⟨fun _ z => z.elim, fun _ z => z, fun _ _ e _ => e, fun a s => ?_, fun i j a us _ e => (by cases e), fun i a e => (by cases e), ?_, fun i => ?_, fun p hp => absurd hp (by simp)⟩
      · rcases s with s | ⟨i, s, _⟩
        · exact s.elim
        · cases s
      · rw [start_len (by simp; (first | lia | omega))]
        simp; (first | lia | omega)
      · cases i with
        | zero => exact ⟨a, start_get rfl, hl, so⟩
        | succ i =>
          show Ent K _ _ H (i + 1) _ (nth (List.replicate (N.length - 1) .un) i)
          rcases nth_app_fz (ts := []) (n := N.length - 1) (i := i) rfl with e | ⟨t, h, e⟩
          · rw [List.map_nil, List.nil_append] at e
            rw [e]; trivial
          · simp at h
    refine ⟨T, ht, hd _ _ _ _ H _ _ R (h ns hl) ⟨fun _ _ _ _ _ z => z.elim, fun _ _ _ _ _ z => z.elim, fun _ _ _ _ _ z => z.elim, fun t v H1 r1 x k fl => ?_⟩⟩
    cases (show t = .bl true from k)
    cases (show v = .bl true from r1)
    exact q H1
end
section
variable {K : PySem.W.Frag} {fr : Bool}
noncomputable def sState (j i : Nat) (d : DE) : DS := fun G τ => match nth τ i with | .sc _ => d τ (fun t => match t with | .int k => 0 ≤ k ∧ G.nx (τ.set j .st) | _ => False) | _ => False
theorem oks_state {b : Bool} {j i : Nat} {te : TE} {d : DE} (h : OkE K b te d) : OkS K fr (tAsg (tOwn (spState K) (tCons (tVar i) (tCons te tNil))) (gName j)) (sState j i d) := fun B φ σ τ H E G R hd e => by
  have en := R.ent i
  unfold sState at hd
  revert en hd
  cases hi : nth τ i with
  | sc ns =>
    intro hd ⟨a, e1, hl, so, _⟩
    refine ⟨_, e1, h B φ σ τ H _ _ R hd fun t v H1 x1 k1 r1 => ?_⟩
    cases t with
    | int k =>
      cases (show v = .int k from r1)
      have sq : SqL K H1 a (ns.map V.int) := by
        rcases so with ⟨o, q⟩ | q
        · exact .inl (.inr ⟨o, x1.keep a _ q (frz_noSA R q)⟩)
        · exact q H1
      refine ⟨a, ns, k, rfl, sq, hl, k1.1, fun p n b hp hok => ?_⟩
      have x2 := x1.trans (HX.new (R.hx x1) hp (.lst [.int n, .bl b]))
      have z0 : B.H0 p = none := by
        cases q : B.H0 p with
        | none => rfl
        | some o =>
          by_cases s : B.S0 p
          · exact absurd hp ((R.hx x1).sst p (.inl s)).ne_none
          · rw [(R.hx x1).ext p o q s] at hp; cases hp
      refine e.nx _ _ _ _ (R.setNew (x := .st) x2 (x1.none hp) (by rw [upd_same]; exact fun z => nomatch z) (fun _ => ⟨n, b, upd_same, hok⟩) ⟨p, rfl, put_same, .inr z0⟩) k1.2
    | _ => exact k1.elim
  | _ => exact fun z _ => z.elim
noncomputable def pTake : TSp := fun ts KK => match ts with | [.int many] => (0 < many ∧ many < 2 ^ 128) ∧ ∀ r, 0 ≤ r → r < many → KK (.int r) | _ => False
theorem take_tree {P : Program} {w : World} {mg : Str → Option Value} {base : Heap} {k : Nat} {x : Str} {ps : List Str} (h : Own P w K mg base k x ps spTake) : Own P w K mg base k x ps (spT 1 true false pTake) := h.imp fun vs H Q E q => by
  obtain ⟨F, S, ts, KK, us, ⟨p, e, hp⟩, hF, hS, hst, r, l, hsp, q⟩ := q
  unfold pTake at hsp
  split at hsp
  · rename_i many
    obtain ⟨v, rfl, r1⟩ := repL1 r
    cases (show v = .int many from r1)
    refine ⟨p, many, e, hst p hp, hsp.1.1, hsp.1.2, fun r H' h0 h1 sb => q (.int r) (.int r) H' (hsp.2 r h0 h1) (fun a o e n => sb.keep a o (fun z => n (by rw [z]; exact hp)) e) (fun a s => ?_) rfl (fun z => nomatch z)⟩
    by_cases ea : a = p
    · rw [ea]; exact sb.st
    · obtain ⟨n, b, e1, z⟩ := hst a s
      exact ⟨n, b, sb.keep a _ ea e1, z⟩
  · exact hsp.elim
end
end L2
set_option Elab.async false
set_option linter.all false
set_option maxRecDepth 100000
set_option maxHeartbeats 4000000
namespace L2
open PySem PySem.Spec PyProof.Rows
mutual
noncomputable def toPD : Tr → PyData
  | .non => .none | .bl b => .bool b | .int i => .int i | .str x => .str x | .emp => .dict [] | .tup ts => .tuple (toPDs ts) | .lst ts => .list (toPDs ts)
noncomputable def toPDs : List Tr → List PyData
  | [] => []
  | t :: ts => toPD t :: toPDs ts
end
noncomputable def teq (t u : Tr) : Bool := PyData.eqv (toPD t) (toPD u)
noncomputable def pln (t : Tr) : Bool := (toPD t).canLay0
noncomputable def dep (t : Tr) : Nat := (toPD t).depth
section
variable {X : Cx} {pins : List (Addr × Obj)} {σ : St} {H : Hp} {s : Shared}
mutual
theorem rep_reads (I : Inv X pins σ H s) {F : Addr → Prop} : ∀ (t : Tr) (x : V) (a : Value), Rep F H t x → RelV x a → pln t = true → ∃ as, Reads s.heap a (toPD t) as
  | .non, x, a, r, e, _ => by cases (show x = .non from r); cases e; exact ⟨_, .none⟩
  | .bl b, x, a, r, e, _ => by cases (show x = .bl b from r); cases e; exact ⟨_, .bool b⟩
  | .int i, x, a, r, e, _ => by cases (show x = .int i from r); obtain ⟨t, rfl⟩ := e; exact ⟨_, .int i t⟩
  | .str i, x, a, r, e, _ => by cases (show x = .str i from r); obtain ⟨t, rfl⟩ := e; exact ⟨_, .str i t⟩
  | .emp, x, a, r, e, h => by cases h
  | .tup ts, x, a, r, e, h => by
    obtain ⟨p, ws, rfl, _, hp, rl⟩ := r
    cases e
    obtain ⟨its, rv, ⟨o, ho, hc, n, hd⟩, _⟩ := I.tuple (SqT.of hp)
    obtain ⟨as, ra⟩ := repL_reads I ts ws its rl rv h
    exact ⟨_, .tuple ho hc hd (by simpa using ra)⟩
  | .lst ts, x, a, r, e, h => by
    obtain ⟨p, ws, rfl, _, hp, rl⟩ := r
    cases e
    obtain ⟨its, rv, pl, _⟩ := I.list (SqL.of hp)
    obtain ⟨o, ho, hc, n, hd⟩ := pl.isList
    obtain ⟨as, ra⟩ := repL_reads I ts ws its rl rv h
    exact ⟨_, .list ho hc hd (by simpa using ra)⟩
theorem repL_reads (I : Inv X pins σ H s) {F : Addr → Prop} : ∀ (ts : List Tr) (ws : List V) (us : List Value), RepL F H ts ws → Vals ws us → PyData.canLayAll0 (toPDs ts) = true → ∃ as, ReadsAll s.heap us (toPDs ts) as
  | [], ws, us, r, v, _ => by cases (show ws = [] from r); cases v; exact ⟨_, .nil⟩
  | t :: ts, ws, us, r, v, h => by
    obtain ⟨w, r', rfl, h1, h2⟩ := r
    cases v with
    | cons v1 v2 =>
      have h' : pln t = true ∧ PyData.canLayAll0 (toPDs ts) = true := by
        have : (pln t && PyData.canLayAll0 (toPDs ts)) = true := h
        simpa using this
      obtain ⟨as, ra⟩ := rep_reads I t w _ h1 v1 h'.1
      obtain ⟨bs, rb⟩ := repL_reads I ts r' _ h2 v2 h'.2
      exact ⟨_, .cons ra rb⟩
end
end
noncomputable def EqOk (t u : Tr) : Prop := pln t = true ∧ pln u = true ∧ min (dep t) (dep u) ≤ 64
noncomputable def rEqD : R2 := fun x y H Q => ∃ F G t u, Rep F H t x ∧ Rep G H u y ∧ EqOk t u ∧ Q (.bl (teq t u)) H
noncomputable def rNeD : R2 := fun x y H Q => ∃ F G t u, Rep F H t x ∧ Rep G H u y ∧ EqOk t u ∧ Q (.bl (!teq t u)) H
section
variable {X : Cx}
theorem op_eqD (hu : X.A.units + 64 < cLine) : OpR X (compareOp .Eq) rEqD := by
  intro pins s σ H x y v u Q I rx ry h
  obtain ⟨F, G, t, t', r1, r2, ⟨p1, p2, p3⟩, q⟩ := h
  obtain ⟨as, ra⟩ := rep_reads I t x v r1 rx p1
  obtain ⟨bs, rb⟩ := rep_reads I t' y u r2 ry p2
  exact SeqAt.rcAt_reads ra rb p1 p2 (Nat.lt_of_le_of_lt (Nat.add_le_add_left p3 _) hu) X.prog X.w _ _ ⟨.bl _, H, I, rfl, q⟩
theorem op_neD (hu : X.A.units + 64 < cLine) : OpR X (compareOp .NotEq) rNeD := by
  intro pins s σ H x y v u Q I rx ry h
  obtain ⟨F, G, t, t', r1, r2, ⟨p1, p2, p3⟩, q⟩ := h
  obtain ⟨as, ra⟩ := rep_reads I t x v r1 rx p1
  obtain ⟨bs, rb⟩ := rep_reads I t' y u r2 ry p2
  exact SeqAt.rcNeAt_reads ra rb p1 p2 (Nat.lt_of_le_of_lt (Nat.add_le_add_left p3 _) hu) X.prog X.w _ _ ⟨.bl _, H, I, rfl, q⟩
end
noncomputable def fEqB (neg : Bool) (x y : Tr) (KK : Tr → Prop) : Prop := match x, y with
  | .int i, .int j => KK (.bl (if neg then !decide (i = j) else decide (i = j)))
  | x, y => EqOk x y ∧ KK (.bl (if neg then !teq x y else teq x y))
theorem eqOk_int (i j : Int) : EqOk (.int i) (.int j) := ⟨rfl, rfl, by show min 0 0 ≤ 64; decide⟩
theorem fEqB_of {neg : Bool} {x y : Tr} {KK : Tr → Prop} (h : fEqB neg x y KK) : EqOk x y ∧ KK (.bl (if neg then !teq x y else teq x y)) := by
  unfold fEqB at h
  split at h
  · exact ⟨eqOk_int _ _, h⟩
  · exact h
theorem os_eq : OpS rEqD (fEqB false) := fun F G H x y t u KK Q r1 r2 hf q => by
  obtain ⟨h1, h2⟩ := fEqB_of hf
  exact ⟨F, G, t, u, r1, r2, h1, q _ _ rfl h2⟩
theorem os_ne : OpS rNeD (fEqB true) := fun F G H x y t u KK Q r1 r2 hf q => by
  obtain ⟨h1, h2⟩ := fEqB_of hf
  exact ⟨F, G, t, u, r1, r2, h1, q _ _ rfl h2⟩
end L2
set_option Elab.async false
set_option linter.all false
set_option maxRecDepth 100000
set_option maxHeartbeats 4000000
namespace L2
open PySem PySem.Spec PyProof.Rows
noncomputable def iAny (K : PySem.W.Frag) (tl : TE) : TI := fun σ H R => tl σ H fun x H1 => ∃ a, x = .ref a ∧ (((∃ xs, SqL K H1 a xs) ∧ R (Itl K a) H1) ∨ ((∃ xs, SqT K H1 a xs) ∧ R (Itt K a) H1))
section
variable {X : Cx}
theorem pi_any (K : PySem.W.Frag) {tg l : Expr} {tl : TE} (hl : PE X l tl) (e : X.K = K := by rfl) : PI X tg l (iAny K tl) := by
  subst e
  intro pins s σ H R I h
  refine thn (@hl pins s σ H _ I h) fun v s1 ⟨x, H1, I1, r1, q1⟩ => ?_
  obtain ⟨a, e, q⟩ := q1
  subst e
  cases r1
  rcases q with ⟨⟨xs, hq⟩, q⟩ | ⟨⟨xs, hq⟩, q⟩
  · obtain ⟨its, rv, p, hz⟩ := I1.list hq
    refine wpAny_pyIter_list p.isList ?_
    refine ⟨s1.heap.objs.size, [s1.heap.objs.size], _, _, H1, rfl, I1.kept (t' := s1.toks) fun b o e => Heap.get?_push_of_some _ e, turn_list a _, ⟨_, Heap.get?_push_size _ rfl, rfl, rfl⟩, fun b hb => ?_, q⟩
    have e : b = s1.heap.objs.size := by simpa using hb
    subst e
    exact I1.fpOk (Nat.le_refl _) (I1.hok.fresh (Nat.le_refl _))
  · obtain ⟨its, rv, p, hz⟩ := I1.tuple hq
    refine wpAny_pyIter_tuple (show s1.heap.IsTuple a its.toArray from p) ?_
    refine ⟨s1.heap.objs.size, [s1.heap.objs.size], _, _, H1, rfl, I1.kept (t' := s1.toks) fun b o e => Heap.get?_push_of_some _ e, turn_tuple a _, ⟨_, Heap.get?_push_size _ rfl, rfl, rfl⟩, fun b hb => ?_, q⟩
    have e : b = s1.heap.objs.size := by simpa using hb
    subst e
    exact I1.fpOk (Nat.le_refl _) (I1.hok.fresh (Nat.le_refl _))
end
section
variable {K : PySem.W.Frag}
theorem oki_any {b : Bool} {te : TE} {d : DE} (h : OkE K b te d) : OkI K b (iAny K te) (iSeq d) := fun B φ σ τ H R KK Rs hd q =>
  h B φ σ τ H _ _ Rs hd fun t v H1 x1 k1 r1 => by
    cases t with
    | lst ts =>
      obtain ⟨a, ws, e, n, ha, rl⟩ := id r1
      subst e
      exact ⟨a, rfl, .inl ⟨⟨ws, SqL.of ha⟩, q _ ts _ H1 x1 k1 itl_list fun p hp => by
        cases List.mem_singleton.mp hp
        exact r1⟩⟩
    | tup ts =>
      obtain ⟨a, ws, e, n, ha, rl⟩ := id r1
      subst e
      exact ⟨a, rfl, .inr ⟨⟨ws, SqT.of ha⟩, q _ ts _ H1 x1 k1 itl_tup fun p hp => by
        cases List.mem_singleton.mp hp
        exact r1⟩⟩
    | _ => exact k1.elim
end
theorem Inv.sq2_inj {X : Cx} {pins : List (Addr × Obj)} {σ : St} {H : Hp} {s : Shared} {b : Bool} {a : Addr} {xs ys : List V} (I : Inv X pins σ H s) (h : Sq2 X.K b H a xs) (h' : Sq2 X.K b H a ys) : xs = ys := by
  cases b with
  | true => exact I.tuple_inj (show SqT X.K H a xs from h) h'
  | false => exact I.list_inj (show SqL X.K H a xs from h) h'
section
variable {P : Program} {w : World} {K : PySem.W.Frag} {e it a : Addr} {b : Bool}
end
section
variable {prog : Program} {w : World} {A : Around} {E : Value → Shared → Prop} {s : Shared}
end
section
variable {X : Cx}
end
section
variable {K : PySem.W.Frag}
end
end L2
set_option Elab.async false
set_option linter.all false
set_option maxRecDepth 100000
set_option maxHeartbeats 4000000
namespace L2
open PySem PySem.Spec PyProof.Rows
section
variable {X : Cx}
end
section
variable {X : Cx}
noncomputable def rLtA (K : PySem.W.Frag) : R2 := fun x y H Q => (rI0 fun i j => .bl (decide (i < j))) x y H Q ∨ rLtT K x y H Q
theorem op_ltA (K : PySem.W.Frag) (hu : X.A.units + 64 < cLine) (e : X.K = K := by rfl) : OpR X (compareOp .Lt) (rLtA K) := by subst e; exact op_lt.or (op_ltT (Nat.lt_of_le_of_lt (Nat.le_add_right _ _) hu))
end
section
variable {prog : Program} {w : World} {A : Around} {E : Value → Shared → Prop} {s : Shared}
theorem getItem_tuple_whole {t sl : Addr} {items : Array Value} {vl vu : Value} {lo hi : Option Int} {Q : Value → Shared → Prop} (ht : IsTup s.heap t items) (hs : s.heap.IsSliceOf sl vl vu .none) (pl : IsPart vl lo) (pu : IsPart vu hi)
    (hw : HT.sIx items.size 0 lo = 0 ∧ HT.sIx items.size items.size hi = items.size) (h : Q (.ref t) s) : wpAny (model prog w) A (getItem (.ref t) (.ref sl)) Q E s := by
  obtain ⟨os, hos, hcs, hds⟩ := id hs
  have hTs : s.TypeIs (.ref sl) "slice" := ⟨os, hos, hcs⟩
  unfold getItem
  try with_reducible refine wpAny_holding ?_
  first | refine wpAny_bind (wpAny_pure ?_) | skip
  refine wpAny_bind (wpAny_sequenceKey ht.typeIs (by decide) ?_)
  refine wpAny_bind (wpAny_callSpecial?_slot (name := Str.ofString "__getitem__") ht.typeIs PyProof.Rows.slot_tuple_getitem
    (wpAny_call_entry PyProof.Rows.slot_tuple_getitem ht.typeIs entry_tuple_getitem ?_ (args_tuple_getitem _ _)))
  show wpAny _ _ (Builtin.Tuple.tupleItemsOf (.ref t) >>= _) _ _ s
  refine wpAny_bind (tupleItemsOf_ ht ?_)
  refine wpAny_bind (wpAny_typeOf hTs ?_)
  rw [if_pos (by decide)]
  refine wpAny_bind (HT.sliceApplied_gen hs pl pu ?_)
  have hyes : (((HT.sIx items.size 0 lo : Nat) : Int) == 0 && (1 : Int) == 1 && (HT.sIx items.size items.size hi - HT.sIx items.size 0 lo) == items.size) = true := by
    rw [hw.1, hw.2]; simp
  show wpAny _ _ (if (((HT.sIx items.size 0 lo : Nat) : Int) == 0 && (1 : Int) == 1 && (HT.sIx items.size items.size hi - HT.sIx items.size 0 lo) == items.size) = true then _ else _) _ _ s
  rw [if_pos hyes]
  have hex : ∀ {Q' : Bool → Shared → Prop} {E' : Value → Shared → Prop} {A' : Around}, Q' true s → wpAny (model prog w) A' (Builtin.Tuple.tupleIsExact (.ref t)) Q' E' s := fun {Q' E' A'} hq => by
    unfold Builtin.Tuple.tupleIsExact
    refine wpAny_bind (wpAny_typeOf ht.typeIs (wpAny_pure ?_))
    have e : (Value.type "tuple" == Value.type "tuple") = true := by decide
    rw [e]; exact hq
  refine wpAny_bind (hex ?_)
  rw [if_pos rfl]
  exact wpAny_bind (wpAny_rule (wpAny_pure ⟨_, rfl, wpAny_pure h⟩))
end
section
variable {X : Cx}
noncomputable def rSlTA (K : PySem.W.Frag) : V → Option Int → Option Int → Hp → VK → Prop := fun x lo hi H Q => ∃ a xs, x = .ref a ∧ SqT K H a xs ∧
  (cutV xs lo hi = xs → Q (.ref a) H) ∧ ∀ p, H p = none → Q (.ref p) (upd H p (.tup (cutV xs lo hi)))
theorem sl_tupA : SlR X (rSlTA X.K) := by
  intro pins s σ H x v vl vu lo hi sl Q I rx hs pl pu h
  obtain ⟨a, xs, rfl, hx, q0, q⟩ := h
  by_cases hw : HT.sIx xs.length 0 lo = 0 ∧ HT.sIx xs.length xs.length hi = xs.length
  · cases rx
    obtain ⟨its, r, ht, hz⟩ := I.tuple hx
    have hlen : its.toArray.size = xs.length := by rw [List.size_toArray]; exact r.length.symm
    refine ⟨"tuple", _, PyProof.Rows.slot_tuple_getitem.lookup, ht.typeIs, ?_⟩
    refine getItem_tuple_whole ht hs pl pu (by rw [hlen]; exact hw) ⟨.ref a, H, I, rfl, q0 ?_⟩
    unfold cutV
    rw [hw.1, hw.2, List.drop_zero, Nat.sub_zero, List.take_length]
  · exact sl_tup pins s σ H _ v vl vu lo hi sl Q I rx hs pl pu ⟨a, xs, rfl, hx, hw, q⟩
noncomputable def rSlA (K : PySem.W.Frag) : V → Option Int → Option Int → Hp → VK → Prop := fun x lo hi H Q => rSlL K x lo hi H Q ∨ rSlTA K x lo hi H Q
theorem sl_any (K : PySem.W.Frag) (e : X.K = K := by rfl) : SlR X (rSlA K) := by
  subst e
  intro pins s σ H x v vl vu lo hi sl Q I rx hs pl pu h
  rcases h with h | h
  · exact sl_list pins s σ H x v vl vu lo hi sl Q I rx hs pl pu h
  · exact sl_tupA pins s σ H x v vl vu lo hi sl Q I rx hs pl pu h
end
section
variable {K : PySem.W.Frag} {fr : Bool}
noncomputable def fLtA (x y : Tr) (KK : Tr → Prop) : Prop := match x, y with
  | .int i, .int j => KK (.bl (decide (i < j)))
  | x, y => ∃ ns ms : List Int, x = .tup (ns.map Tr.int) ∧ y = .tup (ms.map Tr.int) ∧ KK (.bl (HT.lexLt ns ms))
theorem os_ltA : OpS (rLtA K) fLtA := fun F G H x y t u KK Q r1 r2 hf q => by
  unfold fLtA at hf
  split at hf
  · rename_i i j
    cases (show x = .int i from r1); cases (show y = .int j from r2)
    exact .inl ⟨i, j, rfl, rfl, q _ _ rfl hf⟩
  · obtain ⟨ns, ms, rfl, rfl, k⟩ := hf
    obtain ⟨a, ws, e, n, ha, rl⟩ := r1
    obtain ⟨a2, ws2, e2, n2, ha2, rl2⟩ := r2
    rw [repL_ints rl] at ha
    rw [repL_ints rl2] at ha2
    exact .inr ⟨a, a2, ns, ms, e, e2, SqT.of ha, SqT.of ha2, q _ _ rfl k⟩
theorem cutT_whole {F : Addr → Prop} {H : Hp} {ts : List Tr} {ws : List V} {lo hi : Option Int} (r : RepL F H ts ws) (h : cutV ws lo hi = ws) : cutT ts lo hi = ts := by
  unfold cutT
  unfold cutV at h
  rw [← r.len] at h
  have h1 : ((ts.drop (HT.sIx ts.length 0 lo)).take (HT.sIx ts.length ts.length hi - HT.sIx ts.length 0 lo)).length = ts.length := by
    have := congrArg List.length h
    rw [List.length_take, List.length_drop] at this ⊢
    rw [← r.len] at this
    exact this
  have h2 : HT.sIx ts.length 0 lo = 0 ∨ ts.length = 0 := by
    rw [List.length_take, List.length_drop] at h1
    (first | lia | omega)
  rcases h2 with h2 | h2
  · rw [h2, List.drop_zero, Nat.sub_zero]
    rw [h2, List.length_take, List.drop_zero, Nat.sub_zero] at h1
    exact List.take_of_length_le (by (first | lia | omega))
  · have : ts = [] := List.length_eq_zero_iff.mp h2
    subst this
    simp
theorem ok_slA {b : Bool} {te : TE} {tl th : TO} {d : DE} {dl dh : DO} (h : OkE K b te d) (hl : OkO K tl dl) (hh : OkO K th dh) : OkE K b (tSl (rSlA K) te tl th) (dSl d dl dh) := fun B φ σ τ H Q KK R hd q =>
  h B φ σ τ H _ _ R hd fun t v H1 x1 k1 r1 => hl B φ σ τ H1 _ _ (R.hx x1) k1 fun lo H2 x2 k2 => hh B φ σ τ H2 _ _ (R.hx (x1.trans x2)) k2 fun hi H3 x3 k3 => by
    have r3 := (x2.trans x3).rep (fun a s => R.sB s) r1
    have x := (x1.trans x2).trans x3
    cases t with
    | lst ts =>
      obtain ⟨a, ws, e, n, ha, rl⟩ := r3
      exact .inl ⟨a, ws, e, SqL.of ha, fun p hp => q _ _ _ (x.trans (HX.new (R.hx x) hp _)) k3 ⟨p, _, rfl, fun z => (R.hx x).domB z hp, upd_same, repL_upd hp (rl.cut lo hi)⟩⟩
    | tup ts =>
      obtain ⟨a, ws, e, n, ha, rl⟩ := id r3
      refine .inr ⟨a, ws, e, SqT.of ha, fun z => ?_, fun p hp => q _ _ _ (x.trans (HX.new (R.hx x) hp _)) k3 ⟨p, _, rfl, fun z => (R.hx x).domB z hp, upd_same, repL_upd hp (rl.cut lo hi)⟩⟩
      rw [← e]
      exact q _ _ H3 x k3 (by rw [cutT_whole rl z]; exact r3)
    | _ => exact k3.elim
end
end L2
set_option Elab.async false
set_option linter.all false
set_option maxRecDepth 100000
set_option maxHeartbeats 4000000
namespace L2
open PySem PySem.Spec PyProof.Rows
noncomputable def itCls (b : Bool) : String := if b then "tuple_iterator" else "list_iterator"
noncomputable abbrev za1 (b : Bool) (h : Heap) (a : Addr) : Heap := h.push { cls := .type (itCls b), data := .fields #[.ref a, .int 0 0] }
noncomputable abbrev za2 (b c : Bool) (h : Heap) (a d : Addr) : Heap := (za1 b h a).push { cls := .type (itCls c), data := .fields #[.ref d, .int 0 0] }
noncomputable abbrev za3 (b c : Bool) (h : Heap) (a d : Addr) : Heap := (za2 b c h a d).push { cls := .type "tuple", data := .seq #[.ref h.objs.size, .ref (za1 b h a).objs.size] }
noncomputable abbrev za4 (b c : Bool) (h : Heap) (a d : Addr) : Heap := (za3 b c h a d).push { cls := .type "tuple", data := .seq #[.none, .none] }
noncomputable abbrev za5 (b c : Bool) (h : Heap) (a d : Addr) : Heap := (za4 b c h a d).push { cls := .type "zip", data := .fields #[.none, .bool false, .bool false, .ref (za2 b c h a d).objs.size, .ref (za3 b c h a d).objs.size] }
theorem pyIter_src2 {prog : Program} {w : World} {A : Around} {E : Value → Shared → Prop} {s : Shared} {b : Bool} {a : Addr} {vs : List Value} {Q : Value → Shared → Prop} (h : Src2 b a vs s.heap) (q : Q (.ref s.heap.objs.size) { s with heap := za1 b s.heap a }) : wpAny (model prog w) A (pyIter (.ref a)) Q E s := by
  cases b with
  | true => exact wpAny_pyIter_tuple (show s.heap.IsTuple a vs.toArray from h) q
  | false => exact wpAny_pyIter_list (show s.heap.IsList a vs.toArray from h) q
theorem src2_push {b : Bool} {a : Addr} {vs : List Value} {h : Heap} (s : Src2 b a vs h) (o : Obj) : Src2 b a vs (h.push o) := (drw2 b 0 a vs).smv _ _ s fun o' e => Heap.get?_push_of_some _ e
theorem zipA_made (b c : Bool) (a d : Addr) (xs ys : List Value) : Meets (Builtin.«zip.__new__» ⟨[.type "zip", .ref a, .ref d], []⟩) (fun _ R s => Src2 b a xs s.heap ∧ Src2 c d ys s.heap ∧ R (.ok (.ret (.ref (za4 b c s.heap a d).objs.size))) { s with heap := za5 b c s.heap a d }) :=
  .of_wp fun prog w A R s h => by
    obtain ⟨hp, g, dd, tk, os⟩ := s
    obtain ⟨ha, hb, h⟩ := h
    have hsub := sub_zip
    have A1 : Src2 b a xs (Shared.heap ⟨hp, g, dd, tk, os⟩) := ha
    have B1 : Src2 c d ys (Shared.heap ⟨hp.push { cls := .type (itCls b), data := .fields #[.ref a, .int 0 0] }, g, dd, tk, os⟩) := src2_push hb _
    wp_walk using pyIter_src2 A1, pyIter_src2 B1
    exact ⟨_, rfl, h⟩
section
variable {prog : Program} {w : World} {A : Around} {E : Value → Shared → Prop} {s : Shared}
theorem call_zipA {b c : Bool} {a d : Addr} {xs ys : List Value} {Q : Value → Shared → Prop} (ha : Src2 b a xs s.heap) (hb : Src2 c d ys s.heap)
    (h : ∀ g, IsZip g (s.heap.objs.size + 4) (s.heap.objs.size + 2) (s.heap.objs.size + 3) .none → IsPair g (s.heap.objs.size + 2) (.ref s.heap.objs.size) (.ref (s.heap.objs.size + 1)) → IsPair g (s.heap.objs.size + 3) .none .none →
      Tn2 b s.heap.objs.size a 0 g → Tn2 c (s.heap.objs.size + 1) d 0 g → (∀ c o, s.heap.get? c = some o → g.get? c = some o) → Q (.ref (s.heap.objs.size + 4)) { s with heap := g }) :
    wpAny (model prog w) A (call (.type "zip") [.ref a, .ref d]) Q E s := by
  refine callType_new F.called_zip (by decide) (F.typeCall_zip_2 _ _) (F.newCall_zip_2 _ _) (fun obj => F.args_object_init_3 obj _ _) F.entry_zip_new (zipA_made b c a d xs ys) ⟨ha, hb, ?_⟩
  have n1 : (za1 b s.heap a).objs.size = s.heap.objs.size + 1 := Heap.size_push ..
  have n2 : (za2 b c s.heap a d).objs.size = s.heap.objs.size + 2 := by rw [Heap.size_push, n1]
  have n3 : (za3 b c s.heap a d).objs.size = s.heap.objs.size + 3 := by rw [Heap.size_push, n2]
  have n4 : (za4 b c s.heap a d).objs.size = s.heap.objs.size + 4 := by rw [Heap.size_push, n3]
  have o5 : (za5 b c s.heap a d).get? (za4 b c s.heap a d).objs.size = some _ := Heap.get?_push_size _ rfl
  have o4 : (za5 b c s.heap a d).get? (za3 b c s.heap a d).objs.size = some _ := Heap.get?_push_of_some _ (Heap.get?_push_size _ rfl)
  have o3 : (za5 b c s.heap a d).get? (za2 b c s.heap a d).objs.size = some _ := Heap.get?_push_of_some _ (Heap.get?_push_of_some _ (Heap.get?_push_size _ rfl))
  have o2 : (za5 b c s.heap a d).get? (za1 b s.heap a).objs.size = some _ := Heap.get?_push_of_some _ (Heap.get?_push_of_some _ (Heap.get?_push_of_some _ (Heap.get?_push_size _ rfl)))
  have o1 : (za5 b c s.heap a d).get? s.heap.objs.size = some _ := Heap.get?_push_of_some _ (Heap.get?_push_of_some _ (Heap.get?_push_of_some _ (Heap.get?_push_of_some _ (Heap.get?_push_size _ rfl))))
  show _ ∧ _
  rw [n2, n3, n4] at o5
  rw [n1, n2] at o3
  rw [n3] at o4
  rw [n1] at o2
  rw [n4]
  refine ⟨⟨_, o5, rfl⟩, h _ o5 o3 o4 ?_ ?_ fun c o g => Heap.get?_push_of_some _ (Heap.get?_push_of_some _ (Heap.get?_push_of_some _ (Heap.get?_push_of_some _ (Heap.get?_push_of_some _ g))))⟩
  · cases b with
    | true => exact ⟨_, o1, rfl, rfl⟩
    | false => exact ⟨_, o1, rfl, rfl⟩
  · cases c with
    | true => exact ⟨_, o2, rfl, rfl⟩
    | false => exact ⟨_, o2, rfl, rfl⟩
end
noncomputable def Itz2 (K : PySem.W.Frag) (b c : Bool) (a1 a2 : Addr) : It :=
  ⟨fun i H => ∃ xs ys x y, Sq2 K b H a1 xs ∧ Sq2 K c H a2 ys ∧ xs[i]? = some x ∧ ys[i]? = some y,
   fun i H v H' => ∃ x y q, (∀ xs, Sq2 K b H a1 xs → xs[i]? = some x) ∧ (∀ ys, Sq2 K c H a2 ys → ys[i]? = some y) ∧ v = .ref q ∧ H q = none ∧ H' = upd H q (.tup [x, y]),
   fun i H => ∃ xs ys, Sq2 K b H a1 xs ∧ Sq2 K c H a2 ys ∧ (xs.length ≤ i ∨ ys.length ≤ i)⟩
section
variable {P : Program} {w : World} {K : PySem.W.Frag} {z ti to i1 i2 a1 a2 : Addr} {b c' : Bool}
noncomputable def ZS2 (b c : Bool) (z ti to i1 i2 a1 a2 : Addr) (i : Nat) (h : Heap) : Prop := IsZip h z ti to .none ∧ IsPair h ti (.ref i1) (.ref i2) ∧ (∃ p q, IsPair h to p q) ∧ Tn2 b i1 a1 i h ∧ Tn2 c i2 a2 i h
theorem turn_zip2 {elts : List Expr} {kk : Nat} {pp : Pos} (D : ZA z ti to i1 i2 a1 a2) : Turn P w K (.Tuple elts kk pp) (Itz2 K b c' a1 a2) [z, ti, to, i1, i2] z (ZS2 b c' z ti to i1 i2 a1 a2) where
  mem := by simp
  obj := fun i h st c hc => by
    obtain ⟨s1, s2, ⟨p, q, s3⟩, s4, s5⟩ := st
    simp only [List.mem_cons, List.not_mem_nil, or_false] at hc
    rcases hc with e | e | e | e | e <;> subst e
    · exact ⟨_, s1, fun v => by simp⟩
    · exact ⟨_, s2, fun v => by simp⟩
    · exact ⟨_, s3, fun v => by simp⟩
    · exact (drw2 b _ a1 []).ob _ _ s4
    · exact (drw2 c' _ a2 []).ob _ _ s5
  keep := fun i h h' st k => by
    obtain ⟨s1, s2, ⟨p, q, s3⟩, s4, s5⟩ := st
    exact ⟨k _ (by simp) _ s1, k _ (by simp) _ s2, ⟨p, q, k _ (by simp) _ s3⟩, (drw2 b i1 a1 []).mv _ _ _ s4 fun o e => k _ (by simp) o e, (drw2 c' i2 a2 []).mv _ _ _ s5 fun o e => k _ (by simp) o e⟩
  item := by
    intro X hP hw hK hc i pins s σ H E I hf st hg
    subst hP hw hK
    obtain ⟨Z, TI, ⟨p, q, TO⟩, b1, b2⟩ := st
    obtain ⟨xs, ys, x, y, sq1, sq2, hx, hy⟩ := hg
    obtain ⟨vs, rv, c1⟩ := I.sq2 sq1
    obtain ⟨us, ru, c2⟩ := I.sq2 sq2
    obtain ⟨xv, ex, rx⟩ := rv.get hx
    obtain ⟨yv, ey, ry⟩ := ru.get hy
    have hT : s.TypeIs (.ref z) "zip" := ⟨_, Z, rfl⟩
    have fr : H s.heap.objs.size = none := I.hok.fresh (Nat.le_refl _)
    unfold pyNext
    refine wpAny_bind (wpAny_attempt (wpAny_callSpecial?_slot (name := Str.ofString "__next__") hT F.slot_zip_next (wpAny_call_entry F.slot_zip_next hT F.entry_zip_next (zipN_item D (drw2 b i1 a1 vs) (drw2 c' i2 a2 us) Z TI TO b1 b2 c1 c2 ex ey fun g Z' TO' b1' b2' T' kp => ?_) (F.args_zip_next_1 _))))
    refine wpAny_pure ⟨_, rfl, wpAny_letOwnedTupleGo_zip Z' fun g2 Z2 S2 => ?_⟩
    obtain ⟨⟨d1, d2, d3, d4, d5, d6, d7, d8, d9, d10⟩, _⟩ := D
    have ltz : z < s.heap.objs.size := Heap.lt_size Z
    have kp2 : ∀ c o, c ∉ [z, ti, to, i1, i2] → s.heap.get? c = some o → g2.get? c = some o := fun c o hc e => by
      simp only [List.mem_cons, List.not_mem_nil, or_false, not_or] at hc
      exact S2.extBut _ _ hc.1 (kp c o hc.1 hc.2.2.1 hc.2.2.2.1 hc.2.2.2.2 e)
    have TI2 : IsPair g2 ti (.ref i1) (.ref i2) := S2.extBut _ _ d1 (kp _ _ d1 d5 d6 d7 TI)
    have T2 : IsPair g2 s.heap.objs.size xv yv := S2.extBut _ _ (Nat.ne_of_gt ltz) T'
    have st2 : ZS2 b c' z ti to i1 i2 a1 a2 (i + 1) g2 := ⟨Z2, TI2, ⟨_, _, S2.extBut _ _ d2 TO'⟩, (drw2 b i1 a1 vs).mv _ _ _ b1' fun o => S2.extBut _ o d3, (drw2 c' i2 a2 us).mv _ _ _ b2' fun o => S2.extBut _ o d4⟩
    have nfp : ∀ c u, H c = some u → c ∉ [z, ti, to, i1, i2] := fun c u e hm => by rw [(hf c hm).1] at e; cases e
    have nT : ∀ c o, s.heap.get? c = some o → c ≠ s.heap.objs.size := fun c o e => Nat.ne_of_lt (Heap.lt_size e)
    refine ⟨.ref s.heap.objs.size, upd H s.heap.objs.size (.tup [x, y]), ?_, rfl, ⟨x, y, _, fun xs' h' => by rw [← I.sq2_inj sq1 h']; exact hx, fun ys' h' => by rw [← I.sq2_inj sq2 h']; exact hy, rfl, fr, rfl⟩, st2, fun c hm => ?_⟩
    · show Inv X pins σ (upd H s.heap.objs.size (.tup [x, y])) { s with heap := g2, gens := s.gens, drawn := s.drawn, toks := s.toks }
      refine Inv.step (s := s) (g' := s.gens) (d' := s.drawn) (t' := s.toks) (ch := [z, ti, to, i1, i2]) I (fun c hm => ?_) (fun c o _ _ hm e _ => kp2 c o hm e) (fun c o _ _ hm e _ => ⟨o.slots, kp2 c o hm e⟩) (fun c o hm e n => by rw [upd_ne (nT c o e)]; exact n) (fun c o hm e => ⟨o, kp2 c o hm e⟩)
        (fun c zs e => by rw [upd_ne (ne_of_none e fr)]; exact e) (fun c o u e => by rw [upd_ne (ne_of_none e fr)]; exact e) (fun c ps e => ⟨#[], by rw [upd_ne (ne_of_none e fr), e]; simp⟩) (fun m hm => ?_) (fun c u e => ?_) I.bare
      · obtain ⟨_, f1, _, f3, f4, f5⟩ := hf c hm
        exact ⟨f3, f1, f4, f5⟩
      · obtain ⟨o, es, ep, ho, r⟩ := hm
        exact ⟨o, es, ep, kp2 _ o (fun z' => (hf _ z').2.1 rfl) ho, r⟩
      · by_cases hc' : c = s.heap.objs.size
        · subst hc'
          rw [upd_same] at e
          cases e
          exact ⟨by show 2 ≤ sizeLine; decide, [xv, yv], .cons rx (.cons ry .nil), _, T2, rfl, 0, rfl⟩
        · rw [upd_ne hc'] at e
          refine (I.hok c u e).stay (fun c' v hcc q' => kp2 c' v ?_ q') (fun c' q' => by rw [upd_ne (ne_of_none q' fr)]; exact q') (fun c' zs q' => by rw [upd_ne (ne_of_none q' fr)]; exact q') fun c' o u q' => by rw [upd_ne (ne_of_none q' fr)]; exact q'
          rcases hcc with rfl | hcc
          · exact nfp _ _ e
          · exact nfp _ _ hcc
    · rw [upd_ne]
      · exact (hf c hm).1
      · simp only [List.mem_cons, List.not_mem_nil, or_false] at hm
        rcases hm with e | e | e | e | e <;> subst e
        · exact nT _ _ Z
        · exact nT _ _ TI
        · exact nT _ _ TO
        · obtain ⟨o, e, _⟩ := (drw2 b _ a1 []).ob _ _ b1; exact nT _ _ e
        · obtain ⟨o, e, _⟩ := (drw2 c' _ a2 []).ob _ _ b2; exact nT _ _ e
  done := by
    intro X hP hw hK hc i pins s σ H E I hf st hg
    subst hP hw hK
    obtain ⟨Z, TI, ⟨p, q, TO⟩, b1, b2⟩ := st
    obtain ⟨xs, ys, sq1, sq2, hend⟩ := hg
    obtain ⟨vs, rv, c1⟩ := I.sq2 sq1
    obtain ⟨us, ru, c2⟩ := I.sq2 sq2
    have hT : s.TypeIs (.ref z) "zip" := ⟨_, Z, rfl⟩
    have he : vs[i]? = none ∨ us[i]? = none := hend.imp (fun h => List.getElem?_eq_none_iff.mpr (by rw [← rv.length]; exact h)) (fun h => List.getElem?_eq_none_iff.mpr (by rw [← ru.length]; exact h))
    unfold pyNext
    refine wpAny_bind (wpAny_attempt (wpAny_callSpecial?_slot (name := Str.ofString "__next__") hT F.slot_zip_next (wpAny_call_entry F.slot_zip_next hT F.entry_zip_next (zipN_end (I.ok.hd hc) D (drw2 b i1 a1 vs) (drw2 c' i2 a2 us) Z TI TO b1 b2 c1 c2 he fun g e kp ho => ?_) (F.args_zip_next_1 _))))
    obtain ⟨o, ho, hcl⟩ := ho
    refine wpAny_bind (wpAny_isInstance (T := "StopIteration") (b := true) ⟨o, ho, hcl⟩ isSubtype_stop (wpAny_pure ⟨rfl, ?_⟩))
    have kp2 : ∀ c o, c ∉ [z, ti, to, i1, i2] → s.heap.get? c = some o → g.get? c = some o := fun c o hc e => by
      simp only [List.mem_cons, List.not_mem_nil, or_false, not_or] at hc
      exact kp c o hc.1 hc.2.2.1 hc.2.2.2.1 hc.2.2.2.2 e
    have nfp : ∀ c u, H c = some u → c ∉ [z, ti, to, i1, i2] := fun c u e hm => by rw [(hf c hm).1] at e; cases e
    refine Inv.step (s := s) (g' := s.gens) (d' := s.drawn) (t' := s.toks) (ch := [z, ti, to, i1, i2]) I (fun c hm => ?_) (fun c o _ _ hm e _ => kp2 c o hm e) (fun c o _ _ hm e _ => ⟨o.slots, kp2 c o hm e⟩) (fun c o hm e n => n) (fun c o hm e => ⟨o, kp2 c o hm e⟩)
      (fun c zs e => e) (fun c o u e => e) (fun c ps e => ⟨#[], by rw [e]; simp⟩) (fun m hm => ?_) (fun c u e => ?_) I.bare
    · obtain ⟨_, f1, _, f3, f4, f5⟩ := hf c hm
      exact ⟨f3, f1, f4, f5⟩
    · obtain ⟨o, es, ep, ho, r⟩ := hm
      exact ⟨o, es, ep, kp2 _ o (fun z' => (hf _ z').2.1 rfl) ho, r⟩
    · refine (I.hok c u e).stay (fun c' v hcc q' => kp2 c' v ?_ q') (fun _ q' => q') (fun _ _ q' => q') fun _ _ _ q' => q'
      rcases hcc with rfl | hcc
      · exact nfp _ _ e
      · exact nfp _ _ hcc
  self := fun A i s Q E st h => wpAny_pyIter_zip st.1 h
end
noncomputable def iZip2 (K : PySem.W.Frag) (ta : TA) : TI := fun σ H R => ta σ H fun vs H1 => ∃ (b c : Bool) (a1 a2 : Addr) (xs ys : List V), vs = [.ref a1, .ref a2] ∧ Sq2 K b H1 a1 xs ∧ Sq2 K c H1 a2 ys ∧ R (Itz2 K b c a1 a2) H1
section
variable {X : Cx}
theorem pi_zip2 (K : PySem.W.Frag) {elts : List Expr} {kk : Nat} {pp : Pos} {a b : Expr} {ta : TA} {p pos : Pos} (hg : Gl X "zip") (hm : X.mg "zip" = none) (ha : PA X [a, b] ta) (hs : starEach [a, b] X.env = [(false, eval a X.env), (false, eval b X.env)] := by rfl) (hs2 : starEach [b] X.env = [(false, eval b X.env)] := by rfl) (eK : X.K = K := by rfl) :
    PI X (.Tuple elts kk pp) (.Call (.Name "zip" p) [a, b] [] pos) (iZip2 K ta) := by
  subst eK
  intro pins s σ H R I h
  refine Call_ (ld_blt I hg hm bt_zip (PyProof.Rows.callWith_type1 (thn (@ha pos pins s σ H _ I h) fun us s1 ⟨vs, H1, I1, r1, q1⟩ => ?_) (by rw [hs, hs2]) (by rw [hs2]; rfl)))
  obtain ⟨bb, cc, a1, a2, xs, ys, e, sq1, sq2, q⟩ := q1
  subst e
  obtain ⟨u1, u2, rfl, e1, e2⟩ := vals2 r1
  obtain rfl : u1 = Value.ref a1 := e1
  obtain rfl : u2 = Value.ref a2 := e2
  obtain ⟨vs, rv, c1⟩ := I1.sq2 sq1
  obtain ⟨us, ru, c2⟩ := I1.sq2 sq2
  have fp : ∀ k : Nat, FpOk X pins H1 (s1.heap.objs.size + k) := fun k => I1.fpOk (Nat.le_add_right _ _) (I1.hok.fresh (Nat.le_add_right _ _))
  have lt : ∀ (b : Bool) (a : Addr) (vs : List Value), Src2 b a vs s1.heap → a < s1.heap.objs.size := fun b a vs h => by
    cases b with
    | true => obtain ⟨o, e, _⟩ := (show s1.heap.IsTuple a vs.toArray from h); exact Heap.lt_size e
    | false => obtain ⟨o, e, _⟩ := (show s1.heap.IsList a vs.toArray from h); exact Heap.lt_size e
  refine call_zipA c1 c2 ?_
  intro g z1 z2 z3 z4 z5 kp
  have st : ZS2 bb cc (s1.heap.objs.size + 4) (s1.heap.objs.size + 2) (s1.heap.objs.size + 3) s1.heap.objs.size (s1.heap.objs.size + 1) a1 a2 0 g := ⟨z1, z2, ⟨_, _, z3⟩, z4, z5⟩
  refine wpAny_pyIter_zip st.1 ⟨_, _, _, _, H1, rfl, I1.kept (t' := s1.toks) kp, turn_zip2 (za_new (lt _ _ _ c1) (lt _ _ _ c2)), st, fun c hc => ?_, q⟩
  simp only [List.mem_cons, List.not_mem_nil, or_false] at hc
  rcases hc with e | e | e | e | e <;> subst e
  · exact fp 4
  · exact fp 2
  · exact fp 3
  · exact fp 0
  · exact fp 1
end
noncomputable def zipT : List Tr → List Tr → List Tr
  | t :: ts, u :: us => .tup [t, u] :: zipT ts us
  | _, _ => []
theorem zipT_len : ∀ (ts us : List Tr), (zipT ts us).length = min ts.length us.length
  | [], _ => by simp [zipT]
  | _ :: _, [] => by simp [zipT]
  | _ :: ts, _ :: us => by simp only [zipT, List.length_cons, zipT_len ts us]; (first | lia | omega)
theorem zipT_get : ∀ {ts us : List Tr} {i : Nat} {t u : Tr}, ts[i]? = some t → us[i]? = some u → (zipT ts us)[i]? = some (.tup [t, u])
  | [], _, _, _, _, h, _ => by simp at h
  | _ :: _, [], _, _, _, _, h => by simp at h
  | _ :: _, _ :: _, 0, _, _, h, h' => by simp at h h'; subst h h'; rfl
  | _ :: ts, _ :: us, i + 1, t, u, h, h' => by
    show (zipT ts us)[i]? = _
    exact zipT_get (by simpa using h) (by simpa using h')
noncomputable def sqT (b : Bool) (ts : List Tr) : Tr := if b then .tup ts else .lst ts
section
variable {K : PySem.W.Frag}
theorem rep_sq2 {F : Addr → Prop} {H : Hp} {b : Bool} {ts : List Tr} {a : Addr} (h : Rep F H (sqT b ts) (.ref a)) : ∃ ws, Sq2 K b H a ws ∧ RepL F H ts ws := by
  cases b with
  | true =>
    obtain ⟨a', ws, e, n, h, r⟩ := (show Rep F H (.tup ts) (.ref a) from h)
    cases e
    exact ⟨ws, SqT.of h, r⟩
  | false =>
    obtain ⟨a', ws, e, n, h, r⟩ := (show Rep F H (.lst ts) (.ref a) from h)
    cases e
    exact ⟨ws, SqL.of h, r⟩
theorem itl_zip2 {b c : Bool} {a1 a2 : Addr} {ts us : List Tr} : ItL (Itz2 K b c a1 a2) (zipT ts us) [(sqT b ts, .ref a1), (sqT c us, .ref a2)] where
  go := fun F H i s hi => by
    obtain ⟨ws, h1, r1⟩ := rep_sq2 (K := K) (s _ List.mem_cons_self)
    obtain ⟨ws2, h2, r2⟩ := rep_sq2 (K := K) (s _ (List.mem_cons_of_mem _ List.mem_cons_self))
    rw [zipT_len] at hi
    obtain ⟨w, e1, _⟩ := r1.getT (List.getElem?_eq_getElem (i := i) (by (first | lia | omega)))
    obtain ⟨w2, e2, _⟩ := r2.getT (List.getElem?_eq_getElem (i := i) (by (first | lia | omega)))
    exact ⟨ws, ws2, w, w2, h1, h2, e1, e2⟩
  stop := fun F H s => by
    obtain ⟨ws, h1, r1⟩ := rep_sq2 (K := K) (s _ List.mem_cons_self)
    obtain ⟨ws2, h2, r2⟩ := rep_sq2 (K := K) (s _ (List.mem_cons_of_mem _ List.mem_cons_self))
    refine ⟨ws, ws2, h1, h2, ?_⟩
    rw [zipT_len, ← r1.len, ← r2.len]; (first | lia | omega)
  yld := fun F i H x H' s d hi y => by
    obtain ⟨ws, h1, r1⟩ := rep_sq2 (K := K) (s _ List.mem_cons_self)
    obtain ⟨ws2, h2, r2⟩ := rep_sq2 (K := K) (s _ (List.mem_cons_of_mem _ List.mem_cons_self))
    obtain ⟨v, v2, q, hv, hv2, rfl, hq, rfl⟩ := y
    obtain ⟨t, e1, g1⟩ := r1.get (hv ws h1)
    obtain ⟨u, e2, g2⟩ := r2.get (hv2 ws2 h2)
    exact ⟨.inr ⟨q, _, hq, rfl⟩, .tup [t, u], zipT_get e1 e2, q, _, rfl, fun z => d q z hq, upd_same, ⟨_, _, rfl, rep_upd hq g1, _, _, rfl, rep_upd hq g2, rfl⟩⟩
noncomputable def seqT : Tr → Option (Bool × List Tr)
  | .tup ts => some (true, ts)
  | .lst ts => some (false, ts)
  | _ => none
noncomputable def iZipT (d : DA) : DI := fun τ KK => d τ fun xs => match xs with
  | [x, y] => (match seqT x, seqT y with | some p, some q => KK (zipT p.2 q.2) | _, _ => False)
  | _ => False
theorem seqT_some {x : Tr} {p : Bool × List Tr} (h : seqT x = some p) : x = sqT p.1 p.2 := by
  cases x with
  | tup ts => cases h; rfl
  | lst ts => cases h; rfl
  | _ => cases h
theorem rep_ref {F : Addr → Prop} {H : Hp} {b : Bool} {ts : List Tr} {v : V} (h : Rep F H (sqT b ts) v) : ∃ a, v = .ref a := by
  cases b with
  | true => obtain ⟨a, ws, e, _⟩ := (show Rep F H (.tup ts) v from h); exact ⟨a, e⟩
  | false => obtain ⟨a, ws, e, _⟩ := (show Rep F H (.lst ts) v from h); exact ⟨a, e⟩
theorem oki_zip2 {b : Bool} {n : Nat} {ta : TA} {da : DA} (h : OkA K b n ta da) : OkI K b (iZip2 K ta) (iZipT da) := fun B φ σ τ H R KK Rs hd q =>
  h B φ σ τ H _ _ Rs hd fun ts vs H1 x1 k1 l1 r1 => by
    split at k1
    · rename_i x y
      split at k1
      · rename_i p p' e1 e2
        obtain ⟨v, w, rfl, g1, g2⟩ := repL2 r1
        rw [seqT_some e1] at g1
        rw [seqT_some e2] at g2
        obtain ⟨a1, rfl⟩ := rep_ref g1
        obtain ⟨a2, rfl⟩ := rep_ref g2
        obtain ⟨ws, s1, _⟩ := rep_sq2 (K := K) g1
        obtain ⟨ws2, s2, _⟩ := rep_sq2 (K := K) g2
        refine ⟨p.1, p'.1, a1, a2, ws, ws2, rfl, s1, s2, q _ _ _ H1 x1 k1 itl_zip2 fun z hz => ?_⟩
        simp only [List.mem_cons, List.not_mem_nil, or_false] at hz
        rcases hz with rfl | rfl
        · exact g1
        · exact g2
      · exact k1.elim
    · exact k1.elim
end
end L2
namespace L2
open PySem PySem.Spec PyProof.Rows
theorem ix_seqK {X : Cx} (K : PySem.W.Frag) (e : X.K = K := by rfl) : IxR X (rIx K) := e ▸ ix_seq
end L2
set_option Elab.async false
set_option linter.all false
set_option maxRecDepth 100000
set_option maxHeartbeats 4000000
namespace L2
open PySem PySem.Spec PyProof.Rows
theorem fRun_ind {dg : DG} {body : DS} {G : TEnds} (W : List Tr → TSt → Prop) (h0 : ∀ τ, W [] τ → G.nx τ)
    (h1 : ∀ x xs τ (N : TSt → Prop), W (x :: xs) τ → (∀ τ', W xs τ' → N τ') → dg x τ fun τ' => body { G with nx := N, ct := N, bk := G.nx } τ') : ∀ xs τ, W xs τ → fRun dg body G xs τ
  | [], τ, w => h0 τ w
  | x :: xs, τ, w => h1 x xs τ (fRun dg body G xs) w (fRun_ind W h0 h1 xs)
theorem fRun_idx {dg : DG} {body : DS} {G : TEnds} {all : List Tr} {τ : TSt} (W : Nat → TSt → Prop) (w0 : W 0 τ)
    (h1 : ∀ i x τ (N : TSt → Prop), all[i]? = some x → W i τ → (∀ τ', W (i + 1) τ' → N τ') → dg x τ fun τ' => body { G with nx := N, ct := N, bk := G.nx } τ')
    (h0 : ∀ τ, W all.length τ → G.nx τ) : fRun dg body G all τ := by
  refine fRun_ind (fun xs τ => ∃ i, xs = all.drop i ∧ i ≤ all.length ∧ W i τ) (fun τ ⟨i, e, hi, w⟩ => h0 τ ?_) (fun x xs τ N ⟨i, e, hi, w⟩ hN => ?_) all τ ⟨0, rfl, Nat.zero_le _, w0⟩
  · have : all.length ≤ i := by
      have := congrArg List.length e
      rw [List.length_drop] at this
      simp at this
      (first | lia | omega)
    have : i = all.length := by (first | lia | omega)
    rw [← this]; exact w
  · have hlt : i < all.length := by
      have := congrArg List.length e
      rw [List.length_drop] at this
      simp at this
      (first | lia | omega)
    rw [List.drop_eq_getElem_cons hlt] at e
    injection e with e1 e2
    exact h1 i x τ N (by rw [e1]; exact List.getElem?_eq_getElem hlt) w fun τ' w' => hN τ' ⟨i + 1, e2, hlt, w'⟩
theorem wRun_ind {c : DT} {body : DS} {G : TEnds} (W : Nat → TSt → Prop)
    (h : ∀ n τ (N : TSt → Prop), W n τ → (∀ m τ', m < n → W m τ' → N τ') → c τ fun b => if b = true then body { G with nx := N, ct := N, bk := G.nx } τ else G.nx τ) : ∀ k n τ, n < k → W n τ → wRun c body G k τ
  | 0, _, _, hk, _ => absurd hk (by (first | lia | omega))
  | k + 1, n, τ, hk, w => h n τ (wRun c body G k) w fun m τ' hm w' => wRun_ind W h k m τ' (by (first | lia | omega)) w'
theorem while_ind {c : DT} {body : DS} {G : TEnds} {τ : TSt} (W : Nat → TSt → Prop) (n : Nat) (w0 : W n τ)
    (h : ∀ n τ (N : TSt → Prop), W n τ → (∀ m τ', m < n → W m τ' → N τ') → c τ fun b => if b = true then body { G with nx := N, ct := N, bk := G.nx } τ else G.nx τ) : sWhile c body G τ :=
  ⟨n + 1, wRun_ind W h (n + 1) n τ (Nat.lt_succ_self n) w0⟩
theorem cRun_ind {dg : DG} {dc : DT} {de : DE} {τi : TSt} {KK : List Tr → Prop} (W : List Tr → List Tr → Prop) (h0 : ∀ acc, W [] acc → KK acc)
    (h1 : ∀ x xs acc (N : List Tr → Prop), W (x :: xs) acc → (∀ acc', W xs acc' → N acc') → dg x τi fun τ2 => dc τ2 fun b => if b = true then de τ2 fun y => N (acc ++ [y]) else N acc) : ∀ xs acc, W xs acc → cRun dg dc de τi KK xs acc
  | [], acc, w => h0 acc w
  | x :: xs, acc, w => h1 x xs acc (cRun dg dc de τi KK xs) w (cRun_ind W h0 h1 xs)
theorem cRun_map {dg : DG} {de : DE} {τi : TSt} {KK : List Tr → Prop} {xs : List Tr} (g : Tr → Tr) (h1 : ∀ x ∈ xs, ∀ N : Tr → Prop, N (g x) → dg x τi fun τ2 => de τ2 N) (h0 : KK (xs.map g)) : cRun dg dNoIf de τi KK xs [] := by
  refine cRun_ind (fun ys acc => ∃ zs, xs = zs ++ ys ∧ acc = zs.map g) (fun acc ⟨zs, e, e2⟩ => ?_) (fun x ys acc N ⟨zs, e, e2⟩ hN => ?_) xs [] ⟨[], rfl, rfl⟩
  · rw [List.append_nil] at e
    subst e e2
    exact h0
  · subst e2
    have hx : x ∈ xs := by rw [e]; simp
    exact h1 x hx (fun y => N (zs.map g ++ [y])) (hN _ ⟨zs ++ [x], by rw [e]; simp, by simp⟩)
theorem map_get {α : Type} {f : α → Tr} {l : List α} {i : Nat} {t : Tr} (h : (l.map f)[i]? = some t) : ∃ x, l[i]? = some x ∧ t = f x := by
  rw [List.getElem?_map] at h
  cases e : l[i]? with
  | none => rw [e] at h; cases h
  | some x => rw [e] at h; cases h; exact ⟨x, rfl, rfl⟩
theorem atT_last {α : Type} (ts : List α) (t : α) : atT (ts ++ [t]) (-1) = some t := by
  rw [atT_eq]; exact atI_last ts t
theorem sqz {n : Nat} (h : n ≤ 1000000) : n < sizeLine := Nat.lt_of_le_of_lt h (by decide)
theorem fdiv_pos {a b : Int} (h : 0 ≤ b) : a.fdiv b = a / b := Int.fdiv_eq_ediv_of_nonneg a h
theorem fmod_pos {a b : Int} (h : 0 ≤ b) : a.fmod b = a % b := Int.fmod_eq_emod_of_nonneg a h
end L2
set_option Elab.async false
set_option linter.all false
set_option maxRecDepth 100000
set_option maxHeartbeats 4000000
namespace L2
open PySem PySem.Spec PyProof.Rows
section
variable {prog : Program} {w : World} {A : Around} {E : Value → Shared → Prop} {s : Shared}
end
section
variable {X : Cx}
end
section
variable {K : PySem.W.Frag}
end
theorem ite_bl {b : Bool} {A B : Prop} (h1 : b = true → A) (h0 : b = false → B) : if b = true then A else B := by
  cases b with
  | true => exact iteT (h1 rfl)
  | false => exact iteF (h0 rfl)
end L2
set_option Elab.async false
set_option linter.all false
set_option maxHeartbeats 4000000
namespace Pol
noncomputable abbrev R3 := Int × Int × Int
noncomputable def val (r p : R3) : Int := r.1 * p.1 + r.2.1 * p.2.1 - r.2.2 * p.2.2
noncomputable def det (u v w : R3) : Int := u.1 * (v.2.1 * w.2.2 - v.2.2 * w.2.1) - u.2.1 * (v.1 * w.2.2 - v.2.2 * w.1) + u.2.2 * (v.1 * w.2.1 - v.2.1 * w.1)
noncomputable def add (u v : R3) : R3 := (u.1 + v.1, u.2.1 + v.2.1, u.2.2 + v.2.2)
noncomputable def mul (k : Int) (u : R3) : R3 := (k * u.1, k * u.2.1, k * u.2.2)
theorem ext3 {u v : R3} (h1 : u.1 = v.1) (h2 : u.2.1 = v.2.1) (h3 : u.2.2 = v.2.2) : u = v := Prod.ext h1 (Prod.ext h2 h3)
theorem val_add (r p q : R3) : val r (add p q) = val r p + val r q := by simp only [val, add]; grind
theorem val_mul (r p : R3) (k : Int) : val r (mul k p) = k * val r p := by simp only [val, mul]; grind
theorem det_cyc (u v w : R3) : det u v w = det v w u := by simp only [det]; grind
theorem det_same (u v : R3) : det u v v = 0 := by simp only [det]; grind
theorem det_same1 (u v : R3) : det u u v = 0 := by simp only [det]; grind
theorem det_add3 (u v p q : R3) : det u v (add p q) = det u v p + det u v q := by simp only [det, add]; grind
theorem det_mul3 (u v p : R3) (k : Int) : det u v (mul k p) = k * det u v p := by simp only [det, mul]; grind
theorem pp {a b : Int} (h : 0 < a) (k : 0 < b) : 0 < a * b := Int.mul_pos h k
theorem pz {a b : Int} (h : 0 ≤ a) (k : 0 ≤ b) : 0 ≤ a * b := Int.mul_nonneg h k
theorem pn {a b : Int} (h : 0 ≤ a) (k : b ≤ 0) : a * b ≤ 0 := Int.mul_nonpos_of_nonneg_of_nonpos h k
theorem nn {a b : Int} (h : a ≤ 0) (k : b ≤ 0) : 0 ≤ a * b := Int.mul_nonneg_of_nonpos_of_nonpos h k
theorem pos_right {a b : Int} (h : 0 < a) (k : 0 < a * b) : 0 < b := by
  rcases Int.lt_or_le 0 b with z | z
  · exact z
  · have := pn (Int.le_of_lt h) z; (first | lia | omega)
theorem nonneg_right {a b : Int} (h : 0 < a) (k : 0 ≤ a * b) : 0 ≤ b := by
  rcases Int.lt_or_le b 0 with z | z
  · have := Int.mul_neg_of_pos_of_neg h z; (first | lia | omega)
  · exact z
theorem zero_right {a b : Int} (h : 0 < a) (k : a * b = 0) : b = 0 := (Int.mul_eq_zero.mp k).resolve_left (by (first | lia | omega))
inductive Cn (l : List R3) : R3 → Prop
  | zero : Cn l (0, 0, 0)
  | mem {v} : v ∈ l → Cn l v
  | add {p q} : Cn l p → Cn l q → Cn l (add p q)
noncomputable def InC (l : List R3) (p : R3) : Prop := ∃ m : Int, 0 < m ∧ Cn l (mul m p)
structure Ccw (l : List R3) : Prop where
  tri : ∀ u v w : R3, List.Sublist [u, v, w] l → 0 < det u v w
  nd : l.Nodup
theorem split3 {u v w : R3} {l1 l2 : List R3} (h : [u, v, w] = l1 ++ l2) : (l1 = [] ∧ l2 = [u, v, w]) ∨ (l1 = [u] ∧ l2 = [v, w]) ∨ (l1 = [u, v] ∧ l2 = [w]) ∨ (l1 = [u, v, w] ∧ l2 = []) := by
  cases l1 with
  | nil => exact .inl ⟨rfl, h.symm⟩
  | cons a t =>
    injection h with h1 h2
    subst h1
    cases t with
    | nil => exact .inr (.inl ⟨rfl, h2.symm⟩)
    | cons b t =>
      injection h2 with h1 h2
      subst h1
      cases t with
      | nil => exact .inr (.inr (.inl ⟨rfl, h2.symm⟩))
      | cons c t =>
        injection h2 with h1 h2
        subst h1
        have := List.append_eq_nil_iff.mp h2.symm
        rw [this.1, this.2]
        exact .inr (.inr (.inr ⟨rfl, rfl⟩))
end Pol
set_option Elab.async false
set_option linter.all false
set_option maxHeartbeats 4000000
namespace Pol
noncomputable def lastD : R3 → List R3 → R3
  | p, [] => p
  | _, x :: xs => lastD x xs
theorem det_rot (u v w : R3) : det u v w = det w u v := by simp only [det]; grind
theorem lastD_app (p q : R3) : ∀ (xs ys : List R3), lastD p (xs ++ q :: ys) = lastD q ys
  | [], _ => rfl
  | x :: xs, ys => lastD_app x q xs ys
theorem lastD_snoc (p q : R3) (xs : List R3) : lastD p (xs ++ [q]) = q := lastD_app p q xs []
theorem lastD_mem (p : R3) : ∀ (xs : List R3), lastD p xs ∈ p :: xs
  | [] => by simp [lastD]
  | x :: xs => List.mem_cons_of_mem _ (lastD_mem x xs)
theorem snoc_of (p : R3) : ∀ (xs : List R3), ∃ ys, p :: xs = ys ++ [lastD p xs]
  | [] => ⟨[], rfl⟩
  | x :: xs => by
    obtain ⟨ys, e⟩ := snoc_of x xs
    exact ⟨p :: ys, congrArg (p :: ·) e⟩
noncomputable def chain : R3 → List R3 → List (R3 × R3)
  | _, [] => []
  | p, x :: xs => (p, x) :: chain x xs
theorem chain_app (p : R3) : ∀ (xs ys : List R3), chain p (xs ++ ys) = chain p xs ++ chain (lastD p xs) ys
  | [], _ => rfl
  | x :: xs, ys => by
    show (p, x) :: chain x (xs ++ ys) = (p, x) :: (chain x xs ++ chain (lastD x xs) ys)
    rw [chain_app x xs ys]
noncomputable def cyc : List R3 → List (R3 × R3)
  | [] => []
  | x :: xs => chain (lastD x xs) (x :: xs)
theorem fan (x : R3) (p : R3) : ∀ (y : R3) (ys : List R3), (∀ u v, (u, v) ∈ chain y ys → 0 < det x u v ∧ 0 ≤ det u v p) → 0 ≤ det x y p → det x (lastD y ys) p ≤ 0 → ys ≠ [] → ∃ u v, (u, v) ∈ chain y ys ∧ 0 ≤ det x u p ∧ det x v p ≤ 0
  | y, [], _, _, _, h => absurd rfl h
  | y, z :: ys, hc, h0, h1, _ => by
    rcases Int.lt_or_le 0 (det x z p) with c | c
    · cases ys with
      | nil => exact absurd h1 (by show ¬ det x z p ≤ 0; (first | lia | omega))
      | cons a ys =>
        obtain ⟨u, v, m, h2, h3⟩ := fan x p z (a :: ys) (fun u v m => hc u v (List.mem_cons_of_mem _ m)) (Int.le_of_lt c) h1 (by simp)
        exact ⟨u, v, List.mem_cons_of_mem _ m, h2, h3⟩
    · exact ⟨y, z, List.mem_cons_self, h0, c⟩
end Pol
set_option Elab.async false
set_option linter.all false
set_option maxHeartbeats 4000000
namespace Pol
noncomputable def turn (r s : R3) : Int := r.1 * s.2.1 - r.2.1 * s.1
noncomputable def gcd3 (w : R3) : Nat := Int.gcd (Int.gcd w.1 w.2.1 : Int) w.2.2
noncomputable def red (w : R3) : R3 := (w.1 / gcd3 w, w.2.1 / gcd3 w, w.2.2 / gcd3 w)
theorem gcd3_dvd (w : R3) : (gcd3 w : Int) ∣ w.1 ∧ (gcd3 w : Int) ∣ w.2.1 ∧ (gcd3 w : Int) ∣ w.2.2 := by
  have h1 : (gcd3 w : Int) ∣ (Int.gcd w.1 w.2.1 : Int) := Int.gcd_dvd_left ..
  exact ⟨Int.dvd_trans h1 (Int.gcd_dvd_left ..), Int.dvd_trans h1 (Int.gcd_dvd_right ..), Int.gcd_dvd_right ..⟩
theorem dvd_gcd3 {d : Int} {w : R3} (h1 : d ∣ w.1) (h2 : d ∣ w.2.1) (h3 : d ∣ w.2.2) : d ∣ (gcd3 w : Int) := Int.dvd_coe_gcd (Int.dvd_coe_gcd h1 h2) h3
theorem gcd3_pos {w : R3} (h : 0 < w.2.2) : 0 < (gcd3 w : Int) := by
  have := Int.gcd_pos_of_ne_zero_right (Int.gcd w.1 w.2.1 : Int) (show w.2.2 ≠ 0 by (first | lia | omega))
  unfold gcd3; (first | lia | omega)
theorem mul_red {w : R3} : mul (gcd3 w) (red w) = w := by
  obtain ⟨h1, h2, h3⟩ := gcd3_dvd w
  exact ext3 (Int.mul_ediv_cancel' h1) (Int.mul_ediv_cancel' h2) (Int.mul_ediv_cancel' h3)
theorem red_bot {w : R3} (h : 0 < w.2.2) : 0 < (red w).2.2 := by
  have e : (gcd3 w : Int) * (red w).2.2 = w.2.2 := congrArg (·.2.2) (mul_red (w := w))
  exact pos_right (gcd3_pos h) (by rw [e]; exact h)
theorem gcd3_red {w : R3} (h : 0 < w.2.2) : gcd3 (red w) = 1 := by
  obtain ⟨h1, h2, h3⟩ := gcd3_dvd (red w)
  have g := gcd3_pos h
  have d : (gcd3 w : Int) * (gcd3 (red w) : Int) ∣ (gcd3 w : Int) := by
    have e := mul_red (w := w)
    refine dvd_gcd3 ?_ ?_ ?_
    · conv => rhs; rw [← e]
      exact Int.mul_dvd_mul_left _ h1
    · conv => rhs; rw [← e]
      exact Int.mul_dvd_mul_left _ h2
    · conv => rhs; rw [← e]
      exact Int.mul_dvd_mul_left _ h3
  have d2 : (gcd3 (red w) : Int) ∣ 1 := by
    have : (gcd3 w : Int) * (gcd3 (red w) : Int) ∣ (gcd3 w : Int) * 1 := by rw [Int.mul_one]; exact d
    exact Int.dvd_of_mul_dvd_mul_left (by (first | lia | omega)) this
  have := Int.le_of_dvd (by decide) d2
  have p := gcd3_pos (red_bot h)
  (first | lia | omega)
noncomputable def abs (i : Int) : Int := if i < 0 then -i else i
noncomputable def cw (r u v : R3) : R3 := add (mul (abs (val r v)) u) (mul (abs (val r u)) v)
noncomputable def crossed (r u v : R3) : R3 := red (cw r u v)
structure Bt (u v x : R3) (a b g : Int) : Prop where
  pa : 0 < a
  pb : 0 < b
  pg : 0 < g
  e : mul g x = add (mul a u) (mul b v)
theorem crossed_bt {r u v : R3} (hu : 0 < u.2.2) (hv : 0 < v.2.2) (h : val r u * val r v < 0) : Bt u v (crossed r u v) (abs (val r v)) (abs (val r u)) (gcd3 (cw r u v)) ∧ val r (crossed r u v) = 0 ∧ 0 < (crossed r u v).2.2 ∧ gcd3 (crossed r u v) = 1 := by
  have sg : (val r u < 0 ∧ 0 < val r v) ∨ (0 < val r u ∧ val r v < 0) := by
    rcases Int.lt_trichotomy (val r u) 0 with c | c | c
    · rcases Int.lt_or_le 0 (val r v) with d | d
      · exact .inl ⟨c, d⟩
      · have := nn (Int.le_of_lt c) d; (first | lia | omega)
    · rw [c] at h; simp at h
    · rcases Int.lt_or_le (val r v) 0 with d | d
      · exact .inr ⟨c, d⟩
      · have := pz (Int.le_of_lt c) d; (first | lia | omega)
  have p1 : 0 < abs (val r v) := by unfold abs; split <;> (first | lia | omega)
  have p2 : 0 < abs (val r u) := by unfold abs; split <;> (first | lia | omega)
  have hz : 0 < (cw r u v).2.2 := by
    show 0 < abs (val r v) * u.2.2 + abs (val r u) * v.2.2
    have := pp p1 hu
    have := pp p2 hv
    (first | lia | omega)
  have v0 : val r (cw r u v) = 0 := by
    unfold cw
    rw [val_add, val_mul, val_mul]
    rcases sg with ⟨c, d⟩ | ⟨c, d⟩
    · have e1 : abs (val r v) = val r v := by unfold abs; rw [if_neg (by (first | lia | omega))]
      have e2 : abs (val r u) = - val r u := by unfold abs; rw [if_pos c]
      rw [e1, e2]; grind
    · have e1 : abs (val r v) = - val r v := by unfold abs; rw [if_pos d]
      have e2 : abs (val r u) = val r u := by unfold abs; rw [if_neg (by (first | lia | omega))]
      rw [e1, e2]; grind
  refine ⟨⟨p1, p2, gcd3_pos hz, mul_red⟩, ?_, red_bot hz, gcd3_red hz⟩
  have := congrArg (val r) (mul_red (w := cw r u v))
  rw [val_mul, v0] at this
  exact zero_right (gcd3_pos hz) this
theorem Bt.det {u v x : R3} {a b g : Int} (h : Bt u v x a b g) (p q : R3) : g * Pol.det p q x = a * Pol.det p q u + b * Pol.det p q v := by
  have := congrArg (Pol.det p q) h.e
  rwa [det_mul3, det_add3, det_mul3, det_mul3] at this
end Pol
set_option Elab.async false
set_option linter.all false
set_option maxHeartbeats 4000000
namespace Pol
noncomputable def bef (r p q : R3) : List R3 := if val r q < 0 then [crossed r p q] else []
structure Good (Ls l : List R3) : Prop where
  ccw : Ccw l
  bot : ∀ v ∈ l, 0 < v.2.2
  prim : ∀ v ∈ l, gcd3 v = 1
  kept : ∀ v ∈ l, ∀ s ∈ Ls, val s v ≤ 0
  edge : ∀ u v, (u, v) ∈ cyc l → u ≠ v → ∃ s ∈ Ls, val s u = 0 ∧ val s v = 0
  two : ∀ v ∈ l, ∃ s ∈ Ls, ∃ t ∈ Ls, val s v = 0 ∧ val t v = 0 ∧ turn s t ≠ 0
  all : ∀ p : R3, 0 < p.2.2 → (∀ s ∈ Ls, val s p ≤ 0) → InC l p
end Pol
set_option Elab.async false
set_option linter.all false
set_option maxHeartbeats 4000000
namespace Pol
theorem last_pair {p : R3} {P : List R3} (h : P ≠ []) : List.Sublist [p, lastD p P] (p :: P) := by
  cases P with
  | nil => exact absurd rfl h
  | cons y ys => exact (List.singleton_sublist.mpr (show lastD p (y :: ys) ∈ y :: ys from lastD_mem y ys)).cons_cons p
section
variable {Ls P Q : List R3} {r p1 q1 : R3}
structure Set2 (Ls : List R3) (r p1 q1 : R3) (P Q : List R3) : Prop where
  good : Good Ls ((p1 :: P) ++ (q1 :: Q))
  hP : ∀ v ∈ p1 :: P, 0 < val r v
  hQ : ∀ v ∈ q1 :: Q, val r v ≤ 0
  three : P ≠ [] ∨ Q ≠ []
  dir : ∀ s ∈ Ls, s.1 ≠ 0 ∨ s.2.1 ≠ 0
namespace Set2
variable (S : Set2 Ls r p1 q1 P Q)
include S
theorem q1le : val r q1 ≤ 0 := S.hQ q1 List.mem_cons_self
theorem qmle : val r (lastD q1 Q) ≤ 0 := S.hQ _ (lastD_mem q1 Q)
theorem p1gt : 0 < val r p1 := S.hP p1 List.mem_cons_self
theorem pkgt : 0 < val r (lastD p1 P) := S.hP _ (lastD_mem p1 P)
theorem botQ {v : R3} (h : v ∈ q1 :: Q) : 0 < v.2.2 := S.good.bot v (List.mem_append_right _ h)
theorem botP {v : R3} (h : v ∈ p1 :: P) : 0 < v.2.2 := S.good.bot v (List.mem_append_left _ h)
theorem pqq {p x y : R3} (hp : p ∈ p1 :: P) (s : List.Sublist [x, y] (q1 :: Q)) : 0 < det p x y := S.good.ccw.tri p x y ((List.singleton_sublist.mpr hp).append s)
theorem ppq {p p' x : R3} (hp : List.Sublist [p, p'] (p1 :: P)) (hx : x ∈ q1 :: Q) : 0 < det p p' x := S.good.ccw.tri p p' x (hp.append (List.singleton_sublist.mpr hx))
theorem qqq {x y z : R3} (s : List.Sublist [x, y, z] (q1 :: Q)) : 0 < det x y z := S.good.ccw.tri x y z (s.trans (List.sublist_append_right _ _))
theorem q1xy {x y : R3} (s : List.Sublist [x, y] (q1 :: Q)) : 0 ≤ det q1 x y := by
  cases s with
  | cons _ s => exact Int.le_of_lt (S.qqq (s.cons_cons q1))
  | cons_cons _ s => rw [det_same1]; exact Int.le_refl _
theorem xyqm {x y : R3} (s : List.Sublist [x, y] (q1 :: Q)) : 0 ≤ det x y (lastD q1 Q) := by
  obtain ⟨ys, e⟩ := snoc_of q1 Q
  have s' := s
  rw [e] at s'
  obtain ⟨l1, l2, e2, s1, s2⟩ := List.sublist_append_iff.mp s'
  cases l2 with
  | nil =>
    rw [List.append_nil] at e2
    subst e2
    have := S.qqq (x := x) (y := y) (z := lastD q1 Q) (by rw [e]; exact s1.append (List.Sublist.refl [lastD q1 Q]))
    (first | lia | omega)
  | cons b l2 =>
    have hb : b = lastD q1 Q ∧ l2 = [] := by
      cases s2 with
      | cons _ s2 => cases s2
      | cons_cons _ s2 => cases s2; exact ⟨rfl, rfl⟩
    obtain ⟨hb, rfl⟩ := hb
    have : y = b := by
      cases l1 with
      | nil => cases e2
      | cons c l1 =>
        cases l1 with
        | nil => injection e2 with _ e2; injection e2
        | cons d l1 =>
          injection e2 with _ e2
          injection e2 with _ e2
          simp at e2
    rw [this, hb, det_same]; exact Int.le_refl _
theorem nd : ((p1 :: P) ++ (q1 :: Q)).Nodup := S.good.ccw.nd
theorem p1pkx {x : R3} (hx : x ∈ q1 :: Q) : 0 ≤ det p1 (lastD p1 P) x ∧ (P ≠ [] → 0 < det p1 (lastD p1 P) x) := by
  by_cases h : P = []
  · subst h
    exact ⟨by show 0 ≤ det p1 p1 x; rw [det_same1]; exact Int.le_refl _, fun z => absurd rfl z⟩
  · have := S.ppq (last_pair h) hx
    exact ⟨by (first | lia | omega), fun _ => this⟩
theorem pq1x {p x : R3} (hp : p ∈ p1 :: P) (hx : x ∈ q1 :: Q) : 0 ≤ det p q1 x ∧ (x ≠ q1 → 0 < det p q1 x) := by
  rcases List.mem_cons.mp hx with rfl | hx
  · exact ⟨by rw [det_same]; exact Int.le_refl _, fun z => absurd rfl z⟩
  · have := S.pqq hp ((List.singleton_sublist.mpr hx).cons_cons q1)
    exact ⟨by (first | lia | omega), fun _ => this⟩
theorem pxqm {p x : R3} (hp : p ∈ p1 :: P) (hx : x ∈ q1 :: Q) : 0 ≤ det p x (lastD q1 Q) ∧ (x ≠ lastD q1 Q → 0 < det p x (lastD q1 Q)) := by
  obtain ⟨ys, e⟩ := snoc_of q1 Q
  rw [e] at hx
  rcases List.mem_append.mp hx with hx | hx
  · have := S.pqq (x := x) (y := lastD q1 Q) hp (by rw [e]; exact (List.singleton_sublist.mpr hx).append (List.Sublist.refl [lastD q1 Q]))
    exact ⟨by (first | lia | omega), fun _ => this⟩
  · have : x = lastD q1 Q := by simpa using hx
    rw [this]
    exact ⟨by rw [det_same]; exact Int.le_refl _, fun z => absurd rfl z⟩
theorem q1xqm {x : R3} (hx : x ∈ q1 :: Q) : 0 ≤ det q1 x (lastD q1 Q) := by
  rcases List.mem_cons.mp hx with rfl | hx
  · rw [det_same1]; exact Int.le_refl _
  · exact S.xyqm ((List.singleton_sublist.mpr hx).cons_cons q1)
theorem q1ne (h : Q ≠ []) : q1 ≠ lastD q1 Q := by
  have s := last_pair (p := q1) h
  have nd := (List.nodup_append.mp S.nd).2.1
  exact List.pairwise_iff_forall_sublist.mp nd s
noncomputable def w1 (r p1 q1 : R3) (P : List R3) : R3 := if val r q1 < 0 then crossed r (lastD p1 P) q1 else q1
noncomputable def u1 (r p1 q1 : R3) (Q : List R3) : R3 := if val r (lastD q1 Q) < 0 then crossed r p1 (lastD q1 Q) else lastD q1 Q
theorem X1 (h : val r q1 < 0) : Bt (lastD p1 P) q1 (crossed r (lastD p1 P) q1) (abs (val r q1)) (abs (val r (lastD p1 P))) (gcd3 (cw r (lastD p1 P) q1)) ∧ val r (crossed r (lastD p1 P) q1) = 0 ∧ 0 < (crossed r (lastD p1 P) q1).2.2 ∧ gcd3 (crossed r (lastD p1 P) q1) = 1 :=
  crossed_bt (S.botP (lastD_mem p1 P)) (S.botQ List.mem_cons_self) (Int.mul_neg_of_pos_of_neg S.pkgt h)
theorem X2 (h : val r (lastD q1 Q) < 0) : Bt p1 (lastD q1 Q) (crossed r p1 (lastD q1 Q)) (abs (val r (lastD q1 Q))) (abs (val r p1)) (gcd3 (cw r p1 (lastD q1 Q))) ∧ val r (crossed r p1 (lastD q1 Q)) = 0 ∧ 0 < (crossed r p1 (lastD q1 Q)).2.2 ∧ gcd3 (crossed r p1 (lastD q1 Q)) = 1 :=
  crossed_bt (S.botP List.mem_cons_self) (S.botQ (lastD_mem q1 Q)) (Int.mul_neg_of_pos_of_neg S.p1gt h)
noncomputable def left (r p1 q1 : R3) (P Q : List R3) : List R3 := bef r (lastD p1 P) q1 ++ (q1 :: Q) ++ bef r p1 (lastD q1 Q)
theorem sub_bef {p q : R3} {l : List R3} (h : List.Sublist l (bef r p q)) : l = [] ∨ (val r q < 0 ∧ l = [crossed r p q]) := by
  unfold bef at h
  split at h
  · cases h with
    | cons _ h => cases h; exact .inl rfl
    | cons_cons _ h => cases h; exact .inr ⟨by assumption, rfl⟩
  · cases h; exact .inl rfl
theorem tri {u v w : R3} (s : List.Sublist [u, v, w] (left r p1 q1 P Q)) : 0 < det u v w := by
  unfold left at s
  rw [List.append_assoc] at s
  obtain ⟨l1, l2, e, s1, s2⟩ := List.sublist_append_iff.mp s
  obtain ⟨l3, l4, e2, s3, s4⟩ := List.sublist_append_iff.mp s2
  have b1 := S.sub_bef s1
  have b4 := S.sub_bef s4
  subst e2
  rcases b1 with rfl | ⟨h1, rfl⟩
  · rcases b4 with rfl | ⟨h4, rfl⟩
    · have : [u, v, w] = l3 := by simpa using e
      subst this
      exact S.qqq s3
    · -- q q X2
      obtain ⟨bt, _⟩ := S.X2 h4
      have : l3 = [u, v] ∧ w = crossed r p1 (lastD q1 Q) := by
        rcases split3 (show [u, v, w] = l3 ++ [crossed r p1 (lastD q1 Q)] from e) with ⟨_, z⟩ | ⟨_, z⟩ | ⟨z1, z⟩ | ⟨_, z⟩
        · cases z
        · cases z
        · cases z; exact ⟨z1, rfl⟩
        · cases z
      obtain ⟨rfl, rfl⟩ := this
      have e3 := bt.det u v
      have k1 : 0 < det u v p1 := by rw [det_rot]; exact S.pqq List.mem_cons_self s3
      have k2 := S.xyqm s3
      have := pp bt.pa k1
      have := pz (Int.le_of_lt bt.pb) k2
      exact pos_right bt.pg (by (first | lia | omega))
  · obtain ⟨bt, _⟩ := S.X1 h1
    rcases b4 with rfl | ⟨h4, rfl⟩
    · have : u = crossed r (lastD p1 P) q1 ∧ l3 = [v, w] := by
        injection e with e1 e2
        exact ⟨e1, by simpa using e2.symm⟩
      obtain ⟨rfl, rfl⟩ := this
      have e3 := bt.det v w
      have k1 : 0 < det v w (lastD p1 P) := by rw [det_rot]; exact S.pqq (lastD_mem p1 P) s3
      have k2 : 0 ≤ det v w q1 := by rw [det_rot]; exact S.q1xy s3
      have := pp bt.pa k1
      have := pz (Int.le_of_lt bt.pb) k2
      rw [det_cyc]
      exact pos_right bt.pg (by (first | lia | omega))
    · obtain ⟨bu, _⟩ := S.X2 h4
      have : u = crossed r (lastD p1 P) q1 ∧ l3 = [v] ∧ w = crossed r p1 (lastD q1 Q) := by
        injection e with e1 e
        have e : [v, w] = l3 ++ [crossed r p1 (lastD q1 Q)] := e
        cases l3 with
        | nil => cases e
        | cons a l3 =>
          injection e with e2 e
          cases l3 with
          | nil => injection e with e3 _; exact ⟨e1, by rw [e2], e3⟩
          | cons b l3 => injection e with _ e; simp at e
      obtain ⟨rfl, rfl, rfl⟩ := this
      have hv : v ∈ q1 :: Q := List.singleton_sublist.mp s3
      have e3 := bu.det (crossed r (lastD p1 P) q1) v
      have e4 := bt.det v p1
      have e5 := bt.det v (lastD q1 Q)
      have r1 : det v p1 (lastD p1 P) = det p1 (lastD p1 P) v := det_cyc _ _ _
      have r2 : det v p1 q1 = det p1 q1 v := det_cyc _ _ _
      have r3 : det v (lastD q1 Q) (lastD p1 P) = det (lastD p1 P) v (lastD q1 Q) := det_rot _ _ _
      have r4 : det v (lastD q1 Q) q1 = det q1 v (lastD q1 Q) := det_rot _ _ _
      rw [r1, r2] at e4
      rw [r3, r4] at e5
      obtain ⟨f1, f2⟩ := S.p1pkx hv
      obtain ⟨f3, f4⟩ := S.pq1x (p := p1) List.mem_cons_self hv
      obtain ⟨f5, f6⟩ := S.pxqm (p := lastD p1 P) (lastD_mem p1 P) hv
      have f7 := S.q1xqm hv
      have n1 := pz (Int.le_of_lt bt.pa) f1
      have n2 := pz (Int.le_of_lt bt.pb) f3
      have n3 := pz (Int.le_of_lt bt.pa) f5
      have n4 := pz (Int.le_of_lt bt.pb) f7
      have g1 : 0 ≤ det v p1 (crossed r (lastD p1 P) q1) := nonneg_right bt.pg (by (first | lia | omega))
      have g2 : 0 ≤ det v (lastD q1 Q) (crossed r (lastD p1 P) q1) := nonneg_right bt.pg (by (first | lia | omega))
      have some : 0 < det v p1 (crossed r (lastD p1 P) q1) ∨ 0 < det v (lastD q1 Q) (crossed r (lastD p1 P) q1) := by
        by_cases hq : Q = []
        · have hp' : P ≠ [] := S.three.resolve_right (fun z => z hq)
          left
          have := pp bt.pa (f2 hp')
          exact pos_right bt.pg (by (first | lia | omega))
        · by_cases hv1 : v = q1
          · right
            have := pp bt.pa (f6 (by rw [hv1]; exact S.q1ne hq))
            exact pos_right bt.pg (by (first | lia | omega))
          · left
            have := pp bt.pb (f4 hv1)
            exact pos_right bt.pg (by (first | lia | omega))
      have m1 : det (crossed r (lastD p1 P) q1) v p1 = det v p1 (crossed r (lastD p1 P) q1) := det_cyc _ _ _
      have m2 : det (crossed r (lastD p1 P) q1) v (lastD q1 Q) = det v (lastD q1 Q) (crossed r (lastD p1 P) q1) := det_cyc _ _ _
      rw [m1, m2] at e3
      refine pos_right bu.pg ?_
      rw [e3]
      have t1 := pz (Int.le_of_lt bu.pa) g1
      have t2 := pz (Int.le_of_lt bu.pb) g2
      rcases some with z | z
      · have := pp bu.pa z; (first | lia | omega)
      · have := pp bu.pb z; (first | lia | omega)
end Set2
end
end Pol
set_option Elab.async false
set_option linter.all false
set_option maxHeartbeats 4000000
namespace Pol
section
variable {Ls P Q : List R3} {r p1 q1 : R3}
namespace Set2
variable (S : Set2 Ls r p1 q1 P Q)
include S
theorem pairs {u v : R3} (h : (u, v) ∈ cyc (left r p1 q1 P Q)) : (u = u1 r p1 q1 Q ∧ v = w1 r p1 q1 P) ∨ (val r q1 < 0 ∧ u = crossed r (lastD p1 P) q1 ∧ v = q1) ∨ (val r (lastD q1 Q) < 0 ∧ u = lastD q1 Q ∧ v = crossed r p1 (lastD q1 Q)) ∨ (u, v) ∈ chain q1 Q := by
  unfold left bef at h
  unfold u1 w1
  by_cases h1 : val r q1 < 0
  · by_cases h2 : val r (lastD q1 Q) < 0
    · simp only [if_pos h1, if_pos h2, List.cons_append, List.nil_append] at h ⊢
      have e : cyc (crossed r (lastD p1 P) q1 :: q1 :: (Q ++ [crossed r p1 (lastD q1 Q)])) = (crossed r p1 (lastD q1 Q), crossed r (lastD p1 P) q1) :: (crossed r (lastD p1 P) q1, q1) :: (chain q1 Q ++ [(lastD q1 Q, crossed r p1 (lastD q1 Q))]) := by
        show (lastD q1 (Q ++ [_]), _) :: (_, q1) :: chain q1 (Q ++ [_]) = _
        rw [lastD_snoc, chain_app]; rfl
      rw [e] at h
      rcases List.mem_cons.mp h with h | h
      · injection h with a b; exact .inl ⟨a, b⟩
      · rcases List.mem_cons.mp h with h | h
        · injection h with a b; exact .inr (.inl ⟨h1, a, b⟩)
        · rcases List.mem_append.mp h with h | h
          · exact .inr (.inr (.inr h))
          · have h := List.mem_singleton.mp h
            injection h with a b; exact .inr (.inr (.inl ⟨h2, a, b⟩))
    · simp only [if_pos h1, if_neg h2, List.cons_append, List.nil_append, List.append_nil] at h ⊢
      have e : cyc (crossed r (lastD p1 P) q1 :: q1 :: Q) = (lastD q1 Q, crossed r (lastD p1 P) q1) :: (crossed r (lastD p1 P) q1, q1) :: chain q1 Q := rfl
      rw [e] at h
      rcases List.mem_cons.mp h with h | h
      · injection h with a b; exact .inl ⟨a, b⟩
      · rcases List.mem_cons.mp h with h | h
        · injection h with a b; exact .inr (.inl ⟨h1, a, b⟩)
        · exact .inr (.inr (.inr h))
  · by_cases h2 : val r (lastD q1 Q) < 0
    · simp only [if_neg h1, if_pos h2, List.cons_append, List.nil_append] at h ⊢
      have e : cyc (q1 :: (Q ++ [crossed r p1 (lastD q1 Q)])) = (crossed r p1 (lastD q1 Q), q1) :: (chain q1 Q ++ [(lastD q1 Q, crossed r p1 (lastD q1 Q))]) := by
        show (lastD q1 (Q ++ [_]), _) :: chain q1 (Q ++ [_]) = _
        rw [lastD_snoc, chain_app]; rfl
      rw [e] at h
      rcases List.mem_cons.mp h with h | h
      · injection h with a b; exact .inl ⟨a, b⟩
      · rcases List.mem_append.mp h with h | h
        · exact .inr (.inr (.inr h))
        · have h := List.mem_singleton.mp h
          injection h with a b; exact .inr (.inr (.inl ⟨h2, a, b⟩))
    · simp only [if_neg h1, if_neg h2, List.cons_append, List.nil_append, List.append_nil] at h ⊢
      have e : cyc (q1 :: Q) = (lastD q1 Q, q1) :: chain q1 Q := rfl
      rw [e] at h
      rcases List.mem_cons.mp h with h | h
      · injection h with a b; exact .inl ⟨a, b⟩
      · exact .inr (.inr (.inr h))
theorem small (h : ¬ (val r q1 < 0 ∨ val r (lastD q1 Q) < 0 ∨ 2 ≤ Q.length)) : left r p1 q1 P Q = q1 :: Q ∧ ∀ v ∈ q1 :: Q, val r v = 0 := by
  have h1 : ¬ val r q1 < 0 := fun z => h (.inl z)
  have h2 : ¬ val r (lastD q1 Q) < 0 := fun z => h (.inr (.inl z))
  have h3 : ¬ 2 ≤ Q.length := fun z => h (.inr (.inr z))
  refine ⟨by unfold left bef; rw [if_neg h1, if_neg h2]; simp, fun v hv => ?_⟩
  have a := S.q1le
  have b := S.qmle
  rcases List.mem_cons.mp hv with rfl | hv
  · (first | lia | omega)
  · match Q, hv, h3, b, h2 with
    | [x], hv, _, b, h2 =>
      have : v = x := by simpa using hv
      subst this
      have b : val r v ≤ 0 := b
      have h2 : ¬ val r v < 0 := h2
      (first | lia | omega)
    | _ :: _ :: _, _, h3, _, _ => exact absurd (by simp) h3
end Set2
end
end Pol
set_option Elab.async false
set_option linter.all false
set_option maxHeartbeats 4000000
namespace Pol
noncomputable def cutStep (r : R3) (left : List R3) (p : R3 × R3) : List R3 :=
  let l1 := if val r p.1 * val r p.2 < 0 then (if crossed r p.1 p.2 ∈ left then left else left ++ [crossed r p.1 p.2]) else left
  if val r p.2 ≤ 0 then l1 ++ [p.2] else l1
noncomputable def cutPiece (l : List R3) (r : R3) : List R3 := (cyc l).foldl (cutStep r) []
end Pol
set_option Elab.async false
set_option linter.all false
set_option maxHeartbeats 4000000
namespace Pol
noncomputable def FAR : Int := 60001
noncomputable def box : List R3 := [(-FAR, -FAR, 1), (FAR, -FAR, 1), (FAR, FAR, 1), (-FAR, FAR, 1)]
noncomputable def pieces (rows : List R3) : List R3 := rows.foldl cutPiece box
noncomputable def FRow (r : R3) : Prop := ((-30 ≤ r.1 ∧ r.1 ≤ 30) ∧ (-30 ≤ r.2.1 ∧ r.2.1 ≤ 30)) ∧ (-1000 ≤ r.2.2 ∧ r.2.2 ≤ 1000)
section
variable {rows more : List R3}
end
end Pol
set_option Elab.async false
set_option linter.all false
set_option maxHeartbeats 4000000
namespace Pol
noncomputable def dot (r s : R3) : Int := r.1 * s.1 + r.2.1 * s.2.1
noncomputable def back (r : R3) (rs : List R3) : Bool := rs.any fun x => decide (turn r x = 0) && decide (dot r x < 0)
theorem sq {a : Int} (h : a ≠ 0) : 0 < a * a := by
  rcases Int.lt_or_le 0 a with z | z
  · exact pp z z
  · have : 0 < (-a) * (-a) := pp (by (first | lia | omega)) (by (first | lia | omega))
    rwa [Int.neg_mul_neg] at this
end Pol
set_option Elab.async false
set_option linter.all false
set_option maxHeartbeats 4000000
namespace Pol
end Pol
set_option Elab.async false
set_option linter.all false
set_option maxHeartbeats 4000000
namespace Pol
end Pol
set_option Elab.async false
set_option linter.all false
set_option maxRecDepth 100000
set_option maxHeartbeats 4000000
namespace L2
open PySem PySem.Spec PyProof.Rows
noncomputable def Bk (k : Nat) (i : Int) : Prop := i.natAbs < 2 ^ k
theorem Bk.mono {k m : Nat} {i : Int} (h : Bk k i) (hk : k ≤ m) : Bk m i := Nat.lt_of_lt_of_le h (Nat.pow_le_pow_right (by decide) hk)
theorem Bk.mul {k m : Nat} {i j : Int} (h : Bk k i) (h' : Bk m j) : Bk (k + m) (i * j) := by
  unfold Bk at *
  rw [Int.natAbs_mul, Nat.pow_add]
  exact Nat.mul_lt_mul'' h h'
theorem Bk.add {k : Nat} {i j : Int} (h : Bk k i) (h' : Bk k j) : Bk (k + 1) (i + j) := by
  unfold Bk at *
  rw [Nat.pow_succ]
  have := Int.natAbs_add_le i j
  (first | lia | omega)
theorem Bk.neg {k : Nat} {i : Int} (h : Bk k i) : Bk k (-i) := by unfold Bk at *; rw [Int.natAbs_neg]; exact h
theorem Bk.sub {k : Nat} {i j : Int} (h : Bk k i) (h' : Bk k j) : Bk (k + 1) (i - j) := by rw [Int.sub_eq_add_neg]; exact h.add h'.neg
theorem Bk.bd {k : Nat} {i : Int} (h : Bk k i) (hk : k ≤ 2000 := by decide) : Bd i := h.mono hk
theorem Bk.le {k : Nat} {i j : Int} (h : Bk k i) (hl : j.natAbs ≤ i.natAbs) : Bk k j := Nat.lt_of_le_of_lt hl h
noncomputable def isWh : Tr → Bool
  | .int _ => true
  | _ => false
noncomputable def frT (n d : Int) : Tr := .tup [.int n, .int d]
noncomputable def lowN (t b : Int) : Int := t / (Int.gcd t b : Int)
noncomputable def lowD (t b : Int) : Int := b / (Int.gcd t b : Int)
theorem gcd_step {x y : Int} (hx : 0 ≤ x) (hy : 0 ≤ y) : Int.gcd y (x % y) = Int.gcd x y := by
  obtain ⟨n, rfl⟩ := Int.eq_ofNat_of_zero_le hy
  obtain ⟨m, rfl⟩ := Int.eq_ofNat_of_zero_le hx
  show Nat.gcd n (((m % n : Nat) : Int)).natAbs = Nat.gcd m n
  rw [Int.natAbs_natCast, Nat.gcd_comm m n, Nat.gcd_rec n m, Nat.gcd_comm]
theorem bd_gcd {t b : Int} (hb : b ≠ 0) (h : Bd b) : Bd (Int.gcd t b : Int) := by
  unfold Bd
  refine Nat.lt_of_le_of_lt ?_ h
  have := Int.gcd_le_natAbs_right (a := t) hb
  (first | lia | omega)
noncomputable def pWhole : TSp := fun ts KK => ∃ t, ts = [t] ∧ KK (.bl (isWh t))
noncomputable def pAreWhole : TSp := fun ts KK => ∃ t, ts = [t] ∧ ∃ us, (t = .tup us ∨ t = .lst us) ∧ us.length < sizeLine ∧ KK (.bl (us.all isWh))
noncomputable def pGcd : TSp := fun ts KK => ∃ a b : Int, ts = [.int a, .int b] ∧ KK (.int (Int.gcd a b))
noncomputable def pLow : TSp := fun ts KK => ∃ t b : Int, ts = [.int t, .int b] ∧ b ≠ 0 ∧ Bd b ∧ KK (frT (lowN t b) (lowD t b))
noncomputable def ahead (p q : Pol.R3) : Bool := decide (p.1 * q.2.2 < q.1 * p.2.2 ∨ p.1 * q.2.2 = q.1 * p.2.2 ∧ p.2.1 * q.2.2 < q.2.1 * p.2.2)
noncomputable def pTurn : TSp := fun ts KK => ∃ (a b c d : Int) (x y : List Tr), ts = [.tup (.int a :: .int b :: x), .tup (.int c :: .int d :: y)] ∧ ((Bd a ∧ Bd b) ∧ Bd c ∧ Bd d) ∧ KK (.int (a * d - b * c))
noncomputable instance (r : Pol.R3) : Decidable (Pol.FRow r) := by unfold Pol.FRow; infer_instance
end L2
set_option Elab.async false
set_option linter.all false
set_option maxRecDepth 100000
set_option maxHeartbeats 4000000
set_option exponentiation.threshold 3000
namespace L2
open PySem PySem.Spec PyProof.Rows
theorem cut_from {α : Type} (ts : List α) (s : Nat) : cutT ts (some (s : Int)) none = ts.drop s := by
  unfold cutT
  rw [HT.sIx_nat, HT.sIx_none]
  by_cases h : s ≤ ts.length
  · rw [Nat.min_eq_left h, List.take_of_length_le (by rw [List.length_drop]; (first | lia | omega))]
  · rw [Nat.min_eq_right (by (first | lia | omega)), List.drop_eq_nil_of_le (Nat.le_refl _), List.drop_eq_nil_of_le (by (first | lia | omega))]; simp
end L2
namespace Fra
noncomputable def gd (a b : Int) : Int := (Int.gcd a b : Int)
noncomputable def low (n d : Int) : Int × Int := (n / gd n d, d / gd n d)
theorem gd_nonneg (a b : Int) : 0 ≤ gd a b := Int.natCast_nonneg _
theorem gd_pos {a b : Int} (h : a ≠ 0 ∨ b ≠ 0) : 0 < gd a b := by
  unfold gd
  have : 0 < Int.gcd a b := by
    rcases h with h | h
    · exact Int.gcd_pos_of_ne_zero_left _ h
    · exact Int.gcd_pos_of_ne_zero_right _ h
  (first | lia | omega)
theorem gd_left (a b : Int) : gd a b ∣ a := Int.gcd_dvd_left ..
theorem gd_right (a b : Int) : gd a b ∣ b := Int.gcd_dvd_right ..
theorem gd_zero (a : Int) : gd a 0 = if a < 0 then -a else a := by
  unfold gd
  rw [Int.gcd_zero_right]
  split <;> (first | lia | omega)
theorem gd_eq_of {a b c d : Int} (h : ∀ k : Int, (k ∣ a ∧ k ∣ b) ↔ (k ∣ c ∧ k ∣ d)) : gd a b = gd c d := by
  have e1 : gd a b ∣ gd c d := Int.dvd_coe_gcd ((h _).mp ⟨gd_left a b, gd_right a b⟩).1 ((h _).mp ⟨gd_left a b, gd_right a b⟩).2
  have e2 : gd c d ∣ gd a b := Int.dvd_coe_gcd ((h _).mpr ⟨gd_left c d, gd_right c d⟩).1 ((h _).mpr ⟨gd_left c d, gd_right c d⟩).2
  exact Int.dvd_antisymm (gd_nonneg _ _) (gd_nonneg _ _) e1 e2
theorem gd_step (a b q : Int) : gd b (a - b * q) = gd a b := by
  refine gd_eq_of fun k => ⟨fun ⟨h1, h2⟩ => ⟨?_, h1⟩, fun ⟨h1, h2⟩ => ⟨h2, ?_⟩⟩
  · have := Int.dvd_add h2 (Int.dvd_mul_of_dvd_left (c := q) h1)
    rwa [Int.sub_add_cancel] at this
  · exact Int.dvd_sub h1 (Int.dvd_mul_of_dvd_left h2)
theorem gd_fmod (a b : Int) : gd b (a.fmod b) = gd a b := by
  rw [Int.fmod_def]; exact gd_step a b _
theorem fmod_small {a b : Int} (h : b ≠ 0) : (a.fmod b).natAbs < b.natAbs := by
  by_cases hb : 0 < b
  · have h1 := Int.fmod_nonneg_of_pos a hb
    have h2 := Int.fmod_lt_of_pos a hb
    (first | lia | omega)
  · have hn : 0 < -b := by (first | lia | omega)
    have e : a.fmod b = - ((-a).fmod (-b)) := by rw [Int.neg_fmod_neg]; (first | lia | omega)
    have h1 := Int.fmod_nonneg_of_pos (-a) hn
    have h2 := Int.fmod_lt_of_pos (-a) hn
    (first | lia | omega)
theorem low_one (n : Int) : low n 1 = (n, 1) := by
  have g : gd n 1 = 1 := by unfold gd; simp
  unfold low
  rw [g]; simp
end Fra
set_option Elab.async false
set_option linter.all false
set_option maxRecDepth 100000
set_option maxHeartbeats 4000000
set_option exponentiation.threshold 3000
namespace L2
open PySem PySem.Spec PyProof.Rows
noncomputable abbrev F2 := Int × Int
noncomputable abbrev P2 := F2 × F2
noncomputable def fT (f : F2) : Tr := frT f.1 f.2
noncomputable def lfr (t b : Int) : F2 := if b < 0 then Fra.low (-t) (-b) else Fra.low t b
theorem lfr_pos {t b : Int} (h : 0 < b) : lfr t b = Fra.low t b := by unfold lfr; rw [if_neg (by (first | lia | omega))]
theorem lfr_neg {t b : Int} (h : b < 0) : lfr t b = Fra.low (-t) (-b) := by unfold lfr; rw [if_pos h]
noncomputable def plc (v : Pol.R3) : P2 := (Fra.low v.1 v.2.2, Fra.low v.2.1 v.2.2)
section
variable {p q v w : Pol.R3}
end
theorem teq_fT (f g : F2) : teq (fT f) (fT g) = decide (f = g) := by
  have e : teq (fT f) (fT g) = (decide (f.1 = g.1) && (decide (f.2 = g.2) && true)) := rfl
  rw [e]
  by_cases h1 : f.1 = g.1
  · by_cases h2 : f.2 = g.2
    · simp [h1, h2, Prod.ext_iff]
    · simp [h1, h2, Prod.ext_iff]
  · simp [h1, Prod.ext_iff]
end L2
set_option Elab.async false
set_option linter.all false
set_option maxRecDepth 100000
set_option maxHeartbeats 4000000
set_option exponentiation.threshold 3000
namespace L2
open PySem PySem.Spec PyProof.Rows
theorem cRun_filterM {α : Type} {dg : DG} {dc : DT} {de : DE} {τi : TSt} {KK : List Tr → Prop} {f : α → Tr} {l : List α} (p : α → Bool) (g : α → Tr)
    (h1 : ∀ a ∈ l, ∀ (N : Tr → Prop) (M : Prop), (p a = true → N (g a)) → (p a = false → M) → dg (f a) τi fun τ2 => dc τ2 fun b => if b = true then de τ2 N else M) (h0 : KK ((l.filter p).map g)) : cRun dg dc de τi KK (l.map f) [] := by
  refine cRun_ind (fun ys acc => ∃ zs us, l = zs ++ us ∧ ys = us.map f ∧ acc = (zs.filter p).map g) (fun acc ⟨zs, us, e, ey, e2⟩ => ?_) (fun x ys acc N ⟨zs, us, e, ey, e2⟩ hN => ?_) _ [] ⟨[], l, rfl, rfl, rfl⟩
  · cases us with
    | nil => rw [List.append_nil] at e; subst e e2; exact h0
    | cons u us => cases ey
  · cases us with
    | nil => cases ey
    | cons u us =>
      injection ey with ex ey
      subst ex ey e2
      have hu : u ∈ l := by rw [e]; simp
      refine h1 u hu (fun y => N ((zs.filter p).map g ++ [y])) (N ((zs.filter p).map g)) (fun hp => hN _ ⟨zs ++ [u], us, by rw [e]; simp, rfl, ?_⟩) (fun hp => hN _ ⟨zs ++ [u], us, by rw [e]; simp, rfl, ?_⟩)
      · rw [List.filter_append, List.filter_cons_of_pos hp]; simp
      · rw [List.filter_append, List.filter_cons_of_neg (by rw [hp]; exact Bool.false_ne_true)]; simp
theorem eqOk_nil {xs : List Tr} (h : PyData.canLayAll0 (toPDs xs) = true) : EqOk (.lst xs) (.lst []) := ⟨h, rfl, Nat.le_trans (Nat.min_le_right _ _) (by decide)⟩
noncomputable def pLlow : TSp := fun ts KK => ∃ t b : Int, ts = [.int t, .int b] ∧ b ≠ 0 ∧ Bd b ∧ KK (fT (lfr t b))
end L2
set_option Elab.async false
set_option linter.all false
set_option maxRecDepth 100000
set_option maxHeartbeats 4000000
set_option exponentiation.threshold 3000
namespace L2
open PySem PySem.Spec PyProof.Rows
end L2
set_option Elab.async false
set_option linter.all false
set_option maxRecDepth 100000
set_option maxHeartbeats 4000000
set_option exponentiation.threshold 3000
namespace L2
open PySem PySem.Spec PyProof.Rows
theorem seq_cut {A B : DS} {G : TEnds} {τ : TSt} (P : TSt → Prop) (hB : ∀ τ', P τ' → B G τ') (hA : ∀ N : TSt → Prop, (∀ τ', P τ' → N τ') → A { G with nx := N } τ) : sSeq A B G τ := hA (B G) hB
theorem sFor_idx {di : DI} {dg : DG} {body : DS} {G : TEnds} {τ : TSt} (all : List Tr) (W : Nat → TSt → Prop) (hd : ∀ KK : List Tr → Prop, KK all → di τ KK) (w0 : W 0 τ)
    (h1 : ∀ i x τ (N : TSt → Prop), all[i]? = some x → W i τ → (∀ τ', W (i + 1) τ' → N τ') → dg x τ fun τ' => body { G with nx := N, ct := N, bk := G.nx } τ')
    (h0 : ∀ τ, W all.length τ → G.nx τ) : sFor di dg body G τ := hd _ (fRun_idx W w0 h1 h0)
theorem bd_small {i : Int} (h : -1000000 ≤ i ∧ i ≤ 1000000) : Bd i := bd_of (by (first | lia | omega)) (by (first | lia | omega))
theorem cm_small {i j : Int} (h : -1000000 ≤ i ∧ i ≤ 1000000) (h' : -1000000 ≤ j ∧ j ≤ 1000000) : CM i j := ⟨bd_small h, bd_small h'⟩
theorem tk {m : Int} (h : 0 < m ∧ m < 1000000) : 0 < m ∧ m < 2 ^ 128 := ⟨h.1, by (first | lia | omega)⟩
noncomputable def dT (d : Int × Int) : Tr := .tup [.int d.1, .int d.2]
noncomputable def Drawn (d : Int × Int) (y : Tr) : Prop := ∃ c : Int, (0 ≤ c ∧ c < 8) ∧ y = .tup [.int d.1, .int d.2, .int c]
end L2
set_option Elab.async false
set_option linter.all false
set_option maxRecDepth 100000
set_option maxHeartbeats 4000000
set_option exponentiation.threshold 3000
namespace L2
open PySem PySem.Spec PyProof.Rows
end L2
set_option Elab.async false
set_option linter.all false
set_option maxRecDepth 100000
set_option maxHeartbeats 4000000
set_option exponentiation.threshold 3000
namespace L2
open PySem PySem.Spec PyProof.Rows
noncomputable def DD (K : PySem.W.Frag) (x : Str) (st : Stmt) : Prop := ∃ f fd, PySem.W.nsIn K mainGlobals x = some (some (.ref f)) ∧ Fun K x x st f fd
theorem dd {K : PySem.W.Frag} {x : Str} {st : Stmt} {f : Addr} {oc : Value} {od an : Option Addr} {sl : Array (Option Value)} {kV dc pm cd ct : Value} (a : PySem.W.nsIn K mainGlobals x = some (some (.ref f)))
    (l : K.lookup f = some ⟨oc, od, .func (PySem.W.fnOf x x (defArgs st) (defBody st) (defScope st) .none kV dc pm an cd ct), sl⟩) (c : PySem.W.codeIn K cd x = true) (k : PySem.W.keepIn K (.ref f) = true) : DD K x st := ⟨f, _, a, fun_mk l c k⟩
theorem binds1 {K : PySem.W.Frag} {x qual p1 : Str} {st : Stmt} {f : Addr} {fd : FuncData} (F : Fun K x qual st f fd) (h : ∀ (kV doc pm : Value) (an : Option Addr) (cdv ct u1 : Value), bindArgs (PySem.W.fnOf x qual (defArgs st) (defBody st) (defScope st) .none kV doc pm an cdv ct) ⟨[u1], []⟩ = pure [(p1, u1)]) : Binds K fd [p1] [] :=
  F.binds fun a b c d e g us hl => match us, hl with | [u1], _ => h a b c d e g u1
theorem binds2 {K : PySem.W.Frag} {x qual p1 p2 : Str} {st : Stmt} {f : Addr} {fd : FuncData} (F : Fun K x qual st f fd) (h : ∀ (kV doc pm : Value) (an : Option Addr) (cdv ct u1 u2 : Value), bindArgs (PySem.W.fnOf x qual (defArgs st) (defBody st) (defScope st) .none kV doc pm an cdv ct) ⟨[u1, u2], []⟩ = pure [(p1, u1), (p2, u2)]) : Binds K fd [p1, p2] [] :=
  F.binds fun a b c d e g us hl => match us, hl with | [u1, u2], _ => h a b c d e g u1 u2
theorem binds3 {K : PySem.W.Frag} {x qual p1 p2 p3 : Str} {st : Stmt} {f : Addr} {fd : FuncData} (F : Fun K x qual st f fd) (h : ∀ (kV doc pm : Value) (an : Option Addr) (cdv ct u1 u2 u3 : Value), bindArgs (PySem.W.fnOf x qual (defArgs st) (defBody st) (defScope st) .none kV doc pm an cdv ct) ⟨[u1, u2, u3], []⟩ = pure [(p1, u1), (p2, u2), (p3, u3)]) : Binds K fd [p1, p2, p3] [] :=
  F.binds fun a b c d e g us hl => match us, hl with | [u1, u2, u3], _ => h a b c d e g u1 u2 u3
noncomputable def brk (v : Pol.R3) : Bool := !decide ((plc v).1.2 = 1) || !decide ((plc v).2.2 = 1)
end L2
set_option Elab.async false
set_option linter.all false
set_option maxRecDepth 100000
set_option maxHeartbeats 4000000
set_option exponentiation.threshold 3000
namespace L2
open PySem PySem.Spec PyProof.Rows
end L2
set_option Elab.async false
set_option linter.all false
set_option maxRecDepth 100000
set_option maxHeartbeats 4000000
namespace L2
open PySem PySem.Spec PyProof.Rows
section
variable {P : Program} {w : World} {K : PySem.W.Frag} {mg : Str → Option Value} {base : Heap} {N : List Str} {qual : Str} {scope : Scope} {f : Addr} {cd : Value} {A : Around} {outer : List Env} {s : Shared} {H H' : Hp} {E : XK}
end
end L2
set_option Elab.async false
set_option linter.all false
set_option maxRecDepth 100000
set_option maxHeartbeats 4000000
namespace L2
open PySem PySem.Spec PySem.Calls PyProof.Rows
section
variable {prog : Program} {w : World} {A : Around} {E : Value → Shared → Prop} {s : Shared} {K : PySem.W.Frag} {ea C : Addr}
end
end L2
set_option Elab.async false
set_option linter.all false
set_option maxRecDepth 100000
set_option maxHeartbeats 4000000
namespace L2
open PySem PySem.Spec PySem.Calls PyProof.Rows
section
variable {P : Program} {w : World}
variable {X : Cx} {pins : List (Addr × Obj)} {σ : St} {H H' : Hp} {s s' : Shared} {ea C : Addr}
end
end L2
set_option Elab.async false
set_option linter.all false
set_option maxRecDepth 100000
set_option maxHeartbeats 4000000
namespace L2
open PySem PySem.Spec PySem.Calls PyProof.Rows
section
variable {X : Cx} {pins : List (Addr × Obj)} {σ : St} {H H' : Hp} {s s' : Shared} {ea C : Addr}
end
end L2
set_option Elab.async false
set_option linter.all false
set_option maxRecDepth 100000
set_option maxHeartbeats 4000000
namespace L2
open PySem PySem.Spec PySem.Calls PyProof.Rows
end L2
set_option Elab.async false
set_option linter.all false
set_option maxRecDepth 100000
set_option maxHeartbeats 4000000
namespace L2
open PySem PySem.Spec PySem.Calls PyProof.Rows
section
variable {X : Cx} {pins : List (Addr × Obj)} {σ : St} {H : Hp} {s : Shared} {c P : Addr} {params : Arguments} {body : Expr} {scope : Scope} {pos : Pos} {clos : List (Str × Addr)} {E : Value → Shared → Prop} {Q : Value → Shared → Prop} {q : Str}
end
end L2
set_option Elab.async false
set_option linter.all false
set_option maxRecDepth 100000
set_option maxHeartbeats 4000000
namespace L2
open PySem PySem.Spec PySem.Calls PyProof.Rows
section
variable {X : Cx} {pins : List (Addr × Obj)} {σ : St} {H : Hp} {s : Shared}
end
end L2
set_option Elab.async false
set_option linter.all false
set_option maxRecDepth 100000
set_option maxHeartbeats 4000000
namespace L2
open PySem PySem.Spec PyProof.Rows
section
variable {K : PySem.W.Frag} {B : FB} {φ : Phi} {σ : St} {τ : TSt} {H H' H'' : Hp} {EX : Hp → Prop}
end
section
variable {P : Program} {w : World} {K : PySem.W.Frag} {mg : Str → Option Value} {base : Heap} {k n : Nat} {x qual : Str} {st : Stmt} {f : Addr} {fd : FuncData} {N ps : List Str} {C : Addr} {R : List Tr → Prop}
end
section
variable {K : PySem.W.Frag}
theorem caught {T : TS} {D : DS} {H : Hp} {g : V} {ea : Addr} {j : Int} {Q : VK} (hd : OkS K true T D) (h : D { nx := fun _ => False, rt := fun t => t = .lst [.int j] } [.un, .ob ea, .un, .un])
    (q : ∀ H2 a, (∀ b o, H b = some o → H2 b = some o) → H a = none → H2 a = some (.lst [.int j]) → Q (.ref a) H2) : T { nx := fun _ H' => Q .non H', rt := Q } [some g, some (.ref ea), none, none] H := by
  refine hd ⟨fun _ => False, fun _ => False, H, []⟩ (fun _ => none) _ _ H _ _ ⟨fun _ z => z.elim, fun _ z => z.elim, fun a o e _ => e, fun a z => ?_, fun i j a ts _ z => (nomatch z), fun i a z => (nomatch z), rfl, fun i => ?_, fun p z => absurd z (by simp)⟩ h ⟨fun _ _ _ _ _ z => z.elim, fun _ _ _ _ _ z => z.elim, fun _ _ _ _ _ z => z.elim, fun t v H2 r x e fl => ?_⟩
  · rcases z with z | ⟨i, z, _⟩
    · exact z.elim
    · cases z
  · match i with
    | 0 => trivial
    | 1 => rfl
    | 2 => trivial
    | 3 => trivial
    | n + 4 => trivial
  · obtain ⟨a, ts, ws, rfl, rfl, h1, h2, h3⟩ := fl rfl
    cases e
    obtain ⟨v, vs, rfl, e1, e2⟩ := h3
    cases e1; cases e2
    exact q H2 a (fun b o e => x.ext b o e fun z => z) h1 h2
end
section
variable {X : Cx} {ea C D : Addr}
end
end L2
set_option Elab.async false
set_option linter.all false
set_option maxRecDepth 100000
set_option maxHeartbeats 4000000
namespace L2
open PySem PySem.Spec PyProof.Rows
section
variable {P : Program} {w : World} {K : PySem.W.Frag} {mg : Str → Option Value} {base : Heap} {k : Nat} {x qual : Str} {st : Stmt} {f : Addr} {fd : FuncData} {N ps : List Str}
end
end L2
set_option Elab.async false
set_option linter.all false
set_option maxRecDepth 100000
set_option maxHeartbeats 4000000
namespace L2
open PySem
noncomputable def drT (a b : Int) : Tr := .tup [.int a, .int b]
noncomputable def isDirT : Tr → Bool
  | .tup [.int a, .int b] => !decide (a = 0) || !decide (b = 0)
  | _ => false
theorem isDirT_some {t : Tr} (h : isDirT t = true) : ∃ x y : Int, t = drT x y := by
  unfold isDirT at h
  split at h
  · exact ⟨_, _, rfl⟩
  · cases h
noncomputable def TupS (t : Tr) : Prop := ∀ us, t = .tup us → us.length < sizeLine
noncomputable def tn (a b c d : Int) : Int := a * d - b * c
noncomputable def L24 (i : Int) : Prop := -(10 ^ 24) ≤ i ∧ i ≤ 10 ^ 24
theorem L24.bd {i : Int} (h : L24 i) : Bd i := bd_of (by unfold L24 at h; (first | lia | omega)) (by unfold L24 at h; (first | lia | omega))
noncomputable def L4 (a b c d : Int) : Prop := (L24 a ∧ L24 b) ∧ L24 c ∧ L24 d
theorem mul_le {a b : Int} {m n : Nat} (h1 : -(m : Int) ≤ a ∧ a ≤ m) (h2 : -(n : Int) ≤ b ∧ b ≤ n) : -((m * n : Nat) : Int) ≤ a * b ∧ a * b ≤ ((m * n : Nat) : Int) := by
  have h := Int.natAbs_mul a b
  have h3 : a.natAbs ≤ m := by (first | lia | omega)
  have h4 : b.natAbs ≤ n := by (first | lia | omega)
  have h5 := Nat.mul_le_mul h3 h4
  (first | lia | omega)
theorem tn_bd {a b c d : Int} (h : L4 a b c d) : Bd (tn a b c d) := by
  obtain ⟨⟨h1, h2⟩, h3, h4⟩ := h
  have x := mul_le (m := 10 ^ 24) (n := 10 ^ 24) h1 h4
  have y := mul_le (m := 10 ^ 24) (n := 10 ^ 24) h2 h3
  unfold tn
  refine bd_of ?_ ?_ <;> (first | lia | omega)
noncomputable def pIsDir : TSp := fun ts KK => ∃ t, ts = [t] ∧ TupS t ∧ KK (.bl (isDirT t))
noncomputable def pNeedTurn : TSp := fun ts KK => ∃ a b c d : Int, ts = [drT a b, drT c d] ∧ L4 a b c d ∧ 0 < tn a b c d ∧ KK (.int (tn a b c d))
noncomputable def lowT (n d : Int) : Tr := frT (lowN n d) (lowD n d)
noncomputable def partsT (a b c d : Int) : Tr → Tr
  | .tup [.int x, .int y] => if x = 0 ∧ y = 0 then .non else if tn x y c d < 0 ∨ tn a b x y < 0 then .non else .tup [lowT (tn x y c d) (tn a b c d), lowT (tn a b x y) (tn a b c d)]
  | _ => .non
theorem lowT_eq {n d : Int} (h : 0 < d) : lowT n d = fT (lfr n d) := by rw [lfr_pos h]; rfl
noncomputable def DirS : Tr → Prop
  | .tup [.int x, .int y] => L24 x ∧ L24 y
  | _ => True
noncomputable def pParts : TSp := fun ts KK => ∃ (a b c d : Int) (t : Tr), ts = [drT a b, drT c d, t] ∧ L4 a b c d ∧ TupS t ∧ DirS t ∧ 0 < tn a b c d ∧ KK (partsT a b c d t)
theorem tupS_len {us : List Tr} (h : us.length ≤ 100000) : TupS (.tup us) := fun vs e => by cases e; exact sqz (by (first | lia | omega))
theorem tupS_drT (x y : Int) : TupS (drT x y) := tupS_len (by simp)
end L2
set_option Elab.async false
set_option linter.all false
set_option maxRecDepth 100000
set_option maxHeartbeats 4000000
namespace L2
open PySem PySem.Spec PyProof.Rows
section
variable {X : Cx} {pos : Pos}
noncomputable def tPar3 (i j k : Nat) (ta : TA) : TS := fun D σ H => ta σ H fun vs H1 => ∃ u v w, vs = [u, v, w] ∧ D.nx (((σ.set i (some u)).set j (some v)).set k (some w)) H1
theorem ps_par3 {i j k : Nat} {x y z : Str} {a b c : Expr} {ta : TA} {px py pz pt : Pos} {kt k2 pt2} (hc : X.calm = true) (hN : X.N.Nodup) (hi : X.N[i]? = some x) (hj : X.N[j]? = some y) (hk : X.N[k]? = some z) (hij : i ≠ j ∧ i ≠ k ∧ j ≠ k)
    (hx : X.env.scope.names.lookup x = some .local) (hy : X.env.scope.names.lookup y = some .local) (hz : X.env.scope.names.lookup z = some .local) (ha : PA X [a, b, c] ta)
    (hw : swappedStores [.Tuple [.Name x px, .Name y py, .Name z pz] kt pt] (.Tuple [a, b, c] k2 pt2) X.env = pure (some [x, y, z]))
    (hs : swapsWithSole [.Tuple [.Name x px, .Name y py, .Name z pz] kt pt] (.Tuple [a, b, c] k2 pt2) pos.line X.env = pure false := by rfl) :
    PS X (.Assign [.Tuple [.Name x px, .Name y py, .Name z pz] kt pt] (.Tuple [a, b, c] k2 pt2) pos) (tPar3 i j k ta) := by
  intro pins s σ H D I h
  rw [exec_Assign_arm]
  refine wpAny_bind (wpAny_standAt ?_)
  rw [hs]
  refine wpAny_bind (wpAny_pure ?_)
  rw [if_neg (by decide)]
  refine wpAny_bind (Tuple_ (thn (@ha _ pins s σ H _ I h) fun us s1 ⟨vs, H1, I1, r1, q1⟩ => ?_))
  obtain ⟨v, w, t, e1, q1⟩ := q1
  subst e1
  obtain ⟨u1, u2, u3, rfl, rv, rw', rt⟩ : ∃ u1 u2 u3, us = [u1, u2, u3] ∧ RelV v u1 ∧ RelV w u2 ∧ RelV t u3 := by
    cases r1 with
    | cons p q =>
      cases q with
      | cons p' q' =>
        cases q' with
        | cons p2 q2 =>
          cases q2
          exact ⟨_, _, _, rfl, p, p', p2⟩
  refine wpAny_newObj_type ?_ (by show 3 ≤ sizeLine; decide)
  have I2 : Inv X pins σ H1 { s1 with heap := s1.heap.push { cls := .type "tuple", data := .seq [u1, u2, u3].toArray } } := I1.kept (t' := s1.toks) fun b o e => Heap.get?_push_of_some _ e
  rw [hw]
  refine wpAny_bind (wpAny_pure ?_)
  show wpAny (model X.prog X.w) X.A (do rule "assign.swapped-stores"; let items ← unpackItems (.ref s1.heap.objs.size) 3 none; assignInOrder [fun v => bindName X.env z v, fun v => bindName X.env y v, fun v => bindName X.env x v] items.reverse; pure Flow.next) _ _ _
  refine wpAny_bind (wpAny_rule (wpAny_bind (unpackItems_tuple (items := #[u1, u2, u3]) (I.ok.hd hc) (IsTup.new s1.heap _) fun h' hx' => ?_)))
  have I3 := I2.kept (h' := h') (t' := s1.toks) fun b o e => hx' b o (Nat.ne_of_lt (Heap.lt_size e)) e
  show wpAny _ _ (assignInOrder [fun v => bindName X.env z v, fun v => bindName X.env y v, fun v => bindName X.env x v] [u3, u2, u1] >>= fun _ => pure Flow.next) _ _ _
  refine wpAny_bind (assignInOrder_cons (wpAny_bindName (store_ok I3 hN hk (.inl hz) rt (fun s2 I4 => ?_) (.inr hz))))
  refine assignInOrder_cons (wpAny_bindName (store_ok I4 hN hj (.inl hy) rw' (fun s3 I5 => ?_) (.inr hy)))
  refine assignInOrder_cons (wpAny_bindName (store_ok I5 hN hi (.inl hx) rv (fun s4 I6 => assignInOrder_nil (wpAny_pure ?_)) (.inr hx)))
  rw [List.set_comm _ _ (Ne.symm hij.1), List.set_comm _ _ (Ne.symm hij.2.1), List.set_comm _ _ (Ne.symm hij.2.2)] at I6
  exact ⟨_, H1, I6, q1⟩
end
section
variable {K : PySem.W.Frag} {fr : Bool}
noncomputable def sPar3 (i j k : Nat) (d : DA) : DS := fun G τ => d τ fun ts => match ts with | [t, u, v] => G.nx (((τ.set i (.fz t)).set j (.fz u)).set k (.fz v)) | _ => False
theorem repL3 {F : Addr → Prop} {H : Hp} {t u x : Tr} {vs : List V} (h : RepL F H [t, u, x] vs) : ∃ v w y, vs = [v, w, y] ∧ Rep F H t v ∧ Rep F H u w ∧ Rep F H x y := by
  obtain ⟨v, vs, rfl, h1, h2⟩ := h
  obtain ⟨w, y, rfl, h3, h4⟩ := repL2 h2
  exact ⟨v, w, y, rfl, h1, h3, h4⟩
theorem oks_par3 {i j k : Nat} {ta : TA} {da : DA} {n : Nat} (h : OkA K true n ta da) : OkS K fr (tPar3 i j k ta) (sPar3 i j k da) := fun B φ σ τ H E G R hd e =>
  h B φ σ τ H _ _ R hd fun ts vs H1 x1 k1 l1 r1 => by
    match ts, k1, r1 with
    | [t, u, z], k1, r1 =>
      obtain ⟨v, w, y, rfl, h1, h2, h3⟩ := repL3 r1
      have m : ∀ {φ' : Phi} {i : Nat} {t : Tr} {v : V}, Rep (Av B φ') H1 t v → Rep (Av B (φ'.del i)) H1 t v := fun r => rep_mono (fun a o e n => ⟨e, fun z => n (av_del z)⟩) _ _ r
      exact ⟨v, w, y, rfl, e.nx _ _ _ H1 ((((R.hx x1).setFz h1).setFz (m h2)).setFz (m (m h3))) k1⟩
end
end L2
set_option Elab.async false
set_option linter.all false
set_option maxRecDepth 100000
set_option maxHeartbeats 4000000
namespace Trn
noncomputable abbrev D2 := Int × Int
noncomputable def cr (p q : D2) : Int := p.1 * q.2 - p.2 * q.1
noncomputable def sc (m : Int) (p : D2) : D2 := (m * p.1, m * p.2)
noncomputable def ad (p q : D2) : D2 := (p.1 + q.1, p.2 + q.2)
noncomputable def sb (p q : D2) : D2 := (p.1 - q.1, p.2 - q.2)
theorem cr_self (p : D2) : cr p p = 0 := by unfold cr; grind
theorem cr_swap (p q : D2) : cr q p = - cr p q := by unfold cr; grind
theorem cr_ad (w p q : D2) : cr w (ad p q) = cr w p + cr w q := by unfold cr ad; grind
theorem cr_sc (w p : D2) (m : Int) : cr w (sc m p) = m * cr w p := by unfold cr sc; grind
theorem cr_sb (w p q : D2) : cr w (sb p q) = cr w p - cr w q := by unfold cr sb; grind
theorem ad_cr (w p q : D2) : cr (ad p q) w = cr p w + cr q w := by unfold cr ad; grind
theorem sc_cr (w p : D2) (m : Int) : cr (sc m p) w = m * cr p w := by unfold cr sc; grind
theorem sb_cr (w p q : D2) : cr (sb p q) w = cr p w - cr q w := by unfold cr sb; grind
theorem by_two {p q : D2} (h : cr p q = 1) (x : D2) : x = ad (sc (cr x q) p) (sc (cr p x) q) := by
  have e1 : cr x q * p.1 + cr p x * q.1 = x.1 * cr p q := by unfold cr; grind
  have e2 : cr x q * p.2 + cr p x * q.2 = x.2 * cr p q := by unfold cr; grind
  rw [h] at e1 e2
  apply Prod.ext
  · show x.1 = cr x q * p.1 + cr p x * q.1; (first | lia | omega)
  · show x.2 = cr x q * p.2 + cr p x * q.2; (first | lia | omega)
structure Chn (h : List D2) : Prop where
  one : ∀ i p q, h[i]? = some p → h[i + 1]? = some q → cr p q = 1
  mid : ∀ i p q r, h[i]? = some p → h[i + 1]? = some q → h[i + 2]? = some r → ∃ m, 2 ≤ m ∧ ad p r = sc m q
theorem mul_ge {m a : Int} (h : 2 ≤ m) (ha : 0 ≤ a) : 2 * a ≤ m * a := Int.mul_le_mul_of_nonneg_right h ha
theorem Chn.right {h : List D2} (C : Chn h) (w : D2) {i : Nat} {p0 q0 : D2} (hp : h[i]? = some p0) (hq : h[i + 1]? = some q0) (h0 : 0 ≤ cr w q0) (h1 : cr w p0 ≤ cr w q0) :
    ∀ k p q, h[i + k]? = some p → h[i + k + 1]? = some q → 0 ≤ cr w q ∧ cr w p ≤ cr w q
  | 0, p, q, ep, eq => by
    rw [show i + 0 = i from rfl] at ep eq
    rw [hp] at ep; rw [hq] at eq; cases ep; cases eq
    exact ⟨h0, h1⟩
  | k + 1, p, q, ep, eq => by
    have il : i + k < h.length := by have := (List.getElem?_eq_some_iff.mp ep).1; (first | lia | omega)
    obtain ⟨a, b⟩ := C.right w hp hq h0 h1 k h[i + k] p (List.getElem?_eq_getElem il) ep
    obtain ⟨m, hm, e⟩ := C.mid (i + k) _ p q (List.getElem?_eq_getElem il) ep eq
    have e' := congrArg (cr w) e
    rw [cr_ad, cr_sc] at e'
    have := mul_ge hm a
    (first | lia | omega)
theorem Chn.order {h : List D2} (C : Chn h) {i j : Nat} {p x : D2} (hp : h[i]? = some p) (hx : h[j]? = some x) (hij : i < j) : 1 ≤ cr p x := by
  have jl := (List.getElem?_eq_some_iff.mp hx).1
  have il : i + 1 < h.length := by (first | lia | omega)
  have hq := List.getElem?_eq_getElem il
  have one := C.one i p _ hp hq
  have R : ∀ k y, h[i + k + 1]? = some y → 1 ≤ cr p y := fun k => by
    induction k with
    | zero => intro y ey; rw [hq] at ey; cases ey; (first | lia | omega)
    | succ k ih =>
      intro y ey
      have il : i + k + 1 < h.length := by have := (List.getElem?_eq_some_iff.mp ey).1; (first | lia | omega)
      have a := ih _ (List.getElem?_eq_getElem il)
      have b := C.right p hp hq (by (first | lia | omega)) (by rw [cr_self]; (first | lia | omega)) (k + 1) _ y (List.getElem?_eq_getElem il) ey
      (first | lia | omega)
  exact R (j - i - 1) x (by rw [show i + (j - i - 1) + 1 = j by (first | lia | omega)]; exact hx)
noncomputable def InC (u v x : D2) : Prop := 0 ≤ cr u x ∧ 0 ≤ cr x v
theorem Chn.made {h : List D2} (C : Chn h) {f l x : D2} (h2 : 2 ≤ h.length) (hf : h[0]? = some f) (hl : h[h.length - 1]? = some l) (hx : InC f l x) :
    ∃ i p q, h[i]? = some p ∧ h[i + 1]? = some q ∧ 0 ≤ cr x q ∧ 0 ≤ cr p x := by
  have go : ∀ k i p, i + k = h.length - 1 → h[i]? = some p → 0 ≤ cr p x → i < h.length - 1 → ∃ i p q, h[i]? = some p ∧ h[i + 1]? = some q ∧ 0 ≤ cr x q ∧ 0 ≤ cr p x := fun k => by
    induction k with
    | zero => intro i p e _ _ z; (first | lia | omega)
    | succ k ih =>
      intro i p e hp h0 il
      have jl : i + 1 < h.length := by (first | lia | omega)
      have hq := List.getElem?_eq_getElem jl
      by_cases c : 0 ≤ cr x h[i + 1]
      · exact ⟨i, p, _, hp, hq, c, h0⟩
      · have s := cr_swap h[i + 1] x
        by_cases d : i + 1 = h.length - 1
        · have e2 : h[i + 1] = l := by rw [← d, hq] at hl; cases hl; rfl
          rw [e2] at c
          exact absurd hx.2 c
        · exact ih (i + 1) _ (by (first | lia | omega)) hq (by (first | lia | omega)) (by (first | lia | omega))
  exact go (h.length - 1) 0 f (by (first | lia | omega)) hf hx.1 (by (first | lia | omega))
theorem Chn.get_pair {h : List D2} (h2 : 2 ≤ h.length) {j : Nat} {x : D2} (hx : h[j]? = some x) : ∃ i p q, h[i]? = some p ∧ h[i + 1]? = some q ∧ (x = p ∨ x = q) := by
  have jl := (List.getElem?_eq_some_iff.mp hx).1
  by_cases c : j + 1 < h.length
  · exact ⟨j, x, _, hx, List.getElem?_eq_getElem c, .inl rfl⟩
  · have il : j - 1 < h.length := by (first | lia | omega)
    exact ⟨j - 1, _, x, List.getElem?_eq_getElem il, by rw [show j - 1 + 1 = j by (first | lia | omega)]; exact hx, .inr rfl⟩
theorem mul_nn {a b : Int} (ha : 0 ≤ a) (hb : 0 ≤ b) : 0 ≤ a * b := Int.mul_nonneg ha hb
theorem Chn.inC {h : List D2} (C : Chn h) {f l x : D2} (hf : h[0]? = some f) (hl : h[h.length - 1]? = some l) {j : Nat} (hx : h[j]? = some x) : InC f l x := by
  have jl := (List.getElem?_eq_some_iff.mp hx).1
  constructor
  · by_cases c : j = 0
    · subst c; rw [hf] at hx; cases hx; rw [cr_self]; (first | lia | omega)
    · have := C.order hf hx (by (first | lia | omega)); (first | lia | omega)
  · by_cases c : j = h.length - 1
    · rw [← c] at hl; rw [hl] at hx; cases hx; rw [cr_self]; (first | lia | omega)
    · have := C.order hx hl (by (first | lia | omega)); (first | lia | omega)
theorem Chn.nz {h : List D2} (C : Chn h) (h2 : 2 ≤ h.length) {j : Nat} {x : D2} (hx : h[j]? = some x) : x ≠ (0, 0) := fun z => by
  obtain ⟨i, p, q, hp, hq, e⟩ := Chn.get_pair h2 hx
  have := C.one i p q hp hq
  rcases e with rfl | rfl <;> rw [z] at this <;> simp [cr] at this
end Trn
set_option Elab.async false
set_option linter.all false
set_option maxRecDepth 100000
set_option maxHeartbeats 4000000
namespace Trn
theorem Chn.snoc {h0 : List D2} {p q : D2} {m : Int} (C : Chn (h0 ++ [p, q])) (hm : 2 ≤ m) : Chn (h0 ++ [p, q] ++ [sb (sc m q) p]) := by
  have ep : (h0 ++ [p, q])[h0.length]? = some p := by simp
  have eq' : (h0 ++ [p, q])[h0.length + 1]? = some q := by rw [List.getElem?_append_right (by (first | lia | omega))]; simp [show h0.length + 1 - h0.length = 1 by (first | lia | omega)]
  have one := C.one _ _ _ ep eq'
  have new : ∀ {i x}, (h0 ++ [p, q] ++ [sb (sc m q) p])[i]? = some x → (i < h0.length + 2 ∧ (h0 ++ [p, q])[i]? = some x) ∨ (i = h0.length + 2 ∧ x = sb (sc m q) p) := fun {i x} h => by
    have l2 : (h0 ++ [p, q]).length = h0.length + 2 := by simp
    by_cases c : i < h0.length + 2
    · rw [List.getElem?_append_left (by (first | lia | omega))] at h; exact .inl ⟨c, h⟩
    · rw [List.getElem?_append_right (by (first | lia | omega)), l2] at h
      have il := (List.getElem?_eq_some_iff.mp h).1
      simp at il
      have : i = h0.length + 2 := by (first | lia | omega)
      rw [this] at h; simp at h; exact .inr ⟨this, h.symm⟩
  refine ⟨fun i x y hx hy => ?_, fun i x y z hx hy hz => ?_⟩
  · rcases new hy with ⟨c, hy⟩ | ⟨c, rfl⟩
    · rcases new hx with ⟨_, hx⟩ | ⟨d, _⟩
      · exact C.one i x y hx hy
      · (first | lia | omega)
    · rcases new hx with ⟨_, hx⟩ | ⟨d, _⟩
      · rw [show i = h0.length + 1 by (first | lia | omega), eq'] at hx; cases hx
        rw [cr_sb, cr_sc, cr_self, cr_swap p q]; (first | lia | omega)
      · (first | lia | omega)
  · rcases new hz with ⟨c, hz⟩ | ⟨c, rfl⟩
    · rcases new hx with ⟨_, hx⟩ | ⟨d, _⟩
      · rcases new hy with ⟨_, hy⟩ | ⟨d, _⟩
        · exact C.mid i x y z hx hy hz
        · (first | lia | omega)
      · (first | lia | omega)
    · rcases new hx with ⟨_, hx⟩ | ⟨d, _⟩
      · rcases new hy with ⟨_, hy⟩ | ⟨d, _⟩
        · rw [show i = h0.length by (first | lia | omega), ep] at hx; cases hx
          rw [show i + 1 = h0.length + 1 by (first | lia | omega), eq'] at hy; cases hy
          exact ⟨m, hm, by apply Prod.ext <;> simp only [ad, sb, sc] <;> (first | lia | omega)⟩
        · (first | lia | omega)
      · (first | lia | omega)
noncomputable def Bx (n : Int) (p : D2) : Prop := (-n ≤ p.1 ∧ p.1 ≤ n) ∧ -n ≤ p.2 ∧ p.2 ≤ n
theorem bnd1 {D T S a b x M : Int} (hD : 0 < D) (e : x * D = T * a + S * b) (hT : 0 ≤ T ∧ T ≤ D) (hS : 0 ≤ S ∧ S ≤ D) (ha : -M ≤ a ∧ a ≤ M) (hb : -M ≤ b ∧ b ≤ M) : -(2 * M) ≤ x ∧ x ≤ 2 * M := by
  have hM : 0 ≤ M := by (first | lia | omega)
  have t1 : T * a ≤ D * M := Int.le_trans (Int.mul_le_mul_of_nonneg_left ha.2 hT.1) (Int.mul_le_mul_of_nonneg_right hT.2 hM)
  have s1 : S * b ≤ D * M := Int.le_trans (Int.mul_le_mul_of_nonneg_left hb.2 hS.1) (Int.mul_le_mul_of_nonneg_right hS.2 hM)
  have t2 : -(D * M) ≤ T * a := by
    have := Int.mul_le_mul_of_nonneg_left ha.1 hT.1
    have := Int.mul_le_mul_of_nonneg_right hT.2 hM
    rw [Int.mul_neg] at *
    (first | lia | omega)
  have s2 : -(D * M) ≤ S * b := by
    have := Int.mul_le_mul_of_nonneg_left hb.1 hS.1
    have := Int.mul_le_mul_of_nonneg_right hS.2 hM
    rw [Int.mul_neg] at *
    (first | lia | omega)
  constructor
  · refine Int.le_of_mul_le_mul_right (a := D) ?_ hD
    rw [e, Int.neg_mul, show 2 * M * D = D * M + D * M by grind]; (first | lia | omega)
  · refine Int.le_of_mul_le_mul_right (a := D) ?_ hD
    rw [e, show 2 * M * D = D * M + D * M by grind]; (first | lia | omega)
theorem by_ends (f l x : D2) : x.1 * cr f l = cr x l * f.1 + cr f x * l.1 ∧ x.2 * cr f l = cr x l * f.2 + cr f x * l.2 := by
  unfold cr; constructor <;> grind
structure Run (f l : D2) (M : Int) (h0 : List D2) (p q : D2) : Prop where
  chn : Chn (h0 ++ [p, q])
  fst : (h0 ++ [p, q])[0]? = some f
  s : 0 ≤ cr f p ∧ cr f p < cr f q
  t : 0 ≤ cr q l ∧ cr q l < cr p l ∧ cr p l ≤ cr f l
  len : (h0.length : Int) + cr q l ≤ cr f l
  bd : ∀ x ∈ h0 ++ [p, q], Bx (2 * M) x
theorem Run.one {f l : D2} {M : Int} {h0 : List D2} {p q : D2} (R : Run f l M h0 p q) : cr p q = 1 := by
  refine R.chn.one h0.length p q (by simp) ?_
  rw [List.getElem?_append_right (by (first | lia | omega))]; simp [show h0.length + 1 - h0.length = 1 by (first | lia | omega)]
theorem cdiv {a b : Int} (hb : 0 < b) : 0 ≤ -((-a).fdiv b) * b - a ∧ -((-a).fdiv b) * b - a < b := by
  rw [Int.fdiv_eq_ediv_of_nonneg _ (by (first | lia | omega))]
  have h1 := Int.emod_nonneg (-a) (show b ≠ 0 by (first | lia | omega))
  have h2 := Int.emod_lt_of_pos (-a) hb
  have h3 := Int.mul_ediv_add_emod (-a) b
  rw [Int.neg_mul, Int.mul_comm]
  (first | lia | omega)
theorem Run.step {f l : D2} {M : Int} {h0 : List D2} {p q : D2} (R : Run f l M h0 p q) (hf : Bx M f) (hl : Bx M l) (h0' : 0 < cr q l) {m : Int} (em : m = -((-(cr p l)).fdiv (cr q l))) :
    2 ≤ m ∧ m ≤ cr f l ∧ Run f l M (h0 ++ [p]) q (sb (sc m q) p) ∧ cr (sb (sc m q) p) l < cr q l := by
  obtain ⟨t1, t2, t3⟩ := R.t
  obtain ⟨s1, s2⟩ := R.s
  obtain ⟨d1, d2⟩ := cdiv (a := cr p l) h0'
  rw [← em] at d1 d2
  have m2 : 2 ≤ m := by
    refine Int.not_lt.mp fun z => ?_
    have : m * cr q l ≤ 1 * cr q l := Int.mul_le_mul_of_nonneg_right (by (first | lia | omega)) (by (first | lia | omega))
    (first | lia | omega)
  have mD : m ≤ cr f l := by
    refine Int.not_lt.mp fun z => ?_
    have a : (cr f l + 1) * cr q l ≤ m * cr q l := Int.mul_le_mul_of_nonneg_right (by (first | lia | omega)) (by (first | lia | omega))
    have b : cr f l * 1 ≤ cr f l * cr q l := Int.mul_le_mul_of_nonneg_left (by (first | lia | omega)) (by (first | lia | omega))
    rw [Int.add_mul] at a
    (first | lia | omega)
  have sr : cr f (sb (sc m q) p) = m * cr f q - cr f p := by rw [cr_sb, cr_sc]
  have tr : cr (sb (sc m q) p) l = m * cr q l - cr p l := by rw [sb_cr, sc_cr]
  have sg := mul_ge m2 (show 0 ≤ cr f q by (first | lia | omega))
  have C := R.chn.snoc m2
  rw [show h0 ++ [p, q] ++ [sb (sc m q) p] = (h0 ++ [p]) ++ [q, sb (sc m q) p] by simp] at C
  have key : Chn (h0 ++ [p] ++ [q, sb (sc m q) p]) ∧ (0 ≤ cr f q ∧ cr f q < cr f (sb (sc m q) p)) ∧ (0 ≤ cr (sb (sc m q) p) l ∧ cr (sb (sc m q) p) l < cr q l ∧ cr q l ≤ cr f l) :=
    ⟨C, ⟨by (first | lia | omega), by (first | lia | omega)⟩, by (first | lia | omega), by (first | lia | omega), by (first | lia | omega)⟩
  have one' : cr q (sb (sc m q) p) = 1 := by rw [cr_sb, cr_sc, cr_self, cr_swap p q, R.one]; (first | lia | omega)
  have sle : cr f (sb (sc m q) p) ≤ cr f l := by
    have e := congrArg (cr f) (by_two one' l)
    rw [cr_ad, cr_sc, cr_sc, cr_swap (sb (sc m q) p) l] at e
    have a : (cr (sb (sc m q) p) l + 1) * cr f (sb (sc m q) p) ≤ cr q l * cr f (sb (sc m q) p) := Int.mul_le_mul_of_nonneg_right (by (first | lia | omega)) (by (first | lia | omega))
    have b : cr (sb (sc m q) p) l * cr f q ≤ cr (sb (sc m q) p) l * cr f (sb (sc m q) p) := Int.mul_le_mul_of_nonneg_left (by (first | lia | omega)) (by (first | lia | omega))
    rw [Int.add_mul] at a
    rw [Int.neg_mul] at e
    (first | lia | omega)
  refine ⟨m2, mD, ⟨C, ?_, key.2.1, key.2.2, ?_, fun x hx => ?_⟩, by (first | lia | omega)⟩
  · have e : h0 ++ [p] ++ [q, sb (sc m q) p] = (h0 ++ [p, q]) ++ [sb (sc m q) p] := by simp
    rw [e, List.getElem?_append_left (by simp)]; exact R.fst
  · have := R.len; simp only [List.length_append, List.length_singleton]; (first | lia | omega)
  · have e : h0 ++ [p] ++ [q, sb (sc m q) p] = (h0 ++ [p, q]) ++ [sb (sc m q) p] := by simp
    rw [e] at hx
    rcases List.mem_append.mp hx with hx | hx
    · exact R.bd x hx
    · rw [List.mem_singleton.mp hx]
      obtain ⟨e1, e2⟩ := by_ends f l (sb (sc m q) p)
      exact ⟨bnd1 (by (first | lia | omega)) e1 ⟨by (first | lia | omega), by (first | lia | omega)⟩ ⟨by (first | lia | omega), sle⟩ hf.1 hl.1, bnd1 (by (first | lia | omega)) e2 ⟨by (first | lia | omega), by (first | lia | omega)⟩ ⟨by (first | lia | omega), sle⟩ hf.2 hl.2⟩
theorem Run.stop {f l : D2} {M : Int} {h0 : List D2} {p q : D2} (R : Run f l M h0 p q) (hg : Int.gcd l.1 l.2 = 1) : cr q l = 0 ↔ q = l := by
  constructor
  · intro z
    have e := by_two R.one l
    rw [cr_swap q l, z] at e
    have e1 : l.1 = cr p l * q.1 := by have := congrArg Prod.fst e; simp only [ad, sc] at this; (first | lia | omega)
    have e2 : l.2 = cr p l * q.2 := by have := congrArg Prod.snd e; simp only [ad, sc] at this; (first | lia | omega)
    have d : cr p l ∣ ((Int.gcd l.1 l.2 : Nat) : Int) := Int.dvd_coe_gcd ⟨q.1, e1⟩ ⟨q.2, e2⟩
    rw [hg] at d
    have t := R.t
    have : cr p l = 1 := Int.eq_one_of_dvd_one (by (first | lia | omega)) d
    rw [this] at e1 e2
    exact Prod.ext (by (first | lia | omega)) (by (first | lia | omega))
  · intro e; rw [e, cr_self]
end Trn
set_option Elab.async false
set_option linter.all false
set_option maxRecDepth 100000
set_option maxHeartbeats 4000000
namespace Trn
noncomputable def gd (p : D2) : Int := (Int.gcd p.1 p.2 : Nat)
noncomputable def und (p : D2) : D2 := (p.1 / gd p, p.2 / gd p)
theorem gd_pos {p : D2} (h : p ≠ (0, 0)) : 0 < gd p := by
  unfold gd
  have : 0 < Int.gcd p.1 p.2 := Int.gcd_pos_iff.mpr (by
    by_cases c : p.1 = 0
    · exact .inr fun z => h (Prod.ext c z)
    · exact .inl c)
  (first | lia | omega)
theorem und_sc {p : D2} (h : p ≠ (0, 0)) : p = sc (gd p) (und p) := by
  apply Prod.ext
  · exact (Int.mul_ediv_cancel' (Int.gcd_dvd_left p.1 p.2)).symm
  · exact (Int.mul_ediv_cancel' (Int.gcd_dvd_right p.1 p.2)).symm
theorem und_gcd {p : D2} (h : p ≠ (0, 0)) : Int.gcd (und p).1 (und p).2 = 1 := by
  have g0 := gd_pos h
  unfold gd at g0
  exact Int.gcd_ediv_gcd_ediv_gcd (by (first | lia | omega))
theorem und_bx {p : D2} {n : Int} (h : p ≠ (0, 0)) (b : Bx n p) : Bx n (und p) := by
  have g0 := gd_pos h
  have e := und_sc h
  have k : ∀ {a c g : Int}, a = g * c → 0 < g → (-n ≤ a ∧ a ≤ n) → -n ≤ c ∧ c ≤ n := fun {a c g} e hg hb => by
    by_cases z : 0 ≤ c
    · have : 1 * c ≤ g * c := Int.mul_le_mul_of_nonneg_right (by (first | lia | omega)) z
      (first | lia | omega)
    · have : g * c ≤ 1 * c := Int.mul_le_mul_of_nonpos_right (by (first | lia | omega)) (by (first | lia | omega))
      (first | lia | omega)
  exact ⟨k (congrArg Prod.fst e) g0 b.1, k (congrArg Prod.snd e) g0 b.2⟩
theorem cr_nz {u v : D2} (h : 0 < cr u v) : u ≠ (0, 0) ∧ v ≠ (0, 0) := by
  constructor <;> intro z <;> rw [z] at h <;> simp [cr] at h
theorem und_cr {u v : D2} (h : 0 < cr u v) : cr u v = gd u * (gd v * cr (und u) (und v)) ∧ 0 < cr (und u) (und v) := by
  obtain ⟨hu, hv⟩ := cr_nz h
  have e : cr u v = gd u * (gd v * cr (und u) (und v)) := by
    conv => lhs; rw [und_sc hu, und_sc hv]
    rw [sc_cr, cr_sc]
  refine ⟨e, ?_⟩
  have a := gd_pos hu
  have b := gd_pos hv
  rw [e] at h
  exact Int.pos_of_mul_pos_right (Int.pos_of_mul_pos_right h a) b
theorem pos_iff {g a : Int} (h : 0 < g) : 0 ≤ g * a ↔ 0 ≤ a := by
  constructor
  · intro z
    refine Int.not_lt.mp fun c => ?_
    have := Int.mul_neg_of_pos_of_neg h c
    (first | lia | omega)
  · exact fun z => Int.mul_nonneg (Int.le_of_lt h) z
theorem inC_und {u v x : D2} (h : 0 < cr u v) : InC (und u) (und v) x ↔ InC u v x := by
  obtain ⟨hu, hv⟩ := cr_nz h
  unfold InC
  have e1 : cr u x = gd u * cr (und u) x := (congrArg (fun y => cr y x) (und_sc hu)).trans (sc_cr _ _ _)
  have e2 : cr x v = gd v * cr x (und v) := (congrArg (fun y => cr x y) (und_sc hv)).trans (cr_sc _ _ _)
  rw [e1, e2, pos_iff (gd_pos hu), pos_iff (gd_pos hv)]
structure BtwOK (u v : D2) (h : List D2) : Prop where
  chn : Chn h
  l2 : 2 ≤ h.length
  len : h.length ≤ 100000
  fst : h[0]? = some (und u)
  lst : h[h.length - 1]? = some (und v)
  bd : ∀ x ∈ h, Bx 1000 x
end Trn
set_option Elab.async false
set_option linter.all false
set_option maxRecDepth 100000
set_option maxHeartbeats 4000000
namespace L2
open PySem Trn
noncomputable def drD (p : D2) : Tr := drT p.1 p.2
theorem bx_l4 {n : Int} {u v : D2} (hn : n ≤ 1000000) (hu : Bx n u) (hv : Bx n v) : L4 u.1 u.2 v.1 v.2 := by
  unfold Bx at hu hv; unfold L4 L24; (first | lia | omega)
theorem bx_bd {n : Int} {u : D2} (hn : n ≤ 1000000) (hu : Bx n u) : Bd u.1 ∧ Bd u.2 := ⟨bd_small (by unfold Bx at hu; (first | lia | omega)), bd_small (by unfold Bx at hu; (first | lia | omega))⟩
theorem _root_.Trn.Bx.mono {n m : Int} {u : D2} (h : Bx n u) (hm : n ≤ m) : Bx m u := by unfold Bx at *; (first | lia | omega)
theorem bx_cr {n : Int} {u v : D2} (hu : Bx n u) (hv : Bx n v) : -(2 * (n * n)) ≤ cr u v ∧ cr u v ≤ 2 * (n * n) := by
  obtain ⟨k, rfl⟩ : ∃ k : Nat, n = (k : Int) := ⟨n.toNat, by unfold Bx at hu; (first | lia | omega)⟩
  have a := mul_le hu.1 hv.2
  have b := mul_le hu.2 hv.1
  rw [Int.natCast_mul] at a b
  unfold cr; (first | lia | omega)
noncomputable def pUndiv : TSp := fun ts KK => ∃ p : D2, ts = [drD p] ∧ p ≠ (0, 0) ∧ Bx 1000 p ∧ KK (drD (und p))
noncomputable def pMakesOne : TSp := fun ts KK => ∃ a b : Int, ts = [.int a, .int b] ∧ ((-200 ≤ a ∧ a ≤ 200) ∧ -200 ≤ b ∧ b ≤ 200) ∧ Int.gcd a b = 1 ∧ ∀ p q : Int, a * p + b * q = 1 → Bk 1700 p → Bk 1700 q → KK (.tup [.int p, .int q])
noncomputable def pNextLeast : TSp := fun ts KK => ∃ f l : D2, ts = [drD f, drD l] ∧ Bx 200 f ∧ Bx 200 l ∧ Int.gcd f.1 f.2 = 1 ∧ 0 < cr f l ∧ ∀ q : D2, cr f q = 1 → 0 ≤ cr q l → cr q l < cr f l → KK (drD q)
noncomputable def pNextBehind : TSp := fun ts KK => ∃ p q l : D2, ts = [drD p, drD q, drD l] ∧ (Bx 1000 p ∧ Bx 1000 q ∧ Bx 1000 l) ∧ 0 < cr q l ∧ KK (drD (sb (sc (-((-(cr p l)).fdiv (cr q l))) q) p))
noncomputable def pBetween : TSp := fun ts KK => ∃ u v : D2, ts = [drD u, drD v] ∧ Bx 200 u ∧ Bx 200 v ∧ 0 < cr u v ∧ ∀ h, BtwOK u v h → KK (.lst (h.map drD))
theorem teq_drD (p q : D2) : teq (drD p) (drD q) = decide (p = q) := teq_fT p q
theorem eqOk_drD (p q : D2) : EqOk (drD p) (drD q) := ⟨rfl, rfl, by show min 1 1 ≤ 64; decide⟩
theorem fmod_abs {a b : Int} (hb : b ≠ 0) : (a.fmod b).natAbs < b.natAbs := by
  rw [Int.fmod_eq_emod]
  have h1 := Int.emod_nonneg a hb
  have h2 := Int.emod_lt a hb
  split
  · (first | lia | omega)
  · rename_i c
    have hn : ¬ 0 ≤ b := fun z => c (.inl z)
    have : a % b ≠ 0 := fun z => c (.inr (Int.dvd_of_emod_eq_zero z))
    (first | lia | omega)
theorem fdiv_abs {a b : Int} (hb : b ≠ 0) : (a.fdiv b).natAbs ≤ a.natAbs + 1 := by
  have e := Int.mul_fdiv_add_fmod a b
  have m := fmod_abs (a := a) hb
  have e2 : (b * a.fdiv b).natAbs = b.natAbs * (a.fdiv b).natAbs := Int.natAbs_mul _ _
  have e3 : (b * a.fdiv b).natAbs ≤ a.natAbs + b.natAbs := by (first | lia | omega)
  rw [e2] at e3
  refine Nat.not_lt.mp fun z => ?_
  have h1 : b.natAbs * (a.natAbs + 2) ≤ b.natAbs * (a.fdiv b).natAbs := Nat.mul_le_mul_left _ (by (first | lia | omega))
  have h2 : 1 * a.natAbs ≤ b.natAbs * a.natAbs := Nat.mul_le_mul_right _ (by (first | lia | omega))
  rw [Nat.mul_add] at h1
  (first | lia | omega)
theorem fmod_eq (a b : Int) : a - a.fdiv b * b = a.fmod b := by
  have e := Int.mul_fdiv_add_fmod a b
  rw [Int.mul_comm] at e
  (first | lia | omega)
theorem gcd_fmod (a b : Int) : Int.gcd b (a.fmod b) = Int.gcd a b := by
  rw [← fmod_eq, Int.gcd_comm a b]
  apply Nat.dvd_antisymm
  · refine Int.dvd_gcd (Int.gcd_dvd_left _ _) ?_
    have h1 := Int.gcd_dvd_left b (a - a.fdiv b * b)
    have h2 := Int.gcd_dvd_right b (a - a.fdiv b * b)
    have := Int.dvd_add h2 (Int.dvd_mul_of_dvd_right (b := a.fdiv b) h1)
    rwa [show a - a.fdiv b * b + a.fdiv b * b = a by (first | lia | omega)] at this
  · exact Int.dvd_gcd (Int.gcd_dvd_left _ _) (Int.dvd_sub (Int.gcd_dvd_right _ _) (Int.dvd_mul_of_dvd_right (Int.gcd_dvd_left _ _)))
theorem atT_last2 {α : Type} (ts : List α) (x y : α) : atT (ts ++ [x, y]) (-2) = some x := by
  show (if 1 < (ts ++ [x, y]).length then getT (ts ++ [x, y]) ((ts ++ [x, y]).length - 1 - 1) else none) = _
  have e : (ts ++ [x, y]).length = ts.length + 2 := by simp
  rw [e, if_pos (by (first | lia | omega)), getT_eq, show ts.length + 2 - 1 - 1 = ts.length by (first | lia | omega)]
  simp
end L2
set_option Elab.async false
set_option linter.all false
set_option maxRecDepth 100000
set_option maxHeartbeats 4000000
namespace L2
open PySem PySem.Spec PyProof.Rows
open Builtin.SmallTypes (nextOf)
noncomputable abbrev IsTri (h : Heap) (T : Addr) (a b c : Value) : Prop := h.get? T = some { cls := .type "tuple", data := .seq #[a, b, c] }
structure ZB (z ti to i1 i2 i3 : Addr) (as : List Addr) : Prop where
  nd : [z, ti, to, i1, i2, i3].Nodup
  ap : ∀ a ∈ as, a ≠ z ∧ a ≠ to ∧ a ≠ i1 ∧ a ≠ i2 ∧ a ≠ i3
section
variable {prog : Program} {w : World} {A : Around} {E : Value → Shared → Prop} {s : Shared} {z ti to i1 i2 i3 a1 a2 a3 : Addr} {vs us ws : List Value} {t1 t2 t3 : Nat → Heap → Prop} {s1 s2 s3 : Heap → Prop}
theorem upd_tri {T : Addr} {a b c x : Value} {k : Nat} {Q : Unit → Shared → Prop} (hT : IsTri s.heap T a b c)
    (h : ∀ h', h'.get? T = some { cls := .type "tuple", data := .seq (#[a, b, c].setIfInBounds k x) } → Heap.SameBut T s.heap h' → Q () { s with heap := h' }) : wpAny (model prog w) A (updateSeq T fun v => v.setIfInBounds k x) Q E s :=
  wpAny_updateSeq hT rfl (h _ (by rw [Heap.get?_update_self _ hT rfl]; simp [Obj.mapSeq]) (Heap.SameBut.update ..)) (by show 3 ≤ sizeLine; decide) (by rw [Array.size_setIfInBounds]; show 3 ≤ sizeLine + 1; decide)
theorem zip3_item {k : Nat} {x y v p q r : Value} {Q : Value → Shared → Prop} (D : ZB z ti to i1 i2 i3 [a1, a2, a3]) (W1 : Drw i1 a1 vs t1 s1) (W2 : Drw i2 a2 us t2 s2) (W3 : Drw i3 a3 ws t3 s3) (Z : IsZip s.heap z ti to .none) (TI : IsTri s.heap ti (.ref i1) (.ref i2) (.ref i3)) (TO : IsTri s.heap to p q r)
    (b1 : t1 k s.heap) (b2 : t2 k s.heap) (b3 : t3 k s.heap) (c1 : s1 s.heap) (c2 : s2 s.heap) (c3 : s3 s.heap) (ex : vs[k]? = some x) (ey : us[k]? = some y) (ev : ws[k]? = some v)
    (h : ∀ h', IsZip h' z ti to (rawInt s.heap.objs.size) → IsTri h' to x y v → t1 (k + 1) h' → t2 (k + 1) h' → t3 (k + 1) h' → IsTri h' s.heap.objs.size x y v →
      (∀ c o, c ≠ z → c ≠ to → c ≠ i1 → c ≠ i2 → c ≠ i3 → s.heap.get? c = some o → h'.get? c = some o) → Q (.ref s.heap.objs.size) { s with heap := h' }) :
    wpAny (model prog w) A (Builtin.«zip.__next__» ⟨[.ref z], []⟩) (fun fin s' => ∃ v, fin = .done (.ret v) ∧ Q v s') E s := by
  obtain ⟨nd, ap⟩ := D
  obtain ⟨e1, e2, e3, e4, e5⟩ := ap a1 (by simp)
  obtain ⟨f1, f2, f3, f4, f5⟩ := ap a2 (by simp)
  obtain ⟨g1, g2, g3, g4, g5⟩ := ap a3 (by simp)
  simp only [List.nodup_cons, List.mem_cons, List.not_mem_nil, or_false, not_or, not_false_eq_true, List.nodup_nil, and_true] at nd
  obtain ⟨⟨z1, z2, z3, z4, z5⟩, ⟨y1, y2, y3, y4⟩, ⟨x1, x2, x3⟩, ⟨w1, w2⟩, u1⟩ := nd
  refine wpAny_bind (m := field (.ref z) 2) (wpAny_field Z rfl (x := .bool false) rfl (wpAny_bind (m := field (.ref z) 3) (wpAny_field Z rfl (x := .ref ti) rfl (wpAny_bind (wpAny_seqItems TI rfl ?_)))))
  refine wpAny_bind (m := Builtin.SmallTypes.ownedTupleIsFree (.ref z)) ?_
  unfold Builtin.SmallTypes.ownedTupleIsFree
  refine wpAny_bind (wpAny_field Z rfl (x := .none) rfl (wpAny_pure ?_))
  simp only [if_true]
  refine wpAny_bind (wpAny_rule (wpAny_bind (wpAny_field Z rfl (x := .ref to) rfl (wpAny_bind (wpAny_setField_rec Z (by simp) fun h1 Z1 S1 => wpAny_bind ?_)))))
  replace Z1 : IsZip h1 z ti to .ellipsis := Z1
  simp only [List.zipIdx_cons, List.zipIdx_nil, List.forIn_cons, List.forIn_nil]
  refine wpAny_bind (wpAny_bind (wpAny_onRaise (wpAny_bind (m := nextOf (.ref i1)) ?_)))
  refine W1.item _ _ _ _ k x _ _ (W1.mv _ _ _ b1 fun o => S1.extBut _ o (Ne.symm z3)) (W1.smv _ _ c1 fun o => S1.extBut _ o e1) ex fun h2 b12 S2 => wpAny_pure ?_
  have TO2 : IsTri h2 to p q r := S2.extBut _ _ x1 (S1.extBut _ _ (Ne.symm z2) TO)
  refine wpAny_bind (wpAny_seqItems TO2 rfl (wpAny_bind (upd_tri TO2 fun h3 TO3 S3 => wpAny_bind (wpAny_letGo (wpAny_pure ?_)))))
  replace TO3 : IsTri h3 to x q r := TO3
  have k3 : ∀ c o, c ≠ z → c ≠ to → c ≠ i1 → s.heap.get? c = some o → h3.get? c = some o := fun c o n1 n2 n3 g => S3.extBut _ _ n2 (S2.extBut _ _ n3 (S1.extBut _ _ n1 g))
  refine wpAny_bind (wpAny_bind (wpAny_onRaise (wpAny_bind (m := nextOf (.ref i2)) ?_)))
  refine W2.item _ _ _ _ k y _ _ (W2.mv _ _ _ b2 fun o => k3 _ o (Ne.symm z4) (Ne.symm x2) (Ne.symm w1)) (W2.smv _ _ c2 fun o => k3 _ o f1 f2 f3) ey fun h4 b24 S4 => wpAny_pure ?_
  have TO4 : IsTri h4 to x q r := S4.extBut _ _ x2 TO3
  refine wpAny_bind (wpAny_seqItems TO4 rfl (wpAny_bind (upd_tri TO4 fun h5 TO5 S5 => wpAny_bind (wpAny_letGo (wpAny_pure ?_)))))
  replace TO5 : IsTri h5 to x y r := TO5
  have k5 : ∀ c o, c ≠ z → c ≠ to → c ≠ i1 → c ≠ i2 → s.heap.get? c = some o → h5.get? c = some o := fun c o n1 n2 n3 n4 g => S5.extBut _ _ n2 (S4.extBut _ _ n4 (k3 c o n1 n2 n3 g))
  refine wpAny_bind (wpAny_bind (wpAny_onRaise (wpAny_bind (m := nextOf (.ref i3)) ?_)))
  refine W3.item _ _ _ _ k v _ _ (W3.mv _ _ _ b3 fun o => k5 _ o (Ne.symm z5) (Ne.symm x3) (Ne.symm w2) (Ne.symm u1)) (W3.smv _ _ c3 fun o => k5 _ o g1 g2 g3 g4) ev fun h6 b36 S6 => wpAny_pure ?_
  have TO6 : IsTri h6 to x y r := S6.extBut _ _ x3 TO5
  refine wpAny_bind (wpAny_seqItems TO6 rfl (wpAny_bind (upd_tri TO6 fun h7 TO7 S7 => wpAny_bind (wpAny_letGo (wpAny_pure (wpAny_pure ?_))))))
  replace TO7 : IsTri h7 to x y v := TO7
  refine wpAny_bind (wpAny_seqItems TO7 rfl (wpAny_bind (wpAny_newTuple (wpAny_bind (m := Builtin.SmallTypes.ownedTupleHandOut (.ref z) (.ref h7.objs.size)) ?_))))
  have sz7 : h7.objs.size = s.heap.objs.size := by rw [S7.1, S6.1, S5.1, S4.1, S3.1, S2.1, S1.1]
  have k7 : ∀ c o, c ≠ to → c ≠ i3 → h5.get? c = some o → h7.get? c = some o := fun c o n1 n2 g => S7.extBut _ _ n1 (S6.extBut _ _ n2 g)
  have Z5 : IsZip h5 z ti to .ellipsis := S5.extBut _ _ z2 (S4.extBut _ _ z4 (S3.extBut _ _ z2 (S2.extBut _ _ z3 Z1)))
  have Z7 : IsZip h7 z ti to .ellipsis := k7 _ _ z2 z5 Z5
  have b17 : t1 (k + 1) h7 := W1.mv _ _ _ b12 fun o g => k7 _ o (Ne.symm x1) w2 (S5.extBut _ o (Ne.symm x1) (S4.extBut _ o w1 (S3.extBut _ o (Ne.symm x1) g)))
  have b27 : t2 (k + 1) h7 := W2.mv _ _ _ b24 fun o g => k7 _ o (Ne.symm x2) u1 (S5.extBut _ o (Ne.symm x2) g)
  have b37 : t3 (k + 1) h7 := W3.mv _ _ _ b36 fun o g => S7.extBut _ o (Ne.symm x3) g
  have zlt : z < h7.objs.size := Heap.lt_size Z7
  unfold Builtin.SmallTypes.ownedTupleHandOut
  refine wpAny_bind (wpAny_setField_rec (show IsZip (h7.push { cls := .type "tuple", data := .seq #[x, y, v] }) z ti to .ellipsis from Heap.get?_push_of_some _ Z7) (by simp) fun h8 Z8 S8 => wpAny_setField_rec (show IsZip h8 z ti to (rawInt h7.objs.size) from Z8) (by simp) fun h9 Z9 S9 => ?_)
  replace Z9 : IsZip h9 z ti to (rawInt h7.objs.size) := Z9
  have up9 : ∀ c o, c ≠ z → h7.get? c = some o → h9.get? c = some o := fun c o n g => S9.extBut _ _ n (S8.extBut _ _ n (Heap.get?_push_of_some _ g))
  have T9 : IsTri h9 h7.objs.size x y v := S9.extBut _ _ (Nat.ne_of_gt zlt) (S8.extBut _ _ (Nat.ne_of_gt zlt) (Heap.get?_push_size _ rfl))
  refine wpAny_pure ⟨_, rfl, ?_⟩
  show Q (.ref h7.objs.size) _
  rw [sz7] at Z9 T9 ⊢
  exact h h9 Z9 (up9 _ _ (Ne.symm z2) TO7) (W1.mv _ _ _ b17 fun o g => up9 _ o (Ne.symm z3) g) (W2.mv _ _ _ b27 fun o g => up9 _ o (Ne.symm z4) g) (W3.mv _ _ _ b37 fun o g => up9 _ o (Ne.symm z5) g) T9
    fun c o n1 n2 n3 n4 n5 g => up9 c o n1 (k7 c o n2 n5 (k5 c o n1 n2 n3 n4 g))
theorem zip3_end {k : Nat} {p q r : Value} {Q : Fin → Shared → Prop} (hn : A.handled = none) (D : ZB z ti to i1 i2 i3 [a1, a2, a3]) (W1 : Drw i1 a1 vs t1 s1) (W2 : Drw i2 a2 us t2 s2) (W3 : Drw i3 a3 ws t3 s3) (Z : IsZip s.heap z ti to .none) (TI : IsTri s.heap ti (.ref i1) (.ref i2) (.ref i3)) (TO : IsTri s.heap to p q r)
    (b1 : t1 k s.heap) (b2 : t2 k s.heap) (b3 : t3 k s.heap) (c1 : s1 s.heap) (c2 : s2 s.heap) (c3 : s3 s.heap) (end' : vs[k]? = none ∨ us[k]? = none ∨ ws[k]? = none)
    (h : ∀ h' e, (∀ c o, c ≠ z → c ≠ to → c ≠ i1 → c ≠ i2 → c ≠ i3 → s.heap.get? c = some o → h'.get? c = some o) → (∃ o, h'.get? e = some o ∧ o.cls = .type "StopIteration") → E (.ref e) { s with heap := h' }) :
    wpAny (model prog w) A (Builtin.«zip.__next__» ⟨[.ref z], []⟩) Q E s := by
  obtain ⟨nd, ap⟩ := D
  obtain ⟨e1, e2, e3, e4, e5⟩ := ap a1 (by simp)
  obtain ⟨f1, f2, f3, f4, f5⟩ := ap a2 (by simp)
  obtain ⟨g1, g2, g3, g4, g5⟩ := ap a3 (by simp)
  simp only [List.nodup_cons, List.mem_cons, List.not_mem_nil, or_false, not_or, not_false_eq_true, List.nodup_nil, and_true] at nd
  obtain ⟨⟨z1, z2, z3, z4, z5⟩, ⟨y1, y2, y3, y4⟩, ⟨x1, x2, x3⟩, ⟨w1, w2⟩, u1⟩ := nd
  refine wpAny_bind (m := field (.ref z) 2) (wpAny_field Z rfl (x := .bool false) rfl (wpAny_bind (m := field (.ref z) 3) (wpAny_field Z rfl (x := .ref ti) rfl (wpAny_bind (wpAny_seqItems TI rfl ?_)))))
  refine wpAny_bind (m := Builtin.SmallTypes.ownedTupleIsFree (.ref z)) ?_
  unfold Builtin.SmallTypes.ownedTupleIsFree
  refine wpAny_bind (wpAny_field Z rfl (x := .none) rfl (wpAny_pure ?_))
  simp only [if_true]
  refine wpAny_bind (wpAny_rule (wpAny_bind (wpAny_field Z rfl (x := .ref to) rfl (wpAny_bind (wpAny_setField_rec Z (by simp) fun h1 Z1 S1 => wpAny_bind ?_)))))
  replace Z1 : IsZip h1 z ti to .ellipsis := Z1
  simp only [List.zipIdx_cons, List.zipIdx_nil, List.forIn_cons, List.forIn_nil]
  refine wpAny_bind (wpAny_bind (wpAny_onRaise (wpAny_bind (m := nextOf (.ref i1)) ?_)))
  have b1' := W1.mv _ _ _ b1 fun o => S1.extBut _ o (Ne.symm z3)
  have c1' := W1.smv _ _ c1 fun o => S1.extBut _ o e1
  cases ex : vs[k]? with
  | none =>
    refine W1.fin _ _ _ _ k _ _ hn b1' c1' ex fun h2 e S2 he => ?_
    obtain ⟨oe, hoe, hce⟩ := he
    have Z2 : IsZip h2 z ti to .ellipsis := S2 _ _ z3 Z1
    have ne : e ≠ z := fun y => by subst y; rw [Z2] at hoe; cases hoe; simp at hce
    exact wpAny_setField_rec Z2 (by simp) fun h3 _ S3 => h h3 e (fun c o n1 _ n3 _ _ g => S3.extBut _ _ n1 (S2 _ _ n3 (S1.extBut _ _ n1 g))) ⟨oe, S3.extBut _ _ ne hoe, hce⟩
  | some x =>
    have end2 := end'.resolve_left (by rw [ex]; exact fun z => nomatch z)
    refine W1.item _ _ _ _ k x _ _ b1' c1' ex fun h2 b12 S2 => wpAny_pure ?_
    have TO2 : IsTri h2 to p q r := S2.extBut _ _ x1 (S1.extBut _ _ (Ne.symm z2) TO)
    refine wpAny_bind (wpAny_seqItems TO2 rfl (wpAny_bind (upd_tri TO2 fun h3 TO3 S3 => wpAny_bind (wpAny_letGo (wpAny_pure ?_)))))
    replace TO3 : IsTri h3 to x q r := TO3
    refine wpAny_bind (wpAny_bind (wpAny_onRaise (wpAny_bind (m := nextOf (.ref i2)) ?_)))
    have k3 : ∀ c o, c ≠ z → c ≠ to → c ≠ i1 → s.heap.get? c = some o → h3.get? c = some o := fun c o n1 n2 n3 g => S3.extBut _ _ n2 (S2.extBut _ _ n3 (S1.extBut _ _ n1 g))
    have Z3 : IsZip h3 z ti to .ellipsis := S3.extBut _ _ z2 (S2.extBut _ _ z3 Z1)
    have b2' := W2.mv _ _ _ b2 fun o => k3 _ o (Ne.symm z4) (Ne.symm x2) (Ne.symm w1)
    have c2' := W2.smv _ _ c2 fun o => k3 _ o f1 f2 f3
    cases ey : us[k]? with
    | none =>
      refine W2.fin _ _ _ _ k _ _ hn b2' c2' ey fun h4 e S4 he => ?_
      obtain ⟨oe, hoe, hce⟩ := he
      have Z4 : IsZip h4 z ti to .ellipsis := S4 _ _ z4 Z3
      have ne : e ≠ z := fun y => by subst y; rw [Z4] at hoe; cases hoe; simp at hce
      exact wpAny_setField_rec Z4 (by simp) fun h5 _ S5 => h h5 e (fun c o n1 n2 n3 n4 _ g => S5.extBut _ _ n1 (S4 _ _ n4 (k3 c o n1 n2 n3 g))) ⟨oe, S5.extBut _ _ ne hoe, hce⟩
    | some y =>
      have ev : ws[k]? = none := end2.resolve_left (by rw [ey]; exact fun z => nomatch z)
      refine W2.item _ _ _ _ k y _ _ b2' c2' ey fun h4 b24 S4 => wpAny_pure ?_
      have TO4 : IsTri h4 to x q r := S4.extBut _ _ x2 TO3
      refine wpAny_bind (wpAny_seqItems TO4 rfl (wpAny_bind (upd_tri TO4 fun h5 TO5 S5 => wpAny_bind (wpAny_letGo (wpAny_pure ?_)))))
      have k5 : ∀ c o, c ≠ z → c ≠ to → c ≠ i1 → c ≠ i2 → s.heap.get? c = some o → h5.get? c = some o := fun c o n1 n2 n3 n4 g => S5.extBut _ _ n2 (S4.extBut _ _ n4 (k3 c o n1 n2 n3 g))
      refine wpAny_bind (wpAny_bind (wpAny_onRaise (wpAny_bind (m := nextOf (.ref i3)) ?_)))
      refine W3.fin _ _ _ _ k _ _ hn (W3.mv _ _ _ b3 fun o => k5 _ o (Ne.symm z5) (Ne.symm x3) (Ne.symm w2) (Ne.symm u1)) (W3.smv _ _ c3 fun o => k5 _ o g1 g2 g3 g4) ev fun h6 e S6 he => ?_
      obtain ⟨oe, hoe, hce⟩ := he
      have Z6 : IsZip h6 z ti to .ellipsis := S6 _ _ z5 (S5.extBut _ _ z2 (S4.extBut _ _ z4 Z3))
      have ne : e ≠ z := fun y => by subst y; rw [Z6] at hoe; cases hoe; simp at hce
      exact wpAny_setField_rec Z6 (by simp) fun h7 _ S7 => h h7 e (fun c o n1 n2 n3 n4 n5 g => S7.extBut _ _ n1 (S6 _ _ n5 (k5 c o n1 n2 n3 n4 g))) ⟨oe, S7.extBut _ _ ne hoe, hce⟩
end
end L2
set_option Elab.async false
set_option linter.all false
set_option maxRecDepth 100000
set_option maxHeartbeats 4000000
namespace L2
open PySem PySem.Spec PyProof.Rows
noncomputable abbrev zb3 (b c e : Bool) (h : Heap) (a d g : Addr) : Heap := (za2 b c h a d).push { cls := .type (itCls e), data := .fields #[.ref g, .int 0 0] }
noncomputable abbrev zb4 (b c e : Bool) (h : Heap) (a d g : Addr) : Heap := (zb3 b c e h a d g).push { cls := .type "tuple", data := .seq #[.ref h.objs.size, .ref (za1 b h a).objs.size, .ref (za2 b c h a d).objs.size] }
noncomputable abbrev zb5 (b c e : Bool) (h : Heap) (a d g : Addr) : Heap := (zb4 b c e h a d g).push { cls := .type "tuple", data := .seq #[.none, .none, .none] }
noncomputable abbrev zb6 (b c e : Bool) (h : Heap) (a d g : Addr) : Heap := (zb5 b c e h a d g).push { cls := .type "zip", data := .fields #[.none, .bool false, .bool false, .ref (zb3 b c e h a d g).objs.size, .ref (zb4 b c e h a d g).objs.size] }
theorem zip3_made (b c e : Bool) (a d g : Addr) (xs ys zs : List Value) : Meets (Builtin.«zip.__new__» ⟨[.type "zip", .ref a, .ref d, .ref g], []⟩) (fun _ R s => Src2 b a xs s.heap ∧ Src2 c d ys s.heap ∧ Src2 e g zs s.heap ∧ R (.ok (.ret (.ref (zb5 b c e s.heap a d g).objs.size))) { s with heap := zb6 b c e s.heap a d g }) :=
  .of_wp fun prog w A R s h => by
    obtain ⟨hp, gg, dd, tk, os⟩ := s
    obtain ⟨ha, hb, hc, h⟩ := h
    have hsub := sub_zip
    have A1 : Src2 b a xs (Shared.heap ⟨hp, gg, dd, tk, os⟩) := ha
    have B1 : Src2 c d ys (Shared.heap ⟨hp.push { cls := .type (itCls b), data := .fields #[.ref a, .int 0 0] }, gg, dd, tk, os⟩) := src2_push hb _
    have C1 : Src2 e g zs (Shared.heap ⟨(hp.push { cls := .type (itCls b), data := .fields #[.ref a, .int 0 0] }).push { cls := .type (itCls c), data := .fields #[.ref d, .int 0 0] }, gg, dd, tk, os⟩) := src2_push (src2_push hc _) _
    wp_walk using pyIter_src2 A1, pyIter_src2 B1, pyIter_src2 C1
    exact ⟨_, rfl, h⟩
theorem typeCall_zip_3 (a b c : Value) : checkTypeCall "zip" { pos := [a, b, c] } = pure () := by rfl
theorem newCall_zip_3 (a b c : Value) : checkBuiltinCall "zip.__new__" { pos := [Value.type "zip", a, b, c] } = pure () := by kernel_rfl
theorem args_object_init_4 (a b c d : Value) : argsOk "object.__init__" { pos := [a, b, c, d] } := by
  have := F.args_object_init_3 a b c
  unfold argsOk at *
  rw [signature?_of rfl F.owner_object] at *
  exact this
section
variable {prog : Program} {w : World} {A : Around} {E : Value → Shared → Prop} {s : Shared}
theorem call_zip3 {b c e : Bool} {a d k : Addr} {xs ys zs : List Value} {Q : Value → Shared → Prop} (ha : Src2 b a xs s.heap) (hb : Src2 c d ys s.heap) (hc : Src2 e k zs s.heap)
    (h : ∀ g, IsZip g (s.heap.objs.size + 5) (s.heap.objs.size + 3) (s.heap.objs.size + 4) .none → IsTri g (s.heap.objs.size + 3) (.ref s.heap.objs.size) (.ref (s.heap.objs.size + 1)) (.ref (s.heap.objs.size + 2)) → IsTri g (s.heap.objs.size + 4) .none .none .none →
      Tn2 b s.heap.objs.size a 0 g → Tn2 c (s.heap.objs.size + 1) d 0 g → Tn2 e (s.heap.objs.size + 2) k 0 g → (∀ c o, s.heap.get? c = some o → g.get? c = some o) → Q (.ref (s.heap.objs.size + 5)) { s with heap := g }) :
    wpAny (model prog w) A (call (.type "zip") [.ref a, .ref d, .ref k]) Q E s := by
  refine callType_new F.called_zip (by decide) (typeCall_zip_3 _ _ _) (newCall_zip_3 _ _ _) (fun obj => args_object_init_4 obj _ _ _) F.entry_zip_new (zip3_made b c e a d k xs ys zs) ⟨ha, hb, hc, ?_⟩
  have n1 : (za1 b s.heap a).objs.size = s.heap.objs.size + 1 := Heap.size_push ..
  have n2 : (za2 b c s.heap a d).objs.size = s.heap.objs.size + 2 := by rw [Heap.size_push, n1]
  have n3 : (zb3 b c e s.heap a d k).objs.size = s.heap.objs.size + 3 := by rw [Heap.size_push, n2]
  have n4 : (zb4 b c e s.heap a d k).objs.size = s.heap.objs.size + 4 := by rw [Heap.size_push, n3]
  have n5 : (zb5 b c e s.heap a d k).objs.size = s.heap.objs.size + 5 := by rw [Heap.size_push, n4]
  have p : ∀ {h : Heap} {o : Obj} {b : Addr} {v : Obj}, h.get? b = some v → (h.push o).get? b = some v := fun q => Heap.get?_push_of_some _ q
  have o6 : (zb6 b c e s.heap a d k).get? (zb5 b c e s.heap a d k).objs.size = some _ := Heap.get?_push_size _ rfl
  have o5 : (zb6 b c e s.heap a d k).get? (zb4 b c e s.heap a d k).objs.size = some _ := p (Heap.get?_push_size _ rfl)
  have o4 : (zb6 b c e s.heap a d k).get? (zb3 b c e s.heap a d k).objs.size = some _ := p (p (Heap.get?_push_size _ rfl))
  have o3 : (zb6 b c e s.heap a d k).get? (za2 b c s.heap a d).objs.size = some _ := p (p (p (Heap.get?_push_size _ rfl)))
  have o2 : (zb6 b c e s.heap a d k).get? (za1 b s.heap a).objs.size = some _ := p (p (p (p (Heap.get?_push_size _ rfl))))
  have o1 : (zb6 b c e s.heap a d k).get? s.heap.objs.size = some _ := p (p (p (p (p (Heap.get?_push_size _ rfl)))))
  show _ ∧ _
  rw [n3, n4, n5] at o6
  rw [n1, n2, n3] at o4
  rw [n4] at o5
  rw [n2] at o3
  rw [n1] at o2
  rw [n5]
  refine ⟨⟨_, o6, rfl⟩, h _ o6 o4 o5 ?_ ?_ ?_ fun c o g => p (p (p (p (p (p g)))))⟩
  · cases b with
    | true => exact ⟨_, o1, rfl, rfl⟩
    | false => exact ⟨_, o1, rfl, rfl⟩
  · cases c with
    | true => exact ⟨_, o2, rfl, rfl⟩
    | false => exact ⟨_, o2, rfl, rfl⟩
  · cases e with
    | true => exact ⟨_, o3, rfl, rfl⟩
    | false => exact ⟨_, o3, rfl, rfl⟩
end
noncomputable def Itz3 (K : PySem.W.Frag) (b c e : Bool) (a1 a2 a3 : Addr) : It :=
  ⟨fun i H => ∃ xs ys zs x y z, (Sq2 K b H a1 xs ∧ Sq2 K c H a2 ys ∧ Sq2 K e H a3 zs) ∧ xs[i]? = some x ∧ ys[i]? = some y ∧ zs[i]? = some z,
   fun i H v H' => ∃ x y z q, (∀ xs, Sq2 K b H a1 xs → xs[i]? = some x) ∧ (∀ ys, Sq2 K c H a2 ys → ys[i]? = some y) ∧ (∀ zs, Sq2 K e H a3 zs → zs[i]? = some z) ∧ v = .ref q ∧ H q = none ∧ H' = upd H q (.tup [x, y, z]),
   fun i H => ∃ xs ys zs, (Sq2 K b H a1 xs ∧ Sq2 K c H a2 ys ∧ Sq2 K e H a3 zs) ∧ (xs.length ≤ i ∨ ys.length ≤ i ∨ zs.length ≤ i)⟩
section
variable {P : Program} {w : World} {K : PySem.W.Frag} {z ti to i1 i2 i3 a1 a2 a3 : Addr} {b c' e' : Bool}
noncomputable def ZS3 (b c e : Bool) (z ti to i1 i2 i3 a1 a2 a3 : Addr) (i : Nat) (h : Heap) : Prop := IsZip h z ti to .none ∧ IsTri h ti (.ref i1) (.ref i2) (.ref i3) ∧ (∃ p q r, IsTri h to p q r) ∧ Tn2 b i1 a1 i h ∧ Tn2 c i2 a2 i h ∧ Tn2 e i3 a3 i h
theorem turn_zip3 {elts : List Expr} {kk : Nat} {pp : Pos} (D : ZB z ti to i1 i2 i3 [a1, a2, a3]) : Turn P w K (.Tuple elts kk pp) (Itz3 K b c' e' a1 a2 a3) [z, ti, to, i1, i2, i3] z (ZS3 b c' e' z ti to i1 i2 i3 a1 a2 a3) where
  mem := by simp
  obj := fun i h st c hc => by
    obtain ⟨s1, s2, ⟨p, q, r, s3⟩, s4, s5, s6⟩ := st
    simp only [List.mem_cons, List.not_mem_nil, or_false] at hc
    rcases hc with e | e | e | e | e | e <;> subst e
    · exact ⟨_, s1, fun v => by simp⟩
    · exact ⟨_, s2, fun v => by simp⟩
    · exact ⟨_, s3, fun v => by simp⟩
    · exact (drw2 b _ a1 []).ob _ _ s4
    · exact (drw2 c' _ a2 []).ob _ _ s5
    · exact (drw2 e' _ a3 []).ob _ _ s6
  keep := fun i h h' st k => by
    obtain ⟨s1, s2, ⟨p, q, r, s3⟩, s4, s5, s6⟩ := st
    exact ⟨k _ (by simp) _ s1, k _ (by simp) _ s2, ⟨p, q, r, k _ (by simp) _ s3⟩, (drw2 b i1 a1 []).mv _ _ _ s4 fun o e => k _ (by simp) o e, (drw2 c' i2 a2 []).mv _ _ _ s5 fun o e => k _ (by simp) o e, (drw2 e' i3 a3 []).mv _ _ _ s6 fun o e => k _ (by simp) o e⟩
  item := by
    intro X hP hw hK hc i pins s σ H E I hf st hg
    subst hP hw hK
    obtain ⟨Z, TI, ⟨p, q, r, TO⟩, b1, b2, b3⟩ := st
    obtain ⟨xs, ys, zs, x, y, v, ⟨sq1, sq2, sq3⟩, hx, hy, hv⟩ := hg
    obtain ⟨vs, rv, c1⟩ := I.sq2 sq1
    obtain ⟨us, ru, c2⟩ := I.sq2 sq2
    obtain ⟨ws, rw', c3⟩ := I.sq2 sq3
    obtain ⟨xv, ex, rx⟩ := rv.get hx
    obtain ⟨yv, ey, ry⟩ := ru.get hy
    obtain ⟨vv, ev, rvv⟩ := rw'.get hv
    have hT : s.TypeIs (.ref z) "zip" := ⟨_, Z, rfl⟩
    have fr : H s.heap.objs.size = none := I.hok.fresh (Nat.le_refl _)
    unfold pyNext
    refine wpAny_bind (wpAny_attempt (wpAny_callSpecial?_slot (name := Str.ofString "__next__") hT F.slot_zip_next (wpAny_call_entry F.slot_zip_next hT F.entry_zip_next (zip3_item D (drw2 b i1 a1 vs) (drw2 c' i2 a2 us) (drw2 e' i3 a3 ws) Z TI TO b1 b2 b3 c1 c2 c3 ex ey ev fun g Z' TO' b1' b2' b3' T' kp => ?_) (F.args_zip_next_1 _))))
    refine wpAny_pure ⟨_, rfl, wpAny_letOwnedTupleGo_zip Z' fun g2 Z2 S2 => ?_⟩
    have nd := D.nd
    simp only [List.nodup_cons, List.mem_cons, List.not_mem_nil, or_false, not_or, not_false_eq_true, List.nodup_nil, and_true] at nd
    obtain ⟨⟨z1, z2, z3, z4, z5⟩, ⟨y1, y2, y3, y4⟩, _⟩ := nd
    have ltz : z < s.heap.objs.size := Heap.lt_size Z
    have kp2 : ∀ c o, c ∉ [z, ti, to, i1, i2, i3] → s.heap.get? c = some o → g2.get? c = some o := fun c o hc e => by
      simp only [List.mem_cons, List.not_mem_nil, or_false, not_or] at hc
      exact S2.extBut _ _ hc.1 (kp c o hc.1 hc.2.2.1 hc.2.2.2.1 hc.2.2.2.2.1 hc.2.2.2.2.2 e)
    have TI2 : IsTri g2 ti (.ref i1) (.ref i2) (.ref i3) := S2.extBut _ _ (Ne.symm z1) (kp _ _ (Ne.symm z1) y1 y2 y3 y4 TI)
    have T2 : IsTri g2 s.heap.objs.size xv yv vv := S2.extBut _ _ (Nat.ne_of_gt ltz) T'
    have st2 : ZS3 b c' e' z ti to i1 i2 i3 a1 a2 a3 (i + 1) g2 := ⟨Z2, TI2, ⟨_, _, _, S2.extBut _ _ (Ne.symm z2) TO'⟩, (drw2 b i1 a1 vs).mv _ _ _ b1' fun o => S2.extBut _ o (Ne.symm z3), (drw2 c' i2 a2 us).mv _ _ _ b2' fun o => S2.extBut _ o (Ne.symm z4), (drw2 e' i3 a3 ws).mv _ _ _ b3' fun o => S2.extBut _ o (Ne.symm z5)⟩
    have nfp : ∀ c u, H c = some u → c ∉ [z, ti, to, i1, i2, i3] := fun c u e hm => by rw [(hf c hm).1] at e; cases e
    have nT : ∀ c o, s.heap.get? c = some o → c ≠ s.heap.objs.size := fun c o e => Nat.ne_of_lt (Heap.lt_size e)
    refine ⟨.ref s.heap.objs.size, upd H s.heap.objs.size (.tup [x, y, v]), ?_, rfl, ⟨x, y, v, _, fun xs' h' => by rw [← I.sq2_inj sq1 h']; exact hx, fun ys' h' => by rw [← I.sq2_inj sq2 h']; exact hy, fun zs' h' => by rw [← I.sq2_inj sq3 h']; exact hv, rfl, fr, rfl⟩, st2, fun c hm => ?_⟩
    · show Inv X pins σ (upd H s.heap.objs.size (.tup [x, y, v])) { s with heap := g2, gens := s.gens, drawn := s.drawn, toks := s.toks }
      refine Inv.step (s := s) (g' := s.gens) (d' := s.drawn) (t' := s.toks) (ch := [z, ti, to, i1, i2, i3]) I (fun c hm => ?_) (fun c o _ _ hm e _ => kp2 c o hm e) (fun c o _ _ hm e _ => ⟨o.slots, kp2 c o hm e⟩) (fun c o hm e n => by rw [upd_ne (nT c o e)]; exact n) (fun c o hm e => ⟨o, kp2 c o hm e⟩)
        (fun c zs e => by rw [upd_ne (ne_of_none e fr)]; exact e) (fun c o u e => by rw [upd_ne (ne_of_none e fr)]; exact e) (fun c ps e => ⟨#[], by rw [upd_ne (ne_of_none e fr), e]; simp⟩) (fun m hm => ?_) (fun c u e => ?_) I.bare
      · obtain ⟨_, f1, _, f3, f4, f5⟩ := hf c hm
        exact ⟨f3, f1, f4, f5⟩
      · obtain ⟨o, es, ep, ho, r⟩ := hm
        exact ⟨o, es, ep, kp2 _ o (fun z' => (hf _ z').2.1 rfl) ho, r⟩
      · by_cases hc' : c = s.heap.objs.size
        · subst hc'
          rw [upd_same] at e
          cases e
          exact ⟨by show 3 ≤ sizeLine; decide, [xv, yv, vv], .cons rx (.cons ry (.cons rvv .nil)), _, T2, rfl, 0, rfl⟩
        · rw [upd_ne hc'] at e
          refine (I.hok c u e).stay (fun c' v hcc q' => kp2 c' v ?_ q') (fun c' q' => by rw [upd_ne (ne_of_none q' fr)]; exact q') (fun c' zs q' => by rw [upd_ne (ne_of_none q' fr)]; exact q') fun c' o u q' => by rw [upd_ne (ne_of_none q' fr)]; exact q'
          rcases hcc with rfl | hcc
          · exact nfp _ _ e
          · exact nfp _ _ hcc
    · rw [upd_ne]
      · exact (hf c hm).1
      · simp only [List.mem_cons, List.not_mem_nil, or_false] at hm
        rcases hm with e | e | e | e | e | e <;> subst e
        · exact nT _ _ Z
        · exact nT _ _ TI
        · exact nT _ _ TO
        · obtain ⟨o, e, _⟩ := (drw2 b _ a1 []).ob _ _ b1; exact nT _ _ e
        · obtain ⟨o, e, _⟩ := (drw2 c' _ a2 []).ob _ _ b2; exact nT _ _ e
        · obtain ⟨o, e, _⟩ := (drw2 e' _ a3 []).ob _ _ b3; exact nT _ _ e
  done := by
    intro X hP hw hK hc i pins s σ H E I hf st hg
    subst hP hw hK
    obtain ⟨Z, TI, ⟨p, q, r, TO⟩, b1, b2, b3⟩ := st
    obtain ⟨xs, ys, zs, ⟨sq1, sq2, sq3⟩, hend⟩ := hg
    obtain ⟨vs, rv, c1⟩ := I.sq2 sq1
    obtain ⟨us, ru, c2⟩ := I.sq2 sq2
    obtain ⟨ws, rw', c3⟩ := I.sq2 sq3
    have hT : s.TypeIs (.ref z) "zip" := ⟨_, Z, rfl⟩
    have he : vs[i]? = none ∨ us[i]? = none ∨ ws[i]? = none := hend.imp (fun h => List.getElem?_eq_none_iff.mpr (by rw [← rv.length]; exact h)) (fun h => h.imp (fun h => List.getElem?_eq_none_iff.mpr (by rw [← ru.length]; exact h)) (fun h => List.getElem?_eq_none_iff.mpr (by rw [← rw'.length]; exact h)))
    unfold pyNext
    refine wpAny_bind (wpAny_attempt (wpAny_callSpecial?_slot (name := Str.ofString "__next__") hT F.slot_zip_next (wpAny_call_entry F.slot_zip_next hT F.entry_zip_next (zip3_end (I.ok.hd hc) D (drw2 b i1 a1 vs) (drw2 c' i2 a2 us) (drw2 e' i3 a3 ws) Z TI TO b1 b2 b3 c1 c2 c3 he fun g e kp ho => ?_) (F.args_zip_next_1 _))))
    obtain ⟨o, ho, hcl⟩ := ho
    refine wpAny_bind (wpAny_isInstance (T := "StopIteration") (b := true) ⟨o, ho, hcl⟩ isSubtype_stop (wpAny_pure ⟨rfl, ?_⟩))
    have kp2 : ∀ c o, c ∉ [z, ti, to, i1, i2, i3] → s.heap.get? c = some o → g.get? c = some o := fun c o hc e => by
      simp only [List.mem_cons, List.not_mem_nil, or_false, not_or] at hc
      exact kp c o hc.1 hc.2.2.1 hc.2.2.2.1 hc.2.2.2.2.1 hc.2.2.2.2.2 e
    have nfp : ∀ c u, H c = some u → c ∉ [z, ti, to, i1, i2, i3] := fun c u e hm => by rw [(hf c hm).1] at e; cases e
    refine Inv.step (s := s) (g' := s.gens) (d' := s.drawn) (t' := s.toks) (ch := [z, ti, to, i1, i2, i3]) I (fun c hm => ?_) (fun c o _ _ hm e _ => kp2 c o hm e) (fun c o _ _ hm e _ => ⟨o.slots, kp2 c o hm e⟩) (fun c o hm e n => n) (fun c o hm e => ⟨o, kp2 c o hm e⟩)
      (fun c zs e => e) (fun c o u e => e) (fun c ps e => ⟨#[], by rw [e]; simp⟩) (fun m hm => ?_) (fun c u e => ?_) I.bare
    · obtain ⟨_, f1, _, f3, f4, f5⟩ := hf c hm
      exact ⟨f3, f1, f4, f5⟩
    · obtain ⟨o, es, ep, ho, r⟩ := hm
      exact ⟨o, es, ep, kp2 _ o (fun z' => (hf _ z').2.1 rfl) ho, r⟩
    · refine (I.hok c u e).stay (fun c' v hcc q' => kp2 c' v ?_ q') (fun _ q' => q') (fun _ _ q' => q') fun _ _ _ q' => q'
      rcases hcc with rfl | hcc
      · exact nfp _ _ e
      · exact nfp _ _ hcc
  self := fun A i s Q E st h => wpAny_pyIter_zip st.1 h
end
theorem vals3 {x y v : V} {us : List Value} (r : Vals [x, y, v] us) : ∃ u1 u2 u3, us = [u1, u2, u3] ∧ RelV x u1 ∧ RelV y u2 ∧ RelV v u3 := by
  cases r with
  | cons p q =>
    cases q with
    | cons p' q' =>
      cases q' with
      | cons p2 q2 => cases q2; exact ⟨_, _, _, rfl, p, p', p2⟩
noncomputable def iZip3 (K : PySem.W.Frag) (ta : TA) : TI := fun σ H R => ta σ H fun vs H1 => ∃ (b c e : Bool) (a1 a2 a3 : Addr) (xs ys zs : List V), vs = [.ref a1, .ref a2, .ref a3] ∧ Sq2 K b H1 a1 xs ∧ Sq2 K c H1 a2 ys ∧ Sq2 K e H1 a3 zs ∧ R (Itz3 K b c e a1 a2 a3) H1
theorem zb_new {n a1 a2 a3 : Addr} (h1 : a1 < n) (h2 : a2 < n) (h3 : a3 < n) : ZB (n + 5) (n + 3) (n + 4) n (n + 1) (n + 2) [a1, a2, a3] := by
  refine ⟨?_, fun a ha => ?_⟩
  · show List.Nodup ([(n : Nat) + 5, n + 3, n + 4, n, n + 1, n + 2] : List Nat)
    simp only [List.nodup_cons, List.mem_cons, List.not_mem_nil, or_false, not_or, not_false_eq_true, List.nodup_nil, and_true]
    (first | lia | omega)
  · simp only [List.mem_cons, List.not_mem_nil, or_false] at ha
    have ha' : a < n := by rcases ha with rfl | rfl | rfl <;> assumption
    have up : ∀ k : Nat, a ≠ n + k := fun k => Nat.ne_of_lt (Nat.lt_of_lt_of_le ha' (Nat.le_add_right n k))
    exact ⟨up 5, up 4, Nat.ne_of_lt ha', up 1, up 2⟩
section
variable {X : Cx}
theorem pi_zip3 (K : PySem.W.Frag) {elts : List Expr} {kk : Nat} {pp : Pos} {a b c : Expr} {ta : TA} {p pos : Pos} (hg : Gl X "zip") (hm : X.mg "zip" = none) (ha : PA X [a, b, c] ta) (hs : starEach [a, b, c] X.env = [(false, eval a X.env), (false, eval b X.env), (false, eval c X.env)] := by rfl) (hs2 : starEach [b, c] X.env = [(false, eval b X.env), (false, eval c X.env)] := by rfl) (eK : X.K = K := by rfl) :
    PI X (.Tuple elts kk pp) (.Call (.Name "zip" p) [a, b, c] [] pos) (iZip3 K ta) := by
  subst eK
  intro pins s σ H R I h
  refine Call_ (ld_blt I hg hm bt_zip (PyProof.Rows.callWith_type1 (thn (@ha pos pins s σ H _ I h) fun us s1 ⟨vs, H1, I1, r1, q1⟩ => ?_) (by rw [hs, hs2]) (by rw [hs2]; rfl)))
  obtain ⟨bb, cc, ee, a1, a2, a3, xs, ys, zs, e, sq1, sq2, sq3, q⟩ := q1
  subst e
  obtain ⟨u1, u2, u3, rfl, e1, e2, e3⟩ := vals3 r1
  obtain rfl : u1 = Value.ref a1 := e1
  obtain rfl : u2 = Value.ref a2 := e2
  obtain rfl : u3 = Value.ref a3 := e3
  obtain ⟨vs, rv, c1⟩ := I1.sq2 sq1
  obtain ⟨us, ru, c2⟩ := I1.sq2 sq2
  obtain ⟨ws, rw', c3⟩ := I1.sq2 sq3
  have fp : ∀ k : Nat, FpOk X pins H1 (s1.heap.objs.size + k) := fun k => I1.fpOk (Nat.le_add_right _ _) (I1.hok.fresh (Nat.le_add_right _ _))
  have lt : ∀ (b : Bool) (a : Addr) (vs : List Value), Src2 b a vs s1.heap → a < s1.heap.objs.size := fun b a vs h => by
    cases b with
    | true => obtain ⟨o, e, _⟩ := (show s1.heap.IsTuple a vs.toArray from h); exact Heap.lt_size e
    | false => obtain ⟨o, e, _⟩ := (show s1.heap.IsList a vs.toArray from h); exact Heap.lt_size e
  refine call_zip3 c1 c2 c3 ?_
  intro g z1 z2 z3 z4 z5 z6 kp
  have st : ZS3 bb cc ee (s1.heap.objs.size + 5) (s1.heap.objs.size + 3) (s1.heap.objs.size + 4) s1.heap.objs.size (s1.heap.objs.size + 1) (s1.heap.objs.size + 2) a1 a2 a3 0 g := ⟨z1, z2, ⟨_, _, _, z3⟩, z4, z5, z6⟩
  refine wpAny_pyIter_zip st.1 ⟨_, _, _, _, H1, rfl, I1.kept (t' := s1.toks) kp, turn_zip3 (zb_new (lt _ _ _ c1) (lt _ _ _ c2) (lt _ _ _ c3)), st, fun c hc => ?_, q⟩
  simp only [List.mem_cons, List.not_mem_nil, or_false] at hc
  rcases hc with e | e | e | e | e | e <;> subst e
  · exact fp 5
  · exact fp 3
  · exact fp 4
  · exact fp 0
  · exact fp 1
  · exact fp 2
end
noncomputable def zipT3 : List Tr → List Tr → List Tr → List Tr
  | t :: ts, u :: us, v :: vs => .tup [t, u, v] :: zipT3 ts us vs
  | _, _, _ => []
theorem zipT3_get : ∀ {ts us vs : List Tr} {i : Nat} {t u v : Tr}, ts[i]? = some t → us[i]? = some u → vs[i]? = some v → (zipT3 ts us vs)[i]? = some (.tup [t, u, v])
  | [], _, _, _, _, _, _, h, _, _ => by simp at h
  | _ :: _, [], _, _, _, _, _, _, h, _ => by simp at h
  | _ :: _, _ :: _, [], _, _, _, _, _, _, h => by simp at h
  | _ :: _, _ :: _, _ :: _, 0, _, _, _, h, h', h'' => by simp at h h' h''; subst h h' h''; rfl
  | _ :: ts, _ :: us, _ :: vs, i + 1, t, u, v, h, h', h'' => by
    show (zipT3 ts us vs)[i]? = _
    exact zipT3_get (by simpa using h) (by simpa using h') (by simpa using h'')
theorem zipT3_len : ∀ (ts us vs : List Tr), (zipT3 ts us vs).length = min ts.length (min us.length vs.length)
  | [], _, _ => by simp [zipT3]
  | _ :: _, [], _ => by simp [zipT3]
  | _ :: _, _ :: _, [] => by simp [zipT3]
  | _ :: ts, _ :: us, _ :: vs => by simp only [zipT3, List.length_cons, zipT3_len ts us vs]; (first | lia | omega)
section
variable {K : PySem.W.Frag}
theorem itl_zip3 {b c e : Bool} {a1 a2 a3 : Addr} {ts us vs : List Tr} : ItL (Itz3 K b c e a1 a2 a3) (zipT3 ts us vs) [(sqT b ts, .ref a1), (sqT c us, .ref a2), (sqT e vs, .ref a3)] where
  go := fun F H i s hi => by
    obtain ⟨ws, h1, r1⟩ := rep_sq2 (K := K) (s _ List.mem_cons_self)
    obtain ⟨ws2, h2, r2⟩ := rep_sq2 (K := K) (s _ (List.mem_cons_of_mem _ List.mem_cons_self))
    obtain ⟨ws3, h3, r3⟩ := rep_sq2 (K := K) (s _ (List.mem_cons_of_mem _ (List.mem_cons_of_mem _ List.mem_cons_self)))
    rw [zipT3_len] at hi
    obtain ⟨w, e1, _⟩ := r1.getT (List.getElem?_eq_getElem (i := i) (by (first | lia | omega)))
    obtain ⟨w2, e2, _⟩ := r2.getT (List.getElem?_eq_getElem (i := i) (by (first | lia | omega)))
    obtain ⟨w3, e3, _⟩ := r3.getT (List.getElem?_eq_getElem (i := i) (by (first | lia | omega)))
    exact ⟨ws, ws2, ws3, w, w2, w3, ⟨h1, h2, h3⟩, e1, e2, e3⟩
  stop := fun F H s => by
    obtain ⟨ws, h1, r1⟩ := rep_sq2 (K := K) (s _ List.mem_cons_self)
    obtain ⟨ws2, h2, r2⟩ := rep_sq2 (K := K) (s _ (List.mem_cons_of_mem _ List.mem_cons_self))
    obtain ⟨ws3, h3, r3⟩ := rep_sq2 (K := K) (s _ (List.mem_cons_of_mem _ (List.mem_cons_of_mem _ List.mem_cons_self)))
    refine ⟨ws, ws2, ws3, ⟨h1, h2, h3⟩, ?_⟩
    rw [zipT3_len, ← r1.len, ← r2.len, ← r3.len]; (first | lia | omega)
  yld := fun F i H x H' s d hi y => by
    obtain ⟨ws, h1, r1⟩ := rep_sq2 (K := K) (s _ List.mem_cons_self)
    obtain ⟨ws2, h2, r2⟩ := rep_sq2 (K := K) (s _ (List.mem_cons_of_mem _ List.mem_cons_self))
    obtain ⟨ws3, h3, r3⟩ := rep_sq2 (K := K) (s _ (List.mem_cons_of_mem _ (List.mem_cons_of_mem _ List.mem_cons_self)))
    obtain ⟨v, v2, v3, q, hv, hv2, hv3, rfl, hq, rfl⟩ := y
    obtain ⟨t, e1, g1⟩ := r1.get (hv ws h1)
    obtain ⟨u, e2, g2⟩ := r2.get (hv2 ws2 h2)
    obtain ⟨o, e3, g3⟩ := r3.get (hv3 ws3 h3)
    exact ⟨.inr ⟨q, _, hq, rfl⟩, .tup [t, u, o], zipT3_get e1 e2 e3, q, _, rfl, fun z => d q z hq, upd_same, ⟨_, _, rfl, rep_upd hq g1, _, _, rfl, rep_upd hq g2, _, _, rfl, rep_upd hq g3, rfl⟩⟩
noncomputable def iZipT3 (d : DA) : DI := fun τ KK => d τ fun xs => match xs with
  | [x, y, z] => (match seqT x, seqT y, seqT z with | some p, some q, some r => KK (zipT3 p.2 q.2 r.2) | _, _, _ => False)
  | _ => False
theorem oki_zip3 {b : Bool} {n : Nat} {ta : TA} {da : DA} (h : OkA K b n ta da) : OkI K b (iZip3 K ta) (iZipT3 da) := fun B φ σ τ H R KK Rs hd q =>
  h B φ σ τ H _ _ Rs hd fun ts vs H1 x1 k1 l1 r1 => by
    split at k1
    · rename_i x y z
      split at k1
      · rename_i p p' p'' e1 e2 e3
        obtain ⟨v, vs, rfl, g1, r2⟩ := r1
        obtain ⟨w, u, rfl, g2, g3⟩ := repL2 r2
        rw [seqT_some e1] at g1
        rw [seqT_some e2] at g2
        rw [seqT_some e3] at g3
        obtain ⟨a1, rfl⟩ := rep_ref g1
        obtain ⟨a2, rfl⟩ := rep_ref g2
        obtain ⟨a3, rfl⟩ := rep_ref g3
        obtain ⟨ws, s1, _⟩ := rep_sq2 (K := K) g1
        obtain ⟨ws2, s2, _⟩ := rep_sq2 (K := K) g2
        obtain ⟨ws3, s3, _⟩ := rep_sq2 (K := K) g3
        refine ⟨p.1, p'.1, p''.1, a1, a2, a3, ws, ws2, ws3, rfl, s1, s2, s3, q _ _ _ H1 x1 k1 itl_zip3 fun z hz => ?_⟩
        simp only [List.mem_cons, List.not_mem_nil, or_false] at hz
        rcases hz with rfl | rfl | rfl
        · exact g1
        · exact g2
        · exact g3
      · exact k1.elim
    · exact k1.elim
end
end L2
set_option Elab.async false
set_option linter.all false
set_option maxRecDepth 100000
set_option maxHeartbeats 4000000
namespace L2
open PySem PySem.Spec PyProof.Rows
open Builtin.SmallTypes (nextOf)
theorem wp_alive {M : Model} {A : Around} {E : Value → Shared → Prop} {s : Shared} {a : Addr} {Q : Option Obj → Shared → Prop} (h : Q (s.heap.get? a) s) : wpAny M A (loadIfAlive a) Q E s := by
  unfold loadIfAlive wpAny
  intro Γ p hA
  rw [Sem.wp_loadIfAlive]
  exact wpAny_pure h Γ p hA
noncomputable abbrev IsZg (h : Heap) (z ti to : Addr) (f0 : Value) (b : Bool) : Prop := h.get? z = some { cls := .type "zip", data := .fields #[f0, .bool b, .bool false, .ref ti, .ref to] }
noncomputable def Hand (f0 : Value) : Prop := f0 = .none ∨ ∃ a : Addr, f0 = rawInt a
section
variable {prog : Program} {w : World} {A : Around} {E : Value → Shared → Prop} {s : Shared} {z ti to i1 i2 a1 a2 : Addr} {vs us : List Value} {t1 t2 : Nat → Heap → Prop} {s1 s2 : Heap → Prop}
theorem free_or {f0 : Value} {b : Bool} {Q : Bool → Shared → Prop} (Z : IsZg s.heap z ti to f0 b) (hf : Hand f0) (h1 : Q true s) (h0 : ∀ h', IsZg h' z ti to f0 true → Heap.SameBut z s.heap h' → Q false { s with heap := h' }) :
    wpAny (model prog w) A (Builtin.SmallTypes.ownedTupleIsFree (.ref z)) Q E s := by
  unfold Builtin.SmallTypes.ownedTupleIsFree
  rcases hf with rfl | ⟨a, rfl⟩
  · exact wpAny_bind (wpAny_field Z rfl (x := .none) rfl (wpAny_pure h1))
  · refine wpAny_bind (wpAny_field Z rfl (x := rawInt a) rfl ?_)
    refine wpAny_bind (wp_alive ?_)
    cases hg : s.heap.get? (((a : Nat) : Int).toNat) with
    | none => exact wpAny_pure h1
    | some o =>
      refine wpAny_bind (wpAny_field Z rfl (x := .bool b) rfl ?_)
      cases b with
      | true => exact wpAny_pure (h0 s.heap Z ⟨rfl, fun _ _ => rfl⟩)
      | false => exact wpAny_bind (wpAny_setField_rec Z (by simp) fun h' Z' S' => wpAny_pure (h0 h' Z' S'))
theorem zipG_item {k : Nat} {x y p q f0 : Value} {b : Bool} {Q : Value → Shared → Prop} (D : ZA z ti to i1 i2 a1 a2) (W1 : Drw i1 a1 vs t1 s1) (W2 : Drw i2 a2 us t2 s2) (Z : IsZg s.heap z ti to f0 b) (hf : Hand f0) (TI : IsPair s.heap ti (.ref i1) (.ref i2)) (TO : IsPair s.heap to p q)
    (b1 : t1 k s.heap) (b2 : t2 k s.heap) (c1 : s1 s.heap) (c2 : s2 s.heap) (ex : vs[k]? = some x) (ey : us[k]? = some y)
    (h : ∀ h' f1 b', IsZg h' z ti to f1 b' → Hand f1 → (∃ p q, IsPair h' to p q) → t1 (k + 1) h' → t2 (k + 1) h' → IsPair h' s.heap.objs.size x y →
      (∀ c o, c ≠ z → c ≠ to → c ≠ i1 → c ≠ i2 → s.heap.get? c = some o → h'.get? c = some o) → Q (.ref s.heap.objs.size) { s with heap := h' }) :
    wpAny (model prog w) A (Builtin.«zip.__next__» ⟨[.ref z], []⟩) (fun fin s' => ∃ v, fin = .done (.ret v) ∧ Q v s') E s := by
  obtain ⟨⟨d1, d2, d3, d4, d5, d6, d7, d8, d9, d10⟩, e1, e2, e3, e4, e5, e6, e7, e8⟩ := D
  refine wpAny_bind (m := field (.ref z) 2) (wpAny_field Z rfl (x := .bool false) rfl (wpAny_bind (m := field (.ref z) 3) (wpAny_field Z rfl (x := .ref ti) rfl (wpAny_bind (wpAny_seqItems TI rfl ?_)))))
  refine wpAny_bind (m := Builtin.SmallTypes.ownedTupleIsFree (.ref z)) (free_or Z hf ?_ (fun h0 Z0 S0 => ?_))
  · simp only [if_true]
    refine wpAny_bind (wpAny_rule (wpAny_bind (wpAny_field Z rfl (x := .ref to) rfl (wpAny_bind (wpAny_setField_rec Z (by simp) fun g1 Z1 S1 => wpAny_bind ?_)))))
    replace Z1 : IsZg g1 z ti to .ellipsis b := Z1
    simp only [List.zipIdx_cons, List.zipIdx_nil, List.forIn_cons, List.forIn_nil]
    refine wpAny_bind (wpAny_bind (wpAny_onRaise (wpAny_bind (m := nextOf (.ref i1)) ?_)))
    refine W1.item _ _ _ _ k x _ _ (W1.mv _ _ _ b1 fun o => S1.extBut _ o d3) (W1.smv _ _ c1 fun o => S1.extBut _ o e1) ex fun g2 b12 S2 => wpAny_pure ?_
    have TO2 : IsPair g2 to p q := S2.extBut _ _ d8 (S1.extBut _ _ d2 TO)
    refine wpAny_bind (wpAny_seqItems TO2 rfl (wpAny_bind (wpAny_updateSeq_pair TO2 fun g3 TO3 S3 => wpAny_bind (wpAny_letGo (wpAny_pure ?_)))))
    replace TO3 : IsPair g3 to x q := TO3
    refine wpAny_bind (wpAny_bind (wpAny_onRaise (wpAny_bind (m := nextOf (.ref i2)) ?_)))
    have k3 : ∀ c o, c ≠ z → c ≠ to → c ≠ i1 → s.heap.get? c = some o → g3.get? c = some o := fun c o n1 n2 n3 g => S3.extBut _ _ n2 (S2.extBut _ _ n3 (S1.extBut _ _ n1 g))
    refine W2.item _ _ _ _ k y _ _ (W2.mv _ _ _ b2 fun o => k3 _ o d4 (Ne.symm d9) (Ne.symm d10)) (W2.smv _ _ c2 fun o => k3 _ o e5 e6 e7) ey fun g4 b24 S4 => wpAny_pure ?_
    have TO4 : IsPair g4 to x q := S4.extBut _ _ d9 TO3
    refine wpAny_bind (wpAny_seqItems TO4 rfl (wpAny_bind (wpAny_updateSeq_pair TO4 fun g5 TO5 S5 => wpAny_bind (wpAny_letGo (wpAny_pure (wpAny_pure ?_))))))
    replace TO5 : IsPair g5 to x y := TO5
    refine wpAny_bind (wpAny_seqItems TO5 rfl (wpAny_bind (wpAny_newTuple (wpAny_bind (m := Builtin.SmallTypes.ownedTupleHandOut (.ref z) (.ref g5.objs.size)) ?_))))
    have sz5 : g5.objs.size = s.heap.objs.size := by rw [S5.1, S4.1, S3.1, S2.1, S1.1]
    have k5 : ∀ c o, c ≠ to → c ≠ i2 → g3.get? c = some o → g5.get? c = some o := fun c o n1 n2 g => S5.extBut _ _ n1 (S4.extBut _ _ n2 g)
    have Z5 : IsZg g5 z ti to .ellipsis b := k5 _ _ (Ne.symm d2) (Ne.symm d4) (S3.extBut _ _ (Ne.symm d2) (S2.extBut _ _ (Ne.symm d3) Z1))
    have b15 : t1 (k + 1) g5 := W1.mv _ _ _ b12 fun o g => k5 _ o (Ne.symm d8) d10 (S3.extBut _ o (Ne.symm d8) g)
    have b25 : t2 (k + 1) g5 := W2.mv _ _ _ b24 fun o g => S5.extBut _ o (Ne.symm d9) g
    have zlt : z < g5.objs.size := Heap.lt_size Z5
    unfold Builtin.SmallTypes.ownedTupleHandOut
    refine wpAny_bind (wpAny_setField_rec (show IsZg (g5.push { cls := .type "tuple", data := .seq #[x, y] }) z ti to .ellipsis b from Heap.get?_push_of_some _ Z5) (by simp) fun g7 Z7 S7 => wpAny_setField_rec (show IsZg g7 z ti to (rawInt g5.objs.size) b from Z7) (by simp) fun g8 Z8 S8 => ?_)
    replace Z8 : IsZg g8 z ti to (rawInt g5.objs.size) false := Z8
    have up8 : ∀ c o, c ≠ z → g5.get? c = some o → g8.get? c = some o := fun c o n g => S8.extBut _ _ n (S7.extBut _ _ n (Heap.get?_push_of_some _ g))
    have T8 : IsPair g8 g5.objs.size x y := S8.extBut _ _ (Nat.ne_of_gt zlt) (S7.extBut _ _ (Nat.ne_of_gt zlt) (Heap.get?_push_size _ rfl))
    refine wpAny_pure ⟨_, rfl, ?_⟩
    show Q (.ref g5.objs.size) _
    rw [sz5] at Z8 T8 ⊢
    exact h g8 _ _ Z8 (.inr ⟨_, rfl⟩) ⟨_, _, up8 _ _ d2 TO5⟩ (W1.mv _ _ _ b15 fun o g => up8 _ o d3 g) (W2.mv _ _ _ b25 fun o g => up8 _ o d4 g) T8 fun c o n1 n2 n3 n4 g => up8 c o n1 (k5 c o n2 n4 (k3 c o n1 n2 n3 g))
  · simp only [Bool.false_eq_true, if_false, List.forIn_toArray, List.forIn_cons, List.forIn_nil]
    have k0 : ∀ c o, c ≠ z → s.heap.get? c = some o → h0.get? c = some o := fun c o n g => S0.extBut _ _ n g
    refine wpAny_bind (wpAny_bind (wpAny_bind (wpAny_holding (wpAny_bind (m := nextOf (.ref i1)) ?_))))
    refine W1.item _ _ _ _ k x _ _ (W1.mv _ _ _ b1 fun o => k0 _ o d3) (W1.smv _ _ c1 fun o => k0 _ o e1) ex fun g2 b12 S2 => wpAny_pure ?_
    refine wpAny_pure ?_
    have k2 : ∀ c o, c ≠ z → c ≠ i1 → s.heap.get? c = some o → g2.get? c = some o := fun c o n1 n2 g => S2.extBut _ _ n2 (k0 c o n1 g)
    refine wpAny_bind (wpAny_bind (wpAny_holding (wpAny_bind (m := nextOf (.ref i2)) ?_)))
    refine W2.item _ _ _ _ k y _ _ (W2.mv _ _ _ b2 fun o => k2 _ o d4 (Ne.symm d10)) (W2.smv _ _ c2 fun o => k2 _ o e5 e7) ey fun g4 b24 S4 => wpAny_pure ?_
    refine wpAny_pure (wpAny_pure ?_)
    have k4 : ∀ c o, c ≠ z → c ≠ i1 → c ≠ i2 → s.heap.get? c = some o → g4.get? c = some o := fun c o n1 n2 n3 g => S4.extBut _ _ n3 (k2 c o n1 n2 g)
    have sz4 : g4.objs.size = s.heap.objs.size := by rw [S4.1, S2.1, S0.1]
    refine wpAny_bind (wpAny_newTuple ?_ (by show 2 ≤ sizeLine; decide))
    have Z4 : IsZg g4 z ti to f0 true := S4.extBut _ _ (Ne.symm d4) (S2.extBut _ _ (Ne.symm d3) Z0)
    refine wpAny_pure ⟨_, rfl, ?_⟩
    show Q (.ref g4.objs.size) _
    have p5 : ∀ {c : Addr} {o : Obj}, g4.get? c = some o → (g4.push { cls := .type "tuple", data := .seq #[x, y] }).get? c = some o := fun g => Heap.get?_push_of_some _ g
    have T5 : IsPair (g4.push { cls := .type "tuple", data := .seq #[x, y] }) g4.objs.size x y := Heap.get?_push_size _ rfl
    rw [sz4] at T5 ⊢
    exact h _ _ _ (p5 Z4) hf ⟨_, _, p5 (k4 _ _ d2 d8 d9 TO)⟩ (W1.mv _ _ _ b12 fun o g => p5 (S4.extBut _ o d10 g)) (W2.mv _ _ _ b24 fun o g => p5 g) T5 fun c o n1 n2 n3 n4 g => p5 (k4 c o n1 n3 n4 g)
theorem zipG_end {k : Nat} {p q f0 : Value} {b : Bool} {Q : Fin → Shared → Prop} (hn : A.handled = none) (D : ZA z ti to i1 i2 a1 a2) (W1 : Drw i1 a1 vs t1 s1) (W2 : Drw i2 a2 us t2 s2) (Z : IsZg s.heap z ti to f0 b) (hf : Hand f0) (TI : IsPair s.heap ti (.ref i1) (.ref i2)) (TO : IsPair s.heap to p q)
    (b1 : t1 k s.heap) (b2 : t2 k s.heap) (c1 : s1 s.heap) (c2 : s2 s.heap) (end' : vs[k]? = none ∨ us[k]? = none)
    (h : ∀ h' e, (∀ c o, c ≠ z → c ≠ to → c ≠ i1 → c ≠ i2 → s.heap.get? c = some o → h'.get? c = some o) → (∃ o, h'.get? e = some o ∧ o.cls = .type "StopIteration") → E (.ref e) { s with heap := h' }) :
    wpAny (model prog w) A (Builtin.«zip.__next__» ⟨[.ref z], []⟩) Q E s := by
  obtain ⟨⟨d1, d2, d3, d4, d5, d6, d7, d8, d9, d10⟩, e1, e2, e3, e4, e5, e6, e7, e8⟩ := D
  refine wpAny_bind (m := field (.ref z) 2) (wpAny_field Z rfl (x := .bool false) rfl (wpAny_bind (m := field (.ref z) 3) (wpAny_field Z rfl (x := .ref ti) rfl (wpAny_bind (wpAny_seqItems TI rfl ?_)))))
  refine wpAny_bind (m := Builtin.SmallTypes.ownedTupleIsFree (.ref z)) (free_or Z hf ?_ (fun h0 Z0 S0 => ?_))
  · simp only [if_true]
    refine wpAny_bind (wpAny_rule (wpAny_bind (wpAny_field Z rfl (x := .ref to) rfl (wpAny_bind (wpAny_setField_rec Z (by simp) fun g1 Z1 S1 => wpAny_bind ?_)))))
    replace Z1 : IsZg g1 z ti to .ellipsis b := Z1
    simp only [List.zipIdx_cons, List.zipIdx_nil, List.forIn_cons, List.forIn_nil]
    refine wpAny_bind (wpAny_bind (wpAny_onRaise (wpAny_bind (m := nextOf (.ref i1)) ?_)))
    have b1' := W1.mv _ _ _ b1 fun o => S1.extBut _ o d3
    have c1' := W1.smv _ _ c1 fun o => S1.extBut _ o e1
    cases ex : vs[k]? with
    | none =>
      refine W1.fin _ _ _ _ k _ _ hn b1' c1' ex fun g2 e S2 he => ?_
      obtain ⟨oe, hoe, hce⟩ := he
      have Z2 : IsZg g2 z ti to .ellipsis b := S2 _ _ (Ne.symm d3) Z1
      have ne : e ≠ z := fun y => by subst y; rw [Z2] at hoe; cases hoe; simp at hce
      exact wpAny_setField_rec Z2 (by simp) fun g3 _ S3 => h g3 e (fun c o n1 _ n3 _ g => S3.extBut _ _ n1 (S2 _ _ n3 (S1.extBut _ _ n1 g))) ⟨oe, S3.extBut _ _ ne hoe, hce⟩
    | some x =>
      have ey : us[k]? = none := end'.resolve_left (by rw [ex]; exact fun z => nomatch z)
      refine W1.item _ _ _ _ k x _ _ b1' c1' ex fun g2 b12 S2 => wpAny_pure ?_
      have TO2 : IsPair g2 to p q := S2.extBut _ _ d8 (S1.extBut _ _ d2 TO)
      refine wpAny_bind (wpAny_seqItems TO2 rfl (wpAny_bind (wpAny_updateSeq_pair TO2 fun g3 TO3 S3 => wpAny_bind (wpAny_letGo (wpAny_pure ?_)))))
      refine wpAny_bind (wpAny_bind (wpAny_onRaise (wpAny_bind (m := nextOf (.ref i2)) ?_)))
      have k3 : ∀ c o, c ≠ z → c ≠ to → c ≠ i1 → s.heap.get? c = some o → g3.get? c = some o := fun c o n1 n2 n3 g => S3.extBut _ _ n2 (S2.extBut _ _ n3 (S1.extBut _ _ n1 g))
      refine W2.fin _ _ _ _ k _ _ hn (W2.mv _ _ _ b2 fun o => k3 _ o d4 (Ne.symm d9) (Ne.symm d10)) (W2.smv _ _ c2 fun o => k3 _ o e5 e6 e7) ey fun g4 e S4 he => ?_
      obtain ⟨oe, hoe, hce⟩ := he
      have Z4 : IsZg g4 z ti to .ellipsis b := S4 _ _ (Ne.symm d4) (S3.extBut _ _ (Ne.symm d2) (S2.extBut _ _ (Ne.symm d3) Z1))
      have ne : e ≠ z := fun y => by subst y; rw [Z4] at hoe; cases hoe; simp at hce
      exact wpAny_setField_rec Z4 (by simp) fun g5 _ S5 => h g5 e (fun c o n1 n2 n3 n4 g => S5.extBut _ _ n1 (S4 _ _ n4 (k3 c o n1 n2 n3 g))) ⟨oe, S5.extBut _ _ ne hoe, hce⟩
  · simp only [Bool.false_eq_true, if_false, List.forIn_toArray, List.forIn_cons, List.forIn_nil]
    have k0 : ∀ c o, c ≠ z → s.heap.get? c = some o → h0.get? c = some o := fun c o n g => S0.extBut _ _ n g
    refine wpAny_bind (wpAny_bind (wpAny_bind (wpAny_holding (wpAny_bind (m := nextOf (.ref i1)) ?_))))
    have b1' := W1.mv _ _ _ b1 fun o => k0 _ o d3
    have c1' := W1.smv _ _ c1 fun o => k0 _ o e1
    cases ex : vs[k]? with
    | none => exact W1.fin _ _ _ _ k _ _ hn b1' c1' ex fun g2 e S2 he => h g2 e (fun c o n1 _ n3 _ g => S2 _ _ n3 (k0 c o n1 g)) he
    | some x =>
      have ey : us[k]? = none := end'.resolve_left (by rw [ex]; exact fun z => nomatch z)
      refine W1.item _ _ _ _ k x _ _ b1' c1' ex fun g2 b12 S2 => wpAny_pure ?_
      refine wpAny_pure ?_
      have k2 : ∀ c o, c ≠ z → c ≠ i1 → s.heap.get? c = some o → g2.get? c = some o := fun c o n1 n2 g => S2.extBut _ _ n2 (k0 c o n1 g)
      refine wpAny_bind (wpAny_bind (wpAny_holding (wpAny_bind (m := nextOf (.ref i2)) ?_)))
      exact W2.fin _ _ _ _ k _ _ hn (W2.mv _ _ _ b2 fun o => k2 _ o d4 (Ne.symm d10)) (W2.smv _ _ c2 fun o => k2 _ o e5 e7) ey fun g4 e S4 he => h g4 e (fun c o n1 _ n3 n4 g => S4 _ _ n4 (k2 c o n1 n3 g)) he
end
section
variable {P : Program} {w : World} {K : PySem.W.Frag} {z ti to i1 i2 a1 a2 : Addr} {b c' : Bool}
noncomputable def ZSG (b c : Bool) (z ti to i1 i2 a1 a2 : Addr) (i : Nat) (h : Heap) : Prop := (∃ f0 d, IsZg h z ti to f0 d ∧ Hand f0) ∧ IsPair h ti (.ref i1) (.ref i2) ∧ (∃ p q, IsPair h to p q) ∧ Tn2 b i1 a1 i h ∧ Tn2 c i2 a2 i h
theorem turn_zipG {x : Str} {pp : Pos} (D : ZA z ti to i1 i2 a1 a2) : Turn P w K (.Name x pp) (Itz2 K b c' a1 a2) [z, ti, to, i1, i2] z (ZSG b c' z ti to i1 i2 a1 a2) where
  mem := by simp
  obj := fun i h st c hc => by
    obtain ⟨⟨f0, d, s1, _⟩, s2, ⟨p, q, s3⟩, s4, s5⟩ := st
    simp only [List.mem_cons, List.not_mem_nil, or_false] at hc
    rcases hc with e | e | e | e | e <;> subst e
    · exact ⟨_, s1, fun v => by simp⟩
    · exact ⟨_, s2, fun v => by simp⟩
    · exact ⟨_, s3, fun v => by simp⟩
    · exact (drw2 b _ a1 []).ob _ _ s4
    · exact (drw2 c' _ a2 []).ob _ _ s5
  keep := fun i h h' st k => by
    obtain ⟨⟨f0, d, s1, hf⟩, s2, ⟨p, q, s3⟩, s4, s5⟩ := st
    exact ⟨⟨f0, d, k _ (by simp) _ s1, hf⟩, k _ (by simp) _ s2, ⟨p, q, k _ (by simp) _ s3⟩, (drw2 b i1 a1 []).mv _ _ _ s4 fun o e => k _ (by simp) o e, (drw2 c' i2 a2 []).mv _ _ _ s5 fun o e => k _ (by simp) o e⟩
  item := by
    intro X hP hw hK hc i pins s σ H E I hf st hg
    subst hP hw hK
    obtain ⟨⟨f0, d, Z, hf0⟩, TI, ⟨p, q, TO⟩, b1, b2⟩ := st
    obtain ⟨xs, ys, x, y, sq1, sq2, hx, hy⟩ := hg
    obtain ⟨vs, rv, c1⟩ := I.sq2 sq1
    obtain ⟨us, ru, c2⟩ := I.sq2 sq2
    obtain ⟨xv, ex, rx⟩ := rv.get hx
    obtain ⟨yv, ey, ry⟩ := ru.get hy
    have hT : s.TypeIs (.ref z) "zip" := ⟨_, Z, rfl⟩
    have fr : H s.heap.objs.size = none := I.hok.fresh (Nat.le_refl _)
    unfold pyNext
    refine wpAny_bind (wpAny_attempt (wpAny_callSpecial?_slot (name := Str.ofString "__next__") hT F.slot_zip_next (wpAny_call_entry F.slot_zip_next hT F.entry_zip_next (zipG_item D (drw2 b i1 a1 vs) (drw2 c' i2 a2 us) Z hf0 TI TO b1 b2 c1 c2 ex ey fun g2 f1 d' Z2 hf1 TO2 b1' b2' T2 kp => ?_) (F.args_zip_next_1 _))))
    refine wpAny_pure ⟨_, rfl, wpAny_pure ?_⟩
    obtain ⟨⟨d1, d2, d3, d4, d5, d6, d7, d8, d9, d10⟩, _⟩ := D
    have ltz : z < s.heap.objs.size := Heap.lt_size Z
    have kp2 : ∀ c o, c ∉ [z, ti, to, i1, i2] → s.heap.get? c = some o → g2.get? c = some o := fun c o hc e => by
      simp only [List.mem_cons, List.not_mem_nil, or_false, not_or] at hc
      exact kp c o hc.1 hc.2.2.1 hc.2.2.2.1 hc.2.2.2.2 e
    have TI2 : IsPair g2 ti (.ref i1) (.ref i2) := kp _ _ d1 d5 d6 d7 TI
    have st2 : ZSG b c' z ti to i1 i2 a1 a2 (i + 1) g2 := ⟨⟨f1, d', Z2, hf1⟩, TI2, TO2, b1', b2'⟩
    have nfp : ∀ c u, H c = some u → c ∉ [z, ti, to, i1, i2] := fun c u e hm => by rw [(hf c hm).1] at e; cases e
    have nT : ∀ c o, s.heap.get? c = some o → c ≠ s.heap.objs.size := fun c o e => Nat.ne_of_lt (Heap.lt_size e)
    refine ⟨.ref s.heap.objs.size, upd H s.heap.objs.size (.tup [x, y]), ?_, rfl, ⟨x, y, _, fun xs' h' => by rw [← I.sq2_inj sq1 h']; exact hx, fun ys' h' => by rw [← I.sq2_inj sq2 h']; exact hy, rfl, fr, rfl⟩, st2, fun c hm => ?_⟩
    · show Inv X pins σ (upd H s.heap.objs.size (.tup [x, y])) { s with heap := g2, gens := s.gens, drawn := s.drawn, toks := s.toks }
      refine Inv.step (s := s) (g' := s.gens) (d' := s.drawn) (t' := s.toks) (ch := [z, ti, to, i1, i2]) I (fun c hm => ?_) (fun c o _ _ hm e _ => kp2 c o hm e) (fun c o _ _ hm e _ => ⟨o.slots, kp2 c o hm e⟩) (fun c o hm e n => by rw [upd_ne (nT c o e)]; exact n) (fun c o hm e => ⟨o, kp2 c o hm e⟩)
        (fun c zs e => by rw [upd_ne (ne_of_none e fr)]; exact e) (fun c o u e => by rw [upd_ne (ne_of_none e fr)]; exact e) (fun c ps e => ⟨#[], by rw [upd_ne (ne_of_none e fr), e]; simp⟩) (fun m hm => ?_) (fun c u e => ?_) I.bare
      · obtain ⟨_, f1, _, f3, f4, f5⟩ := hf c hm
        exact ⟨f3, f1, f4, f5⟩
      · obtain ⟨o, es, ep, ho, r⟩ := hm
        exact ⟨o, es, ep, kp2 _ o (fun z' => (hf _ z').2.1 rfl) ho, r⟩
      · by_cases hc' : c = s.heap.objs.size
        · subst hc'
          rw [upd_same] at e
          cases e
          exact ⟨by show 2 ≤ sizeLine; decide, [xv, yv], .cons rx (.cons ry .nil), _, T2, rfl, 0, rfl⟩
        · rw [upd_ne hc'] at e
          refine (I.hok c u e).stay (fun c' v hcc q' => kp2 c' v ?_ q') (fun c' q' => by rw [upd_ne (ne_of_none q' fr)]; exact q') (fun c' zs q' => by rw [upd_ne (ne_of_none q' fr)]; exact q') fun c' o u q' => by rw [upd_ne (ne_of_none q' fr)]; exact q'
          rcases hcc with rfl | hcc
          · exact nfp _ _ e
          · exact nfp _ _ hcc
    · rw [upd_ne]
      · exact (hf c hm).1
      · simp only [List.mem_cons, List.not_mem_nil, or_false] at hm
        rcases hm with e | e | e | e | e <;> subst e
        · exact nT _ _ Z
        · exact nT _ _ TI
        · exact nT _ _ TO
        · obtain ⟨o, e, _⟩ := (drw2 b _ a1 []).ob _ _ b1; exact nT _ _ e
        · obtain ⟨o, e, _⟩ := (drw2 c' _ a2 []).ob _ _ b2; exact nT _ _ e
  done := by
    intro X hP hw hK hc i pins s σ H E I hf st hg
    subst hP hw hK
    obtain ⟨⟨f0, d, Z, hf0⟩, TI, ⟨p, q, TO⟩, b1, b2⟩ := st
    obtain ⟨xs, ys, sq1, sq2, hend⟩ := hg
    obtain ⟨vs, rv, c1⟩ := I.sq2 sq1
    obtain ⟨us, ru, c2⟩ := I.sq2 sq2
    have hT : s.TypeIs (.ref z) "zip" := ⟨_, Z, rfl⟩
    have he : vs[i]? = none ∨ us[i]? = none := hend.imp (fun h => List.getElem?_eq_none_iff.mpr (by rw [← rv.length]; exact h)) (fun h => List.getElem?_eq_none_iff.mpr (by rw [← ru.length]; exact h))
    unfold pyNext
    refine wpAny_bind (wpAny_attempt (wpAny_callSpecial?_slot (name := Str.ofString "__next__") hT F.slot_zip_next (wpAny_call_entry F.slot_zip_next hT F.entry_zip_next (zipG_end (I.ok.hd hc) D (drw2 b i1 a1 vs) (drw2 c' i2 a2 us) Z hf0 TI TO b1 b2 c1 c2 he fun g e kp ho => ?_) (F.args_zip_next_1 _))))
    obtain ⟨o, ho, hcl⟩ := ho
    refine wpAny_bind (wpAny_isInstance (T := "StopIteration") (b := true) ⟨o, ho, hcl⟩ isSubtype_stop (wpAny_pure ⟨rfl, ?_⟩))
    have kp2 : ∀ c o, c ∉ [z, ti, to, i1, i2] → s.heap.get? c = some o → g.get? c = some o := fun c o hc e => by
      simp only [List.mem_cons, List.not_mem_nil, or_false, not_or] at hc
      exact kp c o hc.1 hc.2.2.1 hc.2.2.2.1 hc.2.2.2.2 e
    have nfp : ∀ c u, H c = some u → c ∉ [z, ti, to, i1, i2] := fun c u e hm => by rw [(hf c hm).1] at e; cases e
    refine Inv.step (s := s) (g' := s.gens) (d' := s.drawn) (t' := s.toks) (ch := [z, ti, to, i1, i2]) I (fun c hm => ?_) (fun c o _ _ hm e _ => kp2 c o hm e) (fun c o _ _ hm e _ => ⟨o.slots, kp2 c o hm e⟩) (fun c o hm e n => n) (fun c o hm e => ⟨o, kp2 c o hm e⟩)
      (fun c zs e => e) (fun c o u e => e) (fun c ps e => ⟨#[], by rw [e]; simp⟩) (fun m hm => ?_) (fun c u e => ?_) I.bare
    · obtain ⟨_, f1, _, f3, f4, f5⟩ := hf c hm
      exact ⟨f3, f1, f4, f5⟩
    · obtain ⟨o, es, ep, ho, r⟩ := hm
      exact ⟨o, es, ep, kp2 _ o (fun z' => (hf _ z').2.1 rfl) ho, r⟩
    · refine (I.hok c u e).stay (fun c' v hcc q' => kp2 c' v ?_ q') (fun _ q' => q') (fun _ _ q' => q') fun _ _ _ q' => q'
      rcases hcc with rfl | hcc
      · exact nfp _ _ e
      · exact nfp _ _ hcc
  self := fun A i s Q E st h => by
    obtain ⟨⟨f0, d, Z, _⟩, _⟩ := st
    have hT : s.TypeIs (.ref z) "zip" := ⟨_, Z, rfl⟩
    exact wpAny_pyIter_slot hT F.slot_zip_iter (wpAny_call_entry F.slot_zip_iter hT F.entry_zip_iter (id (wpAny_pure ⟨.ref z, rfl, "zip", .builtin "zip.__next__", hT, F.slot_zip_next.lookup, h⟩)) (F.args_zip_iter_1 _))
end
section
variable {X : Cx}
theorem pi_zipG (K : PySem.W.Frag) {nm : Str} {pp : Pos} {a b : Expr} {ta : TA} {p pos : Pos} (hg : Gl X "zip") (hm : X.mg "zip" = none) (ha : PA X [a, b] ta) (hs : starEach [a, b] X.env = [(false, eval a X.env), (false, eval b X.env)] := by rfl) (hs2 : starEach [b] X.env = [(false, eval b X.env)] := by rfl) (eK : X.K = K := by rfl) :
    PI X (.Name nm pp) (.Call (.Name "zip" p) [a, b] [] pos) (iZip2 K ta) := by
  subst eK
  intro pins s σ H R I h
  refine Call_ (ld_blt I hg hm bt_zip (PyProof.Rows.callWith_type1 (thn (@ha pos pins s σ H _ I h) fun us s1 ⟨vs, H1, I1, r1, q1⟩ => ?_) (by rw [hs, hs2]) (by rw [hs2]; rfl)))
  obtain ⟨bb, cc, a1, a2, xs, ys, e, sq1, sq2, q⟩ := q1
  subst e
  obtain ⟨u1, u2, rfl, e1, e2⟩ := vals2 r1
  obtain rfl : u1 = Value.ref a1 := e1
  obtain rfl : u2 = Value.ref a2 := e2
  obtain ⟨vs, rv, c1⟩ := I1.sq2 sq1
  obtain ⟨us, ru, c2⟩ := I1.sq2 sq2
  have fp : ∀ k : Nat, FpOk X pins H1 (s1.heap.objs.size + k) := fun k => I1.fpOk (Nat.le_add_right _ _) (I1.hok.fresh (Nat.le_add_right _ _))
  have lt : ∀ (b : Bool) (a : Addr) (vs : List Value), Src2 b a vs s1.heap → a < s1.heap.objs.size := fun b a vs h => by
    cases b with
    | true => obtain ⟨o, e, _⟩ := (show s1.heap.IsTuple a vs.toArray from h); exact Heap.lt_size e
    | false => obtain ⟨o, e, _⟩ := (show s1.heap.IsList a vs.toArray from h); exact Heap.lt_size e
  refine call_zipA c1 c2 ?_
  intro g z1 z2 z3 z4 z5 kp
  have st : ZSG bb cc (s1.heap.objs.size + 4) (s1.heap.objs.size + 2) (s1.heap.objs.size + 3) s1.heap.objs.size (s1.heap.objs.size + 1) a1 a2 0 g := ⟨⟨.none, false, z1, .inl rfl⟩, z2, ⟨_, _, z3⟩, z4, z5⟩
  refine wpAny_pyIter_zip z1 ⟨_, _, _, _, H1, rfl, I1.kept (t' := s1.toks) kp, turn_zipG (za_new (lt _ _ _ c1) (lt _ _ _ c2)), st, fun c hc => ?_, q⟩
  simp only [List.mem_cons, List.not_mem_nil, or_false] at hc
  rcases hc with e | e | e | e | e <;> subst e
  · exact fp 4
  · exact fp 2
  · exact fp 3
  · exact fp 0
  · exact fp 1
end
end L2
set_option Elab.async false
set_option linter.all false
set_option maxRecDepth 100000
set_option maxHeartbeats 4000000
namespace L2
open PySem Trn
theorem zipT_mapD {α β : Type} (f : α → Tr) (g : β → Tr) : ∀ (l : List α) (m : List β), zipT (l.map f) (m.map g) = (l.zip m).map fun x => .tup [f x.1, g x.2]
  | [], _ => rfl
  | _ :: _, [] => rfl
  | x :: l, y :: m => by show Tr.tup [f x, g y] :: zipT (l.map f) (m.map g) = _; rw [zipT_mapD f g l m]; rfl
noncomputable def prT (x : D2 × D2) : Tr := .tup [drD x.1, drD x.2]
theorem zip_next {h : List D2} {i : Nat} {x : D2 × D2} (e : (h.zip (h.drop 1))[i]? = some x) : h[i]? = some x.1 ∧ h[i + 1]? = some x.2 := by
  obtain ⟨a, b⟩ := List.getElem?_zip_eq_some.mp e
  rw [List.getElem?_drop] at b
  exact ⟨a, by rw [Nat.add_comm]; exact b⟩
noncomputable def pLshort : TSp := fun ts KK => ∃ p : D2, ts = [drD p] ∧ p ≠ (0, 0) ∧ Bx 2000 p ∧ KK (drD (und p))
noncomputable def pLturn : TSp := fun ts KK => ∃ u v : D2, ts = [drD u, drD v] ∧ (Bx 2000 u ∧ Bx 2000 v) ∧ KK (.int (cr u v))
noncomputable def pLmade : TSp := fun ts KK => ∃ (u v x : D2) (h : List D2), ts = [.lst (h.map drD), drD x] ∧ 0 < cr u v ∧ BtwOK u v h ∧ InC u v x ∧ x ≠ (0, 0) ∧ Bx 2000 x ∧ KK (.bl true)
theorem partsT_some {u v x : D2} (nz : x ≠ (0, 0)) (c : InC u v x) : partsT u.1 u.2 v.1 v.2 (drD x) = .tup [lowT (cr x v) (cr u v), lowT (cr u x) (cr u v)] := by
  have e1 : partsT u.1 u.2 v.1 v.2 (drD x) = if x.1 = 0 ∧ x.2 = 0 then .non else if tn x.1 x.2 v.1 v.2 < 0 ∨ tn u.1 u.2 x.1 x.2 < 0 then .non else .tup [lowT (tn x.1 x.2 v.1 v.2) (tn u.1 u.2 v.1 v.2), lowT (tn u.1 u.2 x.1 x.2) (tn u.1 u.2 v.1 v.2)] := rfl
  rw [e1, if_neg (fun z => nz (Prod.ext z.1 z.2)), if_neg]
  · rfl
  · have a : tn x.1 x.2 v.1 v.2 = cr x v := rfl
    have b : tn u.1 u.2 x.1 x.2 = cr u x := rfl
    rw [a, b]
    have := c.1; have := c.2
    (first | lia | omega)
theorem lowT_one (n : Int) : lowT n 1 = .tup [.int n, .int 1] := by
  rw [lowT_eq (by decide), lfr_pos (by decide), Fra.low_one]; rfl
theorem bx_l24 {n : Int} {u : D2} (hn : n ≤ 1000000) (hu : Bx n u) : L24 u.1 ∧ L24 u.2 := by unfold Bx at hu; unfold L24; (first | lia | omega)
end L2
set_option Elab.async false
set_option linter.all false
set_option maxRecDepth 100000
set_option maxHeartbeats 4000000
namespace K15
open PySem L2 Trn
noncomputable def top (i : Nat) : Stmt := PySem.Challenge.pw_roundcuts_k15_whole_between_directions.main.body.getD i (.Pass ⟨0, 0, 0, 0⟩)
noncomputable abbrev s_is_whole : Stmt := top 4
noncomputable abbrev s_are_whole : Stmt := top 5
noncomputable abbrev s_greatest_divisor : Stmt := top 6
noncomputable abbrev s_lowest : Stmt := top 7
noncomputable abbrev s_turn_to : Stmt := top 9
noncomputable abbrev s_parts : Stmt := top 11
noncomputable abbrev s_need_turn : Stmt := top 12
noncomputable abbrev s_is_direction : Stmt := top 13
noncomputable abbrev s_between : Stmt := top 14
noncomputable abbrev s_undivided : Stmt := top 15
noncomputable abbrev s_next_least : Stmt := top 16
noncomputable abbrev s_next_behind : Stmt := top 17
noncomputable abbrev s_makes_one : Stmt := top 18
noncomputable abbrev s__law_cell_at : Stmt := top 20
noncomputable abbrev s__law_state : Stmt := top 21
noncomputable abbrev s__law_take : Stmt := top 22
noncomputable abbrev s__law_divisor : Stmt := top 23
noncomputable abbrev s__law_low : Stmt := top 24
noncomputable abbrev s__law_short : Stmt := top 25
noncomputable abbrev s__law_turn : Stmt := top 26
noncomputable abbrev s__law_made : Stmt := top 27
noncomputable abbrev s_law : Stmt := top 28
theorem sc_is_whole : FnScope ["thing"] ["thing"] (defScope s_is_whole) := ⟨rfl, rfl, rfl, by decide +kernel, rfl, by decide +kernel, by decide +kernel⟩
theorem sc_are_whole : FnScope ["things"] ["things"] (defScope s_are_whole) := ⟨rfl, rfl, rfl, by decide +kernel, rfl, by decide +kernel, by decide +kernel⟩
theorem sc_greatest_divisor : FnScope ["one", "other"] ["one", "other"] (defScope s_greatest_divisor) := ⟨rfl, rfl, rfl, by decide +kernel, rfl, by decide +kernel, by decide +kernel⟩
theorem sc_lowest : FnScope ["top", "bottom", "shared"] ["top", "bottom"] (defScope s_lowest) := ⟨rfl, rfl, rfl, by decide +kernel, rfl, by decide +kernel, by decide +kernel⟩
theorem sc_turn_to : FnScope ["one", "other"] ["one", "other"] (defScope s_turn_to) := ⟨rfl, rfl, rfl, by decide +kernel, rfl, by decide +kernel, by decide +kernel⟩
theorem sc_parts : FnScope ["one", "other", "thing", "turn", "of_one", "of_other"] ["one", "other", "thing"] (defScope s_parts) := ⟨rfl, rfl, rfl, by decide +kernel, rfl, by decide +kernel, by decide +kernel⟩
theorem sc_need_turn : FnScope ["one", "other", "turn"] ["one", "other"] (defScope s_need_turn) := ⟨rfl, rfl, rfl, by decide +kernel, rfl, by decide +kernel, by decide +kernel⟩
theorem sc_is_direction : FnScope ["thing"] ["thing"] (defScope s_is_direction) := ⟨rfl, rfl, rfl, by decide +kernel, rfl, by decide +kernel, by decide +kernel⟩
theorem sc_between : FnScope ["one", "other", "first", "last", "found"] ["one", "other"] (defScope s_between) := ⟨rfl, rfl, rfl, by decide +kernel, rfl, by decide +kernel, by decide +kernel⟩
theorem sc_undivided : FnScope ["direction", "a", "b", "shared"] ["direction"] (defScope s_undivided) := ⟨rfl, rfl, rfl, by decide +kernel, rfl, by decide +kernel, by decide +kernel⟩
theorem sc_next_least : FnScope ["first", "last", "a", "b", "p", "q", "back"] ["first", "last"] (defScope s_next_least) := ⟨rfl, rfl, rfl, by decide +kernel, rfl, by decide +kernel, by decide +kernel⟩
theorem sc_next_behind : FnScope ["before", "here", "last", "many"] ["before", "here", "last"] (defScope s_next_behind) := ⟨rfl, rfl, rfl, by decide +kernel, rfl, by decide +kernel, by decide +kernel⟩
theorem sc_makes_one : FnScope ["a", "b", "here", "p", "q", "ahead", "next_p", "next_q", "many"] ["a", "b"] (defScope s_makes_one) := ⟨rfl, rfl, rfl, by decide +kernel, rfl, by decide +kernel, by decide +kernel⟩
theorem sc__law_cell_at : FnScope ["_law_script", "_law_k"] ["_law_script", "_law_k"] (defScope s__law_cell_at) := ⟨rfl, rfl, rfl, by decide +kernel, rfl, by decide +kernel, by decide +kernel⟩
theorem sc__law_state : FnScope ["_law_script", "_law_k", "_law_cell"] ["_law_script", "_law_k"] (defScope s__law_state) := ⟨rfl, rfl, rfl, by decide +kernel, rfl, by decide +kernel, by decide +kernel⟩
theorem sc__law_take : FnScope ["_law_state_here", "_law_many", "_law_found", "_law_stirred"] ["_law_state_here", "_law_many"] (defScope s__law_take) := ⟨rfl, rfl, rfl, by decide +kernel, rfl, by decide +kernel, by decide +kernel⟩
theorem sc__law_divisor : FnScope ["_law_one", "_law_other"] ["_law_one", "_law_other"] (defScope s__law_divisor) := ⟨rfl, rfl, rfl, by decide +kernel, rfl, by decide +kernel, by decide +kernel⟩
theorem sc__law_low : FnScope ["_law_top", "_law_bottom", "_law_by"] ["_law_top", "_law_bottom"] (defScope s__law_low) := ⟨rfl, rfl, rfl, by decide +kernel, rfl, by decide +kernel, by decide +kernel⟩
theorem sc__law_short : FnScope ["_law_one", "_law_by"] ["_law_one"] (defScope s__law_short) := ⟨rfl, rfl, rfl, by decide +kernel, rfl, by decide +kernel, by decide +kernel⟩
theorem sc__law_turn : FnScope ["_law_one", "_law_other"] ["_law_one", "_law_other"] (defScope s__law_turn) := ⟨rfl, rfl, rfl, by decide +kernel, rfl, by decide +kernel, by decide +kernel⟩
theorem sc__law_made : FnScope ["_law_found", "_law_third", "_law_one", "_law_other", "_law_told"] ["_law_found", "_law_third"] (defScope s__law_made) := ⟨rfl, rfl, rfl, by decide +kernel, rfl, by decide +kernel, by decide +kernel⟩
theorem sc_law : FnScope ["_law_script", "_law_k", "_law_state_here", "_law_one", "_law_other", "_law_found", "_law_ahead", "_law_here", "_law_later", "_law_a", "_law_b", "_law_many", "_law_turn_here", "_law_p", "_law_q", "_law_third"] ["_law_script"] (defScope s_law) := ⟨rfl, rfl, rfl, by decide +kernel, rfl, by decide +kernel, by decide +kernel⟩
noncomputable abbrev bn : List Str := ["len", "range", "max", "min", "abs", "isinstance", "tuple", "list", "int", "bool", "str", "dict", "all", "zip", "enumerate", "ValueError"]
section
variable {P : Program} {w : World} {K : PySem.W.Frag} {mg : Str → Option Value} {base : Heap} {f : Addr} {fd : FuncData}
theorem ok__law_cell_at (B : Blt mg bn) (F : Fun K "_law_cell_at" "_law_cell_at" s__law_cell_at f fd) (m : mg "_law_cell_at" = some (.ref f)) (b : Binds K fd ["_law_script", "_law_k"] []) : Own P w K mg base 1 "_law_cell_at" ["_law_script", "_law_k"] (spCell K) := by
  refine own_mk F sc__law_cell_at m b (fun vs H Q E h => ?_) (fun cdv A outer s H vs Q E hr h => ?_)
  · obtain ⟨a, ns, k, rfl, _⟩ := h
    rfl
  obtain ⟨a, ns, k, rfl, hS, h63, h0, q⟩ := h
  refine ⟨_, (pss_cons (ps_if (pt_cmpR op_lt (pv 1) (pe_callB (call_lenK K) rfl (B.get "len") bt_len (pa_cons (pv 0) pa_nil)) (nomark _)) (pss_one (ps_ret (pe_ix (ix_listK K) (pv 0) (pv 1) (fun _ _ => rfl)))) pss_nil)
    (pss_one (ps_ret pe_int))), ?_⟩
  refine ⟨_, rfl, _, rfl, a, _, rfl, .inl hS, _, _, rfl, rfl, _, rfl, ?_⟩
  have hl : (ns.map V.int).length = ns.length := List.length_map _
  refine ite2 (fun c => ?_) (fun c => ?_)
  · have c' := of_decide_eq_true c
    rw [hl] at c'
    obtain ⟨v, hv⟩ := atI_ints h0 c'
    exact ⟨_, rfl, _, rfl, a, _, _, _, rfl, rfl, hS, hv, q v⟩
  · exact q 0
theorem ok__law_state (F : Fun K "_law_state" "_law_state" s__law_state f fd) (m : mg "_law_state" = some (.ref f)) (b : Binds K fd ["_law_script", "_law_k"] []) (o__law_cell_at : Own P w K mg base 1 "_law_cell_at" ["_law_script", "_law_k"] (spCell K)) :
    Own P w K mg base 2 "_law_state" ["_law_script", "_law_k"] (spState K) := by
  refine own_mk F sc__law_state m b (fun vs H Q E h => ?_) (fun cdv A outer s H vs Q E hr h => ?_)
  · obtain ⟨a, ns, k, rfl, _⟩ := h
    rfl
  obtain ⟨a, ns, k, rfl, hS, h63, h0, q⟩ := h
  refine ⟨_, (pss_cons (ps_set (i := 2) sc__law_state.nd rfl (Or.inl rfl) (pe_own o__law_cell_at hr (pa_cons (pv 0) (pa_cons (pv 1) pa_nil))))
    (pss_cons (ps_if (pt_cmpR op_ge (pv 2) (pe_op op_pow pe_int pe_int) (nomark _)) (pss_one (ps_ret (pe_lst (pa_cons (pe_op op_sub (pv 2) (pe_op op_pow pe_int pe_int)) (pa_cons pe_bl pa_nil))))) pss_nil)
    (pss_one (ps_ret (pe_lst (pa_cons (pe_op op_mod (pv 2) pe_int) (pa_cons pe_bl pa_nil))))))), ?_⟩
  refine ⟨_, rfl, _, rfl, a, ns, k, rfl, hS, h63, h0, fun n => ?_⟩
  have pw : CPow 10 18 := ⟨by decide, by decide, by decide⟩
  refine ⟨_, rfl, _, _, rfl, rfl, pw, _, _, rfl, rfl, _, rfl, ?_⟩
  refine ite2 (fun c => ?_) (fun c => ?_)
  · have c' : n ≥ 10 ^ (18 : Int).toNat := of_decide_eq_true c
    refine ⟨_, rfl, _, _, rfl, rfl, pw, _, _, rfl, rfl, (by show 2 ≤ sizeLine; decide), fun p hp => q p _ _ hp ⟨?_, fun z => by cases z⟩⟩
    show 0 ≤ n - 10 ^ (18 : Int).toNat
    (first | lia | omega)
  · refine ⟨_, rfl, _, _, rfl, rfl, (by show (0 : Int) < 2147483647; decide), (by show 2 ≤ sizeLine; decide), fun p hp => q p _ _ hp ⟨?_, fun _ => ?_⟩⟩
    · show 0 ≤ n % 2147483647
      (first | lia | omega)
    · show n % 2147483647 < 2147483647
      (first | lia | omega)
theorem ok__law_take (F : Fun K "_law_take" "_law_take" s__law_take f fd) (m : mg "_law_take" = some (.ref f)) (b : Binds K fd ["_law_state_here", "_law_many"] []) : Own P w K mg base 1 "_law_take" ["_law_state_here", "_law_many"] spTake := by
  refine own_mk F sc__law_take m b (fun vs H Q E h => ?_) (fun cdv A outer s H vs Q E hr h => ?_)
  · obtain ⟨p, k, rfl, _⟩ := h
    rfl
  obtain ⟨p, many, rfl, ⟨n, bb, hp, hn, hb⟩, h0, h1, q⟩ := h
  refine ⟨_, (pss_cons (ps_if (pt_val (pe_ix (ix_listK K) (pv 0) pe_int (fun _ _ => rfl))) (pss_cons (ps_set (i := 2) sc__law_take.nd rfl (Or.inl rfl) (pe_op op_mod (pe_ix (ix_listK K) (pv 0) pe_int (fun _ _ => rfl)) (pv 1)))
    (pss_cons (ps_asg (pe_op op_fdivB (pe_ix (ix_listK K) (pv 0) pe_int (fun _ _ => rfl)) (pv 1)) (pg_sub (pv 0) pe_int set_list))
    (pss_one (ps_ret (pv 2))))) pss_nil)
    (pss_cons (ps_asg (pe_op op_mod (pe_op op_add (pe_op op_mul (pe_ix (ix_listK K) (pv 0) pe_int (fun _ _ => rfl)) pe_int) pe_int) pe_int) (pg_sub (pv 0) pe_int set_list))
    (pss_cons (ps_set (i := 3) sc__law_take.nd rfl (Or.inl rfl) (pe_op op_mod (pe_op op_add (pe_op op_add (pe_op op_mul (pe_ix (ix_listK K) (pv 0) pe_int (fun _ _ => rfl)) (pe_ix (ix_listK K) (pv 0) pe_int (fun _ _ => rfl))) (pe_op op_mul pe_int (pe_ix (ix_listK K) (pv 0) pe_int (fun _ _ => rfl)))) pe_int) pe_int))
    (pss_cons (ps_set (i := 3) sc__law_take.nd rfl (Or.inl rfl) (pe_op op_mod (pe_op op_add (pe_op op_mul (pv 3) (pv 3)) (pe_op op_mul pe_int (pv 3))) pe_int))
    (pss_one (ps_ret (pe_op op_mod (pe_op op_fdivB (pv 3) pe_int) (pv 1)))))))), ?_⟩
  refine ⟨_, rfl, p, _, _, _, rfl, rfl, SqL.of hp, rfl, bb, rfl, ?_⟩
  have fin : ∀ (r n' : Int), 0 ≤ r → r < many → StOk n' bb → Q (.int r) (upd H p (.lst [.int n', .bl bb])) := fun r n' h2 h3 h4 => q r _ h2 h3 ⟨fun b o hb k => by rw [upd_ne hb]; exact k, n', bb, upd_same, h4⟩
  cases bb with
  | true =>
    refine iteT ?_
    refine ⟨_, rfl, p, _, _, _, rfl, rfl, SqL.of hp, rfl, _, rfl, _, _, rfl, rfl, h0, ?_⟩
    refine ⟨_, rfl, p, _, _, _, rfl, rfl, SqL.of hp, rfl, _, rfl, _, _, rfl, rfl, cdivB_small h0 h1, ?_⟩
    refine ⟨_, rfl, p, _, _, 0, rfl, rfl, hp, rfl, ?_⟩
    refine ⟨_, rfl, ?_⟩
    exact fin _ _ (Int.emod_nonneg _ (by (first | lia | omega))) (Int.emod_lt_of_pos _ h0) ⟨Int.ediv_nonneg hn (by (first | lia | omega)), fun z => by cases z⟩
  | false =>
    refine iteF ?_
    have hb' := hb rfl
    have cm : ∀ (i j : Int), 0 ≤ i → i < 2147483700 → CMul i j := fun i j a b => .inl ⟨by (first | lia | omega), by (first | lia | omega)⟩
    refine ⟨_, rfl, p, _, _, _, rfl, rfl, SqL.of hp, rfl, _, _, rfl, rfl, cm _ _ hn (by (first | lia | omega)), _, _, rfl, rfl, _, _, rfl, rfl, (by show (0 : Int) < 2147483647; decide), ?_⟩
    refine ⟨_, rfl, p, _, _, 0, rfl, rfl, hp, rfl, ?_⟩
    have hz : ∃ z : Int, (n * 48271 + 29) % 2147483647 = z ∧ 0 ≤ z ∧ z < 2147483647 := ⟨_, rfl, by (first | lia | omega), by (first | lia | omega)⟩
    obtain ⟨z, ez, z0, z1⟩ := hz
    have hp' : (upd H p (.lst [.int z, .bl false])) p = some (.lst [.int z, .bl false]) := upd_same
    show tSeq _ _ _ _ (upd H p (.lst [.int ((n * 48271 + 29) % 2147483647), .bl false]))
    rw [ez]
    refine ⟨_, rfl, p, _, _, _, rfl, rfl, SqL.of hp', rfl, _, rfl, p, _, _, _, rfl, rfl, SqL.of hp', rfl, _, _, rfl, rfl, cm _ _ z0 (by (first | lia | omega)), ?_⟩
    refine ⟨_, rfl, p, _, _, _, rfl, rfl, SqL.of hp', rfl, _, _, rfl, rfl, .inl ⟨by decide, by decide⟩, _, _, rfl, rfl, _, _, rfl, rfl, _, _, rfl, rfl, (by show (0 : Int) < 2147483629; decide), ?_⟩
    have hy : ∃ y : Int, (z * z + 39373 * z + 7) % 2147483629 = y ∧ 0 ≤ y ∧ y < 2147483629 := ⟨_, rfl, Int.emod_nonneg _ (by decide), Int.emod_lt_of_pos _ (by decide)⟩
    obtain ⟨y, ey, y0, y1⟩ := hy
    show tSeq _ _ _ [_, _, _, some (.int ((z * z + 39373 * z + 7) % 2147483629))] _
    rw [ey]
    refine ⟨_, rfl, _, rfl, _, _, rfl, rfl, cm _ _ y0 (by (first | lia | omega)), _, rfl, _, _, rfl, rfl, .inl ⟨by decide, by decide⟩, _, _, rfl, rfl, _, _, rfl, rfl, (by show (0 : Int) < 2147483587; decide), ?_⟩
    refine ⟨_, rfl, _, _, rfl, rfl, cdivB_small (by decide) (by decide), _, rfl, _, _, rfl, rfl, h0, ?_⟩
    exact fin _ _ (Int.emod_nonneg _ (by (first | lia | omega))) (Int.emod_lt_of_pos _ h0) ⟨z0, fun _ => z1⟩
end
end K15
set_option Elab.async false
set_option linter.all false
set_option maxRecDepth 100000
set_option maxHeartbeats 4000000
namespace K15
open PySem L2 Trn
section
variable {P : Program} {w : World} {K : PySem.W.Frag} {mg : Str → Option Value} {base : Heap} {f : Addr} {fd : FuncData}
theorem ok_is_whole (B : Blt mg bn) (F : Fun K "is_whole" "is_whole" s_is_whole f fd) (m : mg "is_whole" = some (.ref f)) (b : Binds K fd ["thing"] [])  :
    Own P w K mg base 1 "is_whole" ["thing"] (spT 1 false false pWhole) := by
  refine own_tree F sc_is_whole m b rfl (fun cdv A outer s H E hr => ⟨_, _,
    (pss_one (ps_ret (pe_and (pe_callB call_isi rfl (B.get "isinstance") bt_isinstance (pa_cons (pv 0) (pa_cons (pe_bltn (v := V.ty "int") rfl (B.get "int") bt_int rfl) pa_nil))) (pe_one (pe_not (pe_callB call_isi rfl (B.get "isinstance") bt_isinstance (pa_cons (pv 0) (pa_cons (pe_bltn (v := V.ty "bool") rfl (B.get "bool") bt_bool rfl) pa_nil)))))))),
    (oks_ret (ok_andV (ok_isi ok_var) (ok_notV (ok_isi ok_var)))), fun ts KK hl h => ?_⟩)
  obtain ⟨t, rfl, k⟩ := h
  cases t <;> exact k
theorem ok_are_whole (B : Blt mg bn) (F : Fun K "are_whole" "are_whole" s_are_whole f fd) (m : mg "are_whole" = some (.ref f)) (b : Binds K fd ["things"] []) (o_is_whole : Own P w K mg base 1 "is_whole" ["thing"] (spT 1 false false pWhole)) :
    Own P w K mg base 2 "are_whole" ["things"] (spT 1 false false pAreWhole) := by
  refine own_tree F sc_are_whole m b rfl (fun cdv A outer s H E hr => ⟨_, _,
    (pss_one (ps_ret (pe_callB (call_allLK K rfl) rfl (B.get "all") bt_all (pa_cons (pe_comp (compOk_of (N := ["thing"]) (tau := [none]) (XN := ["things"]) (xs := defScope s_are_whole) (by decide +kernel) rfl rfl) rfl (ga_name rfl) (pi_any K (pv 0)) (fun _ _ _ _ => (pg_name (i := 0) (show (["thing"] : List Str).Nodup by decide +kernel) rfl (Or.inl rfl))) (fun _ _ _ _ => pif_nil) (fun _ _ _ _ => (pe_own o_is_whole hr (pa_cons (pv 0) pa_nil)))) pa_nil)))),
    (oks_ret (ok_cbS cb_allL (oka_cons (OkF.e (okf_comp (oki_any ok_var).c okn_name okt_noif (ok_own (oka_cons ok_var oka_nil)))) oka_nil))), fun ts KK hl h => ?_⟩)
  obtain ⟨t, rfl, us, hs, hz, k⟩ := h
  rcases hs with rfl | rfl
  · refine ⟨hz, cRun_map (fun x => .bl (isWh x)) (fun x _ N hN => ⟨x, rfl, hN⟩) ⟨us.map isWh, by rw [List.map_map]; rfl, ?_⟩⟩
    simpa using k
  · refine ⟨hz, cRun_map (fun x => .bl (isWh x)) (fun x _ N hN => ⟨x, rfl, hN⟩) ⟨us.map isWh, by rw [List.map_map]; rfl, ?_⟩⟩
    simpa using k
theorem ok_greatest_divisor (B : Blt mg bn) (F : Fun K "greatest_divisor" "greatest_divisor" s_greatest_divisor f fd) (m : mg "greatest_divisor" = some (.ref f)) (b : Binds K fd ["one", "other"] [])  :
    Own P w K mg base 1 "greatest_divisor" ["one", "other"] (spT 2 false false pGcd) := by
  refine own_tree F sc_greatest_divisor m b rfl (fun cdv A outer s H E hr => ⟨_, _,
    (pss_cons (ps_par (i := 0) (j := 1) rfl sc_greatest_divisor.nd rfl rfl (by decide) rfl rfl (pa_cons (pe_callB call_abs rfl (B.get "abs") bt_abs (pa_cons (pv 0) pa_nil)) (pa_cons (pe_callB call_abs rfl (B.get "abs") bt_abs (pa_cons (pv 1) pa_nil)) pa_nil)) (by rfl))
    (pss_cons (ps_while PassesOwn.never (pt_cmpR (op_neD hr.units) (pv 1) pe_int (nomark _)) (pss_one (ps_par (i := 0) (j := 1) rfl sc_greatest_divisor.nd rfl rfl (by decide) rfl rfl (pa_cons (pv 1) (pa_cons (pe_op op_modN (pv 0) (pv 1)) pa_nil)) (by rfl))))
    (pss_one (ps_ret (pv 0))))),
    (oks_seq (oks_par (oka_cons (ok_cbS cb_abs (oka_cons ok_var oka_nil)) (oka_cons (ok_cbS cb_abs (oka_cons ok_var oka_nil)) oka_nil)))
    (oks_seq (oks_while (okt_test (ok_opS os_ne ok_var (ok_c (t := Tr.int _)))) (oks_par (oka_cons ok_var (oka_cons (ok_opS os_mod ok_var ok_var) oka_nil))))
    (oks_ret ok_var))), fun ts KK hl h => ?_⟩)
  obtain ⟨a, c, rfl, k⟩ := h
  refine while_ind (fun n τ => ∃ x y : Int, τ = [.fz (.int x), .fz (.int y)] ∧ 0 ≤ x ∧ 0 ≤ y ∧ n = y.toNat ∧ Int.gcd x y = Int.gcd a c) c.natAbs ⟨_, _, rfl, by split <;> (first | lia | omega), by split <;> (first | lia | omega), by split <;> (first | lia | omega), ?_⟩ ?_
  · have e1 : (if a < 0 then -a else a) = (a.natAbs : Int) := by split <;> (first | lia | omega)
    have e2 : (if c < 0 then -c else c) = (c.natAbs : Int) := by split <;> (first | lia | omega)
    rw [e1, e2]; simp [Int.gcd]
  · rintro n τ N ⟨x, y, rfl, hx, hy, rfl, hg⟩ hN
    refine ite_bl (b := !decide (y = 0)) (fun c0 => ?_) (fun c0 => ?_)
    · have c0 : y ≠ 0 := by simpa using c0
      have e : x.fmod y = x % y := fmod_pos hy
      have l := Int.emod_lt_of_pos x (show 0 < y by (first | lia | omega))
      have l0 := Int.emod_nonneg x c0
      refine ⟨c0, hN (x % y).toNat _ (by (first | lia | omega)) ⟨_, _, rfl, hy, by rw [e]; exact l0, by rw [e], ?_⟩⟩
      rw [e, ← hg, gcd_step hx hy]
    · have c0 : y = 0 := by simpa using c0
      subst c0
      have : (Int.gcd a c : Int) = x := by rw [← hg]; simp [Int.gcd]; (first | lia | omega)
      exact this ▸ k
theorem ok_lowest (B : Blt mg bn) (F : Fun K "lowest" "lowest" s_lowest f fd) (m : mg "lowest" = some (.ref f)) (b : Binds K fd ["top", "bottom"] []) (o_greatest_divisor : Own P w K mg base 1 "greatest_divisor" ["one", "other"] (spT 2 false false pGcd)) :
    Own P w K mg base 2 "lowest" ["top", "bottom"] (spT 2 false false pLow) := by
  refine own_tree F sc_lowest m b rfl (fun cdv A outer s H E hr => ⟨_, _,
    (pss_cons (ps_set (i := 2) sc_lowest.nd rfl (Or.inl rfl) (pe_own o_greatest_divisor hr (pa_cons (pv 0) (pa_cons (pv 1) pa_nil))))
    (pss_one (ps_ret (pe_tup (pa_cons (pe_op op_fdvB (pv 0) (pv 2)) (pa_cons (pe_op op_fdvB (pv 1) (pv 2)) pa_nil)))))),
    (oks_seq (oks_set (ok_own (oka_cons ok_var (oka_cons ok_var oka_nil))))
    (oks_ret (ok_tup (b := true) (oka_cons (ok_opS os_div ok_var ok_var) (oka_cons (ok_opS os_div ok_var ok_var) oka_nil))))), fun ts KK hl h => ?_⟩)
  obtain ⟨t, bo, rfl, hb, bd, k⟩ := h
  have gp : (0 : Int) < (Int.gcd t bo : Int) := by have := Int.gcd_pos_of_ne_zero_right t hb; (first | lia | omega)
  have gb := bd_gcd (t := t) hb bd
  refine ⟨t, bo, rfl, ⟨by (first | lia | omega), gb⟩, ⟨by (first | lia | omega), gb⟩, ?_⟩
  show KK (.tup [.int (t.fdiv (Int.gcd t bo)), .int (bo.fdiv (Int.gcd t bo))])
  rw [fdiv_pos (by (first | lia | omega)), fdiv_pos (by (first | lia | omega))]
  exact k
theorem ok_turn_to (B : Blt mg bn) (F : Fun K "turn_to" "turn_to" s_turn_to f fd) (m : mg "turn_to" = some (.ref f)) (b : Binds K fd ["one", "other"] [])  :
    Own P w K mg base 1 "turn_to" ["one", "other"] (spT 2 false false pTurn) := by
  refine own_tree F sc_turn_to m b rfl (fun cdv A outer s H E hr => ⟨_, _,
    (pss_one (ps_ret (pe_op op_sub (pe_op op_mulB (pe_ix (ix_seqK K) (pv 0) pe_int (fun _ _ => rfl)) (pe_ix (ix_seqK K) (pv 1) pe_int (fun _ _ => rfl))) (pe_op op_mulB (pe_ix (ix_seqK K) (pv 0) pe_int (fun _ _ => rfl)) (pe_ix (ix_seqK K) (pv 1) pe_int (fun _ _ => rfl)))))),
    (oks_ret (ok_opS os_sub (ok_opS os_mul (ok_ix ok_var (ok_c (t := Tr.int _))) (ok_ix ok_var (ok_c (t := Tr.int _)))) (ok_opS os_mul (ok_ix ok_var (ok_c (t := Tr.int _))) (ok_ix ok_var (ok_c (t := Tr.int _)))))), fun ts KK hl h => ?_⟩)
  obtain ⟨a, b, c, d, x, y, rfl, hb, k⟩ := h
  exact ⟨⟨hb.1.1, hb.2.2⟩, ⟨hb.1.2, hb.2.1⟩, k⟩
theorem ok_parts (B : Blt mg bn) (F : Fun K "parts" "parts" s_parts f fd) (m : mg "parts" = some (.ref f)) (b : Binds K fd ["one", "other", "thing"] []) (o_need_turn : Own P w K mg base 2 "need_turn" ["one", "other"] (spT 2 false false pNeedTurn)) (o_is_direction : Own P w K mg base 3 "is_direction" ["thing"] (spT 1 false false pIsDir)) (o_turn_to : Own P w K mg base 1 "turn_to" ["one", "other"] (spT 2 false false pTurn)) (o_lowest : Own P w K mg base 2 "lowest" ["top", "bottom"] (spT 2 false false pLow)) :
    Own P w K mg base 4 "parts" ["one", "other", "thing"] (spT 3 false false pParts) := by
  refine own_tree F sc_parts m b rfl (fun cdv A outer s H E hr => ⟨_, _,
    (pss_cons (ps_set (i := 3) sc_parts.nd rfl (Or.inl rfl) (pe_own o_need_turn hr (pa_cons (pv 0) (pa_cons (pv 1) pa_nil))))
    (pss_cons (ps_if (pt_not (pt_val (pe_own o_is_direction hr (pa_cons (pv 2) pa_nil)))) (pss_one (ps_ret pe_non)) pss_nil)
    (pss_cons (ps_par (i := 4) (j := 5) rfl sc_parts.nd rfl rfl (by decide) rfl rfl (pa_cons (pe_own o_turn_to hr (pa_cons (pv 2) (pa_cons (pv 1) pa_nil))) (pa_cons (pe_own o_turn_to hr (pa_cons (pv 0) (pa_cons (pv 2) pa_nil))) pa_nil)) (by rfl))
    (pss_cons (ps_if (PW.pt (pw_or (pt_cmpR (op_ltA K hr.units) (pv 4) pe_int (nomark _)) (pw_or1 (pt_cmpR (op_ltA K hr.units) (pv 5) pe_int (nomark _))))) (pss_one (ps_ret pe_non)) pss_nil)
    (pss_one (ps_ret (pe_tup (pa_cons (pe_own o_lowest hr (pa_cons (pv 4) (pa_cons (pv 3) pa_nil))) (pa_cons (pe_own o_lowest hr (pa_cons (pv 5) (pa_cons (pv 3) pa_nil))) pa_nil))))))))),
    (oks_seq (oks_set (ok_own (oka_cons ok_var (oka_cons ok_var oka_nil))))
    (oks_seq (oks_if (okt_not (okt_tB (ok_own (oka_cons ok_var oka_nil)))) (oks_ret (ok_c (t := Tr.non))) oks_next)
    (oks_seq (oks_par (oka_cons (ok_own (oka_cons ok_var (oka_cons ok_var oka_nil))) (oka_cons (ok_own (oka_cons ok_var (oka_cons ok_var oka_nil))) oka_nil)))
    (oks_seq (oks_if (okt_or (okt_test (ok_opS os_ltA ok_var (ok_c (t := Tr.int _)))) (okt_test (ok_opS os_ltA ok_var (ok_c (t := Tr.int _))))) (oks_ret (ok_c (t := Tr.non))) oks_next)
    (oks_ret (ok_tup (b := true) (oka_cons (ok_own (oka_cons ok_var (oka_cons ok_var oka_nil))) (oka_cons (ok_own (oka_cons ok_var (oka_cons ok_var oka_nil))) oka_nil)))))))), fun ts KK hl h => ?_⟩)
  obtain ⟨a, b', c, d, t, rfl, hl2, hs, hd, hp, k⟩ := h
  refine ⟨a, b', c, d, rfl, hl2, hp, ?_⟩
  refine ⟨t, rfl, hs, ?_⟩
  have no : isDirT t = false → partsT a b' c d t = .non := fun e => by
    unfold partsT
    split
    · rename_i x y
      have : x = 0 ∧ y = 0 := by simp [isDirT] at e; (first | lia | omega)
      rw [if_pos this]
    · rfl
  refine ite_bl (b := !isDirT t) (fun e => ?_) (fun e => ?_)
  · rw [no (by simpa using e)] at k
    exact k
  have e : isDirT t = true := by simpa using e
  obtain ⟨x, y, rfl⟩ := isDirT_some e
  have nz : ¬ (x = 0 ∧ y = 0) := fun z => by simp [isDirT, drT, z.1, z.2] at e
  obtain ⟨hx, hy⟩ : L24 x ∧ L24 y := hd
  refine ⟨x, y, c, d, [], [], rfl, ⟨⟨hx.bd, hy.bd⟩, hl2.2.1.bd, hl2.2.2.bd⟩, a, b', x, y, [], [], rfl, ⟨⟨hl2.1.1.bd, hl2.1.2.bd⟩, hx.bd, hy.bd⟩, ?_⟩
  have kk : KK (if tn x y c d < 0 ∨ tn a b' x y < 0 then .non else .tup [lowT (tn x y c d) (tn a b' c d), lowT (tn a b' x y) (tn a b' c d)]) := by
    have e1 : partsT a b' c d (drT x y) = _ := (if_neg nz)
    rw [e1] at k; exact k
  refine ite_bl (b := decide (tn x y c d < 0)) (fun e1 => ?_) (fun e1 => ?_)
  · rw [if_pos (.inl (of_decide_eq_true e1))] at kk
    exact kk
  refine ite_bl (b := decide (tn a b' x y < 0)) (fun e2 => ?_) (fun e2 => ?_)
  · rw [if_pos (.inr (of_decide_eq_true e2))] at kk
    exact kk
  rw [if_neg (by have := of_decide_eq_false e1; have := of_decide_eq_false e2; (first | lia | omega))] at kk
  have hb := tn_bd hl2
  exact ⟨_, _, rfl, by (first | lia | omega), hb, _, _, rfl, by (first | lia | omega), hb, kk⟩
theorem ok_need_turn (B : Blt mg bn) (F : Fun K "need_turn" "need_turn" s_need_turn f fd) (m : mg "need_turn" = some (.ref f)) (b : Binds K fd ["one", "other"] []) (o_turn_to : Own P w K mg base 1 "turn_to" ["one", "other"] (spT 2 false false pTurn)) :
    Own P w K mg base 2 "need_turn" ["one", "other"] (spT 2 false false pNeedTurn) := by
  refine own_tree F sc_need_turn m b rfl (fun cdv A outer s H E hr => ⟨_, _,
    (pss_cons (ps_set (i := 2) sc_need_turn.nd rfl (Or.inl rfl) (pe_own o_turn_to hr (pa_cons (pv 0) (pa_cons (pv 1) pa_nil))))
    (pss_cons (ps_if (pt_cmpR op_le (pv 2) pe_int (nomark _)) (pss_one ps_never) pss_nil)
    (pss_one (ps_ret (pv 2))))),
    (oks_seq (oks_set (ok_own (oka_cons ok_var (oka_cons ok_var oka_nil))))
    (oks_seq (oks_if (okt_test (ok_opS os_le ok_var (ok_c (t := Tr.int _)))) oks_never oks_next)
    (oks_ret ok_var))), fun ts KK hl h => ?_⟩)
  obtain ⟨a, b', c, d, rfl, hl2, hp, k⟩ := h
  refine ⟨a, b', c, d, [], [], rfl, ⟨⟨hl2.1.1.bd, hl2.1.2.bd⟩, hl2.2.1.bd, hl2.2.2.bd⟩, ?_⟩
  exact ite_bl (b := decide (tn a b' c d ≤ 0)) (fun e => by have := of_decide_eq_true e; (first | lia | omega)) (fun _ => k)
theorem ok_is_direction (B : Blt mg bn) (F : Fun K "is_direction" "is_direction" s_is_direction f fd) (m : mg "is_direction" = some (.ref f)) (b : Binds K fd ["thing"] []) (o_are_whole : Own P w K mg base 2 "are_whole" ["things"] (spT 1 false false pAreWhole)) :
    Own P w K mg base 3 "is_direction" ["thing"] (spT 1 false false pIsDir) := by
  refine own_tree F sc_is_direction m b rfl (fun cdv A outer s H E hr => ⟨_, _,
    (pss_cons (ps_if (PW.pt (pw_or (pt_not (pt_val (pe_callB call_isi rfl (B.get "isinstance") bt_isinstance (pa_cons (pv 0) (pa_cons (pe_bltn (v := V.ty "tuple") rfl (B.get "tuple") bt_tuple rfl) pa_nil))))) (pw_or (pt_cmpR (op_neD hr.units) (pe_callB (call_lenK K) rfl (B.get "len") bt_len (pa_cons (pv 0) pa_nil)) pe_int (nomark _)) (pw_or1 (pt_not (pt_val (pe_own o_are_whole hr (pa_cons (pv 0) pa_nil)))))))) (pss_one (ps_ret pe_bl)) pss_nil)
    (pss_one (ps_ret (pe_or (pe_cmpR (op_neD hr.units) (pe_ix (ix_seqK K) (pv 0) pe_int (fun _ _ => rfl)) pe_int (nomark _)) (pe_one (pe_cmpR (op_neD hr.units) (pe_ix (ix_seqK K) (pv 0) pe_int (fun _ _ => rfl)) pe_int (nomark _))))))),
    (oks_seq (oks_if (okt_or (okt_not (okt_tB (ok_isi ok_var))) (okt_or (okt_test (ok_opS os_ne (ok_cbS cb_len (oka_cons ok_var oka_nil)) (ok_c (t := Tr.int _)))) (okt_not (okt_tB (ok_own (oka_cons ok_var oka_nil)))))) (oks_ret (ok_c (t := Tr.bl _))) oks_next)
    (oks_ret (ok_orV (ok_opS os_ne (ok_ix ok_var (ok_c (t := Tr.int _))) (ok_c (t := Tr.int _))) (ok_opS os_ne (ok_ix ok_var (ok_c (t := Tr.int _))) (ok_c (t := Tr.int _)))))), fun ts KK hl h => ?_⟩)
  obtain ⟨t, rfl, hs, k⟩ := h
  cases t with
  | tup us =>
    refine ite_bl (b := !decide ((us.length : Int) = 2)) (fun c => ?_) (fun c => ?_)
    · have c : ¬ (us.length : Int) = 2 := by simpa using c
      have e : isDirT (.tup us) = false := by
        refine Bool.eq_false_iff.mpr fun h => ?_
        obtain ⟨x, y, z⟩ := isDirT_some h
        injection z with z
        rw [z] at c
        exact c rfl
      rw [e] at k
      exact k
    · have c : us.length = 2 := by simp at c; (first | lia | omega)
      obtain ⟨x, y, rfl⟩ : ∃ x y, us = [x, y] := by
        match us, c with
        | [x, y], _ => exact ⟨x, y, rfl⟩
      refine ⟨_, rfl, _, .inl rfl, hs _ rfl, ?_⟩
      cases x with
      | int a =>
        cases y with
        | int b =>
          show if (!decide (a = 0)) = true then KK (.bl true) else KK (.bl (!decide (b = 0)))
          by_cases ha : a = 0 <;> by_cases hb : b = 0 <;> simp [ha, hb, isDirT] at k ⊢ <;> exact k
        | _ => exact k
      | _ => exact k
  | _ => exact k
theorem ok_between (B : Blt mg bn) (F : Fun K "between" "between" s_between f fd) (m : mg "between" = some (.ref f)) (b : Binds K fd ["one", "other"] []) (o_need_turn : Own P w K mg base 2 "need_turn" ["one", "other"] (spT 2 false false pNeedTurn)) (o_undivided : Own P w K mg base 2 "undivided" ["direction"] (spT 1 false false pUndiv)) (o_next_least : Own P w K mg base 2 "next_least" ["first", "last"] (spT 2 false false pNextLeast)) (o_next_behind : Own P w K mg base 2 "next_behind" ["before", "here", "last"] (spT 3 false false pNextBehind)) :
    Own P w K mg base 3 "between" ["one", "other"] (spT 2 false true pBetween) := by
  refine own_tree F sc_between m b rfl (fun cdv A outer s H E hr => ⟨_, _,
    (pss_cons (ps_expr (pe_own o_need_turn hr (pa_cons (pv 0) (pa_cons (pv 1) pa_nil))))
    (pss_cons (ps_par (i := 2) (j := 3) rfl sc_between.nd rfl rfl (by decide) rfl rfl (pa_cons (pe_own o_undivided hr (pa_cons (pv 0) pa_nil)) (pa_cons (pe_own o_undivided hr (pa_cons (pv 1) pa_nil)) pa_nil)) (by rfl))
    (pss_cons (ps_set (i := 4) sc_between.nd rfl (Or.inl rfl) (pe_lst (pa_cons (pv 2) (pa_cons (pe_own o_next_least hr (pa_cons (pv 2) (pa_cons (pv 3) pa_nil))) pa_nil))))
    (pss_cons (ps_while PassesOwn.never (pt_cmpR (op_neD hr.units) (pe_ix (ix_seqK K) (pv 4) (pe_un un_neg pe_int) (fun _ _ => rfl)) (pv 3) (nomark _)) (pss_one (ps_expr (pe_bm PySem.F.plainAttrs_list PySem.F.slot_list_append PySem.F.type_list_append mt_append (pv 4) (pa_cons (pe_own o_next_behind hr (pa_cons (pe_ix (ix_seqK K) (pv 4) (pe_un un_neg pe_int) (fun _ _ => rfl)) (pa_cons (pe_ix (ix_seqK K) (pv 4) (pe_un un_neg pe_int) (fun _ _ => rfl)) (pa_cons (pv 3) pa_nil)))) pa_nil)))))
    (pss_one (ps_ret (pv 4))))))),
    (oks_seq (oks_drop (ok_own (oka_cons ok_var (oka_cons ok_var oka_nil))))
    (oks_seq (oks_par (oka_cons (ok_own (oka_cons ok_var oka_nil)) (oka_cons (ok_own (oka_cons ok_var oka_nil)) oka_nil)))
    (oks_seq (oks_setO (okf_lst (oka_cons ok_var (oka_cons (ok_own (oka_cons ok_var (oka_cons ok_var oka_nil))) oka_nil))))
    (oks_seq (oks_while (okt_test (ok_opS os_ne (ok_ixO (ok_neg (ok_c (t := Tr.int _)))) ok_var)) (oks_app (ok_own (oka_cons (ok_ixO (ok_neg (ok_c (t := Tr.int _)))) (oka_cons (ok_ixO (ok_neg (ok_c (t := Tr.int _)))) (oka_cons ok_var oka_nil))))))
    oks_retO)))), fun ts KK hl h => ?_⟩)
  obtain ⟨⟨a, b'⟩, ⟨c, d⟩, rfl, hu, hv, hp, k⟩ := h
  obtain ⟨nu, nv⟩ := cr_nz hp
  refine ⟨a, b', c, d, rfl, bx_l4 (by decide) hu hv, hp, ?_⟩
  refine ⟨(a, b'), rfl, nu, hu.mono (by decide), (c, d), rfl, nv, hv.mono (by decide), ?_⟩
  have hf := und_bx nu hu
  have hl2 := und_bx nv hv
  have hD := (und_cr hp).2
  have gl := und_gcd nv
  refine ⟨und (a, b'), und (c, d), rfl, hf, hl2, und_gcd nu, hD, fun q q1 q2 q3 => ?_⟩
  have DD := bx_cr (n := 200) hf hl2
  have R0 : Run (und (a, b')) (und (c, d)) 200 [] (und (a, b')) q := by
    refine ⟨⟨fun i x y hx hy => ?_, fun i x y z hx hy hz => ?_⟩, rfl, ?_, ⟨q2, q3, by (first | lia | omega)⟩, ?_, fun x hx => ?_⟩
    · match i with
      | 0 => cases hx; cases hy; exact q1
      | i + 1 => simp at hy
    · simp at hz
    · rw [cr_self]; (first | lia | omega)
    · simp only [List.length_nil]; (first | lia | omega)
    · rcases List.mem_cons.mp hx with rfl | hx
      · exact hf.mono (by decide)
      · rw [List.mem_singleton.mp hx]
        obtain ⟨e1, e2⟩ := by_ends (und (a, b')) (und (c, d)) q
        exact ⟨bnd1 hD e1 ⟨q2, by (first | lia | omega)⟩ ⟨by (first | lia | omega), by (first | lia | omega)⟩ hf.1 hl2.1, bnd1 hD e2 ⟨q2, by (first | lia | omega)⟩ ⟨by (first | lia | omega), by (first | lia | omega)⟩ hf.2 hl2.2⟩
  refine while_ind (fun n τ => ∃ (h0 : List D2) (x y : D2), τ = [.fz (drD (a, b')), .fz (drD (c, d)), .fz (drD (und (a, b'))), .fz (drD (und (c, d))), .ow ((h0 ++ [x, y]).map drD)] ∧ Run (und (a, b')) (und (c, d)) 200 h0 x y ∧ n = (cr y (und (c, d))).toNat) _ ⟨[], _, q, rfl, R0, rfl⟩ ?_
  rintro n τ N ⟨h0, x, y, rfl, R, rfl⟩ hN
  have at1 : atT ((h0 ++ [x, y]).map drD) (-1) = some (drD y) := by
    rw [show h0 ++ [x, y] = (h0 ++ [x]) ++ [y] by simp, List.map_append]; exact atT_last _ _
  have at2 : atT ((h0 ++ [x, y]).map drD) (-2) = some (drD x) := by
    rw [List.map_append]; exact atT_last2 _ _ _
  show fOpt (atT ((h0 ++ [x, y]).map drD) (-1)) _
  rw [at1]
  refine ⟨eqOk_drD _ _, ?_⟩
  have st := R.stop gl
  refine ite_bl (b := !teq (drD y) (drD (und (c, d)))) (fun c0 => ?_) (fun c0 => ?_)
  · rw [teq_drD] at c0
    have c0 : y ≠ und (c, d) := by simpa using c0
    have y0 : 0 < cr y (und (c, d)) := by have := R.t.1; have : cr y (und (c, d)) ≠ 0 := fun z => c0 (st.mp z); (first | lia | omega)
    obtain ⟨m2, mD, R', lt⟩ := R.step hf hl2 y0 rfl
    have bx := R.bd x (by simp)
    have by' := R.bd y (by simp)
    show fOpt (atT ((h0 ++ [x, y]).map drD) (-2)) _
    rw [at2]
    show fOpt (atT ((h0 ++ [x, y]).map drD) (-1)) _
    rw [at1]
    refine ⟨x, y, und (c, d), rfl, ⟨bx.mono (by decide), by'.mono (by decide), hl2.mono (by decide)⟩, y0, ?_⟩
    have len := R.len
    refine ⟨by rw [List.length_map, List.length_append]; exact sqz (by simp only [List.length_cons, List.length_nil]; (first | lia | omega)), hN _ _ ?_ ⟨h0 ++ [x], y, _, ?_, R', rfl⟩⟩
    · (first | lia | omega)
    · simp
  · rw [teq_drD] at c0
    have c0 : y = und (c, d) := by simpa using c0
    have len := R.len
    refine k (h0 ++ [x, y]) ⟨R.chn, by simp, by simp only [List.length_append, List.length_cons, List.length_nil]; have := R.t.1; (first | lia | omega), R.fst, ?_, fun z hz => (R.bd z hz).mono (by decide)⟩
    rw [c0, show (h0 ++ [x, und (c, d)]).length - 1 = h0.length + 1 by simp, List.getElem?_append_right (by (first | lia | omega))]
    simp [show h0.length + 1 - h0.length = 1 by (first | lia | omega)]
theorem ok_undivided (B : Blt mg bn) (F : Fun K "undivided" "undivided" s_undivided f fd) (m : mg "undivided" = some (.ref f)) (b : Binds K fd ["direction"] []) (o_greatest_divisor : Own P w K mg base 1 "greatest_divisor" ["one", "other"] (spT 2 false false pGcd)) :
    Own P w K mg base 2 "undivided" ["direction"] (spT 1 false false pUndiv) := by
  refine own_tree F sc_undivided m b rfl (fun cdv A outer s H E hr => ⟨_, _,
    (pss_cons (ps_asg (pv 0) (pg_tupK K (n := 2) rfl (pgs_cons (pg_name (i := 1) sc_undivided.nd rfl (Or.inl rfl)) (pgs_cons (pg_name (i := 2) sc_undivided.nd rfl (Or.inl rfl)) pgs_nil))))
    (pss_cons (ps_set (i := 3) sc_undivided.nd rfl (Or.inl rfl) (pe_own o_greatest_divisor hr (pa_cons (pv 1) (pa_cons (pv 2) pa_nil))))
    (pss_one (ps_ret (pe_tup (pa_cons (pe_op op_fdvB (pv 1) (pv 3)) (pa_cons (pe_op op_fdvB (pv 2) (pv 3)) pa_nil))))))),
    (oks_seq (oks_asg ok_var (okn_tup (okns_cons okn_name (okns_cons okn_name okns_nil))).g)
    (oks_seq (oks_set (ok_own (oka_cons ok_var (oka_cons ok_var oka_nil))))
    (oks_ret (ok_tup (b := true) (oka_cons (ok_opS os_div ok_var ok_var) (oka_cons (ok_opS os_div ok_var ok_var) oka_nil)))))), fun ts KK hl h => ?_⟩)
  obtain ⟨⟨a, c⟩, rfl, nz, bx, k⟩ := h
  have g0 := gd_pos nz
  have gb : Bd (gd (a, c)) := by
    have u := und_sc nz
    refine bd_small ⟨by (first | lia | omega), ?_⟩
    show ((Int.gcd a c : Nat) : Int) ≤ 1000000
    unfold Bx at bx
    simp only at bx
    by_cases ha : a = 0
    · have : c ≠ 0 := fun z => nz (by rw [ha, z])
      have := Int.gcd_le_natAbs_right a this
      (first | lia | omega)
    · have := Int.gcd_le_natAbs_left c ha
      (first | lia | omega)
  have g1 : gd (a, c) ≠ 0 := by (first | lia | omega)
  refine ⟨rfl, a, c, rfl, ⟨g1, gb⟩, ⟨g1, gb⟩, ?_⟩
  have e : ∀ x : Int, x.fdiv ((Int.gcd a c : Nat) : Int) = x / gd (a, c) := fun x => fdiv_pos (Int.le_of_lt g0)
  show KK (.tup [.int (a.fdiv ((Int.gcd a c : Nat) : Int)), .int (c.fdiv ((Int.gcd a c : Nat) : Int))])
  rw [e, e]
  exact k
theorem ok_next_least (B : Blt mg bn) (F : Fun K "next_least" "next_least" s_next_least f fd) (m : mg "next_least" = some (.ref f)) (b : Binds K fd ["first", "last"] []) (o_makes_one : Own P w K mg base 1 "makes_one" ["a", "b"] (spT 2 false false pMakesOne)) (o_turn_to : Own P w K mg base 1 "turn_to" ["one", "other"] (spT 2 false false pTurn)) :
    Own P w K mg base 2 "next_least" ["first", "last"] (spT 2 false false pNextLeast) := by
  refine own_tree F sc_next_least m b rfl (fun cdv A outer s H E hr => ⟨_, _,
    (pss_cons (ps_asg (pv 0) (pg_tupK K (n := 2) rfl (pgs_cons (pg_name (i := 2) sc_next_least.nd rfl (Or.inl rfl)) (pgs_cons (pg_name (i := 3) sc_next_least.nd rfl (Or.inl rfl)) pgs_nil))))
    (pss_cons (ps_asg (pe_own o_makes_one hr (pa_cons (pv 2) (pa_cons (pv 3) pa_nil))) (pg_tupK K (n := 2) rfl (pgs_cons (pg_name (i := 4) sc_next_least.nd rfl (Or.inl rfl)) (pgs_cons (pg_name (i := 5) sc_next_least.nd rfl (Or.inl rfl)) pgs_nil))))
    (pss_cons (ps_set (i := 6) sc_next_least.nd rfl (Or.inl rfl) (pe_op op_fdvB (pe_own o_turn_to hr (pa_cons (pe_tup (pa_cons (pe_un un_neg (pv 5)) (pa_cons (pv 4) pa_nil))) (pa_cons (pv 1) pa_nil))) (pe_own o_turn_to hr (pa_cons (pv 0) (pa_cons (pv 1) pa_nil)))))
    (pss_one (ps_ret (pe_tup (pa_cons (pe_op op_sub (pe_un un_neg (pv 5)) (pe_op op_mulB (pv 6) (pv 2))) (pa_cons (pe_op op_sub (pv 4) (pe_op op_mulB (pv 6) (pv 3))) pa_nil)))))))),
    (oks_seq (oks_asg ok_var (okn_tup (okns_cons okn_name (okns_cons okn_name okns_nil))).g)
    (oks_seq (oks_asg (ok_own (oka_cons ok_var (oka_cons ok_var oka_nil))) (okn_tup (okns_cons okn_name (okns_cons okn_name okns_nil))).g)
    (oks_seq (oks_set (ok_opS os_div (ok_own (oka_cons (ok_tup (b := true) (oka_cons (ok_neg ok_var) (oka_cons ok_var oka_nil))) (oka_cons ok_var oka_nil))) (ok_own (oka_cons ok_var (oka_cons ok_var oka_nil)))))
    (oks_ret (ok_tup (b := true) (oka_cons (ok_opS os_sub (ok_neg ok_var) (ok_opS os_mul ok_var ok_var)) (oka_cons (ok_opS os_sub ok_var (ok_opS os_mul ok_var ok_var)) oka_nil))))))), fun ts KK hl h => ?_⟩)
  obtain ⟨⟨a, b'⟩, ⟨c, d⟩, rfl, hf, hl2, g, hp, k⟩ := h
  have bf := bx_bd (by decide) hf
  have bl := bx_bd (by decide) hl2
  refine ⟨rfl, a, b', rfl, hf, g, fun p q e bp bq => ?_⟩
  refine ⟨rfl, ?_⟩
  have D := bx_cr hf hl2
  have bD : Bd (cr (a, b') (c, d)) := bd_small (by (first | lia | omega))
  refine ⟨_, _, _, _, [], [], rfl, ⟨⟨bq.neg.bd, bp.bd⟩, bl.1, bl.2⟩, a, b', c, d, [], [], rfl, ⟨⟨bf.1, bf.2⟩, bl.1, bl.2⟩, ⟨Int.ne_of_gt hp, bD⟩, ?_⟩
  have e0 : -q * d - p * c = cr (-q, p) (c, d) := rfl
  have e1 : a * d - b' * c = cr (a, b') (c, d) := rfl
  rw [e0, e1]
  have dpos : 0 ≤ cr (a, b') (c, d) := Int.le_of_lt hp
  have bt : Bk 1800 (cr (-q, p) (c, d)) := by
    have c6 : Bk 20 c := by unfold Bk; unfold Bx at hl2; simp only at hl2; (first | lia | omega)
    have d6 : Bk 20 d := by unfold Bk; unfold Bx at hl2; simp only at hl2; (first | lia | omega)
    exact ((bq.neg.mul d6).sub (bp.mul c6)).mono (by decide)
  have nb : Bd ((cr (-q, p) (c, d)).fdiv (cr (a, b') (c, d))) := by
    have := fdiv_abs (a := cr (-q, p) (c, d)) (b := cr (a, b') (c, d)) (Int.ne_of_gt hp)
    unfold Bd
    unfold Bk at bt
    have := Nat.pow_lt_pow_right (a := 2) (m := 1800) (n := 2000) (by decide) (by decide)
    exact Nat.lt_of_le_of_lt ‹_› (by generalize 2 ^ 1800 = X at *; generalize 2 ^ 2000 = Y at *; (first | lia | omega))
  refine ⟨⟨nb, bf.1⟩, ⟨nb, bf.2⟩, k (-q - (cr (-q, p) (c, d)).fdiv (cr (a, b') (c, d)) * a, p - (cr (-q, p) (c, d)).fdiv (cr (a, b') (c, d)) * b') ?_ ?_ ?_⟩
  all_goals
    have fe := fmod_eq (cr (-q, p) (c, d)) (cr (a, b') (c, d))
    have f0 := Int.fmod_nonneg_of_pos (cr (-q, p) (c, d)) hp
    have f1 := Int.fmod_lt_of_pos (cr (-q, p) (c, d)) hp
    generalize (cr (-q, p) (c, d)).fdiv (cr (a, b') (c, d)) = m at *
  · unfold cr; simp only; grind
  · have : cr (-q - m * a, p - m * b') (c, d) = cr (-q, p) (c, d) - m * cr (a, b') (c, d) := by unfold cr; simp only; grind
    (first | lia | omega)
  · have : cr (-q - m * a, p - m * b') (c, d) = cr (-q, p) (c, d) - m * cr (a, b') (c, d) := by unfold cr; simp only; grind
    (first | lia | omega)
theorem ok_next_behind (B : Blt mg bn) (F : Fun K "next_behind" "next_behind" s_next_behind f fd) (m : mg "next_behind" = some (.ref f)) (b : Binds K fd ["before", "here", "last"] []) (o_turn_to : Own P w K mg base 1 "turn_to" ["one", "other"] (spT 2 false false pTurn)) :
    Own P w K mg base 2 "next_behind" ["before", "here", "last"] (spT 3 false false pNextBehind) := by
  refine own_tree F sc_next_behind m b rfl (fun cdv A outer s H E hr => ⟨_, _,
    (pss_cons (ps_set (i := 3) sc_next_behind.nd rfl (Or.inl rfl) (pe_un un_neg (pe_op op_fdvB (pe_un un_neg (pe_own o_turn_to hr (pa_cons (pv 0) (pa_cons (pv 2) pa_nil)))) (pe_own o_turn_to hr (pa_cons (pv 1) (pa_cons (pv 2) pa_nil))))))
    (pss_one (ps_ret (pe_tup (pa_cons (pe_op op_sub (pe_op op_mulB (pv 3) (pe_ix (ix_seqK K) (pv 1) pe_int (fun _ _ => rfl))) (pe_ix (ix_seqK K) (pv 0) pe_int (fun _ _ => rfl))) (pa_cons (pe_op op_sub (pe_op op_mulB (pv 3) (pe_ix (ix_seqK K) (pv 1) pe_int (fun _ _ => rfl))) (pe_ix (ix_seqK K) (pv 0) pe_int (fun _ _ => rfl))) pa_nil)))))),
    (oks_seq (oks_set (ok_neg (ok_opS os_div (ok_neg (ok_own (oka_cons ok_var (oka_cons ok_var oka_nil)))) (ok_own (oka_cons ok_var (oka_cons ok_var oka_nil))))))
    (oks_ret (ok_tup (b := true) (oka_cons (ok_opS os_sub (ok_opS os_mul ok_var (ok_ix ok_var (ok_c (t := Tr.int _)))) (ok_ix ok_var (ok_c (t := Tr.int _)))) (oka_cons (ok_opS os_sub (ok_opS os_mul ok_var (ok_ix ok_var (ok_c (t := Tr.int _)))) (ok_ix ok_var (ok_c (t := Tr.int _)))) oka_nil))))), fun ts KK hl h => ?_⟩)
  obtain ⟨⟨a, b'⟩, ⟨c, d⟩, ⟨e, f'⟩, rfl, ⟨h1, h2, h3⟩, hp, k⟩ := h
  have b1 := bx_bd (by decide) h1
  have b2 := bx_bd (by decide) h2
  have b3 := bx_bd (by decide) h3
  have D1 := bx_cr (n := 1000) h1 h3
  have D2 := bx_cr (n := 1000) h2 h3
  refine ⟨a, b', e, f', [], [], rfl, ⟨⟨b1.1, b1.2⟩, b3.1, b3.2⟩, c, d, e, f', [], [], rfl, ⟨⟨b2.1, b2.2⟩, b3.1, b3.2⟩, ⟨Int.ne_of_gt hp, bd_of (by show _ ≤ cr (c, d) (e, f'); (first | lia | omega)) (by show cr (c, d) (e, f') ≤ _; (first | lia | omega))⟩, ?_⟩
  have mb := fdiv_abs (a := -(cr (a, b') (e, f'))) (b := cr (c, d) (e, f')) (Int.ne_of_gt hp)
  have bm : Bd (-((-(cr (a, b') (e, f'))).fdiv (cr (c, d) (e, f')))) := bd_of (by (first | lia | omega)) (by (first | lia | omega))
  exact ⟨⟨bm, b2.1⟩, ⟨bm, b2.2⟩, k⟩
theorem ok_makes_one (B : Blt mg bn) (F : Fun K "makes_one" "makes_one" s_makes_one f fd) (m : mg "makes_one" = some (.ref f)) (b : Binds K fd ["a", "b"] [])  :
    Own P w K mg base 1 "makes_one" ["a", "b"] (spT 2 false false pMakesOne) := by
  refine own_tree F sc_makes_one m b rfl (fun cdv A outer s H E hr => ⟨_, _,
    (pss_cons (ps_par3 (i := 2) (j := 3) (k := 4) rfl sc_makes_one.nd rfl rfl rfl (by decide) rfl rfl rfl (pa_cons (pv 0) (pa_cons pe_int (pa_cons pe_int pa_nil))) (by rfl))
    (pss_cons (ps_par3 (i := 5) (j := 6) (k := 7) rfl sc_makes_one.nd rfl rfl rfl (by decide) rfl rfl rfl (pa_cons (pv 1) (pa_cons pe_int (pa_cons pe_int pa_nil))) (by rfl))
    (pss_cons (ps_while PassesOwn.never (pt_cmpR (op_neD hr.units) (pv 5) pe_int (nomark _)) (pss_cons (ps_set (i := 8) sc_makes_one.nd rfl (Or.inl rfl) (pe_op op_fdvB (pv 2) (pv 5)))
    (pss_cons (ps_par (i := 2) (j := 5) rfl sc_makes_one.nd rfl rfl (by decide) rfl rfl (pa_cons (pv 5) (pa_cons (pe_op op_sub (pv 2) (pe_op op_mulB (pv 8) (pv 5))) pa_nil)) (by rfl))
    (pss_cons (ps_par (i := 3) (j := 6) rfl sc_makes_one.nd rfl rfl (by decide) rfl rfl (pa_cons (pv 6) (pa_cons (pe_op op_sub (pv 3) (pe_op op_mulB (pv 8) (pv 6))) pa_nil)) (by rfl))
    (pss_one (ps_par (i := 4) (j := 7) rfl sc_makes_one.nd rfl rfl (by decide) rfl rfl (pa_cons (pv 7) (pa_cons (pe_op op_sub (pv 4) (pe_op op_mulB (pv 8) (pv 7))) pa_nil)) (by rfl)))))))
    (pss_one (ps_ret (pe_tup (pa_cons (pe_op op_mulB (pv 2) (pv 3)) (pa_cons (pe_op op_mulB (pv 2) (pv 4)) pa_nil)))))))),
    (oks_seq (oks_par3 (oka_cons ok_var (oka_cons (ok_c (t := Tr.int _)) (oka_cons (ok_c (t := Tr.int _)) oka_nil))))
    (oks_seq (oks_par3 (oka_cons ok_var (oka_cons (ok_c (t := Tr.int _)) (oka_cons (ok_c (t := Tr.int _)) oka_nil))))
    (oks_seq (oks_while (okt_test (ok_opS os_ne ok_var (ok_c (t := Tr.int _)))) (oks_seq (oks_set (ok_opS os_div ok_var ok_var))
    (oks_seq (oks_par (oka_cons ok_var (oka_cons (ok_opS os_sub ok_var (ok_opS os_mul ok_var ok_var)) oka_nil)))
    (oks_seq (oks_par (oka_cons ok_var (oka_cons (ok_opS os_sub ok_var (ok_opS os_mul ok_var ok_var)) oka_nil)))
    (oks_par (oka_cons ok_var (oka_cons (ok_opS os_sub ok_var (ok_opS os_mul ok_var ok_var)) oka_nil)))))))
    (oks_ret (ok_tup (b := true) (oka_cons (ok_opS os_mul ok_var ok_var) (oka_cons (ok_opS os_mul ok_var ok_var) oka_nil))))))), fun ts KK hl h => ?_⟩)
  obtain ⟨a, b', rfl, hb, hg, k⟩ := h
  refine while_ind (fun n τ => ∃ (x p q y r s : Int) (z : TV), τ = [.fz (.int a), .fz (.int b'), .fz (.int x), .fz (.int p), .fz (.int q), .fz (.int y), .fz (.int r), .fz (.int s), z] ∧ n = y.natAbs ∧ (x.natAbs ≤ 200 ∧ y.natAbs ≤ 200) ∧
    (x = a * p + b' * q ∧ y = a * r + b' * s) ∧ Int.gcd x y = 1 ∧ (p.natAbs ≤ 2 ^ (8 * (200 - n)) ∧ q.natAbs ≤ 2 ^ (8 * (200 - n)) ∧ r.natAbs ≤ 2 ^ (8 * (200 - n)) ∧ s.natAbs ≤ 2 ^ (8 * (200 - n)))) b'.natAbs ?_ ?_
  · have := Nat.one_le_two_pow (n := 8 * (200 - b'.natAbs))
    exact ⟨a, 1, 0, b', 0, 1, _, rfl, rfl, ⟨by (first | lia | omega), by (first | lia | omega)⟩, ⟨by (first | lia | omega), by (first | lia | omega)⟩, hg, this, by (first | lia | omega), by (first | lia | omega), this⟩
  · rintro n τ N ⟨x, p, q, y, r, s', z, rfl, rfl, ⟨x2, y2⟩, ⟨e1, e2⟩, g, p1, q1, r1, s1⟩ hN
    have bk : ∀ {i : Int}, i.natAbs ≤ 2 ^ (8 * (200 - y.natAbs)) → Bk 1650 i := fun h => Nat.lt_of_le_of_lt h (Nat.pow_lt_pow_right (by decide) (by (first | lia | omega)))
    refine ite_bl (b := !decide (y = 0)) (fun c0 => ?_) (fun c0 => ?_)
    · have c0 : y ≠ 0 := by simpa using c0
      have fm := fmod_abs (a := x) c0
      have fd' := fdiv_abs (a := x) c0
      have mb : Bd (x.fdiv y) := bd_small (by (first | lia | omega))
      refine ⟨⟨c0, bd_small (by (first | lia | omega))⟩, ⟨mb, bd_small (by (first | lia | omega))⟩, ⟨mb, (bk r1).bd⟩, ⟨mb, (bk s1).bd⟩, ?_⟩
      have ey := fmod_eq x y
      have pw : 2 ^ (8 * (200 - y.natAbs)) * 256 ≤ 2 ^ (8 * (200 - (x.fmod y).natAbs)) := by
        rw [show (256 : Nat) = 2 ^ 8 from rfl, ← Nat.pow_add]
        exact Nat.pow_le_pow_right (by decide) (by (first | lia | omega))
      have big : ∀ {i j : Int}, i.natAbs ≤ 2 ^ (8 * (200 - y.natAbs)) → j.natAbs ≤ 2 ^ (8 * (200 - y.natAbs)) → (i - x.fdiv y * j).natAbs ≤ 2 ^ (8 * (200 - (x.fmod y).natAbs)) := fun {i j} h1 h2 => by
        have m1 : (x.fdiv y * j).natAbs = (x.fdiv y).natAbs * j.natAbs := Int.natAbs_mul _ _
        have m2 : (x.fdiv y).natAbs * j.natAbs ≤ 201 * 2 ^ (8 * (200 - y.natAbs)) := Nat.mul_le_mul (by (first | lia | omega)) h2
        have := Int.natAbs_sub_le i (x.fdiv y * j)
        (first | lia | omega)
      have le : ∀ {i : Int}, i.natAbs ≤ 2 ^ (8 * (200 - y.natAbs)) → i.natAbs ≤ 2 ^ (8 * (200 - (x.fmod y).natAbs)) := fun h => Nat.le_trans h (by (first | lia | omega))
      refine hN (x.fmod y).natAbs _ fm ⟨y, r, s', x - x.fdiv y * y, p - x.fdiv y * r, q - x.fdiv y * s', _, rfl, by rw [ey], ⟨y2, by rw [ey]; (first | lia | omega)⟩, ⟨e2, ?_⟩, ?_, le r1, le s1, big p1 r1, big q1 s1⟩
      · generalize x.fdiv y = m
        rw [e1, e2]; grind
      · rw [ey, gcd_fmod]; exact g
    · have c0 : y = 0 := by simpa using c0
      have gx : x.natAbs = 1 := by rw [c0, Int.gcd_zero_right] at g; exact g
      have xx : x * x = 1 := by
        rcases (show x = 1 ∨ x = -1 by (first | lia | omega)) with rfl | rfl <;> rfl
      refine ⟨⟨bd_small (by (first | lia | omega)), (bk p1).bd⟩, ⟨bd_small (by (first | lia | omega)), (bk q1).bd⟩, k _ _ ?_ ?_ ?_⟩
      · rw [show a * (x * p) + b' * (x * q) = x * (a * p + b' * q) by grind, ← e1, xx]
      · have : (x * p).natAbs = p.natAbs := by rw [Int.natAbs_mul, gx, Nat.one_mul]
        exact ((bk p1).le (by (first | lia | omega))).mono (by decide)
      · have : (x * q).natAbs = q.natAbs := by rw [Int.natAbs_mul, gx, Nat.one_mul]
        exact ((bk q1).le (by (first | lia | omega))).mono (by decide)
end
end K15
set_option Elab.async false
set_option linter.all false
set_option maxRecDepth 100000
set_option maxHeartbeats 4000000
namespace K15
open PySem L2 Trn
section
variable {P : Program} {w : World} {K : PySem.W.Frag} {mg : Str → Option Value} {base : Heap} {f : Addr} {fd : FuncData}
theorem ok__law_divisor (B : Blt mg bn) (F : Fun K "_law_divisor" "_law_divisor" s__law_divisor f fd) (m : mg "_law_divisor" = some (.ref f)) (b : Binds K fd ["_law_one", "_law_other"] [])  :
    Own P w K mg base 1 "_law_divisor" ["_law_one", "_law_other"] (spT 2 false false pGcd) := by
  refine own_tree F sc__law_divisor m b rfl (fun cdv A outer s H E hr => ⟨_, _,
    (pss_cons (ps_while PassesOwn.never (pt_cmpR (op_neD hr.units) (pv 1) pe_int (nomark _)) (pss_one (ps_par (i := 0) (j := 1) rfl sc__law_divisor.nd rfl rfl (by decide) rfl rfl (pa_cons (pv 1) (pa_cons (pe_op op_modN (pv 0) (pv 1)) pa_nil)) (by rfl))))
    (pss_one (ps_ret (pe_callB call_abs rfl (B.get "abs") bt_abs (pa_cons (pv 0) pa_nil))))),
    (oks_seq (oks_while (okt_test (ok_opS os_ne ok_var (ok_c (t := Tr.int _)))) (oks_par (oka_cons ok_var (oka_cons (ok_opS os_mod ok_var ok_var) oka_nil))))
    (oks_ret (ok_cbS cb_abs (oka_cons ok_var oka_nil)))), fun ts KK hl h => ?_⟩)
  obtain ⟨a, c, rfl, k⟩ := h
  refine while_ind (fun n τ => ∃ x y : Int, τ = [.fz (.int x), .fz (.int y)] ∧ n = y.natAbs ∧ Fra.gd x y = Fra.gd a c) c.natAbs ⟨_, _, rfl, rfl, rfl⟩ ?_
  rintro n τ N ⟨x, y, rfl, rfl, hg⟩ hN
  refine ite_bl (b := !decide (y = 0)) (fun c0 => ?_) (fun c0 => ?_)
  · have c0 : y ≠ 0 := by simpa using c0
    exact ⟨c0, hN (x.fmod y).natAbs _ (Fra.fmod_small c0) ⟨_, _, rfl, rfl, by rw [Fra.gd_fmod]; exact hg⟩⟩
  · have c0 : y = 0 := by simpa using c0
    subst c0
    rw [Fra.gd_zero] at hg
    have k : KK (.int (Fra.gd a c)) := k
    rw [← hg] at k
    exact k
theorem ok__law_low (B : Blt mg bn) (F : Fun K "_law_low" "_law_low" s__law_low f fd) (m : mg "_law_low" = some (.ref f)) (b : Binds K fd ["_law_top", "_law_bottom"] []) (o__law_divisor : Own P w K mg base 1 "_law_divisor" ["_law_one", "_law_other"] (spT 2 false false pGcd)) :
    Own P w K mg base 2 "_law_low" ["_law_top", "_law_bottom"] (spT 2 false false pLlow) := by
  refine own_tree F sc__law_low m b rfl (fun cdv A outer s H E hr => ⟨_, _,
    (pss_cons (ps_set (i := 2) sc__law_low.nd rfl (Or.inl rfl) (pe_own o__law_divisor hr (pa_cons (pv 0) (pa_cons (pv 1) pa_nil))))
    (pss_cons (ps_if (pt_cmpR (op_ltA K hr.units) (pv 1) pe_int (nomark _)) (pss_one (ps_set (i := 2) sc__law_low.nd rfl (Or.inl rfl) (pe_op op_sub pe_int (pv 2)))) pss_nil)
    (pss_one (ps_ret (pe_tup (pa_cons (pe_op op_fdvB (pv 0) (pv 2)) (pa_cons (pe_op op_fdvB (pv 1) (pv 2)) pa_nil))))))),
    (oks_seq (oks_set (ok_own (oka_cons ok_var (oka_cons ok_var oka_nil))))
    (oks_seq (oks_if (okt_test (ok_opS os_ltA ok_var (ok_c (t := Tr.int _)))) (oks_set (ok_opS os_sub (ok_c (t := Tr.int _)) ok_var)) oks_next)
    (oks_ret (ok_tup (b := true) (oka_cons (ok_opS os_div ok_var ok_var) (oka_cons (ok_opS os_div ok_var ok_var) oka_nil)))))), fun ts KK hl h => ?_⟩)
  obtain ⟨t, b, rfl, hb, bd, k⟩ := h
  refine ⟨t, b, rfl, ?_⟩
  have gp := Fra.gd_pos (a := t) (b := b) (.inr hb)
  have gb : Bd (Fra.gd t b) := bd_gcd hb bd
  refine ite_bl (b := decide (b < 0)) (fun c => ?_) (fun c => ?_)
  · have c := of_decide_eq_true c
    rw [lfr_neg c] at k
    have gn : Bd (0 - Fra.gd t b) := by unfold Bd at *; (first | lia | omega)
    have e1 : ∀ x : Int, x.fdiv (0 - Fra.gd t b) = (-x) / Fra.gd t b := fun x => by
      have h := Int.neg_fdiv_neg (-x) (Fra.gd t b)
      rw [Int.neg_neg] at h
      rw [show 0 - Fra.gd t b = -(Fra.gd t b) by (first | lia | omega), h, fdiv_pos (by (first | lia | omega))]
    have e2 : Fra.low (-t) (-b) = ((-t) / Fra.gd t b, (-b) / Fra.gd t b) := by
      unfold Fra.low
      rw [show Fra.gd (-t) (-b) = Fra.gd t b by unfold Fra.gd; simp]
    rw [e2, ← e1, ← e1] at k
    exact ⟨⟨by show (0 - Fra.gd t b) ≠ 0; (first | lia | omega), gn⟩, ⟨by show (0 - Fra.gd t b) ≠ 0; (first | lia | omega), gn⟩, k⟩
  · have c := of_decide_eq_false c
    rw [lfr_pos (by (first | lia | omega))] at k
    refine ⟨⟨by show Fra.gd t b ≠ 0; (first | lia | omega), gb⟩, ⟨by show Fra.gd t b ≠ 0; (first | lia | omega), gb⟩, ?_⟩
    show KK (.tup [.int (t.fdiv (Fra.gd t b)), .int (b.fdiv (Fra.gd t b))])
    rw [fdiv_pos (by (first | lia | omega)), fdiv_pos (by (first | lia | omega))]
    exact k
theorem ok__law_short (B : Blt mg bn) (F : Fun K "_law_short" "_law_short" s__law_short f fd) (m : mg "_law_short" = some (.ref f)) (b : Binds K fd ["_law_one"] []) (o__law_divisor : Own P w K mg base 1 "_law_divisor" ["_law_one", "_law_other"] (spT 2 false false pGcd)) :
    Own P w K mg base 2 "_law_short" ["_law_one"] (spT 1 false false pLshort) := by
  refine own_tree F sc__law_short m b rfl (fun cdv A outer s H E hr => ⟨_, _,
    (pss_cons (ps_set (i := 1) sc__law_short.nd rfl (Or.inl rfl) (pe_own o__law_divisor hr (pa_cons (pe_ix (ix_seqK K) (pv 0) pe_int (fun _ _ => rfl)) (pa_cons (pe_ix (ix_seqK K) (pv 0) pe_int (fun _ _ => rfl)) pa_nil))))
    (pss_one (ps_ret (pe_tup (pa_cons (pe_op op_fdvB (pe_ix (ix_seqK K) (pv 0) pe_int (fun _ _ => rfl)) (pv 1)) (pa_cons (pe_op op_fdvB (pe_ix (ix_seqK K) (pv 0) pe_int (fun _ _ => rfl)) (pv 1)) pa_nil)))))),
    (oks_seq (oks_set (ok_own (oka_cons (ok_ix ok_var (ok_c (t := Tr.int _))) (oka_cons (ok_ix ok_var (ok_c (t := Tr.int _))) oka_nil))))
    (oks_ret (ok_tup (b := true) (oka_cons (ok_opS os_div (ok_ix ok_var (ok_c (t := Tr.int _))) ok_var) (oka_cons (ok_opS os_div (ok_ix ok_var (ok_c (t := Tr.int _))) ok_var) oka_nil))))), fun ts KK hl h => ?_⟩)
  obtain ⟨⟨a, c⟩, rfl, nz, bx, k⟩ := h
  have g0 := gd_pos nz
  have gb : Bd (gd (a, c)) := by
    refine bd_small ⟨by (first | lia | omega), ?_⟩
    show ((Int.gcd a c : Nat) : Int) ≤ 1000000
    unfold Bx at bx
    simp only at bx
    by_cases ha : a = 0
    · have : c ≠ 0 := fun z => nz (by rw [ha, z])
      have := Int.gcd_le_natAbs_right a this
      (first | lia | omega)
    · have := Int.gcd_le_natAbs_left c ha
      (first | lia | omega)
  have g1 : gd (a, c) ≠ 0 := by (first | lia | omega)
  refine ⟨a, c, rfl, ⟨g1, gb⟩, ⟨g1, gb⟩, ?_⟩
  have e : ∀ x : Int, x.fdiv ((Int.gcd a c : Nat) : Int) = x / gd (a, c) := fun x => fdiv_pos (Int.le_of_lt g0)
  show KK (.tup [.int (a.fdiv ((Int.gcd a c : Nat) : Int)), .int (c.fdiv ((Int.gcd a c : Nat) : Int))])
  rw [e, e]
  exact k
theorem ok__law_turn (B : Blt mg bn) (F : Fun K "_law_turn" "_law_turn" s__law_turn f fd) (m : mg "_law_turn" = some (.ref f)) (b : Binds K fd ["_law_one", "_law_other"] [])  :
    Own P w K mg base 1 "_law_turn" ["_law_one", "_law_other"] (spT 2 false false pLturn) := by
  refine own_tree F sc__law_turn m b rfl (fun cdv A outer s H E hr => ⟨_, _,
    (pss_one (ps_ret (pe_op op_sub (pe_op op_mulB (pe_ix (ix_seqK K) (pv 0) pe_int (fun _ _ => rfl)) (pe_ix (ix_seqK K) (pv 1) pe_int (fun _ _ => rfl))) (pe_op op_mulB (pe_ix (ix_seqK K) (pv 0) pe_int (fun _ _ => rfl)) (pe_ix (ix_seqK K) (pv 1) pe_int (fun _ _ => rfl)))))),
    (oks_ret (ok_opS os_sub (ok_opS os_mul (ok_ix ok_var (ok_c (t := Tr.int _))) (ok_ix ok_var (ok_c (t := Tr.int _)))) (ok_opS os_mul (ok_ix ok_var (ok_c (t := Tr.int _))) (ok_ix ok_var (ok_c (t := Tr.int _)))))), fun ts KK hl h => ?_⟩)
  obtain ⟨u, v, rfl, ⟨hu, hv⟩, k⟩ := h
  have a := bx_bd (by decide) hu
  have c := bx_bd (by decide) hv
  exact ⟨⟨a.1, c.2⟩, ⟨a.2, c.1⟩, k⟩
theorem ok__law_made (B : Blt mg bn) (F : Fun K "_law_made" "_law_made" s__law_made f fd) (m : mg "_law_made" = some (.ref f)) (b : Binds K fd ["_law_found", "_law_third"] []) (o_parts : Own P w K mg base 4 "parts" ["one", "other", "thing"] (spT 3 false false pParts)) (o__law_turn : Own P w K mg base 1 "_law_turn" ["_law_one", "_law_other"] (spT 2 false false pLturn)) :
    Own P w K mg base 5 "_law_made" ["_law_found", "_law_third"] (spT 2 false false pLmade) := by
  refine own_tree F sc__law_made m b rfl (fun cdv A outer s H E hr => ⟨_, _,
    (pss_cons (ps_if (pt_cmpR (op_eqD hr.units) (pe_callB (call_lenK K) rfl (B.get "len") bt_len (pa_cons (pv 0) pa_nil)) pe_int (nomark _)) (pss_one (ps_ret pe_bl)) pss_nil)
    (pss_cons (ps_for PassesOwn.never rfl (pi_zip2 K rfl (B.get "zip") (pa_cons (pv 0) (pa_cons (pe_slice (sl_any K) (pv 0) (po_some pe_int) po_none) pa_nil))) (pg_tupK K (n := 2) rfl (pgs_cons (pg_name (i := 2) sc__law_made.nd rfl (Or.inl rfl)) (pgs_cons (pg_name (i := 3) sc__law_made.nd rfl (Or.inl rfl)) pgs_nil))) (pss_one (ps_if (PW.pt (pw_and (pt_cmpR op_ge (pe_own o__law_turn hr (pa_cons (pv 1) (pa_cons (pv 3) pa_nil))) pe_int (nomark _)) (pw_and1 (pt_cmpR op_ge (pe_own o__law_turn hr (pa_cons (pv 2) (pa_cons (pv 1) pa_nil))) pe_int (nomark _))))) (pss_cons (ps_set (i := 4) sc__law_made.nd rfl (Or.inl rfl) (pe_own o_parts hr (pa_cons (pv 2) (pa_cons (pv 3) (pa_cons (pv 1) pa_nil)))))
    (pss_one (ps_ret (pe_and (pe_cmp (pc_notN (pv 4))) (pe_and (pe_cmpR (op_eqD hr.units) (pe_ix (ix_seqK K) (pe_ix (ix_seqK K) (pv 4) pe_int (fun _ _ => rfl)) pe_int (fun _ _ => rfl)) pe_int (nomark _)) (pe_one (pe_cmpR (op_eqD hr.units) (pe_ix (ix_seqK K) (pe_ix (ix_seqK K) (pv 4) pe_int (fun _ _ => rfl)) pe_int (fun _ _ => rfl)) pe_int (nomark _)))))))) pss_nil)))
    (pss_one (ps_ret pe_bl)))),
    (oks_seq (oks_if (okt_test (ok_opS os_eq (ok_cbS cb_len (oka_cons ok_var oka_nil)) (ok_c (t := Tr.int _)))) (oks_ret (ok_c (t := Tr.bl _))) oks_next)
    (oks_seq (oks_for (oki_zip2 (oka_cons ok_var (oka_cons (ok_slA ok_var (oko_some (ok_c (t := Tr.int _))) oko_none) oka_nil))) (okn_tup (okns_cons okn_name (okns_cons okn_name okns_nil))).g (oks_if (okt_and (okt_test (ok_opS os_ge (ok_own (oka_cons ok_var (oka_cons ok_var oka_nil))) (ok_c (t := Tr.int _)))) (okt_test (ok_opS os_ge (ok_own (oka_cons ok_var (oka_cons ok_var oka_nil))) (ok_c (t := Tr.int _))))) (oks_seq (oks_set (ok_own (oka_cons ok_var (oka_cons ok_var (oka_cons ok_var oka_nil)))))
    (oks_ret (ok_andV (ok_notN ok_var) (ok_andV (ok_opS os_eq (ok_ix (ok_ix ok_var (ok_c (t := Tr.int _))) (ok_c (t := Tr.int _))) (ok_c (t := Tr.int _))) (ok_opS os_eq (ok_ix (ok_ix ok_var (ok_c (t := Tr.int _))) (ok_c (t := Tr.int _))) (ok_c (t := Tr.int _))))))) oks_next))
    (oks_ret (ok_c (t := Tr.bl _))))), fun ts KK hl h => ?_⟩)
  obtain ⟨u, v, x, h, rfl, hp, B0, hc, nz, bx, k⟩ := h
  have h2 := B0.l2
  have hl2 := B0.len
  refine seq_cut (fun τ => τ = [.fz (.lst (h.map drD)), .fz (drD x), .un, .un, .un]) ?_ (fun N hN => ?_)
  rotate_left
  · refine ite_bl (b := decide (((h.map drD).length : Int) = 1)) (fun c => ?_) (fun c => hN _ rfl)
    have c := of_decide_eq_true c
    rw [List.length_map] at c
    (first | lia | omega)
  rintro _ rfl
  have e1 : cutT (h.map drD) (some 1) none = (h.drop 1).map drD := (cut_from _ 1).trans (List.map_drop).symm
  have ez : zipT (h.map drD) (cutT (h.map drD) (some 1) none) = (h.zip (h.drop 1)).map prT := by rw [e1]; exact zipT_mapD drD drD _ _
  refine seq_cut (fun τ => False) (fun τ z => z.elim) (fun N hN => ?_)
  refine sFor_idx ((h.zip (h.drop 1)).map prT) (fun i τ => ∃ x2 x3 x4 : TV, τ = [.fz (.lst (h.map drD)), .fz (drD x), x2, x3, x4] ∧ ∀ j, j < i → ∀ p q, h[j]? = some p → h[j + 1]? = some q → ¬ (0 ≤ cr x q ∧ 0 ≤ cr p x)) (fun KK h => by rw [← ez] at h; exact h) ⟨_, _, _, rfl, fun j hj => by (first | lia | omega)⟩ ?_ (fun τ h0 => ?_)
  rotate_left
  · obtain ⟨x2, x3, x4, rfl, hno⟩ := h0
    obtain ⟨i, p, q, ep, eq, c1, c2⟩ := B0.chn.made B0.l2 B0.fst B0.lst ((inC_und hp).mpr hc)
    refine absurd ⟨c1, c2⟩ (hno i ?_ p q ep eq)
    have := (List.getElem?_eq_some_iff.mp eq).1
    rw [List.length_map, List.length_zip, List.length_drop]
    (first | lia | omega)
  rintro i y τ N2 hy ⟨x2, x3, x4, rfl, hno⟩ hN2
  obtain ⟨⟨p, q⟩, hpq, rfl⟩ := map_get hy
  obtain ⟨ep, eq⟩ := zip_next hpq
  have bp := B0.bd p (List.mem_of_getElem? ep)
  have bq := B0.bd q (List.mem_of_getElem? eq)
  have one := B0.chn.one i p q ep eq
  have next : ¬ (0 ≤ cr x q ∧ 0 ≤ cr p x) → N2 [.fz (.lst (h.map drD)), .fz (drD x), .fz (drD p), .fz (drD q), x4] := fun z => by
    refine hN2 _ ⟨_, _, _, rfl, fun j hj p' q' ep' eq' => ?_⟩
    by_cases c : j = i
    · subst c
      rw [ep] at ep'; rw [eq] at eq'; cases ep'; cases eq'
      exact z
    · exact hno j (by (first | lia | omega)) p' q' ep' eq'
  refine ⟨rfl, x, q, rfl, ⟨bx, bq.mono (by decide)⟩, ?_⟩
  refine ite_bl (b := decide (0 ≤ cr x q)) (fun c1 => ?_) (fun c1 => ?_)
  rotate_left
  · exact iteF (next fun z => of_decide_eq_false c1 z.1)
  have c1 := of_decide_eq_true c1
  refine ⟨p, x, rfl, ⟨bp.mono (by decide), bx⟩, ?_⟩
  refine ite_bl (b := decide (0 ≤ cr p x)) (fun c2 => ?_) (fun c2 => next fun z => of_decide_eq_false c2 z.2)
  have c2 := of_decide_eq_true c2
  refine ⟨p.1, p.2, q.1, q.2, drD x, rfl, bx_l4 (n := 1000) (by decide) bp bq, tupS_drT _ _, bx_l24 (by decide) bx, by show 0 < cr p q; (first | lia | omega), ?_⟩
  rw [partsT_some nz ⟨c2, c1⟩, one, lowT_one, lowT_one]
  exact k
end
end K15
set_option Elab.async false
set_option linter.all false
set_option maxRecDepth 100000
set_option maxHeartbeats 4000000
namespace K15
open PySem L2 Trn
section
variable {P : Program} {w : World} {K : PySem.W.Frag} {mg : Str → Option Value} {base : Heap} {f : Addr} {fd : FuncData}
theorem ok_law (B : Blt mg bn) (F : Fun K "law" "law" s_law f fd) (o__law_state : Own P w K mg base 2 "_law_state" ["_law_script", "_law_k"] (spState K)) (o__law_turn : Own P w K mg base 1 "_law_turn" ["_law_one", "_law_other"] (spT 2 false false pLturn)) (o_between : Own P w K mg base 3 "between" ["one", "other"] (spT 2 false true pBetween)) (o__law_take : Own P w K mg base 1 "_law_take" ["_law_state_here", "_law_many"] (spT 1 true false pTake)) (o__law_short : Own P w K mg base 2 "_law_short" ["_law_one"] (spT 1 false false pLshort)) (o_parts : Own P w K mg base 4 "parts" ["one", "other", "thing"] (spT 3 false false pParts)) (o__law_made : Own P w K mg base 5 "_law_made" ["_law_found", "_law_third"] (spT 2 false false pLmade)) :
    FnOk P w K mg base CX0 6 f fd ["_law_script"] (spLaw K) := by
  refine law_tree F sc_law rfl (fun cdv A outer s H E hr => ⟨_, _,
    (pss_cons (ps_for PassesOwn.never rfl (pi_range1 rfl (B.get "range") (pa_cons (pe_callB (call_max2 rfl) rfl (B.get "max") bt_max (pa_cons pe_int (pa_cons (pe_callB (call_min2 rfl) rfl (B.get "min") bt_min (pa_cons (pe_callB (call_lenK K) rfl (B.get "len") bt_len (pa_cons (pv 0) pa_nil)) (pa_cons pe_int pa_nil))) pa_nil))) pa_nil)) (pg_name (i := 1) sc_law.nd rfl (Or.inl rfl)) (pss_cons (ps_set (i := 2) sc_law.nd rfl (Or.inl rfl) (pe_own o__law_state hr (pa_cons (pv 0) (pa_cons (pv 1) pa_nil))))
    (pss_cons (ps_set (i := 3) sc_law.nd rfl (Or.inl rfl) (pe_tup (pa_cons (pe_op op_sub (pe_own o__law_take hr (pa_cons (pv 2) (pa_cons pe_int pa_nil))) pe_int) (pa_cons (pe_op op_sub (pe_own o__law_take hr (pa_cons (pv 2) (pa_cons pe_int pa_nil))) pe_int) pa_nil))))
    (pss_cons (ps_set (i := 4) sc_law.nd rfl (Or.inl rfl) (pe_tup (pa_cons (pe_op op_sub (pe_own o__law_take hr (pa_cons (pv 2) (pa_cons pe_int pa_nil))) pe_int) (pa_cons (pe_op op_sub (pe_own o__law_take hr (pa_cons (pv 2) (pa_cons pe_int pa_nil))) pe_int) pa_nil))))
    (pss_cons (ps_if (pt_cmpR (op_ltA K hr.units) (pe_own o__law_turn hr (pa_cons (pv 3) (pa_cons (pv 4) pa_nil))) pe_int (nomark _)) (pss_one (ps_par (i := 3) (j := 4) rfl sc_law.nd rfl rfl (by decide) rfl rfl (pa_cons (pv 4) (pa_cons (pv 3) pa_nil)) (by rfl))) pss_nil)
    (pss_one (ps_if (pt_cmpR op_gt (pe_own o__law_turn hr (pa_cons (pv 3) (pa_cons (pv 4) pa_nil))) pe_int (nomark _)) (pss_cons (ps_set (i := 5) sc_law.nd rfl (Or.inl rfl) (pe_own o_between hr (pa_cons (pv 3) (pa_cons (pv 4) pa_nil))))
    (pss_cons (ps_if (PW.pt (pw_or (pt_cmpR (op_neD hr.units) (pe_ix (ix_seqK K) (pv 5) pe_int (fun _ _ => rfl)) (pe_own o__law_short hr (pa_cons (pv 3) pa_nil)) (nomark _)) (pw_or1 (pt_cmpR (op_neD hr.units) (pe_ix (ix_seqK K) (pv 5) (pe_un un_neg pe_int) (fun _ _ => rfl)) (pe_own o__law_short hr (pa_cons (pv 4) pa_nil)) (nomark _))))) (pss_one (ps_ret pe_bl)) pss_nil)
    (pss_cons (ps_if (pt_cmpR (op_neD hr.units) (pe_comp (compOk_of (N := ["_law_pair"]) (tau := [none]) (XN := ["_law_script", "_law_k", "_law_state_here", "_law_one", "_law_other", "_law_found", "_law_ahead", "_law_here", "_law_later", "_law_a", "_law_b", "_law_many", "_law_turn_here", "_law_p", "_law_q", "_law_third"]) (xs := defScope s_law) (by decide +kernel) rfl rfl) rfl (ga_name rfl) (pi_zipG K rfl (B.get "zip") (pa_cons (pv 5) (pa_cons (pe_slice (sl_any K) (pv 5) (po_some pe_int) po_none) pa_nil))) (fun _ _ _ _ => (pg_name (i := 0) (show (["_law_pair"] : List Str).Nodup by decide +kernel) rfl (Or.inl rfl))) (fun _ _ _ _ => (pif_one (pt_cmpR (op_neD hr.units) (pe_own o__law_turn hr (pa_cons (pe_ix (ix_seqK K) (pv 0) pe_int (fun _ _ => rfl)) (pa_cons (pe_ix (ix_seqK K) (pv 0) pe_int (fun _ _ => rfl)) pa_nil))) pe_int (nomark _)))) (fun _ _ _ _ => (pv 0))) (pe_lst pa_nil) (nomark _)) (pss_one (ps_ret pe_bl)) pss_nil)
    (pss_cons (ps_for PassesOwn.never rfl (pi_zip3 K rfl (B.get "zip") (pa_cons (pv 5) (pa_cons (pe_slice (sl_any K) (pv 5) (po_some pe_int) po_none) (pa_cons (pe_slice (sl_any K) (pv 5) (po_some pe_int) po_none) pa_nil)))) (pg_tupK K (n := 3) rfl (pgs_cons (pg_name (i := 6) sc_law.nd rfl (Or.inl rfl)) (pgs_cons (pg_name (i := 7) sc_law.nd rfl (Or.inl rfl)) (pgs_cons (pg_name (i := 8) sc_law.nd rfl (Or.inl rfl)) pgs_nil)))) (pss_cons (ps_if (pt_cmp (pc_isN (pe_own o_parts hr (pa_cons (pv 3) (pa_cons (pv 4) (pa_cons (pv 7) pa_nil)))))) (pss_one (ps_ret pe_bl)) pss_nil)
    (pss_cons (ps_par (i := 9) (j := 10) rfl sc_law.nd rfl rfl (by decide) rfl rfl (pa_cons (pe_op op_add (pe_ix (ix_seqK K) (pv 6) pe_int (fun _ _ => rfl)) (pe_ix (ix_seqK K) (pv 8) pe_int (fun _ _ => rfl))) (pa_cons (pe_op op_add (pe_ix (ix_seqK K) (pv 6) pe_int (fun _ _ => rfl)) (pe_ix (ix_seqK K) (pv 8) pe_int (fun _ _ => rfl))) pa_nil)) (by rfl))
    (pss_cons (ps_set (i := 11) sc_law.nd rfl (Or.inl rfl) (pe_own o__law_turn hr (pa_cons (pv 6) (pa_cons (pv 8) pa_nil))))
    (pss_one (ps_if (PW.pt (pw_or (pt_cmpR (op_neD hr.units) (pe_tup (pa_cons (pv 9) (pa_cons (pv 10) pa_nil))) (pe_tup (pa_cons (pe_op op_mulB (pv 11) (pe_ix (ix_seqK K) (pv 7) pe_int (fun _ _ => rfl))) (pa_cons (pe_op op_mulB (pv 11) (pe_ix (ix_seqK K) (pv 7) pe_int (fun _ _ => rfl))) pa_nil))) (nomark _)) (pw_or1 (pt_cmpR (op_ltA K hr.units) (pv 11) pe_int (nomark _))))) (pss_one (ps_ret pe_bl)) pss_nil))))))
    (pss_one (ps_for PassesOwn.never rfl (pi_range1 rfl (B.get "range") (pa_cons pe_int pa_nil)) (pg_name (i := 12) sc_law.nd rfl (Or.inl rfl)) (pss_cons (ps_par (i := 13) (j := 14) rfl sc_law.nd rfl rfl (by decide) rfl rfl (pa_cons (pe_own o__law_take hr (pa_cons (pv 2) (pa_cons pe_int pa_nil))) (pa_cons (pe_own o__law_take hr (pa_cons (pv 2) (pa_cons pe_int pa_nil))) pa_nil)) (by rfl))
    (pss_cons (ps_set (i := 15) sc_law.nd rfl (Or.inl rfl) (pe_tup (pa_cons (pe_op op_add (pe_op op_mulB (pv 13) (pe_ix (ix_seqK K) (pv 3) pe_int (fun _ _ => rfl))) (pe_op op_mulB (pv 14) (pe_ix (ix_seqK K) (pv 4) pe_int (fun _ _ => rfl)))) (pa_cons (pe_op op_add (pe_op op_mulB (pv 13) (pe_ix (ix_seqK K) (pv 3) pe_int (fun _ _ => rfl))) (pe_op op_mulB (pv 14) (pe_ix (ix_seqK K) (pv 4) pe_int (fun _ _ => rfl)))) pa_nil))))
    (pss_one (ps_if (pt_cmpR (op_neD hr.units) (pv 15) (pe_tup (pa_cons pe_int (pa_cons pe_int pa_nil))) (nomark _)) (pss_one (ps_if (PW.pt (pw_or (pt_not (pt_val (pe_own o__law_made hr (pa_cons (pv 5) (pa_cons (pv 15) pa_nil))))) (pw_or1 (pt_not (pt_val (pe_own o__law_made hr (pa_cons (pv 5) (pa_cons (pe_own o__law_short hr (pa_cons (pv 15) pa_nil)) pa_nil)))))))) (pss_one (ps_ret pe_bl)) pss_nil)) pss_nil)))))))))) pss_nil)))))))
    (pss_one (ps_ret pe_bl))),
    (oks_seq (oks_for (oki_range1 (oka_cons (ok_cbS cb_max2 (oka_cons (ok_c (t := Tr.int _)) (oka_cons (ok_cbS cb_min2 (oka_cons ok_lenSc (oka_cons (ok_c (t := Tr.int _)) oka_nil))) oka_nil))) oka_nil)) okn_name.g (oks_seq (oks_state ok_var)
    (oks_seq (oks_set (ok_tup (b := true) (oka_cons (ok_opS os_sub (ok_ownS (oka_cons (ok_c (t := Tr.int _)) oka_nil)) (ok_c (t := Tr.int _))) (oka_cons (ok_opS os_sub (ok_ownS (oka_cons (ok_c (t := Tr.int _)) oka_nil)) (ok_c (t := Tr.int _))) oka_nil))))
    (oks_seq (oks_set (ok_tup (b := true) (oka_cons (ok_opS os_sub (ok_ownS (oka_cons (ok_c (t := Tr.int _)) oka_nil)) (ok_c (t := Tr.int _))) (oka_cons (ok_opS os_sub (ok_ownS (oka_cons (ok_c (t := Tr.int _)) oka_nil)) (ok_c (t := Tr.int _))) oka_nil))))
    (oks_seq (oks_if (okt_test (ok_opS os_ltA (ok_own (oka_cons ok_var (oka_cons ok_var oka_nil))) (ok_c (t := Tr.int _)))) (oks_par (oka_cons ok_var (oka_cons ok_var oka_nil))) oks_next)
    (oks_if (okt_test (ok_opS os_gt (ok_own (oka_cons ok_var (oka_cons ok_var oka_nil))) (ok_c (t := Tr.int _)))) (oks_seq (oks_set (ok_own (oka_cons ok_var (oka_cons ok_var oka_nil))))
    (oks_seq (oks_if (okt_or (okt_test (ok_opS os_ne (ok_ix ok_var (ok_c (t := Tr.int _))) (ok_own (oka_cons ok_var oka_nil)))) (okt_test (ok_opS os_ne (ok_ix ok_var (ok_neg (ok_c (t := Tr.int _)))) (ok_own (oka_cons ok_var oka_nil))))) (oks_ret (ok_c (t := Tr.bl _))) oks_next)
    (oks_seq (oks_if (okt_test (ok_opS os_ne (OkF.e (okf_comp (oki_zip2 (oka_cons ok_var (oka_cons (ok_slA ok_var (oko_some (ok_c (t := Tr.int _))) oko_none) oka_nil))).c okn_name (okt_test (ok_opS os_ne (ok_own (oka_cons (ok_ix ok_var (ok_c (t := Tr.int _))) (oka_cons (ok_ix ok_var (ok_c (t := Tr.int _))) oka_nil))) (ok_c (t := Tr.int _)))) ok_var)) (ok_lst (b := true) oka_nil))) (oks_ret (ok_c (t := Tr.bl _))) oks_next)
    (oks_seq (oks_for (oki_zip3 (oka_cons ok_var (oka_cons (ok_slA ok_var (oko_some (ok_c (t := Tr.int _))) oko_none) (oka_cons (ok_slA ok_var (oko_some (ok_c (t := Tr.int _))) oko_none) oka_nil)))) (okn_tup (okns_cons okn_name (okns_cons okn_name (okns_cons okn_name okns_nil)))).g (oks_seq (oks_if (okt_tB (ok_isN (ok_own (oka_cons ok_var (oka_cons ok_var (oka_cons ok_var oka_nil)))))) (oks_ret (ok_c (t := Tr.bl _))) oks_next)
    (oks_seq (oks_par (oka_cons (ok_opS os_add (ok_ix ok_var (ok_c (t := Tr.int _))) (ok_ix ok_var (ok_c (t := Tr.int _)))) (oka_cons (ok_opS os_add (ok_ix ok_var (ok_c (t := Tr.int _))) (ok_ix ok_var (ok_c (t := Tr.int _)))) oka_nil)))
    (oks_seq (oks_set (ok_own (oka_cons ok_var (oka_cons ok_var oka_nil))))
    (oks_if (okt_or (okt_test (ok_opS os_ne (ok_tup (b := true) (oka_cons ok_var (oka_cons ok_var oka_nil))) (ok_tup (b := true) (oka_cons (ok_opS os_mul ok_var (ok_ix ok_var (ok_c (t := Tr.int _)))) (oka_cons (ok_opS os_mul ok_var (ok_ix ok_var (ok_c (t := Tr.int _)))) oka_nil))))) (okt_test (ok_opS os_ltA ok_var (ok_c (t := Tr.int _))))) (oks_ret (ok_c (t := Tr.bl _))) oks_next)))))
    (oks_for (oki_range1 (oka_cons (ok_c (t := Tr.int _)) oka_nil)) okn_name.g (oks_seq (oks_par (oka_cons (ok_ownS (oka_cons (ok_c (t := Tr.int _)) oka_nil)) (oka_cons (ok_ownS (oka_cons (ok_c (t := Tr.int _)) oka_nil)) oka_nil)))
    (oks_seq (oks_set (ok_tup (b := true) (oka_cons (ok_opS os_add (ok_opS os_mul ok_var (ok_ix ok_var (ok_c (t := Tr.int _)))) (ok_opS os_mul ok_var (ok_ix ok_var (ok_c (t := Tr.int _))))) (oka_cons (ok_opS os_add (ok_opS os_mul ok_var (ok_ix ok_var (ok_c (t := Tr.int _)))) (ok_opS os_mul ok_var (ok_ix ok_var (ok_c (t := Tr.int _))))) oka_nil))))
    (oks_if (okt_test (ok_opS os_ne ok_var (ok_tup (b := true) (oka_cons (ok_c (t := Tr.int _)) (oka_cons (ok_c (t := Tr.int _)) oka_nil))))) (oks_if (okt_or (okt_not (okt_tB (ok_own (oka_cons ok_var (oka_cons ok_var oka_nil))))) (okt_not (okt_tB (ok_own (oka_cons ok_var (oka_cons (ok_own (oka_cons ok_var oka_nil)) oka_nil)))))) (oks_ret (ok_c (t := Tr.bl _))) oks_next) oks_next)))))))) oks_next))))))
    (oks_ret (ok_c (t := Tr.bl _)))), fun ns hl => ?_⟩)
  refine seq_cut (fun τ => True) (fun τ _ => rfl) (fun N hN => ?_)
  refine sFor_idx _ (fun i τ => ∃ (x1 x2 x3 x4 x5 x6 x7 x8 x9 x10 x11 x12 x13 x14 x15 : TV), τ = [.sc ns, x1, x2, x3, x4, x5, x6, x7, x8, x9, x10, x11, x12, x13, x14, x15]) (fun KK h => fun _ => ⟨⟨by split <;> split <;> (first | lia | omega), by split <;> split <;> (first | lia | omega)⟩, h⟩) ⟨_, _, _, _, _, _, _, _, _, _, _, _, _, _, _, rfl⟩ ?_ (fun τ _ => hN _ trivial)
  rintro i x τ N2 hx ⟨x1, x2, x3, x4, x5, x6, x7, x8, x9, x10, x11, x12, x13, x14, x15, rfl⟩ hN2
  have hi := (List.getElem?_eq_some_iff.mp hx).1
  rw [rngT_len] at hi
  rw [rngT_get hi] at hx
  cases hx
  dsimp only [sNext, eCons, eName, eNil]
  have hk : (0 : Int) ≤ (0 : Int) + i := by (first | lia | omega)
  generalize (0 : Int) + i = kk at hk
  show sSeq _ _ _ ([.sc ns, .fz (.int kk), x2, x3, x4, x5, x6, x7, x8, x9, x10, x11, x12, x13, x14, x15] : TSt)
  refine seq_cut (fun τ => τ = [.sc ns, .fz (.int kk), .st, x3, x4, x5, x6, x7, x8, x9, x10, x11, x12, x13, x14, x15]) ?_ (fun N hN => ⟨hk, hN _ rfl⟩)
  rintro _ rfl
  refine seq_cut (fun τ => ∃ u : D2, Bx 60 u ∧ τ = [.sc ns, .fz (.int kk), .st, .fz (drD u), x4, x5, x6, x7, x8, x9, x10, x11, x12, x13, x14, x15]) ?_ (fun N hN => ⟨tk (by decide), fun a a0 a1 => ⟨tk (by decide), fun c c0 c1 => hN _ ⟨(a - 60, c - 60), by unfold Bx; simp only; (first | lia | omega), rfl⟩⟩⟩)
  rintro _ ⟨u, hu, rfl⟩
  refine seq_cut (fun τ => ∃ v : D2, Bx 60 v ∧ τ = [.sc ns, .fz (.int kk), .st, .fz (drD u), .fz (drD v), x5, x6, x7, x8, x9, x10, x11, x12, x13, x14, x15]) ?_ (fun N hN => ⟨tk (by decide), fun a a0 a1 => ⟨tk (by decide), fun c c0 c1 => hN _ ⟨(a - 60, c - 60), by unfold Bx; simp only; (first | lia | omega), rfl⟩⟩⟩)
  rintro _ ⟨v, hv, rfl⟩
  refine seq_cut (fun τ => ∃ u v : D2, Bx 60 u ∧ Bx 60 v ∧ τ = [.sc ns, .fz (.int kk), .st, .fz (drD u), .fz (drD v), x5, x6, x7, x8, x9, x10, x11, x12, x13, x14, x15]) ?_ (fun N hN => ⟨u, v, rfl, ⟨hu.mono (by decide), hv.mono (by decide)⟩, ite_bl (b := decide (cr u v < 0)) (fun c => hN _ ⟨v, u, hv, hu, rfl⟩) (fun c => hN _ ⟨u, v, hu, hv, rfl⟩)⟩)
  clear hu hv u v
  rintro _ ⟨u, v, hu, hv, rfl⟩
  refine ⟨u, v, rfl, ⟨hu.mono (by decide), hv.mono (by decide)⟩, ite_bl (b := decide (0 < cr u v)) (fun hp => ?_) (fun c => hN2 _ ⟨_, _, _, _, _, _, _, _, _, _, _, _, _, _, _, rfl⟩)⟩
  have hp := of_decide_eq_true hp
  obtain ⟨nu, nv⟩ := cr_nz hp
  refine seq_cut (fun τ => ∃ h : List D2, BtwOK u v h ∧ τ = [.sc ns, .fz (.int kk), .st, .fz (drD u), .fz (drD v), .fz (.lst (h.map drD)), x6, x7, x8, x9, x10, x11, x12, x13, x14, x15]) ?_ (fun N hN => ⟨u, v, rfl, hu.mono (by decide), hv.mono (by decide), hp, fun h B => hN _ ⟨h, B, rfl⟩⟩)
  rintro _ ⟨h, B0, rfl⟩
  have h2 := B0.l2
  have hl2 := B0.len
  have a0 : atT (h.map drD) 0 = some (drD (und u)) := by
    show getT (h.map drD) 0 = _
    rw [getT_eq, List.getElem?_map, B0.fst]; rfl
  have a1 : atT (h.map drD) (-1) = some (drD (und v)) := by
    show (if 0 < (h.map drD).length then getT (h.map drD) ((h.map drD).length - 1 - 0) else none) = _
    rw [List.length_map, if_pos (by (first | lia | omega)), getT_eq, List.getElem?_map, Nat.sub_zero, B0.lst]; rfl
  refine seq_cut (fun τ => τ = [.sc ns, .fz (.int kk), .st, .fz (drD u), .fz (drD v), .fz (.lst (h.map drD)), x6, x7, x8, x9, x10, x11, x12, x13, x14, x15]) ?_ (fun N hN => ?_)
  rotate_left
  · show fOpt (atT (h.map drD) 0) _
    rw [a0]
    refine ⟨u, rfl, nu, hu.mono (by decide), eqOk_drD _ _, ?_⟩
    show if (!teq (drD (und u)) (drD (und u))) = true then _ else _
    rw [teq_drD, decide_eq_true rfl]
    refine iteF ?_
    show fOpt (atT (h.map drD) (-1)) _
    rw [a1]
    refine ⟨v, rfl, nv, hv.mono (by decide), eqOk_drD _ _, ?_⟩
    show if (!teq (drD (und v)) (drD (und v))) = true then _ else _
    rw [teq_drD, decide_eq_true rfl]
    exact iteF (hN _ rfl)
  rintro _ rfl
  have e1 : cutT (h.map drD) (some 1) none = (h.drop 1).map drD := (cut_from _ 1).trans (List.map_drop).symm
  have e2 : cutT (h.map drD) (some 2) none = (h.drop 2).map drD := (cut_from _ 2).trans (List.map_drop).symm
  have ez : zipT (h.map drD) (cutT (h.map drD) (some 1) none) = (h.zip (h.drop 1)).map prT := by rw [e1]; exact zipT_mapD drD drD _ _
  have bd : ∀ {i : Nat} {p : D2}, h[i]? = some p → Bx 2000 p := fun e => (B0.bd _ (List.mem_of_getElem? e)).mono (by decide)
  refine seq_cut (fun τ => τ = [.sc ns, .fz (.int kk), .st, .fz (drD u), .fz (drD v), .fz (.lst (h.map drD)), x6, x7, x8, x9, x10, x11, x12, x13, x14, x15]) ?_ (fun N hN => ?_)
  rotate_left
  · show (zipT (h.map drD) (cutT (h.map drD) (some 1) none)).length < sizeLine ∧ cRun _ _ _ _ _ (zipT (h.map drD) (cutT (h.map drD) (some 1) none)) []
    rw [ez]
    refine ⟨by rw [List.length_map, List.length_zip]; exact sqz (by (first | lia | omega)), cRun_filterM (fun _ => false) prT (fun y hy N M h1 h0 => ?_) ?_⟩
    · obtain ⟨j, hj⟩ := List.mem_iff_getElem?.mp hy
      obtain ⟨ep, eq⟩ := zip_next hj
      refine ⟨y.1, y.2, rfl, ⟨bd ep, bd eq⟩, ?_⟩
      rw [B0.chn.one j y.1 y.2 ep eq]
      exact h0 rfl
    · dsimp only [dLst, dNil]
      rw [show (h.zip (h.drop 1)).filter (fun _ => false) = [] from List.filter_eq_nil_iff.mpr (fun _ _ z => absurd z Bool.false_ne_true)]
      exact ⟨eqOk_nil rfl, hN _ rfl⟩
  rintro _ rfl
  refine seq_cut (fun τ => ∃ y6 y7 y8 y9 y10 y11 : TV, τ = [.sc ns, .fz (.int kk), .st, .fz (drD u), .fz (drD v), .fz (.lst (h.map drD)), y6, y7, y8, y9, y10, y11, x12, x13, x14, x15]) ?_ (fun N hN => ?_)
  rotate_left
  · show fRun _ _ _ (zipT3 (h.map drD) (cutT (h.map drD) (some 1) none) (cutT (h.map drD) (some 2) none)) _
    rw [e1, e2]
    refine fRun_idx (fun j τ => ∃ y6 y7 y8 y9 y10 y11 : TV, τ = [.sc ns, .fz (.int kk), .st, .fz (drD u), .fz (drD v), .fz (.lst (h.map drD)), y6, y7, y8, y9, y10, y11, x12, x13, x14, x15]) ⟨_, _, _, _, _, _, rfl⟩ ?_ (fun τ h0 => hN _ h0)
    rintro j y τ N3 hy ⟨y6, y7, y8, y9, y10, y11, rfl⟩ hN3
    have jl := (List.getElem?_eq_some_iff.mp hy).1
    rw [zipT3_len, List.length_map, List.length_map, List.length_map, List.length_drop, List.length_drop] at jl
    have g0 : h[j]? = some h[j] := List.getElem?_eq_getElem (by (first | lia | omega))
    have g1 : h[j + 1]? = some h[j + 1] := List.getElem?_eq_getElem (by (first | lia | omega))
    have g2 : h[j + 2]? = some h[j + 2] := List.getElem?_eq_getElem (by (first | lia | omega))
    generalize h[j] = p at g0
    generalize h[j + 1] = q at g1
    generalize h[j + 2] = r at g2
    rw [zipT3_get (t := drD p) (u := drD q) (v := drD r) (by rw [List.getElem?_map, g0]; rfl) (by rw [List.getElem?_map, List.getElem?_drop, Nat.add_comm, g1]; rfl) (by rw [List.getElem?_map, List.getElem?_drop, Nat.add_comm, g2]; rfl)] at hy
    cases hy
    obtain ⟨m, m2, em⟩ := B0.chn.mid j p q r g0 g1 g2
    have one := B0.chn.one j p q g0 g1
    have er : cr p r = m := by
      have := congrArg (cr p) em
      rw [cr_ad, cr_sc, cr_self, one] at this
      (first | lia | omega)
    have nq := B0.chn.nz B0.l2 g1
    have cq := (inC_und hp).mp (B0.chn.inC B0.fst B0.lst g1)
    refine ⟨rfl, ?_⟩
    dsimp only [sNext, eCons, eName, eNil]
    show sSeq _ _ _ ([.sc ns, .fz (.int kk), .st, .fz (drD u), .fz (drD v), .fz (.lst (h.map drD)), .fz (drD p), .fz (drD q), .fz (drD r), y9, y10, y11, x12, x13, x14, x15] : TSt)
    refine seq_cut (fun τ => τ = [.sc ns, .fz (.int kk), .st, .fz (drD u), .fz (drD v), .fz (.lst (h.map drD)), .fz (drD p), .fz (drD q), .fz (drD r), y9, y10, y11, x12, x13, x14, x15]) ?_ (fun N hN => ⟨u.1, u.2, v.1, v.2, drD q, rfl, bx_l4 (by decide) hu hv, tupS_drT _ _, bx_l24 (by decide) (bd g1), hp, ?_⟩)
    rotate_left
    · rw [partsT_some nq cq]
      exact hN _ rfl
    rintro _ rfl
    have bp := bd g0
    have bq := bd g1
    have br := bd g2
    refine seq_cut (fun τ => τ = [.sc ns, .fz (.int kk), .st, .fz (drD u), .fz (drD v), .fz (.lst (h.map drD)), .fz (drD p), .fz (drD q), .fz (drD r), .fz (.int (p.1 + r.1)), .fz (.int (p.2 + r.2)), y11, x12, x13, x14, x15]) ?_ (fun N hN => hN _ rfl)
    rintro _ rfl
    refine seq_cut (fun τ => τ = [.sc ns, .fz (.int kk), .st, .fz (drD u), .fz (drD v), .fz (.lst (h.map drD)), .fz (drD p), .fz (drD q), .fz (drD r), .fz (.int (p.1 + r.1)), .fz (.int (p.2 + r.2)), .fz (.int m), x12, x13, x14, x15]) ?_ (fun N hN => ⟨p, r, rfl, ⟨bp, br⟩, by rw [er]; exact hN _ rfl⟩)
    rintro _ rfl
    have cb := bx_cr bp br
    rw [er] at cb
    have bm : Bd m := bd_of (by (first | lia | omega)) (by (first | lia | omega))
    have bqd := bx_bd (by decide) bq
    refine ⟨⟨bm, bqd.1⟩, ⟨bm, bqd.2⟩, eqOk_drD (ad p r) (sc m q), ?_⟩
    show if (!teq (drD (ad p r)) (drD (sc m q))) = true then _ else _
    rw [teq_drD, decide_eq_true em]
    refine iteF ?_
    refine ite_bl (b := decide (m < 2)) (fun c => ?_) (fun c => hN3 _ ⟨_, _, _, _, _, _, rfl⟩)
    have c := of_decide_eq_true c
    (first | lia | omega)
  rintro _ ⟨y6, y7, y8, y9, y10, y11, rfl⟩
  refine sFor_idx (rngT 0 4) (fun j τ => ∃ y12 y13 y14 y15 : TV, τ = [.sc ns, .fz (.int kk), .st, .fz (drD u), .fz (drD v), .fz (.lst (h.map drD)), y6, y7, y8, y9, y10, y11, y12, y13, y14, y15]) (fun KK h => ⟨⟨by decide, by decide⟩, h⟩) ⟨_, _, _, _, rfl⟩ ?_ (fun τ ⟨y12, y13, y14, y15, e⟩ => hN2 _ ⟨_, _, _, _, _, _, _, _, _, _, _, _, _, _, _, e⟩)
  rintro j y τ N3 hy ⟨y12, y13, y14, y15, rfl⟩ hN3
  dsimp only [sNext, eCons, eName, eNil]
  show sSeq _ _ _ ([.sc ns, .fz (.int kk), .st, .fz (drD u), .fz (drD v), .fz (.lst (h.map drD)), y6, y7, y8, y9, y10, y11, .fz y, y13, y14, y15] : TSt)
  refine seq_cut (fun τ => ∃ a c : Int, ((0 ≤ a ∧ a < 9) ∧ 0 ≤ c ∧ c < 9) ∧ τ = [.sc ns, .fz (.int kk), .st, .fz (drD u), .fz (drD v), .fz (.lst (h.map drD)), y6, y7, y8, y9, y10, y11, .fz y, .fz (.int a), .fz (.int c), y15]) ?_ (fun N hN => ⟨tk (by decide), fun a a0 a1 => ⟨tk (by decide), fun c c0 c1 => hN _ ⟨a, c, ⟨⟨a0, a1⟩, c0, c1⟩, rfl⟩⟩⟩)
  rintro _ ⟨a, c, ⟨ha, hc⟩, rfl⟩
  have bu := hu
  have bv := hv
  unfold Bx at bu bv
  refine seq_cut (fun τ => ∃ t : D2, t = ad (sc a u) (sc c v) ∧ Bx 2000 t ∧ τ = [.sc ns, .fz (.int kk), .st, .fz (drD u), .fz (drD v), .fz (.lst (h.map drD)), y6, y7, y8, y9, y10, y11, .fz y, .fz (.int a), .fz (.int c), .fz (drD t)]) ?_ (fun N hN => ⟨cm_small (by (first | lia | omega)) (by (first | lia | omega)), cm_small (by (first | lia | omega)) (by (first | lia | omega)), cm_small (by (first | lia | omega)) (by (first | lia | omega)), cm_small (by (first | lia | omega)) (by (first | lia | omega)), hN _ ⟨_, rfl, ?_, rfl⟩⟩)
  rotate_left
  · have u1 := mul_le (a := a) (b := u.1) (m := 9) (n := 60) (by (first | lia | omega)) (by (first | lia | omega))
    have u2 := mul_le (a := a) (b := u.2) (m := 9) (n := 60) (by (first | lia | omega)) (by (first | lia | omega))
    have v1 := mul_le (a := c) (b := v.1) (m := 9) (n := 60) (by (first | lia | omega)) (by (first | lia | omega))
    have v2 := mul_le (a := c) (b := v.2) (m := 9) (n := 60) (by (first | lia | omega)) (by (first | lia | omega))
    unfold Bx ad sc; simp only; (first | lia | omega)
  rintro _ ⟨t, et, bt, rfl⟩
  refine ⟨eqOk_drD t (0, 0), ite_bl (b := !teq (drD t) (drD (0, 0))) (fun q => ?_) (fun q => hN3 _ ⟨_, _, _, _, rfl⟩)⟩
  rw [teq_drD] at q
  have nt : t ≠ (0, 0) := by simpa using q
  have ct : InC u v t := by
    rw [et]
    refine ⟨?_, ?_⟩
    · rw [cr_ad, cr_sc, cr_sc, cr_self]
      have := mul_nn hc.1 (Int.le_of_lt hp)
      (first | lia | omega)
    · rw [ad_cr, sc_cr, sc_cr, cr_self]
      have := mul_nn ha.1 (Int.le_of_lt hp)
      (first | lia | omega)
  have gt := gd_pos nt
  have es := und_sc nt
  have nd : und t ≠ (0, 0) := fun z => nt (by rw [es, z]; simp [sc])
  have cu : InC u v (und t) := by
    have c1 := ct.1
    have c2 := ct.2
    rw [es, cr_sc, pos_iff gt] at c1
    rw [es, sc_cr, pos_iff gt] at c2
    exact ⟨c1, c2⟩
  refine ⟨u, v, t, h, rfl, hp, B0, ct, nt, bt, ?_⟩
  refine ⟨t, rfl, nt, bt, u, v, und t, h, rfl, hp, B0, cu, nd, und_bx nt bt, ?_⟩
  exact hN3 _ ⟨_, _, _, _, rfl⟩
end
end K15
set_option Elab.async false
set_option linter.all false
set_option maxRecDepth 100000
set_option maxHeartbeats 4000000
namespace K15
open PySem L2 Trn
theorem all_mk {l : PySem.W.OpenLaw} {w : World} {K : PySem.W.Frag} {h : Heap} {mg : Str → Option Value} {fa : Addr} {fn : Addr} {od an : Option Addr} {sl : Array (Option Value)} {oc kV dc pm cd ct : Value} (X : K.In h) (G : h.Ns mainGlobals mg) (hfa : mg "law" = some (.ref fa))
    (d1 : DD K "is_whole" s_is_whole) (d2 : DD K "greatest_divisor" s_greatest_divisor) (d3 : DD K "turn_to" s_turn_to) (d4 : DD K "makes_one" s_makes_one) (d5 : DD K "_law_cell_at" s__law_cell_at) (d6 : DD K "_law_take" s__law_take) (d7 : DD K "_law_divisor" s__law_divisor) (d8 : DD K "_law_turn" s__law_turn) (d9 : DD K "are_whole" s_are_whole) (d10 : DD K "lowest" s_lowest) (d11 : DD K "need_turn" s_need_turn) (d12 : DD K "undivided" s_undivided) (d13 : DD K "next_least" s_next_least) (d14 : DD K "next_behind" s_next_behind) (d15 : DD K "_law_state" s__law_state) (d16 : DD K "_law_low" s__law_low) (d17 : DD K "_law_short" s__law_short) (d18 : DD K "is_direction" s_is_direction) (d19 : DD K "between" s_between) (d20 : DD K "parts" s_parts) (d21 : DD K "_law_made" s__law_made)
    (aN : PySem.W.nsIn K mainGlobals "law" = some (some (.ref fn))) (ln : K.lookup fn = some ⟨oc, od, .func (PySem.W.fnOf "law" "law" (defArgs s_law) (defBody s_law) (defScope s_law) .none kV dc pm an cd ct), sl⟩) (cn : PySem.W.codeIn K cd "law" = true) (kn : PySem.W.keepIn K (.ref fn) = true)
    (z1 : PySem.W.nsIn K mainGlobals "len" = some none)
    (z2 : PySem.W.nsIn K mainGlobals "range" = some none)
    (z3 : PySem.W.nsIn K mainGlobals "max" = some none)
    (z4 : PySem.W.nsIn K mainGlobals "min" = some none)
    (z5 : PySem.W.nsIn K mainGlobals "abs" = some none)
    (z6 : PySem.W.nsIn K mainGlobals "isinstance" = some none)
    (z7 : PySem.W.nsIn K mainGlobals "tuple" = some none)
    (z8 : PySem.W.nsIn K mainGlobals "list" = some none)
    (z9 : PySem.W.nsIn K mainGlobals "int" = some none)
    (z10 : PySem.W.nsIn K mainGlobals "bool" = some none)
    (z11 : PySem.W.nsIn K mainGlobals "str" = some none)
    (z12 : PySem.W.nsIn K mainGlobals "dict" = some none)
    (z13 : PySem.W.nsIn K mainGlobals "all" = some none)
    (z14 : PySem.W.nsIn K mainGlobals "zip" = some none)
    (z15 : PySem.W.nsIn K mainGlobals "enumerate" = some none)
    (z16 : PySem.W.nsIn K mainGlobals "ValueError" = some none) :
    ∃ fd : FuncData, (∀ (s : Shared) (v : Value), BindsTo s fd ⟨[v], []⟩ [("_law_script", v)]) ∧ ∀ base : Heap, K.In base → base.Ns mainGlobals mg → FnOk l.prog w K mg base CX0 6 fa fd ["_law_script"] (spLaw K) := by
  have e := hfa.symm.trans (PySem.W.mg_of X G aN)
  cases e
  obtain ⟨f1, e1, a1, F1⟩ := d1
  obtain ⟨f2, e2, a2, F2⟩ := d2
  obtain ⟨f3, e3, a3, F3⟩ := d3
  obtain ⟨f4, e4, a4, F4⟩ := d4
  obtain ⟨f5, e5, a5, F5⟩ := d5
  obtain ⟨f6, e6, a6, F6⟩ := d6
  obtain ⟨f7, e7, a7, F7⟩ := d7
  obtain ⟨f8, e8, a8, F8⟩ := d8
  obtain ⟨f9, e9, a9, F9⟩ := d9
  obtain ⟨f10, e10, a10, F10⟩ := d10
  obtain ⟨f11, e11, a11, F11⟩ := d11
  obtain ⟨f12, e12, a12, F12⟩ := d12
  obtain ⟨f13, e13, a13, F13⟩ := d13
  obtain ⟨f14, e14, a14, F14⟩ := d14
  obtain ⟨f15, e15, a15, F15⟩ := d15
  obtain ⟨f16, e16, a16, F16⟩ := d16
  obtain ⟨f17, e17, a17, F17⟩ := d17
  obtain ⟨f18, e18, a18, F18⟩ := d18
  obtain ⟨f19, e19, a19, F19⟩ := d19
  obtain ⟨f20, e20, a20, F20⟩ := d20
  obtain ⟨f21, e21, a21, F21⟩ := d21
  have F22 := fun_mk (st := s_law) ln cn kn
  have b1 := binds1 (p1 := "thing") F1 fun _ _ _ _ _ _ _ => rfl
  have b2 := binds2 (p1 := "one") (p2 := "other") F2 fun _ _ _ _ _ _ _ _ => rfl
  have b3 := binds2 (p1 := "one") (p2 := "other") F3 fun _ _ _ _ _ _ _ _ => rfl
  have b4 := binds2 (p1 := "a") (p2 := "b") F4 fun _ _ _ _ _ _ _ _ => rfl
  have b5 := binds2 (p1 := "_law_script") (p2 := "_law_k") F5 fun _ _ _ _ _ _ _ _ => rfl
  have b6 := binds2 (p1 := "_law_state_here") (p2 := "_law_many") F6 fun _ _ _ _ _ _ _ _ => rfl
  have b7 := binds2 (p1 := "_law_one") (p2 := "_law_other") F7 fun _ _ _ _ _ _ _ _ => rfl
  have b8 := binds2 (p1 := "_law_one") (p2 := "_law_other") F8 fun _ _ _ _ _ _ _ _ => rfl
  have b9 := binds1 (p1 := "things") F9 fun _ _ _ _ _ _ _ => rfl
  have b10 := binds2 (p1 := "top") (p2 := "bottom") F10 fun _ _ _ _ _ _ _ _ => rfl
  have b11 := binds2 (p1 := "one") (p2 := "other") F11 fun _ _ _ _ _ _ _ _ => rfl
  have b12 := binds1 (p1 := "direction") F12 fun _ _ _ _ _ _ _ => rfl
  have b13 := binds2 (p1 := "first") (p2 := "last") F13 fun _ _ _ _ _ _ _ _ => rfl
  have b14 := binds3 (p1 := "before") (p2 := "here") (p3 := "last") F14 fun _ _ _ _ _ _ _ _ _ => rfl
  have b15 := binds2 (p1 := "_law_script") (p2 := "_law_k") F15 fun _ _ _ _ _ _ _ _ => rfl
  have b16 := binds2 (p1 := "_law_top") (p2 := "_law_bottom") F16 fun _ _ _ _ _ _ _ _ => rfl
  have b17 := binds1 (p1 := "_law_one") F17 fun _ _ _ _ _ _ _ => rfl
  have b18 := binds1 (p1 := "thing") F18 fun _ _ _ _ _ _ _ => rfl
  have b19 := binds2 (p1 := "one") (p2 := "other") F19 fun _ _ _ _ _ _ _ _ => rfl
  have b20 := binds3 (p1 := "one") (p2 := "other") (p3 := "thing") F20 fun _ _ _ _ _ _ _ _ _ => rfl
  have b21 := binds2 (p1 := "_law_found") (p2 := "_law_third") F21 fun _ _ _ _ _ _ _ _ => rfl
  have B : Blt mg bn := ⟨fun x hx => by
    simp only [bn, List.mem_cons, List.not_mem_nil, or_false] at hx
    rcases hx with rfl | rfl | rfl | rfl | rfl | rfl | rfl | rfl | rfl | rfl | rfl | rfl | rfl | rfl | rfl | rfl
    · exact PySem.W.mg_none_of X G z1
    · exact PySem.W.mg_none_of X G z2
    · exact PySem.W.mg_none_of X G z3
    · exact PySem.W.mg_none_of X G z4
    · exact PySem.W.mg_none_of X G z5
    · exact PySem.W.mg_none_of X G z6
    · exact PySem.W.mg_none_of X G z7
    · exact PySem.W.mg_none_of X G z8
    · exact PySem.W.mg_none_of X G z9
    · exact PySem.W.mg_none_of X G z10
    · exact PySem.W.mg_none_of X G z11
    · exact PySem.W.mg_none_of X G z12
    · exact PySem.W.mg_none_of X G z13
    · exact PySem.W.mg_none_of X G z14
    · exact PySem.W.mg_none_of X G z15
    · exact PySem.W.mg_none_of X G z16⟩
  refine ⟨PySem.W.fnOf "law" "law" (defArgs s_law) (defBody s_law) (defScope s_law) .none kV dc pm an cd ct, fun s v => .of_eq rfl, fun base XB _ => ?_⟩
  have o_is_whole := ok_is_whole (P := l.prog) (w := w) (base := base) B F1 (PySem.W.mg_of X G a1) b1
  have o_greatest_divisor := ok_greatest_divisor (P := l.prog) (w := w) (base := base) B F2 (PySem.W.mg_of X G a2) b2
  have o_turn_to := ok_turn_to (P := l.prog) (w := w) (base := base) B F3 (PySem.W.mg_of X G a3) b3
  have o_makes_one := ok_makes_one (P := l.prog) (w := w) (base := base) B F4 (PySem.W.mg_of X G a4) b4
  have o__law_cell_at := ok__law_cell_at (P := l.prog) (w := w) (base := base) B F5 (PySem.W.mg_of X G a5) b5
  have o__law_take := take_tree (ok__law_take (P := l.prog) (w := w) (base := base) F6 (PySem.W.mg_of X G a6) b6)
  have o__law_divisor := ok__law_divisor (P := l.prog) (w := w) (base := base) B F7 (PySem.W.mg_of X G a7) b7
  have o__law_turn := ok__law_turn (P := l.prog) (w := w) (base := base) B F8 (PySem.W.mg_of X G a8) b8
  have o_are_whole := ok_are_whole (P := l.prog) (w := w) (base := base) B F9 (PySem.W.mg_of X G a9) b9 o_is_whole
  have o_lowest := ok_lowest (P := l.prog) (w := w) (base := base) B F10 (PySem.W.mg_of X G a10) b10 o_greatest_divisor
  have o_need_turn := ok_need_turn (P := l.prog) (w := w) (base := base) B F11 (PySem.W.mg_of X G a11) b11 o_turn_to
  have o_undivided := ok_undivided (P := l.prog) (w := w) (base := base) B F12 (PySem.W.mg_of X G a12) b12 o_greatest_divisor
  have o_next_least := ok_next_least (P := l.prog) (w := w) (base := base) B F13 (PySem.W.mg_of X G a13) b13 o_makes_one o_turn_to
  have o_next_behind := ok_next_behind (P := l.prog) (w := w) (base := base) B F14 (PySem.W.mg_of X G a14) b14 o_turn_to
  have o__law_state := ok__law_state (P := l.prog) (w := w) (base := base) F15 (PySem.W.mg_of X G a15) b15 o__law_cell_at
  have o__law_low := ok__law_low (P := l.prog) (w := w) (base := base) B F16 (PySem.W.mg_of X G a16) b16 o__law_divisor
  have o__law_short := ok__law_short (P := l.prog) (w := w) (base := base) B F17 (PySem.W.mg_of X G a17) b17 o__law_divisor
  have o_is_direction := ok_is_direction (P := l.prog) (w := w) (base := base) B F18 (PySem.W.mg_of X G a18) b18 o_are_whole
  have o_between := ok_between (P := l.prog) (w := w) (base := base) B F19 (PySem.W.mg_of X G a19) b19 o_need_turn o_undivided o_next_least o_next_behind
  have o_parts := ok_parts (P := l.prog) (w := w) (base := base) B F20 (PySem.W.mg_of X G a20) b20 o_need_turn o_is_direction o_turn_to o_lowest
  have o__law_made := ok__law_made (P := l.prog) (w := w) (base := base) B F21 (PySem.W.mg_of X G a21) b21 o_parts o__law_turn
  exact ok_law B F22 o__law_state o__law_turn o_between o__law_take o__law_short o_parts o__law_made
theorem walk {l : PySem.W.OpenLaw} {q : Program} {loose : List Str} {XP : (Str → Option Value) → Heap → Prop} {YP : World → Heap → Prop} {d : DefRec} {K : Params → PySem.W.Frag} (hn : l.most = some 63) (hdf : d.params.defaults = [])
    (hY : ∀ (w : World) (h : Heap), YP w h → (K w.params).In h) (hT : ∀ P, tabK (K P) = none)
    (F : ∀ (w : World) (mg : Str → Option Value) (fa : Addr) (h : Heap), (K w.params).In h → h.Ns mainGlobals mg → mg d.name = some (.ref fa) →
      ∃ fd : FuncData, (∀ (s : Shared) (u : Value), BindsTo s fd ⟨[u], []⟩ [("_law_script", u)]) ∧ ∀ base : Heap, (K w.params).In base → base.Ns mainGlobals mg → FnOk l.prog w (K w.params) mg base CX0 6 fa fd ["_law_script"] (spLaw (K w.params))) :
    PySem.W.WalkO q loose XP YP l.row.toRowW d [] (fun f vs => PySem.call f vs) :=
  L2.walk_of (n := 63) (k := 6) (x := "_law_script") (CX := fun _ => CX0) (sp := fun w => spLaw (K w.params)) hn (by decide) hdf ⟨rfl, by decide, by decide⟩ hY F (fun _ _ a ns hl hO hS => ⟨a, ns, rfl, ⟨fun b => .inl (hO b), TabH.none (hT _)⟩, hS, hl, fun _ => rfl⟩) fun _ _ _ _ _ z => z
end K15
namespace K15
open PySem L2 Trn
noncomputable def ke (k : Str) (t : Nat) (v : Value) : Str × Nat × Value := (k, t, v)
noncomputable def kd (P : Params) (n : Nat) (l : List (Str × Nat × Value)) : Obj := ⟨.type "dict", none, .dict ⟨l.map fun e => ⟨PyData.keyHash P e.1, .str e.1 e.2.1, e.2.2⟩⟩ n, #[]⟩
noncomputable def kf (x : Str) (st : Stmt) (cd : Nat) (m : Str) (t : Nat) : Obj := ⟨.type "function", none, .func (PySem.W.fnOf x x (defArgs st) (defBody st) (defScope st) .none .none .none (.str m t) none (.ref cd) .none), #[]⟩
noncomputable def kp (x : Str) (st : Stmt) : Obj := ⟨.none, none, .func { name := x, qualname := x, params := defArgs st, body := .stmts (defBody st), scope := defScope st, globals := 0, closure := [], defaults := .none, kwdefaults := .none }, #[]⟩
noncomputable def kc (x : Str) (a l n m c d : Nat) (u v : Value) (e t f : Nat) : Obj := ⟨.type "code", none, .fields ⟨[.str x a, .str x (a + 1), .str "/claim/cut.py" (a + 2), .int l 0, .int n 0, .int 0 0, .int 0 0, .int m 0, .ref c, .bool true, .int 181 0, .ref d, .none, u, v, .ref e, .int t 0, .int l 0, .str "/claim/cut.py" f]⟩, #[]⟩
noncomputable def k0 : Obj := ⟨.none, none, .fields ⟨[]⟩, #[]⟩
noncomputable def k1 (l : List Value) : Obj := ⟨.type "tuple", none, .seq ⟨l⟩ 0, #[]⟩
noncomputable def tp (p : Program) (i : Nat) : Stmt := p.main.body.getD i (.Pass ⟨0, 0, 0, 0⟩)
noncomputable def mn : List (Str × Nat × Value) := ke "__name__" 165 (.str "law_roundcuts_k15_whole_between_directions" 354) :: ke "__doc__" 166 .none :: ke "__package__" 167 .none :: ke "__loader__" 168 (.builtin "__main__.__loader__#opaque") :: ke "__spec__" 169 .none :: ke "__annotations__" 170 (.ref 6) :: ke "__builtins__" 171 (.ref 4) :: ke "__file__" 173 (.str "/claim/cut.py" 172) :: ke "__cached__" 174 .none :: ke "CutError" 206 (.ref 24) :: ke "NoTurn" 222 (.ref 37) :: ke "is_whole" 231 (.ref 46) :: ke "are_whole" 237 (.ref 51) :: ke "greatest_divisor" 245 (.ref 58) :: ke "lowest" 254 (.ref 65) :: ke "turn_to" 264 (.ref 72) :: ke "parts" 278 (.ref 79) :: ke "need_turn" 287 (.ref 86) :: ke "is_direction" 294 (.ref 93) :: ke "between" 305 (.ref 100) :: ke "undivided" 315 (.ref 107) :: ke "next_least" 328 (.ref 114) :: ke "next_behind" 338 (.ref 121) :: ke "makes_one" 353 (.ref 128) :: ke "_law_cell_at" 363 (.ref 135) :: ke "_law_state" 372 (.ref 142) :: ke "_law_take" 382 (.ref 149) :: ke "_law_divisor" 390 (.ref 156) :: ke "_law_low" 399 (.ref 163) :: ke "_law_short" 407 (.ref 170) :: ke "_law_turn" 415 (.ref 177) :: ke "_law_made" 426 (.ref 184) :: ke "law" 432 (.ref 189) :: []
noncomputable def ob (p : Program) (P : Params) : List Obj := k1 [] ::
  ⟨.none, none, .fields ⟨[(.int 2 0), (.int 0 0), (.ref 20), (.int 4 0), (.int 0 0), (.ref 33), (.int 7 0), (.int 0 0), (.ref 45), (.int 9 0), (.int 0 0), (.ref 50), (.int 11 0), (.int 0 0), (.ref 57), (.int 16 0), (.int 0 0), (.ref 64), (.int 20 0), (.int 0 0), (.ref 71), (.int 23 0), (.int 0 0), (.ref 78), (.int 31 0), (.int 0 0), (.ref 85), (.int 36 0), (.int 0 0), (.ref 92), (.int 40 0), (.int 0 0), (.ref 99), (.int 47 0), (.int 0 0), (.ref 106), (.int 51 0), (.int 0 0), (.ref 113), (.int 56 0), (.int 0 0), (.ref 120), (.int 59 0), (.int 0 0), (.ref 127), (.int 69 0), (.int 0 0), (.ref 134), (.int 73 0), (.int 0 0), (.ref 141), (.int 78 0), (.int 0 0), (.ref 148), (.int 87 0), (.int 0 0), (.ref 155), (.int 91 0), (.int 0 0), (.ref 162), (.int 96 0), (.int 0 0), (.ref 169), (.int 99 0), (.int 0 0), (.ref 176), (.int 101 0), (.int 0 0), (.ref 183), (.int 109 0), (.int 0 0), (.ref 188)]⟩, #[]⟩ ::
  ⟨(.type "code"), none, .fields ⟨[(.str "<module>" 182), (.str "<module>" 183), (.str "/claim/cut.py" 184), (.int 1 0), (.int 0 0), (.int 0 0), (.int 0 0), (.int 0 0), (.ref 11), (.bool false), (.int 181 0), (.ref 12), .none, .none, .none, .none, (.int 185 0), (.int 1 0), (.str "/claim/cut.py" 186)]⟩, #[]⟩ ::
  ⟨(.type "frame"), none, .plain, ⟨[some (.ref 13), some (.ref 3), some (.ref 3), none, some (.str "__main__" 164), none, some (.ref 0)]⟩⟩ ::
  k1 [(.type "ValueError")] ::
  ⟨(.type "builtin_function_or_method"), none, .fields ⟨[(.builtin "type.__prepare__"), (.type "type")]⟩, #[]⟩ ::
  kd P 4 (ke "__module__" 196 (.str "roundcuts.errors" 187) :: ke "__qualname__" 198 (.str "CutError" 197) :: ke "__firstlineno__" 200 (.int 2 199) :: ke "__static_attributes__" 201 (.ref 22) :: []) ::
  k1 [] ::
  k0 ::
  ⟨(.type "code"), none, .fields ⟨[(.str "CutError" 191), (.str "CutError" 192), (.str "/claim/cut.py" 193), (.int 2 0), (.int 0 0), (.int 0 0), (.int 0 0), (.int 0 0), (.ref 18), (.bool false), (.int 181 0), (.ref 19), .none, .none, .none, .none, (.int 194 0), (.int 2 0), (.str "/claim/cut.py" 195)]⟩, #[]⟩ ::
  ⟨(.type "frame"), none, .plain, ⟨[some (.ref 20), some (.ref 3), some (.ref 17), none, some (.str "roundcuts.errors" 187), none, some (.ref 0)]⟩⟩ ::
  k1 [] ::
  kd P 3 (ke "__module__" 196 (.str "roundcuts.errors" 187) :: ke "__firstlineno__" 200 (.int 2 199) :: ke "__static_attributes__" 201 (.ref 22) :: ke "__weakref__" 203 (.ref 25) :: ke "__doc__" 204 .none :: []) ::
  ⟨(.type "type"), none, .cls { name := "CutError", bases := [(.type "ValueError")], mro := [(.ref 24), (.type "ValueError"), (.type "Exception"), (.type "BaseException"), (.type "object")], ns := 23, qualname := "CutError", hasDict := true, slotNames := [], subclasses := [(.ref 37)], abstract := false, hasDel := false }, ⟨[some (.ref 15), none, some (.str "CutError" 189), some (.str "CutError" 197), some (.builtin "ValueError.__new__"), some (.bool true)]⟩⟩ ::
  ⟨(.type "getset_descriptor"), none, .fields ⟨[(.str "__weakref__" 202), (.ref 24), (.builtin "ExceptionGroup.__weakref__"), .none]⟩, #[]⟩ ::
  ⟨(.type "super"), none, .fields ⟨[(.ref 24), (.ref 24), (.ref 24)]⟩, #[]⟩ ::
  ⟨(.type "builtin_function_or_method"), none, .fields ⟨[(.builtin "object.__init_subclass__"), (.ref 24)]⟩, #[]⟩ ::
  k1 [(.ref 24)] ::
  ⟨(.type "builtin_function_or_method"), none, .fields ⟨[(.builtin "type.__prepare__"), (.type "type")]⟩, #[]⟩ ::
  kd P 4 (ke "__module__" 214 (.str "roundcuts.errors" 187) :: ke "__qualname__" 216 (.str "NoTurn" 215) :: ke "__firstlineno__" 218 (.int 4 217) :: ke "__static_attributes__" 219 (.ref 35) :: []) ::
  k1 [] ::
  k0 ::
  ⟨(.type "code"), none, .fields ⟨[(.str "NoTurn" 209), (.str "NoTurn" 210), (.str "/claim/cut.py" 211), (.int 4 0), (.int 0 0), (.int 0 0), (.int 0 0), (.int 0 0), (.ref 31), (.bool false), (.int 181 0), (.ref 32), .none, .none, .none, .none, (.int 212 0), (.int 4 0), (.str "/claim/cut.py" 213)]⟩, #[]⟩ ::
  ⟨(.type "frame"), none, .plain, ⟨[some (.ref 33), some (.ref 3), some (.ref 30), none, some (.str "roundcuts.errors" 187), none, some (.ref 0)]⟩⟩ ::
  k1 [] ::
  kd P 2 (ke "__module__" 214 (.str "roundcuts.errors" 187) :: ke "__firstlineno__" 218 (.int 4 217) :: ke "__static_attributes__" 219 (.ref 35) :: ke "__doc__" 220 .none :: []) ::
  ⟨(.type "type"), none, .cls { name := "NoTurn", bases := [(.ref 24)], mro := [(.ref 37), (.ref 24), (.type "ValueError"), (.type "Exception"), (.type "BaseException"), (.type "object")], ns := 36, qualname := "NoTurn", hasDict := true, slotNames := [], subclasses := [], abstract := false, hasDel := false }, ⟨[some (.ref 28), none, some (.str "NoTurn" 207), some (.str "NoTurn" 215), some (.builtin "ValueError.__new__"), some (.bool true)]⟩⟩ ::
  ⟨(.type "super"), none, .fields ⟨[(.ref 37), (.ref 37), (.ref 37)]⟩, #[]⟩ ::
  ⟨(.type "builtin_function_or_method"), none, .fields ⟨[(.builtin "object.__init_subclass__"), (.ref 37)]⟩, #[]⟩ ::
  k1 [] ::
  k0 ::
  k1 [(.str "thing" 228)] ::
  k1 [] ::
  kp "is_whole" (tp p 4) ::
  kc "is_whole" 225 7 1 3 40 41 (.ref 42) (.ref 43) 44 229 230 ::
  kf "is_whole" (tp p 4) 45 "roundcuts.fractions" 223 ::
  k1 [] ::
  k0 ::
  kp "are_whole" (tp p 5) ::
  kc "are_whole" 232 9 1 3 47 48 .none .none 49 235 236 ::
  kf "are_whole" (tp p 5) 50 "roundcuts.fractions" 223 ::
  k1 [] ::
  k0 ::
  k1 [(.str "one" 241), (.str "other" 242)] ::
  k1 [] ::
  kp "greatest_divisor" (tp p 6) ::
  kc "greatest_divisor" 238 11 2 3 52 53 (.ref 54) (.ref 55) 56 243 244 ::
  kf "greatest_divisor" (tp p 6) 57 "roundcuts.fractions" 223 ::
  k1 [] ::
  k0 ::
  k1 [(.str "top" 249), (.str "bottom" 250), (.str "shared" 251)] ::
  k1 [] ::
  kp "lowest" (tp p 7) ::
  kc "lowest" 246 16 2 3 59 60 (.ref 61) (.ref 62) 63 252 253 ::
  kf "lowest" (tp p 7) 64 "roundcuts.fractions" 223 ::
  k1 [] ::
  k0 ::
  k1 [(.str "one" 260), (.str "other" 261)] ::
  k1 [] ::
  kp "turn_to" (tp p 9) ::
  kc "turn_to" 257 20 2 3 66 67 (.ref 68) (.ref 69) 70 262 263 ::
  kf "turn_to" (tp p 9) 71 "roundcuts.rows" 255 ::
  k1 [] ::
  k0 ::
  k1 [(.str "one" 270), (.str "other" 271), (.str "thing" 272), (.str "turn" 273), (.str "of_one" 274), (.str "of_other" 275)] ::
  k1 [] ::
  kp "parts" (tp p 11) ::
  kc "parts" 267 23 3 3 73 74 (.ref 75) (.ref 76) 77 276 277 ::
  kf "parts" (tp p 11) 78 "roundcuts.turns" 265 ::
  k1 [] ::
  k0 ::
  k1 [(.str "one" 282), (.str "other" 283), (.str "turn" 284)] ::
  k1 [] ::
  kp "need_turn" (tp p 12) ::
  kc "need_turn" 279 31 2 3 80 81 (.ref 82) (.ref 83) 84 285 286 ::
  kf "need_turn" (tp p 12) 85 "roundcuts.turns" 265 ::
  k1 [] ::
  k0 ::
  k1 [(.str "thing" 291)] ::
  k1 [] ::
  kp "is_direction" (tp p 13) ::
  kc "is_direction" 288 36 1 3 87 88 (.ref 89) (.ref 90) 91 292 293 ::
  kf "is_direction" (tp p 13) 92 "roundcuts.turns" 265 ::
  k1 [] ::
  k0 ::
  k1 [(.str "one" 298), (.str "other" 299), (.str "first" 300), (.str "last" 301), (.str "found" 302)] ::
  k1 [] ::
  kp "between" (tp p 14) ::
  kc "between" 295 40 2 3 94 95 (.ref 96) (.ref 97) 98 303 304 ::
  kf "between" (tp p 14) 99 "roundcuts.turns" 265 ::
  k1 [] ::
  k0 ::
  k1 [(.str "direction" 309), (.str "a" 310), (.str "b" 311), (.str "shared" 312)] ::
  k1 [] ::
  kp "undivided" (tp p 15) ::
  kc "undivided" 306 47 1 3 101 102 (.ref 103) (.ref 104) 105 313 314 ::
  kf "undivided" (tp p 15) 106 "roundcuts.turns" 265 ::
  k1 [] ::
  k0 ::
  k1 [(.str "first" 319), (.str "last" 320), (.str "a" 321), (.str "b" 322), (.str "p" 323), (.str "q" 324), (.str "back" 325)] ::
  k1 [] ::
  kp "next_least" (tp p 16) ::
  kc "next_least" 316 51 2 3 108 109 (.ref 110) (.ref 111) 112 326 327 ::
  kf "next_least" (tp p 16) 113 "roundcuts.turns" 265 ::
  k1 [] ::
  k0 ::
  k1 [(.str "before" 332), (.str "here" 333), (.str "last" 334), (.str "many" 335)] ::
  k1 [] ::
  kp "next_behind" (tp p 17) ::
  kc "next_behind" 329 56 3 3 115 116 (.ref 117) (.ref 118) 119 336 337 ::
  kf "next_behind" (tp p 17) 120 "roundcuts.turns" 265 ::
  k1 [] ::
  k0 ::
  k1 [(.str "a" 342), (.str "b" 343), (.str "here" 344), (.str "p" 345), (.str "q" 346), (.str "ahead" 347), (.str "next_p" 348), (.str "next_q" 349), (.str "many" 350)] ::
  k1 [] ::
  kp "makes_one" (tp p 18) ::
  kc "makes_one" 339 59 2 3 122 123 (.ref 124) (.ref 125) 126 351 352 ::
  kf "makes_one" (tp p 18) 127 "roundcuts.turns" 265 ::
  k1 [] ::
  k0 ::
  k1 [(.str "_law_script" 359), (.str "_law_k" 360)] ::
  k1 [] ::
  kp "_law_cell_at" (tp p 20) ::
  kc "_law_cell_at" 356 69 2 3 129 130 (.ref 131) (.ref 132) 133 361 362 ::
  kf "_law_cell_at" (tp p 20) 134 "law_roundcuts_k15_whole_between_directions" 354 ::
  k1 [] ::
  k0 ::
  k1 [(.str "_law_script" 367), (.str "_law_k" 368), (.str "_law_cell" 369)] ::
  k1 [] ::
  kp "_law_state" (tp p 21) ::
  kc "_law_state" 364 73 2 3 136 137 (.ref 138) (.ref 139) 140 370 371 ::
  kf "_law_state" (tp p 21) 141 "law_roundcuts_k15_whole_between_directions" 354 ::
  k1 [] ::
  k0 ::
  k1 [(.str "_law_state_here" 376), (.str "_law_many" 377), (.str "_law_found" 378), (.str "_law_stirred" 379)] ::
  k1 [] ::
  kp "_law_take" (tp p 22) ::
  kc "_law_take" 373 78 2 3 143 144 (.ref 145) (.ref 146) 147 380 381 ::
  kf "_law_take" (tp p 22) 148 "law_roundcuts_k15_whole_between_directions" 354 ::
  k1 [] ::
  k0 ::
  k1 [(.str "_law_one" 386), (.str "_law_other" 387)] ::
  k1 [] ::
  kp "_law_divisor" (tp p 23) ::
  kc "_law_divisor" 383 87 2 3 150 151 (.ref 152) (.ref 153) 154 388 389 ::
  kf "_law_divisor" (tp p 23) 155 "law_roundcuts_k15_whole_between_directions" 354 ::
  k1 [] ::
  k0 ::
  k1 [(.str "_law_top" 394), (.str "_law_bottom" 395), (.str "_law_by" 396)] ::
  k1 [] ::
  kp "_law_low" (tp p 24) ::
  kc "_law_low" 391 91 2 3 157 158 (.ref 159) (.ref 160) 161 397 398 ::
  kf "_law_low" (tp p 24) 162 "law_roundcuts_k15_whole_between_directions" 354 ::
  k1 [] ::
  k0 ::
  k1 [(.str "_law_one" 403), (.str "_law_by" 404)] ::
  k1 [] ::
  kp "_law_short" (tp p 25) ::
  kc "_law_short" 400 96 1 3 164 165 (.ref 166) (.ref 167) 168 405 406 ::
  kf "_law_short" (tp p 25) 169 "law_roundcuts_k15_whole_between_directions" 354 ::
  k1 [] ::
  k0 ::
  k1 [(.str "_law_one" 411), (.str "_law_other" 412)] ::
  k1 [] ::
  kp "_law_turn" (tp p 26) ::
  kc "_law_turn" 408 99 2 3 171 172 (.ref 173) (.ref 174) 175 413 414 ::
  kf "_law_turn" (tp p 26) 176 "law_roundcuts_k15_whole_between_directions" 354 ::
  k1 [] ::
  k0 ::
  k1 [(.str "_law_found" 419), (.str "_law_third" 420), (.str "_law_one" 421), (.str "_law_other" 422), (.str "_law_told" 423)] ::
  k1 [] ::
  kp "_law_made" (tp p 27) ::
  kc "_law_made" 416 101 2 3 178 179 (.ref 180) (.ref 181) 182 424 425 ::
  kf "_law_made" (tp p 27) 183 "law_roundcuts_k15_whole_between_directions" 354 ::
  k1 [] ::
  k0 ::
  kp "law" (tp p 28) ::
  kc "law" 427 109 1 3 185 186 .none .none 187 430 431 ::
  kf "law" (tp p 28) 188 "law_roundcuts_k15_whole_between_directions" 354 :: []
noncomputable def hp (p : Program) (P : Params) (n : Nat) (m : List (Str × Nat × Value)) (e : Nat) (c : List (Nat × Obj)) : List Obj := c.foldl (fun l x => l.set x.1 x.2) ((PySem.W.boot_heap P).objs.toList.set 3 (kd P e m) ++ (ob p P).take n)
noncomputable def sh (p : Program) (w : World) (os : OsState) (n : Nat) (m : List (Str × Nat × Value)) (e : Nat) (c : List (Nat × Obj)) (k : Nat) : Shared := ⟨⟨⟨hp p w.params n m e c⟩, {}⟩, ⟨[]⟩, {}, k, os⟩
noncomputable def hf (p : Program) (P : Params) : Heap := ⟨⟨hp p P 179 mn 33 []⟩, {}⟩
noncomputable abbrev as : List Addr := [3, 45, 46, 50, 51, 57, 58, 64, 65, 71, 72, 78, 79, 85, 86, 92, 93, 99, 100, 106, 107, 113, 114, 120, 121, 127, 128, 134, 135, 141, 142, 148, 149, 155, 156, 162, 163, 169, 170, 176, 177, 183, 184, 188, 189]
noncomputable def Kp (p : Program) (P : Params) : PySem.W.Frag := as.map fun a => (a, (hp p P 179 mn 33 []).getD a k0)
noncomputable abbrev pg : Program := PySem.Challenge.pw_roundcuts_k15_whole_between_directions
noncomputable abbrev K (P : Params) : PySem.W.Frag := Kp pg P
theorem as_eq (p : Program) (P : Params) : as = (Kp p P).map (·.1) := by unfold Kp; rw [List.map_map]; exact (List.map_id _).symm
noncomputable abbrev Hk (p : Program) : PySem.W.Hook := PySem.W.kHook (Kp p) as (as_eq p)
noncomputable abbrev keep : List Nat := [1, 2, 4, 5, 6, 7, 9, 11, 12, 13, 14, 15, 16, 17, 18, 20, 21, 22, 23, 24, 25, 26, 27, 28]
noncomputable abbrev vw : Program := PySem.W.view pg keep
theorem dk {P : Params} {x : Str} {st : Stmt} {f cd t : Nat} {m : Str} (a : PySem.W.nsIn (K P) mainGlobals x = some (some (.ref f))) (l : (K P).lookup f = some (kf x st cd m t)) (c : PySem.W.codeIn (K P) (.ref cd) x = true) : DD (K P) x st :=
  dd a l c (by unfold PySem.W.keepIn; dsimp only; rw [l]; rfl)
end K15
set_option maxHeartbeats 0 in
lay_quick PySem.Challenge.pw_roundcuts_k15_whole_between_directions
namespace K15
open PySem L2 Trn PySem.W
noncomputable abbrev tb := PySem.W.Fast.tw14364793385576792824
noncomputable abbrev p' := PySem.W.Fast.tw2167491939154111618
noncomputable abbrev v' := view p' keep
noncomputable abbrev im := PySem.W.Fast.tw5923862056798008813 p'.main.body
noncomputable abbrev ann : Option Value := some (.ref 6)
noncomputable abbrev q : Pos := ⟨0, 0, 0, 0⟩
noncomputable abbrev bd := behindTheImports p'
noncomputable abbrev env : Env := { scope := p'.main.scope, locals := mainNs, globals := mainNs, cells := [], code := (.ref 13), frame := some 14 }
noncomputable abbrev cb : Code := .body bd env
theorem r0 (w : World) (os : OsState) : topGo tb p' w 11 ann 12 ⟨boot_heap w.params, ⟨[]⟩, boot_drawn, boot_toks, os⟩ (topStub p') = some ((sh p' w os 4 ((mn.take 9).set 0 (ke "__name__" 165 (.str "__main__" 164))) 9 [(12, k0)] 187), ⟨denote tb cb, cb, ⟨0, 0, 0, 0⟩, [topFrame q]⟩) := by kernel_rfl
theorem r1 (w : World) (os : OsState) : segRun tb p' w 11 ann 1 1 (sh p' w os 4 ((mn.take 9).set 0 (ke "__name__" 165 (.str "__main__" 164))) 9 [(12, k0)] 187) (blockOf bd env cb ⟨0, 0, 0, 0⟩ [topFrame q]) = some (.next, (sh p' w os 4 ((mn.take 9).set 0 (ke "__name__" 165 (.str "__main__" 164))) 9 [(12, k0)] 187), cb, ⟨0, 0, 0, 0⟩) := by kernel_rfl
theorem c0 (w : World) (os : OsState) : segRun tb p' w 11 ann 1 690 (sh p' w os 4 ((mn.take 9).set 0 (ke "__name__" 165 (.str "__main__" 164))) 9 [(12, k0)] 187) (piecesOf ((bd.drop 0).take 14) env cb ⟨0, 0, 0, 0⟩ [topFrame q]) = some (.next, (sh p' w os 83 ((mn.take 19).set 0 (ke "__name__" 165 (.str "roundcuts.turns" 265))) 19 [(12, ⟨.none, none, .fields ⟨[(.int 2 0), (.int 0 0), (.ref 20), (.int 4 0), (.int 0 0), (.ref 33), (.int 7 0), (.int 0 0), (.ref 45), (.int 9 0), (.int 0 0), (.ref 50), (.int 11 0), (.int 0 0), (.ref 57), (.int 16 0), (.int 0 0), (.ref 64), (.int 20 0), (.int 0 0), (.ref 71), (.int 23 0), (.int 0 0), (.ref 78), (.int 31 0), (.int 0 0), (.ref 85), (.int 36 0), (.int 0 0), (.ref 92)]⟩, #[]⟩)] 295), cb, ⟨36, 0, 39, 41⟩) := by kernel_rfl
theorem c1 (w : World) (os : OsState) : segRun tb p' w 11 ann 1 467 (sh p' w os 83 ((mn.take 19).set 0 (ke "__name__" 165 (.str "roundcuts.turns" 265))) 19 [(12, ⟨.none, none, .fields ⟨[(.int 2 0), (.int 0 0), (.ref 20), (.int 4 0), (.int 0 0), (.ref 33), (.int 7 0), (.int 0 0), (.ref 45), (.int 9 0), (.int 0 0), (.ref 50), (.int 11 0), (.int 0 0), (.ref 57), (.int 16 0), (.int 0 0), (.ref 64), (.int 20 0), (.int 0 0), (.ref 71), (.int 23 0), (.int 0 0), (.ref 78), (.int 31 0), (.int 0 0), (.ref 85), (.int 36 0), (.int 0 0), (.ref 92)]⟩, #[]⟩)] 295) (piecesOf ((bd.drop 14).take 15) env cb ⟨36, 0, 39, 41⟩ [topFrame q]) = some (.next, (sh p' w os 179 mn 33 [] 433), cb, ⟨109, 0, 135, 15⟩) := by kernel_rfl
theorem bd_eq : bd = (((bd.drop 0).take 14) ++ (((bd.drop 14).take 15) ++ [])) := by kernel_rfl
theorem cl (w : World) (os : OsState) : topRun tb p' w 11 ann 2 (sh p' w os 179 mn 33 [] 433) ⟨doneF .next, cb, ⟨109, 0, 135, 15⟩, [topFrame q]⟩ = some (sh p' w os 179 mn 33 [] 433) := by kernel_rfl
theorem run (w : World) (os : OsState) : topRun tb p' w 11 ann (12 + (1 + (690 + (467 + 2)))) ⟨boot_heap w.params, ⟨[]⟩, boot_drawn, boot_toks, os⟩ (topStub p') = some ⟨hf p' w.params, ⟨[]⟩, {}, 433, os⟩ :=
  go_top (r0 w os) (piece_block (r1 w os) (bd_eq ▸ (piece_app (c0 w os) (piece_app (c1 w os) (piece_nil (cl w os))))))
theorem z0 (w : World) : ((boot_heap w.params).isNs mainGlobals && (⟨[]⟩ : Array GenState).size == 0, (boot_heap w.params).objs.size, (boot_heap w.params).nsMap mainGlobals "__annotations__") = (true, 11, ann) := by kernel_rfl
theorem z1 (w : World) (os : OsState) : (staticsOk im (boot_heap w.params) (hf p' w.params) && namesBound p' (hf p' w.params) && gensDone ⟨hf p' w.params, ⟨[]⟩, {}, 433, os⟩ && laidKept (boot_heap w.params) (hf p' w.params)) = true := by kernel_rfl
theorem z2 (w : World) (os : OsState) : PySem.W.Fast.tw4187177175401517315 v' [] im (fun s => xlAt v' [] s && recOk [] s) true ⟨hf p' w.params, ⟨[]⟩, {}, 433, os⟩ = openGood v' [] := by kernel_rfl
theorem z3 (w : World) (os : OsState) : Hook.obs (Hk p') ⟨hf p' w.params, ⟨[]⟩, {}, 433, os⟩ = Hook.val (Hk p') w := by kernel_rfl
theorem left' : LeftO p' v' [] (fun s => xlAt v' [] s && recOk [] s) (Hook.obs (Hk p')) (Hook.val (Hk p')) 2378 := by
  have h1 := run; have h2 := z1; have h3 := z2
  rw [show tb = treeTable from PySem.W.Fast.te14364793385576792824.symm] at h1
  rw [show im = importedModules p'.main.body from congrFun PySem.W.Fast.te5923862056798008813.symm _] at h2 h3
  rw [show PySem.W.Fast.tw4187177175401517315 = openSeen from PySem.W.Fast.te4187177175401517315.symm] at h3
  exact LeftO.of_pieces (boot_open rfl rfl fun _ => rfl) z0 h1 (by decide) fun w => funext fun os => by
    rw [h2 w os, h3 w os, z3 w os]
theorem left_of (p : Program) (h : p = p') : LeftO p (view p keep) [] (fun s => xlAt (view p keep) [] s && recOk [] s) (Hook.obs (Hk p)) (Hook.val (Hk p)) 2378 := by
  subst h; exact left'
theorem left : LeftO pg vw [] (fun s => xlAt vw [] s && recOk [] s) (Hook.obs (Hk pg)) (Hook.val (Hk pg)) 2378 := left_of pg PySem.W.Fast.te2167491939154111618
end K15
namespace K15
open PySem L2 Trn
theorem there {l : PySem.W.OpenLaw} {w : World} {P : Params} {h : Heap} {mg : Str → Option Value} {fa : Addr} (X : (K P).In h) (G : h.Ns mainGlobals mg) (hfa : mg "law" = some (.ref fa)) :
    ∃ fd : FuncData, (∀ (s : Shared) (v : Value), BindsTo s fd ⟨[v], []⟩ [("_law_script", v)]) ∧ ∀ base : Heap, (K P).In base → base.Ns mainGlobals mg → FnOk l.prog w (K P) mg base CX0 6 fa fd ["_law_script"] (spLaw (K P)) :=
  all_mk X G hfa (dk (f := 46) (cd := 45) (m := "roundcuts.fractions") (t := 223) (by kernel_rfl) (by kernel_rfl) (by kernel_rfl))
    (dk (f := 58) (cd := 57) (m := "roundcuts.fractions") (t := 223) (by kernel_rfl) (by kernel_rfl) (by kernel_rfl))
    (dk (f := 72) (cd := 71) (m := "roundcuts.rows") (t := 255) (by kernel_rfl) (by kernel_rfl) (by kernel_rfl))
    (dk (f := 128) (cd := 127) (m := "roundcuts.turns") (t := 265) (by kernel_rfl) (by kernel_rfl) (by kernel_rfl))
    (dk (f := 135) (cd := 134) (m := "law_roundcuts_k15_whole_between_directions") (t := 354) (by kernel_rfl) (by kernel_rfl) (by kernel_rfl))
    (dk (f := 149) (cd := 148) (m := "law_roundcuts_k15_whole_between_directions") (t := 354) (by kernel_rfl) (by kernel_rfl) (by kernel_rfl))
    (dk (f := 156) (cd := 155) (m := "law_roundcuts_k15_whole_between_directions") (t := 354) (by kernel_rfl) (by kernel_rfl) (by kernel_rfl))
    (dk (f := 177) (cd := 176) (m := "law_roundcuts_k15_whole_between_directions") (t := 354) (by kernel_rfl) (by kernel_rfl) (by kernel_rfl))
    (dk (f := 51) (cd := 50) (m := "roundcuts.fractions") (t := 223) (by kernel_rfl) (by kernel_rfl) (by kernel_rfl))
    (dk (f := 65) (cd := 64) (m := "roundcuts.fractions") (t := 223) (by kernel_rfl) (by kernel_rfl) (by kernel_rfl))
    (dk (f := 86) (cd := 85) (m := "roundcuts.turns") (t := 265) (by kernel_rfl) (by kernel_rfl) (by kernel_rfl))
    (dk (f := 107) (cd := 106) (m := "roundcuts.turns") (t := 265) (by kernel_rfl) (by kernel_rfl) (by kernel_rfl))
    (dk (f := 114) (cd := 113) (m := "roundcuts.turns") (t := 265) (by kernel_rfl) (by kernel_rfl) (by kernel_rfl))
    (dk (f := 121) (cd := 120) (m := "roundcuts.turns") (t := 265) (by kernel_rfl) (by kernel_rfl) (by kernel_rfl))
    (dk (f := 142) (cd := 141) (m := "law_roundcuts_k15_whole_between_directions") (t := 354) (by kernel_rfl) (by kernel_rfl) (by kernel_rfl))
    (dk (f := 163) (cd := 162) (m := "law_roundcuts_k15_whole_between_directions") (t := 354) (by kernel_rfl) (by kernel_rfl) (by kernel_rfl))
    (dk (f := 170) (cd := 169) (m := "law_roundcuts_k15_whole_between_directions") (t := 354) (by kernel_rfl) (by kernel_rfl) (by kernel_rfl))
    (dk (f := 93) (cd := 92) (m := "roundcuts.turns") (t := 265) (by kernel_rfl) (by kernel_rfl) (by kernel_rfl))
    (dk (f := 100) (cd := 99) (m := "roundcuts.turns") (t := 265) (by kernel_rfl) (by kernel_rfl) (by kernel_rfl))
    (dk (f := 79) (cd := 78) (m := "roundcuts.turns") (t := 265) (by kernel_rfl) (by kernel_rfl) (by kernel_rfl))
    (dk (f := 184) (cd := 183) (m := "law_roundcuts_k15_whole_between_directions") (t := 354) (by kernel_rfl) (by kernel_rfl) (by kernel_rfl))
    (by kernel_rfl : PySem.W.nsIn (K P) mainGlobals "law" = some (some (.ref 189))) (by kernel_rfl : (K P).lookup 189 = some (kf "law" s_law 188 "law_roundcuts_k15_whole_between_directions" 354)) (by kernel_rfl : PySem.W.codeIn (K P) (.ref 188) "law" = true) (by kernel_rfl) (by kernel_rfl) (by kernel_rfl) (by kernel_rfl) (by kernel_rfl) (by kernel_rfl) (by kernel_rfl) (by kernel_rfl) (by kernel_rfl) (by kernel_rfl) (by kernel_rfl) (by kernel_rfl) (by kernel_rfl) (by kernel_rfl) (by kernel_rfl) (by kernel_rfl) (by kernel_rfl)
end K15
open PySem PySem.W PyProof.Rows
set_option maxRecDepth 100000 in
set_option maxHeartbeats 0 in
theorem PySem.Challenge.cw_roundcuts_k15_whole_between_directions_holds : PySem.Challenge.rw_roundcuts_k15_whole_between_directions.Holds := by
  w_on; o_law
  refine holds_open (q := K15.vw) (XP := XL K15.vw []) (YP := Hook.says (K15.Hk _)) K15.left (Hook.of _) (Hook.keeps _) (fun s e => xl_of s (Bool.and_eq_true_iff.mp e).1)
    XL.keeps rfl rfl rfl (fun s e => recFacts_of (Bool.and_eq_true_iff.mp e).2) rfl (by assumption) (by decide +kernel) ⟨rfl, rfl, rfl, rfl, rfl, by decide +kernel⟩ ?hw ?hc
  case hw => w_witness2
  exact K15.walk (l := PySem.Challenge.rw_roundcuts_k15_whole_between_directions) rfl rfl (fun w h Y => PySem.W.kIn_of Y) (fun P => by kernel_rfl) (fun w mg fa h X G e => K15.there X G e)
