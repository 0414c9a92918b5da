import PyProof.Rows.All
import Wide.All
import OpenK.AllK
import Wide.FinOn
import PyProof.EqAt
import PyProof.EqKinds
import PyProof.TupleCall
import Lean
import PyProof.DictWalks
import PyProof.DictIter
import PyProof.P3In
import KE.KEqSeq
import PyProof.ReprLen
import PyProof.ReprRoads
import PyProof.StrOps2
import KE.KRevSl
import PyProof.IsRules
import PyProof.StrLawsIdx
import PyProof.Rows.RegRepr
import PyProof.Rows.RegFStrParts
import PyProof.DictUpdate
import PyProof.AttrMissHeap
import PyProof.Walks
import KE.KDictOf
import PyProof.EnumIter
import PyProof.EnumFor
import PyProof.LayNew
import PyProof.EnumMake
import PyProof.Draws
import PyProof.WalksT
import PyProof.TupleIter
import PyProof.WalksMore
import KE.KRevIter
import KE.KEqDict
import PyProof.Rows.SetFrom
import PyProof.StrLawsTight
import PyProof.StrLawsChain
import PyProof.SumWalk
import PyProof.Rows.SortStr
import PyProof.Rows.SortWalk
import PyProof.TupleOfSeq
import KE.KDictSum
import KE.KSortTup
import PyProof.ListRange
import PyProof.ZipIter
import PyProof.Rows.ZipGen
import KE.KItemsList
import PyProof.ExcArgsOwn
import PyProof.InstStoreFacts
import PyProof.ExcBaseAll.ValueError
import PyProof.StationsW
import PyProof.RulesAs
import PyProof.RulesDel
import PyProof.NeKinds
import PyProof.ListMulAny
import KE.KMinBuiltin
import PyProof.Rows.CallKwBuiltin
import KE.KLam
import KE.KMinKey
import PyProof.WalkInts
import KE.KNestM
import PyProof.SeqI3
import KE.KSortKey
import PySem.Challenge.RW_halforder_k62_plans_let_by
set_option compiler.extract_closed false
set_option Elab.async false
set_option linter.all false
set_option maxRecDepth 100000
namespace L2
open PySem PySem.Spec PyProof.Rows
noncomputable abbrev Key := Sum Int Str
noncomputable def keyIs : Key → Value → Bool
  | .inl k, v => Value.isInt k v
  | .inr x, v => Value.isStrOf x v
noncomputable def keyH (w : World) : Key → Int
  | .inl k => hashInt k
  | .inr x => hashStr w x
theorem keyIs_shape : ∀ {k : Key} {v : Value}, keyIs k v = true → (∃ i t, k = Sum.inl i ∧ v = Value.int i t) ∨ (∃ x t, k = Sum.inr x ∧ v = Value.str x t)
  | .inl i, v, h => by
    obtain ⟨t, e⟩ := Value.isInt_shape (k := i) (v := v) h
    exact .inl ⟨i, t, rfl, e⟩
  | .inr x, v, h => by
    obtain ⟨t, e⟩ := Value.isStrOf_shape (x := x) (v := v) h
    exact .inr ⟨x, t, rfl, e⟩
theorem keyIs_int (i : Int) (t : Tok) : keyIs (.inl i) (.int i t) = true := by simp [keyIs, Value.isInt]
theorem keyIs_str (x : Str) (t : Tok) : keyIs (.inr x) (.str x t) = true := by simp [keyIs, Value.isStrOf]
theorem key_ll (a b : Int) : decide ((Sum.inl a : Key) = Sum.inl b) = (a == b) := by
  by_cases e : a = b
  · subst e; simp
  · have h : ¬ (Sum.inl a : Key) = Sum.inl b := fun q => e (Sum.inl.inj q)
    rw [decide_eq_false h]
    exact (beq_eq_false_iff_ne.mpr e).symm
theorem key_rr (a b : Str) : decide ((Sum.inr a : Key) = Sum.inr b) = decide (a = b) := by
  by_cases e : a = b
  · subst e; simp
  · have h : ¬ (Sum.inr a : Key) = Sum.inr b := fun q => e (Sum.inr.inj q)
    rw [decide_eq_false h, decide_eq_false e]
theorem key_lr (a : Int) (b : Str) : decide ((Sum.inl a : Key) = Sum.inr b) = false := decide_eq_false (fun q => nomatch q)
theorem key_rl (a : Str) (b : Int) : decide ((Sum.inr a : Key) = Sum.inl b) = false := decide_eq_false (fun q => nomatch q)
noncomputable def mixKind (prog : Program) (w : World) : PySem.KeyKind prog w Key where
  is := keyIs
  hash := keyH w
  inj := fun v a b ha hb => by
    rcases keyIs_shape ha with ⟨i, t, rfl, rfl⟩ | ⟨x, t, rfl, rfl⟩
    · rcases keyIs_shape hb with ⟨j, u, rfl, e⟩ | ⟨y, u, rfl, e⟩
      · injection e with e1 _; rw [e1]
      · exact nomatch e
    · rcases keyIs_shape hb with ⟨j, u, rfl, e⟩ | ⟨y, u, rfl, e⟩
      · exact nomatch e
      · injection e with e1 _; rw [e1]
  byValue := fun k v h => by
    rcases keyIs_shape h with ⟨i, t, rfl, rfl⟩ | ⟨x, t, rfl, rfl⟩ <;> rfl
  pyHash := fun hv h => by
    rcases keyIs_shape hv with ⟨i, t, rfl, rfl⟩ | ⟨x, t, rfl, rfl⟩
    · exact wpAny_pyHash_int h
    · exact wpAny_pyHash_str h
  eqBool := fun hu hv h => by
    rcases keyIs_shape hu with ⟨i, t, rfl, rfl⟩ | ⟨x, t, rfl, rfl⟩
    · rcases keyIs_shape hv with ⟨j, u, rfl, rfl⟩ | ⟨y, u, rfl, rfl⟩
      · rw [key_ll] at h; exact wpAny_eqBool_int h
      · rw [key_lr] at h; exact SeqAt.EqAt.int_str i t y u _ _ _ _ h
    · rcases keyIs_shape hv with ⟨j, u, rfl, rfl⟩ | ⟨y, u, rfl, rfl⟩
      · rw [key_rl] at h; exact SeqAt.EqAt.str_int x t j u _ _ _ _ h
      · rw [key_rr] at h; exact wpAny_eqBool_str h
  «strs» := fun k x t v h => by
    rcases keyIs_shape h with ⟨i, u, rfl, e⟩ | ⟨y, u, rfl, e⟩
    · exact nomatch e
    · injection e with e1 _
      subst e1
      cases v <;> rfl
theorem mixKind_int (prog : Program) (w : World) (i : Int) (t : Tok) : (mixKind prog w).is (.inl i) (.int i t) = true := keyIs_int i t
theorem mixKind_str (prog : Program) (w : World) (x : Str) (t : Tok) : (mixKind prog w).is (.inr x) (.str x t) = true := keyIs_str x t
end L2
namespace L2
open PySem PySem.Spec PyProof.Rows
inductive V where
  | non | bl (b : Bool) | int (i : Int) | str (x : Str) | byt (b : Array UInt8) | flt (b : UInt64) | ref (a : Addr) | ty (n : String)
  deriving DecidableEq
noncomputable def RelV : V → Value → Prop
  | .non, u => u = Value.none
  | .bl b, u => u = Value.bool b
  | .int i, u => ∃ t, u = Value.int i t
  | .str x, u => ∃ t, u = Value.str x t
  | .byt b, u => ∃ t, u = Value.bytes b t
  | .flt b, u => ∃ t, u = Value.float b t
  | .ref a, u => u = Value.ref a
  | .ty n, u => u = Value.type n
noncomputable abbrev Vals : List V → List Value → Prop := Paired RelV
theorem Vals.length {xs : List V} {us : List Value} (r : Vals xs us) : xs.length = us.length := Paired.length r
theorem Vals.get : ∀ {xs : List V} {us : List Value} {i : Nat} {x : V}, Vals xs us → xs[i]? = some x → ∃ u, us[i]? = some u ∧ RelV x u
  | _, _, _, _, .nil, e => by simp at e
  | _, _, 0, _, .cons r _, e => by simp at e; subst e; exact ⟨_, rfl, r⟩
  | _, _, i + 1, x, .cons _ t, e => by
    obtain ⟨u, h1, h2⟩ := Vals.get (i := i) (x := x) t (by simpa using e)
    exact ⟨u, by simpa using h1, h2⟩
theorem Vals.append : ∀ {xs ys : List V} {us ws : List Value}, Vals xs us → Vals ys ws → Vals (xs ++ ys) (us ++ ws)
  | _, _, _, _, .nil, s => s
  | _, _, _, _, .cons r t, s => .cons r (Vals.append t s)
theorem Vals.take : ∀ {xs : List V} {us : List Value} (n : Nat), Vals xs us → Vals (xs.take n) (us.take n)
  | _, _, 0, _ => .nil
  | _, _, _ + 1, .nil => .nil
  | _, _, n + 1, .cons r t => .cons r (Vals.take n t)
theorem Vals.drop : ∀ {xs : List V} {us : List Value} (n : Nat), Vals xs us → Vals (xs.drop n) (us.drop n)
  | _, _, 0, r => r
  | _, _, _ + 1, .nil => .nil
  | _, _, n + 1, .cons _ t => Vals.drop n t
noncomputable def RelO : Option V → Option Value → Prop
  | some v, some u => RelV v u
  | none, none => True
  | _, _ => False
noncomputable def KV {κ : Type} : List (κ × V) → List (κ × Value) → Prop := Paired fun (p : κ × V) (q : κ × Value) => p.1 = q.1 ∧ RelV p.2 q.2
noncomputable def kV : Key → V
  | .inl i => .int i
  | .inr x => .str x
noncomputable def IsTupN (h : Heap) (a : Addr) (items : Array Value) : Prop := ∃ o, h.get? a = some o ∧ o.cls = .type "tuple" ∧ (∃ n, o.data = .seq items n) ∧ o.dict = none
theorem IsTupN.tup {h : Heap} {a : Addr} {items : Array Value} (x : IsTupN h a items) : IsTup h a items := let ⟨o, h1, h2, ⟨n, h3⟩, _⟩ := x; ⟨o, h1, h2, n, h3⟩
theorem IsTupN.new (h : Heap) (its : Array Value) : IsTupN (h.push { cls := .type "tuple", data := .seq its }) h.objs.size its := ⟨_, Heap.get?_push_size _ rfl, rfl, ⟨_, rfl⟩, rfl⟩
inductive HO where
  | lst (xs : List V)
  | tup (xs : List V)
  | dK (kvs : List (Key × V)) | dT (kvs : List (List Key × V))
  | set (S : Int → Bool) (n : Nat)
  | ins (C dx : Addr) (fs : List (Str × V))
  | own (x : Addr)
  | xd (fs : List (Str × V))
  | met (f x : Addr)
  | rng (lo hi : Int)
  | frz (o : Obj) (u : HO)
  | tbl (ps : Array Value)
  | ext (φ : Heap → Prop)
noncomputable abbrev Hp := Addr → Option HO
noncomputable def upd (H : Hp) (a : Addr) (o : HO) : Hp := fun b => if b = a then some o else H b
theorem upd_same {H : Hp} {a : Addr} {o : HO} : upd H a o a = some o := by unfold upd; rw [if_pos rfl]
theorem upd_ne {H : Hp} {a b : Addr} {o : HO} (h : b ≠ a) : upd H a o b = H b := by unfold upd; rw [if_neg h]
theorem ne_of {H : Hp} {a b : Addr} {o u : HO} (h : H a = some o) (h' : H b = some u) (d : o ≠ u) : a ≠ b := by
  intro e; subst e; rw [h] at h'; exact d (Option.some.inj h')
theorem ne_of_none {H : Hp} {a b : Addr} {o : HO} (h : H a = some o) (h' : H b = none) : a ≠ b := by
  intro e; subst e; rw [h] at h'; cases h'
section
variable (P : Program) (w : World)
noncomputable def ObjOk (H : Hp) (h : Heap) (a : Addr) : HO → Prop
  | .lst xs => xs.length ≤ sizeLine ∧ ∃ (its : List Value) (n : Nat), Vals xs its ∧ h.get? a = some { cls := .type "list", data := .seq its.toArray n }
  | .tup xs => xs.length ≤ sizeLine ∧ ∃ its : List Value, Vals xs its ∧ IsTupN h a its.toArray
  | .dK kvs => kvs.length ≤ sizeLine ∧ (a == sysModules) = false ∧ ∃ vs, KV kvs vs ∧ h.DictOf (mixKind P w) a vs
  | .dT kvs => kvs.length ≤ sizeLine ∧ (a == sysModules) = false ∧ ∃ xs : List (List Key × Addr × Value),
      Paired (fun (p : List Key × V) (q : List Key × Addr × Value) => p.1 = q.1 ∧ H q.2.1 = some (.tup (p.1.map kV)) ∧ RelV p.2 q.2.2) kvs xs ∧
      ∃ o es ep, h.get? a = some o ∧ o.ExactDict ∧ o.data = .dict es ep ∧ es.toList = xs.map (entryOfKey (tupleKind (mixKind P w))) ∧ (xs.map (·.1)).Nodup
  | .set S n => h.SetOf (intKind P w) a S n
  | .ins C dx fs => H dx = some (.own a) ∧ fs.length ≤ 1000 ∧ dx ≠ a ∧ h.get? a = some (PySem.W.instObj C dx) ∧
      ∃ mA, h.Ns1 dx mA ∧ (∀ f, RelO (fs.lookup f) (mA f)) ∧ PySem.Within mA (fs.map (·.1))
  | .own _ => ∃ o, h.get? a = some o
  | .xd fs => ∃ mA, h.Ns1 a mA ∧ ∀ f, RelO (fs.lookup f) (mA f)
  | .rng lo hi => ∃ t u v, h.get? a = some { cls := .type "range", data := .fields #[.int lo t, .int hi u, .int 1 v] }
  | .frz o u => h.get? a = some o ∧ ObjOk H h a u
  | .tbl ps => h.get? a = some { cls := .none, data := .fields ps }
  | .met f x => h.get? a = some (PySem.W.methodObj (.ref f) (.ref x))
  | .ext φ => φ h ∧ (∃ o, h.get? a = some o) ∧ ∀ h1 h2 : Heap, φ h1 → (∀ o, h1.get? a = some o → h2.get? a = some o) → φ h2
noncomputable def HOk (H : Hp) (h : Heap) : Prop := ∀ a o, H a = some o → ObjOk P w H h a o
end
section
variable {P : Program} {w : World} {H H' : Hp} {h h' : Heap} {a : Addr} {o : HO}
theorem ObjOk.lt (x : ObjOk P w H h a o) : a < h.objs.size := by
  cases o with
  | lst xs => obtain ⟨_, _, _, _, e⟩ := x; exact Heap.lt_size e
  | tup xs => obtain ⟨_, _, _, p⟩ := x; exact p.tup.lt
  | dK kvs => obtain ⟨_, _, _, _, o, _, _, e, _⟩ := x; exact Heap.lt_size e
  | dT kvs => obtain ⟨_, _, _, _, o, _, _, e, _⟩ := x; exact Heap.lt_size e
  | set S n => obtain ⟨o, _, _, _, e, _⟩ := x; exact Heap.lt_size e
  | ins C dx fs => obtain ⟨_, _, _, e, _⟩ := x; exact Heap.lt_size e
  | own y => obtain ⟨_, e⟩ := x; exact Heap.lt_size e
  | xd fs => obtain ⟨_, ⟨_, _, _, e, _⟩, _⟩ := x; exact Heap.lt_size e
  | rng lo hi => obtain ⟨_, _, _, e⟩ := x; exact Heap.lt_size e
  | frz ob u => obtain ⟨e, _⟩ := x; exact Heap.lt_size e
  | tbl ps => exact Heap.lt_size (show h.get? a = some _ from x)
  | met f y => exact Heap.lt_size (show h.get? a = some _ from x)
  | ext φ => obtain ⟨_, ⟨_, e⟩, _⟩ := x; exact Heap.lt_size e
theorem Paired.mapP {α β : Type} {F G : α → β → Prop} : ∀ {l₁ : List α} {l₂ : List β}, Paired F l₁ l₂ → (∀ a b, F a b → G a b) → Paired G l₁ l₂
  | _, _, .nil, _ => .nil
  | _, _, .cons r t, f => .cons (f _ _ r) (Paired.mapP t f)
theorem ObjOk.stay (x : ObjOk P w H h a o) (k : ∀ b u, (b = a ∨ H b = some (.own a)) → h.get? b = some u → h'.get? b = some u)
    (ho : ∀ b, H b = some (.own a) → H' b = some (.own a)) (ht : ∀ b xs, H b = some (.tup xs) → H' b = some (.tup xs)) : ObjOk P w H' h' a o := by
  induction o with
  | lst xs => obtain ⟨z, its, n, r, e⟩ := x; exact ⟨z, its, n, r, k _ _ (.inl rfl) e⟩
  | tup xs => obtain ⟨z, its, r, ob, e, c⟩ := x; exact ⟨z, its, r, ob, k _ _ (.inl rfl) e, c⟩
  | dK kvs => obtain ⟨z, y, vs, r, ob, es, ep, e, c⟩ := x; exact ⟨z, y, vs, r, ob, es, ep, k _ _ (.inl rfl) e, c⟩
  | dT kvs =>
    obtain ⟨z, y, xs, r, ob, es, ep, e, c⟩ := x
    exact ⟨z, y, xs, Paired.mapP r fun p q z => ⟨z.1, ht _ _ z.2.1, z.2.2⟩, ob, es, ep, k _ _ (.inl rfl) e, c⟩
  | set S n => obtain ⟨ob, es, ep, t, e, c⟩ := x; exact ⟨ob, es, ep, t, k _ _ (.inl rfl) e, c⟩
  | ins C dx fs =>
    obtain ⟨d, z, ne, e, mA, ⟨od, es, ep, e2, c⟩, r⟩ := x
    exact ⟨ho _ d, z, ne, k _ _ (.inl rfl) e, mA, ⟨od, es, ep, k _ _ (.inr d) e2, c⟩, r⟩
  | own y => obtain ⟨ob, e⟩ := x; exact ⟨ob, k _ _ (.inl rfl) e⟩
  | xd fs => obtain ⟨mA, ⟨od, es, ep, e, c⟩, r⟩ := x; exact ⟨mA, ⟨od, es, ep, k _ _ (.inl rfl) e, c⟩, r⟩
  | rng lo hi => obtain ⟨t, u, v, e⟩ := x; exact ⟨t, u, v, k _ _ (.inl rfl) e⟩
  | frz ob u ih => obtain ⟨e, q⟩ := x; exact ⟨k _ _ (.inl rfl) e, ih q⟩
  | tbl ps =>
    have e : h.get? a = some { cls := .none, data := .fields ps } := x
    show h'.get? a = some { cls := .none, data := .fields ps }
    exact k a _ (.inl rfl) e
  | met f y =>
    have e : h.get? a = some (PySem.W.methodObj (.ref f) (.ref y)) := x
    show h'.get? a = some (PySem.W.methodObj (.ref f) (.ref y))
    exact k a _ (.inl rfl) e
  | ext φ => obtain ⟨p, ⟨o, e⟩, st⟩ := x; exact ⟨st _ _ p fun o q => k _ _ (.inl rfl) q, ⟨o, k _ _ (.inl rfl) e⟩, st⟩
theorem HOk.lt (x : HOk P w H h) (e : H a = some o) : a < h.objs.size := (x a o e).lt
theorem HOk.fresh (x : HOk P w H h) (e : h.objs.size ≤ a) : H a = none := by
  cases q : H a with
  | none => rfl
  | some u => exact absurd (Nat.lt_of_lt_of_le (x.lt q) e) (Nat.lt_irrefl _)
theorem HOk.kept (x : HOk P w H h) (k : ∀ b u, h.get? b = some u → h'.get? b = some u) : HOk P w H h' := fun a o e =>
  (x a o e).stay (fun b u _ q => k b u q) (fun _ q => q) fun _ _ q => q
theorem HOk.laid (x : HOk P w H h) (k : ∀ b u, h.get? b = some u → h'.get? b = some u) (hp : h.objs.size ≤ a) (new : ObjOk P w (upd H a o) h' a o) : HOk P w (upd H a o) h' := fun b u e => by
  have hn := x.fresh hp
  by_cases hb : b = a
  · subst hb; rw [upd_same] at e; cases e; exact new
  · rw [upd_ne hb] at e
    exact (x b u e).stay (fun c v _ q => k c v q) (fun c q => by rw [upd_ne (ne_of_none q hn)]; exact q) fun c xs q => by rw [upd_ne (ne_of_none q hn)]; exact q
end
noncomputable def Rd (H : Hp) (a : Addr) (u : HO) : Prop := H a = some u ∨ ∃ o, H a = some (.frz o u)
theorem Rd.ok {P : Program} {w : World} {H : Hp} {h : Heap} {a : Addr} {u : HO} (r : Rd H a u) (x : HOk P w H h) : ObjOk P w H h a u := by
  rcases r with r | ⟨o, r⟩
  · exact x a u r
  · obtain ⟨_, q⟩ := x a _ r
    exact q
noncomputable def Mut : Option HO → Prop
  | some (.lst _) => True
  | some (.dK _) => True
  | some (.dT _) => True
  | some (.set _ _) => True
  | some (.ins _ _ _) => True
  | some (.ext _) => True
  | _ => False
section
variable {P : Program} {w : World} {H : Hp} {h h' : Heap} {x e : Addr} {o' : HO}
theorem HOk.write (ok : HOk P w H h) (mu : Mut (H x)) (he : e = x ∨ H e = some (.own x)) (k : ∀ b u, b ≠ e → h.get? b = some u → h'.get? b = some u) (heo : ∃ u, h'.get? e = some u)
    (new : ObjOk P w (upd H x o') h' x o') : HOk P w (upd H x o') h' := fun b u q => by
  have nown : ∀ c y, H c = some (.own y) → c ≠ x := fun c y r z => by subst z; rw [r] at mu; exact mu
  have ntup : ∀ c xs, H c = some (.tup xs) → c ≠ x := fun c xs r z => by subst z; rw [r] at mu; exact mu
  by_cases hb : b = x
  · subst hb; rw [upd_same] at q; cases q; exact new
  · rw [upd_ne hb] at q
    by_cases hbe : b = e
    · have q' : H b = some (.own x) := by
        rcases he with z | z
        · exact absurd (hbe.trans z) hb
        · rw [hbe]; exact z
      rw [q] at q'; cases q'
      obtain ⟨v, hv⟩ := heo
      exact ⟨v, by rw [hbe]; exact hv⟩
    · refine (ok b u q).stay (fun c v hc r => k c v ?_ r) (fun c r => by rw [upd_ne (nown c b r)]; exact r) fun c xs r => by rw [upd_ne (ntup c xs r)]; exact r
      rcases hc with rfl | hc
      · exact hbe
      · rintro rfl
        rcases he with z | z
        · exact nown c b hc z
        · rw [hc] at z; cases z; exact hb rfl
end
structure Un (fs ex : List Addr) (H H' : Hp) (h h' : Heap) : Prop where
  keep : ∀ b o, h.get? b = some o → H b = none → b ∉ fs → b ∉ ex → h'.get? b = some o
  slot : ∀ b o, h.get? b = some o → H b = none → b ∈ fs → b ∉ ex → ∃ sl, h'.get? b = some { o with slots := sl }
  free : ∀ b o, h.get? b = some o → H b = none → b ∉ ex → H' b = none
  there : ∀ b o, h.get? b = some o → b ∉ ex → ∃ o', h'.get? b = some o'
  tups : ∀ b xs, H b = some (.tup xs) → H' b = some (.tup xs)
  frzs : ∀ b o u, H b = some (.frz o u) → H' b = some (.frz o u)
  tbls : ∀ b ps, H b = some (.tbl ps) → ∃ more, H' b = some (.tbl (ps ++ more))
section
variable {fs fs' ex ex' : List Addr} {H H1 H2 : Hp} {h h1 h2 h' : Heap} {a x e : Addr} {o : HO}
theorem Un.any (u : Un fs ex H H1 h h1) {b : Addr} {ob : Obj} (q : h.get? b = some ob) (n : H b = none) (hx : b ∉ ex) : ∃ sl, h1.get? b = some { ob with slots := sl } := by
  by_cases hb : b ∈ fs
  · exact u.slot b ob q n hb hx
  · exact ⟨ob.slots, u.keep b ob q n hb hx⟩
theorem Un.kept (k : ∀ b u, h.get? b = some u → h'.get? b = some u) : Un fs ex H H h h' :=
  ⟨fun b ob q _ _ _ => k b ob q, fun b ob q _ _ _ => ⟨ob.slots, k b ob q⟩, fun _ _ _ n _ => n, fun b ob q _ => ⟨ob, k b ob q⟩, fun _ _ q => q, fun _ _ _ q => q, fun _ ps q => ⟨#[], by rw [q]; simp⟩⟩
theorem Un.refl : Un fs ex H H h h := Un.kept fun _ _ q => q
theorem Un.laid (k : ∀ b u, h.get? b = some u → h'.get? b = some u) (hp : h.objs.size ≤ a) (hn : H a = none) : Un fs ex H (upd H a o) h h' where
  keep := fun b u q _ _ _ => k b u q
  slot := fun b u q _ _ _ => ⟨u.slots, k b u q⟩
  free := fun b u q n _ => by rw [upd_ne (Nat.ne_of_lt (Nat.lt_of_lt_of_le (Heap.lt_size q) hp))]; exact n
  there := fun b u q _ => ⟨u, k b u q⟩
  tups := fun b xs q => by rw [upd_ne (ne_of_none q hn)]; exact q
  frzs := fun b u xs q => by rw [upd_ne (ne_of_none q hn)]; exact q
  tbls := fun b ps q => ⟨#[], by rw [upd_ne (ne_of_none q hn), q]; simp⟩
theorem Un.write (mu : Mut (H x)) (he : e = x ∨ H e = some (.own x)) (k : ∀ b u, b ≠ e → h.get? b = some u → h'.get? b = some u) (heo : ∃ u, h'.get? e = some u) : Un fs ex H (upd H x o) h h' := by
  have hx : ∀ b, H b = none → b ≠ x := fun b n z => by subst z; rw [n] at mu; exact mu
  have hb : ∀ b, H b = none → b ≠ e := fun b n z => by
    subst z
    rcases he with r | r
    · exact hx b n r
    · rw [n] at r; cases r
  have hm : ∀ b u, H b = some u → ¬ Mut (some u) → b ≠ x := fun b u q nm z => by subst z; rw [q] at mu; exact nm mu
  refine ⟨fun b u q n _ _ => k b u (hb b n) q, fun b u q n _ _ => ⟨u.slots, k b u (hb b n) q⟩, fun b u q n _ => by rw [upd_ne (hx b n)]; exact n, fun b u q _ => ?_,
    fun b xs q => by rw [upd_ne (hm b _ q fun z => z)]; exact q, fun b u xs q => by rw [upd_ne (hm b _ q fun z => z)]; exact q, fun b ps q => ⟨#[], by rw [upd_ne (hm b _ q fun z => z), q]; simp⟩⟩
  by_cases hbe : b = e
  · subst hbe; exact heo
  · exact ⟨u, k b u hbe q⟩
end
noncomputable def trk (h : Heap) (H : Hp) : List Addr := (List.range h.objs.size).filter fun a => (H a).isSome
noncomputable def hidT (h : Heap) (H : Hp) : Heap := PySem.W.hideAll h (trk h H)
theorem hidT_size (h : Heap) (H : Hp) : (hidT h H).objs.size = h.objs.size := PySem.W.hideAll_size _ _
theorem hidT_get {h : Heap} {H : Hp} {b : Addr} {o : Obj} (e : h.get? b = some o) (n : H b = none) : (hidT h H).get? b = some o :=
  PySem.W.hideAll_get _ e fun hm => by
    have q : (H b).isSome = true := (List.mem_filter.mp hm).2
    rw [n] at q; simp at q
theorem of_hidT {h : Heap} {H : Hp} {b : Addr} {o : Obj} (e : (hidT h H).get? b = some o) : h.get? b = some o ∧ H b = none := by
  have e' : h.get? b = some o := PySem.W.of_hideAll (trk h H) e
  refine ⟨e', ?_⟩
  cases q : H b with
  | none => rfl
  | some x =>
    have hm : b ∈ trk h H := List.mem_filter.mpr ⟨List.mem_range.mpr (Heap.lt_size e'), by simp [q]⟩
    have z : (hidT h H).get? b = none := PySem.W.hideAll_none (trk h H) hm
    rw [z] at e; cases e
noncomputable def allNews (g h : Heap) (L : Addr) : List (Addr × Obj) := (List.range h.objs.size).filterMap fun a => if a = L ∨ (g.get? a).isSome = true then none else (h.get? a).map fun o => (a, o)
theorem mem_allNews {g h : Heap} {L a : Addr} {o : Obj} (h1 : a ≠ L) (h2 : g.get? a = none) (h3 : h.get? a = some o) : (a, o) ∈ allNews g h L :=
  List.mem_filterMap.mpr ⟨a, List.mem_range.mpr (Heap.lt_size h3), by simp [h1, h2, h3]⟩
theorem of_mem_allNews {g h : Heap} {L : Addr} {p : Addr × Obj} (hp : p ∈ allNews g h L) : p.1 ≠ L ∧ g.get? p.1 = none ∧ h.get? p.1 = some p.2 := by
  obtain ⟨b, _, e⟩ := List.mem_filterMap.mp hp
  split at e
  · cases e
  · rename_i hn
    cases q : h.get? b with
    | none => rw [q] at e; simp at e
    | some u =>
      rw [q] at e
      simp only [Option.map_some, Option.some.injEq] at e
      subst e
      refine ⟨fun z => hn (.inl z), ?_, q⟩
      show g.get? b = none
      cases r : g.get? b with
      | none => rfl
      | some v => exact (hn (.inr (by simp [r]))).elim
noncomputable def rest (g h : Heap) (L d : Addr) : List (Addr × Obj) := (allNews g h L).filter fun p => decide (p.1 ≠ d)
theorem news_all {g h : Heap} {L : Addr} : News g L h (allNews g h L) := fun p hp => let ⟨a, b, c⟩ := of_mem_allNews hp; ⟨c, a, b⟩
end L2
namespace L2
open PySem PySem.Spec PyProof.Rows
structure Mod (K : PySem.W.Frag) (mg : Str → Option Value) (base : Heap) : Prop where
  kin : K.In base
  glob : base.Ns mainGlobals mg
  blt : ∃ mb, base.Ns builtinsNs mb ∧ ∀ x : Str, x ≠ "__name__" → mb x = bootBuiltins x
  nolimit : base.NoLimit
/-- the context: a def's body (or a comprehension's block) running. base: fixed through the whole law; s₀, H₀: the entry; outer: the frames whose slots others may change (a def's callers); stack: all frames that run;
   ex: iterators that were made ahead of the entry and are walked here (a comprehension's); fn: the names whose cells were made at the entry (a def: all; a comprehension's block: its own); calm: not within an except suite; pn: pins that every state bears; xe: what is wanted of an exception that leaves the code -/
structure Cx where
  prog : Program
  w : World
  K : PySem.W.Frag
  mg : Str → Option Value
  base : Heap
  A : Around
  N : List Str
  s₀ : Shared
  H₀ : Hp
  env : Env
  outer : List Env
  stack : List Env
  ex : List Addr
  fn : Str → Bool
  calm : Bool
  pn : List (Addr × Obj)
  xe : Value → Shared → Prop
noncomputable def frs (l : List Env) : List Addr := l.filterMap (·.frame)
noncomputable abbrev Cx.fs (X : Cx) : List Addr := frs X.outer
noncomputable def Vis (sc : Scope) (x : Str) : Prop := sc.names.lookup x = some .local ∨ sc.names.lookup x = some .cell ∨ sc.names.lookup x = some .free
noncomputable def Loc (sc : Scope) (x : Str) : Prop := sc.names.lookup x = some .local ∨ sc.names.lookup x = some .cell
noncomputable def Look (env : Env) (h : Heap) (m : Str → Option Value) (x : Str) (u : Value) : Prop :=
  (env.kindOf x = some .local ∧ m x = some u) ∨ ((env.kindOf x = some .cell ∨ env.kindOf x = some .free) ∧ ∃ c, env.cells.lookup x = some c ∧ h.IsCell c (some u))
structure Cx.Ok (X : Cx) : Prop where
  mod : Mod X.K X.mg X.base
  kind : X.env.scope.kind = .function
  glob : X.env.globals = mainGlobals
  blt : X.env.builtins = builtinsNs
  above : X.s₀.heap.objs.size ≤ X.env.locals
  inj : ∀ x y c, X.env.cells.lookup x = some c → X.env.cells.lookup y = some c → x = y
  has : ∀ x, (X.env.kindOf x = some .cell ∨ X.env.kindOf x = some .free) → ∃ c, X.env.cells.lookup x = some c
  cab : ∀ x c, X.fn x = true → X.env.cells.lookup x = some c → X.s₀.heap.objs.size ≤ c
  hd : X.calm = true → X.A.handled = none
  frames : X.A.frames = some X.stack
  stk : X.stack = X.outer ∨ (X.stack = X.env :: X.outer ∧ X.env.frame = some X.env.locals)
  exf : ∀ b ∈ X.ex, b ≠ X.env.locals ∧ ∀ x c, X.env.cells.lookup x = some c → c ≠ b
  bs : ∀ b o, X.base.get? b = some o → X.s₀.heap.get? b = some o ∧ X.H₀ b = none
  bsz : X.base.objs.size ≤ X.s₀.heap.objs.size
  noex : ∀ b o, X.base.get? b = some o → b ∉ X.ex
  exfs : ∀ b ∈ X.ex, b ∉ X.fs
  funs : X.s₀.heap.FunFrames X.base X.outer
  frf : ∀ b ∈ X.fs, X.H₀ b = none
structure Inv (X : Cx) (pins : List (Addr × Obj)) (σ : List (Option V)) (H : Hp) (s : Shared) : Prop where
  ok : X.Ok
  os : s.os = X.s₀.os
  bare : AllBare s.gens
  base : Un X.fs X.ex X.H₀ H X.s₀.heap s.heap
  loc : ∃ m, s.heap.Ns X.env.locals m ∧ ∀ (i : Nat) (x : Str) (v : V), X.N[i]? = some x → σ[i]? = some (some v) → Vis X.env.scope x → ∃ u, RelV v u ∧ Look X.env s.heap m x u
  cell : ∀ x c, X.env.cells.lookup x = some c → ∃ v, s.heap.IsCell c v
  free : H X.env.locals = none
  freeC : ∀ x c, X.env.cells.lookup x = some c → H c = none
  pin : ∀ p ∈ X.pn ++ pins, s.heap.get? p.1 = some p.2 ∧ H p.1 = none ∧ p.1 ≠ X.env.locals ∧ p.1 ∉ X.fs ∧ ∀ v, p.2.data ≠ .cell v
  hok : HOk X.prog X.w H s.heap
  len : σ.length = X.N.length
section
variable {X : Cx} {pins : List (Addr × Obj)} {σ : List (Option V)} {H H' : Hp} {s : Shared} {h' : Heap}
theorem Cx.Ok.nofr (ok : X.Ok) {b : Addr} {o : Obj} (e : X.base.get? b = some o) : b ∉ X.fs := fun hb => by
  have := (ok.funs.mem hb).1
  rw [e] at this; cases this
theorem Inv.bs (I : Inv X pins σ H s) : ∀ b o, X.base.get? b = some o → s.heap.get? b = some o ∧ H b = none := fun b o e =>
  ⟨I.base.keep b o (I.ok.bs b o e).1 (I.ok.bs b o e).2 (I.ok.nofr e) (I.ok.noex b o e), I.base.free b o (I.ok.bs b o e).1 (I.ok.bs b o e).2 (I.ok.noex b o e)⟩
theorem Inv.bk (I : Inv X pins σ H s) : ∀ b o, X.base.get? b = some o → s.heap.get? b = some o := fun b o e => (I.bs b o e).1
theorem Inv.mod (I : Inv X pins σ H s) : Mod X.K X.mg X.base := I.ok.mod
theorem Inv.kIn (I : Inv X pins σ H s) : X.K.In s.heap := I.ok.mod.kin.keeps I.bk
theorem Inv.lt (I : Inv X pins σ H s) : X.env.locals < s.heap.objs.size := let ⟨_, hn, _⟩ := I.loc; hn.lt
theorem Inv.sz (I : Inv X pins σ H s) : X.s₀.heap.objs.size ≤ s.heap.objs.size := Nat.le_trans I.ok.above (Nat.le_of_lt I.lt)
theorem Inv.nofs (I : Inv X pins σ H s) {a : Addr} (h : s.heap.objs.size ≤ a) : a ∉ X.fs := fun hb => by
  obtain ⟨_, o, ho, _⟩ := I.ok.funs.mem hb
  exact absurd (Nat.lt_of_lt_of_le (Heap.lt_size ho) (Nat.le_trans I.sz h)) (Nat.lt_irrefl _)
theorem Inv.cne (I : Inv X pins σ H s) : ∀ x c, X.env.cells.lookup x = some c → c ≠ X.env.locals := fun x c e z => by
  obtain ⟨v, o, ho, hd⟩ := I.cell x c e
  obtain ⟨m, ⟨o', es, ep, ho', hd', _⟩, _⟩ := I.loc
  rw [z, ho'] at ho; cases ho; rw [hd'] at hd; cases hd
theorem Inv.funs (I : Inv X pins σ H s) : s.heap.FunFrames X.base X.outer := by
  have all : ∀ (l : List Env), (∀ b ∈ frs l, b ∈ X.fs) → X.s₀.heap.FunFrames X.base l → s.heap.FunFrames X.base l := by
    intro l
    induction l with
    | nil => intro _ _; trivial
    | cons env r ih =>
      intro hs hl
      obtain ⟨hk, ⟨L, o, hf, hn, ho, hd⟩, hr⟩ := hl
      have hL : L ∈ X.fs := hs L (by unfold frs; rw [List.filterMap_cons, hf]; exact List.mem_cons_self)
      obtain ⟨sl, e⟩ := I.base.slot L o ho (I.ok.frf L hL) hL fun z => I.ok.exfs L z hL
      exact ⟨hk, ⟨L, _, hf, hn, e, hd⟩, ih (fun b hb => hs b (by unfold frs; rw [List.filterMap_cons, hf]; exact List.mem_cons_of_mem _ hb)) hr⟩
  exact all X.outer (fun _ hb => hb) I.ok.funs
theorem Inv.stack (I : Inv X pins σ H s) : s.heap.FunFrames X.base X.stack := by
  rcases I.ok.stk with e | ⟨e, hf⟩
  · rw [e]; exact I.funs
  · rw [e]
    obtain ⟨m, hn, _⟩ := I.loc
    refine .cons (by rw [I.ok.kind]; decide) hf hn ?_ I.funs
    exact Heap.get?_none_of_le (Nat.le_trans I.ok.bsz I.ok.above)
theorem Inv.stkSub (I : Inv X pins σ H s) : ∀ b ∈ frs X.stack, b ∈ X.env.locals :: X.fs := fun b hb => by
  rcases I.ok.stk with e | ⟨e, hf⟩
  · rw [e] at hb; exact List.mem_cons_of_mem _ hb
  · rw [e] at hb
    unfold frs at hb
    rw [List.filterMap_cons, hf] at hb
    exact hb
theorem Inv.stkFree (I : Inv X pins σ H s) : ∀ b ∈ frs X.stack, H b = none := fun b hb => by
  rcases List.mem_cons.mp (I.stkSub b hb) with e | hb
  · rw [e]; exact I.free
  · obtain ⟨_, o, ho, _⟩ := I.ok.funs.mem hb
    exact I.base.free b o ho (I.ok.frf b hb) fun z => I.ok.exfs b z hb
theorem Inv.step {g' : Array GenState} {t' : Nat} {d' : Drawn} {ch : List Addr} (I : Inv X pins σ H s)
    (hch : ∀ b ∈ ch, (b ∈ X.ex ∨ X.s₀.heap.objs.size ≤ b) ∧ b ≠ X.env.locals ∧ (∀ x c, X.env.cells.lookup x = some c → c ≠ b) ∧ ∀ p ∈ X.pn ++ pins, p.1 ≠ b)
    (keep : ∀ b o, b ≠ X.env.locals → b ∉ X.fs → b ∉ ch → s.heap.get? b = some o → H b = none → h'.get? b = some o)
    (slot : ∀ b o, b ≠ X.env.locals → b ∈ X.fs → b ∉ ch → s.heap.get? b = some o → H b = none → ∃ sl, h'.get? b = some { o with slots := sl }) (free : ∀ b o, b ∉ ch → s.heap.get? b = some o → H b = none → H' b = none)
    (there : ∀ b o, b ∉ ch → s.heap.get? b = some o → ∃ o', h'.get? b = some o')
    (tups : ∀ b xs, H b = some (.tup xs) → H' b = some (.tup xs)) (frzs : ∀ b o u, H b = some (.frz o u) → H' b = some (.frz o u)) (tbls : ∀ b ps, H b = some (.tbl ps) → ∃ more, H' b = some (.tbl (ps ++ more)))
    (ns : ∀ m, s.heap.Ns X.env.locals m → h'.Ns X.env.locals m) (hok : HOk X.prog X.w H' h') (hg : AllBare g') :
    Inv X pins σ H' { s with heap := h', gens := g', drawn := d', toks := t' } := by
  have neL : ∀ b o, X.s₀.heap.get? b = some o → b ≠ X.env.locals := fun b o e => Nat.ne_of_lt (Nat.lt_of_lt_of_le (Heap.lt_size e) I.ok.above)
  have neC : ∀ b o, X.s₀.heap.get? b = some o → b ∉ X.ex → b ∉ ch := fun b o e hx hb => by
    rcases (hch b hb).1 with z | z
    · exact hx z
    · exact absurd (Nat.lt_of_lt_of_le (Heap.lt_size e) z) (Nat.lt_irrefl _)
  have cellK : ∀ x c, X.env.cells.lookup x = some c → ∀ v, s.heap.IsCell c v → h'.IsCell c v := fun x c e v ⟨o, ho, hd⟩ => by
    have nch : c ∉ ch := fun z => (hch c z).2.2.1 x c e rfl
    by_cases hc : c ∈ X.fs
    · obtain ⟨sl, q⟩ := slot c o (I.cne x c e) hc nch ho (I.freeC x c e)
      exact ⟨_, q, hd⟩
    · exact ⟨o, keep c o (I.cne x c e) hc nch ho (I.freeC x c e), hd⟩
  refine ⟨I.ok, I.os, hg, ⟨fun b o e n hb hx => ?_, fun b o e n hb hx => ?_, fun b o e n hx => ?_, fun b o e hx => ?_, fun b xs e => tups b xs (I.base.tups b xs e), fun b o xs e => frzs b o xs (I.base.frzs b o xs e), fun b ps e => ?_⟩, ?_, fun x c e => ?_, ?_, fun x c e => ?_, fun p hp => ?_, hok, I.len⟩
  · exact keep b o (neL b o e) hb (neC b o e hx) (I.base.keep b o e n hb hx) (I.base.free b o e n hx)
  · obtain ⟨sl, e1⟩ := I.base.slot b o e n hb hx
    obtain ⟨sl', e2⟩ := slot b _ (neL b o e) hb (neC b o e hx) e1 (I.base.free b o e n hx)
    exact ⟨sl', e2⟩
  · obtain ⟨o', e1⟩ := I.base.there b o e hx
    exact free b o' (neC b o e hx) e1 (I.base.free b o e n hx)
  · obtain ⟨o', e1⟩ := I.base.there b o e hx
    exact there b o' (neC b o e hx) e1
  · obtain ⟨m1, e1⟩ := I.base.tbls b ps e
    obtain ⟨m2, e2⟩ := tbls b _ e1
    exact ⟨m1 ++ m2, by rw [e2, Array.append_assoc]⟩
  · obtain ⟨m, hn, hl⟩ := I.loc
    refine ⟨m, ns m hn, fun i x v e1 e2 e3 => ?_⟩
    obtain ⟨u, r, l⟩ := hl i x v e1 e2 e3
    refine ⟨u, r, ?_⟩
    rcases l with l | ⟨k, c, e, z⟩
    · exact .inl l
    · exact .inr ⟨k, c, e, cellK x c e _ z⟩
  · obtain ⟨v, z⟩ := I.cell x c e
    exact ⟨v, cellK x c e v z⟩
  · obtain ⟨m, ⟨o, _, _, ho, _⟩, _⟩ := I.loc
    exact free _ o (fun z => (hch _ z).2.1 rfl) ho I.free
  · obtain ⟨v, o, ho, hd⟩ := I.cell x c e
    exact free c o (fun z => (hch c z).2.2.1 x c e rfl) ho (I.freeC x c e)
  · obtain ⟨e, n, ne, nf, d⟩ := I.pin p hp
    have nch : p.1 ∉ ch := fun z => (hch p.1 z).2.2.2 p hp rfl
    exact ⟨keep p.1 p.2 ne nf nch e n, free p.1 p.2 nch e n, ne, nf, d⟩
theorem Inv.un {t' : Nat} (I : Inv X pins σ H s) (u : Un X.fs [] H H' s.heap h') (hok : HOk X.prog X.w H' h') : Inv X pins σ H' { s with heap := h', toks := t' } := by
  obtain ⟨m, ⟨o, es, ep, ho, r⟩, _⟩ := id I.loc
  obtain ⟨sl, hL⟩ := u.any ho I.free (by simp)
  exact I.step (g' := s.gens) (d' := s.drawn) (ch := []) (fun _ z => nomatch z) (fun b o _ hb _ e n => u.keep b o e n hb (by simp)) (fun b o _ hb _ e n => u.slot b o e n hb (by simp)) (fun b o _ e n => u.free b o e n (by simp)) (fun b o _ e => u.there b o e (by simp)) u.tups u.frzs u.tbls (fun m' hm => by
    obtain ⟨o', es', ep', ho', r'⟩ := hm
    rw [ho] at ho'; cases ho'
    exact ⟨_, es', ep', hL, r'⟩) hok I.bare
theorem Inv.call {g' : Array GenState} {t' : Nat} {d' : Drawn} {ch : List Addr} (I : Inv X pins σ H s) (u : Un (frs X.stack) ch H H' s.heap h') (hok : HOk X.prog X.w H' h') (hg : AllBare g')
    (hch : ∀ b ∈ ch, (b ∈ X.ex ∨ X.s₀.heap.objs.size ≤ b) ∧ b ≠ X.env.locals ∧ (∀ x c, X.env.cells.lookup x = some c → c ≠ b) ∧ ∀ p ∈ X.pn ++ pins, p.1 ≠ b) :
    Inv X pins σ H' { s with heap := h', gens := g', drawn := d', toks := t' } := by
  obtain ⟨m, ⟨o, es, ep, ho, r⟩, _⟩ := id I.loc
  obtain ⟨sl, hL⟩ := u.any ho I.free fun z => (hch _ z).2.1 rfl
  exact I.step (ch := ch) hch (fun b o hL hb hc e n => u.keep b o e n (fun z => (List.mem_cons.mp (I.stkSub b z)).elim hL hb) hc) (fun b o _ _ hc e n => u.any e n hc) (fun b o hc e n => u.free b o e n hc) (fun b o hc e => u.there b o e hc) u.tups u.frzs u.tbls (fun m' hm => by
    obtain ⟨o', es', ep', ho', r'⟩ := hm
    rw [ho] at ho'; cases ho'
    exact ⟨_, es', ep', hL, r'⟩) hok hg
theorem Inv.turned {t' : Nat} {it : Addr} (I : Inv X pins σ H s) (k : ∀ b o, b ≠ it → s.heap.get? b = some o → h'.get? b = some o) (hn : H it = none) (hL : it ≠ X.env.locals)
    (h1 : it ∈ X.ex ∨ X.s₀.heap.objs.size ≤ it) (h2 : ∀ x c, X.env.cells.lookup x = some c → c ≠ it) (h3 : ∀ p ∈ X.pn ++ pins, p.1 ≠ it) : Inv X pins σ H { s with heap := h', toks := t' } := by
  have nit : ∀ b u, H b = some u → b ≠ it := fun b u e z => by rw [z, hn] at e; cases e
  refine I.step (g' := s.gens) (d' := s.drawn) (ch := [it]) (fun b hb => ?_) (fun b o _ _ hc e _ => k b o (fun z => hc (by simp [z])) e) (fun b o _ _ hc e _ => ⟨o.slots, k b o (fun z => hc (by simp [z])) e⟩) (fun _ _ _ _ n => n)
    (fun b o hc e => ⟨o, k b o (fun z => hc (by simp [z])) e⟩) (fun _ _ e => e) (fun _ _ _ e => e) (fun b ps e => ⟨#[], by rw [e]; simp⟩) (fun m hm => ?_) (fun b u e => ?_) I.bare
  · have e : b = it := by simpa using hb
    subst e
    exact ⟨h1, hL, h2, h3⟩
  · obtain ⟨o, es, ep, ho, r⟩ := hm
    exact ⟨o, es, ep, k _ o (Ne.symm hL) ho, r⟩
  · refine (I.hok b u e).stay (fun c v hc q => k c v ?_ q) (fun _ q => q) fun _ _ q => q
    rcases hc with z | z
    · rw [z]; exact nit b u e
    · exact nit c _ z
theorem Inv.tok (I : Inv X pins σ H s) (t : Nat) : Inv X pins σ H { s with toks := t } := I.un (h' := s.heap) (t' := t) Un.refl I.hok
theorem Inv.kept {t' : Nat} (I : Inv X pins σ H s) (k : ∀ b u, s.heap.get? b = some u → h'.get? b = some u) : Inv X pins σ H { s with heap := h', toks := t' } := I.un (Un.kept k) (I.hok.kept k)
theorem Inv.laid {a : Addr} {o : HO} {t' : Nat} (I : Inv X pins σ H s) (k : ∀ b u, s.heap.get? b = some u → h'.get? b = some u) (hp : s.heap.objs.size ≤ a) (new : ObjOk X.prog X.w (upd H a o) h' a o) :
    Inv X pins σ (upd H a o) { s with heap := h', toks := t' } := I.un (Un.laid k hp (I.hok.fresh hp)) (I.hok.laid k hp new)
theorem Inv.write {x e : Addr} {o : HO} {t' : Nat} (I : Inv X pins σ H s) (mu : Mut (H x)) (he : e = x ∨ H e = some (.own x)) (k : ∀ b u, b ≠ e → s.heap.get? b = some u → h'.get? b = some u) (heo : ∃ u, h'.get? e = some u)
    (new : ObjOk X.prog X.w (upd H x o) h' x o) : Inv X pins σ (upd H x o) { s with heap := h', toks := t' } := I.un (Un.write mu he k heo) (I.hok.write mu he k heo new)
theorem Inv.weak {σ' : List (Option V)} (I : Inv X pins σ H s) (hl : σ'.length = σ.length) (w : ∀ (i : Nat) v, σ'[i]? = some (some v) → σ[i]? = some (some v)) : Inv X pins σ' H s :=
  ⟨I.ok, I.os, I.bare, I.base, let ⟨m, hn, hl'⟩ := I.loc; ⟨m, hn, fun i x v e1 e2 e3 => hl' i x v e1 (w i v e2) e3⟩, I.cell, I.free, I.freeC, I.pin, I.hok, hl.trans I.len⟩
theorem Inv.pins_of {pins' : List (Addr × Obj)} (I : Inv X pins σ H s) (h : ∀ p ∈ pins', s.heap.get? p.1 = some p.2 ∧ H p.1 = none ∧ p.1 ≠ X.env.locals ∧ p.1 ∉ X.fs ∧ ∀ v, p.2.data ≠ .cell v) : Inv X pins' σ H s :=
  ⟨I.ok, I.os, I.bare, I.base, I.loc, I.cell, I.free, I.freeC, fun p hp => (List.mem_append.mp hp).elim (fun z => I.pin p (List.mem_append_left _ z)) (h p), I.hok, I.len⟩
theorem nodup_ix {N : List Str} (hN : N.Nodup) {i j : Nat} {x : Str} (a : N[i]? = some x) (b : N[j]? = some x) : i = j := by
  obtain ⟨h1, e1⟩ := List.getElem?_eq_some_iff.mp a
  obtain ⟨h2, e2⟩ := List.getElem?_eq_some_iff.mp b
  exact (List.getElem_inj hN).mp (e1.trans e2.symm)
theorem store_ok2 {M : Model} {A : Around} {E : Value → Shared → Prop} {i : Nat} {x : Str} {v : V} {u : Value} {Q : Unit → Shared → Prop} (I : Inv X pins σ H s) (hN : X.N.Nodup) (hi : X.N[i]? = some x) (hx : Loc X.env.scope x) (r : RelV v u)
    (h : ∀ s', Inv X pins (σ.set i (some v)) H s' → (∃ a, Heap.SameBut a s.heap s'.heap ∧ (a = X.env.locals ∨ X.env.cells.lookup x = some a)) → Q () s') (hf : X.fn x = true ∨ X.env.scope.names.lookup x = some .local := by with_unfolding_all (first | exact .inl rfl | exact .inr rfl | assumption)) : wpAny M A (storeName X.env x u) Q E s := by
  obtain ⟨m, hn, hl⟩ := id I.loc
  have hcls : (X.env.scope.kind == .class || (X.env.scope.kind == .module && X.env.locals != X.env.globals)) = false := by rw [I.ok.kind]; rfl
  have hiσ : i < σ.length := by rw [I.len]; exact (List.getElem?_eq_some_iff.mp hi).1
  have cne := I.cne
  have tracked : ∀ {a : Addr} {h' : Heap}, (∃ o, s.heap.get? a = some o ∧ H a = none) → Heap.SameBut a s.heap h' → HOk X.prog X.w H h' := fun {a h'} ha hs b ob e => by
    obtain ⟨_, _, hfree⟩ := ha
    refine (I.hok b ob e).stay (fun c w' hc q => (hs.2 c ?_).trans q) (fun _ q => q) fun _ _ q => q
    rintro rfl
    rcases hc with rfl | hc
    · rw [hfree] at e; cases e
    · rw [hfree] at hc; cases hc
  rcases hx with hk | hk
  · refine wpAny_storeName_local hk hn (fun h' hn' hs => ?_) hcls
    obtain ⟨oL, _, _, hoL, _⟩ := id hn
    refine h _ ⟨I.ok, I.os, I.bare, ⟨fun b o e n hb hx => ?_, fun b o e n hb hx => ?_, I.base.free, fun b o e hx => ?_, I.base.tups, I.base.frzs, I.base.tbls⟩, ⟨_, hn', fun j y v' e1 e2 e3 => ?_⟩, fun y c e => ?_, I.free, I.freeC, fun p hp => ?_, tracked ⟨oL, hoL, I.free⟩ hs, by simpa using I.len⟩ ⟨_, hs, .inl rfl⟩
    · exact (hs.2 b (Nat.ne_of_lt (Nat.lt_of_lt_of_le (Heap.lt_size e) I.ok.above))).trans (I.base.keep b o e n hb hx)
    · obtain ⟨sl, e1⟩ := I.base.slot b o e n hb hx
      exact ⟨sl, (hs.2 b (Nat.ne_of_lt (Nat.lt_of_lt_of_le (Heap.lt_size e) I.ok.above))).trans e1⟩
    · obtain ⟨o', e1⟩ := I.base.there b o e hx
      exact ⟨o', (hs.2 b (Nat.ne_of_lt (Nat.lt_of_lt_of_le (Heap.lt_size e) I.ok.above))).trans e1⟩
    · by_cases hj : j = i
      · subst hj
        rw [hi] at e1; cases e1
        rw [List.getElem?_set_self hiσ] at e2
        cases e2
        exact ⟨u, r, .inl ⟨hk, by simp⟩⟩
      · rw [List.getElem?_set_ne (Ne.symm hj)] at e2
        obtain ⟨u', r', q⟩ := hl j y v' e1 e2 e3
        refine ⟨u', r', ?_⟩
        rcases q with ⟨k, e⟩ | ⟨k, c, e, z⟩
        · refine .inl ⟨k, ?_⟩
          have : y ≠ x := fun e => hj (nodup_ix hN e1 (e ▸ hi))
          simp [this, e]
        · exact .inr ⟨k, c, e, z.sameBut hs (cne y c e)⟩
    · obtain ⟨w', z⟩ := I.cell y c e
      exact ⟨w', z.sameBut hs (cne y c e)⟩
    · obtain ⟨e, n, ne, nf, d⟩ := I.pin p hp
      exact ⟨(hs.2 p.1 ne).trans e, n, ne, nf, d⟩
  · have hfn : X.fn x = true := by
      rcases hf with z | z
      · exact z
      · rw [z] at hk; cases hk
    obtain ⟨c, hc⟩ := I.ok.has x (.inl hk)
    obtain ⟨w', z⟩ := I.cell x c hc
    refine wpAny_storeName_cell I.ok.kind hk hc z (fun h' hc' hs => ?_)
    obtain ⟨oc, hoc, hocd⟩ := id z
    refine h { s with heap := h' } ⟨I.ok, I.os, I.bare, ⟨fun b o e n hb hx => ?_, fun b o e n hb hx => ?_, I.base.free, fun b o e hx => ?_, I.base.tups, I.base.frzs, I.base.tbls⟩, ⟨m, hn.sameBut hs (Ne.symm (cne x c hc)), fun j y v' e1 e2 e3 => ?_⟩, fun y c' e => ?_, I.free, I.freeC, fun p hp => ?_, tracked ⟨oc, hoc, I.freeC x c hc⟩ hs, by simpa using I.len⟩ ⟨c, hs, .inr hc⟩
    · exact (hs.2 b (Nat.ne_of_lt (Nat.lt_of_lt_of_le (Heap.lt_size e) (I.ok.cab x c hfn hc)))).trans (I.base.keep b o e n hb hx)
    · obtain ⟨sl, e1⟩ := I.base.slot b o e n hb hx
      exact ⟨sl, (hs.2 b (Nat.ne_of_lt (Nat.lt_of_lt_of_le (Heap.lt_size e) (I.ok.cab x c hfn hc)))).trans e1⟩
    · obtain ⟨o', e1⟩ := I.base.there b o e hx
      exact ⟨o', (hs.2 b (Nat.ne_of_lt (Nat.lt_of_lt_of_le (Heap.lt_size e) (I.ok.cab x c hfn hc)))).trans e1⟩
    · by_cases hj : j = i
      · subst hj
        rw [hi] at e1; cases e1
        rw [List.getElem?_set_self hiσ] at e2
        cases e2
        exact ⟨u, r, .inr ⟨.inl hk, c, hc, hc'⟩⟩
      · rw [List.getElem?_set_ne (Ne.symm hj)] at e2
        obtain ⟨u', r', q⟩ := hl j y v' e1 e2 e3
        refine ⟨u', r', ?_⟩
        rcases q with q | ⟨k, c', e, z'⟩
        · exact .inl q
        · refine .inr ⟨k, c', e, z'.sameBut hs ?_⟩
          rintro rfl
          exact hj (nodup_ix hN e1 (I.ok.inj _ _ _ e hc ▸ hi))
    · by_cases hcc : c' = c
      · subst hcc; exact ⟨_, hc'⟩
      · obtain ⟨w2, z2⟩ := I.cell y c' e
        exact ⟨w2, z2.sameBut hs hcc⟩
    · obtain ⟨e, n, ne, nf, d⟩ := I.pin p hp
      refine ⟨(hs.2 p.1 ?_).trans e, n, ne, nf, d⟩
      intro q
      rw [q, hoc] at e
      have q' : oc = p.2 := Option.some.inj e
      exact d w' (by rw [← q']; exact hocd)
theorem store_ok {M : Model} {A : Around} {E : Value → Shared → Prop} {i : Nat} {x : Str} {v : V} {u : Value} {Q : Unit → Shared → Prop} (I : Inv X pins σ H s) (hN : X.N.Nodup) (hi : X.N[i]? = some x) (hx : Loc X.env.scope x) (r : RelV v u)
    (h : ∀ s', Inv X pins (σ.set i (some v)) H s' → Q () s') (hf : X.fn x = true ∨ X.env.scope.names.lookup x = some .local := by with_unfolding_all (first | exact .inl rfl | exact .inr rfl | assumption)) : wpAny M A (storeName X.env x u) Q E s :=
  store_ok2 I hN hi hx r (fun s' I' _ => h s' I') hf
theorem Inv.call' {s' : Shared} {ch : List Addr} (I : Inv X pins σ H s) (ho : s'.os = s.os) (u : Un (frs X.stack) ch H H' s.heap s'.heap) (hok : HOk X.prog X.w H' s'.heap) (hg : AllBare s'.gens)
    (hch : ∀ b ∈ ch, (b ∈ X.ex ∨ X.s₀.heap.objs.size ≤ b) ∧ b ≠ X.env.locals ∧ (∀ x c, X.env.cells.lookup x = some c → c ≠ b) ∧ ∀ p ∈ X.pn ++ pins, p.1 ≠ b) : Inv X pins σ H' s' := by
  obtain ⟨h', g', d', t', o'⟩ := s'
  have e : o' = s.os := ho
  subst e
  exact I.call (g' := g') (t' := t') (d' := d') u hok hg hch
end
noncomputable abbrev XK := Value → Option Addr → Hp → Prop
noncomputable abbrev St := List (Option V)
noncomputable abbrev VK := V → Hp → Prop
noncomputable abbrev TE := St → Hp → VK → Prop
noncomputable abbrev TT := St → Hp → (Bool → Hp → Prop) → Prop
noncomputable abbrev TA := St → Hp → (List V → Hp → Prop) → Prop
structure Ends where
  nx : St → Hp → Prop
  rt : VK
  bk : St → Hp → Prop := fun _ _ => False
  ct : St → Hp → Prop := fun _ _ => False
noncomputable abbrev TS := Ends → St → Hp → Prop
noncomputable def EP (X : Cx) (pins : List (Addr × Obj)) (σ : St) (Q : VK) (u : Value) (s' : Shared) : Prop := ∃ v H', Inv X pins σ H' s' ∧ RelV v u ∧ Q v H'
noncomputable def TP (X : Cx) (pins : List (Addr × Obj)) (σ : St) (Q : Bool → Hp → Prop) (b : Bool) (s' : Shared) : Prop := ∃ H', Inv X pins σ H' s' ∧ Q b H'
noncomputable def AP (X : Cx) (pins : List (Addr × Obj)) (σ : St) (Q : List V → Hp → Prop) (us : List Value) (s' : Shared) : Prop := ∃ vs H', Inv X pins σ H' s' ∧ Vals vs us ∧ Q vs H'
noncomputable def SP (X : Cx) (pins : List (Addr × Obj)) (D : Ends) (f : Flow) (s' : Shared) : Prop :=
  match f with
  | .next => ∃ σ' H', Inv X pins σ' H' s' ∧ D.nx σ' H'
  | .brk => ∃ σ' H', Inv X pins σ' H' s' ∧ D.bk σ' H'
  | .cont => ∃ σ' H', Inv X pins σ' H' s' ∧ D.ct σ' H'
  | .ret u => ∃ v σ' H', Inv X pins σ' H' s' ∧ RelV v u ∧ D.rt v H'
noncomputable def PE (X : Cx) (e : Expr) (t : TE) : Prop :=
  ∀ (pins : List (Addr × Obj)) (s : Shared) (σ : St) (H : Hp) (Q : VK), Inv X pins σ H s → t σ H Q → wpAny (model X.prog X.w) X.A (eval e X.env) (EP X pins σ Q) X.xe s
noncomputable def PT (X : Cx) (e : Expr) (t : TT) : Prop :=
  ∀ (pins : List (Addr × Obj)) (s : Shared) (σ : St) (H : Hp) (Q : Bool → Hp → Prop), Inv X pins σ H s → t σ H Q → wpAny (model X.prog X.w) X.A (isTrue e X.env (eval e X.env)) (TP X pins σ Q) X.xe s
noncomputable def PW (X : Cx) (e : Expr) (t : TT) : Prop :=
  ∀ (whole : Sem Value) (pins : List (Addr × Obj)) (s : Shared) (σ : St) (H : Hp) (Q : Bool → Hp → Prop), Inv X pins σ H s → t σ H Q → wpAny (model X.prog X.w) X.A (isTrue e X.env whole) (TP X pins σ Q) X.xe s
theorem PW.pt {X : Cx} {e : Expr} {t : TT} (h : PW X e t) : PT X e t := h _
noncomputable def PA (X : Cx) (es : List Expr) (t : TA) : Prop :=
  ∀ (pos : Pos) (pins : List (Addr × Obj)) (s : Shared) (σ : St) (H : Hp) (Q : List V → Hp → Prop), Inv X pins σ H s → t σ H Q → wpAny (model X.prog X.w) X.A (spliced (backTo pos (starEach es X.env))) (AP X pins σ Q) X.xe s
noncomputable def PS (X : Cx) (st : Stmt) (t : TS) : Prop :=
  ∀ (pins : List (Addr × Obj)) (s : Shared) (σ : St) (H : Hp) (D : Ends), Inv X pins σ H s → t D σ H → wpAny (model X.prog X.w) X.A (exec st X.env) (SP X pins D) X.xe s
noncomputable def PSs (X : Cx) (st : List Stmt) (t : TS) : Prop :=
  ∀ (pins : List (Addr × Obj)) (s : Shared) (σ : St) (H : Hp) (D : Ends), Inv X pins σ H s → t D σ H → wpAny (model X.prog X.w) X.A (execs st X.env) (SP X pins D) X.xe s
theorem thn {α : Type} {t : Sem α} {Q Q' : α → Shared → Prop} {M : Model} {A : Around} {E : Value → Shared → Prop} {s : Shared} (h : wpAny M A t Q E s) (hQ : ∀ a s, Q a s → Q' a s) : wpAny M A t Q' E s := wpAny_mono h hQ fun _ _ x => x
end L2
namespace L2
open PySem PySem.Spec PyProof.Rows
section
variable {X : Cx}
noncomputable def tVar (i : Nat) : TE := fun σ H Q => ∃ v, σ[i]? = some (some v) ∧ Q v H
noncomputable def tC (v : V) : TE := fun _ H Q => Q v H
theorem pe_var {i : Nat} {x : Str} {pos : Pos} (hN : X.N[i]? = some x) (hv : Vis X.env.scope x) (hd : (x == ("__debug__" : Str)) = false := by decide) (hcd : (x == ("__classdict__" : Str)) = false := by decide) : PE X (.Name x pos) (tVar i) := by
  intro pins s σ H Q I h
  obtain ⟨v, e, h⟩ := h
  obtain ⟨m, hn, hl⟩ := I.loc
  obtain ⟨u, r, l⟩ := hl i x v hN e hv
  have fin : EP X pins σ Q u s := ⟨v, H, I, r, h⟩
  rcases l with ⟨hk, hm⟩ | ⟨hk, c, hc, hcell⟩
  · exact wpAny_Name (wpAny_loadName_local I.ok.kind hk hn hm fin) hd
  · rcases hk with hk | hk
    · exact wpAny_Name (wpAny_loadName_cell I.ok.kind hk hc hcell fin) hd
    · exact wpAny_Name (wpAny_loadName_free I.ok.kind hk hc hcell fin hcd) hd
theorem pe_int {i j pos} : PE X (.Constant (.int i) j pos) (tC (.int i)) := fun _ _ _ H _ I h => wpAny_Constant_int ⟨.int i, H, I.tok _, ⟨_, rfl⟩, h⟩
theorem pe_bl {b j pos} : PE X (.Constant (.bool b) j pos) (tC (.bl b)) := fun _ _ _ H _ I h => Constant_bool ⟨.bl b, H, I, rfl, h⟩
theorem pe_non {j pos} : PE X (.Constant .none j pos) (tC .non) := fun _ _ _ H _ I h => Constant_none ⟨.non, H, I, rfl, h⟩
theorem pe_str {x j pos} : PE X (.Constant (.str x) j pos) (tC (.str x)) := fun _ _ _ H _ I h => Calls.Constant_str ⟨.str x, H, I.tok _, ⟨_, rfl⟩, h⟩
noncomputable def Gl (X : Cx) (x : Str) : Prop := X.env.kindOf x = some .globalImplicit
theorem ld_glob {E : Value → Shared → Prop} {pins : List (Addr × Obj)} {s : Shared} {σ : St} {H : Hp} {x : Str} {u : Value} {pos : Pos} {Q : Value → Shared → Prop} (I : Inv X pins σ H s) (hg : Gl X x) (hm : X.mg x = some u) (h : Q u s)
    (hd : (x == ("__debug__" : Str)) = false := by decide) : wpAny (model X.prog X.w) X.A (eval (.Name x pos) X.env) Q E s :=
  Calls.Name_function_global I.ok.kind hg (Calls.loadGlobal_global (by rw [I.ok.glob]; exact I.mod.glob.keeps I.bk) hm h) hd
theorem ld_blt {E : Value → Shared → Prop} {pins : List (Addr × Obj)} {s : Shared} {σ : St} {H : Hp} {x : Str} {u : Value} {pos : Pos} {Q : Value → Shared → Prop} (I : Inv X pins σ H s) (hg : Gl X x) (hm : X.mg x = none) (hv : bootBuiltins x = some u) (h : Q u s)
    (hn : x ≠ "__name__" := by decide) (hd : (x == ("__debug__" : Str)) = false := by decide) : wpAny (model X.prog X.w) X.A (eval (.Name x pos) X.env) Q E s := by
  obtain ⟨mb, h1, h2⟩ := I.mod.blt
  exact Calls.Name_function_global I.ok.kind hg (Calls.loadGlobal_builtin (by rw [I.ok.glob]; exact I.mod.glob.keeps I.bk) hm (by rw [I.ok.blt]; exact h1.keeps I.bk) ((h2 x hn).trans hv) h) hd
theorem pe_bltn {x : Str} {v : V} {u : Value} {pos : Pos} (hg : Gl X x) (hm : X.mg x = none) (hv : bootBuiltins x = some u) (r : RelV v u) (hn : x ≠ "__name__" := by decide) (hd : (x == ("__debug__" : Str)) = false := by decide) : PE X (.Name x pos) (tC v) :=
  fun _ _ _ H _ I h => ld_blt I hg hm hv ⟨v, H, I, r, h⟩ hn hd
variable {a b : Expr} {ta tb : TE} {pos : Pos}
noncomputable def tB (t : TE) : TT := fun σ H Q => t σ H fun x H1 => ∃ c, x = .bl c ∧ Q c H1
theorem pt_val {e : Expr} {t : TE} (h : PE X e t) (he : ∀ whole, isTrue e X.env whole = (do let v ← whole; standAt e.pos; holding [v] (truthy v)) := by intro _; with_unfolding_all rfl) : PT X e (tB t) := by
  intro pins s σ H Q I hw
  refine isTrue_plain (thn (h pins s σ H _ I hw) fun v s1 ⟨x, H1, I1, r1, q1⟩ => ?_) (he _)
  obtain ⟨d, rfl, q⟩ := q1
  cases r1
  exact wpAny_truthy_bool ⟨H1, I1, q⟩
variable {tA tB' : TT} {rest : List Expr}
noncomputable def tAnd (t u : TT) : TT := fun σ H Q => t σ H fun c H1 => if c = true then u σ H1 Q else Q false H1
noncomputable def tOr (t u : TT) : TT := fun σ H Q => t σ H fun c H1 => if c = true then Q true H1 else u σ H1 Q
noncomputable def tNot (t : TT) : TT := fun σ H Q => t σ H fun c H1 => Q (!c) H1
theorem pw_and1 (ha : PT X a tA) : PW X (.BoolOp .And [a] pos) tA := by
  intro wh pins s σ H Q I h
  refine isTrue_and (thn (ha pins s σ H Q I h) fun c s1 e => ?_)
  cases c with
  | true => exact isTrue_and_nil e
  | false => exact e
theorem pw_or1 (ha : PT X a tA) : PW X (.BoolOp .Or [a] pos) tA := by
  intro wh pins s σ H Q I h
  refine isTrue_or (thn (ha pins s σ H Q I h) fun c s1 e => ?_)
  cases c with
  | false => exact isTrue_or_nil e
  | true => exact e
theorem pw_and (ha : PT X a tA) (hb : PW X (.BoolOp .And (b :: rest) pos) tB') : PW X (.BoolOp .And (a :: b :: rest) pos) (tAnd tA tB') := by
  intro wh pins s σ H Q I h
  refine isTrue_and (thn (ha pins s σ H _ I h) fun c s1 ⟨H1, I1, q1⟩ => ?_)
  cases c with
  | true => exact hb wh pins s1 σ H1 Q I1 q1
  | false => exact ⟨H1, I1, q1⟩
theorem pw_or (ha : PT X a tA) (hb : PW X (.BoolOp .Or (b :: rest) pos) tB') : PW X (.BoolOp .Or (a :: b :: rest) pos) (tOr tA tB') := by
  intro wh pins s σ H Q I h
  refine isTrue_or (thn (ha pins s σ H _ I h) fun c s1 ⟨H1, I1, q1⟩ => ?_)
  cases c with
  | true => exact ⟨H1, I1, q1⟩
  | false => exact hb wh pins s1 σ H1 Q I1 q1
theorem pt_not (ha : PT X a tA) : PT X (.UnaryOp .Not a pos) (tNot tA) := by
  intro pins s σ H Q I h
  exact isTrue_not (ha pins s σ H (fun c H1 => Q (!c) H1) I h)
noncomputable def tAndV (ta tb : TE) : TE := fun σ H Q => ta σ H fun x H1 => ∃ c, x = .bl c ∧ if c = true then tb σ H1 Q else Q (.bl false) H1
theorem pe_one {op} {t : TE} (h : PE X a t) : PE X (.BoolOp op [a] pos) t := fun pins s σ H Q I hw => BoolOp_one (h pins s σ H Q I hw)
theorem pe_and (ha : PE X a ta) (hb : PE X (.BoolOp .And (b :: rest) pos) tb) : PE X (.BoolOp .And (a :: b :: rest) pos) (tAndV ta tb) := by
  intro pins s σ H Q I h
  refine BoolOp_and (thn (ha pins s σ H _ I h) fun v s1 ⟨x, H1, I1, r1, q1⟩ => ?_)
  obtain ⟨c, rfl, q1⟩ := q1
  cases r1
  refine wpAny_truthy_bool ?_
  cases c with
  | true => exact hb pins s1 σ H1 Q I1 q1
  | false => exact ⟨.bl false, H1, I1, rfl, q1⟩
noncomputable def tIf (t : TT) (ta tb : TE) : TE := fun σ H Q => t σ H fun c H1 => if c = true then ta σ H1 Q else tb σ H1 Q
theorem pe_ifExp {c : Expr} (hc : PT X c tA) (ha : PE X a ta) (hb : PE X b tb) : PE X (.IfExp c a b pos) (tIf tA ta tb) := by
  intro pins s σ H Q I h
  refine wpAny_IfExp (thn (hc pins s σ H _ I h) fun d s1 ⟨H1, I1, q1⟩ => ?_)
  cases d with
  | true => exact ha pins s1 σ H1 Q I1 q1
  | false => exact hb pins s1 σ H1 Q I1 q1
end
end L2
namespace L2
open PySem PySem.Spec PyProof.Rows
noncomputable def SqL (K : PySem.W.Frag) (H : Hp) (a : Addr) (xs : List V) : Prop :=
  Rd H a (.lst xs) ∨
    ∃ (o : Obj) (its : Array Value) (n : Nat), K.lookup a = some o ∧ o.cls = .type "list" ∧ o.dict = none ∧ o.data = .seq its n ∧ its.size ≤ sizeLine ∧ Vals xs its.toList
noncomputable def SqT (K : PySem.W.Frag) (H : Hp) (a : Addr) (xs : List V) : Prop :=
  Rd H a (.tup xs) ∨
    ∃ (o : Obj) (its : Array Value) (n : Nat), K.lookup a = some o ∧ o.cls = .type "tuple" ∧ o.data = .seq its n ∧ its.size ≤ sizeLine ∧ Vals xs its.toList ∧ o.dict = none
noncomputable def absV : Value → Option V
  | .none => some .non
  | .bool b => some (.bl b)
  | .int i _ => some (.int i)
  | .str x _ => some (.str x)
  | .bytes b _ => some (.byt b)
  | .float b _ => some (.flt b)
  | .ref a => some (.ref a)
  | .type n => some (.ty n)
  | _ => none
theorem RelV.abs {x : V} {u : Value} (r : RelV x u) : absV u = some x := by
  cases x with
  | non => cases r; rfl
  | bl _ => cases r; rfl
  | int _ => obtain ⟨t, rfl⟩ := r; rfl
  | str _ => obtain ⟨t, rfl⟩ := r; rfl
  | byt _ => obtain ⟨t, rfl⟩ := r; rfl
  | flt _ => obtain ⟨t, rfl⟩ := r; rfl
  | ref _ => cases r; rfl
  | ty _ => cases r; rfl
theorem RelV.inj {x y : V} {u : Value} (r : RelV x u) (q : RelV y u) : x = y := Option.some.inj (r.abs.symm.trans q.abs)
theorem Vals.inj : ∀ {xs ys : List V} {us : List Value}, Vals xs us → Vals ys us → xs = ys
  | _, _, _, .nil, .nil => rfl
  | _, _, _, .cons r t, .cons r' t' => by rw [r.inj r', Vals.inj t t']
section
variable {X : Cx} {pins : List (Addr × Obj)} {σ : St} {H : Hp} {s : Shared} {a : Addr} {xs ys : List V}
theorem SqL.of {K : PySem.W.Frag} (h : H a = some (.lst xs)) : SqL K H a xs := .inl (.inl h)
theorem SqT.of {K : PySem.W.Frag} (h : H a = some (.tup xs)) : SqT K H a xs := .inl (.inl h)
theorem Inv.list (I : Inv X pins σ H s) (h : SqL X.K H a xs) : ∃ its : List Value, Vals xs its ∧ PlainL s.heap a its.toArray ∧ xs.length ≤ sizeLine := by
  rcases h with h | ⟨o, its, n, hk, hc, hd, hs, hz, r⟩
  · obtain ⟨z, its, n, r, e⟩ := h.ok I.hok
    exact ⟨its, r, ⟨_, n, e, rfl, rfl, rfl⟩, z⟩
  · refine ⟨its.toList, r, ⟨o, n, I.kIn a o hk, hc, hd, by simpa using hs⟩, ?_⟩
    have e := r.length
    simp only [Array.length_toList] at e
    omega
theorem Inv.tuple (I : Inv X pins σ H s) (h : SqT X.K H a xs) : ∃ its : List Value, Vals xs its ∧ IsTup s.heap a its.toArray ∧ xs.length ≤ sizeLine := by
  rcases h with h | ⟨o, its, n, hk, hc, hs, hz, r, hn⟩
  · obtain ⟨z, its, r, p⟩ := h.ok I.hok
    exact ⟨its, r, p.tup, z⟩
  · refine ⟨its.toList, r, ⟨o, I.kIn a o hk, hc, n, by simpa using hs⟩, ?_⟩
    have e := r.length
    simp only [Array.length_toList] at e
    omega
theorem Inv.tupleN (I : Inv X pins σ H s) (h : SqT X.K H a xs) : ∃ ob, s.heap.get? a = some ob ∧ ob.dict = none := by
  rcases h with h | ⟨o, its, n, hk, hc, hs, hz, r, hn⟩
  · obtain ⟨z, its, r, o, h1, _, _, h2⟩ := h.ok I.hok
    exact ⟨o, h1, h2⟩
  · exact ⟨o, I.kIn a o hk, hn⟩
theorem Inv.list_inj (I : Inv X pins σ H s) (h : SqL X.K H a xs) (h' : SqL X.K H a ys) : xs = ys := by
  obtain ⟨its, r, ⟨o, n, e, _, _, d⟩, _⟩ := I.list h
  obtain ⟨its', r', ⟨o', n', e', _, _, d'⟩, _⟩ := I.list h'
  rw [e] at e'; cases e'
  rw [d] at d'
  injection d' with d1 _
  have : its = its' := by simpa using congrArg Array.toList d1
  subst this
  exact r.inj r'
theorem Inv.tuple_inj (I : Inv X pins σ H s) (h : SqT X.K H a xs) (h' : SqT X.K H a ys) : xs = ys := by
  obtain ⟨its, r, ⟨o, e, _, n, d⟩, _⟩ := I.tuple h
  obtain ⟨its', r', ⟨o', e', _, n', d'⟩, _⟩ := I.tuple h'
  rw [e] at e'; cases e'
  rw [d] at d'
  injection d' with d1 _
  have : its = its' := by simpa using congrArg Array.toList d1
  subst this
  exact r.inj r'
end
noncomputable abbrev Cx.wish (X : Cx) (E : Value → Shared → Prop) : Cx := { X with xe := E }
noncomputable abbrev Cx.nox (X : Cx) : Cx := X.wish fun _ _ => False
theorem Cx.Ok.wish {X : Cx} (ok : X.Ok) (E : Value → Shared → Prop) : (X.wish E).Ok :=
  ⟨ok.mod, ok.kind, ok.glob, ok.blt, ok.above, ok.inj, ok.has, ok.cab, ok.hd, ok.frames, ok.stk, ok.exf, ok.bs, ok.bsz, ok.noex, ok.exfs, ok.funs, ok.frf⟩
theorem Cx.Ok.unwish {X : Cx} {E : Value → Shared → Prop} (ok : (X.wish E).Ok) : X.Ok :=
  ⟨ok.mod, ok.kind, ok.glob, ok.blt, ok.above, ok.inj, ok.has, ok.cab, ok.hd, ok.frames, ok.stk, ok.exf, ok.bs, ok.bsz, ok.noex, ok.exfs, ok.funs, ok.frf⟩
section
variable {X : Cx} {pins : List (Addr × Obj)} {σ : St} {H : Hp} {s : Shared} {E : Value → Shared → Prop}
theorem Inv.wish (I : Inv X pins σ H s) (E : Value → Shared → Prop) : Inv (X.wish E) pins σ H s := ⟨I.ok.wish E, I.os, I.bare, I.base, I.loc, I.cell, I.free, I.freeC, I.pin, I.hok, I.len⟩
theorem Inv.unwish (I : Inv (X.wish E) pins σ H s) : Inv X pins σ H s := ⟨I.ok.unwish, I.os, I.bare, I.base, I.loc, I.cell, I.free, I.freeC, I.pin, I.hok, I.len⟩
theorem SP.unwish {D : Ends} {f : Flow} {s' : Shared} (h : SP (X.wish E) pins D f s') : SP X pins D f s' := by
  cases f with
  | next => obtain ⟨σ', H', I, q⟩ := h; exact ⟨σ', H', I.unwish, q⟩
  | brk => obtain ⟨σ', H', I, q⟩ := h; exact ⟨σ', H', I.unwish, q⟩
  | cont => obtain ⟨σ', H', I, q⟩ := h; exact ⟨σ', H', I.unwish, q⟩
  | ret u => obtain ⟨v, σ', H', I, r, q⟩ := h; exact ⟨v, σ', H', I.unwish, r, q⟩
theorem PSs.nox {st : List Stmt} {t : TS} (h : PSs X.nox st t) : PSs X st t := fun pins s σ H D I hw =>
  wpAny_mono (h pins s σ H D (I.wish _) hw) (fun _ _ q => q.unwish) fun _ _ z => False.elim z
end
section
variable {X : Cx} {st : Stmt} {rest : List Stmt} {t u : TS} {e : Expr} {te : TE} {pos : Pos}
noncomputable def tNext : TS := fun D σ H => D.nx σ H
noncomputable def tSeq (t u : TS) : TS := fun D σ H => t { D with nx := u D } σ H
theorem pss_nil : PSs X [] tNext := fun _ _ σ H _ I h => wpAny_execs_nil ⟨σ, H, I, h⟩
theorem pss_cons (h1 : PS X st t) (h2 : PSs X rest u) : PSs X (st :: rest) (tSeq t u) := by
  intro pins s σ H D I h
  refine wpAny_execs_cons (thn (h1 pins s σ H { D with nx := u D } I h) fun f s1 q => ?_)
  cases f with
  | next =>
    obtain ⟨σ', H', I', q⟩ := q
    exact h2 pins s1 σ' H' D I' q
  | ret v => exact q
  | brk => exact q
  | cont => exact q
theorem pss_one (h1 : PS X st t) : PSs X [st] t := by
  intro pins s σ H D I h
  refine wpAny_execs_cons (thn (h1 pins s σ H D I h) fun f s1 q => ?_)
  cases f with
  | next => exact wpAny_execs_nil q
  | ret v => exact q
  | brk => exact q
  | cont => exact q
theorem Inv.quiet {pins : List (Addr × Obj)} {σ : St} {H : Hp} {s : Shared} (I : Inv X pins σ H s) : interactive X.env = false := by simp [interactive, I.ok.kind]
noncomputable def tDrop (te : TE) : TS := fun D σ H => te σ H fun _ H1 => D.nx σ H1
theorem ps_expr (he : PE X e te) (hs : swapsWith e none pos.line X.env = pure false := by with_unfolding_all rfl) : PS X (.Expr e pos) (tDrop te) := by
  intro pins s σ H D I h
  exact wpAny_Expr_any (thn (he pins s σ H _ I h) fun v s1 ⟨x, H1, I1, r1, q1⟩ => ⟨σ, H1, I1, q1⟩) I.quiet hs
noncomputable def tRet (te : TE) : TS := fun D σ H => te σ H D.rt
theorem ps_ret (he : PE X e te) : PS X (.Return (some e) pos) (tRet te) := by
  intro pins s σ H D I h
  exact wpAny_Return_some (thn (he pins s σ H _ I h) fun v s1 ⟨x, H1, I1, r1, q1⟩ => ⟨x, σ, H1, I1, r1, q1⟩)
noncomputable def tIfS (c : TT) (t u : TS) : TS := fun D σ H => c σ H fun b H1 => if b = true then t D σ H1 else u D σ H1
theorem ps_if {c : Expr} {a b : List Stmt} {tc : TT} (hc : PT X c tc) (ha : PSs X a t) (hb : PSs X b u) : PS X (.If c a b pos) (tIfS tc t u) := by
  intro pins s σ H D I h
  refine wpAny_If (thn (hc pins s σ H _ I h) fun d s1 ⟨H1, I1, q1⟩ => ?_)
  cases d with
  | true => exact ha pins s1 σ H1 D I1 q1
  | false => exact hb pins s1 σ H1 D I1 q1
noncomputable def tNever : TS := fun _ _ _ => False
theorem ps_never : PS X st tNever := fun _ _ _ _ _ _ h => h.elim
end
noncomputable abbrev TG := V → St → Hp → (St → Hp → Prop) → Prop
noncomputable abbrev TGs := List V → St → Hp → (St → Hp → Prop) → Prop
noncomputable def PG (X : Cx) (target : Expr) (t : TG) : Prop :=
  ∀ (pins : List (Addr × Obj)) (s : Shared) (σ : St) (H : Hp) (v : V) (u : Value) (Q : St → Hp → Prop), Inv X pins σ H s → RelV v u → t v σ H Q →
    wpAny (model X.prog X.w) X.A (assign target X.env u) (fun _ s' => ∃ σ' H', Inv X pins σ' H' s' ∧ Q σ' H') X.xe s
noncomputable def PGs (X : Cx) (ts : List Expr) (t : TGs) : Prop :=
  ∀ (pins : List (Addr × Obj)) (s : Shared) (σ : St) (H : Hp) (vs : List V) (us : List Value) (Q : St → Hp → Prop), Inv X pins σ H s → Vals vs us → t vs σ H Q →
    wpAny (model X.prog X.w) X.A (assignInOrder ((assignEach ts X.env).map (·.2)) us) (fun _ s' => ∃ σ' H', Inv X pins σ' H' s' ∧ Q σ' H') X.xe s
section
variable {X : Cx} {pos : Pos}
noncomputable def gName (i : Nat) : TG := fun v σ H Q => Q (σ.set i (some v)) H
theorem pg_name {i : Nat} {x : Str} (hN : X.N.Nodup) (hi : X.N[i]? = some x) (hx : Loc X.env.scope x) (hf : X.fn x = true ∨ X.env.scope.names.lookup x = some .local := by with_unfolding_all (first | exact .inl rfl | exact .inr rfl | assumption)) : PG X (.Name x pos) (gName i) := by
  intro pins s σ H v u Q I r h
  exact wpAny_assign_Name (store_ok I hN hi hx r (fun s' I' => ⟨_, H, I', h⟩) hf)
noncomputable def gNil : TGs := fun vs σ H Q => vs = [] ∧ Q σ H
noncomputable def gCons (t : TG) (u : TGs) : TGs := fun vs σ H Q => ∃ v r, vs = v :: r ∧ t v σ H fun σ' H' => u r σ' H' Q
theorem pgs_nil : PGs X [] gNil := by
  intro pins s σ H vs us Q I r h
  obtain ⟨e, h⟩ := h
  subst e
  cases r
  exact assignInOrder_nil ⟨σ, H, I, h⟩
theorem pgs_cons {e : Expr} {es : List Expr} {t : TG} {u : TGs} (h1 : PG X e t) (h2 : PGs X es u)
    (hs : (assignEach (e :: es) X.env).map (·.2) = assign e X.env :: (assignEach es X.env).map (·.2) := by with_unfolding_all rfl) : PGs X (e :: es) (gCons t u) := by
  intro pins s σ H vs us Q I r h
  obtain ⟨v, vr, e1, h⟩ := h
  subst e1
  cases r with
  | cons r rr =>
    rw [hs]
    refine assignInOrder_cons (thn (h1 pins s σ H _ _ _ I r h) fun _ s1 ⟨σ1, H1, I1, q1⟩ => ?_)
    exact h2 pins s1 σ1 H1 _ _ Q I1 rr q1
noncomputable def gTup (K : PySem.W.Frag) (n : Nat) (t : TGs) : TG := fun v σ H Q => ∃ a xs, v = .ref a ∧ SqT K H a xs ∧ xs.length = n ∧ t xs σ H Q
theorem pg_tup {es : List Expr} {k : Nat} {t : TGs} {n : Nat} (hc : X.calm = true) (h : PGs X es t)
    (hn : (assignEach es X.env).length = n := by with_unfolding_all rfl) (hst : (assignEach es X.env).findIdx? (·.1) = none := by with_unfolding_all rfl) : PG X (.Tuple es k pos) (gTup X.K n t) := by
  intro pins s σ H v u Q I r hw
  obtain ⟨a, xs, e1, hq, hl, hw⟩ := hw
  subst e1
  cases r
  obtain ⟨its, rv, ht, hz⟩ := I.tuple hq
  refine assign_Tuple_tuple (I.ok.hd hc) ht (by simp [hn, ← hl, rv.length]) hst fun h' hx => ?_
  have I1 : Inv X pins σ H { s with heap := h' } := I.kept (t' := s.toks) fun b o e => hx b o (Nat.ne_of_lt (Heap.lt_size e)) e
  exact h pins _ σ H xs _ Q I1 (by simpa using rv) hw
noncomputable def tAsg (te : TE) (g : TG) : TS := fun D σ H => te σ H fun x H1 => g x σ H1 D.nx
theorem ps_asg {tg e : Expr} {te : TE} {g : TG} (he : PE X e te) (hg : PG X tg g) (hs : swapsWithSole [tg] e pos.line X.env = pure false := by with_unfolding_all rfl) (hw : swappedStores [tg] e X.env = pure none := by with_unfolding_all rfl)
    (h1 : (assignEach [tg] X.env).map (·.2) = [assign tg X.env] := by with_unfolding_all rfl) : PS X (.Assign [tg] e pos) (tAsg te g) := by
  intro pins s σ H D I h
  refine wpAny_Assign_stores (thn (he pins s σ H _ I h) fun v s1 ⟨x, H1, I1, r1, q1⟩ => ?_) hs hw
  rw [h1]
  exact thn (hg pins s1 σ H1 x v _ I1 r1 q1) fun _ s2 q => q
theorem ps_set {i : Nat} {x : Str} {e : Expr} {te : TE} {pos' : Pos} (hN : X.N.Nodup) (hi : X.N[i]? = some x) (hx : Loc X.env.scope x) (he : PE X e te) (hs : swapsWith e (some (.Name x pos')) pos.line X.env = pure false := by with_unfolding_all rfl) (hf : X.fn x = true ∨ X.env.scope.names.lookup x = some .local := by with_unfolding_all (first | exact .inl rfl | exact .inr rfl | assumption)) :
    PS X (.Assign [.Name x pos'] e pos) (tAsg te (gName i)) := by
  intro pins s σ H D I h
  refine wpAny_Assign_Name (thn (he pins s σ H _ I h) fun v s1 ⟨y, H1, I1, r1, q1⟩ => ?_) hs
  exact store_ok I1 hN hi hx r1 (fun s2 I2 => ⟨_, H1, I2, q1⟩) hf
end
section
variable {X : Cx} {pos : Pos}
noncomputable def tWhile (c : TT) (tb : TS) : TS := fun D σ H => ∃ W : Nat → St → Hp → Prop, (∃ m, W m σ H) ∧ ∀ m σ H, W m σ H →
  c σ H fun b H1 => if b = true then ∃ N : St → Hp → Prop, (∀ σ' H', N σ' H' → ∃ m', m' < m ∧ W m' σ' H') ∧ tb { D with nx := N, ct := N, bk := D.nx } σ H1 else D.nx σ H1
theorem ps_while {c : Expr} {body : List Stmt} {tc : TT} {tb : TS} (hp : PassesOwn (model X.prog X.w) X.A X.env X.xe) (hc : PT X c tc) (hb : PSs X body tb) : PS X (.While c body [] pos) (tWhile tc tb) := by
  intro pins s σ H D I h
  obtain ⟨W, ⟨m0, w0⟩, turn⟩ := h
  refine wpAny_While (codeAny_whileLoop (fun n s' => ∃ σ' H', Inv X pins σ' H' s' ∧ W n σ' H') ?_ m0 ⟨σ, H, I, w0⟩)
  rintro n s1 ⟨σ1, H1, I1, w1⟩
  refine wpAny_passesOwn hp (thn (hc pins s1 σ1 H1 _ I1 (turn n σ1 H1 w1)) fun b s2 ⟨H2, I2, q2⟩ => ?_)
  cases b with
  | true =>
    obtain ⟨N, hN, q2⟩ := q2
    rw [if_pos rfl]
    refine wpAny_passesOwn hp (thn (hb pins s2 σ1 H2 _ I2 q2) fun f s3 q3 => ?_)
    cases f with
    | next =>
      obtain ⟨σ3, H3, I3, n3⟩ := q3
      obtain ⟨m', hm, w3⟩ := hN σ3 H3 n3
      exact ⟨m', hm, σ3, H3, I3, w3⟩
    | cont =>
      obtain ⟨σ3, H3, I3, n3⟩ := q3
      obtain ⟨m', hm, w3⟩ := hN σ3 H3 n3
      exact ⟨m', hm, σ3, H3, I3, w3⟩
    | brk => exact q3
    | ret v => exact q3
  | false =>
    rw [if_neg Bool.false_ne_true]
    exact wpAny_execs_nil ⟨σ1, H2, I2, q2⟩
end
structure It where
  go : Nat → Hp → Prop
  yld : Nat → Hp → V → Hp → Prop
  stop : Nat → Hp → Prop
noncomputable def FpOk (X : Cx) (pins : List (Addr × Obj)) (H : Hp) (b : Addr) : Prop :=
  H b = none ∧ b ≠ X.env.locals ∧ b ∉ X.fs ∧ (b ∈ X.ex ∨ X.s₀.heap.objs.size ≤ b) ∧ (∀ x c, X.env.cells.lookup x = some c → c ≠ b) ∧ ∀ p ∈ X.pn ++ pins, p.1 ≠ b
theorem Inv.fpOk {X : Cx} {pins : List (Addr × Obj)} {σ : St} {H H' : Hp} {s : Shared} {b : Addr} (I : Inv X pins σ H s) (hb : s.heap.objs.size ≤ b) (hn : H' b = none) : FpOk X pins H' b := by
  refine ⟨hn, Nat.ne_of_gt (Nat.lt_of_lt_of_le I.lt hb), I.nofs hb, .inr (Nat.le_trans I.sz hb), fun x c e z => ?_, fun p hp z => ?_⟩
  · obtain ⟨v, q⟩ := I.cell x c e
    exact absurd (Nat.lt_of_lt_of_le q.lt (by rw [z]; exact hb)) (Nat.lt_irrefl _)
  · exact absurd (Nat.lt_of_lt_of_le (Heap.lt_size (I.pin p hp).1) (by rw [z]; exact hb)) (Nat.lt_irrefl _)
structure Turn (P : Program) (w : World) (K : PySem.W.Frag) (tg : Expr) (J : It) (fp : List Addr) (it : Addr) (tn : Nat → Heap → Prop) : Prop where
  mem : it ∈ fp
  obj : ∀ i h, tn i h → ∀ b ∈ fp, ∃ o, h.get? b = some o ∧ ∀ v, o.data ≠ .cell v
  keep : ∀ i h h', tn i h → (∀ b ∈ fp, ∀ o, h.get? b = some o → h'.get? b = some o) → tn i h'
  item : ∀ (X : Cx), X.prog = P → X.w = w → X.K = K → X.calm = true → ∀ (i : Nat) (pins : List (Addr × Obj)) (s : Shared) (σ : St) (H : Hp) (E : Value → Shared → Prop), Inv X pins σ H s → (∀ b ∈ fp, FpOk X pins H b) → tn i s.heap → J.go i H →
    wpAny (model P w) X.A (pyNext (.ref it)) (fun r s1 => ∃ u, r = some u ∧
      wpAny (model P w) X.A (letOwnedTupleGo tg (.ref it) u) (fun _ s2 => ∃ x H', Inv X pins σ H' s2 ∧ RelV x u ∧ J.yld i H x H' ∧ tn (i + 1) s2.heap ∧ ∀ b ∈ fp, H' b = none) E s1) E s
  done : ∀ (X : Cx), X.prog = P → X.w = w → X.K = K → X.calm = true → ∀ (i : Nat) (pins : List (Addr × Obj)) (s : Shared) (σ : St) (H : Hp) (E : Value → Shared → Prop), Inv X pins σ H s → (∀ b ∈ fp, FpOk X pins H b) → tn i s.heap → J.stop i H →
    wpAny (model P w) X.A (pyNext (.ref it)) (fun r s1 => r = none ∧ Inv X pins σ H s1) E s
  self : ∀ (A : Around) (i : Nat) (s : Shared) (Q : Value → Shared → Prop) (E : Value → Shared → Prop), tn i s.heap → Q (.ref it) s → wpAny (model P w) A (pyIter (.ref it)) Q E s
noncomputable abbrev TI := St → Hp → (It → Hp → Prop) → Prop
noncomputable def PIE (X : Cx) (pins : List (Addr × Obj)) (σ : St) (tg : Expr) (R : It → Hp → Prop) (itv : Value) (s2 : Shared) : Prop :=
  ∃ (it : Addr) (fp : List Addr) (tn : Nat → Heap → Prop) (J : It) (H' : Hp), itv = .ref it ∧ Inv X pins σ H' s2 ∧ Turn X.prog X.w X.K tg J fp it tn ∧ tn 0 s2.heap ∧ (∀ b ∈ fp, FpOk X pins H' b) ∧ R J H'
noncomputable def PI (X : Cx) (tg iter : Expr) (wi : TI) : Prop :=
  ∀ (pins : List (Addr × Obj)) (s : Shared) (σ : St) (H : Hp) (R : It → Hp → Prop), Inv X pins σ H s → wi σ H R →
    wpAny (model X.prog X.w) X.A (eval iter X.env) (fun v s1 => wpAny (model X.prog X.w) X.A (pyIter v) (PIE X pins σ tg R) X.xe s1) X.xe s
theorem go_of {M : Model} {A : Around} {E : Value → Shared → Prop} {s : Shared} {tg : Expr} {it : Addr} {u : Value} {o : Obj} {n : String} {vs : Array Value} {Q : Unit → Shared → Prop} (ho : s.heap.get? it = some o) (hc : o.cls = .type n) (hd : o.data = .fields vs)
    (hn : ["enumerate", "zip", "dict_itemiterator", "dict_reverseitemiterator", "odict_iterator", "itertools.zip_longest", "itertools.pairwise"].contains n = false) (hQ : Q () s) : wpAny M A (letOwnedTupleGo tg (.ref it) u) Q E s := by
  unfold letOwnedTupleGo
  cases tg <;> first
    | exact wpAny_pure hQ
    | (cases u <;> first
        | exact wpAny_pure hQ
        | (refine wpAny_bind (wpAny_load ho ?_)
           rw [hc, hd]
           show wpAny M A (if (["enumerate", "zip", "dict_itemiterator", "dict_reverseitemiterator", "odict_iterator", "itertools.zip_longest", "itertools.pairwise"].contains n && vs[0]? == some (rawInt _)) = true then _ else _) Q E s
           rw [if_neg (by intro h; rw [hn, Bool.false_and] at h; cases h)]
           exact wpAny_pure hQ))
noncomputable def Itl (K : PySem.W.Frag) (a : Addr) : It :=
  ⟨fun i H => ∃ xs x, SqL K H a xs ∧ xs[i]? = some x, fun i H x H' => H' = H ∧ ∀ xs, SqL K H a xs → xs[i]? = some x, fun i H => ∃ xs, SqL K H a xs ∧ xs.length ≤ i⟩
noncomputable def Itt (K : PySem.W.Frag) (a : Addr) : It :=
  ⟨fun i H => ∃ xs x, SqT K H a xs ∧ xs[i]? = some x, fun i H x H' => H' = H ∧ ∀ xs, SqT K H a xs → xs[i]? = some x, fun i H => ∃ xs, SqT K H a xs ∧ xs.length ≤ i⟩
noncomputable def Itr (lo : Int) (n : Nat) : It := ⟨fun i _ => i < n, fun i H x H' => H' = H ∧ x = .int (lo + i), fun i _ => n ≤ i⟩
theorem turn_list {P : Program} {w : World} {K : PySem.W.Frag} {tg : Expr} (a it : Addr) : Turn P w K tg (Itl K a) [it] it (fun i h => h.IsListIter it a i) where
  mem := by simp
  obj := fun i h st b hb => by
    have e : b = it := by simpa using hb
    subst e
    obtain ⟨o, e, c, d⟩ := st
    exact ⟨o, e, fun v z => by rw [d] at z; cases z⟩
  keep := fun i h h' st k => st.at fun o e => k it (by simp) o e
  item := by
    intro X hP hw hK hc i pins s σ H E I hf st hg
    subst hP hw hK
    obtain ⟨xs, x, hq, hx⟩ := hg
    obtain ⟨its, rv, p, hz⟩ := I.list hq
    obtain ⟨u, hu, ru⟩ := rv.get hx
    obtain ⟨f0, f1, f2, f3, f4, f5⟩ := hf it (by simp)
    refine wpAny_pyNext_list_item st p.isList (x := u) (by simpa using hu) fun h' st' sb => ?_
    have I1 : Inv X pins σ H { s with heap := h' } := I.turned (t' := s.toks) (fun b o hb e => (sb.2 b hb).trans e) f0 f1 f3 f4 f5
    obtain ⟨o, e, c, d⟩ := id st'
    exact ⟨u, rfl, go_of (s := { s with heap := h' }) e c d (by decide) ⟨x, H, I1, ru, ⟨rfl, fun ys hy => by rw [I.list_inj hy hq]; exact hx⟩, st', fun b hb => (hf b hb).1⟩⟩
  done := by
    intro X hP hw hK hc i pins s σ H E I hf st hg
    subst hP hw hK
    obtain ⟨xs, hq, hx⟩ := hg
    obtain ⟨its, rv, p, hz⟩ := I.list hq
    obtain ⟨f0, f1, f2, f3, f4, f5⟩ := hf it (by simp)
    have hl := rv.length
    exact wpAny_pyNext_list_end (I.ok.hd hc) st p.isList (by simp; omega) fun h' eb => ⟨rfl, I.turned (t' := s.toks) (fun b o hb e => eb b o hb e) f0 f1 f3 f4 f5⟩
  self := fun _ _ _ _ _ st h => wpAny_pyIter_listiter st h
theorem turn_tuple {P : Program} {w : World} {K : PySem.W.Frag} {tg : Expr} (a it : Addr) : Turn P w K tg (Itt K a) [it] it (fun i h => h.IsTupleIter it a i) where
  mem := by simp
  obj := fun i h st b hb => by
    have e : b = it := by simpa using hb
    subst e
    obtain ⟨o, e, c, d⟩ := st
    exact ⟨o, e, fun v z => by rw [d] at z; cases z⟩
  keep := fun i h h' st k => st.at fun o e => k it (by simp) o e
  item := by
    intro X hP hw hK hc i pins s σ H E I hf st hg
    subst hP hw hK
    obtain ⟨xs, x, hq, hx⟩ := hg
    obtain ⟨its, rv, p, hz⟩ := I.tuple hq
    obtain ⟨u, hu, ru⟩ := rv.get hx
    obtain ⟨f0, f1, f2, f3, f4, f5⟩ := hf it (by simp)
    refine wpAny_pyNext_tuple_item st (show s.heap.IsTuple a its.toArray from p) (x := u) (by simpa using hu) fun h' st' sb => ?_
    have I1 : Inv X pins σ H { s with heap := h' } := I.turned (t' := s.toks) (fun b o hb e => (sb.2 b hb).trans e) f0 f1 f3 f4 f5
    obtain ⟨o, e, c, d⟩ := id st'
    exact ⟨u, rfl, go_of (s := { s with heap := h' }) e c d (by decide) ⟨x, H, I1, ru, ⟨rfl, fun ys hy => by rw [I.tuple_inj hy hq]; exact hx⟩, st', fun b hb => (hf b hb).1⟩⟩
  done := by
    intro X hP hw hK hc i pins s σ H E I hf st hg
    subst hP hw hK
    obtain ⟨xs, hq, hx⟩ := hg
    obtain ⟨its, rv, p, hz⟩ := I.tuple hq
    obtain ⟨f0, f1, f2, f3, f4, f5⟩ := hf it (by simp)
    have hl := rv.length
    exact wpAny_pyNext_tuple_end (I.ok.hd hc) st (show s.heap.IsTuple a its.toArray from p) (by simp; omega) fun h' eb => ⟨rfl, I.turned (t' := s.toks) (fun b o hb e => eb b o hb e) f0 f1 f3 f4 f5⟩
  self := fun _ _ _ _ _ st h => wpAny_pyIter_tupleiter st h
theorem turn_range {P : Program} {w : World} {K : PySem.W.Frag} {tg : Expr} (it : Addr) (lo : Int) (n : Nat) : Turn P w K tg (Itr lo n) [it] it (fun i h => IsRangeIter h it (lo + (i : Nat) * 1) ((n : Int) - (i : Nat)) 1) where
  mem := by simp
  obj := fun i h st b hb => by
    have e : b = it := by simpa using hb
    subst e
    exact ⟨_, st, fun v z => by
      have z' : Data.fields _ = Data.cell v := z
      cases z'⟩
  keep := fun i h h' st k => k it (by simp) _ st
  item := by
    intro X hP hw hK hc i pins s σ H E I hf st hg
    subst hP hw hK
    obtain ⟨f0, f1, f2, f3, f4, f5⟩ := hf it (by simp)
    have W := Walks.range (prog := X.prog) (w := X.w) (I.ok.hd hc) it lo 1 n
    refine W.item i s _ _ hg st fun v h' tk hv st' kk => ?_
    obtain ⟨t, rfl⟩ := hv
    have I1 : Inv X pins σ H { s with heap := h', toks := tk } := I.turned (fun b o hb e => kk b o (by simpa using hb) e) f0 f1 f3 f4 f5
    refine ⟨_, rfl, go_of (s := { s with heap := h', toks := tk }) (n := "range_iterator") st' rfl rfl (by decide) ⟨.int (lo + i), H, I1, ⟨t, ?_⟩, ⟨rfl, rfl⟩, st', fun b hb => (hf b hb).1⟩⟩
    rw [Int.mul_one]
  done := by
    intro X hP hw hK hc i pins s σ H E I hf st hg
    subst hP hw hK
    obtain ⟨f0, f1, f2, f3, f4, f5⟩ := hf it (by simp)
    exact wpAny_pyNext_range_end (I.ok.hd hc) st (by have : n ≤ i := hg; omega) fun h' eb => ⟨rfl, I.turned (t' := s.toks) (fun b o hb e => eb b o hb e) f0 f1 f3 f4 f5⟩
  self := fun _ _ _ _ _ st h => wpAny_pyIter_rangeiter st h
end L2
namespace L2
open PySem PySem.Spec PyProof.Rows
section
variable {X : Cx} {tg : Expr}
theorem range_it {pins : List (Addr × Obj)} {σ : St} {H : Hp} {s : Shared} {R : It → Hp → Prop} {E : Value → Shared → Prop} {lo hi : Int} {t u v : Tok} {tk : Nat} (I : Inv X pins σ H s) (h1 : -(2 ^ 62) ≤ lo) (h2 : lo < 2 ^ 62) (h3 : -(2 ^ 62) ≤ hi) (h4 : hi < 2 ^ 62)
    (q : R (Itr lo (hi - lo).toNat) H) : wpAny (model X.prog X.w) X.A (pyIter (.ref s.heap.objs.size)) (PIE X pins σ tg R) E { s with heap := s.heap.push { cls := .type "range", data := .fields #[.int lo t, .int hi u, .int 1 v] }, toks := tk } := by
  refine wpAny_pyIter_range (IsRange.new ..) (small_one h1 h2 h3 h4) ?_
  have I1 : Inv X pins σ H { s with heap := s.heap.push { cls := .type "range", data := .fields #[.int lo t, .int hi u, .int 1 v] }, toks := tk } := I.kept fun b o e => Heap.get?_push_of_some _ e
  refine ⟨(s.heap.push { cls := .type "range", data := .fields #[.int lo t, .int hi u, .int 1 v] }).objs.size, [(s.heap.push { cls := .type "range", data := .fields #[.int lo t, .int hi u, .int 1 v] }).objs.size], _, _, H, rfl,
    I1.kept (t' := tk) fun b o e => Heap.get?_push_of_some _ e, turn_range _ lo (hi - lo).toNat, ?_, fun b hb => ?_, q⟩
  · have e1 : lo + ((0 : Nat) : Int) * 1 = lo := by simp
    have e2 : (((hi - lo).toNat : Nat) : Int) - ((0 : Nat) : Int) = Builtin.Range.rangeSize lo hi 1 := by rw [rangeSize_one]; split <;> omega
    show IsRangeIter _ _ (lo + ((0 : Nat) : Int) * 1) ((((hi - lo).toNat : Nat) : Int) - ((0 : Nat) : Int)) 1
    rw [e1, e2]
    exact Heap.get?_push_size _ rfl
  · have e : b = (s.heap.push { cls := .type "range", data := .fields #[.int lo t, .int hi u, .int 1 v] }).objs.size := by simpa using hb
    subst e
    exact I1.fpOk (Nat.le_refl _) (I1.hok.fresh (Nat.le_refl _))
noncomputable def iRng1 (ta : TA) : TI := fun σ H R => ta σ H fun vs H1 => ∃ j : Int, vs = [.int j] ∧ -(2 ^ 62) ≤ j ∧ j < 2 ^ 62 ∧ R (Itr 0 j.toNat) H1
noncomputable def iRng2 (ta : TA) : TI := fun σ H R => ta σ H fun vs H1 => ∃ i j : Int, vs = [.int i, .int j] ∧ (-(2 ^ 62) ≤ i ∧ i < 2 ^ 62 ∧ -(2 ^ 62) ≤ j ∧ j < 2 ^ 62) ∧ R (Itr i (j - i).toNat) H1
theorem pi_range1 {a : Expr} {ta : TA} {p pos : Pos} (hg : Gl X "range") (hm : X.mg "range" = none) (ha : PA X [a] ta) (hs : starEach [a] X.env = [(false, eval a X.env)] := by with_unfolding_all rfl) : PI X tg (.Call (.Name "range" p) [a] [] pos) (iRng1 ta) := by
  intro pins s σ H R I h
  refine Call_ (ld_blt I hg hm boot_range (PyProof.Rows.callWith_type1 (thn (ha pos pins s σ H _ I h) fun us s1 ⟨vs, H1, I1, r1, q1⟩ => ?_) hs rfl))
  obtain ⟨j, e, q1, q2, q⟩ := q1
  subst e
  cases r1 with
  | cons r rr =>
    cases rr
    obtain ⟨t, rfl⟩ := r
    exact call_range_1 (range_it I1 (by omega) (by omega) q1 q2 (by simpa using q))
theorem pi_range2 {a b : Expr} {ta : TA} {p pos : Pos} (hg : Gl X "range") (hm : X.mg "range" = none) (ha : PA X [a, b] ta) (hs : starEach [a, b] X.env = [(false, eval a X.env), (false, eval b X.env)] := by with_unfolding_all rfl) (hs2 : starEach [b] X.env = [(false, eval b X.env)] := by with_unfolding_all rfl) :
    PI X tg (.Call (.Name "range" p) [a, b] [] pos) (iRng2 ta) := by
  intro pins s σ H R I h
  refine Call_ (ld_blt I hg hm boot_range (PyProof.Rows.callWith_type1 (thn (ha pos pins s σ H _ I h) fun us s1 ⟨vs, H1, I1, r1, q1⟩ => ?_) (by rw [hs, hs2]) (by rw [hs2]; rfl)))
  obtain ⟨i, j, e, ⟨q1, q2, q3, q4⟩, q⟩ := q1
  subst e
  cases r1 with
  | cons r rr =>
    cases rr with
    | cons r' rr =>
      cases rr
      obtain ⟨t, rfl⟩ := r
      obtain ⟨t', rfl⟩ := r'
      exact call_range_2 (range_it I1 q1 q2 q3 q4 q)
noncomputable def tFor (wi : TI) (g : TG) (tb : TS) : TS := fun D σ H => wi σ H fun J H1 => ∃ W : Nat → Nat → St → Hp → Prop, (∃ m, W 0 m σ H1) ∧ ∀ i m σ H, W i m σ H →
  (J.stop i H ∧ D.nx σ H) ∨ (J.go i H ∧ ∃ N : St → Hp → Prop, (∀ σ' H', N σ' H' → ∃ m', m' < m ∧ W (i + 1) m' σ' H') ∧ ∀ x H', J.yld i H x H' → g x σ H' fun σ2 H2 => tb { D with nx := N, ct := N, bk := D.nx } σ2 H2)
noncomputable def pinsAt (fp : List Addr) (h : Heap) : List (Addr × Obj) := fp.filterMap fun b => (h.get? b).map fun o => (b, o)
theorem mem_pinsAt {fp : List Addr} {h : Heap} {b : Addr} {o : Obj} (hb : b ∈ fp) (e : h.get? b = some o) : (b, o) ∈ pinsAt fp h := List.mem_filterMap.mpr ⟨b, hb, by rw [e]; rfl⟩
theorem of_pinsAt {fp : List Addr} {h : Heap} {p : Addr × Obj} (hp : p ∈ pinsAt fp h) : p.1 ∈ fp ∧ h.get? p.1 = some p.2 := by
  obtain ⟨b, hb, e⟩ := List.mem_filterMap.mp hp
  cases q : h.get? b with
  | none => rw [q] at e; cases e
  | some o =>
    rw [q] at e
    have e' : (b, o) = p := Option.some.inj e
    subst e'
    exact ⟨hb, q⟩
theorem Inv.pinned {pins : List (Addr × Obj)} {σ : St} {H : Hp} {s : Shared} {fp : List Addr} (I : Inv X pins σ H s) (hf : ∀ b ∈ fp, FpOk X pins H b) (ho : ∀ b ∈ fp, ∃ o, s.heap.get? b = some o ∧ ∀ v, o.data ≠ .cell v) : Inv X (pins ++ pinsAt fp s.heap) σ H s :=
  I.pins_of fun p hp => (List.mem_append.mp hp).elim (fun z => I.pin p (List.mem_append_right _ z)) fun z => by
    obtain ⟨hb, e⟩ := of_pinsAt z
    obtain ⟨f0, f1, f2, _⟩ := hf p.1 hb
    obtain ⟨o, e', d⟩ := ho p.1 hb
    rw [e] at e'; cases e'
    exact ⟨e, f0, f1, f2, d⟩
theorem Inv.unpinned {pins pl : List (Addr × Obj)} {σ : St} {H : Hp} {s : Shared} (I : Inv X (pins ++ pl) σ H s) : Inv X pins σ H s := I.pins_of fun p hp => I.pin p (List.mem_append_right _ (List.mem_append_left _ hp))
theorem ps_for {iter : Expr} {body : List Stmt} {wi : TI} {g : TG} {tb : TS} {pos : Pos} (hp : PassesOwn (model X.prog X.w) X.A X.env X.xe) (hc : X.calm = true) (hi : PI X tg iter wi) (hg : PG X tg g) (hb : PSs X body tb)
    (hs : ∀ x, foldedSetIterable iter X.env x = pure x := by intro _; with_unfolding_all rfl) : PS X (.For tg iter body [] pos) (tFor wi g tb) := by
  intro pins s σ H D I h
  refine wpAny_For (thn (hi pins s σ H _ I h) fun v s1 h1 => thn h1 fun itv s2 h2 => ?_) hs
  obtain ⟨it, fp, tn, J, H2, e, I2, T, st2, f2, W, ⟨m0, w0⟩, turn⟩ := h2
  subst e
  -- what stays true of the iterator's objects through the loop
  have stat : ∀ {H' : Hp}, (∀ b ∈ fp, H' b = none) → ∀ b ∈ fp, FpOk X pins H' b := fun hn b hb => ⟨hn b hb, (f2 b hb).2⟩
  refine codeAny_forLoop_any (fun n s' => ∃ i σ' H', Inv X pins σ' H' s' ∧ tn i s'.heap ∧ (∀ b ∈ fp, H' b = none) ∧ W i n σ' H') ?_ m0 ⟨0, σ, H2, I2, st2, fun b hb => (f2 b hb).1, w0⟩
  rintro n s3 ⟨i, σ3, H3, I3, st3, fr3, w3⟩
  rcases turn i n σ3 H3 w3 with ⟨stop, qn⟩ | ⟨go, N, hN, step⟩
  · refine wpAny_passesOwn hp (thn (T.done X rfl rfl rfl hc i pins s3 σ3 H3 X.xe I3 (stat fr3) st3 stop) fun r s4 ⟨hr, I4⟩ => ?_)
    subst hr
    exact wpAny_execs_nil ⟨σ3, H3, I4, qn⟩
  · refine wpAny_passesOwn hp (thn (T.item X rfl rfl rfl hc i pins s3 σ3 H3 X.xe I3 (stat fr3) st3 go) fun r s4 ⟨u, hr, h4⟩ => ?_)
    subst hr
    refine wpAny_passesOwn hp (thn h4 fun _ s5 ⟨x, H5, I5, r5, y5, st5, fr5⟩ => ?_)
    have I5' := I5.pinned (stat fr5) (T.obj _ _ st5)
    refine wpAny_passesOwn hp (thn (hg _ s5 σ3 H5 x u _ I5' r5 (step x H5 y5)) fun _ s6 ⟨σ6, H6, I6, q6⟩ => ?_)
    refine wpAny_passesOwn hp (thn (hb _ s6 σ6 H6 _ I6 q6) fun f s7 q7 => ?_)
    have again : ∀ {σ7 : St} {H7 : Hp}, Inv X (pins ++ pinsAt fp s5.heap) σ7 H7 s7 → N σ7 H7 → ∃ m, m < n ∧ ∃ i σ' H', Inv X pins σ' H' s7 ∧ tn i s7.heap ∧ (∀ b ∈ fp, H' b = none) ∧ W i m σ' H' := fun {σ7 H7} I7 n7 => by
      obtain ⟨m', hm, w7⟩ := hN σ7 H7 n7
      refine ⟨m', hm, i + 1, σ7, H7, I7.unpinned, T.keep _ _ _ st5 fun b hb o e => (I7.pin (b, o) (List.mem_append_right _ (List.mem_append_right _ (mem_pinsAt hb e)))).1, fun b hb => ?_, w7⟩
      obtain ⟨o, e, d⟩ := T.obj _ _ st5 b hb
      exact (I7.pin (b, o) (List.mem_append_right _ (List.mem_append_right _ (mem_pinsAt hb e)))).2.1
    cases f with
    | next => obtain ⟨σ7, H7, I7, n7⟩ := q7; exact again I7 n7
    | cont => obtain ⟨σ7, H7, I7, n7⟩ := q7; exact again I7 n7
    | brk => obtain ⟨σ7, H7, I7, q7⟩ := q7; exact ⟨σ7, H7, I7.unpinned, q7⟩
    | ret v => obtain ⟨x7, σ7, H7, I7, r7, q7⟩ := q7; exact ⟨x7, σ7, H7, I7.unpinned, r7, q7⟩
end
end L2
namespace L2
open PySem PySem.Spec PyProof.Rows
noncomputable abbrev R2 := V → V → Hp → VK → Prop
noncomputable def OpR (X : Cx) (f : Value → Value → Sem Value) (r : R2) : Prop :=
  ∀ (pins : List (Addr × Obj)) (s : Shared) (σ : St) (H : Hp) (x y : V) (v u : Value) (Q : VK), Inv X pins σ H s → RelV x v → RelV y u → r x y H Q →
    wpAny (model X.prog X.w) X.A (f v u) (EP X pins σ Q) X.xe s
noncomputable def UnR (X : Cx) (f : Value → Sem Value) (r : V → Hp → VK → Prop) : Prop :=
  ∀ (pins : List (Addr × Obj)) (s : Shared) (σ : St) (H : Hp) (x : V) (v : Value) (Q : VK), Inv X pins σ H s → RelV x v → r x H Q →
    wpAny (model X.prog X.w) X.A (f v) (EP X pins σ Q) X.xe s
noncomputable def CallR (X : Cx) (f : Value) (r : List V → Hp → VK → Prop) : Prop :=
  ∀ (pins : List (Addr × Obj)) (s : Shared) (σ : St) (H : Hp) (xs : List V) (us : List Value) (Q : VK), Inv X pins σ H s → Vals xs us → r xs H Q →
    wpAny (model X.prog X.w) X.A (call f us) (EP X pins σ Q) X.xe s
noncomputable def tOp (r : R2) (ta tb : TE) : TE := fun σ H Q => ta σ H fun x H1 => tb σ H1 fun y H2 => r x y H2 Q
noncomputable def tUn (r : V → Hp → VK → Prop) (ta : TE) : TE := fun σ H Q => ta σ H fun x H1 => r x H1 Q
noncomputable def rI (C : Int → Int → Prop) (g : Int → Int → V) : R2 := fun x y H Q => ∃ i j, x = .int i ∧ y = .int j ∧ C i j ∧ Q (g i j) H
noncomputable def rI0 (g : Int → Int → V) : R2 := fun x y H Q => ∃ i j, x = .int i ∧ y = .int j ∧ Q (g i j) H
noncomputable def rU (g : Int → V) : V → Hp → VK → Prop := fun x H Q => ∃ i, x = .int i ∧ Q (g i) H
section
variable {X : Cx} {a b c : Expr} {ta tb tc : TE} {pos : Pos}
theorem binT (ha : PE X a ta) (hb : PE X b tb) {pins : List (Addr × Obj)} {s : Shared} {σ : St} {H : Hp} {R : V → V → Hp → Prop} (I : Inv X pins σ H s)
    (h : ta σ H fun x H1 => tb σ H1 fun y H2 => R x y H2) {Q : Value → Shared → Prop} {f : Value → Value → Sem Value}
    (hf : ∀ v u s2 x y H2, Inv X pins σ H2 s2 → RelV x v → RelV y u → R x y H2 → wpAny (model X.prog X.w) X.A (f v u) Q X.xe s2) :
    wpAny (model X.prog X.w) X.A (eval a X.env) (fun v s₁ => wpAny (model X.prog X.w) X.A (eval b X.env) (fun u s₂ => wpAny (model X.prog X.w) X.A (f v u) Q X.xe s₂) X.xe s₁) X.xe s := by
  refine thn (ha pins s σ H _ I h) fun v s1 ⟨x, H1, I1, r1, q1⟩ => ?_
  refine thn (hb pins s1 σ H1 _ I1 q1) fun u s2 ⟨y, H2, I2, r2, q2⟩ => ?_
  exact hf v u s2 x y H2 I2 r1 r2 q2
theorem pe_op {op : Operator} {r : R2} (ho : OpR X (binaryOp op) r) (ha : PE X a ta) (hb : PE X b tb) : PE X (.BinOp a op b pos) (tOp r ta tb) := by
  intro pins s σ H Q I h
  exact wpAny_BinOp (binT ha hb I h fun v u s2 x y H2 I2 rx ry q => ho pins s2 σ H2 x y v u Q I2 rx ry q)
theorem pe_un {op : UnaryOp} {r : V → Hp → VK → Prop} (ho : UnR X (unaryOp op) r) (ha : PE X a ta) : PE X (.UnaryOp op a pos) (tUn r ta) := by
  intro pins s σ H Q I h
  exact UnaryOp_ (thn (ha pins s σ H _ I h) fun v s1 ⟨x, H1, I1, r1, q1⟩ => ho pins s1 σ H1 x v Q I1 r1 q1)
theorem opI {f : Value → Value → Sem Value} {C : Int → Int → Prop} {g : Int → Int → Int}
    (rule : ∀ (i j : Int) (t u : Tok) (s : Shared) (Q : Value → Shared → Prop) (E : Value → Shared → Prop), C i j → Q (.int (g i j) s.toks) { s with toks := s.toks + 1 } → wpAny (model X.prog X.w) X.A (f (.int i t) (.int j u)) Q E s) :
    OpR X f (rI C fun i j => .int (g i j)) := by
  intro pins s σ H x y v u Q I rx ry h
  obtain ⟨i, j, rfl, rfl, hc, q⟩ := h
  obtain ⟨t, rfl⟩ := rx
  obtain ⟨t', rfl⟩ := ry
  exact rule i j t t' s _ _ hc ⟨.int (g i j), H, I.tok _, ⟨_, rfl⟩, q⟩
theorem opI0 {f : Value → Value → Sem Value} {g : Int → Int → Int}
    (rule : ∀ (i j : Int) (t u : Tok) (s : Shared) (Q : Value → Shared → Prop) (E : Value → Shared → Prop), Q (.int (g i j) s.toks) { s with toks := s.toks + 1 } → wpAny (model X.prog X.w) X.A (f (.int i t) (.int j u)) Q E s) :
    OpR X f (rI0 fun i j => .int (g i j)) := by
  intro pins s σ H x y v u Q I rx ry h
  obtain ⟨i, j, rfl, rfl, q⟩ := h
  obtain ⟨t, rfl⟩ := rx
  obtain ⟨t', rfl⟩ := ry
  exact rule i j t t' s _ _ ⟨.int (g i j), H, I.tok _, ⟨_, rfl⟩, q⟩
theorem opB0 {f : Value → Value → Sem Value} {g : Int → Int → Bool}
    (rule : ∀ (i j : Int) (t u : Tok) (s : Shared) (Q : Value → Shared → Prop) (E : Value → Shared → Prop), Q (.bool (g i j)) s → wpAny (model X.prog X.w) X.A (f (.int i t) (.int j u)) Q E s) :
    OpR X f (rI0 fun i j => .bl (g i j)) := by
  intro pins s σ H x y v u Q I rx ry h
  obtain ⟨i, j, rfl, rfl, q⟩ := h
  obtain ⟨t, rfl⟩ := rx
  obtain ⟨t', rfl⟩ := ry
  exact rule i j t t' s _ _ ⟨.bl (g i j), H, I, rfl, q⟩
noncomputable def CDiv (i j : Int) : Prop := 0 < j ∧ j < 1073741824
noncomputable def CPow (i j : Int) : Prop := 0 ≤ j ∧ j ≤ 1000000 ∧ i.natAbs < 2 ^ 64
noncomputable def CMul (i j : Int) : Prop := (-(2 ^ 64) < i ∧ i < 2 ^ 64) ∨ (-(2 ^ 64) < j ∧ j < 2 ^ 64)
theorem CMul.ok {i j : Int} (h : CMul i j) : IntMulOk i j := by
  rcases h with ⟨h1, h2⟩ | ⟨h1, h2⟩
  · exact .of_left (intBits_le_64 h1 h2)
  · exact .of_right (intBits_le_64 h1 h2)
theorem op_add : OpR X (binaryOp .Add) (rI0 fun i j => .int (i + j)) := opI0 fun _ _ _ _ _ _ _ q => add_int q
theorem op_sub : OpR X (binaryOp .Sub) (rI0 fun i j => .int (i - j)) := opI0 fun _ _ _ _ _ _ _ q => sub_int q
theorem op_mul : OpR X (binaryOp .Mult) (rI CMul fun i j => .int (i * j)) := opI fun _ _ _ _ _ _ _ hc q => mul_int q hc.ok
theorem op_fdiv : OpR X (binaryOp .FloorDiv) (rI CDiv fun i j => .int (i / j)) := opI fun i j _ _ _ _ _ hc q => by
  have h1 : (0 : Int) < j := hc.1
  have h2 : j < 1073741824 := hc.2
  exact floordiv_int (by omega) (by rw [Int.fdiv_eq_ediv_of_nonneg i (by omega)]; exact q) (.inl (PyProof.noPylong_small (by omega)))
theorem op_mod : OpR X (binaryOp .Mod) (rI (fun _ j => 0 < j) fun i j => .int (i % j)) := opI fun i j _ _ _ _ _ hc q => by
  have h1 : (0 : Int) < j := hc
  exact mod_int' (by omega) (by rw [Int.fmod_eq_emod_of_nonneg i (by omega)]; exact q)
theorem op_pow : OpR X (binaryOp .Pow) (rI CPow fun i j => .int (i ^ j.toNat)) := opI fun _ _ _ _ _ _ _ hc q => pow_int_small hc.1 hc.2.1 hc.2.2 q
theorem unI {f : Value → Sem Value} {g : Int → Int}
    (rule : ∀ (i : Int) (t : Tok) (s : Shared) (Q : Value → Shared → Prop) (E : Value → Shared → Prop), Q (.int (g i) s.toks) { s with toks := s.toks + 1 } → wpAny (model X.prog X.w) X.A (f (.int i t)) Q E s) :
    UnR X f (rU fun i => .int (g i)) := by
  intro pins s σ H x v Q I rx h
  obtain ⟨i, rfl, q⟩ := h
  obtain ⟨t, rfl⟩ := rx
  exact rule i t s _ _ ⟨.int (g i), H, I.tok _, ⟨_, rfl⟩, q⟩
theorem un_neg : UnR X (unaryOp .USub) (rU fun i => .int (-i)) := unI fun _ _ _ _ _ q => neg_int q
end
noncomputable def scal : V → V → Bool
  | .non, .non => true | .non, .int _ => true | .int _, .non => true | .non, .bl _ => true | .bl _, .non => true | .non, .str _ => true | .str _, .non => true
  | .int _, .int _ => true | .bl _, .bl _ => true | .str _, .str _ => true | .byt _, .byt _ => true
  | .int _, .str _ => true | .str _, .int _ => true | .bl _, .str _ => true | .str _, .bl _ => true
  | _, _ => false
noncomputable def rEq : R2 := fun x y H Q => scal x y = true ∧ Q (.bl (decide (x = y))) H
noncomputable def rNe : R2 := fun x y H Q => scal x y = true ∧ Q (.bl (!decide (x = y))) H
theorem dec_int {i j : Int} : decide (V.int i = V.int j) = (i == j) := by
  rw [Bool.eq_iff_iff]
  simp
theorem dec_bl {i j : Bool} : decide (V.bl i = V.bl j) = (i == j) := by
  rw [Bool.eq_iff_iff]
  simp
theorem dec_str {i j : Str} : decide (V.str i = V.str j) = (i == j) := by
  rw [Bool.eq_iff_iff]
  simp
theorem dec_byt {i j : Array UInt8} : decide (V.byt i = V.byt j) = (i.toList == j.toList) := by
  rw [Bool.eq_iff_iff]
  cases i
  cases j
  simp
section
variable {X : Cx} {a b c : Expr} {ta tb tc : TE} {pos : Pos}
theorem fin_bl {pins : List (Addr × Obj)} {σ : St} {H : Hp} {s : Shared} {Q : VK} {k k' : Bool} (I : Inv X pins σ H s) (q : Q (.bl k) H) (e : k = k') : EP X pins σ Q (.bool k') s := by
  subst e
  exact ⟨.bl k, H, I, rfl, q⟩
theorem op_eq : OpR X (compareOp .Eq) rEq := by
  intro pins s σ H x y v u Q I rx ry h
  obtain ⟨hs, q⟩ := h
  cases x with
  | non =>
    cases rx
    cases y with
    | non => cases ry; exact PySem.EqNone.eq_none_none (fin_bl I q (by simp))
    | bl j => cases ry; exact PySem.EqNone.eq_none_bool (fin_bl I q (by simp))
    | int j => obtain ⟨t', rfl⟩ := ry; exact PySem.EqNone.eq_none_int (fin_bl I q (by simp))
    | str j => obtain ⟨t', rfl⟩ := ry; exact PySem.EqNone.eq_none_str (fin_bl I q (by simp))
    | _ => exact absurd (show false = true from hs) Bool.false_ne_true
  | bl i =>
    cases rx
    cases y with
    | non => cases ry; exact PySem.EqNone.eq_bool_none (fin_bl I q (by simp))
    | bl j => cases ry; exact eq_bool (fin_bl I q dec_bl)
    | str j => obtain ⟨t', rfl⟩ := ry; exact PySem.EqMixed.eq_bool_str (fin_bl I q (by simp))
    | _ => exact absurd (show false = true from hs) Bool.false_ne_true
  | int i =>
    obtain ⟨t, rfl⟩ := rx
    cases y with
    | non => cases ry; exact PySem.EqNone.eq_int_none (fin_bl I q (by simp))
    | int j => obtain ⟨t', rfl⟩ := ry; exact eq_int (fin_bl I q dec_int)
    | str j => obtain ⟨t', rfl⟩ := ry; exact PySem.EqMixed.eq_int_str (fin_bl I q (by simp))
    | _ => exact absurd (show false = true from hs) Bool.false_ne_true
  | str i =>
    obtain ⟨t, rfl⟩ := rx
    cases y with
    | non => cases ry; exact PySem.EqNone.eq_str_none (fin_bl I q (by simp))
    | bl j => cases ry; exact PySem.EqMixed.eq_str_bool (fin_bl I q (by simp))
    | int j => obtain ⟨t', rfl⟩ := ry; exact PySem.EqMixed.eq_str_int (fin_bl I q (by simp))
    | str j => obtain ⟨t', rfl⟩ := ry; exact eq_str (fin_bl I q dec_str)
    | _ => exact absurd (show false = true from hs) Bool.false_ne_true
  | byt i =>
    obtain ⟨t, rfl⟩ := rx
    cases y with
    | byt j => obtain ⟨t', rfl⟩ := ry; exact PySem.W.eq_bytes (fin_bl I q dec_byt)
    | _ => exact absurd (show false = true from hs) Bool.false_ne_true
  | _ => cases y <;> exact absurd (show false = true from hs) Bool.false_ne_true
theorem op_ne : OpR X (compareOp .NotEq) rNe := by
  intro pins s σ H x y v u Q I rx ry h
  obtain ⟨hs, q⟩ := h
  cases x with
  | non =>
    cases rx
    cases y with
    | non => cases ry; exact PySem.EqNone.ne_none_none (fin_bl I q (by simp))
    | bl j => cases ry; exact PySem.EqNone.ne_none_bool (fin_bl I q (by simp))
    | int j => obtain ⟨t', rfl⟩ := ry; exact PySem.EqNone.ne_none_int (fin_bl I q (by simp))
    | str j => obtain ⟨t', rfl⟩ := ry; exact PySem.EqNone.ne_none_str (fin_bl I q (by simp))
    | _ => exact absurd (show false = true from hs) Bool.false_ne_true
  | bl i =>
    cases rx
    cases y with
    | non => cases ry; exact PySem.EqNone.ne_bool_none (fin_bl I q (by simp))
    | bl j => cases ry; exact ne_bool (fin_bl I q (congrArg not dec_bl))
    | str j => obtain ⟨t', rfl⟩ := ry; exact PySem.EqMixed.ne_bool_str (fin_bl I q (by simp))
    | _ => exact absurd (show false = true from hs) Bool.false_ne_true
  | int i =>
    obtain ⟨t, rfl⟩ := rx
    cases y with
    | non => cases ry; exact PySem.EqNone.ne_int_none (fin_bl I q (by simp))
    | int j => obtain ⟨t', rfl⟩ := ry; exact ne_int (fin_bl I q (congrArg not dec_int))
    | str j => obtain ⟨t', rfl⟩ := ry; exact PySem.EqMixed.ne_int_str (fin_bl I q (by simp))
    | _ => exact absurd (show false = true from hs) Bool.false_ne_true
  | str i =>
    obtain ⟨t, rfl⟩ := rx
    cases y with
    | non => cases ry; exact PySem.EqNone.ne_str_none (fin_bl I q (by simp))
    | bl j => cases ry; exact PySem.EqMixed.ne_str_bool (fin_bl I q (by simp))
    | int j => obtain ⟨t', rfl⟩ := ry; exact PySem.EqMixed.ne_str_int (fin_bl I q (by simp))
    | str j => obtain ⟨t', rfl⟩ := ry; exact ne_str (fin_bl I q (congrArg not dec_str))
    | _ => exact absurd (show false = true from hs) Bool.false_ne_true
  | byt i =>
    obtain ⟨t, rfl⟩ := rx
    cases y with
    | byt j => obtain ⟨t', rfl⟩ := ry; exact PySem.W.ne_bytes (fin_bl I q (congrArg not dec_byt))
    | _ => exact absurd (show false = true from hs) Bool.false_ne_true
  | _ => cases y <;> exact absurd (show false = true from hs) Bool.false_ne_true
theorem op_lt : OpR X (compareOp .Lt) (rI0 fun i j => .bl (decide (i < j))) := opB0 fun _ _ _ _ _ _ _ q => lt_int q
theorem op_gt : OpR X (compareOp .Gt) (rI0 fun i j => .bl (decide (j < i))) := opB0 fun _ _ _ _ _ _ _ q => gt_int q
theorem op_in_str : OpR X (compareOp .In) (fun x y H Q => ∃ i j, x = .str i ∧ y = .str j ∧ Q (.bl (!(Builtin.Str.occurrences j i 0 j.length 1).isEmpty)) H) := by
  intro pins s σ H x y v u Q I rx ry h
  obtain ⟨i, j, rfl, rfl, q⟩ := h
  obtain ⟨t, rfl⟩ := rx
  obtain ⟨t', rfl⟩ := ry
  exact in_str (fin_bl I q rfl)
theorem op_notN : OpR X (compareOp .IsNot) (fun x y H Q => y = .non ∧ Q (.bl (!decide (x = .non))) H) := by
  intro pins s σ H x y v u Q I rx ry h
  obtain ⟨rfl, q⟩ := h
  cases ry
  refine isnot_none_gen (fin_bl I q ?_)
  cases x <;> first
    | (cases rx; rfl)
    | (obtain ⟨t, rfl⟩ := rx; rfl)
theorem OpR.or {f : Value → Value → Sem Value} {r r' : R2} (h : OpR X f r) (h' : OpR X f r') : OpR X f (fun x y H Q => r x y H Q ∨ r' x y H Q) := by
  intro pins s σ H x y v u Q I rx ry q
  rcases q with q | q
  · exact h pins s σ H x y v u Q I rx ry q
  · exact h' pins s σ H x y v u Q I rx ry q
theorem nomark (b : Expr) {op : CmpOp} (h : op ≠ .In := by decide) (h2 : op ≠ .NotIn := by decide) : behindInMarks op b = false := by
  have e1 : (op == CmpOp.In) = false := by cases op <;> first | rfl | exact absurd rfl h
  have e2 : (op == CmpOp.NotIn) = false := by cases op <;> first | rfl | exact absurd rfl h2
  cases b <;> simp [behindInMarks, e1, e2]
theorem pe_cmpR {op : CmpOp} {r : R2} (ho : OpR X (compareOp op) r) (ha : PE X a ta) (hb : PE X b tb) (hm : behindInMarks op b = false) : PE X (.Compare a [op] [b] pos) (tOp r ta tb) := by
  intro pins s σ H Q I h
  exact wpAny_Compare1 (binT ha hb I h fun v u s2 x y H2 I2 rx ry q => ho pins s2 σ H2 x y v u Q I2 rx ry q) hm
noncomputable def tTest (t : TE) : TT := fun σ H Q => t σ H fun x H' => ∃ k, x = .bl k ∧ Q k H'
theorem pt_cmpR {op : CmpOp} {r : R2} (ho : OpR X (compareOp op) r) (ha : PE X a ta) (hb : PE X b tb) (hm : behindInMarks op b = false) : PT X (.Compare a [op] [b] pos) (tTest (tOp r ta tb)) := by
  intro pins s σ H Q I h
  refine wpAny_isTrue_Compare1 (thn (ha pins s σ H _ I h) fun v s1 ⟨x, H1, I1, r1, q1⟩ => thn (hb pins s1 σ H1 _ I1 q1) fun u s2 ⟨y, H2, I2, r2, q2⟩ =>
    thn (ho pins s2 σ H2 x y v u _ I2 r1 r2 q2) fun c s3 ⟨z, H3, I3, r3, k, e, q3⟩ => ?_) hm
  subst e
  cases r3
  exact wpAny_truthy_bool ⟨H3, I3, q3⟩
theorem line63 : (sizeLine : Nat) < 2 ^ 63 := by rw [sizeLine_eq]; decide
theorem op_add_str : OpR X (binaryOp .Add) (fun x y H Q => ∃ i j, x = .str i ∧ y = .str j ∧ i.length + j.length ≤ sizeLine ∧ Q (.str (i ++ j)) H) := by
  intro pins s σ H x y v u Q I rx ry h
  obtain ⟨i, j, rfl, rfl, hz, q⟩ := h
  obtain ⟨t, rfl⟩ := rx
  obtain ⟨t', rfl⟩ := ry
  exact add_str (fun t' tk => ⟨.str (i ++ j), H, I.tok _, ⟨_, rfl⟩, q⟩) hz
theorem vals1 {x : V} {us : List Value} (r : Vals [x] us) : ∃ u, us = [u] ∧ RelV x u := by
  cases r with
  | cons r1 r2 => cases r2; exact ⟨_, rfl, r1⟩
theorem vals2 {x y : V} {us : List Value} (r : Vals [x, y] us) : ∃ u w', us = [u, w'] ∧ RelV x u ∧ RelV y w' := by
  cases r with
  | cons r1 r2 =>
    cases r2 with
    | cons r3 r4 => cases r4; exact ⟨_, _, rfl, r1, r3⟩
theorem call_max2 (hc : X.calm = true) : CallR X (.builtin "max") (fun xs H Q => ∃ i j, xs = [.int i, .int j] ∧ Q (.int (if j > i then j else i)) H) := by
  intro pins s σ H xs us Q I r h
  obtain ⟨i, j, rfl, q⟩ := h
  obtain ⟨u, w', rfl, ⟨t, rfl⟩, ⟨t', rfl⟩⟩ := vals2 r
  refine max_two_ints (I.ok.hd hc) fun h' tk k => ⟨_, H, I.kept k, ?_, q⟩
  by_cases hj : j > i
  · rw [if_pos hj, if_pos hj]; exact ⟨_, rfl⟩
  · rw [if_neg hj, if_neg hj]; exact ⟨_, rfl⟩
theorem call_min2 (hc : X.calm = true) : CallR X (.builtin "min") (fun xs H Q => ∃ i j, xs = [.int i, .int j] ∧ Q (.int (if j < i then j else i)) H) := by
  intro pins s σ H xs us Q I r h
  obtain ⟨i, j, rfl, q⟩ := h
  obtain ⟨u, w', rfl, ⟨t, rfl⟩, ⟨t', rfl⟩⟩ := vals2 r
  refine min_two_ints (I.ok.hd hc) fun h' tk k => ⟨_, H, I.kept k, ?_, q⟩
  by_cases hj : j < i
  · rw [if_pos hj, if_pos hj]; exact ⟨_, rfl⟩
  · rw [if_neg hj, if_neg hj]; exact ⟨_, rfl⟩
theorem call_int1 : CallR X (.type "int") (fun xs H Q => (∃ i, xs = [.int i] ∧ Q (.int i) H) ∨ ∃ k, xs = [.bl k] ∧ Q (.int (if k then 1 else 0)) H) := by
  intro pins s σ H xs us Q I r h
  rcases h with ⟨i, rfl, q⟩ | ⟨k, rfl, q⟩
  · obtain ⟨u, rfl, t, rfl⟩ := vals1 r
    exact call_int_int ⟨.int i, H, I, ⟨_, rfl⟩, q⟩
  · obtain ⟨u, rfl, r1⟩ := vals1 r
    cases r1
    exact call_int_bool ⟨.int (if k then 1 else 0), H, I.tok _, ⟨_, rfl⟩, q⟩
theorem call_str_int : CallR X (.type "str") (fun xs H Q => ∃ i, xs = [.int i] ∧ i.natAbs.log2 < 1920 ∧ Q (.str (toString i)) H) := by
  intro pins s σ H xs us Q I r h
  obtain ⟨i, rfl, hz, q⟩ := h
  obtain ⟨u, rfl, t, rfl⟩ := vals1 r
  exact PySem.P.str_of_int hz ⟨.str _, H, I.tok _, ⟨_, rfl⟩, q⟩
noncomputable def LenV (K : PySem.W.Frag) (x : V) (H : Hp) (n : Nat) : Prop :=
  match x with
  | .str y => y.length ≤ sizeLine ∧ n = y.length
  | .byt y => y.size ≤ sizeLine ∧ n = y.size
  | .ref p => (∃ xs, SqL K H p xs ∧ n = xs.length) ∨ ∃ xs, SqT K H p xs ∧ n = xs.length
  | _ => False
theorem call_len : CallR X (.builtin "len") (fun xs H Q => ∃ x n, xs = [x] ∧ LenV X.K x H n ∧ Q (.int n) H) := by
  intro pins s σ H xs us Q I r h
  obtain ⟨x, n, rfl, e, q⟩ := h
  obtain ⟨u, rfl, rx⟩ := vals1 r
  have hl := line63
  have hs : sizeLine = 16777216 := sizeLine_eq
  cases x with
  | str y =>
    obtain ⟨t, rfl⟩ := rx
    obtain ⟨hy, e'⟩ : y.length ≤ sizeLine ∧ n = y.length := e
    subst e'
    exact len_str (by omega) ⟨.int _, H, I.tok _, ⟨_, rfl⟩, q⟩
  | byt y =>
    obtain ⟨t, rfl⟩ := rx
    obtain ⟨hy, e'⟩ : y.size ≤ sizeLine ∧ n = y.size := e
    subst e'
    exact PySem.W.len_bytes (by omega) ⟨.int _, H, I.tok _, ⟨_, rfl⟩, q⟩
  | ref p =>
    cases rx
    have e' : (∃ xs, SqL X.K H p xs ∧ n = xs.length) ∨ ∃ xs, SqT X.K H p xs ∧ n = xs.length := e
    rcases e' with ⟨xs, hx, e'⟩ | ⟨xs, hx, e'⟩
    · subst e'
      obtain ⟨its, r', pl, hz⟩ := I.list hx
      have hlen := r'.length
      exact Calls.call_len_list pl.isList (by simp only [List.size_toArray]; omega) ⟨.int xs.length, H, I.tok _, ⟨_, by simp only [List.size_toArray]; rw [hlen]⟩, q⟩
    · subst e'
      obtain ⟨its, r', pl, hz⟩ := I.tuple hx
      have hlen := r'.length
      exact len_tuple pl (by simp only [List.size_toArray]; omega) ⟨.int xs.length, H, I.tok _, ⟨_, by simp only [List.size_toArray]; rw [hlen]⟩, q⟩
  | _ => exact (show False from e).elim
end
end L2
namespace L2
open PySem PySem.Spec PyProof.Rows
structure ObjM (h : Heap) (x dx C : Addr) (mA : Str → Option Value) : Prop where
  obj : h.get? x = some (PySem.W.instObj C dx)
  ns : h.Ns1 dx mA
  ne : dx ≠ x
theorem lookIn_ns {h : Heap} {dx : Addr} {mA : Str → Option Value} (n : h.Ns1 dx mA) : ∃ od, h.get? dx = some od ∧ ∀ name, PySem.W.lookIn name od = some (mA name) := by
  obtain ⟨o, es, ep, ho, hd, hk, _, hm⟩ := n
  refine ⟨o, ho, fun name => ?_⟩
  have e := hm name
  unfold nsFind findBy at e
  rw [← Array.find?_toList] at e
  unfold PySem.W.lookIn
  rw [hd]
  dsimp only
  split
  · rename_i y q
    rw [q] at e
    exact congrArg some e
  · rename_i q
    rw [q] at e
    have a : es.toList.any (·.refKey) = false := by
      rw [List.any_eq_false]
      intro y hy
      obtain ⟨z, t, hkey⟩ := hk y (Array.mem_toList_iff.mp hy)
      simp [DictEntry.refKey, hkey]
    have a' : ¬ es.toList.any (·.refKey) = true := by rw [a]; exact Bool.false_ne_true
    rw [if_neg a']
    exact congrArg some e
theorem ObjM.look {h : Heap} {x dx C : Addr} {mA : Str → Option Value} (I : ObjM h x dx C mA) : ∃ od, PySem.W.InstAt h x (PySem.W.instObj C dx) C (some od) ∧ ∀ name, PySem.W.lookIn name od = some (mA name) :=
  let ⟨od, ho, hl⟩ := lookIn_ns I.ns
  ⟨od, ⟨I.obj, rfl, rfl, ho⟩, hl⟩
section
variable {prog : Program} {w : World} {A : Around} {E : Value → Shared → Prop} {s : Shared} {K : PySem.W.Frag} {x dx C f : Addr} {mA : Str → Option Value} {name : Str} {v : Value}
end
theorem RelO.some_of {v : V} {o : Option Value} (r : RelO (some v) o) : ∃ u, o = some u ∧ RelV v u := by
  cases o with
  | none => exact (show False from r).elim
  | some u => exact ⟨u, rfl, r⟩
section
variable {P : Program} {w : World} {H H' : Hp} {h h' : Heap} {a C dx : Addr} {fs fs' : List (Str × V)}
theorem ins_get (hok : HOk P w H h) (e : H a = some (.ins C dx fs)) : ∃ mA, ObjM h a dx C mA ∧ (∀ f, RelO (fs.lookup f) (mA f)) ∧ PySem.Within mA (fs.map (·.1)) ∧ fs.length ≤ 1000 ∧ H dx = some (.own a) := by
  obtain ⟨d, z, ne, ob, mA, n, r, q⟩ := (show ObjOk P w H h a (.ins C dx fs) from hok a _ e)
  exact ⟨mA, ⟨ob, n, ne⟩, r, q, z, d⟩
end
structure Cls (K : PySem.W.Frag) (C : Addr) : Prop where
  pg : PySem.W.plainGet K C Str.empty = true
  hd : PySem.W.hasDictIn K C = true
  po : PySem.W.plainOver K C = true
  sa : PySem.W.findIn K (.ref C) "__setattr__" = some (some (.builtin "object.__setattr__"))
theorem Cls.get {K : PySem.W.Frag} {C : Addr} (c : Cls K C) (f : Str) : PySem.W.plainGet K C f = true := c.pg
section
variable {X : Cx} {pins : List (Addr × Obj)} {σ : St} {H : Hp} {s : Shared} {a C dx : Addr} {fs : List (Str × V)} {f : Str} {v : V} {A : Around} {E : Value → Shared → Prop}
end
section
variable {X : Cx} {o e value : Expr} {f : Str} {pos pos' tpos : Pos} {ta tv : TE}
end
section
variable {X : Cx} {pins : List (Addr × Obj)} {σ : St} {H : Hp} {s : Shared} {A : Around} {E : Value → Shared → Prop} {Q : Value → Shared → Prop} {c : Value} {b : Bool}
inductive TyOf (K : PySem.W.Frag) (H : Hp) : V → Value → Prop where
  | non : TyOf K H .non (.type "NoneType")
  | bl (x : Bool) : TyOf K H (.bl x) (.type "bool")
  | int (i : Int) : TyOf K H (.int i) (.type "int")
  | str (x : Str) : TyOf K H (.str x) (.type "str")
  | flt (x : UInt64) : TyOf K H (.flt x) (.type "float")
  | lst {a : Addr} {xs : List V} (e : H a = some (.lst xs)) : TyOf K H (.ref a) (.type "list")
  | frz {a : Addr} {o : Obj} {xs : List V} (e : H a = some (.frz o (.lst xs))) : TyOf K H (.ref a) (.type "list")
  | tup {a : Addr} {xs : List V} (e : H a = some (.tup xs)) : TyOf K H (.ref a) (.type "tuple")
  | dK {a : Addr} {kvs : List (Key × V)} (e : H a = some (.dK kvs)) : TyOf K H (.ref a) (.type "dict")
  | dT {a : Addr} {kvs : List (List Key × V)} (e : H a = some (.dT kvs)) : TyOf K H (.ref a) (.type "dict")
  | ins {a C dx : Addr} {fs : List (Str × V)} (e : H a = some (.ins C dx fs)) (cl : Cls K C) (ha : PySem.W.findIn K (.ref C) "__class__" = some (some (.builtin "object.__class__")))
      (hn : PySem.W.specialIn K (.builtin "object.__class__") "__get__" = some (some (.builtin "getset_descriptor.__get__"))) (htk : PySem.W.takesIn K (.builtin "object.__class__") = some true)
      (hm : PySem.W.mroIn K C (.type "object") = some true) : TyOf K H (.ref a) (.ref C)
theorem isinst_ok {x : V} {u t : Value} (I : Inv X pins σ H s) (rx : RelV x u) (ty : TyOf X.K H x t) (e : PySem.W.kitOne X.K t c = some b) (h : ∀ tk, Q (.bool b) { s with toks := tk }) :
    wpAny (model X.prog X.w) A (call (.builtin "isinstance") [u, c]) Q E s := by
  cases ty with
  | non => cases (show u = Value.none from rx); exact PySem.W.kia_one PySem.W.kitx_none I.kIn True.intro e (fun z => nomatch z) h
  | bl y => cases (show u = Value.bool y from rx); exact PySem.W.kia_one PySem.W.kitx_bool I.kIn True.intro e (fun z => nomatch z) h
  | int i => obtain ⟨t, q⟩ := (show ∃ t, u = Value.int i t from rx); cases q; exact PySem.W.kia_one PySem.W.kitx_int I.kIn True.intro e (fun z => nomatch z) h
  | str y => obtain ⟨t, q⟩ := (show ∃ t, u = Value.str y t from rx); cases q; exact PySem.W.kia_one PySem.W.kitx_str I.kIn True.intro e (fun z => nomatch z) h
  | flt y => obtain ⟨t, q⟩ := (show ∃ t, u = Value.float y t from rx); cases q; exact PySem.W.kia_one PySem.W.kitx_float I.kIn True.intro e (fun z => nomatch z) h
  | @lst a xs ea =>
    cases (show u = Value.ref a from rx)
    obtain ⟨_, _, n, _, h1⟩ := (show ObjOk X.prog X.w H s.heap a (.lst xs) from I.hok a _ ea)
    exact PySem.W.kia_one PySem.W.kitx_list I.kIn ⟨_, h1, rfl⟩ e (fun z => nomatch z) h
  | @frz a ob xs ea =>
    cases (show u = Value.ref a from rx)
    obtain ⟨_, _, _, n, _, h1⟩ := (show ObjOk X.prog X.w H s.heap a (.frz ob (.lst xs)) from I.hok a _ ea)
    exact PySem.W.kia_one PySem.W.kitx_list I.kIn ⟨_, h1, rfl⟩ e (fun z => nomatch z) h
  | @tup a xs ea =>
    cases (show u = Value.ref a from rx)
    obtain ⟨_, _, _, p⟩ := (show ObjOk X.prog X.w H s.heap a (.tup xs) from I.hok a _ ea)
    obtain ⟨o, h1, h2, _⟩ := p
    exact PySem.W.kia_one PySem.W.kitx_tuple I.kIn ⟨o, h1, h2⟩ e (fun z => nomatch z) h
  | @dK a kvs ea =>
    cases (show u = Value.ref a from rx)
    obtain ⟨_, _, vs, _, p⟩ := (show ObjOk X.prog X.w H s.heap a (.dK kvs) from I.hok a _ ea)
    obtain ⟨o, es, ep, h1, h2, _⟩ := p
    exact PySem.W.kia_one PySem.W.kitx_dict I.kIn ⟨o, h1, h2.1⟩ e (fun z => nomatch z) h
  | @dT a kvs ea =>
    cases (show u = Value.ref a from rx)
    obtain ⟨_, _, xs, _, o, es, ep, h1, h2, _⟩ := (show ObjOk X.prog X.w H s.heap a (.dT kvs) from I.hok a _ ea)
    exact PySem.W.kia_one PySem.W.kitx_dict I.kIn ⟨o, h1, h2.1⟩ e (fun z => nomatch z) h
  | @ins a C dx fs ea cl ha hn htk hm =>
    cases (show u = Value.ref a from rx)
    obtain ⟨mA, O, _⟩ := ins_get I.hok ea
    obtain ⟨od, J, _⟩ := O.look
    exact PySem.W.kia_one (PySem.W.kitx_own (cl.get _) cl.hd ha hn htk hm) I.kIn J e (fun z => nomatch z) h
end
end L2
namespace L2
open PySem PySem.Spec PyProof.Rows
structure Room (k : Nat) (A : Around) : Prop where
  hd : A.handled = none
  dp : A.depth + 3 * k + 5 < recursionLimit
  un : A.units + 16 * k + 200 < cLine
  gd : A.guards = some []
theorem Room.mono {j k : Nat} {A : Around} (r : Room k A) (h : j ≤ k) : Room j A := ⟨r.hd, by have := r.dp; omega, by have := r.un; omega, r.gd⟩
theorem Room.deeper {k : Nat} {A : Around} (r : Room (k + 1) A) (env : Env) : Room k (A.deeper env) :=
  ⟨r.hd, by have := r.dp; show A.depth + 1 + 3 * k + 5 < _; omega, by have := r.un; show A.units + 3 + 16 * k + 200 < _; omega, r.gd⟩
theorem Room.depth {k : Nat} {A : Around} (r : Room k A) : A.depth < recursionLimit := by have := r.dp; omega
theorem Room.units {k : Nat} {A : Around} (r : Room k A) : A.units + 64 < cLine := by have := r.un; omega
noncomputable def tNil : TA := fun _ H Q => Q [] H
noncomputable def tCons (ta : TE) (tr : TA) : TA := fun σ H Q => ta σ H fun x H1 => tr σ H1 fun xs H2 => Q (x :: xs) H2
section
variable {X : Cx} {e : Expr} {es : List Expr} {te : TE} {t : TA} {pos : Pos}
theorem pa_nil : PA X [] tNil := fun _ _ _ _ H Q I h => Calls.spliced_nil ⟨[], H, I, .nil, h⟩
theorem pa_cons (ha : PE X e te) (hr : PA X es t) (hs : starEach (e :: es) X.env = (false, eval e X.env) :: starEach es X.env := by with_unfolding_all rfl) : PA X (e :: es) (tCons te t) := by
  intro pos pins s σ H Q I h
  rw [hs]
  show wpAny _ _ (spliced ((false, eval e X.env) :: backTo pos (starEach es X.env))) _ _ s
  refine Calls.spliced_cons (thn (ha pins s σ H _ I h) fun u s1 ⟨x, H1, I1, r1, q1⟩ => ?_)
  exact thn (hr pos pins s1 σ H1 _ I1 q1) fun us s2 ⟨xs, H2, I2, r2, q2⟩ => ⟨x :: xs, H2, I2, .cons r1 r2, q2⟩
noncomputable def tTup (t : TA) : TE := fun σ H Q => t σ H fun xs H1 => xs.length ≤ sizeLine ∧ ∀ p, H1 p = none → Q (.ref p) (upd H1 p (.tup xs))
noncomputable def tLst (t : TA) : TE := fun σ H Q => t σ H fun xs H1 => xs.length ≤ sizeLine ∧ ∀ p, H1 p = none → Q (.ref p) (upd H1 p (.lst xs))
theorem pe_tup {x1} (h : PA X es t) : PE X (.Tuple es x1 pos) (tTup t) := by
  intro pins s σ H Q I hq
  refine wpAny_Tuple_spliced (thn (h pos pins s σ H _ I hq) fun us s1 ⟨xs, H1, I1, r, z, q⟩ => ⟨by rw [← r.length]; exact z, ?_⟩)
  have hf : H1 s1.heap.objs.size = none := I1.hok.fresh (Nat.le_refl _)
  refine ⟨.ref s1.heap.objs.size, upd H1 s1.heap.objs.size (.tup xs), I1.laid (t' := s1.toks) (fun b u e => Heap.get?_push_of_some _ e) (Nat.le_refl _) ?_, rfl, q _ hf⟩
  exact ⟨z, us, r, ⟨_, Heap.get?_push_size _ rfl, rfl, ⟨_, rfl⟩, rfl⟩⟩
theorem pe_lst (h : PA X es t) : PE X (.List es pos) (tLst t) := by
  intro pins s σ H Q I hq
  refine wpAny_List_spliced (thn (h pos pins s σ H _ I hq) fun us s1 ⟨xs, H1, I1, r, z, q⟩ => ⟨by rw [← r.length]; exact z, ?_⟩)
  have hf : H1 s1.heap.objs.size = none := I1.hok.fresh (Nat.le_refl _)
  refine ⟨.ref s1.heap.objs.size, upd H1 s1.heap.objs.size (.lst xs), I1.laid (t' := s1.toks) (fun b u e => Heap.get?_push_of_some _ e) (Nat.le_refl _) ?_, rfl, q _ hf⟩
  exact ⟨z, us, 0, r, Heap.get?_push_size _ rfl⟩
end
noncomputable abbrev Sp := List V → Hp → VK → XK → Prop
noncomputable abbrev CXT := List Env → Hp → Shared → XK → Value → Shared → Prop
structure Env0 (P : Program) (w : World) (K : PySem.W.Frag) (mg : Str → Option Value) (base : Heap) (A : Around) (outer : List Env) (s : Shared) (H : Hp) : Prop where
  frames : A.frames = some outer
  mod : Mod K mg base
  bs : ∀ b o, base.get? b = some o → s.heap.get? b = some o ∧ H b = none
  bsz : base.objs.size ≤ s.heap.objs.size
  funs : s.heap.FunFrames base outer
  frf : ∀ b ∈ frs outer, H b = none
  hok : HOk P w H s.heap
  bare : AllBare s.gens
noncomputable def CE (outer : List Env) (P : Program) (w : World) (H : Hp) (s : Shared) (Q : VK) (u : Value) (s' : Shared) : Prop :=
  ∃ v H', s'.os = s.os ∧ AllBare s'.gens ∧ Un (frs outer) [] H H' s.heap s'.heap ∧ HOk P w H' s'.heap ∧ RelV v u ∧ Q v H'
noncomputable def CR (CX : CXT) (outer : List Env) (P : Program) (w : World) (H : Hp) (s : Shared) (Q : VK) (E : XK) (r : Result) (s' : Shared) : Prop :=
  match r with
  | .ok (.ret u) => CE outer P w H s Q u s'
  | .ok _ => False
  | .error e => CX outer H s E e s'
structure FnOk (P : Program) (w : World) (K : PySem.W.Frag) (mg : Str → Option Value) (base : Heap) (CX : CXT) (k : Nat) (f : Addr) (fd : FuncData) (ps : List Str) (sp : Sp) : Prop where
  len : ∀ vs H Q E, sp vs H Q E → vs.length = ps.length
  run : ∀ (A : Around) (outer : List Env) (s : Shared) (H : Hp) (args : Args) (us : List Value) (vs : List V) (Q : VK) (E : XK), Room k A → Env0 P w K mg base A outer s H → BindsTo s fd args (ps.zip us) → Vals vs us → sp vs H Q E →
    codeAny (model P w) A (.call (.ref f) args) (CR CX outer P w H s Q E) s
section
variable {X : Cx} {pins : List (Addr × Obj)} {σ : St} {H : Hp} {s s' : Shared}
theorem Inv.env0 (I : Inv X pins σ H s) : Env0 X.prog X.w X.K X.mg X.base X.A X.stack s H :=
  ⟨I.ok.frames, I.ok.mod, I.bs, Nat.le_trans I.ok.bsz I.sz, I.stack, I.stkFree, I.hok, I.bare⟩
theorem Inv.after {Q : VK} {u : Value} (I : Inv X pins σ H s) (h : CE X.stack X.prog X.w H s Q u s') : EP X pins σ Q u s' := by
  obtain ⟨v, H', os, bare, un, hok, r, q⟩ := h
  obtain ⟨hh, g, d, t, os'⟩ := s'
  obtain rfl : os' = s.os := os
  exact ⟨v, H', I.call (h' := hh) (g' := g) (d' := d) (t' := t) (ch := []) un hok bare (fun b z => absurd z (by simp)), r, q⟩
end
noncomputable def tCall (sp : Sp) (dvs : List V) (E : XK) (t : TA) : TE := fun σ H Q => t σ H fun vs H1 => sp (vs ++ dvs) H1 Q E
noncomputable def Binds (K : PySem.W.Frag) (fd : FuncData) (ps : List Str) (ds : List Value) : Prop :=
  ∀ (s : Shared) (us : List Value), K.In s.heap → (us ++ ds).length = ps.length → BindsTo s fd ⟨us, []⟩ (ps.zip (us ++ ds))
theorem Binds.all {K : PySem.W.Frag} {fd : FuncData} {ps : List Str} (h : ∀ us : List Value, us.length = ps.length → bindArgs fd ⟨us, []⟩ = pure (ps.zip us)) : Binds K fd ps [] := fun s us _ hl => by
  rw [List.append_nil] at hl ⊢
  exact .of_eq (h us hl)
noncomputable def Passes (CX : CXT) (X : Cx) (E : XK) : Prop := ∀ (pins : List (Addr × Obj)) (σ : St) (H : Hp) (s : Shared) (e : Value) (s' : Shared), Inv X pins σ H s → CX X.stack H s E e s' → X.xe e s'
section
variable {X : Cx} {CX : CXT} {k : Nat} {f C : Addr} {fd : FuncData} {ps : List Str} {sp : Sp} {dvs : List V} {ds : List Value} {E : XK} {x m : Str} {p pos apos : Pos} {e o : Expr} {es : List Expr} {ta : TE} {t : TA}
theorem run_fn {pins : List (Addr × Obj)} {σ : St} {H : Hp} {s : Shared} {Q : VK} {us : List Value} {vs : List V} (F : FnOk X.prog X.w X.K X.mg X.base CX k f fd ps sp) (hr : Room k X.A) (hb : Binds X.K fd ps ds) (hd : Vals dvs ds) (hx : Passes CX X E)
    (I : Inv X pins σ H s) (r : Vals vs us) (h : sp (vs ++ dvs) H Q E) : wpAny (model X.prog X.w) X.A (call (.ref f) us) (EP X pins σ Q) X.xe s := by
  have r2 : Vals (vs ++ dvs) (us ++ ds) := r.append hd
  have hl : (us ++ ds).length = ps.length := by rw [← r2.length]; exact F.len _ _ _ _ h
  refine wpAny_call (codeAny_mono (F.run X.A X.stack s H ⟨us, []⟩ (us ++ ds) (vs ++ dvs) Q E hr I.env0 (hb s us I.kIn hl) r2 h) fun r s' hq => ?_)
  cases r with
  | error e => exact hx pins σ H s e s' I hq
  | ok fl =>
    cases fl with
    | ret u => exact I.after hq
    | next => exact False.elim hq
    | brk => exact False.elim hq
    | cont => exact False.elim hq
theorem pe_call (F : FnOk X.prog X.w X.K X.mg X.base CX k f fd ps sp) (hr : Room k X.A) (hg : Gl X x) (hm : X.mg x = some (.ref f)) (hk : PySem.W.keepIn X.K (.ref f) = true) (hb : Binds X.K fd ps ds) (hd : Vals dvs ds) (hx : Passes CX X E)
    (ha : PA X (e :: es) t) (hdb : (x == ("__debug__" : Str)) = false := by decide) (he : starEach (e :: es) X.env = (false, eval e X.env) :: starEach es X.env := by with_unfolding_all rfl) (hpl : (backTo pos (starEach es X.env)).any (·.1) = false := by with_unfolding_all rfl) :
    PE X (.Call (.Name x p) (e :: es) [] pos) (tCall sp dvs E t) := by
  intro pins s σ H Q I h
  refine wpAny_Call_Name_kw (ld_glob I hg hm ?_ hdb)
  refine PySem.W.callWith_K (h₀ := X.base) I.ok.mod.kin hk (thn (ha pos pins s σ H _ I h) fun us s1 ⟨vs, H1, I1, r, q⟩ => ⟨I1.kIn, ?_⟩) he hpl
  exact run_fn F hr hb hd hx I1 r q
end
section
variable {X : Cx} {CX : CXT} {k : Nat} {f C : Addr} {fd : FuncData} {ps ks : List Str} {sp : Sp} {E : XK} {x m : Str} {p pos apos kpos : Pos} {e o : Expr} {es : List Expr} {kws : List Keyword} {te ta : TE} {t tk : TA} {nm : Option Str}
variable {g : List Value → List Value → List Value} {gV : List V → List V → List V}
end
structure FnScope (N P : List Str) (sc : Scope) : Prop where
  kind : sc.kind = .function
  co : sc.isCoroutine = false
  gen : sc.isGenerator = false
  nd : N.Nodup
  pre : N.take P.length = P
  par : ∀ x ∈ P, sc.names.lookup x = some .local ∨ sc.names.lookup x = some .cell
  nofree : ∀ y ∈ sc.names, y.2 ≠ .free
theorem bindL_out {kindOf : Str → Option NameKind} {x : Str} : ∀ {binds : List (Str × Value)} {m : Str → Option Value}, (∀ v, (x, v) ∉ binds) → bindL kindOf binds m x = m x
  | [], _, _ => rfl
  | (n, v) :: r, m, h => by
    unfold bindL
    rw [bindL_out fun w hw => h w (List.mem_cons_of_mem _ hw)]
    split
    · have : x ≠ n := by rintro rfl; exact h v List.mem_cons_self
      simp [this]
    · rfl
theorem bindC_out {kindOf : Str → Option NameKind} {x : Str} : ∀ {binds : List (Str × Value)} {m : Str → Option Value}, (∀ v, (x, v) ∉ binds) → bindC kindOf binds m x = m x
  | [], _, _ => rfl
  | (n, v) :: r, m, h => by
    unfold bindC
    rw [bindC_out fun w hw => h w (List.mem_cons_of_mem _ hw)]
    split
    · rfl
    · have : x ≠ n := by rintro rfl; exact h v List.mem_cons_self
      simp [this]
theorem bindL_get {kindOf : Str → Option NameKind} {x : Str} {v : Value} : ∀ {P : List Str} {vs : List Value} {i : Nat} {m : Str → Option Value}, P.Nodup → P[i]? = some x → vs[i]? = some v → kindOf x = some .local →
    bindL kindOf (P.zip vs) m x = some v
  | [], _, _, _, _, h, _, _ => by simp at h
  | _ :: _, [], _, _, _, _, h, _ => by simp at h
  | p :: P, w :: vs, 0, m, nd, h1, h2, hk => by
    simp at h1 h2; subst h1; subst h2
    show bindL kindOf ((p, w) :: P.zip vs) m p = _
    unfold bindL
    rw [bindL_out fun v hv => (List.nodup_cons.mp nd).1 (List.of_mem_zip hv).1, if_pos hk]
    simp
  | p :: P, w :: vs, i + 1, m, nd, h1, h2, hk => by
    show bindL kindOf ((p, w) :: P.zip vs) m x = _
    unfold bindL
    exact bindL_get (i := i) (List.nodup_cons.mp nd).2 (by simpa using h1) (by simpa using h2) hk
theorem bindC_get {kindOf : Str → Option NameKind} {x : Str} {v : Value} : ∀ {P : List Str} {vs : List Value} {i : Nat} {m : Str → Option Value}, P.Nodup → P[i]? = some x → vs[i]? = some v → kindOf x ≠ some .local →
    bindC kindOf (P.zip vs) m x = some v
  | [], _, _, _, _, h, _, _ => by simp at h
  | _ :: _, [], _, _, _, _, h, _ => by simp at h
  | p :: P, w :: vs, 0, m, nd, h1, h2, hk => by
    simp at h1 h2; subst h1; subst h2
    show bindC kindOf ((p, w) :: P.zip vs) m p = _
    unfold bindC
    rw [bindC_out fun v hv => (List.nodup_cons.mp nd).1 (List.of_mem_zip hv).1, if_neg hk]
    simp
  | p :: P, w :: vs, i + 1, m, nd, h1, h2, hk => by
    show bindC kindOf ((p, w) :: P.zip vs) m x = _
    unfold bindC
    exact bindC_get (i := i) (List.nodup_cons.mp nd).2 (by simpa using h1) (by simpa using h2) hk
noncomputable def start (N : List Str) (vs : List V) : St := vs.map some ++ List.replicate (N.length - vs.length) none
noncomputable def cxOf (CX : CXT) (P : Program) (w : World) (K : PySem.W.Frag) (mg : Str → Option Value) (base : Heap) (N : List Str) (qual : Str) (scope : Scope) (f : Addr) (cd : Value) (A : Around) (outer : List Env) (s : Shared) (H : Hp) (E : XK) : Cx where
  prog := P
  w := w
  K := K
  mg := mg
  base := base
  A := A.deeper (envOfC qual scope s.heap.objs.size f cd)
  N := N
  s₀ := s
  H₀ := H
  env := envOfC qual scope s.heap.objs.size f cd
  outer := outer
  stack := envOfC qual scope s.heap.objs.size f cd :: outer
  ex := []
  calm := true
  fn := fun _ => true
  pn := []
  xe := fun e s' => wpAny (model P w) (A.deeper (envOfC qual scope s.heap.objs.size f cd)) (leaving (envOfC qual scope s.heap.objs.size f cd) e) (fun _ s'' => CX outer H s E e s'') (fun e' s'' => CX outer H s E e' s'') s'
theorem cell_has {sc : Scope} {n : Nat} {x : Str} (h : sc.names.lookup x = some .cell) : ∃ c, (cellsFrom n sc.names []).lookup x = some c := by
  have q := PySem.W.cellsFrom_some sc.names n [] (.inl h)
  exact Option.isSome_iff_exists.mp q
theorem inv_start {CX : CXT} {P : Program} {w : World} {K : PySem.W.Frag} {mg : Str → Option Value} {base : Heap} {N ps : List Str} {qual : Str} {scope : Scope} {f : Addr} {cd : Value} {A : Around} {outer : List Env} {s s1 : Shared} {H : Hp} {E : XK} {us : List Value} {vs : List V}
    (S : FnScope N ps scope) (hd : A.handled = none) (e0 : Env0 P w K mg base A outer s H) (hl : vs.length = ps.length) (r : Vals vs us)
    (x : InCallC s s.heap.objs.size (bindL (envOfC qual scope s.heap.objs.size f cd).kindOf (ps.zip us) fun _ => none) (cellsFrom (s.heap.objs.size + 1) scope.names []) (bindC (envOfC qual scope s.heap.objs.size f cd).kindOf (ps.zip us) fun _ => none) s1) :
    Inv (cxOf CX P w K mg base N qual scope f cd A outer s H E) [] (start N vs) H s1 := by
  have hpl : ps.length ≤ N.length := by have := congrArg List.length S.pre; rw [List.length_take] at this; omega
  obtain ⟨h1, tk, rfl, hk⟩ := x.done
  have noA : ∀ b : Addr, b ∉ (cxOf CX P w K mg base N qual scope f cd A outer s H E).ex := fun b z => absurd (show b ∈ ([] : List Addr) from z) (by simp)
  refine ⟨⟨e0.mod, S.kind, rfl, rfl, Nat.le_refl _, fun y z c h1 h2 => ?_, fun y hy => ?_, fun y c _ h => ?_, fun _ => hd, Around.frames_deeper e0.frames, .inr ⟨rfl, rfl⟩, fun b z => absurd z (noA b), e0.bs, e0.bsz, fun b _ _ => noA b, fun b z => absurd z (noA b), e0.funs, e0.frf⟩,
    rfl, e0.bare, Un.kept hk, ⟨_, x.toInCall.ns, fun i y v h1 h2 h3 => ?_⟩, fun y c h => ⟨_, x.cell y c h⟩, e0.hok.fresh (Nat.le_refl _), fun y c h => ?_, fun p hp => absurd (show p ∈ ([] : List (Addr × Obj)) from hp) (by simp), e0.hok.kept hk, ?_⟩
  · exact name_of_addr x.apart (PySem.mem_of_lookup h1) (PySem.mem_of_lookup h2)
  · have hy : scope.names.lookup y = some .cell ∨ scope.names.lookup y = some .free := hy
    rcases hy with hy | hy
    · exact cell_has hy
    · exact absurd rfl (S.nofree _ (PySem.mem_of_lookup hy))
  · exact Nat.le_of_lt (x.above y c (PySem.mem_of_lookup h))
  · have hi : i < vs.length := by
      unfold start at h2
      by_cases hi : i < vs.length
      · exact hi
      · rw [List.getElem?_append_right (by simpa using hi)] at h2
        rw [List.getElem?_replicate] at h2
        split at h2 <;> cases h2
    have ha : vs[i]? = some v := by
      unfold start at h2
      rw [List.getElem?_append_left (by simpa using hi), List.getElem?_map] at h2
      cases e : vs[i]? with
      | none => rw [e] at h2; cases h2
      | some a => rw [e] at h2; cases h2; rfl
    obtain ⟨u, hu, rv⟩ := r.get ha
    have hp : ps[i]? = some y := by
      rw [← S.pre, List.getElem?_take_of_lt (by omega)]; exact h1
    have ndP : ps.Nodup := by rw [← S.pre]; exact S.nd.sublist (List.take_sublist _ _)
    refine ⟨u, rv, ?_⟩
    rcases S.par y (List.mem_of_getElem? hp) with k | k
    · exact .inl ⟨k, bindL_get ndP hp hu k⟩
    · obtain ⟨c, e⟩ := cell_has (n := s.heap.objs.size + 1) k
      refine .inr ⟨.inl k, c, e, ?_⟩
      have q := x.cell y c e
      rw [bindC_get ndP hp hu (by show scope.names.lookup y ≠ _; rw [k]; decide)] at q
      exact q
  · exact e0.hok.fresh (Nat.le_of_lt (x.above y c (PySem.mem_of_lookup h)))
  · unfold start
    show _ = N.length
    rw [List.length_append, List.length_map, List.length_replicate]
    omega
theorem fn_of {CX : CXT} {P : Program} {w : World} {K : PySem.W.Frag} {mg : Str → Option Value} {base : Heap} {k : Nat} {f : Addr} {name qual : Str} {params : Arguments} {body : List Stmt} {scope : Scope} {dV kV doc pm cdv ct oc : Value} {an od : Option Addr}
    {osl : Array (Option Value)} {N ps : List Str} {sp : Sp} (lk : K.lookup f = some ⟨oc, od, .func (PySem.W.fnOf name qual params body scope dV kV doc pm an cdv ct), osl⟩) (hcd : PySem.W.codeIn K cdv qual = true) (S : FnScope N ps scope)
    (len : ∀ vs H Q E, sp vs H Q E → vs.length = ps.length)
    (hbody : ∀ (A : Around) (outer : List Env) (s : Shared) (H : Hp) (vs : List V) (Q : VK) (E : XK), Room k (A.deeper (envOfC qual scope s.heap.objs.size f cdv)) → sp vs H Q E →
      ∃ t, PSs (cxOf CX P w K mg base N qual scope f cdv A outer s H E) body t ∧ t { nx := fun _ H' => Q .non H', rt := Q } (start N vs) H) :
    FnOk P w K mg base CX (k + 1) f (PySem.W.fnOf name qual params body scope dV kV doc pm an cdv ct) ps sp := by
  refine ⟨len, fun A outer s H args us vs Q E hr e0 hb r hsp => ?_⟩
  have hl := len _ _ _ _ hsp
  have KX : K.In s.heap := e0.mod.kin.keeps fun b o e => (e0.bs b o e).1
  have lim : s.heap.NoLimit := e0.mod.nolimit.keeps fun b o e => (e0.bs b o e).1
  have hkind : ∀ y ∈ ps.zip us, scope.names.lookup y.1 = some .local ∨ (scope.names.lookup y.1 = some .cell ∧ ((cellsFrom (s.heap.objs.size + 1) scope.names []).lookup y.1).isSome = true) := fun ⟨n, v⟩ hy => by
    rcases S.par n (List.of_mem_zip hy).1 with q | q
    · exact .inl q
    · exact .inr ⟨q, PySem.W.cellsFrom_some _ _ _ (.inl q)⟩
  refine codeAny_call_function hr.depth (KX _ _ lk) rfl S.co S.gen rfl (PySem.W.codeRec_of KX hcd) (hb _ _ _ _ ?_)
  refine wpAny_newFunctionEnv_cells S.kind hkind fun env he s1 x => ?_
  subst he
  refine ⟨lim.keeps x.toInCall.keep, codeAny_func ?_⟩
  obtain ⟨t, ht, hq⟩ := hbody A outer s H vs Q E (hr.deeper _) hsp
  have I : Inv (cxOf CX P w K mg base N qual scope f cdv A outer s H E) [] (start N vs) H s1 := inv_start S hr.hd e0 hl r x
  refine wpAny_mono (ht [] s1 (start N vs) H _ I hq) (fun fl s' hs => ?_) fun e s' hs => hs
  have fin : ∀ {σ' : St} {H' : Hp} {v : V} {u : Value}, Inv (cxOf CX P w K mg base N qual scope f cdv A outer s H E) [] σ' H' s' → RelV v u → Q v H' → CE outer P w H s Q u s' :=
    fun {σ' H' v u} J rv q => ⟨v, H', J.os, J.bare, J.base, J.hok, rv, q⟩
  cases fl with
  | ret u =>
    obtain ⟨v, σ', H', J, rv, q⟩ := hs
    exact fin J rv q
  | next =>
    obtain ⟨σ', H', J, q⟩ := hs
    exact fin (v := V.non) (u := Value.none) J rfl q
  | brk =>
    obtain ⟨_, _, _, q⟩ := hs
    exact False.elim q
  | cont =>
    obtain ⟨_, _, _, q⟩ := hs
    exact False.elim q
end L2
namespace L2
open PySem PySem.Spec PyProof.Rows
section
variable {X : Cx} {x : Str} {p pos : Pos} {e : Expr} {es : List Expr} {t : TA} {id T : String} {r : List V → Hp → VK → Prop}
noncomputable def tCB (r : List V → Hp → VK → Prop) (t : TA) : TE := fun σ H Q => t σ H fun vs H1 => r vs H1 Q
theorem pe_callB (hc : CallR X (.builtin id) r) (hg : Gl X x) (hm : X.mg x = none) (hv : bootBuiltins x = some (.builtin id)) (ha : PA X (e :: es) t) (hn : x ≠ "__name__" := by decide) (hdb : (x == ("__debug__" : Str)) = false := by decide)
    (he : starEach (e :: es) X.env = (false, eval e X.env) :: starEach es X.env := by with_unfolding_all rfl) (hpl : (backTo pos (starEach es X.env)).any (·.1) = false := by with_unfolding_all rfl) : PE X (.Call (.Name x p) (e :: es) [] pos) (tCB r t) := by
  intro pins s σ H Q I h
  refine wpAny_Call_Name_kw (ld_blt I hg hm hv ?_ hn hdb)
  exact PyProof.Rows.callWith_builtin1 (thn (ha pos pins s σ H _ I h) fun us s1 ⟨vs, H1, I1, r1, q1⟩ => hc pins s1 σ H1 vs us Q I1 r1 q1) he hpl
theorem pe_callTy (hc : CallR X (.type T) r) (hg : Gl X x) (hm : X.mg x = none) (hv : bootBuiltins x = some (.type T)) (ha : PA X (e :: es) t) (hn : x ≠ "__name__" := by decide) (hdb : (x == ("__debug__" : Str)) = false := by decide)
    (he : starEach (e :: es) X.env = (false, eval e X.env) :: starEach es X.env := by with_unfolding_all rfl) (hpl : (backTo pos (starEach es X.env)).any (·.1) = false := by with_unfolding_all rfl) : PE X (.Call (.Name x p) (e :: es) [] pos) (tCB r t) := by
  intro pins s σ H Q I h
  refine wpAny_Call_Name_kw (ld_blt I hg hm hv ?_ hn hdb)
  exact PyProof.Rows.callWith_type1 (thn (ha pos pins s σ H _ I h) fun us s1 ⟨vs, H1, I1, r1, q1⟩ => hc pins s1 σ H1 vs us Q I1 r1 q1) he hpl
end
end L2
namespace HT
open PySem PyProof.Rows
section
open PySem.SeqAt
open PySem.AutoSeq1 (wpAny_loadPart')
open PySem.MeetsSeq PySem.MeetsSeq2 PySem.MeetsSeq3
end
section
variable {prog : Program} {w : World} {A : Around} {E : Value → Shared → Prop} {s : Shared}
theorem cat_tup {t b : Addr} {vs ws : List Value} {Q : Value → Shared → Prop} (ht : IsTup s.heap t vs.toArray) (hb : IsTup s.heap b ws.toArray) (hv : vs ≠ [])
    (h1 : ws = [] → Q (.ref t) s) (h2 : ws ≠ [] → Q (.ref s.heap.objs.size) { s with heap := s.heap.push { cls := .type "tuple", data := .seq (vs ++ ws).toArray } })
    (hsz : vs.length + ws.length ≤ sizeLine) : wpAny (model prog w) A (binaryOp .Add (.ref t) (.ref b)) Q E s := by
  obtain ⟨⟨cls, dd, data, sl⟩, ho, hc, n, hd⟩ := id ht
  obtain ⟨⟨cls2, dd2, data2, sl2⟩, ho2, hc2, n2, hd2⟩ := id hb
  simp only at hc hd hc2 hd2
  subst hc hd hc2 hd2
  have e : vs.toArray ++ ws.toArray = (vs ++ ws).toArray := by simp
  by_cases hw : ws = []
  · exact concat_meets ⟨_, ho, rfl⟩ ⟨_, ho2, rfl⟩ noFill_tuple_add seq_tuple_add PySem.F.slot_tuple_add PySem.F.entry_tuple_add (PySem.F.args_tuple_add_2 _ _)
      (tuple_addW1 t b vs.toArray ws.toArray n n2 dd dd2 sl sl2 (by simpa using hv) (by simp [hw])) ⟨ho, ho2, h1 hw⟩
  · refine concat_meets ⟨_, ho, rfl⟩ ⟨_, ho2, rfl⟩ noFill_tuple_add seq_tuple_add PySem.F.slot_tuple_add PySem.F.entry_tuple_add (PySem.F.args_tuple_add_2 _ _)
      (tuple_addW2 t b vs.toArray ws.toArray n n2 dd dd2 sl sl2 (by simpa using hv) (by simpa using hw) (by rw [List.size_toArray, List.size_toArray]; exact hsz)) ⟨ho, ho2, ?_⟩
    rw [e]
    exact h2 hw
noncomputable def sIx (n d : Nat) : Option Int → Nat
  | none => d
  | some v => if v < 0 then (v + (n : Int)).toNat else min v.toNat n
theorem sIx_none (n d : Nat) : sIx n d none = d := rfl
theorem sIx_nat (n d k : Nat) : sIx n d (some (k : Int)) = min k n := by
  show (if (k : Int) < 0 then ((k : Int) + (n : Int)).toNat else min (k : Int).toNat n) = min k n
  rw [if_neg (by omega), Int.toNat_natCast]
theorem sIx_le (n d : Nat) (hd : d ≤ n) (o : Option Int) : sIx n d o ≤ n := by
  cases o with
  | none => exact hd
  | some v =>
    show (if v < 0 then (v + (n : Int)).toNat else min v.toNat n) ≤ n
    by_cases hv : v < 0
    · rw [if_pos hv]; omega
    · rw [if_neg hv]; exact Nat.min_le_right _ _
theorem clip_eq (v : Int) (n d : Nat) : (if v < 0 then max (v + (n : Int)) 0 else min v (n : Int)) = ((sIx n d (some v) : Nat) : Int) := by
  show (if v < 0 then max (v + (n : Int)) 0 else min v (n : Int)) = (((if v < 0 then (v + (n : Int)).toNat else min v.toNat n) : Nat) : Int)
  by_cases hv : v < 0
  · simp only [if_pos hv]; omega
  · simp only [if_neg hv]; omega
theorem adjust_gen (lo hi : Option Int) (n : Nat) : Builtin.Slice.sliceAdjust lo hi 1 (n : Int) = (((sIx n 0 lo : Nat) : Int), ((sIx n n hi : Nat) : Int)) := by
  have h1 : ¬ ((1 : Int) < 0) := by omega
  unfold Builtin.Slice.sliceAdjust
  simp only [h1, if_false]
  refine Prod.ext ?_ ?_
  · cases lo with
    | none => rfl
    | some v => exact clip_eq v n 0
  · cases hi with
    | none => rfl
    | some v => exact clip_eq v n n
theorem places_gen (i j : Nat) : Builtin.Slice.slicePlaces (i : Int) (j : Int) 1 = j - i := by
  unfold Builtin.Slice.slicePlaces
  have h1 : (1 : Int) > 0 := by omega
  simp only [h1, if_true, Int.ediv_one]
  split <;> omega
theorem slicePart_ {v : Value} {o : Option Int} {Q : Option Int → Shared → Prop} (p : IsPart v o) (h : Q o s) : wpAny (model prog w) A (Builtin.Slice.slicePartIndex v) Q E s := by
  cases p with
  | none => exact slicePart_none h
  | int i t => exact slicePart_int h
theorem sliceApplied_gen {sl : Addr} {vl vu : Value} {lo hi : Option Int} {n : Nat} {Q : Int × Int × Nat → Shared → Prop} (hs : s.heap.IsSliceOf sl vl vu .none) (pl : IsPart vl lo) (pu : IsPart vu hi)
    (h : Q (((sIx n 0 lo : Nat) : Int), 1, sIx n n hi - sIx n 0 lo) s) : wpAny (model prog w) A (Builtin.Slice.sliceApplied (.ref sl) (pure (n : Int))) Q E s := by
  obtain ⟨os, hos, hcs, hds⟩ := id hs
  unfold Builtin.Slice.sliceApplied Builtin.Slice.sliceFields
  refine wpAny_bind (wpAny_bind (wpAny_field hos hds (x := vl) rfl (wpAny_bind (wpAny_field hos hds (x := vu) rfl (wpAny_bind (wpAny_field hos hds (x := .none) rfl (wpAny_pure ?_)))))))
  refine wpAny_bind (slicePart_none ?_)
  show wpAny _ _ (if ((1 : Int) == 0) = true then _ else _) _ _ s
  rw [if_neg (by decide)]
  refine wpAny_bind (slicePart_ pl (wpAny_bind (slicePart_ pu (wpAny_bind (wpAny_pure ?_)))))
  show wpAny _ _ (match Builtin.Slice.sliceAdjust lo hi 1 (n : Int) with | (lo, hi) => pure (lo, (1 : Int), Builtin.Slice.slicePlaces lo hi 1)) _ _ s
  rw [adjust_gen lo hi n]
  show wpAny _ _ (pure (((sIx n 0 lo : Nat) : Int), (1 : Int), Builtin.Slice.slicePlaces ((sIx n 0 lo : Nat) : Int) ((sIx n n hi : Nat) : Int) 1)) _ _ s
  rw [places_gen]
  exact wpAny_pure h
theorem pick_gen (xs : Array Value) (i k : Nat) : ((List.range k).filterMap fun (m : Nat) => xs[((i : Int) + (m : Int) * 1).toNat]?).toArray = ((xs.toList.drop i).take k).toArray := by
  have e : (fun (m : Nat) => xs[((i : Int) + (m : Int) * 1).toNat]?) = fun m => xs[i + m]? := by
    funext m
    have : ((i : Int) + (m : Int) * 1).toNat = i + m := by omega
    rw [this]
  rw [e]
  have := pick_run xs i k
  rw [List.filterMap_map] at this
  have e2 : ((fun x => xs[x]?) ∘ fun x => i + x) = fun m => xs[i + m]? := rfl
  rw [e2] at this
  rw [this]
theorem getItem_tuple_cut {t sl : Addr} {items : Array Value} {vl vu : Value} {lo hi : Option Int} {Q : Value → Shared → Prop} (ht : IsTup s.heap t items) (hs : s.heap.IsSliceOf sl vl vu .none) (pl : IsPart vl lo) (pu : IsPart vu hi)
    (hw : ¬ (sIx items.size 0 lo = 0 ∧ sIx items.size items.size hi = items.size))
    (h : Q (.ref s.heap.objs.size) { s with heap := s.heap.push { cls := .type "tuple", data := .seq ((items.toList.drop (sIx items.size 0 lo)).take (sIx items.size items.size hi - sIx items.size 0 lo)).toArray } })
    (hsz : items.size ≤ sizeLine) : wpAny (model prog w) A (getItem (.ref t) (.ref sl)) Q E s := by
  have htake : sizeOk (.seq ((items.toList.drop (sIx items.size 0 lo)).take (sIx items.size items.size hi - sIx items.size 0 lo)).toArray) := by
    show ((items.toList.drop (sIx items.size 0 lo)).take (sIx items.size items.size hi - sIx items.size 0 lo)).toArray.size ≤ sizeLine
    rw [List.size_toArray, List.length_take, List.length_drop, Array.length_toList]
    omega
  have hj : sIx items.size items.size hi ≤ items.size := sIx_le _ _ (Nat.le_refl _) hi
  obtain ⟨os, hos, hcs, hds⟩ := id hs
  have hTs : s.TypeIs (.ref sl) "slice" := ⟨os, hos, hcs⟩
  unfold getItem
  try with_reducible refine wpAny_holding ?_
  first | refine wpAny_bind (wpAny_pure ?_) | skip
  refine wpAny_bind (wpAny_sequenceKey ht.typeIs (by decide) ?_)
  refine wpAny_bind (wpAny_callSpecial?_slot (name := Str.ofString "__getitem__") ht.typeIs PyProof.Rows.slot_tuple_getitem
    (wpAny_call_entry PyProof.Rows.slot_tuple_getitem ht.typeIs entry_tuple_getitem ?_ (args_tuple_getitem _ _)))
  show wpAny _ _ (Builtin.Tuple.tupleItemsOf (.ref t) >>= _) _ _ s
  refine wpAny_bind (tupleItemsOf_ ht ?_)
  refine wpAny_bind (wpAny_typeOf hTs ?_)
  rw [if_pos (by decide)]
  refine wpAny_bind (sliceApplied_gen hs pl pu ?_)
  have hno : ¬ ((((sIx items.size 0 lo : Nat) : Int) == 0 && (1 : Int) == 1 && (sIx items.size items.size hi - sIx items.size 0 lo) == items.size) = true) := by
    intro q
    rw [Bool.and_eq_true, Bool.and_eq_true] at q
    have q1 : ((sIx items.size 0 lo : Nat) : Int) = 0 := eq_of_beq q.1.1
    have q2 : sIx items.size items.size hi - sIx items.size 0 lo = items.size := eq_of_beq q.2
    exact hw ⟨by omega, by omega⟩
  show wpAny _ _ (if (((sIx items.size 0 lo : Nat) : Int) == 0 && (1 : Int) == 1 && (sIx items.size items.size hi - sIx items.size 0 lo) == items.size) = true then _ else _) _ _ s
  rw [if_neg hno, pick_gen]
  first
    | exact wpAny_bind (m := Builtin.Tuple.tupleExact _) (wpAny_newObj_type (wpAny_pure ⟨_, rfl, wpAny_pure h⟩) htake)
    | exact wpAny_bind (m := Builtin.Tuple.tupleExact _) (wpAny_newObj_type (wpAny_bind (wpAny_pure (wpAny_pure ⟨_, rfl, wpAny_pure h⟩))) htake)
    | exact wpAny_bind (wpAny_bind (m := Builtin.Tuple.tupleExact _) (wpAny_newObj_type (wpAny_pure (wpAny_pure ⟨_, rfl, wpAny_pure h⟩)) htake))
    | exact wpAny_bind (wpAny_bind (m := Builtin.Tuple.tupleExact _) (wpAny_newObj_type (wpAny_pure ⟨_, rfl, wpAny_pure h⟩) htake))
end
end HT
namespace L2
open PySem PySem.Spec PyProof.Rows
noncomputable abbrev TO := St → Hp → (Option Int → Hp → Prop) → Prop
noncomputable def PO (X : Cx) (e : Option Expr) (t : TO) : Prop :=
  ∀ (pins : List (Addr × Obj)) (s : Shared) (σ : St) (H : Hp) (Q : Option Int → Hp → Prop), Inv X pins σ H s → t σ H Q →
    wpAny (model X.prog X.w) X.A (evalPart e X.env) (fun u s' => ∃ o H', Inv X pins σ H' s' ∧ IsPart u o ∧ Q o H') X.xe s
noncomputable def tNoPart : TO := fun _ H Q => Q none H
noncomputable def tPart (t : TE) : TO := fun σ H Q => t σ H fun x H1 => ∃ i, x = .int i ∧ Q (some i) H1
section
variable {X : Cx} {e : Expr} {te : TE} {lo hi : Option Expr} {tl th : TO} {pos p2 : Pos}
theorem po_none : PO X none tNoPart := by
  intro pins s σ H Q I h
  rw [evalPart_none]
  exact wpAny_pure ⟨none, H, I, .none, h⟩
theorem po_some (h : PE X e te) : PO X (some e) (tPart te) := by
  intro pins s σ H Q I hw
  rw [evalPart_some]
  refine thn (h pins s σ H _ I hw) fun u s1 ⟨x, H1, I1, r1, q1⟩ => ?_
  obtain ⟨i, rfl, q⟩ := q1
  obtain ⟨t, rfl⟩ := r1
  exact ⟨some i, H1, I1, .int i t, q⟩
noncomputable def SlR (X : Cx) (r : V → Option Int → Option Int → Hp → VK → Prop) : Prop :=
  ∀ (pins : List (Addr × Obj)) (s : Shared) (σ : St) (H : Hp) (x : V) (v vl vu : Value) (lo hi : Option Int) (sl : Addr) (Q : VK), Inv X pins σ H s → RelV x v → s.heap.IsSliceOf sl vl vu .none → IsPart vl lo → IsPart vu hi → r x lo hi H Q →
    ∃ T id, typeLookup (.type T) "__getitem__" = pure (some (.builtin id)) ∧ s.TypeIs v T ∧ wpAny (model X.prog X.w) X.A (getItem v (.ref sl)) (EP X pins σ Q) X.xe s
theorem SlR.or {r r' : V → Option Int → Option Int → Hp → VK → Prop} (h : SlR X r) (h' : SlR X r') : SlR X (fun x lo hi H Q => r x lo hi H Q ∨ r' x lo hi H Q) := by
  intro pins s σ H x v vl vu lo hi sl Q I rx hs pl pu q
  rcases q with q | q
  · exact h pins s σ H x v vl vu lo hi sl Q I rx hs pl pu q
  · exact h' pins s σ H x v vl vu lo hi sl Q I rx hs pl pu q
noncomputable def tSl (r : V → Option Int → Option Int → Hp → VK → Prop) (te : TE) (tl th : TO) : TE := fun σ H Q => te σ H fun x H1 => tl σ H1 fun l H2 => th σ H2 fun u H3 => r x l u H3 Q
theorem pe_slice {r : V → Option Int → Option Int → Hp → VK → Prop} (hr : SlR X r) (he : PE X e te) (hl : PO X lo tl) (hu : PO X hi th) : PE X (.Subscript e (.Slice lo hi none p2) pos) (tSl r te tl th) := by
  intro pins s σ H Q I h
  refine Subscript_ (thn (he pins s σ H _ I h) fun v s1 ⟨x, H1, I1, r1, q1⟩ => ?_)
  refine wpAny_Slice (thn (hl pins s1 σ H1 _ I1 q1) fun vl s2 ⟨l, H2, I2, pl, q2⟩ => thn (hu pins s2 σ H2 _ I2 q2) fun vu s3 ⟨u, H3, I3, pu, q3⟩ => ?_)
  rw [evalPart_none]
  refine wpAny_pure ?_
  have I4 : Inv X pins σ H3 { s3 with heap := s3.heap.push { cls := .type "slice", data := .fields #[vl, vu, .none] } } := I3.kept (t' := s3.toks) fun b ob q => Heap.get?_push_of_some _ q
  obtain ⟨T, id, hT, ht, hg⟩ := hr pins { s3 with heap := s3.heap.push { cls := .type "slice", data := .fields #[vl, vu, .none] } } σ H3 x v vl vu l u s3.heap.objs.size Q I4 r1 (Heap.IsSliceOf.new ..) pl pu q3
  show wpAny (model X.prog X.w) X.A (subscriptTail e (.Slice lo hi none p2) v (.ref s3.heap.objs.size)) (EP X pins σ Q) X.xe { s3 with heap := s3.heap.push { cls := .type "slice", data := .fields #[vl, vu, .none] } }
  exact tail_any (ops := [.ref s3.heap.objs.size, v]) ht hT hg (by with_unfolding_all rfl)
noncomputable def cutV (xs : List V) (lo hi : Option Int) : List V := (xs.drop (HT.sIx xs.length 0 lo)).take (HT.sIx xs.length xs.length hi - HT.sIx xs.length 0 lo)
theorem cutV_length (xs : List V) (lo hi : Option Int) : (cutV xs lo hi).length ≤ xs.length := by
  unfold cutV
  rw [List.length_take, List.length_drop]
  omega
noncomputable def rSlT (K : PySem.W.Frag) : V → Option Int → Option Int → Hp → VK → Prop := fun x lo hi H Q => ∃ a xs, x = .ref a ∧ SqT K H a xs ∧
  ¬ (HT.sIx xs.length 0 lo = 0 ∧ HT.sIx xs.length xs.length hi = xs.length) ∧ ∀ p, H p = none → Q (.ref p) (upd H p (.tup (cutV xs lo hi)))
theorem sl_tup : SlR X (rSlT X.K) := by
  intro pins s σ H x v vl vu lo hi sl Q I rx hs pl pu h
  obtain ⟨a, xs, rfl, hx, hw, q⟩ := h
  cases rx
  obtain ⟨its, r, ht, hz⟩ := I.tuple hx
  have hlen : its.toArray.size = xs.length := by rw [List.size_toArray]; exact r.length.symm
  refine ⟨"tuple", _, PyProof.Rows.slot_tuple_getitem.lookup, ht.typeIs, ?_⟩
  refine HT.getItem_tuple_cut ht hs pl pu (by rw [hlen]; exact hw) ?_ (by rw [hlen]; exact hz)
  rw [hlen]
  refine ⟨.ref s.heap.objs.size, _, I.laid (t' := s.toks) (o := .tup (cutV xs lo hi)) (fun b ob q => Heap.get?_push_of_some _ q) (Nat.le_refl _) ?_, rfl, q _ (I.hok.fresh (Nat.le_refl _))⟩
  exact ⟨Nat.le_trans (cutV_length xs lo hi) hz, _, (r.drop (HT.sIx xs.length 0 lo)).take (HT.sIx xs.length xs.length hi - HT.sIx xs.length 0 lo), IsTupN.new _ _⟩
noncomputable def rCatT (K : PySem.W.Frag) : R2 := fun x y H Q => ∃ a b xs ys, x = .ref a ∧ y = .ref b ∧ SqT K H a xs ∧ SqT K H b ys ∧ xs ≠ [] ∧ xs.length + ys.length ≤ sizeLine ∧
  (ys = [] → Q (.ref a) H) ∧ (ys ≠ [] → ∀ p, H p = none → Q (.ref p) (upd H p (.tup (xs ++ ys))))
theorem Vals.nil_iff {xs : List V} {us : List Value} (r : Vals xs us) : us = [] ↔ xs = [] := by
  cases r with
  | nil => simp
  | cons _ _ => simp
theorem op_catT : OpR X (binaryOp .Add) (rCatT X.K) := by
  intro pins s σ H x y v u Q I rx ry h
  obtain ⟨a, b, xs, ys, rfl, rfl, ha, hb, hx, hz, q1, q2⟩ := h
  cases rx
  cases ry
  obtain ⟨its, r1, p1, _⟩ := I.tuple ha
  obtain ⟨its2, r2, p2, _⟩ := I.tuple hb
  refine HT.cat_tup p1 p2 (fun z => hx (r1.nil_iff.mp z)) (fun z => ⟨.ref a, H, I, rfl, q1 (r2.nil_iff.mp z)⟩) (fun z => ?_) (by rw [← r1.length, ← r2.length]; exact hz)
  refine ⟨.ref s.heap.objs.size, _, I.laid (t' := s.toks) (o := .tup (xs ++ ys)) (fun b ob q => Heap.get?_push_of_some _ q) (Nat.le_refl _) ?_, rfl, q2 (fun w => z (r2.nil_iff.mpr w)) _ (I.hok.fresh (Nat.le_refl _))⟩
  exact ⟨by rw [List.length_append]; exact hz, _, r1.append r2, IsTupN.new _ _⟩
end
end L2
namespace L2
open PySem PySem.Spec PyProof.Rows
noncomputable def ixN (n : Nat) (i : Int) : Option Nat := if 0 ≤ i then (if i < n then some i.toNat else none) else if -(n : Int) ≤ i then some (i + n).toNat else none
noncomputable def atI {α : Type} (xs : List α) (i : Int) : Option α := (ixN xs.length i).bind fun j => xs[j]?
theorem ixN_seq {n : Nat} {i : Int} {j : Nat} (h : ixN n i = some j) : seqIndex? i n = some j ∧ j < n ∧ -(n : Int) ≤ i ∧ i < n := by
  unfold ixN at h
  by_cases h0 : 0 ≤ i
  · rw [if_pos h0] at h
    by_cases h1 : i < n
    · rw [if_pos h1] at h
      have e : i.toNat = j := Option.some.inj h
      exact ⟨by rw [seqIndex_of h0 h1, e], by omega, by omega, h1⟩
    · rw [if_neg h1] at h; cases h
  · rw [if_neg h0] at h
    by_cases h1 : -(n : Int) ≤ i
    · rw [if_pos h1] at h
      have e : (i + n).toNat = j := Option.some.inj h
      exact ⟨by rw [seqIndex_neg (by omega) h1, e], by omega, h1, by omega⟩
    · rw [if_neg h1] at h; cases h
theorem atI_get {α : Type} {xs : List α} {i : Int} {v : α} (h : atI xs i = some v) : ∃ j, seqIndex? i xs.length = some j ∧ xs[j]? = some v ∧ j < xs.length ∧ -(xs.length : Int) ≤ i ∧ i < xs.length := by
  unfold atI at h
  cases e : ixN xs.length i with
  | none => rw [e] at h; cases h
  | some j =>
    rw [e] at h
    obtain ⟨h1, h2, h3, h4⟩ := ixN_seq e
    exact ⟨j, h1, h, h2, h3, h4⟩
theorem atI_nat {α : Type} {xs : List α} {j : Nat} {v : α} (h : xs[j]? = some v) : atI xs (j : Int) = some v := by
  have hj : j < xs.length := (List.getElem?_eq_some_iff.mp h).1
  have e : ixN xs.length (j : Int) = some j := by
    unfold ixN
    rw [if_pos (by omega), if_pos (by omega)]; simp
  unfold atI; rw [e]; exact h
noncomputable def PlainIx (b : Expr) : Prop := ∀ o i, subscripted b false o i = operate [o, i] (getItem o i)
noncomputable def IxR (X : Cx) (r : R2) : Prop :=
  ∀ (value slice : Expr) (pins : List (Addr × Obj)) (s : Shared) (σ : St) (H : Hp) (x y : V) (v u : Value) (Q : VK), Inv X pins σ H s → RelV x v → RelV y u → r x y H Q →
    subscripted slice false v u = operate [v, u] (getItem v u) → wpAny (model X.prog X.w) X.A (subscriptTail value slice v u) (EP X pins σ Q) X.xe s
noncomputable def MtR (X : Cx) (id : String) (r : V → List V → Hp → VK → Prop) : Prop :=
  ∀ (pins : List (Addr × Obj)) (s : Shared) (σ : St) (H : Hp) (x : V) (xs : List V) (v : Value) (us : List Value) (Q : VK), Inv X pins σ H s → RelV x v → Vals xs us → r x xs H Q →
    wpAny (model X.prog X.w) X.A (call (.builtin id) (v :: us)) (EP X pins σ Q) X.xe s
section
variable {X : Cx} {a b : Expr} {ta tb : TE} {pos : Pos}
theorem IxR.or {r r' : R2} (h : IxR X r) (h' : IxR X r') : IxR X (fun x y H Q => r x y H Q ∨ r' x y H Q) := by
  intro value slice pins s σ H x y v u Q I rx ry q hs
  rcases q with q | q
  · exact h value slice pins s σ H x y v u Q I rx ry q hs
  · exact h' value slice pins s σ H x y v u Q I rx ry q hs
theorem pe_ix {r : R2} (hr : IxR X r) (ha : PE X a ta) (hb : PE X b tb) (hs : PlainIx b) : PE X (.Subscript a b pos) (tOp r ta tb) := by
  intro pins s σ H Q I h
  exact Subscript_ (binT ha hb I h fun v u s2 x y H2 I2 rx ry q => hr a b pins s2 σ H2 x y v u Q I2 rx ry q (hs _ _))
noncomputable def rIxL (K : PySem.W.Frag) : R2 := fun x y H Q => ∃ p xs i v, x = .ref p ∧ y = .int i ∧ SqL K H p xs ∧ atI xs i = some v ∧ Q v H
noncomputable def rIxT (K : PySem.W.Frag) : R2 := fun x y H Q => ∃ p xs i v, x = .ref p ∧ y = .int i ∧ SqT K H p xs ∧ atI xs i = some v ∧ Q v H
noncomputable def rIxS : R2 := fun x y H Q => ∃ z i c, x = .str z ∧ y = .int i ∧ z.length ≤ sizeLine ∧ atI z.cps.toList i = some c ∧ Q (.str ⟨#[c]⟩) H
theorem ix_list : IxR X (rIxL X.K) := by
  intro value slice pins s σ H x y v u Q I rx ry h hs
  obtain ⟨p, xs, i, z, rfl, rfl, hq, he, q⟩ := h
  cases rx
  obtain ⟨t, rfl⟩ := ry
  obtain ⟨its, r, pl, hz⟩ := I.list hq
  obtain ⟨j, h1, h2, h3, h4, h5⟩ := atI_get he
  obtain ⟨w, ew, rw'⟩ := r.get h2
  have hl := r.length
  have hn := line63
  have fin : EP X pins σ Q w s := ⟨z, H, I, rw', q⟩
  by_cases h0 : 0 ≤ i
  · have hj : i.toNat = j := by
      rw [seqIndex_of h0 h5] at h1
      exact Option.some.inj h1
    exact item_listR pl.isList h0 (by omega) (by rw [hj]; simpa using ew) fin hs
  · have hj : (i + (its.toArray.size : Int)).toNat = j := by
      rw [seqIndex_neg (by omega) h4] at h1
      rw [List.size_toArray, ← hl]
      exact Option.some.inj h1
    exact subscriptTail_builtinR (x := w) pl.isList.typeIs slot_list_getitem.lookup
      (wpAny_getItem_list_neg (Q := fun r s' => r = w ∧ EP X pins σ Q r s') pl.isList (by omega) (by rw [List.size_toArray] <;> omega) (by omega) (by rw [hj]; simpa using ew) ⟨rfl, fin⟩) hs
theorem ix_tup : IxR X (rIxT X.K) := by
  intro value slice pins s σ H x y v u Q I rx ry h hs
  obtain ⟨p, xs, i, z, rfl, rfl, hq, he, q⟩ := h
  cases rx
  obtain ⟨t, rfl⟩ := ry
  obtain ⟨its, r, pl, hz⟩ := I.tuple hq
  obtain ⟨j, h1, h2, h3, h4, h5⟩ := atI_get he
  obtain ⟨w, ew, rw'⟩ := r.get h2
  have hl := r.length
  have hn := line63
  have fin : EP X pins σ Q w s := ⟨z, H, I, rw', q⟩
  exact subscriptTail_builtinR (x := w) pl.typeIs slot_tuple_getitem.lookup
    (getItem_tuple (j := j) (Q := fun r s' => r = w ∧ EP X pins σ Q r s') pl (by omega) (by omega) (by rw [List.size_toArray, ← hl]; exact h1) (by simpa using ew) ⟨rfl, fin⟩) hs
theorem ix_str : IxR X rIxS := by
  intro value slice pins s σ H x y v u Q I rx ry h hs
  obtain ⟨z, i, c, rfl, rfl, hz, he, q⟩ := h
  obtain ⟨t, rfl⟩ := rx
  obtain ⟨t', rfl⟩ := ry
  obtain ⟨j, h1, h2, h3, h4, h5⟩ := atI_get he
  have hl : z.cps.toList.length = z.length := by simp [Str.length]
  rw [hl] at h1 h4 h5
  have hn := line63
  exact tail_any (typeIs_str s z t) slot_str_getitem.lookup (getItem_str (c := c) (by
    have e1 : decide (i < -(2 ^ 63 : Int)) = false := decide_eq_false (by omega)
    have e2 : decide (i ≥ 2 ^ 63) = false := decide_eq_false (by omega)
    rw [e1, e2, Bool.or_false]) (by rw [h1]; simpa using h2) ⟨.str ⟨#[c]⟩, H, I.tok _, ⟨_, rfl⟩, q⟩) hs
noncomputable def rIx (K : PySem.W.Frag) : R2 := fun x y H Q => rIxL K x y H Q ∨ rIxT K x y H Q ∨ rIxS x y H Q
theorem ix_seq : IxR X (rIx X.K) := ix_list.or (ix_tup.or ix_str)
theorem slice_bounds (lo hi : Option Int) (n : Nat) : (sliceBounds lo hi none n).1 = ((HT.sIx n 0 lo : Nat) : Int) ∧ (sliceBounds lo hi none n).2.1 = ((HT.sIx n n hi : Nat) : Int) ∧ (sliceBounds lo hi none n).2.2 = 1 := by
  refine ⟨?_, ?_, rfl⟩
  · cases lo with
    | none => simp [sliceBounds, HT.sIx]
    | some i =>
      simp only [sliceBounds, HT.sIx, Option.getD_none, show (1 : Int) > 0 by decide, if_true]
      by_cases h : i < 0
      · simp only [h, if_true] <;> omega
      · simp only [h, if_false] <;> omega
  · cases hi with
    | none => simp [sliceBounds, HT.sIx]
    | some i =>
      simp only [sliceBounds, HT.sIx, Option.getD_none, show (1 : Int) > 0 by decide, if_true]
      by_cases h : i < 0
      · simp only [h, if_true] <;> omega
      · simp only [h, if_false] <;> omega
theorem slicePick_cut (its : List Value) (lo hi : Option Int) : slicePick its.toArray lo hi none = ((its.drop (HT.sIx its.length 0 lo)).take (HT.sIx its.length its.length hi - HT.sIx its.length 0 lo)).toArray := by
  obtain ⟨h1, h2, h3⟩ := slice_bounds lo hi its.toArray.size
  unfold slicePick
  rw [h1, h2, h3]
  simp only [sliceRange_one, pick_run, List.size_toArray] <;> rfl
noncomputable def rSlL (K : PySem.W.Frag) : V → Option Int → Option Int → Hp → VK → Prop := fun x lo hi H Q => ∃ a xs, x = .ref a ∧ SqL K H a xs ∧ ∀ p, H p = none → Q (.ref p) (upd H p (.lst (cutV xs lo hi)))
theorem sl_list : SlR X (rSlL X.K) := by
  intro pins s σ H x v vl vu lo hi sl Q I rx hs pl pu h
  obtain ⟨a, xs, rfl, hx, q⟩ := h
  cases rx
  obtain ⟨its, r, ht, hz⟩ := I.list hx
  have hlen := r.length
  refine ⟨"list", _, slot_list_getitem.lookup, ht.isList.typeIs, ?_⟩
  refine wpAny_getItem_list_slice ht.isList hs pl pu .none (by simp) ?_ (by rw [List.size_toArray] <;> omega)
  rw [slicePick_cut, ← hlen]
  refine ⟨.ref s.heap.objs.size, _, I.laid (t' := s.toks) (o := .lst (cutV xs lo hi)) (fun b ob q => Heap.get?_push_of_some _ q) (Nat.le_refl _) ?_, rfl, q _ (I.hok.fresh (Nat.le_refl _))⟩
  exact ⟨Nat.le_trans (cutV_length xs lo hi) hz, _, 0, (r.drop (HT.sIx xs.length 0 lo)).take (HT.sIx xs.length xs.length hi - HT.sIx xs.length 0 lo), Heap.get?_push_size _ rfl⟩
noncomputable def flatV : V → Bool
  | .non => true
  | .bl _ => true
  | .int _ => true
  | .str _ => true
  | _ => false
noncomputable def eqV : V → V → Bool
  | .non, .non => true
  | .bl a, .bl b => a == b
  | .bl a, .int b => (if a then 1 else 0) == b
  | .int a, .bl b => a == (if b then 1 else 0)
  | .int a, .int b => a == b
  | .str a, .str b => a == b
  | _, _ => false
theorem eqAt_V {A : Around} {s : Shared} {y x : V} {u v : Value} (ry : RelV y u) (rx : RelV x v) (fy : flatV y = true) (fx : flatV x = true) : SeqAt.EqAt A s u v (eqV y x) := by
  cases y with
  | non =>
    cases ry
    cases x with
    | non => cases rx; exact SeqAt.EqAt.same _
    | bl b => cases rx; exact SeqAt.EqAt.none_bool b
    | int b => obtain ⟨t, rfl⟩ := rx; exact SeqAt.EqAt.none_int b t
    | str b => obtain ⟨t, rfl⟩ := rx; exact SeqAt.EqAt.none_str b t
    | _ => exact absurd (show false = true from fx) Bool.false_ne_true
  | bl a =>
    cases ry
    cases x with
    | non => cases rx; exact SeqAt.EqAt.bool_none a
    | bl b => cases rx; exact SeqAt.EqAt.bool_bool a b
    | int b => obtain ⟨t, rfl⟩ := rx; exact SeqAt.EqAt.bool_int a b t
    | str b => obtain ⟨t, rfl⟩ := rx; exact SeqAt.EqAt.bool_str a b t
    | _ => exact absurd (show false = true from fx) Bool.false_ne_true
  | int a =>
    obtain ⟨t', rfl⟩ := ry
    cases x with
    | non => cases rx; exact SeqAt.EqAt.int_none a t'
    | bl b => cases rx; exact SeqAt.EqAt.int_bool a t' b
    | int b => obtain ⟨t, rfl⟩ := rx; exact SeqAt.EqAt.int_int a t' b t
    | str b => obtain ⟨t, rfl⟩ := rx; exact SeqAt.EqAt.int_str a t' b t
    | _ => exact absurd (show false = true from fx) Bool.false_ne_true
  | str a =>
    obtain ⟨t', rfl⟩ := ry
    cases x with
    | non => cases rx; exact SeqAt.EqAt.str_none a t'
    | bl b => cases rx; exact SeqAt.EqAt.str_bool a t' b
    | int b => obtain ⟨t, rfl⟩ := rx; exact SeqAt.EqAt.str_int a t' b t
    | str b => obtain ⟨t, rfl⟩ := rx; exact SeqAt.EqAt.str_str a t' b t
    | _ => exact absurd (show false = true from fx) Bool.false_ne_true
  | _ => exact absurd (show false = true from fy) Bool.false_ne_true
noncomputable def eqU (x : V) (u : Value) : Bool := match u with
  | .none => eqV .non x
  | .bool b => eqV (.bl b) x
  | .int i _ => eqV (.int i) x
  | .str z _ => eqV (.str z) x
  | _ => false
theorem eqU_of {x y : V} {u : Value} (r : RelV y u) (f : flatV y = true) : eqU x u = eqV y x := by
  cases y with
  | non => cases r; rfl
  | bl b => cases r; rfl
  | int i => obtain ⟨t, rfl⟩ := r; rfl
  | str z => obtain ⟨t, rfl⟩ := r; rfl
  | _ => exact absurd (show false = true from f) Bool.false_ne_true
theorem any_eqU {x : V} : ∀ {xs : List V} {us : List Value}, Vals xs us → xs.all flatV = true → us.any (eqU x) = xs.any fun y => eqV y x
  | _, _, .nil, _ => rfl
  | y :: xs, u :: us, .cons r t, f => by
    rw [List.all_cons, Bool.and_eq_true] at f
    rw [List.any_cons, List.any_cons, eqU_of r f.1, any_eqU t f.2]
theorem mem_eqAt {A : Around} {s : Shared} {x : V} {v : Value} (rx : RelV x v) (fx : flatV x = true) : ∀ {xs : List V} {us : List Value}, Vals xs us → xs.all flatV = true → ∀ u ∈ us, SeqAt.EqAt A s u v (eqU x u)
  | _, _, .nil, _ => fun u hu => by cases hu
  | y :: xs, u :: us, .cons r t, f => fun u' hu => by
    rw [List.all_cons, Bool.and_eq_true] at f
    rcases List.mem_cons.mp hu with rfl | hu
    · rw [eqU_of r f.1]; exact eqAt_V r rx f.1 fx
    · exact mem_eqAt rx fx t f.2 u' hu
noncomputable def inV (x : V) (xs : List V) : Bool := xs.any fun y => eqV y x
noncomputable def rIn (K : PySem.W.Frag) (neg : Bool) : R2 := fun x y H Q => ∃ p xs, y = .ref p ∧ (SqL K H p xs ∨ SqT K H p xs) ∧ flatV x = true ∧ xs.all flatV = true ∧ Q (.bl (if neg then !inV x xs else inV x xs)) H
theorem op_in_seq : OpR X (compareOp .In) (rIn X.K false) := by
  intro pins s σ H x y v u Q I rx ry h
  obtain ⟨p, xs, rfl, hq, fx, fs, q⟩ := h
  cases ry
  rcases hq with hq | hq
  · obtain ⟨its, r, pl, hz⟩ := I.list hq
    refine SeqAt.in_listAt (eqU x) pl.isList (fun w hw => mem_eqAt rx fx r fs w (by simpa using hw)) ⟨.bl _, H, I, rfl, ?_⟩
    rw [show its.toArray.any (eqU x) = its.any (eqU x) by simp, any_eqU r fs]
    exact q
  · obtain ⟨its, r, pl, hz⟩ := I.tuple hq
    refine SeqAt.in_tupleAt (eqU x) pl (fun w hw => mem_eqAt rx fx r fs w (by simpa using hw)) ⟨.bl _, H, I, rfl, ?_⟩
    rw [show its.toArray.any (eqU x) = its.any (eqU x) by simp, any_eqU r fs]
    exact q
theorem op_notIn_seq : OpR X (compareOp .NotIn) (rIn X.K true) := by
  intro pins s σ H x y v u Q I rx ry h
  obtain ⟨p, xs, rfl, hq, fx, fs, q⟩ := h
  cases ry
  rcases hq with hq | hq
  · obtain ⟨its, r, pl, hz⟩ := I.list hq
    refine SeqAt.notIn_listAt (eqU x) pl.isList (fun w hw => mem_eqAt rx fx r fs w (by simpa using hw)) ⟨.bl _, H, I, rfl, ?_⟩
    rw [show its.toArray.any (eqU x) = its.any (eqU x) by simp, any_eqU r fs]
    exact q
  · obtain ⟨its, r, pl, hz⟩ := I.tuple hq
    refine SeqAt.notIn_tupleAt (eqU x) pl (fun w hw => mem_eqAt rx fx r fs w (by simpa using hw)) ⟨.bl _, H, I, rfl, ?_⟩
    rw [show its.toArray.any (eqU x) = its.any (eqU x) by simp, any_eqU r fs]
    exact q
theorem op_notIn_str : OpR X (compareOp .NotIn) (fun x y H Q => ∃ i j, x = .str i ∧ y = .str j ∧ Q (.bl (!(!(Builtin.Str.occurrences j i 0 j.length 1).isEmpty))) H) := by
  intro pins s σ H x y v u Q I rx ry h
  obtain ⟨i, j, rfl, rfl, q⟩ := h
  obtain ⟨t, rfl⟩ := rx
  obtain ⟨t', rfl⟩ := ry
  exact notIn_str ⟨.bl _, H, I, rfl, q⟩
theorem CallR.or {f : Value} {r r' : List V → Hp → VK → Prop} (h : CallR X f r) (h' : CallR X f r') : CallR X f (fun xs H Q => r xs H Q ∨ r' xs H Q) := by
  intro pins s σ H xs us Q I rs q
  rcases q with q | q
  · exact h pins s σ H xs us Q I rs q
  · exact h' pins s σ H xs us Q I rs q
theorem call_list_of : CallR X (.type "list") (fun xs H Q => ∃ p ys, xs = [.ref p] ∧ (SqL X.K H p ys ∨ SqT X.K H p ys) ∧ ∀ l, H l = none → Q (.ref l) (upd H l (.lst ys))) := by
  intro pins s σ H xs us Q I r h
  obtain ⟨p, ys, rfl, hq, q⟩ := h
  obtain ⟨u, rfl, rx⟩ := vals1 r
  cases rx
  have fin : ∀ (its : List Value), Vals ys its → ys.length ≤ sizeLine → ∀ (h' : Heap) (c' : Nat), (∀ b o', s.heap.get? b = some o' → h'.get? b = some o') →
      h'.get? s.heap.objs.size = some { cls := .type "list", dict := none, data := .seq its.toArray c', slots := #[] } → EP X pins σ Q (.ref s.heap.objs.size) { s with heap := h' } := fun its r' hz h' c' kp e =>
    ⟨.ref s.heap.objs.size, _, I.laid (t' := s.toks) kp (Nat.le_refl _) (show ObjOk X.prog X.w _ h' _ (.lst ys) from ⟨hz, its, c', r', e⟩), rfl, q _ (I.hok.fresh (Nat.le_refl _))⟩
  rcases hq with hq | hq
  · obtain ⟨its, r', pl, hz⟩ := I.list hq
    have hlen := r'.length
    obtain ⟨o, ho, hc, n, hd⟩ := pl.isList
    exact call_list_seq p (.inl rfl) ho hc hd (fun h' c' kp e => fin its r' hz h' c' kp e) (by simp only [List.size_toArray] <;> omega)
  · obtain ⟨its, r', pl, hz⟩ := I.tuple hq
    have hlen := r'.length
    obtain ⟨o, ho, hc, n, hd⟩ := pl
    exact call_list_seq p (.inr rfl) ho hc hd (fun h' c' kp e => fin its r' hz h' c' kp e) (by simp only [List.size_toArray] <;> omega)
theorem call_tuple_of : CallR X (.type "tuple") (fun xs H Q => ∃ p ys, xs = [.ref p] ∧ ((SqL X.K H p ys ∧ ∀ l, H l = none → Q (.ref l) (upd H l (.tup ys))) ∨ (SqT X.K H p ys ∧ Q (.ref p) H))) := by
  intro pins s σ H xs us Q I r h
  obtain ⟨p, ys, rfl, h⟩ := h
  obtain ⟨u, rfl, rx⟩ := vals1 r
  cases rx
  rcases h with ⟨hq, q⟩ | ⟨hq, q⟩
  · obtain ⟨its, r', pl, hz⟩ := I.list hq
    have hlen := r'.length
    refine call_tuple_list pl.isList (fun h' kp => ?_) (by simp only [List.size_toArray] <;> omega)
    have I1 : Inv X pins σ H { s with heap := h' } := I.kept (t' := s.toks) kp
    have I2 : Inv X pins σ (upd H h'.objs.size (.tup ys)) { s with heap := h'.push { cls := .type "tuple", data := .seq its.toArray } } :=
      I1.laid (t' := s.toks) (fun b o e => Heap.get?_push_of_some _ e) (Nat.le_refl _) (show ObjOk X.prog X.w _ _ _ (.tup ys) from ⟨hz, its, r', IsTupN.new _ _⟩)
    exact ⟨.ref h'.objs.size, _, I2, rfl, q _ (I1.hok.fresh (Nat.le_refl _))⟩
  · obtain ⟨its, r', pl, hz⟩ := I.tuple hq
    exact call_tuple_same pl ⟨.ref p, H, I, rfl, q⟩
noncomputable def tyV (K : PySem.W.Frag) (T : String) (x : V) (H : Hp) : Prop := match x with
  | .str _ => T = "str"
  | .int _ => T = "int"
  | .ref p => (T = "list" ∧ ∃ xs, SqL K H p xs) ∨ (T = "tuple" ∧ ∃ o, K.lookup p = some o ∧ o.cls = .type "tuple" ∧ o.dict = none) ∨
      (T = "dict" ∧ ((∃ kvs, H p = some (.dK kvs)) ∨ ∃ kvs, H p = some (.dT kvs))) ∨ (T = "set" ∧ ∃ S n, H p = some (.set S n))
  | _ => False
theorem tyV_is {pins : List (Addr × Obj)} {σ : St} {H : Hp} {s : Shared} {T : String} {x : V} {v : Value} (I : Inv X pins σ H s) (r : RelV x v) (ty : tyV X.K T x H) :
    s.TypeIs v T ∧ ∀ a, v = .ref a → ∃ ob, s.heap.get? a = some ob ∧ ob.dict = none := by
  cases x with
  | str z =>
    obtain ⟨t, rfl⟩ := r
    cases (show T = "str" from ty)
    exact ⟨typeIs_str s z t, fun _ e => nomatch e⟩
  | int i =>
    obtain ⟨t, rfl⟩ := r
    cases (show T = "int" from ty)
    exact ⟨typeIs_int s i t, fun _ e => nomatch e⟩
  | ref p =>
    cases r
    rcases ty with ⟨rfl, xs, hq⟩ | ⟨rfl, o, hk, hc, hd⟩ | ⟨rfl, hk⟩ | ⟨rfl, S, n, hk⟩
    · obtain ⟨its, _, pl, _⟩ := I.list hq
      refine ⟨pl.isList.typeIs, fun a e => ?_⟩
      cases e
      obtain ⟨o, n, e, c, hd, _⟩ := pl
      exact ⟨o, e, hd⟩
    · refine ⟨⟨o, I.kIn p o hk, hc⟩, fun a e => ?_⟩
      cases e
      exact ⟨o, I.kIn _ o hk, hd⟩
    · have z : ∃ o, s.heap.get? p = some o ∧ o.ExactDict := by
        rcases hk with ⟨kvs, hk⟩ | ⟨kvs, hk⟩
        · obtain ⟨_, _, _, _, o, _, _, e, ex, _⟩ := I.hok p _ hk
          exact ⟨o, e, ex⟩
        · obtain ⟨_, _, _, _, o, _, _, e, ex, _⟩ := I.hok p _ hk
          exact ⟨o, e, ex⟩
      obtain ⟨o, e, ex⟩ := z
      refine ⟨⟨o, e, ex.1⟩, fun a e2 => ?_⟩
      cases e2
      exact ⟨o, e, ex.2.1⟩
    · obtain ⟨o, _, _, _, e, ex, _⟩ := I.hok p _ hk
      refine ⟨⟨o, e, ex.1⟩, fun a e2 => ?_⟩
      cases e2
      exact ⟨o, e, ex.2.1⟩
  | _ => exact False.elim ty
noncomputable def tBM (K : PySem.W.Frag) (T : String) (r : V → List V → Hp → VK → Prop) (to : TE) (t : TA) : TE := fun σ H Q => to σ H fun x H1 => tyV K T x H1 ∧ t σ H1 fun xs H2 => r x xs H2 Q
variable {o e : Expr} {es : List Expr} {to : TE} {t : TA} {name : Str} {apos cpos : Pos} {T id : String} {r : V → List V → Hp → VK → Prop}
theorem pe_bm (pa : PlainAttrs T) (slot : Slot T name id) (hty : typeOf (.builtin id) = pure (.type "method_descriptor")) (hm : MtR X id r) (ho : PE X o to) (ha : PA X (e :: es) t)
    (hbase : attributeBase o name X.env (eval o X.env) = eval o X.env := by with_unfolding_all rfl)
    (hfew : ((backTo cpos (starEach (e :: es) X.env)).all (fun x => !x.1) && (backToKw cpos (keywordEach [] X.env)).all (fun x => x.1.isSome)
      && decide ((e :: es).length + ([] : List Keyword).length + (if ([] : List Keyword).isEmpty then 0 else 1) < 30)) = true := by with_unfolding_all rfl)
    (hline : (apos.endLine == cpos.line) = true := by with_unfolding_all rfl) (hs : starEach (e :: es) X.env = (false, eval e X.env) :: starEach es X.env := by with_unfolding_all rfl) (hplain : (backTo cpos (starEach es X.env)).any (·.1) = false := by with_unfolding_all rfl) :
    PE X (.Call (.Attribute o name apos) (e :: es) [] cpos) (tBM X.K T r to t) := by
  intro pins s σ H Q I h
  refine wpAny_Call_method_late hbase hfew hline rfl (thn (ho pins s σ H _ I h) fun v s1 ⟨x, H1, I1, r1, ty, q1⟩ => ?_)
  obtain ⟨h1, h2⟩ := tyV_is I1 r1 ty
  refine ⟨T, id, pa, slot, hty, h1, h2, ?_⟩
  have hA := ha cpos pins s1 σ H1 _ I1 q1
  rw [hs] at hA ⊢
  refine Calls.callWith_builtin (by show (false || (backTo cpos (starEach es X.env)).any (·.1)) = false; rw [hplain] <;> rfl) (Calls.evalArgs_plain ?_)
  exact thn hA fun us s2 ⟨vs, H2, I2, r2, q2⟩ => hm pins s2 σ H2 x vs v us Q I2 r1 r2 q2
/- xs.append(e), list.index on a module's tuple .. are MtR facts of 06m -/
end
end L2
namespace L2
open PySem PySem.Spec PyProof.Rows
noncomputable def MtM (X : Cx) (id : String) (r : V → List V → Hp → VK → Prop) : Prop :=
  ∀ (pins : List (Addr × Obj)) (s : Shared) (σ : St) (H : Hp) (x : V) (xs : List V) (v : Value) (us : List Value) (Q : VK), Inv X pins σ H s → RelV x v → Vals xs us → r x xs H Q →
    wpAny (model X.prog X.w) X.A (call (.builtin id) (v :: us)) (EP X pins σ Q) X.xe s
theorem Vals.one {x : V} {us : List Value} (h : Vals [x] us) : ∃ u, us = [u] ∧ RelV x u := by
  cases h with
  | cons r q => cases q; exact ⟨_, rfl, r⟩
theorem Vals.two {x y : V} {us : List Value} (h : Vals [x, y] us) : ∃ u v, us = [u, v] ∧ RelV x u ∧ RelV y v := by
  cases h with
  | cons r q => obtain ⟨u, rfl, q'⟩ := Vals.one q; exact ⟨_, _, rfl, r, q'⟩
theorem Vals.eraseIdx : ∀ {xs : List V} {us : List Value} (i : Nat), Vals xs us → Vals (xs.eraseIdx i) (us.eraseIdx i)
  | _, _, _, .nil => .nil
  | _, _, 0, .cons _ t => t
  | _, _, i + 1, .cons r t => .cons r (Vals.eraseIdx i t)
theorem Vals.reverse {xs : List V} {us : List Value} (h : Vals xs us) : Vals xs.reverse us.reverse := by
  induction h with
  | nil => exact .nil
  | cons r t ih => rw [List.reverse_cons, List.reverse_cons]; exact Vals.append ih (.cons r .nil)
theorem Vals.rep {xs : List V} {us : List Value} (h : Vals xs us) : ∀ k : Nat, Vals (List.replicate k xs).flatten (List.replicate k us).flatten
  | 0 => .nil
  | k + 1 => by
    rw [List.replicate_succ, List.replicate_succ, List.flatten_cons, List.flatten_cons]
    exact Vals.append h (Vals.rep h k)
theorem len_erase {α : Type} : ∀ (l : List α) (i : Nat), (l.eraseIdx i).length ≤ l.length
  | [], _ => Nat.le_refl _
  | _ :: _, 0 => Nat.le_succ _
  | _ :: r, i + 1 => Nat.succ_le_succ (len_erase r i)
theorem foldl_rep (its : List Value) : ∀ (k : Nat) (acc : List Value),
    List.foldl (fun x1 x2 => x1 ++ x2) acc.toArray (List.replicate k its.toArray) = (acc ++ (List.replicate k its).flatten).toArray
  | 0, acc => by simp
  | k + 1, acc => by
    have e : acc.toArray ++ its.toArray = (acc ++ its).toArray := by simp
    have e2 : (acc ++ its) ++ (List.replicate k its).flatten = acc ++ (List.replicate (k + 1) its).flatten := by
      rw [List.replicate_succ, List.flatten_cons, List.append_assoc]
    rw [← e2, ← foldl_rep its k (acc ++ its), ← e, List.replicate_succ, List.foldl_cons]
section
variable {X : Cx} {pins : List (Addr × Obj)} {σ : St} {H : Hp} {s : Shared} {l b : Addr} {xs ys zs : List V}
theorem Inv.lset {its its' : List Value} {n : Nat} {f : Array Value → Array Value} {t' : Nat} (I : Inv X pins σ H s) (hH : H l = some (.lst xs))
    (e : s.heap.get? l = some { cls := .type "list", data := .seq its.toArray n }) (hf : f its.toArray = its'.toArray) (hv : Vals ys its') (hz : ys.length ≤ sizeLine) :
    Inv X pins σ (upd H l (.lst ys)) { s with heap := s.heap.update l (Obj.mapSeq f), toks := t' } := by
  have q := PySem.IsL.update e f
  rw [hf] at q
  refine I.write (x := l) (e := l) (by rw [hH]; exact trivial) (.inl rfl) (fun b' u hb hu => (Heap.get?_update_other s.heap (Obj.mapSeq f) (Ne.symm hb)).trans hu) ⟨_, q⟩ ?_
  exact ⟨hz, its', _, hv, q⟩
theorem Inv.lnew {its : List Value} {t' : Nat} (I : Inv X pins σ H s) (hv : Vals ys its) (hz : ys.length ≤ sizeLine) :
    Inv X pins σ (upd H s.heap.objs.size (.lst ys)) { s with heap := s.heap.push { cls := .type "list", data := .seq its.toArray }, toks := t' } :=
  I.laid (fun _ _ q => Heap.get?_push_of_some _ q) (Nat.le_refl _) ⟨hz, its, 0, hv, Heap.get?_push_size _ rfl⟩
theorem Inv.fresh (I : Inv X pins σ H s) : H s.heap.objs.size = none := I.hok.fresh (Nat.le_refl _)
theorem Inv.lstM (I : Inv X pins σ H s) (hH : H l = some (.lst xs)) : xs.length ≤ sizeLine ∧ ∃ (its : List Value) (n : Nat), Vals xs its ∧ xs.length = its.length ∧ s.heap.get? l = some { cls := .type "list", data := .seq its.toArray n } := by
  obtain ⟨z, its, n, r, e⟩ := I.hok l _ hH
  exact ⟨z, its, n, r, r.length, e⟩
theorem notLongL {n : Nat} (h : n ≤ sizeLine) : Builtin.List.listTooLong n = false := by
  unfold Builtin.List.listTooLong
  exact decide_eq_false (by omega)
end
section
variable {X : Cx}
noncomputable def rAppend : V → List V → Hp → VK → Prop := fun x vs H Q => ∃ l xs y, x = .ref l ∧ vs = [y] ∧ H l = some (.lst xs) ∧ xs.length < sizeLine ∧ Q .non (upd H l (.lst (xs ++ [y])))
theorem mt_append : MtM X "list.append" rAppend := by
  intro pins s σ H x vs v us Q I rx rv h
  obtain ⟨l, xs, y, rfl, rfl, hH, hz, q⟩ := h
  cases rx
  obtain ⟨u, rfl, ru⟩ := rv.one
  obtain ⟨z, its, n, r, hl, e⟩ := I.lstM hH
  refine call_meets F.slot_list_append ⟨_, e, rfl⟩ F.entry_list_append (F.args_list_append_2 _ _) (PySem.list_append l its.toArray n u (by rw [List.size_toArray]; omega)) ⟨e, ?_⟩
  refine ⟨.non, _, I.lset (its' := its ++ [u]) hH e (by simp) (r.append (.cons ru .nil)) ?_, rfl, q⟩
  rw [List.length_append, List.length_singleton]
  omega
noncomputable def rExtend : V → List V → Hp → VK → Prop := fun x vs H Q => ∃ l b xs zs, x = .ref l ∧ vs = [.ref b] ∧ H l = some (.lst xs) ∧ H b = some (.lst zs) ∧ xs.length + zs.length ≤ sizeLine ∧ Q .non (upd H l (.lst (xs ++ zs)))
theorem mt_extend : MtM X "list.extend" rExtend := by
  intro pins s σ H x vs v us Q I rx rv h
  obtain ⟨l, b, xs, zs, rfl, rfl, hH, hB, hz, q⟩ := h
  cases rx
  obtain ⟨u, rfl, ru⟩ := rv.one
  cases ru
  obtain ⟨z, its, n, r, hl, e⟩ := I.lstM hH
  obtain ⟨z2, its2, n2, r2, hl2, e2⟩ := I.lstM hB
  have hsz : its.toArray.size + its2.toArray.size ≤ sizeLine := by rw [List.size_toArray, List.size_toArray]; omega
  have hlong : ¬ (!its.toArray.isEmpty && Builtin.List.listTooLong (its.toArray.size + its2.toArray.size)) = true := by
    rw [notLongL hsz, Bool.and_false]
    exact Bool.false_ne_true
  refine call_meets F.slot_list_extend ⟨_, e, rfl⟩ F.entry_list_extend (F.args_list_extend_2 _ _)
    (AutoSeq1.list_extend_list_list_0 l its.toArray n b its2.toArray n2 hlong (by rw [List.size_toArray]; omega) (by omega)) ⟨e, e2, ?_⟩
  refine ⟨.non, _, I.lset (its' := its ++ its2) hH e (by simp) (r.append r2) ?_, rfl, q⟩
  rw [List.length_append]
  omega
noncomputable def rPopAt : V → List V → Hp → VK → Prop := fun x vs H Q => ∃ l xs i k y, x = .ref l ∧ vs = [.int i] ∧ H l = some (.lst xs) ∧ -(2 ^ 63) ≤ i ∧ i < 2 ^ 63 ∧ seqIndex? i xs.length = some k ∧ xs[k]? = some y ∧ Q y (upd H l (.lst (xs.eraseIdx k)))
theorem mt_popAt : MtM X "list.pop" rPopAt := by
  intro pins s σ H x vs v us Q I rx rv h
  obtain ⟨l, xs, i, k, y, rfl, rfl, hH, h1, h2, hk, hy, q⟩ := h
  cases rx
  obtain ⟨u, rfl, ru⟩ := rv.one
  obtain ⟨t, rfl⟩ := ru
  obtain ⟨z, its, n, r, hl, e⟩ := I.lstM hH
  obtain ⟨w, hw, rw'⟩ := r.get hy
  refine call_meets F.slot_list_pop ⟨_, e, rfl⟩ F.entry_list_pop (F.args_list_pop_2 _ _)
    (MeetsSeq.list_pop_at l its.toArray n i t k w (fitsIndex_both h1 h2) (by rw [List.size_toArray, ← hl]; exact hk) (by rw [← Array.getElem?_toList]; exact hw) (by rw [List.size_toArray]; omega)) ⟨e, ?_⟩
  refine ⟨y, _, I.lset (its' := its.eraseIdx k) hH e ?_ (r.eraseIdx k) ?_, rw', q⟩
  · show its.toArray.eraseIdxIfInBounds k = (its.eraseIdx k).toArray
    rw [List.eraseIdxIfInBounds_toArray]
  · have := len_erase xs k
    omega
noncomputable def rCat : R2 := fun x y H Q => ∃ l b xs zs, x = .ref l ∧ y = .ref b ∧ H l = some (.lst xs) ∧ H b = some (.lst zs) ∧ xs.length + zs.length ≤ sizeLine ∧ ∀ p, H p = none → Q (.ref p) (upd H p (.lst (xs ++ zs)))
theorem op_cat : OpR X (binaryOp .Add) rCat := by
  intro pins s σ H x y v u Q I rx ry h
  obtain ⟨l, b, xs, zs, rfl, rfl, hH, hB, hz, q⟩ := h
  cases rx
  cases ry
  obtain ⟨z, its, n, r, hl, e⟩ := I.lstM hH
  obtain ⟨z2, its2, n2, r2, hl2, e2⟩ := I.lstM hB
  refine PySem.P.add_list e e2 ?_ (by rw [List.size_toArray, List.size_toArray]; omega)
  have ea : its.toArray ++ its2.toArray = (its ++ its2).toArray := by simp
  rw [ea]
  exact ⟨.ref _, _, I.lnew (t' := s.toks) (r.append r2) (by rw [List.length_append]; omega), rfl, q _ I.fresh⟩
noncomputable def rRep : R2 := fun x y H Q => ∃ l k xs, x = .ref l ∧ y = .int k ∧ H l = some (.lst xs) ∧ -(2 ^ 63) ≤ k ∧ k < 2 ^ 63 ∧ xs.length * k.toNat ≤ sizeLine ∧
  ∀ p, H p = none → Q (.ref p) (upd H p (.lst (List.replicate k.toNat xs).flatten))
theorem len_rep {α : Type} (xs : List α) (k : Nat) : (List.replicate k xs).flatten.length = k * xs.length := by
  induction k with
  | zero => simp
  | succ k ih => rw [List.replicate_succ, List.flatten_cons, List.length_append, ih, Nat.succ_mul, Nat.add_comm]
theorem op_rep : OpR X (binaryOp .Mult) rRep := by
  intro pins s σ H x y v u Q I rx ry h
  obtain ⟨l, k, xs, rfl, rfl, hH, h1, h2, hz, q⟩ := h
  cases rx
  obtain ⟨t, rfl⟩ := ry
  obtain ⟨z, its, n, r, hl, e⟩ := I.lstM hH
  have hlen : its.toArray.size * k.toNat ≤ sizeLine := by rw [List.size_toArray, ← hl]; exact hz
  have hcap : ¬ its.toArray.size * k.toNat > (2 ^ 63 - 1) / 8 := by
    have : (sizeLine : Nat) ≤ (2 ^ 63 - 1) / 8 := by decide
    omega
  have hfit : ¬ (!Builtin.List.listFitsIndex k) = true := by
    rw [fitsIndex_both h1 h2]
    exact Bool.false_ne_true
  have hlong : ¬ Builtin.List.listTooLong (its.toArray.size * k.toNat) = true := by
    rw [notLongL hlen]
    exact Bool.false_ne_true
  have hnew : List.foldl (fun x1 x2 => x1 ++ x2) #[] (List.replicate (if its.toArray.isEmpty = true then 0 else k.toNat) its.toArray) = (List.replicate k.toNat its).flatten.toArray := by
    have f0 : ∀ m : Nat, List.foldl (fun x1 x2 => x1 ++ x2) #[] (List.replicate m its.toArray) = (List.replicate m its).flatten.toArray := fun m => by
      have := foldl_rep its m []
      rw [List.nil_append] at this
      exact this
    rw [f0]
    cases its with
    | nil => simp
    | cons a r' => rw [if_neg (by simp)]
  refine wpAny_binaryOp_repeat_ref (T := "list") (U := "int") (by decide) ⟨_, e, rfl⟩ (fun s' => typeIs_int s' k t) noFill_list_mul F.fills_int_mul F.slot_int_rmul repeat_list F.slot_int_index.lookup
    (call_meets F.slot_int_rmul (typeIs_int s k t) F.entry_int_rmul (F.args_int_rmul_2 _ _) (int___rmul___int_list k t l its.toArray n)
      ⟨e, rfl, ⟨_, e, rfl⟩, call_meets F.slot_list_mul ⟨_, e, rfl⟩ F.entry_list_mul (F.args_list_mul_2 _ _) (AutoListH.list___mul___list_int_3 l its.toArray n k t hfit hcap hlong) ⟨e, ?_⟩⟩)
  rw [hnew]
  exact ⟨.ref _, _, I.lnew (t' := s.toks) (r.rep k.toNat) (by rw [len_rep, Nat.mul_comm]; exact hz), rfl, q _ I.fresh⟩
end
section
variable {prog : Program} {w : World} {A : Around} {E : Value → Shared → Prop} {s : Shared}
set_option maxRecDepth 100000 in
end
section
variable {X : Cx}
end
end L2
namespace L2
open PySem PySem.Spec PyProof.Rows
section
variable {κ : Type} [DecidableEq κ]
noncomputable def valV (kvs : List (κ × V)) (k : κ) : Option V := (kvs.find? fun kv => decide (kv.1 = k)).map (·.2)
noncomputable def putK (kvs : List (κ × V)) (k : κ) (v : V) : List (κ × V) :=
  if (kvs.any fun kv => decide (kv.1 = k)) = true then kvs.map (fun kv => if kv.1 = k then (kv.1, v) else kv) else kvs ++ [(k, v)]
theorem valV_nil {k : κ} : valV ([] : List (κ × V)) k = none := rfl
theorem valV_pos {p : κ × V} {r : List (κ × V)} {k : κ} (e : p.1 = k) : valV (p :: r) k = some p.2 := by simp [valV, List.find?_cons, e]
theorem valV_neg {p : κ × V} {r : List (κ × V)} {k : κ} (e : ¬ p.1 = k) : valV (p :: r) k = valV r k := by simp [valV, List.find?_cons, e]
theorem valV_any (k : κ) : ∀ kvs : List (κ × V), (kvs.any fun kv => decide (kv.1 = k)) = (valV kvs k).isSome
  | [] => rfl
  | p :: r => by
    rw [List.any_cons]
    by_cases e : p.1 = k
    · simp only [valV_pos e, decide_eq_true e, Bool.true_or, Option.isSome_some]
    · rw [valV_neg e, decide_eq_false e, Bool.false_or]; exact valV_any k r
theorem length_putK (kvs : List (κ × V)) (k : κ) (v : V) : (putK kvs k v).length ≤ kvs.length + 1 := by
  unfold putK
  split
  · rw [List.length_map]; omega
  · rw [List.length_append, List.length_cons, List.length_nil]; omega
theorem putK_new {kvs : List (κ × V)} {k : κ} (v : V) (h : valV kvs k = none) : putK kvs k v = kvs ++ [(k, v)] := by
  unfold putK
  rw [valV_any, h]
  exact if_neg (by decide)
theorem RelO.isSome_eq {o : Option V} {u : Option Value} (r : RelO o u) : o.isSome = u.isSome := by
  cases o with
  | none => cases u with
    | none => rfl
    | some _ => exact (show False from r).elim
  | some _ => cases u with
    | none => exact (show False from r).elim
    | some _ => rfl
theorem KV.val {kvs : List (κ × V)} {vs : List (κ × Value)} (r : KV kvs vs) (k : κ) : RelO (valV kvs k) (valueAt vs k) := by
  unfold KV at r
  induction r with
  | nil => exact True.intro
  | @cons p q ps qs h t ih =>
    obtain ⟨h1, h2⟩ := h
    by_cases e : p.1 = k
    · have e' : q.1 = k := h1.symm.trans e
      have b : valueAt (q :: qs) k = some q.2 := by simp [valueAt, List.find?_cons, e']
      rw [valV_pos e, b]; exact h2
    · have e' : ¬ q.1 = k := fun z => e (h1.trans z)
      have b : valueAt (q :: qs) k = valueAt qs k := by simp [valueAt, List.find?_cons, e']
      rw [valV_neg e, b]; exact ih
theorem KV.any {kvs : List (κ × V)} {vs : List (κ × Value)} (r : KV kvs vs) (k : κ) : (kvs.any fun kv => decide (kv.1 = k)) = vs.any fun kv => decide (kv.1 = k) := by
  unfold KV at r
  induction r with
  | nil => rfl
  | cons h t ih => rw [List.any_cons, List.any_cons, ih, h.1]
theorem KV.repl {kvs : List (κ × V)} {vs : List (κ × Value)} (r : KV kvs vs) (k : κ) {y : V} {u : Value} (ry : RelV y u) :
    KV (kvs.map fun kv => if kv.1 = k then (kv.1, y) else kv) (vs.map fun kv => if kv.1 = k then (kv.1, u) else kv) := by
  unfold KV at r ⊢
  induction r with
  | nil => exact .nil
  | @cons p q ps qs h t ih =>
    rw [List.map_cons, List.map_cons]
    refine .cons ?_ ih
    obtain ⟨h1, h2⟩ := h
    by_cases e : p.1 = k
    · rw [if_pos e, if_pos (h1.symm.trans e)]; exact ⟨h1, ry⟩
    · rw [if_neg e, if_neg (fun z => e (h1.trans z))]; exact ⟨h1, h2⟩
theorem KV.put {kvs : List (κ × V)} {vs : List (κ × Value)} (r : KV kvs vs) (k : κ) {y : V} {u : Value} (ry : RelV y u) : KV (putK kvs k y) (stored vs k u) := by
  unfold putK stored
  rw [r.any k]
  by_cases e : (vs.any fun kv => decide (kv.1 = k)) = true
  · rw [if_pos e, if_pos e]; exact r.repl k ry
  · rw [if_neg e, if_neg e]; exact Paired.snoc r ⟨rfl, ry⟩
theorem KV.keys {kvs : List (κ × V)} {vs : List (κ × Value)} (r : KV kvs vs) : kvs.map (·.1) = vs.map (·.1) := by
  unfold KV at r
  induction r with
  | nil => rfl
  | cons h t ih => rw [List.map_cons, List.map_cons, ih, h.1]
theorem KV.length {kvs : List (κ × V)} {vs : List (κ × Value)} (r : KV kvs vs) : kvs.length = vs.length := Paired.length r
end
theorem kV_is {P : Program} {w : World} {k : Key} {u : Value} (r : RelV (kV k) u) : (mixKind P w).is k u = true := by
  cases k with
  | inl i => obtain ⟨t, e⟩ := (show ∃ t, u = Value.int i t from r); subst e; exact mixKind_int P w i t
  | inr x => obtain ⟨t, e⟩ := (show ∃ t, u = Value.str x t from r); subst e; exact mixKind_str P w x t
theorem items_are {P : Program} {w : World} : ∀ {ks : List Key} {us : List Value}, Vals (ks.map kV) us → ItemsAre (mixKind P w) ks us
  | [], _, r => by rw [List.map_nil] at r; cases r; exact .nil
  | k :: ks, _, r => by
    rw [List.map_cons] at r
    cases r with
    | cons h t => exact .cons (kV_is h) (items_are t)
noncomputable abbrev KT (H : Hp) : List (List Key × V) → List (List Key × Addr × Value) → Prop := Paired fun p q => p.1 = q.1 ∧ H q.2.1 = some (.tup (p.1.map kV)) ∧ RelV p.2 q.2.2
theorem KT.val {H : Hp} {kvs : List (List Key × V)} {xs : List (List Key × Addr × Value)} (r : KT H kvs xs) (k : List Key) : RelO (valV kvs k) ((atKey xs k).map (·.2)) := by
  induction r with
  | nil => exact True.intro
  | @cons p q ps qs h t ih =>
    obtain ⟨h1, _, h2⟩ := h
    by_cases e : p.1 = k
    · have e' : q.1 = k := h1.symm.trans e
      have b : atKey (q :: qs) k = some q.2 := by simp [atKey, List.find?_cons, e']
      rw [valV_pos e, b]; exact h2
    · have e' : ¬ q.1 = k := fun z => e (h1.trans z)
      have b : atKey (q :: qs) k = atKey qs k := by simp [atKey, List.find?_cons, e']
      rw [valV_neg e, b]; exact ih
theorem KT.repl {H : Hp} {kvs : List (List Key × V)} {xs : List (List Key × Addr × Value)} (r : KT H kvs xs) (k : List Key) {y : V} {u : Value} (ry : RelV y u) :
    KT H (kvs.map fun kv => if kv.1 = k then (kv.1, y) else kv) (xs.map (putAt k u)) := by
  induction r with
  | nil => exact .nil
  | @cons p q ps qs h t ih =>
    rw [List.map_cons, List.map_cons]
    refine .cons ?_ ih
    obtain ⟨h1, h2, h3⟩ := h
    unfold putAt
    by_cases e : p.1 = k
    · rw [if_pos e, if_pos (h1.symm.trans e)]; exact ⟨h1, h2, ry⟩
    · rw [if_neg e, if_neg (fun z => e (h1.trans z))]; exact ⟨h1, h2, h3⟩
theorem KT.put {H : Hp} {kvs : List (List Key × V)} {xs : List (List Key × Addr × Value)} (r : KT H kvs xs) (k : List Key) {b : Addr} {y : V} {u : Value} (hb : H b = some (.tup (k.map kV))) (ry : RelV y u) :
    KT H (putK kvs k y) (storedH xs k b u) := by
  have e : (kvs.any fun kv => decide (kv.1 = k)) = (atKey xs k).isSome := by
    rw [valV_any, (r.val k).isSome_eq, Option.isSome_map]
  unfold putK storedH
  rw [e]
  by_cases q : (atKey xs k).isSome = true
  · rw [if_pos q, if_pos q]; exact r.repl k ry
  · rw [if_neg q, if_neg q]; exact Paired.snoc r ⟨rfl, hb, ry⟩
theorem KT.keeps {H H' : Hp} {kvs : List (List Key × V)} {xs : List (List Key × Addr × Value)} (r : KT H kvs xs) (ht : ∀ b ys, H b = some (.tup ys) → H' b = some (.tup ys)) : KT H' kvs xs :=
  Paired.mapP r fun _ _ z => ⟨z.1, ht _ _ z.2.1, z.2.2⟩
section
variable {P : Program} {w : World} {H : Hp} {h : Heap} {a : Addr}
theorem rd_of {u : HO} (ok : HOk P w H h) (e : Rd H a u) : ObjOk P w H h a u := e.ok ok
theorem dk_rd {kvs : List (Key × V)} (ok : HOk P w H h) (e : Rd H a (.dK kvs)) : kvs.length ≤ sizeLine ∧ (a == sysModules) = false ∧ ∃ vs, KV kvs vs ∧ h.DictOf (mixKind P w) a vs :=
  show ObjOk P w H h a (.dK kvs) from rd_of ok e
theorem dk_of {kvs : List (Key × V)} (ok : HOk P w H h) (e : H a = some (.dK kvs)) : kvs.length ≤ sizeLine ∧ (a == sysModules) = false ∧ ∃ vs, KV kvs vs ∧ h.DictOf (mixKind P w) a vs := dk_rd ok (.inl e)
theorem key_of {ks : List Key} (ok : HOk P w H h) (e : H a = some (.tup (ks.map kV))) : (tupleKind (mixKind P w)).is h ks a := by
  obtain ⟨_, its, r, o, h1, h2, ⟨n, h3⟩, _⟩ := (show ObjOk P w H h a (.tup (ks.map kV)) from ok a _ e)
  exact ⟨o, its.toArray, n, h1, h2, h3, by simpa using items_are r⟩
theorem dt_rd {kvs : List (List Key × V)} (ok : HOk P w H h) (e : Rd H a (.dT kvs)) : kvs.length ≤ sizeLine ∧ (a == sysModules) = false ∧
    ∃ xs, KT H kvs xs ∧ h.DictOfH (tupleKind (mixKind P w)) a xs := by
  obtain ⟨z, y, xs, r, o, es, ep, h1, h2, h3, h4, h5⟩ := (show ObjOk P w H h a (.dT kvs) from rd_of ok e)
  refine ⟨z, y, xs, r, o, es, ep, h1, h2, h3, h4, fun x hx => ?_, h5⟩
  have all : ∀ {l : List (List Key × V)} {m : List (List Key × Addr × Value)}, KT H l m → ∀ x ∈ m, (tupleKind (mixKind P w)).is h x.1 x.2.1 := by
    intro l m q
    induction q with
    | nil => intro x hx; exact nomatch hx
    | @cons p q ps qs hq t ih =>
      intro x hx
      rcases List.mem_cons.mp hx with e | hx
      · subst e
        exact key_of ok (by rw [← hq.1]; exact hq.2.1)
      · exact ih x hx
  exact all r x hx
theorem dt_of {kvs : List (List Key × V)} (ok : HOk P w H h) (e : H a = some (.dT kvs)) : kvs.length ≤ sizeLine ∧ (a == sysModules) = false ∧
    ∃ xs, KT H kvs xs ∧ h.DictOfH (tupleKind (mixKind P w)) a xs := dt_rd ok (.inl e)
end
noncomputable def DGet (H : Hp) (a : Addr) (y : V) (r : Option V) : Prop :=
  (∃ kvs k, Rd H a (.dK kvs) ∧ y = kV k ∧ r = valV kvs k) ∨ ∃ kvs k b, Rd H a (.dT kvs) ∧ y = .ref b ∧ H b = some (.tup (k.map kV)) ∧ r = valV kvs k
noncomputable def DPut (H : Hp) (a : Addr) (y v : V) (H' : Hp) : Prop :=
  (∃ kvs k, H a = some (.dK kvs) ∧ y = kV k ∧ kvs.length < sizeLine ∧ H' = upd H a (.dK (putK kvs k v))) ∨
  ∃ kvs k b, H a = some (.dT kvs) ∧ y = .ref b ∧ H b = some (.tup (k.map kV)) ∧ kvs.length < sizeLine ∧ H' = upd H a (.dT (putK kvs k v))
theorem DGet.k {H : Hp} {a : Addr} {kvs : List (Key × V)} {k : Key} (e : H a = some (.dK kvs)) : DGet H a (kV k) (valV kvs k) := .inl ⟨kvs, k, .inl e, rfl, rfl⟩
theorem DPut.k {H : Hp} {a : Addr} {kvs : List (Key × V)} {k : Key} {v : V} (e : H a = some (.dK kvs)) (hl : kvs.length < sizeLine) : DPut H a (kV k) v (upd H a (.dK (putK kvs k v))) := .inl ⟨kvs, k, e, rfl, hl, rfl⟩
section
variable {X : Cx} {pins : List (Addr × Obj)} {σ : St} {H : Hp} {s : Shared} {a : Addr} {y v : V} {u r : Value} {o : Option V} {A : Around} {E : Value → Shared → Prop}
theorem Inv.big (I : Inv X pins σ H s) : sysModules < s.heap.objs.size := by
  have h : mainGlobals < s.heap.objs.size := (I.mod.glob.keeps I.bk).lt
  exact Nat.lt_trans (by decide) h
theorem d_getItem {Q : Value → Shared → Prop} (hu : A.units + 1 < cLine) (I : Inv X pins σ H s) (g : DGet H a y (some v)) (ry : RelV y u) (h : ∀ w' s', Inv X pins σ H s' → RelV v w' → Q w' s') :
    wpAny (model X.prog X.w) A (getItem (.ref a) u) Q E s := by
  rcases g with ⟨kvs, k, e, ey, l⟩ | ⟨kvs, k, b, e, ey, eb, l⟩
  · subst ey
    obtain ⟨z, hd, vs, rel, dd⟩ := dk_rd I.hok e
    obtain ⟨w', hw, rw'⟩ := RelO.some_of (v := v) (o := valueAt vs k) (by rw [l]; exact rel.val k)
    exact wpAny_getItem_of (kV_is ry) dd.mapOf hw (h w' _ (I.tok _) rw')
  · subst ey
    cases (show u = Value.ref b from ry)
    obtain ⟨z, hd, xs, rel, dd⟩ := dt_rd I.hok e
    obtain ⟨w', hw, rw'⟩ := RelO.some_of (v := v) (o := (atKey xs k).map (·.2)) (by rw [l]; exact rel.val k)
    obtain ⟨p, hp, hp2⟩ := Option.map_eq_some_iff.mp hw
    refine wpAny_getItem_heap (tupleKind_room_in1 hu) (key_of I.hok eb) dd hp ?_
    rw [hp2]
    exact h w' _ (I.tok _) rw'
theorem d_in {Q : Value → Shared → Prop} (hu : A.units + 1 < cLine) (I : Inv X pins σ H s) (g : DGet H a y o) (ry : RelV y u) (h : ∀ s', Inv X pins σ H s' → Q (.bool o.isSome) s') :
    wpAny (model X.prog X.w) A (compareOp .In u (.ref a)) Q E s := by
  rcases g with ⟨kvs, k, e, ey, l⟩ | ⟨kvs, k, b, e, ey, eb, l⟩
  · subst ey
    obtain ⟨z, hd, vs, rel, dd⟩ := dk_rd I.hok e
    refine wpAny_in_of (kV_is ry) hd dd.mapOf ?_
    rw [← (rel.val k).isSome_eq, ← l]
    exact h _ (I.tok _)
  · subst ey
    cases (show u = Value.ref b from ry)
    obtain ⟨z, hd, xs, rel, dd⟩ := dt_rd I.hok e
    refine wpAny_in_heap (tupleKind_room_in1 hu) (key_of I.hok eb) hd dd ?_
    have q := (rel.val k).isSome_eq
    rw [Option.isSome_map] at q
    rw [← q, ← l]
    exact h _ (I.tok _)
theorem d_notIn {Q : Value → Shared → Prop} (hu : A.units + 1 < cLine) (I : Inv X pins σ H s) (g : DGet H a y o) (ry : RelV y u) (h : ∀ s', Inv X pins σ H s' → Q (.bool (!o.isSome)) s') :
    wpAny (model X.prog X.w) A (compareOp .NotIn u (.ref a)) Q E s := by
  rcases g with ⟨kvs, k, e, ey, l⟩ | ⟨kvs, k, b, e, ey, eb, l⟩
  · subst ey
    obtain ⟨z, hd, vs, rel, dd⟩ := dk_rd I.hok e
    refine wpAny_notIn_of (kV_is ry) hd dd.mapOf ?_
    rw [← (rel.val k).isSome_eq, ← l]
    exact h _ (I.tok _)
  · subst ey
    cases (show u = Value.ref b from ry)
    obtain ⟨z, hd, xs, rel, dd⟩ := dt_rd I.hok e
    refine wpAny_notIn_heap (tupleKind_room_in1 hu) (key_of I.hok eb) hd dd ?_
    have q := (rel.val k).isSome_eq
    rw [Option.isSome_map] at q
    rw [← q, ← l]
    exact h _ (I.tok _)
theorem d_write {h' : Heap} {t' : Nat} {ob : HO} (I : Inv X pins σ H s) (mu : Mut (H a)) (hs : Heap.SameBut a s.heap h') (he : ∃ q, h'.get? a = some q) (new : ObjOk X.prog X.w (upd H a ob) h' a ob) :
    Inv X pins σ (upd H a ob) { s with heap := h', toks := t' } :=
  I.write (x := a) (e := a) mu (.inl rfl) (fun b q hb z => (hs.2 b hb).trans z) he new
theorem dk_new {P : Program} {w : World} {H' : Hp} {h' : Heap} {kvs : List (Key × V)} {vs : List (Key × Value)} (z : kvs.length ≤ sizeLine) (hd : (a == sysModules) = false) (rel : KV kvs vs) (dd : h'.DictOf (mixKind P w) a vs) :
    ObjOk P w H' h' a (.dK kvs) := ⟨z, hd, vs, rel, dd⟩
theorem d_setItem {H' : Hp} {Q : Unit → Shared → Prop} (hu : A.units + 1 < cLine) (I : Inv X pins σ H s) (g : DPut H a y v H') (ry : RelV y u) (rv : RelV v r) (h : ∀ s', Inv X pins σ H' s' → Q () s') :
    wpAny (model X.prog X.w) A (setItem (.ref a) u r) Q E s := by
  rcases g with ⟨kvs, k, e, ey, l, eH⟩ | ⟨kvs, k, b, e, ey, eb, l, eH⟩
  · subst ey eH
    obtain ⟨z, hd, vs, rel, dd⟩ := dk_of I.hok e
    have hz : vs.length ≤ sizeLine := by rw [← rel.length]; exact z
    have hl : (putK kvs k v).length ≤ sizeLine := by have := length_putK kvs k v; omega
    refine wpAny_setItem_pairs (hsz := hz) (kV_is ry) dd fun h' dd' hs => h _ ?_
    have he : ∃ q, h'.get? a = some q := let ⟨q, _, _, hq, _⟩ := dd'; ⟨q, hq⟩
    exact d_write I (by rw [e]; exact True.intro) hs he (dk_new hl hd (rel.put k rv) dd')
  · subst ey eH
    cases (show u = Value.ref b from ry)
    obtain ⟨z, hd, xs, rel, dd⟩ := dt_of I.hok e
    have hz : xs.length ≤ sizeLine := by rw [← Paired.length rel]; exact z
    have hl : (putK kvs k v).length ≤ sizeLine := by have := length_putK kvs k v; omega
    refine wpAny_setItem_heap (hsz := hz) (tupleKind_room_in1 hu) (key_of I.hok eb) dd fun h' dd' hs => h _ ?_
    obtain ⟨q, es, ep, hq, h2, h3, h4, _, h5⟩ := dd'
    refine d_write I (by rw [e]; exact True.intro) hs ⟨q, hq⟩ ⟨hl, hd, _, (rel.put k eb rv).keeps fun c ys ec => ?_, q, es, ep, hq, h2, h3, h4, h5⟩
    rw [upd_ne (ne_of ec e (fun z => nomatch z))]
    exact ec
end
section
variable {X : Cx} {pins : List (Addr × Obj)} {σ : St} {H : Hp} {s : Shared} {a : Addr} {kvs : List (Key × V)} {k : Key} {u : Value} {A : Around} {E : Value → Shared → Prop}
theorem d_len {Q : Value → Shared → Prop} (I : Inv X pins σ H s) (e : Rd H a (.dK kvs)) (h : ∀ t s', Inv X pins σ H s' → Q (.int kvs.length t) s') : wpAny (model X.prog X.w) A (call (.builtin "len") [.ref a]) Q E s := by
  obtain ⟨z, hd, vs, rel, dd⟩ := dk_rd I.hok e
  refine call_len_dict hd dd (by rw [← rel.length]; rw [sizeLine_eq] at z; omega) ?_
  rw [← rel.length]
  exact h _ _ (I.tok _)
end
noncomputable def NoSl (i : Expr) : Prop := ∀ ov iv, subscripted i false ov iv = operate [ov, iv] (getItem ov iv)
theorem subD_of {prog : Program} {w : World} {A : Around} {E : Value → Shared → Prop} {s : Shared} {env : Env} {value slice : Expr} {pos : Pos} {T id : String} {Q : Value → Shared → Prop}
    (hl : typeLookup (.type T) "__getitem__" = pure (some (.builtin id))) (hs : NoSl slice)
    (h : wpAny (model prog w) A (eval value env) (fun o s₁ => wpAny (model prog w) A (eval slice env) (fun i s₂ => s₂.TypeIs o T ∧ wpAny (model prog w) A (getItem o i) Q E s₂) E s₁) E s) :
    wpAny (model prog w) A (eval (.Subscript value slice pos) env) Q E s := by
  refine Subscript_ (wpAny_mono h (fun o s₁ h₁ => wpAny_mono h₁ (fun i s₂ h₂ => ?_) fun _ _ x => x) fun _ _ x => x)
  obtain ⟨hT, h₂⟩ := h₂
  unfold subscriptTail
  refine wpAny_bind ?_
  rw [getitemInPython_of_ne hT.not_modules]
  refine wpAny_bind (wpAny_specialOf hT hl ?_)
  have fin : wpAny (model prog w) A (subscripted slice false o i) (fun r s₃ => wpAny (model prog w) A (letTemporaryGo value o r >>= fun _ => pure r) Q E s₃) E s₂ := by
    rw [hs o i]
    exact wpAny_operating (wpAny_mono h₂ (fun r s₃ h₃ => wpAny_bind (wpAny_letTemporaryGo (wpAny_pure h₃))) fun _ _ x => x)
  first
    | exact wpAny_pure (wpAny_bind fin)
    | exact wpAny_bind (wpAny_pure (wpAny_bind fin))
    | exact wpAny_bind fin
theorem dict_typeIs {X : Cx} {pins : List (Addr × Obj)} {σ : St} {H : Hp} {s : Shared} {a : Addr} {y : V} {o : Option V} (I : Inv X pins σ H s) (g : DGet H a y o) : s.TypeIs (.ref a) "dict" := by
  rcases g with ⟨kvs, k, e, _, _⟩ | ⟨kvs, k, b, e, _, _, _⟩
  · obtain ⟨_, _, vs, _, dd⟩ := dk_rd I.hok e
    exact dd.typeIs
  · obtain ⟨_, _, xs, _, dd⟩ := dt_rd I.hok e
    exact dd.typeIs
noncomputable def sDPut (td ty tv : TE) : TS := fun D σ H => tv σ H fun v H1 => td σ H1 fun x H2 => ty σ H2 fun y H3 => ∃ a H4, x = .ref a ∧ DPut H3 a y v H4 ∧ D.nx σ H4
section
variable {X : Cx} {o i e value : Expr} {pos pos' tpos : Pos} {td ty tv : TE}
theorem ps_dput (hu : X.A.units + 1 < cLine) (ho : PE X o td) (hi : PE X i ty) (hv : PE X value tv) (hs : swapsWith value (some (.Subscript o i pos')) pos.line X.env = pure false) :
    PS X (.Assign [.Subscript o i pos'] value pos) (sDPut td ty tv) := by
  intro pins s σ H D I h
  refine wpAny_Assign_Subscript (thn (hv pins s σ H _ I h) fun r s1 ⟨v, H1, I1, rv, q1⟩ => thn (ho pins s1 σ H1 _ I1 q1) fun u s2 ⟨x, H2, I2, rx, q2⟩ => thn (hi pins s2 σ H2 _ I2 q2) fun iv s3 ⟨y, H3, I3, ry, a, H4, ex, g, q3⟩ => ?_) hs
  subst ex
  obtain rfl : u = Value.ref a := rx
  exact d_setItem hu I3 g ry rv fun s4 I4 => ⟨σ, H4, I4, q3⟩
end
theorem dk_empty {P : Program} {w : World} {H : Hp} (h : Heap) (hb : sysModules < h.objs.size) : ObjOk P w H (h.push { cls := .type "dict", data := .dict #[] }) h.objs.size (.dK []) :=
  ⟨Nat.zero_le _, beq_eq_false_iff_ne.mpr (Ne.symm (Nat.ne_of_lt hb)), [], .nil, Heap.DictOf.new h⟩
noncomputable def tDNewK : TE := fun _ H Q => ∀ p, H p = none → Q (.ref p) (upd H p (.dK []))
section
variable {X : Cx} {pos : Pos}
theorem pe_dnewK : PE X (.Dict [] [] pos) tDNewK := fun pins s σ H Q I h =>
  wpAny_Dict_empty ⟨.ref s.heap.objs.size, _, I.laid (a := s.heap.objs.size) (o := .dK []) (t' := s.toks) (fun _ _ q => Heap.get?_push_of_some _ q) (Nat.le_refl _) (dk_empty s.heap I.big), rfl, h _ (I.hok.fresh (Nat.le_refl _))⟩
end
noncomputable def tPairs : List (TE × TE) → St → Hp → (List (V × V) → Hp → Prop) → Prop
  | [], _, H, Q => Q [] H
  | (tk, tv) :: r, σ, H, Q => tk σ H fun x H1 => tv σ H1 fun y H2 => tPairs r σ H2 fun ps H3 => Q ((x, y) :: ps) H3
noncomputable abbrev VV : List (V × V) → List (Value × Value) → Prop := Paired fun p q => RelV p.1 q.1 ∧ RelV p.2 q.2
noncomputable def PPs (X : Cx) (pos : Pos) (keys : List (Option Expr)) (values : List Expr) (trs : List (TE × TE)) : Prop :=
  ∀ (pins : List (Addr × Obj)) (s : Shared) (σ : St) (H : Hp) (Q : List (V × V) → Hp → Prop), Inv X pins σ H s → tPairs trs σ H Q →
    wpAny (model X.prog X.w) X.A (evalPairs (pairTrees keys values X.env pos)) (fun vs s' => ∃ ps H', Inv X pins σ H' s' ∧ VV ps vs ∧ Q ps H') X.xe s
theorem pps_nil {X : Cx} {pos : Pos} : PPs X pos [] [] [] := fun pins s σ H Q I h => pairTrees_nil_walk ⟨[], H, I, .nil, h⟩
theorem pps_cons {X : Cx} {pos : Pos} {k v : Expr} {ks : List (Option Expr)} {vs : List Expr} {tk tv : TE} {trs : List (TE × TE)} (hk : PE X k tk) (hv : PE X v tv) (hr : PPs X pos ks vs trs) :
    PPs X pos (some k :: ks) (v :: vs) ((tk, tv) :: trs) := fun pins s σ H Q I h =>
  pairTrees_cons_walk (thn (hk pins s σ H _ I h) fun u s1 ⟨x, H1, I1, rx, q1⟩ => thn (hv pins s1 σ H1 _ I1 q1) fun w2 s2 ⟨y, H2, I2, ry, q2⟩ =>
    thn (hr pins s2 σ H2 _ I2 q2) fun ws s3 ⟨ps, H3, I3, rel, q3⟩ => ⟨(x, y) :: ps, H3, I3, .cons ⟨rx, ry⟩ rel, q3⟩)
noncomputable def mergeK (kvs more : List (Key × V)) : List (Key × V) := more.foldl (fun acc kv => putK acc kv.1 kv.2) kvs
theorem KV.merge : ∀ {more : List (Key × V)} {rs : List (Key × Value)} {kvs : List (Key × V)} {vs : List (Key × Value)}, KV more rs → KV kvs vs → KV (mergeK kvs more) (merged vs rs) := by
  intro more rs kvs vs r
  unfold KV at r
  induction r generalizing kvs vs with
  | nil => intro q; exact q
  | @cons p q ps qs h t ih =>
    intro r0
    have e : KV (putK kvs p.1 p.2) (stored vs q.1 q.2) := by
      have := r0.put p.1 h.2
      rw [← h.1]; exact this
    exact ih e
theorem length_mergeK : ∀ (more kvs : List (Key × V)), (mergeK kvs more).length ≤ kvs.length + more.length
  | [], kvs => by show kvs.length ≤ kvs.length + 0; omega
  | p :: r, kvs => by
    have h1 := length_mergeK r (putK kvs p.1 p.2)
    have h2 := length_putK kvs p.1 p.2
    show (mergeK (putK kvs p.1 p.2) r).length ≤ _
    rw [List.length_cons]; omega
theorem carries_of {P : Program} {w : World} : ∀ {kvs : List (Key × V)} {ws : List (Value × Value)}, VV (kvs.map fun kv => (kV kv.1, kv.2)) ws → ∃ rs, Carries (mixKind P w) ws rs ∧ KV kvs rs
  | [], _, r => by rw [List.map_nil] at r; cases r; exact ⟨[], True.intro, .nil⟩
  | p :: kvs, _, r => by
    rw [List.map_cons] at r
    cases r with
    | @cons a b as bs h t =>
      obtain ⟨rs, c, q⟩ := carries_of (P := P) (w := w) t
      obtain ⟨b1, b2⟩ := b
      exact ⟨(p.1, b2) :: rs, ⟨kV_is h.1, rfl, c⟩, .cons ⟨rfl, h.2⟩ q⟩
noncomputable def tDisp (trs : List (TE × TE)) : TE := fun σ H Q => ∀ p, H p = none → tPairs trs σ (upd H p (.dK [])) fun ps H2 => H2 p = some (.dK []) ∧ ∃ kvs : List (Key × V), ps = kvs.map (fun kv => (kV kv.1, kv.2)) ∧ kvs.length ≤ 15 ∧ Q (.ref p) (upd H2 p (.dK (mergeK [] kvs)))
theorem pe_disp {X : Cx} {pos : Pos} {keys : List (Option Expr)} {values : List Expr} {trs : List (TE × TE)} (h : PPs X pos keys values trs) (hall : keys.all (·.isSome) = true) (hl : keys.length = values.length) (h0 : keys ≠ [])
    (h15 : keys.length ≤ 15) : PE X (.Dict keys values pos) (tDisp trs) := by
  intro pins s σ H Q I q
  have hn := I.hok.fresh (Nat.le_refl s.heap.objs.size)
  have I1 := I.laid (a := s.heap.objs.size) (o := .dK []) (h' := s.heap.push { cls := .type "dict", data := .dict #[] }) (t' := s.toks) (fun _ _ q => Heap.get?_push_of_some _ q) (Nat.le_refl _) (dk_empty s.heap I.big)
  refine wpAny_Dict_walk (knd := mixKind X.prog X.w) hall hl h0 h15 (thn (h pins _ σ _ _ I1 (q _ hn)) fun ws s2 ⟨ps, H2, I2, rel, e, kvs, ep, lk, q2⟩ => ?_)
  subst ep
  obtain ⟨rs, c, rk⟩ := carries_of (P := X.prog) (w := X.w) rel
  obtain ⟨z, hd, vs0, r0, dd⟩ := dk_of I2.hok e
  cases r0
  refine ⟨rs, c, dd, fun h' dd' hs => ⟨.ref s.heap.objs.size, _, ?_, rfl, q2⟩⟩
  have hz : (mergeK [] kvs).length ≤ sizeLine := by
    have h1 := length_mergeK kvs []
    rw [List.length_nil] at h1
    rw [sizeLine_eq]; omega
  have he : ∃ q, h'.get? s.heap.objs.size = some q := let ⟨q, _, _, hq, _⟩ := dd'; ⟨q, hq⟩
  exact d_write I2 (by rw [e]; exact True.intro) hs he (dk_new hz hd (rk.merge .nil) dd')
section
variable {X : Cx} {pins : List (Addr × Obj)} {σ : St} {H : Hp} {s : Shared} {a : Addr} {y d : V} {u r : Value} {o : Option V} {A : Around} {E : Value → Shared → Prop}
end
section
variable {X : Cx} {o e f : Expr} {apos cpos : Pos} {td ty tx : TE}
end
section
variable {X : Cx} {pins : List (Addr × Obj)} {σ : St} {H : Hp} {s : Shared} {a : Addr} {kvs : List (Key × V)} {A : Around} {E : Value → Shared → Prop}
end
section
variable {X : Cx} {pins : List (Addr × Obj)} {σ : St} {H : Hp} {s : Shared} {a : Addr} {y : V} {u : Value} {A : Around} {E : Value → Shared → Prop}
end
end L2
namespace Att
open PySem PySem.W PySem.Calls PyProof.Rows
theorem ints_of_wellAll {P : Params} {h : Heap} : ∀ (ns : List Int) (vs : List Value), WellAll P h vs (ns.map WData.int) → IntsAre vs ns := by
  intro ns
  induction ns with
  | nil =>
    intro vs w
    rw [List.map_nil] at w
    cases w
    exact .nil
  | cons n ns ih =>
    intro vs w
    rw [List.map_cons] at w
    cases w with
    | cons a b =>
      cases a
      exact .cons _ _ (ih _ b)
theorem script_of {l : OpenLaw} {n : Nat} (hn : l.most = some n) {P : Params} {h : Heap} {args : List WData} {vals : List Value}
    (hpre : l.row.toRowW.claim.pre args = true) (hwl : WellAll P h vals args) :
    ∃ a vs ns, vals = [Value.ref a] ∧ args = [WData.list (ns.map WData.int)] ∧ h.get? a = some { cls := .type "list", data := .seq vs.toArray } ∧ IntsAre vs ns ∧ ns.length ≤ n := by
  have hsh : WShape.hasAll [] args [.list .int] = true := (pre_splitW hpre).1
  have hc : l.pre.holds [] { args := args } = true := (pre_splitW hpre).2
  obtain ⟨d, r, rfl, h1, h2⟩ := hasAllW_cons hsh
  obtain rfl := hasAllW_nil h2
  obtain ⟨xs, rfl, h3⟩ := hasW_list h1
  obtain ⟨ns, rfl⟩ := items_int h3
  have hlen : ns.length ≤ n := by
    unfold OpenLaw.pre at hc
    have h4 : (WTm.not (.lt (.lit (.int (n : Int))) (.len (.arg 0)))).holds [] { args := [.list (ns.map .int)] } = true := by
      have h4 := (holds_andW hc).1
      rw [hn] at h4
      exact h4
    have h5 := condW_of h4 (w_not (w_lt w_lit (w_len_list (w_arg rfl))))
    rw [List.length_map] at h5
    refine Nat.le_of_not_lt fun q => ?_
    have q' : (n : Int) < ((ns.length : Nat) : Int) := by omega
    first
      | (rw [decide_eq_true q'] at h5; exact absurd h5 (by decide))
      | (simp at h5; omega)
  cases hwl with
  | cons w1 w2 =>
    cases w2
    cases w1 with
    | list ho hall => exact ⟨_, _, ns, rfl, rfl, ho, ints_of_wellAll ns _ hall, hlen⟩
theorem post_true (l : OpenLaw) (args : List WData) : l.row.toRowW.claim.post args (.bool true) args = true :=
  postW_of (r := l.row.toRowW) (X := (true == true))
    (show WShape.has [] (.bool true) .bool = true by first | rfl | decide | simp [WShape.has, WShape.arms, WShape.armsAll])
    (show (WTm.eq .res (.lit (.bool true))).value [] { args := args, res := some (.bool true), after := args } = some (.bool (true == true)) from w_eq_bool (w_res rfl) w_lit) rfl
theorem attach_call {l : OpenLaw} {n : Nat} {q : Program} {loose : List Str} {XP : (Str → Option Value) → Heap → Prop} {YP : World → Heap → Prop} {d : DefRec}
    (hn : l.most = some n) (hdf : d.params.defaults = [])
    (call : ∀ (w : World) (s₀ s₁ : Shared) (mg mb : Str → Option Value) (fa : Addr) (o : Obj) (pm cd doc : Value) (a : Addr) (vs : List Value) (ns : List Int),
      Ground q loose [] XP w s₀ mg mb s₁.heap → YP w s₁.heap →
      s₁.heap.get? fa = some o → o.data = .func (docDef d.name d.params d.body d.scope pm cd doc) → s₁.heap.CodeRec cd d.name → mg d.name = some (.ref fa) →
      s₁.heap.get? a = some { cls := .type "list", data := .seq vs.toArray } → IntsAre vs ns → ns.length ≤ n → s₁.gens = #[] →
      codeAny (model l.prog w) callerA (.call (.ref fa) ⟨[.ref a], []⟩) (fun r s' => r = .ok (.ret (.bool true)) ∧ OldK s₁.heap s'.heap ∧ s'.os = s₁.os ∧ AllBare s'.gens) s₁) :
    WalkO q loose XP YP l.row.toRowW d [] (fun f vs => PySem.call f vs) := by
  intro w s₀ s₁ mg mb G Y fa o pm cd doc dV kV ho hd hcd hD hmg hg args vals as hpre hlay hrd hwl hlo
  obtain rfl : dV = .none := Dflts.none hD hdf
  obtain rfl : kV = .none := Dflts.noKw hD
  obtain ⟨a, vs, ns, rfl, rfl, hobj, hints, hlen⟩ := script_of hn hpre hwl
  refine enter_call (codeAny_mono (call w s₀ s₁ mg mb fa o pm cd doc a vs ns G Y ho (fd_plain hd) hcd hmg hobj hints hlen hg) fun r s' hq => ?_)
  obtain ⟨rfl, h2, h3, h4⟩ := hq
  exact ⟨.inl ⟨.bool true, .bool true, [], rfl, fun _ => rfl, .bool true, post_true l _, fun _ => ⟨List.Pairwise.nil, fun _ hm => (nomatch hm)⟩⟩, h2, h3, h4⟩
section
variable {prog : Program} {w : World} {A : Around} {E : Value → Shared → Prop} {s : Shared} {K : Frag}
end
end Att
namespace L2
open PySem PySem.Spec PyProof.Rows
theorem vals_ints : ∀ {vs : List Value} {ns : List Int}, IntsAre vs ns → Vals (ns.map V.int) vs
  | _, _, .nil => .nil
  | _, _, .cons n t h => .cons ⟨t, rfl⟩ (vals_ints h)
end L2
namespace L2
open PySem PySem.Spec PyProof.Rows
end L2
namespace L2
open PySem PySem.Spec PyProof.Rows
noncomputable def defArgs (s : Stmt) : Arguments := match s with
  | .FunctionDef _ a _ _ _ _ _ _ _ _ => a
  | _ => { posonlyargs := [], args := [], vararg := none, kwonlyargs := [], kw_defaults := [], kwarg := none, defaults := [] }
noncomputable def defBody (s : Stmt) : List Stmt := match s with
  | .FunctionDef _ _ b _ _ _ _ _ _ _ => b
  | _ => []
noncomputable def defScope (s : Stmt) : Scope := match s with
  | .FunctionDef _ _ _ _ _ _ sc _ _ _ => sc
  | _ => { kind := .function, names := [], isGenerator := false, isCoroutine := false }
noncomputable abbrev CX0 : CXT := fun _ _ _ _ _ _ => False
noncomputable abbrev E0 : XK := fun _ _ _ => False
theorem pass0 {X : Cx} : Passes CX0 X E0 := fun _ _ _ _ _ _ _ h => h.elim
structure Fun (K : PySem.W.Frag) (x qual : Str) (st : Stmt) (f : Addr) (fd : FuncData) : Prop where
  ex : ∃ (oc : Value) (od : Option Addr) (kV doc pm : Value) (an : Option Addr) (cdv ct : Value) (osl : Array (Option Value)),
    fd = PySem.W.fnOf x qual (defArgs st) (defBody st) (defScope st) .none kV doc pm an cdv ct ∧ K.lookup f = some ⟨oc, od, .func fd, osl⟩ ∧ PySem.W.codeIn K cdv qual = true
  kp : PySem.W.keepIn K (.ref f) = true
section
variable {P : Program} {w : World} {K : PySem.W.Frag} {mg : Str → Option Value} {base : Heap}
theorem Fun.ok {x qual : Str} {st : Stmt} {f : Addr} {fd : FuncData} {N ps : List Str} {k : Nat} {sp : Sp} (F : Fun K x qual st f fd) (S : FnScope N ps (defScope st)) (len : ∀ vs H Q E, sp vs H Q E → vs.length = ps.length)
    (hbody : ∀ (cdv : Value) (A : Around) (outer : List Env) (s : Shared) (H : Hp) (vs : List V) (Q : VK) (E : XK), Room k (A.deeper (envOfC qual (defScope st) s.heap.objs.size f cdv)) → sp vs H Q E →
      ∃ t, PSs (cxOf CX0 P w K mg base N qual (defScope st) f cdv A outer s H E).nox (defBody st) t ∧ t { nx := fun _ H' => Q .non H', rt := Q } (start N vs) H) : FnOk P w K mg base CX0 (k + 1) f fd ps sp := by
  obtain ⟨oc, od, kV, doc, pm, an, cdv, ct, osl, rfl, lk, hcd⟩ := F.ex
  refine fn_of lk hcd S len fun A outer s H vs Q E hr hsp => ?_
  obtain ⟨t, h, q⟩ := hbody cdv A outer s H vs Q E hr hsp
  exact ⟨t, h.nox, q⟩
theorem Fun.binds {x qual : Str} {st : Stmt} {f : Addr} {fd : FuncData} {ps : List Str} (F : Fun K x qual st f fd)
    (h : ∀ (kV doc pm : Value) (an : Option Addr) (cdv ct : Value) (us : List Value), us.length = ps.length → bindArgs (PySem.W.fnOf x qual (defArgs st) (defBody st) (defScope st) .none kV doc pm an cdv ct) ⟨us, []⟩ = pure (ps.zip us)) : Binds K fd ps [] := by
  obtain ⟨oc, od, kV, doc, pm, an, cdv, ct, osl, rfl, lk, hcd⟩ := F.ex
  exact .all (h kV doc pm an cdv ct)
theorem fun_mk {x qual : Str} {st : Stmt} {f : Addr} {oc : Value} {od an : Option Addr} {osl : Array (Option Value)} {kV doc pm cdv ct : Value} (l : K.lookup f = some ⟨oc, od, .func (PySem.W.fnOf x qual (defArgs st) (defBody st) (defScope st) .none kV doc pm an cdv ct), osl⟩)
    (c : PySem.W.codeIn K cdv qual = true) (k : PySem.W.keepIn K (.ref f) = true) : Fun K x qual st f (PySem.W.fnOf x qual (defArgs st) (defBody st) (defScope st) .none kV doc pm an cdv ct) := ⟨⟨oc, od, kV, doc, pm, an, cdv, ct, osl, rfl, l, c⟩, k⟩
end
theorem hu_of {A : Around} {k : Nat} (hr : Room k A) : A.units + 1 < cLine := Nat.lt_of_le_of_lt (Nat.add_le_add_left (by decide : 1 ≤ 64) _) hr.units
theorem small1000 {n : Nat} (h : n ≤ 1000) : n < sizeLine := Nat.lt_of_le_of_lt h (by decide)
section
variable {X : Cx}
theorem pv (i : Nat) {x : Str} {pos : Pos} (hN : X.N[i]? = some x := by with_unfolding_all rfl) (hv : Vis X.env.scope x := by with_unfolding_all first | exact Or.inl rfl | exact Or.inr (Or.inl rfl) | exact Or.inr (Or.inr rfl)) (hd : (x == ("__debug__" : Str)) = false := by decide)
    (hcd : (x == ("__classdict__" : Str)) = false := by decide) : PE X (.Name x pos) (tVar i) := pe_var hN hv hd hcd
end
theorem iteF {A B : Prop} (h : B) : if false = true then A else B := by
  rw [if_neg Bool.false_ne_true]
  exact h
theorem iteT {A B : Prop} (h : A) : if true = true then A else B := by
  rw [if_pos rfl]
  exact h
theorem ite2 {c A B : Prop} [Decidable c] (h1 : c → A) (h2 : ¬ c → B) : if c then A else B := by
  by_cases h : c
  · rw [if_pos h]
    exact h1 h
  · rw [if_neg h]
    exact h2 h
noncomputable def Same (H H' : Hp) : Prop := ∀ b o, H b = some o → H' b = some o
theorem Same.refl (H : Hp) : Same H H := fun _ _ h => h
theorem Same.trans {H H1 H2 : Hp} (a : Same H H1) (b : Same H1 H2) : Same H H2 := fun c o h => b c o (a c o h)
theorem Same.free {H H' : Hp} (e : Same H H') {l : Addr} (h : H' l = Option.none) : H l = Option.none := by
  cases q : H l with
  | none => rfl
  | some o =>
    rw [e l o q] at h
    cases h
theorem Same.seq {K : PySem.W.Frag} {H H' : Hp} {a : Addr} {xs : List V} (e : Same H H') (h : SqL K H a xs) : SqL K H' a xs := by
  rcases h with (h | ⟨o, h⟩) | h
  · exact .inl (.inl (e _ _ h))
  · exact .inl (.inr ⟨o, e _ _ h⟩)
  · exact .inr h
end L2
namespace L2
open PySem PySem.Spec PyProof.Rows
section
variable {X : Cx}
theorem call_lenD : CallR X (.builtin "len") (fun xs H Q => ∃ a kvs, xs = [V.ref a] ∧ H a = some (.dK kvs) ∧ Q (.int kvs.length) H) := by
  intro pins s σ H xs us Q I r h
  obtain ⟨a, kvs, rfl, ha, q⟩ := h
  obtain ⟨u, rfl, ru⟩ := vals1 r
  cases ru
  exact d_len I (.inl ha) fun t s' I' => ⟨.int kvs.length, H, I', ⟨t, rfl⟩, q⟩
end
section
variable {κ : Type} [DecidableEq κ]
end
end L2
set_option Elab.async false
set_option linter.all false
set_option maxRecDepth 100000
set_option maxHeartbeats 4000000
namespace L2
open PySem PySem.Spec PyProof.Rows
noncomputable def clOf (env : Env) (names : List (Str × NameKind)) (acc : List (Str × Addr)) : List (Str × Addr) :=
  names.foldl (fun acc y => if y.2 == NameKind.free then (y.1, (env.cells.lookup y.1).getD 0) :: acc else acc) acc
theorem closure_is {env : Env} {scope : Scope} (h : ∀ y ∈ scope.names, y.2 = NameKind.free → ∃ c, env.cells.lookup y.1 = some c) : closureFor scope env = pure (clOf env scope.names []) := by
  have all : ∀ (names : List (Str × NameKind)) (acc : List (Str × Addr)), (∀ y ∈ names, y.2 = NameKind.free → ∃ c, env.cells.lookup y.1 = some c) →
      (forIn names acc fun (y : Str × NameKind) (cs : List (Str × Addr)) => (match y with
        | (name, kind) => if (kind == NameKind.free) = true then do let c ← cellOf env name; pure (ForInStep.yield ((name, c) :: cs)) else pure (ForInStep.yield cs) : Sem (ForInStep (List (Str × Addr))))) = (pure (clOf env names acc) : Sem (List (Str × Addr))) := by
    intro names
    induction names with
    | nil => intro acc _; rfl
    | cons y r ih =>
      intro acc hy
      obtain ⟨n, k⟩ := y
      rw [List.forIn_cons]
      by_cases hk : k = NameKind.free
      · subst hk
        obtain ⟨c, hc⟩ := hy (n, .free) List.mem_cons_self rfl
        have e : cellOf env n = pure c := by unfold cellOf; rw [show env.cells.lookup n = some c from hc]
        have e2 : clOf env ((n, NameKind.free) :: r) acc = clOf env r ((n, c) :: acc) := by
          unfold clOf
          rw [List.foldl_cons]
          simp only [beq_self_eq_true, if_true]
          rw [show env.cells.lookup n = some c from hc]
          rfl
        rw [e2, ← ih ((n, c) :: acc) fun z hz => hy z (List.mem_cons_of_mem _ hz)]
        simp only [beq_self_eq_true, if_true, e]
        rfl
      · have hb : (k == NameKind.free) = false := by simpa using hk
        have e2 : clOf env ((n, k) :: r) acc = clOf env r acc := by
          unfold clOf
          rw [List.foldl_cons]
          simp only [hb, Bool.false_eq_true, if_false]
        rw [e2, ← ih acc fun z hz => hy z (List.mem_cons_of_mem _ hz)]
        simp only [hb, Bool.false_eq_true, if_false]
        rfl
  have q := all scope.names [] h
  unfold closureFor
  first
    | exact q
    | (simp only [bind_pure]; exact q)
    | (refine Eq.trans ?_ q; rfl)
theorem clOf_sub {env : Env} {x : Str} {c : Addr} : ∀ {names : List (Str × NameKind)} {acc : List (Str × Addr)}, (∀ y ∈ names, y.2 = NameKind.free → ∃ c, env.cells.lookup y.1 = some c) → (acc.lookup x = some c → env.cells.lookup x = some c) →
    (clOf env names acc).lookup x = some c → env.cells.lookup x = some c
  | [], acc, _, ha, h => ha h
  | (n, k) :: r, acc, hn, ha, h => by
    have e : clOf env ((n, k) :: r) acc = clOf env r (if k == NameKind.free then (n, (env.cells.lookup n).getD 0) :: acc else acc) := rfl
    rw [e] at h
    refine clOf_sub (fun y hy => hn y (List.mem_cons_of_mem _ hy)) (fun q => ?_) h
    by_cases hk : k = NameKind.free
    · subst hk
      simp only [beq_self_eq_true, if_true, List.lookup_cons] at q
      obtain ⟨d, hd⟩ := hn (n, .free) List.mem_cons_self rfl
      have hd' : env.cells.lookup n = some d := hd
      split at q
      · rename_i hx
        have hx' : x = n := beq_iff_eq.mp hx
        rw [hd'] at q
        rw [hx', hd']
        exact q
      · exact ha q
    · have hb : (k == NameKind.free) = false := by simpa using hk
      simp only [hb, Bool.false_eq_true, if_false] at q
      exact ha q
theorem clOf_has {env : Env} {x : Str} : ∀ {names : List (Str × NameKind)} {acc : List (Str × Addr)}, ((∃ c, acc.lookup x = some c) ∨ (x, NameKind.free) ∈ names) → ∃ c, (clOf env names acc).lookup x = some c
  | [], acc, h => by
    rcases h with h | h
    · exact h
    · cases h
  | (n, k) :: r, acc, h => by
    have e : clOf env ((n, k) :: r) acc = clOf env r (if k == NameKind.free then (n, (env.cells.lookup n).getD 0) :: acc else acc) := rfl
    rw [e]
    refine clOf_has ?_
    by_cases hk : k = NameKind.free
    · subst hk
      simp only [beq_self_eq_true, if_true, List.lookup_cons]
      by_cases hx : x = n
      · left
        have hb : (x == n) = true := beq_iff_eq.mpr hx
        rw [hb]
        exact ⟨_, rfl⟩
      · have hb : (x == n) = false := beq_eq_false_iff_ne.mpr hx
        rw [hb]
        rcases h with h | h
        · exact .inl h
        · rcases List.mem_cons.mp h with q | q
          · cases q; exact absurd rfl hx
          · exact .inr q
    · have hb : (k == NameKind.free) = false := by simpa using hk
      simp only [hb, Bool.false_eq_true, if_false]
      rcases h with h | h
      · exact .inl h
      · rcases List.mem_cons.mp h with q | q
        · cases q; exact absurd rfl hk
        · exact .inr q
theorem cells_app : ∀ (names : List (Str × NameKind)) (n : Nat) (acc : List (Str × Addr)), cellsFrom n names acc = cellsFrom n names [] ++ acc
  | [], _, _ => rfl
  | (x, k) :: r, n, acc => by
    unfold cellsFrom
    split
    · rw [cells_app r (n + 1) ((x, n) :: acc), cells_app r (n + 1) [(x, n)], List.append_assoc]
      rfl
    · exact cells_app r n acc
theorem cells_kind {x : Str} {c : Addr} : ∀ {names : List (Str × NameKind)} {n : Nat}, (x, c) ∈ cellsFrom n names [] → (x, NameKind.cell) ∈ names
  | [], _, h => by cases h
  | (y, k) :: r, n, h => by
    unfold cellsFrom at h
    split at h
    · rename_i hk
      rw [cells_app] at h
      rcases List.mem_append.mp h with h | h
      · exact List.mem_cons_of_mem _ (cells_kind h)
      · have e := List.mem_singleton.mp h
        cases e
        rw [beq_iff_eq.mp hk]
        exact List.mem_cons_self
    · exact List.mem_cons_of_mem _ (cells_kind h)
theorem lookup_ex {α : Type} {x : Str} {c : α} : ∀ {l : List (Str × α)}, (x, c) ∈ l → ∃ d, l.lookup x = some d
  | [], h => by cases h
  | (y, d) :: r, h => by
    rw [List.lookup_cons]
    cases e : x == y with
    | true => exact ⟨d, rfl⟩
    | false =>
      rcases List.mem_cons.mp h with q | q
      · cases q
        simp at e
      · exact lookup_ex q
theorem cells_has {x : Str} : ∀ {names : List (Str × NameKind)} {n : Nat}, (x, NameKind.cell) ∈ names → ∃ c, (x, c) ∈ cellsFrom n names []
  | [], _, h => by cases h
  | (y, k) :: r, n, h => by
    unfold cellsFrom
    split
    · rw [cells_app]
      rcases List.mem_cons.mp h with q | q
      · cases q
        exact ⟨n, List.mem_append_right _ (by simp)⟩
      · obtain ⟨c, hc⟩ := cells_has (n := n + 1) q
        exact ⟨c, List.mem_append_left _ hc⟩
    · rename_i hk
      rcases List.mem_cons.mp h with q | q
      · cases q
        exact absurd rfl hk
      · exact cells_has q
noncomputable def compOk (outer scope : Scope) (xs fr : List Str) : Bool :=
  (scope.kind == .function) && (outer.kind == .function) && decide (scope.names.map (·.1)).Nodup
  && (scope.names.all fun y => y.2 != .local || scope.names.lookup y.1 == some .local)
  && (scope.names.all fun y => y.2 != .free || (outer.names.lookup y.1 == some .cell || outer.names.lookup y.1 == some .free))
  && (scope.names.all fun y => y.2 != .free || scope.names.lookup y.1 == some .free)
  && (xs.all fun x => scope.names.lookup x == some .local || scope.names.lookup x == some .cell) && (fr.all fun x => scope.names.lookup x == some .free) && decide (xs ++ fr).Nodup
theorem lookup_mem {α : Type} {x : Str} {v : α} : ∀ {l : List (Str × α)}, l.lookup x = some v → (x, v) ∈ l
  | [], h => by cases h
  | (n, k) :: r, h => by
    rw [List.lookup_cons] at h
    split at h
    · rename_i hx
      have hx' : x = n := beq_iff_eq.mp hx
      cases h
      rw [hx']
      exact List.mem_cons_self
    · exact List.mem_cons_of_mem _ (lookup_mem h)
theorem lookup_relabel {scope : Scope} {env : Env} {x : Str} {k : NameKind} (hk : env.scope.kind = .function) : ∀ {names : List (Str × NameKind)}, names.lookup x = some k →
    (names.map fun (n, k) => if (k == NameKind.free && env.scope.kind == .function && env.kindOf n == some .cell) then (n, NameKind.cell) else (n, k)).lookup x = some (if (k == NameKind.free && env.kindOf x == some .cell) then .cell else k)
  | [], h => by cases h
  | (n, j) :: r, h => by
    have ih := @lookup_relabel scope env x k hk r
    rw [List.map_cons]
    rw [List.lookup_cons] at h
    dsimp only
    split at h
    · rename_i hx
      have hx' : x = n := beq_iff_eq.mp hx
      cases h
      subst hx'
      by_cases hc : (k == NameKind.free && env.scope.kind == .function && env.kindOf x == some .cell) = true
      · have hc2 : (k == NameKind.free && env.kindOf x == some .cell) = true := by
          rw [Bool.and_eq_true, Bool.and_eq_true] at hc
          rw [Bool.and_eq_true]
          exact ⟨hc.1.1, hc.2⟩
        rw [if_pos hc, if_pos hc2, List.lookup_cons, beq_self_eq_true]
      · have hc2 : ¬ (k == NameKind.free && env.kindOf x == some .cell) = true := fun q => hc (by
          rw [Bool.and_eq_true] at q
          rw [Bool.and_eq_true, Bool.and_eq_true, hk]
          exact ⟨⟨q.1, rfl⟩, q.2⟩)
        rw [if_neg hc, if_neg hc2, List.lookup_cons, beq_self_eq_true]
    · rename_i hx
      have hx' : (x == n) = false := by simpa using hx
      by_cases hc : (j == NameKind.free && env.scope.kind == .function && env.kindOf n == some .cell) = true
      · rw [if_pos hc, List.lookup_cons, hx']
        exact ih h
      · rw [if_neg hc, List.lookup_cons, hx']
        exact ih h
theorem of_lookup_relabel {env : Env} {x : Str} {k : NameKind} : ∀ {names : List (Str × NameKind)},
    (names.map fun (n, k) => if (k == NameKind.free && env.scope.kind == .function && env.kindOf n == some .cell) then (n, NameKind.cell) else (n, k)).lookup x = some k →
    ∃ j, names.lookup x = some j ∧ (k = j ∨ (j = .free ∧ k = .cell))
  | [], h => by cases h
  | (n, j) :: r, h => by
    have ih := @of_lookup_relabel env x k r
    rw [List.map_cons] at h
    dsimp only at h
    by_cases hc : (j == NameKind.free && env.scope.kind == .function && env.kindOf n == some .cell) = true
    · rw [if_pos hc, List.lookup_cons] at h
      have hj : j = .free := by
        rw [Bool.and_eq_true, Bool.and_eq_true] at hc
        exact beq_iff_eq.mp hc.1.1
      rw [List.lookup_cons]
      split at h
      · rename_i hx
        cases h
        exact ⟨j, rfl, .inr ⟨hj, rfl⟩⟩
      · rename_i hx
        have hx' : (x == n) = false := by simpa using hx
        exact ih h
    · rw [if_neg hc, List.lookup_cons] at h
      rw [List.lookup_cons]
      split at h
      · rename_i hx
        cases h
        exact ⟨_, rfl, .inl rfl⟩
      · rename_i hx
        have hx' : (x == n) = false := by simpa using hx
        exact ih h
structure CompS (X : Cx) (scope : Scope) (xs fr : List Str) : Prop where
  kind : scope.kind = .function
  okind : X.env.scope.kind = .function
  uniq : (scope.names.map (·.1)).Nodup
  names : ∀ y ∈ scope.names, y.2 = .local → scope.names.lookup y.1 = some .local
  free : ∀ y ∈ scope.names, y.2 = .free → X.env.kindOf y.1 = some .cell ∨ X.env.kindOf y.1 = some .free
  own : ∀ x ∈ xs, scope.names.lookup x = some .local ∨ scope.names.lookup x = some .cell
  fre : ∀ x ∈ fr, scope.names.lookup x = some .free
  nd : (xs ++ fr).Nodup
theorem compS_of {X : Cx} {scope : Scope} {xs fr : List Str} (h : compOk X.env.scope scope xs fr = true) : CompS X scope xs fr := by
  unfold compOk at h
  simp only [Bool.and_eq_true, List.all_eq_true, bne_iff_ne, Bool.or_eq_true, beq_iff_eq, decide_eq_true_eq] at h
  obtain ⟨⟨⟨⟨⟨⟨⟨⟨h1, h2⟩, h3⟩, h4⟩, h5⟩, h6⟩, h7⟩, h8⟩, h9⟩ := h
  exact ⟨h1, h2, h3, fun y hy e => (h4 y hy).resolve_left (fun q => q e), fun y hy e => (h5 y hy).resolve_left (fun q => q e), h7, h8, h9⟩
noncomputable def pick (σ : St) (js : List Nat) : St := js.map fun j => (σ[j]?).getD none
noncomputable abbrev cxC (X : Cx) (scope : Scope) (xs fr : List Str) (C : Addr) (ex : List Addr) (s₀ : Shared) (H₀ : Hp) : Cx :=
  { X with N := xs ++ fr, env := compEnvC scope (cellsFrom (C + 1) scope.names (clOf X.env scope.names [])) C X.env, s₀ := s₀, H₀ := H₀, outer := X.stack, ex := ex, fn := fun x => scope.names.lookup x == some .cell, pn := [], xe := fun _ _ => False }
section
variable {X : Cx} {scope : Scope} {xs fr : List Str} {pins : List (Addr × Obj)} {σ : St} {H : Hp} {s : Shared} {js : List Nat} {fp : List Addr}
theorem lookup_nd {α : Type} {x : Str} {v : α} : ∀ {l : List (Str × α)}, (l.map (·.1)).Nodup → (x, v) ∈ l → l.lookup x = some v
  | [], _, h => by cases h
  | (y, d) :: r, hn, h => by
    obtain ⟨h1, h2⟩ := List.nodup_cons.mp hn
    rw [List.lookup_cons]
    rcases List.mem_cons.mp h with q | q
    · cases q
      rw [beq_self_eq_true]
    · have hne : (x == y) = false := beq_eq_false_iff_ne.mpr fun e => h1 (e ▸ List.mem_map.mpr ⟨(x, v), q, rfl⟩)
      rw [hne]
      exact lookup_nd h2 q
theorem CompS.cells (S : CompS X scope xs fr) (ok : X.Ok) : ∀ y ∈ scope.names, y.2 = NameKind.free → ∃ c, X.env.cells.lookup y.1 = some c := fun y hy e => ok.has _ (S.free y hy e)
theorem block_in (S : CompS X scope xs fr) (hjs : js.map (fun j => X.N[j]?) = fr.map some) (I : Inv X pins σ H s) (hfp : ∀ b ∈ fp, FpOk X pins H b) (hob : ∀ b ∈ fp, ∃ o, s.heap.get? b = some o) {h' : Heap} {t' : Nat}
    (hn : h'.Ns s.heap.objs.size fun _ => none) (keep : ∀ b o, s.heap.get? b = some o → h'.get? b = some o) (hcs : CellsOk h' (s.heap.objs.size + 1) (cellsFrom (s.heap.objs.size + 1) scope.names [])) :
    Inv (cxC X scope xs fr s.heap.objs.size fp s H) [] (List.replicate xs.length none ++ pick σ js) H { s with heap := h', toks := t' } := by
  have hcl := S.cells I.ok
  have sub : ∀ x c, (clOf X.env scope.names []).lookup x = some c → X.env.cells.lookup x = some c := fun x c h => clOf_sub hcl (fun q => by cases q) h
  have hl : js.length = fr.length := by have := congrArg List.length hjs; rwa [List.length_map, List.length_map] at this
  have two : ∀ x c, (cellsFrom (s.heap.objs.size + 1) scope.names (clOf X.env scope.names [])).lookup x = some c → (x, c) ∈ cellsFrom (s.heap.objs.size + 1) scope.names [] ∨ (clOf X.env scope.names []).lookup x = some c := fun x c h => by
    rw [cells_app, List.lookup_append] at h
    cases e : (cellsFrom (s.heap.objs.size + 1) scope.names []).lookup x with
    | some d =>
      rw [e] at h
      cases h
      exact .inl (lookup_mem e)
    | none =>
      rw [e] at h
      exact .inr h
  have oldc : ∀ x c, X.env.cells.lookup x = some c → c < s.heap.objs.size := fun x c h => let ⟨_, _, ho, _⟩ := I.cell x c h; Heap.lt_size ho
  have newc : ∀ x c, (x, c) ∈ cellsFrom (s.heap.objs.size + 1) scope.names [] → s.heap.objs.size < c := fun x c h => (hcs.empty x c h).2
  refine ⟨⟨I.ok.mod, S.kind, I.ok.glob, I.ok.blt, Nat.le_refl _, fun x y c h1 h2 => ?_, fun x hx => ?_, fun x c hf h => ?_, I.ok.hd, I.ok.frames, .inl rfl, fun b hb => ?_, fun b o e => I.bs b o e, Nat.le_trans I.ok.bsz I.sz, fun b o e hb => ?_, fun b hb hb2 => ?_, I.stack, I.stkFree⟩,
    rfl, I.bare, Un.kept keep, ⟨_, hn, fun i x v e1 e2 e3 => ?_⟩, fun x c h => ?_, I.hok.fresh (Nat.le_refl _), fun x c h => ?_, fun p hp => absurd (show p ∈ ([] : List (Addr × Obj)) from hp) (by simp), I.hok.kept keep, ?_⟩
  · rcases two x c h1 with g1 | g1
    · rcases two y c h2 with g2 | g2
      · exact name_of_addr hcs.apart g1 g2
      · exact absurd (oldc y c (sub y c g2)) (Nat.not_lt.mpr (Nat.le_of_lt (newc x c g1)))
    · rcases two y c h2 with g2 | g2
      · exact absurd (oldc x c (sub x c g1)) (Nat.not_lt.mpr (Nat.le_of_lt (newc y c g2)))
      · exact I.ok.inj x y c (sub x c g1) (sub y c g2)
  · -- the names that are cells there have one
    have hx : (relabel scope X.env).names.lookup x = some .cell ∨ (relabel scope X.env).names.lookup x = some .free := hx
    have app : ∀ c, (clOf X.env scope.names []).lookup x = some c ∨ (x, c) ∈ cellsFrom (s.heap.objs.size + 1) scope.names [] → ∃ c, (cellsFrom (s.heap.objs.size + 1) scope.names (clOf X.env scope.names [])).lookup x = some c := fun c h => by
      rw [cells_app, List.lookup_append]
      rcases h with h | h
      · cases (cellsFrom (s.heap.objs.size + 1) scope.names []).lookup x with
        | some d => exact ⟨d, rfl⟩
        | none => exact ⟨c, h⟩
      · obtain ⟨d, hd⟩ := lookup_ex h
        rw [hd]
        exact ⟨d, rfl⟩
    have go : ∀ k, (relabel scope X.env).names.lookup x = some k → (k = .cell ∨ k = .free) → ∃ c, (cellsFrom (s.heap.objs.size + 1) scope.names (clOf X.env scope.names [])).lookup x = some c := fun k e hk => by
      obtain ⟨j, hj, q⟩ := of_lookup_relabel (env := X.env) (names := scope.names) e
      have hm := lookup_mem hj
      have hjf : j = .free ∨ j = .cell := by
        rcases q with q | q
        · rcases hk with hk | hk
          · exact .inr (q ▸ hk)
          · exact .inl (q ▸ hk)
        · exact .inl q.1
      rcases hjf with hjf | hjf
      · subst hjf
        obtain ⟨c, hc⟩ := clOf_has (env := X.env) (x := x) (names := scope.names) (acc := []) (.inr hm)
        exact app c (.inl hc)
      · subst hjf
        obtain ⟨c, hc⟩ := cells_has (n := s.heap.objs.size + 1) hm
        exact app c (.inr hc)
    rcases hx with hx | hx
    · exact go _ hx (.inl rfl)
    · exact go _ hx (.inr rfl)
  · rcases two x c h with g | g
    · exact Nat.le_of_lt (newc x c g)
    · have hf' : scope.names.lookup x = some .cell := by simpa using hf
      obtain ⟨d, hd⟩ := cells_has (n := s.heap.objs.size + 1) (lookup_mem hf')
      have h' := h
      obtain ⟨e, he⟩ := lookup_ex hd
      have h' : (cellsFrom (s.heap.objs.size + 1) scope.names (clOf X.env scope.names [])).lookup x = some c := h
      rw [cells_app, List.lookup_append, he] at h'
      cases h'
      exact Nat.le_of_lt (newc x _ (lookup_mem he))
  · obtain ⟨f0, f1, f2, f3, f4, f5⟩ := hfp b hb
    obtain ⟨o, ho⟩ := hob b hb
    refine ⟨Nat.ne_of_lt (Heap.lt_size ho), fun x c h z => ?_⟩
    rcases two x c h with g | g
    · have h1 := newc x c g
      have h2 := Heap.lt_size ho
      rw [← z] at h2
      exact absurd h1 (Nat.not_lt.mpr (Nat.le_of_lt h2))
    · exact f4 x c (sub x c g) z
  · obtain ⟨f0, f1, f2, f3, f4, f5⟩ := hfp b hb
    rcases f3 with f3 | f3
    · exact I.ok.noex b o e f3
    · exact absurd (Nat.lt_of_lt_of_le (Heap.lt_size (I.ok.bs b o e).1) f3) (Nat.lt_irrefl _)
  · obtain ⟨f0, f1, f2, f3, f4, f5⟩ := hfp b hb
    rcases List.mem_cons.mp (I.stkSub b hb2) with z | z
    · exact f1 z
    · exact f2 z
  · have e1 : (xs ++ fr)[i]? = some x := e1
    by_cases hi : i < xs.length
    · rw [List.getElem?_append_left (by rw [List.length_replicate]; exact hi), List.getElem?_replicate, if_pos hi] at e2
      cases e2
    · have hi' : xs.length ≤ i := Nat.le_of_not_lt hi
      rw [List.getElem?_append_right hi'] at e1
      rw [List.getElem?_append_right (by rw [List.length_replicate]; exact hi'), List.length_replicate] at e2
      unfold pick at e2
      rw [List.getElem?_map] at e2
      cases ej : js[i - xs.length]? with
      | none => rw [ej] at e2; cases e2
      | some j =>
        rw [ej] at e2
        have e2' : (σ[j]?).getD none = some v := Option.some.inj e2
        have e4 : σ[j]? = some (some v) := by
          cases q : σ[j]? with
          | none => rw [q] at e2'; cases e2'
          | some o => rw [q] at e2'; rw [show o = some v from e2']
        have e5 : X.N[j]? = some x := by
          have := congrArg (fun l => l[i - xs.length]?) hjs
          rw [List.getElem?_map, List.getElem?_map, ej, e1] at this
          exact Option.some.inj this
        have hf := S.fre x (List.mem_of_getElem? e1)
        have hk := S.free _ (lookup_mem hf) rfl
        obtain ⟨m, hm, hl'⟩ := I.loc
        obtain ⟨u, r, lk⟩ := hl' j x v e5 e4 (.inr hk)
        refine ⟨u, r, .inr ⟨?_, ?_⟩⟩
        · have q := lookup_relabel (scope := scope) (env := X.env) S.okind hf
          show (relabel scope X.env).names.lookup x = some .cell ∨ (relabel scope X.env).names.lookup x = some .free
          have q' : (relabel scope X.env).names.lookup x = some (if (NameKind.free == NameKind.free && X.env.kindOf x == some .cell) then .cell else .free) := q
          by_cases hc : (NameKind.free == NameKind.free && X.env.kindOf x == some .cell) = true
          · rw [if_pos hc] at q'; exact .inl q'
          · rw [if_neg hc] at q'; exact .inr q'
        · obtain ⟨c', hc'⟩ := clOf_has (env := X.env) (x := x) (names := scope.names) (acc := []) (.inr (lookup_mem hf))
          rcases lk with ⟨z, _⟩ | ⟨_, c, hc, ob, ho, hd⟩
          · rcases hk with hk | hk
            · rw [z] at hk; cases hk
            · rw [z] at hk; cases hk
          · have e6 : c = c' := by
              have := sub x c' hc'
              rw [hc] at this
              exact Option.some.inj this
            subst e6
            refine ⟨_, ?_, ob, keep _ _ ho, hd⟩
            show (cellsFrom (s.heap.objs.size + 1) scope.names (clOf X.env scope.names [])).lookup x = some c
            rw [cells_app, List.lookup_append]
            have none' : (cellsFrom (s.heap.objs.size + 1) scope.names []).lookup x = none := by
              cases e : (cellsFrom (s.heap.objs.size + 1) scope.names []).lookup x with
              | none => rfl
              | some d =>
                have := lookup_nd S.uniq (cells_kind (lookup_mem e))
                rw [hf] at this
                cases this
            rw [none']
            exact hc'
  · rcases two x c h with g | g
    · exact ⟨_, (hcs.empty x c g).1⟩
    · obtain ⟨v, ob, ho, hd⟩ := I.cell x c (sub x c g)
      exact ⟨v, ob, keep _ _ ho, hd⟩
  · rcases two x c h with g | g
    · exact I.hok.fresh (Nat.le_of_lt (newc x c g))
    · exact I.freeC x c (sub x c g)
  · show _ = (xs ++ fr).length
    unfold pick
    rw [List.length_append, List.length_append, List.length_replicate, List.length_map, hl]
theorem new_block {M : Model} {A : Around} {E : Value → Shared → Prop} {s : Shared} {scope : Scope} {globals : Addr} {cl : List (Str × Addr)} {qual : Str} {env : Env} {Q : Env → Shared → Prop}
    (hQ : ∀ h', h'.Ns s.heap.objs.size (fun _ => none) → (∀ b o, s.heap.get? b = some o → h'.get? b = some o) → CellsOk h' (s.heap.objs.size + 1) (cellsFrom (s.heap.objs.size + 1) scope.names []) →
      Q (newEnv scope s.heap.objs.size globals (cellsFrom (s.heap.objs.size + 1) scope.names cl) qual none .none (some env) builtinsNs) { s with heap := h' }) :
    wpAny M A (newFunctionEnv scope globals cl [] qual none .none (some env)) Q E s := by
  simp only [newFunctionEnv, Option.isSome_some, if_true]
  refine wpAny_bind (wpAny_alloc ?_)
  refine wpAny_bind (wpAny_layCells _ (fun name kind cells => by cases hkc : kind == NameKind.cell <;> simp [hkc]) _ _ _ _ ?_)
  have okc := cellsFrom_ok scope.names (s.heap.push { cls := .type "dict", data := .dict #[] }) (s.heap.objs.size + 1) [] ⟨fun _ _ hm => (nomatch hm), List.Pairwise.nil⟩ (by rw [Heap.size_push]; exact Nat.le_refl _)
  rw [Heap.size_push] at okc
  rw [show ({ s with heap := s.heap.push { cls := .type "dict", data := .dict #[] } } : Shared).heap.objs.size = s.heap.objs.size + 1 from Heap.size_push ..]
  rw [List.forIn_nil]
  exact wpAny_bind (wpAny_pure (wpAny_pure (hQ _ ((Heap.Ns.new s.heap (.type "dict")).keeps (pushCells_keeps _ _)) (fun b o e => pushCells_keeps _ _ b o (Heap.get?_push_of_some _ e)) okc)))
theorem block_out {σ' : St} {H' : Hp} {s' : Shared} {h'' : Heap} (I : Inv X pins σ H s) (hfp : ∀ b ∈ fp, FpOk X pins H b) (J : Inv (cxC X scope xs fr s.heap.objs.size fp s H) [] σ' H' s') (hs : Heap.SameBut s.heap.objs.size s'.heap h'') :
    Inv X pins σ H' { s' with heap := h'' } := by
  have old : ∀ b o, s.heap.get? b = some o → b ≠ s.heap.objs.size := fun b o e => Nat.ne_of_lt (Heap.lt_size e)
  have ub : Un (frs X.stack) fp H H' s.heap s'.heap := J.base
  refine I.call' (s' := { s' with heap := h'' }) (ch := fp) J.os ⟨fun b o e n hb hx => (hs.2 b (old b o e)).trans (ub.keep b o e n hb hx), fun b o e n hb hx => ?_, ub.free, fun b o e hx => ?_, ub.tups, ub.frzs, ub.tbls⟩ (fun b o e => ?_) J.bare fun b hb => ?_
  · obtain ⟨sl, e1⟩ := ub.slot b o e n hb hx
    exact ⟨sl, (hs.2 b (old b o e)).trans e1⟩
  · obtain ⟨o', e1⟩ := ub.there b o e hx
    exact ⟨o', (hs.2 b (old b o e)).trans e1⟩
  · have hf : H' s.heap.objs.size = none := J.free
    refine (J.hok b o e).stay (fun c v hc q => (hs.2 c ?_).trans q) (fun _ q => q) fun _ _ q => q
    intro z
    rcases hc with hc | hc
    · rw [← hc, z, hf] at e; cases e
    · rw [z, hf] at hc; cases hc
  · obtain ⟨f0, f1, f2, f3, f4, f5⟩ := hfp b hb
    exact ⟨f3, f1, f4, f5⟩
noncomputable def PIf (X : Cx) (ifs : List Expr) (t : TT) : Prop :=
  ∀ (pins : List (Addr × Obj)) (s : Shared) (σ : St) (H : Hp) (Q : Bool → Hp → Prop) (E : Value → Shared → Prop), (∀ e s', X.xe e s' → E e s') → Inv X pins σ H s → t σ H Q →
    wpAny (model X.prog X.w) X.A (forIn ifs true fun c r => if r = true then do let ok ← isTrue c X.env (eval c X.env); pure (ForInStep.yield ok) else pure (ForInStep.yield r)) (TP X pins σ Q) E s
noncomputable def tTrue : TT := fun _ H Q => Q true H
theorem pif_nil : PIf X [] tTrue := fun _ _ _ H _ _ _ I h => wpAny_tests_nil ⟨H, I, h⟩
theorem pif_one {c : Expr} {t : TT} (hc : PT X c t) : PIf X [c] t := fun pins s σ H Q _ hE I h => wpAny_tests_one (wpAny_mono (hc pins s σ H Q I h) (fun _ _ z => z) hE)
noncomputable def tComp (k : Nat) (js : List Nat) (wi : TI) (g : TG) (tt : TT) (te : TE) : TE := fun σ H Q => wi σ H fun J H1 => ∀ p, H1 p = none →
  ∃ W : Nat → Nat → Hp → Prop, (∃ m, W 0 m (upd H1 p (.lst []))) ∧ ∀ i m H, W i m H →
    (J.stop i H ∧ Q (.ref p) H) ∨ (J.go i H ∧ ∃ N : Hp → Prop, (∀ H', N H' → ∃ m', m' < m ∧ W (i + 1) m' H') ∧
      ∀ x H', J.yld i H x H' → g x (List.replicate k none ++ pick σ js) H' fun σ2 H2 => tt σ2 H2 fun b H3 =>
        if b = true then te σ2 H3 fun y H4 => ∃ acc, H4 p = some (.lst acc) ∧ acc.length < sizeLine ∧ N (upd H4 p (.lst (acc ++ [y]))) else N H3)
theorem comp_loop {tg elt iter : Expr} {ifs : List Expr} {pos : Pos} {it acc : Value} {env : Env} {A : Around} {R : Result → Shared → Prop} {s : Shared} {P : Program} {w : World} (I : Nat → Shared → Prop)
    (turn : ∀ n s, I n s → wpAny (model P w) A (pyNext it) (fun r s₁ => match r with
      | none => R (.ok .next) s₁
      | some v => wpAny (model P w) A (letOwnedTupleGo tg it v) (fun _ s₁' => wpAny (model P w) A (assign tg env v) (fun _ s₂ =>
          wpAny (model P w) A (forIn ifs true fun c r => if r = true then do let ok ← isTrue c env (eval c env); pure (ForInStep.yield ok) else pure (ForInStep.yield r)) (fun ok s₃ =>
            if ok = true then wpAny (model P w) A (eval elt env) (fun x s₄ =>
              wpAny (model P w) A (call (.builtin "list.append") [acc, x]) (fun _ s₅ => ∃ m, m < n ∧ I m s₅) (fun _ _ => False) s₄) (fun _ _ => False) s₃
            else ∃ m, m < n ∧ I m s₃) (fun _ _ => False) s₂) (fun _ _ => False) s₁') (fun _ _ => False) s₁) (fun _ _ => False) s)
    (n : Nat) (h : I n s) : codeAny (model P w) A (.compLoop (.ListComp elt [⟨tg, iter, ifs, 0⟩] scope pos) 0 it acc env) R s := by
  refine codeAny_loop rfl I (fun n s hI => ?_) n h
  show wpAny _ A ((compTurn (.ListComp elt [⟨tg, iter, ifs, 0⟩] scope pos) 0 it acc env).onRaise (fun x => do noteFrame x env; theTreesLotGoes x)) _ _ s
  refine wpAny_noted ?_
  rw [compTurn_list]
  refine wpAny_bind (wpAny_standAt (wpAny_bind (wpAny_mono (turn n s hI) (fun r s₁ h₁ => ?_) fun _ _ h' => h'.elim)))
  cases r with
  | none => exact wpAny_pure h₁
  | some v =>
    refine wpAny_bind (wpAny_mono h₁ (fun _ s₁' h₁' => ?_) fun _ _ h' => h'.elim)
    refine wpAny_bind (wpAny_mono h₁' (fun _ s₂ h₂ => wpAny_bind (wpAny_mono h₂ (fun ok s₃ h₃ => ?_) fun _ _ h' => h'.elim)) fun _ _ h' => h'.elim)
    cases ok with
    | false => exact wpAny_pure ⟨rfl, h₃⟩
    | true =>
      exact wpAny_bind (wpAny_bind (wpAny_mono h₃ (fun x s₄ h₄ => wpAny_bind (wpAny_mono h₄ (fun _ s₅ h₅ => wpAny_pure (wpAny_pure ⟨rfl, h₅⟩)) fun _ _ h' => h'.elim)) fun _ _ h' => h'.elim))
noncomputable def GKeep (n : Nat) (g : TG) : Prop := ∀ x σ H Q, g x σ H Q → g x σ H fun σ' H' => (∀ k, n ≤ k → σ'[k]? = σ[k]?) ∧ Q σ' H'
noncomputable def GsKeep (n : Nat) (g : TGs) : Prop := ∀ vs σ H Q, g vs σ H Q → g vs σ H fun σ' H' => (∀ k, n ≤ k → σ'[k]? = σ[k]?) ∧ Q σ' H'
theorem gk_name {n i : Nat} (h : i < n) : GKeep n (gName i) := fun x σ H Q q => ⟨fun k hk => List.getElem?_set_ne (by omega), q⟩
theorem gk_nil {n : Nat} : GsKeep n gNil := fun vs σ H Q ⟨e, q⟩ => ⟨e, fun _ _ => rfl, q⟩
theorem gk_cons {n i : Nat} {u : TGs} (h : i < n) (hu : GsKeep n u) : GsKeep n (gCons (gName i) u) := fun vs σ H Q ⟨v, r, e, q⟩ => by
  refine ⟨v, r, e, ?_⟩
  have q' : u r (σ.set i (some v)) H Q := q
  show u r (σ.set i (some v)) H _
  have z := hu _ _ _ _ q'
  have e2 : (fun (σ' : St) (H' : Hp) => (∀ k, n ≤ k → σ'[k]? = (σ.set i (some v))[k]?) ∧ Q σ' H') = fun σ' H' => (∀ k, n ≤ k → σ'[k]? = σ[k]?) ∧ Q σ' H' := by
    funext σ' H'
    have e3 : (∀ k, n ≤ k → σ'[k]? = (σ.set i (some v))[k]?) = ∀ k, n ≤ k → σ'[k]? = σ[k]? := by
      refine propext ⟨fun f k hk => ?_, fun f k hk => ?_⟩
      · rw [f k hk, List.getElem?_set_ne (by omega)]
      · rw [f k hk, List.getElem?_set_ne (by omega)]
    rw [e3]
  rw [e2] at z
  exact z
theorem gk_tup {K : PySem.W.Frag} {n m : Nat} {u : TGs} (hu : GsKeep n u) : GKeep n (gTup K m u) := fun x σ H Q ⟨a, xs, e, hq, hl, q⟩ => ⟨a, xs, e, hq, hl, hu _ _ _ _ q⟩
theorem comp_run {tg elt iter : Expr} {ifs : List Expr} {pos : Pos} {g : TG} {tt : TT} {te : TE} (hc : X.calm = true) (S : CompS X scope xs fr) (hjs : js.map (fun j => X.N[j]?) = fr.map some)
    (hg : ∀ C ex s₀ H₀, PG (cxC X scope xs fr C ex s₀ H₀) tg g) (hk : GKeep xs.length g) (hi : ∀ C ex s₀ H₀, PIf (cxC X scope xs fr C ex s₀ H₀) ifs tt) (he : ∀ C ex s₀ H₀, PE (cxC X scope xs fr C ex s₀ H₀) elt te)
    {s2 : Shared} {H1 : Hp} {R : Value → Addr → Result → Shared → Prop} {Q : VK} {it : Addr} {tn : Nat → Heap → Prop} {J : It} (I : Inv X pins σ H1 s2) (T : Turn X.prog X.w X.K tg J fp it tn) (st : tn 0 s2.heap) (hfp : ∀ b ∈ fp, FpOk X pins H1 b)
    (hq : ∀ p, H1 p = none → ∃ W : Nat → Nat → Hp → Prop, (∃ m, W 0 m (upd H1 p (.lst []))) ∧ ∀ i m H, W i m H →
      (J.stop i H ∧ Q (.ref p) H) ∨ (J.go i H ∧ ∃ N : Hp → Prop, (∀ H', N H' → ∃ m', m' < m ∧ W (i + 1) m' H') ∧
        ∀ x H', J.yld i H x H' → g x (List.replicate xs.length none ++ pick σ js) H' fun σ2 H2 => tt σ2 H2 fun b H3 =>
          if b = true then te σ2 H3 fun y H4 => ∃ acc, H4 p = some (.lst acc) ∧ acc.length < sizeLine ∧ N (upd H4 p (.lst (acc ++ [y]))) else N H3))
    (hR : ∀ (p C : Addr) (s' : Shared) (H' : Hp), (∃ m, s'.heap.Ns C m) → FpOk X pins H' C → Inv X pins σ H' s' → Q (.ref p) H' → R (.ref p) C (.ok .next) s') :
    wpAny (model X.prog X.w) X.A (newList []) (fun acc s₃ => wpAny (model X.prog X.w) X.A (newFunctionEnv scope X.env.globals (clOf X.env scope.names []) [] X.env.qual none .none (some X.env)) (fun cenv s₄ =>
      codeAny (model X.prog X.w) X.A (.compStart (.ListComp elt [⟨tg, iter, ifs, 0⟩] scope pos) 0 (.ref it) acc { cenv with scope := relabel scope X.env }) (R acc cenv.locals) s₄) X.xe s₃) X.xe s2 := by
  refine wpAny_newObj_type ?_ (by show 0 ≤ sizeLine; exact Nat.zero_le _)
  have hn0 : H1 s2.heap.objs.size = none := I.hok.fresh (Nat.le_refl _)
  have I3 : Inv X pins σ (upd H1 s2.heap.objs.size (.lst [])) { s2 with heap := s2.heap.push { cls := .type "list", data := .seq ([] : List Value).toArray } } := I.laid (t' := s2.toks) (fun b u e => Heap.get?_push_of_some _ e) (Nat.le_refl _) ⟨Nat.zero_le _, [], 0, .nil, Heap.get?_push_size _ rfl⟩
  obtain ⟨W, ⟨m0, w0⟩, turn⟩ := hq _ hn0
  have hob : ∀ b ∈ fp, ∃ o, s2.heap.get? b = some o := fun b hb => let ⟨o, e, _⟩ := T.obj _ _ st b hb; ⟨o, e⟩
  have hfp3 : ∀ b ∈ fp, FpOk X pins (upd H1 s2.heap.objs.size (.lst [])) b := fun b hb => by
    obtain ⟨f0, f⟩ := hfp b hb
    obtain ⟨o, e⟩ := hob b hb
    exact ⟨by rw [upd_ne (Nat.ne_of_lt (Heap.lt_size e))]; exact f0, f⟩
  have hob3 : ∀ b ∈ fp, ∃ o, (s2.heap.push { cls := .type "list", data := .seq ([] : List Value).toArray }).get? b = some o := fun b hb => let ⟨o, e⟩ := hob b hb; ⟨o, Heap.get?_push_of_some _ e⟩
  have st3 : tn 0 (s2.heap.push { cls := .type "list", data := .seq ([] : List Value).toArray }) := T.keep _ _ _ st fun b _ o e => Heap.get?_push_of_some _ e
  generalize hs3 : ({ s2 with heap := s2.heap.push { cls := .type "list", data := .seq ([] : List Value).toArray } } : Shared) = s3 at I3 ⊢
  have st3' : tn 0 s3.heap := by rw [← hs3]; exact st3
  have hob3' : ∀ b ∈ fp, ∃ o, s3.heap.get? b = some o := by rw [← hs3]; exact hob3
  generalize hH3 : upd H1 s2.heap.objs.size (.lst []) = H3 at I3 hfp3 w0
  generalize hp0 : s2.heap.objs.size = p0 at turn ⊢
  refine new_block fun h₁ hns₁ hkp₁ hco₁ => ?_
  have I4 := block_in (t' := s3.toks) S hjs I3 hfp3 hob3' hns₁ hkp₁ hco₁
  have st4 : tn 0 h₁ := T.keep _ _ _ st3' fun b hb o e => hkp₁ b o e
  have loop : ∀ s₄ : Shared, Inv (cxC X scope xs fr s3.heap.objs.size fp s3 H3) [] (List.replicate xs.length none ++ pick σ js) H3 s₄ → tn 0 s₄.heap →
      codeAny (model X.prog X.w) X.A (.compLoop (.ListComp elt [⟨tg, iter, ifs, 0⟩] scope pos) 0 (.ref it) (.ref p0) (compEnvC scope (cellsFrom (s3.heap.objs.size + 1) scope.names (clOf X.env scope.names [])) s3.heap.objs.size X.env)) (R (.ref p0) s3.heap.objs.size) s₄ := by
    intro s₄ I4 st4
    have stat : ∀ {H' : Hp}, (∀ b ∈ fp, H' b = none) → ∀ b ∈ fp, FpOk (cxC X scope xs fr s3.heap.objs.size fp s3 H3) [] H' b := fun {H'} hn b hb => by
      obtain ⟨f0, f1, f2, f3, f4, f5⟩ := hfp3 b hb
      obtain ⟨o, e⟩ := hob3' b hb
      refine ⟨hn b hb, Nat.ne_of_lt (Heap.lt_size e), I4.ok.exfs b hb, .inl hb, fun x c h => (I4.ok.exf b hb).2 x c h, fun p hp => absurd (show p ∈ ([] : List (Addr × Obj)) from hp) (by simp)⟩
    refine comp_loop (fun n s' => ∃ i H', Inv (cxC X scope xs fr s3.heap.objs.size fp s3 H3) [] (List.replicate xs.length none ++ pick σ js) H' s' ∧ tn i s'.heap ∧ (∀ b ∈ fp, H' b = none) ∧ W i n H') ?_ m0 ⟨0, H3, I4, st4, fun b hb => (hfp3 b hb).1, w0⟩
    rintro n s5 ⟨i, H5, I5, st5, fr5, w5⟩
    rcases turn i n H5 w5 with ⟨stop, qn⟩ | ⟨go, N, hN, step⟩
    · refine thn (T.done (cxC X scope xs fr s3.heap.objs.size fp s3 H3) rfl rfl rfl hc i [] s5 _ H5 (fun _ _ => False) I5 (stat fr5) st5 stop) fun r s6 ⟨hr, I6⟩ => ?_
      subst hr
      obtain ⟨m6, n6, _⟩ := id I6.loc
      exact hR p0 s3.heap.objs.size s6 H5 ⟨m6, n6⟩ (I3.fpOk (Nat.le_refl _) I6.free) (block_out I3 hfp3 I6 (Heap.SameBut.refl ..)) qn
    · refine thn (T.item (cxC X scope xs fr s3.heap.objs.size fp s3 H3) rfl rfl rfl hc i [] s5 _ H5 (fun _ _ => False) I5 (stat fr5) st5 go) fun r s6 ⟨u, hr, h6⟩ => ?_
      subst hr
      refine thn h6 fun _ s7 ⟨x, H7, I7, r7, y7, st7, fr7⟩ => ?_
      have I7' := I7.pinned (stat fr7) (T.obj _ _ st7)
      refine thn (hg _ _ _ _ _ s7 _ H7 x u _ I7' r7 (hk _ _ _ _ (step x H7 y7))) fun _ s8 ⟨σ8, H8, I8, kp8, q8⟩ => ?_
      have again : ∀ {s9 : Shared} {H9 : Hp}, Inv (cxC X scope xs fr s3.heap.objs.size fp s3 H3) ([] ++ pinsAt fp s7.heap) σ8 H9 s9 → N H9 →
          ∃ m, m < n ∧ ∃ i H', Inv (cxC X scope xs fr s3.heap.objs.size fp s3 H3) [] (List.replicate xs.length none ++ pick σ js) H' s9 ∧ tn i s9.heap ∧ (∀ b ∈ fp, H' b = none) ∧ W i m H' := fun {s9 H9} I9 n9 => by
        obtain ⟨m', hm, w9⟩ := hN H9 n9
        refine ⟨m', hm, i + 1, H9, I9.unpinned.weak ?_ ?_, T.keep _ _ _ st7 fun b hb o e => (I9.pin (b, o) (List.mem_append_right _ (List.mem_append_right _ (mem_pinsAt hb e)))).1, fun b hb => ?_, w9⟩
        · rw [I9.len, I5.len]
        · intro k v hkv
          by_cases hx : k < xs.length
          · rw [List.getElem?_append_left (by rw [List.length_replicate]; exact hx), List.getElem?_replicate, if_pos hx] at hkv
            cases hkv
          · rw [kp8 k (Nat.le_of_not_lt hx)]
            exact hkv
        · obtain ⟨o, e, d⟩ := T.obj _ _ st7 b hb
          exact (I9.pin (b, o) (List.mem_append_right _ (List.mem_append_right _ (mem_pinsAt hb e)))).2.1
      refine wpAny_mono (hi _ _ _ _ _ s8 σ8 H8 _ (fun _ _ => False) (fun _ _ z => z) I8 q8) (fun ok s9 ⟨H9, I9, q9⟩ => ?_) fun _ _ z => z
      cases ok with
      | false =>
        rw [if_neg Bool.false_ne_true]
        rw [if_neg Bool.false_ne_true] at q9
        exact again I9 q9
      | true =>
        rw [if_pos rfl]
        rw [if_pos rfl] at q9
        refine thn (he _ _ _ _ _ s9 σ8 H9 _ I9 q9) fun uy s10 ⟨y, H10, I10, r10, acc, hacc, hz, n10⟩ => ?_
        refine thn (mt_append _ s10 σ8 H10 (.ref p0) [y] (.ref p0) [uy] (fun _ H11 => N H11) I10 rfl (.cons r10 .nil) ⟨p0, acc, y, rfl, rfl, hacc, hz, n10⟩) fun _ s11 ⟨_, H11, I11, _, n11⟩ => ?_
        exact again I11 n11
  exact codeAny_compStart_list (loop _ I4 st4) (T.self _ _ _ _ _ st4 (loop _ I4 st4))
theorem Inv.letgo {C : Addr} {h'' : Heap} (I : Inv X pins σ H s) (f : FpOk X pins H C) (hs : Heap.SameBut C s.heap h'') : Inv X pins σ H { s with heap := h'' } := by
  obtain ⟨f0, f1, f2, f3, f4, f5⟩ := f
  exact I.turned (t' := s.toks) (fun b o hb e => (hs.2 b hb).trans e) f0 f1 f3 f4 f5
theorem pe_comp {tg elt iter : Expr} {ifs : List Expr} {pos : Pos} {wi : TI} {g : TG} {tt : TT} {te : TE} (xs fr : List Str) (js : List Nat) (hc : X.calm = true) (hS : compOk X.env.scope scope xs fr = true) (hjs : js.map (fun j => X.N[j]?) = fr.map some) (hw : PI X tg iter wi)
    (hg : ∀ C ex s₀ H₀, PG (cxC X scope xs fr C ex s₀ H₀) tg g) (hk : GKeep xs.length g) (hi : ∀ C ex s₀ H₀, PIf (cxC X scope xs fr C ex s₀ H₀) ifs tt) (he : ∀ C ex s₀ H₀, PE (cxC X scope xs fr C ex s₀ H₀) elt te)
    (hs : ∀ x, foldedSetIterable iter X.env x = pure x := by intro _; with_unfolding_all rfl) :
    PE X (.ListComp elt [⟨tg, iter, ifs, 0⟩] scope pos) (tComp xs.length js wi g tt te) := by
  intro pins s σ H Q I h
  have S := compS_of hS
  rw [eval_ListComp]
  refine wpAny_comprehension_free (use := none) rfl hs (closure_is (S.cells I.ok)) S.kind S.names ?_
  refine thn (hw pins s σ H _ I h) fun v s1 h1 => thn h1 fun itv s2 h2 => ?_
  obtain ⟨it, fp, tn, J, H2, e, I2, T, st2, f2, q2⟩ := h2
  subst e
  refine comp_run (Q := Q) (R := fun acc C => compPost (model X.prog X.w) X.A X.xe none (EP X pins σ Q) acc C) hc S hjs hg hk hi he I2 T st2 f2 q2 ?_
  intro p C s' H' ⟨m, hn⟩ fC hI q
  exact ⟨m, hn, fun h'' hs'' => ⟨.ref p, H', hI.letgo fC hs'', rfl, q⟩⟩
theorem ps_setcomp {tg elt iter : Expr} {ifs : List Expr} {pos spos py : Pos} {wi : TI} {g : TG} {tt : TT} {te : TE} {i : Nat} {y : Str} (xs fr : List Str) (js : List Nat) (hc : X.calm = true) (hS : compOk X.env.scope scope xs fr = true) (hjs : js.map (fun j => X.N[j]?) = fr.map some)
    (hN : X.N.Nodup) (hi' : X.N[i]? = some y) (hy : X.env.scope.names.lookup y = some .local) (hw : PI X tg iter wi)
    (hg : ∀ C ex s₀ H₀, PG (cxC X scope xs fr C ex s₀ H₀) tg g) (hk : GKeep xs.length g) (hi : ∀ C ex s₀ H₀, PIf (cxC X scope xs fr C ex s₀ H₀) ifs tt) (he : ∀ C ex s₀ H₀, PE (cxC X scope xs fr C ex s₀ H₀) elt te)
    (hsw : swapsWith (.ListComp elt [⟨tg, iter, ifs, 0⟩] scope pos) (some (.Name y py)) spos.line X.env = pure true := by with_unfolding_all rfl)
    (hs : ∀ x, foldedSetIterable iter X.env x = pure x := by intro _; with_unfolding_all rfl) :
    PS X (.Assign [.Name y py] (.ListComp elt [⟨tg, iter, ifs, 0⟩] scope pos) spos) (tAsg (tComp xs.length js wi g tt te) (gName i)) := by
  intro pins s σ H D I h
  have S := compS_of hS
  rw [exec_Assign_Name_used _ _ _ _ hsw]
  refine wpAny_bind (wpAny_standAt (wpAny_bind ?_))
  show wpAny _ X.A (do let _ ← comprehension (.ListComp elt [⟨tg, iter, ifs, 0⟩] scope pos) scope X.env _ (newList []) false (eval iter X.env) (some (assign (.Name y py) X.env))) _ _ s
  refine wpAny_bind (wpAny_mono (wpAny_comprehension_free (use := some (assign (.Name y py) X.env)) (Q := fun _ s' => SP X pins D .next s') rfl hs (closure_is (S.cells I.ok)) S.kind S.names ?_) (fun _ s' hq => wpAny_pure (wpAny_pure hq)) fun _ _ e => e)
  refine thn (hw pins s σ H _ I h) fun v s1 h1 => thn h1 fun itv s2 h2 => ?_
  obtain ⟨it, fp, tn, J, H2, e, I2, T, st2, f2, q2⟩ := h2
  subst e
  refine comp_run (Q := fun x H1 => gName i x σ H1 D.nx) (R := fun acc C => compPost (model X.prog X.w) X.A X.xe (some (assign (.Name y py) X.env)) (fun _ s' => SP X pins D .next s') acc C) hc S hjs hg hk hi he I2 T st2 f2 q2 ?_
  intro p C s' H' ⟨m, hn⟩ fC I' q
  show wpAny _ X.A (assign (.Name y py) X.env (.ref p)) _ _ s'
  refine wpAny_assign_Name (store_ok2 I' hN hi' (.inl hy) (show RelV (.ref p) (.ref p) from rfl) (fun s'' I'' ⟨a, hs1, ha⟩ => ?_) (.inr hy))
  have hne : C ≠ a := by
    rcases ha with ha | ha
    · rw [ha]; exact fC.2.1
    · exact (fC.2.2.2.2.1 y a ha).symm
  exact ⟨m, hn.sameBut hs1 hne, fun h'' hs'' => ⟨_, H', I''.letgo fC hs'', q⟩⟩
end
end L2
set_option Elab.async false
set_option linter.all false
set_option maxRecDepth 100000
set_option maxHeartbeats 4000000
namespace L2
open PySem PySem.Spec PyProof.Rows
noncomputable def Its (x : Str) : It := ⟨fun i _ => i < x.cps.size, fun i H v H' => H' = H ∧ ∃ c, x.cps[i]? = some c ∧ v = .str ⟨#[c]⟩, fun i _ => x.cps.size ≤ i⟩
section
variable {X : Cx} {tg : Expr}
theorem turn_of {P : Program} {w : World} {K : PySem.W.Frag} {tg : Expr} {it : Addr} {n : Nat} {PV : Nat → Value → Prop} {val : Nat → V → Prop} {St : Nat → Heap → Prop} (W : ∀ A : Around, A.handled = none → Walks P w A it [it] [it] n PV St)
    (hself : ∀ (A : Around) (i : Nat) (s : Shared) (Q : Value → Shared → Prop) (E : Value → Shared → Prop), St i s.heap → Q (.ref it) s → wpAny (model P w) A (pyIter (.ref it)) Q E s)
    (hv : ∀ i u, PV i u → ∃ v, RelV v u ∧ val i v) (hto : ∀ i h, St i h → ∃ o T vs, h.get? it = some o ∧ o.cls = .type T ∧ o.data = .fields vs ∧ ["enumerate", "zip", "dict_itemiterator", "dict_reverseitemiterator", "odict_iterator", "itertools.zip_longest", "itertools.pairwise"].contains T = false) :
    Turn P w K tg ⟨fun i _ => i < n, fun i H v H' => H' = H ∧ val i v, fun i _ => n ≤ i⟩ [it] it (fun i h => St i h ∧ i ≤ n) where
  mem := by simp
  obj := fun i h st b hb => by
    have e : b = it := by simpa using hb
    subst e
    obtain ⟨o, T, vs, e1, e2, e3, e4⟩ := hto i h st.1
    exact ⟨o, e1, fun v z => by rw [e3] at z; cases z⟩
  keep := fun i h h' st k => ⟨(W { handled := none } rfl).frame i h h' st.1 k, st.2⟩
  item := by
    intro X hP hw hK hc i pins s σ H E I hf st hg
    subst hP hw hK
    obtain ⟨f0, f1, f2, f3, f4, f5⟩ := hf it (by simp)
    refine (W X.A (I.ok.hd hc)).item i s _ _ hg st.1 fun u h' tk hp st' kk => ?_
    obtain ⟨v, rv, vv⟩ := hv i u hp
    have I1 : Inv X pins σ H { s with heap := h', toks := tk } := I.turned (fun b o hb e => kk b o (by simpa using hb) e) f0 f1 f3 f4 f5
    obtain ⟨o, T, vs, e1, e2, e3, e4⟩ := hto _ _ st'
    exact ⟨u, rfl, go_of (s := { s with heap := h', toks := tk }) e1 e2 e3 e4 ⟨v, H, I1, rv, ⟨rfl, vv⟩, ⟨st', hg⟩, fun b hb => (hf b hb).1⟩⟩
  done := by
    intro X hP hw hK hc i pins s σ H E I hf st hg
    subst hP hw hK
    obtain ⟨f0, f1, f2, f3, f4, f5⟩ := hf it (by simp)
    have e : i = n := Nat.le_antisymm st.2 hg
    subst e
    exact (W X.A (I.ok.hd hc)).done s _ _ st.1 fun h' tk kk => ⟨rfl, I.turned (fun b o hb e => kk b o (by simpa using hb) e) f0 f1 f3 f4 f5⟩
  self := fun A i s Q E st h => hself A i s Q E st.1 h
theorem it_str {pins : List (Addr × Obj)} {σ : St} {H1 : Hp} {s1 : Shared} {R : It → Hp → Prop} {E : Value → Shared → Prop} {z : Str} {v : Value} (I1 : Inv X pins σ H1 s1) (r1 : RelV (.str z) v) (q : R (Its z) H1) : wpAny (model X.prog X.w) X.A (pyIter v) (PIE X pins σ tg R) E s1 := by
  obtain ⟨t, rfl⟩ := r1
  have sv : ∀ i u, SignAt z i u → ∃ v, RelV v u ∧ ∃ c, z.cps[i]? = some c ∧ v = .str ⟨#[c]⟩ := fun i u ⟨c, tu, hc, hu⟩ => ⟨.str ⟨#[c]⟩, ⟨tu, hu⟩, c, hc, rfl⟩
  have fin : ∀ (o : Obj) (St : Nat → Heap → Prop) (n : Nat), St 0 (s1.heap.push o) → Turn X.prog X.w X.K tg (Its z) [s1.heap.objs.size] s1.heap.objs.size (fun i h => St i h ∧ i ≤ z.cps.size) → PIE X pins σ tg R (.ref s1.heap.objs.size) { s1 with heap := s1.heap.push o } := fun o St n h0 T => by
    refine ⟨s1.heap.objs.size, [s1.heap.objs.size], _, _, H1, rfl, I1.kept (t' := s1.toks) fun b ob e => Heap.get?_push_of_some _ e, T, ⟨h0, Nat.zero_le _⟩, fun b hb => ?_, q⟩
    have e : b = s1.heap.objs.size := by simpa using hb
    subst e
    exact I1.fpOk (Nat.le_refl _) (I1.hok.fresh (Nat.le_refl _))
  cases ha : z.cps.all (· < 128)
  · exact wpAny_pyIter_wide ha (fin _ _ 0 ⟨_, Heap.get?_push_size _ rfl, rfl, rfl⟩ (turn_of (fun A hA => Walks.strWide hA _ z t) (fun _ _ _ _ _ st hq => wpAny_pyIter_striter_wide st hq) sv fun i h ⟨o, ho, hc, hd⟩ => ⟨o, _, _, ho, hc, hd, by decide⟩))
  · exact wpAny_pyIter_ascii ha (fin _ _ 0 ⟨_, Heap.get?_push_size _ rfl, rfl, rfl⟩ (turn_of (fun A hA => Walks.strAscii hA _ z t) (fun _ _ _ _ _ st hq => wpAny_pyIter_striter_ascii st hq) sv fun i h ⟨o, ho, hc, hd⟩ => ⟨o, _, _, ho, hc, hd, by decide⟩))
end
section
variable {X : Cx}
noncomputable def rSlS : V → Option Int → Option Int → Hp → VK → Prop := fun x lo hi H Q => ∃ z, x = .str z ∧ z.length ≤ sizeLine ∧ Q (.str (Txt.slice z lo hi)) H
theorem sl_str : SlR X rSlS := by
  intro pins s σ H x v vl vu lo hi sl Q I rx hs pl pu h
  obtain ⟨z, rfl, hz, q⟩ := h
  obtain ⟨t, rfl⟩ := rx
  have fin : ∀ t' k, EP X pins σ Q (.str (Txt.slice z lo hi) t') { s with toks := k } := fun t' k => ⟨.str _, H, I.tok _, ⟨_, rfl⟩, q⟩
  have sz := Nat.le_trans (Txt.slice_le z lo hi) hz
  refine ⟨"str", _, F.slot_str_getitem.lookup, typeIs_str _ _ _, ?_⟩
  cases pl with
  | none =>
    cases pu with
    | none => exact wpAny_getItem_str_slice (l := none) (u := none) (st := none) hs rfl (post_val_or_str ⟨sz, fin⟩)
    | int j uj => exact wpAny_getItem_str_slice (l := none) (u := some (j, uj)) (st := none) hs rfl (post_val_or_str ⟨sz, fin⟩)
  | int i ui =>
    cases pu with
    | none => exact wpAny_getItem_str_slice (l := some (i, ui)) (u := none) (st := none) hs rfl (post_val_or_str ⟨sz, fin⟩)
    | int j uj => exact wpAny_getItem_str_slice (l := some (i, ui)) (u := some (j, uj)) (st := none) hs rfl (post_val_or_str ⟨sz, fin⟩)
theorem call_reprS : CallR X (.builtin "repr") (fun xs H Q => (∃ b, xs = [.bl b] ∧ Q (.str (if b then "True" else "False")) H) ∨ (xs = [.non] ∧ Q (.str "None") H)) := by
  intro pins s σ H xs us Q I r h
  rcases h with ⟨b, rfl, q⟩ | ⟨rfl, q⟩
  · obtain ⟨u, rfl, ru⟩ := vals1 r
    cases ru
    exact PySem.P.repr_of_bool ⟨.str _, H, I.tok _, ⟨_, rfl⟩, q⟩
  · obtain ⟨u, rfl, ru⟩ := vals1 r
    cases ru
    exact PySem.P.repr_of_none ⟨.str _, H, I.tok _, ⟨_, rfl⟩, q⟩
theorem call_isinst : CallR X (.builtin "isinstance") (fun xs H Q => ∃ x c t b, xs = [x, .ty c] ∧ TyOf X.K H x t ∧ PySem.W.kitOne X.K t (.type c) = some b ∧ Q (.bl b) H) := by
  intro pins s σ H xs us Q I r h
  obtain ⟨x, c, t, b, rfl, ty, e, q⟩ := h
  obtain ⟨u, w', rfl, r1, r2⟩ := vals2 r
  cases r2
  exact isinst_ok I r1 ty e fun tk => ⟨.bl _, H, I.tok _, rfl, q⟩
theorem call_isinstR : CallR X (.builtin "isinstance") (fun xs H Q => ∃ x c t b, xs = [x, .ref c] ∧ TyOf X.K H x t ∧ PySem.W.kitOne X.K t (.ref c) = some b ∧ Q (.bl b) H) := by
  intro pins s σ H xs us Q I r h
  obtain ⟨x, c, t, b, rfl, ty, e, q⟩ := h
  obtain ⟨u, w', rfl, r1, r2⟩ := vals2 r
  cases r2
  exact isinst_ok I r1 ty e fun tk => ⟨.bl _, H, I.tok _, rfl, q⟩
theorem call_isinstQ : CallR X (.builtin "isinstance") (fun xs H Q => ∃ a ys c b, xs = [V.ref a, .ty c] ∧ ((SqT X.K H a ys ∧ PySem.W.kitOne X.K (.type "tuple") (.type c) = some b) ∨ (SqL X.K H a ys ∧ PySem.W.kitOne X.K (.type "list") (.type c) = some b)) ∧ Q (.bl b) H) := by
  intro pins s σ H xs us Q I r h
  obtain ⟨a, ys, c, b, rfl, ty, q⟩ := h
  obtain ⟨u, w', rfl, r1, r2⟩ := vals2 r
  cases r2
  cases r1
  rcases ty with ⟨ty, e⟩ | ⟨ty, e⟩
  · obtain ⟨its, _, p, _⟩ := I.tuple ty
    obtain ⟨o, h1, h2, _⟩ := p
    exact PySem.W.kia_one PySem.W.kitx_tuple I.kIn ⟨o, h1, h2⟩ e (fun z => nomatch z) fun tk => ⟨.bl _, H, I.tok _, rfl, q⟩
  · obtain ⟨its, _, p, _⟩ := I.list ty
    obtain ⟨o, h1, h2, _⟩ := p.isList
    exact PySem.W.kia_one PySem.W.kitx_list I.kIn ⟨o, h1, h2⟩ e (fun z => nomatch z) fun tk => ⟨.bl _, H, I.tok _, rfl, q⟩
end
section
variable {X : Cx} {x : Str} {pos : Pos}
end
section
variable {X : Cx} {K : PySem.W.Frag}
noncomputable def rCat0 (K : PySem.W.Frag) : R2 := fun x y H Q => ∃ a b ys, x = .ref a ∧ y = .ref b ∧ SqT K H a [] ∧ SqT K H b ys ∧ Q (.ref b) H
theorem op_cat0 : OpR X (binaryOp .Add) (rCat0 X.K) := by
  intro pins s σ H x y v u Q I rx ry h
  obtain ⟨a, b, ys, rfl, rfl, ha, hb, q⟩ := h
  cases rx
  cases ry
  obtain ⟨its, r1, p1, _⟩ := I.tuple ha
  obtain ⟨its2, r2, p2, _⟩ := I.tuple hb
  cases r1
  obtain ⟨⟨cls, dd, data, sl⟩, ho, hc, n, hd⟩ := id p1
  obtain ⟨⟨cls2, dd2, data2, sl2⟩, ho2, hc2, n2, hd2⟩ := id p2
  simp only at hc hd hc2 hd2
  subst hc hd hc2 hd2
  exact concat_meets ⟨_, ho, rfl⟩ ⟨_, ho2, rfl⟩ noFill_tuple_add seq_tuple_add PySem.F.slot_tuple_add PySem.F.entry_tuple_add (PySem.F.args_tuple_add_2 _ _) (tuple_addW0 a b _ _ n n2 dd dd2 sl sl2 (by simp)) ⟨ho, ho2, ⟨.ref b, H, I, rfl, q⟩⟩
noncomputable def rSlW (K : PySem.W.Frag) : V → Option Int → Option Int → Hp → VK → Prop := fun x lo hi H Q => ∃ a xs, x = .ref a ∧ SqT K H a xs ∧ (HT.sIx xs.length 0 lo = 0 ∧ HT.sIx xs.length xs.length hi = xs.length) ∧ Q (.ref a) H
theorem sl_whole : SlR X (rSlW X.K) := by
  intro pins s σ H x v vl vu lo hi sl Q I rx hs pl pu h
  obtain ⟨a, xs, rfl, hx, hw, q⟩ := h
  cases rx
  obtain ⟨its, r, ht, hz⟩ := I.tuple hx
  have hlen : its.toArray.size = xs.length := by rw [List.size_toArray]; exact r.length.symm
  refine ⟨"tuple", _, PyProof.Rows.slot_tuple_getitem.lookup, ht.typeIs, ?_⟩
  obtain ⟨os, hos, hcs, hds⟩ := id hs
  have hTs : s.TypeIs (.ref sl) "slice" := ⟨os, hos, hcs⟩
  unfold getItem
  try with_reducible refine wpAny_holding ?_
  first | refine wpAny_bind (wpAny_pure ?_) | skip
  refine wpAny_bind (wpAny_sequenceKey ht.typeIs (by decide) ?_)
  refine wpAny_bind (wpAny_callSpecial?_slot (name := Str.ofString "__getitem__") ht.typeIs PyProof.Rows.slot_tuple_getitem (wpAny_call_entry PyProof.Rows.slot_tuple_getitem ht.typeIs entry_tuple_getitem ?_ (args_tuple_getitem _ _)))
  refine wpAny_bind (m := Builtin.Tuple.tupleItemsOf (.ref a)) (tupleItemsOf_ ht ?_)
  refine wpAny_bind (wpAny_typeOf hTs ?_)
  rw [if_pos (by decide)]
  refine wpAny_bind (HT.sliceApplied_gen hs pl pu ?_)
  have yes : (((HT.sIx its.toArray.size 0 lo : Nat) : Int) == 0 && (1 : Int) == 1 && (HT.sIx its.toArray.size its.toArray.size hi - HT.sIx its.toArray.size 0 lo) == its.toArray.size) = true := by
    rw [hlen, hw.1, hw.2]
    simp
  show wpAny _ _ (if (((HT.sIx its.toArray.size 0 lo : Nat) : Int) == 0 && (1 : Int) == 1 && (HT.sIx its.toArray.size its.toArray.size hi - HT.sIx its.toArray.size 0 lo) == its.toArray.size) = true then _ else _) _ _ s
  rw [if_pos yes]
  have fin : ∀ s', s' = s → EP X pins σ Q (.ref a) s' := fun s' e => by subst e; exact ⟨.ref a, H, I, rfl, q⟩
  unfold Builtin.Tuple.tupleIsExact
  obtain ⟨hp, g, d, tk, os⟩ := s
  have hT := ht.typeIs
  repeat (any_goals (first | assumption | wp_step))
  exact ⟨_, rfl, wpAny_pure (fin _ rfl)⟩
end
theorem Inv.freeze {X : Cx} {pins : List (Addr × Obj)} {σ : St} {H : Hp} {s : Shared} {d : Addr} {kvs : List (Key × V)} {o : Obj} (I : Inv X pins σ H s) (hd : H d = some (.dK kvs)) (ho : s.heap.get? d = some o) : Inv X pins σ (upd H d (.frz o (.dK kvs))) s := by
  have nn : ∀ b, H b = none → upd H d (.frz o (.dK kvs)) b = none := fun b h => by rw [upd_ne (Ne.symm (ne_of_none hd h))]; exact h
  have other : ∀ b u, H b = some u → u ≠ .dK kvs → upd H d (.frz o (.dK kvs)) b = some u := fun b u h q => by rw [upd_ne (ne_of h hd q)]; exact h
  refine ⟨I.ok, I.os, I.bare, ⟨I.base.keep, I.base.slot, fun b ob q n hx => nn b (I.base.free b ob q n hx), I.base.there, fun b xs q => other b _ (I.base.tups b xs q) (by intro z; cases z), fun b ob u q => other b _ (I.base.frzs b ob u q) (by intro z; cases z), fun b ps q => ?_⟩, I.loc, I.cell, nn _ I.free, fun x c q => nn _ (I.freeC x c q), fun p hp => ?_, fun b u q => ?_, I.len⟩
  · obtain ⟨more, h⟩ := I.base.tbls b ps q
    exact ⟨more, other b _ h (by intro z; cases z)⟩
  · obtain ⟨a1, a2, a3⟩ := I.pin p hp
    exact ⟨a1, nn _ a2, a3⟩
  · by_cases e : b = d
    · subst e
      rw [upd_same] at q
      cases q
      exact ⟨ho, (I.hok b _ hd).stay (fun c v hc z => z) (fun c z => other c _ z (by intro w; cases w)) fun c xs z => other c _ z (by intro w; cases w)⟩
    · rw [upd_ne e] at q
      exact (I.hok b u q).stay (fun c v hc z => z) (fun c z => other c _ z (by intro w; cases w)) fun c xs z => other c _ z (by intro w; cases w)
noncomputable def Itd (a : Addr) (o : Obj) (kvs : List (Key × V)) : It :=
  ⟨fun i H => H a = some (.frz o (.dK kvs)) ∧ i < kvs.length, fun i H x H' => H' = H ∧ ∃ kv, kvs[i]? = some kv ∧ x = kV kv.1, fun i H => H a = some (.frz o (.dK kvs)) ∧ kvs.length ≤ i⟩
theorem key_rel {k : Key} {u : Value} (h : keyIs k u = true) : RelV (kV k) u := by
  rcases keyIs_shape h with ⟨i, t, rfl, rfl⟩ | ⟨x, t, rfl, rfl⟩
  · exact ⟨t, rfl⟩
  · exact ⟨t, rfl⟩
theorem dict_at {X : Cx} {pins : List (Addr × Obj)} {σ : St} {H : Hp} {s : Shared} {a : Addr} {kvs : List (Key × V)} {o : Obj} {es : Array DictEntry} {ep : Nat} (I : Inv X pins σ H s) (h : H a = some (.frz o (.dK kvs))) (ho : o.data = .dict es ep) : ∃ vs, KV kvs vs ∧ s.heap.DictAt (mixKind X.prog X.w) a vs ep := by
  obtain ⟨h1, _, _, vs, r, o', es', ep', h2, c, hd, rest⟩ := I.hok a _ h
  rw [h1] at h2
  cases h2
  rw [ho] at hd
  cases hd
  exact ⟨vs, r, o, es, h1, c, ho, rest⟩
theorem KV.get : ∀ {kvs : List (Key × V)} {vs : List (Key × Value)} {i : Nat} {kv : Key × V}, KV kvs vs → kvs[i]? = some kv → ∃ u, vs[i]? = some (kv.1, u) ∧ RelV kv.2 u
  | _, _, _, _, .nil, e => by simp at e
  | _, _, 0, kv, .cons r _, e => by
    simp at e
    subst e
    exact ⟨_, congrArg some (Prod.ext r.1.symm rfl), r.2⟩
  | _, _, i + 1, kv, .cons _ t, e => by
    obtain ⟨u, h1, h2⟩ := KV.get (i := i) t (by simpa using e)
    exact ⟨u, by simpa using h1, h2⟩
theorem turn_dict {P : Program} {w : World} {K : PySem.W.Frag} {tg : Expr} (a it : Addr) (o : Obj) (kvs : List (Key × V)) (es : Array DictEntry) (ep : Nat) (hd : o.data = .dict es ep) : Turn P w K tg (Itd a o kvs) [it] it (fun i h => h.IsKeyIter it a i kvs.length ep) where
  mem := by simp
  obj := fun i h st b hb => by
    have e : b = it := by simpa using hb
    subst e
    obtain ⟨o, e, c, d⟩ := st
    exact ⟨o, e, fun v z => by rw [d] at z; cases z⟩
  keep := fun i h h' st k => st.at fun o e => k it (by simp) o e
  item := by
    intro X hP hw hK hc i pins s σ H E I hf st hg
    subst hP hw hK
    obtain ⟨hH, hi⟩ := hg
    obtain ⟨vs, rv, hat⟩ := dict_at I hH hd
    have hl : kvs.length = vs.length := Paired.length rv
    obtain ⟨kv, hkv⟩ : ∃ kv, kvs[i]? = some kv := ⟨kvs[i], List.getElem?_eq_getElem hi⟩
    obtain ⟨u, hu, _⟩ := KV.get rv hkv
    obtain ⟨f0, f1, f2, f3, f4, f5⟩ := hf it (by simp)
    rw [hl] at st
    refine wpAny_pyNext_dict_item st hat hu fun key h' hkey hit' hs' => ?_
    have I1 : Inv X pins σ H { s with heap := h' } := I.turned (t' := s.toks) (fun b o hb e => (hs'.2 b hb).trans e) f0 f1 f3 f4 f5
    obtain ⟨o', e, c, d⟩ := id hit'
    exact ⟨key, rfl, go_of (s := { s with heap := h' }) e c d (by decide) ⟨kV kv.1, H, I1, key_rel hkey, ⟨rfl, kv, hkv, rfl⟩, by rw [hl]; exact hit', fun b hb => (hf b hb).1⟩⟩
  done := by
    intro X hP hw hK hc i pins s σ H E I hf st hg
    subst hP hw hK
    obtain ⟨hH, hi⟩ := hg
    obtain ⟨vs, rv, hat⟩ := dict_at I hH hd
    have hl : kvs.length = vs.length := Paired.length rv
    obtain ⟨f0, f1, f2, f3, f4, f5⟩ := hf it (by simp)
    rw [hl] at st
    exact wpAny_pyNext_dict_end (I.ok.hd hc) st hat (List.getElem?_eq_none (by omega)) fun h' eb => ⟨rfl, I.turned (t' := s.toks) (fun b o hb e => eb b o hb e) f0 f1 f3 f4 f5⟩
  self := fun A i s Q E st hQ => wpAny_pyIter_keyiter st hQ
theorem it_dict {X : Cx} {tg : Expr} {pins : List (Addr × Obj)} {σ : St} {H : Hp} {s : Shared} {a : Addr} {kvs : List (Key × V)} {R : It → Hp → Prop} {E : Value → Shared → Prop} (I : Inv X pins σ H s) (h : H a = some (.dK kvs)) (q : ∀ o, R (Itd a o kvs) (upd H a (.frz o (.dK kvs)))) :
    wpAny (model X.prog X.w) X.A (pyIter (.ref a)) (PIE X pins σ tg R) E s := by
  obtain ⟨_, hs, vs, rv, o, es, ep, ho, c, hd, rest⟩ := I.hok a _ h
  have I1 := I.freeze h ho
  have hl : kvs.length = vs.length := Paired.length rv
  refine wpAny_pyIter_dict (knd := mixKind X.prog X.w) hs ⟨o, es, ho, c, hd, rest⟩ ?_
  rw [← hl]
  refine ⟨s.heap.objs.size, [s.heap.objs.size], _, _, _, rfl, I1.kept (t' := s.toks) fun b o e => Heap.get?_push_of_some _ e, turn_dict a _ o kvs es ep hd, ⟨_, Heap.get?_push_size _ rfl, rfl, rfl⟩, fun b hb => ?_, q o⟩
  have e : b = s.heap.objs.size := by simpa using hb
  subst e
  exact I1.fpOk (Nat.le_refl _) (I1.hok.fresh (Nat.le_refl _))
theorem it_dictF {X : Cx} {tg : Expr} {pins : List (Addr × Obj)} {σ : St} {H : Hp} {s : Shared} {a : Addr} {kvs : List (Key × V)} {o : Obj} {R : It → Hp → Prop} {E : Value → Shared → Prop} (I : Inv X pins σ H s) (h : H a = some (.frz o (.dK kvs))) (q : R (Itd a o kvs) H) :
    wpAny (model X.prog X.w) X.A (pyIter (.ref a)) (PIE X pins σ tg R) E s := by
  obtain ⟨ho', _, hs, vs, rv, o', es, ep, ho, c, hd, rest⟩ := I.hok a _ h
  rw [ho'] at ho
  cases ho
  have hl : kvs.length = vs.length := Paired.length rv
  refine wpAny_pyIter_dict (knd := mixKind X.prog X.w) hs ⟨o, es, ho', c, hd, rest⟩ ?_
  rw [← hl]
  refine ⟨s.heap.objs.size, [s.heap.objs.size], _, _, _, rfl, I.kept (t' := s.toks) fun b o e => Heap.get?_push_of_some _ e, turn_dict a _ o kvs es ep hd, ⟨_, Heap.get?_push_size _ rfl, rfl, rfl⟩, fun b hb => ?_, q⟩
  have e : b = s.heap.objs.size := by simpa using hb
  subst e
  exact I.fpOk (Nat.le_refl _) (I.hok.fresh (Nat.le_refl _))
end L2
set_option Elab.async false
set_option linter.all false
set_option maxRecDepth 100000
set_option maxHeartbeats 4000000
namespace L2
open PySem PySem.Spec PyProof.Rows
theorem Same.seqT {K : PySem.W.Frag} {H H' : Hp} {a : Addr} {xs : List V} (e : Same H H') (h : SqT K H a xs) : SqT K H' a xs := by
  rcases h with (h | ⟨o, h⟩) | h
  · exact .inl (.inl (e _ _ h))
  · exact .inl (.inr ⟨o, e _ _ h⟩)
  · exact .inr h
mutual
def Is (K : PySem.W.Frag) (H : Hp) : PyData → V → Prop
  | .none, v => v = .non
  | .bool b, v => v = .bl b
  | .int i, v => v = .int i
  | .str x, v => v = .str x
  | .list ds, v => ∃ a xs, v = .ref a ∧ SqL K H a xs ∧ IsL K H ds xs
  | .tuple ds, v => ∃ a xs, v = .ref a ∧ SqT K H a xs ∧ IsL K H ds xs
  | .dict _, _ => False
def IsL (K : PySem.W.Frag) (H : Hp) : List PyData → List V → Prop
  | [], vs => vs = []
  | d :: ds, vs => ∃ v r, vs = v :: r ∧ Is K H d v ∧ IsL K H ds r
end
mutual
theorem Is.mono {K : PySem.W.Frag} {H H' : Hp} (e : Same H H') : ∀ (d : PyData) (v : V), Is K H d v → Is K H' d v
  | .none, _, h => by simp only [Is] at h ⊢; exact h
  | .bool _, _, h => by simp only [Is] at h ⊢; exact h
  | .int _, _, h => by simp only [Is] at h ⊢; exact h
  | .str _, _, h => by simp only [Is] at h ⊢; exact h
  | .list ds, v, h => by
    simp only [Is] at h ⊢
    obtain ⟨a, xs, e1, e2, e3⟩ := h
    exact ⟨a, xs, e1, e.seq e2, IsL.mono e ds xs e3⟩
  | .tuple ds, v, h => by
    simp only [Is] at h ⊢
    obtain ⟨a, xs, e1, e2, e3⟩ := h
    exact ⟨a, xs, e1, e.seqT e2, IsL.mono e ds xs e3⟩
  | .dict _, _, h => by simp only [Is] at h
theorem IsL.mono {K : PySem.W.Frag} {H H' : Hp} (e : Same H H') : ∀ (ds : List PyData) (vs : List V), IsL K H ds vs → IsL K H' ds vs
  | [], _, h => by simp only [IsL] at h ⊢; exact h
  | d :: ds, vs, h => by
    simp only [IsL] at h ⊢
    obtain ⟨v, r, e1, e2, e3⟩ := h
    exact ⟨v, r, e1, Is.mono e d v e2, IsL.mono e ds r e3⟩
end
section
variable {X : Cx} {pins : List (Addr × Obj)} {σ : St} {H : Hp} {s : Shared}
mutual
theorem Is.reads (I : Inv X pins σ H s) : ∀ (d : PyData) (v : V) (u : Value), Is X.K H d v → RelV v u → ∃ as, Reads s.heap u d as
  | .none, v, u, i, r => by
    simp only [Is] at i
    subst i
    cases r
    exact ⟨_, .none⟩
  | .bool b, v, u, i, r => by
    simp only [Is] at i
    subst i
    cases r
    exact ⟨_, .bool b⟩
  | .int n, v, u, i, r => by
    simp only [Is] at i
    subst i
    obtain ⟨t, rfl⟩ := r
    exact ⟨_, .int n t⟩
  | .str x, v, u, i, r => by
    simp only [Is] at i
    subst i
    obtain ⟨t, rfl⟩ := r
    exact ⟨_, .str x t⟩
  | .list ds, v, u, i, r => by
    simp only [Is] at i
    obtain ⟨a, xs, rfl, e2, e3⟩ := i
    cases r
    obtain ⟨its, rv, ⟨o, n, e, hc, hd, hs⟩, _⟩ := I.list e2
    obtain ⟨as, ra⟩ := IsL.reads I ds xs its e3 rv
    exact ⟨_, .list e hc hs (by simpa using ra)⟩
  | .tuple ds, v, u, i, r => by
    simp only [Is] at i
    obtain ⟨a, xs, rfl, e2, e3⟩ := i
    cases r
    obtain ⟨its, rv, ⟨o, e, hc, n, hd⟩, _⟩ := I.tuple e2
    obtain ⟨as, ra⟩ := IsL.reads I ds xs its e3 rv
    exact ⟨_, .tuple e hc hd (by simpa using ra)⟩
  | .dict _, _, _, i, _ => by simp only [Is] at i
theorem IsL.reads (I : Inv X pins σ H s) : ∀ (ds : List PyData) (vs : List V) (us : List Value), IsL X.K H ds vs → Vals vs us → ∃ as, ReadsAll s.heap us ds as
  | [], vs, us, i, r => by
    simp only [IsL] at i
    subst i
    cases r
    exact ⟨_, .nil⟩
  | d :: ds, vs, us, i, r => by
    simp only [IsL] at i
    obtain ⟨v, rr, rfl, e2, e3⟩ := i
    cases r with
    | cons r1 r2 =>
      obtain ⟨a1, h1⟩ := Is.reads I d v _ e2 r1
      obtain ⟨a2, h2⟩ := IsL.reads I ds rr _ e3 r2
      exact ⟨_, .cons h1 h2⟩
end
end
theorem is_ints {K : PySem.W.Frag} {H : Hp} : ∀ ns : List Int, IsL K H (ns.map PyData.int) (ns.map V.int)
  | [] => by simp only [List.map_nil, IsL]
  | n :: r => by
    simp only [List.map_cons, IsL]
    exact ⟨_, _, rfl, by simp only [Is], is_ints r⟩
theorem is_strs {K : PySem.W.Frag} {H : Hp} : ∀ ns : List Str, IsL K H (ns.map PyData.str) (ns.map V.str)
  | [] => by simp only [List.map_nil, IsL]
  | n :: r => by
    simp only [List.map_cons, IsL]
    exact ⟨_, _, rfl, by simp only [Is], is_strs r⟩
theorem is_listI {K : PySem.W.Frag} {H : Hp} {a : Addr} {ns : List Int} (h : SqL K H a (ns.map V.int)) : Is K H (.list (ns.map PyData.int)) (.ref a) := by
  simp only [Is]
  exact ⟨a, _, rfl, h, is_ints ns⟩
structure QA (A : Around) : Prop where
  un : A.units + 150 < cLine
  gd : A.guards = some []
theorem qa_of {A : Around} {k : Nat} (hr : Room k A) : QA A := ⟨by have := hr.un; omega, hr.gd⟩
section
variable {X : Cx}
noncomputable def rAddA (K : PySem.W.Frag) : R2 := fun x y H Q => (∃ i j, x = .int i ∧ y = .int j ∧ Q (.int (i + j)) H) ∨ (∃ i j, x = .str i ∧ y = .str j ∧ i.length + j.length ≤ sizeLine ∧ Q (.str (i ++ j)) H) ∨ rCat x y H Q ∨ rCatT K x y H Q ∨ rCat0 K x y H Q
theorem op_addA : OpR X (binaryOp .Add) (rAddA X.K) := op_add.or (op_add_str.or (op_cat.or (op_catT.or op_cat0)))
noncomputable def rMulA : R2 := fun x y H Q => (∃ i j, x = .int i ∧ y = .int j ∧ CMul i j ∧ Q (.int (i * j)) H) ∨ rRep x y H Q
theorem op_mulA : OpR X (binaryOp .Mult) rMulA := op_mul.or op_rep
theorem op_fdivA : OpR X (binaryOp .FloorDiv) (rI CDiv fun i j => .int (i / j)) := op_fdiv
noncomputable def rEqD (K : PySem.W.Frag) (neg : Bool) : R2 := fun x y H Q => ∃ dx dy, Is K H dx x ∧ Is K H dy y ∧ SeqAt.shaped dx = true ∧ SeqAt.shaped dy = true ∧ Q (.bl (if neg then !PyData.eqv dx dy else PyData.eqv dx dy)) H
theorem op_eqD (hq : QA X.A) : OpR X (compareOp .Eq) (rEqD X.K false) := by
  intro pins s σ H x y v u Q I rx ry h
  obtain ⟨dx, dy, ix, iy, sx, sy, q⟩ := h
  obtain ⟨as, ra⟩ := Is.reads I dx x v ix rx
  obtain ⟨bs, rb⟩ := Is.reads I dy y u iy ry
  exact eq_dataH ra rb sx sy (by have := hq.un; omega) ⟨.bl _, H, I, rfl, q⟩
theorem op_neD (hq : QA X.A) : OpR X (compareOp .NotEq) (rEqD X.K true) := by
  intro pins s σ H x y v u Q I rx ry h
  obtain ⟨dx, dy, ix, iy, sx, sy, q⟩ := h
  obtain ⟨as, ra⟩ := Is.reads I dx x v ix rx
  obtain ⟨bs, rb⟩ := Is.reads I dy y u iy ry
  exact ne_dataH ra rb sx sy (by have := hq.un; omega) ⟨.bl _, H, I, rfl, q⟩
noncomputable def rEqA (K : PySem.W.Frag) : R2 := fun x y H Q => rEq x y H Q ∨ rEqD K false x y H Q
noncomputable def rNeA (K : PySem.W.Frag) : R2 := fun x y H Q => rNe x y H Q ∨ rEqD K true x y H Q
theorem op_eqA (hq : QA X.A) : OpR X (compareOp .Eq) (rEqA X.K) := op_eq.or (op_eqD hq)
theorem op_neA (hq : QA X.A) : OpR X (compareOp .NotEq) (rNeA X.K) := op_ne.or (op_neD hq)
noncomputable def rInT (neg : Bool) : R2 := fun x y H Q => ∃ i j, x = .str i ∧ y = .str j ∧ Q (.bl (if neg then !(!(Builtin.Str.occurrences j i 0 j.length 1).isEmpty) else !(Builtin.Str.occurrences j i 0 j.length 1).isEmpty)) H
noncomputable def rInD (neg : Bool) : R2 := fun x y H Q => ∃ a o, y = .ref a ∧ DGet H a x o ∧ Q (.bl (if neg then !o.isSome else o.isSome)) H
theorem op_inD (hu : X.A.units + 1 < cLine) : OpR X (compareOp .In) (rInD false) := by
  intro pins s σ H x y v u Q I rx ry h
  obtain ⟨a, o, rfl, g, q⟩ := h
  cases ry
  exact d_in hu I g rx fun s' I' => ⟨.bl _, H, I', rfl, q⟩
theorem op_notInD (hu : X.A.units + 1 < cLine) : OpR X (compareOp .NotIn) (rInD true) := by
  intro pins s σ H x y v u Q I rx ry h
  obtain ⟨a, o, rfl, g, q⟩ := h
  cases ry
  exact d_notIn hu I g rx fun s' I' => ⟨.bl _, H, I', rfl, q⟩
noncomputable def rInX (K : PySem.W.Frag) (neg : Bool) : R2 := fun x y H Q => ∃ d ds, Is K H d x ∧ (Is K H (.list ds) y ∨ Is K H (.tuple ds) y) ∧ PyData.canLayAll0 ds = true ∧ d.canLay0 = true ∧ d.depth ≤ 100 ∧ Q (.bl (if neg then !(ds.any fun e => PyData.eqv e d) else ds.any fun e => PyData.eqv e d)) H
theorem op_inX (hq : QA X.A) : OpR X (compareOp .In) (rInX X.K false) := by
  intro pins s σ H x y v u Q I rx ry h
  obtain ⟨d, ds, ix, iy, h1, h2, h3, q⟩ := h
  obtain ⟨bs, rb⟩ := Is.reads I d x v ix rx
  rcases iy with iy | iy
  · obtain ⟨as, ra⟩ := Is.reads I _ y u iy ry
    exact SeqAt.in_list_reads ra rb h1 h2 (by have := hq.un; have := Nat.min_le_right (PyData.depthAll ds) d.depth; omega) ⟨.bl _, H, I, rfl, q⟩
  · obtain ⟨as, ra⟩ := Is.reads I _ y u iy ry
    exact SeqAt.in_tuple_reads ra rb h1 h2 (by have := hq.un; have := Nat.min_le_right (PyData.depthAll ds) d.depth; omega) ⟨.bl _, H, I, rfl, q⟩
theorem op_notInX (hq : QA X.A) : OpR X (compareOp .NotIn) (rInX X.K true) := by
  intro pins s σ H x y v u Q I rx ry h
  obtain ⟨d, ds, ix, iy, h1, h2, h3, q⟩ := h
  obtain ⟨bs, rb⟩ := Is.reads I d x v ix rx
  rcases iy with iy | iy
  · obtain ⟨as, ra⟩ := Is.reads I _ y u iy ry
    exact SeqAt.notIn_list_reads ra rb h1 h2 (by have := hq.un; have := Nat.min_le_right (PyData.depthAll ds) d.depth; omega) ⟨.bl _, H, I, rfl, q⟩
  · obtain ⟨as, ra⟩ := Is.reads I _ y u iy ry
    exact SeqAt.notIn_tuple_reads ra rb h1 h2 (by have := hq.un; have := Nat.min_le_right (PyData.depthAll ds) d.depth; omega) ⟨.bl _, H, I, rfl, q⟩
noncomputable def rInA (K : PySem.W.Frag) (neg : Bool) : R2 := fun x y H Q => rIn K neg x y H Q ∨ rInT neg x y H Q ∨ rInD neg x y H Q ∨ rInX K neg x y H Q
theorem QA.hu {A : Around} (h : QA A) : A.units + 1 < cLine := by have := h.un; omega
theorem op_inA (hq : QA X.A) : OpR X (compareOp .In) (rInA X.K false) := op_in_seq.or (op_in_str.or ((op_inD hq.hu).or (op_inX hq)))
theorem op_notInA (hq : QA X.A) : OpR X (compareOp .NotIn) (rInA X.K true) := op_notIn_seq.or (op_notIn_str.or ((op_notInD hq.hu).or (op_notInX hq)))
noncomputable def rSlA (K : PySem.W.Frag) : V → Option Int → Option Int → Hp → VK → Prop := fun x lo hi H Q => rSlL K x lo hi H Q ∨ rSlT K x lo hi H Q ∨ rSlS x lo hi H Q ∨ rSlW K x lo hi H Q
theorem sl_A : SlR X (rSlA X.K) := sl_list.or (sl_tup.or (sl_str.or sl_whole))
noncomputable def rIxD : R2 := fun x y H Q => ∃ a v, x = .ref a ∧ DGet H a y (some v) ∧ Q v H
theorem ix_dict (hu : X.A.units + 1 < cLine) : IxR X rIxD := by
  intro value slice pins s σ H x y v u Q I rx ry h hs
  obtain ⟨a, z, rfl, g, q⟩ := h
  cases rx
  exact tail_any (dict_typeIs I g) PySem.F.slot_dict_getitem.lookup (d_getItem hu I g ry fun w' s' I' rw' => ⟨z, H, I', rw', q⟩) hs
noncomputable def rIxA (K : PySem.W.Frag) : R2 := fun x y H Q => rIx K x y H Q ∨ rIxD x y H Q
theorem ix_any (hu : X.A.units + 1 < cLine) : IxR X (rIxA X.K) := ix_seq.or (ix_dict hu)
noncomputable def rLenA (K : PySem.W.Frag) : List V → Hp → VK → Prop := fun xs H Q => (∃ x n, xs = [x] ∧ LenV K x H n ∧ Q (.int n) H) ∨ ∃ a kvs, xs = [V.ref a] ∧ H a = some (.dK kvs) ∧ Q (.int kvs.length) H
theorem call_lenA : CallR X (.builtin "len") (rLenA X.K) := call_len.or call_lenD
noncomputable def rIsinst (K : PySem.W.Frag) : List V → Hp → VK → Prop := fun xs H Q => (∃ x c t b, xs = [x, .ty c] ∧ TyOf K H x t ∧ PySem.W.kitOne K t (.type c) = some b ∧ Q (.bl b) H) ∨ (∃ x c t b, xs = [x, .ref c] ∧ TyOf K H x t ∧ PySem.W.kitOne K t (.ref c) = some b ∧ Q (.bl b) H) ∨ ∃ a ys c b, xs = [V.ref a, .ty c] ∧ ((SqT K H a ys ∧ PySem.W.kitOne K (.type "tuple") (.type c) = some b) ∨ (SqL K H a ys ∧ PySem.W.kitOne K (.type "list") (.type c) = some b)) ∧ Q (.bl b) H
theorem call_isinstA : CallR X (.builtin "isinstance") (rIsinst X.K) := call_isinst.or (call_isinstR.or call_isinstQ)
noncomputable def rListA (K : PySem.W.Frag) : List V → Hp → VK → Prop := fun xs H Q => ∃ p ys, xs = [.ref p] ∧ (SqL K H p ys ∨ SqT K H p ys) ∧ ∀ l, H l = none → Q (.ref l) (upd H l (.lst ys))
theorem call_listA : CallR X (.type "list") (rListA X.K) := call_list_of
noncomputable def rTupleA (K : PySem.W.Frag) : List V → Hp → VK → Prop := fun xs H Q => ∃ p ys, xs = [.ref p] ∧ ((SqL K H p ys ∧ ∀ l, H l = none → Q (.ref l) (upd H l (.tup ys))) ∨ (SqT K H p ys ∧ Q (.ref p) H))
theorem call_tupleA : CallR X (.type "tuple") (rTupleA X.K) := call_tuple_of
noncomputable def rReprA : List V → Hp → VK → Prop := fun xs H Q => (∃ b, xs = [.bl b] ∧ Q (.str (if b then "True" else "False")) H) ∨ (xs = [.non] ∧ Q (.str "None") H)
theorem call_reprA : CallR X (.builtin "repr") rReprA := call_reprS
noncomputable def rIntA : List V → Hp → VK → Prop := fun xs H Q => (∃ i, xs = [.int i] ∧ Q (.int i) H) ∨ ∃ k, xs = [.bl k] ∧ Q (.int (if k then 1 else 0)) H
theorem call_intA : CallR X (.type "int") rIntA := call_int1
variable {tg : Expr}
noncomputable def rAnyIt (K : PySem.W.Frag) (x : V) (H1 : Hp) (R : It → Hp → Prop) : Prop := (∃ a, x = .ref a ∧ (∃ xs, SqL K H1 a xs) ∧ R (Itl K a) H1) ∨ (∃ a, x = .ref a ∧ (∃ xs, SqT K H1 a xs) ∧ R (Itt K a) H1) ∨ (∃ z, x = .str z ∧ R (Its z) H1) ∨ ∃ a kvs, x = .ref a ∧ ((H1 a = some (.dK kvs) ∧ ∀ o, R (Itd a o kvs) (upd H1 a (.frz o (.dK kvs)))) ∨ ∃ o, H1 a = some (.frz o (.dK kvs)) ∧ R (Itd a o kvs) H1)
noncomputable def iAny (K : PySem.W.Frag) (tl : TE) : TI := fun σ H R => tl σ H fun x H1 => rAnyIt K x H1 R
theorem pi_any (hu : X.A.units + 1 < cLine) {l : Expr} {tl : TE} (hl : PE X l tl) : PI X tg l (iAny X.K tl) := by
  intro pins s σ H R I h
  refine thn (hl pins s σ H _ I h) fun v s1 ⟨x, H1, I1, r1, q1⟩ => ?_
  rcases q1 with ⟨a, e, ⟨xs, hq⟩, q⟩ | ⟨a, e, ⟨xs, hq⟩, q⟩ | ⟨z, e, q⟩ | ⟨a, kvs, e, q⟩
  · subst e
    cases r1
    obtain ⟨its, rv, p, hz⟩ := I1.list hq
    refine wpAny_pyIter_list p.isList ?_
    refine ⟨s1.heap.objs.size, [s1.heap.objs.size], _, _, H1, rfl, I1.kept (t' := s1.toks) fun b o e => Heap.get?_push_of_some _ e, turn_list a _, ⟨_, Heap.get?_push_size _ rfl, rfl, rfl⟩, fun b hb => ?_, q⟩
    have e : b = s1.heap.objs.size := by simpa using hb
    subst e
    exact I1.fpOk (Nat.le_refl _) (I1.hok.fresh (Nat.le_refl _))
  · subst e
    cases r1
    obtain ⟨its, rv, p, hz⟩ := I1.tuple hq
    refine wpAny_pyIter_tuple (show s1.heap.IsTuple a its.toArray from p) ?_
    refine ⟨s1.heap.objs.size, [s1.heap.objs.size], _, _, H1, rfl, I1.kept (t' := s1.toks) fun b o e => Heap.get?_push_of_some _ e, turn_tuple a _, ⟨_, Heap.get?_push_size _ rfl, rfl, rfl⟩, fun b hb => ?_, q⟩
    have e : b = s1.heap.objs.size := by simpa using hb
    subst e
    exact I1.fpOk (Nat.le_refl _) (I1.hok.fresh (Nat.le_refl _))
  · subst e
    exact it_str I1 r1 q
  · subst e
    cases r1
    rcases q with ⟨hd, q⟩ | ⟨o, hd, q⟩
    · exact it_dict I1 hd q
    · exact it_dictF I1 hd q
end
noncomputable def Fnd (P : Program) (w : World) (K : PySem.W.Frag) (mg : Str → Option Value) (base : Heap) (k : Nat) (x : Str) (ps : List Str) (sp : Sp) : Prop :=
  ∃ f fd, FnOk P w K mg base CX0 k f fd ps sp ∧ mg x = some (.ref f) ∧ PySem.W.keepIn K (.ref f) = true ∧ Binds K fd ps []
section
variable {X : Cx} {k : Nat} {x : Str} {ps : List Str} {sp : Sp} {e : Expr} {es : List Expr} {t : TA} {p pos : Pos}
theorem pe_fn (F : Fnd X.prog X.w X.K X.mg X.base k x ps sp) (hr : Room k X.A) (hg : Gl X x) (ha : PA X (e :: es) t) (hdb : (x == ("__debug__" : Str)) = false := by decide)
    (he : starEach (e :: es) X.env = (false, eval e X.env) :: starEach es X.env := by with_unfolding_all rfl) (hpl : (backTo pos (starEach es X.env)).any (·.1) = false := by with_unfolding_all rfl) : PE X (.Call (.Name x p) (e :: es) [] pos) (tCall sp [] E0 t) := by
  obtain ⟨f, fd, h1, h2, h3, h4⟩ := F
  exact pe_call h1 hr hg h2 h3 h4 .nil pass0 ha hdb he hpl
end
noncomputable def ExtBut (d : Addr) (H H' : Hp) : Prop := ∀ b o, b ≠ d → H b = some o → H' b = some o
theorem Same.lk {H H' : Hp} {a : Addr} {o : HO} (e : Same H H') (h : H a = some o) : H' a = some o := e a o h
theorem ExtBut.lk {d : Addr} {H H' : Hp} {a : Addr} {o : HO} (e : ExtBut d H H') (h : H a = some o) (n : a ≠ d) : H' a = some o := e a o n h
theorem Same.upd {H : Hp} {p : Addr} {o : HO} (h : H p = none) : Same H (upd H p o) := fun b u e => by rw [upd_ne (ne_of_none e h)]; exact e
theorem ExtBut.upd {H : Hp} {p : Addr} {o : HO} : ExtBut p H (upd H p o) := fun b u n e => by rw [upd_ne n]; exact e
theorem Same.but {d : Addr} {H H' : Hp} (e : Same H H') : ExtBut d H H' := fun b o _ h => e b o h
theorem ExtBut.trans {d : Addr} {H H1 H2 : Hp} (a : ExtBut d H H1) (b : ExtBut d H1 H2) : ExtBut d H H2 := fun c o n h => b c o n (a c o n h)
theorem ExtBut.same {d : Addr} {H H1 H2 : Hp} (a : ExtBut d H H1) (b : Same H1 H2) : ExtBut d H H2 := fun c o n h => b c o (a c o n h)
theorem ExtBut.after {d : Addr} {H H1 H2 : Hp} (a : Same H H1) (b : ExtBut d H1 H2) : ExtBut d H H2 := fun c o n h => b c o n (a c o h)
theorem ExtBut.refl {d : Addr} {H : Hp} : ExtBut d H H := fun _ _ _ h => h
noncomputable def rNewT (xs : List V) (H : Hp) (Q : VK) : Prop := xs.length ≤ sizeLine ∧ ∀ p, H p = none → Q (.ref p) (upd H p (.tup xs))
noncomputable def rNewL (xs : List V) (H : Hp) (Q : VK) : Prop := xs.length ≤ sizeLine ∧ ∀ p, H p = none → Q (.ref p) (upd H p (.lst xs))
noncomputable def rRng1 (vs : List V) (H : Hp) (R : It → Hp → Prop) : Prop := ∃ j : Int, vs = [.int j] ∧ -(2 ^ 62) ≤ j ∧ j < 2 ^ 62 ∧ R (Itr 0 j.toNat) H
noncomputable def rRng2 (vs : List V) (H : Hp) (R : It → Hp → Prop) : Prop := ∃ i j : Int, vs = [.int i, .int j] ∧ (-(2 ^ 62) ≤ i ∧ i < 2 ^ 62 ∧ -(2 ^ 62) ≤ j ∧ j < 2 ^ 62) ∧ R (Itr i (j - i).toNat) H
noncomputable def rFor (g : TG) (tb : TS) (D : Ends) (σ : St) (J : It) (H1 : Hp) : Prop := ∃ W : Nat → Nat → St → Hp → Prop, (∃ m, W 0 m σ H1) ∧ ∀ i m σ H, W i m σ H →
  (J.stop i H ∧ D.nx σ H) ∨ (J.go i H ∧ ∃ N : St → Hp → Prop, (∀ σ' H', N σ' H' → ∃ m', m' < m ∧ W (i + 1) m' σ' H') ∧ ∀ x H', J.yld i H x H' → g x σ H' fun σ2 H2 => tb { D with nx := N, ct := N, bk := D.nx } σ2 H2)
noncomputable def rComp (k : Nat) (js : List Nat) (g : TG) (tt : TT) (te : TE) (σ : St) (J : It) (H1 : Hp) (Q : VK) : Prop := ∀ p, H1 p = none →
  ∃ W : Nat → Nat → Hp → Prop, (∃ m, W 0 m (upd H1 p (.lst []))) ∧ ∀ i m H, W i m H →
    (J.stop i H ∧ Q (.ref p) H) ∨ (J.go i H ∧ ∃ N : Hp → Prop, (∀ H', N H' → ∃ m', m' < m ∧ W (i + 1) m' H') ∧
      ∀ x H', J.yld i H x H' → g x (List.replicate k none ++ pick σ js) H' fun σ2 H2 => tt σ2 H2 fun b H3 =>
        if b = true then te σ2 H3 fun y H4 => ∃ acc, H4 p = some (.lst acc) ∧ acc.length < sizeLine ∧ N (upd H4 p (.lst (acc ++ [y]))) else N H3)
noncomputable def rPairs (p : Addr) (ps : List (V × V)) (H : Hp) (Q : VK) : Prop := H p = some (.dK []) ∧ ∃ kvs : List (Key × V), ps = kvs.map (fun kv => (kV kv.1, kv.2)) ∧ kvs.length ≤ 15 ∧ Q (.ref p) (upd H p (.dK (mergeK [] kvs)))
section
variable {K : PySem.W.Frag} {σ : St} {H : Hp} {Q : VK} {D : Ends} {ta tb te : TE} {c : TT} {t u : TS} {x y v : V} {i j : Int}
theorem i_var {n : Nat} (h : σ[n]? = some (some v)) (k : Q v H) : tVar n σ H Q := ⟨v, h, k⟩
theorem i_c (k : Q v H) : tC v σ H Q := k
theorem i_next (k : D.nx σ H) : tNext D σ H := k
theorem i_ret (k : te σ H D.rt) : tRet te D σ H := k
theorem i_drop (k : te σ H fun _ H1 => D.nx σ H1) : tDrop te D σ H := k
theorem i_asg {g : TG} (k : te σ H fun x H1 => g x σ H1 D.nx) : tAsg te g D σ H := k
theorem i_gname {n : Nat} {R : St → Hp → Prop} (k : R (σ.set n (some v)) H) : gName n v σ H R := k
theorem i_if (k : c σ H fun b H1 => if b = true then t D σ H1 else u D σ H1) : tIfS c t u D σ H := k
theorem i_op {r : R2} (k : ta σ H fun x H1 => tb σ H1 fun y H2 => r x y H2 Q) : tOp r ta tb σ H Q := k
theorem i_un {r : V → Hp → VK → Prop} (k : ta σ H fun x H1 => r x H1 Q) : tUn r ta σ H Q := k
theorem i_rU {g : Int → V} (k : Q (g i) H) : rU g (.int i) H Q := ⟨i, rfl, k⟩
theorem i_rI0 {g : Int → Int → V} (k : Q (g i j) H) : rI0 g (.int i) (.int j) H Q := ⟨i, j, rfl, rfl, k⟩
theorem i_rI {C : Int → Int → Prop} {g : Int → Int → V} (h : C i j) (k : Q (g i j) H) : rI C g (.int i) (.int j) H Q := ⟨i, j, rfl, rfl, h, k⟩
theorem i_addI (k : Q (.int (i + j)) H) : rAddA K (.int i) (.int j) H Q := .inl ⟨i, j, rfl, rfl, k⟩
theorem i_addS {a b : Str} (h : a.length + b.length ≤ sizeLine) (k : Q (.str (a ++ b)) H) : rAddA K (.str a) (.str b) H Q := .inr (.inl ⟨a, b, rfl, rfl, h, k⟩)
theorem i_addL {a b : Addr} {xs ys : List V} (h1 : H a = some (.lst xs)) (h2 : H b = some (.lst ys)) (h : xs.length + ys.length ≤ sizeLine) (k : ∀ p H', H p = none → Same H H' → H' p = some (.lst (xs ++ ys)) → Q (.ref p) H') : rAddA K (.ref a) (.ref b) H Q :=
  .inr (.inr (.inl ⟨a, b, xs, ys, rfl, rfl, h1, h2, h, fun p hp => k p _ hp (Same.upd hp) upd_same⟩))
theorem i_mulI (h : CMul i j) (k : Q (.int (i * j)) H) : rMulA (.int i) (.int j) H Q := .inl ⟨i, j, rfl, rfl, h, k⟩
theorem i_mulL {a : Addr} {xs : List V} (h1 : H a = some (.lst xs)) (h2 : -(2 ^ 63) ≤ i ∧ i < 2 ^ 63) (h3 : xs.length * i.toNat ≤ sizeLine) (k : ∀ p H', H p = none → Same H H' → H' p = some (.lst (List.replicate i.toNat xs).flatten) → Q (.ref p) H') : rMulA (.ref a) (.int i) H Q :=
  .inr ⟨a, i, xs, rfl, rfl, h1, h2.1, h2.2, h3, fun p hp => k p _ hp (Same.upd hp) upd_same⟩
theorem i_eqS (h : scal x y = true) (k : Q (.bl (decide (x = y))) H) : rEqA K x y H Q := .inl ⟨h, k⟩
theorem i_neS (h : scal x y = true) (k : Q (.bl (!decide (x = y))) H) : rNeA K x y H Q := .inl ⟨h, k⟩
theorem i_eqD {dx dy : PyData} (h1 : Is K H dx x) (h2 : Is K H dy y) (h3 : SeqAt.shaped dx = true) (h4 : SeqAt.shaped dy = true) (k : Q (.bl (PyData.eqv dx dy)) H) : rEqA K x y H Q := .inr ⟨dx, dy, h1, h2, h3, h4, k⟩
theorem i_neD {dx dy : PyData} (h1 : Is K H dx x) (h2 : Is K H dy y) (h3 : SeqAt.shaped dx = true) (h4 : SeqAt.shaped dy = true) (k : Q (.bl (!PyData.eqv dx dy)) H) : rNeA K x y H Q := .inr ⟨dx, dy, h1, h2, h3, h4, k⟩
theorem i_true {R : Bool → Hp → Prop} (k : R true H) : tTrue σ H R := k
theorem i_tTest {R : Bool → Hp → Prop} (k : te σ H fun x H' => ∃ b, x = .bl b ∧ R b H') : tTest te σ H R := k
theorem i_tB {R : Bool → Hp → Prop} (k : te σ H fun x H' => ∃ b, x = .bl b ∧ R b H') : tB te σ H R := k
theorem i_bl {b : Bool} {R : Bool → Prop} (k : R b) : ∃ c, V.bl b = .bl c ∧ R c := ⟨b, rfl, k⟩
theorem i_not {R : Bool → Hp → Prop} (k : c σ H fun b H1 => R (!b) H1) : tNot c σ H R := k
theorem i_and {c' : TT} {R : Bool → Hp → Prop} (k : c σ H fun b H1 => if b = true then c' σ H1 R else R false H1) : tAnd c c' σ H R := k
theorem i_or {c' : TT} {R : Bool → Hp → Prop} (k : c σ H fun b H1 => if b = true then R true H1 else c' σ H1 R) : tOr c c' σ H R := k
theorem i_ixL {a : Addr} {xs : List V} (h : H a = some (.lst xs)) (e : atI xs i = some v) (k : Q v H) : rIxA K (.ref a) (.int i) H Q := .inl (.inl ⟨a, xs, i, v, rfl, rfl, SqL.of h, e, k⟩)
theorem i_ixS {z : Str} {s : Nat} (h : z.length ≤ sizeLine) (e : atI z.cps.toList i = some s) (k : Q (.str ⟨#[s]⟩) H) : rIxA K (.str z) (.int i) H Q := .inl (.inr (.inr ⟨z, i, s, rfl, rfl, h, e, k⟩))
theorem i_ixD {a : Addr} {kvs : List (Key × V)} {z : Str} (h : H a = some (.dK kvs)) (e : valV kvs (Sum.inr z : Key) = some v) (k : Q v H) : rIxA K (.ref a) (.str z) H Q := .inr ⟨a, v, rfl, by rw [← e]; exact DGet.k (k := Sum.inr z) h, k⟩
theorem i_lenL {a : Addr} {xs : List V} (h : H a = some (.lst xs)) (k : Q (.int xs.length) H) : rLenA K [.ref a] H Q := .inl ⟨.ref a, _, rfl, .inl ⟨xs, SqL.of h, rfl⟩, k⟩
theorem i_isi {c : String} {t : Value} {b : Bool} (h : TyOf K H x t) (e : PySem.W.kitOne K t (.type c) = some b) (k : Q (.bl b) H) : rIsinst K [x, .ty c] H Q := .inl ⟨x, c, t, b, rfl, h, e, k⟩
theorem i_isiT {c : String} {b : Bool} {a : Addr} {ys : List V} (h : SqT K H a ys) (e : PySem.W.kitOne K (.type "tuple") (.type c) = some b) (k : Q (.bl b) H) : rIsinst K [.ref a, .ty c] H Q := .inr (.inr ⟨a, ys, c, b, rfl, .inl ⟨h, e⟩, k⟩)
theorem i_listL {a : Addr} {xs : List V} (h : SqL K H a xs) (k : ∀ p H', H p = none → Same H H' → H' p = some (.lst xs) → Q (.ref p) H') : rListA K [.ref a] H Q := ⟨a, xs, rfl, .inl h, fun p hp => k p _ hp (Same.upd hp) upd_same⟩
theorem i_tupleL {a : Addr} {xs : List V} (h : SqL K H a xs) (k : ∀ p H', H p = none → Same H H' → H' p = some (.tup xs) → Q (.ref p) H') : rTupleA K [.ref a] H Q := ⟨a, xs, rfl, .inl ⟨h, fun p hp => k p _ hp (Same.upd hp) upd_same⟩⟩
theorem i_intB {b : Bool} (k : Q (.int (if b then 1 else 0)) H) : rIntA [.bl b] H Q := .inr ⟨b, rfl, k⟩
theorem i_sl {r : V → Option Int → Option Int → Hp → VK → Prop} {tl th : TO} (k : te σ H fun x H1 => tl σ H1 fun l H2 => th σ H2 fun u H3 => r x l u H3 Q) : tSl r te tl th σ H Q := k
theorem i_noPart {R : Option Int → Hp → Prop} (k : R none H) : tNoPart σ H R := k
theorem i_part {R : Option Int → Hp → Prop} (k : te σ H fun x H1 => ∃ i, x = .int i ∧ R (some i) H1) : tPart te σ H R := k
theorem i_int {R : Int → Prop} (k : R i) : ∃ j, V.int i = .int j ∧ R j := ⟨i, rfl, k⟩
theorem i_slS {z : Str} {lo hi : Option Int} (h : z.length ≤ sizeLine) (k : Q (.str (Txt.slice z lo hi)) H) : rSlA K (.str z) lo hi H Q := .inr (.inr (.inl ⟨z, rfl, h, k⟩))
theorem i_slL {a : Addr} {xs : List V} {lo hi : Option Int} (h : SqL K H a xs) (k : ∀ p H', H p = none → Same H H' → H' p = some (.lst (cutV xs lo hi)) → Q (.ref p) H') : rSlA K (.ref a) lo hi H Q := .inl ⟨a, xs, rfl, h, fun p hp => k p _ hp (Same.upd hp) upd_same⟩
theorem i_bm {T : String} {r : V → List V → Hp → VK → Prop} {ts : TA} (k : te σ H fun x H1 => tyV K T x H1 ∧ ts σ H1 fun xs H2 => r x xs H2 Q) : tBM K T r te ts σ H Q := k
theorem i_call {sp : Sp} {E : XK} {ts : TA} (k : ts σ H fun vs H1 => sp (vs ++ []) H1 Q E) : tCall sp [] E ts σ H Q := k
theorem i_cb {r : List V → Hp → VK → Prop} {ts : TA} (k : ts σ H fun vs H1 => r vs H1 Q) : tCB r ts σ H Q := k
theorem i_cons {tr : TA} {R : List V → Hp → Prop} (k : ta σ H fun x H1 => tr σ H1 fun xs H2 => R (x :: xs) H2) : tCons ta tr σ H R := k
theorem i_nil {R : List V → Hp → Prop} (k : R [] H) : tNil σ H R := k
theorem i_tup {ts : TA} (k : ts σ H fun xs H1 => rNewT xs H1 Q) : tTup ts σ H Q := k
theorem i_lst {ts : TA} (k : ts σ H fun xs H1 => rNewL xs H1 Q) : tLst ts σ H Q := k
theorem i_newT {xs : List V} (h : xs.length ≤ sizeLine) (k : ∀ p H', H p = none → Same H H' → H' p = some (.tup xs) → Q (.ref p) H') : rNewT xs H Q := ⟨h, fun p hp => k p _ hp (Same.upd hp) upd_same⟩
theorem i_newL {xs : List V} (h : xs.length ≤ sizeLine) (k : ∀ p H', H p = none → Same H H' → H' p = some (.lst xs) → Q (.ref p) H') : rNewL xs H Q := ⟨h, fun p hp => k p _ hp (Same.upd hp) upd_same⟩
theorem i_newD (k : ∀ p H', H p = none → Same H H' → H' p = some (.dK []) → Q (.ref p) H') : tDNewK σ H Q := fun p hp => k p _ hp (Same.upd hp) upd_same
theorem i_put {td ty tv : TE} (k : tv σ H fun v H1 => td σ H1 fun x H2 => ty σ H2 fun y H3 => ∃ a H4, x = .ref a ∧ DPut H3 a y v H4 ∧ D.nx σ H4) : sDPut td ty tv D σ H := k
theorem i_dput {a : Addr} {kvs : List (Key × V)} {z : Str} {R : Hp → Prop} (h : H a = some (.dK kvs)) (hl : kvs.length < 1000) (k : ∀ H', ExtBut a H H' → H' a = some (.dK (putK kvs (Sum.inr z) v)) → R H') : ∃ b H4, V.ref a = .ref b ∧ DPut H b (.str z) v H4 ∧ R H4 :=
  ⟨a, _, rfl, DPut.k (k := Sum.inr z) h (small1000 (Nat.le_of_lt hl)), k _ ExtBut.upd upd_same⟩
theorem i_for {wi : TI} {g : TG} {tb : TS} (k : wi σ H fun J H1 => rFor g tb D σ J H1) : tFor wi g tb D σ H := k
theorem i_comp {m : Nat} {js : List Nat} {wi : TI} {g : TG} {tt : TT} (k : wi σ H fun J H1 => rComp m js g tt te σ J H1 Q) : tComp m js wi g tt te σ H Q := k
theorem i_itL {a : Addr} {xs : List V} {R : It → Hp → Prop} (h : SqL K H a xs) (k : R (Itl K a) H) : rAnyIt K (.ref a) H R := .inl ⟨a, rfl, ⟨xs, h⟩, k⟩
theorem i_itT {a : Addr} {xs : List V} {R : It → Hp → Prop} (h : SqT K H a xs) (k : R (Itt K a) H) : rAnyIt K (.ref a) H R := .inr (.inl ⟨a, rfl, ⟨xs, h⟩, k⟩)
theorem i_itD {a : Addr} {kvs : List (Key × V)} {R : It → Hp → Prop} (h : H a = some (.dK kvs)) (k : ∀ o, R (Itd a o kvs) (upd H a (.frz o (.dK kvs)))) : rAnyIt K (.ref a) H R := .inr (.inr (.inr ⟨a, kvs, rfl, .inl ⟨h, k⟩⟩))
theorem i_itF {a : Addr} {kvs : List (Key × V)} {o : Obj} {R : It → Hp → Prop} (h : H a = some (.frz o (.dK kvs))) (k : R (Itd a o kvs) H) : rAnyIt K (.ref a) H R := .inr (.inr (.inr ⟨a, kvs, rfl, .inr ⟨o, h, k⟩⟩))
theorem i_rng1 {ts : TA} {R : It → Hp → Prop} (k : ts σ H fun vs H1 => rRng1 vs H1 R) : iRng1 ts σ H R := k
theorem i_rngv {R : It → Hp → Prop} (h : -(2 ^ 62) ≤ i ∧ i < 2 ^ 62) (k : R (Itr 0 i.toNat) H) : rRng1 [V.int i] H R := ⟨i, rfl, h.1, h.2, k⟩
theorem i_rng2 {ts : TA} {R : It → Hp → Prop} (k : ts σ H fun vs H1 => rRng2 vs H1 R) : iRng2 ts σ H R := k
theorem i_rngw {R : It → Hp → Prop} (h : (-(2 ^ 62) ≤ i ∧ i < 2 ^ 62) ∧ -(2 ^ 62) ≤ j ∧ j < 2 ^ 62) (k : R (Itr i (j - i).toNat) H) : rRng2 [V.int i, V.int j] H R := ⟨i, j, rfl, ⟨h.1.1, h.1.2, h.2.1, h.2.2⟩, k⟩
theorem i_iany {R : It → Hp → Prop} (k : te σ H fun x H1 => rAnyIt K x H1 R) : iAny K te σ H R := k
theorem i_disp {trs : List (TE × TE)} (k : ∀ p H1, H p = none → Same H H1 → H1 p = some (.dK []) → tPairs trs σ H1 fun ps H2 => rPairs p ps H2 Q) : tDisp trs σ H Q := fun p hp => k p _ hp (Same.upd hp) upd_same
theorem i_pair {tk tv : TE} {r : List (TE × TE)} {R : List (V × V) → Hp → Prop} (k : tk σ H fun x H1 => tv σ H1 fun y H2 => tPairs r σ H2 fun ps H3 => R ((x, y) :: ps) H3) : tPairs ((tk, tv) :: r) σ H R := k
theorem i_pairs {p : Addr} {ps : List (V × V)} (kvs : List (Key × V)) (h : H p = some (.dK [])) (e : ps = kvs.map (fun kv => (kV kv.1, kv.2))) (hl : kvs.length ≤ 15) (k : ∀ H', ExtBut p H H' → H' p = some (.dK (mergeK [] kvs)) → Q (.ref p) H') : rPairs p ps H Q := ⟨h, kvs, e, hl, k _ ExtBut.upd upd_same⟩
theorem i_pair0 {R : List (V × V) → Hp → Prop} (k : R [] H) : tPairs [] σ H R := k
end
end L2
set_option Elab.async false
set_option linter.all false
set_option maxRecDepth 100000
set_option maxHeartbeats 4000000
namespace L2
open PySem PySem.Spec PyProof.Rows
theorem iteD {c A B : Prop} [Decidable c] (h1 : c → A) (h2 : ¬ c → B) : if decide c = true then A else B := by
  by_cases h : c
  · rw [if_pos (decide_eq_true h)]; exact h1 h
  · rw [if_neg (by rw [decide_eq_false h]; exact Bool.false_ne_true)]; exact h2 h
theorem iteND {c A B : Prop} [Decidable c] (h1 : ¬ c → A) (h2 : c → B) : if (!decide c) = true then A else B := by
  by_cases h : c
  · rw [decide_eq_true h, if_neg (by decide)]; exact h2 h
  · rw [decide_eq_false h, if_pos (by decide)]; exact h1 h
theorem iteNB {b : Bool} {A B : Prop} (h1 : b = false → A) (h2 : b = true → B) : if (!b) = true then A else B := by
  cases b
  · exact h1 rfl
  · exact h2 rfl
theorem iteNT {A B : Prop} (h : B) : if (!true) = true then A else B := h
theorem line_of {n : Nat} (h : n ≤ 1000000) : n ≤ sizeLine := by rw [sizeLine_eq]; omega
noncomputable def WalkOf (J : It) (xs : List V) (G : Hp → Prop) : Prop :=
  ∀ i H, G H → (i < xs.length → J.go i H) ∧ (xs.length ≤ i → J.stop i H) ∧ ∀ x H', i < xs.length → J.yld i H x H' → H' = H ∧ xs[i]? = some x
theorem walk_list {K : PySem.W.Frag} {a : Addr} {xs : List V} : WalkOf (Itl K a) xs fun H => SqL K H a xs := by
  intro i H g
  refine ⟨fun h => ⟨xs, xs[i], g, List.getElem?_eq_getElem h⟩, fun h => ⟨xs, g, h⟩, fun x H' _ h => ⟨h.1, h.2 xs g⟩⟩
theorem walk_tup {K : PySem.W.Frag} {a : Addr} {xs : List V} : WalkOf (Itt K a) xs fun H => SqT K H a xs := by
  intro i H g
  refine ⟨fun h => ⟨xs, xs[i], g, List.getElem?_eq_getElem h⟩, fun h => ⟨xs, g, h⟩, fun x H' _ h => ⟨h.1, h.2 xs g⟩⟩
theorem walk_dict {a : Addr} {o : Obj} {kvs : List (Key × V)} : WalkOf (Itd a o kvs) (kvs.map fun kv => kV kv.1) fun H => H a = some (.frz o (.dK kvs)) := by
  intro i H g
  rw [List.length_map]
  refine ⟨fun h => ⟨g, h⟩, fun h => ⟨g, h⟩, fun x H' _ h => ?_⟩
  obtain ⟨e, kv, h1, h2⟩ := h
  exact ⟨e, by rw [List.getElem?_map, h1, h2]; rfl⟩
theorem walk_range {lo : Int} {n : Nat} : WalkOf (Itr lo n) ((List.range n).map fun (i : Nat) => V.int (lo + (i : Int))) fun _ => True := by
  intro i H _
  refine ⟨fun h => ?_, fun h => ?_, fun x H' hi h => ?_⟩
  · show i < n
    simpa using h
  · show n ≤ i
    simpa using h
  · obtain ⟨e, hx⟩ := h
    refine ⟨e, ?_⟩
    have hi' : i < n := by simpa using hi
    rw [List.getElem?_map, List.getElem?_range hi', hx]
    rfl
theorem for_walk {J : It} {xs : List V} {G : Hp → Prop} {g : TG} {tb : TS} {D : Ends} {σ : St} {H : Hp} (hw : WalkOf J xs G) (Pv : Nat → St → Hp → Prop) (h0 : Pv 0 σ H) (hG : ∀ i σ H, Pv i σ H → G H)
    (hs : ∀ i x σ H, xs[i]? = some x → Pv i σ H → g x σ H fun σ2 H2 => tb { D with nx := Pv (i + 1), ct := Pv (i + 1), bk := D.nx } σ2 H2) (hd : ∀ σ H, Pv xs.length σ H → D.nx σ H) :
    ∃ W : Nat → Nat → St → Hp → Prop, (∃ m, W 0 m σ H) ∧ ∀ i m σ H, W i m σ H →
      (J.stop i H ∧ D.nx σ H) ∨ (J.go i H ∧ ∃ N : St → Hp → Prop, (∀ σ' H', N σ' H' → ∃ m', m' < m ∧ W (i + 1) m' σ' H') ∧ ∀ x H', J.yld i H x H' → g x σ H' fun σ2 H2 => tb { D with nx := N, ct := N, bk := D.nx } σ2 H2) := by
  refine ⟨fun i m σ H => m = xs.length - i ∧ i ≤ xs.length ∧ Pv i σ H, ⟨xs.length, by simp, Nat.zero_le _, h0⟩, ?_⟩
  rintro i m σ H ⟨rfl, hi, p⟩
  obtain ⟨w1, w2, w3⟩ := hw i H (hG i σ H p)
  by_cases hlt : i < xs.length
  · refine .inr ⟨w1 hlt, Pv (i + 1), fun σ' H' p' => ⟨xs.length - (i + 1), by omega, rfl, hlt, p'⟩, fun x H' y => ?_⟩
    obtain ⟨e, hx⟩ := w3 x H' hlt y
    subst e
    exact hs i x σ _ hx p
  · have e : i = xs.length := by omega
    subst e
    exact .inl ⟨w2 (Nat.le_refl _), hd σ H p⟩
noncomputable def CN (p : Addr) (n : Nat) (Pv : Nat → List V → Hp → Prop) (i : Nat) : Hp → Prop := fun H' => i + 1 ≤ n ∧ ∃ acc, H' p = some (.lst acc) ∧ acc.length ≤ i + 1 ∧ Pv (i + 1) acc H'
theorem cn_push {p : Addr} {n : Nat} {Pv : Nat → List V → Hp → Prop} {i : Nat} {H : Hp} {acc : List V} {y : V} (hn : n ≤ 1000000) (hi : i < n) (hl : acc.length ≤ i) (e : H p = some (.lst acc)) (k : ∀ H', ExtBut p H H' → H' p = some (.lst (acc ++ [y])) → Pv (i + 1) (acc ++ [y]) H') :
    ∃ acc, H p = some (.lst acc) ∧ acc.length < sizeLine ∧ CN p n Pv i (upd H p (.lst (acc ++ [y]))) :=
  ⟨acc, e, by rw [sizeLine_eq]; omega, hi, acc ++ [y], upd_same, by rw [List.length_append, List.length_singleton]; omega, k _ ExtBut.upd upd_same⟩
theorem cn_skip {p : Addr} {n : Nat} {Pv : Nat → List V → Hp → Prop} {i : Nat} {H : Hp} {acc : List V} (hi : i < n) (hl : acc.length ≤ i) (e : H p = some (.lst acc)) (k : Pv (i + 1) acc H) : CN p n Pv i H := ⟨hi, acc, e, by omega, k⟩
theorem comp_walk {J : It} {xs : List V} {G : Hp → Prop} {g : TG} {tt : TT} {te : TE} {σ : St} {H : Hp} {Q : VK} {p : Addr} {k : Nat} {js : List Nat} (hw : WalkOf J xs G) (hp : H p = none) (Pv : Nat → List V → Hp → Prop)
    (h0 : ∀ H', Same H H' → H' p = some (.lst []) → Pv 0 [] H') (hG : ∀ i acc H, Pv i acc H → G H)
    (hs : ∀ i x acc H, xs[i]? = some x → i < xs.length → acc.length ≤ i → H p = some (.lst acc) → Pv i acc H → g x (List.replicate k none ++ pick σ js) H fun σ2 H2 => tt σ2 H2 fun b H3 =>
      if b = true then te σ2 H3 fun y H4 => ∃ acc, H4 p = some (.lst acc) ∧ acc.length < sizeLine ∧ CN p xs.length Pv i (upd H4 p (.lst (acc ++ [y]))) else CN p xs.length Pv i H3)
    (hd : ∀ acc H, H p = some (.lst acc) → acc.length ≤ xs.length → Pv xs.length acc H → Q (.ref p) H) :
    ∃ W : Nat → Nat → Hp → Prop, (∃ m, W 0 m (upd H p (.lst []))) ∧ ∀ i m H, W i m H →
      (J.stop i H ∧ Q (.ref p) H) ∨ (J.go i H ∧ ∃ N : Hp → Prop, (∀ H', N H' → ∃ m', m' < m ∧ W (i + 1) m' H') ∧
        ∀ x H', J.yld i H x H' → g x (List.replicate k none ++ pick σ js) H' fun σ2 H2 => tt σ2 H2 fun b H3 =>
          if b = true then te σ2 H3 fun y H4 => ∃ acc, H4 p = some (.lst acc) ∧ acc.length < sizeLine ∧ N (upd H4 p (.lst (acc ++ [y]))) else N H3) := by
  refine ⟨fun i m H => m = xs.length - i ∧ i ≤ xs.length ∧ ∃ acc, H p = some (.lst acc) ∧ acc.length ≤ i ∧ Pv i acc H, ⟨xs.length, by simp, Nat.zero_le _, [], upd_same, Nat.le_refl _, h0 _ (Same.upd hp) upd_same⟩, ?_⟩
  rintro i m H ⟨rfl, hi, acc, hacc, hl, q⟩
  obtain ⟨w1, w2, w3⟩ := hw i H (hG i acc H q)
  by_cases hlt : i < xs.length
  · refine .inr ⟨w1 hlt, CN p xs.length Pv i, fun H' ⟨h1, h2⟩ => ⟨xs.length - (i + 1), by omega, rfl, h1, h2⟩, fun x H' y => ?_⟩
    obtain ⟨e, hx⟩ := w3 x H' hlt y
    subst e
    exact hs i x acc _ hx hlt hl hacc q
  · have e : i = xs.length := by omega
    subst e
    exact .inl ⟨w2 (Nat.le_refl _), hd acc H hacc hl q⟩
noncomputable def rPush (p : Addr) (N : Hp → Prop) : VK := fun y H4 => ∃ acc, H4 p = some (.lst acc) ∧ acc.length < sizeLine ∧ N (upd H4 p (.lst (acc ++ [y])))
theorem comp_by {J : It} {xs : List V} {G : Hp → Prop} {g : TG} {tt : TT} {te : TE} {σ : St} {H : Hp} {Q : VK} {k : Nat} {js : List Nat} (hw : WalkOf J xs G) (Pv : Addr → Nat → List V → Hp → Prop)
    (h0 : ∀ p H', H p = none → Same H H' → H' p = some (.lst []) → Pv p 0 [] H') (hG : ∀ p i acc H, Pv p i acc H → G H)
    (hs : ∀ p i x acc H1, H p = none → xs[i]? = some x → i < xs.length → acc.length ≤ i → H1 p = some (.lst acc) → Pv p i acc H1 → g x (List.replicate k none ++ pick σ js) H1 fun σ2 H2 => tt σ2 H2 fun b H3 =>
      if b = true then te σ2 H3 (rPush p (CN p xs.length (Pv p) i)) else CN p xs.length (Pv p) i H3)
    (hd : ∀ p acc H1, H p = none → H1 p = some (.lst acc) → acc.length ≤ xs.length → Pv p xs.length acc H1 → Q (.ref p) H1) : rComp k js g tt te σ J H Q := fun p hp =>
  comp_walk hw hp (Pv p) (fun H' e h => h0 p H' hp e h) (hG p) (fun i x acc H1 h1 h2 h3 h4 h5 => hs p i x acc H1 hp h1 h2 h3 h4 h5) fun acc H1 h1 h2 h3 => hd p acc H1 hp h1 h2 h3
theorem push_i {p : Addr} {n : Nat} {Pv : Nat → List V → Hp → Prop} {i : Nat} {H : Hp} {acc : List V} {y : V} (hn : n ≤ 1000000) (hi : i < n) (hl : acc.length ≤ i) (e : H p = some (.lst acc)) (k : ∀ H', ExtBut p H H' → H' p = some (.lst (acc ++ [y])) → Pv (i + 1) (acc ++ [y]) H') :
    rPush p (CN p n Pv i) y H := cn_push hn hi hl e k
theorem comp_pure {J : It} {xs : List V} {G : Hp → Prop} {g : TG} {tt : TT} {te : TE} {σ : St} {H : Hp} {Q : VK} {k : Nat} {js : List Nat} (hw : WalkOf J xs G) (t : V → Bool) (f : V → V) (hz : xs.length ≤ 1000000) (hG : ∀ H', Same H H' → G H')
    (hs : ∀ (i : Nat) x H1 (R : VK) (R' : Hp → Prop), xs[i]? = some x → Same H H1 → (t x = true → R (f x) H1) → (t x = false → R' H1) → g x (List.replicate k none ++ pick σ js) H1 fun σ2 H2 => tt σ2 H2 fun b H3 => if b = true then te σ2 H3 R else R' H3)
    (hd : ∀ p H', H p = none → Same H H' → H' p = some (.lst ((xs.filter t).map f)) → Q (.ref p) H') : rComp k js g tt te σ J H Q := by
  refine comp_by hw (fun p i acc H1 => Same H H1 ∧ acc = ((xs.take i).filter t).map f) (fun p H' hp e h => ⟨e, by simp⟩) (fun p i acc H1 h => hG H1 h.1) (fun p i x acc H1 hp hx hi hl ha ⟨e, hacc⟩ => ?_) fun p acc H1 hp ha hl ⟨e, hacc⟩ => ?_
  · have ht : xs.take (i + 1) = xs.take i ++ [x] := by rw [List.take_add_one, hx]; rfl
    refine hs i x H1 _ _ hx e (fun h => ?_) fun h => ?_
    · refine push_i hz hi hl ha fun H' e' h' => ⟨fun b o hb => e' b o (ne_of_none hb hp) (e b o hb), ?_⟩
      rw [ht, List.filter_append, List.map_append, hacc]
      simp [h]
    · refine cn_skip hi hl ha ⟨e, ?_⟩
      rw [ht, List.filter_append, List.map_append, hacc]
      simp [h]
  · refine hd p H1 hp e ?_
    rw [ha, hacc, List.take_length]
theorem filter_true {α : Type} (xs : List α) : xs.filter (fun _ => true) = xs := by simp
theorem comp_map {J : It} {xs : List V} {G : Hp → Prop} {g : TG} {te : TE} {σ : St} {H : Hp} {Q : VK} {k : Nat} {js : List Nat} (hw : WalkOf J xs G) (f : V → V) (hz : xs.length ≤ 1000000) (hG : ∀ H', Same H H' → G H')
    (hs : ∀ (i : Nat) x H1 (R : VK), xs[i]? = some x → Same H H1 → R (f x) H1 → g x (List.replicate k none ++ pick σ js) H1 fun σ2 H2 => te σ2 H2 R)
    (hd : ∀ p H', H p = none → Same H H' → H' p = some (.lst (xs.map f)) → Q (.ref p) H') : rComp k js g tTrue te σ J H Q :=
  comp_pure hw (fun _ => true) f hz hG (fun i x H1 R R' hx e h _ => by
    have := hs i x H1 R hx e (h rfl)
    show g x _ H1 fun σ2 H2 => if true = true then te σ2 H2 R else R' H2
    simpa using this) fun p H' hp e h => hd p H' hp e (by rw [h, filter_true])
theorem for_by {J : It} {xs : List V} {G : Hp → Prop} {g : TG} {tb : TS} {D : Ends} {σ : St} {H : Hp} (hw : WalkOf J xs G) (Pv : Nat → St → Hp → Prop) (h0 : Pv 0 σ H) (hG : ∀ i σ H, Pv i σ H → G H)
    (hs : ∀ i x σ H, xs[i]? = some x → i < xs.length → Pv i σ H → g x σ H fun σ2 H2 => tb { D with nx := Pv (i + 1), ct := Pv (i + 1), bk := D.nx } σ2 H2) (hd : ∀ σ H, Pv xs.length σ H → D.nx σ H) : rFor g tb D σ J H :=
  for_walk hw Pv h0 hG (fun i x σ H hx => hs i x σ H hx (List.getElem?_eq_some_iff.mp hx).1) hd
section
variable {X : Cx} {K : PySem.W.Frag}
theorem op_addK (hK : X.K = K := by with_unfolding_all rfl) : OpR X (binaryOp .Add) (rAddA K) := hK ▸ op_addA
theorem op_eqK (hq : QA X.A) (hK : X.K = K := by with_unfolding_all rfl) : OpR X (compareOp .Eq) (rEqA K) := hK ▸ op_eqA hq
theorem op_neK (hq : QA X.A) (hK : X.K = K := by with_unfolding_all rfl) : OpR X (compareOp .NotEq) (rNeA K) := hK ▸ op_neA hq
theorem op_inK (hq : QA X.A) (hK : X.K = K := by with_unfolding_all rfl) : OpR X (compareOp .In) (rInA K false) := hK ▸ op_inA hq
theorem op_notInK (hq : QA X.A) (hK : X.K = K := by with_unfolding_all rfl) : OpR X (compareOp .NotIn) (rInA K true) := hK ▸ op_notInA hq
theorem ix_anyK (hu : X.A.units + 1 < cLine) (hK : X.K = K := by with_unfolding_all rfl) : IxR X (rIxA K) := hK ▸ ix_any hu
theorem sl_K (hK : X.K = K := by with_unfolding_all rfl) : SlR X (rSlA K) := hK ▸ sl_A
theorem call_lenK (hK : X.K = K := by with_unfolding_all rfl) : CallR X (.builtin "len") (rLenA K) := hK ▸ call_lenA
theorem call_isinstK (hK : X.K = K := by with_unfolding_all rfl) : CallR X (.builtin "isinstance") (rIsinst K) := hK ▸ call_isinstA
theorem call_listK (hK : X.K = K := by with_unfolding_all rfl) : CallR X (.type "list") (rListA K) := hK ▸ call_listA
theorem call_tupleK (hK : X.K = K := by with_unfolding_all rfl) : CallR X (.type "tuple") (rTupleA K) := hK ▸ call_tupleA
theorem pi_anyK {tg : Expr} (hu : X.A.units + 1 < cLine) {l : Expr} {tl : TE} (hl : PE X l tl) (hK : X.K = K := by with_unfolding_all rfl) : PI X tg l (iAny K tl) := hK ▸ pi_any hu hl
theorem pg_tupK {es : List Expr} {k : Nat} {t : TGs} {n : Nat} {pos : Pos} (hc : X.calm = true) (h : PGs X es t) (hK : X.K = K := by with_unfolding_all rfl)
    (hn : (assignEach es X.env).length = n := by with_unfolding_all rfl) (hst : (assignEach es X.env).findIdx? (·.1) = none := by with_unfolding_all rfl) : PG X (.Tuple es k pos) (gTup K n t) := hK ▸ pg_tup hc h hn hst
variable {o e : Expr} {es : List Expr} {to : TE} {t : TA} {name : Str} {apos cpos : Pos} {T id : String} {r : V → List V → Hp → VK → Prop}
theorem pe_bmK (pa : PlainAttrs T) (slot : Slot T name id) (hty : typeOf (.builtin id) = pure (.type "method_descriptor")) (hm : MtR X id r) (ho : PE X o to) (ha : PA X (e :: es) t) (hK : X.K = K := by with_unfolding_all rfl)
    (hbase : attributeBase o name X.env (eval o X.env) = eval o X.env := by with_unfolding_all rfl)
    (hfew : ((backTo cpos (starEach (e :: es) X.env)).all (fun x => !x.1) && (backToKw cpos (keywordEach [] X.env)).all (fun x => x.1.isSome)
      && decide ((e :: es).length + ([] : List Keyword).length + (if ([] : List Keyword).isEmpty then 0 else 1) < 30)) = true := by with_unfolding_all rfl)
    (hline : (apos.endLine == cpos.line) = true := by with_unfolding_all rfl) (hs : starEach (e :: es) X.env = (false, eval e X.env) :: starEach es X.env := by with_unfolding_all rfl) (hplain : (backTo cpos (starEach es X.env)).any (·.1) = false := by with_unfolding_all rfl) :
    PE X (.Call (.Attribute o name apos) (e :: es) [] cpos) (tBM K T r to t) := hK ▸ pe_bm pa slot hty hm ho ha hbase hfew hline hs hplain
end
end L2
set_option Elab.async false
set_option linter.all false
set_option maxRecDepth 100000
set_option maxHeartbeats 4000000
namespace L2
open PySem PySem.Spec PyProof.Rows
noncomputable def Fz (H H' : Hp) : Prop := ∀ a xs, Rd H a (.tup xs) → Rd H' a (.tup xs)
theorem Fz.refl (H : Hp) : Fz H H := fun _ _ h => h
theorem Fz.trans {H H1 H2 : Hp} (a : Fz H H1) (b : Fz H1 H2) : Fz H H2 := fun c xs h => b c xs (a c xs h)
theorem Same.fz {H H' : Hp} (e : Same H H') : Fz H H' := fun a xs h => by
  rcases h with h | ⟨o, h⟩
  · exact .inl (e _ _ h)
  · exact .inr ⟨o, e _ _ h⟩
theorem fz_but {p : Addr} {H H' : Hp} (e : ExtBut p H H') (hp : ∀ xs, ¬ Rd H p (.tup xs)) : Fz H H' := fun a xs h => by
  have n : a ≠ p := fun q => hp xs (q ▸ h)
  rcases h with h | ⟨o, h⟩
  · exact .inl (e _ _ n h)
  · exact .inr ⟨o, e _ _ n h⟩
theorem ExtBut.fzL {p : Addr} {H H' : Hp} {l : List V} (e : ExtBut p H H') (hp : H p = some (.lst l)) : Fz H H' := fz_but e fun xs h => by
  rcases h with h | ⟨o, h⟩
  · rw [hp] at h; cases h
  · rw [hp] at h; cases h
theorem ExtBut.fzD {p : Addr} {H H' : Hp} {l : List (Key × V)} (e : ExtBut p H H') (hp : H p = some (.dK l)) : Fz H H' := fz_but e fun xs h => by
  rcases h with h | ⟨o, h⟩
  · rw [hp] at h; cases h
  · rw [hp] at h; cases h
theorem Fz.seq {K : PySem.W.Frag} {H H' : Hp} (e : Fz H H') {a : Addr} {xs : List V} (h : SqT K H a xs) : SqT K H' a xs := by
  rcases h with h | h
  · exact .inl (e _ _ h)
  · exact .inr h
mutual
def frz : PyData → Bool
  | .tuple ds => frzL ds
  | .list _ => false
  | .dict _ => false
  | _ => true
def frzL : List PyData → Bool
  | [] => true
  | d :: ds => frz d && frzL ds
end
mutual
theorem Is.fz {K : PySem.W.Frag} {H H' : Hp} (e : Fz H H') : ∀ (d : PyData) (v : V), frz d = true → Is K H d v → Is K H' d v
  | .none, _, _, h => by simp only [Is] at h ⊢; exact h
  | .bool _, _, _, h => by simp only [Is] at h ⊢; exact h
  | .int _, _, _, h => by simp only [Is] at h ⊢; exact h
  | .str _, _, _, h => by simp only [Is] at h ⊢; exact h
  | .list ds, v, hf, _ => by simp [frz] at hf
  | .tuple ds, v, hf, h => by
    simp only [Is] at h ⊢
    obtain ⟨a, xs, e1, e2, e3⟩ := h
    exact ⟨a, xs, e1, e.seq e2, IsL.fz e ds xs (by simpa only [frz] using hf) e3⟩
  | .dict _, _, _, h => by simp only [Is] at h
theorem IsL.fz {K : PySem.W.Frag} {H H' : Hp} (e : Fz H H') : ∀ (ds : List PyData) (vs : List V), frzL ds = true → IsL K H ds vs → IsL K H' ds vs
  | [], _, _, h => by simp only [IsL] at h ⊢; exact h
  | d :: ds, vs, hf, h => by
    simp only [IsL] at h ⊢
    simp only [frzL, Bool.and_eq_true] at hf
    obtain ⟨v, r, e1, e2, e3⟩ := h
    exact ⟨v, r, e1, Is.fz e d v hf.1 e2, IsL.fz e ds r hf.2 e3⟩
end
section
variable {K : PySem.W.Frag} {H H' : Hp}
theorem IsL.length : ∀ {ds : List PyData} {vs : List V}, IsL K H ds vs → ds.length = vs.length
  | [], _, h => by simp only [IsL] at h; subst h; rfl
  | d :: ds, vs, h => by
    simp only [IsL] at h
    obtain ⟨v, r, rfl, _, e3⟩ := h
    simp only [List.length_cons, IsL.length e3]
theorem IsL.get : ∀ {ds : List PyData} {vs : List V} {i : Nat} {x : V}, IsL K H ds vs → vs[i]? = some x → ∃ d, ds[i]? = some d ∧ Is K H d x
  | [], _, _, _, h, e => by simp only [IsL] at h; subst h; simp at e
  | d :: ds, vs, i, x, h, e => by
    simp only [IsL] at h
    obtain ⟨v, r, rfl, e2, e3⟩ := h
    cases i with
    | zero => simp at e; subst e; exact ⟨d, rfl, e2⟩
    | succ i =>
      obtain ⟨d', h1, h2⟩ := IsL.get (i := i) e3 (by simpa using e)
      exact ⟨d', by simpa using h1, h2⟩
theorem IsL.at : ∀ {ds : List PyData} {vs : List V} {i : Nat} {d : PyData}, IsL K H ds vs → ds[i]? = some d → ∃ x, vs[i]? = some x ∧ Is K H d x
  | [], _, _, _, h, e => by simp at e
  | d :: ds, vs, i, d', h, e => by
    simp only [IsL] at h
    obtain ⟨v, r, rfl, e2, e3⟩ := h
    cases i with
    | zero => simp at e; subst e; exact ⟨v, rfl, e2⟩
    | succ i =>
      obtain ⟨x, h1, h2⟩ := IsL.at (i := i) e3 (by simpa using e)
      exact ⟨x, by simpa using h1, h2⟩
theorem IsL.append : ∀ {ds es : List PyData} {vs us : List V}, IsL K H ds vs → IsL K H es us → IsL K H (ds ++ es) (vs ++ us)
  | [], _, _, _, h, g => by simp only [IsL] at h; subst h; exact g
  | d :: ds, es, vs, us, h, g => by
    simp only [IsL] at h
    obtain ⟨v, r, rfl, e2, e3⟩ := h
    simp only [List.cons_append, IsL]
    exact ⟨v, _, rfl, e2, IsL.append e3 g⟩
theorem IsL.one {d : PyData} {v : V} (h : Is K H d v) : IsL K H [d] [v] := by simp only [IsL]; exact ⟨v, [], rfl, h, rfl⟩
theorem IsL.nil : IsL K H [] [] := by simp only [IsL]
theorem IsL.cons {d : PyData} {v : V} {ds : List PyData} {vs : List V} (h : Is K H d v) (g : IsL K H ds vs) : IsL K H (d :: ds) (v :: vs) := by simp only [IsL]; exact ⟨v, vs, rfl, h, g⟩
theorem IsL.take : ∀ {ds : List PyData} {vs : List V} (n : Nat), IsL K H ds vs → IsL K H (ds.take n) (vs.take n)
  | ds, vs, 0, h => by simp only [List.take_zero]; exact .nil
  | [], vs, n + 1, h => by simp only [IsL] at h; subst h; exact .nil
  | d :: ds, vs, n + 1, h => by
    simp only [IsL] at h
    obtain ⟨v, r, rfl, e2, e3⟩ := h
    exact .cons e2 (IsL.take n e3)
theorem IsL.drop : ∀ {ds : List PyData} {vs : List V} (n : Nat), IsL K H ds vs → IsL K H (ds.drop n) (vs.drop n)
  | ds, vs, 0, h => h
  | [], vs, n + 1, h => by simp only [IsL] at h; subst h; exact .nil
  | d :: ds, vs, n + 1, h => by
    simp only [IsL] at h
    obtain ⟨v, r, rfl, e2, e3⟩ := h
    exact IsL.drop n e3
theorem IsL.str_eq : ∀ {ns : List Str} {vs : List V}, IsL K H (ns.map PyData.str) vs → vs = ns.map V.str
  | [], vs, h => by simp only [List.map_nil, IsL] at h; exact h
  | n :: ns, vs, h => by
    simp only [List.map_cons, IsL, Is] at h
    obtain ⟨v, r, rfl, rfl, e3⟩ := h
    rw [IsL.str_eq e3]
    rfl
theorem Is.tup {ds : List PyData} {v : V} (h : Is K H (.tuple ds) v) : ∃ a xs, v = .ref a ∧ SqT K H a xs ∧ IsL K H ds xs := by simpa only [Is] using h
theorem Is.of_tup {ds : List PyData} {a : Addr} {xs : List V} (h : SqT K H a xs) (g : IsL K H ds xs) : Is K H (.tuple ds) (.ref a) := by simp only [Is]; exact ⟨a, xs, rfl, h, g⟩
theorem Is.of_lst {ds : List PyData} {a : Addr} {xs : List V} (h : SqL K H a xs) (g : IsL K H ds xs) : Is K H (.list ds) (.ref a) := by simp only [Is]; exact ⟨a, xs, rfl, h, g⟩
theorem Is.str {z : Str} {v : V} (h : Is K H (.str z) v) : v = .str z := by simpa only [Is] using h
theorem is_str {z : Str} : Is K H (.str z) (.str z) := by simp only [Is]
theorem is_int {z : Int} : Is K H (.int z) (.int z) := by simp only [Is]
end
noncomputable def nmD (ns : List Str) : PyData := .tuple (ns.map PyData.str)
noncomputable def prD (p : Str × Str) : PyData := .tuple [.str p.1, .str p.2]
noncomputable def psD (ps : List (Str × Str)) : PyData := .tuple (ps.map prD)
noncomputable def hfD (ns : List Str) (ps : List (Str × Str)) : PyData := .tuple [nmD ns, psD ps]
theorem frzL_strs : ∀ ns : List Str, frzL (ns.map PyData.str) = true
  | [] => rfl
  | n :: ns => by simp only [List.map_cons, frzL, frz, frzL_strs ns, Bool.and_self]
theorem frz_nm (ns : List Str) : frz (nmD ns) = true := by simp only [nmD, frz, frzL_strs]
theorem frz_pr (p : Str × Str) : frz (prD p) = true := by simp [prD, frz, frzL]
theorem frzL_prs : ∀ ps : List (Str × Str), frzL (ps.map prD) = true
  | [] => rfl
  | n :: ns => by simp only [List.map_cons, frzL, frz_pr, frzL_prs ns, Bool.and_self]
theorem frz_ps (ps : List (Str × Str)) : frz (psD ps) = true := by simp only [psD, frz, frzL_prs]
theorem frz_hf (ns : List Str) (ps : List (Str × Str)) : frz (hfD ns ps) = true := by simp only [hfD, frz, frzL, frz_nm, frz_ps, Bool.and_self]
section
variable {K : PySem.W.Frag} {H H' : Hp}
theorem Is.nm {ns : List Str} {v : V} (h : Is K H (nmD ns) v) : ∃ a, v = .ref a ∧ SqT K H a (ns.map V.str) := by
  obtain ⟨a, xs, rfl, h1, h2⟩ := Is.tup h
  exact ⟨a, rfl, by rw [← IsL.str_eq h2]; exact h1⟩
theorem is_nm {ns : List Str} {a : Addr} (h : SqT K H a (ns.map V.str)) : Is K H (nmD ns) (.ref a) := Is.of_tup h (is_strs ns)
theorem Is.pr {p : Str × Str} {v : V} (h : Is K H (prD p) v) : ∃ a, v = .ref a ∧ SqT K H a [.str p.1, .str p.2] := by
  obtain ⟨a, xs, rfl, h1, h2⟩ := Is.tup h
  simp only [IsL, Is] at h2
  obtain ⟨_, _, rfl, rfl, _, _, rfl, rfl, rfl⟩ := h2
  exact ⟨a, rfl, h1⟩
theorem is_pr {x y : Str} {a : Addr} (h : SqT K H a [.str x, .str y]) : Is K H (prD (x, y)) (.ref a) := Is.of_tup h (.cons is_str (.one is_str))
theorem Is.hf {ns : List Str} {ps : List (Str × Str)} {v : V} (h : Is K H (hfD ns ps) v) : ∃ a x y, v = .ref a ∧ SqT K H a [x, y] ∧ Is K H (nmD ns) x ∧ Is K H (psD ps) y := by
  obtain ⟨a, xs, rfl, h1, h2⟩ := Is.tup h
  simp only [IsL] at h2
  obtain ⟨x, _, rfl, hx, y, _, rfl, hy, rfl⟩ := h2
  exact ⟨a, x, y, rfl, h1, hx, hy⟩
theorem is_hf {ns : List Str} {ps : List (Str × Str)} {a : Addr} {x y : V} (h : SqT K H a [x, y]) (hx : Is K H (nmD ns) x) (hy : Is K H (psD ps) y) : Is K H (hfD ns ps) (.ref a) := Is.of_tup h (.cons hx (.one hy))
theorem Is.nm_fz {ns : List Str} {v : V} (h : Is K H (nmD ns) v) (e : Fz H H') : Is K H' (nmD ns) v := Is.fz e _ _ (frz_nm ns) h
theorem Is.pr_fz {p : Str × Str} {v : V} (h : Is K H (prD p) v) (e : Fz H H') : Is K H' (prD p) v := Is.fz e _ _ (frz_pr p) h
theorem Is.ps_fz {ps : List (Str × Str)} {v : V} (h : Is K H (psD ps) v) (e : Fz H H') : Is K H' (psD ps) v := Is.fz e _ _ (frz_ps ps) h
theorem Is.hf_fz {ns : List Str} {ps : List (Str × Str)} {v : V} (h : Is K H (hfD ns ps) v) (e : Fz H H') : Is K H' (hfD ns ps) v := Is.fz e _ _ (frz_hf ns ps) h
variable {σ : St} {Q : VK} {x v : V} {i : Int}
theorem i_ixQ {a : Addr} {xs : List V} (h : SqT K H a xs) (e : atI xs i = some v) (k : Q v H) : rIxA K (.ref a) (.int i) H Q := .inl (.inr (.inl ⟨a, xs, i, v, rfl, rfl, h, e, k⟩))
theorem i_ixLQ {a : Addr} {xs : List V} (h : SqL K H a xs) (e : atI xs i = some v) (k : Q v H) : rIxA K (.ref a) (.int i) H Q := .inl (.inl ⟨a, xs, i, v, rfl, rfl, h, e, k⟩)
theorem i_ixN {ns : List Str} {z : Str} (h : Is K H (nmD ns) x) (e : atI ns i = some z) (k : Q (.str z) H) : rIxA K x (.int i) H Q := by
  obtain ⟨a, rfl, h1⟩ := h.nm
  refine i_ixQ h1 ?_ k
  unfold atI at e ⊢
  rw [List.length_map]
  cases hj : ixN ns.length i with
  | none => rw [hj] at e; cases e
  | some j =>
    rw [hj] at e
    show (ns.map V.str)[j]? = _
    rw [List.getElem?_map, show ns[j]? = some z from e]
    rfl
theorem i_ixH0 {ns : List Str} {ps : List (Str × Str)} (h : Is K H (hfD ns ps) x) (k : ∀ v, Is K H (nmD ns) v → Q v H) : rIxA K x (.int 0) H Q := by
  obtain ⟨a, u, w, rfl, h1, h2, h3⟩ := h.hf
  exact i_ixQ h1 rfl (k u h2)
theorem i_ixH1 {ns : List Str} {ps : List (Str × Str)} (h : Is K H (hfD ns ps) x) (k : ∀ v, Is K H (psD ps) v → Q v H) : rIxA K x (.int 1) H Q := by
  obtain ⟨a, u, w, rfl, h1, h2, h3⟩ := h.hf
  exact i_ixQ h1 rfl (k w h3)
theorem i_ixP0 {p : Str × Str} (h : Is K H (prD p) x) (k : Q (.str p.1) H) : rIxA K x (.int 0) H Q := by
  obtain ⟨a, rfl, h1⟩ := h.pr
  exact i_ixQ h1 rfl k
theorem i_ixP1 {p : Str × Str} (h : Is K H (prD p) x) (k : Q (.str p.2) H) : rIxA K x (.int 1) H Q := by
  obtain ⟨a, rfl, h1⟩ := h.pr
  exact i_ixQ h1 rfl k
theorem i_lenQ {ds : List PyData} (h : Is K H (.tuple ds) x) (k : Q (.int ds.length) H) : rLenA K [x] H Q := by
  obtain ⟨a, xs, rfl, h1, h2⟩ := h.tup
  rw [IsL.length h2] at k
  exact .inl ⟨.ref a, _, rfl, .inr ⟨xs, h1, rfl⟩, k⟩
theorem i_lenN {ns : List Str} (h : Is K H (nmD ns) x) (k : Q (.int ns.length) H) : rLenA K [x] H Q := i_lenQ h (by rw [List.length_map]; exact k)
theorem flat_strs (ns : List Str) : (ns.map V.str).all flatV = true := by
  rw [List.all_eq_true]
  intro v h
  obtain ⟨n, _, rfl⟩ := List.mem_map.mp h
  rfl
theorem inV_strs (z : Str) : ∀ ns : List Str, inV (.str z) (ns.map V.str) = decide (z ∈ ns)
  | [] => rfl
  | n :: ns => by
    have ih := inV_strs z ns
    unfold inV at ih ⊢
    rw [List.map_cons, List.any_cons, ih]
    have e : eqV (V.str n) (V.str z) = decide (n = z) := by
      show (n == z) = _
      by_cases h : n = z <;> simp [h]
    rw [e]
    by_cases h : n = z
    · subst h
      simp
    · have h' : ¬ z = n := fun q => h q.symm
      by_cases g : z ∈ ns <;> simp [h, h', g]
theorem i_inLN {ns : List Str} {z : Str} {a : Addr} (h : SqL K H a (ns.map V.str)) (k : Q (.bl (decide (z ∈ ns))) H) : rInA K false (.str z) (.ref a) H Q :=
  .inl ⟨a, _, rfl, .inl h, rfl, flat_strs ns, by rw [inV_strs]; exact k⟩
theorem i_ninN {ns : List Str} {z : Str} (h : Is K H (nmD ns) x) (k : Q (.bl (!decide (z ∈ ns))) H) : rInA K true (.str z) x H Q := by
  obtain ⟨a, rfl, h1⟩ := h.nm
  exact .inl ⟨a, _, rfl, .inr h1, rfl, flat_strs ns, by rw [inV_strs]; exact k⟩
theorem i_ninLN {ns : List Str} {z : Str} {a : Addr} (h : SqL K H a (ns.map V.str)) (k : Q (.bl (!decide (z ∈ ns))) H) : rInA K true (.str z) (.ref a) H Q :=
  .inl ⟨a, _, rfl, .inl h, rfl, flat_strs ns, by rw [inV_strs]; exact k⟩
theorem i_gtwo {a : Addr} {u w : V} {n m : Nat} {R : St → Hp → Prop} (h : SqT K H a [u, w]) (k : R ((σ.set n (some u)).set m (some w)) H) : gTup K 2 (gCons (gName n) (gCons (gName m) gNil)) (.ref a) σ H R :=
  ⟨a, _, rfl, h, rfl, u, [w], rfl, w, [], rfl, rfl, k⟩
theorem for_is {ds : List PyData} {g : TG} {tb : TS} {D : Ends} (h : Is K H (.tuple ds) x) (hf : frzL ds = true) (Pv : Nat → St → Hp → Prop) (h0 : Pv 0 σ H) (hG : ∀ i σ' H', Pv i σ' H' → Fz H H')
    (hs : ∀ i d v σ' H', ds[i]? = some d → Is K H' d v → Pv i σ' H' → g v σ' H' fun σ2 H2 => tb { D with nx := Pv (i + 1), ct := Pv (i + 1), bk := D.nx } σ2 H2) (hd : ∀ σ' H', Pv ds.length σ' H' → D.nx σ' H') :
    rAnyIt K x H fun J H1 => rFor g tb D σ J H1 := by
  obtain ⟨a, xs, rfl, h1, h2⟩ := h.tup
  refine i_itT h1 (for_by walk_tup Pv h0 (fun i σ' H' p => (hG i σ' H' p).seq h1) (fun i v σ' H' hx hi p => ?_) fun σ' H' p => hd σ' H' (by rw [IsL.length h2]; exact p))
  obtain ⟨d, e1, e2⟩ := IsL.get (IsL.fz (hG i σ' H' p) ds xs hf h2) hx
  exact hs i d v σ' H' e1 e2 p
theorem for_nm {ns : List Str} {g : TG} {tb : TS} {D : Ends} (h : Is K H (nmD ns) x) (Pv : Nat → St → Hp → Prop) (h0 : Pv 0 σ H) (hG : ∀ i σ' H', Pv i σ' H' → Fz H H')
    (hs : ∀ i z σ' H', ns[i]? = some z → Pv i σ' H' → g (.str z) σ' H' fun σ2 H2 => tb { D with nx := Pv (i + 1), ct := Pv (i + 1), bk := D.nx } σ2 H2) (hd : ∀ σ' H', Pv ns.length σ' H' → D.nx σ' H') :
    rAnyIt K x H fun J H1 => rFor g tb D σ J H1 :=
  for_is h (frzL_strs ns) Pv h0 hG (fun i d v σ' H' e h p => by
    rw [List.getElem?_map] at e
    cases hn : ns[i]? with
    | none => rw [hn] at e; cases e
    | some z =>
      rw [hn] at e
      cases e
      rw [h.str]
      exact hs i z σ' H' hn p) fun σ' H' p => hd σ' H' (by rw [List.length_map] at p; exact p)
theorem for_ps {ps : List (Str × Str)} {g : TG} {tb : TS} {D : Ends} (h : Is K H (psD ps) x) (Pv : Nat → St → Hp → Prop) (h0 : Pv 0 σ H) (hG : ∀ i σ' H', Pv i σ' H' → Fz H H')
    (hs : ∀ i p v σ' H', ps[i]? = some p → Is K H' (prD p) v → Pv i σ' H' → g v σ' H' fun σ2 H2 => tb { D with nx := Pv (i + 1), ct := Pv (i + 1), bk := D.nx } σ2 H2) (hd : ∀ σ' H', Pv ps.length σ' H' → D.nx σ' H') :
    rAnyIt K x H fun J H1 => rFor g tb D σ J H1 :=
  for_is h (frzL_prs ps) Pv h0 hG (fun i d v σ' H' e h p => by
    rw [List.getElem?_map] at e
    cases hn : ps[i]? with
    | none => rw [hn] at e; cases e
    | some z =>
      rw [hn] at e
      cases e
      exact hs i z v σ' H' hn h p) fun σ' H' p => hd σ' H' (by rw [List.length_map] at p; exact p)
theorem frzL_map {α : Type} (f : α → PyData) (hf : ∀ a, frz (f a) = true) : ∀ xs : List α, frzL (xs.map f) = true
  | [] => rfl
  | x :: xs => by simp only [List.map_cons, frzL, hf, frzL_map f hf xs, Bool.and_self]
theorem comp_dat {α : Type} {J : It} {xs : List V} {G : Hp → Prop} {g : TG} {tt : TT} {te : TE} {Q : VK} {k : Nat} {js : List Nat} (hw : WalkOf J xs G) (as : List α) (hl : as.length = xs.length) (t : α → Bool) (f : α → PyData) (hf : ∀ a, frz (f a) = true) (hz : xs.length ≤ 1000000) (hG : ∀ H', Same H H' → G H')
    (hs : ∀ (i : Nat) a v H1 (R : VK) (R' : Hp → Prop), as[i]? = some a → xs[i]? = some v → Same H H1 → (t a = true → ∀ y H2, Same H1 H2 → Is K H2 (f a) y → R y H2) → (t a = false → ∀ H2, Same H1 H2 → R' H2) →
      g v (List.replicate k none ++ pick σ js) H1 fun σ2 H2 => tt σ2 H2 fun b H3 => if b = true then te σ2 H3 R else R' H3)
    (hd : ∀ p ys H', H p = none → Same H H' → H' p = some (.lst ys) → IsL K H' ((as.filter t).map f) ys → Q (.ref p) H') : rComp k js g tt te σ J H Q := by
  refine comp_by hw (fun p i acc H1 => Same H H1 ∧ IsL K H1 (((as.take i).filter t).map f) acc) (fun p H' hp e h => ⟨e, by simp only [List.take_zero, List.filter_nil, List.map_nil]; exact .nil⟩) (fun p i acc H1 h => hG H1 h.1) (fun p i x acc H1 hp hx hi hl1 ha ⟨e, hacc⟩ => ?_) fun p acc H1 hp ha hl1 ⟨e, hacc⟩ => ?_
  · have hi' : i < as.length := by omega
    obtain ⟨a, hai⟩ : ∃ a, as[i]? = some a := ⟨as[i], List.getElem?_eq_getElem hi'⟩
    have ht : as.take (i + 1) = as.take i ++ [a] := by rw [List.take_add_one, hai]; rfl
    refine hs i a x H1 _ _ hai hx e (fun h y H2 e2 hy => ?_) fun h H2 e2 => ?_
    · refine push_i hz hi hl1 (e2 _ _ ha) fun H' e' h' => ⟨fun b o hb => e' b o (ne_of_none hb hp) (e2 _ _ (e b o hb)), ?_⟩
      rw [ht, List.filter_append, List.map_append]
      have fz := e'.fzL (e2 _ _ ha)
      refine IsL.append (IsL.fz (e2.fz.trans fz) _ _ (frzL_map f hf _) hacc) ?_
      simp only [List.filter_cons, h, if_true, List.filter_nil, List.map_cons, List.map_nil]
      exact .one (Is.fz fz _ _ (hf a) hy)
    · refine cn_skip hi hl1 (e2 _ _ ha) ⟨e.trans e2, ?_⟩
      rw [ht, List.filter_append, List.map_append]
      simp only [List.filter_cons, h, Bool.false_eq_true, if_false, List.filter_nil, List.map_nil, List.append_nil]
      exact IsL.mono e2 _ _ hacc
  · refine hd p acc H1 hp e ha ?_
    rw [← hl, List.take_length] at hacc
    exact hacc
end
end L2
set_option Elab.async false
set_option linter.all false
set_option maxRecDepth 100000
set_option maxHeartbeats 4000000
namespace L2
open PySem PySem.Spec PyProof.Rows
section
variable {X : Cx} {K : PySem.W.Frag}
noncomputable def isDisp : PyData → Bool
  | .list _ => true
  | .tuple _ => true
  | _ => false
mutual
theorem Is.noDict {H : Hp} : ∀ (d : PyData) (v : V), Is K H d v → d.hasDict = false
  | .none, _, h => by simp only [PyData.hasDict]
  | .bool _, _, h => by simp only [PyData.hasDict]
  | .int _, _, h => by simp only [PyData.hasDict]
  | .str _, _, h => by simp only [PyData.hasDict]
  | .list ds, v, h => by
    simp only [Is] at h
    obtain ⟨a, xs, e1, e2, e3⟩ := h
    simp only [PyData.hasDict]
    exact IsL.noDict ds xs e3
  | .tuple ds, v, h => by
    simp only [Is] at h
    obtain ⟨a, xs, e1, e2, e3⟩ := h
    simp only [PyData.hasDict]
    exact IsL.noDict ds xs e3
  | .dict _, _, h => by simp only [Is] at h
theorem IsL.noDict {H : Hp} : ∀ (ds : List PyData) (vs : List V), IsL K H ds vs → PyData.hasDictAll ds = false
  | [], _, h => by simp only [PyData.hasDictAll]
  | d :: ds, vs, h => by
    simp only [IsL] at h
    obtain ⟨v, r, e1, e2, e3⟩ := h
    simp only [PyData.hasDictAll, Is.noDict d v e2, IsL.noDict ds r e3, Bool.or_self]
end
structure Sh (d : PyData) : Prop where
  dp : isDisp d = true
  sh : d.showable = true
  fits : d.shown.length ≤ sizeLine
  deep : d.depth ≤ 100
theorem call_reprD (hq : QA X.A) : CallR X (.builtin "repr") (fun xs H Q => ∃ x d, xs = [x] ∧ Is X.K H d x ∧ Sh d ∧ Q (.str d.shown) H) := by
  intro pins s σ H xs us Q I rv h
  obtain ⟨x, d, rfl, i, S, q⟩ := h
  obtain ⟨u, rfl, ru⟩ := rv.one
  obtain ⟨as, ra⟩ := Is.reads I d x u i ru
  have href : ∃ a, u = .ref a := by
    have hd := S.dp
    cases d with
    | list ds => simp only [Is] at i; obtain ⟨a, _, rfl, _⟩ := i; exact ⟨a, ru⟩
    | tuple ds => simp only [Is] at i; obtain ⟨a, _, rfl, _⟩ := i; exact ⟨a, ru⟩
    | _ => cases hd
  obtain ⟨a, rfl⟩ := href
  refine repr_of_reads' ra S.sh (fun hx => absurd hx (by rw [Is.noDict d x i]; exact Bool.false_ne_true)) hq.gd (by have := hq.un; have := S.deep; omega) (fun _ _ e => e) (fun h' t tk hk => ?_) S.fits
  exact ⟨.str d.shown, H, I.kept hk, ⟨t, rfl⟩, q⟩
noncomputable def strRep (z : Str) (n : Nat) : Str := ⟨(List.replicate n z.cps).foldl (· ++ ·) #[]⟩
noncomputable def rMulS : R2 := fun x y H Q => ∃ z n, x = .str z ∧ y = .int n ∧ 2 ≤ n ∧ n ≤ 1000 ∧ z.length ≤ 1000 ∧ 0 < z.length ∧ Q (.str (strRep z n.toNat)) H
theorem op_mulS : OpR X (binaryOp .Mult) rMulS := by
  intro pins s σ H x y v u Q I rx ry h
  obtain ⟨z, n, rfl, rfl, h1, h2, h3, h4, q⟩ := h
  obtain ⟨t, rfl⟩ := rx
  obtain ⟨t2, rfl⟩ := ry
  have a1 : ¬ n < 1 := by omega
  have a2 : (n == 1 || z.length == 0) = false := by
    have e1 : (n == 1) = false := by simp; omega
    have e2 : (z.length == 0) = false := by simp; omega
    rw [e1, e2]; rfl
  have hz : z.length * n.toNat ≤ 1000000 := by
    have : z.length * n.toNat ≤ 1000 * 1000 := Nat.mul_le_mul h3 (by omega)
    omega
  have hlen : (strRep z n.toNat).length ≤ sizeLine := by
    have e : ∀ (m : Nat) (a : Array Nat), ((List.replicate m z.cps).foldl (· ++ ·) a).size = a.size + m * z.cps.size := by
      intro m
      induction m with
      | zero => intro a; simp
      | succ m ih => intro a; rw [List.replicate_succ, List.foldl_cons, ih, Array.size_append, Nat.succ_mul]; omega
    show ((List.replicate n.toNat z.cps).foldl (· ++ ·) #[]).size ≤ sizeLine
    rw [e]
    have e2 : z.cps.size = z.length := rfl
    rw [e2, sizeLine_eq, Nat.mul_comm]
    simp
    omega
  refine PySem.P.mul_str (by
      have b1 : ¬ n < -(2 ^ 63 : Int) := by omega
      have b2 : ¬ n ≥ 2 ^ 63 := by omega
      rw [decide_eq_false b1, decide_eq_false b2]; rfl) (fun _ _ => ?_) (fun _ _ => ?_) ?_
  · have : (2 ^ 63 - 1 : Int) / n ≥ 1000 := by
      refine Int.le_ediv_of_mul_le (by omega) ?_
      have : 1000 * n ≤ 1000 * 1000 := by omega
      omega
    omega
  · have hz2 : z.length * n.toNat ≤ sizeLine := line_of hz
    rw [sizeLine_eq] at hz2
    unfold Builtin.Str.tooLong
    simp [sizeLine_eq]
    omega
  · rw [if_neg a1, a2, if_neg Bool.false_ne_true]
    exact ⟨hlen, .str _, H, I.kept fun _ _ e => e, ⟨_, rfl⟩, q⟩
noncomputable def rMulB : R2 := fun x y H Q => rMulA x y H Q ∨ rMulS x y H Q
theorem op_mulB : OpR X (binaryOp .Mult) rMulB := op_mulA.or op_mulS
theorem i_mulBI {i j : Int} {H : Hp} {Q : VK} (h : CMul i j) (k : Q (.int (i * j)) H) : rMulB (.int i) (.int j) H Q := .inl (i_mulI h k)
theorem i_mulBS {z : Str} {n : Int} {H : Hp} {Q : VK} (h : 2 ≤ n ∧ n ≤ 1000 ∧ z.length ≤ 1000 ∧ 0 < z.length) (k : Q (.str (strRep z n.toNat)) H) : rMulB (.str z) (.int n) H Q := .inr ⟨z, n, rfl, rfl, h.1, h.2.1, h.2.2.1, h.2.2.2, k⟩
theorem i_mulBL {i : Int} {H : Hp} {Q : VK} {a : Addr} {xs : List V} (h1 : H a = some (.lst xs)) (h2 : -(2 ^ 63) ≤ i ∧ i < 2 ^ 63) (h3 : xs.length * i.toNat ≤ sizeLine) (k : ∀ p H', H p = none → Same H H' → H' p = some (.lst (List.replicate i.toNat xs).flatten) → Q (.ref p) H') : rMulB (.ref a) (.int i) H Q := .inl (i_mulL h1 h2 h3 k)
noncomputable def rIs (neg : Bool) : R2 := fun x y H Q => (y = .non ∧ Q (.bl (if neg then !decide (x = .non) else decide (x = .non))) H) ∨ ∃ a b, x = .bl a ∧ y = .bl b ∧ Q (.bl (if neg then !(a == b) else a == b)) H
theorem op_isNotA : OpR X (compareOp .IsNot) (rIs true) := by
  intro pins s σ H x y v u Q I rx ry h
  rcases h with ⟨rfl, q⟩ | ⟨a, b, rfl, rfl, q⟩
  · exact op_notN pins s σ H x .non v u Q I rx ry ⟨rfl, q⟩
  · cases rx
    cases ry
    refine wpAny_isNot_plain rfl ?_
    refine ⟨.bl _, H, I, ?_, q⟩
    show Value.bool (!(Value.bool a == Value.bool b)) = Value.bool (!(a == b))
    cases a <;> cases b <;> rfl
theorem i_isNotN {x : V} {H : Hp} {Q : VK} (k : Q (.bl (!decide (x = .non))) H) : rIs true x .non H Q := .inl ⟨rfl, k⟩
noncomputable def insL (xs : List V) (i : Nat) (y : V) : List V := xs.take i ++ y :: xs.drop i
noncomputable def rInsert : V → List V → Hp → VK → Prop := fun x vs H Q => ∃ l xs i y, x = .ref l ∧ vs = [.int i, y] ∧ H l = some (.lst xs) ∧ 0 ≤ i ∧ i ≤ xs.length ∧ xs.length < sizeLine ∧ Q .non (upd H l (.lst (insL xs i.toNat y)))
theorem mt_insert : MtM X "list.insert" rInsert := by
  intro pins s σ H x vs v us Q I rx rv h
  obtain ⟨l, xs, i, y, rfl, rfl, hH, h0, h1, hz, q⟩ := h
  cases rx
  obtain ⟨u, w, rfl, ru, rw'⟩ := Vals.two rv
  obtain ⟨t, rfl⟩ := ru
  obtain ⟨z, its, n, r, hl, e⟩ := I.lstM hH
  have hlen := r.length
  refine call_meets F.slot_list_insert ⟨_, e, rfl⟩ F.entry_list_insert (F.args_list_insert_3 _ _ _)
    (AutoSeq1.list_insert_list_int_val_1 l its.toArray n i t w (by rw [fitsIndex_both (by omega) (by rw [sizeLine_eq] at hz; omega)]; decide) (by rw [List.size_toArray]; omega)) ⟨e, ?_⟩
  refine ⟨.non, _, I.lset (its' := its.take i.toNat ++ w :: its.drop i.toNat) hH e ?_ ((r.take i.toNat).append (.cons rw' (r.drop i.toNat))) ?_, rfl, q⟩
  · have hi : i.toNat ≤ its.length := by omega
    show (have k := if i < 0 then (i + ((its.toArray.size : Nat) : Int)).toNat else min i.toNat its.toArray.size; (its.toArray.extract 0 k).push w ++ its.toArray.extract k) = _
    rw [if_neg (by omega), List.size_toArray, Nat.min_eq_left hi]
    simp [List.extract_eq_drop_take]
    exact List.take_of_length_le (by rw [List.length_drop]; omega)
  · rw [List.length_append, List.length_cons, List.length_take, List.length_drop]
    omega
section
variable {D : Ends} {σ : St} {H : Hp} {t u : TS} {te td ty tv : TE} {g : TG}
theorem i_cut (M : St → Hp → Prop) (h1 : ∀ N : St → Hp → Prop, (∀ σ' H', M σ' H' → N σ' H') → t { D with nx := N } σ H) (h2 : ∀ σ' H', M σ' H' → u D σ' H') : tSeq t u D σ H := h1 (u D) h2
end
theorem i_listA {a : Addr} {xs : List V} {H : Hp} {Q : VK} (h : SqL K H a xs ∨ SqT K H a xs) (k : ∀ p H', H p = none → Same H H' → H' p = some (.lst xs) → Q (.ref p) H') : rListA K [.ref a] H Q := ⟨a, xs, rfl, h, fun p hp => k p _ hp (Same.upd hp) upd_same⟩
theorem mm {id : String} {r : V → List V → Hp → VK → Prop} (h : MtM X id r) : MtR X id r := h
theorem i_tyLm {a : Addr} {xs : List V} {H : Hp} {B : Prop} (h : H a = some (.lst xs)) (k : B) : tyV K "list" (.ref a) H ∧ B := ⟨.inl ⟨rfl, xs, SqL.of h⟩, k⟩
theorem i_ins {l : Addr} {xs : List V} {y : V} {i : Int} {H : Hp} {Q : VK} (h : H l = some (.lst xs)) (h0 : 0 ≤ i) (h1 : i ≤ xs.length) (hz : xs.length ≤ 1000000) (k : ∀ H', ExtBut l H H' → H' l = some (.lst (insL xs i.toNat y)) → Q .non H') : rInsert (.ref l) [.int i, y] H Q :=
  ⟨l, xs, i, y, rfl, rfl, h, h0, h1, by rw [sizeLine_eq]; omega, k _ ExtBut.upd upd_same⟩
theorem i_appR {l : Addr} {xs : List V} {y : V} {H : Hp} {Q : VK} (h : H l = some (.lst xs)) (hz : xs.length ≤ 1000000) (k : ∀ H', ExtBut l H H' → H' l = some (.lst (xs ++ [y])) → Q .non H') : rAppend (.ref l) [y] H Q :=
  ⟨l, xs, y, rfl, rfl, h, by rw [sizeLine_eq]; omega, k _ ExtBut.upd upd_same⟩
theorem i_extR {l b : Addr} {xs zs : List V} {H : Hp} {Q : VK} (h : H l = some (.lst xs)) (hb : H b = some (.lst zs)) (hz : xs.length + zs.length ≤ 1000000) (k : ∀ H', ExtBut l H H' → H' l = some (.lst (xs ++ zs)) → Q .non H') : rExtend (.ref l) [.ref b] H Q :=
  ⟨l, b, xs, zs, rfl, rfl, h, hb, line_of hz, k _ ExtBut.upd upd_same⟩
theorem i_popAtR {l : Addr} {xs : List V} {y : V} {i : Int} {H : Hp} {Q : VK} (h : H l = some (.lst xs)) (h0 : 0 ≤ i) (h1 : xs[i.toNat]? = some y) (k : ∀ H', ExtBut l H H' → H' l = some (.lst (xs.eraseIdx i.toNat)) → Q y H') (hz : xs.length ≤ 1000000) : rPopAt (.ref l) [.int i] H Q := by
  have h2 := (List.getElem?_eq_some_iff.mp h1).1
  refine ⟨l, xs, i, i.toNat, y, rfl, rfl, h, by omega, by omega, ?_, h1, k _ ExtBut.upd upd_same⟩
  have e := atI_get (atI_nat (α := V) h1)
  obtain ⟨j, e1, e2, e3, _⟩ := e
  rw [Int.toNat_of_nonneg h0] at e1
  rw [e1]
  have e4 : seqIndex? i xs.length = some i.toNat := by
    unfold seqIndex? at e1 ⊢
    simp [show ¬ i < 0 by omega] at e1 ⊢
    omega
  rw [← e1, e4]
noncomputable def stepV (xs : List V) (k : Int) : List V := if k = 1 then xs else xs.reverse
noncomputable def rSlStep (K : PySem.W.Frag) : V → V → Hp → VK → Prop := fun x y H Q => ∃ a xs k, x = .ref a ∧ y = .int k ∧ (k = 1 ∨ k = -1) ∧ SqL K H a xs ∧ ∀ p, H p = none → Q (.ref p) (upd H p (.lst (stepV xs k)))
theorem pick_one (items : Array Value) : slicePick items none none (some 1) = items := by
  have e : slicePick items none none (some 1) = slicePick items none none none := rfl
  rw [e, slicePick_cut]
  simp [HT.sIx]
  rw [show items.size = items.toList.length by simp, List.take_length]
theorem pe_sliceStep {e st : Expr} {te ts : TE} {p2 pos : Pos} (he : PE X e te) (hst : PE X st ts) (hK : X.K = K := by with_unfolding_all rfl) : PE X (.Subscript e (.Slice none none (some st) p2) pos) (tOp (rSlStep K) te ts) := by
  subst hK
  intro pins s σ H Q I h
  refine Subscript_ (thn (he pins s σ H _ I h) fun v s1 ⟨x, H1, I1, r1, q1⟩ => ?_)
  refine wpAny_Slice ?_
  rw [evalPart_none]
  refine wpAny_pure (wpAny_pure ?_)
  rw [evalPart_some]
  refine thn (hst pins s1 σ H1 _ I1 q1) fun u s2 ⟨y, H2, I2, r2, q2⟩ => ?_
  obtain ⟨a, xs, k, rfl, rfl, hk, hx, q⟩ := q2
  cases r1
  obtain ⟨t, rfl⟩ := r2
  have I4 : Inv X pins σ H2 { s2 with heap := s2.heap.push { cls := .type "slice", data := .fields #[.none, .none, .int k t] } } := I2.kept (t' := s2.toks) fun b ob q => Heap.get?_push_of_some _ q
  obtain ⟨its, r, ht, hz⟩ := I4.list hx
  have hlen := r.length
  refine tail_any (ops := [.ref a, .ref s2.heap.objs.size]) ht.isList.typeIs slot_list_getitem.lookup ?_ (by with_unfolding_all rfl)
  refine wpAny_getItem_list_slice ht.isList (Heap.IsSliceOf.new ..) .none .none (.int k t) (by rcases hk with rfl | rfl <;> decide) ?_ (by rw [List.size_toArray]; omega)
  rcases hk with rfl | rfl
  · rw [pick_one]
    refine ⟨.ref _, _, I4.laid (t' := s2.toks) (o := .lst (stepV xs 1)) (fun b ob q => Heap.get?_push_of_some _ q) (Nat.le_refl _) ?_, rfl, q _ (I4.hok.fresh (Nat.le_refl _))⟩
    exact ⟨hz, _, 0, r, Heap.get?_push_size _ rfl⟩
  · rw [PySem.W.krv_pick]
    refine ⟨.ref _, _, I4.laid (t' := s2.toks) (o := .lst (stepV xs (-1))) (fun b ob q => Heap.get?_push_of_some _ q) (Nat.le_refl _) ?_, rfl, q _ (I4.hok.fresh (Nat.le_refl _))⟩
    exact ⟨by show xs.reverse.length ≤ _; rw [List.length_reverse]; exact hz, _, 0, by show Vals xs.reverse _; exact r.reverse, Heap.get?_push_size _ rfl⟩
theorem i_step {a : Addr} {xs : List V} {k : Int} {H : Hp} {Q : VK} (h : SqL K H a xs) (hk : k = 1 ∨ k = -1) (c : ∀ p H', H p = none → Same H H' → H' p = some (.lst (stepV xs k)) → Q (.ref p) H') : rSlStep K (.ref a) (.int k) H Q :=
  ⟨a, xs, k, rfl, rfl, hk, h, fun p hp => c p _ hp (Same.upd hp) upd_same⟩
end
end L2
set_option Elab.async false
set_option linter.all false
set_option maxRecDepth 100000
set_option maxHeartbeats 4000000
namespace L2
open PySem PySem.Spec PyProof.Rows
noncomputable def smallN (c : Nat) : Bool := decide (97 ≤ c) && decide (c ≤ 122)
noncomputable def isNm (x : Str) : Bool := decide (1 ≤ x.length) && decide (x.length ≤ 8) && x.cps.toList.all smallN
noncomputable def Names (ns : List Str) : Prop := ns.Nodup ∧ ∀ z ∈ ns, isNm z = true
noncomputable def LL : Str := "abcdefghijklmnopqrstuvwxyzabcdefghijklmnopqrstuvwxyz"
theorem LL_rep : strRep "abcdefghijklmnopqrstuvwxyz" (2 : Int).toNat = LL := by decide +kernel
noncomputable def LLn : List Nat := LL.cps.toList
theorem LL_len : LL.length = 52 := by decide +kernel
theorem LLn_len : LLn.length = 52 := by decide +kernel
theorem LL_small : ∀ c ∈ LLn, smallN c = true := by decide +kernel
noncomputable def txt (l : List Nat) : Str := ⟨l.toArray⟩
theorem txt_inj {a b : List Nat} (h : txt a = txt b) : a = b := by
  have : a.toArray = b.toArray := congrArg Str.cps h
  simpa using this
theorem txt_app (a b : List Nat) : txt a ++ txt b = txt (a ++ b) := by
  show (⟨a.toArray ++ b.toArray⟩ : Str) = ⟨(a ++ b).toArray⟩
  simp
theorem txt_name {l : List Nat} (h0 : 1 ≤ l.length) (h1 : l.length ≤ 8) (h2 : ∀ c ∈ l, smallN c = true) : isNm (txt l) = true := by
  unfold isNm
  have e : (txt l).length = l.length := by show l.toArray.size = _; simp
  rw [e, decide_eq_true h0, decide_eq_true h1]
  show (true && true && l.all smallN) = true
  rw [List.all_eq_true.mpr h2]
  rfl
noncomputable def cutN (a b : Nat) : List Nat := (LLn.drop a).take (b - a)
theorem cutN_len {a b : Nat} (h : a ≤ b) (h1 : b ≤ 52) : (cutN a b).length = b - a := by
  unfold cutN
  rw [List.length_take, List.length_drop, LLn_len]
  omega
theorem cutN_small {a b : Nat} : ∀ c ∈ cutN a b, smallN c = true := fun c hc => LL_small c (List.mem_of_mem_drop (List.mem_of_mem_take hc))
theorem LL_cut {i j : Int} (h0 : 0 ≤ i) (h1 : i ≤ j) (h2 : j ≤ 52) : Txt.slice LL (some i) (some j) = txt (cutN i.toNat j.toNat) := by
  have e := StrLaws.sliceText_plain (x := LL) (i := i) (j := j) ⟨h0, h1, by rw [show LL.cps.toList.length = 52 by decide +kernel]; omega⟩
  have e2 : (j - i).toNat = j.toNat - i.toNat := by omega
  rw [e2] at e
  exact e
noncomputable def sgnN (i : Nat) : List Nat := (LLn.drop i).take 1
theorem LL_at {i : Int} (h0 : 0 ≤ i) (h1 : i < 52) : ∃ c, atI LL.cps.toList i = some c ∧ (⟨#[c]⟩ : Str) = txt (sgnN i.toNat) := by
  have h2 : i.toNat < LLn.length := by rw [LLn_len]; omega
  refine ⟨LLn[i.toNat], ?_, ?_⟩
  · have := atI_nat (List.getElem?_eq_getElem h2)
    rwa [Int.toNat_of_nonneg h0] at this
  · unfold sgnN
    rw [List.drop_eq_getElem_cons h2]
    rfl
theorem sgnN_len {i : Nat} (h : i < 52) : (sgnN i).length = 1 := by
  unfold sgnN
  rw [List.length_take, List.length_drop, LLn_len]
  omega
theorem sgnN_small {i : Nat} : ∀ c ∈ sgnN i, smallN c = true := fun c hc => LL_small c (List.mem_of_mem_drop (List.mem_of_mem_take hc))
noncomputable def nm0 (s : Nat) : List (List Nat) := (List.range 8).map (fun k => cutN s (s + 1 + k)) ++ [sgnN (s + 9), sgnN (s + 10)]
noncomputable def nm1 (s z a : Nat) : List (List Nat) := (List.range 10).map fun k => cutN s (s + a) ++ sgnN (s + 5 * k % 26) ++ cutN (s + a + 1) (s + z)
noncomputable def nm2 (s : Nat) : List (List Nat) := (List.range 10).map fun k => cutN (s + k) (s + k + 1 + 3 * k % 8)
theorem nd0 : ∀ s < 26, (nm0 s).Nodup := by decide +kernel
theorem nd2 : ∀ s < 26, (nm2 s).Nodup := by decide +kernel
theorem nd1' : ∀ s < 26, ((List.range 10).map fun k => sgnN (s + 5 * k % 26)).Nodup := by decide +kernel
theorem nodup_map_on {α β : Type} {f : α → β} : ∀ {l : List α}, l.Nodup → (∀ a ∈ l, ∀ b ∈ l, f a = f b → a = b) → (l.map f).Nodup
  | [], _, _ => by simp
  | a :: l, h, hf => by
    rw [List.map_cons, List.nodup_cons]
    rw [List.nodup_cons] at h
    refine ⟨fun hm => ?_, nodup_map_on h.2 fun x hx y hy => hf x (List.mem_cons_of_mem _ hx) y (List.mem_cons_of_mem _ hy)⟩
    obtain ⟨b, hb, e⟩ := List.mem_map.mp hm
    have := hf b (List.mem_cons_of_mem _ hb) a List.mem_cons_self e
    subst this
    exact h.1 hb
theorem inj_of_nodup_map {α β : Type} {f : α → β} : ∀ {l : List α}, (l.map f).Nodup → ∀ a ∈ l, ∀ b ∈ l, f a = f b → a = b
  | [], _, a, ha, _, _, _ => by cases ha
  | c :: l, h, a, ha, b, hb, e => by
    rw [List.map_cons, List.nodup_cons] at h
    rcases List.mem_cons.mp ha with q | ha'
    · rcases List.mem_cons.mp hb with q' | hb'
      · rw [q, q']
      · exact absurd (List.mem_map.mpr ⟨b, hb', by rw [← e, q]⟩) h.1
    · rcases List.mem_cons.mp hb with q' | hb'
      · exact absurd (List.mem_map.mpr ⟨a, ha', by rw [e, q']⟩) h.1
      · exact inj_of_nodup_map h.2 a ha' b hb' e
theorem nodup_txt {l : List (List Nat)} (h : l.Nodup) : (l.map txt).Nodup := nodup_map_on h fun a _ b _ e => txt_inj e
theorem nd1 {s z a : Nat} (hs : s < 26) : (nm1 s z a).Nodup := by
  refine nodup_map_on List.nodup_range fun k hk j hj e => ?_
  have e1 : sgnN (s + 5 * k % 26) = sgnN (s + 5 * j % 26) := List.append_cancel_left (List.append_cancel_right e)
  exact inj_of_nodup_map (f := fun k => sgnN (s + 5 * k % 26)) (nd1' s hs) k hk j hj e1
theorem ok_nm0 {s : Nat} (hs : s < 26) : Names ((nm0 s).map txt) := by
  refine ⟨nodup_txt (nd0 s hs), fun z hz => ?_⟩
  obtain ⟨l, hl, rfl⟩ := List.mem_map.mp hz
  rcases List.mem_append.mp hl with h | h
  · obtain ⟨k, hk, rfl⟩ := List.mem_map.mp h
    have hk := List.mem_range.mp hk
    have e := cutN_len (a := s) (b := s + 1 + k) (by omega) (by omega)
    exact txt_name (by omega) (by omega) cutN_small
  · simp only [List.mem_cons, List.not_mem_nil, or_false] at h
    rcases h with rfl | rfl
    · have e := sgnN_len (i := s + 9) (by omega)
      exact txt_name (by omega) (by omega) sgnN_small
    · have e := sgnN_len (i := s + 10) (by omega)
      exact txt_name (by omega) (by omega) sgnN_small
theorem ok_nm1 {s z a : Nat} (hs : s < 26) (ha : a < z) (hz : z ≤ 8) : Names ((nm1 s z a).map txt) := by
  refine ⟨nodup_txt (nd1 hs), fun y hy => ?_⟩
  obtain ⟨l, hl, rfl⟩ := List.mem_map.mp hy
  obtain ⟨k, hk, rfl⟩ := List.mem_map.mp hl
  have hm : 5 * k % 26 < 26 := Nat.mod_lt _ (by decide)
  have e1 := cutN_len (a := s) (b := s + a) (by omega) (by omega)
  have e2 := sgnN_len (i := s + 5 * k % 26) (by omega)
  have e3 := cutN_len (a := s + a + 1) (b := s + z) (by omega) (by omega)
  refine txt_name (by simp only [List.length_append]; omega) (by simp only [List.length_append]; omega) fun c hc => ?_
  rcases List.mem_append.mp hc with hc | hc
  · rcases List.mem_append.mp hc with hc | hc
    · exact cutN_small c hc
    · exact sgnN_small c hc
  · exact cutN_small c hc
theorem ok_nm2 {s : Nat} (hs : s < 26) : Names ((nm2 s).map txt) := by
  refine ⟨nodup_txt (nd2 s hs), fun z hz => ?_⟩
  obtain ⟨l, hl, rfl⟩ := List.mem_map.mp hz
  obtain ⟨k, hk, rfl⟩ := List.mem_map.mp hl
  have hk := List.mem_range.mp hk
  have hm : 3 * k % 8 < 8 := Nat.mod_lt _ (by decide)
  have e := cutN_len (a := s + k) (b := s + k + 1 + 3 * k % 8) (by omega) (by omega)
  exact txt_name (by omega) (by omega) cutN_small
noncomputable def nm3 : List Str := ["names", "ahead", "name", "a", "ab", "aheads", "last", "ask", "row", "end"]
theorem ok_nm3 : Names nm3 := ⟨by decide +kernel, by decide +kernel⟩
theorem Names.perm {ns ms : List Str} (h : Names ns) (p : ms.Perm ns) : Names ms := ⟨p.nodup_iff.mpr h.1, fun z hz => h.2 z (p.mem_iff.mp hz)⟩
theorem Names.sublist {ns ms : List Str} (h : Names ns) (p : ms.Sublist ns) : Names ms := ⟨h.1.sublist p, fun z hz => h.2 z (p.subset hz)⟩
theorem Names.reverse {ns : List Str} (h : Names ns) : Names ns.reverse := h.perm (List.reverse_perm _)
theorem Names.turn {ns : List Str} (h : Names ns) (t n : Nat) : Names ((ns.drop t ++ ns.take t).take n) :=
  Names.sublist (ns := ns.drop t ++ ns.take t) (h.perm (List.perm_append_comm.trans (by rw [List.take_append_drop]))) (List.take_sublist _ _)
theorem cut_from {xs : List V} {t : Int} (h0 : 0 ≤ t) (h1 : t ≤ xs.length) : cutV xs (some t) none = xs.drop t.toNat := by
  have e : HT.sIx xs.length 0 (some t) = t.toNat := by unfold HT.sIx; simp [show ¬ t < 0 by omega]; omega
  unfold cutV
  rw [e]
  have e2 : HT.sIx xs.length xs.length none = xs.length := rfl
  rw [e2]
  exact List.take_of_length_le (by rw [List.length_drop]; omega)
theorem cut_upto {xs : List V} {t : Int} (h0 : 0 ≤ t) : cutV xs none (some t) = xs.take t.toNat := by
  have e : HT.sIx xs.length xs.length (some t) = min t.toNat xs.length := by unfold HT.sIx; simp [show ¬ t < 0 by omega]
  unfold cutV
  rw [e]
  have e2 : HT.sIx xs.length 0 none = 0 := rfl
  rw [e2, List.drop_zero, Nat.sub_zero, Nat.min_comm]
  rw [← List.take_take]
  exact List.take_of_length_le (by rw [List.length_take]; omega)
theorem rng_get {lo : Int} {n i : Nat} {x : V} (h : ((List.range n).map fun (i : Nat) => V.int (lo + (i : Int)))[i]? = some x) : x = .int (lo + (i : Int)) ∧ i < n := by
  rw [List.getElem?_map] at h
  cases e : (List.range n)[i]? with
  | none => rw [e] at h; cases h
  | some j =>
    rw [e] at h
    cases h
    have e1 := List.getElem?_eq_some_iff.mp e
    obtain ⟨h1, h2⟩ := e1
    rw [List.length_range] at h1
    rw [List.getElem_range] at h2
    subst h2
    exact ⟨rfl, h1⟩
noncomputable def fI (F : Int → V) : V → V
  | .int k => F k
  | v => v
theorem map_rng {lo : Int} {n : Nat} {F : Int → V} {G : Nat → Str} (h : ∀ k < n, F (lo + (k : Int)) = .str (G k)) : ((List.range n).map fun (i : Nat) => V.int (lo + (i : Int))).map (fI F) = ((List.range n).map G).map V.str := by
  rw [List.map_map, List.map_map]
  refine List.map_congr_left fun k hk => ?_
  exact h k (List.mem_range.mp hk)
theorem LL_line : LL.length ≤ sizeLine := by rw [LL_len, sizeLine_eq]; omega
theorem step_names {ns : List Str} (h : Names ns) {k : Int} : ∃ ms, stepV (ns.map V.str) k = ms.map V.str ∧ Names ms ∧ ms.length = ns.length := by
  unfold stepV
  split
  · exact ⟨ns, rfl, h, rfl⟩
  · exact ⟨ns.reverse, by rw [List.map_reverse], h.reverse, List.length_reverse ..⟩
theorem ExtBut.off {d q : Addr} {H H1 H2 : Hp} (e : ExtBut d H H1) (hq : H q = none) (e2 : ExtBut q H1 H2) : ExtBut d H H2 := fun b o n h => e2 b o (ne_of_none h hq) (e b o n h)
theorem Same.off {q : Addr} {H H1 H2 : Hp} (e : Same H H1) (hq : H q = none) (e2 : ExtBut q H1 H2) : Same H H2 := fun b o h => e2 b o (ne_of_none h hq) (e b o h)
noncomputable def Up (ls : List Str) (ps : List (Str × Str)) : Prop := ∀ p ∈ ps, ∃ i j : Nat, i < j ∧ ls[i]? = some p.1 ∧ ls[j]? = some p.2
theorem Up.nil {ls : List Str} : Up ls [] := fun _ h => by cases h
theorem Up.append {ls : List Str} {ps qs : List (Str × Str)} (h : Up ls ps) (g : Up ls qs) : Up ls (ps ++ qs) := fun p hp => by
  rcases List.mem_append.mp hp with hp | hp
  · exact h p hp
  · exact g p hp
theorem Up.one {ls : List Str} {x y : Str} {i j : Nat} (h : i < j) (hx : ls[i]? = some x) (hy : ls[j]? = some y) : Up ls [(x, y)] := fun p hp => by
  have : p = (x, y) := by simpa using hp
  subst this
  exact ⟨i, j, h, hx, hy⟩
theorem Up.sub {ls : List Str} {ps qs : List (Str × Str)} (h : Up ls ps) (s : ∀ p ∈ qs, p ∈ ps) : Up ls qs := fun p hp => h p (s p hp)
theorem str_at? {ls : List Str} {i : Int} (h0 : 0 ≤ i) (h1 : i < ls.length) : ∃ z, ls[i.toNat]? = some z ∧ atI (ls.map V.str) i = some (.str z) ∧ atI ls i = some z := by
  have h2 : i.toNat < ls.length := by omega
  refine ⟨ls[i.toNat], List.getElem?_eq_getElem h2, ?_, ?_⟩
  · have := atI_nat (xs := ls.map V.str) (j := i.toNat) (v := .str ls[i.toNat]) (by rw [List.getElem?_map, List.getElem?_eq_getElem h2]; rfl)
    rwa [Int.toNat_of_nonneg h0] at this
  · have := atI_nat (List.getElem?_eq_getElem h2)
    rwa [Int.toNat_of_nonneg h0] at this
theorem perm_erase {α : Type} : ∀ (us : List α) (k : Nat) (y : α), us[k]? = some y → (y :: us.eraseIdx k).Perm us
  | [], k, y, h => by simp at h
  | u :: us, 0, y, h => by
    have : u = y := by simpa using h
    subst this
    exact List.Perm.refl _
  | u :: us, k + 1, y, h => by
    have ih := perm_erase us k y (by simpa using h)
    exact (List.Perm.swap u y _).trans (ih.cons u)
theorem perm_pop {α : Type} {us : List α} {k : Nat} {y : α} (h : us[k]? = some y) (vs : List α) : (vs ++ [y] ++ us.eraseIdx k).Perm (vs ++ us) := by
  rw [List.append_assoc]
  exact List.Perm.append_left vs (perm_erase us k y h)
theorem getD_of {α : Type} {l : List α} {i : Nat} {x y : α} (h : l[i]? = some x) : l.getD i y = x := by rw [List.getD_eq_getElem?_getD, h]; rfl
theorem map_prD {α : Type} (as : List α) (f : α → Str × Str) : as.map (fun a => prD (f a)) = (as.map f).map prD := by rw [List.map_map]; rfl
theorem get_getD {α : Type} {l : List α} {i : Nat} {y : α} (h : i < l.length) : l[i]? = some (l.getD i y) := by rw [List.getD_eq_getElem?_getD, List.getElem?_eq_getElem h]; rfl
end L2
set_option Elab.async false
set_option linter.all false
set_option maxRecDepth 100000
set_option maxHeartbeats 4000000
namespace L2
open PySem PySem.Spec PyProof.Rows
inductive Way (ps : List (Str × Str)) : Str → Str → Prop
  | one {x y : Str} : (x, y) ∈ ps → Way ps x y
  | cons {x z y : Str} : (x, z) ∈ ps → Way ps z y → Way ps x y
theorem Way.trans {ps : List (Str × Str)} {x y z : Str} (h : Way ps x y) (g : Way ps y z) : Way ps x z := by
  induction h with
  | one e => exact .cons e g
  | cons e _ ih => exact .cons e (ih g)
theorem Up.lt {ls : List Str} (hn : ls.Nodup) {ps : List (Str × Str)} (h : Up ls ps) {x y : Str} (g : Way ps x y) : ∃ i j : Nat, i < j ∧ ls[i]? = some x ∧ ls[j]? = some y := by
  induction g with
  | one e => exact h _ e
  | cons e _ ih =>
    obtain ⟨i, j, h1, h2, h3⟩ := h _ e
    obtain ⟨i', j', g1, g2, g3⟩ := ih
    have e : j = i' := by
      obtain ⟨a, b⟩ := List.getElem?_eq_some_iff.mp h3
      obtain ⟨c, d⟩ := List.getElem?_eq_some_iff.mp g2
      exact (List.getElem_inj hn).mp (b.trans d.symm)
    exact ⟨i, j', by omega, h2, g3⟩
theorem Up.irrefl {ls : List Str} (hn : ls.Nodup) {ps : List (Str × Str)} (h : Up ls ps) {x : Str} : ¬ Way ps x x := fun g => by
  obtain ⟨i, j, h1, h2, h3⟩ := h.lt hn g
  obtain ⟨a, b⟩ := List.getElem?_eq_some_iff.mp h2
  obtain ⟨c, d⟩ := List.getElem?_eq_some_iff.mp h3
  have := (List.getElem_inj hn).mp (b.trans d.symm)
  omega
theorem Up.mem {ls : List Str} {ps : List (Str × Str)} (h : Up ls ps) {p : Str × Str} (hp : p ∈ ps) : p.1 ∈ ls ∧ p.2 ∈ ls := by
  obtain ⟨i, j, _, h2, h3⟩ := h p hp
  exact ⟨List.mem_of_getElem? h2, List.mem_of_getElem? h3⟩
structure Half (ns : List Str) (ps : List (Str × Str)) : Prop where
  names : Names ns
  few : ns.length ≤ 10
  le : ps.length ≤ 60
  line : ∃ ls : List Str, ls.Perm ns ∧ Up ls ps
theorem Half.irrefl {ns : List Str} {ps : List (Str × Str)} (h : Half ns ps) {x : Str} : ¬ Way ps x x := by
  obtain ⟨ls, h1, h2⟩ := h.line
  exact h2.irrefl (h1.nodup_iff.mpr h.names.1)
theorem Half.mem {ns : List Str} {ps : List (Str × Str)} (h : Half ns ps) {p : Str × Str} (hp : p ∈ ps) : p.1 ∈ ns ∧ p.2 ∈ ns := by
  obtain ⟨ls, h1, h2⟩ := h.line
  have := h2.mem hp
  exact ⟨h1.mem_iff.mp this.1, h1.mem_iff.mp this.2⟩
theorem eqv_nil_strs (ls : List Str) : PyData.eqv (.list (ls.map PyData.str)) (.list []) = ls.isEmpty := by
  cases ls <;> simp [PyData.eqv, PyData.eqvAll]
mutual
def plainD : PyData → Bool
  | .none => true
  | .bool _ => true
  | .str x => PyData.strOk x
  | .list ds => plainL ds
  | .tuple ds => plainL ds
  | _ => false
def plainL : List PyData → Bool
  | [] => true
  | d :: ds => plainD d && plainL ds
end
mutual
theorem plain_lay : ∀ d : PyData, plainD d = true → d.canLay0 = true
  | .none, _ => by simp only [PyData.canLay0]
  | .bool _, _ => by simp only [PyData.canLay0]
  | .str x, h => by simpa only [PyData.canLay0, plainD] using h
  | .list ds, h => by simp only [PyData.canLay0]; exact plain_layL ds (by simpa only [plainD] using h)
  | .tuple ds, h => by simp only [PyData.canLay0]; exact plain_layL ds (by simpa only [plainD] using h)
  | .int _, h => by simp [plainD] at h
  | .dict _, h => by simp [plainD] at h
theorem plain_layL : ∀ ds : List PyData, plainL ds = true → PyData.canLayAll0 ds = true
  | [], _ => by simp only [PyData.canLayAll0]
  | d :: ds, h => by
    simp only [plainL, Bool.and_eq_true] at h
    simp only [PyData.canLayAll0, plain_lay d h.1, plain_layL ds h.2, Bool.and_self]
end
structure Fine (d : PyData) : Prop where
  plain : plainD d = true
  deep : d.depth ≤ 60
  light : d.weight ≤ 1000000
theorem Fine.shaped {d : PyData} (h : Fine d) : SeqAt.shaped d = true := by
  unfold SeqAt.shaped
  rw [plain_lay d h.plain, decide_eq_true (Nat.le_trans h.deep (by decide))]
  rfl
theorem nm_ok {z : Str} (h : isNm z = true) : PyData.strOk z = true ∧ z.cps.size ≤ 8 := by
  unfold isNm at h
  simp only [Bool.and_eq_true, decide_eq_true_eq] at h
  refine ⟨?_, h.1.2⟩
  unfold PyData.strOk
  rw [← Array.all_toList, List.all_eq_true]
  intro c hc
  have := List.all_eq_true.mp h.2 c hc
  unfold smallN at this
  simp only [Bool.and_eq_true, decide_eq_true_eq] at this
  exact decide_eq_true (by omega)
theorem plainL_map {α : Type} (f : α → PyData) : ∀ xs : List α, (∀ a ∈ xs, plainD (f a) = true) → plainL (xs.map f) = true
  | [], _ => by simp only [List.map_nil, plainL]
  | x :: xs, h => by simp only [List.map_cons, plainL, h x List.mem_cons_self, plainL_map f xs fun a ha => h a (List.mem_cons_of_mem _ ha), Bool.and_self]
theorem depth_map {α : Type} (f : α → PyData) (n : Nat) : ∀ xs : List α, (∀ a ∈ xs, (f a).depth ≤ n) → PyData.depthAll (xs.map f) ≤ n
  | [], _ => by simp only [List.map_nil, PyData.depthAll]; omega
  | x :: xs, h => by
    have h1 := h x List.mem_cons_self
    have h2 := depth_map f n xs fun a ha => h a (List.mem_cons_of_mem _ ha)
    simp only [List.map_cons, PyData.depthAll]
    omega
theorem weight_map {α : Type} (f : α → PyData) (n : Nat) : ∀ xs : List α, (∀ a ∈ xs, (f a).weight ≤ n) → PyData.weightAll (xs.map f) ≤ xs.length * (n + 1)
  | [], _ => by simp only [List.map_nil, PyData.weightAll]; omega
  | x :: xs, h => by
    have h1 := h x List.mem_cons_self
    have h2 := weight_map f n xs fun a ha => h a (List.mem_cons_of_mem _ ha)
    simp only [List.map_cons, PyData.weightAll, List.length_cons, Nat.add_mul]
    omega
theorem pr_facts {p : Str × Str} (h1 : isNm p.1 = true) (h2 : isNm p.2 = true) : plainD (prD p) = true ∧ (prD p).depth ≤ 1 ∧ (prD p).weight ≤ 18 := by
  have a := nm_ok h1
  have b := nm_ok h2
  refine ⟨by simp only [prD, plainD, plainL, a.1, b.1, Bool.and_self], by simp only [prD, PyData.depth, PyData.depthAll]; omega, ?_⟩
  simp only [prD, PyData.weight, PyData.weightAll]
  omega
theorem nm_facts {ns : List Str} (h : ∀ z ∈ ns, isNm z = true) : plainD (nmD ns) = true ∧ (nmD ns).depth ≤ 1 ∧ (nmD ns).weight ≤ ns.length * 9 := by
  refine ⟨by simp only [nmD, plainD]; exact plainL_map _ ns fun z hz => by simp only [plainD]; exact (nm_ok (h z hz)).1, ?_, ?_⟩
  · simp only [nmD, PyData.depth]
    have := depth_map PyData.str 0 ns fun z hz => by simp only [PyData.depth]; omega
    omega
  · simp only [nmD, PyData.weight]
    exact weight_map PyData.str 8 ns fun z hz => by simp only [PyData.weight]; exact (nm_ok (h z hz)).2
noncomputable def NmP (ps : List (Str × Str)) : Prop := ∀ p ∈ ps, isNm p.1 = true ∧ isNm p.2 = true
theorem ps_facts {ps : List (Str × Str)} (h : NmP ps) : plainD (psD ps) = true ∧ (psD ps).depth ≤ 2 ∧ (psD ps).weight ≤ ps.length * 19 := by
  refine ⟨by simp only [psD, plainD]; exact plainL_map _ ps fun z hz => (pr_facts (h z hz).1 (h z hz).2).1, ?_, ?_⟩
  · simp only [psD, PyData.depth]
    have := depth_map prD 1 ps fun z hz => (pr_facts (h z hz).1 (h z hz).2).2.1
    omega
  · simp only [psD, PyData.weight]
    exact weight_map prD 18 ps fun z hz => (pr_facts (h z hz).1 (h z hz).2).2.2
theorem fine_nm {ns : List Str} (h : ∀ z ∈ ns, isNm z = true) (hl : ns.length ≤ 1000) : Fine (nmD ns) := let ⟨a, b, c⟩ := nm_facts h; ⟨a, by omega, by omega⟩
theorem fine_ps {ps : List (Str × Str)} (h : NmP ps) (hl : ps.length ≤ 1000) : Fine (psD ps) := let ⟨a, b, c⟩ := ps_facts h; ⟨a, by omega, by omega⟩
theorem fine_lst {ns : List Str} (h : ∀ z ∈ ns, PyData.strOk z = true) : SeqAt.shaped (.list (ns.map PyData.str)) = true := by
  unfold SeqAt.shaped
  have e : (PyData.list (ns.map PyData.str)).canLay0 = true := plain_lay _ (by simp only [plainD]; exact plainL_map _ ns fun z hz => by simp only [plainD]; exact h z hz)
  have e2 : (PyData.list (ns.map PyData.str)).depth ≤ 64 := by
    simp only [PyData.depth]
    have := depth_map PyData.str 0 ns fun z hz => by simp only [PyData.depth]; omega
    omega
  rw [e, decide_eq_true e2]
  rfl
theorem nodup_le {α : Type} [DecidableEq α] : ∀ {xs ys : List α}, xs.Nodup → (∀ x ∈ xs, x ∈ ys) → xs.length ≤ ys.length
  | [], _, _, _ => Nat.zero_le _
  | x :: xs, ys, h, hs => by
    rw [List.nodup_cons] at h
    have hx : x ∈ ys := hs x List.mem_cons_self
    have ih := nodup_le (xs := xs) (ys := ys.erase x) h.2 fun z hz => by
      refine (List.mem_erase_of_ne ?_).mpr (hs z (List.mem_cons_of_mem _ hz))
      intro e
      subst e
      exact h.1 hz
    rw [List.length_erase_of_mem hx] at ih
    have : 0 < ys.length := List.length_pos_of_mem hx
    rw [List.length_cons]
    omega
section
variable {c : TT} {tb : TS} {D : Ends} {σ : St} {H : Hp}
theorem i_while (W : Nat → St → Hp → Prop) (m : Nat) (h0 : W m σ H)
    (hs : ∀ m σ H, W m σ H → c σ H fun b H1 => if b = true then ∃ N : St → Hp → Prop, (∀ σ' H', N σ' H' → ∃ m', m' < m ∧ W m' σ' H') ∧ tb { D with nx := N, ct := N, bk := D.nx } σ H1 else D.nx σ H1) : tWhile c tb D σ H := ⟨W, ⟨m, h0⟩, hs⟩
theorem i_turn {W : Nat → St → Hp → Prop} {m : Nat} (h : tb { D with nx := fun σ' H' => ∃ m', m' < m ∧ W m' σ' H', ct := fun σ' H' => ∃ m', m' < m ∧ W m' σ' H', bk := D.nx } σ H) :
    ∃ N : St → Hp → Prop, (∀ σ' H', N σ' H' → ∃ m', m' < m ∧ W m' σ' H') ∧ tb { D with nx := N, ct := N, bk := D.nx } σ H := ⟨_, fun _ _ h => h, h⟩
end
end L2
set_option Elab.async false
set_option linter.all false
set_option maxRecDepth 100000
set_option maxHeartbeats 4000000
namespace L2
open PySem PySem.Spec PyProof.Rows
section
variable {X : Cx} {K : PySem.W.Frag}
noncomputable def rUpdate : V → List V → Hp → VK → Prop := fun x vs H Q => ∃ d o kvs more, x = .ref d ∧ vs = [.ref o] ∧ d ≠ o ∧ H d = some (.dK kvs) ∧ H o = some (.dK more) ∧ kvs.length + more.length ≤ 1000000 ∧ Q .non (upd H d (.dK (mergeK kvs more)))
theorem mt_update : MtM X "dict.update" rUpdate := by
  intro pins s σ H x vs v us Q I rx rv h
  obtain ⟨d, o, kvs, more, rfl, rfl, hdo, hD, hO, hz, q⟩ := h
  cases rx
  obtain ⟨u, rfl, ru⟩ := rv.one
  cases ru
  obtain ⟨z1, hd1, vs1, rel1, dd1⟩ := dk_of I.hok hD
  obtain ⟨z2, hd2, vs2, rel2, dd2⟩ := dk_of I.hok hO
  have l1 : kvs.length = vs1.length := rel1.length
  have l2 : more.length = vs2.length := rel2.length
  refine call_meetsIn F.slot_dict_update dd1.typeIs F.entry_dict_update (F.args_dict_update_2 _ _) (meets_dict_update (mixKind X.prog X.w) d o hdo hd2) ⟨vs1, vs2, dd1, dd2, line_of (by omega), fun h' dd' _ hs => ?_⟩
  have he : ∃ q, h'.get? d = some q := let ⟨q, _, _, hq, _⟩ := dd'; ⟨q, hq⟩
  refine ⟨.non, _, d_write I (by rw [hD]; exact True.intro) hs he (dk_new ?_ hd1 (KV.merge rel2 rel1) dd'), rfl, q⟩
  have := length_mergeK more kvs
  exact line_of (by omega)
end
end L2
set_option Elab.async false
set_option linter.all false
set_option maxRecDepth 100000
set_option maxHeartbeats 4000000
namespace L2
open PySem PySem.Spec PyProof.Rows
theorem entry_dloop : entryFor table "dict.update.loop" = some Builtin.«dict.update.loop» := entryFor_of_tree (by kernel_rfl)
theorem plain_dloop : plainId "dict.update.loop" = true := by decide +kernel
theorem list_no_keys : typeLookup (.type "list") "keys" = pure none := by rw [typeLookup_type, builtinLookup_eq_fast]; kernel_rfl
section
variable {prog : Program} {w : World} {κ : Type} [DecidableEq κ] {knd : KeyKind prog w κ} {A : Around} {E : Value → Shared → Prop} {s : Shared}
theorem keys_miss {a : Addr} {xs : Array Value} {k : Nat} {Q : Option Value → Shared → Prop} (hx : s.heap.get? a = some { cls := .type "list", data := .seq xs k }) (hA : A.handled = none)
    (h : ∀ h' tk, (∀ b o, s.heap.get? b = some o → h'.get? b = some o) → Q none { s with heap := h', toks := tk }) : wpAny (model prog w) A (getAttr? (.ref a) "keys") Q E s := by
  obtain ⟨hp, g, d, tk, os⟩ := s
  have hT : ∀ tk', (⟨hp, g, d, tk', os⟩ : Shared).TypeIs (.ref a) "list" := fun _ => ⟨_, hx, rfl⟩
  have f1 := sub_AttributeError
  have f3 := F.slot_list_getattribute.lookup
  have f4 := F.slot_list_getattribute.bind (.ref a)
  have f5 := am_list_getattr_none
  unfold getAttr? getAttrBy? getAttrBy
  repeat (any_goals (first | assumption | exact hT _ | ((with_reducible show wpAny _ _ (call (Value.builtin "list.__getattribute__") _ _) _ _ _); refine call_meets F.slot_list_getattribute (hT _) am_entry_list_getattribute (F.args_list_getattribute_2 _ _) (meets_getattribute_miss_list a xs k #[] "keys" _ list_no_keys (by decide +kernel) (by rw [sizeLine_eq]; decide +kernel)) ⟨hx, hA, fun h' tk' e hx' => ?_⟩) | wp_step))
  obtain ⟨t', u', he⟩ := hx'.there
  show wpAny _ _ (getattributeRaised _ _ _ _ _ _ _) _ _ _
  unfold getattributeRaised
  repeat (any_goals (first | assumption | wp_step))
  exact h _ _ hx'.keeps
theorem pair_items {t : Addr} {k v : Value} {Q : List Value → Shared → Prop} (ht : IsTup s.heap t #[k, v]) (h : Q [k, v] s) : wpAny (model prog w) A (Builtin.Dict.pairItems (.ref t)) Q E s := by
  obtain ⟨o, ho, hc, n, hd⟩ := ht
  unfold Builtin.Dict.pairItems
  refine wpAny_bind (wpAny_typeOf ⟨o, ho, hc⟩ ?_)
  rw [if_pos (by decide)]
  refine wpAny_bind (wpAny_seqItems ho hd ?_)
  exact wpAny_pure h
theorem dict_loop {I D l : Addr} {items : Array Value} (hh : A.in1.handled = none) (hne : l ≠ I) (hDI : D ≠ I) (hDl : D ≠ l) (pk : List (κ × Value × Addr × Value)) (hlen : pk.length = items.size) (hz : items.size ≤ 1000000) :
    ∀ (j i : Nat) (s : Shared) (R : Result → Shared → Prop), items.size - i = j → i ≤ items.size → s.heap.IsListIter I l i → s.heap.IsList l items →
      s.heap.DictOf knd D (merged [] ((pk.take i).map fun p => (p.1, p.2.1))) →
      (∀ (n : Nat) (p : κ × Value × Addr × Value), pk[n]? = some p → items[n]? = some (Value.ref p.2.2.1) ∧ p.2.2.1 ≠ I ∧ p.2.2.1 ≠ D ∧ IsTup s.heap p.2.2.1 #[p.2.2.2, p.2.1] ∧ knd.is p.1 p.2.2.2 = true) →
      (∀ h' tk, h'.DictOf knd D (merged [] (pk.map fun p => (p.1, p.2.1))) → (∀ b o, b ≠ D → b ≠ I → s.heap.get? b = some o → h'.get? b = some o) → R (.ok (.ret .none)) { s with heap := h', toks := tk }) →
      codeAny (model prog w) A (.builtin "dict.update.loop" ⟨[.ref D, .ref I, .int i 0, .none], []⟩) R s := by
  have W := Walks.list (prog := prog) (w := w) hh I l hne items
  intro j
  induction j with
  | zero =>
    intro i s R hj hi hI hL hD hP hR
    have hin : i = items.size := by omega
    subst hin
    refine codeAny_builtin entry_dloop ?_
    rw [Around.under_plainId plain_dloop _]
    show wpAny _ A.in1 (pyNext (.ref I) >>= _) _ _ s
    refine wpAny_bind (W.done s _ _ ⟨hI, hL⟩ fun h' tk hm => ?_)
    show wpAny _ A.in1 (Builtin.Dict.addKeywords D [] >>= _) _ _ _
    refine wpAny_bind (wpAny_pure (wpAny_pure (hR h' tk ?_ fun b o hb hb' e => hm b o (by simpa using hb') e)))
    rw [← hlen, List.take_length] at hD
    obtain ⟨o, es, ep, ho, r⟩ := hD
    exact ⟨o, es, ep, hm D o (by simpa using hDI) ho, r⟩
  | succ j ih =>
    intro i s R hj hi hI hL hD hP hR
    have hlt : i < items.size := by omega
    obtain ⟨p, hp⟩ : ∃ p, pk[i]? = some p := ⟨pk[i]'(by omega), List.getElem?_eq_getElem _⟩
    obtain ⟨q1, q2, q3, q4, q5⟩ := hP i p hp
    refine codeAny_builtin entry_dloop ?_
    rw [Around.under_plainId plain_dloop _]
    show wpAny _ A.in1 (pyNext (.ref I) >>= _) _ _ s
    refine wpAny_bind (W.item i s _ _ hlt ⟨hI, hL⟩ fun v h' tk hv hst hm => ?_)
    have hv' : v = .ref p.2.2.1 := by
      have hv2 : items[i]? = some v := hv
      rw [q1] at hv2
      exact (Option.some.inj hv2).symm
    subst hv'
    have ht' : IsTup h' p.2.2.1 #[p.2.2.2, p.2.1] := by
      obtain ⟨o, ho, r⟩ := q4
      exact ⟨o, hm _ o (by simpa using q2) ho, r⟩
    have hD' : h'.DictOf knd D (merged [] ((pk.take i).map fun p => (p.1, p.2.1))) := by
      obtain ⟨o, es, ep, ho, r⟩ := hD
      exact ⟨o, es, ep, hm D o (by simpa using hDI) ho, r⟩
    show wpAny _ A.in1 (holding [Value.ref p.2.2.1] _ >>= _) _ _ _
    refine wpAny_bind (wpAny_holding ?_)
    refine wpAny_bind (wpAny_tryCatch (pair_items ht' ?_))
    show wpAny _ A.in1 (holding [p.2.2.2, p.2.1] (dictSet D p.2.2.2 p.2.1)) _ _ _
    refine wpAny_holding (wpAny_dictSet_pairs q5 hD' (fun h'' hD'' hs => ?_) ?_)
    · refine wpAny_pure ⟨plainId_quiet plain_dloop _, ?_⟩
      have hkeep : ∀ b o, b ≠ D → b ≠ I → s.heap.get? b = some o → h''.get? b = some o := fun b o h1 h2 e => (hs.2 b h1).trans (hm b o (by simpa using h2) e)
      refine ih (i + 1) _ R (by omega) hlt ?_ ?_ ?_ (fun n p' hp' => ?_) fun h3 tk3 hD3 hk3 => hR h3 tk3 hD3 fun b o h1 h2 e => hk3 b o h1 h2 (hkeep b o h1 h2 e)
      · exact hst.1.at fun o e => (hs.2 I (Ne.symm hDI)).trans e
      · exact hst.2.at fun o e => (hs.2 l (Ne.symm hDl)).trans e
      · have e : merged [] ((pk.take (i + 1)).map fun p => (p.1, p.2.1)) = stored (merged [] ((pk.take i).map fun p => (p.1, p.2.1))) p.1 p.2.1 := by
          rw [List.take_add_one, hp]
          unfold merged
          rw [List.map_append, List.foldl_append]
          rfl
        rw [e]
        exact hD''
      · obtain ⟨a1, a2, a3, ⟨o, ho, r⟩, a5⟩ := hP n p' hp'
        exact ⟨a1, a2, a3, ⟨o, hkeep _ o a3 a2 ho, r⟩, a5⟩
    · refine Nat.le_trans (merged_length_le _ _) (line_of ?_)
      rw [List.length_map, List.length_take]
      simp
      omega
theorem call_dict_pairs {l : Addr} {items : Array Value} {n : Nat} {Q : Value → Shared → Prop} (hl : s.heap.get? l = some { cls := .type "list", data := .seq items n }) (hA : A.handled = none) (pk : List (κ × Value × Addr × Value)) (hlen : pk.length = items.size) (hz : items.size ≤ 1000000)
    (hP : ∀ (n : Nat) (p : κ × Value × Addr × Value), pk[n]? = some p → items[n]? = some (Value.ref p.2.2.1) ∧ IsTup s.heap p.2.2.1 #[p.2.2.2, p.2.1] ∧ knd.is p.1 p.2.2.2 = true)
    (h : ∀ h' tk, h'.DictOf knd s.heap.objs.size (merged [] (pk.map fun p => (p.1, p.2.1))) → (∀ b o, s.heap.get? b = some o → h'.get? b = some o) → Q (.ref s.heap.objs.size) { s with heap := h', toks := tk }) :
    wpAny (model prog w) A (call (.type "dict") [.ref l]) Q E s := by
  refine callType_codes (Q₁ := fun obj s₁ => obj = .ref s.heap.objs.size ∧ s₁ = { s with heap := s.heap.push { cls := .type "dict", data := .dict #[] } }) F.kt_called_dict (F.kt_typeCall_dict_1 _) F.entry_dict_init (kt_code_dict_new _ ⟨rfl, rfl⟩) ?_
  rintro obj s₁ ⟨rfl, rfl⟩
  have hnew : (s.heap.push { cls := .type "dict", data := .dict #[] }).DictOf knd s.heap.objs.size [] := Heap.DictOf.new s.heap
  have hl' : (s.heap.push { cls := .type "dict", data := .dict #[] }).get? l = some { cls := .type "list", data := .seq items n } := Heap.get?_push_of_some _ hl
  have hll : l < s.heap.objs.size := Heap.lt_size hl
  refine ⟨hnew.typeIs, F.args_dict_init_2 _ _, ?_⟩
  unfold Builtin.«dict.__init__»
  refine wpAny_bind ?_
  unfold Builtin.Dict.selfAndRest
  refine wpAny_bind (wpAny_notOrdered_dict hnew.typeIs ?_)
  show wpAny _ _ (pure (s.heap.objs.size, [Value.ref l])) _ _ _
  refine wpAny_pure ?_
  show wpAny _ _ (Builtin.Dict.updateFrom "dict.__init__" s.heap.objs.size (.ref l) [] .none) _ _ _
  unfold Builtin.Dict.updateFrom
  refine wpAny_bind (wpAny_typeOf ⟨_, hl', rfl⟩ ?_)
  rw [if_pos (by decide)]
  refine wpAny_bind (keys_miss hl' (by simpa using hA) fun h1 tk1 hk1 => ?_)
  have hl1 : h1.get? l = some { cls := .type "list", data := .seq items n } := hk1 _ _ hl'
  rw [if_pos (show (none : Option Value).isNone = true from rfl)]
  have hD1 : h1.DictOf knd s.heap.objs.size [] := by
    obtain ⟨o, es, ep, ho, r⟩ := hnew
    exact ⟨o, es, ep, hk1 _ _ ho, r⟩
  have hsz : s.heap.objs.size < h1.objs.size := by
    obtain ⟨o, es, ep, ho, r⟩ := hD1
    exact Heap.lt_size ho
  refine wpAny_bind (wpAny_rule ?_)
  have hL1 : h1.IsList l items := ⟨_, hl1, rfl, n, rfl⟩
  refine wpAny_bind (wpAny_pyIter_list hL1 ?_)
  refine wpAny_pure ⟨plainId_quiet plain_dloop _, ?_⟩
  have kp : ∀ b o, s.heap.get? b = some o → (h1.push { cls := .type "list_iterator", data := .fields #[.ref l, .int 0 0] }).get? b = some o := fun b o e => Heap.get?_push_of_some _ (hk1 _ _ (Heap.get?_push_of_some _ e))
  refine dict_loop (knd := knd) (A := A.in1) (I := h1.objs.size) (D := s.heap.objs.size) (l := l) (items := items) (by simpa using hA) (Nat.ne_of_lt (Nat.lt_trans hll hsz)) (Nat.ne_of_lt hsz) (Nat.ne_of_gt hll) pk hlen hz items.size 0 _ _ (Nat.sub_zero _) (Nat.zero_le _) ⟨_, Heap.get?_push_size _ rfl, rfl, rfl⟩ (hL1.push _) ?_ (fun m p hp => ?_) fun h' tk hD hk => ?_
  · exact hD1.push _
  · obtain ⟨a1, ⟨o, ho, r⟩, a3⟩ := hP m p hp
    have hlt := Heap.lt_size ho
    exact ⟨a1, Nat.ne_of_lt (Nat.lt_trans hlt hsz), Nat.ne_of_lt hlt, ⟨o, kp _ _ ho, r⟩, a3⟩
  · refine ⟨rfl, h h' tk hD fun b o e => ?_⟩
    have hlt := Heap.lt_size e
    exact hk b o (Nat.ne_of_lt hlt) (Nat.ne_of_lt (Nat.lt_trans hlt hsz)) (kp b o e)
end
noncomputable def PrsK (K : PySem.W.Frag) (H : Hp) : List (Key × V) → List V → Prop
  | [], ys => ys = []
  | kv :: r, ys => ∃ t ys', ys = .ref t :: ys' ∧ SqT K H t [kV kv.1, kv.2] ∧ PrsK K H r ys'
theorem PrsK.pk {X : Cx} {pins : List (Addr × Obj)} {σ : St} {H : Hp} {s : Shared} (I : Inv X pins σ H s) : ∀ (kvs : List (Key × V)) (ys : List V) (its : List Value), PrsK X.K H kvs ys → Vals ys its →
    ∃ pk : List (Key × Value × Addr × Value), pk.length = its.length ∧ KV kvs (pk.map fun p => (p.1, p.2.1)) ∧ ∀ (n : Nat) (p : Key × Value × Addr × Value), pk[n]? = some p → its[n]? = some (Value.ref p.2.2.1) ∧ IsTup s.heap p.2.2.1 #[p.2.2.2, p.2.1] ∧ (mixKind X.prog X.w).is p.1 p.2.2.2 = true
  | [], ys, its, h, v => by
    have h' : ys = [] := h
    subst h'
    cases v
    exact ⟨[], rfl, .nil, fun n p hp => by simp at hp⟩
  | kv :: r, ys, its, h, v => by
    obtain ⟨t, ys', rfl, h2, h3⟩ := h
    cases v with
    | cons v1 v2 =>
      obtain ⟨pk, l1, l2, l3⟩ := PrsK.pk I r ys' _ h3 v2
      cases v1
      obtain ⟨its2, rv, ht, _⟩ := I.tuple h2
      obtain ⟨key, val, rfl, a1, a3⟩ := Vals.two rv
      refine ⟨(kv.1, val, t, key) :: pk, by simp [l1], .cons ⟨rfl, a3⟩ l2, fun n p hp => ?_⟩
      cases n with
      | zero =>
        have : p = (kv.1, val, t, key) := (Option.some.inj (by simpa using hp)).symm
        subst this
        exact ⟨rfl, ht, kV_is a1⟩
      | succ n => exact l3 n p (by simpa using hp)
section
variable {X : Cx} {K : PySem.W.Frag}
noncomputable def rDictA (K : PySem.W.Frag) : List V → Hp → VK → Prop := fun xs H Q => ∃ l ys kvs, xs = [V.ref l] ∧ H l = some (.lst ys) ∧ PrsK K H kvs ys ∧ ys.length ≤ 1000000 ∧ kvs.length ≤ 1000000 ∧ ∀ p, H p = none → Q (.ref p) (upd H p (.dK (mergeK [] kvs)))
theorem call_dictA (hr : X.A.handled = none) : CallR X (.type "dict") (rDictA X.K) := by
  intro pins s σ H xs us Q I rv h
  obtain ⟨l, ys, kvs, rfl, hl, hp, hz, hz2, q⟩ := h
  obtain ⟨u, rfl, ru⟩ := rv.one
  cases ru
  obtain ⟨z, its, n, r, hlen, e⟩ := I.lstM hl
  obtain ⟨pk, l1, l2, l3⟩ := PrsK.pk I kvs ys its hp r
  refine call_dict_pairs (knd := mixKind X.prog X.w) e hr pk (by simpa using l1) (by simp; omega) (fun n p hp => ?_) fun h' tk hD hk => ?_
  · obtain ⟨a1, a2, a3⟩ := l3 n p hp
    exact ⟨by simpa using a1, a2, a3⟩
  · refine ⟨.ref s.heap.objs.size, _, I.laid hk (Nat.le_refl _) (dk_new ?_ ?_ (KV.merge l2 .nil) hD), rfl, q _ (I.hok.fresh (Nat.le_refl _))⟩
    · have := length_mergeK kvs []
      exact line_of (by simpa using Nat.le_trans this (by simpa using hz2))
    · exact beq_eq_false_iff_ne.mpr (Nat.ne_of_gt I.big)
theorem call_dictK (hr : X.A.handled = none) (hK : X.K = K := by with_unfolding_all rfl) : CallR X (.type "dict") (rDictA K) := hK ▸ call_dictA hr
end
end L2
set_option Elab.async false
set_option linter.all false
set_option maxRecDepth 100000
set_option maxHeartbeats 4000000
namespace L2
open PySem PySem.Spec PyProof.Rows
noncomputable def tabK (ns : List Str) (as : List Addr) : List (Key × V) := (ns.zip as).map fun p => (Sum.inr p.1, V.ref p.2)
noncomputable def rowK (ks : List Str) : List (Key × V) := ks.map fun y => (Sum.inr y, V.bl true)
theorem valV_tab : ∀ {ns : List Str} {as : List Addr} {i : Nat} {z : Str} {a : Addr}, ns.Nodup → ns[i]? = some z → as[i]? = some a → valV (tabK ns as) (Sum.inr z : Key) = some (.ref a)
  | [], _, i, _, _, _, h, _ => by simp at h
  | n :: ns, [], i, _, _, _, _, h => by simp at h
  | n :: ns, b :: as, 0, z, a, _, h, g => by
    simp at h g
    subst h g
    exact valV_pos rfl
  | n :: ns, b :: as, i + 1, z, a, hn, h, g => by
    rw [List.nodup_cons] at hn
    have h' : ns[i]? = some z := by simpa using h
    have ne : ¬ (Sum.inr n : Key) = Sum.inr z := by
      intro e
      have e2 : n = z := by injection e
      subst e2
      exact hn.1 (List.mem_of_getElem? h')
    show valV ((Sum.inr n, V.ref b) :: tabK ns as) _ = _
    rw [valV_neg ne]
    exact valV_tab hn.2 h' (by simpa using g)
theorem valV_row (y : Str) : ∀ ks : List Str, valV (rowK ks) (Sum.inr y : Key) = if y ∈ ks then some (.bl true) else none
  | [] => by simp [rowK, valV_nil]
  | k :: ks => by
    show valV ((Sum.inr k, V.bl true) :: rowK ks) _ = _
    by_cases e : k = y
    · subst e
      rw [valV_pos rfl, if_pos List.mem_cons_self]
    · rw [valV_neg (by intro q; injection q with q; exact e q), valV_row y ks]
      have : (y ∈ k :: ks) ↔ y ∈ ks := by simp [Ne.symm e]
      simp only [this]
noncomputable def addK (ks : List Str) (y : Str) : List Str := if y ∈ ks then ks else ks ++ [y]
theorem mem_addK {ks : List Str} {y z : Str} : z ∈ addK ks y ↔ z ∈ ks ∨ z = y := by
  unfold addK
  split
  · constructor
    · exact .inl
    · rintro (h | rfl)
      · exact h
      · assumption
  · simp
theorem nodup_addK {ks : List Str} {y : Str} (h : ks.Nodup) : (addK ks y).Nodup := by
  unfold addK
  split
  · exact h
  · rename_i hy
    rw [List.nodup_append]
    refine ⟨h, by simp, fun a ha b hb e => ?_⟩
    have : b = y := by simpa using hb
    subst this
    subst e
    exact hy ha
theorem any_row (y : Str) (ks : List Str) : ((rowK ks).any fun kv => decide (kv.1 = (Sum.inr y : Key))) = decide (y ∈ ks) := by
  induction ks with
  | nil => simp [rowK]
  | cons k ks ih =>
    show (decide ((Sum.inr k : Key) = Sum.inr y) || (rowK ks).any _) = _
    rw [ih]
    by_cases e : k = y
    · subst e; simp
    · have e' : ¬ (Sum.inr k : Key) = Sum.inr y := by intro q; injection q with q; exact e q
      simp [e', Ne.symm e]
theorem put_row (ks : List Str) (y : Str) : putK (rowK ks) (Sum.inr y : Key) (.bl true) = rowK (addK ks y) := by
  unfold putK addK
  rw [any_row]
  by_cases h : y ∈ ks
  · rw [if_pos (decide_eq_true h), if_pos h]
    unfold rowK
    rw [List.map_map]
    refine List.map_congr_left fun k _ => ?_
    show (if (Sum.inr k : Key) = Sum.inr y then (Sum.inr k, V.bl true) else (Sum.inr k, V.bl true)) = _
    split <;> rfl
  · rw [if_neg (by simpa using h), if_neg h]
    unfold rowK
    rw [List.map_append]
    rfl
noncomputable def addAll (ks ms : List Str) : List Str := ms.foldl addK ks
theorem merge_row : ∀ (ms ks : List Str), mergeK (rowK ks) (rowK ms) = rowK (addAll ks ms)
  | [], ks => rfl
  | m :: ms, ks => by
    show mergeK (putK (rowK ks) (Sum.inr m) (.bl true)) (rowK ms) = _
    rw [put_row, merge_row ms]
    rfl
theorem mem_addAll : ∀ {ms ks : List Str} {z : Str}, z ∈ addAll ks ms ↔ z ∈ ks ∨ z ∈ ms
  | [], ks, z => by simp [addAll]
  | m :: ms, ks, z => by
    show z ∈ addAll (addK ks m) ms ↔ _
    rw [mem_addAll, mem_addK, List.mem_cons, or_assoc]
theorem nodup_addAll : ∀ {ms ks : List Str}, ks.Nodup → (addAll ks ms).Nodup
  | [], ks, h => h
  | m :: ms, ks, h => nodup_addAll (ms := ms) (nodup_addK h)
theorem len_row (ks : List Str) : (rowK ks).length = ks.length := by simp [rowK]
theorem merge_new : ∀ (kvs acc : List (Key × V)), (kvs.map (·.1)).Nodup → (∀ k ∈ kvs, ∀ q ∈ acc, q.1 ≠ k.1) → mergeK acc kvs = acc ++ kvs
  | [], acc, _, _ => by simp [mergeK]
  | k :: kvs, acc, hn, hd => by
    show mergeK (putK acc k.1 k.2) kvs = _
    have e : putK acc k.1 k.2 = acc ++ [k] := by
      unfold putK
      have : ¬ (acc.any fun kv => decide (kv.1 = k.1)) = true := by
        rw [List.any_eq_true]
        rintro ⟨q, hq, e⟩
        exact hd k List.mem_cons_self q hq (of_decide_eq_true e)
      rw [if_neg this]
    rw [List.map_cons, List.nodup_cons] at hn
    rw [e, merge_new kvs (acc ++ [k]) hn.2 fun x hx q hq => ?_, List.append_assoc]
    · rfl
    · rcases List.mem_append.mp hq with hq | hq
      · exact hd x (List.mem_cons_of_mem _ hx) q hq
      · have : q = k := by simpa using hq
        subst this
        intro e
        exact hn.1 (List.mem_map.mpr ⟨x, hx, e.symm⟩)
structure Tab (H : Hp) (r : Addr) (ns : List Str) (as : List Addr) (R : Str → Str → Prop) : Prop where
  len : as.length = ns.length
  nd : as.Nodup
  nr : r ∉ as
  top : H r = some (.dK (tabK ns as))
  row : ∀ (i : Nat) (z : Str) (a : Addr), ns[i]? = some z → as[i]? = some a → ∃ ks : List Str, H a = some (.dK (rowK ks)) ∧ ks.Nodup ∧ (∀ y ∈ ks, y ∈ ns) ∧ ∀ y, y ∈ ks ↔ R z y
theorem Tab.same {H H' : Hp} {r : Addr} {ns : List Str} {as : List Addr} {R : Str → Str → Prop} (h : Tab H r ns as R) (e : Same H H') : Tab H' r ns as R :=
  ⟨h.len, h.nd, h.nr, e _ _ h.top, fun i z a hz ha => let ⟨ks, h1, h2⟩ := h.row i z a hz ha; ⟨ks, e _ _ h1, h2⟩⟩
theorem Tab.congr {H : Hp} {r : Addr} {ns : List Str} {as : List Addr} {R R' : Str → Str → Prop} (h : Tab H r ns as R) (e : ∀ z ∈ ns, ∀ y, R z y ↔ R' z y) : Tab H r ns as R' :=
  ⟨h.len, h.nd, h.nr, h.top, fun i z a hz ha => let ⟨ks, h1, h2, h3, h4⟩ := h.row i z a hz ha; ⟨ks, h1, h2, h3, fun y => (h4 y).trans (e z (List.mem_of_getElem? hz) y)⟩⟩
theorem Tab.put {H H' : Hp} {r b : Addr} {ns : List Str} {as : List Addr} {R R' : Str → Str → Prop} (h : Tab H r ns as R) (e : ExtBut b H H') {j : Nat} {x : Str} (hn : ns.Nodup) (hj : ns[j]? = some x) (hb : as[j]? = some b) {ks : List Str}
    (hk : H' b = some (.dK (rowK ks))) (k1 : ks.Nodup) (k2 : ∀ y ∈ ks, y ∈ ns) (k3 : ∀ y, y ∈ ks ↔ R' x y) (k4 : ∀ z ∈ ns, z ≠ x → ∀ y, R z y ↔ R' z y) : Tab H' r ns as R' := by
  refine ⟨h.len, h.nd, h.nr, e _ _ (fun q => h.nr (q ▸ List.mem_of_getElem? hb)) h.top, fun i z a hz ha => ?_⟩
  by_cases hij : i = j
  · subst hij
    rw [hz] at hj
    cases hj
    rw [ha] at hb
    cases hb
    exact ⟨ks, hk, k1, k2, k3⟩
  · obtain ⟨ms, h1, h2, h3, h4⟩ := h.row i z a hz ha
    have hab : a ≠ b := by
      intro q
      subst q
      obtain ⟨p1, p2⟩ := List.getElem?_eq_some_iff.mp ha
      obtain ⟨q1, q2⟩ := List.getElem?_eq_some_iff.mp hb
      exact hij ((List.getElem_inj h.nd).mp (p2.trans q2.symm))
    have hzx : z ≠ x := by
      intro q
      subst q
      obtain ⟨p1, p2⟩ := List.getElem?_eq_some_iff.mp hz
      obtain ⟨q1, q2⟩ := List.getElem?_eq_some_iff.mp hj
      exact hij ((List.getElem_inj hn).mp (p2.trans q2.symm))
    exact ⟨ms, e _ _ hab h1, h2, h3, fun y => (h4 y).trans (k4 z (List.mem_of_getElem? hz) hzx y)⟩
theorem Tab.at {H : Hp} {r : Addr} {ns : List Str} {as : List Addr} {R : Str → Str → Prop} (h : Tab H r ns as R) {x : Str} (hx : x ∈ ns) : ∃ (i : Nat) (a : Addr), ns[i]? = some x ∧ as[i]? = some a := by
  obtain ⟨i, hi, e⟩ := List.getElem_of_mem hx
  have hi' : i < as.length := by rw [h.len]; exact hi
  exact ⟨i, as[i], by rw [List.getElem?_eq_getElem hi, e], List.getElem?_eq_getElem hi'⟩
section
variable {K : PySem.W.Frag} {H : Hp} {Q : VK} {r : Addr} {ns : List Str} {as : List Addr} {R : Str → Str → Prop}
theorem i_tab {x : Str} {i : Nat} {a : Addr} (h : Tab H r ns as R) (hn : ns.Nodup) (hx : ns[i]? = some x) (ha : as[i]? = some a) (k : Q (.ref a) H) : rIxA K (.ref r) (.str x) H Q := i_ixD h.top (valV_tab hn hx ha) k
theorem i_inRow {a : Addr} {ks : List Str} {y : Str} (h : H a = some (.dK (rowK ks))) (k : Q (.bl (decide (y ∈ ks))) H) : rInA K false (.str y) (.ref a) H Q := by
  refine .inr (.inr (.inl ⟨a, valV (rowK ks) (Sum.inr y : Key), rfl, DGet.k (k := Sum.inr y) h, ?_⟩))
  rw [valV_row]
  by_cases e : y ∈ ks
  · rw [if_pos e]; simpa [e] using k
  · rw [if_neg e]; simpa [e] using k
theorem i_tyD {a : Addr} {kvs : List (Key × V)} {B : Prop} (h : H a = some (.dK kvs)) (k : B) : tyV K "dict" (.ref a) H ∧ B := ⟨.inr (.inr (.inl ⟨rfl, .inl ⟨kvs, h⟩⟩)), k⟩
theorem i_upd {d o : Addr} {ks ms : List Str} (hd : H d = some (.dK (rowK ks))) (ho : H o = some (.dK (rowK ms))) (hne : d ≠ o) (hz : ks.length + ms.length ≤ 1000000) (k : ∀ H', ExtBut d H H' → H' d = some (.dK (rowK (addAll ks ms))) → Q .non H') : rUpdate (.ref d) [.ref o] H Q :=
  ⟨d, o, _, _, rfl, rfl, hne, hd, ho, by rw [len_row, len_row]; exact hz, k _ ExtBut.upd (by rw [upd_same, merge_row])⟩
end
structure HalfW (ns : List Str) (ps : List (Str × Str)) : Prop where
  nd : ns.Nodup
  mem : ∀ p ∈ ps, p.1 ∈ ns ∧ p.2 ∈ ns
  irr : ∀ x, ¬ Way ps x x
  few : ns.length ≤ 100
  le : ps.length ≤ 1000
theorem Half.w {ns : List Str} {ps : List (Str × Str)} (h : Half ns ps) : HalfW ns ps := ⟨h.names.1, fun p hp => h.mem hp, fun _ => h.irrefl, Nat.le_trans h.few (by decide), Nat.le_trans h.le (by decide)⟩
structure War (ns : List Str) (ps : List (Str × Str)) (ms : List Str) (R : Str → Str → Prop) : Prop where
  snd : ∀ z y, R z y → Way ps z y
  edge : ∀ z y, (z, y) ∈ ps → R z y
  shut : ∀ m ∈ ms, ∀ z y, R z m → R m y → R z y
noncomputable def warR (R : Str → Str → Prop) (mid : Str) (ms : List Str) (z y : Str) : Prop := R z y ∨ (z ∈ ms ∧ R z mid ∧ R mid y)
theorem War.step {ns : List Str} {ps : List (Str × Str)} {ms : List Str} {R : Str → Str → Prop} (h : War ns ps ms R) {mid : Str} : War ns ps (ms ++ [mid]) (fun z y => R z y ∨ (R z mid ∧ R mid y)) := by
  refine ⟨fun z y hz => ?_, fun z y hz => .inl (h.edge z y hz), fun m hm z y h1 h2 => ?_⟩
  · rcases hz with hz | ⟨h1, h2⟩
    · exact h.snd z y hz
    · exact (h.snd _ _ h1).trans (h.snd _ _ h2)
  · rcases List.mem_append.mp hm with hm | hm
    · rcases h1 with h1 | ⟨h1, h1'⟩
      · rcases h2 with h2 | ⟨h2, h2'⟩
        · exact .inl (h.shut m hm z y h1 h2)
        · exact .inr ⟨h.shut m hm z mid h1 h2, h2'⟩
      · rcases h2 with h2 | ⟨h2, h2'⟩
        · exact .inr ⟨h1, h.shut m hm mid y h1' h2⟩
        · exact .inr ⟨h1, h2'⟩
    · have e : m = mid := by simpa using hm
      subst e
      rcases h1 with h1 | ⟨h1, h1'⟩
      · rcases h2 with h2 | ⟨h2, h2'⟩
        · exact .inr ⟨h1, h2⟩
        · exact .inr ⟨h1, h2'⟩
      · rcases h2 with h2 | ⟨h2, h2'⟩
        · exact .inr ⟨h1, h2⟩
        · exact .inr ⟨h1, h2'⟩
theorem War.done {ns : List Str} {ps : List (Str × Str)} {R : Str → Str → Prop} (h : War ns ps ns R) (hm : ∀ p ∈ ps, p.1 ∈ ns ∧ p.2 ∈ ns) (z y : Str) : R z y ↔ Way ps z y := by
  refine ⟨h.snd z y, fun g => ?_⟩
  induction g with
  | one e => exact h.edge _ _ e
  | cons e _ ih => exact h.shut _ (hm _ e).2 _ _ (h.edge _ _ e) ih
end L2
namespace L2
open PySem PySem.Spec PyProof.Rows
theorem PrsK.fz {K : PySem.W.Frag} {H H' : Hp} (e : Fz H H') : ∀ {kvs : List (Key × V)} {ys : List V}, PrsK K H kvs ys → PrsK K H' kvs ys
  | [], _, h => h
  | kv :: r, ys, ⟨t, ys', h1, h2, h3⟩ => ⟨t, ys', h1, e.seq h2, PrsK.fz e h3⟩
theorem PrsK.snoc {K : PySem.W.Frag} {H : Hp} {kv : Key × V} {t : Addr} (h : SqT K H t [kV kv.1, kv.2]) : ∀ {kvs : List (Key × V)} {ys : List V}, PrsK K H kvs ys → PrsK K H (kvs ++ [kv]) (ys ++ [.ref t])
  | [], ys, g => by
    have g' : ys = [] := g
    subst g'
    exact ⟨t, [], rfl, h, rfl⟩
  | k :: r, ys, ⟨u, ys', h1, h2, h3⟩ => by
    subst h1
    exact ⟨u, ys' ++ [.ref t], rfl, h2, PrsK.snoc h h3⟩
theorem PrsK.length {K : PySem.W.Frag} {H : Hp} : ∀ {kvs : List (Key × V)} {ys : List V}, PrsK K H kvs ys → ys.length = kvs.length
  | [], ys, g => by
    have g' : ys = [] := g
    subst g'
    rfl
  | k :: r, ys, ⟨u, ys', h1, h2, h3⟩ => by
    subst h1
    simp [PrsK.length h3]
theorem i_dict {K : PySem.W.Frag} {H : Hp} {Q : VK} {l : Addr} {ys : List V} {kvs : List (Key × V)} (h : H l = some (.lst ys)) (g : PrsK K H kvs ys) (hz : kvs.length ≤ 1000000) (k : ∀ p H', H p = none → Same H H' → H' p = some (.dK (mergeK [] kvs)) → Q (.ref p) H') : rDictA K [.ref l] H Q :=
  ⟨l, ys, kvs, rfl, h, g, by rw [g.length]; exact hz, hz, fun p hp => k p _ hp (Same.upd hp) upd_same⟩
theorem keys_tab : ∀ {ns : List Str} {as : List Addr}, ns.Nodup → ((tabK ns as).map (·.1)).Nodup
  | [], as, _ => by simp [tabK]
  | n :: ns, [], _ => by simp [tabK]
  | n :: ns, a :: as, h => by
    rw [List.nodup_cons] at h
    show ((Sum.inr n : Key) :: (tabK ns as).map (·.1)).Nodup
    rw [List.nodup_cons]
    refine ⟨fun hm => ?_, keys_tab h.2⟩
    obtain ⟨kv, hkv, e⟩ := List.mem_map.mp hm
    obtain ⟨p, hp, rfl⟩ := List.mem_map.mp hkv
    have e' : p.1 = n := by injection e
    exact h.1 (e' ▸ (List.of_mem_zip hp).1)
theorem tab_snoc {ns : List Str} {as : List Addr} {z : Str} {a : Addr} (h : ns.length = as.length) : tabK (ns ++ [z]) (as ++ [a]) = tabK ns as ++ [(Sum.inr z, V.ref a)] := by
  unfold tabK
  rw [List.zip_append h, List.map_append]
  rfl
end L2
set_option Elab.async false
set_option linter.all false
set_option maxRecDepth 100000
set_option maxHeartbeats 4000000
namespace L2
open PySem PySem.Spec PyProof.Rows
open Classical in
noncomputable def wayB (ps : List (Str × Str)) (x y : Str) : Bool := decide (Way ps x y)
theorem wayB_iff {ps : List (Str × Str)} {x y : Str} : wayB ps x y = true ↔ Way ps x y := by unfold wayB; simp
theorem wayB_of {ps : List (Str × Str)} {x y : Str} {b : Bool} (h : b = true ↔ Way ps x y) : b = wayB ps x y := by
  cases hb : wayB ps x y with
  | true => exact h.mpr (wayB_iff.mp hb)
  | false =>
    cases b with
    | false => rfl
    | true =>
      have := wayB_iff.mpr (h.mp rfl)
      rw [hb] at this
      cases this
theorem wayB_dec {ps : List (Str × Str)} {x y : Str} {p : Prop} [Decidable p] (h : p ↔ Way ps x y) : decide p = wayB ps x y := wayB_of (by rw [decide_eq_true_iff]; exact h)
theorem wayB_false {ps : List (Str × Str)} {x y : Str} (h : ¬ Way ps x y) : wayB ps x y = false := by
  cases hb : wayB ps x y with
  | false => rfl
  | true => exact absurd (wayB_iff.mp hb) h
theorem iteR {α : Type} {a : α} {A B : Prop} [Decidable (a = a)] (h : A) : if decide (a = a) = true then A else B := by rw [if_pos (by simp)]; exact h
theorem iteNR {α : Type} {a : α} {A B : Prop} [Decidable (a = a)] (h : B) : if (!decide (a = a)) = true then A else B := by rw [if_neg (by simp)]; exact h
section
variable {K : PySem.W.Frag} {H : Hp} {σ : St} {x : V} {Q : VK}
theorem comp_nm {ns : List Str} {g : TG} {tt : TT} {te : TE} {k : Nat} {js : List Nat} (h : Is K H (nmD ns) x) (t : Str → Bool) (f : Str → PyData) (hf : ∀ a, frz (f a) = true) (hz : ns.length ≤ 1000000)
    (hs : ∀ (i : Nat) a H1 (R : VK) (R' : Hp → Prop), ns[i]? = some a → Same H H1 → (t a = true → ∀ y H2, Same H1 H2 → Is K H2 (f a) y → R y H2) → (t a = false → ∀ H2, Same H1 H2 → R' H2) →
      g (.str a) (List.replicate k none ++ pick σ js) H1 fun σ2 H2 => tt σ2 H2 fun b H3 => if b = true then te σ2 H3 R else R' H3)
    (hd : ∀ p ys H', H p = none → Same H H' → H' p = some (.lst ys) → IsL K H' ((ns.filter t).map f) ys → Q (.ref p) H') : rAnyIt K x H fun J H1 => rComp k js g tt te σ J H1 Q := by
  obtain ⟨a, rfl, hS⟩ := h.nm
  refine i_itT hS (comp_dat (K := K) (walk_tup (xs := ns.map V.str)) ns (by simp) t f hf (by simpa using hz) (fun H' e => e.seqT hS) (fun i z v H1 R R' hz hv e hR hR' => ?_) hd)
  rw [List.getElem?_map, hz] at hv
  cases hv
  exact hs i z H1 R R' hz e hR hR'
theorem comp_lnm {ns : List Str} {a : Addr} {g : TG} {tt : TT} {te : TE} {k : Nat} {js : List Nat} (h : SqL K H a (ns.map V.str)) (t : Str → Bool) (f : Str → PyData) (hf : ∀ a, frz (f a) = true) (hz : ns.length ≤ 1000000)
    (hs : ∀ (i : Nat) a H1 (R : VK) (R' : Hp → Prop), ns[i]? = some a → Same H H1 → (t a = true → ∀ y H2, Same H1 H2 → Is K H2 (f a) y → R y H2) → (t a = false → ∀ H2, Same H1 H2 → R' H2) →
      g (.str a) (List.replicate k none ++ pick σ js) H1 fun σ2 H2 => tt σ2 H2 fun b H3 => if b = true then te σ2 H3 R else R' H3)
    (hd : ∀ p ys H', H p = none → Same H H' → H' p = some (.lst ys) → IsL K H' ((ns.filter t).map f) ys → Q (.ref p) H') : rAnyIt K (.ref a) H fun J H1 => rComp k js g tt te σ J H1 Q := by
  refine i_itL h (comp_dat (K := K) (walk_list (xs := ns.map V.str)) ns (by simp) t f hf (by simpa using hz) (fun H' e => e.seq h) (fun i z v H1 R R' hz hv e hR hR' => ?_) hd)
  rw [List.getElem?_map, hz] at hv
  cases hv
  exact hs i z H1 R R' hz e hR hR'
theorem comp_ps {ps : List (Str × Str)} {g : TG} {tt : TT} {te : TE} {k : Nat} {js : List Nat} (h : Is K H (psD ps) x) (t : Str × Str → Bool) (f : Str × Str → PyData) (hf : ∀ a, frz (f a) = true) (hz : ps.length ≤ 1000000)
    (hs : ∀ (i : Nat) a v H1 (R : VK) (R' : Hp → Prop), ps[i]? = some a → Is K H1 (prD a) v → Same H H1 → (t a = true → ∀ y H2, Same H1 H2 → Is K H2 (f a) y → R y H2) → (t a = false → ∀ H2, Same H1 H2 → R' H2) →
      g v (List.replicate k none ++ pick σ js) H1 fun σ2 H2 => tt σ2 H2 fun b H3 => if b = true then te σ2 H3 R else R' H3)
    (hd : ∀ p ys H', H p = none → Same H H' → H' p = some (.lst ys) → IsL K H' ((ps.filter t).map f) ys → Q (.ref p) H') : rAnyIt K x H fun J H1 => rComp k js g tt te σ J H1 Q := by
  obtain ⟨a, xs, rfl, hS, hL⟩ := Is.tup h
  have hl : ps.length = xs.length := by rw [← IsL.length hL, List.length_map]
  refine i_itT hS (comp_dat (K := K) (walk_tup (xs := xs)) ps hl t f hf (by omega) (fun H' e => e.seqT hS) (fun i z v H1 R R' hz hv e hR hR' => ?_) hd)
  obtain ⟨d, e1, e2⟩ := IsL.get (IsL.mono e _ _ hL) hv
  rw [List.getElem?_map, hz] at e1
  cases e1
  exact hs i z v H1 R R' hz e2 e hR hR'
theorem i_tupNm {ns : List Str} {a : Addr} {ys : List V} (h : H a = some (.lst ys)) (g : IsL K H (ns.map PyData.str) ys) (k : ∀ v H', Same H H' → Is K H' (nmD ns) v → Q v H') : rTupleA K [.ref a] H Q := by
  have e := IsL.str_eq g
  subst e
  exact i_tupleL (SqL.of h) fun p H' hp e h' => k _ H' e (is_nm (SqT.of h'))
theorem i_tupPs {ps : List (Str × Str)} {a : Addr} {ys : List V} (h : H a = some (.lst ys)) (g : IsL K H (ps.map prD) ys) (k : ∀ v H', Same H H' → Is K H' (psD ps) v → Q v H') : rTupleA K [.ref a] H Q :=
  i_tupleL (SqL.of h) fun p H' hp e h' => k _ H' e (Is.of_tup (SqT.of h') (IsL.mono e _ _ g))
end
end L2
set_option Elab.async false
set_option linter.all false
set_option maxRecDepth 100000
set_option maxHeartbeats 4000000
namespace L2
open PySem PySem.Spec PyProof.Rows
open AutoSeq1 (wpAny_loadPart')
section
variable {prog : Program} {w : World} {A : Around} {E : Value → Shared → Prop} {s : Shared}
end
section
variable {X : Cx} {K : PySem.W.Frag}
end
section
variable {K : PySem.W.Frag} {σ : St} {H : Hp}
end
end L2
set_option Elab.async false
set_option linter.all false
set_option maxRecDepth 100000
set_option maxHeartbeats 4000000
namespace L2
open PySem PySem.Spec PyProof.Rows
section
variable {X : Cx} {K : PySem.W.Frag}
section
variable {H : Hp} {Q : VK} {lo hi : Option Int}
theorem i_addT {a b : Addr} {xs ys : List V} (h1 : SqT K H a xs) (h2 : SqT K H b ys) (h : xs.length + ys.length ≤ sizeLine) (k : ∀ p H', Same H H' → SqT K H' p (xs ++ ys) → Q (.ref p) H') : rAddA K (.ref a) (.ref b) H Q := by
  by_cases hx : xs = []
  · subst hx
    exact .inr (.inr (.inr (.inr ⟨a, b, ys, rfl, rfl, h1, h2, k b H (Same.refl _) h2⟩)))
  · refine .inr (.inr (.inr (.inl ⟨a, b, xs, ys, rfl, rfl, h1, h2, hx, h, fun e => ?_, fun _ p hp => k p _ (Same.upd hp) (SqT.of upd_same)⟩)))
    subst e
    exact k a H (Same.refl _) (by rw [List.append_nil]; exact h1)
theorem i_slT {a : Addr} {xs : List V} (h : SqT K H a xs) (k : ∀ p H', Same H H' → SqT K H' p (cutV xs lo hi) → Q (.ref p) H') : rSlA K (.ref a) lo hi H Q := by
  by_cases hw : HT.sIx xs.length 0 lo = 0 ∧ HT.sIx xs.length xs.length hi = xs.length
  · refine .inr (.inr (.inr ⟨a, xs, rfl, h, hw, k a H (Same.refl _) ?_⟩))
    have e : cutV xs lo hi = xs := by
      unfold cutV
      rw [hw.1, hw.2, List.drop_zero, Nat.sub_zero, List.take_length]
    rw [e]
    exact h
  · exact .inr (.inl ⟨a, xs, rfl, h, hw, fun p hp => k p _ (Same.upd hp) (SqT.of upd_same)⟩)
end
end
end L2
set_option Elab.async false
set_option linter.all false
set_option maxRecDepth 100000
set_option maxHeartbeats 4000000
namespace L2
open PySem PySem.Spec PyProof.Rows
theorem Way.more {ps : List (Str × Str)} {p : Str × Str} {x y : Str} (h : Way (ps ++ [p]) x y) : Way ps x y ∨ ((x = p.1 ∨ Way ps x p.1) ∧ (y = p.2 ∨ Way ps p.2 y)) := by
  induction h with
  | @one a b e =>
    rcases List.mem_append.mp e with e | e
    · exact .inl (.one e)
    · have : (a, b) = p := by simpa using e
      subst this
      exact .inr ⟨.inl rfl, .inl rfl⟩
  | @cons a c b e _ ih =>
    rcases List.mem_append.mp e with e | e
    · rcases ih with g | ⟨g1, g2⟩
      · exact .inl (.cons e g)
      · refine .inr ⟨.inr ?_, g2⟩
        rcases g1 with rfl | g1
        · exact .one e
        · exact .cons e g1
    · have : (a, c) = p := by simpa using e
      subst this
      rcases ih with g | ⟨g1, g2⟩
      · exact .inr ⟨.inl rfl, .inr g⟩
      · exact .inr ⟨.inl rfl, g2⟩
theorem free_more {ps : List (Str × Str)} {p : Str × Str} (h : ∀ x, ¬ Way ps x x) (h1 : ¬ p.2 = p.1) (h2 : ¬ Way ps p.2 p.1) : ∀ x, ¬ Way (ps ++ [p]) x x := fun x g => by
  rcases g.more with g | ⟨g1, g2⟩
  · exact h x g
  · rcases g1 with rfl | g1
    · rcases g2 with g2 | g2
      · exact h1 g2.symm
      · exact h2 g2
    · rcases g2 with rfl | g2
      · exact h2 g1
      · exact h2 (g2.trans g1)
theorem valV_tab_none : ∀ {ns : List Str} {as : List Addr} {z : Str}, z ∉ ns → valV (tabK ns as) (Sum.inr z : Key) = none
  | [], _, _, _ => rfl
  | n :: ns, [], _, _ => rfl
  | n :: ns, a :: as, z, h => by
    show valV ((Sum.inr n, V.ref a) :: tabK ns as) _ = _
    rw [valV_neg (by intro q; injection q with q; exact h (q ▸ List.mem_cons_self))]
    exact valV_tab_none fun q => h (List.mem_cons_of_mem _ q)
section
variable {K : PySem.W.Frag} {σ : St} {H : Hp} {Q : VK} {td ty : TE}
theorem i_andV {ta tb : TE} (k : ta σ H fun x H1 => ∃ c, x = .bl c ∧ if c = true then tb σ H1 Q else Q (.bl false) H1) : tAndV ta tb σ H Q := k
end
end L2
set_option Elab.async false
set_option linter.all false
set_option maxRecDepth 100000
set_option maxHeartbeats 4000000
namespace L2
open PySem PySem.Spec PyProof.Rows
theorem Same.rd {H H' : Hp} (e : Same H H') {a : Addr} {u : HO} (h : Rd H a u) : Rd H' a u := by
  rcases h with h | ⟨o, h⟩
  · exact .inl (e _ _ h)
  · exact .inr ⟨o, e _ _ h⟩
noncomputable def Keep (as : List Addr) (H H' : Hp) : Prop := (∀ b o, b ∉ as → H b = some o → H' b = some o) ∧ ∀ a ∈ as, ∀ u, Rd H a u → Rd H' a u
theorem Keep.refl (as : List Addr) (H : Hp) : Keep as H H := ⟨fun _ _ _ h => h, fun _ _ _ h => h⟩
theorem Keep.trans {as : List Addr} {H H1 H2 : Hp} (a : Keep as H H1) (b : Keep as H1 H2) : Keep as H H2 := ⟨fun c o n h => b.1 c o n (a.1 c o n h), fun c hc u h => b.2 c hc u (a.2 c hc u h)⟩
theorem Same.keep {H H' : Hp} (e : Same H H') (as : List Addr) : Keep as H H' := ⟨fun b o _ h => e b o h, fun a _ u h => e.rd h⟩
theorem Keep.freeze {as : List Addr} {H : Hp} {a : Addr} {u : HO} {o : Obj} (ha : a ∈ as) (h : H a = some u) (hu : ∀ o' u', u ≠ .frz o' u') : Keep as H (upd H a (.frz o u)) := by
  refine ⟨fun b q hb e => ?_, fun b hb w e => ?_⟩
  · have hne : b ≠ a := fun z => by subst z; exact hb ha
    rw [upd_ne hne]
    exact e
  · by_cases hba : b = a
    · subst hba
      rcases e with e | ⟨o', e⟩
      · rw [h] at e
        cases e
        exact .inr ⟨o, upd_same⟩
      · rw [h] at e
        cases e
        exact absurd rfl (hu _ _)
    · rcases e with e | ⟨o', e⟩
      · exact .inl (by rw [upd_ne hba]; exact e)
      · exact .inr ⟨o', by rw [upd_ne hba]; exact e⟩
theorem Keep.rd {as : List Addr} {H H' : Hp} (k : Keep as H H') {a : Addr} {u : HO} (h : Rd H a u) : Rd H' a u := by
  by_cases ha : a ∈ as
  · exact k.2 a ha u h
  · rcases h with h | ⟨o, h⟩
    · exact .inl (k.1 _ _ ha h)
    · exact .inr ⟨o, k.1 _ _ ha h⟩
theorem Keep.fz {as : List Addr} {H H' : Hp} (k : Keep as H H') : Fz H H' := fun a xs h => k.rd h
theorem Keep.lst {as : List Addr} {H H1 H2 : Hp} {p : Addr} (k : Keep as H H1) (e : ExtBut p H1 H2) (hp : H p = none) (hpa : p ∉ as) : Keep as H H2 := by
  refine ⟨fun b o hb h => e b o (fun z => ?_) (k.1 b o hb h), fun a ha u h => ?_⟩
  · subst z
    rw [hp] at h
    cases h
  · have hap : a ≠ p := fun z => hpa (z ▸ ha)
    rcases k.2 a ha u h with g | ⟨o, g⟩
    · exact .inl (e _ _ hap g)
    · exact .inr ⟨o, e _ _ hap g⟩
structure TabR (H : Hp) (r : Addr) (ns : List Str) (as : List Addr) (R : Str → Str → Prop) : Prop where
  len : as.length = ns.length
  top : Rd H r (.dK (tabK ns as))
  row : ∀ (i : Nat) (z : Str) (a : Addr), ns[i]? = some z → as[i]? = some a → ∃ ks : List Str, Rd H a (.dK (rowK ks)) ∧ ks.Nodup ∧ (∀ y ∈ ks, y ∈ ns) ∧ ∀ y, y ∈ ks ↔ R z y
theorem Tab.toR {H : Hp} {r : Addr} {ns : List Str} {as : List Addr} {R : Str → Str → Prop} (h : Tab H r ns as R) : TabR H r ns as R :=
  ⟨h.len, .inl h.top, fun i z a hz ha => let ⟨ks, h1, h2⟩ := h.row i z a hz ha; ⟨ks, .inl h1, h2⟩⟩
theorem TabR.keep {bs : List Addr} {H H' : Hp} {r : Addr} {ns : List Str} {as : List Addr} {R : Str → Str → Prop} (h : TabR H r ns as R) (k : Keep bs H H') : TabR H' r ns as R :=
  ⟨h.len, k.rd h.top, fun i z a hz ha => let ⟨ks, h1, h2⟩ := h.row i z a hz ha; ⟨ks, k.rd h1, h2⟩⟩
theorem TabR.same {H H' : Hp} {r : Addr} {ns : List Str} {as : List Addr} {R : Str → Str → Prop} (h : TabR H r ns as R) (e : Same H H') : TabR H' r ns as R := h.keep (e.keep [])
theorem TabR.at {H : Hp} {r : Addr} {ns : List Str} {as : List Addr} {R : Str → Str → Prop} (h : TabR H r ns as R) {x : Str} (hx : x ∈ ns) : ∃ (i : Nat) (a : Addr), ns[i]? = some x ∧ as[i]? = some a := by
  obtain ⟨i, hi, e⟩ := List.getElem_of_mem hx
  have hi' : i < as.length := by rw [h.len]; exact hi
  exact ⟨i, as[i], by rw [List.getElem?_eq_getElem hi, e], List.getElem?_eq_getElem hi'⟩
section
variable {K : PySem.W.Frag} {σ : St} {H : Hp} {Q : VK} {r : Addr} {ns : List Str} {as : List Addr} {R : Str → Str → Prop}
theorem i_ixDR {a : Addr} {kvs : List (Key × V)} {z : Str} {v : V} (h : Rd H a (.dK kvs)) (e : valV kvs (Sum.inr z : Key) = some v) (k : Q v H) : rIxA K (.ref a) (.str z) H Q := .inr ⟨a, v, rfl, .inl ⟨kvs, Sum.inr z, h, rfl, e.symm⟩, k⟩
theorem i_tabR {x : Str} {i : Nat} {a : Addr} (h : TabR H r ns as R) (hn : ns.Nodup) (hx : ns[i]? = some x) (ha : as[i]? = some a) (k : Q (.ref a) H) : rIxA K (.ref r) (.str x) H Q := i_ixDR h.top (valV_tab hn hx ha) k
theorem i_inRowR {a : Addr} {ks : List Str} {y : Str} (h : Rd H a (.dK (rowK ks))) (k : Q (.bl (decide (y ∈ ks))) H) : rInA K false (.str y) (.ref a) H Q := by
  refine .inr (.inr (.inl ⟨a, valV (rowK ks) (Sum.inr y : Key), rfl, .inl ⟨_, Sum.inr y, h, rfl, rfl⟩, ?_⟩))
  rw [valV_row]
  by_cases e : y ∈ ks
  · simpa [e] using k
  · simpa [e] using k
theorem i_ninRowR {a : Addr} {ks : List Str} {y : Str} (h : Rd H a (.dK (rowK ks))) (k : Q (.bl (!decide (y ∈ ks))) H) : rInA K true (.str y) (.ref a) H Q := by
  refine .inr (.inr (.inl ⟨a, valV (rowK ks) (Sum.inr y : Key), rfl, .inl ⟨_, Sum.inr y, h, rfl, rfl⟩, ?_⟩))
  rw [valV_row]
  by_cases e : y ∈ ks
  · simpa [e] using k
  · simpa [e] using k
theorem i_itRow {as : List Addr} {a : Addr} {kvs : List (Key × V)} {R : It → Hp → Prop} (h : Rd H a (.dK kvs)) (ha : a ∈ as) (k : ∀ o H', Keep as H H' → H' a = some (.frz o (.dK kvs)) → R (Itd a o kvs) H') : rAnyIt K (.ref a) H R := by
  rcases h with h | ⟨o, h⟩
  · exact i_itD h fun o => k o _ (Keep.freeze ha h fun _ _ z => by cases z) upd_same
  · exact i_itF h (k o H (Keep.refl _ _) h)
end
noncomputable def unB (ps : List (Str × Str)) (x y : Str) : Bool := !wayB ps x y && !wayB ps y x
noncomputable def unR (ns : List Str) (ps : List (Str × Str)) (i : Nat) : List (Str × Str) := ((ns.drop (i + 1)).filter fun y => unB ps (ns.getD i "") y).map fun y => (ns.getD i "", y)
noncomputable def unK (ns : List Str) (ps : List (Str × Str)) (k : Nat) : List (Str × Str) := (List.range k).flatMap (unR ns ps)
noncomputable def unP (ns : List Str) (ps : List (Str × Str)) : List (Str × Str) := unK ns ps ns.length
theorem mem_unK {ns : List Str} {ps : List (Str × Str)} {k : Nat} {p : Str × Str} (hk : k ≤ ns.length) (h : p ∈ unK ns ps k) : p.1 ∈ ns ∧ p.2 ∈ ns ∧ unB ps p.1 p.2 = true := by
  unfold unK at h
  rw [List.mem_flatMap] at h
  obtain ⟨i, hi, h⟩ := h
  have hi := List.mem_range.mp hi
  unfold unR at h
  obtain ⟨y, hy, rfl⟩ := List.mem_map.mp h
  rw [List.mem_filter] at hy
  refine ⟨?_, List.mem_of_mem_drop hy.1, hy.2⟩
  exact List.mem_of_getElem? (get_getD (i := i) (by omega))
theorem mem_unP {ns : List Str} {ps : List (Str × Str)} {p : Str × Str} (h : p ∈ unP ns ps) : p.1 ∈ ns ∧ p.2 ∈ ns ∧ unB ps p.1 p.2 = true := mem_unK (Nat.le_refl _) h
section
variable {K : PySem.W.Frag} {H : Hp} {σ : St}
end
end L2
set_option Elab.async false
set_option linter.all false
set_option maxRecDepth 100000
set_option maxHeartbeats 4000000
namespace L2
open PySem PySem.Spec PyProof.Rows
end L2
set_option Elab.async false
set_option linter.all false
set_option maxRecDepth 100000
set_option maxHeartbeats 4000000
namespace L2
open PySem PySem.Spec PyProof.Rows
section
variable {prog : Program} {w : World} {A : Around} {E : Value → Shared → Prop} {s : Shared}
end
section
variable {X : Cx} {K : PySem.W.Frag}
end
section
variable {K : PySem.W.Frag} {σ : St} {H : Hp}
end
end L2
set_option Elab.async false
set_option linter.all false
set_option maxRecDepth 100000
set_option maxHeartbeats 4000000
namespace L2
open PySem PySem.Spec PyProof.Rows
theorem frzL_nms (Ls : List (List Str)) : frzL (Ls.map nmD) = true := frzL_map _ frz_nm Ls
section
variable {K : PySem.W.Frag} {H : Hp} {Q : VK}
end
end L2
set_option Elab.async false
set_option linter.all false
set_option maxRecDepth 100000
set_option maxHeartbeats 4000000
namespace L2
open PySem PySem.Spec PyProof.Rows
section
variable {P : Program} {w : World} {κ : Type} [DecidableEq κ] {knd : KeyKind P w κ} {A : Around} {E : Value → Shared → Prop} {s : Shared}
end
section
variable {X : Cx} {pins : List (Addr × Obj)} {σ : St} {H : Hp} {s : Shared} {A : Around}
end
end L2
set_option Elab.async false
set_option linter.all false
set_option maxRecDepth 100000
set_option maxHeartbeats 4000000
namespace L2
open PySem PySem.Spec PyProof.Rows
section
variable {prog : Program} {w : World} {A : Around} {E : Value → Shared → Prop} {s : Shared}
end
section
variable {X : Cx} {K : PySem.W.Frag}
end
end L2
set_option Elab.async false
set_option linter.all false
set_option maxRecDepth 100000
set_option maxHeartbeats 4000000
namespace L2
open PySem PySem.Spec PyProof.Rows
theorem unP_cons (ps : List (Str × Str)) (a : Str) (t : List Str) : (unP (a :: t) ps).length = (t.filter fun y => unB ps a y).length + (unP t ps).length := by
  have e : ∀ i, unR (a :: t) ps (i + 1) = unR t ps i := fun i => by
    unfold unR
    rw [List.getD_cons_succ, List.drop_succ_cons]
  unfold unP unK
  rw [List.length_cons, List.range_succ_eq_map, List.flatMap_cons, List.length_append, List.flatMap_map]
  have e0 : (unR (a :: t) ps 0).length = (t.filter fun y => unB ps a y).length := by
    unfold unR
    rw [List.length_map]
    rfl
  rw [e0]
  have e1 : (fun i => unR (a :: t) ps (Nat.succ i)) = unR t ps := funext e
  rw [show ((List.range t.length).flatMap fun i => unR (a :: t) ps i.succ) = (List.range t.length).flatMap (unR t ps) from by rw [e1]]
end L2
set_option Elab.async false
set_option linter.all false
set_option maxRecDepth 100000
set_option maxHeartbeats 4000000
namespace L2
open PySem PySem.Spec PyProof.Rows
section
variable {P : Program} {w : World} {A : Around} {R : Result → Shared → Prop} {it : Addr} {fp wr : List Addr} {G : Array GenState → Array GenState → Prop} {n : Nat} {PV : Nat → Value → Prop} {St : Nat → Shared → Prop}
end
section
variable {prog : Program} {w : World} {A : Around} {E : Value → Shared → Prop} {s : Shared}
set_option maxHeartbeats 3200000 in
end
end L2
set_option Elab.async false
set_option linter.all false
set_option maxRecDepth 100000
set_option maxHeartbeats 4000000
namespace L2
open PySem PySem.Spec PyProof.Rows
section
variable {X : Cx} {K : PySem.W.Frag}
end
end L2
set_option Elab.async false
set_option linter.all false
set_option maxRecDepth 100000
set_option maxHeartbeats 4000000
namespace L2
open PySem PySem.Spec PyProof.Rows
theorem nm_len {z : Str} (h : isNm z = true) : z.length ≤ 8 := (nm_ok h).2
section
variable {K : PySem.W.Frag} {H : Hp} {Q : VK}
end
end L2
set_option Elab.async false
set_option linter.all false
set_option maxRecDepth 100000
set_option maxHeartbeats 4000000
namespace L2
open PySem PySem.Spec PyProof.Rows
theorem preSum_take (ns : List Int) : ∀ j ≤ ns.length, preSum (fun i => ns.getD i 0) j = (ns.take j).sum
  | 0, _ => by simp [preSum]
  | j + 1, h => by
    rw [preSum, preSum_take ns j (by omega), List.take_add_one, get_getD (y := 0) (by omega : j < ns.length)]
    simp
theorem sum_small : ∀ {ns : List Int}, (∀ n ∈ ns, 0 ≤ n ∧ n ≤ 1000000000000) → 0 ≤ ns.sum ∧ ns.sum ≤ 1000000000000 * (ns.length : Int)
  | [], _ => by simp
  | n :: ns, h => by
    have h1 := h n (by simp)
    have h2 := sum_small fun m hm => h m (List.mem_cons_of_mem _ hm)
    rw [List.sum_cons, List.length_cons]
    omega
section
variable {X : Cx} {K : PySem.W.Frag}
noncomputable def rSum (K : PySem.W.Frag) : List V → Hp → VK → Prop := fun xs H Q => ∃ (a : Addr) (ns : List Int), xs = [.ref a] ∧ (SqL K H a (ns.map V.int) ∨ SqT K H a (ns.map V.int)) ∧ (∀ n ∈ ns, 0 ≤ n ∧ n ≤ 1000000000000) ∧ ns.length ≤ 1000000 ∧ Q (.int ns.sum) H
theorem int_at {ns : List Int} {its : List Value} (r : Vals (ns.map V.int) its) {i : Nat} {v : Value} (h : its.toArray[i]? = some v) : ∃ t, v = .int (ns.getD i 0) t := by
  rw [List.getElem?_toArray] at h
  have hl := r.length
  rw [List.length_map] at hl
  have hi : i < ns.length := by
    have := (List.getElem?_eq_some_iff.mp h).1
    omega
  obtain ⟨u, hu, ru⟩ := r.get (i := i) (x := .int (ns.getD i 0)) (by rw [List.getElem?_map, get_getD (y := 0) hi]; rfl)
  rw [h] at hu
  cases hu
  exact ru
theorem call_sumA (hc : X.calm = true) : CallR X (.builtin "sum") (rSum X.K) := by
  intro pins s σ H xs us Q I r h
  obtain ⟨a, ns, rfl, hl, hb, hz, q⟩ := h
  obtain ⟨u, rfl, ru⟩ := vals1 r
  cases ru
  have fits : ∀ j, j < ns.length → InLong (ns.getD j 0) ∧ InLong (preSum (fun i => ns.getD i 0) (j + 1)) := fun j hj => by
    have h1 := hb _ (List.mem_of_getElem? (get_getD (y := 0) hj))
    have h2 := sum_small (ns := ns.take (j + 1)) fun n hn => hb n (List.mem_of_mem_take hn)
    rw [preSum_take ns (j + 1) hj]
    rw [List.length_take] at h2
    unfold InLong
    omega
  have last : preSum (fun i => ns.getD i 0) ns.length = ns.sum := by rw [preSum_take ns _ (Nat.le_refl _), List.take_length]
  refine call_sum_walk ?_
  rcases hl with hl | hl
  · obtain ⟨its, rv, pl, _⟩ := I.list hl
    have hlen : its.toArray.size = ns.length := by rw [List.size_toArray, ← rv.length, List.length_map]
    have hlt : a < s.heap.objs.size := let ⟨_, e, _⟩ := pl.isList; Heap.lt_size e
    refine wpAny_pyIter_list pl.isList ?_
    refine ⟨_, _, _, _, _, _, fun i => ns.getD i 0, rfl, Walks.list (by simpa using I.ok.hd hc) _ a (Nat.ne_of_lt hlt) its.toArray, ⟨⟨_, Heap.get?_push_size _ rfl, rfl, rfl⟩, pl.isList.push _⟩, fun b hb' => ?_, fun i v hv => int_at rv hv, by rw [hlen]; exact fits, fun h' tk t' hk => ?_⟩
    · rw [Heap.size_push]
      simp only [List.mem_cons, List.not_mem_nil, or_false] at hb'
      rcases hb' with rfl | rfl
      · exact Nat.lt_succ_self _
      · exact Nat.lt_succ_of_lt hlt
    · refine ⟨.int ns.sum, H, I.kept (t' := tk) fun b o e => hk b o (fun z => ?_) (Heap.get?_push_of_some _ e), ⟨t', by rw [hlen, last]⟩, q⟩
      have : b = s.heap.objs.size := by simpa using z
      subst this
      exact absurd (Heap.lt_size e) (Nat.lt_irrefl _)
  · obtain ⟨its, rv, pl, _⟩ := I.tuple hl
    have hlen : its.toArray.size = ns.length := by rw [List.size_toArray, ← rv.length, List.length_map]
    have hlt : a < s.heap.objs.size := let ⟨_, e, _⟩ := pl; Heap.lt_size e
    refine wpAny_pyIter_tuple pl ?_
    refine ⟨_, _, _, _, _, _, fun i => ns.getD i 0, rfl, Walks.tuple (by simpa using I.ok.hd hc) _ a (Nat.ne_of_lt hlt) its.toArray, ⟨⟨_, Heap.get?_push_size _ rfl, rfl, rfl⟩, Heap.IsTuple.push pl _⟩, fun b hb' => ?_, fun i v hv => int_at rv hv, by rw [hlen]; exact fits, fun h' tk t' hk => ?_⟩
    · rw [Heap.size_push]
      simp only [List.mem_cons, List.not_mem_nil, or_false] at hb'
      rcases hb' with rfl | rfl
      · exact Nat.lt_succ_self _
      · exact Nat.lt_succ_of_lt hlt
    · refine ⟨.int ns.sum, H, I.kept (t' := tk) fun b o e => hk b o (fun z => ?_) (Heap.get?_push_of_some _ e), ⟨t', by rw [hlen, last]⟩, q⟩
      have : b = s.heap.objs.size := by simpa using z
      subst this
      exact absurd (Heap.lt_size e) (Nat.lt_irrefl _)
theorem call_sumK (hc : X.calm = true) (hK : X.K = K := by with_unfolding_all rfl) : CallR X (.builtin "sum") (rSum K) := hK ▸ call_sumA hc
theorem i_sum {a : Addr} {ns : List Int} {H : Hp} {Q : VK} (h : SqL K H a (ns.map V.int) ∨ SqT K H a (ns.map V.int)) (hb : ∀ n ∈ ns, 0 ≤ n ∧ n ≤ 1000000000000) (hz : ns.length ≤ 1000000) (k : Q (.int ns.sum) H) : rSum K [.ref a] H Q := ⟨a, ns, rfl, h, hb, hz, k⟩
end
section
variable {prog : Program} {w : World} {A : Around} {E : Value → Shared → Prop} {s : Shared}
theorem index_tup {t : Addr} {items : Array Value} {x : Value} {e : Value → Bool} {j : Nat} {Q : Value → Shared → Prop} (ht : IsTup s.heap t items) (hj : j < items.size) (he : ∀ y, y ∈ items → SeqAt.EqAt A.in1 s y x (e y)) (hit : e items[j] = true)
    (hno : ∀ m (hm : m < items.size), m < j → e items[m] = false) (h : Q (.int j s.toks) { s with toks := s.toks + 1 }) : wpAny (model prog w) A (call (.builtin "tuple.index") [.ref t, x]) Q E s := by
  refine wpAny_call_entry PySem.F.slot_tuple_index ht.typeIs PySem.F.entry_tuple_index ?_ (PySem.F.args_tuple_index_2 _ _)
  unfold Builtin.«tuple.index»
  refine wpAny_bind (wpAny_of_eq (a := (Value.ref t, [x])) (by first | rfl | kernel_rfl) ?_)
  refine wpAny_bind (m := Builtin.Tuple.tupleItemsOf _) (tupleItemsOf_ ht ?_)
  refine wpAny_bind (m := pure 0) (wpAny_pure ?_)
  refine wpAny_bind (m := pure items.size) (wpAny_pure ?_)
  dsimp only
  rw [Nat.min_self]
  refine wpAny_bind ?_
  rw [Std.Legacy.Range.forIn_eq_forIn_range', show Std.Legacy.Range.size [:items.size] = items.size by simp [Std.Legacy.Range.size]]
  refine wpAny_forIn_list _ (fun l q s' => s' = s ∧ q = (none, ()) ∧ ∃ i, i ≤ j ∧ l = List.range' i (items.size - i)) _ ?_ ?_ _ _ ⟨rfl, rfl, 0, Nat.zero_le _, rfl⟩
  · rintro m l q s' ⟨rfl, rfl, i, hi, el⟩
    rw [show items.size - i = items.size - (i + 1) + 1 by omega, List.range'_succ] at el
    injection el with e1 e2
    subst e1
    have hm : m < items.size := by omega
    rw [Array.getElem?_eq_getElem hm]
    refine wpAny_bind (he _ (Array.getElem_mem hm) prog w _ _ ?_)
    by_cases hmj : m = j
    · subst hmj
      rw [hit, if_pos rfl]
      refine wpAny_bind (m := retInt _) ?_
      refine wpAny_bind (wpAny_mkInt ?_)
      exact wpAny_pure (wpAny_pure (wpAny_pure ⟨_, rfl, h⟩))
    · rw [hno m hm (by omega), if_neg (by decide)]
      exact wpAny_pure ⟨rfl, rfl, m + 1, by omega, e2⟩
  · rintro q s' ⟨rfl, rfl, i, hi, el⟩
    exfalso
    rw [show items.size - i = items.size - (i + 1) + 1 by omega, List.range'_succ] at el
    cases el
end
section
variable {X : Cx} {K : PySem.W.Frag}
noncomputable def rIndexT (K : PySem.W.Frag) : V → List V → Hp → VK → Prop := fun x vs H Q => ∃ (a : Addr) (ns : List Str) (z : Str) (j : Nat), x = .ref a ∧ vs = [.str z] ∧ SqT K H a (ns.map V.str) ∧ ns[j]? = some z ∧ (∀ m < j, ns[m]? ≠ some z) ∧ Q (.int (j : Nat)) H
theorem mt_indexT : MtR X "tuple.index" (rIndexT X.K) := by
  intro pins s σ H x vs v us Q I rx rv h
  obtain ⟨a, ns, z, j, rfl, rfl, hS, hj, hno, q⟩ := h
  cases rx
  obtain ⟨u, rfl, ru⟩ := rv.one
  obtain ⟨its, r, p, hz⟩ := I.tuple hS
  have hlen := r.length
  rw [List.length_map] at hlen
  have hjn := (List.getElem?_eq_some_iff.mp hj).1
  have at' : ∀ m (hm : m < its.toArray.size), ∃ y t, ns[m]? = some y ∧ its.toArray[m] = .str y t := fun m hm => by
    have hm' : m < ns.length := by rw [List.size_toArray] at hm; omega
    obtain ⟨w, hw, rw'⟩ := r.get (i := m) (x := .str ns[m]) (by rw [List.getElem?_map, List.getElem?_eq_getElem hm']; rfl)
    obtain ⟨t, rfl⟩ := rw'
    refine ⟨ns[m], t, List.getElem?_eq_getElem hm', ?_⟩
    have h2 := (List.getElem?_eq_some_iff.mp hw).2
    simpa using h2
  have tell : ∀ y t, eqU (.str z) (.str y t) = decide (y = z) := fun y t => by
    show (y == z) = _
    by_cases h : y = z <;> simp [h]
  refine index_tup (j := j) (e := eqU (.str z)) p (by rw [List.size_toArray]; omega) (fun w hw => mem_eqAt ru rfl r (flat_strs ns) w (by simpa using hw)) ?_ (fun m hm hmj => ?_) ⟨.int _, H, I.tok _, ⟨_, rfl⟩, q⟩
  · obtain ⟨y, t, h1, h2⟩ := at' j (by rw [List.size_toArray]; omega)
    rw [h2, tell]
    rw [hj] at h1
    exact decide_eq_true (Option.some.inj h1).symm
  · obtain ⟨y, t, h1, h2⟩ := at' m hm
    rw [h2, tell]
    refine decide_eq_false fun e => hno m hmj ?_
    rw [h1, e]
theorem mt_indexTK (hK : X.K = K := by with_unfolding_all rfl) : MtR X "tuple.index" (rIndexT K) := hK ▸ mt_indexT
theorem i_indexT {a : Addr} {ns : List Str} {z : Str} {j : Nat} {H : Hp} {Q : VK} (h : SqT K H a (ns.map V.str)) (hj : ns[j]? = some z) (hno : ∀ m < j, ns[m]? ≠ some z) (k : Q (.int (j : Nat)) H) : rIndexT K (.ref a) [.str z] H Q := ⟨a, ns, z, j, rfl, rfl, h, hj, hno, k⟩
noncomputable def tBMT (K : PySem.W.Frag) (r : V → List V → Hp → VK → Prop) (to : TE) (t : TA) : TE := fun σ H Q => to σ H fun x H1 => (∃ a xs, x = .ref a ∧ SqT K H1 a xs) ∧ t σ H1 fun vs H2 => r x vs H2 Q
theorem pe_bmT {o e : Expr} {es : List Expr} {to : TE} {t : TA} {name : Str} {apos cpos : Pos} {id : String} {r : V → List V → Hp → VK → Prop} (slot : Slot "tuple" name id) (hty : typeOf (.builtin id) = pure (.type "method_descriptor")) (hm : MtR X id r) (ho : PE X o to) (ha : PA X (e :: es) t) (hK : X.K = K := by with_unfolding_all rfl)
    (hbase : attributeBase o name X.env (eval o X.env) = eval o X.env := by with_unfolding_all rfl)
    (hfew : ((backTo cpos (starEach (e :: es) X.env)).all (fun x => !x.1) && (backToKw cpos (keywordEach [] X.env)).all (fun x => x.1.isSome) && decide ((e :: es).length + ([] : List Keyword).length + (if ([] : List Keyword).isEmpty then 0 else 1) < 30)) = true := by with_unfolding_all rfl)
    (hline : (apos.endLine == cpos.line) = true := by with_unfolding_all rfl) (hs : starEach (e :: es) X.env = (false, eval e X.env) :: starEach es X.env := by with_unfolding_all rfl) (hplain : (backTo cpos (starEach es X.env)).any (·.1) = false := by with_unfolding_all rfl) :
    PE X (.Call (.Attribute o name apos) (e :: es) [] cpos) (tBMT K r to t) := by
  subst hK
  intro pins s σ H Q I h
  refine wpAny_Call_method_late hbase hfew hline rfl (thn (ho pins s σ H _ I h) fun v s1 ⟨x, H1, I1, r1, ty, q1⟩ => ?_)
  obtain ⟨a, xs, rfl, hS⟩ := ty
  cases r1
  obtain ⟨its, _, p, _⟩ := I1.tuple hS
  refine ⟨"tuple", id, PySem.F.plainAttrs_tuple, slot, hty, p.typeIs, (fun b e => by cases e; exact I1.tupleN hS), ?_⟩
  have hA := ha cpos pins s1 σ H1 _ I1 q1
  rw [hs] at hA ⊢
  refine Calls.callWith_builtin (by show (false || (backTo cpos (starEach es X.env)).any (·.1)) = false; rw [hplain]; rfl) (Calls.evalArgs_plain ?_)
  exact thn hA fun us s2 ⟨vs, H2, I2, r2, q2⟩ => hm pins s2 σ H2 (.ref a) vs _ us Q I2 rfl r2 q2
theorem i_bmT {r : V → List V → Hp → VK → Prop} {te : TE} {ts : TA} {σ : St} {H : Hp} {Q : VK} (k : te σ H fun x H1 => (∃ a xs, x = .ref a ∧ SqT K H1 a xs) ∧ ts σ H1 fun xs H2 => r x xs H2 Q) : tBMT K r te ts σ H Q := k
theorem i_tyT {a : Addr} {xs : List V} {H : Hp} {B : Prop} (h : SqT K H a xs) (k : B) : (∃ a' xs', V.ref a = .ref a' ∧ SqT K H a' xs') ∧ B := ⟨⟨a, xs, rfl, h⟩, k⟩
end
end L2
set_option Elab.async false
set_option linter.all false
set_option maxRecDepth 100000
set_option maxHeartbeats 4000000
namespace L2
open PySem PySem.Spec PyProof.Rows
section
variable {prog : Program} {w : World} {A : Around} {E : Value → Shared → Prop} {s : Shared}
end
section
variable {X : Cx} {K : PySem.W.Frag}
end
end L2
set_option linter.all false
namespace L2
section
variable {α : Type} [DecidableEq α]
noncomputable def frF (b : α → α → Bool) (L : List α) : List α := L.filter fun x => !(L.any fun y => b y x)
noncomputable def lessF (L : List α) (x : α) : List α := L.filter fun y => !decide (y = x)
noncomputable def ext (b : α → α → Bool) : Nat → List α → List (List α)
  | 0, _ => [[]]
  | n + 1, L => (frF b L).flatMap fun x => (ext b n (lessF L x)).map (x :: ·)
noncomputable def cnt (b : α → α → Bool) (L : List α) : Nat := (ext b L.length L).length
theorem cnt_nil (b : α → α → Bool) : cnt b [] = 1 := rfl
theorem mem_frF {b : α → α → Bool} {L : List α} {x : α} : x ∈ frF b L ↔ x ∈ L ∧ ∀ y ∈ L, b y x = false := by
  unfold frF
  rw [List.mem_filter]
  constructor
  · rintro ⟨h1, h2⟩
    refine ⟨h1, fun y hy => ?_⟩
    cases e : b y x with
    | false => rfl
    | true =>
      have : (L.any fun y => b y x) = true := List.any_eq_true.mpr ⟨y, hy, e⟩
      rw [this] at h2
      cases h2
  · rintro ⟨h1, h2⟩
    refine ⟨h1, ?_⟩
    have : (L.any fun y => b y x) = false := by
      rw [Bool.eq_false_iff]
      intro h
      obtain ⟨y, hy, e⟩ := List.any_eq_true.mp h
      rw [h2 y hy] at e
      cases e
    rw [this]
    rfl
theorem mem_lessF {L : List α} {x y : α} : y ∈ lessF L x ↔ y ∈ L ∧ y ≠ x := by
  unfold lessF
  rw [List.mem_filter]
  simp
theorem lessF_nodup {L : List α} (h : L.Nodup) (x : α) : (lessF L x).Nodup := List.Nodup.sublist (List.filter_sublist) h
theorem lessF_no : ∀ {L : List α} {x : α}, x ∉ L → lessF L x = L := fun {L x} h => by
  unfold lessF
  rw [List.filter_eq_self]
  intro y hy
  have : y ≠ x := fun q => h (q ▸ hy)
  simp [this]
theorem lessF_len : ∀ {L : List α} {x : α}, L.Nodup → x ∈ L → (lessF L x).length + 1 = L.length
  | [], _, _, h => by cases h
  | y :: ys, x, hn, h => by
    obtain ⟨h1, h2⟩ := List.nodup_cons.mp hn
    by_cases e : y = x
    · subst e
      have : lessF (y :: ys) y = lessF ys y := by unfold lessF; rw [List.filter_cons, if_neg (by simp)]
      rw [this, lessF_no h1]
      rfl
    · have : lessF (y :: ys) x = y :: lessF ys x := by unfold lessF; rw [List.filter_cons, if_pos (by simp [e])]
      rw [this, List.length_cons, lessF_len h2 ((List.mem_cons.mp h).resolve_left fun q => e q.symm)]
      rfl
theorem cnt_eq {b : α → α → Bool} {L : List α} (hn : L.Nodup) (hne : L ≠ []) : cnt b L = ((frF b L).map fun x => cnt b (lessF L x)).sum := by
  unfold cnt
  cases hl : L.length with
  | zero => exact absurd (List.length_eq_zero_iff.mp hl) hne
  | succ n =>
    show ((frF b L).flatMap fun x => (ext b n (lessF L x)).map (x :: ·)).length = _
    rw [List.length_flatMap]
    congr 1
    apply List.map_congr_left
    intro x hx
    have := lessF_len hn (mem_frF.mp hx).1
    have e : (lessF L x).length = n := by omega
    rw [List.length_map, e]
noncomputable def leftF (ns row : List α) : List α := ns.filter fun x => !decide (x ∈ row)
noncomputable def growF (b : α → α → Bool) (ns : List α) (rows : List (List α)) : List (List α) := rows.flatMap fun row => (frF b (leftF ns row)).map fun x => row ++ [x]
noncomputable def growN (b : α → α → Bool) (ns : List α) : Nat → List (List α) → List (List α)
  | 0, r => r
  | k + 1, r => growN b ns k (growF b ns r)
theorem growN_succ (b : α → α → Bool) (ns : List α) : ∀ (k : Nat) (r : List (List α)), growN b ns (k + 1) r = growF b ns (growN b ns k r)
  | 0, r => rfl
  | k + 1, r => growN_succ b ns k (growF b ns r)
theorem growN_append (b : α → α → Bool) (ns : List α) : ∀ (k : Nat) (r t : List (List α)), growN b ns k (r ++ t) = growN b ns k r ++ growN b ns k t
  | 0, r, t => rfl
  | k + 1, r, t => by
    show growN b ns k (growF b ns (r ++ t)) = _
    have : growF b ns (r ++ t) = growF b ns r ++ growF b ns t := by unfold growF; rw [List.flatMap_append]
    rw [this, growN_append b ns k]
    rfl
theorem growN_nil (b : α → α → Bool) (ns : List α) : ∀ k : Nat, growN b ns k [] = []
  | 0 => rfl
  | k + 1 => growN_nil b ns k
theorem growN_map (b : α → α → Bool) (ns : List α) (k : Nat) (f : α → List α) : ∀ l : List α, growN b ns k (l.map f) = l.flatMap fun x => growN b ns k [f x]
  | [] => growN_nil b ns k
  | x :: xs => by
    rw [List.map_cons, List.flatMap_cons, ← growN_map b ns k f xs, ← growN_append]
    rfl
theorem leftF_snoc (ns row : List α) (x : α) : leftF ns (row ++ [x]) = lessF (leftF ns row) x := by
  unfold leftF lessF
  rw [List.filter_filter]
  apply List.filter_congr
  intro y _
  by_cases h : y ∈ row <;> by_cases e : y = x <;> simp [h, e]
theorem grow_ext (b : α → α → Bool) (ns : List α) : ∀ (k : Nat) (row : List α), growN b ns k [row] = (ext b k (leftF ns row)).map (row ++ ·)
  | 0, row => by simp [growN, ext]
  | k + 1, row => by
    show growN b ns k (growF b ns [row]) = _
    have e : growF b ns [row] = (frF b (leftF ns row)).map fun x => row ++ [x] := by unfold growF; simp
    rw [e, growN_map]
    show _ = ((frF b (leftF ns row)).flatMap fun x => (ext b k (lessF (leftF ns row) x)).map (x :: ·)).map (row ++ ·)
    rw [List.map_flatMap]
    congr 1
    funext x
    rw [grow_ext b ns k, leftF_snoc, List.map_map]
    congr 1
    funext r
    simp
theorem leftF_nil (ns : List α) : leftF ns [] = ns := by
  unfold leftF
  rw [List.filter_eq_self]
  simp
noncomputable def fac : Nat → Nat
  | 0 => 1
  | n + 1 => fac n * (n + 1)
theorem sum_le {f g : α → Nat} : ∀ {l : List α}, (∀ x ∈ l, f x ≤ g x) → (l.map f).sum ≤ (l.map g).sum
  | [], _ => Nat.le_refl _
  | x :: xs, h => by
    have h1 := h x (by simp)
    have h2 := sum_le (l := xs) (f := f) (g := g) fun y hy => h y (by simp [hy])
    simp
    omega
theorem sum_mulR (c : Nat) (f : α → Nat) : ∀ l : List α, (l.map fun x => f x * c).sum = (l.map f).sum * c
  | [] => by simp
  | x :: xs => by simp [sum_mulR c f xs, Nat.add_mul]
theorem filter_less {p q : α → Bool} : ∀ {l : List α}, (∀ a ∈ l, p a = true → q a = true) → (∃ z ∈ l, q z = true ∧ p z = false) → (l.filter p).length < (l.filter q).length
  | [], _, h => by obtain ⟨z, hz, _⟩ := h; cases hz
  | y :: ys, h, hz => by
    have le : ∀ l : List α, (∀ a ∈ l, p a = true → q a = true) → (l.filter p).length ≤ (l.filter q).length := by
      intro l
      induction l with
      | nil => intro _; exact Nat.le_refl _
      | cons a l ih =>
        intro h
        have := ih fun a ha => h a (by simp [ha])
        rw [List.filter_cons, List.filter_cons]
        cases c : p a with
        | true => rw [if_pos rfl, if_pos (h a (by simp) c)]; simpa using this
        | false =>
          rw [if_neg (by simp)]
          split
          · simp; omega
          · exact this
    rw [List.filter_cons, List.filter_cons]
    obtain ⟨z, hz, hq, hp⟩ := hz
    rcases List.mem_cons.mp hz with rfl | hz
    · rw [hp, if_neg (by simp), if_pos hq, List.length_cons]
      have := le ys fun a ha => h a (by simp [ha])
      omega
    · have ih := filter_less (l := ys) (fun a ha => h a (by simp [ha])) ⟨z, hz, hq, hp⟩
      cases c : p y with
      | true => rw [if_pos rfl, if_pos (h y (by simp) c)]; simpa using ih
      | false =>
        rw [if_neg (by simp)]
        split
        · simp; omega
        · exact ih
theorem fr_over {b : α → α → Bool} (irr : ∀ x, b x x = false) (tr : ∀ x y z, b x y = true → b y z = true → b x z = true) {L : List α} : ∀ (m : Nat) (y : α), y ∈ L → (L.filter fun z => b z y).length ≤ m → ∃ x ∈ frF b L, x = y ∨ b x y = true
  | m, y, hy, hm => by
    by_cases c : ∃ z ∈ L, b z y = true
    · obtain ⟨z, hz, hzy⟩ := c
      have lt : (L.filter fun a => b a z).length < (L.filter fun a => b a y).length := filter_less (fun a _ h => tr a z y h hzy) ⟨z, hz, hzy, irr z⟩
      cases m with
      | zero => omega
      | succ m =>
        obtain ⟨x, hx, h⟩ := fr_over irr tr m z hz (by omega)
        refine ⟨x, hx, .inr ?_⟩
        rcases h with rfl | h
        · exact hzy
        · exact tr x z y h hzy
    · refine ⟨y, mem_frF.mpr ⟨hy, fun z hz => ?_⟩, .inl rfl⟩
      cases e : b z y with
      | false => rfl
      | true => exact absurd ⟨z, hz, e⟩ c
theorem frF_nodup {b : α → α → Bool} {L : List α} (h : L.Nodup) : (frF b L).Nodup := List.Nodup.sublist List.filter_sublist h
theorem frF_ne {b : α → α → Bool} (irr : ∀ x, b x x = false) (tr : ∀ x y z, b x y = true → b y z = true → b x z = true) {L : List α} (h : L ≠ []) : frF b L ≠ [] := by
  cases L with
  | nil => exact absurd rfl h
  | cons y ys =>
    obtain ⟨x, hx, _⟩ := fr_over irr tr (L := y :: ys) _ y (by simp) (Nat.le_refl _)
    intro e
    rw [e] at hx
    cases hx
theorem sum_congr {f g : α → Nat} {l : List α} (h : ∀ x ∈ l, f x = g x) : (l.map f).sum = (l.map g).sum := by
  rw [List.map_congr_left h]
end
end L2
set_option Elab.async false
set_option linter.all false
set_option maxRecDepth 100000
set_option maxHeartbeats 4000000
namespace L2
open PySem PySem.Spec PyProof.Rows
theorem FnOk.void {P : Program} {w : World} {K : PySem.W.Frag} {mg : Str → Option Value} {base : Heap} {CX : CXT} {k : Nat} {f : Addr} {fd : FuncData} {ps : List Str} {sp : Sp} (h : ∀ vs H Q E, ¬ sp vs H Q E) : FnOk P w K mg base CX k f fd ps sp :=
  ⟨fun vs H Q E q => absurd q (h vs H Q E), fun A outer s H args us vs Q E _ _ _ _ hs => absurd hs (h vs H Q E)⟩
section
variable {X : Cx} {K : PySem.W.Frag} {k : Nat} {C : Addr} {f x m : Str} {ps : List Str} {sp : Sp} {e o value : Expr} {es : List Expr} {ta tv : TE} {t : TA} {p pos pos' apos : Pos}
end
section
variable {K : PySem.W.Frag} {C : Addr} {f m : Str} {sp : Sp} {ta tv : TE} {t : TA} {σ : St} {H : Hp} {Q : VK} {D : Ends}
end
section
variable {X : Cx} {K : PySem.W.Frag}
end
section
variable {X : Cx}
end
section
variable {α : Type} [DecidableEq α]
end
end L2
set_option Elab.async false
set_option linter.all false
set_option maxRecDepth 100000
set_option maxHeartbeats 4000000
namespace L2
open PySem PySem.Spec PyProof.Rows
section
variable {K : PySem.W.Frag} {C : Addr} {H H' : Hp} {p dx : Addr} {nv : V} {bd ad kd : Addr} {ns : List Str} {ps : List (Str × Str)} {kvs kvs' : List (Key × V)}
end
theorem wayB_tr {ps : List (Str × Str)} (x y z : Str) (h : wayB ps x y = true) (g : wayB ps y z = true) : wayB ps x z = true := wayB_iff.mpr ((wayB_iff.mp h).trans (wayB_iff.mp g))
end L2
namespace L2
open PySem PySem.Spec PyProof.Rows
section
variable {α : Type} [DecidableEq α]
theorem growF_snoc (b : α → α → Bool) (ns : List α) {rows : List (List α)} {j : Nat} {row : List α} (h : rows[j]? = some row) : growF b ns (rows.take (j + 1)) = growF b ns (rows.take j) ++ (frF b (leftF ns row)).map fun x => row ++ [x] := by
  rw [List.take_add_one, h]
  unfold growF
  rw [List.flatMap_append]
  simp
theorem growN_row (b : α → α → Bool) (ns : List α) : ∀ (i : Nat) (row : List α), row ∈ growN b ns i [[]] → row.length = i
  | 0, row, h => by
    have : row = [] := by simpa [growN] using h
    subst this
    rfl
  | i + 1, row, h => by
    rw [growN_succ] at h
    unfold growF at h
    obtain ⟨r, hr, hx⟩ := List.mem_flatMap.mp h
    obtain ⟨x, _, rfl⟩ := List.mem_map.mp hx
    rw [List.length_append, growN_row b ns i r hr]
    rfl
end
end L2
namespace L2
end L2
namespace L2
open PySem PySem.Spec PyProof.Rows
theorem Way.last {ps : List (Str × Str)} {x y : Str} (h : Way ps x y) : ∃ m, (m, y) ∈ ps ∧ (x = m ∨ Way ps x m) := by
  induction h with
  | one e => exact ⟨_, e, .inl rfl⟩
  | cons e _ ih =>
    obtain ⟨m, h1, h2⟩ := ih
    refine ⟨m, h1, .inr ?_⟩
    rcases h2 with rfl | h2
    · exact .one e
    · exact .cons e h2
end L2
set_option linter.all false
namespace L2
section
variable {α : Type} [DecidableEq α]
end
end L2
namespace L2
open PySem PySem.Spec PyProof.Rows
end L2
namespace L2
open PySem PySem.Spec PyProof.Rows
section
variable {K : PySem.W.Frag} {σ : St} {H : Hp} {Q : VK} {td ty tx : TE}
end
section
variable {K : PySem.W.Frag} {C : Addr} {H H' : Hp} {p dx : Addr} {nv : V} {bd ad kd : Addr} {ns : List Str} {ps : List (Str × Str)} {kvs : List (Key × V)}
end
end L2
namespace L2
open PySem PySem.Spec PyProof.Rows
section
variable {K : PySem.W.Frag} {σ : St} {H : Hp} {Q : VK}
end
end L2
set_option Elab.async false
set_option linter.all false
set_option maxRecDepth 100000
set_option maxHeartbeats 4000000
namespace L2
open PySem PySem.Spec PyProof.Rows
theorem meets_upd_self {prog : Program} {w : World} {κ : Type} [DecidableEq κ] (knd : KeyKind prog w κ) (d : Addr) :
    MeetsIn prog w (Builtin.«dict.update» ⟨[.ref d, .ref d], []⟩) (fun _ R s => (∃ kvs, s.heap.DictOf knd d kvs) ∧ R (.ok (.ret .none)) s) :=
  .of_wp fun A R s hh => by
    obtain ⟨⟨kvs, hd⟩, h⟩ := hh
    unfold Builtin.«dict.update» Builtin.Dict.selfAndRest
    refine wpAny_bind (wpAny_bind (wpAny_notOrdered_dict hd.typeIs ?_))
    show wpAny _ _ (pure (d, [Value.ref d])) _ _ s
    refine wpAny_pure ?_
    show wpAny _ _ (Builtin.Dict.updateFrom "dict.update" d (.ref d) [] .none) _ _ s
    unfold Builtin.Dict.updateFrom Builtin.Dict.merge Builtin.Dict.readDirectly
    refine wpAny_bind (wpAny_typeOf hd.typeIs ?_)
    rw [if_neg (by decide)]
    refine wpAny_bind (wpAny_bind (wpAny_bind (wpAny_isInstance hd.typeIs isSubtype_dict_dict ?_)))
    simp only [Bool.not_true, Bool.false_eq_true, if_false]
    refine wpAny_bind (wpAny_specialOf hd.typeIs F.slot_dict_iter.lookup (wpAny_pure ?_))
    simp only [beq_self_eq_true, if_true]
    refine wpAny_bind (wpAny_pure ?_)
    unfold Builtin.Dict.mergeDict
    rw [if_pos (by simp)]
    refine wpAny_bind (wpAny_rule (wpAny_pure ?_))
    show wpAny _ _ (Builtin.Dict.addKeywords d [] >>= _) _ _ _
    exact wpAny_bind (wpAny_pure (wpAny_pure ⟨.none, rfl, h⟩))
noncomputable def rUpdateS : V → List V → Hp → VK → Prop := fun x vs H Q => ∃ d kvs, x = .ref d ∧ vs = [.ref d] ∧ H d = some (.dK kvs) ∧ Q .non H
noncomputable def rUpdateA : V → List V → Hp → VK → Prop := fun x vs H Q => rUpdate x vs H Q ∨ rUpdateS x vs H Q
section
variable {X : Cx} {K : PySem.W.Frag}
theorem mt_updateS : MtM X "dict.update" rUpdateS := by
  intro pins s σ H x vs v us Q I rx rv h
  obtain ⟨d, kvs, rfl, rfl, hD, q⟩ := h
  cases rx
  obtain ⟨u, rfl, ru⟩ := rv.one
  cases ru
  obtain ⟨z1, hd1, vs1, rel1, dd1⟩ := dk_of I.hok hD
  refine call_meetsIn F.slot_dict_update dd1.typeIs F.entry_dict_update (F.args_dict_update_2 _ _) (meets_upd_self (mixKind X.prog X.w) d) ⟨⟨vs1, dd1⟩, ?_⟩
  exact ⟨.non, H, I.tok s.toks, rfl, q⟩
theorem mt_updateA : MtM X "dict.update" rUpdateA := by
  intro pins s σ H x vs v us Q I rx rv h
  rcases h with h | h
  · exact mt_update pins s σ H x vs v us Q I rx rv h
  · exact mt_updateS pins s σ H x vs v us Q I rx rv h
end
theorem i_updA {d o : Addr} {ks ms : List Str} {H : Hp} {Q : VK} (hd : H d = some (.dK (rowK ks))) (ho : H o = some (.dK (rowK ms))) (hne : d ≠ o) (hz : ks.length + ms.length ≤ 1000000) (k : ∀ H', ExtBut d H H' → H' d = some (.dK (rowK (addAll ks ms))) → Q .non H') : rUpdateA (.ref d) [.ref o] H Q := .inl (i_upd hd ho hne hz k)
theorem i_updS {d : Addr} {kvs : List (Key × V)} {H : Hp} {Q : VK} (hd : H d = some (.dK kvs)) (k : Q .non H) : rUpdateA (.ref d) [.ref d] H Q := .inr ⟨d, kvs, rfl, rfl, hd, k⟩
structure HalfC (ns : List Str) (ps : List (Str × Str)) : Prop where
  nd : ns.Nodup
  mem : ∀ p ∈ ps, p.1 ∈ ns ∧ p.2 ∈ ns
  few : ns.length ≤ 100
  le : ps.length ≤ 1100
theorem HalfW.c {ns : List Str} {ps : List (Str × Str)} (h : HalfW ns ps) : HalfC ns ps := ⟨h.nd, h.mem, h.few, Nat.le_trans h.le (by decide)⟩
instance {ns : List Str} {ps : List (Str × Str)} : Coe (HalfW ns ps) (HalfC ns ps) := ⟨HalfW.c⟩
theorem HalfW.more {ns : List Str} {ps : List (Str × Str)} (h : HalfW ns ps) {x y : Str} (hx : x ∈ ns) (hy : y ∈ ns) : HalfC ns (ps ++ [(x, y)]) := by
  refine ⟨h.nd, fun p hp => ?_, h.few, ?_⟩
  · rcases List.mem_append.mp hp with hp | hp
    · exact h.mem p hp
    · have : p = (x, y) := by simpa using hp
      rw [this]
      exact ⟨hx, hy⟩
  · have := h.le
    rw [List.length_append, List.length_singleton]
    omega
section
variable {α : Type} [DecidableEq α]
noncomputable def okR (b : α → α → Bool) (r : List α) : Prop := (∀ u ∈ r, b u u = false) ∧ r.Pairwise fun u v => b v u = false
theorem less_perm {L : List α} (hn : L.Nodup) {x : α} (hx : x ∈ L) : (x :: lessF L x).Perm L := by
  induction L with
  | nil => cases hx
  | cons y ys ih =>
    obtain ⟨h1, h2⟩ := List.nodup_cons.mp hn
    by_cases e : y = x
    · subst e
      have : lessF (y :: ys) y = ys := by
        have e1 : lessF (y :: ys) y = lessF ys y := by unfold lessF; rw [List.filter_cons, if_neg (by simp)]
        rw [e1, lessF_no h1]
      rw [this]
    · have e1 : lessF (y :: ys) x = y :: lessF ys x := by unfold lessF; rw [List.filter_cons, if_pos (by simp [e])]
      rw [e1]
      exact (List.Perm.swap y x _).trans ((ih h2 ((List.mem_cons.mp hx).resolve_left fun q => e q.symm)).cons y)
theorem mem_ext (b : α → α → Bool) : ∀ (n : Nat) (L r : List α), L.Nodup → L.length = n → (r ∈ ext b n L ↔ r.Perm L ∧ okR b r)
  | 0, L, r, _, hl => by
    have := List.length_eq_zero_iff.mp hl
    subst this
    constructor
    · intro h
      have : r = [] := by simpa [ext] using h
      subst this
      exact ⟨.refl _, (fun _ h => by cases h), List.Pairwise.nil⟩
    · rintro ⟨h, _⟩
      have : r = [] := List.perm_nil.mp h
      subst this
      simp [ext]
  | n + 1, L, r, hn, hl => by
    constructor
    · intro h
      obtain ⟨x, hx, h⟩ := List.mem_flatMap.mp h
      obtain ⟨t, ht, rfl⟩ := List.mem_map.mp h
      have hxL := mem_frF.mp hx
      have hlen := lessF_len hn hxL.1
      obtain ⟨h1, h2, h3⟩ := (mem_ext b n (lessF L x) t (lessF_nodup hn x) (by omega)).mp ht
      refine ⟨(h1.cons x).trans (less_perm hn hxL.1), fun u hu => ?_, List.pairwise_cons.mpr ⟨fun v hv => hxL.2 v (mem_lessF.mp (h1.mem_iff.mp hv)).1, h3⟩⟩
      rcases List.mem_cons.mp hu with rfl | hu
      · exact hxL.2 u hxL.1
      · exact h2 u hu
    · rintro ⟨hp, hd, hpw⟩
      cases r with
      | nil =>
        have := hp.length_eq
        rw [hl] at this
        cases this
      | cons x t =>
        have hxL : x ∈ L := hp.mem_iff.mp (by simp)
        have hlen := lessF_len hn hxL
        have hpt : t.Perm (lessF L x) := List.Perm.cons_inv (hp.trans (less_perm hn hxL).symm)
        obtain ⟨q1, q2⟩ := List.pairwise_cons.mp hpw
        refine List.mem_flatMap.mpr ⟨x, mem_frF.mpr ⟨hxL, fun y hy => ?_⟩, List.mem_map.mpr ⟨t, (mem_ext b n (lessF L x) t (lessF_nodup hn x) (by omega)).mpr ⟨hpt, fun u hu => hd u (by simp [hu]), q2⟩, rfl⟩⟩
        by_cases e : y = x
        · rw [e]
          exact hd x (by simp)
        · exact q1 y (hpt.mem_iff.mpr (mem_lessF.mpr ⟨hy, e⟩))
theorem ext_nodup (b : α → α → Bool) : ∀ (n : Nat) (L : List α), L.Nodup → (ext b n L).Nodup
  | 0, L, _ => by simp [ext]
  | n + 1, L, hn => by
    show ((frF b L).flatMap fun x => (ext b n (lessF L x)).map (x :: ·)).Nodup
    have key : ∀ l : List α, l.Nodup → (l.flatMap fun x => (ext b n (lessF L x)).map (x :: ·)).Nodup := by
      intro l
      induction l with
      | nil => intro _; simp
      | cons y ys ih =>
        intro hl
        obtain ⟨h1, h2⟩ := List.nodup_cons.mp hl
        rw [List.flatMap_cons, List.nodup_append]
        refine ⟨?_, ih h2, ?_⟩
        · have hi := ext_nodup b n (lessF L y) (lessF_nodup hn y)
          exact List.pairwise_map.mpr (hi.imp fun hne e => hne (List.cons.inj e).2)
        · intro r hr t ht e
          obtain ⟨r', _, rfl⟩ := List.mem_map.mp hr
          obtain ⟨z, hz, ht⟩ := List.mem_flatMap.mp ht
          obtain ⟨t', _, rfl⟩ := List.mem_map.mp ht
          have : y = z := (List.cons.inj e).1
          exact h1 (this ▸ hz)
    exact key _ (frF_nodup hn)
theorem len_of_mem {β : Type} [DecidableEq β] {xs ys : List β} (h1 : xs.Nodup) (h2 : ys.Nodup) (h : ∀ z, z ∈ xs ↔ z ∈ ys) : xs.length = ys.length :=
  Nat.le_antisymm (nodup_le h1 fun z hz => (h z).mp hz) (nodup_le h2 fun z hz => (h z).mpr hz)
end
theorem idx_at : ∀ {r : List Str} {x : Str}, x ∈ r → r[r.idxOf x]? = some x ∧ (∀ m < r.idxOf x, r[m]? ≠ some x) ∧ r.idxOf x < r.length
  | [], _, h => by cases h
  | y :: ys, x, h => by
    rw [List.idxOf_cons]
    by_cases e : y = x
    · subst e
      simp
    · have hb : (y == x) = false := by simpa using e
      obtain ⟨h1, h2, h3⟩ := idx_at ((List.mem_cons.mp h).resolve_left fun q => e q.symm)
      rw [hb]
      refine ⟨h1, fun m hm => ?_, by simpa using h3⟩
      cases m with
      | zero => simpa using e
      | succ m => exact h2 m (by simpa using hm)
theorem ok_iff {ns r : List Str} {ps : List (Str × Str)} (hn : ns.Nodup) (hm : ∀ p ∈ ps, p.1 ∈ ns ∧ p.2 ∈ ns) (hp : r.Perm ns) : okR (wayB ps) r ↔ ∀ p ∈ ps, r.idxOf p.1 < r.idxOf p.2 := by
  have hrn : r.Nodup := hp.nodup_iff.mpr hn
  constructor
  · rintro ⟨h1, h2⟩ p hpp
    obtain ⟨m1, m2⟩ := hm p hpp
    obtain ⟨a1, _, a3⟩ := idx_at (hp.mem_iff.mpr m1)
    obtain ⟨b1, _, b3⟩ := idx_at (hp.mem_iff.mpr m2)
    have hw : wayB ps p.1 p.2 = true := wayB_iff.mpr (.one hpp)
    have a4 := (List.getElem?_eq_some_iff.mp a1).2
    have b4 := (List.getElem?_eq_some_iff.mp b1).2
    rcases Nat.lt_trichotomy (r.idxOf p.1) (r.idxOf p.2) with h | h | h
    · exact h
    · have e : p.1 = p.2 := by
        rw [h, b1] at a1
        exact (Option.some.inj a1).symm
      rw [e] at hw
      rw [h1 p.2 (hp.mem_iff.mpr m2)] at hw
      cases hw
    · have := List.pairwise_iff_getElem.mp h2 _ _ b3 a3 h
      rw [a4, b4] at this
      rw [this] at hw
      cases hw
  · intro h
    have hw : ∀ u v, Way ps u v → r.idxOf u < r.idxOf v := fun u v g => by
      induction g with
      | one e => exact h _ e
      | cons e _ ih => exact Nat.lt_trans (h _ e) ih
    refine ⟨fun u hu => ?_, List.pairwise_iff_getElem.mpr fun i j hi hj hij => ?_⟩
    · cases c : wayB ps u u with
      | false => rfl
      | true => exact absurd (hw u u (wayB_iff.mp c)) (Nat.lt_irrefl _)
    · cases c : wayB ps r[j] r[i] with
      | false => rfl
      | true =>
        have g := hw _ _ (wayB_iff.mp c)
        have ix : ∀ k (hk : k < r.length), r.idxOf r[k] = k := fun k hk => by
          obtain ⟨f1, _, f3⟩ := idx_at (List.getElem_mem hk)
          exact (List.getElem_inj hrn).mp (List.getElem?_eq_some_iff.mp f1).2
        rw [ix j hj, ix i hi] at g
        omega
theorem cnt_more {ns : List Str} {ps : List (Str × Str)} (h : HalfW ns ps) {x y : Str} (hx : x ∈ ns) (hy : y ∈ ns) : cnt (wayB (ps ++ [(x, y)])) ns = ((ext (wayB ps) ns.length ns).filter fun r => decide (r.idxOf x < r.idxOf y)).length := by
  refine len_of_mem (ext_nodup _ _ _ h.nd) (List.Nodup.sublist List.filter_sublist (ext_nodup _ _ _ h.nd)) fun r => ?_
  rw [List.mem_filter, mem_ext _ _ _ _ h.nd rfl, mem_ext _ _ _ _ h.nd rfl, decide_eq_true_iff]
  have key : ∀ hp : r.Perm ns, okR (wayB (ps ++ [(x, y)])) r ↔ okR (wayB ps) r ∧ r.idxOf x < r.idxOf y := fun hp => by
    rw [ok_iff h.nd (h.more hx hy).mem hp, ok_iff h.nd h.mem hp]
    constructor
    · intro g
      exact ⟨fun p hpp => g p (List.mem_append_left _ hpp), g (x, y) (by simp)⟩
    · rintro ⟨g1, g2⟩ p hpp
      rcases List.mem_append.mp hpp with hpp | hpp
      · exact g1 p hpp
      · have : p = (x, y) := by simpa using hpp
        rw [this]
        exact g2
  constructor
  · rintro ⟨hp, ho⟩
    exact ⟨⟨hp, ((key hp).mp ho).1⟩, ((key hp).mp ho).2⟩
  · rintro ⟨⟨hp, ho⟩, hi⟩
    exact ⟨hp, (key hp).mpr ⟨ho, hi⟩⟩
theorem cnt_two {ns : List Str} {ps : List (Str × Str)} (h : HalfW ns ps) {x y : Str} (hx : x ∈ ns) (hy : y ∈ ns) (hxy : x ≠ y) : cnt (wayB (ps ++ [(x, y)])) ns + cnt (wayB (ps ++ [(y, x)])) ns = cnt (wayB ps) ns := by
  rw [cnt_more h hx hy, cnt_more h hy hx]
  have key : ∀ l : List (List Str), (∀ r ∈ l, r.idxOf x ≠ r.idxOf y) → (l.filter fun r => decide (r.idxOf x < r.idxOf y)).length + (l.filter fun r => decide (r.idxOf y < r.idxOf x)).length = l.length := by
    intro l
    induction l with
    | nil => intro _; rfl
    | cons r rs ih =>
      intro g
      have g1 := g r (by simp)
      have g2 := ih fun t ht => g t (by simp [ht])
      rw [List.filter_cons, List.filter_cons, List.length_cons]
      rcases Nat.lt_or_gt_of_ne g1 with c | c
      · rw [if_pos (decide_eq_true c), if_neg (by rw [decide_eq_false (by omega)]; decide), List.length_cons]
        omega
      · rw [if_neg (by rw [decide_eq_false (by omega)]; decide), if_pos (decide_eq_true c), List.length_cons]
        omega
  refine key _ fun r hr e => hxy ?_
  obtain ⟨hp, _⟩ := (mem_ext _ _ _ _ h.nd rfl).mp hr
  obtain ⟨a1, _, _⟩ := idx_at (hp.mem_iff.mpr hx)
  obtain ⟨b1, _, _⟩ := idx_at (hp.mem_iff.mpr hy)
  rw [e, b1] at a1
  exact (Option.some.inj a1).symm
end L2
namespace L2
open PySem PySem.Spec PyProof.Rows
section
variable {prog : Program} {w : World} {A : Around} {E : Value → Shared → Prop} {I : Addr} {fp wr : List Addr} {n : Nat} {P : Nat → Value → Prop} {St : Nat → Heap → Prop}
end
end L2
set_option linter.all false
set_option maxHeartbeats 4000000
namespace L2
open PySem PySem.Spec PyProof.Rows
section
variable {α : Type} [DecidableEq α]
theorem cnt_perm {b : α → α → Bool} {L M : List α} (hn : L.Nodup) (hp : M.Perm L) : cnt b M = cnt b L := by
  have hm : M.Nodup := hp.nodup_iff.mpr hn
  unfold cnt
  refine len_of_mem (ext_nodup _ _ _ hm) (ext_nodup _ _ _ hn) fun r => ?_
  rw [mem_ext _ _ _ _ hm rfl, mem_ext _ _ _ _ hn rfl]
  constructor
  · rintro ⟨h1, h2⟩
    exact ⟨h1.trans hp, h2⟩
  · rintro ⟨h1, h2⟩
    exact ⟨h1.trans hp.symm, h2⟩
theorem frF_congr {b c : α → α → Bool} {L : List α} (h : ∀ x ∈ L, ∀ y ∈ L, b x y = c x y) : frF b L = frF c L := by
  unfold frF
  apply List.filter_congr
  intro x hx
  have : (L.any fun y => b y x) = L.any fun y => c y x := by
    rw [Bool.eq_iff_iff, List.any_eq_true, List.any_eq_true]
    constructor
    · rintro ⟨y, hy, e⟩
      exact ⟨y, hy, by rw [← h y hy x hx]; exact e⟩
    · rintro ⟨y, hy, e⟩
      exact ⟨y, hy, by rw [h y hy x hx]; exact e⟩
  rw [this]
theorem cnt_congr {b c : α → α → Bool} : ∀ (n : Nat) {L : List α}, L.length = n → L.Nodup → (∀ x ∈ L, ∀ y ∈ L, b x y = c x y) → cnt b L = cnt c L
  | 0, L, hl, _, _ => by
    have := List.length_eq_zero_iff.mp hl
    subst this
    rfl
  | n + 1, L, hl, hn, h => by
    have hne : L ≠ [] := by intro e; rw [e] at hl; cases hl
    rw [cnt_eq hn hne, cnt_eq hn hne, frF_congr h]
    apply sum_congr
    intro x hx
    have := lessF_len hn (mem_frF.mp hx).1
    exact cnt_congr n (by omega) (lessF_nodup hn x) fun u hu v hv => h u (mem_lessF.mp hu).1 v (mem_lessF.mp hv).1
theorem lessF_append (A B : List α) (x : α) : lessF (A ++ B) x = lessF A x ++ lessF B x := by unfold lessF; rw [List.filter_append]
theorem any_false {l : List α} {p : α → Bool} (h : ∀ x ∈ l, p x = false) : l.any p = false := by
  rw [Bool.eq_false_iff]
  intro e
  obtain ⟨x, hx, hp⟩ := List.any_eq_true.mp e
  rw [h x hx] at hp
  cases hp
theorem cnt_above {b : α → α → Bool} : ∀ (n : Nat) {A B : List α}, A.length = n → (A ++ B).Nodup → (∀ x ∈ A, ∀ y ∈ B, b x y = true ∧ b y x = false) → cnt b (A ++ B) = cnt b A * cnt b B
  | 0, A, B, hl, _, _ => by
    have := List.length_eq_zero_iff.mp hl
    subst this
    rw [List.nil_append, cnt_nil, Nat.one_mul]
  | n + 1, A, B, hl, hn, h => by
    obtain ⟨hA, hB, hAB⟩ := List.nodup_append.mp hn
    have hne : A ≠ [] := by intro e; rw [e] at hl; cases hl
    have hne2 : A ++ B ≠ [] := by simp [hne]
    have hfr : frF b (A ++ B) = frF b A := by
      unfold frF
      rw [List.filter_append]
      have e1 : (A.filter fun x => !((A ++ B).any fun y => b y x)) = A.filter fun x => !(A.any fun y => b y x) := by
        apply List.filter_congr
        intro x hx
        rw [List.any_append, any_false (l := B) fun y hy => (h x hx y hy).2, Bool.or_false]
      have e2 : (B.filter fun x => !((A ++ B).any fun y => b y x)) = [] := by
        rw [List.filter_eq_nil_iff]
        intro y hy
        cases A with
        | nil => exact absurd rfl hne
        | cons a A =>
          have : ((a :: A ++ B).any fun z => b z y) = true := List.any_eq_true.mpr ⟨a, by simp, (h a (by simp) y hy).1⟩
          rw [this]
          decide
      rw [e1, e2, List.append_nil]
    rw [cnt_eq hn hne2, hfr, cnt_eq hA hne, ← sum_mulR]
    apply sum_congr
    intro x hx
    have hxA := (mem_frF.mp hx).1
    have hxB : x ∉ B := fun hb => hAB x hxA x hb rfl
    have hlen := lessF_len hA hxA
    rw [lessF_append, lessF_no hxB]
    refine cnt_above n (by omega) ?_ fun u hu v hv => h u (mem_lessF.mp hu).1 v hv
    rw [List.nodup_append]
    exact ⟨lessF_nodup hA x, hB, fun u hu v hv => hAB u (mem_lessF.mp hu).1 v hv⟩
end
end L2
set_option Elab.async false
set_option linter.all false
set_option maxRecDepth 100000
set_option maxHeartbeats 4000000
namespace L2
open PySem PySem.Spec PyProof.Rows
section
variable {prog : Program} {w : World} {A : Around} {E : Value → Shared → Prop} {s : Shared}
end
end L2
namespace L2
open PySem PySem.Spec PyProof.Rows
end L2
namespace L2
open PySem PySem.Spec PyProof.Rows
section
variable {κ : Type} [DecidableEq κ]
end
end L2
set_option linter.all false
set_option maxHeartbeats 4000000
set_option maxRecDepth 100000
namespace L2
open PySem PySem.Spec PyProof.Rows
theorem cnt_pos {α : Type} [DecidableEq α] {b : α → α → Bool} (irr : ∀ x, b x x = false) (tr : ∀ x y z, b x y = true → b y z = true → b x z = true) : ∀ (n : Nat) (L : List α), L.length = n → L.Nodup → 0 < cnt b L
  | 0, L, hl, _ => by
    have := List.length_eq_zero_iff.mp hl
    subst this
    exact Nat.zero_lt_one
  | n + 1, L, hl, hn => by
    have hne : L ≠ [] := by intro e; rw [e] at hl; cases hl
    rw [cnt_eq hn hne]
    cases hf : frF b L with
    | nil => exact absurd hf (frF_ne irr tr hne)
    | cons x t =>
      have hx : x ∈ frF b L := by rw [hf]; simp
      have := lessF_len hn (mem_frF.mp hx).1
      have := cnt_pos irr tr n (lessF L x) (by omega) (lessF_nodup hn x)
      rw [List.map_cons, List.sum_cons]
      omega
theorem ext_le {α : Type} [DecidableEq α] {b : α → α → Bool} (irr : ∀ x, b x x = false) (tr : ∀ x y z, b x y = true → b y z = true → b x z = true) : ∀ (i : Nat) (L : List α), L.Nodup → i ≤ L.length → (ext b i L).length ≤ cnt b L
  | 0, L, hn, _ => cnt_pos irr tr _ L rfl hn
  | i + 1, L, hn, hi => by
    have hne : L ≠ [] := by intro e; rw [e] at hi; simp at hi
    rw [cnt_eq hn hne]
    have e : (ext b (i + 1) L).length = ((frF b L).map fun x => (ext b i (lessF L x)).length).sum := by
      show ((frF b L).flatMap fun x => (ext b i (lessF L x)).map (x :: ·)).length = _
      rw [List.length_flatMap]
      congr 1
      apply List.map_congr_left
      intro x _
      rw [List.length_map]
    rw [e]
    apply sum_le
    intro x hx
    have := lessF_len hn (mem_frF.mp hx).1
    exact ext_le irr tr i (lessF L x) (lessF_nodup hn x) (by omega)
theorem grow_ext0 {α : Type} [DecidableEq α] (b : α → α → Bool) (ns : List α) (k : Nat) : growN b ns k [[]] = ext b k ns := by
  rw [grow_ext, leftF_nil]
  simp
theorem grow_le {α : Type} [DecidableEq α] {b : α → α → Bool} (irr : ∀ x, b x x = false) (tr : ∀ x y z, b x y = true → b y z = true → b x z = true) {ns : List α} (hn : ns.Nodup) {i : Nat} (hi : i ≤ ns.length) : (growN b ns i [[]]).length ≤ cnt b ns := by
  rw [grow_ext0]
  exact ext_le irr tr i ns hn hi
theorem growF_take_le {α : Type} [DecidableEq α] (b : α → α → Bool) (ns : List α) (rows : List (List α)) (j : Nat) : (growF b ns (rows.take j)).length ≤ (growF b ns rows).length := by
  have : growF b ns rows = growF b ns (rows.take j) ++ growF b ns (rows.drop j) := by
    unfold growF
    rw [← List.flatMap_append, List.take_append_drop]
  rw [this, List.length_append]
  omega
end L2
set_option Elab.async false
set_option linter.all false
set_option maxRecDepth 100000
set_option maxHeartbeats 4000000
namespace L2
open PySem PySem.Spec PyProof.Rows
section
variable {α : Type} [DecidableEq α]
end
section
variable {X : Cx}
end
theorem way_one {ps : List (Str × Str)} {x y a b : Str} (g : Way (ps ++ [(x, y)]) a b) : Way ps a b ∨ ((a = x ∨ Way ps a x) ∧ (y = b ∨ Way ps y b)) := by
  induction g with
  | one e =>
    rcases List.mem_append.mp e with e | e
    · exact .inl (.one e)
    · have e := List.mem_singleton.mp e
      cases e
      exact .inr ⟨.inl rfl, .inl rfl⟩
  | cons e _ ih =>
    rcases List.mem_append.mp e with e' | e'
    · rcases ih with ih | ⟨h1, h2⟩
      · exact .inl (.cons e' ih)
      · refine .inr ⟨.inr ?_, h2⟩
        rcases h1 with h1 | h1
        · exact .one (h1 ▸ e')
        · exact .cons e' h1
    · have e2 := List.mem_singleton.mp e'
      cases e2
      rcases ih with ih | ⟨_, h2⟩
      · exact .inr ⟨.inl rfl, .inr ih⟩
      · exact .inr ⟨.inl rfl, h2⟩
end L2
set_option Elab.async false
set_option linter.all false
set_option maxRecDepth 100000
set_option maxHeartbeats 4000000
namespace L2
open PySem PySem.Spec PyProof.Rows
section
variable {X : Cx} {K : PySem.W.Frag}
end
section
variable {K : PySem.W.Frag} {σ : St} {H : Hp}
end
end L2
set_option Elab.async false
set_option linter.all false
set_option maxRecDepth 100000
set_option maxHeartbeats 4000000
namespace L2
open PySem PySem.W PyProof.Rows
section
variable {n : Nat} {r : Nat → Nat}
end
section
variable {prog : Program} {w : World} {A : Around} {E : Value → Shared → Prop} {z : Shared}
end
section
variable {prog : Program} {w : World} {A : Around} {E : Value → Shared → Prop} {z : Shared}
end
section
variable {X : Cx} {K : PySem.W.Frag}
end
end L2
set_option Elab.async false
set_option linter.all false
set_option maxRecDepth 100000
set_option maxHeartbeats 4000000
namespace L2
open PySem PySem.Spec PyProof.Rows
theorem unP_ne {ns : List Str} {ps : List (Str × Str)} (hn : ns.Nodup) {p : Str × Str} (h : p ∈ unP ns ps) : p.1 ≠ p.2 := by
  unfold unP unK at h
  rw [List.mem_flatMap] at h
  obtain ⟨i, hi, h⟩ := h
  have hi' := List.mem_range.mp hi
  unfold unR at h
  obtain ⟨y, hy, rfl⟩ := List.mem_map.mp h
  have hy1 := (List.mem_filter.mp hy).1
  intro (e : ns.getD i "" = y)
  have e1 : ns.getD i "" = ns[i] := by simp [hi']
  have h3 : (ns.drop i).Nodup := hn.sublist (List.drop_sublist _ _)
  rw [List.drop_eq_getElem_cons hi'] at h3
  exact (List.nodup_cons.mp h3).1 (by rw [← e1, e]; exact hy1)
theorem eqv_strsL (xs ys : List Str) : PyData.eqvAll (xs.map PyData.str) (ys.map PyData.str) = decide (xs = ys) := by
  induction xs generalizing ys with
  | nil => cases ys <;> simp [PyData.eqvAll]
  | cons x xs ih =>
    cases ys with
    | nil => simp [PyData.eqvAll]
    | cons y ys =>
      simp only [List.map_cons, PyData.eqvAll, ih, PyData.eqv]
      by_cases c : x = y
      · subst c; simp
      · simp [c]
end L2
set_option Elab.async false
set_option linter.all false
set_option maxRecDepth 100000
set_option maxHeartbeats 4000000
namespace L2
open PySem PySem.Spec PyProof.Rows
section
variable {κ : Type} [DecidableEq κ] {P : Program} {w : World} {kd : KeyKind P w κ} {A : Around} {E : Value → Shared → Prop} {z : Shared}
end
section
variable {X : Cx} {K : PySem.W.Frag}
end
end L2
set_option Elab.async false
set_option linter.all false
set_option maxRecDepth 100000
set_option maxHeartbeats 4000000
namespace L2
open PySem PySem.Spec PyProof.Rows
section
variable {P : Program} {w : World} {A : Around} {E : Value → Shared → Prop} {z : Shared}
end
end L2
set_option Elab.async false
set_option linter.all false
set_option maxRecDepth 100000
set_option maxHeartbeats 4000000
namespace L2
open PySem PySem.Spec PyProof.Rows
section
variable {P : Program} {w : World} {A : Around} {E : Value → Shared → Prop} {z : Shared}
end
end L2
set_option Elab.async false
set_option linter.all false
set_option maxRecDepth 100000
set_option maxHeartbeats 4000000
namespace L2
open PySem PySem.Spec PyProof.Rows
section
variable {P : Program} {w : World} {A : Around} {E : Value → Shared → Prop} {z : Shared} {c TI TO i1 i2 D : Addr} {fp1 fp2 : List Addr} {n : Nat} {P1 P2 : Nat → Value → Prop} {S1 S2 : Nat → Heap → Prop}
end
section
variable {P : Program} {w : World} {κ : Type} [DecidableEq κ] {kd : KeyKind P w κ} {A : Around} {E : Value → Shared → Prop} {c TI TO i1 i2 D : Addr} {fp1 fp2 : List Addr} {n : Nat} {P1 P2 : Nat → Value → Prop} {S1 S2 : Nat → Heap → Prop}
end
end L2
set_option Elab.async false
set_option linter.all false
set_option maxRecDepth 100000
set_option maxHeartbeats 4000000
namespace L2
open PySem PySem.Spec PyProof.Rows
section
variable {P : Program} {w : World} {A : Around} {E : Value → Shared → Prop} {z : Shared}
end
end L2
set_option Elab.async false
set_option linter.all false
set_option maxRecDepth 100000
set_option maxHeartbeats 4000000
namespace L2
open PySem PySem.Spec PyProof.Rows
section
variable {X : Cx} {K : PySem.W.Frag}
end
section
variable {K : PySem.W.Frag} {H : Hp} {Q : VK}
end
end L2
set_option Elab.async false
set_option linter.all false
set_option maxRecDepth 100000
set_option maxHeartbeats 4000000
namespace L2
open PySem PySem.Spec PyProof.Rows
section
variable {K : PySem.W.Frag} {H : Hp} {Q : VK}
theorem eqv_nm (xs ys : List Str) : PyData.eqv (nmD xs) (nmD ys) = decide (xs = ys) := by simp only [nmD, PyData.eqv, eqv_strsL]
end
end L2
set_option Elab.async false
set_option linter.all false
set_option maxRecDepth 100000
set_option maxHeartbeats 4000000
namespace L2
open PySem PySem.Spec PyProof.Rows
section
variable {ns ns' : List Str} {ps ps' bs : List (Str × Str)}
end
end L2
namespace L2
open PySem PySem.Spec PyProof.Rows
end L2
set_option Elab.async false
set_option linter.all false
set_option maxRecDepth 100000
set_option maxHeartbeats 4000000
namespace L2
open PySem PySem.Spec PyProof.Rows
section
variable {ns : List Str} {ps : List (Str × Str)}
end
end L2
set_option Elab.async false
set_option linter.all false
set_option maxRecDepth 100000
set_option maxHeartbeats 4000000
namespace L2
open PySem PySem.Spec PyProof.Rows
section
variable {P : Program} {w : World} {A : Around} {E : Value → Shared → Prop} {z : Shared}
end
section
variable {X : Cx} {K : PySem.W.Frag}
end
end L2
set_option Elab.async false
set_option linter.all false
set_option maxRecDepth 100000
set_option maxHeartbeats 4000000
namespace L2
open PySem PySem.Spec PyProof.Rows
section
variable {α : Type} [DecidableEq α] {b : α → α → Bool} {L : List α}
end
end L2
set_option Elab.async false
set_option linter.all false
set_option maxRecDepth 100000
set_option maxHeartbeats 4000000
namespace L2
open PySem PySem.Spec PyProof.Rows
end L2
set_option Elab.async false
set_option linter.all false
set_option maxRecDepth 100000
set_option maxHeartbeats 4000000
namespace L2
open PySem PySem.Spec PyProof.Rows
end L2
set_option Elab.async false
set_option linter.all false
set_option maxRecDepth 100000
set_option maxHeartbeats 4000000
namespace L2
open PySem PySem.Spec PyProof.Rows
noncomputable def rReprI : List V → Hp → VK → Prop := fun xs H Q => ∃ i : Int, xs = [.int i] ∧ i.natAbs.log2 < 1920 ∧ Q (.str (toString i)) H
theorem call_reprI {X : Cx} : CallR X (.builtin "repr") rReprI := by
  intro pins s σ H xs us Q I r h
  obtain ⟨i, rfl, hz, q⟩ := h
  obtain ⟨u, rfl, t, rfl⟩ := vals1 r
  exact PySem.P.repr_of_int hz ⟨.str _, H, I.tok _, ⟨_, rfl⟩, q⟩
end L2
set_option Elab.async false
set_option linter.all false
set_option maxRecDepth 100000
set_option maxHeartbeats 4000000
namespace L2
open PySem PySem.Spec PyProof.Rows
section
variable {prog : Program} {w : World} {A : Around} {E : Value → Shared → Prop} {h : Heap} {g : Array GenState} {d : Drawn} {t : Nat} {os : OsState} {K : PySem.W.Frag} {C fI : Addr} {rest : List Value}
end
end L2
set_option Elab.async false
set_option linter.all false
set_option maxRecDepth 100000
set_option maxHeartbeats 4000000
namespace L2
open PySem PySem.Spec PyProof.Rows Builtin Builtin.ObjectAttr
section
variable {prog : Program} {w : World} {A : Around} {E : Value → Shared → Prop} {s : Shared} {K : PySem.W.Frag} {C x : Addr} {name : Str} {v : Value}
end
end L2
set_option Elab.async false
set_option linter.all false
set_option maxRecDepth 100000
set_option maxHeartbeats 4000000
namespace L2
open PySem PySem.Spec PyProof.Rows
section
variable {P : Program} {w : World} {H : Hp} {h : Heap} {a C dx : Addr} {od : Option Addr} {fs : List (Str × V)}
end
section
variable {K : PySem.W.Frag} {C B D : Addr}
end
section
variable {X : Cx} {pins : List (Addr × Obj)} {σ : St} {H : Hp} {s : Shared} {a C dx : Addr} {fs : List (Str × V)} {f : Str} {v : V} {A : Around} {E : Value → Shared → Prop}
end
section
variable {X : Cx} {o e value : Expr} {f : Str} {pos pos' tpos : Pos} {ta tv : TE}
end
end L2
set_option Elab.async false
set_option linter.all false
set_option maxRecDepth 100000
set_option maxHeartbeats 4000000
namespace L2
open PySem PySem.Spec PyProof.Rows
section
variable {X : Cx} {k : Nat} {f C : Addr} {fd : FuncData} {ps : List Str} {sp : Sp} {x : Str} {p pos : Pos} {e : Expr} {es : List Expr} {t : TA} {pins : List (Addr × Obj)} {σ : St} {H : Hp} {s : Shared} {Q : VK} {us : List Value} {vs : List V}
end
end L2
set_option Elab.async false
set_option linter.all false
set_option maxRecDepth 100000
set_option maxHeartbeats 4000000
namespace L2
open PySem PySem.Spec PyProof.Rows
section
variable {X : Cx} {K : PySem.W.Frag} {o e value : Expr} {f : Str} {pos pos' : Pos} {ta tv : TE}
end
section
variable {K : PySem.W.Frag} {σ : St} {H : Hp} {Q : VK} {D : Ends} {f : Str} {ta tv : TE} {t : TA} {sp : Sp} {C a dx B G : Addr} {fs : List (Str × V)} {v y : V} {R : Hp → Prop} {vs : List V}
end
end L2
set_option Elab.async false
set_option linter.all false
set_option maxRecDepth 100000
set_option maxHeartbeats 4000000
namespace L2
open PySem PySem.Spec PyProof.Rows
section
variable {M : Model} {A : Around} {E : Value → Shared → Prop} {s : Shared} {base : Heap} {env : Env} {outer : List Env} {L a : Addr} {oe : Obj} {vs : Array Value} {Q : Unit → Shared → Prop}
end
end L2
set_option Elab.async false
set_option linter.all false
set_option maxRecDepth 100000
set_option maxHeartbeats 4000000
namespace L2
open PySem PySem.Spec PyProof.Rows
section
variable {P : Program} {w : World} {fs : List Addr} {a C : Addr} {od : Option Addr} {oe : Obj} {old : List Addr} {h h' : Heap} {H : Hp} {n : Bool}
end
section
variable {P : Program} {w : World} {K : PySem.W.Frag} {mg : Str → Option Value} {base : Heap} {N : List Str} {qual : Str} {scope : Scope} {f : Addr} {cd : Value} {A : Around} {outer : List Env} {s₀ : Shared} {H₀ : Hp} {E : XK}
end
end L2
set_option Elab.async false
set_option linter.all false
set_option maxRecDepth 100000
set_option maxHeartbeats 4000000
namespace L2
open PySem PySem.Spec PyProof.Rows
section
variable {X : Cx} {pins : List (Addr × Obj)} {σ : St} {H : Hp} {s : Shared}
end
section
variable {M : Model} {A : Around} {E : Value → Shared → Prop} {s : Shared} {K : PySem.W.Frag} {C B a : Addr} {oe : Obj} {Q : Bool → Shared → Prop}
end
end L2
set_option Elab.async false
set_option linter.all false
set_option maxRecDepth 100000
set_option maxHeartbeats 4000000
namespace L2
open PySem PySem.Spec PyProof.Rows
section
variable {X : Cx} {pins : List (Addr × Obj)}
end
end L2
set_option Elab.async false
set_option linter.all false
set_option maxRecDepth 100000
set_option maxHeartbeats 4000000
namespace L2
open PySem PySem.Spec PyProof.Rows
section
variable {X : Cx} {k : Nat} {x : Str} {ps : List Str} {sp : Sp} {e : Expr} {es : List Expr} {t : TA} {p pos : Pos} {E : XK}
end
section
variable {P : Program} {w : World} {K : PySem.W.Frag} {mg : Str → Option Value} {base : Heap}
end
section
variable {K : PySem.W.Frag} {σ : St} {H H0 : Hp} {D : Ends} {t : TE} {C a : Addr} {fs : List (Str × V)} {E : XK}
end
end L2
set_option Elab.async false
set_option linter.all false
set_option maxRecDepth 100000
set_option maxHeartbeats 4000000
namespace L2
section
open Lean
def mWay (s : String) : MacroM (TSyntax `tactic) :=
  if s == "as" then `(tactic| assumption) else if s == "ar" then `(tactic| with_reducible assumption) else `(tactic| walk_at $(quote s))
def mFirst (ts : Array (TSyntax `tactic)) : MacroM (TSyntax `tactic) := do
  let ts ← ts.mapM fun t => `(Lean.Parser.Tactic.tacticSeq| $t:tactic)
  `(tactic| first $[| $ts]*)
def mId (s : String) : Ident := mkIdent ((s.splitOn ".").foldl Name.mkStr Name.anonymous)
def mIs (s : String) : MacroM Ident := do return mkIdent (← Macro.addMacroScope (.mkSimple s))
def mCases : List String → TSyntax `tactic → MacroM (TSyntax `tactic)
  | [], t => pure t
  | s :: r, t => do
    match s.splitOn "=" with
    | [x, y] => let w ← mWay y; let i ← mIs x; mCases r (← `(tactic| ($t:tactic; (case $i:ident => $w:tactic))))
    | _ => mCases r t
def mRow (s : String) : MacroM (TSyntax `tactic) := do
  match s.splitOn ": " with
  | [h, c] =>
    match h.splitOn " " with
    | f :: as =>
      let xs ← as.toArray.mapM fun a => do if a == "_" then `(?_) else `(?$(← mIs a))
      let u := Syntax.mkApp (mId f) xs
      let t ← if as.contains "_" then `(tactic| with_reducible refine' $u) else `(tactic| refine' $u)
      mCases (c.splitOn " ") t
    | _ => Macro.throwUnsupported
  | _ => do
    if s == "as" then `(tactic| assumption)
    else if s == "no" then `(tactic| fail "no")
    else `(tactic| exact $(mId s))
def mRows (s : String) : MacroM (TSyntax `tactic) := do mFirst (← (s.splitOn " | ").toArray.mapM mRow)
def mAlts (s : String) : MacroM (TSyntax `tactic) := do
  let a ← mFirst (← (s.splitOn " ").toArray.mapM fun n => `(tactic| refine $(mId n) ?_))
  `(tactic| with_reducible $a:tactic)
def mAltG (s : String) : MacroM (TSyntax `tactic) := do
  let a ← mFirst (← (s.splitOn " ").toArray.mapM fun n => `(tactic| refine $(mId n) fun N hN => ?_))
  `(tactic| with_reducible $a:tactic)
end
section
open PySem
theorem same_refl {H : Hp} : Same H H := Same.refl _
theorem fz_refl {H : Hp} : Fz H H := Fz.refl _
theorem ne_none2 {H : Hp} {a b : PySem.Addr} {o : HO} (h : H a = some o) (g : H b = none) : b ≠ a := Ne.symm (ne_of_none h g)
noncomputable def Cut (N M : St → Hp → Prop) : Prop := ∀ σ H, M σ H → N σ H
section
variable {t u : TS} {te td ty tv : TE} {g : TG} {D : Ends} {σ : St} {H : Hp}
theorem i_seqG (k : ∀ N : St → Hp → Prop, Cut N (u D) → t { D with nx := N } σ H) : tSeq t u D σ H := k (u D) fun _ _ h => h
theorem i_seqAG (k : ∀ N : St → Hp → Prop, Cut N (u D) → tAsg te g { D with nx := N } σ H) : tSeq (tAsg te g) u D σ H := k (u D) fun _ _ h => h
theorem i_cutN {N M : St → Hp → Prop} (h : Cut N M) (k : M σ H) : N σ H := h _ _ k
end
theorem len_n0 {α : Type} {P : List α → Prop} {us : List α} (hl : us.length = 0) (h : P []) : P us := by
  rw [List.length_eq_zero_iff.mp hl]; exact h
theorem len_n1 {α : Type} {P : List α → Prop} {us : List α} (hl : us.length = 1) (h : ∀ a0 : α, P [a0]) : P us := by
  cases us with
  | nil => cases hl
  | cons a r => exact len_n0 (P := fun r => P (a :: r)) (Nat.succ.inj hl) (h a)
theorem len_n2 {α : Type} {P : List α → Prop} {us : List α} (hl : us.length = 2) (h : ∀ a0 a1 : α, P [a0, a1]) : P us := by
  cases us with
  | nil => cases hl
  | cons a r => exact len_n1 (P := fun r => P (a :: r)) (Nat.succ.inj hl) (h a)
theorem len_n3 {α : Type} {P : List α → Prop} {us : List α} (hl : us.length = 3) (h : ∀ a0 a1 a2 : α, P [a0, a1, a2]) : P us := by
  cases us with
  | nil => cases hl
  | cons a r => exact len_n2 (P := fun r => P (a :: r)) (Nat.succ.inj hl) (h a)
end
end L2
set_option Elab.async false
set_option linter.all false
set_option maxRecDepth 100000
set_option maxHeartbeats 4000000
namespace L2
open PySem PySem.Spec PyProof.Rows
section
variable {K : PySem.W.Frag} {x qual : Str} {st : Stmt} {f : Addr} {fd : FuncData}
theorem binds1 {p0 : Str} (F : Fun K x qual st f fd) (h : ∀ (kV doc pm : Value) (an : Option Addr) (cdv ct : Value) (u0 : Value), bindArgs (PySem.W.fnOf x qual (defArgs st) (defBody st) (defScope st) .none kV doc pm an cdv ct) ⟨[u0], []⟩ = pure (([p0] : List Str).zip [u0])) : Binds K fd [p0] [] :=
  F.binds fun kV doc pm an cdv ct us hl => len_n1 (P := fun us => bindArgs (PySem.W.fnOf x qual (defArgs st) (defBody st) (defScope st) .none kV doc pm an cdv ct) ⟨us, []⟩ = pure (([p0] : List Str).zip us)) hl (h kV doc pm an cdv ct)
theorem binds2 {p0 p1 : Str} (F : Fun K x qual st f fd) (h : ∀ (kV doc pm : Value) (an : Option Addr) (cdv ct : Value) (u0 u1 : Value), bindArgs (PySem.W.fnOf x qual (defArgs st) (defBody st) (defScope st) .none kV doc pm an cdv ct) ⟨[u0, u1], []⟩ = pure (([p0, p1] : List Str).zip [u0, u1])) : Binds K fd [p0, p1] [] :=
  F.binds fun kV doc pm an cdv ct us hl => len_n2 (P := fun us => bindArgs (PySem.W.fnOf x qual (defArgs st) (defBody st) (defScope st) .none kV doc pm an cdv ct) ⟨us, []⟩ = pure (([p0, p1] : List Str).zip us)) hl (h kV doc pm an cdv ct)
theorem binds3 {p0 p1 p2 : Str} (F : Fun K x qual st f fd) (h : ∀ (kV doc pm : Value) (an : Option Addr) (cdv ct : Value) (u0 u1 u2 : Value), bindArgs (PySem.W.fnOf x qual (defArgs st) (defBody st) (defScope st) .none kV doc pm an cdv ct) ⟨[u0, u1, u2], []⟩ = pure (([p0, p1, p2] : List Str).zip [u0, u1, u2])) : Binds K fd [p0, p1, p2] [] :=
  F.binds fun kV doc pm an cdv ct us hl => len_n3 (P := fun us => bindArgs (PySem.W.fnOf x qual (defArgs st) (defBody st) (defScope st) .none kV doc pm an cdv ct) ⟨us, []⟩ = pure (([p0, p1, p2] : List Str).zip us)) hl (h kV doc pm an cdv ct)
end
end L2
set_option Elab.async false
set_option linter.all false
set_option maxRecDepth 100000
set_option maxHeartbeats 4000000
namespace L2
open PySem PySem.Spec PyProof.Rows
noncomputable def rNeL0 (K : PySem.W.Frag) : R2 := fun x y H Q => ∃ a b xs, x = .ref a ∧ y = .ref b ∧ SqL K H a xs ∧ SqL K H b [] ∧ Q (.bl (!xs.isEmpty)) H
theorem op_neL0 {X : Cx} {K : PySem.W.Frag} (hq : QA X.A) (hK : X.K = K := by with_unfolding_all rfl) : OpR X (compareOp .NotEq) (rNeL0 K) := by
  subst hK
  intro pins s σ H x y v u Q I rx ry h
  obtain ⟨a, b, xs, rfl, rfl, ha, hb, q⟩ := h
  cases rx
  cases ry
  obtain ⟨its, rv, la, _⟩ := I.list ha
  obtain ⟨its2, rv2, lb, _⟩ := I.list hb
  cases rv2
  have hu : X.A.units < cLine := by have := hq.un; omega
  have la' : s.heap.IsList a its.toArray := let ⟨o, n, e1, e2, e3, e4⟩ := la; ⟨o, e1, e2, _, e4⟩
  have lb' : s.heap.IsList b ([] : List Value).toArray := let ⟨o, n, e1, e2, e3, e4⟩ := lb; ⟨o, e1, e2, _, e4⟩
  cases xs with
  | nil =>
    cases rv
    have r := SeqAt.RcNeAt.lists (A := X.A) (s := s) (e := fun _ => true) la' lb' rfl hu (fun j h1 => absurd h1 (by simp))
    exact r _ _ _ _ ⟨.bl _, H, I, rfl, q⟩
  | cons x r =>
    cases rv with
    | cons r1 r2 =>
      have r := SeqAt.RcNeAt.lists_lengths (A := X.A) (s := s) la' lb' (by simp) hu
      exact r _ _ _ _ ⟨.bl _, H, I, rfl, q⟩
theorem i_neL0 {K : PySem.W.Frag} {H : Hp} {Q : VK} {a b : Addr} {xs : List V} (h : SqL K H a xs) (h' : SqL K H b []) (k : Q (.bl (!xs.isEmpty)) H) : rNeL0 K (.ref a) (.ref b) H Q := ⟨a, b, xs, rfl, rfl, h, h', k⟩
end L2
set_option Elab.async false
set_option linter.all false
set_option maxRecDepth 100000
set_option maxHeartbeats 4000000
namespace L2
open PySem PySem.Spec PyProof.Rows
section
open PySem.SeqAt PySem.MeetsSeq
variable {A : Around} {s : Shared}
end
end L2
set_option Elab.async false
set_option linter.all false
set_option maxRecDepth 100000
set_option maxHeartbeats 4000000
namespace L2
open PySem PySem.Spec PyProof.Rows
section
variable {prog : Program} {w : World} {A : Around} {E : Value → Shared → Prop} {s : Shared}
set_option maxRecDepth 100000 in
end
section
variable {X : Cx} {pos p2 : Pos}
end
end L2
set_option Elab.async false
set_option linter.all false
set_option maxRecDepth 100000
set_option maxHeartbeats 4000000
namespace L2
open PySem PySem.Spec PyProof.Rows
section
variable {P : Program} {w : World} {A : Around} {E : Value → Shared → Prop} {z : Shared}
end
section
variable {X : Cx} {K : PySem.W.Frag}
end
section
variable {K : PySem.W.Frag} {H : Hp} {Q : VK}
end
end L2
set_option Elab.async false
set_option linter.all false
set_option maxRecDepth 100000
set_option maxHeartbeats 4000000
namespace L2
open PySem PySem.Spec PyProof.Rows
section
variable {X : Cx} {pins : List (Addr × Obj)} {σ : St} {H : Hp} {s : Shared}
end
end L2
set_option Elab.async false
set_option linter.all false
set_option maxRecDepth 100000
set_option maxHeartbeats 4000000
namespace L2
open PySem PySem.Spec PyProof.Rows
end L2
set_option linter.all false
set_option maxRecDepth 100000
namespace L2
open PySem PySem.Spec PyProof.Rows
mutual
def ascD : PyData → Bool
  | .str z => z.cps.toList.all fun c => decide (c < 128)
  | .list ds => ascL ds
  | .tuple ds => ascL ds
  | .dict _ => false
  | _ => true
def ascL : List PyData → Bool
  | [] => true
  | d :: ds => ascD d && ascL ds
end
mutual
def widD : PyData → Nat
  | .list ds => max ds.length (widL ds)
  | .tuple ds => max ds.length (widL ds)
  | _ => 0
def widL : List PyData → Nat
  | [] => 0
  | d :: ds => max (widD d) (widL ds)
end
structure Dk (p w W : Nat) (D : PyData) : Prop where
  asc : ascD D = true
  lay : D.canLay0 = true
  sh : D.showable = true
  lv : D.leavesShort 45 = true
  dp : D.depth ≤ p
  wt : D.weight ≤ w
  wd : widD D ≤ W
structure Els (p w W : Nat) (ds : List PyData) : Prop where
  all : ∀ e ∈ ds, ∃ u, Dk p u W e
  wt : PyData.weightAll ds ≤ w
  len : ds.length ≤ W
theorem Dk.le {p w W p' w' W' : Nat} {D : PyData} (h : Dk p w W D) (h1 : p ≤ p') (h2 : w ≤ w') (h3 : W ≤ W' := by omega) : Dk p' w' W' D := ⟨h.asc, h.lay, h.sh, h.lv, Nat.le_trans h.dp h1, Nat.le_trans h.wt h2, Nat.le_trans h.wd h3⟩
theorem els_all {p W : Nat} : ∀ {ds : List PyData}, (∀ e ∈ ds, ∃ u, Dk p u W e) → ascL ds = true ∧ PyData.canLayAll0 ds = true ∧ PyData.showableAll ds = true ∧ PyData.leavesShortAll 45 ds = true ∧ PyData.depthAll ds ≤ p ∧ widL ds ≤ W
  | [], _ => ⟨by simp only [ascL], by simp only [PyData.canLayAll0], by simp only [PyData.showableAll], by simp only [PyData.leavesShortAll], by simp only [PyData.depthAll]; omega, by simp only [widL]; omega⟩
  | d :: ds, h => by
    obtain ⟨u, a⟩ := h d (by simp)
    obtain ⟨b0, b1, b2, b3, b4, b5⟩ := els_all (ds := ds) fun e he => h e (by simp [he])
    have := a.dp
    have := a.wd
    exact ⟨by simp only [ascL, a.asc, b0, Bool.and_self], by simp only [PyData.canLayAll0, a.lay, b1, Bool.and_self], by simp only [PyData.showableAll, a.sh, b2, Bool.and_self], by simp only [PyData.leavesShortAll, a.lv, b3, Bool.and_self], by simp only [PyData.depthAll]; omega, by simp only [widL]; omega⟩
theorem dk_tup {p w W : Nat} {ds : List PyData} (h : Els p w W ds) : Dk (p + 1) w W (.tuple ds) := by
  obtain ⟨a0, a1, a2, a3, a4, a5⟩ := els_all h.all
  have := h.len
  exact ⟨by simpa only [ascD] using a0, by simpa only [PyData.canLay0] using a1, by simpa only [PyData.showable] using a2, by simpa only [PyData.leavesShort] using a3, by simp only [PyData.depth]; omega, by simpa only [PyData.weight] using h.wt, by simp only [widD]; omega⟩
noncomputable def Asc (z : Str) : Prop := ∀ c ∈ z.cps.toList, c < 128
theorem Asc.ok {z : Str} (h : Asc z) : PyData.strOk z = true := by
  unfold PyData.strOk
  rw [← Array.all_toList, List.all_eq_true]
  intro c hc
  have := h c hc
  exact decide_eq_true (by omega)
theorem dk_str {p w W : Nat} {z : Str} (h : Asc z) (hl : z.length ≤ w) : Dk p w W (.str z) := by
  refine ⟨?_, by simpa only [PyData.canLay0] using h.ok, by simp only [PyData.showable], ?_, by simp only [PyData.depth]; omega, by simp only [PyData.weight]; exact hl, by simp only [widD]; omega⟩
  · simp only [ascD]
    rw [List.all_eq_true]
    exact fun c hc => decide_eq_true (h c hc)
  · simp only [PyData.leavesShort]
    rw [List.all_eq_true]
    intro c hc
    have := h c hc
    exact decide_eq_true (by omega)
end L2
set_option linter.all false
set_option maxRecDepth 100000
namespace L2
open PySem PySem.Spec PyProof.Rows
section
variable {X : Cx} {K : PySem.W.Frag}
end
end L2
set_option linter.all false
set_option maxRecDepth 100000
namespace L2
open PySem PySem.Spec PyProof.Rows
section
variable {X : Cx} {K : PySem.W.Frag}
noncomputable def rReprX (K : PySem.W.Frag) : List V → Hp → VK → Prop := fun xs H Q => ∃ x d, xs = [x] ∧ Is K H d x ∧ d.showable = true ∧ d.shown.length ≤ sizeLine ∧ d.depth ≤ 100 ∧ Q (.str d.shown) H
theorem call_reprX (hq : QA X.A) : CallR X (.builtin "repr") (rReprX X.K) := by
  intro pins s σ H xs us Q I rv h
  obtain ⟨x, d, rfl, i, hs, hf, hd, q⟩ := h
  cases d with
  | none =>
    simp only [Is] at i
    subst i
    exact call_reprA pins s σ H _ us Q I rv (.inr ⟨rfl, q⟩)
  | bool b =>
    simp only [Is] at i
    subst i
    refine call_reprA pins s σ H _ us Q I rv (.inl ⟨b, rfl, ?_⟩)
    cases b <;> exact q
  | int n =>
    simp only [Is] at i
    subst i
    exact call_reprI pins s σ H _ us Q I rv ⟨n, rfl, of_decide_eq_true (by simpa only [PyData.showable] using hs), q⟩
  | str z =>
    simp only [Is] at i
    subst i
    obtain ⟨u, rfl, ru⟩ := rv.one
    obtain ⟨t, rfl⟩ := ru
    exact PySem.P.repr_of_str ⟨.str _, H, I.tok _, ⟨_, rfl⟩, q⟩ hf
  | list ds => exact call_reprD hq pins s σ H _ us Q I rv ⟨x, _, rfl, i, ⟨rfl, hs, hf, hd⟩, q⟩
  | tuple ds => exact call_reprD hq pins s σ H _ us Q I rv ⟨x, _, rfl, i, ⟨rfl, hs, hf, hd⟩, q⟩
  | dict kvs => simp only [Is] at i
theorem call_reprXK (hq : QA X.A) (hK : X.K = K := by with_unfolding_all rfl) : CallR X (.builtin "repr") (rReprX K) := hK ▸ call_reprX hq
theorem i_reprX {H : Hp} {Q : VK} {d : PyData} {x : V} (h : Is K H d x) (h1 : d.showable = true) (h2 : d.shown.length ≤ sizeLine) (h3 : d.depth ≤ 100) (k : Q (.str d.shown) H) : rReprX K [x] H Q := ⟨x, d, rfl, h, h1, h2, h3, k⟩
theorem Dk.told {p w W : Nat} {D : PyData} (h : Dk p w W D) (hp : p ≤ 60) (hw : w ≤ 100000) : D.showable = true ∧ D.shown.length ≤ sizeLine ∧ D.depth ≤ 100 := by
  have h2 := PyData.shown_le 45 (by decide) D h.lv
  have h3 := h.wt
  have h4 := h.dp
  refine ⟨h.sh, ?_, by omega⟩
  rw [sizeLine_eq]
  omega
end
end L2
set_option linter.all false
set_option maxRecDepth 100000
set_option maxHeartbeats 4000000
namespace L2
open PySem PySem.Spec PyProof.Rows
section
variable {prog : Program} {w : World} {A : Around} {E : Value → Shared → Prop} {s : Shared}
end
section
variable {P : Program} {w : World} {A : Around} {R : Result → Shared → Prop} {it : Addr} {fp wr : List Addr} {G : Array GenState → Array GenState → Prop} {n : Nat} {PV : Nat → Value → Prop} {St : Nat → Shared → Prop}
end
section
variable {prog : Program} {w : World} {A : Around} {E : Value → Shared → Prop} {s : Shared}
set_option maxHeartbeats 3200000 in
end
end L2
set_option linter.all false
set_option maxRecDepth 100000
set_option maxHeartbeats 4000000
namespace L2
open PySem PySem.Spec PyProof.Rows
section
variable {prog : Program} {w : World} {A : Around} {E : Value → Shared → Prop} {s : Shared}
end
end L2
set_option linter.all false
set_option maxRecDepth 100000
set_option maxHeartbeats 4000000
namespace L2
open PySem PySem.Spec PyProof.Rows
section
variable {prog : Program} {w : World} {A : Around} {E : Value → Shared → Prop} {s : Shared}
end
end L2
set_option linter.all false
set_option maxRecDepth 100000
set_option maxHeartbeats 4000000
namespace L2
open PySem PySem.Spec PyProof.Rows
section
variable {prog : Program} {w : World} {A : Around} {E : Value → Shared → Prop} {s : Shared}
end
end L2
set_option linter.all false
set_option maxRecDepth 100000
set_option maxHeartbeats 4000000
namespace L2
open PySem PySem.Spec PyProof.Rows
section
variable {prog : Program} {w : World} {A : Around} {E : Value → Shared → Prop} {s : Shared}
end
end L2
namespace L2
open PySem PySem.Spec PyProof.Rows
section
variable {X : Cx} {K : PySem.W.Frag}
end
end L2
set_option linter.all false
set_option maxRecDepth 100000
set_option maxHeartbeats 4000000
namespace L2
open PySem PySem.Spec PyProof.Rows
open Builtin
theorem noFill_tup : fillsNumberSlot (.type "tuple") "mul" = pure false :=
  PySem.fillsNumberSlot_seq (id := "tuple.__mul__") (r := some (.builtin "tuple.__rmul__")) F.slot_tuple_mul.lookup (by decide +kernel) F.slot_tuple_rmul.lookup (by decide +kernel)
theorem repeat_tup : seqRepeat? (.type "tuple") = pure (some (.builtin "tuple.__mul__")) := by
  unfold seqRepeat?
  rw [PySem.seqSlot_of (T := "tuple") (name := "__mul__") (id := "tuple.__mul__") F.slot_tuple_mul.lookup (by decide +kernel), PySem.seqSlot_of (T := "tuple") (name := "__rmul__") (id := "tuple.__rmul__") F.slot_tuple_rmul.lookup (by decide +kernel)]
  rfl
theorem rmul_tup (x : Int) (t : Tok) (l : Addr) (its : Array Value) (n : Nat) (dc : Option Addr) (sl : Array (Option Value)) :
    Meets (Builtin.«int.__rmul__» ⟨[.int x t, .ref l], []⟩) (fun _ R z => z.heap.get? l = some { cls := .type "tuple", dict := dc, data := .seq its n, slots := sl } ∧ R (.ok (.ret Value.notImplemented)) z) :=
  .of_wp fun prog w A R z h => by obtain ⟨hp, g, d, tk, os⟩ := z; obtain ⟨hl, h⟩ := h; wp_walk; exact ⟨_, rfl, h⟩
theorem mul_tup (l : Addr) (its : Array Value) (n : Nat) (dc : Option Addr) (sl : Array (Option Value)) (x : Int) (u : Tok) (h0 : ¬ (decide (x < -(2 ^ 63)) || decide (x ≥ 2 ^ 63)) = true) (h1 : ¬ (its.isEmpty || x == 1) = true) (h2 : ¬ (decide (x ≤ 0) || its.isEmpty) = true) (h3 : ¬ (its.size : Int) * x > (2 ^ 63 - 1) / 8) (h4 : ¬ Builtin.Tuple.tupleTooMany ((its.size : Int) * x) = true)
    (h5 : ((List.replicate x.toNat its).foldl (· ++ ·) #[]).size ≤ sizeLine) :
    Meets (Builtin.«tuple.__mul__» ⟨[.ref l, .int x u], []⟩) (fun _ R z => z.heap.get? l = some { cls := .type "tuple", dict := dc, data := .seq its n, slots := sl } ∧ R (.ok (.ret (.ref z.heap.objs.size))) { z with heap := z.heap.push { cls := .type "tuple", data := .seq ((List.replicate x.toNat its).foldl (· ++ ·) #[]) } }) :=
  .of_wp fun prog w A R z h => by
    obtain ⟨hp, g, d, tk, os⟩ := z
    obtain ⟨hl, h⟩ := h
    wp_walk
    rw [if_neg h0]
    wp_walk
    rw [if_neg h3]
    show wpAny _ _ (if Builtin.Tuple.tupleTooMany (its.size * x) = true then _ else _) _ _ _
    rw [if_neg h4]
    refine wpAny_bind (wpAny_newObj_type (wpAny_pure ?_) h5)
    exact ⟨_, rfl, h⟩
section
variable {X : Cx} {K : PySem.W.Frag}
noncomputable def rRepT (K : PySem.W.Frag) : R2 := fun x y H Q => ∃ (l : Addr) (k : Int) (xs : List V), x = .ref l ∧ y = .int k ∧ SqT K H l xs ∧ 2 ≤ k ∧ k ≤ 1000 ∧ xs ≠ [] ∧ xs.length ≤ 1000 ∧ ∀ p, H p = none → Q (.ref p) (upd H p (.tup (List.replicate k.toNat xs).flatten))
theorem op_repT : OpR X (binaryOp .Mult) (rRepT X.K) := by
  intro pins s σ H x y v u Q I rx ry h
  obtain ⟨l, k, xs, rfl, rfl, hH, h1, h2, h3, h4, q⟩ := h
  cases rx
  obtain ⟨t, rfl⟩ := ry
  obtain ⟨its, r, ht, hz⟩ := I.tuple hH
  obtain ⟨⟨cls, dct, dat, sl⟩, e, hc, n, hd⟩ := ht
  simp only at hc hd
  subst hc
  subst hd
  have hl := r.length
  have hne : its ≠ [] := fun z => by rw [z] at hl; exact h3 (List.length_eq_zero_iff.mp hl)
  have hsz : its.length * k.toNat ≤ 1000000 := by
    have : its.length * k.toNat ≤ 1000 * 1000 := Nat.mul_le_mul (by omega) (by omega)
    omega
  have hi : (its.toArray.size : Int) * k = ((its.length * k.toNat : Nat) : Int) := by
    rw [List.size_toArray, Int.natCast_mul, Int.toNat_of_nonneg (by omega)]
  have hem : its.toArray.isEmpty = false := by cases its with | nil => exact absurd rfl hne | cons _ _ => rfl
  have hfl : (List.replicate k.toNat its.toArray).foldl (· ++ ·) #[] = (List.replicate k.toNat its).flatten.toArray := by
    have := foldl_rep its k.toNat []
    rw [List.nil_append] at this
    exact this
  have hln : (List.replicate k.toNat its).flatten.length = its.length * k.toNat := by rw [len_rep, Nat.mul_comm]
  refine wpAny_binaryOp_repeat_ref (T := "tuple") (U := "int") (by decide) ⟨_, e, rfl⟩ (fun s' => typeIs_int s' k t) noFill_tup F.fills_int_mul F.slot_int_rmul repeat_tup F.slot_int_index.lookup
    (call_meets F.slot_int_rmul (typeIs_int s k t) F.entry_int_rmul (F.args_int_rmul_2 _ _) (rmul_tup k t l its.toArray n dct sl)
      ⟨e, rfl, ⟨_, e, rfl⟩, call_meets F.slot_tuple_mul ⟨_, e, rfl⟩ F.entry_tuple_mul (F.args_tuple_mul_2 _ _) (mul_tup l its.toArray n dct sl k t ?_ ?_ ?_ ?_ ?_ ?_) ⟨e, ?_⟩⟩)
  · rw [decide_eq_false (by omega), decide_eq_false (by omega)]; exact Bool.false_ne_true
  · rw [hem, beq_eq_false_iff_ne.mpr (by omega)]; exact Bool.false_ne_true
  · rw [hem, decide_eq_false (by omega)]; exact Bool.false_ne_true
  · rw [hi]; omega
  · rw [hi]; unfold Builtin.Tuple.tupleTooMany; rw [decide_eq_false (by rw [sizeLine_eq]; omega)]; exact Bool.false_ne_true
  · rw [hfl, List.size_toArray, hln, sizeLine_eq]; omega
  · rw [hfl]
    exact ⟨.ref _, _, I.laid (t' := s.toks) (o := .tup (List.replicate k.toNat xs).flatten) (fun b ob e => Heap.get?_push_of_some _ e) (Nat.le_refl _) ⟨by rw [len_rep, Nat.mul_comm, hl, sizeLine_eq]; omega, _, r.rep k.toNat, IsTupN.new _ _⟩, rfl, q _ (I.hok.fresh (Nat.le_refl _))⟩
theorem op_repTK (hK : X.K = K := by with_unfolding_all rfl) : OpR X (binaryOp .Mult) (rRepT K) := hK ▸ op_repT
theorem i_repT {l : Addr} {k : Int} {xs : List V} {H : Hp} {Q : VK} (h : SqT K H l xs) (h1 : 2 ≤ k ∧ k ≤ 1000) (h2 : xs ≠ []) (h3 : xs.length ≤ 1000) (c : ∀ p H', H p = none → Same H H' → H' p = some (.tup (List.replicate k.toNat xs).flatten) → Q (.ref p) H') : rRepT K (.ref l) (.int k) H Q :=
  ⟨l, k, xs, rfl, rfl, h, h1.1, h1.2, h2, h3, fun p hp => c p _ hp (Same.upd hp) upd_same⟩
end
end L2
set_option linter.all false
set_option maxRecDepth 100000
set_option maxHeartbeats 4000000
namespace L2
open PySem PySem.Spec PyProof.Rows
section
variable {P : Program} {w : World} {K : PySem.W.Frag} {mg : Str → Option Value} {base : Heap} {k : Nat} {f : Addr} {fd : FuncData} {ps : List Str} {sp sp' : Sp}
end
theorem digits_core : ∀ (k fuel n : Nat) (ds : List Char), 1 ≤ k → n < 10 ^ k → (Nat.toDigitsCore 10 fuel n ds).length ≤ ds.length + k
  | _, 0, n, ds, _, _ => by simp [Nat.toDigitsCore]
  | k, fuel + 1, n, ds, hk, hn => by
    unfold Nat.toDigitsCore
    dsimp only
    split
    · simp; omega
    · rename_i h0
      cases k with
      | zero => omega
      | succ k =>
        have h1 : n / 10 < 10 ^ k := by
          rw [Nat.div_lt_iff_lt_mul (by omega)]
          rw [Nat.pow_succ] at hn
          exact hn
        have hk1 : 1 ≤ k := by
          cases k with
          | zero => simp at h1; omega
          | succ _ => omega
        have := digits_core k fuel (n / 10) (Nat.digitChar (n % 10) :: ds) hk1 h1
        rw [List.length_cons] at this
        omega
theorem str_len (s : String) : (s : Str).length = s.toList.length := by
  show (Str.ofString s).cps.size = _
  rw [Str.ofString_eq_byList]
  unfold Str.ofStringByList
  simp
theorem repr_len {n : Nat} (h : n < 10 ^ 44) : (Nat.repr n).toList.length ≤ 44 := by
  unfold Nat.repr Nat.toDigits
  have := digits_core 44 (n + 1) n [] (by omega) h
  simpa using this
theorem int_short {m : Int} (h : m.natAbs < 10 ^ 44) : (PyData.int m).shown.length ≤ 45 := by
  simp only [PyData.shown]
  rw [str_len]
  cases m with
  | ofNat n =>
    have : (toString (Int.ofNat n) : String) = Nat.repr n := rfl
    rw [this]
    exact Nat.le_trans (repr_len h) (by omega)
  | negSucc n =>
    have : (toString (Int.negSucc n) : String) = "-" ++ Nat.repr (n + 1) := rfl
    rw [this]
    have h2 := repr_len (n := n + 1) h
    rw [String.toList_append, List.length_append]
    have : ("-" : String).toList.length = 1 := by decide
    omega
theorem log_int {m : Int} (h : m.natAbs < 10 ^ 44) : m.natAbs.log2 < 147 := by
  by_cases h0 : m.natAbs = 0
  · rw [h0]; decide
  · exact (Nat.log2_lt h0).mpr (Nat.lt_trans h (by decide))
theorem dk_int {p W : Nat} {m : Int} (h : m.natAbs < 10 ^ 44) : Dk p 150 W (.int m) := by
  have hl := log_int h
  refine ⟨by simp only [ascD], by simp only [PyData.canLay0], ?_, ?_, by simp only [PyData.depth]; omega, ?_, by simp only [widD]; omega⟩
  · simp only [PyData.showable]
    exact decide_eq_true (by omega)
  · simp only [PyData.leavesShort]
    exact decide_eq_true (int_short h)
  · simp only [PyData.weight]
    split <;> omega
end L2
set_option linter.all false
set_option maxRecDepth 100000
set_option maxHeartbeats 4000000
namespace L2
open PySem PySem.Spec PyProof.Rows
section
variable {P : Program} {w : World} {A : Around} {E : Value → Shared → Prop} {z : Shared}
end
end L2
set_option linter.all false
set_option maxRecDepth 100000
set_option maxHeartbeats 4000000
namespace L2
open PySem PySem.Spec PyProof.Rows
end L2
set_option linter.all false
set_option maxRecDepth 100000
set_option maxHeartbeats 4000000
namespace L2
open PySem PySem.Spec PyProof.Rows
section
variable {X : Cx} {K : PySem.W.Frag}
end
section
variable {K : PySem.W.Frag} {σ : St} {H : Hp} {Q : VK}
end
end L2
set_option linter.all false
set_option maxRecDepth 100000
namespace L2
open PySem PySem.Spec PyProof.Rows
section
variable {X : Cx} {K : PySem.W.Frag} {H : Hp} {Q : VK}
end
end L2
set_option linter.all false
set_option maxRecDepth 100000
namespace L2
open PySem PySem.Spec PyProof.Rows
section
variable {X : Cx} {K : PySem.W.Frag}
end
end L2
set_option linter.all false
set_option maxRecDepth 100000
namespace L2
open PySem PySem.Spec PyProof.Rows
section
variable {α : Type} [DecidableEq α]
end
end L2
set_option linter.all false
set_option maxRecDepth 100000
namespace L2
open PySem PySem.Spec PyProof.Rows
section
variable {α : Type} [DecidableEq α]
end
end L2
set_option linter.all false
set_option maxRecDepth 100000
namespace L2
open PySem PySem.Spec PyProof.Rows
end L2
set_option linter.all false
set_option maxRecDepth 100000
namespace L2
open PySem PySem.Spec PyProof.Rows
section
variable {α : Type} [DecidableEq α]
end
end L2
namespace L2
end L2
set_option linter.all false
set_option maxRecDepth 100000
namespace L2
open PySem PySem.Spec PyProof.Rows
section
variable {X : Cx} {pins : List (Addr × Obj)} {σ : List (Option V)} {H : Hp} {s : Shared} {h' : Heap}
theorem allNews_keep {g h : Heap} {L : Addr} (hb : ∀ b o, g.get? b = some o → h.get? b = some o) (hb' : ∀ b o, g.get? b = some o → h'.get? b = some o) {more : List (Addr × Obj)} (N : News g L h' (allNews g h L ++ more)) : ∀ b u, b ≠ L → h.get? b = some u → h'.get? b = some u := fun b u n e => by
  cases hc : g.get? b with
  | some o =>
    have := hb b o hc
    rw [e] at this
    cases this
    exact hb' b u hc
  | none => exact (N (b, u) (List.mem_append_left _ (mem_allNews n hc e))).1
variable {K : PySem.W.Frag}
end
end L2
set_option linter.all false
set_option maxRecDepth 100000
namespace L2
open PySem PySem.Spec PyProof.Rows
section
variable {α : Type} [DecidableEq α]
end
end L2
set_option linter.all false
set_option maxRecDepth 100000
namespace L2
open PySem PySem.Spec PyProof.Rows
section
variable {α : Type} [DecidableEq α]
end
end L2
set_option linter.all false
set_option maxRecDepth 100000
namespace L2
open PySem PySem.Spec PyProof.Rows
section
variable {α : Type} [DecidableEq α]
variable {β : Type} [DecidableEq β]
end
end L2
set_option Elab.async false
set_option linter.all false
set_option maxRecDepth 100000
set_option maxHeartbeats 4000000
namespace L2
open PySem PySem.Spec PyProof.Rows
section
variable {X : Cx} {k : Nat} {x : Str} {ps : List Str} {sp : Sp} {e : Expr} {es : List Expr} {t : TA} {p pos : Pos} {E : St → XK}
end
section
variable {X : Cx} {pins : List (Addr × Obj)}
end
end L2
set_option Elab.async false
set_option linter.all false
set_option maxRecDepth 100000
set_option maxHeartbeats 4000000
namespace L2
open PySem PySem.Spec PyProof.Rows
section
variable {α : Type} [DecidableEq α]
end
section
variable {ns ns' : List Str} {ps ps' : List (Str × Str)}
variable {qs : List (Str × Str)}
end
end L2
set_option Elab.async false
set_option linter.all false
set_option maxRecDepth 100000
set_option maxHeartbeats 4000000
namespace L2
open PySem PySem.Spec PyProof.Rows
section
variable {M : Model} {A : Around} {E : Value → Shared → Prop} {s : Shared} {base : Heap} {env : Env} {outer : List Env} {L a : Addr} {oe : Obj} {vs : Array Value} {Q : Unit → Shared → Prop}
end
section
variable {P : Program} {w : World} {fs : List Addr} {a C : Addr} {od : Option Addr} {oe : Obj} {old : List Addr} {h h' : Heap} {H : Hp} {n : Bool}
end
section
variable {P : Program} {w : World} {K : PySem.W.Frag} {mg : Str → Option Value} {base : Heap} {N : List Str} {qual : Str} {scope : Scope} {f : Addr} {cd : Value} {A : Around} {outer : List Env} {s₀ : Shared} {H₀ : Hp} {E : XK}
end
section
variable {P : Program} {w : World} {K : PySem.W.Frag} {mg : Str → Option Value} {base : Heap} {N : List Str} {qual : Str} {scope : Scope} {f : Addr} {cd : Value} {A : Around} {outer : List Env} {s₀ : Shared} {H₀ : Hp} {E : XK}
end
section
variable {X : Cx} {scope : Scope} {xs fr : List Str} {pins : List (Addr × Obj)} {σ : St} {H : Hp} {s : Shared} {js : List Nat} {fp : List Addr}
end
end L2
set_option Elab.async false
set_option linter.all false
set_option maxRecDepth 100000
set_option maxHeartbeats 4000000
namespace L2
open PySem PySem.Spec PyProof.Rows
end L2
set_option Elab.async false
set_option linter.all false
set_option maxRecDepth 100000
set_option maxHeartbeats 4000000
namespace L2
open PySem PySem.Spec PyProof.Rows
section
variable {X : Cx} {k : Nat} {C : Addr} {m : Str} {ps : List Str} {sp : Sp} {e o : Expr} {es : List Expr} {ta : TE} {t : TA} {p pos apos : Pos} {E : XK}
end
section
variable {σ : St} {H : Hp} {Q : VK} {C : Addr} {m : Str} {sp : Sp} {ta : TE} {t : TA} {E : XK}
end
end L2
set_option Elab.async false
set_option linter.all false
set_option maxRecDepth 100000
set_option maxHeartbeats 4000000
namespace L2
open PySem PySem.Spec PyProof.Rows
section
variable {P : Program} {w : World} {K : PySem.W.Frag} {mg : Str → Option Value} {base : Heap}
end
section
variable {X : Cx} {k : Nat} {x : Str} {ps : List Str} {sp : Sp} {e : Expr} {es : List Expr} {t : TA} {p pos : Pos}
end
end L2
set_option Elab.async false
set_option linter.all false
set_option maxRecDepth 100000
set_option maxHeartbeats 4000000
namespace L2
open PySem PySem.Spec PyProof.Rows
section
variable {X : Cx}
end
end L2
set_option Elab.async false
set_option linter.all false
set_option maxRecDepth 100000
set_option maxHeartbeats 4000000
namespace L2
open PySem PySem.Spec PyProof.Rows
end L2
set_option Elab.async false
set_option linter.all false
set_option maxRecDepth 100000
set_option maxHeartbeats 4000000
namespace L2
open PySem PySem.Spec PyProof.Rows
end L2
set_option Elab.async false
set_option linter.all false
set_option maxRecDepth 100000
set_option maxHeartbeats 4000000
namespace L2
open PySem PySem.Spec PyProof.Rows
section
variable {α : Type} [DecidableEq α] {b : α → α → Bool}
end
theorem fil_len_none {α : Type} {p : α → Bool} {l : List α} (h : ∀ x ∈ l, p x = false) : (l.filter p).length = 0 := by rw [List.filter_eq_nil_iff.mpr fun x hx => by rw [h x hx]; decide]; rfl
end L2
set_option Elab.async false
set_option linter.all false
set_option maxRecDepth 100000
set_option maxHeartbeats 4000000
namespace L2
open PySem PySem.Spec PyProof.Rows
section
variable {X : Cx} {K : PySem.W.Frag}
end
section
variable {K : PySem.W.Frag} {σ : St} {H : Hp}
end
end L2
set_option Elab.async false
set_option linter.all false
set_option maxRecDepth 100000
set_option maxHeartbeats 4000000
namespace L2
open PySem PySem.Spec PyProof.Rows
end L2
set_option Elab.async false
set_option linter.all false
set_option maxRecDepth 100000
set_option maxHeartbeats 4000000
namespace L2
open PySem PySem.Spec PyProof.Rows
end L2
set_option Elab.async false
set_option linter.all false
set_option maxRecDepth 100000
set_option maxHeartbeats 4000000
namespace L2
open PySem PySem.Spec PyProof.Rows
section
variable {K : PySem.W.Frag} {H H' : Hp} {x : V} {ns : List Str} {σ : St} {Q : VK}
noncomputable def NmS (K : PySem.W.Frag) (H : Hp) (x : V) (ns : List Str) : Prop := ∃ a, x = .ref a ∧ (SqL K H a (ns.map V.str) ∨ SqT K H a (ns.map V.str))
theorem NmS.same (h : NmS K H x ns) (e : Same H H') : NmS K H' x ns := by
  obtain ⟨a, rfl, h⟩ := h
  exact ⟨a, rfl, h.imp e.seq e.seqT⟩
theorem NmS.of (h : Is K H (nmD ns) x) : NmS K H x ns := by
  obtain ⟨a, rfl, g⟩ := h.nm
  exact ⟨a, rfl, .inr g⟩
theorem i_lenNS (h : NmS K H x ns) (k : Q (.int ns.length) H) : rLenA K [x] H Q := by
  obtain ⟨a, rfl, h | h⟩ := h
  · exact .inl ⟨.ref a, _, rfl, .inl ⟨_, h, rfl⟩, by rw [List.length_map]; exact k⟩
  · exact i_lenN (is_nm h) k
theorem i_ixNS {i : Int} {z : Str} (h : NmS K H x ns) (e : atI ns i = some z) (k : Q (.str z) H) : rIxA K x (.int i) H Q := by
  obtain ⟨a, rfl, h | h⟩ := h
  · refine i_ixLQ h ?_ k
    unfold atI at e ⊢
    rw [List.length_map]
    cases c : ixN ns.length i with
    | none => rw [c] at e; cases e
    | some j =>
      rw [c] at e
      show (ns.map V.str)[j]? = _
      rw [List.getElem?_map, show ns[j]? = some z from e]
      rfl
  · exact i_ixN (is_nm h) e k
theorem comp_nmS {g : TG} {tt : TT} {te : TE} {k : Nat} {js : List Nat} (h : NmS K H x ns) (t : Str → Bool) (f : Str → PyData) (hf : ∀ a, frz (f a) = true) (hz : ns.length ≤ 1000000)
    (hs : ∀ (i : Nat) a H1 (R : VK) (R' : Hp → Prop), ns[i]? = some a → Same H H1 → (t a = true → ∀ y H2, Same H1 H2 → Is K H2 (f a) y → R y H2) → (t a = false → ∀ H2, Same H1 H2 → R' H2) →
      g (.str a) (List.replicate k none ++ pick σ js) H1 fun σ2 H2 => tt σ2 H2 fun b H3 => if b = true then te σ2 H3 R else R' H3)
    (hd : ∀ p ys H', H p = none → Same H H' → H' p = some (.lst ys) → IsL K H' ((ns.filter t).map f) ys → Q (.ref p) H') : rAnyIt K x H fun J H1 => rComp k js g tt te σ J H1 Q := by
  obtain ⟨a, rfl, h | h⟩ := h
  · exact comp_lnm h t f hf hz hs hd
  · exact comp_nm (is_nm h) t f hf hz hs hd
noncomputable def NmX (K : PySem.W.Frag) (H : Hp) (q : Addr) (x : V) (ns : List Str) : Prop := ∃ p, x = .ref p ∧ ((p ≠ q ∧ H p = some (.lst (ns.map V.str))) ∨ SqT K H p (ns.map V.str))
theorem i_slNX {q : Addr} {o : HO} {t : Int} (hq : H q = some o) (h : NmS K H x ns) (h0 : 0 ≤ t) (h1 : t ≤ ns.length) (k : ∀ y H', Same H H' → NmX K H' q y (ns.drop t.toNat) → Q y H') : rSlA K x (some t) none H Q := by
  have hc : cutV (ns.map V.str) (some t) none = (ns.drop t.toNat).map V.str := by rw [cut_from h0 (by rw [List.length_map]; exact h1), List.map_drop]
  obtain ⟨a, rfl, h | h⟩ := h
  · exact i_slL h fun p H' hp e g => k _ _ e ⟨p, rfl, .inl ⟨(ne_of_none hq hp).symm, by rw [← hc]; exact g⟩⟩
  · exact i_slT h fun p H' e g => k _ _ e ⟨p, rfl, .inr (by rw [← hc]; exact g)⟩
theorem for_nmX {q : Addr} {g : TG} {tb : TS} {D : Ends} (h : NmX K H q x ns) (Pv : Nat → St → Hp → Prop) (h0 : Pv 0 σ H) (hG : ∀ i σ' H', Pv i σ' H' → ExtBut q H H' ∧ Fz H H')
    (hs : ∀ i z σ' H', ns[i]? = some z → Pv i σ' H' → g (.str z) σ' H' fun σ2 H2 => tb { D with nx := Pv (i + 1), ct := Pv (i + 1), bk := D.nx } σ2 H2) (hd : ∀ σ' H', Pv ns.length σ' H' → D.nx σ' H') :
    rAnyIt K x H fun J H1 => rFor g tb D σ J H1 := by
  obtain ⟨a, rfl, ⟨hne, h⟩ | h⟩ := h
  · refine i_itL (SqL.of h) (for_by walk_list Pv h0 (fun i σ' H' p => SqL.of ((hG i σ' H' p).1 _ _ hne h)) (fun i v σ' H' hx hi p => ?_) fun σ' H' p => hd σ' H' (by rw [List.length_map] at p; exact p))
    rw [List.getElem?_map] at hx
    cases hn : ns[i]? with
    | none => rw [hn] at hx; cases hx
    | some z =>
      rw [hn] at hx
      cases hx
      exact hs i z σ' H' hn p
  · exact for_nm (is_nm h) Pv h0 (fun i σ' H' p => (hG i σ' H' p).2) hs hd
noncomputable def HfS (K : PySem.W.Frag) (H : Hp) (x : V) (ns : List Str) (ps : List (Str × Str)) : Prop := ∃ a nv pv, x = .ref a ∧ SqT K H a [nv, pv] ∧ NmS K H nv ns ∧ Is K H (psD ps) pv
theorem HfS.same {ps : List (Str × Str)} (h : HfS K H x ns ps) (e : Same H H') : HfS K H' x ns ps := by
  obtain ⟨a, nv, pv, rfl, h1, h2, h3⟩ := h
  exact ⟨a, nv, pv, rfl, e.seqT h1, h2.same e, Is.mono e _ _ h3⟩
theorem HfS.of {ps : List (Str × Str)} (h : Is K H (hfD ns ps) x) : HfS K H x ns ps := by
  obtain ⟨a, xs, rfl, h1, h2⟩ := Is.tup h
  obtain ⟨v1, q1, q2⟩ := h2.at (i := 0) rfl
  obtain ⟨v2, q3, q4⟩ := h2.at (i := 1) rfl
  have q5 := h2.length
  match xs, q1, q3, q5 with
  | [y1, y2], q1, q3, _ =>
    cases q1
    cases q3
    exact ⟨a, v1, v2, rfl, h1, .of q2, q4⟩
theorem i_ixS0 {ps : List (Str × Str)} (h : HfS K H x ns ps) (k : ∀ v, NmS K H v ns → Q v H) : rIxA K x (.int 0) H Q := by
  obtain ⟨a, nv, pv, rfl, h1, h2, h3⟩ := h
  exact .inl (.inr (.inl ⟨a, _, _, _, rfl, rfl, h1, atI_nat (j := 0) rfl, k _ h2⟩))
theorem i_ixS1 {ps : List (Str × Str)} (h : HfS K H x ns ps) (k : ∀ v, Is K H (psD ps) v → Q v H) : rIxA K x (.int 1) H Q := by
  obtain ⟨a, nv, pv, rfl, h1, h2, h3⟩ := h
  exact .inl (.inr (.inl ⟨a, _, _, _, rfl, rfl, h1, atI_nat (j := 1) rfl, k _ h3⟩))
end
theorem left_up {ns : List Str} {ps : List (Str × Str)} : ∀ (i : Nat) (row : List Str), row ∈ growN (wayB ps) ns i [[]] → ∀ y ∈ leftF ns row, ∀ z ∈ ns, wayB ps y z = true → z ∈ leftF ns row
  | 0, row, h, y, hy, z, hz, g => by
    have : row = [] := by simpa [growN] using h
    subst this
    exact List.mem_filter.mpr ⟨hz, by simp⟩
  | i + 1, row, h, y, hy, z, hz, g => by
    rw [growN_succ] at h
    obtain ⟨r, hr, h⟩ := List.mem_flatMap.mp h
    obtain ⟨w, hw, rfl⟩ := List.mem_map.mp h
    obtain ⟨y1, y2⟩ := List.mem_filter.mp hy
    have y3 : y ∉ r ++ [w] := by simpa using y2
    rw [List.mem_append, not_or] at y3
    have hyl : y ∈ leftF ns r := List.mem_filter.mpr ⟨y1, by simpa using y3.1⟩
    have hzl := left_up i r hr y hyl z hz g
    refine List.mem_filter.mpr ⟨hz, ?_⟩
    have hzr : z ∉ r := by simpa using (List.mem_filter.mp hzl).2
    have hzw : z ≠ w := fun q => by
      subst q
      rw [(mem_frF.mp hw).2 y hyl] at g
      cases g
    simp [hzr, hzw]
theorem frF_said {ns : List Str} {ps : List (Str × Str)} (hm : ∀ p ∈ ps, p.1 ∈ ns ∧ p.2 ∈ ns) {i : Nat} {row : List Str} (h : row ∈ growN (wayB ps) ns i [[]]) :
    ((leftF ns row).filter fun z => !decide (z ∈ (ps.filter fun p => decide (p.1 ∈ leftF ns row)).map (·.2))) = frF (wayB ps) (leftF ns row) := by
  unfold frF
  refine List.filter_congr fun z hz => ?_
  congr 1
  rw [Bool.eq_iff_iff, decide_eq_true_iff, List.any_eq_true]
  constructor
  · intro q
    obtain ⟨p, hp, rfl⟩ := List.mem_map.mp q
    obtain ⟨p1, p2⟩ := List.mem_filter.mp hp
    exact ⟨p.1, of_decide_eq_true p2, wayB_iff.mpr (.one p1)⟩
  · rintro ⟨y, hy, g⟩
    obtain ⟨m, hm1, hm2⟩ := Way.last (wayB_iff.mp g)
    refine List.mem_map.mpr ⟨(m, z), List.mem_filter.mpr ⟨hm1, decide_eq_true ?_⟩, rfl⟩
    rcases hm2 with rfl | hm2
    · exact hy
    · exact left_up i row h y hy m (hm _ hm1).1 (wayB_iff.mpr hm2)
theorem cnt_zero_iff {ns : List Str} {ps : List (Str × Str)} (h : HalfW ns ps) {x y : Str} (hx : x ∈ ns) (hy : y ∈ ns) (hxy : x ≠ y) : cnt (wayB (ps ++ [(x, y)])) ns = 0 ↔ wayB ps y x = true := by
  constructor
  · intro g
    cases c : wayB ps y x with
    | true => rfl
    | false =>
      have c' : ¬ Way ps y x := fun q => by rw [wayB_iff.mpr q] at c; cases c
      have hirr := free_more h.irr (p := (x, y)) (fun q => hxy q.symm) c'
      have := cnt_pos (b := wayB (ps ++ [(x, y)])) (fun z => wayB_false (hirr z)) wayB_tr ns.length ns rfl h.nd
      omega
  · intro g
    rw [cnt_more h hx hy]
    refine fil_len_none fun r hr => ?_
    refine decide_eq_false fun q => ?_
    obtain ⟨hp, ho⟩ := (mem_ext _ _ _ _ h.nd rfl).mp hr
    have h1 : okR (wayB (ps ++ [(x, y)])) r := by
      rw [ok_iff h.nd (h.more hx hy).mem hp]
      intro p hpp
      rcases List.mem_append.mp hpp with hpp | hpp
      · exact (ok_iff h.nd h.mem hp).mp ho p hpp
      · have : p = (x, y) := by simpa using hpp
        rw [this]
        exact q
    have h2 : r ∈ ext (wayB (ps ++ [(x, y)])) ns.length ns := (mem_ext _ _ _ _ h.nd rfl).mpr ⟨hp, h1⟩
    -- an order would put x ahead of itself
    have h3 := (ok_iff h.nd h.mem hp).mp ho
    have hlt : ∀ a b, Way ps a b → r.idxOf a < r.idxOf b := fun a b g => by
      induction g with
      | one e => exact h3 _ e
      | cons e _ ih => exact Nat.lt_trans (h3 _ e) ih
    have := hlt y x (wayB_iff.mp g)
    omega
noncomputable def qsD (p : Str × Str) (m n : Nat) : PyData := .tuple [prD p, .tuple [.int ((m : Nat) : Int), .int ((n : Nat) : Int)]]
theorem frz_qs (p : Str × Str) (m n : Nat) : frz (qsD p m n) = true := by simp [qsD, frz, frzL, frz_pr]
noncomputable def quR (ns : List Str) (A : Str → Str → Nat) (i m : Nat) : List PyData := (((ns.drop (i + 1)).take m).filter fun y => decide (A (ns.getD i "") y ≠ 0 ∧ A y (ns.getD i "") ≠ 0)).map fun y => qsD (ns.getD i "", y) (A (ns.getD i "") y) (A y (ns.getD i ""))
noncomputable def quK (ns : List Str) (A : Str → Str → Nat) (k : Nat) : List PyData := (List.range k).flatMap fun i => quR ns A i ns.length
noncomputable def quP (ns : List Str) (ps : List (Str × Str)) : List PyData := (unP ns ps).map fun p => qsD p (cnt (wayB (ps ++ [(p.1, p.2)])) ns) (cnt (wayB (ps ++ [(p.2, p.1)])) ns)
theorem qu_eq {ns : List Str} {ps : List (Str × Str)} (h : HalfW ns ps) {A : Str → Str → Nat} (hA : ∀ x ∈ ns, ∀ y ∈ ns, x ≠ y → (A x y ≠ 0 ∧ A y x ≠ 0 ↔ unB ps x y = true) ∧ (unB ps x y = true → A x y = cnt (wayB (ps ++ [(x, y)])) ns)) : quK ns A ns.length = quP ns ps := by
  unfold quP unP unK quK
  rw [List.map_flatMap]
  rw [List.flatMap_def, List.flatMap_def]
  congr 1
  refine List.map_congr_left fun i hi => ?_
  have hi : i < ns.length := List.mem_range.mp hi
  have hx : ns.getD i "" = ns[i] := by simp [List.getD, List.getElem?_eq_getElem hi]
  have hxm : ns[i] ∈ ns := List.getElem_mem hi
  unfold quR unR
  rw [List.map_map, hx, List.take_of_length_le (by rw [List.length_drop]; omega)]
  have hne : ∀ y ∈ ns.drop (i + 1), y ∈ ns ∧ ns[i] ≠ y := fun y hy => by
    refine ⟨(List.drop_sublist _ _).subset hy, fun q => ?_⟩
    obtain ⟨j, hj⟩ := List.mem_iff_getElem?.mp hy
    rw [List.getElem?_drop] at hj
    obtain ⟨h1, h2⟩ := List.getElem?_eq_some_iff.mp hj
    have := (List.getElem_inj h.nd).mp (h2.trans q.symm)
    omega
  have hf : ((ns.drop (i + 1)).filter fun y => decide (A ns[i] y ≠ 0 ∧ A y ns[i] ≠ 0)) = (ns.drop (i + 1)).filter fun y => unB ps ns[i] y := List.filter_congr fun y hy => by
    obtain ⟨h1, h2⟩ := hne y hy
    rw [Bool.eq_iff_iff, decide_eq_true_iff]
    exact (hA _ hxm y h1 h2).1
  rw [hf]
  refine List.map_congr_left fun y hy => ?_
  obtain ⟨y1, y2⟩ := List.mem_filter.mp hy
  obtain ⟨h1, h2⟩ := hne y y1
  have hs : unB ps y ns[i] = true := by
    have := y2
    unfold unB at this ⊢
    rw [Bool.and_comm]
    exact this
  show qsD (ns[i], y) _ _ = qsD (ns[i], y) _ _
  rw [(hA _ hxm y h1 h2).2 y2, (hA y h1 _ hxm h2.symm).2 hs]
theorem un_iff {ns : List Str} {ps : List (Str × Str)} (h : HalfW ns ps) {x y : Str} (hx : x ∈ ns) (hy : y ∈ ns) (hxy : x ≠ y) : (cnt (wayB (ps ++ [(x, y)])) ns ≠ 0 ∧ cnt (wayB (ps ++ [(y, x)])) ns ≠ 0) ↔ unB ps x y = true := by
  rw [Ne, Ne, cnt_zero_iff h hx hy hxy, cnt_zero_iff h hy hx hxy.symm]
  unfold unB
  cases wayB ps x y <;> cases wayB ps y x <;> simp
theorem qu_orders {ns : List Str} {ps : List (Str × Str)} (h : HalfW ns ps) : quK ns (fun x y => ((ext (wayB ps) ns.length ns).filter fun r => decide (r.idxOf x < r.idxOf y)).length) ns.length = quP ns ps := by
  refine qu_eq h fun x hx y hy hxy => ?_
  rw [← cnt_more h hx hy, ← cnt_more h hy hx]
  exact ⟨un_iff h hx hy hxy, fun _ => rfl⟩
theorem quK_snoc (ns : List Str) (A : Str → Str → Nat) (k : Nat) : quK ns A (k + 1) = quK ns A k ++ quR ns A k ns.length := by
  unfold quK
  rw [List.range_succ, List.flatMap_append]
  simp
theorem quR_snoc {ns : List Str} {A : Str → Str → Nat} {i m : Nat} {y : Str} (h : (ns.drop (i + 1))[m]? = some y) : quR ns A i (m + 1) = quR ns A i m ++ if A (ns.getD i "") y ≠ 0 ∧ A y (ns.getD i "") ≠ 0 then [qsD (ns.getD i "", y) (A (ns.getD i "") y) (A y (ns.getD i ""))] else [] := by
  unfold quR
  rw [List.take_add_one, h, List.filter_append, List.map_append]
  congr 1
  by_cases c : A (ns.getD i "") y ≠ 0 ∧ A y (ns.getD i "") ≠ 0
  · rw [if_pos c]
    show (([y].filter fun y => decide (A (ns.getD i "") y ≠ 0 ∧ A y (ns.getD i "") ≠ 0)).map _) = _
    rw [List.filter_cons, if_pos (by rw [decide_eq_true c])]
    rfl
  · rw [if_neg c]
    have : ([y].filter fun y => decide (A (ns.getD i "") y ≠ 0 ∧ A y (ns.getD i "") ≠ 0)) = [] := by
      rw [List.filter_cons, if_neg (by rw [decide_eq_false c]; decide)]
      rfl
    show (([y].filter fun y => decide (A (ns.getD i "") y ≠ 0 ∧ A y (ns.getD i "") ≠ 0)).map _) = _
    rw [this]
    rfl
end L2
set_option Elab.async false
set_option linter.all false
set_option maxRecDepth 100000
set_option maxHeartbeats 4000000
namespace L2
open PySem PySem.Spec PyProof.Rows
theorem isL_consI {K : PySem.W.Frag} {H : Hp} {d : PyData} {ds : List PyData} {vs : List V} (h : IsL K H (d :: ds) vs) : ∃ v r, vs = v :: r ∧ Is K H d v ∧ IsL K H ds r := by simpa only [IsL] using h
theorem isL_permI {α : Type} {K : PySem.W.Frag} {H : Hp} {f : α → PyData} {xs ys : List V} (hp : ys.Perm xs) : ∀ {S : List α}, IsL K H (S.map f) xs → ∃ S' : List α, S'.Perm S ∧ IsL K H (S'.map f) ys := by
  induction hp with
  | nil =>
    intro S h
    exact ⟨S, .refl _, h⟩
  | @cons x l1 l2 _ ih =>
    intro S h
    match S, h with
    | [], h => simp only [List.map_nil, IsL] at h; cases h
    | s :: S, h =>
      obtain ⟨v, r, e, h1, h2⟩ := isL_consI h
      cases e
      obtain ⟨S', q1, q2⟩ := ih h2
      exact ⟨s :: S', q1.cons _, .cons h1 q2⟩
  | @swap x y l =>
    intro S h
    match S, h with
    | [], h => simp only [List.map_nil, IsL] at h; cases h
    | [s], h =>
      obtain ⟨v, r, e, h1, h2⟩ := isL_consI h
      cases e
      simp only [List.map_nil, IsL] at h2
      cases h2
    | s :: s2 :: S, h =>
      obtain ⟨v, r, e, h1, h2⟩ := isL_consI h
      cases e
      obtain ⟨v', r', e', h1', h2'⟩ := isL_consI h2
      cases e'
      exact ⟨s2 :: s :: S, .swap .., .cons h1' (.cons h1 h2')⟩
  | trans p1 p2 ih1 ih2 =>
    intro S h
    obtain ⟨S2, q1, q2⟩ := ih2 h
    obtain ⟨S1, q3, q4⟩ := ih1 q2
    exact ⟨S1, q3.trans q1, q4⟩
noncomputable def crs (A B : List Str) : List (Str × Str) := A.flatMap fun x => B.map fun y => (x, y)
theorem mem_crs {A B : List Str} {p : Str × Str} : p ∈ crs A B ↔ p.1 ∈ A ∧ p.2 ∈ B := by
  unfold crs
  rw [List.mem_flatMap]
  constructor
  · rintro ⟨x, hx, h⟩
    obtain ⟨y, hy, rfl⟩ := List.mem_map.mp h
    exact ⟨hx, hy⟩
  · rintro ⟨h1, h2⟩
    exact ⟨p.1, h1, List.mem_map.mpr ⟨p.2, h2, rfl⟩⟩
theorem crs_len (A B : List Str) : (crs A B).length = A.length * B.length := by
  unfold crs
  induction A with
  | nil => simp
  | cons a A ih => rw [List.flatMap_cons, List.length_append, ih, List.length_map, List.length_cons, Nat.succ_mul]; omega
section
variable {ns A B : List Str} {pA pB S : List (Str × Str)}
noncomputable def ahR9 (rows : List (List Str)) (x y : Str) : Nat := (rows.filter fun r => decide (r.idxOf x < r.idxOf y)).length
end
end L2
set_option Elab.async false
set_option linter.all false
set_option maxRecDepth 100000
set_option maxHeartbeats 4000000
namespace L2
open PySem PySem.Spec PyProof.Rows
section
variable {prog : Program} {w : World} {A : Around} {E : Value → Shared → Prop} {s : Shared} {Q : Value → Shared → Prop}
end
section
variable {prog : Program} {w : World} {A : Around} {E : Value → Shared → Prop} {s : Shared} {Q : Value → Shared → Prop}
end
end L2
set_option Elab.async false
set_option linter.all false
set_option maxRecDepth 100000
set_option maxHeartbeats 4000000
namespace L2
open PySem PySem.Spec PyProof.Rows
section
variable {X : Cx} {pins : List (Addr × Obj)} {σ : List (Option V)} {H : Hp} {s : Shared} {h' : Heap}
end
end L2
set_option Elab.async false
set_option linter.all false
set_option maxRecDepth 100000
set_option maxHeartbeats 4000000
namespace L2
open PySem PySem.Spec PyProof.Rows
noncomputable def isCode (c' : Addr) (qual : Str) : HO := .ext fun h => h.CodeRec (.ref c') qual
noncomputable def LamT (P : Addr) (line col : Nat) (qual : Str) (H : Hp) : Prop := H P = some (.tbl #[]) ∨ ∃ c', H P = some (.tbl #[rawInt line, rawInt col, .ref c']) ∧ H c' = some (isCode c' qual)
structure LamCx (X : Cx) (c P : Addr) : Prop where
  code : X.env.code = .ref c
  hd : PySem.W.CodeHd X.base c P
  bi : X.base.BuiltinsAt X.mg P
  gP : mainGlobals ≠ P
section
variable {X : Cx} {pins : List (Addr × Obj)} {σ : List (Option V)} {H : Hp} {s : Shared} {h' : Heap}
theorem code_stay {c' : Addr} {qual : Str} {h1 h2 : Heap} (x : h1.CodeRec (.ref c') qual) (k : ∀ o, h1.get? c' = some o → h2.get? c' = some o) : h2.CodeRec (.ref c') qual := by
  obtain ⟨c, oc, vs, tq, e0, e1, e2, e3⟩ := x
  cases e0
  exact ⟨c', oc, vs, tq, rfl, k _ e1, e2, e3⟩
theorem Inv.grown {P c' : Addr} {ps more : Array Value} {qual : Str} {t' : Nat} (I : Inv X pins σ H s) (hP : H P = some (.tbl ps)) (k : ∀ b u, b ≠ P → s.heap.get? b = some u → h'.get? b = some u) (hP' : h'.get? P = some (PySem.W.tabObj (ps ++ more))) (hc : s.heap.objs.size ≤ c') (hr : h'.CodeRec (.ref c') qual) :
    Inv X pins σ (upd (upd H P (.tbl (ps ++ more))) c' (isCode c' qual)) { s with heap := h', toks := t' } := by
  have hcn : H c' = none := I.hok.fresh hc
  have hcP : c' ≠ P := fun z => by rw [z, hP] at hcn; cases hcn
  have at_P : (upd (upd H P (.tbl (ps ++ more))) c' (isCode c' qual)) P = some (.tbl (ps ++ more)) := by rw [upd_ne hcP.symm, upd_same]
  have ot : ∀ b, b ≠ P → b ≠ c' → (upd (upd H P (.tbl (ps ++ more))) c' (isCode c' qual)) b = H b := fun b h1 h2 => by rw [upd_ne h2, upd_ne h1]
  have trk : ∀ b o, H b = some o → b ≠ c' := fun b o e z => by rw [z, hcn] at e; cases e
  refine I.call (ch := []) ⟨fun b o e n _ _ => k b o (fun z => by rw [z, hP] at n; cases n) e, fun b o e n _ _ => ⟨o.slots, k b o (fun z => by rw [z, hP] at n; cases n) e⟩, fun b o e n _ => ?_, fun b o e _ => ?_, fun b xs e => ?_, fun b o u e => ?_, fun b qs e => ?_⟩ (fun b o e => ?_) I.bare (fun b z => absurd z (by simp))
  · rw [ot b (fun z => by rw [z, hP] at n; cases n) (fun z => by rw [z] at e; exact absurd (Heap.lt_size e) (Nat.not_lt_of_le hc))]
    exact n
  · by_cases z : b = P
    · rw [z]; exact ⟨_, hP'⟩
    · exact ⟨o, k b o z e⟩
  · rw [ot b (fun z => by rw [z, hP] at e; cases e) (trk b _ e)]
    exact e
  · rw [ot b (fun z => by rw [z, hP] at e; cases e) (trk b _ e)]
    exact e
  · by_cases z : b = P
    · subst z
      rw [hP] at e
      cases e
      exact ⟨more, at_P⟩
    · exact ⟨#[], by rw [ot b z (trk b _ e), e]; simp⟩
  · by_cases z : b = c'
    · subst z
      rw [upd_same] at e
      cases e
      refine ⟨hr, ?_, fun h1 h2 x y => code_stay x y⟩
      obtain ⟨c, oc, vs, tq, e0, e1, _⟩ := hr
      cases e0
      exact ⟨oc, e1⟩
    · by_cases z2 : b = P
      · subst z2
        rw [at_P] at e
        cases e
        exact hP'
      · rw [ot b z2 z] at e
        refine (I.hok b o e).stay (fun d u hd q => k d u (fun y => ?_) q) (fun d q => ?_) fun d xs q => ?_
        · rcases hd with rfl | hd
          · exact z2 y
          · rw [y, hP] at hd; cases hd
        · rw [ot d (fun y => by rw [y, hP] at q; cases q) (trk d _ q)]
          exact q
        · rw [ot d (fun y => by rw [y, hP] at q; cases q) (trk d _ q)]
          exact q
end
end L2
set_option Elab.async false
set_option linter.all false
set_option maxRecDepth 100000
set_option maxHeartbeats 4000000
namespace L2
open PySem PySem.Spec PyProof.Rows
noncomputable def OnlyT (P : Addr) (H : Hp) : Prop := H P = some (.tbl #[]) ∧ ∀ b, b ≠ P → H b = none ∨ ∃ o xs, H b = some (.frz o (.lst xs))
theorem law_callT {P : Program} {w : World} {K : PySem.W.Frag} {mg mb : Str → Option Value} {CX : CXT} {k : Nat} {fa a c Pt : Addr} {fd : FuncData} {x : Str} {sp : Sp} {s₁ : Shared} {vs : List Value} {ns : List Int}
    (KX : K.In s₁.heap) (hns : s₁.heap.Ns mainGlobals mg) (hb : s₁.heap.Ns builtinsNs mb) (hbb : ∀ x : Str, x ≠ "__name__" → mb x = bootBuiltins x) (hlim : s₁.heap.NoLimit) (hg : s₁.gens = #[])
    (ha : s₁.heap.get? a = some { cls := .type "list", data := .seq vs.toArray }) (hi : IntsAre vs ns) (hl : ns.length ≤ sizeLine) (hr : Room k callerA)
    (hPt : s₁.heap.get? Pt = some (PySem.W.tabObj #[])) (hCd : PySem.W.CodeHd s₁.heap c Pt) (hKP : K.lookup Pt = none) (hBi : s₁.heap.BuiltinsAt mg Pt)
    (F : ∀ base : Heap, K.In base → base.Ns mainGlobals mg → base.BuiltinsAt mg Pt → FnOk P w K mg base CX k fa fd [x] sp) (hbind : ∀ (s : Shared) (u : Value), BindsTo s fd ⟨[u], []⟩ [(x, u)])
    (hsp : ∀ H : Hp, OnlyT Pt H → SqL K H a (ns.map V.int) → sp [.ref a] H (fun v _ => v = .bl true) fun _ _ _ => False)
    (hCX : ∀ H e s', CX [] H s₁ (fun _ _ _ => False) e s' → False) :
    codeAny (model P w) callerA (.call (.ref fa) ⟨[.ref a], []⟩) (fun r s' => r = .ok (.ret (.bool true)) ∧ OldK s₁.heap s'.heap ∧ s'.os = s₁.os ∧ AllBare s'.gens) s₁ := by
  have rv := vals_ints hi
  have lenV := hi.length
  have haP : a ≠ Pt := fun z => by rw [z, hPt] at ha; cases ha
  have core : ∀ H : Hp, OnlyT Pt H → SqL K H a (ns.map V.int) → HOk P w H s₁.heap → (∀ b, H b ≠ none → b = a ∨ b = Pt) → (H a ≠ none → K.lookup a = none) →
      codeAny (model P w) callerA (.call (.ref fa) ⟨[.ref a], []⟩) (fun r s' => r = .ok (.ret (.bool true)) ∧ OldK s₁.heap s'.heap ∧ s'.os = s₁.os ∧ AllBare s'.gens) s₁ := by
    intro H hO hS hok hA hK
    have base_of : ∀ {b : Addr} {o : Obj}, s₁.heap.get? b = some o → H b = none → (hidT s₁.heap H).get? b = some o := fun e n => hidT_get e n
    have noA : ∀ {b : Addr} {o : Obj}, s₁.heap.get? b = some o → (∀ zs n, o.data ≠ .seq zs n) → (∀ zs, o.data ≠ .fields zs) → H b = none := fun {b o} e d1 d2 => by
      cases q : H b with
      | none => rfl
      | some u =>
        rcases hA b (by rw [q]; simp) with e' | e'
        · subst e'
          rw [ha] at e; cases e
          exact absurd rfl (d1 _ _)
        · subst e'
          rw [hPt] at e; cases e
          exact absurd rfl (d2 _)
    have nsK : ∀ {b : Addr} {m : Str → Option Value}, s₁.heap.Ns b m → (hidT s₁.heap H).Ns b m := fun {b m} ⟨o, es, ep, e, d, r⟩ => ⟨o, es, ep, base_of e (noA e (fun _ _ z => by rw [d] at z; cases z) fun _ z => by rw [d] at z; cases z), d, r⟩
    have hKb : K.In (hidT s₁.heap H) := fun b o e => base_of (KX b o e) (by
      cases q : H b with
      | none => rfl
      | some u =>
        rcases hA b (by rw [q]; simp) with e' | e'
        · subst e'
          rw [hK (by rw [q]; simp)] at e; cases e
        · subst e'
          rw [hKP] at e; cases e)
    have hM : Mod K mg (hidT s₁.heap H) := ⟨hKb, nsK hns, ⟨mb, nsK hb, hbb⟩, let ⟨mc, h1, h2⟩ := hlim; ⟨mc, nsK h1, h2⟩⟩
    have hBi' : (hidT s₁.heap H).BuiltinsAt mg Pt := by
      obtain ⟨bm, ob, b1, b2, b3, b4, b5, b6, b7, b8⟩ := hBi
      exact ⟨bm, ob, b1, b2, b3, b4, base_of b5 (noA b5 (fun _ _ z => by rw [b8] at z; cases z) fun _ z => by rw [b8] at z; cases z), b6, b7, b8⟩
    have e0 : Env0 P w K mg (hidT s₁.heap H) callerA [] s₁ H := ⟨rfl, hM, fun b o e => of_hidT e, Nat.le_of_eq (hidT_size _ _), trivial, fun b hb => absurd (show b ∈ ([] : List Addr) from hb) (by simp), hok, .of_eq hg⟩
    refine codeAny_mono ((F _ hKb (nsK hns) hBi').run callerA [] s₁ H ⟨[.ref a], []⟩ [.ref a] [.ref a] _ _ hr e0 (hbind s₁ (.ref a)) (.cons rfl .nil) (hsp H hO hS)) fun r s' h => ?_
    cases r with
    | error e => exact (hCX H e s' h).elim
    | ok fl =>
      cases fl with
      | next => exact False.elim h
      | brk => exact False.elim h
      | cont => exact False.elim h
      | ret u =>
        obtain ⟨v, H', os, bare, un, hok', r', q⟩ := h
        have q' : v = .bl true := q
        subst q'
        obtain rfl : u = Value.bool true := r'
        have at_P : ∃ ps, s'.heap.get? Pt = some (PySem.W.tabObj ps) := by
          obtain ⟨more, z⟩ := un.tbls Pt _ hO.1
          exact ⟨_, hok' Pt _ z⟩
        have keep : ∀ b o, b ≠ Pt → s₁.heap.get? b = some o → s'.heap.get? b = some o := fun b o hb e => by
          cases q : H b with
          | none => exact un.keep b o e q (by intro z; exact absurd (show b ∈ ([] : List Addr) from z) (by simp)) (by simp)
          | some u =>
            rcases hO.2 b hb with z | ⟨ob, xs, z⟩
            · rw [q] at z; cases z
            · have z2 := un.frzs b ob _ z
              obtain ⟨e1, _⟩ := hok b _ z
              obtain ⟨e2, _⟩ := hok' b _ z2
              rw [e] at e1; cases e1
              exact e2
        refine ⟨rfl, ⟨fun b o e => ?_, fun b o e => ?_⟩, os, bare⟩
        · by_cases hb : b = Pt
          · subst hb
            obtain ⟨ps, hp⟩ := at_P
            rw [hPt] at e
            cases e
            exact .inr (.inl ⟨(hCd.tab hPt).isCodeTable, rfl, #[], ps, rfl, by rw [Array.empty_append]; exact hp⟩)
          · exact .inl (keep b o hb e)
        · by_cases hb : b = Pt
          · subst hb
            obtain ⟨ps, hp⟩ := at_P
            exact ⟨_, hp⟩
          · exact ⟨o, keep b o hb e⟩
  cases hk : K.lookup a with
  | some o =>
    have e := KX a o hk
    rw [ha] at e
    cases e
    refine core (fun b => if b = Pt then some (.tbl #[]) else none) ⟨if_pos rfl, fun b hb => .inl (if_neg hb)⟩ (.inr ⟨_, vs.toArray, _, hk, rfl, rfl, rfl, by rw [List.size_toArray, lenV]; exact hl, by simpa using rv⟩) (fun b u z => ?_) (fun b z => ?_) fun z => ?_
    · by_cases hb : b = Pt
      · have z' := (if_pos hb).symm.trans z
        cases z'
        subst hb
        exact hPt
      · have z' := (if_neg hb).symm.trans z
        cases z'
    · by_cases hb : b = Pt
      · exact .inr hb
      · exact absurd (if_neg hb) z
    · exact absurd (if_neg haP) z
  | none =>
    refine core (fun b => if b = a then some (.frz { cls := .type "list", data := .seq vs.toArray } (.lst (ns.map V.int))) else if b = Pt then some (.tbl #[]) else none) ⟨(if_neg haP.symm).trans (if_pos rfl), fun b hb => ?_⟩ (.inl (.inr ⟨{ cls := .type "list", data := .seq vs.toArray }, if_pos rfl⟩)) (fun b u z => ?_) (fun b z => ?_) fun _ => hk
    · by_cases hba : b = a
      · exact .inr ⟨_, _, if_pos hba⟩
      · exact .inl ((if_neg hba).trans (if_neg hb))
    · by_cases hba : b = a
      · have z' := (if_pos hba).symm.trans z
        cases z'
        subst hba
        exact ⟨ha, by rw [List.length_map]; exact hl, vs, _, rv, ha⟩
      · have z' := (if_neg hba).symm.trans z
        by_cases hb : b = Pt
        · have z'' := (if_pos hb).symm.trans z'
          cases z''
          subst hb
          exact hPt
        · have z'' := (if_neg hb).symm.trans z'
          cases z''
    · by_cases hba : b = a
      · exact .inl hba
      · by_cases hb : b = Pt
        · exact .inr hb
        · exact absurd ((if_neg hba).trans (if_neg hb)) z
theorem walk_ofT {l : PySem.W.OpenLaw} {n k : Nat} {q : Program} {loose : List Str} {XP : (Str → Option Value) → Heap → Prop} {YP : World → Heap → Prop} {d : DefRec} {K : Params → PySem.W.Frag} {CX : World → CXT} {sp : World → Sp} {x : Str} {Pt : Addr}
    (hn : l.most = some n) (hn2 : n ≤ sizeLine) (hdf : d.params.defaults = []) (hr : Room k callerA)
    (hY : ∀ (w : World) (h : Heap), YP w h → (K w.params).In h) (hYT : ∀ (w : World) (h : Heap), YP w h → h.get? Pt = some (PySem.W.tabObj #[])) (hKP : ∀ (w : World), (K w.params).lookup Pt = none)
    (F : ∀ (w : World) (mg : Str → Option Value) (fa : Addr) (h : Heap), (K w.params).In h → h.Ns mainGlobals mg → mg d.name = some (.ref fa) →
      ∃ fd : FuncData, (∃ c, PySem.W.codeHdIn (K w.params) c Pt = true) ∧ (∀ (s : Shared) (u : Value), BindsTo s fd ⟨[u], []⟩ [(x, u)]) ∧
        ∀ base : Heap, (K w.params).In base → base.Ns mainGlobals mg → base.BuiltinsAt mg Pt → FnOk l.prog w (K w.params) mg base (CX w) k fa fd [x] (sp w))
    (hsp : ∀ (w : World) (H : Hp) (a : Addr) (ns : List Int), ns.length ≤ n → OnlyT Pt H → SqL (K w.params) H a (ns.map V.int) → sp w [.ref a] H (fun v _ => v = .bl true) fun _ _ _ => False)
    (hCX : ∀ (w : World) (H : Hp) (s : Shared) (e : Value) (s' : Shared), CX w [] H s (fun _ _ _ => False) e s' → False) :
    PySem.W.WalkO q loose XP YP l.row.toRowW d [] (fun f vs => PySem.call f vs) := by
  refine Att.attach_call hn hdf fun w s₀ s₁ mg mb fa o pm cd doc a vs ns G Y ho hd hcd hmg hobj hints hlen hg => ?_
  have KX := hY w _ Y
  have hPt := hYT w _ Y
  have hBi : s₁.heap.BuiltinsAt mg Pt := by
    obtain ⟨bm, ob, b1, b2, b3, b4, b5, b6⟩ := G.T.bmain
    refine ⟨bm, ob, b1, b2, fun z => ?_, fun z => ?_, b3, b4, b5, b6⟩
    · obtain ⟨o', es, ep, e, hd', _⟩ := G.T.g
      rw [z, e] at b3
      cases b3
      rw [hd'] at b6
      cases b6
    · rw [z, hPt] at b3
      cases b3
      cases b4
  obtain ⟨fd, ⟨c, hC⟩, hb, hF⟩ := F w mg fa _ KX G.T.g hmg
  have hCd := PySem.W.codeHd_of_K KX hC
  exact law_callT KX G.T.g G.T.b G.T.builtins G.T.nolimit hg hobj hints (Nat.le_trans hlen hn2) hr hPt hCd (hKP w) hBi hF hb (fun H hO hS => hsp w H a ns hlen hO hS) fun H e s' => hCX w H s₁ e s'
theorem Fun.okC {P : Program} {w : World} {K : PySem.W.Frag} {mg : Str → Option Value} {base : Heap} {x qual : Str} {st : Stmt} {f c : Addr} {fd : FuncData} {N ps : List Str} {k : Nat} {sp : Sp} (F : Fun K x qual st f fd) (hc : fd.code = .ref c) (S : FnScope N ps (defScope st)) (len : ∀ vs H Q E, sp vs H Q E → vs.length = ps.length)
    (hbody : ∀ (A : Around) (outer : List Env) (s : Shared) (H : Hp) (vs : List V) (Q : VK) (E : XK), Room k (A.deeper (envOfC qual (defScope st) s.heap.objs.size f (.ref c))) → sp vs H Q E →
      ∃ t, PSs (cxOf CX0 P w K mg base N qual (defScope st) f (.ref c) A outer s H E).nox (defBody st) t ∧ t { nx := fun _ H' => Q .non H', rt := Q } (start N vs) H) : FnOk P w K mg base CX0 (k + 1) f fd ps sp := by
  obtain ⟨oc, od, kV, doc, pm, an, cdv, ct, osl, rfl, lk, hcd⟩ := F.ex
  obtain rfl : cdv = .ref c := hc
  refine fn_of lk hcd S len fun A outer s H vs Q E hr hsp => ?_
  obtain ⟨t, h, q⟩ := hbody A outer s H vs Q E hr hsp
  exact ⟨t, h.nox, q⟩
structure LamB (K : PySem.W.Frag) (mg : Str → Option Value) (base : Heap) (c P : Addr) : Prop where
  hd : PySem.W.CodeHd base c P
  bi : base.BuiltinsAt mg P
  gP : mainGlobals ≠ P
theorem LamT.of {P : Addr} {line col : Nat} {qual : Str} {H H' : Hp} (h : LamT P line col qual H) (e : ∀ b, (∃ ps, H b = some (.tbl ps)) ∨ (∃ φ, H b = some (.ext φ)) → ∀ o, H b = some o → H' b = some o) : LamT P line col qual H' := by
  rcases h with h | ⟨c', h1, h2⟩
  · exact .inl (e P (.inl ⟨_, h⟩) _ h)
  · exact .inr ⟨c', e P (.inl ⟨_, h1⟩) _ h1, e c' (.inr ⟨_, h2⟩) _ h2⟩
theorem LamT.same {P : Addr} {line col : Nat} {qual : Str} {H H' : Hp} (h : LamT P line col qual H) (e : Same H H') : LamT P line col qual H' := h.of fun b _ o q => e b o q
theorem LamT.but {P d : Addr} {line col : Nat} {qual : Str} {H H' : Hp} {u : HO} (h : LamT P line col qual H) (e : ExtBut d H H') (hd : H d = some u) (h1 : ∀ ps, u ≠ .tbl ps) (h2 : ∀ φ, u ≠ .ext φ) : LamT P line col qual H' := h.of fun b hb o q => e b o (fun z => by
  subst z
  rw [hd] at hb
  rcases hb with ⟨ps, hb⟩ | ⟨φ, hb⟩
  · exact h1 ps (Option.some.inj hb)
  · exact h2 φ (Option.some.inj hb)) q
end L2
set_option Elab.async false
set_option linter.all false
set_option maxRecDepth 100000
set_option maxHeartbeats 4000000
namespace L2
open PySem PySem.Spec PyProof.Rows
section
variable {X : Cx} {K : PySem.W.Frag}
end
end L2
set_option Elab.async false
set_option linter.all false
set_option maxRecDepth 100000
set_option maxHeartbeats 4000000
namespace L2
open PySem PySem.Spec PyProof.Rows
section
variable {ns A B : List Str} {pA pB S : List (Str × Str)}
end
end L2
set_option Elab.async false
set_option linter.all false
set_option maxRecDepth 100000
set_option maxHeartbeats 4000000
namespace L2
open PySem PySem.Spec PyProof.Rows
noncomputable abbrev lam2P (p : Pos) : Arguments := { posonlyargs := [], args := [{ arg := "name", annotation := none, pos := p }], vararg := none, kwonlyargs := [], kw_defaults := [], kwarg := none, defaults := [] }
noncomputable abbrev lam2B (p1 p2 p3 p4 p5 p6 : Pos) : Expr := .UnaryOp .USub (.Call (.Name "len" p1) [.Subscript (.Name "reach" p2) (.Name "name" p3) p4] [] p5) p6
noncomputable abbrev lam2S : Scope := { kind := .function, names := [("name", .local), ("reach", .free), ("len", .globalImplicit)], isGenerator := false, isCoroutine := false, more := [] }
section
variable {prog : Program} {w : World} {A : Around} {E : Value → Shared → Prop} {s : Shared} {Q : Value → Shared → Prop}
theorem lam2_call {q c' r rr cc : Addr} {qual z : Str} {pm ctv : Value} {tz : Tok} {p p1 p2 p3 p4 p5 p6 : Pos} {mg mb : Str → Option Value} {vs vs2 : List (Key × Value)} (hroom : A.depth < recursionLimit)
    (ho : s.heap.get? q = some (PySem.W.kla_obj "<lambda>" qual (lam2P p) (lam2B p1 p2 p3 p4 p5 p6) lam2S [("reach", cc)] pm c' ctv)) (hcd : s.heap.CodeRec (.ref c') qual) (lim : s.heap.NoLimit)
    (hg : s.heap.Ns mainGlobals mg) (hm : mg "len" = none) (hb : s.heap.Ns builtinsNs mb) (hmb : mb "len" = some (.builtin "len"))
    (hcell : s.heap.IsCell cc (some (.ref r))) (hr : s.heap.DictOf (mixKind prog w) r vs) (hget : valueAt vs (Sum.inr z : Key) = some (.ref rr)) (hrow : s.heap.DictOf (mixKind prog w) rr vs2) (hsys : (rr == sysModules) = false) (h63 : vs2.length < 2 ^ 63)
    (h : ∀ u h' tk, (∀ b o, s.heap.get? b = some o → h'.get? b = some o) → Q (.int (-(vs2.length : Int)) u) { s with heap := h', toks := tk }) :
    wpAny (model prog w) A (call (.ref q) [.str z tz]) Q E s := by
  refine wpAny_call (PySem.W.kla_callFunE hroom ho rfl rfl rfl rfl hcd ?_)
  rw [show bindArgs (PySem.W.kla_fn "<lambda>" qual (lam2P p) (lam2B p1 p2 p3 p4 p5 p6) lam2S [("reach", cc)] pm (.ref c') ctv) ⟨[.str z tz], []⟩ = (pure [(("name" : Str), Value.str z tz)] : Sem (List (Str × Value))) from rfl]
  refine wpAny_pure (wpAny_newFunctionEnv (fun y hy => ?_) (fun y hy => ?_) (fun h₁ hns hsb => ⟨lim.fresh _ hsb, ?_⟩) rfl)
  · simp only [List.mem_cons, List.not_mem_nil, or_false] at hy
    rcases hy with rfl | rfl | rfl <;> simp
  · have : y = (("name" : Str), Value.str z tz) := by simpa using hy
    rw [this]
    rfl
  · have hk₁ : ∀ b o, s.heap.get? b = some o → h₁.get? b = some o := fun b o e => hsb.extBut b o (Nat.ne_of_lt (Heap.lt_size e)) (Heap.get?_push_of_some _ e)
    refine PySem.W.kla_codeExpr ?_
    have dk : ∀ {a : Addr} {xs : List (Key × Value)}, s.heap.DictOf (mixKind prog w) a xs → h₁.DictOf (mixKind prog w) a xs := fun {a xs} ⟨o, es, ep, e, r⟩ => ⟨o, es, ep, hk₁ _ _ e, r⟩
    have hcell' : h₁.IsCell cc (some (.ref r)) := by
      obtain ⟨o, e1, e2⟩ := hcell
      exact ⟨o, hk₁ _ _ e1, e2⟩
    refine UnaryOp_ ?_
    refine wpAny_Call_Name_kw (Calls.Name_function_global rfl rfl (Calls.loadGlobal_builtin (hg.keeps hk₁) hm (hb.keeps hk₁) hmb ?_) rfl)
    refine PyProof.Rows.callWith_builtin1 ?_ rfl rfl
    refine Calls.spliced_cons (subD_of PySem.F.slot_dict_getitem.lookup (fun _ _ => rfl) (wpAny_Name (wpAny_loadName_free rfl rfl rfl hcell' (wpAny_Name (wpAny_loadName_local rfl rfl hns rfl ⟨(dk hr).typeIs, ?_⟩) rfl)) rfl))
    refine wpAny_getItem_of (kV_is (k := Sum.inr z) ⟨tz, rfl⟩) (dk hr).mapOf hget ?_
    refine Calls.spliced_nil ?_
    refine call_len_dict hsys (dk hrow) (by omega) ?_
    exact neg_int (h _ h₁ _ hk₁)
end
end L2
set_option Elab.async false
set_option linter.all false
set_option maxRecDepth 100000
set_option maxHeartbeats 4000000
namespace L2
open PySem PySem.Spec PyProof.Rows
section
variable {X : Cx} {pins : List (Addr × Obj)} {σ : List (Option V)} {H : Hp} {s : Shared} {h' : Heap}
theorem ObjOk.got {P : Program} {w : World} {h : Heap} {a : Addr} {o : HO} (x : ObjOk P w H h a o) : ∃ u, h.get? a = some u := by
  cases o with
  | lst xs => obtain ⟨_, _, _, _, e⟩ := x; exact ⟨_, e⟩
  | tup xs => obtain ⟨_, _, _, o, e, _⟩ := x; exact ⟨_, e⟩
  | dK kvs => obtain ⟨_, _, _, _, o, _, _, e, _⟩ := x; exact ⟨_, e⟩
  | dT kvs => obtain ⟨_, _, _, _, o, _, _, e, _⟩ := x; exact ⟨_, e⟩
  | set S n => obtain ⟨o, _, _, _, e, _⟩ := x; exact ⟨_, e⟩
  | ins C dx fs => obtain ⟨_, _, _, e, _⟩ := x; exact ⟨_, e⟩
  | own y => exact x
  | xd fs => obtain ⟨_, ⟨_, _, _, e, _⟩, _⟩ := x; exact ⟨_, e⟩
  | rng lo hi => obtain ⟨_, _, _, e⟩ := x; exact ⟨_, e⟩
  | frz ob u => obtain ⟨e, _⟩ := x; exact ⟨_, e⟩
  | tbl ps => exact ⟨_, x⟩
  | met f y => exact ⟨_, x⟩
  | ext φ => exact x.2.1
theorem Inv.nsedL {t' : Nat} {a : Addr} {ob : HO} (I : Inv X pins σ H s) (k : ∀ b u, b ≠ X.env.locals → s.heap.get? b = some u → h'.get? b = some u) {m : Str → Option Value} (hlk : ∀ (i : Nat) (x : Str) (v : V), X.N[i]? = some x → σ[i]? = some (some v) → Vis X.env.scope x → ∃ u, RelV v u ∧ Look X.env s.heap m x u) (hns : h'.Ns X.env.locals m) (ha : s.heap.get? a = none) (new : ObjOk X.prog X.w (upd H a ob) h' a ob) : Inv X pins σ (upd H a ob) { s with heap := h', toks := t' } := by
  have low : ∀ b o, X.s₀.heap.get? b = some o → b ≠ X.env.locals := fun b o q e => by
    have h1 := Heap.lt_size q
    have h2 := I.ok.above
    rw [e] at h1
    exact absurd (Nat.lt_of_lt_of_le h1 h2) (Nat.lt_irrefl _)
  have han : H a = none := by
    cases e : H a with
    | none => rfl
    | some o =>
      obtain ⟨u, q⟩ := (I.hok a o e).got
      rw [ha] at q
      cases q
  have nea : ∀ {b : Addr} {o : Obj}, s.heap.get? b = some o → b ≠ a := fun {b o} e z => by
    rw [z, ha] at e
    cases e
  have net : ∀ {b : Addr} {o : HO}, H b = some o → b ≠ a := fun {b o} e z => by rw [z, han] at e; cases e
  have hLa : X.env.locals ≠ a := by
    obtain ⟨m, ⟨o, es, ep, e, _⟩, _⟩ := I.loc
    exact nea e
  refine ⟨I.ok, I.os, I.bare, ⟨fun b o q n hf hx => k b o (low b o q) (I.base.keep b o q n hf hx), fun b o q n hf hx => ?_, fun b o q n hx => ?_, fun b o q hx => ?_, fun b xs q => ?_, fun b o u q => ?_, fun b ps q => ?_⟩, ?_, fun x c e => ?_, ?_, fun x c e => ?_, fun p hp => ?_, fun b o e => ?_, I.len⟩
  · obtain ⟨sl, e⟩ := I.base.slot b o q n hf hx
    exact ⟨sl, k b _ (low b o q) e⟩
  · have hb := I.base.free b o q n hx
    obtain ⟨o', e⟩ := I.base.there b o q hx
    rw [upd_ne (nea e)]
    exact hb
  · obtain ⟨o', e⟩ := I.base.there b o q hx
    exact ⟨o', k b _ (low b o q) e⟩
  · have := I.base.tups b xs q
    rw [upd_ne (net this)]
    exact this
  · have := I.base.frzs b o u q
    rw [upd_ne (net this)]
    exact this
  · obtain ⟨more, e⟩ := I.base.tbls b ps q
    exact ⟨more, by rw [upd_ne (net e)]; exact e⟩
  · refine ⟨m, hns, fun i x v a b c => ?_⟩
    obtain ⟨u, r, l⟩ := hlk i x v a b c
    refine ⟨u, r, ?_⟩
    rcases l with l | ⟨l1, c, l2, l3⟩
    · exact .inl l
    · obtain ⟨o, e1, e2⟩ := l3
      exact .inr ⟨l1, c, l2, o, k c o (I.cne x c l2) e1, e2⟩
  · obtain ⟨v, o, e1, e2⟩ := I.cell x c e
    exact ⟨v, o, k c o (I.cne x c e) e1, e2⟩
  · rw [upd_ne hLa]
    exact I.free
  · obtain ⟨v, o, e1, e2⟩ := I.cell x c e
    rw [upd_ne (nea e1)]
    exact I.freeC x c e
  · obtain ⟨h1, h2, h3, h4, h5⟩ := I.pin p hp
    exact ⟨k _ _ h3 h1, by rw [upd_ne (nea h1)]; exact h2, h3, h4, h5⟩
  · by_cases z : b = a
    · subst z
      rw [upd_same] at e
      cases e
      exact new
    · rw [upd_ne z] at e
      refine (I.hok b o e).stay (fun d u hd q => k d u (fun y => ?_) q) (fun d q => by rw [upd_ne (net q)]; exact q) fun d xs q => by rw [upd_ne (net q)]; exact q
      have hfr := I.free
      rcases hd with rfl | hd
      · rw [y] at e
        rw [e] at hfr
        cases hfr
      · rw [y, hfr] at hd
        cases hd
end
end L2
set_option Elab.async false
set_option linter.all false
set_option maxRecDepth 100000
set_option maxHeartbeats 4000000
namespace L2
open PySem PySem.Spec PyProof.Rows
section
variable {X : Cx} {pins : List (Addr × Obj)} {σ : List (Option V)} {H : Hp} {s : Shared}
noncomputable def rSortQ : Addr → Hp → VK → Prop := fun r H Q => ∃ kvs ns, ∃ sz : Str → Nat, Rd H r (.dK kvs) ∧ kvs.map (·.1) = ns.map (fun x => (Sum.inr x : Key)) ∧ ns.length < 64 ∧ (∀ x ∈ ns, ∃ a kvs2, valV kvs (Sum.inr x : Key) = some (.ref a) ∧ Rd H a (.dK kvs2) ∧ kvs2.length = sz x) ∧
  ∀ p (ms : List Str), H p = none → ms.Perm ns → ms.Pairwise (fun x y => sz y ≤ sz x) → Q (.ref p) (upd H p (.lst (ms.map V.str)))
theorem strs_of_keys : ∀ {ns : List Str} {out : List Value}, out.length = ns.length → (∀ (i : Nat) v, out[i]? = some v → ∃ n t, ns[i]? = some n ∧ v = Value.str n t) → Vals (ns.map V.str) out
  | [], [], _, _ => .nil
  | [], _ :: _, h, _ => by simp at h
  | _ :: _, [], h, _ => by simp at h
  | n :: ns, v :: out, h, q => by
    obtain ⟨n', t, e1, rfl⟩ := q 0 v rfl
    cases e1
    exact .cons ⟨t, rfl⟩ (strs_of_keys (by simpa using h) fun i u hu => q (i + 1) u hu)
theorem ksk_strs {sz : Str → Nat} : ∀ {ns : List Str} {vs : List Value}, Vals (ns.map V.str) vs → ∃ qs : List (Str × Value), qs.map (·.1) = ns ∧ (ns.map fun x => (-(sz x : Int))).zip vs = qs.map (fun q => (-(sz q.1 : Int), q.2)) ∧ ∀ q ∈ qs, RelV (.str q.1) q.2
  | [], vs, h => by
    cases h
    exact ⟨[], rfl, rfl, fun q h => by cases h⟩
  | n :: ns, vs, h => by
    cases h with
    | cons r h =>
      obtain ⟨qs, e1, e2, e3⟩ := ksk_strs (sz := sz) h
      refine ⟨(n, _) :: qs, by rw [List.map_cons, e1], by rw [List.map_cons, List.zip_cons_cons, e2]; rfl, fun q hq => ?_⟩
      rcases List.mem_cons.mp hq with rfl | hq
      · exact r
      · exact e3 q hq
theorem ksk_out {sz : Str → Nat} {ns : List Str} {vs out : List Value} (hv : Vals (ns.map V.str) vs) (h : KskOut false (ns.map fun x => (-(sz x : Int))) vs out) : ∃ ms : List Str, ms.Perm ns ∧ ms.Pairwise (fun x y => sz y ≤ sz x) ∧ Vals (ms.map V.str) out := by
  obtain ⟨ps, p1, rfl, p3⟩ := h
  obtain ⟨qs, e1, e2, e3⟩ := ksk_strs (sz := sz) hv
  rw [e2] at p1
  -- the sorted pairs come out of the names' pairs
  obtain ⟨rs, hr1, hr2⟩ : ∃ rs : List (Str × Value), rs.Perm qs ∧ ps = rs.map fun q => (-(sz q.1 : Int), q.2) := by
    clear p3 e2 e1 e3 hv
    generalize hF : (fun q : Str × Value => ((-(sz q.1 : Int)), q.2)) = F at p1 ⊢
    have aux : ∀ {a b : List (Int × Value)}, a.Perm b → ∀ {qs : List (Str × Value)}, b = qs.map F → ∃ rs : List (Str × Value), rs.Perm qs ∧ a = rs.map F := by
      intro a b hp
      induction hp with
      | nil =>
        intro qs e
        exact ⟨qs, .refl _, e⟩
      | @cons x l1 l2 _ ih =>
        intro qs e
        match qs, e with
        | [], e => cases e
        | q :: qs, e =>
          obtain ⟨e1, e2⟩ := List.cons.inj e
          obtain ⟨rs, h1, h2⟩ := ih e2
          exact ⟨q :: rs, h1.cons _, by rw [List.map_cons, e1, h2]⟩
      | @swap x y l =>
        intro qs e
        match qs, e with
        | [], e => cases e
        | [q], e => cases (List.cons.inj e).2
        | q1 :: q2 :: qs, e =>
          obtain ⟨e1, e2⟩ := List.cons.inj e
          obtain ⟨e2, e3⟩ := List.cons.inj e2
          exact ⟨q2 :: q1 :: qs, .swap .., by rw [List.map_cons, List.map_cons, e1, e2, e3]⟩
      | trans _ _ ih1 ih2 =>
        intro qs e
        obtain ⟨r2, h1, h2⟩ := ih2 e
        obtain ⟨r1, h3, h4⟩ := ih1 h2
        exact ⟨r1, h3.trans h1, h4⟩
    exact aux p1 rfl
  subst hr2
  refine ⟨rs.map (·.1), e1 ▸ hr1.map _, ?_, ?_⟩
  · rw [List.pairwise_map] at p3 ⊢
    refine p3.imp fun {a b} h => ?_
    simp only [Bool.false_eq_true, if_false] at h
    omega
  · rw [List.map_map, List.map_map]
    have e3' : ∀ q ∈ rs, RelV (.str q.1) q.2 := fun q hq => e3 q (hr1.mem_iff.mp hq)
    clear p1 p3 hr1 e1 e2 e3 hv
    induction rs with
    | nil => exact .nil
    | cons q rs ih => exact .cons (e3' q (List.mem_cons_self ..)) (ih fun q' h => e3' q' (List.mem_cons_of_mem _ h))
end
end L2
set_option Elab.async false
set_option linter.all false
set_option maxRecDepth 100000
set_option maxHeartbeats 4000000
namespace L2
open PySem PySem.Spec PyProof.Rows
section
variable {X : Cx} {pins : List (Addr × Obj)} {σ : List (Option V)} {H : Hp} {s : Shared}
theorem dk_rdX {P : Program} {w : World} {H : Hp} {h : Heap} (hok : HOk P w H h) {a : Addr} {kvs : List (Key × V)} (r : Rd H a (.dK kvs)) : (∃ ob, H a = some ob) ∧ ObjOk P w H h a (.dK kvs) := by
  rcases r with e | ⟨o, e⟩
  · exact ⟨⟨_, e⟩, hok _ _ e⟩
  · exact ⟨⟨_, e⟩, (hok _ _ e).2⟩
theorem sort_lam {Q : VK} {r q c' cc : Addr} {qual : Str} {pm ctv : Value} {p p1 p2 p3 p4 p5 p6 : Pos} (hc : X.calm = true) (hroom : X.A.in1.in1.depth < recursionLimit) (hlen : X.mg "len" = none) (I : Inv X pins σ H s)
    (ho : s.heap.get? q = some (PySem.W.kla_obj "<lambda>" qual (lam2P p) (lam2B p1 p2 p3 p4 p5 p6) lam2S [("reach", cc)] pm c' ctv)) (hcd : s.heap.CodeRec (.ref c') qual) (hcell : s.heap.IsCell cc (some (.ref r))) (h : rSortQ r H Q) :
    wpAny (model X.prog X.w) X.A (call (.builtin "sorted") [.ref r] [(Str.ofString "key", .ref q)]) (EP X pins σ Q) X.xe s := by
  obtain ⟨kvs, ns, sz, hd, hk, hz, hrow, hq⟩ := h
  obtain ⟨⟨obr, her⟩, _, hs, vs, rel, dd⟩ := dk_rdX I.hok hd
  obtain ⟨ep, hat⟩ := dd.dictAt
  have hrl := rel.length
  have hkl : kvs.length = ns.length := by have := congrArg List.length hk; simpa using this
  obtain ⟨m, hn, hlk⟩ := I.loc
  have F : Fr X.base X.env.locals s.heap m := ⟨hn, I.bk, Nat.le_trans I.ok.bsz I.ok.above⟩
  have keep : ∀ {h : Heap} {more : List (Addr × Obj)}, Fr X.base X.env.locals h m → News X.base X.env.locals h (allNews X.base s.heap X.env.locals ++ more) → ∀ b u, b ≠ X.env.locals → s.heap.get? b = some u → h.get? b = some u := fun F' N' => allNews_keep I.bk F'.keep N'
  have notL : ∀ {c : Addr} {o : Obj}, s.heap.get? c = some o → (∀ m, ¬ s.heap.Ns c m) → c ≠ X.env.locals := fun {c o} e1 e2 z => e2 m (z ▸ hn)
  have trk : ∀ {c : Addr} {u : HO}, H c = some u → c ≠ X.env.locals := fun {c u} e z => by rw [z, I.free] at e; cases e
  have notD : ∀ {c : Addr} {o : Obj}, s.heap.get? c = some o → (∀ es ep, o.data ≠ .dict es ep) → c ≠ X.env.locals := fun {c o} e1 e2 z => by
    obtain ⟨oL, es, ep, e4, e5⟩ := hn
    rw [z, e4] at e1
    cases e1
    exact e2 es ep e5.1
  refine call_function_entry_kw kind_sorted plain_sorted entry_sorted (ksk_s1 _ _) ?_
  unfold Builtin.«sorted»
  refine wpAny_bind (m := checkCount "sorted" 1 1 _) (wpAny_pure ?_)
  refine wpAny_bind (PySem.W.kdu_collect (PySem.W.kdl_dict (knd := mixKind X.prog X.w) (kvs := vs) (ep := ep) hs) (by simpa using I.ok.hd hc) hat (by rw [sizeLine_eq]; omega) fun h1 tk acc k1 hacc => ?_)
  have hl : acc.toList.length = vs.length := by rw [Array.length_toList]; exact hacc.1
  refine wpAny_bind (wpAny_newList ?_ (by rw [hl, sizeLine_eq]; omega))
  have hV : Vals (ns.map V.str) acc.toList := strs_of_keys (by omega) fun i v hv => by
    obtain ⟨k, x, hkx, hkv⟩ := hacc.2 i v (by rw [← Array.getElem?_toList]; exact hv)
    have hk' : (kvs.map (·.1))[i]? = some k := by
      rw [rel.keys, List.getElem?_map, hkx]
      rfl
    rw [hk, List.getElem?_map] at hk'
    obtain ⟨n, hn', rfl⟩ := Option.map_eq_some_iff.mp hk'
    have hkv : keyIs (Sum.inr n) v = true := hkv
    rcases keyIs_shape hkv with ⟨i', t, e1, _⟩ | ⟨x', t, e1, rfl⟩
    · cases e1
    · cases e1
      exact ⟨n, t, hn', rfl⟩
  have hnew : (h1.push (seqObj "list" acc.toList.toArray 0)).get? h1.objs.size = some (seqObj "list" acc.toList.toArray 0) := Heap.get?_push_size _ rfl
  have k2 : ∀ b o, s.heap.get? b = some o → (h1.push (seqObj "list" acc.toList.toArray 0)).get? b = some o := fun b o e => Heap.get?_push_of_some _ (k1 b o e)
  have hno : s.heap.get? h1.objs.size = none := by
    cases e : s.heap.get? h1.objs.size with
    | none => rfl
    | some o =>
      have := k1 _ _ e
      rw [Heap.get?_none_of_le (Nat.le_refl _)] at this
      cases this
  have hnl : h1.objs.size ≠ X.env.locals := fun z => by
    obtain ⟨oL, es, ep, e4, e5⟩ := hn
    rw [← z, hno] at e4
    cases e4
  have hnb : X.base.get? h1.objs.size = none := by
    cases e : X.base.get? h1.objs.size with
    | none => rfl
    | some o =>
      rw [I.bk _ _ e] at hno
      cases hno
  obtain ⟨mb, hb1, hb2⟩ := I.mod.blt
  have hlen2 : (ns.map fun x => (-(sz x : Int))).length = acc.toList.length := by rw [List.length_map, hl]; omega
  refine wpAny_bind (wpAny_holding (wpAny_call_entry_kw PyProof.Rows.slot_list_sort ⟨_, hnew, rfl⟩ PyProof.Rows.entry_list_sort ?body (ksk_l1 _ _)))
  case body =>
    show wpAny (model X.prog X.w) X.A.in1.in1 (Builtin.«list.sort» ⟨[.ref h1.objs.size], [(Str.ofString "key", .ref q)]⟩) _ _ _
    rw [ksk_t1]
    refine ksk_sort (s := { s with heap := h1.push (seqObj "list" acc.toList.toArray 0), toks := tk }) (kz := ns.map fun x => (-(sz x : Int))) (news := allNews X.base s.heap X.env.locals) (F.kept k2) (News.grown news_all k2) hnew hnl hnb (fun p hp z => ?_) hlen2 (by omega) (fun i v k hv hk h tk own F' N' => ?_) fun h' tk out c F' N' k' => ⟨_, rfl, ?_⟩
    · have := (news_all p hp).1
      rw [z, hno] at this
      cases this
    · rw [List.getElem?_map] at hk
      obtain ⟨x, hx, rfl⟩ := Option.map_eq_some_iff.mp hk
      obtain ⟨u, hu, ru⟩ := hV.get (i := i) (x := V.str x) (by rw [List.getElem?_map, hx]; rfl)
      rw [hv] at hu
      cases hu
      obtain ⟨t, rfl⟩ := ru
      obtain ⟨a, kvs2, ha1, ha2, ha3⟩ := hrow x (List.mem_of_getElem? hx)
      obtain ⟨⟨ob2, he2⟩, hz2, hs2, vs2, rel2, dd2⟩ := dk_rdX I.hok ha2
      have hv1 := rel.val (Sum.inr x : Key)
      rw [ha1] at hv1
      obtain ⟨y, hy, ry⟩ : ∃ y, valueAt vs (Sum.inr x : Key) = some y ∧ RelV (.ref a) y := by
        cases e : valueAt vs (Sum.inr x : Key) with
        | none => rw [e] at hv1; cases hv1
        | some y => rw [e] at hv1; exact ⟨y, rfl, hv1⟩
      cases ry
      have dk : ∀ {b : Addr} {ob : HO} {xs : List (Key × Value)}, H b = some ob → s.heap.DictOf (mixKind X.prog X.w) b xs → h.DictOf (mixKind X.prog X.w) b xs := fun {b ob xs} e ⟨o, es, ep, e1, z⟩ => ⟨o, es, ep, keep F' N' _ _ (trk e) e1, z⟩
      have hl2 := rel2.length
      rw [← ha3, hl2]
      refine lam2_call (s := { s with heap := h, toks := tk }) (mg := X.mg) (mb := mb) hroom (keep F' N' _ _ (notD ho fun es ep z => by cases z) ho) ?_ (I.mod.nolimit.keeps F'.keep) (I.mod.glob.keeps F'.keep) hlen (hb1.keeps F'.keep) ((hb2 "len" (by decide)).trans PyProof.Rows.Boot.«len») ?_ (dk her dd) hy (dk he2 dd2) hs2 (by rw [← hl2]; rw [sizeLine_eq] at hz2; omega) fun u h2 tk2' hk2 => ?_
      · obtain ⟨c, oc, vs, tq, e0, e1, e2, e3⟩ := hcd
        cases e0
        exact ⟨c', oc, vs, tq, rfl, keep F' N' _ _ (notD e1 fun es ep z => by rw [e2] at z; cases z) e1, e2, e3⟩
      · obtain ⟨o, e1, e2⟩ := hcell
        exact ⟨o, keep F' N' _ _ (notD e1 fun es ep z => by rw [e2] at z; cases z) e1, e2⟩
      · exact KskEnd.intro ⟨F'.ns.keeps hk2, fun b o e => hk2 b o (F'.keep b o e), F'.above⟩ (fun p hp => ⟨hk2 _ _ (N' p hp).1, (N' p hp).2⟩) fun p hp => hp
    · obtain ⟨ms, hp1, hp2, hp3⟩ := ksk_out hV k'
      have hH : H h1.objs.size = none := by
        cases e : H h1.objs.size with
        | none => rfl
        | some o =>
          obtain ⟨u, q⟩ := (I.hok _ o e).got
          rw [hno] at q
          cases q
      refine wpAny_pure ⟨_, rfl, .ref h1.objs.size, _, ?_, rfl, hq _ ms hH hp1 hp2⟩
      refine I.nsedL (keep (more := [(h1.objs.size, seqObj "list" out c)]) F' fun p hp => ?_) hlk F'.ns hno ?_
      · rcases List.mem_append.mp hp with hp | hp
        · exact N' p (List.mem_cons_of_mem _ hp)
        · rw [List.mem_singleton.mp hp]
          exact N' _ (List.mem_cons_self ..)
      · have := (N' _ (List.mem_cons_self ..)).1
        exact ⟨by rw [List.length_map, hp1.length_eq, sizeLine_eq]; omega, out.toList, c, hp3, by simpa using this⟩
end
end L2
set_option Elab.async false
set_option linter.all false
set_option maxRecDepth 100000
set_option maxHeartbeats 4000000
namespace L2
open PySem PySem.Spec PyProof.Rows
section
variable {X : Cx} {pins : List (Addr × Obj)} {σ : List (Option V)} {H : Hp} {s : Shared}
theorem Inv.cellIs {i : Nat} {x : Str} {cc r : Addr} (I : Inv X pins σ H s) (hi : X.N[i]? = some x) (hk : X.env.kindOf x = some .cell) (hl : X.env.cells.lookup x = some cc) (hσ : σ[i]? = some (some (.ref r))) : s.heap.IsCell cc (some (.ref r)) := by
  obtain ⟨m, _, hlk⟩ := I.loc
  obtain ⟨u, ru, lk⟩ := hlk i x _ hi hσ (.inr (.inl hk))
  cases ru
  rcases lk with ⟨z, _⟩ | ⟨_, c, h1, h2⟩
  · rw [hk] at z
    cases z
  · rw [hl] at h1
    cases h1
    exact h2
noncomputable def tSortQ (P : Addr) (line col : Nat) (qual : Str) (i : Nat) (t : TA) : TE := fun σ H Q => ∃ r, σ[i]? = some (some (.ref r)) ∧ t σ H fun vs H1 => vs = [.ref r] ∧ LamT P line col qual H1 ∧ ∀ H2, ExtBut P H1 H2 → LamT P line col qual H2 → rSortQ r H2 Q
theorem pe_sortlam {i : Nat} {c P : Addr} {ea : Expr} {t : TE} {p p0 p1 p2 p3 p4 p5 p6 pl p7 pos : Pos} (L : LamCx X c P) (hc : X.calm = true) (hroom : X.A.in1.in1.depth < recursionLimit) (hg : Gl X "sorted") (hm : X.mg "sorted" = none) (hlen : X.mg "len" = none) (hi : X.N[i]? = some ("reach" : Str)) (hk : X.env.kindOf "reach" = some .cell) (ha : PA X [ea] (tCons t tNil))
    (he : backTo pos (starEach [ea] X.env) = (false, eval ea X.env) :: backTo pos (starEach [] X.env) := by with_unfolding_all rfl) (hpl : (backTo pos (starEach [ea] X.env)).any (·.1) = false := by with_unfolding_all rfl) :
    PE X (.Call (.Name "sorted" p) [ea] [⟨some "key", .Lambda (lam2P p0) (lam2B p1 p2 p3 p4 p5 p6) lam2S pl, p7⟩] pos) (tSortQ P pl.line pl.col (X.env.qual ++ "<lambda>") i (tCons t tNil)) := by
  intro pins s σ H Q I ⟨r, hσ, h⟩
  obtain ⟨cc, hcc⟩ := I.ok.has "reach" (.inl hk)
  have hcl : closureFor lam2S X.env = pure [(("reach" : Str), cc)] := by
    rw [closure_is (scope := lam2S) (env := X.env) fun y hy e => ?_]
    · show pure (clOf X.env [(("name" : Str), NameKind.local), ("reach", .free), ("len", .globalImplicit)] []) = _
      have : clOf X.env [(("name" : Str), NameKind.local), ("reach", .free), ("len", .globalImplicit)] [] = [(("reach" : Str), (X.env.cells.lookup ("reach" : Str)).getD 0)] := rfl
      rw [this, hcc]
      rfl
    · simp only [List.mem_cons, List.not_mem_nil, or_false] at hy
      rcases hy with rfl | rfl | rfl
      · cases e
      · exact ⟨cc, hcc⟩
      · cases e
  refine wpAny_Call_Name_kw (ld_blt I hg hm PyProof.Rows.Boot.«sorted» ?_)
  refine callWith_kw (thn (ha pos pins s σ H _ I h) fun us s1 ⟨vs, H1, I1, r1, q1⟩ => ?_) he hpl rfl rfl
  obtain ⟨rfl, hT, q1⟩ := q1
  obtain ⟨v, rfl, rv⟩ := vals1 r1
  cases rv
  refine kws_cons (PySem.W.kla_eval rfl ?_)
  have hbi : s1.heap.BuiltinsAt X.mg P := by
    obtain ⟨bm, ob, b1, b2, b3, b4, b5, b6⟩ := L.bi
    exact ⟨bm, ob, b1, b2, b3, b4, I1.bk _ _ b5, b6⟩
  rcases hT with hT | ⟨c', hT, hC⟩
  · have hP := I1.hok P _ hT
    refine PySem.W.kla_makeFunction (mg := X.mg) hcl I1.ok.glob (I1.mod.glob.keeps I1.bk) L.code (L.hd.keeps I1.bk) hP trivial rfl L.gP hbi fun c' ctv h2 tk hx hge hlt hrec htb => kws_nil ?_
    have I2 := Inv.grown (t' := tk) (h' := h2.push (PySem.W.kla_obj "<lambda>" (X.env.qual ++ "<lambda>") (lam2P p0) (lam2B p1 p2 p3 p4 p5 p6) lam2S [("reach", cc)] ((X.mg "__name__").getD .none) c' ctv)) I1 hT (fun b u hb e => Heap.get?_push_of_some _ (hx b u hb e)) (Heap.get?_push_of_some _ htb) hge (code_stay hrec fun o e => Heap.get?_push_of_some _ e)
    refine sort_lam hc hroom hlen I2 (Heap.get?_push_size _ rfl) (code_stay hrec fun o e => Heap.get?_push_of_some _ e) (I2.cellIs hi hk hcc hσ) (q1 _ ?_ ?_)
    · intro b o hb e
      have hcn : H1 c' = none := I1.hok.fresh hge
      rw [upd_ne (fun z => by rw [z, hcn] at e; cases e), upd_ne hb]
      exact e
    · have hcn : H1 c' = none := I1.hok.fresh hge
      have hcP : P ≠ c' := fun z => by rw [← z, hT] at hcn; cases hcn
      exact .inr ⟨c', by rw [upd_ne hcP, upd_same]; rfl, upd_same⟩
  · have hP := I1.hok P _ hT
    obtain ⟨hrec, _, _⟩ := I1.hok c' _ hC
    refine PySem.W.kla_makeFunctionHit (mg := X.mg) hcl I1.ok.glob (I1.mod.glob.keeps I1.bk) L.code (L.hd.keeps I1.bk) hP trivial (cv := .ref c') (by simp [codeAmong, rawInt]) hbi fun ctv h2 tk hk' hsz => kws_nil ?_
    have I2 : Inv X pins σ H1 { s1 with heap := h2.push { cls := .type "function", data := .func (PySem.W.kla_fn "<lambda>" (X.env.qual ++ "<lambda>") (lam2P p0) (lam2B p1 p2 p3 p4 p5 p6) lam2S [("reach", cc)] ((X.mg "__name__").getD .none) (.ref c') ctv) }, toks := tk } := I1.kept fun b u e => Heap.get?_push_of_some _ (hk' b u e)
    exact sort_lam hc hroom hlen I2 (Heap.get?_push_size _ rfl) (code_stay hrec fun o e => Heap.get?_push_of_some _ (hk' _ o e)) (I2.cellIs hi hk hcc hσ) (q1 H1 .refl (.inr ⟨c', hT, hC⟩))
end
end L2
set_option Elab.async false
set_option linter.all false
set_option maxRecDepth 100000
set_option maxHeartbeats 4000000
namespace L2
open PySem PySem.Spec PyProof.Rows
theorem way_said {ps : List (Str × Str)} {x y a b : Str} : Way (ps ++ [(x, y)]) a b ↔ Way ps a b ∨ ((a = x ∨ Way ps a x) ∧ (y = b ∨ Way ps y b)) := by
  have up : ∀ {u v : Str}, Way ps u v → Way (ps ++ [(x, y)]) u v := fun {u v} h => by
    induction h with
    | one e => exact .one (List.mem_append_left _ e)
    | cons e _ ih => exact .cons (List.mem_append_left _ e) ih
  have e1 : Way (ps ++ [(x, y)]) x y := .one (List.mem_append_right _ (List.mem_singleton.mpr rfl))
  constructor
  · exact way_one
  · rintro (h | ⟨h1, h2⟩)
    · exact up h
    · have h3 : Way (ps ++ [(x, y)]) a y := by
        rcases h1 with rfl | h1
        · exact e1
        · exact (up h1).trans e1
      rcases h2 with rfl | h2
      · exact h3
      · exact h3.trans (up h2)
theorem sum_tot {α : Type} [DecidableEq α] {b : α → α → Bool} : ∀ {r : List α}, (∀ u ∈ r, b u u = false) → r.Pairwise (fun u v => b u v = true ∧ b v u = false) → 2 * (r.map fun x => (r.filter (b x)).length).sum = r.length * (r.length - 1)
  | [], _, _ => rfl
  | a :: t, hi, hp => by
    rw [List.pairwise_cons] at hp
    have ih := sum_tot (r := t) (fun u hu => hi u (List.mem_cons_of_mem _ hu)) hp.2
    have e1 : ((a :: t).filter (b a)).length = t.length := by
      rw [List.filter_cons_of_neg (by rw [hi a (List.mem_cons_self ..)]; decide), List.filter_eq_self.mpr fun v hv => (hp.1 v hv).1]
    have e2 : (t.map fun x => ((a :: t).filter (b x)).length) = t.map fun x => (t.filter (b x)).length := List.map_congr_left fun x hx => by rw [List.filter_cons_of_neg (by rw [(hp.1 x hx).2]; decide)]
    rw [List.map_cons, List.sum_cons, e1, e2, Nat.mul_add, ih, List.length_cons, Nat.add_sub_cancel]
    cases t.length with
    | zero => rfl
    | succ n => simp only [Nat.add_sub_cancel, Nat.add_mul, Nat.mul_add]; omega
noncomputable def szW (ns : List Str) (ps : List (Str × Str)) (x : Str) : Nat := (ns.filter fun y => wayB ps x y).length
section
variable {ns row : List Str} {ps : List (Str × Str)}
theorem row_told (h : HalfW ns ps) (e : ext (wayB ps) ns.length ns = [row]) {x y : Str} (hx : x ∈ ns) (hy : y ∈ ns) (hxy : x ≠ y) : wayB ps x y = true ∨ wayB ps y x = true := by
  have hc : cnt (wayB ps) ns = 1 := by unfold cnt; rw [e]; rfl
  have h2 := cnt_two h hx hy hxy
  cases h3 : wayB ps x y with
  | true => exact .inl rfl
  | false =>
    cases h4 : wayB ps y x with
    | true => exact .inr rfl
    | false =>
      have := (un_iff h hx hy hxy).mpr (by unfold unB; rw [h3, h4]; rfl)
      omega
theorem row_mem (h : HalfW ns ps) (e : ext (wayB ps) ns.length ns = [row]) : row.Perm ns ∧ okR (wayB ps) row := (mem_ext (wayB ps) ns.length ns row h.nd rfl).mp (by rw [e]; exact List.mem_singleton.mpr rfl)
theorem way_irr (h : HalfW ns ps) (x : Str) : wayB ps x x = false := by
  cases e : wayB ps x x with
  | false => rfl
  | true => exact absurd (wayB_iff.mp e) (h.irr x)
theorem row_sum (h : HalfW ns ps) (e : ext (wayB ps) ns.length ns = [row]) : 2 * (ns.map (szW ns ps)).sum = ns.length * (ns.length - 1) := by
  obtain ⟨hp, hk⟩ := row_mem h e
  have hn : row.Nodup := hp.nodup_iff.mpr h.nd
  have hs : (ns.map (szW ns ps)).sum = (row.map fun x => (row.filter fun y => wayB ps x y).length).sum := by
    rw [← (hp.map (szW ns ps)).sum_nat]
    refine congrArg List.sum (List.map_congr_left fun x _ => ?_)
    exact ((hp.filter fun y => wayB ps x y).length_eq).symm
  rw [hs, ← hp.length_eq]
  refine sum_tot (b := wayB ps) (fun u _ => way_irr h u) ?_
  refine (List.pairwise_iff_forall_sublist.mpr fun {u v} hs => ?_)
  have h1 := List.pairwise_iff_forall_sublist.mp hk.2 hs
  have h2 : u ≠ v := List.pairwise_iff_forall_sublist.mp hn hs
  have hu : u ∈ ns := hp.mem_iff.mp (hs.subset (List.mem_cons_self ..))
  have hv : v ∈ ns := hp.mem_iff.mp (hs.subset (List.mem_cons_of_mem _ (List.mem_cons_self ..)))
  rcases row_told h e hu hv h2 with q | q
  · exact ⟨q, h1⟩
  · rw [h1] at q
    cases q
theorem row_sorted (h : HalfW ns ps) (e : ext (wayB ps) ns.length ns = [row]) {ms : List Str} (hp : ms.Perm ns) (ho : ms.Pairwise fun x y => szW ns ps y ≤ szW ns ps x) : ms = row := by
  have : ms ∈ ext (wayB ps) ns.length ns := (mem_ext (wayB ps) ns.length ns ms h.nd rfl).mpr ⟨hp, fun u _ => way_irr h u, List.pairwise_iff_forall_sublist.mpr fun {u v} hs => ?_⟩
  · rw [e] at this
    exact List.mem_singleton.mp this
  · have h1 := List.pairwise_iff_forall_sublist.mp ho hs
    have hu : u ∈ ns := hp.mem_iff.mp (hs.subset (List.mem_cons_self ..))
    have hv : v ∈ ns := hp.mem_iff.mp (hs.subset (List.mem_cons_of_mem _ (List.mem_cons_self ..)))
    cases q : wayB ps v u with
    | false => rfl
    | true =>
      exfalso
      have : szW ns ps u < szW ns ps v := filter_less (fun a _ ha => wayB_iff.mpr ((wayB_iff.mp q).trans (wayB_iff.mp ha))) ⟨u, hu, q, way_irr h u⟩
      omega
end
inductive PlanP (ns : List Str) : List (Str × Str) → PyData → Nat → Prop
  | fin {ps : List (Str × Str)} {row : List Str} : ext (wayB ps) ns.length ns = [row] → PlanP ns ps (.tuple [.str "end", nmD row]) 0
  | ask {ps : List (Str × Str)} {x y : Str} {D E : PyData} {m n : Nat} : x ∈ ns → y ∈ ns → x ≠ y → unB ps x y = true → PlanP ns (ps ++ [(x, y)]) D m → PlanP ns (ps ++ [(y, x)]) E n → PlanP ns ps (.tuple [.str "ask", .str x, .str y, D, E]) (1 + max m n)
theorem HalfW.saidP {ns : List Str} {ps : List (Str × Str)} (h : HalfW ns ps) (hl : ps.length < 1000) {x y : Str} (hx : x ∈ ns) (hy : y ∈ ns) (hxy : x ≠ y) (hu : unB ps x y = true) : HalfW ns (ps ++ [(x, y)]) := by
  have hc := h.more hx hy
  refine ⟨h.nd, hc.mem, free_more h.irr (fun z => hxy z.symm) fun g => ?_, h.few, by rw [List.length_append, List.length_singleton]; omega⟩
  unfold unB at hu
  rw [wayB_iff.mpr g] at hu
  simp at hu
theorem un_symm {ps : List (Str × Str)} {x y : Str} (hu : unB ps x y = true) : unB ps y x = true := by
  unfold unB at hu ⊢
  rw [Bool.and_comm]
  exact hu
end L2
set_option Elab.async false
set_option linter.all false
set_option maxRecDepth 100000
set_option maxHeartbeats 4000000
namespace L2
open PySem PySem.Spec PyProof.Rows
section
variable {X : Cx}
noncomputable def rDictD : List V → Hp → VK → Prop := fun xs H Q => ∃ o kvs, xs = [V.ref o] ∧ Rd H o (.dK kvs) ∧ ∀ p, H p = none → Q (.ref p) (upd H p (.dK kvs))
theorem call_dictD : CallR X (.type "dict") rDictD := by
  intro pins s σ H xs us Q I rv h
  obtain ⟨o, kvs, rfl, hd, q⟩ := h
  obtain ⟨u, rfl, ru⟩ := rv.one
  cases ru
  obtain ⟨⟨ob, he⟩, hz, hs, vs, rel, dd⟩ := dk_rdX I.hok hd
  have hl := rel.length
  refine kt_call_dict hs dd (by omega) fun h' hD hb => ?_
  refine ⟨.ref s.heap.objs.size, _, I.laid (fun b o e => (hb.2 b (Nat.ne_of_lt (Heap.lt_size e))).trans (Heap.get?_push_of_some _ e)) (Nat.le_refl _) (dk_new hz ?_ rel hD), rfl, q _ (I.hok.fresh (Nat.le_refl _))⟩
  exact beq_eq_false_iff_ne.mpr (Nat.ne_of_gt I.big)
theorem i_dictD {o : Addr} {kvs : List (Key × V)} {H : Hp} {Q : VK} (h : Rd H o (.dK kvs)) (k : ∀ p H', H p = none → Same H H' → H' p = some (.dK kvs) → Q (.ref p) H') : rDictD [.ref o] H Q :=
  ⟨o, kvs, rfl, h, fun p hp => k p _ hp (Same.upd hp) upd_same⟩
noncomputable def rLenR : List V → Hp → VK → Prop := fun xs H Q => ∃ a kvs, xs = [V.ref a] ∧ Rd H a (.dK kvs) ∧ Q (.int kvs.length) H
theorem call_lenR : CallR X (.builtin "len") rLenR := by
  intro pins s σ H xs us Q I r h
  obtain ⟨a, kvs, rfl, ha, q⟩ := h
  obtain ⟨u, rfl, ru⟩ := vals1 r
  cases ru
  obtain ⟨⟨ob, he⟩, hz, hs, vs, rel, dd⟩ := dk_rdX I.hok ha
  have hl := rel.length
  refine call_len_dict hs dd (by rw [sizeLine_eq] at hz; omega) ?_
  rw [← hl]
  exact ⟨.int kvs.length, H, I.tok _, ⟨_, rfl⟩, q⟩
theorem i_lenR {a : Addr} {kvs : List (Key × V)} {H : Hp} {Q : VK} (h : Rd H a (.dK kvs)) (k : Q (.int kvs.length) H) : rLenR [.ref a] H Q := ⟨a, kvs, rfl, h, k⟩
theorem i_inDR {K : PySem.W.Frag} {a : Addr} {kvs : List (Key × V)} {z : Str} {v : V} {H : Hp} {Q : VK} (h : Rd H a (.dK kvs)) (e : valV kvs (Sum.inr z : Key) = some v) (k : Q (.bl true) H) : rInA K false (.str z) (.ref a) H Q := by
  refine .inr (.inr (.inl ⟨a, valV kvs (Sum.inr z : Key), rfl, .inl ⟨_, Sum.inr z, h, rfl, rfl⟩, ?_⟩))
  rw [e]
  simpa using k
theorem i_sortQ {P : Addr} {line col : Nat} {qual : Str} {i : Nat} {t : TA} {σ : St} {H : Hp} {Q : VK} {r : Addr} (h : σ[i]? = some (some (.ref r))) (k : t σ H fun vs H1 => vs = [.ref r] ∧ LamT P line col qual H1 ∧ ∀ H2, ExtBut P H1 H2 → LamT P line col qual H2 → rSortQ r H2 Q) : tSortQ P line col qual i t σ H Q := ⟨r, h, k⟩
end
end L2
set_option Elab.async false
set_option linter.all false
set_option maxRecDepth 100000
set_option maxHeartbeats 4000000
namespace L2
open PySem PySem.Spec PyProof.Rows
section
variable {prog : Program} {w : World} {A : Around} {E : Value → Shared → Prop} {s : Shared}
theorem applied_two {sl : Addr} {k : Int} {tk : Tok} {Q : Int × Int × Nat → Shared → Prop} (hs : s.heap.IsSliceOf sl .none .none (.int k tk)) (hk : k = 1 ∨ k = -1) (h : Q (if k = 1 then (0, 1, 2) else (1, -1, 2)) s) :
    wpAny (model prog w) A (Builtin.Slice.sliceApplied (.ref sl) (pure ((2 : Nat) : Int))) Q E s := by
  obtain ⟨os, hos, hcs, hds⟩ := id hs
  unfold Builtin.Slice.sliceApplied Builtin.Slice.sliceFields
  refine wpAny_bind (wpAny_bind (wpAny_field hos hds (x := .none) rfl (wpAny_bind (wpAny_field hos hds (x := .none) rfl (wpAny_bind (wpAny_field hos hds (x := .int k tk) rfl (wpAny_pure ?_)))))))
  refine wpAny_bind (HT.slicePart_ (.int k tk) ?_)
  rcases hk with rfl | rfl
  · show wpAny _ _ (if ((1 : Int) == 0) = true then _ else _) _ _ s
    rw [if_neg (by decide)]
    refine wpAny_bind (HT.slicePart_ .none (wpAny_bind (HT.slicePart_ .none (wpAny_bind (wpAny_pure ?_)))))
    exact wpAny_pure h
  · show wpAny _ _ (if ((-1 : Int) == 0) = true then _ else _) _ _ s
    rw [if_neg (by decide)]
    refine wpAny_bind (HT.slicePart_ .none (wpAny_bind (HT.slicePart_ .none (wpAny_bind (wpAny_pure ?_)))))
    exact wpAny_pure h
theorem getItem_two {t sl : Addr} {x y : Value} {k : Int} {tk : Tok} {Q : Value → Shared → Prop} (ht : IsTup s.heap t #[x, y]) (hs : s.heap.IsSliceOf sl .none .none (.int k tk)) (hk : k = 1 ∨ k = -1) (h1 : k = 1 → Q (.ref t) s)
    (h2 : k = -1 → Q (.ref s.heap.objs.size) { s with heap := s.heap.push { cls := .type "tuple", data := .seq #[y, x] } }) : wpAny (model prog w) A (getItem (.ref t) (.ref sl)) Q E s := by
  obtain ⟨os, hos, hcs, hds⟩ := id hs
  have hTs : s.TypeIs (.ref sl) "slice" := ⟨os, hos, hcs⟩
  unfold getItem
  try with_reducible refine wpAny_holding ?_
  first | refine wpAny_bind (wpAny_pure ?_) | skip
  refine wpAny_bind (wpAny_sequenceKey ht.typeIs (by decide) ?_)
  refine wpAny_bind (wpAny_callSpecial?_slot (name := Str.ofString "__getitem__") ht.typeIs PyProof.Rows.slot_tuple_getitem
    (wpAny_call_entry PyProof.Rows.slot_tuple_getitem ht.typeIs entry_tuple_getitem ?_ (args_tuple_getitem _ _)))
  show wpAny _ _ (Builtin.Tuple.tupleItemsOf (.ref t) >>= _) _ _ s
  refine wpAny_bind (tupleItemsOf_ ht ?_)
  refine wpAny_bind (wpAny_typeOf hTs ?_)
  rw [if_pos (by decide)]
  refine wpAny_bind (applied_two hs hk ?_)
  rcases hk with rfl | rfl
  · show wpAny _ _ (if (((0 : Int) == 0 && (1 : Int) == 1 && (2 : Nat) == 2)) = true then _ else _) _ _ s
    rw [if_pos (by decide)]
    have fin : ∀ s', s' = s → Q (.ref t) s' := fun s' e => by subst e; exact h1 rfl
    clear h1 h2
    unfold Builtin.Tuple.tupleIsExact
    obtain ⟨hp, g, d, tk', os'⟩ := s
    have hT := ht.typeIs
    repeat (any_goals (first | assumption | wp_step))
    exact ⟨_, rfl, wpAny_pure (fin _ rfl)⟩
  · show wpAny _ _ (if (((1 : Int) == 0 && (-1 : Int) == 1 && (2 : Nat) == 2)) = true then _ else _) _ _ s
    rw [if_neg (by decide)]
    have e : (((List.range 2).filterMap fun (m : Nat) => (#[x, y] : Array Value)[((1 : Int) + (m : Int) * (-1)).toNat]?).toArray) = #[y, x] := rfl
    have htake : sizeOk (.seq (#[y, x] : Array Value)) := by
      show (#[y, x] : Array Value).size ≤ sizeLine
      rw [sizeLine_eq]
      exact Nat.le_of_ble_eq_true rfl
    have h := h2 rfl
    show wpAny _ _ (Builtin.Tuple.tupleExact (((List.range 2).filterMap fun (m : Nat) => (#[x, y] : Array Value)[((1 : Int) + (m : Int) * (-1)).toNat]?).toArray) >>= _) _ _ s
    rw [e]
    first
      | exact wpAny_bind (m := Builtin.Tuple.tupleExact _) (wpAny_newObj_type (wpAny_pure ⟨_, rfl, wpAny_pure h⟩) htake)
      | exact wpAny_bind (m := Builtin.Tuple.tupleExact _) (wpAny_newObj_type (wpAny_bind (wpAny_pure (wpAny_pure ⟨_, rfl, wpAny_pure h⟩))) htake)
      | exact wpAny_bind (wpAny_bind (m := Builtin.Tuple.tupleExact _) (wpAny_newObj_type (wpAny_pure (wpAny_pure ⟨_, rfl, wpAny_pure h⟩)) htake))
end
section
variable {X : Cx} {K : PySem.W.Frag}
noncomputable def rSlStep2 (K : PySem.W.Frag) : V → V → Hp → VK → Prop := fun x y H Q => ∃ a p q k, x = .ref a ∧ y = .int k ∧ (k = 1 ∨ k = -1) ∧ SqT K H a [p, q] ∧ (k = 1 → Q (.ref a) H) ∧ (k = -1 → ∀ b, H b = none → Q (.ref b) (upd H b (.tup [q, p])))
theorem pe_sliceStep2 {e st : Expr} {te ts : TE} {p2 pos : Pos} (he : PE X e te) (hst : PE X st ts) (hK : X.K = K := by with_unfolding_all rfl) : PE X (.Subscript e (.Slice none none (some st) p2) pos) (tOp (rSlStep2 K) te ts) := by
  subst hK
  intro pins s σ H Q I h
  refine Subscript_ (thn (he pins s σ H _ I h) fun v s1 ⟨x, H1, I1, r1, q1⟩ => ?_)
  refine wpAny_Slice ?_
  rw [evalPart_none]
  refine wpAny_pure (wpAny_pure ?_)
  rw [evalPart_some]
  refine thn (hst pins s1 σ H1 _ I1 q1) fun u s2 ⟨y, H2, I2, r2, q2⟩ => ?_
  obtain ⟨a, p, q, k, rfl, rfl, hk, hx, c1, c2⟩ := q2
  cases r1
  obtain ⟨t, rfl⟩ := r2
  have I4 : Inv X pins σ H2 { s2 with heap := s2.heap.push { cls := .type "slice", data := .fields #[.none, .none, .int k t] } } := I2.kept (t' := s2.toks) fun b ob q => Heap.get?_push_of_some _ q
  obtain ⟨its, r, ht, hz⟩ := I4.tuple hx
  obtain ⟨x1, x2, rfl, rx1, rx2⟩ := Vals.two r
  refine tail_any (ops := [.ref a, .ref s2.heap.objs.size]) ht.typeIs PyProof.Rows.slot_tuple_getitem.lookup ?_ (by with_unfolding_all rfl)
  refine getItem_two ht (Heap.IsSliceOf.new ..) hk (fun e => ⟨.ref a, H2, I4, rfl, c1 e⟩) fun e => ?_
  refine ⟨.ref _, _, I4.laid (t' := s2.toks) (o := .tup [q, p]) (fun b ob q => Heap.get?_push_of_some _ q) (Nat.le_refl _) ?_, rfl, c2 e _ (I4.hok.fresh (Nat.le_refl _))⟩
  exact ⟨by rw [sizeLine_eq]; simp, [x2, x1], .cons rx2 (.cons rx1 .nil), IsTupN.new _ _⟩
theorem i_step2 {a : Addr} {p q : V} {k : Int} {H : Hp} {Q : VK} (h : SqT K H a [p, q]) (hk : k = 1 ∨ k = -1) (c : ∀ b H', Same H H' → SqT K H' b (if k = 1 then [p, q] else [q, p]) → Q (.ref b) H') : rSlStep2 K (.ref a) (.int k) H Q :=
  ⟨a, p, q, k, rfl, rfl, hk, h, fun e => c a H (.refl _) (by rw [if_pos e]; exact h), fun e b hb => c b _ (Same.upd hb) (by rw [if_neg (by omega)]; exact SqT.of upd_same)⟩
end
end L2
set_option Elab.async false
set_option linter.all false
set_option maxRecDepth 100000
set_option maxHeartbeats 4000000
namespace L2
open PySem PySem.Spec PyProof.Rows
theorem fil_le {α : Type} {p q : α → Bool} : ∀ {l : List α}, (∀ a ∈ l, p a = true → q a = true) → (l.filter p).length ≤ (l.filter q).length
  | [], _ => Nat.le_refl _
  | a :: l, h => by
    have ih := fil_le (l := l) fun b hb => h b (List.mem_cons_of_mem _ hb)
    have ha := h a (List.mem_cons_self ..)
    rw [List.filter_cons, List.filter_cons]
    by_cases hp : p a = true
    · rw [if_pos hp, if_pos (ha hp), List.length_cons, List.length_cons]
      omega
    · rw [if_neg hp]
      by_cases hq : q a = true
      · rw [if_pos hq, List.length_cons]
        omega
      · rw [if_neg hq]
        exact ih
section
variable {ps ps' : List (Str × Str)}
theorem un_le (h : ∀ x y, unB ps' x y = true → unB ps x y = true) : ∀ ns : List Str, (unP ns ps').length ≤ (unP ns ps).length
  | [] => by rw [show unP [] ps' = [] from rfl]; exact Nat.zero_le _
  | a :: t => by
    rw [unP_cons, unP_cons]
    have h1 := un_le h t
    have h2 := fil_le (l := t) (p := fun y => unB ps' a y) (q := fun y => unB ps a y) fun y _ => h a y
    omega
theorem un_lt (h : ∀ x y, unB ps' x y = true → unB ps x y = true) {x y : Str} (hxy : x ≠ y) (h1 : unB ps x y = true) (h2 : unB ps' x y = false) : ∀ {ns : List Str}, x ∈ ns → y ∈ ns → (unP ns ps').length < (unP ns ps).length
  | [], hx, _ => by cases hx
  | a :: t, hx, hy => by
    have sy : ∀ qs : List (Str × Str), unB qs y x = unB qs x y := fun qs => by unfold unB; rw [Bool.and_comm]
    rw [unP_cons, unP_cons]
    have l1 := un_le h t
    have l2 := fil_le (l := t) (p := fun z => unB ps' a z) (q := fun z => unB ps a z) fun z _ => h a z
    rcases List.mem_cons.mp hx with e | hx'
    · subst e
      have hy' : y ∈ t := (List.mem_cons.mp hy).resolve_left (Ne.symm hxy)
      have := filter_less (p := fun z => unB ps' x z) (q := fun z => unB ps x z) (l := t) (fun z _ => h x z) ⟨y, hy', h1, h2⟩
      omega
    · rcases List.mem_cons.mp hy with e | hy'
      · subst e
        have := filter_less (p := fun z => unB ps' y z) (q := fun z => unB ps y z) (l := t) (fun z _ => h y z) ⟨x, hx', by rw [sy]; exact h1, by rw [sy]; exact h2⟩
        omega
      · have := un_lt h hxy h1 h2 hx' hy'
        omega
theorem un_half : ∀ ns : List Str, 2 * (unP ns ps).length ≤ ns.length * (ns.length - 1)
  | [] => Nat.le_refl _
  | a :: t => by
    rw [unP_cons, List.length_cons, Nat.add_sub_cancel]
    have h1 := un_half t
    have h2 : (t.filter fun y => unB ps a y).length ≤ t.length := List.length_filter_le _ _
    cases ht : t.length with
    | zero =>
      rw [ht] at h1 h2
      omega
    | succ n =>
      rw [ht, Nat.add_sub_cancel] at h1
      rw [ht] at h2
      simp only [Nat.add_mul, Nat.mul_add] at h1 ⊢
      omega
end
theorem un_said {ps : List (Str × Str)} {x y : Str} : (∀ a b, unB (ps ++ [(x, y)]) a b = true → unB ps a b = true) ∧ unB (ps ++ [(x, y)]) x y = false := by
  constructor
  · intro a b h
    unfold unB at h ⊢
    rw [Bool.and_eq_true, Bool.not_eq_true', Bool.not_eq_true'] at h ⊢
    refine ⟨?_, ?_⟩
    · cases e : wayB ps a b with
      | false => rfl
      | true => rw [wayB_iff.mpr (way_said.mpr (.inl (wayB_iff.mp e)))] at h; cases h.1
    · cases e : wayB ps b a with
      | false => rfl
      | true => rw [wayB_iff.mpr (way_said.mpr (.inl (wayB_iff.mp e)))] at h; cases h.2
  · unfold unB
    rw [wayB_iff.mpr (way_said.mpr (.inr ⟨.inl rfl, .inl rfl⟩))]
    rfl
theorem PlanP.le_un {ns : List Str} {ps : List (Str × Str)} {D : PyData} {m : Nat} (p : PlanP ns ps D m) : m ≤ (unP ns ps).length := by
  induction p with
  | fin e => exact Nat.zero_le _
  | @ask ps x y D E m n hx hy hxy hu _ _ i1 i2 =>
    have a1 := un_lt (un_said (ps := ps) (x := x) (y := y)).1 hxy hu un_said.2 hx hy
    have a2 := un_lt (un_said (ps := ps) (x := y) (y := x)).1 (Ne.symm hxy) (un_symm hu) un_said.2 hy hx
    omega
theorem PlanP.le45 {ns : List Str} {ps : List (Str × Str)} {D : PyData} {m : Nat} (p : PlanP ns ps D m) (h : ns.length ≤ 10) : m ≤ 45 := by
  have h1 := p.le_un
  have h2 := un_half (ps := ps) ns
  have h3 : ns.length * (ns.length - 1) ≤ 10 * 9 := Nat.mul_le_mul h (by omega)
  omega
end L2
set_option Elab.async false
set_option linter.all false
set_option maxRecDepth 100000
set_option maxHeartbeats 4000000
namespace K62
open PySem L2 PySem.Spec PyProof.Rows
noncomputable def top (i : Nat) : Stmt := PySem.Challenge.pw_halforder_k62_plans_let_by.main.body.getD i (.Pass ⟨0, 0, 0, 0⟩)
noncomputable abbrev s_behind_each : Stmt := top 4
theorem sc_behind_each : FnScope ["half", "names", "reach", "saying", "middle", "name"] ["half"] (defScope s_behind_each) := ⟨rfl, rfl, rfl, by decide +kernel, rfl, by decide +kernel, by decide +kernel⟩
noncomputable abbrev s_are_untold : Stmt := top 5
theorem sc_are_untold : FnScope ["reach", "one", "other"] ["reach", "one", "other"] (defScope s_are_untold) := ⟨rfl, rfl, rfl, by decide +kernel, rfl, by decide +kernel, by decide +kernel⟩
noncomputable abbrev s_is_tuple_of : Stmt := top 7
theorem sc_is_tuple_of : FnScope ["thing", "size"] ["thing", "size"] (defScope s_is_tuple_of) := ⟨rfl, rfl, rfl, by decide +kernel, rfl, by decide +kernel, by decide +kernel⟩
noncomputable abbrev s_are_two_untold : Stmt := top 9
theorem sc_are_two_untold : FnScope ["reach", "one", "other"] ["reach", "one", "other"] (defScope s_are_two_untold) := ⟨rfl, rfl, rfl, by decide +kernel, rfl, by decide +kernel, by decide +kernel⟩
noncomputable abbrev s_is_row_of : Stmt := top 10
theorem sc_is_row_of : FnScope ["reach"] ["reach"] (defScope s_is_row_of) := ⟨rfl, rfl, rfl, by decide +kernel, rfl, by decide +kernel, by decide +kernel⟩
noncomputable abbrev s_order_of_row : Stmt := top 11
theorem sc_order_of_row : FnScope ["reach"] ["reach"] (defScope s_order_of_row) := ⟨rfl, rfl, rfl, by decide +kernel, rfl, by decide +kernel, by decide +kernel⟩
noncomputable abbrev s_reach_said : Stmt := top 12
theorem sc_reach_said : FnScope ["reach", "one", "other", "more", "found", "name"] ["reach", "one", "other"] (defScope s_reach_said) := ⟨rfl, rfl, rfl, by decide +kernel, rfl, by decide +kernel, by decide +kernel⟩
noncomputable abbrev s_is_asking : Stmt := top 14
theorem sc_is_asking : FnScope ["thing"] ["thing"] (defScope s_is_asking) := ⟨rfl, rfl, rfl, by decide +kernel, rfl, by decide +kernel, by decide +kernel⟩
noncomputable abbrev s_is_end : Stmt := top 15
theorem sc_is_end : FnScope ["thing"] ["thing"] (defScope s_is_end) := ⟨rfl, rfl, rfl, by decide +kernel, rfl, by decide +kernel, by decide +kernel⟩
noncomputable abbrev s_word_due : Stmt := top 16
theorem sc_word_due : FnScope ["reach", "plan"] ["reach", "plan"] (defScope s_word_due) := ⟨rfl, rfl, rfl, by decide +kernel, rfl, by decide +kernel, by decide +kernel⟩
noncomputable abbrev s_depth_on : Stmt := top 17
theorem sc_depth_on : FnScope ["reach", "plan", "path", "word", "first", "second"] ["reach", "plan", "path"] (defScope s_depth_on) := ⟨rfl, rfl, rfl, by decide +kernel, rfl, by decide +kernel, by decide +kernel⟩
noncomputable abbrev s_lets_plan : Stmt := top 18
theorem sc_lets_plan : FnScope ["half", "plan"] ["half", "plan"] (defScope s_lets_plan) := ⟨rfl, rfl, rfl, by decide +kernel, rfl, by decide +kernel, by decide +kernel⟩
noncomputable abbrev s__law_feed : Stmt := top 20
theorem sc__law_feed : FnScope ["_law_script"] ["_law_script"] (defScope s__law_feed) := ⟨rfl, rfl, rfl, by decide +kernel, rfl, by decide +kernel, by decide +kernel⟩
noncomputable abbrev s__law_draw : Stmt := top 21
theorem sc__law_draw : FnScope ["_law_feed_here", "_law_many", "_law_cell", "_law_mixed", "_law_found"] ["_law_feed_here", "_law_many"] (defScope s__law_draw) := ⟨rfl, rfl, rfl, by decide +kernel, rfl, by decide +kernel, by decide +kernel⟩
noncomputable abbrev s__law_names : Stmt := top 22
theorem sc__law_names : FnScope ["_law_feed_here", "_law_many", "_law_letters", "_law_start", "_law_way", "_law_size", "_law_at", "_law_names_here", "_law_head", "_law_tail", "_law_turn"] ["_law_feed_here", "_law_many"] (defScope s__law_names) := ⟨rfl, rfl, rfl, by decide +kernel, rfl, by decide +kernel, by decide +kernel⟩
noncomputable abbrev s__law_shuffled : Stmt := top 23
theorem sc__law_shuffled : FnScope ["_law_feed_here", "_law_some", "_law_left", "_law_found", "_law_k"] ["_law_feed_here", "_law_some"] (defScope s__law_shuffled) := ⟨rfl, rfl, rfl, by decide +kernel, rfl, by decide +kernel, by decide +kernel⟩
noncomputable abbrev s__law_pairs : Stmt := top 24
theorem sc__law_pairs : FnScope ["_law_feed_here", "_law_line", "_law_many", "_law_way", "_law_found", "_law_k", "_law_at", "_law_cut", "_law_one"] ["_law_feed_here", "_law_line"] (defScope s__law_pairs) := ⟨rfl, rfl, rfl, by decide +kernel, rfl, by decide +kernel, by decide +kernel⟩
noncomputable abbrev s__law_sayings : Stmt := top 25
theorem sc__law_sayings : FnScope ["_law_feed_here", "_law_line", "_law_found", "_law_pair", "_law_turn"] ["_law_feed_here", "_law_line"] (defScope s__law_sayings) := ⟨rfl, rfl, rfl, by decide +kernel, rfl, by decide +kernel, by decide +kernel⟩
noncomputable abbrev s__law_half : Stmt := top 26
theorem sc__law_half : FnScope ["_law_feed_here", "_law_most", "_law_names_here"] ["_law_feed_here", "_law_most"] (defScope s__law_half) := ⟨rfl, rfl, rfl, by decide +kernel, rfl, by decide +kernel, by decide +kernel⟩
noncomputable abbrev s__law_orders : Stmt := top 27
theorem sc__law_orders : FnScope ["_law_half_here", "_law_rows", "_law_k", "_law_longer", "_law_row", "_law_left", "_law_later"] ["_law_half_here"] (defScope s__law_orders) := ⟨rfl, rfl, rfl, by decide +kernel, rfl, by decide +kernel, by decide +kernel⟩
noncomputable abbrev s__law_parts : Stmt := top 28
theorem sc__law_parts : FnScope ["_law_orders_here", "_law_one", "_law_other", "_law_ahead"] ["_law_orders_here", "_law_one", "_law_other"] (defScope s__law_parts) := ⟨rfl, rfl, rfl, by decide +kernel, rfl, by decide +kernel, by decide +kernel⟩
noncomputable abbrev s__law_questions : Stmt := top 29
theorem sc__law_questions : FnScope ["_law_names_here", "_law_orders_here", "_law_found", "_law_k", "_law_other", "_law_ahead", "_law_hind"] ["_law_names_here", "_law_orders_here"] (defScope s__law_questions) := ⟨rfl, rfl, rfl, by decide +kernel, rfl, by decide +kernel, by decide +kernel⟩
noncomputable abbrev s__law_few : Stmt := top 30
theorem sc__law_few : FnScope ["_law_feed_here", "_law_names_here", "_law_left", "_law_level", "_law_sayings_here", "_law_many", "_law_size", "_law_fresh", "_law_one"] ["_law_feed_here"] (defScope s__law_few) := ⟨rfl, rfl, rfl, by decide +kernel, rfl, by decide +kernel, by decide +kernel⟩
noncomputable abbrev s__law_full : Stmt := top 31
theorem sc__law_full : FnScope ["_law_feed_here", "_law_half_here"] ["_law_feed_here", "_law_half_here"] (defScope s__law_full) := ⟨rfl, rfl, rfl, by decide +kernel, rfl, by decide +kernel, by decide +kernel⟩
noncomputable abbrev s__law_plan : Stmt := top 32
theorem sc__law_plan : FnScope ["_law_feed_here", "_law_names_here", "_law_orders_here", "_law_some", "_law_pair", "_law_ahead", "_law_hind", "_law_first"] ["_law_feed_here", "_law_names_here", "_law_orders_here"] (defScope s__law_plan) := ⟨rfl, rfl, rfl, by decide +kernel, rfl, by decide +kernel, by decide +kernel⟩
noncomputable abbrev s__law_depth : Stmt := top 33
theorem sc__law_depth : FnScope ["_law_plan_here"] ["_law_plan_here"] (defScope s__law_depth) := ⟨rfl, rfl, rfl, by decide +kernel, rfl, by decide +kernel, by decide +kernel⟩
noncomputable abbrev s_law : Stmt := top 34
theorem sc_law : FnScope ["_law_script", "_law_feed_here", "_law_some", "_law_half_here", "_law_orders_here", "_law_turn", "_law_plan_here", "_law_kept"] ["_law_script"] (defScope s_law) := ⟨rfl, rfl, rfl, by decide +kernel, rfl, by decide +kernel, by decide +kernel⟩
structure TopF (mg : Str → Option Value) : Prop where
  b_dict : mg "dict" = none
  b_int : mg "int" = none
  b_isinstance : mg "isinstance" = none
  b_len : mg "len" = none
  b_list : mg "list" = none
  b_max : mg "max" = none
  b_min : mg "min" = none
  b_range : mg "range" = none
  b_repr : mg "repr" = none
  b_sorted : mg "sorted" = none
  b_str : mg "str" = none
  b_sum : mg "sum" = none
  b_tuple : mg "tuple" = none
section
variable {P : Program} {w : World} {K : PySem.W.Frag} {mg : Str → Option Value} {base : Heap}
local macro_rules | `(tactic| walk_at "lk") => L2.mRows "as | Same.lk e h: e=as h=lk | ExtBut.lk e h n: e=as n=ne h=lk | no"
local macro_rules | `(tactic| walk_at "ne") => L2.mRows "as | Ne.symm q: q=as | ne_of_none h g: g=as h=lk | ne_none2 h g: g=as h=lk | ne_of h g z: h=as g=as z=nc | no"
local macro_rules | `(tactic| walk_at "nc") => `(tactic| (intro z; cases z))
local macro_rules | `(tactic| walk_at "fr") => L2.mRows "ExtBut.refl | ExtBut.trans a b: b=as a=fr | ExtBut.same a b: b=as a=fr | ExtBut.off a q b: b=as q=as a=fr | no"
local macro_rules | `(tactic| walk_at "sm") => L2.mRows "same_refl | Same.trans a b: b=as a=sm | Same.off a q b: b=as q=as a=sm | no"
local macro_rules | `(tactic| walk_at "fd") => L2.mRows "as | Feed.same h e: e=as h=fd | Feed.off h e q f: e=as q=as f=as h=fd | no"
local macro_rules | `(tactic| walk_at "fz1") => L2.mRows "Same.fz b: b=as | ExtBut.fzL b l: b=as l=lk | ExtBut.fzD b l: b=as l=lk | Feed.fz f b: b=as f=fd | no"
local macro_rules | `(tactic| walk_at "fz") => L2.mRows "fz_refl | Fz.trans a x: x=fz1 a=fz | no"
local macro_rules | `(tactic| walk_at "sd") => `(tactic| first | omega | (show (0 : Int) < _; omega) | (unfold CDiv; omega) | (unfold CMul; omega) | (unfold CPow; omega) | (unfold CPow; decide) | (refine ⟨?_, ?_⟩ <;> omega) | decide)
local macro_rules | `(tactic| walk_at "sz") => `(tactic| first | decide | exact line_of (by omega) | (rw [sizeLine_eq]; omega))
local macro_rules | `(tactic| walk_at "kv") => `(tactic| rfl)
local macro_rules | `(tactic| walk_at "rq1") => do
  let a ← L2.mAlts "i_asg i_gname i_ret i_drop i_if i_op i_un i_call i_cb i_cons i_nil i_c i_put i_tTest i_tB i_not i_and i_or i_tup i_lst i_next i_sl i_noPart i_part i_int i_for i_rng1 i_rng2 i_comp i_itS i_iany i_ienum i_ienumL i_irev i_chain i_andV i_orV i_notV i_dget1 i_tAt i_sSt i_tMe i_tMk i_tTru i_dget2 i_iDT i_bmT i_rU i_rI0 i_addI i_bl i_bm i_bm0 i_reprKB i_isN i_isNotN i_isB i_isNotB i_true i_tyS i_find i_intB i_inS i_pair i_pair0 iteR iteNR iteNbb itebb iteT iteF iteNT iteNF"
  let b ← L2.mRows "i_var w _: w=kv | i_rI w _: w=sd | i_mulBI w _: w=sd | i_tyLm w _: w=lk | i_ixD w v _: w=lk v=kv | i_eqS w _: w=kv | i_neS w _: w=kv | i_slS w _: w=sz | i_addS w _: w=sz | i_lenS w _: w=sz | i_lenL w _: w=lk | i_lenT w _: w=lk | i_cutN w _: w=ar"
  let c ← L2.mAltG "i_seqAG i_seqDG i_seqPG"
  `(tactic| first | $c:tactic | $a:tactic | $b:tactic)
local macro_rules | `(tactic| walk_at "rd1") => `(tactic| first | with_reducible refine i_seqG fun N hN => ?_ | walk_at "rq1")
local macro_rules | `(tactic| walk_at "rq") => `(tactic| repeat (walk_at "rq1"))
local macro_rules | `(tactic| walk_at "rd") => `(tactic| repeat (walk_at "rd1"))
noncomputable def feedKvs (l : Addr) (a t u : Int) : List (Key × V) := [(Sum.inr "cells", .ref l), (Sum.inr "at", .int a), (Sum.inr "left", .int t), (Sum.inr "turn", .int u)]
noncomputable def Feed (H : Hp) (d l : Addr) : Prop := ∃ (a t u : Int) (ns : List Int), H d = some (.dK (feedKvs l a t u)) ∧ H l = some (.lst (ns.map V.int)) ∧ 0 < ns.length ∧ ns.length ≤ 64
noncomputable def sp__law_feed (K : PySem.W.Frag) : Sp := fun vs H Q _ => ∃ (a : Addr) (ns : List Int), vs = [.ref a] ∧ SqL K H a (ns.map V.int) ∧ ns.length ≤ 63 ∧ ∀ d l H', H d = none → H l = none → Same H H' → Feed H' d l → Q (.ref d) H'
noncomputable def sp__law_draw (K : PySem.W.Frag) : Sp := fun vs H Q _ => ∃ d l n, vs = [.ref d, .int n] ∧ Feed H d l ∧ 0 < n ∧ n < 1073741824 ∧ ∀ r H', 0 ≤ r → r < n → ExtBut d H H' → Feed H' d l → Q (.int r) H'
theorem fd_cells {l : Addr} {a t u : Int} : valV (feedKvs l a t u) (Sum.inr "cells" : Key) = some (.ref l) := by rfl
theorem fd_at {l : Addr} {a t u : Int} : valV (feedKvs l a t u) (Sum.inr "at" : Key) = some (.int a) := by rfl
theorem fd_left {l : Addr} {a t u : Int} : valV (feedKvs l a t u) (Sum.inr "left" : Key) = some (.int t) := by rfl
theorem fd_turn {l : Addr} {a t u : Int} : valV (feedKvs l a t u) (Sum.inr "turn" : Key) = some (.int u) := by rfl
local macro_rules | `(tactic| walk_at "kv") => `(tactic| first | exact fd_cells | exact fd_at | exact fd_left | exact fd_turn | rfl)
theorem put_turn {l : Addr} {a t u x : Int} : putK (feedKvs l a t u) (Sum.inr "turn" : Key) (.int x) = feedKvs l a t x := by rfl
theorem put_at {l : Addr} {a t u x : Int} : putK (feedKvs l a t u) (Sum.inr "at" : Key) (.int x) = feedKvs l x t u := by rfl
theorem put_left {l : Addr} {a t u x : Int} : putK (feedKvs l a t u) (Sum.inr "left" : Key) (.int x) = feedKvs l a x u := by rfl
theorem Feed.same {H H' : Hp} {d l : Addr} (h : Feed H d l) (e : Same H H') : Feed H' d l := let ⟨a, t, u, ns, h1, h2, h3, h4⟩ := h; ⟨a, t, u, ns, e _ _ h1, e _ _ h2, h3, h4⟩
theorem Feed.put {H H' : Hp} {d l p : Addr} (h : Feed H d l) (e : ExtBut p H H') (hd : d ≠ p) (hl : l ≠ p) : Feed H' d l := let ⟨a, t, u, ns, h1, h2, h3, h4⟩ := h; ⟨a, t, u, ns, e _ _ hd h1, e _ _ hl h2, h3, h4⟩
theorem Feed.nd {H : Hp} {d l p : Addr} (h : Feed H d l) (hp : H p = none) : d ≠ p := let ⟨_, _, _, _, h1, _⟩ := h; ne_of_none h1 hp
theorem Feed.nl {H : Hp} {d l p : Addr} (h : Feed H d l) (hp : H p = none) : l ≠ p := let ⟨_, _, _, _, _, h2, _⟩ := h; ne_of_none h2 hp
theorem Feed.lst {H : Hp} {d l b : Addr} {xs : List V} (h : Feed H d l) (hb : H b = some (.lst xs)) : b ≠ d := let ⟨_, _, _, _, h1, _⟩ := h; ne_of hb h1 (by intro z; cases z)
theorem Feed.free {H H' : Hp} {d l p : Addr} (h : Feed H' d l) (e : ExtBut d H H') (hp : H' p = none) : H p = none := by
  cases hq : H p with
  | none => rfl
  | some o =>
    obtain ⟨_, _, _, _, h1, _⟩ := h
    have n : p ≠ d := fun q => by subst q; rw [hp] at h1; cases h1
    rw [e p o n hq] at hp
    cases hp
theorem Feed.fz {H H' : Hp} {d l : Addr} (h : Feed H d l) (e : ExtBut d H H') : Fz H H' := let ⟨_, _, _, _, h1, _⟩ := h; e.fzD h1
theorem Feed.off {H H1 H2 : Hp} {d l q : Addr} (h : Feed H1 d l) (e : ExtBut q H1 H2) (hq : H q = none) (hF : Feed H d l) : Feed H2 d l := h.put e (hF.nd hq) (hF.nl hq)
theorem ok__law_draw {f : Addr} {fd : FuncData} (F : Fun K "_law_draw" "_law_draw" s__law_draw f fd) (T : TopF mg) : FnOk P w K mg base CX0 1 f fd ["_law_feed_here", "_law_many"] (sp__law_draw K) := by
  refine F.ok sc__law_draw (fun vs H Q E h => ?_) (fun cdv A outer s H vs Q E hr h => ?_)
  · obtain ⟨d, l, n, rfl, _⟩ := h
    rfl
  · obtain ⟨d, l, n, rfl, ⟨a, t, u, ns, hd, hl, h0, h64⟩, hn, hn2, k⟩ := h
    have hu := hu_of hr
    have hq := qa_of hr
    have hld : l ≠ d := ne_of hl hd (by intro z; cases z)
    with_reducible refine ⟨_, (pss_cons (ps_dput hu (pv 0) pe_str (pe_op (op_addK (K := K)) (pe_ix (ix_anyK (K := K) hu) (pv 0) pe_str (by with_unfolding_all exact fun _ _ => rfl)) pe_int) (by with_unfolding_all rfl))
      (pss_cons (ps_if (pt_cmpR (op_eqK (K := K) hq) (pe_ix (ix_anyK (K := K) hu) (pv 0) pe_str (by with_unfolding_all exact fun _ _ => rfl)) pe_int (nomark _)) (pss_cons (ps_set (i := 2) sc__law_draw.nd (by with_unfolding_all rfl) (by with_unfolding_all exact Or.inl rfl) (pe_ix (ix_anyK (K := K) hu) (pe_ix (ix_anyK (K := K) hu) (pv 0) pe_str (by with_unfolding_all exact fun _ _ => rfl)) (pe_op op_mod (pe_ix (ix_anyK (K := K) hu) (pv 0) pe_str (by with_unfolding_all exact fun _ _ => rfl)) (pe_callB (call_lenK (K := K)) (by with_unfolding_all rfl) T.b_len PyProof.Rows.Boot.«len» (pa_cons (pe_ix (ix_anyK (K := K) hu) (pv 0) pe_str (by with_unfolding_all exact fun _ _ => rfl)) pa_nil))) (by with_unfolding_all exact fun _ _ => rfl)))
      (pss_cons (ps_dput hu (pv 0) pe_str (pe_op (op_addK (K := K)) (pe_ix (ix_anyK (K := K) hu) (pv 0) pe_str (by with_unfolding_all exact fun _ _ => rfl)) pe_int) (by with_unfolding_all rfl))
      (pss_cons (ps_if (pt_cmpR op_lt (pv 2) (pe_op op_pow pe_int pe_int) (nomark _)) (pss_cons (ps_set (i := 3) sc__law_draw.nd (by with_unfolding_all rfl) (by with_unfolding_all exact Or.inl rfl) (pe_op op_mod (pe_op op_mulB (pe_op (op_addK (K := K)) (pe_op op_mod (pv 2) pe_int) (pe_op op_mulB pe_int (pe_ix (ix_anyK (K := K) hu) (pv 0) pe_str (by with_unfolding_all exact fun _ _ => rfl)))) pe_int) pe_int))
      (pss_cons (ps_set (i := 3) sc__law_draw.nd (by with_unfolding_all rfl) (by with_unfolding_all exact Or.inl rfl) (pe_op op_mod (pe_op op_mulB (pe_op (op_addK (K := K)) (pe_op op_fdivA (pv 3) pe_int) (pe_op op_mulB pe_int (pe_ix (ix_anyK (K := K) hu) (pv 0) pe_str (by with_unfolding_all exact fun _ _ => rfl)))) pe_int) pe_int))
      (pss_one (ps_ret (pe_op op_mod (pe_op op_fdivA (pv 3) pe_int) (pv 1)))))) pss_nil)
      (pss_one (ps_dput hu (pv 0) pe_str (pv 2) (by with_unfolding_all rfl)))))) pss_nil)
      (pss_cons (ps_set (i := 4) sc__law_draw.nd (by with_unfolding_all rfl) (by with_unfolding_all exact Or.inl rfl) (pe_op op_mod (pe_ix (ix_anyK (K := K) hu) (pv 0) pe_str (by with_unfolding_all exact fun _ _ => rfl)) (pv 1)))
      (pss_cons (ps_dput hu (pv 0) pe_str (pe_op op_fdivA (pe_ix (ix_anyK (K := K) hu) (pv 0) pe_str (by with_unfolding_all exact fun _ _ => rfl)) (pv 1)) (by with_unfolding_all rfl))
      (pss_one (ps_ret (pv 4))))))), ?_⟩
    walk_at "rd"
    refine i_dput hd (by show 4 < 1000; decide) fun H1 e1 hd1 => ?_
    rw [put_turn] at hd1
    have hl1 : H1 l = some (.lst (ns.map V.int)) := e1 _ _ hld hl
    walk_at "rd"
    refine ite2 (fun ht => ?_) (fun ht => ?_)
    · walk_at "rd"
      have hlen : (0 : Int) < ((ns.map V.int).length : Nat) := by rw [List.length_map]; omega
      refine i_rI hlen ?_
      have hm0 : 0 ≤ a % (((ns.map V.int).length : Nat) : Int) := Int.emod_nonneg _ (by omega)
      have hm1 := Int.emod_lt_of_pos a hlen
      obtain ⟨c, hc⟩ : ∃ c, (ns.map V.int)[(a % (((ns.map V.int).length : Nat) : Int)).toNat]? = some (V.int c) := by
        refine ⟨ns[(a % (((ns.map V.int).length : Nat) : Int)).toNat]'(by rw [List.length_map] at *; omega), ?_⟩
        rw [List.getElem?_map, List.getElem?_eq_getElem]
        rfl
      refine i_ixL hl1 (by
        have := atI_nat hc
        rwa [Int.toNat_of_nonneg hm0] at this) ?_
      walk_at "rd"
      refine i_dput hd1 (by show 4 < 1000; decide) fun H2 e2 hd2 => ?_
      rw [put_at] at hd2
      have hl2 : H2 l = some (.lst (ns.map V.int)) := e2 _ _ hld hl1
      walk_at "rd"
      refine ite2 (fun hc1 => ?_) (fun hc1 => ?_)
      · walk_at "rd"
        exact k _ H2 (Int.emod_nonneg _ (by omega)) (Int.emod_lt_of_pos _ hn) (e1.trans e2) ⟨_, _, _, ns, hd2, hl2, h0, h64⟩
      · walk_at "rd"
        refine i_dput hd2 (by show 4 < 1000; decide) fun H3 e3 hd3 => ?_
        rw [put_left] at hd3
        have hl3 : H3 l = some (.lst (ns.map V.int)) := e3 _ _ hld hl2
        walk_at "rd"
        refine i_dput hd3 (by show 4 < 1000; decide) fun H4 e4 hd4 => ?_
        rw [put_left] at hd4
        have hl4 : H4 l = some (.lst (ns.map V.int)) := e4 _ _ hld hl3
        walk_at "rd"
        exact k _ H4 (Int.emod_nonneg _ (by omega)) (Int.emod_lt_of_pos _ hn) (((e1.trans e2).trans e3).trans e4) ⟨_, _, _, ns, hd4, hl4, h0, h64⟩
    · walk_at "rd"
      refine i_dput hd1 (by show 4 < 1000; decide) fun H2 e2 hd2 => ?_
      rw [put_left] at hd2
      have hl2 : H2 l = some (.lst (ns.map V.int)) := e2 _ _ hld hl1
      walk_at "rd"
      exact k _ H2 (Int.emod_nonneg _ (by omega)) (Int.emod_lt_of_pos _ hn) (e1.trans e2) ⟨_, _, _, ns, hd2, hl2, h0, h64⟩
theorem feed_ms (ns : List Int) (h : ns.length ≤ 63) : ∃ ms : List Int, cutV (ns.map V.int) none (some 63) ++ (List.replicate (if (PyData.list (ns.map PyData.int)).eqv (PyData.list (([] : List Int).map PyData.int)) = true then (1 : Int) else 0).toNat [V.int 0]).flatten = ms.map V.int ∧ 0 < ms.length ∧ ms.length ≤ 64 := by
  have hc : cutV (ns.map V.int) none (some 63) = ns.map V.int := by
    unfold cutV
    have e : HT.sIx (ns.map V.int).length (ns.map V.int).length (some 63) = (ns.map V.int).length := by
      have := HT.sIx_nat (ns.map V.int).length (ns.map V.int).length 63
      rw [List.length_map] at *
      rw [show ((63 : Nat) : Int) = (63 : Int) from rfl] at this
      rw [this]
      omega
    rw [HT.sIx_none, e, List.drop_zero, Nat.sub_zero, List.take_length]
  rw [hc]
  cases ns with
  | nil => exact ⟨[0], by simp [PyData.eqv, PyData.eqvAll], by decide, by decide⟩
  | cons n r => exact ⟨n :: r, by simp [PyData.eqv, PyData.eqvAll], by simp, by omega⟩
theorem ok__law_feed {f : Addr} {fd : FuncData} (F : Fun K "_law_feed" "_law_feed" s__law_feed f fd) (T : TopF mg) : FnOk P w K mg base CX0 1 f fd ["_law_script"] (sp__law_feed K) := by
  refine F.ok sc__law_feed (fun vs H Q E h => ?_) (fun cdv A outer s H vs Q E hr h => ?_)
  · obtain ⟨a, ns, rfl, _⟩ := h
    rfl
  · obtain ⟨a, ns, rfl, hS, h63, k⟩ := h
    have hu := hu_of hr
    have hq := qa_of hr
    with_reducible refine ⟨_, (pss_one (ps_ret (pe_disp (pps_cons pe_str (pe_op (op_addK (K := K)) (pe_callTy (call_listK (K := K)) (by with_unfolding_all rfl) T.b_list PyProof.Rows.Boot.«list» (pa_cons (pe_slice (sl_K (K := K)) (pv 0) po_none (po_some pe_int)) pa_nil)) (pe_op op_mulB (pe_lst (pa_cons pe_int pa_nil)) (pe_callTy call_intA (by with_unfolding_all rfl) T.b_int PyProof.Rows.Boot.«int» (pa_cons (pe_cmpR (op_eqK (K := K) hq) (pv 0) (pe_lst pa_nil) (nomark _)) pa_nil)))) (pps_cons pe_str pe_int (pps_cons pe_str pe_int (pps_cons pe_str pe_int pps_nil)))) (by with_unfolding_all rfl) (by with_unfolding_all rfl) (by decide) (by decide)))), ?_⟩
    walk_at "rd"
    refine i_disp fun p H1 hp e1 hp1 => ?_
    walk_at "rd"
    have hS1 := e1.seq hS
    refine i_slL hS1 fun q H2 hq2 e2 hq2' => ?_
    walk_at "rd"
    refine i_listL (SqL.of hq2') fun r H3 hr3 e3 hr3' => ?_
    walk_at "rd"
    refine i_newL (by decide) fun z H4 hz4 e4 hz4' => ?_
    walk_at "rd"
    refine i_newL (by decide) fun y H5 hy5 e5 hy5' => ?_
    refine i_eqD (is_listI (e5.seq (e4.seq (e3.seq (e2.seq hS1))))) (is_listI (ns := []) (SqL.of hy5')) (PySem.W.ke_shaped_ints ns) (PySem.W.ke_shaped_ints []) ?_
    walk_at "rd"
    refine i_mulBL (xs := [V.int 0]) (by walk_at "lk") ?_ ?_ fun x H6 hx6 e6 hx6' => ?_
    · split <;> omega
    · split <;> decide
    refine i_addL (xs := cutV (ns.map V.int) none (some 63)) (by walk_at "lk") hx6' ?_ fun v H7 hv7 e7 hv7' => ?_
    · obtain ⟨ms, e, h1, h2⟩ := feed_ms ns h63
      rw [← List.length_append, e, List.length_map]
      exact Nat.le_trans h2 (by decide)
    walk_at "rd"
    refine i_pairs [(Sum.inr "cells", .ref v), (Sum.inr "at", .int 0), (Sum.inr "left", .int 0), (Sum.inr "turn", .int 0)] (by walk_at "lk") (by rfl) (by show 4 ≤ 15; decide) fun H8 e8 h8 => ?_
    have en : H8 p = some (.dK (feedKvs v 0 0 0)) := h8
    refine k p v H8 hp ?_ ?_ ⟨0, 0, 0, ?_⟩
    · exact e1.free (e2.free (e3.free (e4.free (e5.free (e6.free hv7)))))
    · exact fun b o hb => e8 b o (ne_of_none hb hp) (e7 _ _ (e6 _ _ (e5 _ _ (e4 _ _ (e3 _ _ (e2 _ _ (e1 _ _ hb)))))))
    · obtain ⟨ms, e, h1, h2⟩ := feed_ms ns h63
      rw [e] at hv7'
      exact ⟨ms, en, by walk_at "lk", h1, h2⟩
noncomputable def sp__law_names (K : PySem.W.Frag) : Sp := fun vs H Q _ => ∃ d l n, vs = [.ref d, .int n] ∧ Feed H d l ∧ 0 ≤ n ∧ n ≤ 10 ∧ ∀ p ns H', H p = none → ExtBut d H H' → Feed H' d l → H' p = some (.lst (ns.map V.str)) → Names ns → ns.length = n.toNat → Q (.ref p) H'
noncomputable def MN (H : Hp) (d l : Addr) (n st way sz at' : Int) : L2.St → Hp → Prop := fun σ' H' => ∃ p ns x8 x9, σ' = [some (V.ref d), some (.int n), some (.str LL), some (.int st), some (.int way), some (.int (1 + sz)), some (.int at'), some (.ref p), x8, x9, none] ∧ H p = none ∧ ExtBut d H H' ∧ Feed H' d l ∧ H' p = some (.lst (ns.map V.str)) ∧ Names ns ∧ ns.length = 10
theorem ok__law_names {f : Addr} {fd : FuncData} (F : Fun K "_law_names" "_law_names" s__law_names f fd) (T : TopF mg) (c__law_draw : Fnd P w K mg base 1 "_law_draw" ["_law_feed_here", "_law_many"] (sp__law_draw K)) : FnOk P w K mg base CX0 2 f fd ["_law_feed_here", "_law_many"] (sp__law_names K) := by
  refine F.ok sc__law_names (fun vs H Q E h => ?_) (fun cdv A outer s H vs Q E hr h => ?_)
  · obtain ⟨d, l, n, rfl, _⟩ := h
    rfl
  · obtain ⟨d, l, n, rfl, hF, hn0, hn1, k⟩ := h
    have hu := hu_of hr
    have hq := qa_of hr
    with_reducible refine ⟨_, (pss_cons (ps_set (i := 2) sc__law_names.nd (by with_unfolding_all rfl) (by with_unfolding_all exact Or.inr rfl) (pe_op op_mulB pe_str pe_int))
      (pss_cons (ps_set (i := 3) sc__law_names.nd (by with_unfolding_all rfl) (by with_unfolding_all exact Or.inr rfl) (pe_fn c__law_draw (hr.mono (by decide)) (by with_unfolding_all rfl) (pa_cons (pv 0) (pa_cons pe_int pa_nil))))
      (pss_cons (ps_set (i := 4) sc__law_names.nd (by with_unfolding_all rfl) (by with_unfolding_all exact Or.inl rfl) (pe_fn c__law_draw (hr.mono (by decide)) (by with_unfolding_all rfl) (pa_cons (pv 0) (pa_cons pe_int pa_nil))))
      (pss_cons (ps_set (i := 5) sc__law_names.nd (by with_unfolding_all rfl) (by with_unfolding_all exact Or.inl rfl) (pe_op (op_addK (K := K)) pe_int (pe_fn c__law_draw (hr.mono (by decide)) (by with_unfolding_all rfl) (pa_cons (pv 0) (pa_cons pe_int pa_nil)))))
      (pss_cons (ps_set (i := 6) sc__law_names.nd (by with_unfolding_all rfl) (by with_unfolding_all exact Or.inl rfl) (pe_fn c__law_draw (hr.mono (by decide)) (by with_unfolding_all rfl) (pa_cons (pv 0) (pa_cons (pv 5) pa_nil))))
      (pss_cons (ps_set (i := 7) sc__law_names.nd (by with_unfolding_all rfl) (by with_unfolding_all exact Or.inl rfl) (pe_lst (pa_cons pe_str (pa_cons pe_str (pa_cons pe_str (pa_cons pe_str (pa_cons pe_str (pa_cons pe_str (pa_cons pe_str (pa_cons pe_str (pa_cons pe_str (pa_cons pe_str pa_nil))))))))))))
      (pss_cons (ps_if (pt_cmpR (op_eqK (K := K) hq) (pv 4) pe_int (nomark _)) (pss_one (ps_set (i := 7) sc__law_names.nd (by with_unfolding_all rfl) (by with_unfolding_all exact Or.inl rfl) (pe_op (op_addK (K := K)) (pe_comp ["_law_k"] ["_law_letters", "_law_start"] [2, 3] (by with_unfolding_all rfl) (by with_unfolding_all rfl) (by with_unfolding_all rfl) (pi_range1 (by with_unfolding_all rfl) T.b_range (pa_cons pe_int pa_nil)) (fun _ _ _ _ => (pg_name (i := 0) (by with_unfolding_all (show (["_law_k", "_law_letters", "_law_start"] : List Str).Nodup; decide +kernel)) (by with_unfolding_all rfl) (by with_unfolding_all exact Or.inl rfl))) (gk_name (by decide)) (fun _ _ _ _ => pif_nil) (fun _ _ _ _ => (pe_slice (sl_K (K := K)) (pv 1) (po_some (pv 2)) (po_some (pe_op (op_addK (K := K)) (pe_op (op_addK (K := K)) (pv 2) pe_int) (pv 0)))))) (pe_lst (pa_cons (pe_ix (ix_anyK (K := K) hu) (pv 2) (pe_op (op_addK (K := K)) (pv 3) pe_int) (by with_unfolding_all exact fun _ _ => rfl)) (pa_cons (pe_ix (ix_anyK (K := K) hu) (pv 2) (pe_op (op_addK (K := K)) (pv 3) pe_int) (by with_unfolding_all exact fun _ _ => rfl)) pa_nil)))))) pss_nil)
      (pss_cons (ps_if (pt_cmpR (op_eqK (K := K) hq) (pv 4) pe_int (nomark _)) (pss_cons (ps_set (i := 8) sc__law_names.nd (by with_unfolding_all rfl) (by with_unfolding_all exact Or.inr rfl) (pe_slice (sl_K (K := K)) (pv 2) (po_some (pv 3)) (po_some (pe_op (op_addK (K := K)) (pv 3) (pv 6)))))
      (pss_cons (ps_set (i := 9) sc__law_names.nd (by with_unfolding_all rfl) (by with_unfolding_all exact Or.inr rfl) (pe_slice (sl_K (K := K)) (pv 2) (po_some (pe_op (op_addK (K := K)) (pe_op (op_addK (K := K)) (pv 3) (pv 6)) pe_int)) (po_some (pe_op (op_addK (K := K)) (pv 3) (pv 5)))))
      (pss_one (ps_setcomp (i := 7) ["_law_k"] ["_law_head", "_law_letters", "_law_start", "_law_tail"] [8, 2, 3, 9] (by with_unfolding_all rfl) (by with_unfolding_all rfl) (by with_unfolding_all rfl) sc__law_names.nd (by with_unfolding_all rfl) (by with_unfolding_all rfl) (pi_range1 (by with_unfolding_all rfl) T.b_range (pa_cons pe_int pa_nil)) (fun _ _ _ _ => (pg_name (i := 0) (by with_unfolding_all (show (["_law_k", "_law_head", "_law_letters", "_law_start", "_law_tail"] : List Str).Nodup; decide +kernel)) (by with_unfolding_all rfl) (by with_unfolding_all exact Or.inl rfl))) (gk_name (by decide)) (fun _ _ _ _ => pif_nil) (fun _ _ _ _ => (pe_op (op_addK (K := K)) (pe_op (op_addK (K := K)) (pv 1) (pe_ix (ix_anyK (K := K) hu) (pv 2) (pe_op (op_addK (K := K)) (pv 3) (pe_op op_mod (pe_op op_mulB pe_int (pv 0)) pe_int)) (by with_unfolding_all exact fun _ _ => rfl))) (pv 4))))))) pss_nil)
      (pss_cons (ps_if (pt_cmpR (op_eqK (K := K) hq) (pv 4) pe_int (nomark _)) (pss_one (ps_setcomp (i := 7) ["_law_k"] ["_law_letters", "_law_start"] [2, 3] (by with_unfolding_all rfl) (by with_unfolding_all rfl) (by with_unfolding_all rfl) sc__law_names.nd (by with_unfolding_all rfl) (by with_unfolding_all rfl) (pi_range1 (by with_unfolding_all rfl) T.b_range (pa_cons pe_int pa_nil)) (fun _ _ _ _ => (pg_name (i := 0) (by with_unfolding_all (show (["_law_k", "_law_letters", "_law_start"] : List Str).Nodup; decide +kernel)) (by with_unfolding_all rfl) (by with_unfolding_all exact Or.inl rfl))) (gk_name (by decide)) (fun _ _ _ _ => pif_nil) (fun _ _ _ _ => (pe_slice (sl_K (K := K)) (pv 1) (po_some (pe_op (op_addK (K := K)) (pv 2) (pv 0))) (po_some (pe_op (op_addK (K := K)) (pe_op (op_addK (K := K)) (pe_op (op_addK (K := K)) (pv 2) (pv 0)) pe_int) (pe_op op_mod (pe_op op_mulB pe_int (pv 0)) pe_int))))))) pss_nil)
      (pss_cons (ps_set (i := 10) sc__law_names.nd (by with_unfolding_all rfl) (by with_unfolding_all exact Or.inl rfl) (pe_fn c__law_draw (hr.mono (by decide)) (by with_unfolding_all rfl) (pa_cons (pv 0) (pa_cons pe_int pa_nil))))
      (pss_cons (ps_set (i := 7) sc__law_names.nd (by with_unfolding_all rfl) (by with_unfolding_all exact Or.inl rfl) (pe_op (op_addK (K := K)) (pe_slice (sl_K (K := K)) (pv 7) (po_some (pv 10)) po_none) (pe_slice (sl_K (K := K)) (pv 7) po_none (po_some (pv 10)))))
      (pss_one (ps_ret (pe_sliceStep (pe_slice (sl_K (K := K)) (pv 7) po_none (po_some (pv 1))) (pe_ix (ix_anyK (K := K) hu) (pe_lst (pa_cons pe_int (pa_cons (pe_un un_neg pe_int) pa_nil))) (pe_fn c__law_draw (hr.mono (by decide)) (by with_unfolding_all rfl) (pa_cons (pv 0) (pa_cons pe_int pa_nil))) (by with_unfolding_all exact fun _ _ => rfl)))))))))))))))), ?_⟩
    walk_at "rd"
    refine i_mulBS (by decide) ?_
    rw [LL_rep]
    walk_at "rd"
    refine ⟨d, l, _, rfl, hF, by omega, by omega, fun st H1 hs0 hs1 e1 hF1 => ?_⟩
    walk_at "rd"
    refine ⟨d, l, _, rfl, hF1, by omega, by omega, fun way H2 hw0 hw1 e2 hF2 => ?_⟩
    walk_at "rd"
    refine ⟨d, l, _, rfl, hF2, by omega, by omega, fun sz H3 hz0 hz1 e3 hF3 => ?_⟩
    walk_at "rd"
    refine ⟨d, l, _, rfl, hF3, by omega, by omega, fun at' H4 ha0 ha1 e4 hF4 => ?_⟩
    walk_at "rd"
    refine i_newL (by decide) fun p5 H5 hp5 e5 h5 => ?_
    walk_at "rq"
    have fr4 : ExtBut d H H4 := by walk_at "fr"
    have hF5 : Feed H5 d l := by walk_at "fd"
    with_reducible refine i_cut (MN H d l n st way sz at') (fun N hN => ?_) (fun σ1 H6 hM => ?_)
    · walk_at "rq"
      refine iteD (fun hw => ?_) (fun hw => ?_)
      · walk_at "rq"
        refine i_rngv (by omega) ?_
        refine comp_map walk_range (fI fun k => .str (Txt.slice LL (some st) (some (st + 1 + k)))) (by simp) (fun _ _ => trivial) (fun i x H6 R hx e6 hR => ?_) (fun p6 H6 hp6 e6 h6 => ?_)
        · obtain ⟨rfl, hi⟩ := rng_get hx
          walk_at "rq"
          exact hR
        · rw [map_rng (G := fun k => txt (cutN st.toNat (st.toNat + 1 + k))) (fun k hk => by
            have e := LL_cut (i := st) (j := st + 1 + (0 + (k : Int))) hs0 (by omega) (by have : ((8 : Int)).toNat = 8 := rfl; omega)
            have e2 : (st + 1 + (0 + (k : Int))).toNat = st.toNat + 1 + k := by omega
            rw [e2] at e
            rw [e])] at h6
          obtain ⟨c9, hc9, e9⟩ := LL_at (i := st + 9) (by omega) (by omega)
          obtain ⟨c10, hc10, e10⟩ := LL_at (i := st + 10) (by omega) (by omega)
          walk_at "rq"
          refine i_ixS LL_line hc9 ?_
          walk_at "rq"
          refine i_ixS LL_line hc10 ?_
          walk_at "rq"
          refine i_newL (line_of (by simp)) fun p7 H7 hp7 e7 h7 => ?_
          refine i_addL (by walk_at "lk") h7 (by simp [sizeLine_eq]) fun p8 H8 hp8 e8 h8 => ?_
          walk_at "rq"
          have f5 : ExtBut d H H5 := by walk_at "fr"
          refine hN _ _ ⟨p8, (nm0 st.toNat).map txt, none, none, rfl, Feed.free (l := l) (H' := H7) (by walk_at "fd") (by walk_at "fr") hp8, by walk_at "fr", by walk_at "fd", ?_, ok_nm0 (by omega), by simp [nm0]⟩
          rw [h8, e9, e10]
          have q9 : (st + 9).toNat = st.toNat + 9 := by omega
          have q10 : (st + 10).toNat = st.toNat + 10 := by omega
          rw [q9, q10]
          simp [nm0, Function.comp_def]
      · walk_at "rq"
        refine hN _ _ ⟨p5, nm3, none, none, rfl, hF4.free fr4 hp5, by walk_at "fr", hF5, h5, ok_nm3, rfl⟩
    · obtain ⟨p, ns, x8, x9, rfl, hp, e6, hF6, h6, hN6, hl6⟩ := hM
      with_reducible refine i_cut (MN H d l n st way sz at') (fun N hN => ?_) (fun σ1 H7 hM => ?_)
      · walk_at "rq"
        refine iteD (fun hw => ?_) (fun hw => ?_)
        · walk_at "rq"
          refine i_rngv (by omega) ?_
          have c1 := LL_cut (i := st) (j := st + at') hs0 (by omega) (by omega)
          have c2 := LL_cut (i := st + at' + 1) (j := st + (1 + sz)) (by omega) (by omega) (by omega)
          rw [c1, c2]
          refine comp_map walk_range (fI fun k => .str (txt (cutN st.toNat (st + at').toNat) ++ txt (sgnN (st + 5 * k % 26).toNat) ++ txt (cutN (st + at' + 1).toNat (st + (1 + sz)).toNat))) (by simp) (fun _ _ => trivial) (fun i x H8 R hx e8 hR => ?_) (fun p8 H8 hp8 e8 h8 => ?_)
          · obtain ⟨rfl, hi⟩ := rng_get hx
            have hm0 := Int.emod_nonneg (5 * (0 + (i : Int))) (show (26 : Int) ≠ 0 by decide)
            have hm1 := Int.emod_lt_of_pos (5 * (0 + (i : Int))) (show (0 : Int) < 26 by decide)
            obtain ⟨c, hc, ec⟩ := LL_at (i := st + 5 * (0 + (i : Int)) % 26) (by omega) (by omega)
            walk_at "rq"
            refine i_ixS LL_line hc ?_
            rw [ec]
            have l1 : (txt (cutN st.toNat (st + at').toNat)).length ≤ 52 := by show (cutN _ _).toArray.size ≤ _; unfold cutN; simp [LLn_len]; omega
            have l2 : (txt (cutN (st + at' + 1).toNat (st + (1 + sz)).toNat)).length ≤ 52 := by show (cutN _ _).toArray.size ≤ _; unfold cutN; simp [LLn_len]; omega
            have l3 : (txt (sgnN (st + 5 * (0 + (i : Int)) % 26).toNat)).length ≤ 52 := by show (sgnN _).toArray.size ≤ _; unfold sgnN; simp [LLn_len]; omega
            refine i_addS (line_of (by omega)) ?_
            have l4 : (txt (cutN st.toNat (st + at').toNat) ++ txt (sgnN (st + 5 * (0 + (i : Int)) % 26).toNat)).length ≤ 104 := by rw [Str.length_append]; omega
            walk_at "rq"
            exact hR
          · rw [map_rng (G := fun k => txt (cutN st.toNat (st.toNat + at'.toNat) ++ sgnN (st.toNat + 5 * k % 26) ++ cutN (st.toNat + at'.toNat + 1) (st.toNat + (1 + sz).toNat))) (fun k hk => by
              have q1 : (st + at').toNat = st.toNat + at'.toNat := by omega
              have q2 : (st + 5 * (0 + (k : Int)) % 26).toNat = st.toNat + 5 * k % 26 := by omega
              have q3 : (st + at' + 1).toNat = st.toNat + at'.toNat + 1 := by omega
              have q4 : (st + (1 + sz)).toNat = st.toNat + (1 + sz).toNat := by omega
              rw [q1, q2, q3, q4, txt_app, txt_app])] at h8
            walk_at "rq"
            refine hN _ _ ⟨p8, (nm1 st.toNat (1 + sz).toNat at'.toNat).map txt, _, _, rfl, hF6.free e6 hp8, by walk_at "fr", by walk_at "fd", ?_, ok_nm1 (by omega) (by omega) (by omega), by simp [nm1]⟩
            rw [h8]
            simp [nm1, Function.comp_def]
        · walk_at "rq"
          exact hN _ _ ⟨p, ns, x8, x9, rfl, hp, e6, hF6, h6, hN6, hl6⟩
      · obtain ⟨p', ns', x8', x9', rfl, hp', e7, hF7, h7, hN7, hl7⟩ := hM
        with_reducible refine i_cut (MN H d l n st way sz at') (fun N hN => ?_) (fun σ1 H8 hM => ?_)
        · walk_at "rq"
          refine iteD (fun hw => ?_) (fun hw => ?_)
          · walk_at "rq"
            refine i_rngv (by omega) ?_
            refine comp_map walk_range (fI fun k => .str (Txt.slice LL (some (st + k)) (some (st + k + 1 + 3 * k % 8)))) (by simp) (fun _ _ => trivial) (fun i x H8 R hx e8 hR => ?_) (fun p8 H8 hp8 e8 h8 => ?_)
            · obtain ⟨rfl, hi⟩ := rng_get hx
              walk_at "rq"
              exact hR
            · rw [map_rng (G := fun k => txt (cutN (st.toNat + k) (st.toNat + k + 1 + 3 * k % 8))) (fun k hk => by
                have h10 : ((10 : Int)).toNat = 10 := rfl
                have e := LL_cut (i := st + (0 + (k : Int))) (j := st + (0 + (k : Int)) + 1 + 3 * (0 + (k : Int)) % 8) (by omega) (by omega) (by omega)
                have q1 : (st + (0 + (k : Int))).toNat = st.toNat + k := by omega
                have q2 : (st + (0 + (k : Int)) + 1 + 3 * (0 + (k : Int)) % 8).toNat = st.toNat + k + 1 + 3 * k % 8 := by omega
                rw [q1, q2] at e
                rw [e])] at h8
              walk_at "rq"
              refine hN _ _ ⟨p8, (nm2 st.toNat).map txt, _, _, rfl, hF7.free e7 hp8, by walk_at "fr", by walk_at "fd", ?_, ok_nm2 (by omega), by simp [nm2]⟩
              rw [h8]
              simp [nm2, Function.comp_def]
          · walk_at "rq"
            exact hN _ _ ⟨p', ns', x8', x9', rfl, hp', e7, hF7, h7, hN7, hl7⟩
        · obtain ⟨p2, ms, y8, y9, rfl, hp2, e8, hF8, h8, hN8, hl8⟩ := hM
          walk_at "rd"
          refine ⟨d, l, _, rfl, hF8, by omega, by omega, fun tn H9 ht0 ht1 e9 hF9 => ?_⟩
          have nd2 : p2 ≠ d := hF8.lst h8
          walk_at "rd"
          have h9 : H9 p2 = some (.lst (ms.map V.str)) := e9 _ _ nd2 h8
          refine i_slL (SqL.of h9) fun q1 H10 hq1 e10 h10 => ?_
          walk_at "rd"
          refine i_slL (SqL.of (show H10 p2 = some (.lst (ms.map V.str)) by walk_at "lk")) fun q2 H11 hq2 e11 h11 => ?_
          walk_at "rd"
          rw [cut_from ht0 (by rw [List.length_map]; omega)] at h10
          rw [cut_upto ht0] at h11
          refine i_addL (by walk_at "lk") h11 (line_of (by simp; omega)) fun q3 H12 hq3 e12 h12 => ?_
          walk_at "rd"
          rw [← List.map_drop, ← List.map_take, ← List.map_append] at h12
          refine i_slL (SqL.of h12) fun q4 H13 hq4 e13 h13 => ?_
          walk_at "rd"
          rw [cut_upto hn0, ← List.map_take] at h13
          refine i_newL (by decide) fun q5 H14 hq5 e14 h14 => ?_
          walk_at "rd"
          refine ⟨d, l, 2, rfl, by walk_at "fd", by omega, by omega, fun r H15 hr0 hr1 e15 hF15 => ?_⟩
          have hq5d : q5 ≠ d := Ne.symm (Feed.nd (H := H13) (l := l) (by walk_at "fd") hq5)
          have hq4d : q4 ≠ d := Ne.symm (Feed.nd (H := H12) (l := l) (by walk_at "fd") hq4)
          have h15 : H15 q4 = some (.lst (((ms.drop tn.toNat ++ ms.take tn.toNat).take n.toNat).map V.str)) := e15 _ _ hq4d (by walk_at "lk")
          have g15 : H15 q5 = some (.lst [V.int 1, V.int (-1)]) := e15 _ _ hq5d h14
          have hstep : ∃ k, atI [V.int 1, V.int (-1)] r = some (V.int k) ∧ (k = 1 ∨ k = -1) := by
            rcases (by omega : r = 0 ∨ r = 1) with rfl | rfl
            · exact ⟨1, rfl, .inl rfl⟩
            · exact ⟨-1, rfl, .inr rfl⟩
          obtain ⟨kk, hk1, hk2⟩ := hstep
          refine i_ixL g15 hk1 ?_
          refine i_step (SqL.of h15) hk2 fun q6 H16 hq6 e16 h16 => ?_
          obtain ⟨os, eo, ho1, ho2⟩ := step_names (k := kk) (hN8.turn tn.toNat n.toNat)
          rw [eo] at h16
          have fr15 : ExtBut d H H15 := by walk_at "fr"
          refine k q6 os H16 (hF15.free fr15 hq6) (by walk_at "fr") (by walk_at "fd") h16 ho1 ?_
          rw [ho2, List.length_take, List.length_append, List.length_drop, List.length_take]
          omega
noncomputable def sp__law_shuffled (K : PySem.W.Frag) : Sp := fun vs H Q _ => ∃ d l a xs, vs = [.ref d, .ref a] ∧ Feed H d l ∧ (SqL K H a xs ∨ SqT K H a xs) ∧ xs.length ≤ 1000 ∧ ∀ p ys H', H p = none → ExtBut d H H' → Feed H' d l → H' p = some (.lst ys) → ys.Perm xs → Q (.ref p) H'
theorem ok__law_shuffled {f : Addr} {fd : FuncData} (F : Fun K "_law_shuffled" "_law_shuffled" s__law_shuffled f fd) (T : TopF mg) (c__law_draw : Fnd P w K mg base 1 "_law_draw" ["_law_feed_here", "_law_many"] (sp__law_draw K)) : FnOk P w K mg base CX0 2 f fd ["_law_feed_here", "_law_some"] (sp__law_shuffled K) := by
  refine F.ok sc__law_shuffled (fun vs H Q E h => ?_) (fun cdv A outer s H vs Q E hr h => ?_)
  · obtain ⟨d, l, a, xs, rfl, _⟩ := h
    rfl
  · obtain ⟨d, l, a, xs, rfl, hF, hS, hx, k⟩ := h
    have hu := hu_of hr
    have hq := qa_of hr
    with_reducible refine ⟨_, (pss_cons (ps_set (i := 2) sc__law_shuffled.nd (by with_unfolding_all rfl) (by with_unfolding_all exact Or.inl rfl) (pe_callTy (call_listK (K := K)) (by with_unfolding_all rfl) T.b_list PyProof.Rows.Boot.«list» (pa_cons (pv 1) pa_nil)))
      (pss_cons (ps_set (i := 3) sc__law_shuffled.nd (by with_unfolding_all rfl) (by with_unfolding_all exact Or.inl rfl) (pe_lst pa_nil))
      (pss_cons (ps_for PassesOwn.never (by with_unfolding_all rfl) (pi_range1 (by with_unfolding_all rfl) T.b_range (pa_cons (pe_callB (call_lenK (K := K)) (by with_unfolding_all rfl) T.b_len PyProof.Rows.Boot.«len» (pa_cons (pv 2) pa_nil)) pa_nil)) (pg_name (i := 4) sc__law_shuffled.nd (by with_unfolding_all rfl) (by with_unfolding_all exact Or.inl rfl))
      (pss_one (ps_expr (pe_bmK (K := K) PySem.F.plainAttrs_list PySem.F.slot_list_append PySem.F.type_list_append (mm mt_append) (pv 3) (pa_cons (pe_bmK (K := K) PySem.F.plainAttrs_list PySem.F.slot_list_pop PySem.F.type_list_pop (mm mt_popAt) (pv 2) (pa_cons (pe_fn c__law_draw (hr.mono (by decide)) (by with_unfolding_all rfl) (pa_cons (pv 0) (pa_cons (pe_callB (call_lenK (K := K)) (by with_unfolding_all rfl) T.b_len PyProof.Rows.Boot.«len» (pa_cons (pv 2) pa_nil)) pa_nil))) pa_nil)) pa_nil)))))
      (pss_one (ps_ret (pv 3)))))), ?_⟩
    walk_at "rd"
    refine i_listA hS fun q H1 hq1 e1 h1 => ?_
    walk_at "rd"
    refine i_newL (by decide) fun p H2 hp2 e2 h2 => ?_
    walk_at "rd"
    refine i_rngv (by omega) ?_
    have hp0 : H p = none := e1.free hp2
    have hpq : p ≠ q := fun z => by subst z; rw [h1] at hp2; cases hp2
    refine for_by walk_range (fun i σ H3 => ∃ us vs x4, σ = [some (.ref d), some (.ref a), some (.ref q), some (.ref p), x4] ∧ ExtBut d H H3 ∧ Feed H3 d l ∧ H3 q = some (.lst us) ∧ H3 p = some (.lst vs) ∧ (vs ++ us).Perm xs ∧ us.length + i = xs.length ∧ vs.length = i)
      ⟨xs, [], none, rfl, by walk_at "fr", by walk_at "fd", by walk_at "lk", h2, by simp, rfl, rfl⟩ (fun _ _ _ _ => trivial) (fun i x σ H3 hx3 hi hP => ?_) (fun σ H3 hP => ?_)
    · obtain ⟨us, vs, x4, rfl, e3, hF3, h3q, h3p, hperm, hlen, hvl⟩ := hP
      obtain ⟨rfl, hi2⟩ := rng_get hx3
      have hi3 : i < xs.length := by simpa using hi2
      walk_at "rd"
      refine ⟨d, l, _, rfl, hF3, by omega, by omega, fun r H4 hr0 hr1 e4 hF4 => ?_⟩
      have h4q : H4 q = some (.lst us) := e4 _ _ (hF3.lst h3q) h3q
      have h4p : H4 p = some (.lst vs) := e4 _ _ (hF3.lst h3p) h3p
      have hr2 : r.toNat < us.length := by omega
      walk_at "rd"
      refine i_popAtR h4q hr0 (List.getElem?_eq_getElem hr2) (fun H5 e5 h5q => ?_) (by omega)
      have h5p : H5 p = some (.lst vs) := e5 _ _ hpq h4p
      walk_at "rd"
      refine i_appR h5p (by omega) fun H6 e6 h6p => ?_
      walk_at "rd"
      refine ⟨us.eraseIdx r.toNat, vs ++ [us[r.toNat]], _, rfl, by walk_at "fr", (hF4.put e5 (hF.nd hq1) (hF.nl hq1)).put e6 (hF.nd hp0) (hF.nl hp0), e6 _ _ (Ne.symm hpq) h5q, h6p, ?_, ?_, by simp [hvl]⟩
      · exact (perm_pop (List.getElem?_eq_getElem hr2) vs).trans hperm
      · rw [List.length_eraseIdx, if_pos hr2]
        omega
    · obtain ⟨us, vs, x4, rfl, e3, hF3, h3q, h3p, hperm, hlen, hvl⟩ := hP
      walk_at "rd"
      have hu0 : us = [] := by
        rw [List.length_map, List.length_range] at hlen
        exact List.length_eq_zero_iff.mp (by omega)
      subst hu0
      rw [List.append_nil] at hperm
      exact k p vs H3 hp0 e3 hF3 h3p hperm
noncomputable def sp__law_pairs (K : PySem.W.Frag) : Sp := fun vs H Q _ => ∃ d l a ls, vs = [.ref d, .ref a] ∧ Feed H d l ∧ H a = some (.lst (ls.map V.str)) ∧ ls.length ≤ 10 ∧ ∀ p xs ps H', H p = none → ExtBut d H H' → Feed H' d l → H' p = some (.lst xs) → IsL K H' (ps.map prD) xs → Up ls ps → ps.length ≤ 100 → Q (.ref p) H'
noncomputable def MP (K : PySem.W.Frag) (H : Hp) (d l a : Addr) (ls : List Str) (way : Int) (E : Prop) : L2.St → Hp → Prop := fun σ' H' => ∃ p xs ps x5 x6 x7 x8, σ' = [some (V.ref d), some (.ref a), some (.int (ls.length : Nat)), some (.int way), some (.ref p), x5, x6, x7, x8] ∧ H p = none ∧ ExtBut d H H' ∧ Feed H' d l ∧ H' p = some (.lst xs) ∧ IsL K H' (ps.map prD) xs ∧ Up ls ps ∧ ps.length ≤ 100 ∧ (E → ps = [])
theorem len_prs {K : PySem.W.Frag} {H : Hp} {ps : List (Str × Str)} {xs : List V} (h : IsL K H (ps.map prD) xs) : xs.length = ps.length := by rw [← IsL.length h, List.length_map]
theorem ok__law_pairs {f : Addr} {fd : FuncData} (F : Fun K "_law_pairs" "_law_pairs" s__law_pairs f fd) (T : TopF mg) (c__law_draw : Fnd P w K mg base 1 "_law_draw" ["_law_feed_here", "_law_many"] (sp__law_draw K)) : FnOk P w K mg base CX0 2 f fd ["_law_feed_here", "_law_line"] (sp__law_pairs K) := by
  refine F.ok sc__law_pairs (fun vs H Q E h => ?_) (fun cdv A outer s H vs Q E hr h => ?_)
  · obtain ⟨d, l, a, xs, rfl, _⟩ := h
    rfl
  · obtain ⟨d, l, a, ls, rfl, hF, hA, hl, k⟩ := h
    have hu := hu_of hr
    have hq := qa_of hr
    with_reducible refine ⟨_, (pss_cons (ps_set (i := 2) sc__law_pairs.nd (by with_unfolding_all rfl) (by with_unfolding_all exact Or.inl rfl) (pe_callB (call_lenK (K := K)) (by with_unfolding_all rfl) T.b_len PyProof.Rows.Boot.«len» (pa_cons (pv 1) pa_nil)))
      (pss_cons (ps_set (i := 3) sc__law_pairs.nd (by with_unfolding_all rfl) (by with_unfolding_all exact Or.inl rfl) (pe_fn c__law_draw (hr.mono (by decide)) (by with_unfolding_all rfl) (pa_cons (pv 0) (pa_cons pe_int pa_nil))))
      (pss_cons (ps_set (i := 4) sc__law_pairs.nd (by with_unfolding_all rfl) (by with_unfolding_all exact Or.inl rfl) (pe_lst pa_nil))
      (pss_cons (ps_if (PW.pt (pw_and (pt_cmpR op_lt (pv 3) pe_int (nomark _)) (pw_and1 (pt_cmpR op_gt (pv 2) pe_int (nomark _))))) (pss_one (ps_for PassesOwn.never (by with_unfolding_all rfl) (pi_range1 (by with_unfolding_all rfl) T.b_range (pa_cons (pe_ix (ix_anyK (K := K) hu) (pe_lst (pa_cons (pe_op op_fdivA (pv 2) pe_int) (pa_cons (pv 2) (pa_cons (pe_op op_mulB pe_int (pv 2)) pa_nil)))) (pv 3) (by with_unfolding_all exact fun _ _ => rfl)) pa_nil)) (pg_name (i := 5) sc__law_pairs.nd (by with_unfolding_all rfl) (by with_unfolding_all exact Or.inl rfl))
      (pss_cons (ps_set (i := 6) sc__law_pairs.nd (by with_unfolding_all rfl) (by with_unfolding_all exact Or.inl rfl) (pe_fn c__law_draw (hr.mono (by decide)) (by with_unfolding_all rfl) (pa_cons (pv 0) (pa_cons (pe_op op_sub (pv 2) pe_int) pa_nil))))
      (pss_one (ps_expr (pe_bmK (K := K) PySem.F.plainAttrs_list PySem.F.slot_list_append PySem.F.type_list_append (mm mt_append) (pv 4) (pa_cons (pe_tup (pa_cons (pe_ix (ix_anyK (K := K) hu) (pv 1) (pv 6) (by with_unfolding_all exact fun _ _ => rfl)) (pa_cons (pe_ix (ix_anyK (K := K) hu) (pv 1) (pe_op (op_addK (K := K)) (pe_op (op_addK (K := K)) (pv 6) pe_int) (pe_fn c__law_draw (hr.mono (by decide)) (by with_unfolding_all rfl) (pa_cons (pv 0) (pa_cons (pe_op op_sub (pe_op op_sub (pv 2) pe_int) (pv 6)) pa_nil)))) (by with_unfolding_all exact fun _ _ => rfl)) pa_nil))) pa_nil))))))) pss_nil)
      (pss_cons (ps_if (pt_cmpR (op_eqK (K := K) hq) (pv 3) pe_int (nomark _)) (pss_cons (ps_set (i := 7) sc__law_pairs.nd (by with_unfolding_all rfl) (by with_unfolding_all exact Or.inr rfl) (pe_fn c__law_draw (hr.mono (by decide)) (by with_unfolding_all rfl) (pa_cons (pv 0) (pa_cons (pe_op (op_addK (K := K)) (pv 2) pe_int) pa_nil))))
      (pss_one (ps_setcomp (i := 4) ["_law_k"] ["_law_line", "_law_cut"] [1, 7] (by with_unfolding_all rfl) (by with_unfolding_all rfl) (by with_unfolding_all rfl) sc__law_pairs.nd (by with_unfolding_all rfl) (by with_unfolding_all rfl) (pi_range1 (by with_unfolding_all rfl) T.b_range (pa_cons (pe_op op_sub (pv 2) pe_int) pa_nil)) (fun _ _ _ _ => (pg_name (i := 0) (by with_unfolding_all (show (["_law_k", "_law_line", "_law_cut"] : List Str).Nodup; decide +kernel)) (by with_unfolding_all rfl) (by with_unfolding_all exact Or.inl rfl))) (gk_name (by decide)) (fun _ _ _ _ => (pif_one (pt_cmpR (op_neK (K := K) hq) (pe_op (op_addK (K := K)) (pv 0) pe_int) (pv 2) (nomark _)))) (fun _ _ _ _ => (pe_tup (pa_cons (pe_ix (ix_anyK (K := K) hu) (pv 1) (pv 0) (by with_unfolding_all exact fun _ _ => rfl)) (pa_cons (pe_ix (ix_anyK (K := K) hu) (pv 1) (pe_op (op_addK (K := K)) (pv 0) pe_int) (by with_unfolding_all exact fun _ _ => rfl)) pa_nil))))))) pss_nil)
      (pss_cons (ps_if (pt_cmpR (op_eqK (K := K) hq) (pv 3) pe_int (nomark _)) (pss_one (ps_setcomp (i := 4) ["_law_k"] ["_law_line", "_law_feed_here"] [1, 0] (by with_unfolding_all rfl) (by with_unfolding_all rfl) (by with_unfolding_all rfl) sc__law_pairs.nd (by with_unfolding_all rfl) (by with_unfolding_all rfl) (pi_range2 (by with_unfolding_all rfl) T.b_range (pa_cons pe_int (pa_cons (pv 2) pa_nil))) (fun _ _ _ _ => (pg_name (i := 0) (by with_unfolding_all (show (["_law_k", "_law_line", "_law_feed_here"] : List Str).Nodup; decide +kernel)) (by with_unfolding_all rfl) (by with_unfolding_all exact Or.inl rfl))) (gk_name (by decide)) (fun _ _ _ _ => (pif_one (pt_cmpR op_gt (pe_fn c__law_draw (hr.mono (by decide)) (by with_unfolding_all rfl) (pa_cons (pv 2) (pa_cons pe_int pa_nil))) pe_int (nomark _)))) (fun _ _ _ _ => (pe_tup (pa_cons (pe_ix (ix_anyK (K := K) hu) (pv 1) (pe_fn c__law_draw (hr.mono (by decide)) (by with_unfolding_all rfl) (pa_cons (pv 2) (pa_cons (pv 0) pa_nil))) (by with_unfolding_all exact fun _ _ => rfl)) (pa_cons (pe_ix (ix_anyK (K := K) hu) (pv 1) (pv 0) (by with_unfolding_all exact fun _ _ => rfl)) pa_nil)))))) pss_nil)
      (pss_cons (ps_if (pt_cmpR (op_eqK (K := K) hq) (pv 3) pe_int (nomark _)) (pss_cons (ps_set (i := 7) sc__law_pairs.nd (by with_unfolding_all rfl) (by with_unfolding_all exact Or.inr rfl) (pe_fn c__law_draw (hr.mono (by decide)) (by with_unfolding_all rfl) (pa_cons (pv 0) (pa_cons (pe_op (op_addK (K := K)) (pv 2) pe_int) pa_nil))))
      (pss_one (ps_for PassesOwn.never (by with_unfolding_all rfl) (pi_anyK (K := K) hu (pe_slice (sl_K (K := K)) (pv 1) po_none (po_some (pv 7)))) (pg_name (i := 8) sc__law_pairs.nd (by with_unfolding_all rfl) (by with_unfolding_all exact Or.inr rfl))
      (pss_one (ps_expr (pe_bmK (K := K) PySem.F.plainAttrs_list PySem.F.slot_list_extend PySem.F.type_list_extend (mm mt_extend) (pv 4) (pa_cons (pe_comp ["_law_other"] ["_law_one"] [8] (by with_unfolding_all rfl) (by with_unfolding_all rfl) (by with_unfolding_all rfl) (pi_anyK (K := K) hu (pe_slice (sl_K (K := K)) (pv 1) (po_some (pv 7)) po_none)) (fun _ _ _ _ => (pg_name (i := 0) (by with_unfolding_all (show (["_law_other", "_law_one"] : List Str).Nodup; decide +kernel)) (by with_unfolding_all rfl) (by with_unfolding_all exact Or.inl rfl))) (gk_name (by decide)) (fun _ _ _ _ => pif_nil) (fun _ _ _ _ => (pe_tup (pa_cons (pv 1) (pa_cons (pv 0) pa_nil))))) pa_nil))))))) pss_nil)
      (pss_one (ps_ret (pv 4)))))))))), ?_⟩
    walk_at "rd"
    rw [List.length_map]
    refine ⟨d, l, _, rfl, hF, by omega, by omega, fun way H1 hw0 hw1 e1 hF1 => ?_⟩
    have had : a ≠ d := hF.lst hA
    walk_at "rd"
    refine i_newL (by decide) fun p H2 hp2 e2 h2 => ?_
    walk_at "rq"
    have hp0 : H p = none := hF1.free e1 hp2
    have hF2 : Feed H2 d l := by walk_at "fd"
    have hA2 : H2 a = some (.lst (ls.map V.str)) := by walk_at "lk"
    with_reducible refine i_cut (MP K H d l a ls way (way = 5)) (fun N hN => ?_) (fun σ1 H3 hM => ?_)
    · walk_at "rq"
      have done0 : N [some (V.ref d), some (.ref a), some (.int (ls.length : Nat)), some (.int way), some (.ref p), none, none, none, none] H2 := hN _ _ ⟨p, [], [], none, none, none, none, rfl, hp0, by walk_at "fr", hF2, h2, .nil, .nil, by decide, fun _ => rfl⟩
      refine iteD (fun hw => ?_) (fun hw => ?_)
      · walk_at "rq"
        refine iteD (fun hm => ?_) (fun hm => ?_)
        · walk_at "rq"
          refine i_newL (line_of (by simp)) fun q H3 hq3 e3 h3 => ?_
          have hm3 : ∃ m, atI [V.int ((ls.length : Nat) / 2), V.int (ls.length : Nat), V.int (3 * (ls.length : Nat))] way = some (V.int m) ∧ 0 ≤ m ∧ m ≤ 30 := by
            rcases (by omega : way = 0 ∨ way = 1 ∨ way = 2) with rfl | rfl | rfl
            · exact ⟨_, rfl, by omega, by omega⟩
            · exact ⟨_, rfl, by omega, by omega⟩
            · exact ⟨_, rfl, by omega, by omega⟩
          obtain ⟨m, hm1, hm2, hm3⟩ := hm3
          walk_at "rq"
          refine i_ixL h3 hm1 ?_
          walk_at "rq"
          refine i_rngv (by omega) ?_
          refine for_by walk_range (fun i σ H4 => ∃ xs ps x5 x6, σ = [some (V.ref d), some (.ref a), some (.int (ls.length : Nat)), some (.int way), some (.ref p), x5, x6, none, none] ∧ ExtBut d H H4 ∧ Feed H4 d l ∧ H4 p = some (.lst xs) ∧ IsL K H4 (ps.map prD) xs ∧ Up ls ps ∧ ps.length = i)
            ⟨[], [], none, none, rfl, by walk_at "fr", by walk_at "fd", by walk_at "lk", .nil, .nil, rfl⟩ (fun _ _ _ _ => trivial) (fun i x σ H4 hx4 hi hP => ?_) (fun σ H4 hP => ?_)
          · obtain ⟨xs, ps, x5, x6, rfl, e4, hF4, h4, hI4, hU, hpl⟩ := hP
            obtain ⟨rfl, hi2⟩ := rng_get hx4
            have hA4 : H4 a = some (.lst (ls.map V.str)) := e4 _ _ had hA
            walk_at "rd"
            refine ⟨d, l, _, rfl, hF4, by omega, by omega, fun u H5 hu0 hu1 e5 hF5 => ?_⟩
            obtain ⟨z1, hz1, hz1', _⟩ := str_at? (ls := ls) (i := u) hu0 (by omega)
            have hA5 : H5 a = some (.lst (ls.map V.str)) := e5 _ _ had hA4
            have h5 : H5 p = some (.lst xs) := e5 _ _ (hF4.lst h4) h4
            walk_at "rd"
            refine i_ixL hA5 hz1' ?_
            walk_at "rd"
            refine ⟨d, l, _, rfl, hF5, by omega, by omega, fun u2 H6 hv0 hv1 e6 hF6 => ?_⟩
            obtain ⟨z2, hz2, hz2', _⟩ := str_at? (ls := ls) (i := u + 1 + u2) (by omega) (by omega)
            have hA6 : H6 a = some (.lst (ls.map V.str)) := e6 _ _ had hA5
            have h6 : H6 p = some (.lst xs) := e6 _ _ (hF5.lst h5) h5
            walk_at "rd"
            refine i_ixL hA6 hz2' ?_
            walk_at "rd"
            refine i_newT (line_of (by simp)) fun t H7 ht7 e7 h7 => ?_
            have h7p : H7 p = some (.lst xs) := e7 _ _ h6
            have hxl := len_prs hI4
            walk_at "rd"
            refine i_appR h7p (by omega) fun H8 e8 h8 => ?_
            walk_at "rd"
            have fz8 : Fz H7 H8 := e8.fzL h7p
            have fz7 : Fz H4 H7 := ((hF4.fz e5).trans (hF5.fz e6)).trans e7.fz
            refine ⟨xs ++ [.ref t], ps ++ [(z1, z2)], _, _, rfl, by walk_at "fr", by walk_at "fd", h8, ?_, ?_, by simp [hpl]⟩
            · rw [List.map_append]
              exact (IsL.fz (fz7.trans fz8) _ _ (frzL_prs ps) hI4).append (.one ((is_pr (SqT.of h7)).pr_fz fz8))
            · exact hU.append (.one (by omega) hz1 hz2)
          · obtain ⟨xs, ps, x5, x6, rfl, e4, hF4, h4, hI4, hU, hpl⟩ := hP
            rw [List.length_map, List.length_range] at hpl
            exact hN _ _ ⟨p, xs, ps, _, _, _, _, rfl, hp0, e4, hF4, h4, hI4, hU, by omega, fun q => by omega⟩
        · walk_at "rq"
          exact done0
      · walk_at "rq"
        exact done0
    · obtain ⟨p3, xs3, ps3, x5, x6, x7, x8, rfl, hp3, e3, hF3, h3, hI3, hU3, hl3, hE3⟩ := hM
      have hA3 : H3 a = some (.lst (ls.map V.str)) := e3 _ _ had hA
      with_reducible refine i_cut (MP K H d l a ls way (way = 5)) (fun N hN => ?_) (fun σ1 H4 hM => ?_)
      · walk_at "rq"
        refine iteD (fun hw => ?_) (fun hw => ?_)
        · walk_at "rd"
          refine ⟨d, l, _, rfl, hF3, by omega, by omega, fun cut H4 hc0 hc1 e4 hF4 => ?_⟩
          have hA4 : H4 a = some (.lst (ls.map V.str)) := e4 _ _ had hA3
          walk_at "rd"
          refine i_rngv (by omega) ?_
          refine comp_dat (K := K) walk_range (List.range ((ls.length : Nat) - 1 : Int).toNat) (by simp) (fun k => !decide (V.int ((0 : Int) + (k : Nat) + 1) = V.int cut)) (fun k => prD (ls.getD k "", ls.getD (k + 1) "")) (fun _ => frz_pr _) (by simp; omega) (fun _ _ => trivial) (fun i k v H5 R R' hk hv e5 hR hR' => ?_) (fun p5 ys H5 hp5 e5 h5 hI5 => ?_)
          · obtain ⟨rfl, hi2⟩ := rng_get hv
            have hki : i = k := by
              obtain ⟨_, h2⟩ := List.getElem?_eq_some_iff.mp hk
              rw [List.getElem_range] at h2
              exact h2
            subst hki
            have hA5 : H5 a = some (.lst (ls.map V.str)) := e5 _ _ hA4
            walk_at "rd"
            refine iteND (fun hc => ?_) (fun hc => ?_)
            · obtain ⟨z1, hz1, hz1', _⟩ := str_at? (ls := ls) (i := 0 + (i : Int)) (by omega) (by omega)
              obtain ⟨z2, hz2, hz2', _⟩ := str_at? (ls := ls) (i := 0 + (i : Int) + 1) (by omega) (by omega)
              walk_at "rd"
              refine i_ixL hA5 hz1' ?_
              walk_at "rd"
              refine i_ixL hA5 hz2' ?_
              walk_at "rd"
              refine i_newT (line_of (by simp)) fun t H6 ht6 e6 h6 => ?_
              have q1 : (0 + (i : Int)).toNat = i := by omega
              have q2 : (0 + (i : Int) + 1).toNat = i + 1 := by omega
              rw [q1] at hz1
              rw [q2] at hz2
              refine hR (by rw [decide_eq_false hc]; rfl) _ _ e6 ?_
              rw [getD_of hz1, getD_of hz2]
              exact is_pr (SqT.of h6)
            · exact hR' (by rw [decide_eq_true hc]; rfl) _ (Same.refl _)
          · walk_at "rd"
            rw [map_prD] at hI5
            have hp0' : H p5 = none := hF4.free (by walk_at "fr") hp5
            refine hN _ _ ⟨p5, ys, _, _, _, _, _, rfl, hp0', by walk_at "fr", by walk_at "fd", h5, hI5, fun pr hpr => ?_, ?_, fun q => by cases hw; cases q⟩
            · obtain ⟨j, hj, rfl⟩ := List.mem_map.mp hpr
              have hj := List.mem_range.mp (List.mem_filter.mp hj).1
              exact ⟨j, j + 1, by omega, get_getD (by omega), get_getD (by omega)⟩
            · rw [List.length_map]
              refine Nat.le_trans (List.length_filter_le _ _) ?_
              rw [List.length_range]
              omega
        · walk_at "rq"
          exact hN _ _ ⟨p3, xs3, ps3, x5, x6, x7, x8, rfl, hp3, e3, hF3, h3, hI3, hU3, hl3, hE3⟩
      · obtain ⟨p4, xs4, ps4, y5, y6, y7, y8, rfl, hp4, e4, hF4, h4, hI4, hU4, hl4, hE4⟩ := hM
        have hA4 : H4 a = some (.lst (ls.map V.str)) := e4 _ _ had hA
        with_reducible refine i_cut (MP K H d l a ls way (way = 5)) (fun N hN => ?_) (fun σ1 H5 hM => ?_)
        · walk_at "rq"
          refine iteD (fun hw => ?_) (fun hw => ?_)
          · walk_at "rd"
            refine i_rngw (by omega) ?_
            refine comp_by walk_range (fun p i acc H5 => ∃ ps, ExtBut d H H5 ∧ Feed H5 d l ∧ IsL K H5 (ps.map prD) acc ∧ Up ls ps ∧ ps.length ≤ i) (fun p H5 hp e5 h5 => ⟨[], by walk_at "fr", by walk_at "fd", .nil, .nil, Nat.le_refl _⟩) (fun _ _ _ _ _ => trivial) (fun p i x acc H5 hp hx hi hl5 ha hP => ?_) fun p acc H5 hp ha hl5 hP => ?_
            · obtain ⟨ps, e5, hF5, hI5, hU5, hpl5⟩ := hP
              obtain ⟨rfl, hi2⟩ := rng_get hx
              have hp0' : H p = none := hF4.free e4 hp
              have hpd : p ≠ d := Ne.symm (hF4.nd hp)
              walk_at "rd"
              refine ⟨d, l, _, rfl, hF5, by omega, by omega, fun u H6 hu0 hu1 e6 hF6 => ?_⟩
              walk_at "rd"
              have h6 : H6 p = some (.lst acc) := e6 _ _ hpd ha
              have hA6 : H6 a = some (.lst (ls.map V.str)) := e6 _ _ had (e5 _ _ had hA)
              refine iteD (fun hc => ?_) (fun hc => ?_)
              · walk_at "rd"
                refine ⟨d, l, _, rfl, hF6, by omega, by omega, fun u2 H7 hv0 hv1 e7 hF7 => ?_⟩
                have h7 : H7 p = some (.lst acc) := e7 _ _ hpd h6
                have hA7 : H7 a = some (.lst (ls.map V.str)) := e7 _ _ had hA6
                obtain ⟨z1, hz1, hz1', _⟩ := str_at? (ls := ls) (i := u2) hv0 (by omega)
                obtain ⟨z2, hz2, hz2', _⟩ := str_at? (ls := ls) (i := 1 + (i : Int)) (by omega) (by omega)
                walk_at "rd"
                refine i_ixL hA7 hz1' ?_
                walk_at "rd"
                refine i_ixL hA7 hz2' ?_
                walk_at "rd"
                refine i_newT (line_of (by simp)) fun t H8 ht8 e8 h8 => ?_
                have h8p : H8 p = some (.lst acc) := e8 _ _ h7
                refine push_i (by simp; omega) hi hl5 h8p fun H9 e9 h9 => ?_
                have fz9 : Fz H8 H9 := e9.fzL h8p
                have fz8 : Fz H5 H8 := ((hF5.fz e6).trans (hF6.fz e7)).trans e8.fz
                refine ⟨ps ++ [(z1, z2)], by walk_at "fr", by walk_at "fd", ?_, hU5.append (.one (by omega) hz1 hz2), by simp [hpl5]⟩
                rw [List.map_append]
                exact (IsL.fz (fz8.trans fz9) _ _ (frzL_prs ps) hI5).append (.one ((is_pr (SqT.of h8)).pr_fz fz9))
              · refine cn_skip hi hl5 h6 ⟨ps, by walk_at "fr", hF6, IsL.fz (hF5.fz e6) _ _ (frzL_prs ps) hI5, hU5, by omega⟩
            · obtain ⟨ps, e5, hF5, hI5, hU5, hpl5⟩ := hP
              rw [List.length_map, List.length_range] at hpl5
              walk_at "rd"
              exact hN _ _ ⟨p, acc, ps, _, _, _, _, rfl, hF4.free e4 hp, e5, hF5, ha, hI5, hU5, by omega, fun q => by cases hw; cases q⟩
          · walk_at "rq"
            exact hN _ _ ⟨p4, xs4, ps4, _, _, _, _, rfl, hp4, e4, hF4, h4, hI4, hU4, hl4, hE4⟩
        · obtain ⟨p5, xs5, ps5, z5, z6, z7, z8, rfl, hp5, e5, hF5, h5, hI5, hU5, hl5, hE5⟩ := hM
          have hA5 : H5 a = some (.lst (ls.map V.str)) := e5 _ _ had hA
          with_reducible refine i_cut (MP K H d l a ls way False) (fun N hN => ?_) (fun σ1 H6 hM => ?_)
          · walk_at "rq"
            refine iteD (fun hw => ?_) (fun hw => ?_)
            · walk_at "rd"
              refine ⟨d, l, _, rfl, hF5, by omega, by omega, fun cut H6 hc0 hc1 e6 hF6 => ?_⟩
              have hA6 : H6 a = some (.lst (ls.map V.str)) := e6 _ _ had hA5
              have h6 : H6 p5 = some (.lst xs5) := e6 _ _ (hF5.lst h5) h5
              walk_at "rd"
              refine i_slL (SqL.of hA6) fun q H7 hq7 e7 h7 => ?_
              rw [cut_upto hc0, ← List.map_take] at h7
              have hq0 : H q = none := hF6.free (by walk_at "fr") hq7
              have hp5n : p5 ≠ q := ne_of_none h6 hq7
              refine i_itL (SqL.of h7) ?_
              have hway : way = 5 := by
                cases hw
                rfl
              have hps : ps5 = [] := hE5 hway
              subst hps
              have hxs : xs5 = [] := by simpa only [List.map_nil, L2.IsL] using hI5
              subst hxs
              have hdrop : ∀ H8, ExtBut d H H8 → H8 a = some (.lst (ls.map V.str)) := fun H8 e8 => e8 _ _ had hA
              refine for_by (walk_list (xs := (ls.take cut.toNat).map V.str)) (fun i σ H8 => ∃ xs ps x8, σ = [some (V.ref d), some (.ref a), some (.int (ls.length : Nat)), some (.int way), some (.ref p5), z5, z6, some (.int cut), x8] ∧ ExtBut d H H8 ∧ Feed H8 d l ∧ H8 q = some (.lst ((ls.take cut.toNat).map V.str)) ∧ H8 p5 = some (.lst xs) ∧ IsL K H8 (ps.map prD) xs ∧ Up ls ps ∧ ps.length ≤ i * 10)
                ⟨[], [], _, rfl, by walk_at "fr", by walk_at "fd", h7, by walk_at "lk", .nil, .nil, by decide⟩ (fun i σ H8 hP => ?_) (fun i x σ H8 hx8 hi hP => ?_) (fun σ H8 hP => ?_)
              · obtain ⟨xs, ps, x8, rfl, e8, hF8, hq8, _⟩ := hP
                exact SqL.of hq8
              · obtain ⟨xs, ps, x8, rfl, e8, hF8, hq8, h8, hI8, hU8, hl8⟩ := hP
                rw [List.getElem?_map] at hx8
                cases hz : (ls.take cut.toNat)[i]? with
                | none => rw [hz] at hx8; cases hx8
                | some one =>
                  rw [hz] at hx8
                  cases hx8
                  have hi10 : i < 10 := by
                    have := List.getElem?_eq_some_iff.mp hz
                    obtain ⟨h1, _⟩ := this
                    rw [List.length_take] at h1
                    omega
                  have hone : ls[i]? = some one := by
                    rw [List.getElem?_take] at hz
                    split at hz
                    · exact hz
                    · cases hz
                  have hicut : i < cut.toNat := by
                    rw [List.getElem?_take] at hz
                    split at hz
                    · assumption
                    · cases hz
                  walk_at "rd"
                  refine i_slL (SqL.of (hdrop H8 e8)) fun q9 H9 hq9 e9 h9 => ?_
                  rw [cut_from hc0 (by rw [List.length_map]; omega), ← List.map_drop] at h9
                  refine i_itL (SqL.of h9) ?_
                  refine comp_dat (K := K) (walk_list (xs := (ls.drop cut.toNat).map V.str)) (ls.drop cut.toNat) (by simp) (fun _ => true) (fun o => prD (one, o)) (fun _ => frz_pr _) (by simp; omega) (fun H' e' => SqL.of (e' _ _ h9)) (fun j o v H10 R R' ho hv e10 hR hR' => ?_) (fun p10 ys H10 hp10 e10 h10 hI10 => ?_)
                  · rw [List.getElem?_map, ho] at hv
                    cases hv
                    walk_at "rd"
                    refine i_newT (line_of (by simp)) fun t H11 ht11 e11 h11 => ?_
                    exact hR rfl _ _ e11 (is_pr (SqT.of h11))
                  · walk_at "rd"
                    have h10p : H10 p5 = some (.lst xs) := e10 _ _ (e9 _ _ h8)
                    have hy : ys.length ≤ 10 := by
                      have := IsL.length hI10
                      rw [List.length_map, filter_true, List.length_drop] at this
                      omega
                    have hxl := len_prs hI8
                    refine i_extR h10p h10 (by omega) fun H11 e11 h11 => ?_
                    walk_at "rd"
                    have hq10 : H10 q = some (.lst ((ls.take cut.toNat).map V.str)) := e10 _ _ (e9 _ _ hq8)
                    have fz11 : Fz H10 H11 := e11.fzL h10p
                    rw [filter_true, map_prD] at hI10
                    refine ⟨xs ++ ys, ps ++ (ls.drop cut.toNat).map (fun o => (one, o)), _, rfl, by walk_at "fr", by walk_at "fd", e11 _ _ (Ne.symm hp5n) hq10, h11, ?_, hU8.append fun pr hpr => ?_, ?_⟩
                    · rw [List.map_append]
                      exact (IsL.fz ((e9.fz.trans e10.fz).trans fz11) _ _ (frzL_prs ps) hI8).append (IsL.fz fz11 _ _ (frzL_prs _) hI10)
                    · obtain ⟨o, ho, rfl⟩ := List.mem_map.mp hpr
                      obtain ⟨j, hj, ej⟩ := List.getElem_of_mem ho
                      refine ⟨i, cut.toNat + j, by omega, hone, ?_⟩
                      rw [← List.getElem?_drop, List.getElem?_eq_getElem hj, ej]
                    · rw [List.length_append, List.length_map, List.length_drop, Nat.add_mul]
                      omega
              · obtain ⟨xs, ps, x8, rfl, e8, hF8, hq8, h8, hI8, hU8, hl8⟩ := hP
                rw [List.length_map, List.length_take] at hl8
                exact hN _ _ ⟨p5, xs, ps, _, _, _, _, rfl, hp5, e8, hF8, h8, hI8, hU8, by omega, False.elim⟩
            · walk_at "rq"
              exact hN _ _ ⟨p5, xs5, ps5, _, _, _, _, rfl, hp5, e5, hF5, h5, hI5, hU5, hl5, False.elim⟩
          · obtain ⟨p6, xs6, ps6, w5, w6, w7, w8, rfl, hp6, e6, hF6, h6, hI6, hU6, hl6, hE6⟩ := hM
            walk_at "rd"
            exact k p6 xs6 ps6 H6 hp6 e6 hF6 h6 hI6 hU6 hl6
noncomputable def sp__law_sayings (K : PySem.W.Frag) : Sp := fun vs H Q _ => ∃ d l a ls, vs = [.ref d, .ref a] ∧ Feed H d l ∧ H a = some (.lst (ls.map V.str)) ∧ ls.length ≤ 10 ∧ ∀ v ps H', ExtBut d H H' → Feed H' d l → Is K H' (psD ps) v → Up ls ps → ps.length ≤ 60 → Q v H'
theorem isL_ins {K : PySem.W.Frag} {H : Hp} {ps : List (Str × Str)} {xs : List V} {p : Str × Str} {v : V} (n : Nat) (h : IsL K H (ps.map prD) xs) (hv : Is K H (prD p) v) : IsL K H ((ps.take n ++ p :: ps.drop n).map prD) (insL xs n v) := by
  rw [List.map_append, List.map_cons, List.map_take, List.map_drop]
  exact (IsL.take n h).append (.cons hv (IsL.drop n h))
theorem ok__law_sayings {f : Addr} {fd : FuncData} (F : Fun K "_law_sayings" "_law_sayings" s__law_sayings f fd) (T : TopF mg) (c__law_draw : Fnd P w K mg base 1 "_law_draw" ["_law_feed_here", "_law_many"] (sp__law_draw K)) (c__law_pairs : Fnd P w K mg base 2 "_law_pairs" ["_law_feed_here", "_law_line"] (sp__law_pairs K)) : FnOk P w K mg base CX0 3 f fd ["_law_feed_here", "_law_line"] (sp__law_sayings K) := by
  refine F.ok sc__law_sayings (fun vs H Q E h => ?_) (fun cdv A outer s H vs Q E hr h => ?_)
  · obtain ⟨d, l, a, xs, rfl, _⟩ := h
    rfl
  · obtain ⟨d, l, a, ls, rfl, hF, hA, hl, k⟩ := h
    have hu := hu_of hr
    have hq := qa_of hr
    with_reducible refine ⟨_, (pss_cons (ps_set (i := 2) sc__law_sayings.nd (by with_unfolding_all rfl) (by with_unfolding_all exact Or.inl rfl) (pe_lst pa_nil))
      (pss_cons (ps_for PassesOwn.never (by with_unfolding_all rfl) (pi_anyK (K := K) hu (pe_fn c__law_pairs (hr.mono (by decide)) (by with_unfolding_all rfl) (pa_cons (pv 0) (pa_cons (pv 1) pa_nil)))) (pg_name (i := 3) sc__law_sayings.nd (by with_unfolding_all rfl) (by with_unfolding_all exact Or.inl rfl))
      (pss_one (ps_for PassesOwn.never (by with_unfolding_all rfl) (pi_range1 (by with_unfolding_all rfl) T.b_range (pa_cons (pe_op (op_addK (K := K)) pe_int (pe_callTy call_intA (by with_unfolding_all rfl) T.b_int PyProof.Rows.Boot.«int» (pa_cons (pe_cmpR (op_eqK (K := K) hq) (pe_fn c__law_draw (hr.mono (by decide)) (by with_unfolding_all rfl) (pa_cons (pv 0) (pa_cons pe_int pa_nil))) pe_int (nomark _)) pa_nil))) pa_nil)) (pg_name (i := 4) sc__law_sayings.nd (by with_unfolding_all rfl) (by with_unfolding_all exact Or.inl rfl))
      (pss_one (ps_expr (pe_bmK (K := K) PySem.F.plainAttrs_list PySem.F.slot_list_insert PySem.F.type_list_insert (mm mt_insert) (pv 2) (pa_cons (pe_fn c__law_draw (hr.mono (by decide)) (by with_unfolding_all rfl) (pa_cons (pv 0) (pa_cons (pe_op (op_addK (K := K)) (pe_callB (call_lenK (K := K)) (by with_unfolding_all rfl) T.b_len PyProof.Rows.Boot.«len» (pa_cons (pv 2) pa_nil)) pe_int) pa_nil))) (pa_cons (pv 3) pa_nil))))))))
      (pss_one (ps_ret (pe_callTy (call_tupleK (K := K)) (by with_unfolding_all rfl) T.b_tuple PyProof.Rows.Boot.«tuple» (pa_cons (pe_slice (sl_K (K := K)) (pv 2) po_none (po_some pe_int)) pa_nil)))))), ?_⟩
    walk_at "rd"
    refine i_newL (by decide) fun p H1 hp1 e1 h1 => ?_
    have hA1 : H1 a = some (.lst (ls.map V.str)) := e1 _ _ hA
    have hF1 : Feed H1 d l := hF.same e1
    walk_at "rd"
    refine ⟨d, l, a, ls, rfl, hF1, hA1, hl, fun q xs ps H2 hq2 e2 hF2 h2 hI2 hU2 hl2 => ?_⟩
    have hpd : p ≠ d := Ne.symm (hF.nd hp1)
    have h2p : H2 p = some (.lst []) := e2 _ _ hpd h1
    have hpq : p ≠ q := ne_of_none h1 hq2
    have hq0 : H q = none := e1.free hq2
    have hxl := len_prs hI2
    refine i_itL (SqL.of h2) ?_
    refine for_by (walk_list (xs := xs)) (fun i σ H3 => ∃ ys qs x3 x4, σ = [some (V.ref d), some (.ref a), some (.ref p), x3, x4] ∧ ExtBut d H H3 ∧ Feed H3 d l ∧ H3 q = some (.lst xs) ∧ Fz H2 H3 ∧ H3 p = some (.lst ys) ∧ IsL K H3 (qs.map prD) ys ∧ Up ls qs ∧ qs.length ≤ i * 2)
      ⟨[], [], _, _, rfl, by walk_at "fr", hF2, h2, .refl _, h2p, .nil, .nil, by decide⟩ (fun i σ H3 hP => ?_) (fun i x σ H3 hx3 hi hP => ?_) (fun σ H3 hP => ?_)
    · obtain ⟨ys, qs, x3, x4, rfl, e3, hF3, hq3, _⟩ := hP
      exact SqL.of hq3
    · obtain ⟨ys, qs, x3, x4, rfl, e3, hF3, hq3, fz3, h3p, hI3, hU3, hl3⟩ := hP
      obtain ⟨dp, hdp, hip⟩ := IsL.get hI2 hx3
      rw [List.getElem?_map] at hdp
      cases hpr : ps[i]? with
      | none => rw [hpr] at hdp; cases hdp
      | some pr =>
        rw [hpr] at hdp
        cases hdp
        have hUp : Up ls [pr] := hU2.sub fun z hz => by
          have : z = pr := by simpa using hz
          subst this
          exact List.mem_of_getElem? hpr
        have hi100 : i < 100 := by omega
        walk_at "rd"
        refine ⟨d, l, _, rfl, hF3, by omega, by omega, fun u H4 hu0 hu1 e4 hF4 => ?_⟩
        have h4p : H4 p = some (.lst ys) := e4 _ _ hpd h3p
        have h4q : H4 q = some (.lst xs) := e4 _ _ (hF3.lst hq3) hq3
        have fz4 : Fz H2 H4 := fz3.trans (hF3.fz e4)
        have hI4 : IsL K H4 (qs.map prD) ys := IsL.fz (hF3.fz e4) _ _ (frzL_prs qs) hI3
        walk_at "rd"
        refine i_rngv (by split <;> omega) ?_
        refine for_by walk_range (fun j σ H5 => ∃ zs rs x4, σ = [some (V.ref d), some (.ref a), some (.ref p), some x, x4] ∧ ExtBut d H H5 ∧ Feed H5 d l ∧ H5 q = some (.lst xs) ∧ Fz H2 H5 ∧ H5 p = some (.lst zs) ∧ IsL K H5 (rs.map prD) zs ∧ Up ls rs ∧ rs.length = qs.length + j)
          ⟨ys, qs, _, rfl, by walk_at "fr", hF4, h4q, fz4, h4p, hI4, hU3, rfl⟩ (fun _ _ _ _ => trivial) (fun j x' σ H5 hx5 hj hP => ?_) (fun σ H5 hP => ?_)
        · obtain ⟨zs, rs, x4', rfl, e5, hF5, hq5, fz5, h5p, hI5, hU5, hl5⟩ := hP
          obtain ⟨rfl, hj2⟩ := rng_get hx5
          have hzl := len_prs hI5
          have hj3 : j < 2 := by
            have : (1 + if decide (V.int u = V.int 0) = true then (1 : Int) else 0).toNat ≤ 2 := by split <;> omega
            omega
          walk_at "rd"
          refine ⟨d, l, _, rfl, hF5, by omega, by omega, fun u2 H6 hv0 hv1 e6 hF6 => ?_⟩
          have h6p : H6 p = some (.lst zs) := e6 _ _ hpd h5p
          have h6q : H6 q = some (.lst xs) := e6 _ _ (hF5.lst hq5) hq5
          walk_at "rd"
          refine i_ins h6p hv0 (by omega) (by omega) fun H7 e7 h7p => ?_
          have fz6 : Fz H5 H6 := hF5.fz e6
          have fz7 : Fz H6 H7 := e7.fzL h6p
          walk_at "rd"
          refine ⟨_, _, _, rfl, by walk_at "fr", by walk_at "fd", e7 _ _ (Ne.symm hpq) h6q, (fz5.trans fz6).trans fz7, h7p, isL_ins u2.toNat (IsL.fz (fz6.trans fz7) _ _ (frzL_prs rs) hI5) (Is.fz ((fz5.trans fz6).trans fz7) _ _ (frz_pr pr) hip), ?_, ?_⟩
          · intro z hz
            rcases List.mem_append.mp hz with hz | hz
            · exact hU5 z (List.mem_of_mem_take hz)
            · rcases List.mem_cons.mp hz with rfl | hz
              · exact hUp _ (by simp)
              · exact hU5 z (List.mem_of_mem_drop hz)
          · rw [List.length_append, List.length_cons, List.length_take, List.length_drop]
            omega
        · obtain ⟨zs, rs, x4', rfl, e5, hF5, hq5, fz5, h5p, hI5, hU5, hl5⟩ := hP
          rw [List.length_map, List.length_range] at hl5
          have hj3 : (1 + if decide (V.int u = V.int 0) = true then (1 : Int) else 0).toNat ≤ 2 := by split <;> omega
          exact ⟨zs, rs, _, _, rfl, e5, hF5, hq5, fz5, h5p, hI5, hU5, by omega⟩
    · obtain ⟨ys, qs, x3, x4, rfl, e3, hF3, hq3, fz3, h3p, hI3, hU3, hl3⟩ := hP
      walk_at "rd"
      refine i_slL (SqL.of h3p) fun t H4 ht4 e4 h4 => ?_
      walk_at "rd"
      rw [cut_upto (by decide)] at h4
      refine i_tupleL (SqL.of h4) fun t2 H5 ht5 e5 h5 => ?_
      have hI5 : IsL K H5 (qs.map prD) ys := IsL.mono e5 _ _ (IsL.mono e4 _ _ hI3)
      refine k (.ref t2) (qs.take 60) H5 (by walk_at "fr") (by walk_at "fd") (Is.of_tup (SqT.of h5) ?_) (hU3.sub fun z hz => List.mem_of_mem_take hz) ?_
      · rw [List.map_take]
        exact IsL.take 60 hI5
      · rw [List.length_take]
        omega
noncomputable def sp__law_half (K : PySem.W.Frag) : Sp := fun vs H Q _ => ∃ d l n, vs = [.ref d, .int n] ∧ Feed H d l ∧ 0 ≤ n ∧ n ≤ 10 ∧ ∀ v ns ps H', ExtBut d H H' → Feed H' d l → Is K H' (hfD ns ps) v → Half ns ps → ns.length ≤ n.toNat → Q v H'
theorem half_of {ns ls : List Str} {ps : List (Str × Str)} (h : Names ns) (hl : ns.length ≤ 10) (p : ls.Perm ns) (u : Up ls ps) (hp : ps.length ≤ 60) : Half ns ps := ⟨h, hl, hp, ls, p, u⟩
theorem perm_strs {ns : List Str} {ys : List V} (h : ys.Perm (ns.map V.str)) : ∃ ls : List Str, ys = ls.map V.str ∧ ls.Perm ns := by
  refine ⟨ys.map fun v => match v with | .str z => z | _ => "", ?_, ?_⟩
  · rw [List.map_map]
    have : ∀ v ∈ ys, (V.str ∘ fun v => match v with | .str z => z | _ => "") v = v := fun v hv => by
      obtain ⟨z, _, rfl⟩ := List.mem_map.mp (h.mem_iff.mp hv)
      rfl
    rw [List.map_congr_left this]
    simp
  · have := h.map fun v => match v with | .str z => z | _ => ("" : Str)
    rw [List.map_map] at this
    have e : ns.map ((fun v => match v with | .str z => z | _ => ("" : Str)) ∘ V.str) = ns := by
      rw [show ((fun v => match v with | .str z => z | _ => ("" : Str)) ∘ V.str) = id from rfl, List.map_id]
    rw [e] at this
    exact this
theorem ok__law_half {f : Addr} {fd : FuncData} (F : Fun K "_law_half" "_law_half" s__law_half f fd) (T : TopF mg) (c__law_draw : Fnd P w K mg base 1 "_law_draw" ["_law_feed_here", "_law_many"] (sp__law_draw K)) (c__law_names : Fnd P w K mg base 2 "_law_names" ["_law_feed_here", "_law_many"] (sp__law_names K)) (c__law_shuffled : Fnd P w K mg base 2 "_law_shuffled" ["_law_feed_here", "_law_some"] (sp__law_shuffled K)) (c__law_sayings : Fnd P w K mg base 3 "_law_sayings" ["_law_feed_here", "_law_line"] (sp__law_sayings K)) : FnOk P w K mg base CX0 4 f fd ["_law_feed_here", "_law_most"] (sp__law_half K) := by
  refine F.ok sc__law_half (fun vs H Q E h => ?_) (fun cdv A outer s H vs Q E hr h => ?_)
  · obtain ⟨d, l, n, rfl, _⟩ := h
    rfl
  · obtain ⟨d, l, n, rfl, hF, h0, h10, k⟩ := h
    have hu := hu_of hr
    have hq := qa_of hr
    with_reducible refine ⟨_, (pss_cons (ps_set (i := 2) sc__law_half.nd (by with_unfolding_all rfl) (by with_unfolding_all exact Or.inl rfl) (pe_fn c__law_names (hr.mono (by decide)) (by with_unfolding_all rfl) (pa_cons (pv 0) (pa_cons (pe_fn c__law_draw (hr.mono (by decide)) (by with_unfolding_all rfl) (pa_cons (pv 0) (pa_cons (pe_op (op_addK (K := K)) (pv 1) pe_int) pa_nil))) pa_nil))))
      (pss_one (ps_ret (pe_tup (pa_cons (pe_callTy (call_tupleK (K := K)) (by with_unfolding_all rfl) T.b_tuple PyProof.Rows.Boot.«tuple» (pa_cons (pv 2) pa_nil)) (pa_cons (pe_fn c__law_sayings (hr.mono (by decide)) (by with_unfolding_all rfl) (pa_cons (pv 0) (pa_cons (pe_fn c__law_shuffled (hr.mono (by decide)) (by with_unfolding_all rfl) (pa_cons (pv 0) (pa_cons (pv 2) pa_nil))) pa_nil))) pa_nil)))))), ?_⟩
    walk_at "rd"
    refine ⟨d, l, _, rfl, hF, by omega, by omega, fun u H1 hu0 hu1 e1 hF1 => ?_⟩
    walk_at "rd"
    refine ⟨d, l, _, rfl, hF1, by omega, by omega, fun p2 ns H2 hp2 e2 hF2 h2 hN hl => ?_⟩
    walk_at "rd"
    refine i_tupleL (SqL.of h2) fun t3 H3 ht3 e3 h3 => ?_
    have hF3 := hF2.same e3
    have hI3 : Is K H3 (nmD ns) (.ref t3) := is_nm (SqT.of h3)
    walk_at "rd"
    refine ⟨d, l, p2, _, rfl, hF3, .inl (SqL.of (e3 _ _ h2)), by rw [List.length_map]; omega, fun p4 ys4 H4 hp4 e4 hF4 h4 hperm => ?_⟩
    obtain ⟨ls, rfl, hpm⟩ := perm_strs hperm
    have fz4 := hF3.fz e4
    walk_at "rd"
    refine ⟨d, l, p4, ls, rfl, hF4, h4, by rw [hpm.length_eq]; omega, fun v5 ps H5 e5 hF5 hI5 hU hl5 => ?_⟩
    have fz5 := hF4.fz e5
    walk_at "rd"
    refine i_newT (line_of (by simp)) fun t6 H6 ht6 e6 h6 => ?_
    exact k (.ref t6) ns ps H6 (by walk_at "fr") (by walk_at "fd") (is_hf (SqT.of h6) (hI3.nm_fz ((fz4.trans fz5).trans e6.fz)) (hI5.ps_fz e6.fz)) (half_of hN (by omega) hpm hU hl5) (by omega)
noncomputable def sp_behind_each (K : PySem.W.Frag) : Sp := fun vs H Q _ => ∃ v ns ps, vs = [v] ∧ Is K H (hfD ns ps) v ∧ HalfC ns ps ∧ ∀ r as H', H r = none → (∀ a ∈ as, H a = none) → Same H H' → Tab H' r ns as (Way ps) → Q (.ref r) H'
theorem ok_behind_each {f : Addr} {fd : FuncData} (F : Fun K "behind_each" "behind_each" s_behind_each f fd) (T : TopF mg) : FnOk P w K mg base CX0 1 f fd ["half"] (sp_behind_each K) := by
  refine F.ok sc_behind_each (fun vs H Q E h => ?_) (fun cdv A outer s H vs Q E hr h => ?_)
  · obtain ⟨v, ns, ps, rfl, _⟩ := h
    rfl
  · obtain ⟨v, ns, ps, rfl, hI, hW, k⟩ := h
    have hu := hu_of hr
    have hq := qa_of hr
    have hn := hW.nd
    have hfew := hW.few
    with_reducible refine ⟨_, (pss_cons (ps_set (i := 1) sc_behind_each.nd (by with_unfolding_all rfl) (by with_unfolding_all exact Or.inl rfl) (pe_ix (ix_anyK (K := K) hu) (pv 0) pe_int (by with_unfolding_all exact fun _ _ => rfl)))
      (pss_cons (ps_set (i := 2) sc_behind_each.nd (by with_unfolding_all rfl) (by with_unfolding_all exact Or.inl rfl) (pe_callTy (call_dictK (K := K) hr.hd) (by with_unfolding_all rfl) T.b_dict PyProof.Rows.Boot.«dict» (pa_cons (pe_comp ["name"] [] [] (by with_unfolding_all rfl) (by with_unfolding_all rfl) (by with_unfolding_all rfl) (pi_anyK (K := K) hu (pv 1)) (fun _ _ _ _ => (pg_name (i := 0) (by with_unfolding_all (show (["name"] : List Str).Nodup; decide +kernel)) (by with_unfolding_all rfl) (by with_unfolding_all exact Or.inl rfl))) (gk_name (by decide)) (fun _ _ _ _ => pif_nil) (fun _ _ _ _ => (pe_tup (pa_cons (pv 0) (pa_cons pe_dnewK pa_nil))))) pa_nil)))
      (pss_cons (ps_for PassesOwn.never (by with_unfolding_all rfl) (pi_anyK (K := K) hu (pe_ix (ix_anyK (K := K) hu) (pv 0) pe_int (by with_unfolding_all exact fun _ _ => rfl))) (pg_name (i := 3) sc_behind_each.nd (by with_unfolding_all rfl) (by with_unfolding_all exact Or.inl rfl))
      (pss_one (ps_dput hu (pe_ix (ix_anyK (K := K) hu) (pv 2) (pe_ix (ix_anyK (K := K) hu) (pv 3) pe_int (by with_unfolding_all exact fun _ _ => rfl)) (by with_unfolding_all exact fun _ _ => rfl)) (pe_ix (ix_anyK (K := K) hu) (pv 3) pe_int (by with_unfolding_all exact fun _ _ => rfl)) pe_bl (by with_unfolding_all rfl))))
      (pss_cons (ps_for PassesOwn.never (by with_unfolding_all rfl) (pi_anyK (K := K) hu (pv 1)) (pg_name (i := 4) sc_behind_each.nd (by with_unfolding_all rfl) (by with_unfolding_all exact Or.inl rfl))
      (pss_one (ps_for PassesOwn.never (by with_unfolding_all rfl) (pi_anyK (K := K) hu (pv 1)) (pg_name (i := 5) sc_behind_each.nd (by with_unfolding_all rfl) (by with_unfolding_all exact Or.inl rfl))
      (pss_one (ps_if (pt_cmpR (op_inK (K := K) hq) (pv 4) (pe_ix (ix_anyK (K := K) hu) (pv 2) (pv 5) (by with_unfolding_all exact fun _ _ => rfl)) (by with_unfolding_all rfl)) (pss_one (ps_expr (pe_bmK (K := K) PySem.F.plainAttrs_dict PySem.F.slot_dict_update PySem.F.type_dict_update (mm mt_updateA) (pe_ix (ix_anyK (K := K) hu) (pv 2) (pv 5) (by with_unfolding_all exact fun _ _ => rfl)) (pa_cons (pe_ix (ix_anyK (K := K) hu) (pv 2) (pv 4) (by with_unfolding_all exact fun _ _ => rfl)) pa_nil)))) pss_nil)))))
      (pss_one (ps_ret (pv 2))))))), ?_⟩
    walk_at "rd"
    refine i_ixH0 hI fun nv hN => ?_
    walk_at "rd"
    obtain ⟨na, rfl, hS⟩ := hN.nm
    refine i_itT hS ?_
    refine comp_by (walk_tup (xs := ns.map V.str)) (fun p i acc H1 => Same H H1 ∧ ∃ as : List Addr, as.length = i ∧ as.Nodup ∧ (∀ a ∈ as, H1 a = some (.dK []) ∧ H a = none) ∧ PrsK K H1 (tabK (ns.take i) as) acc) (fun p H' hp e h => ⟨e, [], rfl, by simp, fun _ h => (by cases h), by rfl⟩) (fun p i acc H1 hP => hP.1.seqT hS) (fun p i x acc H1 hp hx hi hl ha hP => ?_) fun p acc H1 hp ha hl hP => ?_
    · obtain ⟨e1, as, hal, had, haf, hpr⟩ := hP
      rw [List.getElem?_map] at hx
      cases hz : ns[i]? with
      | none => rw [hz] at hx; cases hx
      | some z =>
        rw [hz] at hx
        cases hx
        have hin : i < ns.length := (List.getElem?_eq_some_iff.mp hz).1
        walk_at "rd"
        refine i_newD fun b H2 hb2 e2 h2 => ?_
        walk_at "rd"
        refine i_newT (line_of (by simp)) fun t H3 ht3 e3 h3 => ?_
        have h3p : H3 p = some (.lst acc) := e3 _ _ (e2 _ _ ha)
        refine push_i (by rw [List.length_map]; omega) hi hl h3p fun H4 e4 h4 => ?_
        have hbp : b ≠ p := Ne.symm (ne_of_none ha hb2)
        refine ⟨by walk_at "sm", as ++ [b], by simp [hal], ?_, fun a ha' => ?_, ?_⟩
        · rw [List.nodup_append]
          refine ⟨had, by simp, fun a ha1 c hc e => ?_⟩
          have : c = b := by simpa using hc
          subst this
          subst e
          have := (haf _ ha1).1
          rw [hb2] at this
          cases this
        · rcases List.mem_append.mp ha' with ha' | ha'
          · obtain ⟨q1, q2⟩ := haf a ha'
            exact ⟨e4 _ _ (ne_of q1 ha (by intro z; cases z)) (e3 _ _ (e2 _ _ q1)), q2⟩
          · have : a = b := by simpa using ha'
            subst this
            exact ⟨e4 _ _ hbp (e3 _ _ h2), e1.free hb2⟩
        · have ht : ns.take (i + 1) = ns.take i ++ [z] := by rw [List.take_add_one, hz]; rfl
          have hlen : (ns.take i).length = as.length := by rw [List.length_take, hal]; omega
          rw [ht, tab_snoc hlen]
          have fz4 := e4.fzL h3p
          exact PrsK.snoc (kv := (Sum.inr z, V.ref b)) (fz4.seq (SqT.of h3)) (PrsK.fz ((e2.fz.trans e3.fz).trans fz4) hpr)
    · obtain ⟨e1, as, hal, had, haf, hpr⟩ := hP
      rw [List.length_map] at hal
      rw [List.length_map, List.take_length] at hpr
      walk_at "rd"
      refine i_dict ha hpr (by unfold tabK; rw [List.length_map, List.length_zip]; omega) fun r H2 hr2 e2 h2 => ?_
      rw [merge_new _ _ (keys_tab hn) (fun _ _ _ h => by cases h), List.nil_append] at h2
      have hr0 : H r = none := e1.free hr2
      have hra : r ∉ as := fun hm => by
        have := (haf r hm).1
        rw [hr2] at this
        cases this
      have hT0 : Tab H2 r ns as (fun z y => (z, y) ∈ ps.take 0) := ⟨hal, had, hra, h2, fun i z a hz ha' => ⟨[], e2 _ _ (haf a (List.mem_of_getElem? ha')).1, by simp, fun _ h => (by cases h), fun y => by simp⟩⟩
      walk_at "rd"
      refine i_ixH1 (hI.hf_fz (by walk_at "fz")) fun pv hP2 => ?_
      refine for_ps hP2 (fun i σ H3 => ∃ x3, σ = [some v, some (.ref na), some (.ref r), x3, none, none] ∧ Same H H3 ∧ Fz H2 H3 ∧ Tab H3 r ns as (fun z y => (z, y) ∈ ps.take i))
        ⟨none, rfl, by walk_at "sm", .refl _, hT0⟩ (fun i σ' H' hP => hP.choose_spec.2.2.1) (fun i pr w σ' H3 hpr hIp hP => ?_) (fun σ' H3 hP => ?_)
      · obtain ⟨x3, rfl, e3, fz3, hT⟩ := hP
        have hpm := hW.mem pr (List.mem_of_getElem? hpr)
        obtain ⟨j, a, hj, haj⟩ := hT.at hpm.1
        obtain ⟨ks, hk1, hk2, hk3, hk4⟩ := hT.row j _ a hj haj
        have hkl : ks.length ≤ ns.length := nodup_le hk2 hk3
        walk_at "rd"
        refine i_ixP0 hIp ?_
        refine i_tab hT hn hj haj ?_
        walk_at "rd"
        refine i_ixP1 hIp ?_
        refine i_dput hk1 (by rw [len_row]; omega) fun H4 e4 h4 => ?_
        rw [put_row] at h4
        walk_at "rd"
        have ha0 : H a = none := (haf a (List.mem_of_getElem? haj)).2
        refine ⟨_, rfl, by walk_at "sm", fz3.trans (e4.fzD hk1), hT.put e4 hn hj haj h4 (nodup_addK hk2) (fun y hy => ?_) (fun y => ?_) (fun z hz hzx y => ?_)⟩
        · rcases mem_addK.mp hy with hy | rfl
          · exact hk3 y hy
          · exact hpm.2
        · rw [mem_addK, hk4, List.take_add_one, hpr, List.mem_append]
          constructor
          · rintro (h | rfl)
            · exact .inl h
            · exact .inr (by simp)
          · rintro (h | h)
            · exact .inl h
            · right
              have : (pr.1, y) = pr := by simpa using h
              rw [← this]
        · rw [List.take_add_one, hpr, List.mem_append]
          constructor
          · exact .inl
          · rintro (h | h)
            · exact h
            · have : (z, y) = pr := by simpa using h
              exact absurd (by rw [← this]) hzx
      · obtain ⟨x3, rfl, e3, fz3, hT⟩ := hP
        rw [List.take_length] at hT
        have hW0 : War ns ps [] (fun z y => (z, y) ∈ ps) := ⟨fun z y h => .one h, fun z y h => h, fun m hm => by cases hm⟩
        walk_at "rd"
        have hN3 : Is K H3 (nmD ns) (.ref na) := hN.nm_fz e3.fz
        refine for_nm hN3 (fun i σ H4 => ∃ x4 x5 R, σ = [some v, some (.ref na), some (.ref r), x3, x4, x5] ∧ Same H H4 ∧ Fz H3 H4 ∧ Tab H4 r ns as R ∧ War ns ps (ns.take i) R)
          ⟨_, _, _, rfl, e3, .refl _, hT, hW0⟩ (fun i σ' H' hP => ?_) (fun i mid σ' H4 hmid hP => ?_) (fun σ' H4 hP => ?_)
        · obtain ⟨_, _, _, _, _, fz, _⟩ := hP
          exact fz
        · obtain ⟨x4, x5, R, rfl, e4, fz4, hT4, hR⟩ := hP
          obtain ⟨jm, am, hjm, ham⟩ := hT4.at (List.mem_of_getElem? hmid)
          have hN4 : Is K H4 (nmD ns) (.ref na) := hN3.nm_fz fz4
          walk_at "rd"
          refine for_nm hN4 (fun j σ H5 => ∃ x5, σ = [some v, some (.ref na), some (.ref r), x3, some (.str mid), x5] ∧ Same H H5 ∧ Fz H4 H5 ∧ Tab H5 r ns as (warR R mid (ns.take j)))
            ⟨_, rfl, e4, .refl _, hT4.congr fun z _ y => ⟨.inl, fun h => h.elim (fun q => q) fun q => absurd q.1 (by simp)⟩⟩ (fun i σ' H' hP => hP.choose_spec.2.2.1) (fun j nm σ' H5 hnm hP => ?_) (fun σ' H5 hP => ?_)
          · obtain ⟨x5', rfl, e5, fz5, hT5⟩ := hP
            obtain ⟨jn, an, hjn, han⟩ := hT5.at (List.mem_of_getElem? hnm)
            obtain ⟨ks, hk1, hk2, hk3, hk4⟩ := hT5.row jn nm an hjn han
            obtain ⟨ms, hm1, hm2, hm3, hm4⟩ := hT5.row jm mid am hjm ham
            have hkl : ks.length ≤ ns.length := nodup_le hk2 hk3
            have hml : ms.length ≤ ns.length := nodup_le hm2 hm3
            have htj : ns.take (j + 1) = ns.take j ++ [nm] := by rw [List.take_add_one, hnm]; rfl
            have hin : mid ∈ ks ↔ R nm mid := (hk4 mid).trans ⟨fun h => h.elim (fun q => q) fun q => q.2.1, .inl⟩
            have hmid2 : ∀ y, y ∈ ms ↔ R mid y := fun y => (hm4 y).trans ⟨fun h => h.elim (fun q => q) fun q => q.2.2, .inl⟩
            have hother : ∀ z ∈ ns, z ≠ nm → ∀ y, warR R mid (ns.take j) z y ↔ warR R mid (ns.take (j + 1)) z y := fun z _ hz y => by
              unfold warR
              rw [htj, List.mem_append, List.mem_singleton]
              simp [hz]
            walk_at "rd"
            refine i_tab hT5 hn hjn han ?_
            refine i_inRow hk1 ?_
            walk_at "rd"
            refine iteD (fun hc => ?_) (fun hc => ?_)
            · have hRn := hin.mp hc
              by_cases hne : nm = mid
              · subst hne
                have hji : jn = jm := by
                  obtain ⟨p1, p2⟩ := List.getElem?_eq_some_iff.mp hjn
                  obtain ⟨q1, q2⟩ := List.getElem?_eq_some_iff.mp hjm
                  exact (List.getElem_inj hn).mp (p2.trans q2.symm)
                subst hji
                rw [han] at ham
                cases ham
                walk_at "rd"
                refine i_tab hT5 hn hjn han ?_
                refine i_tyD hk1 ?_
                walk_at "rd"
                refine i_tab hT5 hn hjn han ?_
                walk_at "rd"
                refine i_updS hk1 ?_
                walk_at "rd"
                refine ⟨_, rfl, e5, fz5, hT5.congr fun z hz y => ?_⟩
                by_cases hzn : z = nm
                · subst hzn
                  unfold warR
                  constructor
                  · exact fun h => .inl (h.elim (fun q => q) fun q => q.2.2)
                  · exact fun h => .inl (h.elim (fun q => q) fun q => q.2.2)
                · exact hother z hz hzn y
              have hane : an ≠ am := fun q => by
                subst q
                obtain ⟨p1, p2⟩ := List.getElem?_eq_some_iff.mp han
                obtain ⟨q1, q2⟩ := List.getElem?_eq_some_iff.mp ham
                have := (List.getElem_inj hT5.nd).mp (p2.trans q2.symm)
                subst this
                rw [hjn] at hjm
                exact hne (Option.some.inj hjm)
              walk_at "rd"
              refine i_tab hT5 hn hjn han ?_
              refine i_tyD hk1 ?_
              walk_at "rd"
              refine i_tab hT5 hn hjm ham ?_
              walk_at "rd"
              refine i_updA hk1 hm1 hane (by omega) fun H6 e6 h6 => ?_
              walk_at "rd"
              have ha0 : H an = none := (haf an (List.mem_of_getElem? han)).2
              refine ⟨_, rfl, by walk_at "sm", fz5.trans (e6.fzD hk1), hT5.put e6 hn hjn han h6 (nodup_addAll hk2) (fun y hy => ?_) (fun y => ?_) hother⟩
              · rcases mem_addAll.mp hy with hy | hy
                · exact hk3 y hy
                · exact hm3 y hy
              · rw [mem_addAll, hk4, hmid2]
                unfold warR
                rw [htj, List.mem_append, List.mem_singleton]
                constructor
                · rintro ((h | h) | h)
                  · exact .inl h
                  · exact .inr ⟨.inl h.1, h.2⟩
                  · exact .inr ⟨.inr rfl, hRn, h⟩
                · rintro (h | h)
                  · exact .inl (.inl h)
                  · exact .inr h.2.2
            · have hRn : ¬ R nm mid := fun q => hc (hin.mpr q)
              walk_at "rd"
              refine ⟨_, rfl, e5, fz5, hT5.congr fun z hz y => ?_⟩
              by_cases hzn : z = nm
              · subst hzn
                unfold warR
                constructor
                · exact fun h => .inl (h.elim (fun q => q) fun q => absurd q.2.1 hRn)
                · exact fun h => .inl (h.elim (fun q => q) fun q => absurd q.2.1 hRn)
              · exact hother z hz hzn y
          · obtain ⟨x5', rfl, e5, fz5, hT5⟩ := hP
            rw [List.take_length] at hT5
            refine ⟨_, _, _, rfl, e5, fz4.trans fz5, hT5.congr (R' := fun z y => R z y ∨ (R z mid ∧ R mid y)) fun z hz y => ?_, ?_⟩
            · unfold warR
              simp [hz]
            · have htj : ns.take (i + 1) = ns.take i ++ [mid] := by rw [List.take_add_one, hmid]; rfl
              rw [htj]
              exact hR.step
        · obtain ⟨x4, x5, R, rfl, e4, fz4, hT4, hR⟩ := hP
          rw [List.take_length] at hR
          walk_at "rd"
          exact k r as H4 hr0 (fun a ha' => (haf a ha').2) e4 (hT4.congr fun z _ y => hR.done hW.mem z y)
noncomputable def sp_are_untold (K : PySem.W.Frag) : Sp := fun vs H Q _ => ∃ r x y ns ps as, vs = [.ref r, .str x, .str y] ∧ TabR H r ns as (Way ps) ∧ ns.Nodup ∧ x ∈ ns ∧ y ∈ ns ∧ Q (.bl (unB ps x y)) H
theorem tab_keys : ∀ {ns : List Str} {as : List Addr}, as.length = ns.length → (tabK ns as).map (fun kv => kV kv.1) = ns.map V.str
  | [], [], _ => rfl
  | [], _ :: _, h => by simp at h
  | _ :: _, [], h => by simp at h
  | n :: ns, a :: as, h => by
    have ih := tab_keys (ns := ns) (as := as) (by simpa using h)
    unfold tabK at ih ⊢
    rw [List.zip_cons_cons, List.map_cons, List.map_cons, ih]
    rfl
theorem ok_are_untold {f : Addr} {fd : FuncData} (F : Fun K "are_untold" "are_untold" s_are_untold f fd) (T : TopF mg) : FnOk P w K mg base CX0 1 f fd ["reach", "one", "other"] (sp_are_untold K) := by
  refine F.ok sc_are_untold (fun vs H Q E h => ?_) (fun cdv A outer s H vs Q E hr h => ?_)
  · obtain ⟨r, x, y, ns, ps, as, rfl, _⟩ := h
    rfl
  · obtain ⟨r, x, y, ns, ps, as, rfl, hT, hn, hx, hy, k⟩ := h
    have hu := hu_of hr
    have hq := qa_of hr
    obtain ⟨i, a, hi, hai⟩ := hT.at hx
    obtain ⟨ks, hk1, hk2, hk3, hk4⟩ := hT.row i x a hi hai
    obtain ⟨j, b, hj, hbj⟩ := hT.at hy
    obtain ⟨ms, hm1, hm2, hm3, hm4⟩ := hT.row j y b hj hbj
    with_reducible refine ⟨_, (pss_one (ps_ret (pe_and (pe_cmpR (op_notInK (K := K) hq) (pv 2) (pe_ix (ix_anyK (K := K) hu) (pv 0) (pv 1) (by with_unfolding_all exact fun _ _ => rfl)) (by with_unfolding_all rfl)) (pe_one (pe_cmpR (op_notInK (K := K) hq) (pv 1) (pe_ix (ix_anyK (K := K) hu) (pv 0) (pv 2) (by with_unfolding_all exact fun _ _ => rfl)) (by with_unfolding_all rfl)))))), ?_⟩
    walk_at "rd"
    refine i_tabR hT hn hi hai ?_
    refine i_ninRowR hk1 ?_
    rw [wayB_dec (hk4 y)]
    walk_at "rd"
    refine iteNB (fun hc => ?_) (fun hc => ?_)
    · walk_at "rd"
      refine i_tabR hT hn hj hbj ?_
      refine i_ninRowR hm1 ?_
      rw [wayB_dec (hm4 x)]
      unfold unB at k
      rw [hc] at k
      exact k
    · unfold unB at k
      rw [hc] at k
      exact k
noncomputable def LmT (P : Addr) (H : Hp) : Prop := LamT P 31 35 "order_of_row.<locals>.<lambda>" H
noncomputable def sp_is_tuple_of (K : PySem.W.Frag) : Sp := fun vs H Q _ => ∃ v ds n, vs = [v, .int n] ∧ Is K H (.tuple ds) v ∧ Q (.bl (decide ((ds.length : Int) = n))) H
noncomputable def sp_are_two_untold (K : PySem.W.Frag) : Sp := fun vs H Q _ => ∃ r x y ns ps as, vs = [.ref r, .str x, .str y] ∧ TabR H r ns as (Way ps) ∧ ns.Nodup ∧ x ∈ ns ∧ y ∈ ns ∧ x ≠ y ∧ unB ps x y = true ∧ Q (.bl true) H
noncomputable def sp_order_of_row (P : Addr) (K : PySem.W.Frag) : Sp := fun vs H Q _ => ∃ r ns ps as row, vs = [.ref r] ∧ TabR H r ns as (Way ps) ∧ HalfW ns ps ∧ ns.length ≤ 10 ∧ ext (wayB ps) ns.length ns = [row] ∧ LmT P H ∧ ∀ v H', ExtBut P H H' → LmT P H' → Is K H' (nmD row) v → Q v H'
noncomputable def sp_reach_said (K : PySem.W.Frag) : Sp := fun vs H Q _ => ∃ r x y ns ps as, vs = [.ref r, .str x, .str y] ∧ TabR H r ns as (Way ps) ∧ HalfW ns ps ∧ x ∈ ns ∧ y ∈ ns ∧ ∀ r' as' H', H r' = none → (∀ a ∈ as', H a = none) → Keep [r] H H' → Tab H' r' ns as' (Way (ps ++ [(x, y)])) → Q (.ref r') H'
structure TabP (H : Hp) (r : Addr) (ns : List Str) (i : Nat) (as : List Addr) (R : Str → Str → Prop) : Prop where
  len : as.length = i
  nd : as.Nodup
  nr : r ∉ as
  top : H r = some (.dK (tabK (ns.take i) as))
  row : ∀ (j : Nat) (z : Str) (a : Addr), ns[j]? = some z → as[j]? = some a → ∃ ks : List Str, H a = some (.dK (rowK ks)) ∧ ks.Nodup ∧ (∀ y ∈ ks, y ∈ ns) ∧ ∀ y, y ∈ ks ↔ R z y
theorem TabP.done {H : Hp} {r : Addr} {ns : List Str} {as : List Addr} {R : Str → Str → Prop} (h : TabP H r ns ns.length as R) : Tab H r ns as R := ⟨h.len, h.nd, h.nr, by have := h.top; rwa [List.take_length] at this, h.row⟩
theorem TabP.snoc {H : Hp} {f b : Addr} {ns ks : List Str} {i : Nat} {as : List Addr} {z : Str} {R : Str → Str → Prop} (hl : as.length = i) (nd : as.Nodup) (nr : f ∉ as) (hb : b ∉ as) (hbf : b ≠ f) (hz : ns[i]? = some z) (top : H f = some (.dK (tabK (ns.take (i + 1)) (as ++ [b]))))
    (row : ∀ (j : Nat) (z : Str) (a : Addr), ns[j]? = some z → as[j]? = some a → ∃ ks : List Str, H a = some (.dK (rowK ks)) ∧ ks.Nodup ∧ (∀ y ∈ ks, y ∈ ns) ∧ ∀ y, y ∈ ks ↔ R z y)
    (h1 : H b = some (.dK (rowK ks))) (h2 : ks.Nodup) (h3 : ∀ y ∈ ks, y ∈ ns) (h4 : ∀ y, y ∈ ks ↔ R z y) : TabP H f ns (i + 1) (as ++ [b]) R := by
  refine ⟨by rw [List.length_append, hl]; rfl, ?_, ?_, top, fun j z' a hj ha => ?_⟩
  · rw [List.nodup_append]
    exact ⟨nd, by simp, fun u hu v hv e => hb (by rw [List.mem_singleton.mp hv] at e; exact e ▸ hu)⟩
  · intro q
    rcases List.mem_append.mp q with q | q
    · exact nr q
    · exact hbf (List.mem_singleton.mp q).symm
  · rcases Nat.lt_or_ge j as.length with q | q
    · rw [List.getElem?_append_left q] at ha
      exact row j z' a hj ha
    · rw [List.getElem?_append_right q] at ha
      have hj0 : j - as.length = 0 := by
        have := (List.getElem?_eq_some_iff.mp ha).1
        simp only [List.length_singleton] at this
        omega
      rw [hj0] at ha
      have : b = a := by simpa using ha
      subst this
      have hji : j = i := by omega
      subst hji
      rw [hz] at hj
      cases hj
      exact ⟨ks, h1, h2, h3, h4⟩
noncomputable def sp_is_row_of (K : PySem.W.Frag) : Sp := fun vs H Q _ => ∃ r ns ps as row, vs = [.ref r] ∧ TabR H r ns as (Way ps) ∧ HalfW ns ps ∧ ext (wayB ps) ns.length ns = [row] ∧ ∀ H', Keep [r] H H' → Q (.bl true) H'
theorem row_len {ns ks : List Str} {ps : List (Str × Str)} {z : Str} (hn : ns.Nodup) (h2 : ks.Nodup) (h3 : ∀ y ∈ ks, y ∈ ns) (h4 : ∀ y, y ∈ ks ↔ Way ps z y) : ks.length = szW ns ps z := by
  refine len_of_mem h2 (hn.sublist List.filter_sublist) fun y => ?_
  rw [List.mem_filter, wayB_iff]
  exact ⟨fun h => ⟨h3 y h, (h4 y).mp h⟩, fun h => (h4 y).mpr h.2⟩
theorem cast_sum {α : Type} (f : α → Nat) : ∀ l : List α, (l.map fun x => ((f x : Nat) : Int)).sum = (((l.map f).sum : Nat) : Int)
  | [] => rfl
  | a :: l => by rw [List.map_cons, List.sum_cons, cast_sum f l, List.map_cons, List.sum_cons, Int.natCast_add]
theorem tab_fst : ∀ {ns : List Str} {as : List Addr}, as.length = ns.length → (tabK ns as).map (fun kv => kv.1) = ns.map fun x => (Sum.inr x : Key)
  | [], [], _ => rfl
  | [], _ :: _, h => by simp at h
  | _ :: _, [], h => by simp at h
  | n :: ns, a :: as, h => by
    have ih := tab_fst (ns := ns) (as := as) (by simpa using h)
    unfold tabK at ih ⊢
    rw [List.zip_cons_cons, List.map_cons, List.map_cons, ih]
    rfl
theorem ok_are_two_untold {f : Addr} {fd : FuncData} (F : Fun K "are_two_untold" "are_two_untold" s_are_two_untold f fd) (T : TopF mg) (c_are_untold : Fnd P w K mg base 1 "are_untold" ["reach", "one", "other"] (sp_are_untold K)) : FnOk P w K mg base CX0 2 f fd ["reach", "one", "other"] (sp_are_two_untold K) := by
  refine F.ok sc_are_two_untold (fun vs H Q E h => ?_) (fun cdv A outer s H vs Q E hr h => ?_)
  · obtain ⟨r, x, y, ns, ps, as, rfl, _⟩ := h
    rfl
  · obtain ⟨r, x, y, ns, ps, as, rfl, hT, hn, hx, hy, hxy, hu', k⟩ := h
    have hu := hu_of hr
    have hq := qa_of hr
    obtain ⟨i, a, hi, ha⟩ := hT.at hx
    obtain ⟨j, b, hj, hb⟩ := hT.at hy
    with_reducible refine ⟨_, (pss_one (ps_ret (pe_and (pe_cmpR (op_inK (K := K) hq) (pv 1) (pv 0) (by with_unfolding_all rfl)) (pe_and (pe_cmpR (op_inK (K := K) hq) (pv 2) (pv 0) (by with_unfolding_all rfl)) (pe_and (pe_cmpR (op_neK (K := K) hq) (pv 1) (pv 2) (nomark _)) (pe_one (pe_fn c_are_untold (hr.mono (by decide)) (by with_unfolding_all rfl) (pa_cons (pv 0) (pa_cons (pv 1) (pa_cons (pv 2) pa_nil)))))))))), ?_⟩
    walk_at "rd"
    refine i_inDR hT.top (valV_tab hn hi ha) ⟨true, rfl, ?_⟩
    walk_at "rd"
    refine i_inDR hT.top (valV_tab hn hj hb) ⟨true, rfl, ?_⟩
    walk_at "rd"
    rw [if_pos (by simpa using hxy)]
    walk_at "rd"
    exact ⟨r, x, y, ns, ps, as, rfl, hT, hn, hx, hy, by rw [hu']; exact k⟩
theorem ok_is_row_of {f : Addr} {fd : FuncData} (F : Fun K "is_row_of" "is_row_of" s_is_row_of f fd) (T : TopF mg) : FnOk P w K mg base CX0 1 f fd ["reach"] (sp_is_row_of K) := by
  refine F.ok sc_is_row_of (fun vs H Q E h => ?_) (fun cdv A outer s H vs Q E hr h => ?_)
  · obtain ⟨r, ns, ps, as, row, rfl, _⟩ := h
    rfl
  · obtain ⟨r, ns, ps, as, row, rfl, hT, hW, he, k⟩ := h
    have hu := hu_of hr
    have hq := qa_of hr
    have hfew := hW.few
    have hn := hW.nd
    have hrl : (tabK ns as).length = ns.length := by unfold tabK; rw [List.length_map, List.length_zip, hT.len, Nat.min_self]
    with_reducible refine ⟨_, (pss_one (ps_ret (pe_cmpR (op_eqK (K := K) hq) (pe_op op_mulB pe_int (pe_callB (call_sumK (K := K) (by with_unfolding_all rfl)) (by with_unfolding_all rfl) T.b_sum PyProof.Rows.Boot.«sum» (pa_cons (pe_comp ["name"] ["reach"] [0] (by with_unfolding_all rfl) (by with_unfolding_all rfl) (by with_unfolding_all rfl) (pi_anyK (K := K) hu (pv 0)) (fun _ _ _ _ => (pg_name (i := 0) (by with_unfolding_all (show (["name", "reach"] : List Str).Nodup; decide +kernel)) (by with_unfolding_all rfl) (by with_unfolding_all exact Or.inl rfl))) (gk_name (by decide)) (fun _ _ _ _ => pif_nil) (fun _ _ _ _ => (pe_callB call_lenR (by with_unfolding_all rfl) T.b_len PyProof.Rows.Boot.«len» (pa_cons (pe_ix (ix_anyK (K := K) hu) (pv 1) (pv 0) (by with_unfolding_all exact fun _ _ => rfl)) pa_nil)))) pa_nil))) (pe_op op_mulB (pe_callB call_lenR (by with_unfolding_all rfl) T.b_len PyProof.Rows.Boot.«len» (pa_cons (pv 0) pa_nil)) (pe_op op_sub (pe_callB call_lenR (by with_unfolding_all rfl) T.b_len PyProof.Rows.Boot.«len» (pa_cons (pv 0) pa_nil)) pe_int)) (nomark _)))), ?_⟩
    walk_at "rd"
    refine i_itRow (as := [r]) hT.top (List.mem_singleton.mpr rfl) fun o H1 k1 h1 => ?_
    refine comp_by walk_dict (fun q i acc H2 => Same H1 H2 ∧ acc = (ns.take i).map fun x => V.int ((szW ns ps x : Nat) : Int)) (fun q H' hq' e h => ⟨e, rfl⟩) (fun q i acc H2 hP => hP.1 _ _ h1) (fun q i x acc H2 hq' hx hi hl hacc hP => ?_) (fun q acc H2 hq' hacc hl hP => ?_)
    · obtain ⟨e2, rfl⟩ := hP
      rw [tab_keys hT.len, List.getElem?_map] at hx
      obtain ⟨z, hz, rfl⟩ := Option.map_eq_some_iff.mp hx
      have hT2 := (hT.keep k1).same e2
      obtain ⟨j, a, hj, ha⟩ := hT2.at (List.mem_of_getElem? hz)
      obtain ⟨ks, g1, g2, g3, g4⟩ := hT2.row j z a hj ha
      walk_at "rd"
      refine i_tabR hT2 hn hj ha ?_
      walk_at "rd"
      refine i_lenR g1 ?_
      rw [len_row, row_len hn g2 g3 g4]
      refine push_i (by rw [List.length_map]; omega) hi hl hacc fun H3 e3 h3 => ⟨?_, ?_⟩
      · walk_at "sm"
      · rw [List.take_add_one, hz]
        simp
    · obtain ⟨e2, rfl⟩ := hP
      rw [tab_keys hT.len, List.length_map, List.take_length] at hacc
      have hT2 := (hT.keep k1).same e2
      walk_at "rd"
      refine i_sum (ns := ns.map fun x => ((szW ns ps x : Nat) : Int)) (.inl (SqL.of (by rw [hacc, List.map_map]; rfl))) (fun n hn' => ?_) (by rw [List.length_map]; omega) ?_
      · obtain ⟨x, hx, rfl⟩ := List.mem_map.mp hn'
        have : szW ns ps x ≤ ns.length := List.length_filter_le _ _
        omega
      · walk_at "rd"
        refine i_lenR hT2.top ?_
        walk_at "rd"
        refine i_lenR hT2.top ?_
        rw [hrl]
        walk_at "rd"
        have hsum : (2 * (ns.map fun x => ((szW ns ps x : Nat) : Int)).sum : Int) = (ns.length : Int) * ((ns.length : Int) - 1) := by
          have h1 := row_sum hW he
          rw [cast_sum]
          cases hl0 : ns.length with
          | zero =>
            rw [hl0] at h1
            have : (ns.map (szW ns ps)).sum = 0 := by omega
            rw [this]
            rfl
          | succ n =>
            rw [hl0, Nat.add_sub_cancel] at h1
            have h2 : ((2 * (ns.map (szW ns ps)).sum : Nat) : Int) = (((n + 1) * n : Nat) : Int) := by rw [h1]
            push_cast at h2 ⊢
            rw [h2, Int.add_sub_cancel]
        rw [hsum, decide_eq_true rfl]
        exact k H2 (k1.trans (e2.keep _))
theorem fz_tbl {P : Addr} {H H' : Hp} {ps : Array Value} (e : ExtBut P H H') (h : H P = some (.tbl ps)) : Fz H H' := fz_but e fun xs q => by
  rcases q with q | ⟨o, q⟩
  · rw [h] at q; cases q
  · rw [h] at q; cases q
theorem lam_tbl {P : Addr} {a b : Nat} {q : Str} {H : Hp} (h : LamT P a b q H) : ∃ ps, H P = some (.tbl ps) := by
  rcases h with h | ⟨c, h, _⟩
  · exact ⟨_, h⟩
  · exact ⟨_, h⟩
theorem rd_tbl {P a : Addr} {H H' : Hp} {ps : Array Value} {kvs : List (Key × V)} (e : ExtBut P H H') (h : H P = some (.tbl ps)) (r : Rd H a (.dK kvs)) : Rd H' a (.dK kvs) := by
  rcases r with r | ⟨o, r⟩
  · exact .inl (e _ _ (ne_of r h (by intro z; cases z)) r)
  · exact .inr ⟨o, e _ _ (ne_of r h (by intro z; cases z)) r⟩
theorem TabR.tbl {P r : Addr} {H H' : Hp} {tps : Array Value} {ns : List Str} {as : List Addr} {R : Str → Str → Prop} (e : ExtBut P H H') (h : H P = some (.tbl tps)) (t : TabR H r ns as R) : TabR H' r ns as R :=
  ⟨t.len, rd_tbl e h t.top, fun i z a hz ha => let ⟨ks, h1, h2⟩ := t.row i z a hz ha; ⟨ks, rd_tbl e h h1, h2⟩⟩
theorem ok_order_of_row {f : Addr} {fd : FuncData} (F : Fun K "order_of_row" "order_of_row" s_order_of_row f fd) (T : TopF mg) {P_best : Addr} {c_bst : Addr} (lb : LamB K mg base c_bst P_best) (hcd : fd.code = .ref c_bst) : FnOk P w K mg base CX0 1 f fd ["reach"] (sp_order_of_row P_best K) := by
  refine Fun.okC F hcd sc_order_of_row (fun vs H Q E h => ?_) (fun A outer s H vs Q E hr h => ?_)
  · obtain ⟨r, ns, ps, as, row, rfl, _⟩ := h
    rfl
  · obtain ⟨r, ns, ps, as, row, rfl, hT, hW, h10, he, hL, k⟩ := h
    have hu := hu_of hr
    have hq := qa_of hr
    have hn := hW.nd
    with_reducible refine ⟨_, (pss_one (ps_ret (pe_callTy (call_tupleK (K := K)) (by with_unfolding_all rfl) T.b_tuple PyProof.Rows.Boot.«tuple» (pa_cons (pe_sortlam (i := 0) ⟨(by with_unfolding_all rfl), lb.hd, lb.bi, lb.gP⟩ (by with_unfolding_all rfl) hr.depth (by with_unfolding_all rfl) T.b_sorted T.b_len (by with_unfolding_all rfl) (by with_unfolding_all rfl) (pa_cons (pv 0) pa_nil)) pa_nil)))), ?_⟩
    walk_at "rd"
    refine i_sortQ rfl ?_
    walk_at "rd"
    refine ⟨rfl, hL, fun H2 e2 hL2 => ?_⟩
    obtain ⟨tps, htb⟩ := lam_tbl hL
    have hT2 := TabR.tbl e2 htb hT
    refine ⟨tabK ns as, ns, szW ns ps, hT2.top, ?_, by omega, fun x hx => ?_, fun p ms hp hperm ho => ?_⟩
    · exact tab_fst hT2.len
    · obtain ⟨j, a, hj, ha⟩ := hT2.at hx
      obtain ⟨ks, g1, g2, g3, g4⟩ := hT2.row j x a hj ha
      exact ⟨a, rowK ks, valV_tab hn hj ha, g1, by rw [len_row, row_len hn g2 g3 g4]⟩
    · have := row_sorted hW he hperm ho
      subst this
      walk_at "rd"
      refine i_tupNm (ns := ms) upd_same (is_strs ms) fun v H3 e3 hI3 => ?_
      have e23 : Same H2 H3 := (Same.upd hp).trans e3
      exact k v H3 (ExtBut.same e2 e23) (hL2.same e23) hI3
theorem ok_reach_said {f : Addr} {fd : FuncData} (F : Fun K "reach_said" "reach_said" s_reach_said f fd) (T : TopF mg) : FnOk P w K mg base CX0 1 f fd ["reach", "one", "other"] (sp_reach_said K) := by
  refine F.ok sc_reach_said (fun vs H Q E h => ?_) (fun cdv A outer s H vs Q E hr h => ?_)
  · obtain ⟨r, x, y, ns, ps, as, rfl, _⟩ := h
    rfl
  · obtain ⟨r, x, y, ns, ps, as, rfl, hT, hW, hx, hy, k⟩ := h
    have hu := hu_of hr
    have hq := qa_of hr
    have hn := hW.nd
    have hfew := hW.few
    obtain ⟨jy, ay, hjy, hay⟩ := hT.at hy
    obtain ⟨ky, y1, y2, y3, y4⟩ := hT.row jy y ay hjy hay
    have hyl : ky.length ≤ ns.length := nodup_le y2 y3
    with_reducible refine ⟨_, (pss_cons (ps_set (i := 3) sc_reach_said.nd (by with_unfolding_all rfl) (by with_unfolding_all exact Or.inl rfl) (pe_callTy call_dictD (by with_unfolding_all rfl) T.b_dict PyProof.Rows.Boot.«dict» (pa_cons (pe_ix (ix_anyK (K := K) hu) (pv 0) (pv 2) (by with_unfolding_all exact fun _ _ => rfl)) pa_nil)))
      (pss_cons (ps_dput hu (pv 3) (pv 2) pe_bl (by with_unfolding_all rfl))
      (pss_cons (ps_set (i := 4) sc_reach_said.nd (by with_unfolding_all rfl) (by with_unfolding_all exact Or.inl rfl) pe_dnewK)
      (pss_cons (ps_for PassesOwn.never (by with_unfolding_all rfl) (pi_anyK (K := K) hu (pv 0)) (pg_name (i := 5) sc_reach_said.nd (by with_unfolding_all rfl) (by with_unfolding_all exact Or.inl rfl))
      (pss_cons (ps_dput hu (pv 4) (pv 5) (pe_callTy call_dictD (by with_unfolding_all rfl) T.b_dict PyProof.Rows.Boot.«dict» (pa_cons (pe_ix (ix_anyK (K := K) hu) (pv 0) (pv 5) (by with_unfolding_all exact fun _ _ => rfl)) pa_nil)) (by with_unfolding_all rfl))
      (pss_one (ps_if (PW.pt (pw_or (pt_cmpR (op_eqK (K := K) hq) (pv 5) (pv 1) (nomark _)) (pw_or1 (pt_cmpR (op_inK (K := K) hq) (pv 1) (pe_ix (ix_anyK (K := K) hu) (pv 0) (pv 5) (by with_unfolding_all exact fun _ _ => rfl)) (by with_unfolding_all rfl))))) (pss_one (ps_expr (pe_bmK (K := K) PySem.F.plainAttrs_dict PySem.F.slot_dict_update PySem.F.type_dict_update (mm mt_updateA) (pe_ix (ix_anyK (K := K) hu) (pv 4) (pv 5) (by with_unfolding_all exact fun _ _ => rfl)) (pa_cons (pv 3) pa_nil)))) pss_nil))))
      (pss_one (ps_ret (pv 4))))))), ?_⟩
    walk_at "rd"
    refine i_tabR hT hn hjy hay ?_
    walk_at "rd"
    refine i_dictD y1 fun m H1 hm1 e1 h1 => ?_
    walk_at "rd"
    refine i_dput h1 (by rw [len_row]; omega) fun H2 e2 h2 => ?_
    rw [put_row] at h2
    walk_at "rd"
    refine i_newD fun f H3 hf3 e3 h3 => ?_
    walk_at "rd"
    have hsm2 : Same H H2 := by walk_at "sm"
    have hsm3 : Same H H3 := hsm2.trans e3
    have hmf : m ≠ f := ne_of_none h2 hf3
    have h3m := e3 _ _ h2
    have hf0 : H f = none := hsm2.free hf3
    refine i_itRow (as := [r]) (hsm3.rd hT.top) (List.mem_singleton.mpr rfl) fun o H4 k4 h4 => ?_
    have hrm : m ∉ [r] := fun z => by
      rw [List.mem_singleton.mp z] at hm1
      rcases hT.top with q | ⟨o', q⟩
      · rw [q] at hm1; cases hm1
      · rw [q] at hm1; cases hm1
    have hrf : f ∉ [r] := fun z => by
      rw [List.mem_singleton.mp z] at hf0
      rcases hT.top with q | ⟨o', q⟩
      · rw [q] at hf0; cases hf0
      · rw [q] at hf0; cases hf0
    refine for_by walk_dict (fun i σ H' => ∃ x5 as', σ = [some (.ref r), some (.str x), some (.str y), some (.ref m), some (.ref f), x5] ∧ Keep [r] H H' ∧ H' r = some (.frz o (.dK (tabK ns as))) ∧ H' m = some (.dK (rowK (addK ky y))) ∧ TabP H' f ns i as' (Way (ps ++ [(x, y)])) ∧ ∀ a ∈ as', H a = none ∧ a ≠ m)
      ⟨_, [], rfl, (hsm3.keep _).trans k4, h4, k4.1 _ _ hrm h3m, ⟨rfl, .nil, by simp, k4.1 _ _ hrf h3, fun j z a _ ha => (by cases ha)⟩, fun a ha => (by cases ha)⟩ (fun i σ' H' hP => ?_) (fun i w σ' H5 hw hi hP => ?_) (fun σ' H5 hP => ?_)
    · obtain ⟨x5, as', _, _, h5, _⟩ := hP
      exact h5
    · obtain ⟨x5, as', rfl, k5, h5r, h5m, hP5, ha5⟩ := hP
      rw [tab_keys hT.len, List.getElem?_map] at hw
      obtain ⟨z, hz, rfl⟩ := Option.map_eq_some_iff.mp hw
      have hT5 := hT.keep k5
      obtain ⟨jz, az, hjz, haz⟩ := hT5.at (List.mem_of_getElem? hz)
      obtain ⟨kz, z1, z2, z3, z4⟩ := hT5.row jz z az hjz haz
      have hzl : kz.length ≤ ns.length := nodup_le z2 z3
      have hin : i < ns.length := (List.getElem?_eq_some_iff.mp hz).1
      have hnew : z ∉ ns.take i := fun q => by
        obtain ⟨j, hj, e⟩ := List.getElem_of_mem q
        rw [List.getElem_take] at e
        rw [List.length_take] at hj
        obtain ⟨g1, g2⟩ := List.getElem?_eq_some_iff.mp hz
        have := (List.getElem_inj hn).mp (e.trans g2.symm)
        omega
      walk_at "rd"
      refine i_tabR hT5 hn hjz haz ?_
      walk_at "rd"
      refine i_dictD z1 fun b H6 hb6 e6 h6 => ?_
      walk_at "rd"
      have htl : (ns.take i).length = as'.length := by rw [List.length_take, hP5.len]; omega
      have hkl : (tabK (ns.take i) as').length ≤ 100 := by unfold tabK; rw [List.length_map, List.length_zip, List.length_take, hP5.len]; omega
      have h6f := e6 _ _ hP5.top
      refine i_dput h6f (by omega) fun H7 e7 h7 => ?_
      have ht : ns.take (i + 1) = ns.take i ++ [z] := by rw [List.take_add_one, hz]; rfl
      rw [putK_new _ (valV_tab_none hnew), ← tab_snoc htl, ← ht] at h7
      have hbf : b ≠ f := Ne.symm (ne_of_none hP5.top hb6)
      have hbm : b ≠ m := Ne.symm (ne_of_none h5m hb6)
      have hb0 : H b = none := by
        cases q : H b with
        | none => rfl
        | some ob =>
          by_cases hbr : b ∈ [r]
          · rw [List.mem_singleton.mp hbr, h5r] at hb6; cases hb6
          · rw [k5.1 _ _ hbr q] at hb6; cases hb6
      have hba : b ∉ as' := fun q => by
        obtain ⟨j, hj, e⟩ := List.getElem_of_mem q
        have hjn : j < ns.length := by have := hP5.len; omega
        obtain ⟨_, g, _⟩ := hP5.row j ns[j] b (List.getElem?_eq_getElem hjn) (by rw [List.getElem?_eq_getElem hj, e])
        rw [hb6] at g; cases g
      have k7 : Keep [r] H H7 := ⟨fun c oc hc q => e7 _ _ (fun q' => by rw [q', hf0] at q; cases q) (e6 _ _ (k5.1 c oc hc q)), fun c hc u q => by
        have hcr := List.mem_singleton.mp hc
        subst hcr
        have e' : H7 c = H5 c := by rw [h5r]; exact e7 _ _ (fun q => hrf (by rw [q]; exact List.mem_singleton.mpr rfl)) (e6 _ _ h5r)
        rcases k5.2 c hc u q with q | ⟨o', q⟩
        · exact .inl (e'.trans q)
        · exact .inr ⟨o', e'.trans q⟩⟩
      have h7r : H7 r = some (.frz o (.dK (tabK ns as))) := e7 _ _ (fun q => hrf (by rw [q]; exact List.mem_singleton.mpr rfl)) (e6 _ _ h5r)
      have h7m : H7 m = some (.dK (rowK (addK ky y))) := e7 _ _ hmf (e6 _ _ h5m)
      have h7b : H7 b = some (.dK (rowK kz)) := e7 _ _ hbf h6
      have hrow7 : ∀ (j : Nat) (z' : Str) (a : Addr), ns[j]? = some z' → as'[j]? = some a → ∃ ks : List Str, H7 a = some (.dK (rowK ks)) ∧ ks.Nodup ∧ (∀ y ∈ ks, y ∈ ns) ∧ ∀ w, w ∈ ks ↔ Way (ps ++ [(x, y)]) z' w := fun j z' a hj ha => by
        obtain ⟨ks, g1, g2⟩ := hP5.row j z' a hj ha
        exact ⟨ks, e7 _ _ (fun q => hP5.nr (q ▸ List.mem_of_getElem? ha)) (e6 _ _ g1), g2⟩
      have hT7 := hT.keep k7
      obtain ⟨kz', z1', z2', z3', z4'⟩ := hT7.row jz z az hjz haz
      have hval : valV (tabK (ns.take (i + 1)) (as' ++ [b])) (Sum.inr z : Key) = some (.ref b) := valV_tab (i := i) (hn.sublist (List.take_sublist ..)) (by rw [List.getElem?_take_of_lt (Nat.lt_succ_self i)]; exact hz) (by rw [List.getElem?_append_right (by rw [hP5.len]; exact Nat.le_refl _), hP5.len]; simp)
      have hfree : ∀ a ∈ as' ++ [b], H a = none ∧ a ≠ m := fun a ha => by
        rcases List.mem_append.mp ha with ha | ha
        · exact ha5 a ha
        · rw [List.mem_singleton.mp ha]
          exact ⟨hb0, hbm⟩
      have hK8 : ∀ H8, ExtBut b H7 H8 → Keep [r] H H8 := fun H8 e8 => k7.lst e8 hb0 fun q => by rw [List.mem_singleton.mp q, h5r] at hb6; cases hb6
      have hyes : (z = x ∨ Way ps z x) → ∀ w, w ∈ addAll kz (addK ky y) ↔ Way (ps ++ [(x, y)]) z w := fun hc w => by
        rw [mem_addAll, mem_addK, z4, y4, way_said]
        constructor
        · rintro (h | h | h)
          · exact .inl h
          · exact .inr ⟨hc, .inr h⟩
          · exact .inr ⟨hc, .inl h.symm⟩
        · rintro (h | ⟨_, h | h⟩)
          · exact .inl h
          · exact .inr (.inr h.symm)
          · exact .inr (.inl h)
      walk_at "rd"
      refine iteD (fun hc => ?_) (fun hc => ?_)
      · rw [if_pos rfl]
        walk_at "rd"
        refine i_ixD h7 hval ?_
        refine i_tyD h7b ?_
        walk_at "rd"
        refine i_updA h7b h7m hbm (by have := nodup_le (nodup_addK (y := y) y2) (fun w hw' => (mem_addK.mp hw').elim (y3 w) fun q => q ▸ hy); omega) fun H8 e8 h8 => ?_
        walk_at "rd"
        exact ⟨_, as' ++ [b], rfl, hK8 H8 e8, e8 _ _ (fun q => by rw [← q, h5r] at hb6; cases hb6) h7r, e8 _ _ hbm.symm h7m, TabP.snoc hP5.len hP5.nd hP5.nr hba hbf hz (e8 _ _ hbf.symm h7) (fun j z' a hj ha => let ⟨ks, g1, g2⟩ := hrow7 j z' a hj ha; ⟨ks, e8 _ _ (fun q => hba (q ▸ List.mem_of_getElem? ha)) g1, g2⟩) h8 (nodup_addAll z2) (fun w hw' => (mem_addAll.mp hw').elim (z3 w) fun q => (mem_addK.mp q).elim (y3 w) fun q => q ▸ hy) (fun w => hyes (.inl (V.str.inj hc)) w), hfree⟩
      · walk_at "rd"
        refine i_tabR hT7 hn hjz haz ?_
        walk_at "rd"
        refine i_inRowR z1' ?_
        walk_at "rd"
        refine iteD (fun hc2 => ?_) (fun hc2 => ?_)
        · walk_at "rd"
          refine i_ixD h7 hval ?_
          refine i_tyD h7b ?_
          walk_at "rd"
          refine i_updA h7b h7m hbm (by have := nodup_le (nodup_addK (y := y) y2) (fun w hw' => (mem_addK.mp hw').elim (y3 w) fun q => q ▸ hy); omega) fun H8 e8 h8 => ?_
          walk_at "rd"
          exact ⟨_, as' ++ [b], rfl, hK8 H8 e8, e8 _ _ (fun q => by rw [← q, h5r] at hb6; cases hb6) h7r, e8 _ _ hbm.symm h7m, TabP.snoc hP5.len hP5.nd hP5.nr hba hbf hz (e8 _ _ hbf.symm h7) (fun j z' a hj ha => let ⟨ks, g1, g2⟩ := hrow7 j z' a hj ha; ⟨ks, e8 _ _ (fun q => hba (q ▸ List.mem_of_getElem? ha)) g1, g2⟩) h8 (nodup_addAll z2) (fun w hw' => (mem_addAll.mp hw').elim (z3 w) fun q => (mem_addK.mp q).elim (y3 w) fun q => q ▸ hy) (fun w => hyes (.inr ((z4' x).mp hc2)) w), hfree⟩
        · walk_at "rd"
          refine ⟨_, as' ++ [b], rfl, k7, h7r, h7m, TabP.snoc hP5.len hP5.nd hP5.nr hba hbf hz h7 hrow7 h7b z2 z3 (fun w => ?_), hfree⟩
          rw [z4, way_said]
          refine ⟨.inl, fun h => h.elim (fun q => q) fun q => absurd q.1 ?_⟩
          rintro (q | q)
          · exact hc (by rw [q])
          · exact hc2 ((z4' x).mpr q)
    · obtain ⟨x5, as', rfl, k5, h5r, h5m, hP5, ha5⟩ := hP
      rw [List.length_map] at hP5
      have hl : (tabK ns as).length = ns.length := by unfold tabK; rw [List.length_map, List.length_zip, hT.len, Nat.min_self]
      rw [hl] at hP5
      walk_at "rd"
      exact k f as' H5 hf0 (fun a ha => (ha5 a ha).1) k5 hP5.done
theorem ok_is_tuple_of {f : Addr} {fd : FuncData} (F : Fun K "is_tuple_of" "is_tuple_of" s_is_tuple_of f fd) (T : TopF mg) : FnOk P w K mg base CX0 1 f fd ["thing", "size"] (sp_is_tuple_of K) := by
  refine F.ok sc_is_tuple_of (fun vs H Q E h => ?_) (fun cdv A outer s H vs Q E hr h => ?_)
  · obtain ⟨v, D, n, rfl, _⟩ := h
    rfl
  · obtain ⟨v, ds, n, rfl, hI, k⟩ := h
    have hu := hu_of hr
    have hq := qa_of hr
    obtain ⟨a, xs, rfl, h1, h2⟩ := Is.tup hI
    with_reducible refine ⟨_, (pss_one (ps_ret (pe_and (pe_callB (call_isinstK (K := K)) (by with_unfolding_all rfl) T.b_isinstance PyProof.Rows.Boot.«isinstance» (pa_cons (pv 0) (pa_cons (pe_bltn (v := .ty "tuple") (by with_unfolding_all rfl) T.b_tuple PyProof.Rows.Boot.«tuple» (by with_unfolding_all rfl)) pa_nil))) (pe_one (pe_cmpR (op_eqK (K := K) hq) (pe_callB (call_lenK (K := K)) (by with_unfolding_all rfl) T.b_len PyProof.Rows.Boot.«len» (pa_cons (pv 0) pa_nil)) (pv 1) (nomark _)))))), ?_⟩
    walk_at "rd"
    refine i_isiT h1 (b := true) (by first | rfl | kernel_rfl) ⟨true, rfl, ?_⟩
    rw [if_pos rfl]
    walk_at "rd"
    refine i_lenQ hI ?_
    walk_at "rd"
    have e : decide (V.int (ds.length : Int) = V.int n) = decide ((ds.length : Int) = n) := by
      by_cases z : (ds.length : Int) = n
      · rw [z]; simp
      · rw [decide_eq_false z, decide_eq_false fun q => z (V.int.inj q)]
    rw [e]
    exact k
noncomputable def finD (row : List Str) : PyData := .tuple [.str "end", nmD row]
noncomputable def askD (x y : Str) (D E : PyData) : PyData := .tuple [.str "ask", .str x, .str y, D, E]
theorem frz_plan {ns : List Str} {ps : List (Str × Str)} {D : PyData} {m : Nat} (p : PlanP ns ps D m) : frz D = true := by
  induction p with
  | @fin ps row e => simp [frz, frzL, frz_nm]
  | ask _ _ _ _ _ _ i1 i2 => simp [frz, frzL, i1, i2]
theorem fin_at {K : PySem.W.Frag} {H : Hp} {row : List Str} {v : V} (h : Is K H (finD row) v) : ∃ a rv, v = .ref a ∧ SqT K H a [.str "end", rv] ∧ Is K H (nmD row) rv := by
  obtain ⟨a, xs, rfl, h1, h2⟩ := Is.tup h
  obtain ⟨v1, r1, rfl, i1, h2⟩ := isL_consI h2
  obtain ⟨v2, r2, rfl, i2, h2⟩ := isL_consI h2
  have e : r2 = [] := by simpa only [L2.IsL] using h2
  subst e
  have := Is.str i1
  subst this
  exact ⟨a, v2, rfl, h1, i2⟩
theorem ask_at {K : PySem.W.Frag} {H : Hp} {x y : Str} {D E : PyData} {v : V} (h : Is K H (askD x y D E) v) : ∃ a d e, v = .ref a ∧ SqT K H a [.str "ask", .str x, .str y, d, e] ∧ Is K H D d ∧ Is K H E e := by
  obtain ⟨a, xs, rfl, h1, h2⟩ := Is.tup h
  obtain ⟨v1, r1, rfl, i1, h2⟩ := isL_consI h2
  obtain ⟨v2, r2, rfl, i2, h2⟩ := isL_consI h2
  obtain ⟨v3, r3, rfl, i3, h2⟩ := isL_consI h2
  obtain ⟨v4, r4, rfl, i4, h2⟩ := isL_consI h2
  obtain ⟨v5, r5, rfl, i5, h2⟩ := isL_consI h2
  have e : r5 = [] := by simpa only [L2.IsL] using h2
  subst e
  have e1 := Is.str i1
  have e2 := Is.str i2
  have e3 := Is.str i3
  subst e1
  subst e2
  subst e3
  exact ⟨a, v4, v5, rfl, h1, i4, i5⟩
theorem i_tif {t : TT} {ta tb : TE} {σ : L2.St} {H : Hp} {Q : VK} (k : t σ H fun c H1 => if c = true then ta σ H1 Q else tb σ H1 Q) : tIf t ta tb σ H Q := k
theorem not_r {r b : Addr} {H : Hp} {kvs : List (Key × V)} {o : HO} (hr : Rd H r (.dK kvs)) (h : H b = some o) (h1 : ∀ kvs, o ≠ .dK kvs) (h2 : ∀ o' u, o ≠ .frz o' u) : b ≠ r := fun z => by
  subst z
  rcases hr with q | ⟨o', q⟩
  · rw [h] at q; exact h1 _ (Option.some.inj q)
  · rw [h] at q; exact h2 _ _ (Option.some.inj q)
theorem lam_keep {P r : Addr} {H H' : Hp} {kvs : List (Key × V)} (h : LmT P H) (k : Keep [r] H H') (hr : Rd H r (.dK kvs)) : LmT P H' := by
  rcases h with h | ⟨c, h, hc⟩
  · exact .inl (k.1 _ _ (fun z => not_r hr h (fun _ z => by cases z) (fun _ _ z => by cases z) (List.mem_singleton.mp z)) h)
  · exact .inr ⟨c, k.1 _ _ (fun z => not_r hr h (fun _ z => by cases z) (fun _ _ z => by cases z) (List.mem_singleton.mp z)) h, k.1 _ _ (fun z => not_r hr hc (fun _ z => by unfold isCode at z; cases z) (fun _ _ z => by unfold isCode at z; cases z) (List.mem_singleton.mp z)) hc⟩
noncomputable def sp_is_asking (K : PySem.W.Frag) : Sp := fun vs H Q _ => ∃ v D, vs = [v] ∧ Is K H D v ∧ ((∃ row, D = finD row ∧ Q (.bl false) H) ∨ ∃ x y D1 D2, D = askD x y D1 D2 ∧ Q (.bl true) H)
noncomputable def sp_is_end (K : PySem.W.Frag) : Sp := fun vs H Q _ => ∃ v row, vs = [v] ∧ Is K H (finD row) v ∧ Q (.bl true) H
structure Kp (P r : Addr) (H H' : Hp) : Prop where
  all : ∀ b o, b ≠ P → b ≠ r → H b = some o → H' b = some o
  rd : ∀ kvs, Rd H r (.dK kvs) → Rd H' r (.dK kvs)
section
variable {P r r' : Addr} {H H1 H2 : Hp} {kvs : List (Key × V)} {tps : Array Value}
theorem Kp.of_keep (k : Keep [r] H H1) : Kp P r H H1 := ⟨fun b o _ hb h => k.1 b o (fun z => hb (List.mem_singleton.mp z)) h, fun kvs h => k.rd h⟩
theorem Kp.trans (a : Kp P r H H1) (b : Kp P r H1 H2) : Kp P r H H2 := ⟨fun c o h1 h2 h => b.all c o h1 h2 (a.all c o h1 h2 h), fun kvs h => b.rd kvs (a.rd kvs h)⟩
theorem Kp.same (a : Kp P r H H1) (e : Same H1 H2) : Kp P r H H2 := ⟨fun c o h1 h2 h => e c o (a.all c o h1 h2 h), fun kvs h => e.rd (a.rd kvs h)⟩
theorem Kp.rdA (a : Kp P r H H1) (hP : H P = some (.tbl tps)) {b : Addr} (h : Rd H b (.dK kvs)) : Rd H1 b (.dK kvs) := by
  by_cases hb : b = r
  · subst hb
    exact a.rd _ h
  · rcases h with h | ⟨o, h⟩
    · exact .inl (a.all _ _ (ne_of h hP (by intro z; cases z)) hb h)
    · exact .inr ⟨o, a.all _ _ (ne_of h hP (by intro z; cases z)) hb h⟩
theorem Kp.tab (a : Kp P r H H1) (hP : H P = some (.tbl tps)) {q : Addr} {ns : List Str} {as : List Addr} {R : Str → Str → Prop} (t : TabR H q ns as R) : TabR H1 q ns as R :=
  ⟨t.len, a.rdA hP t.top, fun i z b hz hb => let ⟨ks, h1, h2⟩ := t.row i z b hz hb; ⟨ks, a.rdA hP h1, h2⟩⟩
theorem Kp.fz (a : Kp P r H H1) (hP : H P = some (.tbl tps)) (hr : Rd H r (.dK kvs)) : Fz H H1 := fun b xs h => by
  rcases h with h | ⟨o, h⟩
  · exact .inl (a.all _ _ (ne_of h hP (by intro z; cases z)) (not_r hr h (fun _ z => by cases z) (fun _ _ z => by cases z)) h)
  · refine .inr ⟨o, a.all _ _ (ne_of h hP (by intro z; cases z)) (fun z => ?_) h⟩
    subst z
    rcases hr with q | ⟨o', q⟩
    · rw [h] at q; cases q
    · rw [h] at q; cases q
theorem Kp.other (a : Kp P r H H1) (b : Kp P r' H1 H2) (hn : H r' = none) (hP : H P = some (.tbl tps)) (hr : Rd H r (.dK kvs)) : Kp P r H H2 := by
  refine ⟨fun c o h1 h2 h => b.all c o h1 (fun z => by rw [z, hn] at h; cases h) (a.all c o h1 h2 h), fun kvs' h => ?_⟩
  have h1 : r ≠ P := fun z => by
    subst z
    rcases hr with q | ⟨o', q⟩
    · rw [hP] at q; cases q
    · rw [hP] at q; cases q
  have h2 : r ≠ r' := fun z => by
    subst z
    rcases hr with q | ⟨o', q⟩
    · rw [hn] at q; cases q
    · rw [hn] at q; cases q
  rcases a.rd kvs' h with q | ⟨o, q⟩
  · exact .inl (b.all _ _ h1 h2 q)
  · exact .inr ⟨o, b.all _ _ h1 h2 q⟩
theorem Kp.free (a : Kp P r H H1) (hP : H P = some (.tbl tps)) (hr : Rd H r (.dK kvs)) (hL : ∃ tps, H1 P = some (.tbl tps)) {b : Addr} (h : H1 b = none) : H b = none := by
  cases q : H b with
  | none => rfl
  | some o =>
    have hbP : b ≠ P := fun z => by
      obtain ⟨t, e⟩ := hL
      rw [z, e] at h; cases h
    have hbr : b ≠ r := fun z => by
      subst z
      rcases a.rd _ hr with e | ⟨o', e⟩
      · rw [h] at e; cases e
      · rw [h] at e; cases e
    rw [a.all _ _ hbP hbr q] at h
    cases h
end
noncomputable def sp_word_due (P : Addr) (K : PySem.W.Frag) : Sp := fun vs H Q _ => ∃ r v ns ps as D m, vs = [.ref r, v] ∧ TabR H r ns as (Way ps) ∧ HalfW ns ps ∧ (∀ z ∈ ns, isNm z = true) ∧ ns.length ≤ 10 ∧ PlanP ns ps D m ∧ Is K H D v ∧ LmT P H ∧ ∀ H', Kp P r H H' → LmT P H' → Q .non H'
noncomputable def spr_depth_on (P : Addr) (K : PySem.W.Frag) (n : Nat) : Sp := fun vs H Q _ => ∃ r v t xs ns ps as D m, vs = [.ref r, v, .ref t] ∧ TabR H r ns as (Way ps) ∧ HalfW ns ps ∧ (∀ z ∈ ns, isNm z = true) ∧ ns.length ≤ 10 ∧ PlanP ns ps D m ∧ Is K H D v ∧ SqT K H t xs ∧ m < n ∧ n ≤ 125 ∧ ps.length + m ≤ 900 ∧ xs.length + m ≤ 900 ∧ LmT P H ∧ ∀ H', Kp P r H H' → LmT P H' → Q (.int m) H'
noncomputable def sp_depth_on (P : Addr) (K : PySem.W.Frag) : Sp := spr_depth_on P K 125
theorem spr_depth_on_zero {P : Addr} {K : PySem.W.Frag} : ∀ vs H Q E, ¬ spr_depth_on P K 0 vs H Q E := by
  rintro vs H Q E ⟨r, v, t, xs, ns, ps, as, D, m, _, _, _, _, _, _, _, _, h, _⟩
  omega
noncomputable def sp_lets_plan (P : Addr) (K : PySem.W.Frag) : Sp := fun vs H Q _ => ∃ hv v ns ps D m, vs = [hv, v] ∧ Is K H (hfD ns ps) hv ∧ HalfW ns ps ∧ (∀ z ∈ ns, isNm z = true) ∧ ns.length ≤ 10 ∧ PlanP ns ps D m ∧ Is K H D v ∧ m < 125 ∧ ps.length + m ≤ 900 ∧ LmT P H ∧ ∀ H', ExtBut P H H' → LmT P H' → Q (.int m) H'
theorem ok_is_asking {f : Addr} {fd : FuncData} (F : Fun K "is_asking" "is_asking" s_is_asking f fd) (T : TopF mg) (c_is_tuple_of : Fnd P w K mg base 1 "is_tuple_of" ["thing", "size"] (sp_is_tuple_of K)) : FnOk P w K mg base CX0 2 f fd ["thing"] (sp_is_asking K) := by
  refine F.ok sc_is_asking (fun vs H Q E h => ?_) (fun cdv A outer s H vs Q E hr h => ?_)
  · obtain ⟨v, D, rfl, _⟩ := h
    rfl
  · obtain ⟨v, D, rfl, hI, hc⟩ := h
    have hu := hu_of hr
    have hq := qa_of hr
    with_reducible refine ⟨_, (pss_cons (ps_if (PW.pt (pw_or (pt_not (pt_val (pe_fn c_is_tuple_of (hr.mono (by decide)) (by with_unfolding_all rfl) (pa_cons (pv 0) (pa_cons pe_int pa_nil))))) (pw_or1 (pt_cmpR (op_neK (K := K) hq) (pe_ix (ix_anyK (K := K) hu) (pv 0) pe_int (by with_unfolding_all exact fun _ _ => rfl)) pe_str (nomark _))))) (pss_one (ps_ret pe_bl)) pss_nil)
      (pss_one (ps_ret (pe_and (pe_callB (call_isinstK (K := K)) (by with_unfolding_all rfl) T.b_isinstance PyProof.Rows.Boot.«isinstance» (pa_cons (pe_ix (ix_anyK (K := K) hu) (pv 0) pe_int (by with_unfolding_all exact fun _ _ => rfl)) (pa_cons (pe_bltn (v := .ty "str") (by with_unfolding_all rfl) T.b_str PyProof.Rows.Boot.«str» (by with_unfolding_all rfl)) pa_nil))) (pe_one (pe_callB (call_isinstK (K := K)) (by with_unfolding_all rfl) T.b_isinstance PyProof.Rows.Boot.«isinstance» (pa_cons (pe_ix (ix_anyK (K := K) hu) (pv 0) pe_int (by with_unfolding_all exact fun _ _ => rfl)) (pa_cons (pe_bltn (v := .ty "str") (by with_unfolding_all rfl) T.b_str PyProof.Rows.Boot.«str» (by with_unfolding_all rfl)) pa_nil)))))))), ?_⟩
    rcases hc with ⟨row, rfl, k⟩ | ⟨x, y, D1, D2, rfl, k⟩
    · walk_at "rd"
      refine ⟨v, _, _, rfl, hI, ?_⟩
      walk_at "rd"
      rw [if_pos (by rfl), if_pos rfl]
      walk_at "rd"
      exact k
    · walk_at "rd"
      refine ⟨v, _, _, rfl, hI, ?_⟩
      obtain ⟨a, d, e, rfl, hS, _, _⟩ := ask_at hI
      walk_at "rd"
      rw [if_neg (by simp)]
      walk_at "rd"
      refine i_ixQ hS (by rfl) ?_
      walk_at "rd"
      refine i_ixQ hS (by rfl) ?_
      walk_at "rd"
      refine i_isi (TyOf.str x) (b := true) (by rfl) ⟨true, rfl, ?_⟩
      rw [if_pos rfl]
      walk_at "rd"
      refine i_ixQ hS (by rfl) ?_
      walk_at "rd"
      exact i_isi (TyOf.str y) (b := true) (by rfl) k
theorem ok_is_end {f : Addr} {fd : FuncData} (F : Fun K "is_end" "is_end" s_is_end f fd) (T : TopF mg) (c_is_tuple_of : Fnd P w K mg base 1 "is_tuple_of" ["thing", "size"] (sp_is_tuple_of K)) : FnOk P w K mg base CX0 2 f fd ["thing"] (sp_is_end K) := by
  refine F.ok sc_is_end (fun vs H Q E h => ?_) (fun cdv A outer s H vs Q E hr h => ?_)
  · obtain ⟨v, row, rfl, _⟩ := h
    rfl
  · obtain ⟨v, row, rfl, hI, k⟩ := h
    have hu := hu_of hr
    have hq := qa_of hr
    with_reducible refine ⟨_, (pss_one (ps_ret (pe_and (pe_fn c_is_tuple_of (hr.mono (by decide)) (by with_unfolding_all rfl) (pa_cons (pv 0) (pa_cons pe_int pa_nil))) (pe_and (pe_cmpR (op_eqK (K := K) hq) (pe_ix (ix_anyK (K := K) hu) (pv 0) pe_int (by with_unfolding_all exact fun _ _ => rfl)) pe_str (nomark _)) (pe_one (pe_callB (call_isinstK (K := K)) (by with_unfolding_all rfl) T.b_isinstance PyProof.Rows.Boot.«isinstance» (pa_cons (pe_ix (ix_anyK (K := K) hu) (pv 0) pe_int (by with_unfolding_all exact fun _ _ => rfl)) (pa_cons (pe_bltn (v := .ty "tuple") (by with_unfolding_all rfl) T.b_tuple PyProof.Rows.Boot.«tuple» (by with_unfolding_all rfl)) pa_nil)))))))), ?_⟩
    walk_at "rd"
    refine ⟨v, _, _, rfl, hI, ?_⟩
    obtain ⟨a, rv, rfl, hS, hR⟩ := fin_at hI
    walk_at "rd"
    rw [if_pos (by simp)]
    walk_at "rd"
    refine i_ixQ hS (by rfl) ?_
    walk_at "rd"
    refine i_ixQ hS (by rfl) ?_
    walk_at "rd"
    obtain ⟨b, xs, rfl, hR1, _⟩ := Is.tup hR
    exact i_isiT hR1 (b := true) (by first | rfl | kernel_rfl) k
theorem ok_word_due {f : Addr} {fd : FuncData} (F : Fun K "word_due" "word_due" s_word_due f fd) (T : TopF mg) {P_best : Addr} (c_are_two_untold : Fnd P w K mg base 2 "are_two_untold" ["reach", "one", "other"] (sp_are_two_untold K)) (c_is_row_of : Fnd P w K mg base 1 "is_row_of" ["reach"] (sp_is_row_of K)) (c_order_of_row : Fnd P w K mg base 1 "order_of_row" ["reach"] (sp_order_of_row P_best K)) (c_is_asking : Fnd P w K mg base 2 "is_asking" ["thing"] (sp_is_asking K)) (c_is_end : Fnd P w K mg base 2 "is_end" ["thing"] (sp_is_end K)) : FnOk P w K mg base CX0 3 f fd ["reach", "plan"] (sp_word_due P_best K) := by
  refine F.ok sc_word_due (fun vs H Q E h => ?_) (fun cdv A outer s H vs Q E hr h => ?_)
  · obtain ⟨r, v, ns, ps, as, D, m, rfl, _⟩ := h
    rfl
  · obtain ⟨r, v, ns, ps, as, D, m, rfl, hT, hW, hNm, h10, hP, hI, hL, k⟩ := h
    have hu := hu_of hr
    have hq := qa_of hr
    with_reducible refine ⟨_, (pss_cons (ps_if (pt_val (pe_fn c_is_asking (hr.mono (by decide)) (by with_unfolding_all rfl) (pa_cons (pv 1) pa_nil))) (pss_one (ps_ret (pe_ifExp (pt_val (pe_fn c_are_two_untold (hr.mono (by decide)) (by with_unfolding_all rfl) (pa_cons (pv 0) (pa_cons (pe_ix (ix_anyK (K := K) hu) (pv 1) pe_int (by with_unfolding_all exact fun _ _ => rfl)) (pa_cons (pe_ix (ix_anyK (K := K) hu) (pv 1) pe_int (by with_unfolding_all exact fun _ _ => rfl)) pa_nil))))) pe_non pe_str))) pss_nil)
      (pss_cons (ps_if (pt_not (pt_val (pe_fn c_is_end (hr.mono (by decide)) (by with_unfolding_all rfl) (pa_cons (pv 1) pa_nil)))) (pss_one (ps_ret pe_str)) pss_nil)
      (pss_one (ps_ret (pe_ifExp (PW.pt (pw_and (pt_val (pe_fn c_is_row_of (hr.mono (by decide)) (by with_unfolding_all rfl) (pa_cons (pv 0) pa_nil))) (pw_and1 (pt_cmpR (op_eqK (K := K) hq) (pe_ix (ix_anyK (K := K) hu) (pv 1) pe_int (by with_unfolding_all exact fun _ _ => rfl)) (pe_fn c_order_of_row (hr.mono (by decide)) (by with_unfolding_all rfl) (pa_cons (pv 0) pa_nil)) (nomark _))))) pe_non pe_str))))), ?_⟩
    cases hP with
    | @fin _ row he =>
      walk_at "rd"
      refine ⟨v, _, rfl, hI, .inl ⟨row, rfl, ?_⟩⟩
      walk_at "rd"
      refine ⟨v, row, rfl, hI, ?_⟩
      walk_at "rd"
      obtain ⟨a, rv, rfl, hS, hR⟩ := fin_at hI
      refine i_tif ?_
      walk_at "rd"
      refine ⟨r, ns, ps, as, row, rfl, hT, hW, he, fun H1 k1 => ?_⟩
      walk_at "rd"
      have hS1 := k1.fz.seq hS
      refine i_ixQ hS1 (by rfl) ?_
      walk_at "rd"
      have hL1 : LmT P_best H1 := lam_keep hL k1 hT.top
      refine ⟨r, ns, ps, as, row, rfl, hT.keep k1, hW, h10, he, hL1, fun u H2 e2 hL2 hI2 => ?_⟩
      obtain ⟨tps, htb⟩ := lam_tbl hL1
      have fz2 := (k1.fz).trans (fz_tbl e2 htb)
      have hrp := (row_mem hW he).1
      have hrl := hrp.length_eq
      have hrn : ∀ z ∈ row, isNm z = true := fun z hz => hNm z (hrp.mem_iff.mp hz)
      refine i_eqD (hR.nm_fz fz2) hI2 (fine_nm hrn (by omega)).shaped (fine_nm hrn (by omega)).shaped ?_
      rw [eqv_nm, decide_eq_true rfl]
      walk_at "rd"
      exact k H2 ⟨fun b o hb hb2 h => e2 _ _ hb (k1.1 b o (fun z => hb2 (List.mem_singleton.mp z)) h), fun kvs h => rd_tbl e2 htb (k1.rd h)⟩ hL2
    | @ask _ x y D1 D2 m1 m2 hx hy hxy hun p1 p2 =>
      walk_at "rd"
      refine ⟨v, _, rfl, hI, .inr ⟨x, y, D1, D2, rfl, ?_⟩⟩
      obtain ⟨a, d, e, rfl, hS, _, _⟩ := ask_at hI
      walk_at "rd"
      refine i_tif ?_
      walk_at "rd"
      refine i_ixQ hS (by rfl) ?_
      walk_at "rd"
      refine i_ixQ hS (by rfl) ?_
      walk_at "rd"
      refine ⟨r, x, y, ns, ps, as, rfl, hT, hW.nd, hx, hy, hxy, hun, ?_⟩
      walk_at "rd"
      exact k H ⟨fun b o _ _ h => h, fun kvs h => h⟩ hL
theorem okr_depth_on {f : Addr} {fd : FuncData} (F : Fun K "depth_on" "depth_on" s_depth_on f fd) (T : TopF mg) {P_best : Addr} (c_reach_said : Fnd P w K mg base 1 "reach_said" ["reach", "one", "other"] (sp_reach_said K)) (c_word_due : Fnd P w K mg base 3 "word_due" ["reach", "plan"] (sp_word_due P_best K)) (n : Nat) (c_depth_on : Fnd P w K mg base (4 + n) "depth_on" ["reach", "plan", "path"] (spr_depth_on P_best K n)) : FnOk P w K mg base CX0 (4 + n + 1) f fd ["reach", "plan", "path"] (spr_depth_on P_best K (n + 1)) := by
  refine F.ok sc_depth_on (fun vs H Q E h => ?_) (fun cdv A outer s H vs Q E hr h => ?_)
  · obtain ⟨r, v, t, xs, ns, ps, as, D, m, rfl, _⟩ := h
    rfl
  · obtain ⟨r, v, t, xs, ns, ps, as, D, m, rfl, hT, hW, hNm, h10, hP, hI, hS, hmn, hn125, hpl, hxl, hL, k⟩ := h
    have hu := hu_of hr
    have hq := qa_of hr
    have hD := frz_plan hP
    with_reducible refine ⟨_, (pss_cons (ps_set (i := 3) sc_depth_on.nd (by with_unfolding_all rfl) (by with_unfolding_all exact Or.inl rfl) (pe_fn c_word_due (hr.mono (by omega)) (by with_unfolding_all rfl) (pa_cons (pv 0) (pa_cons (pv 1) pa_nil))))
      (pss_cons (ps_if (pt_cmpR op_isNotA (pv 3) pe_non (nomark _)) (pss_one ps_never) pss_nil)
      (pss_cons (ps_if (pt_cmpR (op_eqK (K := K) hq) (pe_ix (ix_anyK (K := K) hu) (pv 1) pe_int (by with_unfolding_all exact fun _ _ => rfl)) pe_str (nomark _)) (pss_one (ps_ret pe_int)) pss_nil)
      (pss_cons (ps_set (i := 4) sc_depth_on.nd (by with_unfolding_all rfl) (by with_unfolding_all exact Or.inl rfl) (pe_fn c_depth_on (hr.mono (by omega)) (by with_unfolding_all rfl) (pa_cons (pe_fn c_reach_said (hr.mono (by omega)) (by with_unfolding_all rfl) (pa_cons (pv 0) (pa_cons (pe_ix (ix_anyK (K := K) hu) (pv 1) pe_int (by with_unfolding_all exact fun _ _ => rfl)) (pa_cons (pe_ix (ix_anyK (K := K) hu) (pv 1) pe_int (by with_unfolding_all exact fun _ _ => rfl)) pa_nil)))) (pa_cons (pe_ix (ix_anyK (K := K) hu) (pv 1) pe_int (by with_unfolding_all exact fun _ _ => rfl)) (pa_cons (pe_op (op_addK (K := K)) (pv 2) (pe_tup (pa_cons pe_int pa_nil))) pa_nil)))))
      (pss_cons (ps_set (i := 5) sc_depth_on.nd (by with_unfolding_all rfl) (by with_unfolding_all exact Or.inl rfl) (pe_fn c_depth_on (hr.mono (by omega)) (by with_unfolding_all rfl) (pa_cons (pe_fn c_reach_said (hr.mono (by omega)) (by with_unfolding_all rfl) (pa_cons (pv 0) (pa_cons (pe_ix (ix_anyK (K := K) hu) (pv 1) pe_int (by with_unfolding_all exact fun _ _ => rfl)) (pa_cons (pe_ix (ix_anyK (K := K) hu) (pv 1) pe_int (by with_unfolding_all exact fun _ _ => rfl)) pa_nil)))) (pa_cons (pe_ix (ix_anyK (K := K) hu) (pv 1) pe_int (by with_unfolding_all exact fun _ _ => rfl)) (pa_cons (pe_op (op_addK (K := K)) (pv 2) (pe_tup (pa_cons pe_int pa_nil))) pa_nil)))))
      (pss_one (ps_ret (pe_op (op_addK (K := K)) pe_int (pe_callB (call_max2 (by with_unfolding_all rfl)) (by with_unfolding_all rfl) T.b_max PyProof.Rows.Boot.«max» (pa_cons (pv 4) (pa_cons (pv 5) pa_nil))))))))))), ?_⟩
    walk_at "rd"
    refine ⟨r, v, ns, ps, as, D, m, rfl, hT, hW, hNm, h10, hP, hI, hL, fun H1 k1 hL1 => ?_⟩
    obtain ⟨tps, htb⟩ := lam_tbl hL
    have fz1 := k1.fz htb hT.top
    have hI1 := Is.fz fz1 _ _ hD hI
    have hT1 := k1.tab htb hT
    have hS1 := fz1.seq hS
    walk_at "rd"
    cases hP with
    | @fin _ row he =>
      obtain ⟨a, rv, rfl, hA, _⟩ := fin_at hI1
      refine i_ixQ hA (by rfl) ?_
      walk_at "rd"
      exact k H1 k1 hL1
    | @ask _ x y D1 D2 m1 m2 hx hy hxy hun p1 p2 =>
      obtain ⟨a, d, e, rfl, hA, hd, he⟩ := ask_at hI1
      refine i_ixQ hA (by rfl) ?_
      walk_at "rd"
      rw [if_neg (by intro z; have := V.str.inj (of_decide_eq_true z); exact absurd this (by decide))]
      walk_at "rd"
      refine i_ixQ hA (by rfl) ?_
      walk_at "rd"
      refine i_ixQ hA (by rfl) ?_
      walk_at "rd"
      refine ⟨r, x, y, ns, ps, as, rfl, hT1, hW, hx, hy, fun r1 as1 H2 hr1 has1 k2 hT2 => ?_⟩
      have fz2 := k2.fz
      have hA2 := fz2.seq hA
      walk_at "rd"
      refine i_ixQ hA2 (by rfl) ?_
      walk_at "rd"
      have hS2 := fz2.seq hS1
      refine i_newT (line_of (by simp)) fun t1 H3 ht3 e3 h3 => ?_
      refine i_addT (e3.seqT hS2) (SqT.of h3) (line_of (by simp only [List.length_singleton]; omega)) fun t2 H4 e4 h4 => ?_
      have e24 := e3.trans e4
      have hT4 := (hT2.same e24)
      have kA : Kp P_best r H H4 := ((k1.trans (.of_keep k2))).same e24
      have hL2 : LmT P_best H2 := lam_keep hL1 k2 hT1.top
      have hL4 := hL2.same e24
      have hd4 := Is.fz (fz2.trans e24.fz) _ _ (frz_plan p1) hd
      have hW1 := hW.saidP (by omega) hx hy hxy hun
      have hr10 : H r1 = none := k1.free htb hT.top (lam_tbl hL1) hr1
      walk_at "rd"
      refine ⟨r1, d, t2, _, ns, _, as1, D1, m1, rfl, hT4.toR, hW1, hNm, h10, p1, hd4, h4, by omega, by omega, by rw [List.length_append, List.length_singleton]; omega, by rw [List.length_append, List.length_singleton]; omega, hL4, fun H5 k5 hL5 => ?_⟩
      have kB : Kp P_best r H H5 := kA.other k5 hr10 htb hT.top
      have fzB := kB.fz htb hT.top
      have hT5 := kB.tab htb hT
      obtain ⟨a5, d5, b5, q5, hA5, hd5, hb5⟩ := ask_at (Is.fz fzB _ _ hD hI)
      cases q5
      walk_at "rd"
      refine i_ixQ hA5 (by rfl) ?_
      walk_at "rd"
      refine i_ixQ hA5 (by rfl) ?_
      walk_at "rd"
      refine ⟨r, y, x, ns, ps, as, rfl, hT5, hW, hy, hx, fun r2 as2 H6 hr2 has2 k6 hT6 => ?_⟩
      have hA6 := k6.fz.seq hA5
      walk_at "rd"
      refine i_ixQ hA6 (by rfl) ?_
      walk_at "rd"
      refine i_newT (line_of (by simp)) fun t3 H7 ht7 e7 h7 => ?_
      refine i_addT (e7.seqT (k6.fz.seq (fzB.seq hS))) (SqT.of h7) (line_of (by simp only [List.length_singleton]; omega)) fun t4 H8 e8 h8 => ?_
      have e68 := e7.trans e8
      have kC : Kp P_best r H H8 := (kB.trans (.of_keep k6)).same e68
      have hL6 : LmT P_best H6 := lam_keep hL5 k6 hT5.top
      have hW2 := hW.saidP (by omega) hy hx (Ne.symm hxy) (un_symm hun)
      have hr20 : H r2 = none := kB.free htb hT.top (lam_tbl hL5) hr2
      walk_at "rd"
      refine ⟨r2, b5, t4, _, ns, _, as2, D2, m2, rfl, (hT6.same e68).toR, hW2, hNm, h10, p2, Is.fz (k6.fz.trans e68.fz) _ _ (frz_plan p2) hb5, h8, by omega, by omega, by rw [List.length_append, List.length_singleton]; omega, by rw [List.length_append, List.length_singleton]; omega, hL6.same e68, fun H9 k9 hL9 => ?_⟩
      have kD : Kp P_best r H H9 := kC.other k9 hr20 htb hT.top
      walk_at "rd"
      refine ⟨_, _, rfl, ?_⟩
      have hmx : (1 + (if (m2 : Int) > (m1 : Int) then (m2 : Int) else (m1 : Int)) : Int) = ((1 + max m1 m2 : Nat) : Int) := by
        split <;> omega
      show rAddA K (V.int 1) (V.int (if (m2 : Int) > (m1 : Int) then (m2 : Int) else (m1 : Int))) H9 _
      walk_at "rd"
      rw [hmx]
      exact k H9 kD hL9
theorem ok_depth_on {f : Addr} {fd : FuncData} (F : Fun K "depth_on" "depth_on" s_depth_on f fd) (T : TopF mg) {P_best : Addr} (c_reach_said : Fnd P w K mg base 1 "reach_said" ["reach", "one", "other"] (sp_reach_said K)) (c_word_due : Fnd P w K mg base 3 "word_due" ["reach", "plan"] (sp_word_due P_best K)) (hm : mg "depth_on" = some (.ref f)) (hk : PySem.W.keepIn K (.ref f) = true) (hb : Binds K fd ["reach", "plan", "path"] []) : FnOk P w K mg base CX0 129 f fd ["reach", "plan", "path"] (sp_depth_on P_best K) := by
  have h : ∀ n : Nat, FnOk P w K mg base CX0 (4 + n) f fd ["reach", "plan", "path"] (spr_depth_on P_best K n) := fun n => by
    induction n with
    | zero => exact FnOk.void spr_depth_on_zero
    | succ n ih => exact okr_depth_on F T c_reach_said c_word_due n ⟨f, fd, ih, hm, hk, hb⟩
  exact h 125
theorem ok_lets_plan {f : Addr} {fd : FuncData} (F : Fun K "lets_plan" "lets_plan" s_lets_plan f fd) (T : TopF mg) {P_best : Addr} (c_behind_each : Fnd P w K mg base 1 "behind_each" ["half"] (sp_behind_each K)) (c_depth_on : Fnd P w K mg base 129 "depth_on" ["reach", "plan", "path"] (sp_depth_on P_best K)) : FnOk P w K mg base CX0 130 f fd ["half", "plan"] (sp_lets_plan P_best K) := by
  refine F.ok sc_lets_plan (fun vs H Q E h => ?_) (fun cdv A outer s H vs Q E hr h => ?_)
  · obtain ⟨hv, v, ns, ps, D, m, rfl, _⟩ := h
    rfl
  · obtain ⟨hv, v, ns, ps, D, m, rfl, hI, hW, hNm, h10, hP, hD, hm, hpl, hL, k⟩ := h
    have hu := hu_of hr
    have hq := qa_of hr
    obtain ⟨tps, htb⟩ := lam_tbl hL
    with_reducible refine ⟨_, (pss_one (ps_ret (pe_fn c_depth_on (hr.mono (by decide)) (by with_unfolding_all rfl) (pa_cons (pe_fn c_behind_each (hr.mono (by decide)) (by with_unfolding_all rfl) (pa_cons (pv 0) pa_nil)) (pa_cons (pv 1) (pa_cons (pe_tup pa_nil) pa_nil)))))), ?_⟩
    walk_at "rd"
    refine ⟨hv, ns, ps, rfl, hI, hW, fun r as H1 hr1 has1 e1 hT1 => ?_⟩
    walk_at "rd"
    refine i_newT (line_of (by simp)) fun t H2 ht2 e2 h2 => ?_
    walk_at "rd"
    refine ⟨r, v, t, [], ns, ps, as, D, m, rfl, (hT1.same e2).toR, hW, hNm, h10, hP, Is.fz (e1.trans e2).fz _ _ (frz_plan hP) hD, SqT.of h2, hm, Nat.le_refl _, hpl, by simp; omega, hL.same (e1.trans e2), fun H3 k3 hL3 => ?_⟩
    walk_at "rd"
    exact k H3 (fun b o hb h => k3.all b o hb (fun z => by rw [z, hr1] at h; cases h) (e2 _ _ (e1 _ _ h))) hL3
noncomputable def sp__law_orders (K : PySem.W.Frag) : Sp := fun vs H Q _ => ∃ v ns ps, vs = [v] ∧ HfS K H v ns ps ∧ HalfW ns ps ∧ ns.length ≤ 10 ∧ cnt (wayB ps) ns ≤ 1000 ∧ ∀ l ys H', H l = none → Same H H' → H' l = some (.lst ys) → IsL K H' ((ext (wayB ps) ns.length ns).map nmD) ys → Q (.ref l) H'
theorem ok__law_orders {f : Addr} {fd : FuncData} (F : Fun K "_law_orders" "_law_orders" s__law_orders f fd) (T : TopF mg) : FnOk P w K mg base CX0 1 f fd ["_law_half_here"] (sp__law_orders K) := by
  refine F.ok sc__law_orders (fun vs H Q E h => ?_) (fun cdv A outer s H vs Q E hr h => ?_)
  · obtain ⟨v, ns, ps, rfl, _⟩ := h
    rfl
  · obtain ⟨v, ns, ps, rfl, hI, hW, h6, hcn, k⟩ := h
    have hgr : ∀ i, i ≤ ns.length → (growN (wayB ps) ns i [[]]).length ≤ 1000 := fun i hi => Nat.le_trans (grow_le (fun x => way_irr hW x) (fun x y z a b => wayB_iff.mpr ((wayB_iff.mp a).trans (wayB_iff.mp b))) hW.nd hi) hcn
    have hu := hu_of hr
    have hq := qa_of hr
    have hn := hW.nd
    with_reducible refine ⟨_, (pss_cons (ps_set (i := 1) sc__law_orders.nd (by with_unfolding_all rfl) (by with_unfolding_all exact Or.inl rfl) (pe_lst (pa_cons (pe_tup pa_nil) pa_nil)))
      (pss_cons (ps_for PassesOwn.never (by with_unfolding_all rfl) (pi_range1 (by with_unfolding_all rfl) T.b_range (pa_cons (pe_callB (call_lenK (K := K)) (by with_unfolding_all rfl) T.b_len PyProof.Rows.Boot.«len» (pa_cons (pe_ix (ix_anyK (K := K) hu) (pv 0) pe_int (by with_unfolding_all exact fun _ _ => rfl)) pa_nil)) pa_nil)) (pg_name (i := 2) sc__law_orders.nd (by with_unfolding_all rfl) (by with_unfolding_all exact Or.inl rfl))
      (pss_cons (ps_set (i := 3) sc__law_orders.nd (by with_unfolding_all rfl) (by with_unfolding_all exact Or.inl rfl) (pe_lst pa_nil))
      (pss_cons (ps_for PassesOwn.never (by with_unfolding_all rfl) (pi_anyK (K := K) hu (pv 1)) (pg_name (i := 4) sc__law_orders.nd (by with_unfolding_all rfl) (by with_unfolding_all exact Or.inr rfl))
      (pss_cons (ps_set (i := 5) sc__law_orders.nd (by with_unfolding_all rfl) (by with_unfolding_all exact Or.inr rfl) (pe_comp ["_law_name"] ["_law_row"] [4] (by with_unfolding_all rfl) (by with_unfolding_all rfl) (by with_unfolding_all rfl) (pi_anyK (K := K) hu (pe_ix (ix_anyK (K := K) hu) (pv 0) pe_int (by with_unfolding_all exact fun _ _ => rfl))) (fun _ _ _ _ => (pg_name (i := 0) (by with_unfolding_all (show (["_law_name", "_law_row"] : List Str).Nodup; decide +kernel)) (by with_unfolding_all rfl) (by with_unfolding_all exact Or.inl rfl))) (gk_name (by decide)) (fun _ _ _ _ => (pif_one (pt_cmpR (op_notInK (K := K) hq) (pv 0) (pv 1) (by with_unfolding_all rfl)))) (fun _ _ _ _ => (pv 0))))
      (pss_cons (ps_set (i := 6) sc__law_orders.nd (by with_unfolding_all rfl) (by with_unfolding_all exact Or.inr rfl) (pe_comp ["_law_one", "_law_other"] ["_law_left"] [5] (by with_unfolding_all rfl) (by with_unfolding_all rfl) (by with_unfolding_all rfl) (pi_anyK (K := K) hu (pe_ix (ix_anyK (K := K) hu) (pv 0) pe_int (by with_unfolding_all exact fun _ _ => rfl))) (fun _ _ _ _ => (pg_tupK (K := K) (n := 2) (by with_unfolding_all rfl) (pgs_cons (pg_name (i := 0) (by with_unfolding_all (show (["_law_one", "_law_other", "_law_left"] : List Str).Nodup; decide +kernel)) (by with_unfolding_all rfl) (by with_unfolding_all exact Or.inl rfl)) (pgs_cons (pg_name (i := 1) (by with_unfolding_all (show (["_law_one", "_law_other", "_law_left"] : List Str).Nodup; decide +kernel)) (by with_unfolding_all rfl) (by with_unfolding_all exact Or.inl rfl)) pgs_nil)))) (gk_tup (gk_cons (by decide) (gk_cons (by decide) gk_nil))) (fun _ _ _ _ => (pif_one (pt_cmpR (op_inK (K := K) hq) (pv 0) (pv 2) (by with_unfolding_all rfl)))) (fun _ _ _ _ => (pv 1))))
      (pss_one (ps_expr (pe_bmK (K := K) PySem.F.plainAttrs_list PySem.F.slot_list_extend PySem.F.type_list_extend (mm mt_extend) (pv 3) (pa_cons (pe_comp ["_law_name"] ["_law_row", "_law_later"] [4, 6] (by with_unfolding_all rfl) (by with_unfolding_all rfl) (by with_unfolding_all rfl) (pi_anyK (K := K) hu (pv 5)) (fun _ _ _ _ => (pg_name (i := 0) (by with_unfolding_all (show (["_law_name", "_law_row", "_law_later"] : List Str).Nodup; decide +kernel)) (by with_unfolding_all rfl) (by with_unfolding_all exact Or.inl rfl))) (gk_name (by decide)) (fun _ _ _ _ => (pif_one (pt_cmpR (op_notInK (K := K) hq) (pv 0) (pv 2) (by with_unfolding_all rfl)))) (fun _ _ _ _ => (pe_op (op_addK (K := K)) (pv 1) (pe_tup (pa_cons (pv 0) pa_nil))))) pa_nil)))))))
      (pss_one (ps_set (i := 1) sc__law_orders.nd (by with_unfolding_all rfl) (by with_unfolding_all exact Or.inl rfl) (pv 3))))))
      (pss_one (ps_ret (pv 1))))), ?_⟩
    walk_at "rd"
    refine i_newT (by decide) fun t2 H2 ht2 e2 h2 => ?_
    walk_at "rd"
    refine i_newL (line_of (by simp)) fun l3 H3 hl3 e3 h3 => ?_
    walk_at "rd"
    have e13 : Same H H3 := e2.trans e3
    refine i_ixS0 (hI.same e13) fun nv hN => ?_
    walk_at "rd"
    refine i_lenNS hN ?_
    walk_at "rd"
    refine i_rngv (by omega) ?_
    refine for_by walk_range (fun i σ H4 => ∃ l x2 x3 x4 x5 x6 ys, σ = [some v, some (.ref l), x2, x3, x4, x5, x6] ∧ Same H H4 ∧ H l = none ∧ H4 l = some (.lst ys) ∧ IsL K H4 ((growN (wayB ps) ns i [[]]).map nmD) ys)
      ⟨l3, _, _, _, _, _, [.ref t2], rfl, e13, e2.free hl3, h3, .one (is_nm (SqT.of (e3 _ _ h2)))⟩ (fun _ _ _ _ => trivial) (fun i x σ H4 hx hi hP => ?_) (fun σ H4 hP => ?_)
    · obtain ⟨l, x2, x3, x4, x5, x6, ys, rfl, e4, hl1, h4, hL4⟩ := hP
      obtain ⟨rfl, hin⟩ := rng_get hx
      have hrows : (growN (wayB ps) ns i [[]]).length ≤ 1000 := hgr i (by omega)
      have hyl : ys.length = (growN (wayB ps) ns i [[]]).length := by rw [← IsL.length hL4, List.length_map]
      walk_at "rd"
      refine i_newL (by decide) fun g H5 hg5 e5 h5 => ?_
      walk_at "rd"
      have hlg : l ≠ g := ne_of_none h4 hg5
      refine i_itL (SqL.of (e5 _ _ h4)) ?_
      refine for_by (walk_list (xs := ys)) (fun j σ H6 => ∃ y4 y5 y6 zs, σ = [some v, some (.ref l), some (.int (0 + (i : Int))), some (.ref g), y4, y5, y6] ∧ Same H4 H6 ∧ H6 g = some (.lst zs) ∧ IsL K H6 ((growF (wayB ps) ns ((growN (wayB ps) ns i [[]]).take j)).map nmD) zs)
        ⟨_, _, _, [], rfl, e5, h5, .nil⟩ (fun j σ' H' hP => ?_) (fun j x σ' H6 hx6 hj hP => ?_) (fun σ' H6 hP => ?_)
      · obtain ⟨_, _, _, _, _, e, _⟩ := hP
        exact SqL.of (e _ _ h4)
      · obtain ⟨y4, y5, y6, zs, rfl, e6, h6g, hL6⟩ := hP
        obtain ⟨dr, hdr, hIr⟩ := IsL.get (IsL.mono e6 _ _ hL4) hx6
        rw [List.getElem?_map] at hdr
        cases hro : (growN (wayB ps) ns i [[]])[j]? with
        | none => rw [hro] at hdr; cases hdr
        | some row =>
          rw [hro] at hdr
          cases hdr
          have hrowm := List.mem_of_getElem? hro
          have hrl := growN_row _ _ _ _ hrowm
          have e16 : Same H H6 := e4.trans e6
          walk_at "rd"
          refine i_ixS0 (hI.same e16) fun nv6 hN6 => ?_
          refine comp_nmS hN6 (fun z => !decide (z ∈ row)) PyData.str (fun _ => rfl) (by omega) (fun jj z H7 R R' hz e7 hR hR' => ?_) (fun lf ys7 H7 hlf7 e7 h7 hL7 => ?_)
          · walk_at "rd"
            refine i_ninN (hIr.nm_fz e7.fz) ?_
            walk_at "rd"
            refine iteNB (fun hb => ?_) (fun hb => ?_)
            · walk_at "rd"
              exact hR (by rw [hb]; rfl) _ _ (.refl _) is_str
            · exact hR' (by rw [hb]; rfl) _ (.refl _)
          have hLf := IsL.str_eq hL7
          subst hLf
          have h7' : H7 lf = some (.lst ((leftF ns row).map V.str)) := h7
          have hlfl : (leftF ns row).length ≤ ns.length := List.length_filter_le _ _
          have hglf : g ≠ lf := ne_of_none h6g hlf7
          walk_at "rd"
          refine i_ixS1 ((hI.same e16).same e7) fun pv7 hP7 => ?_
          refine comp_ps hP7 (fun p => decide (p.1 ∈ leftF ns row)) (fun p => PyData.str p.2) (fun _ => rfl) (by have := hW.le; omega) (fun jj p w H8 R R' hp hIw e8 hR hR' => ?_) (fun lt ys8 H8 hlt8 e8 h8 hL8 => ?_)
          · obtain ⟨wa, rfl, hSw⟩ := hIw.pr
            walk_at "rd"
            refine i_gtwo hSw ?_
            walk_at "rd"
            refine i_inLN (e8.seq (SqL.of h7')) ?_
            walk_at "rd"
            refine iteD (fun hb => ?_) (fun hb => ?_)
            · walk_at "rd"
              exact hR (decide_eq_true hb) _ _ (.refl _) is_str
            · exact hR' (decide_eq_false hb) _ (.refl _)
          rw [show ((ps.filter fun p => decide (p.1 ∈ leftF ns row)).map fun p => PyData.str p.2) = ((ps.filter fun p => decide (p.1 ∈ leftF ns row)).map (·.2)).map PyData.str by rw [List.map_map]; rfl] at hL8
          have hLt := IsL.str_eq hL8
          subst hLt
          walk_at "rd"
          have h8l := e8 _ _ h7'
          have hIr8 := hIr.nm_fz (e7.trans e8).fz
          refine comp_lnm (SqL.of h8l) (fun z => !decide (z ∈ (ps.filter fun p => decide (p.1 ∈ leftF ns row)).map (·.2))) (fun z => nmD (row ++ [z])) (fun _ => frz_nm _) (by omega) (fun jj z H9 R R' hz e9 hR hR' => ?_) (fun q9 zs9 H9 hq9 e9 h9 hL9 => ?_)
          · walk_at "rd"
            refine i_ninLN (e9.seq (SqL.of h8)) ?_
            walk_at "rd"
            refine iteNB (fun hb => ?_) (fun hb => ?_)
            · walk_at "rd"
              refine i_newT (line_of (by simp)) fun t11 H11 ht11 e11 h11 => ?_
              obtain ⟨ra, rfl, hSr⟩ := (hIr8.nm_fz (e9.trans e11).fz).nm
              refine i_addT hSr (SqT.of h11) (line_of (by rw [List.length_map]; simp; omega)) fun p12 H12 e12 h12 => ?_
              exact hR (by rw [hb]; rfl) _ _ (e11.trans e12) (is_nm (by rw [List.map_append]; exact h12))
            · exact hR' (by rw [hb]; rfl) _ (.refl _)
          rw [frF_said hW.mem hrowm] at hL9
          have hg9 := (((e7.trans e8).trans e9) _ _ h6g)
          have hzl := IsL.length hL9
          have hzl6 := IsL.length hL6
          rw [List.length_map] at hzl hzl6
          have hfl : (frF (wayB ps) (leftF ns row)).length ≤ 10 := Nat.le_trans (List.length_filter_le _ _) (by omega)
          have hgl : (growF (wayB ps) ns ((growN (wayB ps) ns i [[]]).take j)).length ≤ 1000 := Nat.le_trans (growF_take_le _ _ _ _) (by rw [← growN_succ]; exact hgr (i + 1) (by omega))
          walk_at "rd"
          refine i_extR hg9 h9 (by omega) fun H10 e10 h10 => ?_
          have fz10 := e10.fzL hg9
          walk_at "rd"
          refine ⟨_, _, _, _, rfl, ((e6.trans ((e7.trans e8).trans e9))).off hg5 e10, h10, ?_⟩
          rw [growF_snoc _ _ hro, List.map_append, List.map_map]
          exact IsL.append (IsL.fz (((e7.trans e8).trans e9).fz.trans fz10) _ _ (frzL_nms _) hL6) (IsL.fz fz10 _ _ (frzL_map _ (fun _ => frz_nm _) _) hL9)
      · obtain ⟨y4, y5, y6, zs, rfl, e6, h6g, hL6⟩ := hP
        rw [hyl, List.take_length] at hL6
        walk_at "rd"
        refine ⟨g, _, _, _, _, _, zs, rfl, e4.trans e6, e4.free hg5, h6g, ?_⟩
        rw [growN_succ]
        exact hL6
    · obtain ⟨l, x2, x3, x4, x5, x6, ys, rfl, e4, hl1, h4, hL4⟩ := hP
      walk_at "rd"
      refine k l ys H4 hl1 e4 h4 ?_
      have : ((ns.length : Nat) : Int).toNat = ns.length := by omega
      rw [← grow_ext0]
      simpa using hL4
noncomputable def sp__law_parts (K : PySem.W.Frag) : Sp := fun vs H Q _ => ∃ l x y rows ys, vs = [.ref l, .str x, .str y] ∧ SqL K H l ys ∧ IsL K H (rows.map nmD) ys ∧ (∀ r ∈ rows, x ∈ r ∧ y ∈ r) ∧ rows.length ≤ 1000000 ∧
  ∀ t la lb ya yb H', Same H H' → SqT K H' t [.ref la, .ref lb] → H' la = some (.lst ya) → ya.length = ahR9 rows x y → H' lb = some (.lst yb) → yb.length = ahR9 rows y x → IsL K H' ((rows.filter fun r => decide (r.idxOf x < r.idxOf y)).map nmD) ya → IsL K H' ((rows.filter fun r => decide (r.idxOf y < r.idxOf x)).map nmD) yb → H la = none → H lb = none → Q (.ref t) H'
theorem ok__law_parts {f : Addr} {fd : FuncData} (F : Fun K "_law_parts" "_law_parts" s__law_parts f fd) (T : TopF mg) : FnOk P w K mg base CX0 1 f fd ["_law_orders_here", "_law_one", "_law_other"] (sp__law_parts K) := by
  refine F.ok sc__law_parts (fun vs H Q E h => ?_) (fun cdv A outer s H vs Q E hr h => ?_)
  · obtain ⟨l, x, y, rows, ys, rfl, _⟩ := h
    rfl
  · obtain ⟨l, x, y, rows, ys, rfl, hl, hL, hm, hz, k⟩ := h
    have hu := hu_of hr
    have hq := qa_of hr
    have hyl := IsL.length hL
    rw [List.length_map] at hyl
    with_reducible refine ⟨_, (pss_cons (ps_setcomp (i := 3) ["_law_order"] ["_law_one", "_law_other"] [1, 2] (by with_unfolding_all rfl) (by with_unfolding_all rfl) (by with_unfolding_all rfl) sc__law_parts.nd (by with_unfolding_all rfl) (by with_unfolding_all rfl) (pi_anyK (K := K) hu (pv 0)) (fun _ _ _ _ => (pg_name (i := 0) (by with_unfolding_all (show (["_law_order", "_law_one", "_law_other"] : List Str).Nodup; decide +kernel)) (by with_unfolding_all rfl) (by with_unfolding_all exact Or.inl rfl))) (gk_name (by decide)) (fun _ _ _ _ => (pif_one (pt_cmpR op_lt (pe_bmT (K := K) PySem.F.slot_tuple_index PySem.F.type_tuple_index (mt_indexTK (K := K)) (pv 0) (pa_cons (pv 1) pa_nil)) (pe_bmT (K := K) PySem.F.slot_tuple_index PySem.F.type_tuple_index (mt_indexTK (K := K)) (pv 0) (pa_cons (pv 2) pa_nil)) (nomark _)))) (fun _ _ _ _ => (pv 0)))
      (pss_one (ps_ret (pe_tup (pa_cons (pv 3) (pa_cons (pe_comp ["_law_order"] ["_law_one", "_law_other"] [1, 2] (by with_unfolding_all rfl) (by with_unfolding_all rfl) (by with_unfolding_all rfl) (pi_anyK (K := K) hu (pv 0)) (fun _ _ _ _ => (pg_name (i := 0) (by with_unfolding_all (show (["_law_order", "_law_one", "_law_other"] : List Str).Nodup; decide +kernel)) (by with_unfolding_all rfl) (by with_unfolding_all exact Or.inl rfl))) (gk_name (by decide)) (fun _ _ _ _ => (pif_one (pt_cmpR op_gt (pe_bmT (K := K) PySem.F.slot_tuple_index PySem.F.type_tuple_index (mt_indexTK (K := K)) (pv 0) (pa_cons (pv 1) pa_nil)) (pe_bmT (K := K) PySem.F.slot_tuple_index PySem.F.type_tuple_index (mt_indexTK (K := K)) (pv 0) (pa_cons (pv 2) pa_nil)) (nomark _)))) (fun _ _ _ _ => (pv 0))) pa_nil)))))), ?_⟩
    walk_at "rd"
    refine i_itL hl (comp_dat (K := K) (walk_list (xs := ys)) rows hyl (fun r => decide (r.idxOf x < r.idxOf y)) nmD (fun _ => frz_nm _) (by omega) (fun H' e => e.seq hl) (fun i r v H1 R R' hr' hv e1 hR hR' => ?_) (fun la ya H1 hla e1 h1 hL1 => ?_))
    · obtain ⟨dd, hd, hI⟩ := IsL.get (IsL.mono e1 _ _ hL) hv
      rw [List.getElem?_map, hr'] at hd
      cases hd
      obtain ⟨ra, rfl, hS⟩ := hI.nm
      obtain ⟨m1, m2⟩ := hm r (List.mem_of_getElem? hr')
      obtain ⟨f1, f2, _⟩ := idx_at m1
      obtain ⟨g1, g2, _⟩ := idx_at m2
      walk_at "rd"
      refine i_tyT hS ?_
      walk_at "rd"
      refine i_indexT hS f1 f2 ?_
      walk_at "rd"
      refine i_tyT hS ?_
      walk_at "rd"
      refine i_indexT hS g1 g2 ?_
      walk_at "rd"
      refine iteD (fun hb => ?_) (fun hb => ?_)
      · walk_at "rd"
        exact hR (decide_eq_true (by omega)) _ _ (.refl _) hI
      · exact hR' (decide_eq_false (by omega)) _ (.refl _)
    · have hyl1 := IsL.length hL1
      rw [List.length_map] at hyl1
      have hl1 := e1.seq hl
      have hLb := IsL.mono e1 _ _ hL
      walk_at "rd"
      refine i_itL hl1 (comp_dat (K := K) (walk_list (xs := ys)) rows hyl (fun r => decide (r.idxOf y < r.idxOf x)) nmD (fun _ => frz_nm _) (by omega) (fun H' e => e.seq hl1) (fun i r v H2 R R' hr' hv e2 hR hR' => ?_) (fun lb yb H2 hlb e2 h2 hL2 => ?_))
      · obtain ⟨dd, hd, hI⟩ := IsL.get (IsL.mono e2 _ _ hLb) hv
        rw [List.getElem?_map, hr'] at hd
        cases hd
        obtain ⟨ra, rfl, hS⟩ := hI.nm
        obtain ⟨m1, m2⟩ := hm r (List.mem_of_getElem? hr')
        obtain ⟨f1, f2, _⟩ := idx_at m1
        obtain ⟨g1, g2, _⟩ := idx_at m2
        walk_at "rd"
        refine i_tyT hS ?_
        walk_at "rd"
        refine i_indexT hS f1 f2 ?_
        walk_at "rd"
        refine i_tyT hS ?_
        walk_at "rd"
        refine i_indexT hS g1 g2 ?_
        walk_at "rd"
        refine iteD (fun hb => ?_) (fun hb => ?_)
        · walk_at "rd"
          exact hR (decide_eq_true (by omega)) _ _ (.refl _) hI
        · exact hR' (decide_eq_false (by omega)) _ (.refl _)
      · have hyl2 := IsL.length hL2
        rw [List.length_map] at hyl2
        walk_at "rd"
        refine i_newT (line_of (by simp)) fun t H3 ht e3 h3 => ?_
        exact k t la lb ya yb H3 ((e1.trans e2).trans e3) (SqT.of h3) ((e2.trans e3) _ _ h1) hyl1.symm (e3 _ _ h2) hyl2.symm (IsL.mono (e2.trans e3) _ _ hL1) (IsL.mono e3 _ _ hL2) hla (e1.free hlb)
noncomputable def sp__law_questions (K : PySem.W.Frag) : Sp := fun vs H Q _ => ∃ v l ns rows ys, vs = [v, .ref l] ∧ NmS K H v ns ∧ SqL K H l ys ∧ IsL K H (rows.map nmD) ys ∧ (∀ r ∈ rows, ∀ x ∈ ns, x ∈ r) ∧ ns.length ≤ 10 ∧ rows.length ≤ 1000000 ∧
  ∀ q zs H', H q = none → Same H H' → H' q = some (.lst zs) → IsL K H' (quK ns (ahR9 rows) ns.length) zs → Q (.ref q) H'
theorem frz_quR (ns : List Str) (A : Str → Str → Nat) (i m : Nat) : frzL (quR ns A i m) = true := frzL_map _ (fun _ => frz_qs ..) _
theorem frzL_app : ∀ {a b : List PyData}, frzL a = true → frzL b = true → frzL (a ++ b) = true
  | [], b, _, h => h
  | x :: a, b, h, g => by
    have h : (frz x && frzL a) = true := h
    rw [Bool.and_eq_true] at h
    show (frz x && frzL (a ++ b)) = true
    rw [h.1, frzL_app h.2 g]
    rfl
theorem frz_quK (ns : List Str) (A : Str → Str → Nat) : ∀ k, frzL (quK ns A k) = true
  | 0 => rfl
  | k + 1 => by rw [quK_snoc]; exact frzL_app (frz_quK ns A k) (frz_quR ..)
theorem quR_len (ns : List Str) (A : Str → Str → Nat) (i m : Nat) : (quR ns A i m).length ≤ ns.length := by
  unfold quR
  rw [List.length_map]
  refine Nat.le_trans (List.length_filter_le _ _) ?_
  rw [List.length_take, List.length_drop]
  omega
theorem quK_len (ns : List Str) (A : Str → Str → Nat) : ∀ k, (quK ns A k).length ≤ k * ns.length
  | 0 => by simp [quK]
  | k + 1 => by
    rw [quK_snoc, List.length_append, Nat.succ_mul]
    have := quK_len ns A k
    have := quR_len ns A k ns.length
    omega
theorem ok__law_questions {f : Addr} {fd : FuncData} (F : Fun K "_law_questions" "_law_questions" s__law_questions f fd) (T : TopF mg) (c__law_parts : Fnd P w K mg base 1 "_law_parts" ["_law_orders_here", "_law_one", "_law_other"] (sp__law_parts K)) : FnOk P w K mg base CX0 2 f fd ["_law_names_here", "_law_orders_here"] (sp__law_questions K) := by
  refine F.ok sc__law_questions (fun vs H Q E h => ?_) (fun cdv A outer s H vs Q E hr h => ?_)
  · obtain ⟨v, l, ns, rows, ys, rfl, _⟩ := h
    rfl
  · obtain ⟨v, l, ns, rows, ys, rfl, hN, hl, hL, hm, h10, hz, k⟩ := h
    have hu := hu_of hr
    have hq := qa_of hr
    with_reducible refine ⟨_, (pss_cons (ps_set (i := 2) sc__law_questions.nd (by with_unfolding_all rfl) (by with_unfolding_all exact Or.inl rfl) (pe_lst pa_nil))
      (pss_cons (ps_for PassesOwn.never (by with_unfolding_all rfl) (pi_range1 (by with_unfolding_all rfl) T.b_range (pa_cons (pe_callB (call_lenK (K := K)) (by with_unfolding_all rfl) T.b_len PyProof.Rows.Boot.«len» (pa_cons (pv 0) pa_nil)) pa_nil)) (pg_name (i := 3) sc__law_questions.nd (by with_unfolding_all rfl) (by with_unfolding_all exact Or.inl rfl))
      (pss_one (ps_for PassesOwn.never (by with_unfolding_all rfl) (pi_anyK (K := K) hu (pe_slice (sl_K (K := K)) (pv 0) (po_some (pe_op (op_addK (K := K)) (pv 3) pe_int)) po_none)) (pg_name (i := 4) sc__law_questions.nd (by with_unfolding_all rfl) (by with_unfolding_all exact Or.inl rfl))
      (pss_cons (ps_asg (pe_fn c__law_parts (hr.mono (by decide)) (by with_unfolding_all rfl) (pa_cons (pv 1) (pa_cons (pe_ix (ix_anyK (K := K) hu) (pv 0) (pv 3) (by with_unfolding_all exact fun _ _ => rfl)) (pa_cons (pv 4) pa_nil)))) (pg_tupK (K := K) (n := 2) (by with_unfolding_all rfl) (pgs_cons (pg_name (i := 5) sc__law_questions.nd (by with_unfolding_all rfl) (by with_unfolding_all exact Or.inl rfl)) (pgs_cons (pg_name (i := 6) sc__law_questions.nd (by with_unfolding_all rfl) (by with_unfolding_all exact Or.inl rfl)) pgs_nil))))
      (pss_one (ps_if (PW.pt (pw_and (pt_cmpR (op_neL0 (K := K) hq) (pv 5) (pe_lst pa_nil) (nomark _)) (pw_and1 (pt_cmpR (op_neL0 (K := K) hq) (pv 6) (pe_lst pa_nil) (nomark _))))) (pss_one (ps_expr (pe_bmK (K := K) PySem.F.plainAttrs_list PySem.F.slot_list_append PySem.F.type_list_append (mm mt_append) (pv 2) (pa_cons (pe_tup (pa_cons (pe_tup (pa_cons (pe_ix (ix_anyK (K := K) hu) (pv 0) (pv 3) (by with_unfolding_all exact fun _ _ => rfl)) (pa_cons (pv 4) pa_nil))) (pa_cons (pe_tup (pa_cons (pe_callB (call_lenK (K := K)) (by with_unfolding_all rfl) T.b_len PyProof.Rows.Boot.«len» (pa_cons (pv 5) pa_nil)) (pa_cons (pe_callB (call_lenK (K := K)) (by with_unfolding_all rfl) T.b_len PyProof.Rows.Boot.«len» (pa_cons (pv 6) pa_nil)) pa_nil))) pa_nil))) pa_nil)))) pss_nil))))))
      (pss_one (ps_ret (pv 2))))), ?_⟩
    walk_at "rd"
    refine i_newL (by decide) fun q H1 hq1 e1 h1 => ?_
    walk_at "rd"
    refine i_lenNS (hN.same e1) ?_
    walk_at "rd"
    refine i_rngv (by omega) ?_
    refine for_by walk_range (fun i σ H2 => ∃ x3 x4 x5 x6 zs, σ = [some v, some (.ref l), some (.ref q), x3, x4, x5, x6] ∧ Same H H2 ∧ H2 q = some (.lst zs) ∧ IsL K H2 (quK ns (ahR9 rows) i) zs)
      ⟨_, _, _, _, [], rfl, e1, h1, .nil⟩ (fun _ _ _ _ => trivial) (fun i x σ H2 hx hi hP => ?_) (fun σ H2 hP => ?_)
    · obtain ⟨x3, x4, x5, x6, zs, rfl, e2, h2, hL2⟩ := hP
      obtain ⟨rfl, hin⟩ := rng_get hx
      have hin' : i < ns.length := by omega
      have hzx : ns[i]? = some (ns.getD i "") := by simp [List.getD, List.getElem?_eq_getElem hin']
      have hxm := List.mem_of_getElem? hzx
      have hzl := IsL.length hL2
      have hkl := quK_len ns (ahR9 rows) i
      have hk100 : i * ns.length ≤ 100 := Nat.le_trans (Nat.mul_le_mul (by omega : i ≤ 10) h10) (by decide)
      walk_at "rd"
      refine i_slNX h2 (hN.same e2) (by omega) (by omega) fun sv H3 e3 hN3 => ?_
      rw [show (0 + (i : Int) + 1).toNat = i + 1 by omega] at hN3
      have h3 := e3 _ _ h2
      refine for_nmX hN3 (fun m σ H4 => ∃ y4 y5 y6 zs', σ = [some v, some (.ref l), some (.ref q), some (.int (0 + (i : Int))), y4, y5, y6] ∧ ExtBut q H3 H4 ∧ Fz H3 H4 ∧ Same H H4 ∧ H4 q = some (.lst zs') ∧ IsL K H4 (quK ns (ahR9 rows) i ++ quR ns (ahR9 rows) i m) zs')
        ⟨_, _, _, zs, rfl, .refl, .refl _, e2.trans e3, h3, by simpa [quR] using IsL.mono e3 _ _ hL2⟩ (fun m σ' H' hP => ?_) (fun m y σ' H4 hy hP => ?_) (fun σ' H4 hP => ?_)
      · obtain ⟨_, _, _, _, _, h, h', _⟩ := hP
        exact ⟨h, h'⟩
      · obtain ⟨y4, y5, y6, zs', rfl, b4, fz4, e4, h4, hL4⟩ := hP
        have hyn : y ∈ ns := (List.drop_sublist _ _).subset (List.mem_of_getElem? hy)
        have hzl4 := IsL.length hL4
        rw [List.length_append] at hzl4
        have hrl := quR_len ns (ahR9 rows) i m
        walk_at "rd"
        refine i_ixNS (hN.same e4) (by rw [Int.zero_add]; exact atI_nat hzx) ?_
        walk_at "rd"
        refine ⟨l, ns.getD i "", y, rows, ys, rfl, e4.seq hl, IsL.mono e4 _ _ hL, fun r hr => ⟨hm r hr _ hxm, hm r hr _ hyn⟩, hz, fun t la lb ya yb H5 e5 ht hla hya hlb hyb _ _ _ _ => ?_⟩
        refine i_gtwo ht ?_
        walk_at "rd"
        refine i_newL (by decide) fun n6 H6 hn6 e6 h6 => ?_
        walk_at "rd"
        refine i_neL0 (SqL.of (e6 _ _ hla)) (SqL.of h6) ?_
        walk_at "rd"
        have e46 := e5.trans e6
        have zero : ∀ {ys : List V} {n : Nat}, ys.length = n → ys.isEmpty = true → n = 0 := fun {ys n} h g => by
          cases ys with
          | nil => exact h.symm
          | cons a r => cases g
        have pos : ∀ {ys : List V} {n : Nat}, ys.length = n → ys.isEmpty = false → n ≠ 0 := fun {ys n} h g => by
          cases ys with
          | nil => cases g
          | cons a r => rw [List.length_cons] at h; omega
        have skp : ¬ (ahR9 rows (ns.getD i "") y ≠ 0 ∧ ahR9 rows y (ns.getD i "") ≠ 0) → ∀ {H7}, Same H4 H7 → ExtBut q H3 H7 ∧ Fz H3 H7 ∧ Same H H7 ∧ H7 q = some (.lst zs') ∧ IsL K H7 (quK ns (ahR9 rows) i ++ quR ns (ahR9 rows) i (m + 1)) zs' := fun c {H7} e7 => by
          refine ⟨b4.same e7, fz4.trans e7.fz, e4.trans e7, e7 _ _ h4, ?_⟩
          rw [quR_snoc hy, if_neg c, List.append_nil]
          exact IsL.mono e7 _ _ hL4
        refine iteNB (fun hb => ?_) (fun hb => ?_)
        · walk_at "rd"
          refine i_newL (by decide) fun n7 H7 hn7 e7 h7 => ?_
          walk_at "rd"
          refine i_neL0 (SqL.of ((e6.trans e7) _ _ hlb)) (SqL.of h7) ?_
          walk_at "rd"
          have e47 := e46.trans e7
          refine iteNB (fun hb2 => ?_) (fun hb2 => ?_)
          · walk_at "rd"
            refine i_ixNS ((hN.same e4).same e47) (by rw [Int.zero_add]; exact atI_nat hzx) ?_
            walk_at "rd"
            refine i_newT (line_of (by simp)) fun t8 H8 ht8 e8 h8 => ?_
            walk_at "rd"
            refine i_lenL (((e6.trans e7).trans e8) _ _ hla) ?_
            walk_at "rd"
            refine i_lenL (((e6.trans e7).trans e8) _ _ hlb) ?_
            walk_at "rd"
            refine i_newT (line_of (by simp)) fun t9 H9 ht9 e9 h9 => ?_
            walk_at "rd"
            refine i_newT (line_of (by simp)) fun t10 H10 ht10 e10 h10' => ?_
            walk_at "rd"
            have e410 := ((e47.trans e8).trans e9).trans e10
            have h410 := e410 _ _ h4
            refine i_appR h410 (by omega) fun H11 e11 h11 => ?_
            have fz11 := e11.fzL h410
            walk_at "rd"
            refine ⟨_, _, _, _, rfl, (b4.same e410).trans e11, (fz4.trans e410.fz).trans fz11, (e4.trans e410).off hq1 e11, h11, ?_⟩
            rw [quR_snoc hy, if_pos ⟨pos hya hb, pos hyb hb2⟩, ← List.append_assoc]
            refine IsL.append (IsL.fz (e410.fz.trans fz11) _ _ (frzL_app (frz_quK ..) (frz_quR ..)) hL4) (.one ?_)
            rw [hya, hyb] at h9
            refine Is.fz fz11 _ _ (frz_qs ..) (Is.of_tup (SqT.of h10') (.cons (Is.mono (e9.trans e10) _ _ (is_pr (SqT.of h8))) (.one (Is.of_tup (e10.seqT (SqT.of h9)) (.cons is_int (.one is_int))))))
          · walk_at "rd"
            exact ⟨_, _, _, _, rfl, skp (fun c => c.2 (zero hyb hb2)) e47⟩
        · walk_at "rd"
          exact ⟨_, _, _, _, rfl, skp (fun c => c.1 (zero hya hb)) e46⟩
      · obtain ⟨y4, y5, y6, zs', rfl, b4, fz4, e4, h4, hL4⟩ := hP
        refine ⟨_, _, _, _, zs', rfl, e4, h4, ?_⟩
        rw [quK_snoc]
        have : quR ns (ahR9 rows) i (ns.drop (i + 1)).length = quR ns (ahR9 rows) i ns.length := by
          unfold quR
          rw [List.take_length, List.take_of_length_le (by rw [List.length_drop]; omega)]
        rw [← this]
        exact hL4
    · obtain ⟨x3, x4, x5, x6, zs, rfl, e2, h2, hL2⟩ := hP
      walk_at "rd"
      refine k q zs H2 hq1 e2 h2 ?_
      simpa using hL2
noncomputable def sp__law_full (K : PySem.W.Frag) : Sp := fun vs H Q _ => ∃ f l v ns ps, vs = [.ref f, v] ∧ Feed H f l ∧ Is K H (hfD ns ps) v ∧ NmP ps ∧ ps.length ≤ 60 ∧ ∀ u ps' H', ExtBut f H H' → Feed H' f l → Is K H' (hfD ns ps') u → ps'.length ≤ 60 → (∀ p, p ∈ ps' ↔ p ∈ ps) → Q u H'
theorem isL_rep {K : PySem.W.Frag} {H : Hp} {ds : List PyData} {vs : List V} (h : IsL K H ds vs) : ∀ n : Nat, IsL K H (List.replicate n ds).flatten (List.replicate n vs).flatten
  | 0 => .nil
  | n + 1 => by
    rw [List.replicate_succ, List.flatten_cons, List.replicate_succ, List.flatten_cons]
    exact IsL.append h (isL_rep h n)
noncomputable def spr__law_depth (K : PySem.W.Frag) (n : Nat) : Sp := fun vs H Q _ => ∃ v ns ps D m, vs = [v] ∧ PlanP ns ps D m ∧ Is K H D v ∧ m < n ∧ n ≤ 125 ∧ Q (.int m) H
noncomputable def sp__law_depth (K : PySem.W.Frag) : Sp := spr__law_depth K 125
theorem spr__law_depth_zero {K : PySem.W.Frag} : ∀ vs H Q E, ¬ spr__law_depth K 0 vs H Q E := by
  rintro vs H Q E ⟨v, ns, ps, D, m, _, _, _, h, _⟩
  omega
theorem okr__law_depth {f : Addr} {fd : FuncData} (F : Fun K "_law_depth" "_law_depth" s__law_depth f fd) (T : TopF mg) (n : Nat) (c__law_depth : Fnd P w K mg base (1 + n) "_law_depth" ["_law_plan_here"] (spr__law_depth K n)) : FnOk P w K mg base CX0 (1 + n + 1) f fd ["_law_plan_here"] (spr__law_depth K (n + 1)) := by
  refine F.ok sc__law_depth (fun vs H Q E h => ?_) (fun cdv A outer s H vs Q E hr h => ?_)
  · obtain ⟨v, ns, ps, D, m, rfl, _⟩ := h
    rfl
  · obtain ⟨v, ns, ps, D, m, rfl, hP, hI, hmn, hn, k⟩ := h
    have hu := hu_of hr
    have hq := qa_of hr
    with_reducible refine ⟨_, (pss_cons (ps_if (pt_cmpR (op_eqK (K := K) hq) (pe_ix (ix_anyK (K := K) hu) (pv 0) pe_int (by with_unfolding_all exact fun _ _ => rfl)) pe_str (nomark _)) (pss_one (ps_ret pe_int)) pss_nil)
      (pss_one (ps_ret (pe_op (op_addK (K := K)) pe_int (pe_callB (call_max2 (by with_unfolding_all rfl)) (by with_unfolding_all rfl) T.b_max PyProof.Rows.Boot.«max» (pa_cons (pe_fn c__law_depth (hr.mono (by omega)) (by with_unfolding_all rfl) (pa_cons (pe_ix (ix_anyK (K := K) hu) (pv 0) pe_int (by with_unfolding_all exact fun _ _ => rfl)) pa_nil)) (pa_cons (pe_fn c__law_depth (hr.mono (by omega)) (by with_unfolding_all rfl) (pa_cons (pe_ix (ix_anyK (K := K) hu) (pv 0) pe_int (by with_unfolding_all exact fun _ _ => rfl)) pa_nil)) pa_nil))))))), ?_⟩
    cases hP with
    | @fin _ row he =>
      obtain ⟨a, rv, rfl, hA, _⟩ := fin_at hI
      walk_at "rd"
      refine i_ixQ hA (by rfl) ?_
      walk_at "rd"
      exact k
    | @ask _ x y D1 D2 m1 m2 hx hy hxy hun p1 p2 =>
      obtain ⟨a, d, e, rfl, hA, hd, he⟩ := ask_at hI
      walk_at "rd"
      refine i_ixQ hA (by rfl) ?_
      walk_at "rd"
      rw [if_neg (by intro z; have := V.str.inj (of_decide_eq_true z); exact absurd this (by decide))]
      walk_at "rd"
      refine i_ixQ hA (by rfl) ?_
      walk_at "rd"
      refine ⟨d, ns, _, D1, m1, rfl, p1, hd, by omega, by omega, ?_⟩
      walk_at "rd"
      refine i_ixQ hA (by rfl) ?_
      walk_at "rd"
      refine ⟨e, ns, _, D2, m2, rfl, p2, he, by omega, by omega, ?_⟩
      walk_at "rd"
      refine ⟨_, _, rfl, ?_⟩
      have hmx : (1 + (if (m2 : Int) > (m1 : Int) then (m2 : Int) else (m1 : Int)) : Int) = ((1 + max m1 m2 : Nat) : Int) := by
        split <;> omega
      show rAddA K (V.int 1) (V.int (if (m2 : Int) > (m1 : Int) then (m2 : Int) else (m1 : Int))) H _
      walk_at "rd"
      rw [hmx]
      exact k
theorem ok__law_depth {f : Addr} {fd : FuncData} (F : Fun K "_law_depth" "_law_depth" s__law_depth f fd) (T : TopF mg) (hm : mg "_law_depth" = some (.ref f)) (hk : PySem.W.keepIn K (.ref f) = true) (hb : Binds K fd ["_law_plan_here"] []) : FnOk P w K mg base CX0 126 f fd ["_law_plan_here"] (sp__law_depth K) := by
  have h : ∀ n : Nat, FnOk P w K mg base CX0 (1 + n) f fd ["_law_plan_here"] (spr__law_depth K n) := fun n => by
    induction n with
    | zero => exact FnOk.void spr__law_depth_zero
    | succ n ih => exact okr__law_depth F T n ⟨f, fd, ih, hm, hk, hb⟩
  exact h 125
theorem ok__law_full {f : Addr} {fd : FuncData} (F : Fun K "_law_full" "_law_full" s__law_full f fd) (T : TopF mg) (c__law_draw : Fnd P w K mg base 1 "_law_draw" ["_law_feed_here", "_law_many"] (sp__law_draw K)) : FnOk P w K mg base CX0 2 f fd ["_law_feed_here", "_law_half_here"] (sp__law_full K) := by
  refine F.ok sc__law_full (fun vs H Q E h => ?_) (fun cdv A outer s H vs Q E hr h => ?_)
  · obtain ⟨f, l, v, ns, ps, rfl, _⟩ := h
    rfl
  · obtain ⟨f, l, v, ns, ps, rfl, hF, hI, h10, h60, k⟩ := h
    have hu := hu_of hr
    have hq := qa_of hr
    with_reducible refine ⟨_, (pss_cons (ps_if (PW.pt (pw_or (pt_cmpR (op_eqK (K := K) hq) (pe_ix (ix_anyK (K := K) hu) (pv 1) pe_int (by with_unfolding_all exact fun _ _ => rfl)) (pe_tup pa_nil) (nomark _)) (pw_or1 (pt_cmpR op_gt (pe_fn c__law_draw (hr.mono (by decide)) (by with_unfolding_all rfl) (pa_cons (pv 0) (pa_cons pe_int pa_nil))) pe_int (nomark _))))) (pss_one (ps_ret (pv 1))) pss_nil)
      (pss_one (ps_ret (pe_tup (pa_cons (pe_ix (ix_anyK (K := K) hu) (pv 1) pe_int (by with_unfolding_all exact fun _ _ => rfl)) (pa_cons (pe_slice (sl_K (K := K)) (pe_op (op_repTK (K := K)) (pe_ix (ix_anyK (K := K) hu) (pv 1) pe_int (by with_unfolding_all exact fun _ _ => rfl)) pe_int) po_none (po_some pe_int)) pa_nil)))))), ?_⟩
    walk_at "rd"
    refine i_ixH1 hI fun pv hP => ?_
    walk_at "rd"
    refine i_newT (line_of (by simp)) fun t H1 ht1 e1 h1 => ?_
    refine i_eqD (hP.ps_fz e1.fz) (Is.of_tup (ds := []) (SqT.of h1) .nil) (fine_ps h10 (by omega)).shaped (by rfl) ?_
    have hF1 : Feed H1 f l := hF.same e1
    have hI1 := hI.hf_fz e1.fz
    cases ps with
    | nil =>
      rw [show PyData.eqv (psD []) (.tuple []) = true from rfl]
      walk_at "rd"
      exact k v [] H1 e1.but hF1 hI1 (by simp) (fun p => Iff.rfl)
    | cons p0 qs =>
      rw [show PyData.eqv (psD (p0 :: qs)) (.tuple []) = false from by simp [psD, PyData.eqv, PyData.eqvAll]]
      walk_at "rd"
      refine ⟨f, l, _, rfl, hF1, by omega, by omega, fun u H2 hu0 hu1 e2 hF2 => ?_⟩
      have fz2 : Fz H1 H2 := by walk_at "fz"
      have hI2 := hI1.hf_fz fz2
      walk_at "rd"
      refine iteD (fun hc => ?_) (fun hc => ?_)
      · walk_at "rd"
        exact k v (p0 :: qs) H2 (ExtBut.after e1 e2) hF2 hI2 h60 (fun p => Iff.rfl)
      · walk_at "rd"
        refine i_ixH0 hI2 fun nv hN => ?_
        walk_at "rd"
        refine i_ixH1 hI2 fun pw hP2 => ?_
        obtain ⟨pa, xs, rfl, hS, hL⟩ := Is.tup hP2
        have hxl := IsL.length hL
        rw [List.length_map] at hxl
        walk_at "rd"
        refine i_repT hS ⟨by omega, by omega⟩ (fun z => by rw [z] at hxl; simp at hxl) (by omega) fun t3 H3 ht3 e3 h3 => ?_
        walk_at "rd"
        refine i_slT (SqT.of h3) fun t4 H4 e4 h4 => ?_
        walk_at "rd"
        refine i_newT (line_of (by simp)) fun t5 H5 ht5 e5 h5 => ?_
        walk_at "rd"
        have hcut : cutV (List.replicate (60 : Int).toNat xs).flatten none (some 60) = (List.replicate 60 xs).flatten.take 60 := cut_upto (by decide)
        have e25 : Same H2 H5 := (e3.trans e4).trans e5
        rw [hcut] at h4
        have hL5 : IsL K H5 ((((List.replicate 60 (p0 :: qs)).flatten.take 60)).map prD) ((List.replicate 60 xs).flatten.take 60) := by
          rw [List.map_take, List.map_flatten, List.map_replicate]
          exact IsL.take 60 (isL_rep (IsL.mono e25 _ _ hL) 60)
        refine k (.ref t5) ((List.replicate 60 (p0 :: qs)).flatten.take 60) H5 (ExtBut.same (ExtBut.after e1 e2) e25) (hF2.same e25) (is_hf (SqT.of h5) (hN.nm_fz e25.fz) (Is.of_tup (e5.seqT h4) hL5)) (List.length_take_le _ _) fun p => ⟨fun h => ?_, fun h => ?_⟩
        · obtain ⟨c, hc1, hc2⟩ := List.mem_flatten.mp (List.mem_of_mem_take h)
          rw [List.eq_of_mem_replicate hc1] at hc2
          exact hc2
        · rw [show (60 : Nat) = 59 + 1 from rfl, List.replicate_succ, List.flatten_cons, List.take_append]
          refine List.mem_append_left _ ?_
          rw [List.take_of_length_le (by exact h60)]
          exact h
noncomputable def Rows (ns : List Str) (ps : List (Str × Str)) (rows : List (List Str)) : Prop := rows.Perm (ext (wayB ps) ns.length ns)
theorem ahR_perm {rows rows' : List (List Str)} (h : rows.Perm rows') (x y : Str) : ahR9 rows x y = ahR9 rows' x y := (h.filter _).length_eq
theorem perm_tot {b : Str → Str → Bool} : ∀ {r r' : List Str}, r.Perm r' → r.Pairwise (fun u v => b v u = false) → r'.Pairwise (fun u v => b v u = false) → (∀ u ∈ r, ∀ v ∈ r, u ≠ v → b u v = true ∨ b v u = true) → r.Nodup → r = r'
  | [], r', h, _, _, _, _ => (List.nil_perm.mp h).symm
  | a :: t, [], h, _, _, _, _ => by cases h.length_eq
  | a :: t, c :: t', h, h1, h2, tot, nd => by
    have hac : a = c := by
      by_cases e : a = c
      · exact e
      · exfalso
        have ha : a ∈ c :: t' := h.mem_iff.mp (List.mem_cons_self ..)
        have hc : c ∈ a :: t := h.mem_iff.mpr (List.mem_cons_self ..)
        have ha' : a ∈ t' := (List.mem_cons.mp ha).resolve_left e
        have hc' : c ∈ t := (List.mem_cons.mp hc).resolve_left fun z => e z.symm
        have q1 := (List.pairwise_cons.mp h1).1 c hc'
        have q2 := (List.pairwise_cons.mp h2).1 a ha'
        rcases tot a (List.mem_cons_self ..) c hc e with q | q
        · rw [q2] at q; cases q
        · rw [q1] at q; cases q
    subst hac
    rw [perm_tot (List.Perm.cons_inv h) (List.pairwise_cons.mp h1).2 (List.pairwise_cons.mp h2).2 (fun u hu v hv => tot u (List.mem_cons_of_mem _ hu) v (List.mem_cons_of_mem _ hv)) (List.nodup_cons.mp nd).2]
theorem un_some {ns : List Str} {ps : List (Str × Str)} (h : HalfW ns ps) (hc : 2 ≤ cnt (wayB ps) ns) : ∃ x ∈ ns, ∃ y ∈ ns, x ≠ y ∧ unB ps x y = true := by
  false_or_by_contra
  rename_i hno
  have tot : ∀ x ∈ ns, ∀ y ∈ ns, x ≠ y → wayB ps x y = true ∨ wayB ps y x = true := fun x hx y hy hxy => by
    cases e1 : wayB ps x y with
    | true => exact .inl rfl
    | false =>
      cases e2 : wayB ps y x with
      | true => exact .inr rfl
      | false => exact absurd ⟨x, hx, y, hy, hxy, by unfold unB; rw [e1, e2]; rfl⟩ hno
  unfold L2.cnt at hc
  have nd := ext_nodup (wayB ps) ns.length ns h.nd
  have me := fun r => mem_ext (wayB ps) ns.length ns r h.nd rfl
  match hE : ext (wayB ps) ns.length ns, hc, nd, me with
  | r :: r' :: rest, _, nd, me =>
    obtain ⟨p1, k1⟩ := (me r).mp (List.mem_cons_self ..)
    obtain ⟨p2, k2⟩ := (me r').mp (List.mem_cons_of_mem _ (List.mem_cons_self ..))
    have : r = r' := perm_tot (p1.trans p2.symm) k1.2 k2.2 (fun u hu v hv => tot u (p1.mem_iff.mp hu) v (p1.mem_iff.mp hv)) (p1.nodup_iff.mpr h.nd)
    exact (List.nodup_cons.mp nd).1 (this ▸ List.mem_cons_self ..)
theorem un_len {ps : List (Str × Str)} {x y : Str} (hxy : x ≠ y) (hu : unB ps x y = true) : ∀ {ns : List Str}, x ∈ ns → y ∈ ns → 0 < (unP ns ps).length
  | [], h, _ => by cases h
  | a :: t, hx, hy => by
    rw [unP_cons]
    rcases List.mem_cons.mp hx with rfl | hx'
    · have : y ∈ t.filter fun z => unB ps x z := List.mem_filter.mpr ⟨(List.mem_cons.mp hy).resolve_left (Ne.symm hxy), hu⟩
      have := List.length_pos_of_mem this
      omega
    · rcases List.mem_cons.mp hy with rfl | hy'
      · have : x ∈ t.filter fun z => unB ps y z := List.mem_filter.mpr ⟨hx', un_symm hu⟩
        have := List.length_pos_of_mem this
        omega
      · have := un_len hxy hu hx' hy'
        omega
theorem rows_said {ns : List Str} {ps : List (Str × Str)} {rows : List (List Str)} (h : HalfW ns ps) (hR : Rows ns ps rows) {x y : Str} (hx : x ∈ ns) (hy : y ∈ ns) : Rows ns (ps ++ [(x, y)]) (rows.filter fun r => decide (r.idxOf x < r.idxOf y)) := by
  refine (hR.filter _).trans ?_
  refine (List.perm_ext_iff_of_nodup ((ext_nodup (wayB ps) ns.length ns h.nd).filter _) (ext_nodup (wayB (ps ++ [(x, y)])) ns.length ns h.nd)).mpr fun r => ?_
  have hm := (h.more hx hy).mem
  rw [List.mem_filter, mem_ext _ _ _ _ h.nd rfl, mem_ext _ _ _ _ h.nd rfl, decide_eq_true_eq]
  constructor
  · rintro ⟨⟨hp, hk⟩, hi⟩
    refine ⟨hp, (ok_iff h.nd hm hp).mpr fun p hpm => ?_⟩
    rcases List.mem_append.mp hpm with q | q
    · exact (ok_iff h.nd h.mem hp).mp hk p q
    · rw [List.mem_singleton.mp q]
      exact hi
  · rintro ⟨hp, hk⟩
    have := (ok_iff h.nd hm hp).mp hk
    exact ⟨⟨hp, (ok_iff h.nd h.mem hp).mpr fun p hpm => this p (List.mem_append_left _ hpm)⟩, this (x, y) (List.mem_append_right _ (List.mem_singleton.mpr rfl))⟩
noncomputable def spr__law_plan (K : PySem.W.Frag) (n : Nat) : Sp := fun vs H Q _ => ∃ f l v ol ns ps rows ys, vs = [.ref f, v, .ref ol] ∧ Feed H f l ∧ Is K H (nmD ns) v ∧ H ol = some (.lst ys) ∧ IsL K H (rows.map nmD) ys ∧ HalfW ns ps ∧ ns.length ≤ 10 ∧ Rows ns ps rows ∧ ps.length + rows.length ≤ 900 ∧ 0 < rows.length ∧ rows.length ≤ n ∧ n ≤ 125 ∧ ∀ u D m H', ExtBut f H H' → Feed H' f l → PlanP ns ps D m → m < rows.length → Is K H' D u → Q u H'
noncomputable def sp__law_plan (K : PySem.W.Frag) : Sp := spr__law_plan K 125
theorem spr__law_plan_zero {K : PySem.W.Frag} : ∀ vs H Q E, ¬ spr__law_plan K 0 vs H Q E := by
  rintro vs H Q E ⟨f, l, v, ol, ns, ps, rows, ys, _, _, _, _, _, _, _, _, _, h1, h2, _⟩
  omega
theorem okr__law_plan {f : Addr} {fd : FuncData} (F : Fun K "_law_plan" "_law_plan" s__law_plan f fd) (T : TopF mg) (c__law_draw : Fnd P w K mg base 1 "_law_draw" ["_law_feed_here", "_law_many"] (sp__law_draw K)) (c__law_parts : Fnd P w K mg base 1 "_law_parts" ["_law_orders_here", "_law_one", "_law_other"] (sp__law_parts K)) (c__law_questions : Fnd P w K mg base 2 "_law_questions" ["_law_names_here", "_law_orders_here"] (sp__law_questions K)) (n : Nat) (c__law_plan : Fnd P w K mg base (3 + n) "_law_plan" ["_law_feed_here", "_law_names_here", "_law_orders_here"] (spr__law_plan K n)) : FnOk P w K mg base CX0 (3 + n + 1) f fd ["_law_feed_here", "_law_names_here", "_law_orders_here"] (spr__law_plan K (n + 1)) := by
  refine F.ok sc__law_plan (fun vs H Q E h => ?_) (fun cdv A outer s H vs Q E hr h => ?_)
  · obtain ⟨f, l, v, ol, ns, ps, rows, ys, rfl, _⟩ := h
    rfl
  · obtain ⟨f, l, v, ol, ns, ps, rows, ys, rfl, hF, hN, hO, hL, hW, h10, hR, hpl, hpos, hrn, hn, k⟩ := h
    have hu := hu_of hr
    have hq := qa_of hr
    have hyl := IsL.length hL
    rw [List.length_map] at hyl
    with_reducible refine ⟨_, (pss_cons (ps_if (pt_cmpR (op_eqK (K := K) hq) (pe_callB (call_lenK (K := K)) (by with_unfolding_all rfl) T.b_len PyProof.Rows.Boot.«len» (pa_cons (pv 2) pa_nil)) pe_int (nomark _)) (pss_one (ps_ret (pe_tup (pa_cons pe_str (pa_cons (pe_ix (ix_anyK (K := K) hu) (pv 2) pe_int (by with_unfolding_all exact fun _ _ => rfl)) pa_nil))))) pss_nil)
      (pss_cons (ps_set (i := 3) sc__law_plan.nd (by with_unfolding_all rfl) (by with_unfolding_all exact Or.inl rfl) (pe_fn c__law_questions (hr.mono (by omega)) (by with_unfolding_all rfl) (pa_cons (pv 1) (pa_cons (pv 2) pa_nil))))
      (pss_cons (ps_set (i := 4) sc__law_plan.nd (by with_unfolding_all rfl) (by with_unfolding_all exact Or.inl rfl) (pe_sliceStep2 (K := K) (pe_ix (ix_anyK (K := K) hu) (pe_ix (ix_anyK (K := K) hu) (pv 3) (pe_fn c__law_draw (hr.mono (by omega)) (by with_unfolding_all rfl) (pa_cons (pv 0) (pa_cons (pe_callB (call_lenK (K := K)) (by with_unfolding_all rfl) T.b_len PyProof.Rows.Boot.«len» (pa_cons (pv 3) pa_nil)) pa_nil))) (by with_unfolding_all exact fun _ _ => rfl)) pe_int (by with_unfolding_all exact fun _ _ => rfl)) (pe_ix (ix_anyK (K := K) hu) (pe_lst (pa_cons pe_int (pa_cons (pe_un un_neg pe_int) pa_nil))) (pe_fn c__law_draw (hr.mono (by omega)) (by with_unfolding_all rfl) (pa_cons (pv 0) (pa_cons pe_int pa_nil))) (by with_unfolding_all exact fun _ _ => rfl))))
      (pss_cons (ps_asg (pe_fn c__law_parts (hr.mono (by omega)) (by with_unfolding_all rfl) (pa_cons (pv 2) (pa_cons (pe_ix (ix_anyK (K := K) hu) (pv 4) pe_int (by with_unfolding_all exact fun _ _ => rfl)) (pa_cons (pe_ix (ix_anyK (K := K) hu) (pv 4) pe_int (by with_unfolding_all exact fun _ _ => rfl)) pa_nil)))) (pg_tupK (K := K) (n := 2) (by with_unfolding_all rfl) (pgs_cons (pg_name (i := 5) sc__law_plan.nd (by with_unfolding_all rfl) (by with_unfolding_all exact Or.inl rfl)) (pgs_cons (pg_name (i := 6) sc__law_plan.nd (by with_unfolding_all rfl) (by with_unfolding_all exact Or.inl rfl)) pgs_nil))))
      (pss_cons (ps_set (i := 7) sc__law_plan.nd (by with_unfolding_all rfl) (by with_unfolding_all exact Or.inl rfl) (pe_fn c__law_plan (hr.mono (by omega)) (by with_unfolding_all rfl) (pa_cons (pv 0) (pa_cons (pv 1) (pa_cons (pv 5) pa_nil)))))
      (pss_one (ps_ret (pe_tup (pa_cons pe_str (pa_cons (pe_ix (ix_anyK (K := K) hu) (pv 4) pe_int (by with_unfolding_all exact fun _ _ => rfl)) (pa_cons (pe_ix (ix_anyK (K := K) hu) (pv 4) pe_int (by with_unfolding_all exact fun _ _ => rfl)) (pa_cons (pv 7) (pa_cons (pe_fn c__law_plan (hr.mono (by omega)) (by with_unfolding_all rfl) (pa_cons (pv 0) (pa_cons (pv 1) (pa_cons (pv 6) pa_nil)))) pa_nil))))))))))))), ?_⟩
    walk_at "rd"
    refine iteD (fun hc => ?_) (fun hc => ?_)
    · have h1 : rows.length = 1 := by have := V.int.inj hc; omega
      obtain ⟨row, rfl⟩ := List.length_eq_one_iff.mp h1
      have he : ext (wayB ps) ns.length ns = [row] := List.perm_singleton.mp hR.symm
      obtain ⟨y0, r0, rfl, hI0, hr0⟩ := isL_consI hL
      have : r0 = [] := by simpa only [List.map_nil, L2.IsL] using hr0
      subst this
      walk_at "rd"
      refine i_ixL hO (by rfl) ?_
      walk_at "rd"
      refine i_newT (line_of (by simp)) fun t H1 ht e1 h1 => ?_
      walk_at "rd"
      exact k (.ref t) _ 0 H1 e1.but (hF.same e1) (.fin he) (by simp) (Is.of_tup (SqT.of h1) (.cons is_str (.one (hI0.nm_fz e1.fz))))
    · have h2 : 2 ≤ rows.length := by
        rcases Nat.lt_or_ge 1 rows.length with q | q
        · exact q
        · exact absurd (by rw [show ys.length = 1 by omega]; rfl) hc
      have hin : ∀ r ∈ rows, ∀ x ∈ ns, x ∈ r := fun r hr x hx => ((mem_ext (wayB ps) ns.length ns r hW.nd rfl).mp (hR.mem_iff.mp hr)).1.mem_iff.mpr hx
      have hcn : cnt (wayB ps) ns = rows.length := hR.length_eq.symm
      have hQ : quK ns (ahR9 rows) ns.length = quP ns ps := by
        rw [← qu_orders hW]
        refine congrArg (fun A => quK ns A ns.length) (funext fun x => funext fun y => ?_)
        exact ahR_perm hR x y
      walk_at "rd"
      refine ⟨v, ol, ns, rows, ys, rfl, .of hN, SqL.of hO, hL, hin, h10, by omega, fun q zs H1 hq1 e1 h1 hLq => ?_⟩
      rw [hQ] at hLq
      have hzl := IsL.length hLq
      unfold quP at hzl
      rw [List.length_map] at hzl
      have hupos : 0 < (unP ns ps).length := by
        obtain ⟨x, hx, y, hy, hxy, hun⟩ := un_some hW (by omega)
        exact un_len hxy hun hx hy
      have hul : (unP ns ps).length ≤ 1000 := by
        have h1 := quK_len ns (ahR9 rows) ns.length
        rw [hQ] at h1
        unfold quP at h1
        rw [List.length_map] at h1
        exact Nat.le_trans h1 (Nat.le_trans (Nat.mul_le_mul h10 h10) (by decide))
      have hF1 : Feed H1 f l := hF.same e1
      walk_at "rd"
      refine ⟨f, l, _, rfl, hF1, by omega, by omega, fun u H2 hu0 hu1 e2 hF2 => ?_⟩
      have fz2 : Fz H1 H2 := by walk_at "fz"
      have hqf : q ≠ f := Ne.symm (hF.nd hq1)
      have h2q := e2 _ _ hqf h1
      have hLq2 := IsL.fz fz2 _ _ (frzL_map _ (fun _ => frz_qs ..) _) hLq
      have hui : u.toNat < zs.length := by omega
      obtain ⟨dd, hd, hIu⟩ := IsL.get hLq2 (List.getElem?_eq_getElem hui)
      rw [List.getElem?_map] at hd
      obtain ⟨pr, hpr, rfl⟩ := Option.map_eq_some_iff.mp hd
      obtain ⟨hp1, hp2, hpu⟩ := mem_unP (List.mem_of_getElem? hpr)
      have hpne := unP_ne hW.nd (List.mem_of_getElem? hpr)
      walk_at "rd"
      refine i_ixL h2q (by have := atI_nat (List.getElem?_eq_getElem hui); rwa [show ((u.toNat : Nat) : Int) = u by omega] at this) ?_
      obtain ⟨ua, ux, hua, hus, hul2⟩ := Is.tup hIu
      obtain ⟨pv, u1, rfl, hIp, _⟩ := isL_consI hul2
      rw [hua]
      walk_at "rd"
      refine i_ixQ hus (show atI (pv :: u1) ((0 : Nat) : Int) = some pv from atI_nat rfl) ?_
      obtain ⟨pa, px, rfl, hps, hpl2⟩ := Is.tup hIp
      have hpx := IsL.str_eq (ns := [pr.1, pr.2]) hpl2
      subst hpx
      walk_at "rd"
      refine i_newL (line_of (by simp)) fun l3 H3 hl3 e3 h3 => ?_
      have hF3 : Feed H3 f l := hF2.same e3
      walk_at "rd"
      refine ⟨f, l, _, rfl, hF3, by omega, by omega, fun w H4 hw0 hw1 e4 hF4 => ?_⟩
      have fz4 : Fz H3 H4 := by walk_at "fz"
      have h4l := e4 _ _ (Ne.symm (hF2.nd hl3)) h3
      walk_at "rd"
      obtain ⟨kk, hkk, hat⟩ : ∃ kk : Int, (kk = 1 ∨ kk = -1) ∧ atI [V.int 1, V.int (-1)] w = some (V.int kk) := by
        rcases (show w = 0 ∨ w = 1 by omega) with rfl | rfl
        · exact ⟨1, .inl rfl, rfl⟩
        · exact ⟨-1, .inr rfl, rfl⟩
      refine i_ixL h4l hat ?_
      walk_at "rd"
      refine i_step2 ((e3.fz.trans fz4).seq hps) hkk fun pb H5 e5 hpb => ?_
      obtain ⟨x, y, hxy', hx, hy, hun, hpb'⟩ : ∃ x y : Str, x ≠ y ∧ x ∈ ns ∧ y ∈ ns ∧ unB ps x y = true ∧ SqT K H5 pb [.str x, .str y] := by
        rcases hkk with rfl | rfl
        · exact ⟨pr.1, pr.2, hpne, hp1, hp2, hpu, hpb⟩
        · exact ⟨pr.2, pr.1, Ne.symm hpne, hp2, hp1, un_symm hpu, hpb⟩
      have b5 : ExtBut f H H5 := ((ExtBut.same (ExtBut.after e1 e2) e3).trans e4).same e5
      have hF5 := hF4.same e5
      have fz5 : Fz H H5 := (((e1.fz.trans fz2).trans e3.fz).trans fz4).trans e5.fz
      have h5o := b5 _ _ (hF.lst hO) hO
      have hL5 := IsL.fz fz5 _ _ (frzL_nms rows) hL
      have hN5 := hN.nm_fz fz5
      have hR1 := rows_said hW hR hx hy
      have hR2 := rows_said hW hR hy hx
      have hc1 := hR1.length_eq
      have hc2 := hR2.length_eq
      have hct := cnt_two hW hx hy hxy'
      obtain ⟨hu1', hu2'⟩ := (un_iff hW hx hy hxy').mpr hun
      unfold L2.cnt at hct hu1' hu2' hcn
      walk_at "rd"
      refine i_ixQ hpb' (by rfl) ?_
      walk_at "rd"
      refine i_ixQ hpb' (by rfl) ?_
      walk_at "rd"
      refine ⟨ol, x, y, rows, ys, rfl, SqL.of h5o, hL5, fun r hr => ⟨hin r hr _ hx, hin r hr _ hy⟩, by omega, fun t la lb ya yb H6 e6 ht hla hya hlb hyb hLa hLb hna hnb => ?_⟩
      have hF6 := hF5.same e6
      have hpb6 := e6.seqT hpb'
      refine i_gtwo ht ?_
      walk_at "rd"
      refine ⟨f, l, v, la, ns, ps ++ [(x, y)], _, ya, rfl, hF6, hN5.nm_fz e6.fz, hla, hLa, hW.saidP (by omega) hx hy hxy' hun, h10, hR1, by rw [List.length_append, List.length_singleton]; omega, by omega, by omega, by omega, fun u1 D1 m1 H7 e7 hF7 p1 hm1 hI1 => ?_⟩
      have fz7 : Fz H6 H7 := by walk_at "fz"
      have hpb7 := fz7.seq hpb6
      walk_at "rd"
      refine i_ixQ hpb7 (by rfl) ?_
      walk_at "rd"
      refine i_ixQ hpb7 (by rfl) ?_
      walk_at "rd"
      refine ⟨f, l, v, lb, ns, ps ++ [(y, x)], _, yb, rfl, hF7, (hN5.nm_fz e6.fz).nm_fz fz7, e7 _ _ (hF6.lst hlb) hlb, IsL.fz fz7 _ _ (frzL_nms _) hLb, hW.saidP (by omega) hy hx (Ne.symm hxy') (un_symm hun), h10, hR2, by rw [List.length_append, List.length_singleton]; omega, by omega, by omega, by omega, fun u2 D2 m2 H8 e8 hF8 p2 hm2 hI2 => ?_⟩
      have fz8 : Fz H7 H8 := by walk_at "fz"
      walk_at "rd"
      refine i_newT (line_of (by simp)) fun t9 H9 ht9 e9 h9 => ?_
      walk_at "rd"
      refine k (.ref t9) _ _ H9 ((((ExtBut.same b5 e6).trans e7).trans e8).same e9) (hF8.same e9) (.ask hx hy hxy' hun p1 p2) (by omega) (Is.of_tup (SqT.of h9) (.cons is_str (.cons is_str (.cons is_str (.cons (Is.fz (fz8.trans e9.fz) _ _ (frz_plan p1) hI1) (.one (Is.fz e9.fz _ _ (frz_plan p2) hI2)))))))
theorem ok__law_plan {f : Addr} {fd : FuncData} (F : Fun K "_law_plan" "_law_plan" s__law_plan f fd) (T : TopF mg) (c__law_draw : Fnd P w K mg base 1 "_law_draw" ["_law_feed_here", "_law_many"] (sp__law_draw K)) (c__law_parts : Fnd P w K mg base 1 "_law_parts" ["_law_orders_here", "_law_one", "_law_other"] (sp__law_parts K)) (c__law_questions : Fnd P w K mg base 2 "_law_questions" ["_law_names_here", "_law_orders_here"] (sp__law_questions K)) (hm : mg "_law_plan" = some (.ref f)) (hk : PySem.W.keepIn K (.ref f) = true) (hb : Binds K fd ["_law_feed_here", "_law_names_here", "_law_orders_here"] []) : FnOk P w K mg base CX0 128 f fd ["_law_feed_here", "_law_names_here", "_law_orders_here"] (sp__law_plan K) := by
  have h : ∀ n : Nat, FnOk P w K mg base CX0 (3 + n) f fd ["_law_feed_here", "_law_names_here", "_law_orders_here"] (spr__law_plan K n) := fun n => by
    induction n with
    | zero => exact FnOk.void spr__law_plan_zero
    | succ n ih => exact okr__law_plan F T c__law_draw c__law_parts c__law_questions n ⟨f, fd, ih, hm, hk, hb⟩
  exact h 125
theorem wt_all {k : Nat} : ∀ {ds : List PyData}, (∀ e ∈ ds, e.weight ≤ k) → PyData.weightAll ds ≤ ds.length * (k + 1)
  | [], _ => by simp only [PyData.weightAll]; omega
  | d :: ds, h => by
    have h1 := h d (by simp)
    have h2 := wt_all (ds := ds) fun e he => h e (by simp [he])
    simp only [PyData.weightAll, List.length_cons, Nat.succ_mul]
    omega
theorem nm_asc {z : Str} (h : isNm z = true) : Asc z := fun c hc => by
  unfold isNm at h
  rw [Bool.and_eq_true, List.all_eq_true] at h
  have := h.2 c hc
  unfold smallN at this
  rw [Bool.and_eq_true, decide_eq_true_eq, decide_eq_true_eq] at this
  omega
theorem nms_els {p W : Nat} {ns : List Str} (h : ∀ z ∈ ns, isNm z = true) (hl : ns.length ≤ W) : Els p (ns.length * 9) W (ns.map PyData.str) := by
  refine ⟨fun e he => ?_, ?_, by simpa using hl⟩
  · obtain ⟨z, hz, rfl⟩ := List.mem_map.mp he
    exact ⟨8, dk_str (nm_asc (h z hz)) (nm_len (h z hz))⟩
  · have := wt_all (k := 8) (ds := ns.map PyData.str) fun e he => by
      obtain ⟨z, hz, rfl⟩ := List.mem_map.mp he
      simp only [PyData.weight]
      exact nm_len (h z hz)
    simpa using this
structure HalfQ (ns : List Str) (ps : List (Str × Str)) : Prop where
  w : HalfW ns ps
  nm : ∀ z ∈ ns, isNm z = true
  few : ns.length ≤ 10
  le : ps.length ≤ 60
  cn : cnt (wayB ps) ns ≤ 120
theorem way_mem {ps ps' : List (Str × Str)} (h : ∀ p, p ∈ ps' → p ∈ ps) {x y : Str} (g : Way ps' x y) : Way ps x y := by
  induction g with
  | one e => exact .one (h _ e)
  | cons e _ ih => exact .cons (h _ e) ih
theorem HalfQ.full {ns : List Str} {ps ps' : List (Str × Str)} (h : HalfQ ns ps) (hl : ps'.length ≤ 60) (hm : ∀ p, p ∈ ps' ↔ p ∈ ps) : HalfQ ns ps' := by
  have hw : wayB ps' = wayB ps := funext fun x => funext fun y => by
    cases e : wayB ps x y with
    | true => exact wayB_iff.mpr (way_mem (fun p hp => (hm p).mpr hp) (wayB_iff.mp e))
    | false =>
      cases e' : wayB ps' x y with
      | false => rfl
      | true => rw [wayB_iff.mpr (way_mem (fun p hp => (hm p).mp hp) (wayB_iff.mp e'))] at e; cases e
  exact ⟨⟨h.w.nd, fun p hp => h.w.mem p ((hm p).mp hp), fun x g => h.w.irr x (way_mem (fun p hp => (hm p).mp hp) g), h.w.few, by omega⟩, h.nm, h.few, hl, by rw [hw]; exact h.cn⟩
theorem cnt_fac {b : Str → Str → Bool} : ∀ (n : Nat) (L : List Str), L.length = n → L.Nodup → cnt b L ≤ fac n
  | 0, L, h, _ => by rw [List.length_eq_zero_iff.mp h, L2.cnt_nil]; exact Nat.le_refl _
  | n + 1, L, h, hn => by
    rw [cnt_eq hn (by intro z; rw [z] at h; cases h)]
    have h1 : ((frF b L).map fun x => cnt b (lessF L x)).sum ≤ ((frF b L).map fun _ => fac n).sum := sum_le fun x hx => cnt_fac n (lessF L x) (by have := lessF_len hn (mem_frF.mp hx).1; omega) (lessF_nodup hn x)
    have h2 : ((frF b L).map fun _ => fac n).sum = (frF b L).length * fac n := by rw [List.map_const', List.sum_replicate_nat]
    have h3 : (frF b L).length ≤ n + 1 := by rw [← h]; exact List.length_filter_le _ _
    have h4 := Nat.mul_le_mul_right (fac n) h3
    have h5 : fac (n + 1) = (n + 1) * fac n := by first | rfl | (show fac n * (n + 1) = _; exact Nat.mul_comm _ _)
    omega
theorem half_q {ns : List Str} {ps : List (Str × Str)} (h : Half ns ps) (h5 : ns.length ≤ 5) : HalfQ ns ps := by
  refine ⟨h.w, h.names.2, by omega, h.le, Nat.le_trans (cnt_fac _ ns rfl h.w.nd) ?_⟩
  rcases (show ns.length = 0 ∨ ns.length = 1 ∨ ns.length = 2 ∨ ns.length = 3 ∨ ns.length = 4 ∨ ns.length = 5 by omega) with e | e | e | e | e | e <;> rw [e] <;> decide
structure Lev (done lev : List Str) (S : List (Str × Str)) (many : Nat) : Prop where
  mem : ∀ p ∈ S, p.1 ∈ done ∧ p.2 ∈ done
  sub : ∀ e ∈ lev, e ∈ done
  up : ∀ d ∈ done, d ∈ lev ∨ ∀ e ∈ lev, Way S d e
  ne : lev = [] → done = []
  irr : ∀ x, ¬ Way S x x
  cn : cnt (wayB S) done ≤ many
  three : lev.length ≤ 3
  len : S.length ≤ 3 * done.length
theorem way_ends {S : List (Str × Str)} {done : List Str} (h : ∀ p ∈ S, p.1 ∈ done ∧ p.2 ∈ done) {x y : Str} (g : Way S x y) : x ∈ done ∧ y ∈ done := by
  induction g with
  | one e => exact h _ e
  | cons e _ ih => exact ⟨(h _ e).1, ih.2⟩
theorem lev_zero : Lev [] [] [] 1 := ⟨fun p h => (by cases h), fun e h => (by cases h), fun d h => (by cases h), fun _ => rfl, fun x g => (by have := (way_ends (done := []) (fun p h => (by cases h)) g).1; cases this), Nat.le_refl _, by simp, by simp⟩
theorem lev_way {done lev fresh : List Str} {S : List (Str × Str)} {many : Nat} (h : Lev done lev S many) (hn : (done ++ fresh).Nodup) {x y : Str} : Way (S ++ crs lev fresh) x y ↔ Way S x y ∨ (x ∈ done ∧ y ∈ fresh) := by
  have dis : ∀ z, z ∈ done → z ∈ fresh → False := fun z h1 h2 => (List.nodup_append.mp hn).2.2 z h1 z h2 rfl
  constructor
  · intro g
    induction g with
    | one e =>
      rcases List.mem_append.mp e with e | e
      · exact .inl (.one e)
      · obtain ⟨h1, h2⟩ := mem_crs.mp e
        exact .inr ⟨h.sub _ h1, h2⟩
    | cons e _ ih =>
      rcases List.mem_append.mp e with e | e
      · rcases ih with ih | ih
        · exact .inl (.cons e ih)
        · exact .inr ⟨(h.mem _ e).1, ih.2⟩
      · obtain ⟨h1, h2⟩ := mem_crs.mp e
        rcases ih with ih | ih
        · exact (dis _ (way_ends h.mem ih).1 h2).elim
        · exact (dis _ ih.1 h2).elim
  · rintro (g | ⟨h1, h2⟩)
    · exact way_mem (fun p hp => List.mem_append_left _ hp) g
    · rcases h.up x h1 with q | q
      · exact .one (List.mem_append_right _ (mem_crs.mpr ⟨q, h2⟩))
      · cases hl : lev with
        | nil =>
          rw [h.ne hl] at h1
          cases h1
        | cons e es =>
          have he : e ∈ lev := by rw [hl]; exact List.mem_cons_self ..
          rw [← hl]
          exact (way_mem (fun p hp => List.mem_append_left _ hp) (q e he)).trans (.one (List.mem_append_right _ (mem_crs.mpr ⟨he, h2⟩)))
theorem Lev.step {done lev fresh : List Str} {S : List (Str × Str)} {many : Nat} (h : Lev done lev S many) (hn : (done ++ fresh).Nodup) (h0 : fresh ≠ []) (h3 : fresh.length ≤ 3) : Lev (done ++ fresh) fresh (S ++ crs lev fresh) (many * fac fresh.length) := by
  have hw := fun x y => lev_way h hn (x := x) (y := y)
  have dis : ∀ z, z ∈ done → z ∈ fresh → False := fun z h1 h2 => (List.nodup_append.mp hn).2.2 z h1 z h2 rfl
  refine ⟨fun p hp => ?_, fun e he => List.mem_append_right _ he, fun d hd => ?_, fun z => absurd z h0, fun x g => ?_, ?_, h3, ?_⟩
  · rcases List.mem_append.mp hp with hp | hp
    · exact ⟨List.mem_append_left _ (h.mem p hp).1, List.mem_append_left _ (h.mem p hp).2⟩
    · obtain ⟨a, b⟩ := mem_crs.mp hp
      exact ⟨List.mem_append_left _ (h.sub _ a), List.mem_append_right _ b⟩
  · rcases List.mem_append.mp hd with hd | hd
    · exact .inr fun e he => (hw d e).mpr (.inr ⟨hd, he⟩)
    · exact .inl hd
  · rcases (hw x x).mp g with g | g
    · exact h.irr x g
    · exact dis x g.1 g.2
  · have hb : ∀ {x y : Str}, wayB (S ++ crs lev fresh) x y = true ↔ Way S x y ∨ (x ∈ done ∧ y ∈ fresh) := wayB_iff.trans (hw _ _)
    rw [cnt_above done.length rfl hn fun x hx y hy => ⟨hb.mpr (.inr ⟨hx, hy⟩), ?_⟩]
    · have e1 : cnt (wayB (S ++ crs lev fresh)) done = cnt (wayB S) done := cnt_congr done.length rfl (List.nodup_append.mp hn).1 fun x hx y hy => by
        cases e : wayB S x y with
        | true => exact hb.mpr (.inl (wayB_iff.mp e))
        | false =>
          cases e' : wayB (S ++ crs lev fresh) x y with
          | false => rfl
          | true =>
            rcases hb.mp e' with g | g
            · rw [wayB_iff.mpr g] at e; cases e
            · exact (dis y hy g.2).elim
      rw [e1]
      exact Nat.mul_le_mul h.cn (cnt_fac _ fresh rfl (List.nodup_append.mp hn).2.1)
    · cases e : wayB (S ++ crs lev fresh) y x with
      | false => rfl
      | true =>
        rcases hb.mp e with g | g
        · exact (dis y (way_ends h.mem g).1 hy).elim
        · exact (dis y g.1 hy).elim
  · have := h.len
    have h4 := Nat.mul_le_mul_right fresh.length h.three
    rw [List.length_append, crs_len, List.length_append]
    omega
noncomputable def sp__law_few (K : PySem.W.Frag) : Sp := fun vs H Q _ => ∃ f l, vs = [.ref f] ∧ Feed H f l ∧ ∀ v ns ps H', ExtBut f H H' → Feed H' f l → Is K H' (hfD ns ps) v → HalfQ ns ps → Q v H'
theorem plan_dk {ns : List Str} (hnm : ∀ z ∈ ns, isNm z = true) (h10 : ns.length ≤ 10) {ps : List (Str × Str)} {D : PyData} {m : Nat} (p : PlanP ns ps D m) : HalfW ns ps → ps.length + cnt (wayB ps) ns ≤ 1000 → Dk (m + 2) (200 * cnt (wayB ps) ns - 50) 10 D := by
  induction p with
  | @fin ps row e =>
    intro h _
    have hp := (row_mem h e).1
    have hl := hp.length_eq
    have h1 := dk_tup (nms_els (p := 0) (W := 10) (ns := row) (fun z hz => hnm z (hp.mem_iff.mp hz)) (by omega))
    have hc : cnt (wayB ps) ns = 1 := by unfold L2.cnt; rw [e]; rfl
    rw [hc]
    refine dk_tup ⟨fun d hd => ?_, ?_, by simp⟩
    · simp only [List.mem_cons, List.not_mem_nil, or_false] at hd
      rcases hd with rfl | rfl
      · exact ⟨3, dk_str (nm_asc (by rfl)) (by decide)⟩
      · exact ⟨_, h1⟩
    · have := h1.wt
      have e3 : ("end" : Str).cps.size = 3 := by rfl
      have h9 := Nat.mul_le_mul_right 9 (show row.length ≤ 10 by omega)
      simp only [nmD, PyData.weightAll, PyData.weight] at this ⊢
      omega
  | @ask ps x y D E m n hx hy hxy hu _ _ i1 i2 =>
    intro h hl
    have h2 := cnt_two h hx hy hxy
    have h3 := (un_iff h hx hy hxy).mpr hu
    have a1 := i1 (h.saidP (by omega) hx hy hxy hu) (by rw [List.length_append, List.length_singleton]; omega)
    have a2 := i2 (h.saidP (by omega) hy hx (Ne.symm hxy) (un_symm hu)) (by rw [List.length_append, List.length_singleton]; omega)
    rw [show 1 + max m n + 2 = (max m n + 2) + 1 by omega]
    refine dk_tup ⟨fun d hd => ?_, ?_, by simp⟩
    · simp only [List.mem_cons, List.not_mem_nil, or_false] at hd
      rcases hd with rfl | rfl | rfl | rfl | rfl
      · exact ⟨3, dk_str (nm_asc (by rfl)) (by decide)⟩
      · exact ⟨8, dk_str (nm_asc (hnm _ hx)) (nm_len (hnm _ hx))⟩
      · exact ⟨8, dk_str (nm_asc (hnm _ hy)) (nm_len (hnm _ hy))⟩
      · exact ⟨_, a1.le (by omega) (Nat.le_refl _)⟩
      · exact ⟨_, a2.le (by omega) (Nat.le_refl _)⟩
    · have w1 := a1.wt
      have w2 := a2.wt
      have l1 : x.cps.size ≤ 8 := nm_len (hnm _ hx)
      have l2 : y.cps.size ≤ 8 := nm_len (hnm _ hy)
      have e3 : ("ask" : Str).cps.size = 3 := by rfl
      simp only [PyData.weightAll, PyData.weight] at w1 w2 ⊢
      omega
theorem ok__law_few {f : Addr} {fd : FuncData} (F : Fun K "_law_few" "_law_few" s__law_few f fd) (T : TopF mg) (c__law_draw : Fnd P w K mg base 1 "_law_draw" ["_law_feed_here", "_law_many"] (sp__law_draw K)) (c__law_names : Fnd P w K mg base 2 "_law_names" ["_law_feed_here", "_law_many"] (sp__law_names K)) (c__law_shuffled : Fnd P w K mg base 2 "_law_shuffled" ["_law_feed_here", "_law_some"] (sp__law_shuffled K)) (c__law_half : Fnd P w K mg base 4 "_law_half" ["_law_feed_here", "_law_most"] (sp__law_half K)) : FnOk P w K mg base CX0 5 f fd ["_law_feed_here"] (sp__law_few K) := by
  refine F.ok sc__law_few (fun vs H Q E h => ?_) (fun cdv A outer s H vs Q E hr h => ?_)
  · obtain ⟨f, l, rfl, _⟩ := h
    rfl
  · obtain ⟨f, l, rfl, hF, k⟩ := h
    have hu := hu_of hr
    have hq := qa_of hr
    with_reducible refine ⟨_, (pss_cons (ps_if (pt_cmpR (op_eqK (K := K) hq) (pe_fn c__law_draw (hr.mono (by decide)) (by with_unfolding_all rfl) (pa_cons (pv 0) (pa_cons pe_int pa_nil))) pe_int (nomark _)) (pss_one (ps_ret (pe_fn c__law_half (hr.mono (by decide)) (by with_unfolding_all rfl) (pa_cons (pv 0) (pa_cons pe_int pa_nil))))) pss_nil)
      (pss_cons (ps_set (i := 1) sc__law_few.nd (by with_unfolding_all rfl) (by with_unfolding_all exact Or.inl rfl) (pe_fn c__law_names (hr.mono (by decide)) (by with_unfolding_all rfl) (pa_cons (pv 0) (pa_cons (pe_fn c__law_draw (hr.mono (by decide)) (by with_unfolding_all rfl) (pa_cons (pv 0) (pa_cons pe_int pa_nil))) pa_nil))))
      (pss_cons (ps_set (i := 2) sc__law_few.nd (by with_unfolding_all rfl) (by with_unfolding_all exact Or.inl rfl) (pe_fn c__law_shuffled (hr.mono (by decide)) (by with_unfolding_all rfl) (pa_cons (pv 0) (pa_cons (pv 1) pa_nil))))
      (pss_cons (ps_set (i := 3) sc__law_few.nd (by with_unfolding_all rfl) (by with_unfolding_all exact Or.inl rfl) (pe_lst pa_nil))
      (pss_cons (ps_set (i := 4) sc__law_few.nd (by with_unfolding_all rfl) (by with_unfolding_all exact Or.inl rfl) (pe_lst pa_nil))
      (pss_cons (ps_set (i := 5) sc__law_few.nd (by with_unfolding_all rfl) (by with_unfolding_all exact Or.inl rfl) pe_int)
      (pss_cons (ps_while PassesOwn.never (pt_cmpR (op_neK (K := K) hq) (pv 2) (pe_lst pa_nil) (nomark _))
      (pss_cons (ps_set (i := 6) sc__law_few.nd (by with_unfolding_all rfl) (by with_unfolding_all exact Or.inl rfl) (pe_callB (call_min2 (by with_unfolding_all rfl)) (by with_unfolding_all rfl) T.b_min PyProof.Rows.Boot.«min» (pa_cons (pe_callB (call_lenK (K := K)) (by with_unfolding_all rfl) T.b_len PyProof.Rows.Boot.«len» (pa_cons (pv 2) pa_nil)) (pa_cons (pe_ix (ix_anyK (K := K) hu) (pe_lst (pa_cons pe_int (pa_cons pe_int (pa_cons pe_int (pa_cons pe_int pa_nil))))) (pe_fn c__law_draw (hr.mono (by decide)) (by with_unfolding_all rfl) (pa_cons (pv 0) (pa_cons pe_int pa_nil))) (by with_unfolding_all exact fun _ _ => rfl)) pa_nil))))
      (pss_cons (ps_if (pt_cmpR op_gt (pe_op op_mulB (pv 5) (pe_ix (ix_anyK (K := K) hu) (pe_lst (pa_cons pe_int (pa_cons pe_int (pa_cons pe_int (pa_cons pe_int pa_nil))))) (pv 6) (by with_unfolding_all exact fun _ _ => rfl))) pe_int (nomark _)) (pss_one (ps_set (i := 6) sc__law_few.nd (by with_unfolding_all rfl) (by with_unfolding_all exact Or.inl rfl) pe_int)) pss_nil)
      (pss_cons (ps_set (i := 5) sc__law_few.nd (by with_unfolding_all rfl) (by with_unfolding_all exact Or.inl rfl) (pe_op op_mulB (pv 5) (pe_ix (ix_anyK (K := K) hu) (pe_lst (pa_cons pe_int (pa_cons pe_int (pa_cons pe_int (pa_cons pe_int pa_nil))))) (pv 6) (by with_unfolding_all exact fun _ _ => rfl))))
      (pss_cons (ps_set (i := 7) sc__law_few.nd (by with_unfolding_all rfl) (by with_unfolding_all exact Or.inl rfl) (pe_slice (sl_K (K := K)) (pv 2) po_none (po_some (pv 6))))
      (pss_cons (ps_set (i := 2) sc__law_few.nd (by with_unfolding_all rfl) (by with_unfolding_all exact Or.inl rfl) (pe_slice (sl_K (K := K)) (pv 2) (po_some (pv 6)) po_none))
      (pss_cons (ps_for PassesOwn.never (by with_unfolding_all rfl) (pi_anyK (K := K) hu (pv 3)) (pg_name (i := 8) sc__law_few.nd (by with_unfolding_all rfl) (by with_unfolding_all exact Or.inr rfl))
      (pss_one (ps_set (i := 4) sc__law_few.nd (by with_unfolding_all rfl) (by with_unfolding_all exact Or.inl rfl) (pe_op (op_addK (K := K)) (pv 4) (pe_comp ["_law_other"] ["_law_one"] [8] (by with_unfolding_all rfl) (by with_unfolding_all rfl) (by with_unfolding_all rfl) (pi_anyK (K := K) hu (pv 7)) (fun _ _ _ _ => (pg_name (i := 0) (by with_unfolding_all (show (["_law_other", "_law_one"] : List Str).Nodup; decide +kernel)) (by with_unfolding_all rfl) (by with_unfolding_all exact Or.inl rfl))) (gk_name (by decide)) (fun _ _ _ _ => pif_nil) (fun _ _ _ _ => (pe_tup (pa_cons (pv 1) (pa_cons (pv 0) pa_nil)))))))))
      (pss_one (ps_set (i := 3) sc__law_few.nd (by with_unfolding_all rfl) (by with_unfolding_all exact Or.inl rfl) (pv 7))))))))))
      (pss_one (ps_ret (pe_tup (pa_cons (pe_callTy (call_tupleK (K := K)) (by with_unfolding_all rfl) T.b_tuple PyProof.Rows.Boot.«tuple» (pa_cons (pv 1) pa_nil)) (pa_cons (pe_callTy (call_tupleK (K := K)) (by with_unfolding_all rfl) T.b_tuple PyProof.Rows.Boot.«tuple» (pa_cons (pe_fn c__law_shuffled (hr.mono (by decide)) (by with_unfolding_all rfl) (pa_cons (pv 0) (pa_cons (pv 4) pa_nil))) pa_nil)) pa_nil)))))))))))), ?_⟩
    walk_at "rd"
    refine ⟨f, l, _, rfl, hF, by omega, by omega, fun u H1 hu0 hu1 e1 hF1 => ?_⟩
    walk_at "rd"
    refine iteD (fun hc => ?_) (fun hc => ?_)
    · walk_at "rd"
      refine ⟨f, l, _, rfl, hF1, by omega, by omega, fun v ns ps H2 e2 hF2 hI hH hl => ?_⟩
      exact k v ns ps H2 (e1.trans e2) hF2 hI (half_q hH (by omega))
    · walk_at "rd"
      refine ⟨f, l, _, rfl, hF1, by omega, by omega, fun u2 H2 hu20 hu21 e2 hF2 => ?_⟩
      walk_at "rd"
      refine ⟨f, l, _, rfl, hF2, by omega, by omega, fun p3 ns H3 hp3 e3 hF3 h3 hN hnl => ?_⟩
      walk_at "rd"
      refine ⟨f, l, p3, _, rfl, hF3, .inl (SqL.of h3), by rw [List.length_map]; omega, fun p4 ys4 H4 hp4 e4 hF4 h4 hperm => ?_⟩
      obtain ⟨sh, rfl, hpm⟩ := perm_strs hperm
      have h4p := e4 _ _ (hF3.lst h3) h3
      have hsn : sh.Nodup := hpm.nodup_iff.mpr hN.1
      have hsl := hpm.length_eq
      walk_at "rd"
      refine i_newL (line_of (by simp)) fun p5 H5 hp5 e5 h5 => ?_
      walk_at "rd"
      refine i_newL (line_of (by simp)) fun p6 H6 hp6 e6 h6 => ?_
      walk_at "rd"
      have e46 := e5.trans e6
      refine i_while (fun mm σ H' => ∃ lf lv sy rest done lev S, ∃ many : Nat, ∃ x6 x7 x8, ∃ zs, σ = [some (.ref f), some (.ref p3), some (.ref lf), some (.ref lv), some (.ref sy), some (.int ((many : Nat) : Int)), x6, x7, x8] ∧ ExtBut f H4 H' ∧ Feed H' f l ∧ H' lf = some (.lst (rest.map V.str)) ∧ H' lv = some (.lst (lev.map V.str)) ∧ H' sy = some (.lst zs) ∧ IsL K H' (S.map prD) zs ∧ sh = done ++ rest ∧ Lev done lev S many ∧ 1 ≤ many ∧ many ≤ 24 ∧ mm = rest.length) sh.length
        ⟨p4, p5, p6, sh, [], [], [], 1, _, _, _, [], rfl, e46.but, hF4.same e46, e46 _ _ h4, e6 _ _ h5, h6, .nil, rfl, lev_zero, Nat.le_refl _, by omega, rfl⟩ (fun mm σ' H7 hP => ?_)
      obtain ⟨lf, lv, sy, rest, done, lev, S, many, x6, x7, x8, zs, rfl, b7, hF7, h7f, h7v, h7s, hL7, hsh, hV, hm1, hm24, rfl⟩ := hP
      have hrn : ∀ z ∈ rest, z ∈ ns := fun z hz => hpm.mem_iff.mp (by rw [hsh]; exact List.mem_append_right _ hz)
      have hlen : done.length + rest.length = sh.length := by rw [hsh, List.length_append]
      walk_at "rd"
      refine i_newL (by decide) fun t8 H8 ht8 e8 h8 => ?_
      refine i_neD (dx := .list (rest.map PyData.str)) (dy := .list []) (Is.of_lst (SqL.of (e8 _ _ h7f)) (is_strs rest)) (Is.of_lst (SqL.of h8) .nil) (fine_lst fun z hz => (nm_ok (hN.2 z (hrn z hz))).1) (by rfl) ?_
      rw [eqv_nil_strs]
      walk_at "rd"
      refine iteNB (fun hE => ?_) (fun hE => ?_)
      · have hne : rest ≠ [] := by
          intro e
          subst e
          cases hE
        have hrp := List.length_pos_iff.mpr hne
        have hF8 := hF7.same e8
        refine i_turn ?_
        walk_at "rd"
        refine i_newL (line_of (by simp)) fun p9 H9 hp9 e9 h9 => ?_
        have hF9 := hF8.same e9
        walk_at "rd"
        refine ⟨f, l, _, rfl, hF9, by omega, by omega, fun w H10 hw0 hw1 e10 hF10 => ?_⟩
        have fz10 := hF9.fz e10
        have h10p := e10 _ _ (hF9.lst h9) h9
        obtain ⟨c, hc3, hat⟩ : ∃ c : Int, (1 ≤ c ∧ c ≤ 3) ∧ atI [V.int 1, V.int 1, V.int 2, V.int 3] w = some (V.int c) := by
          rcases (show w = 0 ∨ w = 1 ∨ w = 2 ∨ w = 3 by omega) with rfl | rfl | rfl | rfl
          · exact ⟨1, by omega, rfl⟩
          · exact ⟨1, by omega, rfl⟩
          · exact ⟨2, by omega, rfl⟩
          · exact ⟨3, by omega, rfl⟩
        walk_at "rd"
        refine i_ixL h10p hat ?_
        walk_at "rd"
        refine ⟨_, _, rfl, ?_⟩
        obtain ⟨s0, hs0, hs1⟩ : ∃ s0 : Nat, (1 ≤ s0 ∧ s0 ≤ 3 ∧ s0 ≤ rest.length) ∧ (if c < ((rest.map V.str).length : Int) then c else ((rest.map V.str).length : Int)) = (s0 : Int) := by
          rw [List.length_map]
          split
          · exact ⟨c.toNat, by omega, by omega⟩
          · exact ⟨rest.length, by omega, rfl⟩
        walk_at "rq"
        rw [hs1]
        refine i_cut (fun σ' H' => ∃ sz : Nat, σ' = [some (.ref f), some (.ref p3), some (.ref lf), some (.ref lv), some (.ref sy), some (.int ((many : Nat) : Int)), some (.int ((sz : Nat) : Int)), x7, x8] ∧ ExtBut f H8 H' ∧ Feed H' f l ∧ Fz H8 H' ∧ 1 ≤ sz ∧ sz ≤ 3 ∧ sz ≤ rest.length ∧ many * fac sz ≤ 24) (fun N hNx => ?_) (fun σ' H' hM => ?_)
        · have hat2 : atI [V.int 1, V.int 1, V.int 2, V.int 6] (s0 : Int) = some (V.int ((fac s0 : Nat) : Int)) := by
            rcases (show s0 = 1 ∨ s0 = 2 ∨ s0 = 3 by omega) with rfl | rfl | rfl <;> rfl
          have hfb : fac s0 ≤ 6 := by rcases (show s0 = 1 ∨ s0 = 2 ∨ s0 = 3 by omega) with rfl | rfl | rfl <;> decide
          walk_at "rd"
          refine i_newL (line_of (by simp)) fun p11 H11 hp11 e11 h11 => ?_
          walk_at "rd"
          refine i_ixL h11 hat2 ?_
          walk_at "rd"
          have e811 : ExtBut f H8 H11 := (ExtBut.after e9 e10).same e11
          have fz811 := (e9.fz.trans fz10).trans e11.fz
          refine iteD (fun hb => ?_) (fun hb => ?_)
          · walk_at "rd"
            exact hNx _ _ ⟨1, rfl, e811, hF10.same e11, fz811, by omega, by omega, by omega, by show many * 1 ≤ 24; omega⟩
          · walk_at "rd"
            exact hNx _ _ ⟨s0, rfl, e811, hF10.same e11, fz811, by omega, by omega, by omega, by rw [← Int.natCast_mul] at hb; omega⟩
        · obtain ⟨sz, rfl, b11, hF11, fz11, hz1, hz3, hzr, hzm⟩ := hM
          have hat2 : atI [V.int 1, V.int 1, V.int 2, V.int 6] (sz : Int) = some (V.int ((fac sz : Nat) : Int)) := by
            rcases (show sz = 1 ∨ sz = 2 ∨ sz = 3 by omega) with rfl | rfl | rfl <;> rfl
          have h11f := b11 _ _ (hF8.lst (e8 _ _ h7f)) (e8 _ _ h7f)
          have h11v := b11 _ _ (hF8.lst (e8 _ _ h7v)) (e8 _ _ h7v)
          have h11s := b11 _ _ (hF8.lst (e8 _ _ h7s)) (e8 _ _ h7s)
          walk_at "rd"
          refine i_newL (line_of (by simp)) fun p12 H12 hp12 e12 h12 => ?_
          walk_at "rd"
          refine i_ixL h12 hat2 ?_
          walk_at "rd"
          refine i_slL (SqL.of (e12 _ _ h11f)) fun p13 H13 hp13 e13 h13 => ?_
          walk_at "rd"
          refine i_slL (SqL.of (e13 _ _ (e12 _ _ h11f))) fun p14 H14 hp14 e14 h14 => ?_
          rw [cut_upto (by omega), Int.toNat_natCast, ← List.map_take] at h13
          rw [cut_from (by omega) (by rw [List.length_map]; omega), Int.toNat_natCast, ← List.map_drop] at h14
          have e1114 := (e12.trans e13).trans e14
          walk_at "rd"
          refine i_itL (SqL.of (e1114 _ _ h11v)) ?_
          refine for_by (walk_list (xs := lev.map V.str)) (fun j σ' H' => ∃ sy' zs' y8, σ' = [some (.ref f), some (.ref p3), some (.ref p14), some (.ref lv), some (.ref sy'), some (.int (((many * fac sz : Nat)) : Int)), some (.int ((sz : Nat) : Int)), some (.ref p13), y8] ∧ Same H14 H' ∧ H' sy' = some (.lst zs') ∧ IsL K H' ((S ++ crs (lev.take j) (rest.take sz)).map prD) zs')
            ⟨sy, zs, _, by rw [Int.natCast_mul]; rfl, .refl _, e1114 _ _ h11s, ?_⟩ (fun j σ' H' hP => ?_) (fun j x σ' H15 hx hj hP => ?_) (fun σ' H15 hP => ?_)
          · rw [List.take_zero, show crs [] (rest.take sz) = [] from rfl, List.append_nil]
            exact IsL.fz ((e8.fz.trans fz11).trans e1114.fz) _ _ (frzL_prs S) hL7
          · obtain ⟨sy', zs', y8, _, e, _⟩ := hP
            exact SqL.of (e _ _ (e1114 _ _ h11v))
          · obtain ⟨sy', zs', y8, rfl, e15, h15, hL15⟩ := hP
            rw [List.getElem?_map] at hx
            obtain ⟨z, hz, rfl⟩ := Option.map_eq_some_iff.mp hx
            have h15p := e15 _ _ (e14 _ _ h13)
            have hzl := IsL.length hL15
            rw [List.length_map, List.length_append, crs_len] at hzl
            have hb1 := Nat.mul_le_mul (List.length_take_le j lev) (List.length_take_le sz rest)
            have hb2 := Nat.mul_le_mul_left j hz3
            have hjl : j ≤ 3 := by rw [List.length_map] at hj; have := hV.three; omega
            have hSl := hV.len
            walk_at "rd"
            refine comp_nmS (ns := rest.take sz) ⟨p13, rfl, .inl (SqL.of h15p)⟩ (fun _ => true) (fun o => prD (z, o)) (fun _ => frz_pr _) (by rw [List.length_take]; omega) (fun jj o H16 R R' ho e16 hR hR' => ?_) (fun lc yc H16 hlc e16 h16 hL16 => ?_)
            · walk_at "rd"
              refine i_newT (line_of (by simp)) fun t17 H17 ht17 e17 h17 => ?_
              exact hR rfl _ _ e17 (Is.of_tup (SqT.of h17) (.cons is_str (.one is_str)))
            · have hft : (rest.take sz).filter (fun _ => true) = rest.take sz := List.filter_eq_self.mpr fun _ _ => rfl
              rw [hft] at hL16
              have hcl := IsL.length hL16
              rw [List.length_map, List.length_take] at hcl
              walk_at "rd"
              refine i_addL (e16 _ _ h15) h16 (line_of (by omega)) fun p17 H17 hp17 e17 h17 => ?_
              walk_at "rd"
              refine ⟨p17, _, _, rfl, (e15.trans e16).trans e17, h17, ?_⟩
              have hcr : S ++ crs (lev.take (j + 1)) (rest.take sz) = (S ++ crs (lev.take j) (rest.take sz)) ++ (rest.take sz).map fun o => (z, o) := by
                rw [List.take_add_one, hz]
                unfold crs
                simp [List.flatMap_append]
              rw [hcr, List.map_append, List.map_map]
              exact IsL.append (IsL.fz (e16.trans e17).fz _ _ (frzL_prs _) hL15) (IsL.fz e17.fz _ _ (frzL_map _ (fun _ => frz_pr _) _) hL16)
          · obtain ⟨sy', zs', y8, rfl, e15, h15, hL15⟩ := hP
            rw [List.length_map, List.take_length] at hL15
            have hrd : sh = (done ++ rest.take sz) ++ rest.drop sz := by rw [List.append_assoc, List.take_append_drop]; exact hsh
            have hfl : (rest.take sz).length = sz := by rw [List.length_take]; omega
            have hnd : (done ++ rest.take sz).Nodup := by rw [hrd] at hsn; exact (List.nodup_append.mp hsn).1
            have hV2 := hV.step hnd (fun q => by rw [q] at hfl; simp at hfl; omega) (by omega)
            rw [hfl] at hV2
            have hfp : 1 ≤ fac sz := by rcases (show sz = 1 ∨ sz = 2 ∨ sz = 3 by omega) with rfl | rfl | rfl <;> decide
            have hmp := Nat.mul_le_mul hm1 hfp
            have e11f := e1114.trans e15
            walk_at "rd"
            exact ⟨(rest.drop sz).length, by rw [List.length_drop]; omega, p14, p13, sy', rest.drop sz, done ++ rest.take sz, rest.take sz, S ++ crs lev (rest.take sz), many * fac sz, _, _, _, zs', rfl, (((b7.same e8).trans b11).same e11f), hF11.same e11f, e15 _ _ h14, e15 _ _ (e14 _ _ h13), h15, hL15, hrd, hV2, by omega, hzm, rfl⟩
      · have hre : rest = [] := by
          cases rest with
          | nil => rfl
          | cons z zs => cases hE
        subst hre
        rw [List.append_nil] at hsh
        subst hsh
        have hF8 := hF7.same e8
        have h8p : H8 p3 = some (.lst (ns.map V.str)) := e8 _ _ (b7 _ _ (hF4.lst h4p) h4p)
        walk_at "rd"
        refine i_tupNm h8p (is_strs ns) fun tv H9 e9 hI9 => ?_
        have hF9 := hF8.same e9
        have e79 := e8.trans e9
        have hzl := IsL.length hL7
        rw [List.length_map] at hzl
        have hSl := hV.len
        walk_at "rd"
        refine ⟨f, l, sy, zs, rfl, hF9, .inl (SqL.of (e79 _ _ h7s)), by omega, fun p10 ys H10 hp10 e10 hF10 h10 hperm2 => ?_⟩
        have fz10 := hF9.fz e10
        obtain ⟨S', hS', hL10⟩ := isL_permI hperm2 (IsL.fz (e79.fz.trans fz10) _ _ (frzL_prs S) hL7)
        walk_at "rd"
        refine i_tupPs h10 hL10 fun pv H11 e11 hP11 => ?_
        walk_at "rd"
        refine i_newT (line_of (by simp)) fun t12 H12 ht12 e12 h12 => ?_
        walk_at "rd"
        have hw : wayB S' = wayB S := funext fun x => funext fun y => by
          cases e : wayB S x y with
          | true => exact wayB_iff.mpr (way_mem (fun p hp => hS'.mem_iff.mpr hp) (wayB_iff.mp e))
          | false =>
            cases e' : wayB S' x y with
            | false => rfl
            | true => rw [wayB_iff.mpr (way_mem (fun p hp => hS'.mem_iff.mp hp) (wayB_iff.mp e'))] at e; cases e
        have hSl2 := hS'.length_eq
        have hcn : cnt (wayB S') ns ≤ many := by
          rw [hw, ← cnt_perm hN.1 hpm]
          exact hV.cn
        exact k (.ref t12) ns S' H12 (((((((e1.trans e2).trans e3).trans e4).trans b7).same e79).trans e10).same (e11.trans e12)) (hF10.same (e11.trans e12)) (is_hf (SqT.of h12) (hI9.nm_fz (fz10.trans (e11.trans e12).fz)) (hP11.ps_fz e12.fz))
          ⟨⟨hN.1, fun p hp => ⟨hpm.mem_iff.mp (hV.mem p (hS'.mem_iff.mp hp)).1, hpm.mem_iff.mp (hV.mem p (hS'.mem_iff.mp hp)).2⟩, fun x g => hV.irr x (way_mem (fun p hp => hS'.mem_iff.mp hp) g), by omega, by omega⟩, hN.2, by omega, by omega, by omega⟩
noncomputable def spLaw (P : Addr) (K : PySem.W.Frag) : Sp := fun vs H Q _ => ∃ (a : Addr) (ns : List Int), vs = [.ref a] ∧ SqL K H a (ns.map V.int) ∧ ns.length ≤ 63 ∧ LmT P H ∧ ∀ H', Q (.bl true) H'
theorem lam_draw {P f l : Addr} {H H' : Hp} (h : LmT P H) (hF : Feed H f l) (e : ExtBut f H H') : LmT P H' := by
  obtain ⟨_, _, _, _, h1, _⟩ := hF
  exact LamT.but h e h1 (fun _ z => by cases z) (fun _ z => by cases z)
theorem feed_P {P f l : Addr} {H H' : Hp} (hT : LmT P H) (hF : Feed H f l) (e : ExtBut P H H') : Feed H' f l := by
  obtain ⟨ps, ht⟩ := lam_tbl hT
  obtain ⟨a, t, u, cs, h1, h2, h3, h4⟩ := hF
  exact ⟨a, t, u, cs, e _ _ (ne_of h1 ht (by intro z; cases z)) h1, e _ _ (ne_of h2 ht (by intro z; cases z)) h2, h3, h4⟩
theorem lst_P {P b : Addr} {H H' : Hp} {xs : List V} (hT : LmT P H) (e : ExtBut P H H') (h : H b = some (.lst xs)) : H' b = some (.lst xs) := by
  obtain ⟨ps, ht⟩ := lam_tbl hT
  exact e _ _ (ne_of h ht (by intro z; cases z)) h
theorem fz_P {P : Addr} {H H' : Hp} (hT : LmT P H) (e : ExtBut P H H') : Fz H H' := by
  obtain ⟨ps, ht⟩ := lam_tbl hT
  exact fz_tbl e ht
theorem ok_law {f : Addr} {fd : FuncData} (F : Fun K "law" "law" s_law f fd) (T : TopF mg) {P_best : Addr} (c_lets_plan : Fnd P w K mg base 130 "lets_plan" ["half", "plan"] (sp_lets_plan P_best K)) (c__law_feed : Fnd P w K mg base 1 "_law_feed" ["_law_script"] (sp__law_feed K)) (c__law_half : Fnd P w K mg base 4 "_law_half" ["_law_feed_here", "_law_most"] (sp__law_half K)) (c__law_orders : Fnd P w K mg base 1 "_law_orders" ["_law_half_here"] (sp__law_orders K)) (c__law_few : Fnd P w K mg base 5 "_law_few" ["_law_feed_here"] (sp__law_few K)) (c__law_full : Fnd P w K mg base 2 "_law_full" ["_law_feed_here", "_law_half_here"] (sp__law_full K)) (c__law_plan : Fnd P w K mg base 128 "_law_plan" ["_law_feed_here", "_law_names_here", "_law_orders_here"] (sp__law_plan K)) (c__law_depth : Fnd P w K mg base 126 "_law_depth" ["_law_plan_here"] (sp__law_depth K)) : FnOk P w K mg base CX0 131 f fd ["_law_script"] (spLaw P_best K) := by
  refine F.ok sc_law (fun vs H Q E h => ?_) (fun cdv A outer s H vs Q E hr h => ?_)
  · obtain ⟨a, ns, rfl, _⟩ := h
    rfl
  · obtain ⟨a, cs, rfl, hS, h63, hT, k⟩ := h
    have hu := hu_of hr
    have hq := qa_of hr
    with_reducible refine ⟨_, (pss_cons (ps_set (i := 1) sc_law.nd (by with_unfolding_all rfl) (by with_unfolding_all exact Or.inl rfl) (pe_fn c__law_feed (hr.mono (by decide)) (by with_unfolding_all rfl) (pa_cons (pv 0) pa_nil)))
      (pss_cons (ps_for PassesOwn.never (by with_unfolding_all rfl) (pi_anyK (K := K) hu (pe_lst (pa_cons (pe_fn c__law_few (hr.mono (by decide)) (by with_unfolding_all rfl) (pa_cons (pv 1) pa_nil)) (pa_cons (pe_fn c__law_few (hr.mono (by decide)) (by with_unfolding_all rfl) (pa_cons (pv 1) pa_nil)) (pa_cons (pe_fn c__law_half (hr.mono (by decide)) (by with_unfolding_all rfl) (pa_cons (pv 1) (pa_cons pe_int pa_nil))) pa_nil))))) (pg_name (i := 2) sc_law.nd (by with_unfolding_all rfl) (by with_unfolding_all exact Or.inl rfl))
      (pss_cons (ps_set (i := 3) sc_law.nd (by with_unfolding_all rfl) (by with_unfolding_all exact Or.inl rfl) (pe_fn c__law_full (hr.mono (by decide)) (by with_unfolding_all rfl) (pa_cons (pv 1) (pa_cons (pv 2) pa_nil))))
      (pss_cons (ps_set (i := 4) sc_law.nd (by with_unfolding_all rfl) (by with_unfolding_all exact Or.inl rfl) (pe_fn c__law_orders (hr.mono (by decide)) (by with_unfolding_all rfl) (pa_cons (pv 3) pa_nil)))
      (pss_one (ps_for PassesOwn.never (by with_unfolding_all rfl) (pi_range1 (by with_unfolding_all rfl) T.b_range (pa_cons pe_int pa_nil)) (pg_name (i := 5) sc_law.nd (by with_unfolding_all rfl) (by with_unfolding_all exact Or.inl rfl))
      (pss_cons (ps_set (i := 6) sc_law.nd (by with_unfolding_all rfl) (by with_unfolding_all exact Or.inl rfl) (pe_fn c__law_plan (hr.mono (by decide)) (by with_unfolding_all rfl) (pa_cons (pv 1) (pa_cons (pe_ix (ix_anyK (K := K) hu) (pv 3) pe_int (by with_unfolding_all exact fun _ _ => rfl)) (pa_cons (pv 4) pa_nil)))))
      (pss_cons (ps_set (i := 7) sc_law.nd (by with_unfolding_all rfl) (by with_unfolding_all exact Or.inl rfl) (pe_callB (call_reprXK (K := K) hq) (by with_unfolding_all rfl) T.b_repr PyProof.Rows.Boot.«repr» (pa_cons (pv 6) pa_nil)))
      (pss_one (ps_if (PW.pt (pw_or (pt_cmpR (op_neK (K := K) hq) (pe_callB (call_reprXK (K := K) hq) (by with_unfolding_all rfl) T.b_repr PyProof.Rows.Boot.«repr» (pa_cons (pe_fn c_lets_plan (hr.mono (by decide)) (by with_unfolding_all rfl) (pa_cons (pv 3) (pa_cons (pv 6) pa_nil))) pa_nil)) (pe_callTy call_str_int (by with_unfolding_all rfl) T.b_str PyProof.Rows.Boot.«str» (pa_cons (pe_fn c__law_depth (hr.mono (by decide)) (by with_unfolding_all rfl) (pa_cons (pv 6) pa_nil)) pa_nil)) (nomark _)) (pw_or1 (pt_cmpR (op_neK (K := K) hq) (pe_callB (call_reprXK (K := K) hq) (by with_unfolding_all rfl) T.b_repr PyProof.Rows.Boot.«repr» (pa_cons (pv 6) pa_nil)) (pv 7) (nomark _))))) (pss_one (ps_ret pe_bl)) pss_nil)))))))))
      (pss_one (ps_ret pe_bl)))), ?_⟩
    walk_at "rd"
    refine ⟨a, cs, rfl, hS, h63, fun f l H1 hf hl e1 hF => ?_⟩
    have hT1 := hT.same e1
    walk_at "rd"
    refine ⟨f, l, rfl, hF, fun v0 ns0 ps0 H2 e2 hF2 hI0 hH0 => ?_⟩
    have hT2 := lam_draw hT1 hF e2
    walk_at "rd"
    refine ⟨f, l, rfl, hF2, fun v1 ns1 ps1 H3 e3 hF3 hI1 hH1 => ?_⟩
    have hT3 := lam_draw hT2 hF2 e3
    walk_at "rd"
    refine ⟨f, l, _, rfl, hF3, by omega, by omega, fun v2 ns2 ps2 H4 e4 hF4 hI2 hH2 hl2 => ?_⟩
    have hT4 := lam_draw hT3 hF3 e4
    walk_at "rd"
    refine i_newL (line_of (by simp)) fun hl5 H5 hh5 e5 h5 => ?_
    have hF5 := hF4.same e5
    have hT5 := hT4.same e5
    have fz34 := hF3.fz e4
    have fz23 := hF2.fz e3
    have hI0' := hI0.hf_fz ((fz23.trans fz34).trans e5.fz)
    have hI1' := hI1.hf_fz (fz34.trans e5.fz)
    have hI2' := hI2.hf_fz e5.fz
    have key : ∀ (i : Nat) v, [v0, v1, v2][i]? = some v → ∃ e : List Str × List (Str × Str), Is K H5 (hfD e.1 e.2) v ∧ HalfQ e.1 e.2 := fun i v hv => by
      match i, hv with
      | 0, hv => cases hv; exact ⟨(ns0, ps0), hI0', hH0⟩
      | 1, hv => cases hv; exact ⟨(ns1, ps1), hI1', hH1⟩
      | 2, hv => cases hv; exact ⟨(ns2, ps2), hI2', half_q hH2 (by show ns2.length ≤ 5; omega)⟩
      | n + 3, hv => cases hv
    clear hI0 hI1 hI2 hI0' hI1' hI2' hH0 hH1 hH2 hl2 e2 e3 e4 hF2 hF3 hF4 hT1 hT2 hT3 hT4
    walk_at "rd"
    refine i_itL (SqL.of h5) ?_
    refine for_by (walk_list (xs := [v0, v1, v2])) (fun i σ H' => ∃ x2 x3 x4 x5 x6 x7, σ = [some (.ref a), some (.ref f), x2, x3, x4, x5, x6, x7] ∧ Feed H' f l ∧ Fz H5 H' ∧ H' hl5 = some (.lst [v0, v1, v2]) ∧ LmT P_best H')
      ⟨_, _, _, _, _, _, rfl, hF5, .refl _, h5, hT5⟩ (fun i σ' H' hP => ?_) (fun i v σ' H6 hv hi hP => ?_) (fun σ' H6 hP => ?_)
    · obtain ⟨_, _, _, _, _, _, _, _, _, h, _⟩ := hP
      exact SqL.of h
    · obtain ⟨x2, x3, x4, x5, x6, x7, rfl, hF6, fz6, h6, hT6⟩ := hP
      obtain ⟨⟨ns, ps⟩, hI, hQ⟩ := key i v hv
      replace hQ : HalfQ ns ps := hQ
      replace hI : Is K H5 (hfD ns ps) v := hI
      have hI6 := hI.hf_fz fz6
      have hNm : NmP ps := fun p hp => ⟨hQ.nm _ (hQ.w.mem p hp).1, hQ.nm _ (hQ.w.mem p hp).2⟩
      walk_at "rd"
      refine ⟨f, l, v, ns, ps, rfl, hF6, hI6, hNm, hQ.le, fun hv7 qs H7 e7 hF7 hI7 hql hqm => ?_⟩
      have hQ7 := hQ.full hql hqm
      have hT7 := lam_draw hT6 hF6 e7
      have fz7 := hF6.fz e7
      have h7 := e7 _ _ (hF6.lst h6) h6
      have hcn := hQ7.cn
      have hcp := cnt_pos (b := wayB qs) (fun x => way_irr hQ7.w x) (fun x y z a b => wayB_iff.mpr ((wayB_iff.mp a).trans (wayB_iff.mp b))) ns.length ns rfl hQ7.w.nd
      walk_at "rd"
      refine ⟨hv7, ns, qs, rfl, .of hI7, hQ7.w, hQ7.few, by omega, fun ol ys H8 hol e8 h8 hL8 => ?_⟩
      have hF8 := hF7.same e8
      have hT8 := hT7.same e8
      have h8h := e8 _ _ h7
      have hI8 := hI7.hf_fz e8.fz
      have hcl : cnt (wayB qs) ns = (ext (wayB qs) ns.length ns).length := rfl
      walk_at "rd"
      refine i_rngv (by omega) ?_
      refine for_by walk_range (fun j σ H' => ∃ x5 x6 x7, σ = [some (.ref a), some (.ref f), some v, some hv7, some (.ref ol), x5, x6, x7] ∧ Feed H' f l ∧ Fz H8 H' ∧ H' hl5 = some (.lst [v0, v1, v2]) ∧ H' ol = some (.lst ys) ∧ LmT P_best H')
        ⟨_, _, _, rfl, hF8, .refl _, h8h, h8, hT8⟩ (fun _ _ _ _ => trivial) (fun j x σ' H9 hx hj hP => ?_) (fun σ' H9 hP => ?_)
      · obtain ⟨x5, x6, x7, rfl, hF9, fz9, h9h, h9, hT9⟩ := hP
        have hI9 := hI8.hf_fz fz9
        walk_at "rd"
        refine i_ixH0 hI9 fun nv hN => ?_
        walk_at "rd"
        refine ⟨f, l, nv, ol, ns, qs, ext (wayB qs) ns.length ns, ys, rfl, hF9, hN, h9, IsL.fz fz9 _ _ (frzL_nms _) hL8, hQ7.w, hQ7.few, .refl _, by omega, by omega, by omega, by omega, fun pv D m H10 e10 hF10 hP hm hIp => ?_⟩
        have hT10 := lam_draw hT9 hF9 e10
        have fz10 := hF9.fz e10
        have hI10 := hI9.hf_fz fz10
        have h10h := e10 _ _ (hF9.lst h9h) h9h
        have h10o := e10 _ _ (hF9.lst h9) h9
        have hm45 := hP.le45 hQ7.few
        have hdk := plan_dk hQ7.nm hQ7.few hP hQ7.w (by omega)
        obtain ⟨t1, t2, t3⟩ := hdk.told (by omega) (by omega)
        walk_at "rd"
        refine i_reprX hIp t1 t2 t3 ?_
        walk_at "rd"
        refine ⟨hv7, pv, ns, qs, D, m, rfl, hI10, hQ7.w, hQ7.nm, hQ7.few, hP, hIp, by omega, by omega, hT10, fun H11 e11 hT11 => ?_⟩
        have fz11 := fz_P hT10 e11
        have hIp11 := Is.fz fz11 _ _ (frz_plan hP) hIp
        obtain ⟨i1, i2, i3⟩ := (dk_int (p := 1) (W := 1) (m := (m : Int)) (by omega)).told (by omega) (by omega)
        walk_at "rd"
        refine i_reprX (d := .int (m : Int)) is_int i1 i2 i3 ?_
        walk_at "rd"
        refine ⟨pv, ns, qs, D, m, rfl, hP, hIp11, by omega, Nat.le_refl _, ?_⟩
        walk_at "rd"
        refine ⟨_, rfl, ?_, ?_⟩
        · rw [Int.natAbs_natCast]
          rcases Nat.eq_zero_or_pos m with z | z
          · rw [z]; decide
          · exact (Nat.log2_lt (by omega)).mpr (Nat.lt_of_lt_of_le (show m < 2 ^ 30 by omega) (Nat.pow_le_pow_right (Nat.le_succ 1) (Nat.le_of_ble_eq_true rfl)))
        · walk_at "rd"
          have hsh : (PyData.int (m : Int)).shown = Str.ofString (toString (m : Int)) := by first | rfl | simp only [PyData.shown]
          rw [if_neg (by rw [hsh]; simp)]
          walk_at "rd"
          refine i_reprX hIp11 t1 t2 t3 ?_
          walk_at "rd"
          exact ⟨_, _, _, rfl, feed_P hT10 hF10 e11, ((fz9.trans fz10).trans fz11), lst_P hT10 e11 h10h, lst_P hT10 e11 h10o, hT11⟩
      · obtain ⟨x5, x6, x7, rfl, hF9, fz9, h9h, h9, hT9⟩ := hP
        walk_at "rd"
        exact ⟨_, _, _, _, _, _, rfl, hF9, ((fz6.trans fz7).trans e8.fz).trans fz9, h9h, hT9⟩
    · obtain ⟨x2, x3, x4, x5, x6, x7, rfl, _⟩ := hP
      walk_at "rd"
      exact k H6
end
theorem all_mk {l : PySem.W.OpenLaw} {w : World} {K : PySem.W.Frag} {h : Heap} {mg : Str → Option Value} {fa f0 f1 f2 f3 f4 f5 f6 f7 f8 f9 f10 f11 f12 f13 f14 f15 f16 f17 f18 f19 f20 f21 f22 f23 f24 f25 f26 P_best c_bst : Addr} (X : K.In h) (G : h.Ns mainGlobals mg) (hfa : mg "law" = some (.ref fa))
    {D0 N0 D1 N1 D2 N2 D3 N3 D4 N4 D5 N5 D6 N6 D7 N7 D8 N8 D9 N9 D10 N10 D11 N11 D12 N12 D13 N13 D14 N14 D15 N15 D16 N16 D17 N17 D18 N18 D19 N19 D20 N20 D21 N21 D22 N22 D23 N23 D24 N24 D25 N25 D26 N26 : Option Addr} {S0 S1 S2 S3 S4 S5 S6 S7 S8 S9 S10 S11 S12 S13 S14 S15 S16 S17 S18 S19 S20 S21 S22 S23 S24 S25 S26 : Array (Option Value)} {O0 V0 E0 P0 Q0 U0 O1 V1 E1 P1 Q1 U1 O2 V2 E2 P2 Q2 U2 O3 V3 E3 P3 Q3 U3 O4 V4 E4 P4 Q4 U4 O5 V5 E5 P5 Q5 U5 O6 V6 E6 P6 Q6 U6 O7 V7 E7 P7 Q7 U7 O8 V8 E8 P8 Q8 U8 O9 V9 E9 P9 Q9 U9 O10 V10 E10 P10 Q10 U10 O11 V11 E11 P11 Q11 U11 O12 V12 E12 P12 Q12 U12 O13 V13 E13 P13 Q13 U13 O14 V14 E14 P14 Q14 U14 O15 V15 E15 P15 Q15 U15 O16 V16 E16 P16 Q16 U16 O17 V17 E17 P17 Q17 U17 O18 V18 E18 P18 Q18 U18 O19 V19 E19 P19 Q19 U19 O20 V20 E20 P20 Q20 U20 O21 V21 E21 P21 Q21 U21 O22 V22 E22 P22 Q22 U22 O23 V23 E23 P23 Q23 U23 O24 V24 E24 P24 Q24 U24 O25 V25 E25 P25 Q25 U25 O26 V26 E26 P26 Q26 U26 : Value}
    (a0 : PySem.W.nsIn K mainGlobals "behind_each" = some (some (.ref f0))) (l0 : K.lookup f0 = some ⟨O0, D0, .func (PySem.W.fnOf "behind_each" "behind_each" (defArgs s_behind_each) (defBody s_behind_each) (defScope s_behind_each) .none V0 E0 P0 N0 Q0 U0), S0⟩) (c0 : PySem.W.codeIn K Q0 "behind_each" = true) (k0 : PySem.W.keepIn K (.ref f0) = true)
    (a1 : PySem.W.nsIn K mainGlobals "are_untold" = some (some (.ref f1))) (l1 : K.lookup f1 = some ⟨O1, D1, .func (PySem.W.fnOf "are_untold" "are_untold" (defArgs s_are_untold) (defBody s_are_untold) (defScope s_are_untold) .none V1 E1 P1 N1 Q1 U1), S1⟩) (c1 : PySem.W.codeIn K Q1 "are_untold" = true) (k1 : PySem.W.keepIn K (.ref f1) = true)
    (a2 : PySem.W.nsIn K mainGlobals "is_tuple_of" = some (some (.ref f2))) (l2 : K.lookup f2 = some ⟨O2, D2, .func (PySem.W.fnOf "is_tuple_of" "is_tuple_of" (defArgs s_is_tuple_of) (defBody s_is_tuple_of) (defScope s_is_tuple_of) .none V2 E2 P2 N2 Q2 U2), S2⟩) (c2 : PySem.W.codeIn K Q2 "is_tuple_of" = true) (k2 : PySem.W.keepIn K (.ref f2) = true)
    (a3 : PySem.W.nsIn K mainGlobals "are_two_untold" = some (some (.ref f3))) (l3 : K.lookup f3 = some ⟨O3, D3, .func (PySem.W.fnOf "are_two_untold" "are_two_untold" (defArgs s_are_two_untold) (defBody s_are_two_untold) (defScope s_are_two_untold) .none V3 E3 P3 N3 Q3 U3), S3⟩) (c3 : PySem.W.codeIn K Q3 "are_two_untold" = true) (k3 : PySem.W.keepIn K (.ref f3) = true)
    (a4 : PySem.W.nsIn K mainGlobals "is_row_of" = some (some (.ref f4))) (l4 : K.lookup f4 = some ⟨O4, D4, .func (PySem.W.fnOf "is_row_of" "is_row_of" (defArgs s_is_row_of) (defBody s_is_row_of) (defScope s_is_row_of) .none V4 E4 P4 N4 Q4 U4), S4⟩) (c4 : PySem.W.codeIn K Q4 "is_row_of" = true) (k4 : PySem.W.keepIn K (.ref f4) = true)
    (a5 : PySem.W.nsIn K mainGlobals "order_of_row" = some (some (.ref f5))) (l5 : K.lookup f5 = some ⟨O5, D5, .func (PySem.W.fnOf "order_of_row" "order_of_row" (defArgs s_order_of_row) (defBody s_order_of_row) (defScope s_order_of_row) .none V5 E5 P5 N5 Q5 U5), S5⟩) (c5 : PySem.W.codeIn K Q5 "order_of_row" = true) (k5 : PySem.W.keepIn K (.ref f5) = true)
    (a6 : PySem.W.nsIn K mainGlobals "reach_said" = some (some (.ref f6))) (l6 : K.lookup f6 = some ⟨O6, D6, .func (PySem.W.fnOf "reach_said" "reach_said" (defArgs s_reach_said) (defBody s_reach_said) (defScope s_reach_said) .none V6 E6 P6 N6 Q6 U6), S6⟩) (c6 : PySem.W.codeIn K Q6 "reach_said" = true) (k6 : PySem.W.keepIn K (.ref f6) = true)
    (a7 : PySem.W.nsIn K mainGlobals "is_asking" = some (some (.ref f7))) (l7 : K.lookup f7 = some ⟨O7, D7, .func (PySem.W.fnOf "is_asking" "is_asking" (defArgs s_is_asking) (defBody s_is_asking) (defScope s_is_asking) .none V7 E7 P7 N7 Q7 U7), S7⟩) (c7 : PySem.W.codeIn K Q7 "is_asking" = true) (k7 : PySem.W.keepIn K (.ref f7) = true)
    (a8 : PySem.W.nsIn K mainGlobals "is_end" = some (some (.ref f8))) (l8 : K.lookup f8 = some ⟨O8, D8, .func (PySem.W.fnOf "is_end" "is_end" (defArgs s_is_end) (defBody s_is_end) (defScope s_is_end) .none V8 E8 P8 N8 Q8 U8), S8⟩) (c8 : PySem.W.codeIn K Q8 "is_end" = true) (k8 : PySem.W.keepIn K (.ref f8) = true)
    (a9 : PySem.W.nsIn K mainGlobals "word_due" = some (some (.ref f9))) (l9 : K.lookup f9 = some ⟨O9, D9, .func (PySem.W.fnOf "word_due" "word_due" (defArgs s_word_due) (defBody s_word_due) (defScope s_word_due) .none V9 E9 P9 N9 Q9 U9), S9⟩) (c9 : PySem.W.codeIn K Q9 "word_due" = true) (k9 : PySem.W.keepIn K (.ref f9) = true)
    (a10 : PySem.W.nsIn K mainGlobals "depth_on" = some (some (.ref f10))) (l10 : K.lookup f10 = some ⟨O10, D10, .func (PySem.W.fnOf "depth_on" "depth_on" (defArgs s_depth_on) (defBody s_depth_on) (defScope s_depth_on) .none V10 E10 P10 N10 Q10 U10), S10⟩) (c10 : PySem.W.codeIn K Q10 "depth_on" = true) (k10 : PySem.W.keepIn K (.ref f10) = true)
    (a11 : PySem.W.nsIn K mainGlobals "lets_plan" = some (some (.ref f11))) (l11 : K.lookup f11 = some ⟨O11, D11, .func (PySem.W.fnOf "lets_plan" "lets_plan" (defArgs s_lets_plan) (defBody s_lets_plan) (defScope s_lets_plan) .none V11 E11 P11 N11 Q11 U11), S11⟩) (c11 : PySem.W.codeIn K Q11 "lets_plan" = true) (k11 : PySem.W.keepIn K (.ref f11) = true)
    (a12 : PySem.W.nsIn K mainGlobals "_law_feed" = some (some (.ref f12))) (l12 : K.lookup f12 = some ⟨O12, D12, .func (PySem.W.fnOf "_law_feed" "_law_feed" (defArgs s__law_feed) (defBody s__law_feed) (defScope s__law_feed) .none V12 E12 P12 N12 Q12 U12), S12⟩) (c12 : PySem.W.codeIn K Q12 "_law_feed" = true) (k12 : PySem.W.keepIn K (.ref f12) = true)
    (a13 : PySem.W.nsIn K mainGlobals "_law_draw" = some (some (.ref f13))) (l13 : K.lookup f13 = some ⟨O13, D13, .func (PySem.W.fnOf "_law_draw" "_law_draw" (defArgs s__law_draw) (defBody s__law_draw) (defScope s__law_draw) .none V13 E13 P13 N13 Q13 U13), S13⟩) (c13 : PySem.W.codeIn K Q13 "_law_draw" = true) (k13 : PySem.W.keepIn K (.ref f13) = true)
    (a14 : PySem.W.nsIn K mainGlobals "_law_names" = some (some (.ref f14))) (l14 : K.lookup f14 = some ⟨O14, D14, .func (PySem.W.fnOf "_law_names" "_law_names" (defArgs s__law_names) (defBody s__law_names) (defScope s__law_names) .none V14 E14 P14 N14 Q14 U14), S14⟩) (c14 : PySem.W.codeIn K Q14 "_law_names" = true) (k14 : PySem.W.keepIn K (.ref f14) = true)
    (a15 : PySem.W.nsIn K mainGlobals "_law_shuffled" = some (some (.ref f15))) (l15 : K.lookup f15 = some ⟨O15, D15, .func (PySem.W.fnOf "_law_shuffled" "_law_shuffled" (defArgs s__law_shuffled) (defBody s__law_shuffled) (defScope s__law_shuffled) .none V15 E15 P15 N15 Q15 U15), S15⟩) (c15 : PySem.W.codeIn K Q15 "_law_shuffled" = true) (k15 : PySem.W.keepIn K (.ref f15) = true)
    (a16 : PySem.W.nsIn K mainGlobals "_law_pairs" = some (some (.ref f16))) (l16 : K.lookup f16 = some ⟨O16, D16, .func (PySem.W.fnOf "_law_pairs" "_law_pairs" (defArgs s__law_pairs) (defBody s__law_pairs) (defScope s__law_pairs) .none V16 E16 P16 N16 Q16 U16), S16⟩) (c16 : PySem.W.codeIn K Q16 "_law_pairs" = true) (k16 : PySem.W.keepIn K (.ref f16) = true)
    (a17 : PySem.W.nsIn K mainGlobals "_law_sayings" = some (some (.ref f17))) (l17 : K.lookup f17 = some ⟨O17, D17, .func (PySem.W.fnOf "_law_sayings" "_law_sayings" (defArgs s__law_sayings) (defBody s__law_sayings) (defScope s__law_sayings) .none V17 E17 P17 N17 Q17 U17), S17⟩) (c17 : PySem.W.codeIn K Q17 "_law_sayings" = true) (k17 : PySem.W.keepIn K (.ref f17) = true)
    (a18 : PySem.W.nsIn K mainGlobals "_law_half" = some (some (.ref f18))) (l18 : K.lookup f18 = some ⟨O18, D18, .func (PySem.W.fnOf "_law_half" "_law_half" (defArgs s__law_half) (defBody s__law_half) (defScope s__law_half) .none V18 E18 P18 N18 Q18 U18), S18⟩) (c18 : PySem.W.codeIn K Q18 "_law_half" = true) (k18 : PySem.W.keepIn K (.ref f18) = true)
    (a19 : PySem.W.nsIn K mainGlobals "_law_orders" = some (some (.ref f19))) (l19 : K.lookup f19 = some ⟨O19, D19, .func (PySem.W.fnOf "_law_orders" "_law_orders" (defArgs s__law_orders) (defBody s__law_orders) (defScope s__law_orders) .none V19 E19 P19 N19 Q19 U19), S19⟩) (c19 : PySem.W.codeIn K Q19 "_law_orders" = true) (k19 : PySem.W.keepIn K (.ref f19) = true)
    (a20 : PySem.W.nsIn K mainGlobals "_law_parts" = some (some (.ref f20))) (l20 : K.lookup f20 = some ⟨O20, D20, .func (PySem.W.fnOf "_law_parts" "_law_parts" (defArgs s__law_parts) (defBody s__law_parts) (defScope s__law_parts) .none V20 E20 P20 N20 Q20 U20), S20⟩) (c20 : PySem.W.codeIn K Q20 "_law_parts" = true) (k20 : PySem.W.keepIn K (.ref f20) = true)
    (a21 : PySem.W.nsIn K mainGlobals "_law_questions" = some (some (.ref f21))) (l21 : K.lookup f21 = some ⟨O21, D21, .func (PySem.W.fnOf "_law_questions" "_law_questions" (defArgs s__law_questions) (defBody s__law_questions) (defScope s__law_questions) .none V21 E21 P21 N21 Q21 U21), S21⟩) (c21 : PySem.W.codeIn K Q21 "_law_questions" = true) (k21 : PySem.W.keepIn K (.ref f21) = true)
    (a22 : PySem.W.nsIn K mainGlobals "_law_few" = some (some (.ref f22))) (l22 : K.lookup f22 = some ⟨O22, D22, .func (PySem.W.fnOf "_law_few" "_law_few" (defArgs s__law_few) (defBody s__law_few) (defScope s__law_few) .none V22 E22 P22 N22 Q22 U22), S22⟩) (c22 : PySem.W.codeIn K Q22 "_law_few" = true) (k22 : PySem.W.keepIn K (.ref f22) = true)
    (a23 : PySem.W.nsIn K mainGlobals "_law_full" = some (some (.ref f23))) (l23 : K.lookup f23 = some ⟨O23, D23, .func (PySem.W.fnOf "_law_full" "_law_full" (defArgs s__law_full) (defBody s__law_full) (defScope s__law_full) .none V23 E23 P23 N23 Q23 U23), S23⟩) (c23 : PySem.W.codeIn K Q23 "_law_full" = true) (k23 : PySem.W.keepIn K (.ref f23) = true)
    (a24 : PySem.W.nsIn K mainGlobals "_law_plan" = some (some (.ref f24))) (l24 : K.lookup f24 = some ⟨O24, D24, .func (PySem.W.fnOf "_law_plan" "_law_plan" (defArgs s__law_plan) (defBody s__law_plan) (defScope s__law_plan) .none V24 E24 P24 N24 Q24 U24), S24⟩) (c24 : PySem.W.codeIn K Q24 "_law_plan" = true) (k24 : PySem.W.keepIn K (.ref f24) = true)
    (a25 : PySem.W.nsIn K mainGlobals "_law_depth" = some (some (.ref f25))) (l25 : K.lookup f25 = some ⟨O25, D25, .func (PySem.W.fnOf "_law_depth" "_law_depth" (defArgs s__law_depth) (defBody s__law_depth) (defScope s__law_depth) .none V25 E25 P25 N25 Q25 U25), S25⟩) (c25 : PySem.W.codeIn K Q25 "_law_depth" = true) (k25 : PySem.W.keepIn K (.ref f25) = true)
    (a26 : PySem.W.nsIn K mainGlobals "law" = some (some (.ref f26))) (l26 : K.lookup f26 = some ⟨O26, D26, .func (PySem.W.fnOf "law" "law" (defArgs s_law) (defBody s_law) (defScope s_law) .none V26 E26 P26 N26 Q26 U26), S26⟩) (c26 : PySem.W.codeIn K Q26 "law" = true) (k26 : PySem.W.keepIn K (.ref f26) = true)
    (lc : Q5 = .ref c_bst) (lh : PySem.W.codeHdIn K c_bst P_best = true) (lg : mainGlobals ≠ P_best)
    (z0 : PySem.W.nsIn K mainGlobals "dict" = some none)
    (z1 : PySem.W.nsIn K mainGlobals "int" = some none)
    (z2 : PySem.W.nsIn K mainGlobals "isinstance" = some none)
    (z3 : PySem.W.nsIn K mainGlobals "len" = some none)
    (z4 : PySem.W.nsIn K mainGlobals "list" = some none)
    (z5 : PySem.W.nsIn K mainGlobals "max" = some none)
    (z6 : PySem.W.nsIn K mainGlobals "min" = some none)
    (z7 : PySem.W.nsIn K mainGlobals "range" = some none)
    (z8 : PySem.W.nsIn K mainGlobals "repr" = some none)
    (z9 : PySem.W.nsIn K mainGlobals "sorted" = some none)
    (z10 : PySem.W.nsIn K mainGlobals "str" = some none)
    (z11 : PySem.W.nsIn K mainGlobals "sum" = some none)
    (z12 : PySem.W.nsIn K mainGlobals "tuple" = some none)
    : ∃ fd : FuncData, (∃ c, PySem.W.codeHdIn K c P_best = true) ∧ (∀ (s : Shared) (v : Value), BindsTo s fd ⟨[v], []⟩ [("_law_script", v)]) ∧ ∀ base : Heap, K.In base → base.Ns mainGlobals mg → base.BuiltinsAt mg P_best → FnOk l.prog w K mg base CX0 131 fa fd ["_law_script"] (spLaw P_best K) := by
  have e := hfa.symm.trans (PySem.W.mg_of X G a26)
  cases e
  have T : TopF mg := ⟨PySem.W.mg_none_of X G z0, PySem.W.mg_none_of X G z1, PySem.W.mg_none_of X G z2, PySem.W.mg_none_of X G z3, PySem.W.mg_none_of X G z4, PySem.W.mg_none_of X G z5, PySem.W.mg_none_of X G z6, PySem.W.mg_none_of X G z7, PySem.W.mg_none_of X G z8, PySem.W.mg_none_of X G z9, PySem.W.mg_none_of X G z10, PySem.W.mg_none_of X G z11, PySem.W.mg_none_of X G z12⟩
  have F0 := fun_mk (st := s_behind_each) l0 c0 k0
  have b0 : Binds K _ ["half"] [] := binds1 F0 fun _ _ _ _ _ _ _ => rfl
  have F1 := fun_mk (st := s_are_untold) l1 c1 k1
  have b1 : Binds K _ ["reach", "one", "other"] [] := binds3 F1 fun _ _ _ _ _ _ _ _ _ => rfl
  have F2 := fun_mk (st := s_is_tuple_of) l2 c2 k2
  have b2 : Binds K _ ["thing", "size"] [] := binds2 F2 fun _ _ _ _ _ _ _ _ => rfl
  have F3 := fun_mk (st := s_are_two_untold) l3 c3 k3
  have b3 : Binds K _ ["reach", "one", "other"] [] := binds3 F3 fun _ _ _ _ _ _ _ _ _ => rfl
  have F4 := fun_mk (st := s_is_row_of) l4 c4 k4
  have b4 : Binds K _ ["reach"] [] := binds1 F4 fun _ _ _ _ _ _ _ => rfl
  have F5 := fun_mk (st := s_order_of_row) l5 c5 k5
  have b5 : Binds K _ ["reach"] [] := binds1 F5 fun _ _ _ _ _ _ _ => rfl
  have F6 := fun_mk (st := s_reach_said) l6 c6 k6
  have b6 : Binds K _ ["reach", "one", "other"] [] := binds3 F6 fun _ _ _ _ _ _ _ _ _ => rfl
  have F7 := fun_mk (st := s_is_asking) l7 c7 k7
  have b7 : Binds K _ ["thing"] [] := binds1 F7 fun _ _ _ _ _ _ _ => rfl
  have F8 := fun_mk (st := s_is_end) l8 c8 k8
  have b8 : Binds K _ ["thing"] [] := binds1 F8 fun _ _ _ _ _ _ _ => rfl
  have F9 := fun_mk (st := s_word_due) l9 c9 k9
  have b9 : Binds K _ ["reach", "plan"] [] := binds2 F9 fun _ _ _ _ _ _ _ _ => rfl
  have F10 := fun_mk (st := s_depth_on) l10 c10 k10
  have b10 : Binds K _ ["reach", "plan", "path"] [] := binds3 F10 fun _ _ _ _ _ _ _ _ _ => rfl
  have F11 := fun_mk (st := s_lets_plan) l11 c11 k11
  have b11 : Binds K _ ["half", "plan"] [] := binds2 F11 fun _ _ _ _ _ _ _ _ => rfl
  have F12 := fun_mk (st := s__law_feed) l12 c12 k12
  have b12 : Binds K _ ["_law_script"] [] := binds1 F12 fun _ _ _ _ _ _ _ => rfl
  have F13 := fun_mk (st := s__law_draw) l13 c13 k13
  have b13 : Binds K _ ["_law_feed_here", "_law_many"] [] := binds2 F13 fun _ _ _ _ _ _ _ _ => rfl
  have F14 := fun_mk (st := s__law_names) l14 c14 k14
  have b14 : Binds K _ ["_law_feed_here", "_law_many"] [] := binds2 F14 fun _ _ _ _ _ _ _ _ => rfl
  have F15 := fun_mk (st := s__law_shuffled) l15 c15 k15
  have b15 : Binds K _ ["_law_feed_here", "_law_some"] [] := binds2 F15 fun _ _ _ _ _ _ _ _ => rfl
  have F16 := fun_mk (st := s__law_pairs) l16 c16 k16
  have b16 : Binds K _ ["_law_feed_here", "_law_line"] [] := binds2 F16 fun _ _ _ _ _ _ _ _ => rfl
  have F17 := fun_mk (st := s__law_sayings) l17 c17 k17
  have b17 : Binds K _ ["_law_feed_here", "_law_line"] [] := binds2 F17 fun _ _ _ _ _ _ _ _ => rfl
  have F18 := fun_mk (st := s__law_half) l18 c18 k18
  have b18 : Binds K _ ["_law_feed_here", "_law_most"] [] := binds2 F18 fun _ _ _ _ _ _ _ _ => rfl
  have F19 := fun_mk (st := s__law_orders) l19 c19 k19
  have b19 : Binds K _ ["_law_half_here"] [] := binds1 F19 fun _ _ _ _ _ _ _ => rfl
  have F20 := fun_mk (st := s__law_parts) l20 c20 k20
  have b20 : Binds K _ ["_law_orders_here", "_law_one", "_law_other"] [] := binds3 F20 fun _ _ _ _ _ _ _ _ _ => rfl
  have F21 := fun_mk (st := s__law_questions) l21 c21 k21
  have b21 : Binds K _ ["_law_names_here", "_law_orders_here"] [] := binds2 F21 fun _ _ _ _ _ _ _ _ => rfl
  have F22 := fun_mk (st := s__law_few) l22 c22 k22
  have b22 : Binds K _ ["_law_feed_here"] [] := binds1 F22 fun _ _ _ _ _ _ _ => rfl
  have F23 := fun_mk (st := s__law_full) l23 c23 k23
  have b23 : Binds K _ ["_law_feed_here", "_law_half_here"] [] := binds2 F23 fun _ _ _ _ _ _ _ _ => rfl
  have F24 := fun_mk (st := s__law_plan) l24 c24 k24
  have b24 : Binds K _ ["_law_feed_here", "_law_names_here", "_law_orders_here"] [] := binds3 F24 fun _ _ _ _ _ _ _ _ _ => rfl
  have F25 := fun_mk (st := s__law_depth) l25 c25 k25
  have b25 : Binds K _ ["_law_plan_here"] [] := binds1 F25 fun _ _ _ _ _ _ _ => rfl
  have F26 := fun_mk (st := s_law) l26 c26 k26
  refine ⟨PySem.W.fnOf "law" "law" (defArgs s_law) (defBody s_law) (defScope s_law) .none V26 E26 P26 N26 Q26 U26, ⟨c_bst, lh⟩, fun s v => .of_eq rfl, fun base KB _ hBi => ?_⟩
  have lb : LamB K mg base c_bst P_best := ⟨PySem.W.codeHd_of_K KB lh, hBi, lg⟩
  have c_behind_each : Fnd l.prog w K mg base 1 "behind_each" ["half"] (sp_behind_each K) := ⟨_, _, ok_behind_each F0 T, PySem.W.mg_of X G a0, k0, b0⟩
  have c_are_untold : Fnd l.prog w K mg base 1 "are_untold" ["reach", "one", "other"] (sp_are_untold K) := ⟨_, _, ok_are_untold F1 T, PySem.W.mg_of X G a1, k1, b1⟩
  have c_is_tuple_of : Fnd l.prog w K mg base 1 "is_tuple_of" ["thing", "size"] (sp_is_tuple_of K) := ⟨_, _, ok_is_tuple_of F2 T, PySem.W.mg_of X G a2, k2, b2⟩
  have c_is_row_of : Fnd l.prog w K mg base 1 "is_row_of" ["reach"] (sp_is_row_of K) := ⟨_, _, ok_is_row_of F4 T, PySem.W.mg_of X G a4, k4, b4⟩
  have c_order_of_row : Fnd l.prog w K mg base 1 "order_of_row" ["reach"] (sp_order_of_row P_best K) := ⟨_, _, ok_order_of_row F5 T lb lc, PySem.W.mg_of X G a5, k5, b5⟩
  have c_reach_said : Fnd l.prog w K mg base 1 "reach_said" ["reach", "one", "other"] (sp_reach_said K) := ⟨_, _, ok_reach_said F6 T, PySem.W.mg_of X G a6, k6, b6⟩
  have c__law_feed : Fnd l.prog w K mg base 1 "_law_feed" ["_law_script"] (sp__law_feed K) := ⟨_, _, ok__law_feed F12 T, PySem.W.mg_of X G a12, k12, b12⟩
  have c__law_draw : Fnd l.prog w K mg base 1 "_law_draw" ["_law_feed_here", "_law_many"] (sp__law_draw K) := ⟨_, _, ok__law_draw F13 T, PySem.W.mg_of X G a13, k13, b13⟩
  have c__law_orders : Fnd l.prog w K mg base 1 "_law_orders" ["_law_half_here"] (sp__law_orders K) := ⟨_, _, ok__law_orders F19 T, PySem.W.mg_of X G a19, k19, b19⟩
  have c__law_parts : Fnd l.prog w K mg base 1 "_law_parts" ["_law_orders_here", "_law_one", "_law_other"] (sp__law_parts K) := ⟨_, _, ok__law_parts F20 T, PySem.W.mg_of X G a20, k20, b20⟩
  have c_are_two_untold : Fnd l.prog w K mg base 2 "are_two_untold" ["reach", "one", "other"] (sp_are_two_untold K) := ⟨_, _, ok_are_two_untold F3 T c_are_untold, PySem.W.mg_of X G a3, k3, b3⟩
  have c_is_asking : Fnd l.prog w K mg base 2 "is_asking" ["thing"] (sp_is_asking K) := ⟨_, _, ok_is_asking F7 T c_is_tuple_of, PySem.W.mg_of X G a7, k7, b7⟩
  have c_is_end : Fnd l.prog w K mg base 2 "is_end" ["thing"] (sp_is_end K) := ⟨_, _, ok_is_end F8 T c_is_tuple_of, PySem.W.mg_of X G a8, k8, b8⟩
  have c__law_names : Fnd l.prog w K mg base 2 "_law_names" ["_law_feed_here", "_law_many"] (sp__law_names K) := ⟨_, _, ok__law_names F14 T c__law_draw, PySem.W.mg_of X G a14, k14, b14⟩
  have c__law_shuffled : Fnd l.prog w K mg base 2 "_law_shuffled" ["_law_feed_here", "_law_some"] (sp__law_shuffled K) := ⟨_, _, ok__law_shuffled F15 T c__law_draw, PySem.W.mg_of X G a15, k15, b15⟩
  have c__law_pairs : Fnd l.prog w K mg base 2 "_law_pairs" ["_law_feed_here", "_law_line"] (sp__law_pairs K) := ⟨_, _, ok__law_pairs F16 T c__law_draw, PySem.W.mg_of X G a16, k16, b16⟩
  have c__law_questions : Fnd l.prog w K mg base 2 "_law_questions" ["_law_names_here", "_law_orders_here"] (sp__law_questions K) := ⟨_, _, ok__law_questions F21 T c__law_parts, PySem.W.mg_of X G a21, k21, b21⟩
  have c__law_full : Fnd l.prog w K mg base 2 "_law_full" ["_law_feed_here", "_law_half_here"] (sp__law_full K) := ⟨_, _, ok__law_full F23 T c__law_draw, PySem.W.mg_of X G a23, k23, b23⟩
  have c_word_due : Fnd l.prog w K mg base 3 "word_due" ["reach", "plan"] (sp_word_due P_best K) := ⟨_, _, ok_word_due F9 T c_are_two_untold c_is_row_of c_order_of_row c_is_asking c_is_end, PySem.W.mg_of X G a9, k9, b9⟩
  have c__law_sayings : Fnd l.prog w K mg base 3 "_law_sayings" ["_law_feed_here", "_law_line"] (sp__law_sayings K) := ⟨_, _, ok__law_sayings F17 T c__law_draw c__law_pairs, PySem.W.mg_of X G a17, k17, b17⟩
  have c__law_half : Fnd l.prog w K mg base 4 "_law_half" ["_law_feed_here", "_law_most"] (sp__law_half K) := ⟨_, _, ok__law_half F18 T c__law_draw c__law_names c__law_shuffled c__law_sayings, PySem.W.mg_of X G a18, k18, b18⟩
  have c__law_few : Fnd l.prog w K mg base 5 "_law_few" ["_law_feed_here"] (sp__law_few K) := ⟨_, _, ok__law_few F22 T c__law_draw c__law_names c__law_shuffled c__law_half, PySem.W.mg_of X G a22, k22, b22⟩
  have c__law_depth : Fnd l.prog w K mg base 126 "_law_depth" ["_law_plan_here"] (sp__law_depth K) := ⟨_, _, ok__law_depth F25 T (PySem.W.mg_of X G a25) k25 b25, PySem.W.mg_of X G a25, k25, b25⟩
  have c__law_plan : Fnd l.prog w K mg base 128 "_law_plan" ["_law_feed_here", "_law_names_here", "_law_orders_here"] (sp__law_plan K) := ⟨_, _, ok__law_plan F24 T c__law_draw c__law_parts c__law_questions (PySem.W.mg_of X G a24) k24 b24, PySem.W.mg_of X G a24, k24, b24⟩
  have c_depth_on : Fnd l.prog w K mg base 129 "depth_on" ["reach", "plan", "path"] (sp_depth_on P_best K) := ⟨_, _, ok_depth_on F10 T c_reach_said c_word_due (PySem.W.mg_of X G a10) k10 b10, PySem.W.mg_of X G a10, k10, b10⟩
  have c_lets_plan : Fnd l.prog w K mg base 130 "lets_plan" ["half", "plan"] (sp_lets_plan P_best K) := ⟨_, _, ok_lets_plan F11 T c_behind_each c_depth_on, PySem.W.mg_of X G a11, k11, b11⟩
  exact ok_law F26 T c_lets_plan c__law_feed c__law_half c__law_orders c__law_few c__law_full c__law_plan c__law_depth
theorem walk {l : PySem.W.OpenLaw} {q : Program} {loose : List Str} {XP : (Str → Option Value) → Heap → Prop} {YP : World → Heap → Prop} {d : DefRec} {K : Params → PySem.W.Frag} {P_best : Addr} (hn : l.most = some 63) (hdf : d.params.defaults = [])
    (hY : ∀ (w : World) (h : Heap), YP w h → (K w.params).In h) (hYT : ∀ (w : World) (h : Heap), YP w h → h.get? P_best = some (PySem.W.tabObj #[])) (hKP : ∀ (w : World), (K w.params).lookup P_best = none)
    (F : ∀ (w : World) (mg : Str → Option Value) (fa : Addr) (h : Heap), (K w.params).In h → h.Ns mainGlobals mg → mg d.name = some (.ref fa) →
      ∃ fd : FuncData, (∃ c, PySem.W.codeHdIn (K w.params) c P_best = true) ∧ (∀ (s : Shared) (u : Value), BindsTo s fd ⟨[u], []⟩ [("_law_script", u)]) ∧ ∀ base : Heap, (K w.params).In base → base.Ns mainGlobals mg → base.BuiltinsAt mg P_best → FnOk l.prog w (K w.params) mg base CX0 131 fa fd ["_law_script"] (spLaw P_best (K w.params))) :
    PySem.W.WalkO q loose XP YP l.row.toRowW d [] (fun f vs => PySem.call f vs) :=
  L2.walk_ofT (n := 63) (k := 131) (x := "_law_script") (CX := fun _ => CX0) (sp := fun w => spLaw P_best (K w.params)) hn (by decide) hdf ⟨rfl, by decide, by decide, rfl⟩ hY hYT hKP F (fun _ _ a ns hl hO hS => ⟨a, ns, rfl, hS, hl, .inl hO.1, fun _ => rfl⟩) fun _ _ _ _ _ z => z
end K62
theorem PySem.W.Fast.tw6167742136416730716 : True := trivial
theorem PySem.W.Fast.tw14579248075319028264 : True := trivial
theorem PySem.W.Fast.tw4997240666056601505 : True := trivial
theorem PySem.W.Fast.tw12122469758886638735 : True := trivial
theorem PySem.W.Fast.tw13995259820425135138 : True := trivial
theorem PySem.W.Fast.tw1856423650606978657 : True := trivial
theorem PySem.W.Fast.tw4425983538801899158 : True := trivial
theorem PySem.W.Fast.tw17490623739177031418 : True := trivial
theorem PySem.W.Fast.tw2426609087916518598 : True := trivial
theorem PySem.W.Fast.tw3438682029455280316 : True := trivial
theorem PySem.W.Fast.tw13701642698282031389 : True := trivial
theorem PySem.W.Fast.tw17791817889027101772 : True := trivial
theorem PySem.W.Fast.tw5683758179793691197 : True := trivial
theorem PySem.W.Fast.tw4598365368753661295 : True := trivial
theorem PySem.W.Fast.tw15447734737860681010 : True := trivial
theorem PySem.W.Fast.tw1058468685692074902 : True := trivial
theorem PySem.W.Fast.tw8470712229914159018 : True := trivial
theorem PySem.W.Fast.tw10720628582964589919 : True := trivial
theorem PySem.W.Fast.tw13140986088516409594 : True := trivial
theorem PySem.W.Fast.tw15345376147471965778 : True := trivial
theorem PySem.W.Fast.tw18434731111322085191 : True := trivial
theorem PySem.W.Fast.tw296306552603609631 : True := trivial
theorem PySem.W.Fast.tw15034657614103377978 : True := trivial
theorem PySem.W.Fast.tw1764518048733763313 : True := trivial
theorem PySem.W.Fast.tw17944148826133188073 : True := trivial
theorem PySem.W.Fast.tw10765442125362466924 : True := trivial
theorem PySem.W.Fast.tw7661251133160119370 : True := trivial
theorem PySem.W.Fast.tw9393535493004450066 : True := trivial
theorem PySem.W.Fast.tw7951585254428514964 : True := trivial
theorem PySem.W.Fast.tw12231842381544965202 : True := trivial
theorem PySem.W.Fast.tw4952624220440514306 : True := trivial
theorem PySem.W.Fast.tw15016708216880332285 : True := trivial
theorem PySem.W.Fast.tw732052378793976151 : True := trivial
theorem PySem.W.Fast.tw14906005655764907744 : True := trivial
theorem PySem.W.Fast.tw12079907141207218399 : True := trivial
theorem PySem.W.Fast.tw9003928399586318248 : True := trivial
theorem PySem.W.Fast.tw18142101752112621489 : True := trivial
theorem PySem.W.Fast.tw9209674604478575858 : True := trivial
theorem PySem.W.Fast.tw10749551311849940105 : True := trivial
theorem PySem.W.Fast.tw10762974095185159340 : True := trivial
theorem PySem.W.Fast.tw11076764010329691041 : True := trivial
theorem PySem.W.Fast.tw713720216239061393 : True := trivial
theorem PySem.W.Fast.tw16491710924202058471 : True := trivial
open PySem PySem.W PyProof.Rows
set_option maxRecDepth 100000 in
set_option maxHeartbeats 0 in
theorem PySem.Challenge.cw_halforder_k62_plans_let_by_holds : PySem.Challenge.rw_halforder_k62_plans_let_by.Holds := by
  w_on; o_law; k_head; (case hw => w_witness2)
  k_fill
  refine K62.walk (l := PySem.Challenge.rw_halforder_k62_plans_let_by) rfl rfl (fun w h Y => PySem.W.km_in_of Y) (fun w h Y => PySem.W.km_tabs_of Y _ (List.mem_cons_self ..)) (fun w => by kernel_rfl) ?F
  case F =>
    intro w mg fa h KX G hmg
    refine' K62.all_mk KX G hmg ?q_a0 ?q_l0 ?q_c0 ?q_k0 ?q_a1 ?q_l1 ?q_c1 ?q_k1 ?q_a2 ?q_l2 ?q_c2 ?q_k2 ?q_a3 ?q_l3 ?q_c3 ?q_k3 ?q_a4 ?q_l4 ?q_c4 ?q_k4 ?q_a5 ?q_l5 ?q_c5 ?q_k5 ?q_a6 ?q_l6 ?q_c6 ?q_k6 ?q_a7 ?q_l7 ?q_c7 ?q_k7 ?q_a8 ?q_l8 ?q_c8 ?q_k8 ?q_a9 ?q_l9 ?q_c9 ?q_k9 ?q_a10 ?q_l10 ?q_c10 ?q_k10 ?q_a11 ?q_l11 ?q_c11 ?q_k11 ?q_a12 ?q_l12 ?q_c12 ?q_k12 ?q_a13 ?q_l13 ?q_c13 ?q_k13 ?q_a14 ?q_l14 ?q_c14 ?q_k14 ?q_a15 ?q_l15 ?q_c15 ?q_k15 ?q_a16 ?q_l16 ?q_c16 ?q_k16 ?q_a17 ?q_l17 ?q_c17 ?q_k17 ?q_a18 ?q_l18 ?q_c18 ?q_k18 ?q_a19 ?q_l19 ?q_c19 ?q_k19 ?q_a20 ?q_l20 ?q_c20 ?q_k20 ?q_a21 ?q_l21 ?q_c21 ?q_k21 ?q_a22 ?q_l22 ?q_c22 ?q_k22 ?q_a23 ?q_l23 ?q_c23 ?q_k23 ?q_a24 ?q_l24 ?q_c24 ?q_k24 ?q_a25 ?q_l25 ?q_c25 ?q_k25 ?q_a26 ?q_l26 ?q_c26 ?q_k26 ?q_lc ?q_lh ?q_lg ?q_z0 ?q_z1 ?q_z2 ?q_z3 ?q_z4 ?q_z5 ?q_z6 ?q_z7 ?q_z8 ?q_z9 ?q_z10 ?q_z11 ?q_z12
    (case q_a0 => k_is)
    (case q_l0 => k_is)
    (case q_c0 => k_is)
    (case q_k0 => k_is)
    (case q_a1 => k_is)
    (case q_l1 => k_is)
    (case q_c1 => k_is)
    (case q_k1 => k_is)
    (case q_a2 => k_is)
    (case q_l2 => k_is)
    (case q_c2 => k_is)
    (case q_k2 => k_is)
    (case q_a3 => k_is)
    (case q_l3 => k_is)
    (case q_c3 => k_is)
    (case q_k3 => k_is)
    (case q_a4 => k_is)
    (case q_l4 => k_is)
    (case q_c4 => k_is)
    (case q_k4 => k_is)
    (case q_a5 => k_is)
    (case q_l5 => k_is)
    (case q_c5 => k_is)
    (case q_k5 => k_is)
    (case q_a6 => k_is)
    (case q_l6 => k_is)
    (case q_c6 => k_is)
    (case q_k6 => k_is)
    (case q_a7 => k_is)
    (case q_l7 => k_is)
    (case q_c7 => k_is)
    (case q_k7 => k_is)
    (case q_a8 => k_is)
    (case q_l8 => k_is)
    (case q_c8 => k_is)
    (case q_k8 => k_is)
    (case q_a9 => k_is)
    (case q_l9 => k_is)
    (case q_c9 => k_is)
    (case q_k9 => k_is)
    (case q_a10 => k_is)
    (case q_l10 => k_is)
    (case q_c10 => k_is)
    (case q_k10 => k_is)
    (case q_a11 => k_is)
    (case q_l11 => k_is)
    (case q_c11 => k_is)
    (case q_k11 => k_is)
    (case q_a12 => k_is)
    (case q_l12 => k_is)
    (case q_c12 => k_is)
    (case q_k12 => k_is)
    (case q_a13 => k_is)
    (case q_l13 => k_is)
    (case q_c13 => k_is)
    (case q_k13 => k_is)
    (case q_a14 => k_is)
    (case q_l14 => k_is)
    (case q_c14 => k_is)
    (case q_k14 => k_is)
    (case q_a15 => k_is)
    (case q_l15 => k_is)
    (case q_c15 => k_is)
    (case q_k15 => k_is)
    (case q_a16 => k_is)
    (case q_l16 => k_is)
    (case q_c16 => k_is)
    (case q_k16 => k_is)
    (case q_a17 => k_is)
    (case q_l17 => k_is)
    (case q_c17 => k_is)
    (case q_k17 => k_is)
    (case q_a18 => k_is)
    (case q_l18 => k_is)
    (case q_c18 => k_is)
    (case q_k18 => k_is)
    (case q_a19 => k_is)
    (case q_l19 => k_is)
    (case q_c19 => k_is)
    (case q_k19 => k_is)
    (case q_a20 => k_is)
    (case q_l20 => k_is)
    (case q_c20 => k_is)
    (case q_k20 => k_is)
    (case q_a21 => k_is)
    (case q_l21 => k_is)
    (case q_c21 => k_is)
    (case q_k21 => k_is)
    (case q_a22 => k_is)
    (case q_l22 => k_is)
    (case q_c22 => k_is)
    (case q_k22 => k_is)
    (case q_a23 => k_is)
    (case q_l23 => k_is)
    (case q_c23 => k_is)
    (case q_k23 => k_is)
    (case q_a24 => k_is)
    (case q_l24 => k_is)
    (case q_c24 => k_is)
    (case q_k24 => k_is)
    (case q_a25 => k_is)
    (case q_l25 => k_is)
    (case q_c25 => k_is)
    (case q_k25 => k_is)
    (case q_a26 => k_is)
    (case q_l26 => k_is)
    (case q_c26 => k_is)
    (case q_k26 => k_is)
    (case q_lc => rfl)
    (case q_lh => kernel_rfl)
    (case q_lg => decide)
    (case q_z0 => k_is)
    (case q_z1 => k_is)
    (case q_z2 => k_is)
    (case q_z3 => k_is)
    (case q_z4 => k_is)
    (case q_z5 => k_is)
    (case q_z6 => k_is)
    (case q_z7 => k_is)
    (case q_z8 => k_is)
    (case q_z9 => k_is)
    (case q_z10 => k_is)
    (case q_z11 => k_is)
    (case q_z12 => k_is)
