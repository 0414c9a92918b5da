import PyProof.Rows.All
import Wide.All
import OpenK.AllK
import Wide.FinOn
import PyProof.EqAt
import PyProof.EqKinds
import PyProof.TupleCall
import Lean
import PyProof.DictWalks
import PyProof.DictIter
import PyProof.P3In
import KE.KEqSeq
import PyProof.ReprLen
import PyProof.ReprRoads
import PyProof.StrOps2
import KE.KRevSl
import PyProof.IsRules
import PyProof.StrLawsIdx
import PyProof.Rows.RegRepr
import PyProof.Rows.RegFStrParts
import PyProof.DictUpdate
import PyProof.AttrMissHeap
import PyProof.Walks
import KE.KDictOf
import PyProof.EnumIter
import PyProof.EnumFor
import PyProof.LayNew
import PyProof.EnumMake
import PyProof.Draws
import PyProof.WalksT
import PyProof.TupleIter
import PyProof.WalksMore
import KE.KRevIter
import KE.KEqDict
import PyProof.Rows.SetFrom
import PyProof.StrLawsTight
import PyProof.StrLawsChain
import PyProof.SumWalk
import PyProof.Rows.SortStr
import PyProof.Rows.SortWalk
import PyProof.TupleOfSeq
import KE.KDictSum
import KE.KSortTup
import PyProof.ListRange
import PyProof.ZipIter
import PyProof.Rows.ZipGen
import KE.KItemsList
import PyProof.ExcArgsOwn
import PyProof.InstStoreFacts
import PyProof.ExcBaseAll.ValueError
import PyProof.StationsW
import PyProof.RulesAs
import PyProof.RulesDel
import PyProof.NeKinds
import PyProof.ListMulAny
import KE.KMinBuiltin
import PyProof.Rows.CallKwBuiltin
import PySem.Challenge.RW_halforder_k13_whole_cover_and_bunch
set_option compiler.extract_closed false
set_option Elab.async false
set_option linter.all false
set_option maxRecDepth 100000
namespace L2
open PySem PySem.Spec PyProof.Rows
noncomputable abbrev Key := Sum Int Str
noncomputable def keyIs : Key → Value → Bool
  | .inl k, v => Value.isInt k v
  | .inr x, v => Value.isStrOf x v
noncomputable def keyH (w : World) : Key → Int
  | .inl k => hashInt k
  | .inr x => hashStr w x
theorem keyIs_shape : ∀ {k : Key} {v : Value}, keyIs k v = true → (∃ i t, k = Sum.inl i ∧ v = Value.int i t) ∨ (∃ x t, k = Sum.inr x ∧ v = Value.str x t)
  | .inl i, v, h => by
    obtain ⟨t, e⟩ := Value.isInt_shape (k := i) (v := v) h
    exact .inl ⟨i, t, rfl, e⟩
  | .inr x, v, h => by
    obtain ⟨t, e⟩ := Value.isStrOf_shape (x := x) (v := v) h
    exact .inr ⟨x, t, rfl, e⟩
theorem keyIs_int (i : Int) (t : Tok) : keyIs (.inl i) (.int i t) = true := by simp [keyIs, Value.isInt]
theorem keyIs_str (x : Str) (t : Tok) : keyIs (.inr x) (.str x t) = true := by simp [keyIs, Value.isStrOf]
theorem key_ll (a b : Int) : decide ((Sum.inl a : Key) = Sum.inl b) = (a == b) := by
  by_cases e : a = b
  · subst e; simp
  · have h : ¬ (Sum.inl a : Key) = Sum.inl b := fun q => e (Sum.inl.inj q)
    rw [decide_eq_false h]
    exact (beq_eq_false_iff_ne.mpr e).symm
theorem key_rr (a b : Str) : decide ((Sum.inr a : Key) = Sum.inr b) = decide (a = b) := by
  by_cases e : a = b
  · subst e; simp
  · have h : ¬ (Sum.inr a : Key) = Sum.inr b := fun q => e (Sum.inr.inj q)
    rw [decide_eq_false h, decide_eq_false e]
theorem key_lr (a : Int) (b : Str) : decide ((Sum.inl a : Key) = Sum.inr b) = false := decide_eq_false (fun q => nomatch q)
theorem key_rl (a : Str) (b : Int) : decide ((Sum.inr a : Key) = Sum.inl b) = false := decide_eq_false (fun q => nomatch q)
noncomputable def mixKind (prog : Program) (w : World) : PySem.KeyKind prog w Key where
  is := keyIs
  hash := keyH w
  inj := fun v a b ha hb => by
    rcases keyIs_shape ha with ⟨i, t, rfl, rfl⟩ | ⟨x, t, rfl, rfl⟩
    · rcases keyIs_shape hb with ⟨j, u, rfl, e⟩ | ⟨y, u, rfl, e⟩
      · injection e with e1 _; rw [e1]
      · exact nomatch e
    · rcases keyIs_shape hb with ⟨j, u, rfl, e⟩ | ⟨y, u, rfl, e⟩
      · exact nomatch e
      · injection e with e1 _; rw [e1]
  byValue := fun k v h => by
    rcases keyIs_shape h with ⟨i, t, rfl, rfl⟩ | ⟨x, t, rfl, rfl⟩ <;> rfl
  pyHash := fun hv h => by
    rcases keyIs_shape hv with ⟨i, t, rfl, rfl⟩ | ⟨x, t, rfl, rfl⟩
    · exact wpAny_pyHash_int h
    · exact wpAny_pyHash_str h
  eqBool := fun hu hv h => by
    rcases keyIs_shape hu with ⟨i, t, rfl, rfl⟩ | ⟨x, t, rfl, rfl⟩
    · rcases keyIs_shape hv with ⟨j, u, rfl, rfl⟩ | ⟨y, u, rfl, rfl⟩
      · rw [key_ll] at h; exact wpAny_eqBool_int h
      · rw [key_lr] at h; exact SeqAt.EqAt.int_str i t y u _ _ _ _ h
    · rcases keyIs_shape hv with ⟨j, u, rfl, rfl⟩ | ⟨y, u, rfl, rfl⟩
      · rw [key_rl] at h; exact SeqAt.EqAt.str_int x t j u _ _ _ _ h
      · rw [key_rr] at h; exact wpAny_eqBool_str h
  «strs» := fun k x t v h => by
    rcases keyIs_shape h with ⟨i, u, rfl, e⟩ | ⟨y, u, rfl, e⟩
    · exact nomatch e
    · injection e with e1 _
      subst e1
      cases v <;> rfl
theorem mixKind_int (prog : Program) (w : World) (i : Int) (t : Tok) : (mixKind prog w).is (.inl i) (.int i t) = true := keyIs_int i t
theorem mixKind_str (prog : Program) (w : World) (x : Str) (t : Tok) : (mixKind prog w).is (.inr x) (.str x t) = true := keyIs_str x t
end L2
namespace L2
open PySem PySem.Spec PyProof.Rows
inductive V where
  | non | bl (b : Bool) | int (i : Int) | str (x : Str) | byt (b : Array UInt8) | flt (b : UInt64) | ref (a : Addr) | ty (n : String)
  deriving DecidableEq
noncomputable def RelV : V → Value → Prop
  | .non, u => u = Value.none
  | .bl b, u => u = Value.bool b
  | .int i, u => ∃ t, u = Value.int i t
  | .str x, u => ∃ t, u = Value.str x t
  | .byt b, u => ∃ t, u = Value.bytes b t
  | .flt b, u => ∃ t, u = Value.float b t
  | .ref a, u => u = Value.ref a
  | .ty n, u => u = Value.type n
noncomputable abbrev Vals : List V → List Value → Prop := Paired RelV
theorem Vals.length {xs : List V} {us : List Value} (r : Vals xs us) : xs.length = us.length := Paired.length r
theorem Vals.get : ∀ {xs : List V} {us : List Value} {i : Nat} {x : V}, Vals xs us → xs[i]? = some x → ∃ u, us[i]? = some u ∧ RelV x u
  | _, _, _, _, .nil, e => by simp at e
  | _, _, 0, _, .cons r _, e => by simp at e; subst e; exact ⟨_, rfl, r⟩
  | _, _, i + 1, x, .cons _ t, e => by
    obtain ⟨u, h1, h2⟩ := Vals.get (i := i) (x := x) t (by simpa using e)
    exact ⟨u, by simpa using h1, h2⟩
theorem Vals.set {x : V} {u : Value} (r : RelV x u) : ∀ {xs : List V} {us : List Value} (i : Nat), Vals xs us → Vals (xs.set i x) (us.set i u)
  | _, _, _, .nil => .nil
  | _, _, 0, .cons _ t => .cons r t
  | _, _, i + 1, .cons q t => .cons q (Vals.set r i t)
theorem Vals.append : ∀ {xs ys : List V} {us ws : List Value}, Vals xs us → Vals ys ws → Vals (xs ++ ys) (us ++ ws)
  | _, _, _, _, .nil, s => s
  | _, _, _, _, .cons r t, s => .cons r (Vals.append t s)
theorem Vals.take : ∀ {xs : List V} {us : List Value} (n : Nat), Vals xs us → Vals (xs.take n) (us.take n)
  | _, _, 0, _ => .nil
  | _, _, _ + 1, .nil => .nil
  | _, _, n + 1, .cons r t => .cons r (Vals.take n t)
theorem Vals.drop : ∀ {xs : List V} {us : List Value} (n : Nat), Vals xs us → Vals (xs.drop n) (us.drop n)
  | _, _, 0, r => r
  | _, _, _ + 1, .nil => .nil
  | _, _, n + 1, .cons _ t => Vals.drop n t
noncomputable def RelO : Option V → Option Value → Prop
  | some v, some u => RelV v u
  | none, none => True
  | _, _ => False
noncomputable def KV {κ : Type} : List (κ × V) → List (κ × Value) → Prop := Paired fun (p : κ × V) (q : κ × Value) => p.1 = q.1 ∧ RelV p.2 q.2
noncomputable def kV : Key → V
  | .inl i => .int i
  | .inr x => .str x
noncomputable def IsTupN (h : Heap) (a : Addr) (items : Array Value) : Prop := ∃ o, h.get? a = some o ∧ o.cls = .type "tuple" ∧ (∃ n, o.data = .seq items n) ∧ o.dict = none
theorem IsTupN.tup {h : Heap} {a : Addr} {items : Array Value} (x : IsTupN h a items) : IsTup h a items := let ⟨o, h1, h2, ⟨n, h3⟩, _⟩ := x; ⟨o, h1, h2, n, h3⟩
theorem IsTupN.new (h : Heap) (its : Array Value) : IsTupN (h.push { cls := .type "tuple", data := .seq its }) h.objs.size its := ⟨_, Heap.get?_push_size _ rfl, rfl, ⟨_, rfl⟩, rfl⟩
inductive HO where
  | lst (xs : List V)
  | tup (xs : List V)
  | dK (kvs : List (Key × V)) | dT (kvs : List (List Key × V))
  | set (S : Int → Bool) (n : Nat)
  | ins (C dx : Addr) (fs : List (Str × V))
  | own (x : Addr)
  | xd (fs : List (Str × V))
  | met (f x : Addr)
  | rng (lo hi : Int)
  | frz (o : Obj) (u : HO)
  | tbl (ps : Array Value)
  | ext (φ : Heap → Prop)
noncomputable abbrev Hp := Addr → Option HO
noncomputable def upd (H : Hp) (a : Addr) (o : HO) : Hp := fun b => if b = a then some o else H b
theorem upd_same {H : Hp} {a : Addr} {o : HO} : upd H a o a = some o := by unfold upd; rw [if_pos rfl]
theorem upd_ne {H : Hp} {a b : Addr} {o : HO} (h : b ≠ a) : upd H a o b = H b := by unfold upd; rw [if_neg h]
theorem ne_of {H : Hp} {a b : Addr} {o u : HO} (h : H a = some o) (h' : H b = some u) (d : o ≠ u) : a ≠ b := by
  intro e; subst e; rw [h] at h'; exact d (Option.some.inj h')
theorem ne_of_none {H : Hp} {a b : Addr} {o : HO} (h : H a = some o) (h' : H b = none) : a ≠ b := by
  intro e; subst e; rw [h] at h'; cases h'
section
variable (P : Program) (w : World)
noncomputable def ObjOk (H : Hp) (h : Heap) (a : Addr) : HO → Prop
  | .lst xs => xs.length ≤ sizeLine ∧ ∃ (its : List Value) (n : Nat), Vals xs its ∧ h.get? a = some { cls := .type "list", data := .seq its.toArray n }
  | .tup xs => xs.length ≤ sizeLine ∧ ∃ its : List Value, Vals xs its ∧ IsTupN h a its.toArray
  | .dK kvs => kvs.length ≤ sizeLine ∧ (a == sysModules) = false ∧ ∃ vs, KV kvs vs ∧ h.DictOf (mixKind P w) a vs
  | .dT kvs => kvs.length ≤ sizeLine ∧ (a == sysModules) = false ∧ ∃ xs : List (List Key × Addr × Value),
      Paired (fun (p : List Key × V) (q : List Key × Addr × Value) => p.1 = q.1 ∧ H q.2.1 = some (.tup (p.1.map kV)) ∧ RelV p.2 q.2.2) kvs xs ∧
      ∃ o es ep, h.get? a = some o ∧ o.ExactDict ∧ o.data = .dict es ep ∧ es.toList = xs.map (entryOfKey (tupleKind (mixKind P w))) ∧ (xs.map (·.1)).Nodup
  | .set S n => h.SetOf (intKind P w) a S n
  | .ins C dx fs => H dx = some (.own a) ∧ fs.length ≤ 1000 ∧ dx ≠ a ∧ h.get? a = some (PySem.W.instObj C dx) ∧
      ∃ mA, h.Ns1 dx mA ∧ (∀ f, RelO (fs.lookup f) (mA f)) ∧ PySem.Within mA (fs.map (·.1))
  | .own _ => ∃ o, h.get? a = some o
  | .xd fs => ∃ mA, h.Ns1 a mA ∧ ∀ f, RelO (fs.lookup f) (mA f)
  | .rng lo hi => ∃ t u v, h.get? a = some { cls := .type "range", data := .fields #[.int lo t, .int hi u, .int 1 v] }
  | .frz o u => h.get? a = some o ∧ ObjOk H h a u
  | .tbl ps => h.get? a = some { cls := .none, data := .fields ps }
  | .met f x => h.get? a = some (PySem.W.methodObj (.ref f) (.ref x))
  | .ext φ => φ h ∧ (∃ o, h.get? a = some o) ∧ ∀ h1 h2 : Heap, φ h1 → (∀ o, h1.get? a = some o → h2.get? a = some o) → φ h2
noncomputable def HOk (H : Hp) (h : Heap) : Prop := ∀ a o, H a = some o → ObjOk P w H h a o
end
section
variable {P : Program} {w : World} {H H' : Hp} {h h' : Heap} {a : Addr} {o : HO}
theorem ObjOk.lt (x : ObjOk P w H h a o) : a < h.objs.size := by
  cases o with
  | lst xs => obtain ⟨_, _, _, _, e⟩ := x; exact Heap.lt_size e
  | tup xs => obtain ⟨_, _, _, p⟩ := x; exact p.tup.lt
  | dK kvs => obtain ⟨_, _, _, _, o, _, _, e, _⟩ := x; exact Heap.lt_size e
  | dT kvs => obtain ⟨_, _, _, _, o, _, _, e, _⟩ := x; exact Heap.lt_size e
  | set S n => obtain ⟨o, _, _, _, e, _⟩ := x; exact Heap.lt_size e
  | ins C dx fs => obtain ⟨_, _, _, e, _⟩ := x; exact Heap.lt_size e
  | own y => obtain ⟨_, e⟩ := x; exact Heap.lt_size e
  | xd fs => obtain ⟨_, ⟨_, _, _, e, _⟩, _⟩ := x; exact Heap.lt_size e
  | rng lo hi => obtain ⟨_, _, _, e⟩ := x; exact Heap.lt_size e
  | frz ob u => obtain ⟨e, _⟩ := x; exact Heap.lt_size e
  | tbl ps => exact Heap.lt_size (show h.get? a = some _ from x)
  | met f y => exact Heap.lt_size (show h.get? a = some _ from x)
  | ext φ => obtain ⟨_, ⟨_, e⟩, _⟩ := x; exact Heap.lt_size e
theorem Paired.mapP {α β : Type} {F G : α → β → Prop} : ∀ {l₁ : List α} {l₂ : List β}, Paired F l₁ l₂ → (∀ a b, F a b → G a b) → Paired G l₁ l₂
  | _, _, .nil, _ => .nil
  | _, _, .cons r t, f => .cons (f _ _ r) (Paired.mapP t f)
theorem ObjOk.stay (x : ObjOk P w H h a o) (k : ∀ b u, (b = a ∨ H b = some (.own a)) → h.get? b = some u → h'.get? b = some u)
    (ho : ∀ b, H b = some (.own a) → H' b = some (.own a)) (ht : ∀ b xs, H b = some (.tup xs) → H' b = some (.tup xs)) : ObjOk P w H' h' a o := by
  induction o with
  | lst xs => obtain ⟨z, its, n, r, e⟩ := x; exact ⟨z, its, n, r, k _ _ (.inl rfl) e⟩
  | tup xs => obtain ⟨z, its, r, ob, e, c⟩ := x; exact ⟨z, its, r, ob, k _ _ (.inl rfl) e, c⟩
  | dK kvs => obtain ⟨z, y, vs, r, ob, es, ep, e, c⟩ := x; exact ⟨z, y, vs, r, ob, es, ep, k _ _ (.inl rfl) e, c⟩
  | dT kvs =>
    obtain ⟨z, y, xs, r, ob, es, ep, e, c⟩ := x
    exact ⟨z, y, xs, Paired.mapP r fun p q z => ⟨z.1, ht _ _ z.2.1, z.2.2⟩, ob, es, ep, k _ _ (.inl rfl) e, c⟩
  | set S n => obtain ⟨ob, es, ep, t, e, c⟩ := x; exact ⟨ob, es, ep, t, k _ _ (.inl rfl) e, c⟩
  | ins C dx fs =>
    obtain ⟨d, z, ne, e, mA, ⟨od, es, ep, e2, c⟩, r⟩ := x
    exact ⟨ho _ d, z, ne, k _ _ (.inl rfl) e, mA, ⟨od, es, ep, k _ _ (.inr d) e2, c⟩, r⟩
  | own y => obtain ⟨ob, e⟩ := x; exact ⟨ob, k _ _ (.inl rfl) e⟩
  | xd fs => obtain ⟨mA, ⟨od, es, ep, e, c⟩, r⟩ := x; exact ⟨mA, ⟨od, es, ep, k _ _ (.inl rfl) e, c⟩, r⟩
  | rng lo hi => obtain ⟨t, u, v, e⟩ := x; exact ⟨t, u, v, k _ _ (.inl rfl) e⟩
  | frz ob u ih => obtain ⟨e, q⟩ := x; exact ⟨k _ _ (.inl rfl) e, ih q⟩
  | tbl ps =>
    have e : h.get? a = some { cls := .none, data := .fields ps } := x
    show h'.get? a = some { cls := .none, data := .fields ps }
    exact k a _ (.inl rfl) e
  | met f y =>
    have e : h.get? a = some (PySem.W.methodObj (.ref f) (.ref y)) := x
    show h'.get? a = some (PySem.W.methodObj (.ref f) (.ref y))
    exact k a _ (.inl rfl) e
  | ext φ => obtain ⟨p, ⟨o, e⟩, st⟩ := x; exact ⟨st _ _ p fun o q => k _ _ (.inl rfl) q, ⟨o, k _ _ (.inl rfl) e⟩, st⟩
theorem HOk.lt (x : HOk P w H h) (e : H a = some o) : a < h.objs.size := (x a o e).lt
theorem HOk.fresh (x : HOk P w H h) (e : h.objs.size ≤ a) : H a = none := by
  cases q : H a with
  | none => rfl
  | some u => exact absurd (Nat.lt_of_lt_of_le (x.lt q) e) (Nat.lt_irrefl _)
theorem HOk.kept (x : HOk P w H h) (k : ∀ b u, h.get? b = some u → h'.get? b = some u) : HOk P w H h' := fun a o e =>
  (x a o e).stay (fun b u _ q => k b u q) (fun _ q => q) fun _ _ q => q
theorem HOk.laid (x : HOk P w H h) (k : ∀ b u, h.get? b = some u → h'.get? b = some u) (hp : h.objs.size ≤ a) (new : ObjOk P w (upd H a o) h' a o) : HOk P w (upd H a o) h' := fun b u e => by
  have hn := x.fresh hp
  by_cases hb : b = a
  · subst hb; rw [upd_same] at e; cases e; exact new
  · rw [upd_ne hb] at e
    exact (x b u e).stay (fun c v _ q => k c v q) (fun c q => by rw [upd_ne (ne_of_none q hn)]; exact q) fun c xs q => by rw [upd_ne (ne_of_none q hn)]; exact q
end
noncomputable def Rd (H : Hp) (a : Addr) (u : HO) : Prop := H a = some u ∨ ∃ o, H a = some (.frz o u)
theorem Rd.of {H : Hp} {a : Addr} {u : HO} (h : H a = some u) : Rd H a u := .inl h
theorem Rd.ok {P : Program} {w : World} {H : Hp} {h : Heap} {a : Addr} {u : HO} (r : Rd H a u) (x : HOk P w H h) : ObjOk P w H h a u := by
  rcases r with r | ⟨o, r⟩
  · exact x a u r
  · obtain ⟨_, q⟩ := x a _ r
    exact q
noncomputable def Mut : Option HO → Prop
  | some (.lst _) => True
  | some (.dK _) => True
  | some (.dT _) => True
  | some (.set _ _) => True
  | some (.ins _ _ _) => True
  | some (.ext _) => True
  | _ => False
section
variable {P : Program} {w : World} {H : Hp} {h h' : Heap} {x e : Addr} {o' : HO}
theorem HOk.write (ok : HOk P w H h) (mu : Mut (H x)) (he : e = x ∨ H e = some (.own x)) (k : ∀ b u, b ≠ e → h.get? b = some u → h'.get? b = some u) (heo : ∃ u, h'.get? e = some u)
    (new : ObjOk P w (upd H x o') h' x o') : HOk P w (upd H x o') h' := fun b u q => by
  have nown : ∀ c y, H c = some (.own y) → c ≠ x := fun c y r z => by subst z; rw [r] at mu; exact mu
  have ntup : ∀ c xs, H c = some (.tup xs) → c ≠ x := fun c xs r z => by subst z; rw [r] at mu; exact mu
  by_cases hb : b = x
  · subst hb; rw [upd_same] at q; cases q; exact new
  · rw [upd_ne hb] at q
    by_cases hbe : b = e
    · have q' : H b = some (.own x) := by
        rcases he with z | z
        · exact absurd (hbe.trans z) hb
        · rw [hbe]; exact z
      rw [q] at q'; cases q'
      obtain ⟨v, hv⟩ := heo
      exact ⟨v, by rw [hbe]; exact hv⟩
    · refine (ok b u q).stay (fun c v hc r => k c v ?_ r) (fun c r => by rw [upd_ne (nown c b r)]; exact r) fun c xs r => by rw [upd_ne (ntup c xs r)]; exact r
      rcases hc with rfl | hc
      · exact hbe
      · rintro rfl
        rcases he with z | z
        · exact nown c b hc z
        · rw [hc] at z; cases z; exact hb rfl
end
structure Un (fs ex : List Addr) (H H' : Hp) (h h' : Heap) : Prop where
  keep : ∀ b o, h.get? b = some o → H b = none → b ∉ fs → b ∉ ex → h'.get? b = some o
  slot : ∀ b o, h.get? b = some o → H b = none → b ∈ fs → b ∉ ex → ∃ sl, h'.get? b = some { o with slots := sl }
  free : ∀ b o, h.get? b = some o → H b = none → b ∉ ex → H' b = none
  there : ∀ b o, h.get? b = some o → b ∉ ex → ∃ o', h'.get? b = some o'
  tups : ∀ b xs, H b = some (.tup xs) → H' b = some (.tup xs)
  frzs : ∀ b o u, H b = some (.frz o u) → H' b = some (.frz o u)
  tbls : ∀ b ps, H b = some (.tbl ps) → ∃ more, H' b = some (.tbl (ps ++ more))
section
variable {fs fs' ex ex' : List Addr} {H H1 H2 : Hp} {h h1 h2 h' : Heap} {a x e : Addr} {o : HO}
theorem Un.any (u : Un fs ex H H1 h h1) {b : Addr} {ob : Obj} (q : h.get? b = some ob) (n : H b = none) (hx : b ∉ ex) : ∃ sl, h1.get? b = some { ob with slots := sl } := by
  by_cases hb : b ∈ fs
  · exact u.slot b ob q n hb hx
  · exact ⟨ob.slots, u.keep b ob q n hb hx⟩
theorem Un.trans (a : Un fs ex H H1 h h1) (b : Un fs ex H1 H2 h1 h2) : Un fs ex H H2 h h2 where
  keep := fun c ob q n hc hx => b.keep c ob (a.keep c ob q n hc hx) (a.free c ob q n hx) hc hx
  slot := fun c ob q n hc hx => by
    obtain ⟨sl, e1⟩ := a.slot c ob q n hc hx
    obtain ⟨sl', e2⟩ := b.slot c _ e1 (a.free c ob q n hx) hc hx
    exact ⟨sl', e2⟩
  free := fun c ob q n hx => by
    obtain ⟨o', e1⟩ := a.there c ob q hx
    exact b.free c o' e1 (a.free c ob q n hx) hx
  there := fun c ob q hx => by
    obtain ⟨o', e1⟩ := a.there c ob q hx
    exact b.there c o' e1 hx
  tups := fun c xs q => b.tups c xs (a.tups c xs q)
  frzs := fun c ob xs q => b.frzs c ob xs (a.frzs c ob xs q)
  tbls := fun c ps q => by
    obtain ⟨m1, e1⟩ := a.tbls c ps q
    obtain ⟨m2, e2⟩ := b.tbls c _ e1
    exact ⟨m1 ++ m2, by rw [e2, Array.append_assoc]⟩
theorem Un.kept (k : ∀ b u, h.get? b = some u → h'.get? b = some u) : Un fs ex H H h h' :=
  ⟨fun b ob q _ _ _ => k b ob q, fun b ob q _ _ _ => ⟨ob.slots, k b ob q⟩, fun _ _ _ n _ => n, fun b ob q _ => ⟨ob, k b ob q⟩, fun _ _ q => q, fun _ _ _ q => q, fun _ ps q => ⟨#[], by rw [q]; simp⟩⟩
theorem Un.refl : Un fs ex H H h h := Un.kept fun _ _ q => q
theorem Un.laid (k : ∀ b u, h.get? b = some u → h'.get? b = some u) (hp : h.objs.size ≤ a) (hn : H a = none) : Un fs ex H (upd H a o) h h' where
  keep := fun b u q _ _ _ => k b u q
  slot := fun b u q _ _ _ => ⟨u.slots, k b u q⟩
  free := fun b u q n _ => by rw [upd_ne (Nat.ne_of_lt (Nat.lt_of_lt_of_le (Heap.lt_size q) hp))]; exact n
  there := fun b u q _ => ⟨u, k b u q⟩
  tups := fun b xs q => by rw [upd_ne (ne_of_none q hn)]; exact q
  frzs := fun b u xs q => by rw [upd_ne (ne_of_none q hn)]; exact q
  tbls := fun b ps q => ⟨#[], by rw [upd_ne (ne_of_none q hn), q]; simp⟩
theorem Un.write (mu : Mut (H x)) (he : e = x ∨ H e = some (.own x)) (k : ∀ b u, b ≠ e → h.get? b = some u → h'.get? b = some u) (heo : ∃ u, h'.get? e = some u) : Un fs ex H (upd H x o) h h' := by
  have hx : ∀ b, H b = none → b ≠ x := fun b n z => by subst z; rw [n] at mu; exact mu
  have hb : ∀ b, H b = none → b ≠ e := fun b n z => by
    subst z
    rcases he with r | r
    · exact hx b n r
    · rw [n] at r; cases r
  have hm : ∀ b u, H b = some u → ¬ Mut (some u) → b ≠ x := fun b u q nm z => by subst z; rw [q] at mu; exact nm mu
  refine ⟨fun b u q n _ _ => k b u (hb b n) q, fun b u q n _ _ => ⟨u.slots, k b u (hb b n) q⟩, fun b u q n _ => by rw [upd_ne (hx b n)]; exact n, fun b u q _ => ?_,
    fun b xs q => by rw [upd_ne (hm b _ q fun z => z)]; exact q, fun b u xs q => by rw [upd_ne (hm b _ q fun z => z)]; exact q, fun b ps q => ⟨#[], by rw [upd_ne (hm b _ q fun z => z), q]; simp⟩⟩
  by_cases hbe : b = e
  · subst hbe; exact heo
  · exact ⟨u, k b u hbe q⟩
theorem Un.mono (u : Un fs ex H H1 h h1) (hs : ∀ b ∈ fs, b ∈ fs') (hx : ∀ b ∈ ex, b ∈ ex') : Un fs' ex' H H1 h h1 :=
  ⟨fun b ob q n hb he => u.keep b ob q n (fun z => hb (hs b z)) fun z => he (hx b z), fun _ _ q n _ he => u.any q n fun z => he (hx _ z), fun b ob q n he => u.free b ob q n fun z => he (hx b z), fun b ob q he => u.there b ob q fun z => he (hx b z), u.tups, u.frzs, u.tbls⟩
end
noncomputable def trk (h : Heap) (H : Hp) : List Addr := (List.range h.objs.size).filter fun a => (H a).isSome
noncomputable def hidT (h : Heap) (H : Hp) : Heap := PySem.W.hideAll h (trk h H)
theorem hidT_size (h : Heap) (H : Hp) : (hidT h H).objs.size = h.objs.size := PySem.W.hideAll_size _ _
theorem hidT_get {h : Heap} {H : Hp} {b : Addr} {o : Obj} (e : h.get? b = some o) (n : H b = none) : (hidT h H).get? b = some o :=
  PySem.W.hideAll_get _ e fun hm => by
    have q : (H b).isSome = true := (List.mem_filter.mp hm).2
    rw [n] at q; simp at q
theorem of_hidT {h : Heap} {H : Hp} {b : Addr} {o : Obj} (e : (hidT h H).get? b = some o) : h.get? b = some o ∧ H b = none := by
  have e' : h.get? b = some o := PySem.W.of_hideAll (trk h H) e
  refine ⟨e', ?_⟩
  cases q : H b with
  | none => rfl
  | some x =>
    have hm : b ∈ trk h H := List.mem_filter.mpr ⟨List.mem_range.mpr (Heap.lt_size e'), by simp [q]⟩
    have z : (hidT h H).get? b = none := PySem.W.hideAll_none (trk h H) hm
    rw [z] at e; cases e
noncomputable def allNews (g h : Heap) (L : Addr) : List (Addr × Obj) := (List.range h.objs.size).filterMap fun a => if a = L ∨ (g.get? a).isSome = true then none else (h.get? a).map fun o => (a, o)
theorem mem_allNews {g h : Heap} {L a : Addr} {o : Obj} (h1 : a ≠ L) (h2 : g.get? a = none) (h3 : h.get? a = some o) : (a, o) ∈ allNews g h L :=
  List.mem_filterMap.mpr ⟨a, List.mem_range.mpr (Heap.lt_size h3), by simp [h1, h2, h3]⟩
theorem of_mem_allNews {g h : Heap} {L : Addr} {p : Addr × Obj} (hp : p ∈ allNews g h L) : p.1 ≠ L ∧ g.get? p.1 = none ∧ h.get? p.1 = some p.2 := by
  obtain ⟨b, _, e⟩ := List.mem_filterMap.mp hp
  split at e
  · cases e
  · rename_i hn
    cases q : h.get? b with
    | none => rw [q] at e; simp at e
    | some u =>
      rw [q] at e
      simp only [Option.map_some, Option.some.injEq] at e
      subst e
      refine ⟨fun z => hn (.inl z), ?_, q⟩
      show g.get? b = none
      cases r : g.get? b with
      | none => rfl
      | some v => exact (hn (.inr (by simp [r]))).elim
noncomputable def rest (g h : Heap) (L d : Addr) : List (Addr × Obj) := (allNews g h L).filter fun p => decide (p.1 ≠ d)
theorem news_all {g h : Heap} {L : Addr} : News g L h (allNews g h L) := fun p hp => let ⟨a, b, c⟩ := of_mem_allNews hp; ⟨c, a, b⟩
end L2
namespace L2
open PySem PySem.Spec PyProof.Rows
structure Mod (K : PySem.W.Frag) (mg : Str → Option Value) (base : Heap) : Prop where
  kin : K.In base
  glob : base.Ns mainGlobals mg
  blt : ∃ mb, base.Ns builtinsNs mb ∧ ∀ x : Str, x ≠ "__name__" → mb x = bootBuiltins x
  nolimit : base.NoLimit
/-- the context: a def's body (or a comprehension's block) running. base: fixed through the whole law; s₀, H₀: the entry; outer: the frames whose slots others may change (a def's callers); stack: all frames that run;
   ex: iterators that were made ahead of the entry and are walked here (a comprehension's); fn: the names whose cells were made at the entry (a def: all; a comprehension's block: its own); calm: not within an except suite; pn: pins that every state bears; xe: what is wanted of an exception that leaves the code -/
structure Cx where
  prog : Program
  w : World
  K : PySem.W.Frag
  mg : Str → Option Value
  base : Heap
  A : Around
  N : List Str
  s₀ : Shared
  H₀ : Hp
  env : Env
  outer : List Env
  stack : List Env
  ex : List Addr
  fn : Str → Bool
  calm : Bool
  pn : List (Addr × Obj)
  xe : Value → Shared → Prop
noncomputable def frs (l : List Env) : List Addr := l.filterMap (·.frame)
noncomputable abbrev Cx.fs (X : Cx) : List Addr := frs X.outer
noncomputable def Vis (sc : Scope) (x : Str) : Prop := sc.names.lookup x = some .local ∨ sc.names.lookup x = some .cell ∨ sc.names.lookup x = some .free
noncomputable def Loc (sc : Scope) (x : Str) : Prop := sc.names.lookup x = some .local ∨ sc.names.lookup x = some .cell
noncomputable def Look (env : Env) (h : Heap) (m : Str → Option Value) (x : Str) (u : Value) : Prop :=
  (env.kindOf x = some .local ∧ m x = some u) ∨ ((env.kindOf x = some .cell ∨ env.kindOf x = some .free) ∧ ∃ c, env.cells.lookup x = some c ∧ h.IsCell c (some u))
structure Cx.Ok (X : Cx) : Prop where
  mod : Mod X.K X.mg X.base
  kind : X.env.scope.kind = .function
  glob : X.env.globals = mainGlobals
  blt : X.env.builtins = builtinsNs
  above : X.s₀.heap.objs.size ≤ X.env.locals
  inj : ∀ x y c, X.env.cells.lookup x = some c → X.env.cells.lookup y = some c → x = y
  has : ∀ x, (X.env.kindOf x = some .cell ∨ X.env.kindOf x = some .free) → ∃ c, X.env.cells.lookup x = some c
  cab : ∀ x c, X.fn x = true → X.env.cells.lookup x = some c → X.s₀.heap.objs.size ≤ c
  hd : X.calm = true → X.A.handled = none
  frames : X.A.frames = some X.stack
  stk : X.stack = X.outer ∨ (X.stack = X.env :: X.outer ∧ X.env.frame = some X.env.locals)
  exf : ∀ b ∈ X.ex, b ≠ X.env.locals ∧ ∀ x c, X.env.cells.lookup x = some c → c ≠ b
  bs : ∀ b o, X.base.get? b = some o → X.s₀.heap.get? b = some o ∧ X.H₀ b = none
  bsz : X.base.objs.size ≤ X.s₀.heap.objs.size
  noex : ∀ b o, X.base.get? b = some o → b ∉ X.ex
  exfs : ∀ b ∈ X.ex, b ∉ X.fs
  funs : X.s₀.heap.FunFrames X.base X.outer
  frf : ∀ b ∈ X.fs, X.H₀ b = none
structure Inv (X : Cx) (pins : List (Addr × Obj)) (σ : List (Option V)) (H : Hp) (s : Shared) : Prop where
  ok : X.Ok
  os : s.os = X.s₀.os
  bare : AllBare s.gens
  base : Un X.fs X.ex X.H₀ H X.s₀.heap s.heap
  loc : ∃ m, s.heap.Ns X.env.locals m ∧ ∀ (i : Nat) (x : Str) (v : V), X.N[i]? = some x → σ[i]? = some (some v) → Vis X.env.scope x → ∃ u, RelV v u ∧ Look X.env s.heap m x u
  cell : ∀ x c, X.env.cells.lookup x = some c → ∃ v, s.heap.IsCell c v
  free : H X.env.locals = none
  freeC : ∀ x c, X.env.cells.lookup x = some c → H c = none
  pin : ∀ p ∈ X.pn ++ pins, s.heap.get? p.1 = some p.2 ∧ H p.1 = none ∧ p.1 ≠ X.env.locals ∧ p.1 ∉ X.fs ∧ ∀ v, p.2.data ≠ .cell v
  hok : HOk X.prog X.w H s.heap
  len : σ.length = X.N.length
section
variable {X : Cx} {pins : List (Addr × Obj)} {σ : List (Option V)} {H H' : Hp} {s : Shared} {h' : Heap}
theorem Cx.Ok.nofr (ok : X.Ok) {b : Addr} {o : Obj} (e : X.base.get? b = some o) : b ∉ X.fs := fun hb => by
  have := (ok.funs.mem hb).1
  rw [e] at this; cases this
theorem Inv.bs (I : Inv X pins σ H s) : ∀ b o, X.base.get? b = some o → s.heap.get? b = some o ∧ H b = none := fun b o e =>
  ⟨I.base.keep b o (I.ok.bs b o e).1 (I.ok.bs b o e).2 (I.ok.nofr e) (I.ok.noex b o e), I.base.free b o (I.ok.bs b o e).1 (I.ok.bs b o e).2 (I.ok.noex b o e)⟩
theorem Inv.bk (I : Inv X pins σ H s) : ∀ b o, X.base.get? b = some o → s.heap.get? b = some o := fun b o e => (I.bs b o e).1
theorem Inv.mod (I : Inv X pins σ H s) : Mod X.K X.mg X.base := I.ok.mod
theorem Inv.kIn (I : Inv X pins σ H s) : X.K.In s.heap := I.ok.mod.kin.keeps I.bk
theorem Inv.nolimit (I : Inv X pins σ H s) : s.heap.NoLimit := I.ok.mod.nolimit.keeps I.bk
theorem Inv.lt (I : Inv X pins σ H s) : X.env.locals < s.heap.objs.size := let ⟨_, hn, _⟩ := I.loc; hn.lt
theorem Inv.sz (I : Inv X pins σ H s) : X.s₀.heap.objs.size ≤ s.heap.objs.size := Nat.le_trans I.ok.above (Nat.le_of_lt I.lt)
theorem Inv.nofs (I : Inv X pins σ H s) {a : Addr} (h : s.heap.objs.size ≤ a) : a ∉ X.fs := fun hb => by
  obtain ⟨_, o, ho, _⟩ := I.ok.funs.mem hb
  exact absurd (Nat.lt_of_lt_of_le (Heap.lt_size ho) (Nat.le_trans I.sz h)) (Nat.lt_irrefl _)
theorem Inv.cne (I : Inv X pins σ H s) : ∀ x c, X.env.cells.lookup x = some c → c ≠ X.env.locals := fun x c e z => by
  obtain ⟨v, o, ho, hd⟩ := I.cell x c e
  obtain ⟨m, ⟨o', es, ep, ho', hd', _⟩, _⟩ := I.loc
  rw [z, ho'] at ho; cases ho; rw [hd'] at hd; cases hd
theorem Inv.funs (I : Inv X pins σ H s) : s.heap.FunFrames X.base X.outer := by
  have all : ∀ (l : List Env), (∀ b ∈ frs l, b ∈ X.fs) → X.s₀.heap.FunFrames X.base l → s.heap.FunFrames X.base l := by
    intro l
    induction l with
    | nil => intro _ _; trivial
    | cons env r ih =>
      intro hs hl
      obtain ⟨hk, ⟨L, o, hf, hn, ho, hd⟩, hr⟩ := hl
      have hL : L ∈ X.fs := hs L (by unfold frs; rw [List.filterMap_cons, hf]; exact List.mem_cons_self)
      obtain ⟨sl, e⟩ := I.base.slot L o ho (I.ok.frf L hL) hL fun z => I.ok.exfs L z hL
      exact ⟨hk, ⟨L, _, hf, hn, e, hd⟩, ih (fun b hb => hs b (by unfold frs; rw [List.filterMap_cons, hf]; exact List.mem_cons_of_mem _ hb)) hr⟩
  exact all X.outer (fun _ hb => hb) I.ok.funs
theorem Inv.stack (I : Inv X pins σ H s) : s.heap.FunFrames X.base X.stack := by
  rcases I.ok.stk with e | ⟨e, hf⟩
  · rw [e]; exact I.funs
  · rw [e]
    obtain ⟨m, hn, _⟩ := I.loc
    refine .cons (by rw [I.ok.kind]; decide) hf hn ?_ I.funs
    exact Heap.get?_none_of_le (Nat.le_trans I.ok.bsz I.ok.above)
theorem Inv.stkSub (I : Inv X pins σ H s) : ∀ b ∈ frs X.stack, b ∈ X.env.locals :: X.fs := fun b hb => by
  rcases I.ok.stk with e | ⟨e, hf⟩
  · rw [e] at hb; exact List.mem_cons_of_mem _ hb
  · rw [e] at hb
    unfold frs at hb
    rw [List.filterMap_cons, hf] at hb
    exact hb
theorem Inv.stkFree (I : Inv X pins σ H s) : ∀ b ∈ frs X.stack, H b = none := fun b hb => by
  rcases List.mem_cons.mp (I.stkSub b hb) with e | hb
  · rw [e]; exact I.free
  · obtain ⟨_, o, ho, _⟩ := I.ok.funs.mem hb
    exact I.base.free b o ho (I.ok.frf b hb) fun z => I.ok.exfs b z hb
theorem Inv.step {g' : Array GenState} {t' : Nat} {d' : Drawn} {ch : List Addr} (I : Inv X pins σ H s)
    (hch : ∀ b ∈ ch, (b ∈ X.ex ∨ X.s₀.heap.objs.size ≤ b) ∧ b ≠ X.env.locals ∧ (∀ x c, X.env.cells.lookup x = some c → c ≠ b) ∧ ∀ p ∈ X.pn ++ pins, p.1 ≠ b)
    (keep : ∀ b o, b ≠ X.env.locals → b ∉ X.fs → b ∉ ch → s.heap.get? b = some o → H b = none → h'.get? b = some o)
    (slot : ∀ b o, b ≠ X.env.locals → b ∈ X.fs → b ∉ ch → s.heap.get? b = some o → H b = none → ∃ sl, h'.get? b = some { o with slots := sl }) (free : ∀ b o, b ∉ ch → s.heap.get? b = some o → H b = none → H' b = none)
    (there : ∀ b o, b ∉ ch → s.heap.get? b = some o → ∃ o', h'.get? b = some o')
    (tups : ∀ b xs, H b = some (.tup xs) → H' b = some (.tup xs)) (frzs : ∀ b o u, H b = some (.frz o u) → H' b = some (.frz o u)) (tbls : ∀ b ps, H b = some (.tbl ps) → ∃ more, H' b = some (.tbl (ps ++ more)))
    (ns : ∀ m, s.heap.Ns X.env.locals m → h'.Ns X.env.locals m) (hok : HOk X.prog X.w H' h') (hg : AllBare g') :
    Inv X pins σ H' { s with heap := h', gens := g', drawn := d', toks := t' } := by
  have neL : ∀ b o, X.s₀.heap.get? b = some o → b ≠ X.env.locals := fun b o e => Nat.ne_of_lt (Nat.lt_of_lt_of_le (Heap.lt_size e) I.ok.above)
  have neC : ∀ b o, X.s₀.heap.get? b = some o → b ∉ X.ex → b ∉ ch := fun b o e hx hb => by
    rcases (hch b hb).1 with z | z
    · exact hx z
    · exact absurd (Nat.lt_of_lt_of_le (Heap.lt_size e) z) (Nat.lt_irrefl _)
  have cellK : ∀ x c, X.env.cells.lookup x = some c → ∀ v, s.heap.IsCell c v → h'.IsCell c v := fun x c e v ⟨o, ho, hd⟩ => by
    have nch : c ∉ ch := fun z => (hch c z).2.2.1 x c e rfl
    by_cases hc : c ∈ X.fs
    · obtain ⟨sl, q⟩ := slot c o (I.cne x c e) hc nch ho (I.freeC x c e)
      exact ⟨_, q, hd⟩
    · exact ⟨o, keep c o (I.cne x c e) hc nch ho (I.freeC x c e), hd⟩
  refine ⟨I.ok, I.os, hg, ⟨fun b o e n hb hx => ?_, fun b o e n hb hx => ?_, fun b o e n hx => ?_, fun b o e hx => ?_, fun b xs e => tups b xs (I.base.tups b xs e), fun b o xs e => frzs b o xs (I.base.frzs b o xs e), fun b ps e => ?_⟩, ?_, fun x c e => ?_, ?_, fun x c e => ?_, fun p hp => ?_, hok, I.len⟩
  · exact keep b o (neL b o e) hb (neC b o e hx) (I.base.keep b o e n hb hx) (I.base.free b o e n hx)
  · obtain ⟨sl, e1⟩ := I.base.slot b o e n hb hx
    obtain ⟨sl', e2⟩ := slot b _ (neL b o e) hb (neC b o e hx) e1 (I.base.free b o e n hx)
    exact ⟨sl', e2⟩
  · obtain ⟨o', e1⟩ := I.base.there b o e hx
    exact free b o' (neC b o e hx) e1 (I.base.free b o e n hx)
  · obtain ⟨o', e1⟩ := I.base.there b o e hx
    exact there b o' (neC b o e hx) e1
  · obtain ⟨m1, e1⟩ := I.base.tbls b ps e
    obtain ⟨m2, e2⟩ := tbls b _ e1
    exact ⟨m1 ++ m2, by rw [e2, Array.append_assoc]⟩
  · obtain ⟨m, hn, hl⟩ := I.loc
    refine ⟨m, ns m hn, fun i x v e1 e2 e3 => ?_⟩
    obtain ⟨u, r, l⟩ := hl i x v e1 e2 e3
    refine ⟨u, r, ?_⟩
    rcases l with l | ⟨k, c, e, z⟩
    · exact .inl l
    · exact .inr ⟨k, c, e, cellK x c e _ z⟩
  · obtain ⟨v, z⟩ := I.cell x c e
    exact ⟨v, cellK x c e v z⟩
  · obtain ⟨m, ⟨o, _, _, ho, _⟩, _⟩ := I.loc
    exact free _ o (fun z => (hch _ z).2.1 rfl) ho I.free
  · obtain ⟨v, o, ho, hd⟩ := I.cell x c e
    exact free c o (fun z => (hch c z).2.2.1 x c e rfl) ho (I.freeC x c e)
  · obtain ⟨e, n, ne, nf, d⟩ := I.pin p hp
    have nch : p.1 ∉ ch := fun z => (hch p.1 z).2.2.2 p hp rfl
    exact ⟨keep p.1 p.2 ne nf nch e n, free p.1 p.2 nch e n, ne, nf, d⟩
theorem Inv.un {t' : Nat} (I : Inv X pins σ H s) (u : Un X.fs [] H H' s.heap h') (hok : HOk X.prog X.w H' h') : Inv X pins σ H' { s with heap := h', toks := t' } := by
  obtain ⟨m, ⟨o, es, ep, ho, r⟩, _⟩ := id I.loc
  obtain ⟨sl, hL⟩ := u.any ho I.free (by simp)
  exact I.step (g' := s.gens) (d' := s.drawn) (ch := []) (fun _ z => nomatch z) (fun b o _ hb _ e n => u.keep b o e n hb (by simp)) (fun b o _ hb _ e n => u.slot b o e n hb (by simp)) (fun b o _ e n => u.free b o e n (by simp)) (fun b o _ e => u.there b o e (by simp)) u.tups u.frzs u.tbls (fun m' hm => by
    obtain ⟨o', es', ep', ho', r'⟩ := hm
    rw [ho] at ho'; cases ho'
    exact ⟨_, es', ep', hL, r'⟩) hok I.bare
theorem Inv.call {g' : Array GenState} {t' : Nat} {d' : Drawn} {ch : List Addr} (I : Inv X pins σ H s) (u : Un (frs X.stack) ch H H' s.heap h') (hok : HOk X.prog X.w H' h') (hg : AllBare g')
    (hch : ∀ b ∈ ch, (b ∈ X.ex ∨ X.s₀.heap.objs.size ≤ b) ∧ b ≠ X.env.locals ∧ (∀ x c, X.env.cells.lookup x = some c → c ≠ b) ∧ ∀ p ∈ X.pn ++ pins, p.1 ≠ b) :
    Inv X pins σ H' { s with heap := h', gens := g', drawn := d', toks := t' } := by
  obtain ⟨m, ⟨o, es, ep, ho, r⟩, _⟩ := id I.loc
  obtain ⟨sl, hL⟩ := u.any ho I.free fun z => (hch _ z).2.1 rfl
  exact I.step (ch := ch) hch (fun b o hL hb hc e n => u.keep b o e n (fun z => (List.mem_cons.mp (I.stkSub b z)).elim hL hb) hc) (fun b o _ _ hc e n => u.any e n hc) (fun b o hc e n => u.free b o e n hc) (fun b o hc e => u.there b o e hc) u.tups u.frzs u.tbls (fun m' hm => by
    obtain ⟨o', es', ep', ho', r'⟩ := hm
    rw [ho] at ho'; cases ho'
    exact ⟨_, es', ep', hL, r'⟩) hok hg
theorem Inv.turned {t' : Nat} {it : Addr} (I : Inv X pins σ H s) (k : ∀ b o, b ≠ it → s.heap.get? b = some o → h'.get? b = some o) (hn : H it = none) (hL : it ≠ X.env.locals)
    (h1 : it ∈ X.ex ∨ X.s₀.heap.objs.size ≤ it) (h2 : ∀ x c, X.env.cells.lookup x = some c → c ≠ it) (h3 : ∀ p ∈ X.pn ++ pins, p.1 ≠ it) : Inv X pins σ H { s with heap := h', toks := t' } := by
  have nit : ∀ b u, H b = some u → b ≠ it := fun b u e z => by rw [z, hn] at e; cases e
  refine I.step (g' := s.gens) (d' := s.drawn) (ch := [it]) (fun b hb => ?_) (fun b o _ _ hc e _ => k b o (fun z => hc (by simp [z])) e) (fun b o _ _ hc e _ => ⟨o.slots, k b o (fun z => hc (by simp [z])) e⟩) (fun _ _ _ _ n => n)
    (fun b o hc e => ⟨o, k b o (fun z => hc (by simp [z])) e⟩) (fun _ _ e => e) (fun _ _ _ e => e) (fun b ps e => ⟨#[], by rw [e]; simp⟩) (fun m hm => ?_) (fun b u e => ?_) I.bare
  · have e : b = it := by simpa using hb
    subst e
    exact ⟨h1, hL, h2, h3⟩
  · obtain ⟨o, es, ep, ho, r⟩ := hm
    exact ⟨o, es, ep, k _ o (Ne.symm hL) ho, r⟩
  · refine (I.hok b u e).stay (fun c v hc q => k c v ?_ q) (fun _ q => q) fun _ _ q => q
    rcases hc with z | z
    · rw [z]; exact nit b u e
    · exact nit c _ z
theorem Inv.tok (I : Inv X pins σ H s) (t : Nat) : Inv X pins σ H { s with toks := t } := I.un (h' := s.heap) (t' := t) Un.refl I.hok
theorem Inv.kept {t' : Nat} (I : Inv X pins σ H s) (k : ∀ b u, s.heap.get? b = some u → h'.get? b = some u) : Inv X pins σ H { s with heap := h', toks := t' } := I.un (Un.kept k) (I.hok.kept k)
theorem Inv.laid {a : Addr} {o : HO} {t' : Nat} (I : Inv X pins σ H s) (k : ∀ b u, s.heap.get? b = some u → h'.get? b = some u) (hp : s.heap.objs.size ≤ a) (new : ObjOk X.prog X.w (upd H a o) h' a o) :
    Inv X pins σ (upd H a o) { s with heap := h', toks := t' } := I.un (Un.laid k hp (I.hok.fresh hp)) (I.hok.laid k hp new)
theorem Inv.write {x e : Addr} {o : HO} {t' : Nat} (I : Inv X pins σ H s) (mu : Mut (H x)) (he : e = x ∨ H e = some (.own x)) (k : ∀ b u, b ≠ e → s.heap.get? b = some u → h'.get? b = some u) (heo : ∃ u, h'.get? e = some u)
    (new : ObjOk X.prog X.w (upd H x o) h' x o) : Inv X pins σ (upd H x o) { s with heap := h', toks := t' } := I.un (Un.write mu he k heo) (I.hok.write mu he k heo new)
theorem Inv.weak {σ' : List (Option V)} (I : Inv X pins σ H s) (hl : σ'.length = σ.length) (w : ∀ (i : Nat) v, σ'[i]? = some (some v) → σ[i]? = some (some v)) : Inv X pins σ' H s :=
  ⟨I.ok, I.os, I.bare, I.base, let ⟨m, hn, hl'⟩ := I.loc; ⟨m, hn, fun i x v e1 e2 e3 => hl' i x v e1 (w i v e2) e3⟩, I.cell, I.free, I.freeC, I.pin, I.hok, hl.trans I.len⟩
theorem Inv.pins_of {pins' : List (Addr × Obj)} (I : Inv X pins σ H s) (h : ∀ p ∈ pins', s.heap.get? p.1 = some p.2 ∧ H p.1 = none ∧ p.1 ≠ X.env.locals ∧ p.1 ∉ X.fs ∧ ∀ v, p.2.data ≠ .cell v) : Inv X pins' σ H s :=
  ⟨I.ok, I.os, I.bare, I.base, I.loc, I.cell, I.free, I.freeC, fun p hp => (List.mem_append.mp hp).elim (fun z => I.pin p (List.mem_append_left _ z)) (h p), I.hok, I.len⟩
theorem nodup_ix {N : List Str} (hN : N.Nodup) {i j : Nat} {x : Str} (a : N[i]? = some x) (b : N[j]? = some x) : i = j := by
  obtain ⟨h1, e1⟩ := List.getElem?_eq_some_iff.mp a
  obtain ⟨h2, e2⟩ := List.getElem?_eq_some_iff.mp b
  exact (List.getElem_inj hN).mp (e1.trans e2.symm)
theorem store_ok2 {M : Model} {A : Around} {E : Value → Shared → Prop} {i : Nat} {x : Str} {v : V} {u : Value} {Q : Unit → Shared → Prop} (I : Inv X pins σ H s) (hN : X.N.Nodup) (hi : X.N[i]? = some x) (hx : Loc X.env.scope x) (r : RelV v u)
    (h : ∀ s', Inv X pins (σ.set i (some v)) H s' → (∃ a, Heap.SameBut a s.heap s'.heap ∧ (a = X.env.locals ∨ X.env.cells.lookup x = some a)) → Q () s') (hf : X.fn x = true ∨ X.env.scope.names.lookup x = some .local := by with_unfolding_all (first | exact .inl rfl | exact .inr rfl | assumption)) : wpAny M A (storeName X.env x u) Q E s := by
  obtain ⟨m, hn, hl⟩ := id I.loc
  have hcls : (X.env.scope.kind == .class || (X.env.scope.kind == .module && X.env.locals != X.env.globals)) = false := by rw [I.ok.kind]; rfl
  have hiσ : i < σ.length := by rw [I.len]; exact (List.getElem?_eq_some_iff.mp hi).1
  have cne := I.cne
  have tracked : ∀ {a : Addr} {h' : Heap}, (∃ o, s.heap.get? a = some o ∧ H a = none) → Heap.SameBut a s.heap h' → HOk X.prog X.w H h' := fun {a h'} ha hs b ob e => by
    obtain ⟨_, _, hfree⟩ := ha
    refine (I.hok b ob e).stay (fun c w' hc q => (hs.2 c ?_).trans q) (fun _ q => q) fun _ _ q => q
    rintro rfl
    rcases hc with rfl | hc
    · rw [hfree] at e; cases e
    · rw [hfree] at hc; cases hc
  rcases hx with hk | hk
  · refine wpAny_storeName_local hk hn (fun h' hn' hs => ?_) hcls
    obtain ⟨oL, _, _, hoL, _⟩ := id hn
    refine h _ ⟨I.ok, I.os, I.bare, ⟨fun b o e n hb hx => ?_, fun b o e n hb hx => ?_, I.base.free, fun b o e hx => ?_, I.base.tups, I.base.frzs, I.base.tbls⟩, ⟨_, hn', fun j y v' e1 e2 e3 => ?_⟩, fun y c e => ?_, I.free, I.freeC, fun p hp => ?_, tracked ⟨oL, hoL, I.free⟩ hs, by simpa using I.len⟩ ⟨_, hs, .inl rfl⟩
    · exact (hs.2 b (Nat.ne_of_lt (Nat.lt_of_lt_of_le (Heap.lt_size e) I.ok.above))).trans (I.base.keep b o e n hb hx)
    · obtain ⟨sl, e1⟩ := I.base.slot b o e n hb hx
      exact ⟨sl, (hs.2 b (Nat.ne_of_lt (Nat.lt_of_lt_of_le (Heap.lt_size e) I.ok.above))).trans e1⟩
    · obtain ⟨o', e1⟩ := I.base.there b o e hx
      exact ⟨o', (hs.2 b (Nat.ne_of_lt (Nat.lt_of_lt_of_le (Heap.lt_size e) I.ok.above))).trans e1⟩
    · by_cases hj : j = i
      · subst hj
        rw [hi] at e1; cases e1
        rw [List.getElem?_set_self hiσ] at e2
        cases e2
        exact ⟨u, r, .inl ⟨hk, by simp⟩⟩
      · rw [List.getElem?_set_ne (Ne.symm hj)] at e2
        obtain ⟨u', r', q⟩ := hl j y v' e1 e2 e3
        refine ⟨u', r', ?_⟩
        rcases q with ⟨k, e⟩ | ⟨k, c, e, z⟩
        · refine .inl ⟨k, ?_⟩
          have : y ≠ x := fun e => hj (nodup_ix hN e1 (e ▸ hi))
          simp [this, e]
        · exact .inr ⟨k, c, e, z.sameBut hs (cne y c e)⟩
    · obtain ⟨w', z⟩ := I.cell y c e
      exact ⟨w', z.sameBut hs (cne y c e)⟩
    · obtain ⟨e, n, ne, nf, d⟩ := I.pin p hp
      exact ⟨(hs.2 p.1 ne).trans e, n, ne, nf, d⟩
  · have hfn : X.fn x = true := by
      rcases hf with z | z
      · exact z
      · rw [z] at hk; cases hk
    obtain ⟨c, hc⟩ := I.ok.has x (.inl hk)
    obtain ⟨w', z⟩ := I.cell x c hc
    refine wpAny_storeName_cell I.ok.kind hk hc z (fun h' hc' hs => ?_)
    obtain ⟨oc, hoc, hocd⟩ := id z
    refine h { s with heap := h' } ⟨I.ok, I.os, I.bare, ⟨fun b o e n hb hx => ?_, fun b o e n hb hx => ?_, I.base.free, fun b o e hx => ?_, I.base.tups, I.base.frzs, I.base.tbls⟩, ⟨m, hn.sameBut hs (Ne.symm (cne x c hc)), fun j y v' e1 e2 e3 => ?_⟩, fun y c' e => ?_, I.free, I.freeC, fun p hp => ?_, tracked ⟨oc, hoc, I.freeC x c hc⟩ hs, by simpa using I.len⟩ ⟨c, hs, .inr hc⟩
    · exact (hs.2 b (Nat.ne_of_lt (Nat.lt_of_lt_of_le (Heap.lt_size e) (I.ok.cab x c hfn hc)))).trans (I.base.keep b o e n hb hx)
    · obtain ⟨sl, e1⟩ := I.base.slot b o e n hb hx
      exact ⟨sl, (hs.2 b (Nat.ne_of_lt (Nat.lt_of_lt_of_le (Heap.lt_size e) (I.ok.cab x c hfn hc)))).trans e1⟩
    · obtain ⟨o', e1⟩ := I.base.there b o e hx
      exact ⟨o', (hs.2 b (Nat.ne_of_lt (Nat.lt_of_lt_of_le (Heap.lt_size e) (I.ok.cab x c hfn hc)))).trans e1⟩
    · by_cases hj : j = i
      · subst hj
        rw [hi] at e1; cases e1
        rw [List.getElem?_set_self hiσ] at e2
        cases e2
        exact ⟨u, r, .inr ⟨.inl hk, c, hc, hc'⟩⟩
      · rw [List.getElem?_set_ne (Ne.symm hj)] at e2
        obtain ⟨u', r', q⟩ := hl j y v' e1 e2 e3
        refine ⟨u', r', ?_⟩
        rcases q with q | ⟨k, c', e, z'⟩
        · exact .inl q
        · refine .inr ⟨k, c', e, z'.sameBut hs ?_⟩
          rintro rfl
          exact hj (nodup_ix hN e1 (I.ok.inj _ _ _ e hc ▸ hi))
    · by_cases hcc : c' = c
      · subst hcc; exact ⟨_, hc'⟩
      · obtain ⟨w2, z2⟩ := I.cell y c' e
        exact ⟨w2, z2.sameBut hs hcc⟩
    · obtain ⟨e, n, ne, nf, d⟩ := I.pin p hp
      refine ⟨(hs.2 p.1 ?_).trans e, n, ne, nf, d⟩
      intro q
      rw [q, hoc] at e
      have q' : oc = p.2 := Option.some.inj e
      exact d w' (by rw [← q']; exact hocd)
theorem store_ok {M : Model} {A : Around} {E : Value → Shared → Prop} {i : Nat} {x : Str} {v : V} {u : Value} {Q : Unit → Shared → Prop} (I : Inv X pins σ H s) (hN : X.N.Nodup) (hi : X.N[i]? = some x) (hx : Loc X.env.scope x) (r : RelV v u)
    (h : ∀ s', Inv X pins (σ.set i (some v)) H s' → Q () s') (hf : X.fn x = true ∨ X.env.scope.names.lookup x = some .local := by with_unfolding_all (first | exact .inl rfl | exact .inr rfl | assumption)) : wpAny M A (storeName X.env x u) Q E s :=
  store_ok2 I hN hi hx r (fun s' I' _ => h s' I') hf
theorem Inv.call' {s' : Shared} {ch : List Addr} (I : Inv X pins σ H s) (ho : s'.os = s.os) (u : Un (frs X.stack) ch H H' s.heap s'.heap) (hok : HOk X.prog X.w H' s'.heap) (hg : AllBare s'.gens)
    (hch : ∀ b ∈ ch, (b ∈ X.ex ∨ X.s₀.heap.objs.size ≤ b) ∧ b ≠ X.env.locals ∧ (∀ x c, X.env.cells.lookup x = some c → c ≠ b) ∧ ∀ p ∈ X.pn ++ pins, p.1 ≠ b) : Inv X pins σ H' s' := by
  obtain ⟨h', g', d', t', o'⟩ := s'
  have e : o' = s.os := ho
  subst e
  exact I.call (g' := g') (t' := t') (d' := d') u hok hg hch
end
noncomputable abbrev XK := Value → Option Addr → Hp → Prop
noncomputable abbrev St := List (Option V)
noncomputable abbrev VK := V → Hp → Prop
noncomputable abbrev TE := St → Hp → VK → Prop
noncomputable abbrev TT := St → Hp → (Bool → Hp → Prop) → Prop
noncomputable abbrev TA := St → Hp → (List V → Hp → Prop) → Prop
structure Ends where
  nx : St → Hp → Prop
  rt : VK
  bk : St → Hp → Prop := fun _ _ => False
  ct : St → Hp → Prop := fun _ _ => False
noncomputable abbrev TS := Ends → St → Hp → Prop
noncomputable def EP (X : Cx) (pins : List (Addr × Obj)) (σ : St) (Q : VK) (u : Value) (s' : Shared) : Prop := ∃ v H', Inv X pins σ H' s' ∧ RelV v u ∧ Q v H'
noncomputable def TP (X : Cx) (pins : List (Addr × Obj)) (σ : St) (Q : Bool → Hp → Prop) (b : Bool) (s' : Shared) : Prop := ∃ H', Inv X pins σ H' s' ∧ Q b H'
noncomputable def AP (X : Cx) (pins : List (Addr × Obj)) (σ : St) (Q : List V → Hp → Prop) (us : List Value) (s' : Shared) : Prop := ∃ vs H', Inv X pins σ H' s' ∧ Vals vs us ∧ Q vs H'
noncomputable def SP (X : Cx) (pins : List (Addr × Obj)) (D : Ends) (f : Flow) (s' : Shared) : Prop :=
  match f with
  | .next => ∃ σ' H', Inv X pins σ' H' s' ∧ D.nx σ' H'
  | .brk => ∃ σ' H', Inv X pins σ' H' s' ∧ D.bk σ' H'
  | .cont => ∃ σ' H', Inv X pins σ' H' s' ∧ D.ct σ' H'
  | .ret u => ∃ v σ' H', Inv X pins σ' H' s' ∧ RelV v u ∧ D.rt v H'
noncomputable def PE (X : Cx) (e : Expr) (t : TE) : Prop :=
  ∀ (pins : List (Addr × Obj)) (s : Shared) (σ : St) (H : Hp) (Q : VK), Inv X pins σ H s → t σ H Q → wpAny (model X.prog X.w) X.A (eval e X.env) (EP X pins σ Q) X.xe s
noncomputable def PT (X : Cx) (e : Expr) (t : TT) : Prop :=
  ∀ (pins : List (Addr × Obj)) (s : Shared) (σ : St) (H : Hp) (Q : Bool → Hp → Prop), Inv X pins σ H s → t σ H Q → wpAny (model X.prog X.w) X.A (isTrue e X.env (eval e X.env)) (TP X pins σ Q) X.xe s
noncomputable def PW (X : Cx) (e : Expr) (t : TT) : Prop :=
  ∀ (whole : Sem Value) (pins : List (Addr × Obj)) (s : Shared) (σ : St) (H : Hp) (Q : Bool → Hp → Prop), Inv X pins σ H s → t σ H Q → wpAny (model X.prog X.w) X.A (isTrue e X.env whole) (TP X pins σ Q) X.xe s
theorem PW.pt {X : Cx} {e : Expr} {t : TT} (h : PW X e t) : PT X e t := h _
noncomputable def PA (X : Cx) (es : List Expr) (t : TA) : Prop :=
  ∀ (pos : Pos) (pins : List (Addr × Obj)) (s : Shared) (σ : St) (H : Hp) (Q : List V → Hp → Prop), Inv X pins σ H s → t σ H Q → wpAny (model X.prog X.w) X.A (spliced (backTo pos (starEach es X.env))) (AP X pins σ Q) X.xe s
noncomputable def PS (X : Cx) (st : Stmt) (t : TS) : Prop :=
  ∀ (pins : List (Addr × Obj)) (s : Shared) (σ : St) (H : Hp) (D : Ends), Inv X pins σ H s → t D σ H → wpAny (model X.prog X.w) X.A (exec st X.env) (SP X pins D) X.xe s
noncomputable def PSs (X : Cx) (st : List Stmt) (t : TS) : Prop :=
  ∀ (pins : List (Addr × Obj)) (s : Shared) (σ : St) (H : Hp) (D : Ends), Inv X pins σ H s → t D σ H → wpAny (model X.prog X.w) X.A (execs st X.env) (SP X pins D) X.xe s
theorem thn {α : Type} {t : Sem α} {Q Q' : α → Shared → Prop} {M : Model} {A : Around} {E : Value → Shared → Prop} {s : Shared} (h : wpAny M A t Q E s) (hQ : ∀ a s, Q a s → Q' a s) : wpAny M A t Q' E s := wpAny_mono h hQ fun _ _ x => x
end L2
namespace L2
open PySem PySem.Spec PyProof.Rows
section
variable {X : Cx}
noncomputable def tVar (i : Nat) : TE := fun σ H Q => ∃ v, σ[i]? = some (some v) ∧ Q v H
noncomputable def tC (v : V) : TE := fun _ H Q => Q v H
theorem pe_var {i : Nat} {x : Str} {pos : Pos} (hN : X.N[i]? = some x) (hv : Vis X.env.scope x) (hd : (x == ("__debug__" : Str)) = false := by decide) (hcd : (x == ("__classdict__" : Str)) = false := by decide) : PE X (.Name x pos) (tVar i) := by
  intro pins s σ H Q I h
  obtain ⟨v, e, h⟩ := h
  obtain ⟨m, hn, hl⟩ := I.loc
  obtain ⟨u, r, l⟩ := hl i x v hN e hv
  have fin : EP X pins σ Q u s := ⟨v, H, I, r, h⟩
  rcases l with ⟨hk, hm⟩ | ⟨hk, c, hc, hcell⟩
  · exact wpAny_Name (wpAny_loadName_local I.ok.kind hk hn hm fin) hd
  · rcases hk with hk | hk
    · exact wpAny_Name (wpAny_loadName_cell I.ok.kind hk hc hcell fin) hd
    · exact wpAny_Name (wpAny_loadName_free I.ok.kind hk hc hcell fin hcd) hd
theorem pe_int {i j pos} : PE X (.Constant (.int i) j pos) (tC (.int i)) := fun _ _ _ H _ I h => wpAny_Constant_int ⟨.int i, H, I.tok _, ⟨_, rfl⟩, h⟩
theorem pe_bl {b j pos} : PE X (.Constant (.bool b) j pos) (tC (.bl b)) := fun _ _ _ H _ I h => Constant_bool ⟨.bl b, H, I, rfl, h⟩
theorem pe_str {x j pos} : PE X (.Constant (.str x) j pos) (tC (.str x)) := fun _ _ _ H _ I h => Calls.Constant_str ⟨.str x, H, I.tok _, ⟨_, rfl⟩, h⟩
noncomputable def Gl (X : Cx) (x : Str) : Prop := X.env.kindOf x = some .globalImplicit
theorem ld_glob {E : Value → Shared → Prop} {pins : List (Addr × Obj)} {s : Shared} {σ : St} {H : Hp} {x : Str} {u : Value} {pos : Pos} {Q : Value → Shared → Prop} (I : Inv X pins σ H s) (hg : Gl X x) (hm : X.mg x = some u) (h : Q u s)
    (hd : (x == ("__debug__" : Str)) = false := by decide) : wpAny (model X.prog X.w) X.A (eval (.Name x pos) X.env) Q E s :=
  Calls.Name_function_global I.ok.kind hg (Calls.loadGlobal_global (by rw [I.ok.glob]; exact I.mod.glob.keeps I.bk) hm h) hd
theorem ld_blt {E : Value → Shared → Prop} {pins : List (Addr × Obj)} {s : Shared} {σ : St} {H : Hp} {x : Str} {u : Value} {pos : Pos} {Q : Value → Shared → Prop} (I : Inv X pins σ H s) (hg : Gl X x) (hm : X.mg x = none) (hv : bootBuiltins x = some u) (h : Q u s)
    (hn : x ≠ "__name__" := by decide) (hd : (x == ("__debug__" : Str)) = false := by decide) : wpAny (model X.prog X.w) X.A (eval (.Name x pos) X.env) Q E s := by
  obtain ⟨mb, h1, h2⟩ := I.mod.blt
  exact Calls.Name_function_global I.ok.kind hg (Calls.loadGlobal_builtin (by rw [I.ok.glob]; exact I.mod.glob.keeps I.bk) hm (by rw [I.ok.blt]; exact h1.keeps I.bk) ((h2 x hn).trans hv) h) hd
theorem pe_bltn {x : Str} {v : V} {u : Value} {pos : Pos} (hg : Gl X x) (hm : X.mg x = none) (hv : bootBuiltins x = some u) (r : RelV v u) (hn : x ≠ "__name__" := by decide) (hd : (x == ("__debug__" : Str)) = false := by decide) : PE X (.Name x pos) (tC v) :=
  fun _ _ _ H _ I h => ld_blt I hg hm hv ⟨v, H, I, r, h⟩ hn hd
variable {a b : Expr} {ta tb : TE} {pos : Pos}
noncomputable def tB (t : TE) : TT := fun σ H Q => t σ H fun x H1 => ∃ c, x = .bl c ∧ Q c H1
theorem pt_val {e : Expr} {t : TE} (h : PE X e t) (he : ∀ whole, isTrue e X.env whole = (do let v ← whole; standAt e.pos; holding [v] (truthy v)) := by intro _; with_unfolding_all rfl) : PT X e (tB t) := by
  intro pins s σ H Q I hw
  refine isTrue_plain (thn (h pins s σ H _ I hw) fun v s1 ⟨x, H1, I1, r1, q1⟩ => ?_) (he _)
  obtain ⟨d, rfl, q⟩ := q1
  cases r1
  exact wpAny_truthy_bool ⟨H1, I1, q⟩
variable {tA tB' : TT} {rest : List Expr}
noncomputable def tAnd (t u : TT) : TT := fun σ H Q => t σ H fun c H1 => if c = true then u σ H1 Q else Q false H1
noncomputable def tOr (t u : TT) : TT := fun σ H Q => t σ H fun c H1 => if c = true then Q true H1 else u σ H1 Q
noncomputable def tNot (t : TT) : TT := fun σ H Q => t σ H fun c H1 => Q (!c) H1
theorem pw_and1 (ha : PT X a tA) : PW X (.BoolOp .And [a] pos) tA := by
  intro wh pins s σ H Q I h
  refine isTrue_and (thn (ha pins s σ H Q I h) fun c s1 e => ?_)
  cases c with
  | true => exact isTrue_and_nil e
  | false => exact e
theorem pw_or1 (ha : PT X a tA) : PW X (.BoolOp .Or [a] pos) tA := by
  intro wh pins s σ H Q I h
  refine isTrue_or (thn (ha pins s σ H Q I h) fun c s1 e => ?_)
  cases c with
  | false => exact isTrue_or_nil e
  | true => exact e
theorem pw_and (ha : PT X a tA) (hb : PW X (.BoolOp .And (b :: rest) pos) tB') : PW X (.BoolOp .And (a :: b :: rest) pos) (tAnd tA tB') := by
  intro wh pins s σ H Q I h
  refine isTrue_and (thn (ha pins s σ H _ I h) fun c s1 ⟨H1, I1, q1⟩ => ?_)
  cases c with
  | true => exact hb wh pins s1 σ H1 Q I1 q1
  | false => exact ⟨H1, I1, q1⟩
theorem pw_or (ha : PT X a tA) (hb : PW X (.BoolOp .Or (b :: rest) pos) tB') : PW X (.BoolOp .Or (a :: b :: rest) pos) (tOr tA tB') := by
  intro wh pins s σ H Q I h
  refine isTrue_or (thn (ha pins s σ H _ I h) fun c s1 ⟨H1, I1, q1⟩ => ?_)
  cases c with
  | true => exact ⟨H1, I1, q1⟩
  | false => exact hb wh pins s1 σ H1 Q I1 q1
theorem pt_not (ha : PT X a tA) : PT X (.UnaryOp .Not a pos) (tNot tA) := by
  intro pins s σ H Q I h
  exact isTrue_not (ha pins s σ H (fun c H1 => Q (!c) H1) I h)
noncomputable def tAndV (ta tb : TE) : TE := fun σ H Q => ta σ H fun x H1 => ∃ c, x = .bl c ∧ if c = true then tb σ H1 Q else Q (.bl false) H1
noncomputable def tOrV (ta tb : TE) : TE := fun σ H Q => ta σ H fun x H1 => ∃ c, x = .bl c ∧ if c = true then Q (.bl true) H1 else tb σ H1 Q
noncomputable def tNotV (ta : TE) : TE := fun σ H Q => ta σ H fun x H1 => ∃ c, x = .bl c ∧ Q (.bl (!c)) H1
theorem pe_one {op} {t : TE} (h : PE X a t) : PE X (.BoolOp op [a] pos) t := fun pins s σ H Q I hw => BoolOp_one (h pins s σ H Q I hw)
theorem pe_and (ha : PE X a ta) (hb : PE X (.BoolOp .And (b :: rest) pos) tb) : PE X (.BoolOp .And (a :: b :: rest) pos) (tAndV ta tb) := by
  intro pins s σ H Q I h
  refine BoolOp_and (thn (ha pins s σ H _ I h) fun v s1 ⟨x, H1, I1, r1, q1⟩ => ?_)
  obtain ⟨c, rfl, q1⟩ := q1
  cases r1
  refine wpAny_truthy_bool ?_
  cases c with
  | true => exact hb pins s1 σ H1 Q I1 q1
  | false => exact ⟨.bl false, H1, I1, rfl, q1⟩
end
end L2
namespace L2
open PySem PySem.Spec PyProof.Rows
noncomputable def SqL (K : PySem.W.Frag) (H : Hp) (a : Addr) (xs : List V) : Prop :=
  Rd H a (.lst xs) ∨
    ∃ (o : Obj) (its : Array Value) (n : Nat), K.lookup a = some o ∧ o.cls = .type "list" ∧ o.dict = none ∧ o.data = .seq its n ∧ its.size ≤ sizeLine ∧ Vals xs its.toList
noncomputable def SqT (K : PySem.W.Frag) (H : Hp) (a : Addr) (xs : List V) : Prop :=
  Rd H a (.tup xs) ∨
    ∃ (o : Obj) (its : Array Value) (n : Nat), K.lookup a = some o ∧ o.cls = .type "tuple" ∧ o.data = .seq its n ∧ its.size ≤ sizeLine ∧ Vals xs its.toList ∧ o.dict = none
noncomputable def absV : Value → Option V
  | .none => some .non
  | .bool b => some (.bl b)
  | .int i _ => some (.int i)
  | .str x _ => some (.str x)
  | .bytes b _ => some (.byt b)
  | .float b _ => some (.flt b)
  | .ref a => some (.ref a)
  | .type n => some (.ty n)
  | _ => none
theorem RelV.abs {x : V} {u : Value} (r : RelV x u) : absV u = some x := by
  cases x with
  | non => cases r; rfl
  | bl _ => cases r; rfl
  | int _ => obtain ⟨t, rfl⟩ := r; rfl
  | str _ => obtain ⟨t, rfl⟩ := r; rfl
  | byt _ => obtain ⟨t, rfl⟩ := r; rfl
  | flt _ => obtain ⟨t, rfl⟩ := r; rfl
  | ref _ => cases r; rfl
  | ty _ => cases r; rfl
theorem RelV.inj {x y : V} {u : Value} (r : RelV x u) (q : RelV y u) : x = y := Option.some.inj (r.abs.symm.trans q.abs)
theorem Vals.inj : ∀ {xs ys : List V} {us : List Value}, Vals xs us → Vals ys us → xs = ys
  | _, _, _, .nil, .nil => rfl
  | _, _, _, .cons r t, .cons r' t' => by rw [r.inj r', Vals.inj t t']
section
variable {X : Cx} {pins : List (Addr × Obj)} {σ : St} {H : Hp} {s : Shared} {a : Addr} {xs ys : List V}
theorem SqL.of {K : PySem.W.Frag} (h : H a = some (.lst xs)) : SqL K H a xs := .inl (.inl h)
theorem SqT.of {K : PySem.W.Frag} (h : H a = some (.tup xs)) : SqT K H a xs := .inl (.inl h)
theorem Inv.list (I : Inv X pins σ H s) (h : SqL X.K H a xs) : ∃ its : List Value, Vals xs its ∧ PlainL s.heap a its.toArray ∧ xs.length ≤ sizeLine := by
  rcases h with h | ⟨o, its, n, hk, hc, hd, hs, hz, r⟩
  · obtain ⟨z, its, n, r, e⟩ := h.ok I.hok
    exact ⟨its, r, ⟨_, n, e, rfl, rfl, rfl⟩, z⟩
  · refine ⟨its.toList, r, ⟨o, n, I.kIn a o hk, hc, hd, by simpa using hs⟩, ?_⟩
    have e := r.length
    simp only [Array.length_toList] at e
    omega
theorem Inv.tuple (I : Inv X pins σ H s) (h : SqT X.K H a xs) : ∃ its : List Value, Vals xs its ∧ IsTup s.heap a its.toArray ∧ xs.length ≤ sizeLine := by
  rcases h with h | ⟨o, its, n, hk, hc, hs, hz, r, hn⟩
  · obtain ⟨z, its, r, p⟩ := h.ok I.hok
    exact ⟨its, r, p.tup, z⟩
  · refine ⟨its.toList, r, ⟨o, I.kIn a o hk, hc, n, by simpa using hs⟩, ?_⟩
    have e := r.length
    simp only [Array.length_toList] at e
    omega
theorem Inv.tupleN (I : Inv X pins σ H s) (h : SqT X.K H a xs) : ∃ ob, s.heap.get? a = some ob ∧ ob.dict = none := by
  rcases h with h | ⟨o, its, n, hk, hc, hs, hz, r, hn⟩
  · obtain ⟨z, its, r, o, h1, _, _, h2⟩ := h.ok I.hok
    exact ⟨o, h1, h2⟩
  · exact ⟨o, I.kIn a o hk, hn⟩
theorem Inv.list_inj (I : Inv X pins σ H s) (h : SqL X.K H a xs) (h' : SqL X.K H a ys) : xs = ys := by
  obtain ⟨its, r, ⟨o, n, e, _, _, d⟩, _⟩ := I.list h
  obtain ⟨its', r', ⟨o', n', e', _, _, d'⟩, _⟩ := I.list h'
  rw [e] at e'; cases e'
  rw [d] at d'
  injection d' with d1 _
  have : its = its' := by simpa using congrArg Array.toList d1
  subst this
  exact r.inj r'
theorem Inv.tuple_inj (I : Inv X pins σ H s) (h : SqT X.K H a xs) (h' : SqT X.K H a ys) : xs = ys := by
  obtain ⟨its, r, ⟨o, e, _, n, d⟩, _⟩ := I.tuple h
  obtain ⟨its', r', ⟨o', e', _, n', d'⟩, _⟩ := I.tuple h'
  rw [e] at e'; cases e'
  rw [d] at d'
  injection d' with d1 _
  have : its = its' := by simpa using congrArg Array.toList d1
  subst this
  exact r.inj r'
end
noncomputable abbrev Cx.wish (X : Cx) (E : Value → Shared → Prop) : Cx := { X with xe := E }
noncomputable abbrev Cx.nox (X : Cx) : Cx := X.wish fun _ _ => False
theorem Cx.Ok.wish {X : Cx} (ok : X.Ok) (E : Value → Shared → Prop) : (X.wish E).Ok :=
  ⟨ok.mod, ok.kind, ok.glob, ok.blt, ok.above, ok.inj, ok.has, ok.cab, ok.hd, ok.frames, ok.stk, ok.exf, ok.bs, ok.bsz, ok.noex, ok.exfs, ok.funs, ok.frf⟩
theorem Cx.Ok.unwish {X : Cx} {E : Value → Shared → Prop} (ok : (X.wish E).Ok) : X.Ok :=
  ⟨ok.mod, ok.kind, ok.glob, ok.blt, ok.above, ok.inj, ok.has, ok.cab, ok.hd, ok.frames, ok.stk, ok.exf, ok.bs, ok.bsz, ok.noex, ok.exfs, ok.funs, ok.frf⟩
section
variable {X : Cx} {pins : List (Addr × Obj)} {σ : St} {H : Hp} {s : Shared} {E : Value → Shared → Prop}
theorem Inv.wish (I : Inv X pins σ H s) (E : Value → Shared → Prop) : Inv (X.wish E) pins σ H s := ⟨I.ok.wish E, I.os, I.bare, I.base, I.loc, I.cell, I.free, I.freeC, I.pin, I.hok, I.len⟩
theorem Inv.unwish (I : Inv (X.wish E) pins σ H s) : Inv X pins σ H s := ⟨I.ok.unwish, I.os, I.bare, I.base, I.loc, I.cell, I.free, I.freeC, I.pin, I.hok, I.len⟩
theorem SP.unwish {D : Ends} {f : Flow} {s' : Shared} (h : SP (X.wish E) pins D f s') : SP X pins D f s' := by
  cases f with
  | next => obtain ⟨σ', H', I, q⟩ := h; exact ⟨σ', H', I.unwish, q⟩
  | brk => obtain ⟨σ', H', I, q⟩ := h; exact ⟨σ', H', I.unwish, q⟩
  | cont => obtain ⟨σ', H', I, q⟩ := h; exact ⟨σ', H', I.unwish, q⟩
  | ret u => obtain ⟨v, σ', H', I, r, q⟩ := h; exact ⟨v, σ', H', I.unwish, r, q⟩
theorem PE.nox {e : Expr} {t : TE} (h : PE X.nox e t) : PE X e t := fun pins s σ H Q I hw =>
  wpAny_mono (h pins s σ H Q (I.wish _) hw) (fun _ _ ⟨v, H', I', r, q⟩ => ⟨v, H', I'.unwish, r, q⟩) fun _ _ z => False.elim z
theorem PT.nox {e : Expr} {t : TT} (h : PT X.nox e t) : PT X e t := fun pins s σ H Q I hw =>
  wpAny_mono (h pins s σ H Q (I.wish _) hw) (fun _ _ ⟨H', I', q⟩ => ⟨H', I'.unwish, q⟩) fun _ _ z => False.elim z
theorem PSs.nox {st : List Stmt} {t : TS} (h : PSs X.nox st t) : PSs X st t := fun pins s σ H D I hw =>
  wpAny_mono (h pins s σ H D (I.wish _) hw) (fun _ _ q => q.unwish) fun _ _ z => False.elim z
end
section
variable {X : Cx} {st : Stmt} {rest : List Stmt} {t u : TS} {e : Expr} {te : TE} {pos : Pos}
noncomputable def tNext : TS := fun D σ H => D.nx σ H
noncomputable def tSeq (t u : TS) : TS := fun D σ H => t { D with nx := u D } σ H
theorem pss_nil : PSs X [] tNext := fun _ _ σ H _ I h => wpAny_execs_nil ⟨σ, H, I, h⟩
theorem pss_cons (h1 : PS X st t) (h2 : PSs X rest u) : PSs X (st :: rest) (tSeq t u) := by
  intro pins s σ H D I h
  refine wpAny_execs_cons (thn (h1 pins s σ H { D with nx := u D } I h) fun f s1 q => ?_)
  cases f with
  | next =>
    obtain ⟨σ', H', I', q⟩ := q
    exact h2 pins s1 σ' H' D I' q
  | ret v => exact q
  | brk => exact q
  | cont => exact q
theorem pss_one (h1 : PS X st t) : PSs X [st] t := by
  intro pins s σ H D I h
  refine wpAny_execs_cons (thn (h1 pins s σ H D I h) fun f s1 q => ?_)
  cases f with
  | next => exact wpAny_execs_nil q
  | ret v => exact q
  | brk => exact q
  | cont => exact q
theorem Inv.quiet {pins : List (Addr × Obj)} {σ : St} {H : Hp} {s : Shared} (I : Inv X pins σ H s) : interactive X.env = false := by simp [interactive, I.ok.kind]
noncomputable def tDrop (te : TE) : TS := fun D σ H => te σ H fun _ H1 => D.nx σ H1
theorem ps_expr (he : PE X e te) (hs : swapsWith e none pos.line X.env = pure false := by with_unfolding_all rfl) : PS X (.Expr e pos) (tDrop te) := by
  intro pins s σ H D I h
  exact wpAny_Expr_any (thn (he pins s σ H _ I h) fun v s1 ⟨x, H1, I1, r1, q1⟩ => ⟨σ, H1, I1, q1⟩) I.quiet hs
noncomputable def tRet (te : TE) : TS := fun D σ H => te σ H D.rt
theorem ps_ret (he : PE X e te) : PS X (.Return (some e) pos) (tRet te) := by
  intro pins s σ H D I h
  exact wpAny_Return_some (thn (he pins s σ H _ I h) fun v s1 ⟨x, H1, I1, r1, q1⟩ => ⟨x, σ, H1, I1, r1, q1⟩)
noncomputable def tIfS (c : TT) (t u : TS) : TS := fun D σ H => c σ H fun b H1 => if b = true then t D σ H1 else u D σ H1
theorem ps_if {c : Expr} {a b : List Stmt} {tc : TT} (hc : PT X c tc) (ha : PSs X a t) (hb : PSs X b u) : PS X (.If c a b pos) (tIfS tc t u) := by
  intro pins s σ H D I h
  refine wpAny_If (thn (hc pins s σ H _ I h) fun d s1 ⟨H1, I1, q1⟩ => ?_)
  cases d with
  | true => exact ha pins s1 σ H1 D I1 q1
  | false => exact hb pins s1 σ H1 D I1 q1
end
noncomputable abbrev TG := V → St → Hp → (St → Hp → Prop) → Prop
noncomputable abbrev TGs := List V → St → Hp → (St → Hp → Prop) → Prop
noncomputable def PG (X : Cx) (target : Expr) (t : TG) : Prop :=
  ∀ (pins : List (Addr × Obj)) (s : Shared) (σ : St) (H : Hp) (v : V) (u : Value) (Q : St → Hp → Prop), Inv X pins σ H s → RelV v u → t v σ H Q →
    wpAny (model X.prog X.w) X.A (assign target X.env u) (fun _ s' => ∃ σ' H', Inv X pins σ' H' s' ∧ Q σ' H') X.xe s
noncomputable def PGs (X : Cx) (ts : List Expr) (t : TGs) : Prop :=
  ∀ (pins : List (Addr × Obj)) (s : Shared) (σ : St) (H : Hp) (vs : List V) (us : List Value) (Q : St → Hp → Prop), Inv X pins σ H s → Vals vs us → t vs σ H Q →
    wpAny (model X.prog X.w) X.A (assignInOrder ((assignEach ts X.env).map (·.2)) us) (fun _ s' => ∃ σ' H', Inv X pins σ' H' s' ∧ Q σ' H') X.xe s
section
variable {X : Cx} {pos : Pos}
noncomputable def gName (i : Nat) : TG := fun v σ H Q => Q (σ.set i (some v)) H
theorem pg_name {i : Nat} {x : Str} (hN : X.N.Nodup) (hi : X.N[i]? = some x) (hx : Loc X.env.scope x) (hf : X.fn x = true ∨ X.env.scope.names.lookup x = some .local := by with_unfolding_all (first | exact .inl rfl | exact .inr rfl | assumption)) : PG X (.Name x pos) (gName i) := by
  intro pins s σ H v u Q I r h
  exact wpAny_assign_Name (store_ok I hN hi hx r (fun s' I' => ⟨_, H, I', h⟩) hf)
noncomputable def gNil : TGs := fun vs σ H Q => vs = [] ∧ Q σ H
noncomputable def gCons (t : TG) (u : TGs) : TGs := fun vs σ H Q => ∃ v r, vs = v :: r ∧ t v σ H fun σ' H' => u r σ' H' Q
theorem pgs_nil : PGs X [] gNil := by
  intro pins s σ H vs us Q I r h
  obtain ⟨e, h⟩ := h
  subst e
  cases r
  exact assignInOrder_nil ⟨σ, H, I, h⟩
theorem pgs_cons {e : Expr} {es : List Expr} {t : TG} {u : TGs} (h1 : PG X e t) (h2 : PGs X es u)
    (hs : (assignEach (e :: es) X.env).map (·.2) = assign e X.env :: (assignEach es X.env).map (·.2) := by with_unfolding_all rfl) : PGs X (e :: es) (gCons t u) := by
  intro pins s σ H vs us Q I r h
  obtain ⟨v, vr, e1, h⟩ := h
  subst e1
  cases r with
  | cons r rr =>
    rw [hs]
    refine assignInOrder_cons (thn (h1 pins s σ H _ _ _ I r h) fun _ s1 ⟨σ1, H1, I1, q1⟩ => ?_)
    exact h2 pins s1 σ1 H1 _ _ Q I1 rr q1
noncomputable def gTup (K : PySem.W.Frag) (n : Nat) (t : TGs) : TG := fun v σ H Q => ∃ a xs, v = .ref a ∧ SqT K H a xs ∧ xs.length = n ∧ t xs σ H Q
theorem pg_tup {es : List Expr} {k : Nat} {t : TGs} {n : Nat} (hc : X.calm = true) (h : PGs X es t)
    (hn : (assignEach es X.env).length = n := by with_unfolding_all rfl) (hst : (assignEach es X.env).findIdx? (·.1) = none := by with_unfolding_all rfl) : PG X (.Tuple es k pos) (gTup X.K n t) := by
  intro pins s σ H v u Q I r hw
  obtain ⟨a, xs, e1, hq, hl, hw⟩ := hw
  subst e1
  cases r
  obtain ⟨its, rv, ht, hz⟩ := I.tuple hq
  refine assign_Tuple_tuple (I.ok.hd hc) ht (by simp [hn, ← hl, rv.length]) hst fun h' hx => ?_
  have I1 : Inv X pins σ H { s with heap := h' } := I.kept (t' := s.toks) fun b o e => hx b o (Nat.ne_of_lt (Heap.lt_size e)) e
  exact h pins _ σ H xs _ Q I1 (by simpa using rv) hw
noncomputable def tAsg (te : TE) (g : TG) : TS := fun D σ H => te σ H fun x H1 => g x σ H1 D.nx
theorem ps_asg {tg e : Expr} {te : TE} {g : TG} (he : PE X e te) (hg : PG X tg g) (hs : swapsWithSole [tg] e pos.line X.env = pure false := by with_unfolding_all rfl) (hw : swappedStores [tg] e X.env = pure none := by with_unfolding_all rfl)
    (h1 : (assignEach [tg] X.env).map (·.2) = [assign tg X.env] := by with_unfolding_all rfl) : PS X (.Assign [tg] e pos) (tAsg te g) := by
  intro pins s σ H D I h
  refine wpAny_Assign_stores (thn (he pins s σ H _ I h) fun v s1 ⟨x, H1, I1, r1, q1⟩ => ?_) hs hw
  rw [h1]
  exact thn (hg pins s1 σ H1 x v _ I1 r1 q1) fun _ s2 q => q
theorem ps_set {i : Nat} {x : Str} {e : Expr} {te : TE} {pos' : Pos} (hN : X.N.Nodup) (hi : X.N[i]? = some x) (hx : Loc X.env.scope x) (he : PE X e te) (hs : swapsWith e (some (.Name x pos')) pos.line X.env = pure false := by with_unfolding_all rfl) (hf : X.fn x = true ∨ X.env.scope.names.lookup x = some .local := by with_unfolding_all (first | exact .inl rfl | exact .inr rfl | assumption)) :
    PS X (.Assign [.Name x pos'] e pos) (tAsg te (gName i)) := by
  intro pins s σ H D I h
  refine wpAny_Assign_Name (thn (he pins s σ H _ I h) fun v s1 ⟨y, H1, I1, r1, q1⟩ => ?_) hs
  exact store_ok I1 hN hi hx r1 (fun s2 I2 => ⟨_, H1, I2, q1⟩) hf
end
section
variable {X : Cx} {pos : Pos}
noncomputable def tWhile (c : TT) (tb : TS) : TS := fun D σ H => ∃ W : Nat → St → Hp → Prop, (∃ m, W m σ H) ∧ ∀ m σ H, W m σ H →
  c σ H fun b H1 => if b = true then ∃ N : St → Hp → Prop, (∀ σ' H', N σ' H' → ∃ m', m' < m ∧ W m' σ' H') ∧ tb { D with nx := N, ct := N, bk := D.nx } σ H1 else D.nx σ H1
theorem ps_while {c : Expr} {body : List Stmt} {tc : TT} {tb : TS} (hp : PassesOwn (model X.prog X.w) X.A X.env X.xe) (hc : PT X c tc) (hb : PSs X body tb) : PS X (.While c body [] pos) (tWhile tc tb) := by
  intro pins s σ H D I h
  obtain ⟨W, ⟨m0, w0⟩, turn⟩ := h
  refine wpAny_While (codeAny_whileLoop (fun n s' => ∃ σ' H', Inv X pins σ' H' s' ∧ W n σ' H') ?_ m0 ⟨σ, H, I, w0⟩)
  rintro n s1 ⟨σ1, H1, I1, w1⟩
  refine wpAny_passesOwn hp (thn (hc pins s1 σ1 H1 _ I1 (turn n σ1 H1 w1)) fun b s2 ⟨H2, I2, q2⟩ => ?_)
  cases b with
  | true =>
    obtain ⟨N, hN, q2⟩ := q2
    rw [if_pos rfl]
    refine wpAny_passesOwn hp (thn (hb pins s2 σ1 H2 _ I2 q2) fun f s3 q3 => ?_)
    cases f with
    | next =>
      obtain ⟨σ3, H3, I3, n3⟩ := q3
      obtain ⟨m', hm, w3⟩ := hN σ3 H3 n3
      exact ⟨m', hm, σ3, H3, I3, w3⟩
    | cont =>
      obtain ⟨σ3, H3, I3, n3⟩ := q3
      obtain ⟨m', hm, w3⟩ := hN σ3 H3 n3
      exact ⟨m', hm, σ3, H3, I3, w3⟩
    | brk => exact q3
    | ret v => exact q3
  | false =>
    rw [if_neg Bool.false_ne_true]
    exact wpAny_execs_nil ⟨σ1, H2, I2, q2⟩
end
structure It where
  go : Nat → Hp → Prop
  yld : Nat → Hp → V → Hp → Prop
  stop : Nat → Hp → Prop
noncomputable def FpOk (X : Cx) (pins : List (Addr × Obj)) (H : Hp) (b : Addr) : Prop :=
  H b = none ∧ b ≠ X.env.locals ∧ b ∉ X.fs ∧ (b ∈ X.ex ∨ X.s₀.heap.objs.size ≤ b) ∧ (∀ x c, X.env.cells.lookup x = some c → c ≠ b) ∧ ∀ p ∈ X.pn ++ pins, p.1 ≠ b
theorem Inv.fpOk {X : Cx} {pins : List (Addr × Obj)} {σ : St} {H H' : Hp} {s : Shared} {b : Addr} (I : Inv X pins σ H s) (hb : s.heap.objs.size ≤ b) (hn : H' b = none) : FpOk X pins H' b := by
  refine ⟨hn, Nat.ne_of_gt (Nat.lt_of_lt_of_le I.lt hb), I.nofs hb, .inr (Nat.le_trans I.sz hb), fun x c e z => ?_, fun p hp z => ?_⟩
  · obtain ⟨v, q⟩ := I.cell x c e
    exact absurd (Nat.lt_of_lt_of_le q.lt (by rw [z]; exact hb)) (Nat.lt_irrefl _)
  · exact absurd (Nat.lt_of_lt_of_le (Heap.lt_size (I.pin p hp).1) (by rw [z]; exact hb)) (Nat.lt_irrefl _)
structure Turn (P : Program) (w : World) (K : PySem.W.Frag) (tg : Expr) (J : It) (fp : List Addr) (it : Addr) (tn : Nat → Heap → Prop) : Prop where
  mem : it ∈ fp
  obj : ∀ i h, tn i h → ∀ b ∈ fp, ∃ o, h.get? b = some o ∧ ∀ v, o.data ≠ .cell v
  keep : ∀ i h h', tn i h → (∀ b ∈ fp, ∀ o, h.get? b = some o → h'.get? b = some o) → tn i h'
  item : ∀ (X : Cx), X.prog = P → X.w = w → X.K = K → X.calm = true → ∀ (i : Nat) (pins : List (Addr × Obj)) (s : Shared) (σ : St) (H : Hp) (E : Value → Shared → Prop), Inv X pins σ H s → (∀ b ∈ fp, FpOk X pins H b) → tn i s.heap → J.go i H →
    wpAny (model P w) X.A (pyNext (.ref it)) (fun r s1 => ∃ u, r = some u ∧
      wpAny (model P w) X.A (letOwnedTupleGo tg (.ref it) u) (fun _ s2 => ∃ x H', Inv X pins σ H' s2 ∧ RelV x u ∧ J.yld i H x H' ∧ tn (i + 1) s2.heap ∧ ∀ b ∈ fp, H' b = none) E s1) E s
  done : ∀ (X : Cx), X.prog = P → X.w = w → X.K = K → X.calm = true → ∀ (i : Nat) (pins : List (Addr × Obj)) (s : Shared) (σ : St) (H : Hp) (E : Value → Shared → Prop), Inv X pins σ H s → (∀ b ∈ fp, FpOk X pins H b) → tn i s.heap → J.stop i H →
    wpAny (model P w) X.A (pyNext (.ref it)) (fun r s1 => r = none ∧ Inv X pins σ H s1) E s
  self : ∀ (A : Around) (i : Nat) (s : Shared) (Q : Value → Shared → Prop) (E : Value → Shared → Prop), tn i s.heap → Q (.ref it) s → wpAny (model P w) A (pyIter (.ref it)) Q E s
noncomputable abbrev TI := St → Hp → (It → Hp → Prop) → Prop
noncomputable def PIE (X : Cx) (pins : List (Addr × Obj)) (σ : St) (tg : Expr) (R : It → Hp → Prop) (itv : Value) (s2 : Shared) : Prop :=
  ∃ (it : Addr) (fp : List Addr) (tn : Nat → Heap → Prop) (J : It) (H' : Hp), itv = .ref it ∧ Inv X pins σ H' s2 ∧ Turn X.prog X.w X.K tg J fp it tn ∧ tn 0 s2.heap ∧ (∀ b ∈ fp, FpOk X pins H' b) ∧ R J H'
noncomputable def PI (X : Cx) (tg iter : Expr) (wi : TI) : Prop :=
  ∀ (pins : List (Addr × Obj)) (s : Shared) (σ : St) (H : Hp) (R : It → Hp → Prop), Inv X pins σ H s → wi σ H R →
    wpAny (model X.prog X.w) X.A (eval iter X.env) (fun v s1 => wpAny (model X.prog X.w) X.A (pyIter v) (PIE X pins σ tg R) X.xe s1) X.xe s
theorem go_of {M : Model} {A : Around} {E : Value → Shared → Prop} {s : Shared} {tg : Expr} {it : Addr} {u : Value} {o : Obj} {n : String} {vs : Array Value} {Q : Unit → Shared → Prop} (ho : s.heap.get? it = some o) (hc : o.cls = .type n) (hd : o.data = .fields vs)
    (hn : ["enumerate", "zip", "dict_itemiterator", "dict_reverseitemiterator", "odict_iterator", "itertools.zip_longest", "itertools.pairwise"].contains n = false) (hQ : Q () s) : wpAny M A (letOwnedTupleGo tg (.ref it) u) Q E s := by
  unfold letOwnedTupleGo
  cases tg <;> first
    | exact wpAny_pure hQ
    | (cases u <;> first
        | exact wpAny_pure hQ
        | (refine wpAny_bind (wpAny_load ho ?_)
           rw [hc, hd]
           show wpAny M A (if (["enumerate", "zip", "dict_itemiterator", "dict_reverseitemiterator", "odict_iterator", "itertools.zip_longest", "itertools.pairwise"].contains n && vs[0]? == some (rawInt _)) = true then _ else _) Q E s
           rw [if_neg (by intro h; rw [hn, Bool.false_and] at h; cases h)]
           exact wpAny_pure hQ))
noncomputable def Itl (K : PySem.W.Frag) (a : Addr) : It :=
  ⟨fun i H => ∃ xs x, SqL K H a xs ∧ xs[i]? = some x, fun i H x H' => H' = H ∧ ∀ xs, SqL K H a xs → xs[i]? = some x, fun i H => ∃ xs, SqL K H a xs ∧ xs.length ≤ i⟩
noncomputable def Itt (K : PySem.W.Frag) (a : Addr) : It :=
  ⟨fun i H => ∃ xs x, SqT K H a xs ∧ xs[i]? = some x, fun i H x H' => H' = H ∧ ∀ xs, SqT K H a xs → xs[i]? = some x, fun i H => ∃ xs, SqT K H a xs ∧ xs.length ≤ i⟩
noncomputable def Itr (lo : Int) (n : Nat) : It := ⟨fun i _ => i < n, fun i H x H' => H' = H ∧ x = .int (lo + i), fun i _ => n ≤ i⟩
theorem turn_list {P : Program} {w : World} {K : PySem.W.Frag} {tg : Expr} (a it : Addr) : Turn P w K tg (Itl K a) [it] it (fun i h => h.IsListIter it a i) where
  mem := by simp
  obj := fun i h st b hb => by
    have e : b = it := by simpa using hb
    subst e
    obtain ⟨o, e, c, d⟩ := st
    exact ⟨o, e, fun v z => by rw [d] at z; cases z⟩
  keep := fun i h h' st k => st.at fun o e => k it (by simp) o e
  item := by
    intro X hP hw hK hc i pins s σ H E I hf st hg
    subst hP hw hK
    obtain ⟨xs, x, hq, hx⟩ := hg
    obtain ⟨its, rv, p, hz⟩ := I.list hq
    obtain ⟨u, hu, ru⟩ := rv.get hx
    obtain ⟨f0, f1, f2, f3, f4, f5⟩ := hf it (by simp)
    refine wpAny_pyNext_list_item st p.isList (x := u) (by simpa using hu) fun h' st' sb => ?_
    have I1 : Inv X pins σ H { s with heap := h' } := I.turned (t' := s.toks) (fun b o hb e => (sb.2 b hb).trans e) f0 f1 f3 f4 f5
    obtain ⟨o, e, c, d⟩ := id st'
    exact ⟨u, rfl, go_of (s := { s with heap := h' }) e c d (by decide) ⟨x, H, I1, ru, ⟨rfl, fun ys hy => by rw [I.list_inj hy hq]; exact hx⟩, st', fun b hb => (hf b hb).1⟩⟩
  done := by
    intro X hP hw hK hc i pins s σ H E I hf st hg
    subst hP hw hK
    obtain ⟨xs, hq, hx⟩ := hg
    obtain ⟨its, rv, p, hz⟩ := I.list hq
    obtain ⟨f0, f1, f2, f3, f4, f5⟩ := hf it (by simp)
    have hl := rv.length
    exact wpAny_pyNext_list_end (I.ok.hd hc) st p.isList (by simp; omega) fun h' eb => ⟨rfl, I.turned (t' := s.toks) (fun b o hb e => eb b o hb e) f0 f1 f3 f4 f5⟩
  self := fun _ _ _ _ _ st h => wpAny_pyIter_listiter st h
theorem turn_tuple {P : Program} {w : World} {K : PySem.W.Frag} {tg : Expr} (a it : Addr) : Turn P w K tg (Itt K a) [it] it (fun i h => h.IsTupleIter it a i) where
  mem := by simp
  obj := fun i h st b hb => by
    have e : b = it := by simpa using hb
    subst e
    obtain ⟨o, e, c, d⟩ := st
    exact ⟨o, e, fun v z => by rw [d] at z; cases z⟩
  keep := fun i h h' st k => st.at fun o e => k it (by simp) o e
  item := by
    intro X hP hw hK hc i pins s σ H E I hf st hg
    subst hP hw hK
    obtain ⟨xs, x, hq, hx⟩ := hg
    obtain ⟨its, rv, p, hz⟩ := I.tuple hq
    obtain ⟨u, hu, ru⟩ := rv.get hx
    obtain ⟨f0, f1, f2, f3, f4, f5⟩ := hf it (by simp)
    refine wpAny_pyNext_tuple_item st (show s.heap.IsTuple a its.toArray from p) (x := u) (by simpa using hu) fun h' st' sb => ?_
    have I1 : Inv X pins σ H { s with heap := h' } := I.turned (t' := s.toks) (fun b o hb e => (sb.2 b hb).trans e) f0 f1 f3 f4 f5
    obtain ⟨o, e, c, d⟩ := id st'
    exact ⟨u, rfl, go_of (s := { s with heap := h' }) e c d (by decide) ⟨x, H, I1, ru, ⟨rfl, fun ys hy => by rw [I.tuple_inj hy hq]; exact hx⟩, st', fun b hb => (hf b hb).1⟩⟩
  done := by
    intro X hP hw hK hc i pins s σ H E I hf st hg
    subst hP hw hK
    obtain ⟨xs, hq, hx⟩ := hg
    obtain ⟨its, rv, p, hz⟩ := I.tuple hq
    obtain ⟨f0, f1, f2, f3, f4, f5⟩ := hf it (by simp)
    have hl := rv.length
    exact wpAny_pyNext_tuple_end (I.ok.hd hc) st (show s.heap.IsTuple a its.toArray from p) (by simp; omega) fun h' eb => ⟨rfl, I.turned (t' := s.toks) (fun b o hb e => eb b o hb e) f0 f1 f3 f4 f5⟩
  self := fun _ _ _ _ _ st h => wpAny_pyIter_tupleiter st h
theorem turn_range {P : Program} {w : World} {K : PySem.W.Frag} {tg : Expr} (it : Addr) (lo : Int) (n : Nat) : Turn P w K tg (Itr lo n) [it] it (fun i h => IsRangeIter h it (lo + (i : Nat) * 1) ((n : Int) - (i : Nat)) 1) where
  mem := by simp
  obj := fun i h st b hb => by
    have e : b = it := by simpa using hb
    subst e
    exact ⟨_, st, fun v z => by
      have z' : Data.fields _ = Data.cell v := z
      cases z'⟩
  keep := fun i h h' st k => k it (by simp) _ st
  item := by
    intro X hP hw hK hc i pins s σ H E I hf st hg
    subst hP hw hK
    obtain ⟨f0, f1, f2, f3, f4, f5⟩ := hf it (by simp)
    have W := Walks.range (prog := X.prog) (w := X.w) (I.ok.hd hc) it lo 1 n
    refine W.item i s _ _ hg st fun v h' tk hv st' kk => ?_
    obtain ⟨t, rfl⟩ := hv
    have I1 : Inv X pins σ H { s with heap := h', toks := tk } := I.turned (fun b o hb e => kk b o (by simpa using hb) e) f0 f1 f3 f4 f5
    refine ⟨_, rfl, go_of (s := { s with heap := h', toks := tk }) (n := "range_iterator") st' rfl rfl (by decide) ⟨.int (lo + i), H, I1, ⟨t, ?_⟩, ⟨rfl, rfl⟩, st', fun b hb => (hf b hb).1⟩⟩
    rw [Int.mul_one]
  done := by
    intro X hP hw hK hc i pins s σ H E I hf st hg
    subst hP hw hK
    obtain ⟨f0, f1, f2, f3, f4, f5⟩ := hf it (by simp)
    exact wpAny_pyNext_range_end (I.ok.hd hc) st (by have : n ≤ i := hg; omega) fun h' eb => ⟨rfl, I.turned (t' := s.toks) (fun b o hb e => eb b o hb e) f0 f1 f3 f4 f5⟩
  self := fun _ _ _ _ _ st h => wpAny_pyIter_rangeiter st h
end L2
namespace L2
open PySem PySem.Spec PyProof.Rows
section
variable {X : Cx} {tg : Expr}
theorem range_it {pins : List (Addr × Obj)} {σ : St} {H : Hp} {s : Shared} {R : It → Hp → Prop} {E : Value → Shared → Prop} {lo hi : Int} {t u v : Tok} {tk : Nat} (I : Inv X pins σ H s) (h1 : -(2 ^ 62) ≤ lo) (h2 : lo < 2 ^ 62) (h3 : -(2 ^ 62) ≤ hi) (h4 : hi < 2 ^ 62)
    (q : R (Itr lo (hi - lo).toNat) H) : wpAny (model X.prog X.w) X.A (pyIter (.ref s.heap.objs.size)) (PIE X pins σ tg R) E { s with heap := s.heap.push { cls := .type "range", data := .fields #[.int lo t, .int hi u, .int 1 v] }, toks := tk } := by
  refine wpAny_pyIter_range (IsRange.new ..) (small_one h1 h2 h3 h4) ?_
  have I1 : Inv X pins σ H { s with heap := s.heap.push { cls := .type "range", data := .fields #[.int lo t, .int hi u, .int 1 v] }, toks := tk } := I.kept fun b o e => Heap.get?_push_of_some _ e
  refine ⟨(s.heap.push { cls := .type "range", data := .fields #[.int lo t, .int hi u, .int 1 v] }).objs.size, [(s.heap.push { cls := .type "range", data := .fields #[.int lo t, .int hi u, .int 1 v] }).objs.size], _, _, H, rfl,
    I1.kept (t' := tk) fun b o e => Heap.get?_push_of_some _ e, turn_range _ lo (hi - lo).toNat, ?_, fun b hb => ?_, q⟩
  · have e1 : lo + ((0 : Nat) : Int) * 1 = lo := by simp
    have e2 : (((hi - lo).toNat : Nat) : Int) - ((0 : Nat) : Int) = Builtin.Range.rangeSize lo hi 1 := by rw [rangeSize_one]; split <;> omega
    show IsRangeIter _ _ (lo + ((0 : Nat) : Int) * 1) ((((hi - lo).toNat : Nat) : Int) - ((0 : Nat) : Int)) 1
    rw [e1, e2]
    exact Heap.get?_push_size _ rfl
  · have e : b = (s.heap.push { cls := .type "range", data := .fields #[.int lo t, .int hi u, .int 1 v] }).objs.size := by simpa using hb
    subst e
    exact I1.fpOk (Nat.le_refl _) (I1.hok.fresh (Nat.le_refl _))
noncomputable def iRng1 (ta : TA) : TI := fun σ H R => ta σ H fun vs H1 => ∃ j : Int, vs = [.int j] ∧ -(2 ^ 62) ≤ j ∧ j < 2 ^ 62 ∧ R (Itr 0 j.toNat) H1
noncomputable def iRng2 (ta : TA) : TI := fun σ H R => ta σ H fun vs H1 => ∃ i j : Int, vs = [.int i, .int j] ∧ (-(2 ^ 62) ≤ i ∧ i < 2 ^ 62 ∧ -(2 ^ 62) ≤ j ∧ j < 2 ^ 62) ∧ R (Itr i (j - i).toNat) H1
theorem pi_range1 {a : Expr} {ta : TA} {p pos : Pos} (hg : Gl X "range") (hm : X.mg "range" = none) (ha : PA X [a] ta) (hs : starEach [a] X.env = [(false, eval a X.env)] := by with_unfolding_all rfl) : PI X tg (.Call (.Name "range" p) [a] [] pos) (iRng1 ta) := by
  intro pins s σ H R I h
  refine Call_ (ld_blt I hg hm boot_range (PyProof.Rows.callWith_type1 (thn (ha pos pins s σ H _ I h) fun us s1 ⟨vs, H1, I1, r1, q1⟩ => ?_) hs rfl))
  obtain ⟨j, e, q1, q2, q⟩ := q1
  subst e
  cases r1 with
  | cons r rr =>
    cases rr
    obtain ⟨t, rfl⟩ := r
    exact call_range_1 (range_it I1 (by omega) (by omega) q1 q2 (by simpa using q))
theorem pi_range2 {a b : Expr} {ta : TA} {p pos : Pos} (hg : Gl X "range") (hm : X.mg "range" = none) (ha : PA X [a, b] ta) (hs : starEach [a, b] X.env = [(false, eval a X.env), (false, eval b X.env)] := by with_unfolding_all rfl) (hs2 : starEach [b] X.env = [(false, eval b X.env)] := by with_unfolding_all rfl) :
    PI X tg (.Call (.Name "range" p) [a, b] [] pos) (iRng2 ta) := by
  intro pins s σ H R I h
  refine Call_ (ld_blt I hg hm boot_range (PyProof.Rows.callWith_type1 (thn (ha pos pins s σ H _ I h) fun us s1 ⟨vs, H1, I1, r1, q1⟩ => ?_) (by rw [hs, hs2]) (by rw [hs2]; rfl)))
  obtain ⟨i, j, e, ⟨q1, q2, q3, q4⟩, q⟩ := q1
  subst e
  cases r1 with
  | cons r rr =>
    cases rr with
    | cons r' rr =>
      cases rr
      obtain ⟨t, rfl⟩ := r
      obtain ⟨t', rfl⟩ := r'
      exact call_range_2 (range_it I1 q1 q2 q3 q4 q)
noncomputable def tFor (wi : TI) (g : TG) (tb : TS) : TS := fun D σ H => wi σ H fun J H1 => ∃ W : Nat → Nat → St → Hp → Prop, (∃ m, W 0 m σ H1) ∧ ∀ i m σ H, W i m σ H →
  (J.stop i H ∧ D.nx σ H) ∨ (J.go i H ∧ ∃ N : St → Hp → Prop, (∀ σ' H', N σ' H' → ∃ m', m' < m ∧ W (i + 1) m' σ' H') ∧ ∀ x H', J.yld i H x H' → g x σ H' fun σ2 H2 => tb { D with nx := N, ct := N, bk := D.nx } σ2 H2)
noncomputable def pinsAt (fp : List Addr) (h : Heap) : List (Addr × Obj) := fp.filterMap fun b => (h.get? b).map fun o => (b, o)
theorem mem_pinsAt {fp : List Addr} {h : Heap} {b : Addr} {o : Obj} (hb : b ∈ fp) (e : h.get? b = some o) : (b, o) ∈ pinsAt fp h := List.mem_filterMap.mpr ⟨b, hb, by rw [e]; rfl⟩
theorem of_pinsAt {fp : List Addr} {h : Heap} {p : Addr × Obj} (hp : p ∈ pinsAt fp h) : p.1 ∈ fp ∧ h.get? p.1 = some p.2 := by
  obtain ⟨b, hb, e⟩ := List.mem_filterMap.mp hp
  cases q : h.get? b with
  | none => rw [q] at e; cases e
  | some o =>
    rw [q] at e
    have e' : (b, o) = p := Option.some.inj e
    subst e'
    exact ⟨hb, q⟩
theorem Inv.pinned {pins : List (Addr × Obj)} {σ : St} {H : Hp} {s : Shared} {fp : List Addr} (I : Inv X pins σ H s) (hf : ∀ b ∈ fp, FpOk X pins H b) (ho : ∀ b ∈ fp, ∃ o, s.heap.get? b = some o ∧ ∀ v, o.data ≠ .cell v) : Inv X (pins ++ pinsAt fp s.heap) σ H s :=
  I.pins_of fun p hp => (List.mem_append.mp hp).elim (fun z => I.pin p (List.mem_append_right _ z)) fun z => by
    obtain ⟨hb, e⟩ := of_pinsAt z
    obtain ⟨f0, f1, f2, _⟩ := hf p.1 hb
    obtain ⟨o, e', d⟩ := ho p.1 hb
    rw [e] at e'; cases e'
    exact ⟨e, f0, f1, f2, d⟩
theorem Inv.unpinned {pins pl : List (Addr × Obj)} {σ : St} {H : Hp} {s : Shared} (I : Inv X (pins ++ pl) σ H s) : Inv X pins σ H s := I.pins_of fun p hp => I.pin p (List.mem_append_right _ (List.mem_append_left _ hp))
theorem ps_for {iter : Expr} {body : List Stmt} {wi : TI} {g : TG} {tb : TS} {pos : Pos} (hp : PassesOwn (model X.prog X.w) X.A X.env X.xe) (hc : X.calm = true) (hi : PI X tg iter wi) (hg : PG X tg g) (hb : PSs X body tb)
    (hs : ∀ x, foldedSetIterable iter X.env x = pure x := by intro _; with_unfolding_all rfl) : PS X (.For tg iter body [] pos) (tFor wi g tb) := by
  intro pins s σ H D I h
  refine wpAny_For (thn (hi pins s σ H _ I h) fun v s1 h1 => thn h1 fun itv s2 h2 => ?_) hs
  obtain ⟨it, fp, tn, J, H2, e, I2, T, st2, f2, W, ⟨m0, w0⟩, turn⟩ := h2
  subst e
  -- what stays true of the iterator's objects through the loop
  have stat : ∀ {H' : Hp}, (∀ b ∈ fp, H' b = none) → ∀ b ∈ fp, FpOk X pins H' b := fun hn b hb => ⟨hn b hb, (f2 b hb).2⟩
  refine codeAny_forLoop_any (fun n s' => ∃ i σ' H', Inv X pins σ' H' s' ∧ tn i s'.heap ∧ (∀ b ∈ fp, H' b = none) ∧ W i n σ' H') ?_ m0 ⟨0, σ, H2, I2, st2, fun b hb => (f2 b hb).1, w0⟩
  rintro n s3 ⟨i, σ3, H3, I3, st3, fr3, w3⟩
  rcases turn i n σ3 H3 w3 with ⟨stop, qn⟩ | ⟨go, N, hN, step⟩
  · refine wpAny_passesOwn hp (thn (T.done X rfl rfl rfl hc i pins s3 σ3 H3 X.xe I3 (stat fr3) st3 stop) fun r s4 ⟨hr, I4⟩ => ?_)
    subst hr
    exact wpAny_execs_nil ⟨σ3, H3, I4, qn⟩
  · refine wpAny_passesOwn hp (thn (T.item X rfl rfl rfl hc i pins s3 σ3 H3 X.xe I3 (stat fr3) st3 go) fun r s4 ⟨u, hr, h4⟩ => ?_)
    subst hr
    refine wpAny_passesOwn hp (thn h4 fun _ s5 ⟨x, H5, I5, r5, y5, st5, fr5⟩ => ?_)
    have I5' := I5.pinned (stat fr5) (T.obj _ _ st5)
    refine wpAny_passesOwn hp (thn (hg _ s5 σ3 H5 x u _ I5' r5 (step x H5 y5)) fun _ s6 ⟨σ6, H6, I6, q6⟩ => ?_)
    refine wpAny_passesOwn hp (thn (hb _ s6 σ6 H6 _ I6 q6) fun f s7 q7 => ?_)
    have again : ∀ {σ7 : St} {H7 : Hp}, Inv X (pins ++ pinsAt fp s5.heap) σ7 H7 s7 → N σ7 H7 → ∃ m, m < n ∧ ∃ i σ' H', Inv X pins σ' H' s7 ∧ tn i s7.heap ∧ (∀ b ∈ fp, H' b = none) ∧ W i m σ' H' := fun {σ7 H7} I7 n7 => by
      obtain ⟨m', hm, w7⟩ := hN σ7 H7 n7
      refine ⟨m', hm, i + 1, σ7, H7, I7.unpinned, T.keep _ _ _ st5 fun b hb o e => (I7.pin (b, o) (List.mem_append_right _ (List.mem_append_right _ (mem_pinsAt hb e)))).1, fun b hb => ?_, w7⟩
      obtain ⟨o, e, d⟩ := T.obj _ _ st5 b hb
      exact (I7.pin (b, o) (List.mem_append_right _ (List.mem_append_right _ (mem_pinsAt hb e)))).2.1
    cases f with
    | next => obtain ⟨σ7, H7, I7, n7⟩ := q7; exact again I7 n7
    | cont => obtain ⟨σ7, H7, I7, n7⟩ := q7; exact again I7 n7
    | brk => obtain ⟨σ7, H7, I7, q7⟩ := q7; exact ⟨σ7, H7, I7.unpinned, q7⟩
    | ret v => obtain ⟨x7, σ7, H7, I7, r7, q7⟩ := q7; exact ⟨x7, σ7, H7, I7.unpinned, r7, q7⟩
end
end L2
namespace L2
open PySem PySem.Spec PyProof.Rows
noncomputable abbrev R2 := V → V → Hp → VK → Prop
noncomputable def OpR (X : Cx) (f : Value → Value → Sem Value) (r : R2) : Prop :=
  ∀ (pins : List (Addr × Obj)) (s : Shared) (σ : St) (H : Hp) (x y : V) (v u : Value) (Q : VK), Inv X pins σ H s → RelV x v → RelV y u → r x y H Q →
    wpAny (model X.prog X.w) X.A (f v u) (EP X pins σ Q) X.xe s
noncomputable def UnR (X : Cx) (f : Value → Sem Value) (r : V → Hp → VK → Prop) : Prop :=
  ∀ (pins : List (Addr × Obj)) (s : Shared) (σ : St) (H : Hp) (x : V) (v : Value) (Q : VK), Inv X pins σ H s → RelV x v → r x H Q →
    wpAny (model X.prog X.w) X.A (f v) (EP X pins σ Q) X.xe s
noncomputable def CallR (X : Cx) (f : Value) (r : List V → Hp → VK → Prop) : Prop :=
  ∀ (pins : List (Addr × Obj)) (s : Shared) (σ : St) (H : Hp) (xs : List V) (us : List Value) (Q : VK), Inv X pins σ H s → Vals xs us → r xs H Q →
    wpAny (model X.prog X.w) X.A (call f us) (EP X pins σ Q) X.xe s
noncomputable def tOp (r : R2) (ta tb : TE) : TE := fun σ H Q => ta σ H fun x H1 => tb σ H1 fun y H2 => r x y H2 Q
noncomputable def tUn (r : V → Hp → VK → Prop) (ta : TE) : TE := fun σ H Q => ta σ H fun x H1 => r x H1 Q
noncomputable def rI (C : Int → Int → Prop) (g : Int → Int → V) : R2 := fun x y H Q => ∃ i j, x = .int i ∧ y = .int j ∧ C i j ∧ Q (g i j) H
noncomputable def rI0 (g : Int → Int → V) : R2 := fun x y H Q => ∃ i j, x = .int i ∧ y = .int j ∧ Q (g i j) H
noncomputable def rU (g : Int → V) : V → Hp → VK → Prop := fun x H Q => ∃ i, x = .int i ∧ Q (g i) H
section
variable {X : Cx} {a b c : Expr} {ta tb tc : TE} {pos : Pos}
theorem binT (ha : PE X a ta) (hb : PE X b tb) {pins : List (Addr × Obj)} {s : Shared} {σ : St} {H : Hp} {R : V → V → Hp → Prop} (I : Inv X pins σ H s)
    (h : ta σ H fun x H1 => tb σ H1 fun y H2 => R x y H2) {Q : Value → Shared → Prop} {f : Value → Value → Sem Value}
    (hf : ∀ v u s2 x y H2, Inv X pins σ H2 s2 → RelV x v → RelV y u → R x y H2 → wpAny (model X.prog X.w) X.A (f v u) Q X.xe s2) :
    wpAny (model X.prog X.w) X.A (eval a X.env) (fun v s₁ => wpAny (model X.prog X.w) X.A (eval b X.env) (fun u s₂ => wpAny (model X.prog X.w) X.A (f v u) Q X.xe s₂) X.xe s₁) X.xe s := by
  refine thn (ha pins s σ H _ I h) fun v s1 ⟨x, H1, I1, r1, q1⟩ => ?_
  refine thn (hb pins s1 σ H1 _ I1 q1) fun u s2 ⟨y, H2, I2, r2, q2⟩ => ?_
  exact hf v u s2 x y H2 I2 r1 r2 q2
theorem pe_op {op : Operator} {r : R2} (ho : OpR X (binaryOp op) r) (ha : PE X a ta) (hb : PE X b tb) : PE X (.BinOp a op b pos) (tOp r ta tb) := by
  intro pins s σ H Q I h
  exact wpAny_BinOp (binT ha hb I h fun v u s2 x y H2 I2 rx ry q => ho pins s2 σ H2 x y v u Q I2 rx ry q)
theorem pe_un {op : UnaryOp} {r : V → Hp → VK → Prop} (ho : UnR X (unaryOp op) r) (ha : PE X a ta) : PE X (.UnaryOp op a pos) (tUn r ta) := by
  intro pins s σ H Q I h
  exact UnaryOp_ (thn (ha pins s σ H _ I h) fun v s1 ⟨x, H1, I1, r1, q1⟩ => ho pins s1 σ H1 x v Q I1 r1 q1)
theorem opI {f : Value → Value → Sem Value} {C : Int → Int → Prop} {g : Int → Int → Int}
    (rule : ∀ (i j : Int) (t u : Tok) (s : Shared) (Q : Value → Shared → Prop) (E : Value → Shared → Prop), C i j → Q (.int (g i j) s.toks) { s with toks := s.toks + 1 } → wpAny (model X.prog X.w) X.A (f (.int i t) (.int j u)) Q E s) :
    OpR X f (rI C fun i j => .int (g i j)) := by
  intro pins s σ H x y v u Q I rx ry h
  obtain ⟨i, j, rfl, rfl, hc, q⟩ := h
  obtain ⟨t, rfl⟩ := rx
  obtain ⟨t', rfl⟩ := ry
  exact rule i j t t' s _ _ hc ⟨.int (g i j), H, I.tok _, ⟨_, rfl⟩, q⟩
theorem opI0 {f : Value → Value → Sem Value} {g : Int → Int → Int}
    (rule : ∀ (i j : Int) (t u : Tok) (s : Shared) (Q : Value → Shared → Prop) (E : Value → Shared → Prop), Q (.int (g i j) s.toks) { s with toks := s.toks + 1 } → wpAny (model X.prog X.w) X.A (f (.int i t) (.int j u)) Q E s) :
    OpR X f (rI0 fun i j => .int (g i j)) := by
  intro pins s σ H x y v u Q I rx ry h
  obtain ⟨i, j, rfl, rfl, q⟩ := h
  obtain ⟨t, rfl⟩ := rx
  obtain ⟨t', rfl⟩ := ry
  exact rule i j t t' s _ _ ⟨.int (g i j), H, I.tok _, ⟨_, rfl⟩, q⟩
theorem opB0 {f : Value → Value → Sem Value} {g : Int → Int → Bool}
    (rule : ∀ (i j : Int) (t u : Tok) (s : Shared) (Q : Value → Shared → Prop) (E : Value → Shared → Prop), Q (.bool (g i j)) s → wpAny (model X.prog X.w) X.A (f (.int i t) (.int j u)) Q E s) :
    OpR X f (rI0 fun i j => .bl (g i j)) := by
  intro pins s σ H x y v u Q I rx ry h
  obtain ⟨i, j, rfl, rfl, q⟩ := h
  obtain ⟨t, rfl⟩ := rx
  obtain ⟨t', rfl⟩ := ry
  exact rule i j t t' s _ _ ⟨.bl (g i j), H, I, rfl, q⟩
noncomputable def CDiv (i j : Int) : Prop := 0 < j ∧ j < 1073741824
noncomputable def CPow (i j : Int) : Prop := 0 ≤ j ∧ j ≤ 1000000 ∧ i.natAbs < 2 ^ 64
noncomputable def CMul (i j : Int) : Prop := (-(2 ^ 64) < i ∧ i < 2 ^ 64) ∨ (-(2 ^ 64) < j ∧ j < 2 ^ 64)
theorem CMul.ok {i j : Int} (h : CMul i j) : IntMulOk i j := by
  rcases h with ⟨h1, h2⟩ | ⟨h1, h2⟩
  · exact .of_left (intBits_le_64 h1 h2)
  · exact .of_right (intBits_le_64 h1 h2)
theorem op_add : OpR X (binaryOp .Add) (rI0 fun i j => .int (i + j)) := opI0 fun _ _ _ _ _ _ _ q => add_int q
theorem op_sub : OpR X (binaryOp .Sub) (rI0 fun i j => .int (i - j)) := opI0 fun _ _ _ _ _ _ _ q => sub_int q
theorem op_mul : OpR X (binaryOp .Mult) (rI CMul fun i j => .int (i * j)) := opI fun _ _ _ _ _ _ _ hc q => mul_int q hc.ok
theorem op_fdiv : OpR X (binaryOp .FloorDiv) (rI CDiv fun i j => .int (i / j)) := opI fun i j _ _ _ _ _ hc q => by
  have h1 : (0 : Int) < j := hc.1
  have h2 : j < 1073741824 := hc.2
  exact floordiv_int (by omega) (by rw [Int.fdiv_eq_ediv_of_nonneg i (by omega)]; exact q) (.inl (PyProof.noPylong_small (by omega)))
theorem op_mod : OpR X (binaryOp .Mod) (rI (fun _ j => 0 < j) fun i j => .int (i % j)) := opI fun i j _ _ _ _ _ hc q => by
  have h1 : (0 : Int) < j := hc
  exact mod_int' (by omega) (by rw [Int.fmod_eq_emod_of_nonneg i (by omega)]; exact q)
theorem op_pow : OpR X (binaryOp .Pow) (rI CPow fun i j => .int (i ^ j.toNat)) := opI fun _ _ _ _ _ _ _ hc q => pow_int_small hc.1 hc.2.1 hc.2.2 q
theorem unI {f : Value → Sem Value} {g : Int → Int}
    (rule : ∀ (i : Int) (t : Tok) (s : Shared) (Q : Value → Shared → Prop) (E : Value → Shared → Prop), Q (.int (g i) s.toks) { s with toks := s.toks + 1 } → wpAny (model X.prog X.w) X.A (f (.int i t)) Q E s) :
    UnR X f (rU fun i => .int (g i)) := by
  intro pins s σ H x v Q I rx h
  obtain ⟨i, rfl, q⟩ := h
  obtain ⟨t, rfl⟩ := rx
  exact rule i t s _ _ ⟨.int (g i), H, I.tok _, ⟨_, rfl⟩, q⟩
theorem un_neg : UnR X (unaryOp .USub) (rU fun i => .int (-i)) := unI fun _ _ _ _ _ q => neg_int q
end
noncomputable def scal : V → V → Bool
  | .non, .non => true | .non, .int _ => true | .int _, .non => true | .non, .bl _ => true | .bl _, .non => true | .non, .str _ => true | .str _, .non => true
  | .int _, .int _ => true | .bl _, .bl _ => true | .str _, .str _ => true | .byt _, .byt _ => true
  | .int _, .str _ => true | .str _, .int _ => true | .bl _, .str _ => true | .str _, .bl _ => true
  | _, _ => false
noncomputable def rEq : R2 := fun x y H Q => scal x y = true ∧ Q (.bl (decide (x = y))) H
noncomputable def rNe : R2 := fun x y H Q => scal x y = true ∧ Q (.bl (!decide (x = y))) H
theorem dec_int {i j : Int} : decide (V.int i = V.int j) = (i == j) := by
  rw [Bool.eq_iff_iff]
  simp
theorem dec_bl {i j : Bool} : decide (V.bl i = V.bl j) = (i == j) := by
  rw [Bool.eq_iff_iff]
  simp
theorem dec_str {i j : Str} : decide (V.str i = V.str j) = (i == j) := by
  rw [Bool.eq_iff_iff]
  simp
theorem dec_byt {i j : Array UInt8} : decide (V.byt i = V.byt j) = (i.toList == j.toList) := by
  rw [Bool.eq_iff_iff]
  cases i
  cases j
  simp
section
variable {X : Cx} {a b c : Expr} {ta tb tc : TE} {pos : Pos}
theorem fin_bl {pins : List (Addr × Obj)} {σ : St} {H : Hp} {s : Shared} {Q : VK} {k k' : Bool} (I : Inv X pins σ H s) (q : Q (.bl k) H) (e : k = k') : EP X pins σ Q (.bool k') s := by
  subst e
  exact ⟨.bl k, H, I, rfl, q⟩
theorem op_eq : OpR X (compareOp .Eq) rEq := by
  intro pins s σ H x y v u Q I rx ry h
  obtain ⟨hs, q⟩ := h
  cases x with
  | non =>
    cases rx
    cases y with
    | non => cases ry; exact PySem.EqNone.eq_none_none (fin_bl I q (by simp))
    | bl j => cases ry; exact PySem.EqNone.eq_none_bool (fin_bl I q (by simp))
    | int j => obtain ⟨t', rfl⟩ := ry; exact PySem.EqNone.eq_none_int (fin_bl I q (by simp))
    | str j => obtain ⟨t', rfl⟩ := ry; exact PySem.EqNone.eq_none_str (fin_bl I q (by simp))
    | _ => exact absurd (show false = true from hs) Bool.false_ne_true
  | bl i =>
    cases rx
    cases y with
    | non => cases ry; exact PySem.EqNone.eq_bool_none (fin_bl I q (by simp))
    | bl j => cases ry; exact eq_bool (fin_bl I q dec_bl)
    | str j => obtain ⟨t', rfl⟩ := ry; exact PySem.EqMixed.eq_bool_str (fin_bl I q (by simp))
    | _ => exact absurd (show false = true from hs) Bool.false_ne_true
  | int i =>
    obtain ⟨t, rfl⟩ := rx
    cases y with
    | non => cases ry; exact PySem.EqNone.eq_int_none (fin_bl I q (by simp))
    | int j => obtain ⟨t', rfl⟩ := ry; exact eq_int (fin_bl I q dec_int)
    | str j => obtain ⟨t', rfl⟩ := ry; exact PySem.EqMixed.eq_int_str (fin_bl I q (by simp))
    | _ => exact absurd (show false = true from hs) Bool.false_ne_true
  | str i =>
    obtain ⟨t, rfl⟩ := rx
    cases y with
    | non => cases ry; exact PySem.EqNone.eq_str_none (fin_bl I q (by simp))
    | bl j => cases ry; exact PySem.EqMixed.eq_str_bool (fin_bl I q (by simp))
    | int j => obtain ⟨t', rfl⟩ := ry; exact PySem.EqMixed.eq_str_int (fin_bl I q (by simp))
    | str j => obtain ⟨t', rfl⟩ := ry; exact eq_str (fin_bl I q dec_str)
    | _ => exact absurd (show false = true from hs) Bool.false_ne_true
  | byt i =>
    obtain ⟨t, rfl⟩ := rx
    cases y with
    | byt j => obtain ⟨t', rfl⟩ := ry; exact PySem.W.eq_bytes (fin_bl I q dec_byt)
    | _ => exact absurd (show false = true from hs) Bool.false_ne_true
  | _ => cases y <;> exact absurd (show false = true from hs) Bool.false_ne_true
theorem op_ne : OpR X (compareOp .NotEq) rNe := by
  intro pins s σ H x y v u Q I rx ry h
  obtain ⟨hs, q⟩ := h
  cases x with
  | non =>
    cases rx
    cases y with
    | non => cases ry; exact PySem.EqNone.ne_none_none (fin_bl I q (by simp))
    | bl j => cases ry; exact PySem.EqNone.ne_none_bool (fin_bl I q (by simp))
    | int j => obtain ⟨t', rfl⟩ := ry; exact PySem.EqNone.ne_none_int (fin_bl I q (by simp))
    | str j => obtain ⟨t', rfl⟩ := ry; exact PySem.EqNone.ne_none_str (fin_bl I q (by simp))
    | _ => exact absurd (show false = true from hs) Bool.false_ne_true
  | bl i =>
    cases rx
    cases y with
    | non => cases ry; exact PySem.EqNone.ne_bool_none (fin_bl I q (by simp))
    | bl j => cases ry; exact ne_bool (fin_bl I q (congrArg not dec_bl))
    | str j => obtain ⟨t', rfl⟩ := ry; exact PySem.EqMixed.ne_bool_str (fin_bl I q (by simp))
    | _ => exact absurd (show false = true from hs) Bool.false_ne_true
  | int i =>
    obtain ⟨t, rfl⟩ := rx
    cases y with
    | non => cases ry; exact PySem.EqNone.ne_int_none (fin_bl I q (by simp))
    | int j => obtain ⟨t', rfl⟩ := ry; exact ne_int (fin_bl I q (congrArg not dec_int))
    | str j => obtain ⟨t', rfl⟩ := ry; exact PySem.EqMixed.ne_int_str (fin_bl I q (by simp))
    | _ => exact absurd (show false = true from hs) Bool.false_ne_true
  | str i =>
    obtain ⟨t, rfl⟩ := rx
    cases y with
    | non => cases ry; exact PySem.EqNone.ne_str_none (fin_bl I q (by simp))
    | bl j => cases ry; exact PySem.EqMixed.ne_str_bool (fin_bl I q (by simp))
    | int j => obtain ⟨t', rfl⟩ := ry; exact PySem.EqMixed.ne_str_int (fin_bl I q (by simp))
    | str j => obtain ⟨t', rfl⟩ := ry; exact ne_str (fin_bl I q (congrArg not dec_str))
    | _ => exact absurd (show false = true from hs) Bool.false_ne_true
  | byt i =>
    obtain ⟨t, rfl⟩ := rx
    cases y with
    | byt j => obtain ⟨t', rfl⟩ := ry; exact PySem.W.ne_bytes (fin_bl I q (congrArg not dec_byt))
    | _ => exact absurd (show false = true from hs) Bool.false_ne_true
  | _ => cases y <;> exact absurd (show false = true from hs) Bool.false_ne_true
theorem op_lt : OpR X (compareOp .Lt) (rI0 fun i j => .bl (decide (i < j))) := opB0 fun _ _ _ _ _ _ _ q => lt_int q
theorem op_gt : OpR X (compareOp .Gt) (rI0 fun i j => .bl (decide (j < i))) := opB0 fun _ _ _ _ _ _ _ q => gt_int q
theorem op_in_str : OpR X (compareOp .In) (fun x y H Q => ∃ i j, x = .str i ∧ y = .str j ∧ Q (.bl (!(Builtin.Str.occurrences j i 0 j.length 1).isEmpty)) H) := by
  intro pins s σ H x y v u Q I rx ry h
  obtain ⟨i, j, rfl, rfl, q⟩ := h
  obtain ⟨t, rfl⟩ := rx
  obtain ⟨t', rfl⟩ := ry
  exact in_str (fin_bl I q rfl)
theorem OpR.or {f : Value → Value → Sem Value} {r r' : R2} (h : OpR X f r) (h' : OpR X f r') : OpR X f (fun x y H Q => r x y H Q ∨ r' x y H Q) := by
  intro pins s σ H x y v u Q I rx ry q
  rcases q with q | q
  · exact h pins s σ H x y v u Q I rx ry q
  · exact h' pins s σ H x y v u Q I rx ry q
theorem nomark (b : Expr) {op : CmpOp} (h : op ≠ .In := by decide) (h2 : op ≠ .NotIn := by decide) : behindInMarks op b = false := by
  have e1 : (op == CmpOp.In) = false := by cases op <;> first | rfl | exact absurd rfl h
  have e2 : (op == CmpOp.NotIn) = false := by cases op <;> first | rfl | exact absurd rfl h2
  cases b <;> simp [behindInMarks, e1, e2]
theorem pe_cmpR {op : CmpOp} {r : R2} (ho : OpR X (compareOp op) r) (ha : PE X a ta) (hb : PE X b tb) (hm : behindInMarks op b = false) : PE X (.Compare a [op] [b] pos) (tOp r ta tb) := by
  intro pins s σ H Q I h
  exact wpAny_Compare1 (binT ha hb I h fun v u s2 x y H2 I2 rx ry q => ho pins s2 σ H2 x y v u Q I2 rx ry q) hm
noncomputable def tTest (t : TE) : TT := fun σ H Q => t σ H fun x H' => ∃ k, x = .bl k ∧ Q k H'
theorem pt_cmpR {op : CmpOp} {r : R2} (ho : OpR X (compareOp op) r) (ha : PE X a ta) (hb : PE X b tb) (hm : behindInMarks op b = false) : PT X (.Compare a [op] [b] pos) (tTest (tOp r ta tb)) := by
  intro pins s σ H Q I h
  refine wpAny_isTrue_Compare1 (thn (ha pins s σ H _ I h) fun v s1 ⟨x, H1, I1, r1, q1⟩ => thn (hb pins s1 σ H1 _ I1 q1) fun u s2 ⟨y, H2, I2, r2, q2⟩ =>
    thn (ho pins s2 σ H2 x y v u _ I2 r1 r2 q2) fun c s3 ⟨z, H3, I3, r3, k, e, q3⟩ => ?_) hm
  subst e
  cases r3
  exact wpAny_truthy_bool ⟨H3, I3, q3⟩
noncomputable def tChain (r r' : R2) (ta tb tc : TE) : TE := fun σ H Q => ta σ H fun x H1 => tb σ H1 fun y H2 => r x y H2 fun z H3 => ∃ k, z = .bl k ∧
  (if k = true then tc σ H3 fun w' H4 => r' y w' H4 Q else Q (.bl false) H3)
theorem line63 : (sizeLine : Nat) < 2 ^ 63 := by rw [sizeLine_eq]; decide
theorem op_add_str : OpR X (binaryOp .Add) (fun x y H Q => ∃ i j, x = .str i ∧ y = .str j ∧ i.length + j.length ≤ sizeLine ∧ Q (.str (i ++ j)) H) := by
  intro pins s σ H x y v u Q I rx ry h
  obtain ⟨i, j, rfl, rfl, hz, q⟩ := h
  obtain ⟨t, rfl⟩ := rx
  obtain ⟨t', rfl⟩ := ry
  exact add_str (fun t' tk => ⟨.str (i ++ j), H, I.tok _, ⟨_, rfl⟩, q⟩) hz
theorem vals1 {x : V} {us : List Value} (r : Vals [x] us) : ∃ u, us = [u] ∧ RelV x u := by
  cases r with
  | cons r1 r2 => cases r2; exact ⟨_, rfl, r1⟩
theorem vals2 {x y : V} {us : List Value} (r : Vals [x, y] us) : ∃ u w', us = [u, w'] ∧ RelV x u ∧ RelV y w' := by
  cases r with
  | cons r1 r2 =>
    cases r2 with
    | cons r3 r4 => cases r4; exact ⟨_, _, rfl, r1, r3⟩
theorem call_int1 : CallR X (.type "int") (fun xs H Q => (∃ i, xs = [.int i] ∧ Q (.int i) H) ∨ ∃ k, xs = [.bl k] ∧ Q (.int (if k then 1 else 0)) H) := by
  intro pins s σ H xs us Q I r h
  rcases h with ⟨i, rfl, q⟩ | ⟨k, rfl, q⟩
  · obtain ⟨u, rfl, t, rfl⟩ := vals1 r
    exact call_int_int ⟨.int i, H, I, ⟨_, rfl⟩, q⟩
  · obtain ⟨u, rfl, r1⟩ := vals1 r
    cases r1
    exact call_int_bool ⟨.int (if k then 1 else 0), H, I.tok _, ⟨_, rfl⟩, q⟩
noncomputable def LenV (K : PySem.W.Frag) (x : V) (H : Hp) (n : Nat) : Prop :=
  match x with
  | .str y => y.length ≤ sizeLine ∧ n = y.length
  | .byt y => y.size ≤ sizeLine ∧ n = y.size
  | .ref p => (∃ xs, SqL K H p xs ∧ n = xs.length) ∨ ∃ xs, SqT K H p xs ∧ n = xs.length
  | _ => False
theorem call_len : CallR X (.builtin "len") (fun xs H Q => ∃ x n, xs = [x] ∧ LenV X.K x H n ∧ Q (.int n) H) := by
  intro pins s σ H xs us Q I r h
  obtain ⟨x, n, rfl, e, q⟩ := h
  obtain ⟨u, rfl, rx⟩ := vals1 r
  have hl := line63
  have hs : sizeLine = 16777216 := sizeLine_eq
  cases x with
  | str y =>
    obtain ⟨t, rfl⟩ := rx
    obtain ⟨hy, e'⟩ : y.length ≤ sizeLine ∧ n = y.length := e
    subst e'
    exact len_str (by omega) ⟨.int _, H, I.tok _, ⟨_, rfl⟩, q⟩
  | byt y =>
    obtain ⟨t, rfl⟩ := rx
    obtain ⟨hy, e'⟩ : y.size ≤ sizeLine ∧ n = y.size := e
    subst e'
    exact PySem.W.len_bytes (by omega) ⟨.int _, H, I.tok _, ⟨_, rfl⟩, q⟩
  | ref p =>
    cases rx
    have e' : (∃ xs, SqL X.K H p xs ∧ n = xs.length) ∨ ∃ xs, SqT X.K H p xs ∧ n = xs.length := e
    rcases e' with ⟨xs, hx, e'⟩ | ⟨xs, hx, e'⟩
    · subst e'
      obtain ⟨its, r', pl, hz⟩ := I.list hx
      have hlen := r'.length
      exact Calls.call_len_list pl.isList (by simp only [List.size_toArray]; omega) ⟨.int xs.length, H, I.tok _, ⟨_, by simp only [List.size_toArray]; rw [hlen]⟩, q⟩
    · subst e'
      obtain ⟨its, r', pl, hz⟩ := I.tuple hx
      have hlen := r'.length
      exact len_tuple pl (by simp only [List.size_toArray]; omega) ⟨.int xs.length, H, I.tok _, ⟨_, by simp only [List.size_toArray]; rw [hlen]⟩, q⟩
  | _ => exact (show False from e).elim
end
end L2
namespace L2
open PySem PySem.Spec PyProof.Rows
structure ObjM (h : Heap) (x dx C : Addr) (mA : Str → Option Value) : Prop where
  obj : h.get? x = some (PySem.W.instObj C dx)
  ns : h.Ns1 dx mA
  ne : dx ≠ x
theorem lookIn_ns {h : Heap} {dx : Addr} {mA : Str → Option Value} (n : h.Ns1 dx mA) : ∃ od, h.get? dx = some od ∧ ∀ name, PySem.W.lookIn name od = some (mA name) := by
  obtain ⟨o, es, ep, ho, hd, hk, _, hm⟩ := n
  refine ⟨o, ho, fun name => ?_⟩
  have e := hm name
  unfold nsFind findBy at e
  rw [← Array.find?_toList] at e
  unfold PySem.W.lookIn
  rw [hd]
  dsimp only
  split
  · rename_i y q
    rw [q] at e
    exact congrArg some e
  · rename_i q
    rw [q] at e
    have a : es.toList.any (·.refKey) = false := by
      rw [List.any_eq_false]
      intro y hy
      obtain ⟨z, t, hkey⟩ := hk y (Array.mem_toList_iff.mp hy)
      simp [DictEntry.refKey, hkey]
    have a' : ¬ es.toList.any (·.refKey) = true := by rw [a]; exact Bool.false_ne_true
    rw [if_neg a']
    exact congrArg some e
theorem ObjM.look {h : Heap} {x dx C : Addr} {mA : Str → Option Value} (I : ObjM h x dx C mA) : ∃ od, PySem.W.InstAt h x (PySem.W.instObj C dx) C (some od) ∧ ∀ name, PySem.W.lookIn name od = some (mA name) :=
  let ⟨od, ho, hl⟩ := lookIn_ns I.ns
  ⟨od, ⟨I.obj, rfl, rfl, ho⟩, hl⟩
section
variable {prog : Program} {w : World} {A : Around} {E : Value → Shared → Prop} {s : Shared} {K : PySem.W.Frag} {x dx C f : Addr} {mA : Str → Option Value} {name : Str} {v : Value}
end
noncomputable def putF (f : Str) (v : V) : List (Str × V) → List (Str × V)
  | [] => [(f, v)]
  | (g, x) :: r => if g = f then (g, v) :: r else (g, x) :: putF f v r
theorem RelO.some_of {v : V} {o : Option Value} (r : RelO (some v) o) : ∃ u, o = some u ∧ RelV v u := by
  cases o with
  | none => exact (show False from r).elim
  | some u => exact ⟨u, rfl, r⟩
section
variable {P : Program} {w : World} {H H' : Hp} {h h' : Heap} {a C dx : Addr} {fs fs' : List (Str × V)}
theorem ins_get (hok : HOk P w H h) (e : H a = some (.ins C dx fs)) : ∃ mA, ObjM h a dx C mA ∧ (∀ f, RelO (fs.lookup f) (mA f)) ∧ PySem.Within mA (fs.map (·.1)) ∧ fs.length ≤ 1000 ∧ H dx = some (.own a) := by
  obtain ⟨d, z, ne, ob, mA, n, r, q⟩ := (show ObjOk P w H h a (.ins C dx fs) from hok a _ e)
  exact ⟨mA, ⟨ob, n, ne⟩, r, q, z, d⟩
end
structure Cls (K : PySem.W.Frag) (C : Addr) : Prop where
  pg : PySem.W.plainGet K C Str.empty = true
  hd : PySem.W.hasDictIn K C = true
  po : PySem.W.plainOver K C = true
  sa : PySem.W.findIn K (.ref C) "__setattr__" = some (some (.builtin "object.__setattr__"))
theorem Cls.get {K : PySem.W.Frag} {C : Addr} (c : Cls K C) (f : Str) : PySem.W.plainGet K C f = true := c.pg
section
variable {X : Cx} {pins : List (Addr × Obj)} {σ : St} {H : Hp} {s : Shared} {a C dx : Addr} {fs : List (Str × V)} {f : Str} {v : V} {A : Around} {E : Value → Shared → Prop}
end
section
variable {X : Cx} {o e value : Expr} {f : Str} {pos pos' tpos : Pos} {ta tv : TE}
end
section
variable {X : Cx} {pins : List (Addr × Obj)} {σ : St} {H : Hp} {s : Shared} {A : Around} {E : Value → Shared → Prop} {Q : Value → Shared → Prop} {c : Value} {b : Bool}
inductive TyOf (K : PySem.W.Frag) (H : Hp) : V → Value → Prop where
  | non : TyOf K H .non (.type "NoneType")
  | bl (x : Bool) : TyOf K H (.bl x) (.type "bool")
  | int (i : Int) : TyOf K H (.int i) (.type "int")
  | str (x : Str) : TyOf K H (.str x) (.type "str")
  | flt (x : UInt64) : TyOf K H (.flt x) (.type "float")
  | lst {a : Addr} {xs : List V} (e : H a = some (.lst xs)) : TyOf K H (.ref a) (.type "list")
  | frz {a : Addr} {o : Obj} {xs : List V} (e : H a = some (.frz o (.lst xs))) : TyOf K H (.ref a) (.type "list")
  | tup {a : Addr} {xs : List V} (e : H a = some (.tup xs)) : TyOf K H (.ref a) (.type "tuple")
  | dK {a : Addr} {kvs : List (Key × V)} (e : H a = some (.dK kvs)) : TyOf K H (.ref a) (.type "dict")
  | dT {a : Addr} {kvs : List (List Key × V)} (e : H a = some (.dT kvs)) : TyOf K H (.ref a) (.type "dict")
  | ins {a C dx : Addr} {fs : List (Str × V)} (e : H a = some (.ins C dx fs)) (cl : Cls K C) (ha : PySem.W.findIn K (.ref C) "__class__" = some (some (.builtin "object.__class__")))
      (hn : PySem.W.specialIn K (.builtin "object.__class__") "__get__" = some (some (.builtin "getset_descriptor.__get__"))) (htk : PySem.W.takesIn K (.builtin "object.__class__") = some true)
      (hm : PySem.W.mroIn K C (.type "object") = some true) : TyOf K H (.ref a) (.ref C)
theorem isinst_ok {x : V} {u t : Value} (I : Inv X pins σ H s) (rx : RelV x u) (ty : TyOf X.K H x t) (e : PySem.W.kitOne X.K t c = some b) (h : ∀ tk, Q (.bool b) { s with toks := tk }) :
    wpAny (model X.prog X.w) A (call (.builtin "isinstance") [u, c]) Q E s := by
  cases ty with
  | non => cases (show u = Value.none from rx); exact PySem.W.kia_one PySem.W.kitx_none I.kIn True.intro e (fun z => nomatch z) h
  | bl y => cases (show u = Value.bool y from rx); exact PySem.W.kia_one PySem.W.kitx_bool I.kIn True.intro e (fun z => nomatch z) h
  | int i => obtain ⟨t, q⟩ := (show ∃ t, u = Value.int i t from rx); cases q; exact PySem.W.kia_one PySem.W.kitx_int I.kIn True.intro e (fun z => nomatch z) h
  | str y => obtain ⟨t, q⟩ := (show ∃ t, u = Value.str y t from rx); cases q; exact PySem.W.kia_one PySem.W.kitx_str I.kIn True.intro e (fun z => nomatch z) h
  | flt y => obtain ⟨t, q⟩ := (show ∃ t, u = Value.float y t from rx); cases q; exact PySem.W.kia_one PySem.W.kitx_float I.kIn True.intro e (fun z => nomatch z) h
  | @lst a xs ea =>
    cases (show u = Value.ref a from rx)
    obtain ⟨_, _, n, _, h1⟩ := (show ObjOk X.prog X.w H s.heap a (.lst xs) from I.hok a _ ea)
    exact PySem.W.kia_one PySem.W.kitx_list I.kIn ⟨_, h1, rfl⟩ e (fun z => nomatch z) h
  | @frz a ob xs ea =>
    cases (show u = Value.ref a from rx)
    obtain ⟨_, _, _, n, _, h1⟩ := (show ObjOk X.prog X.w H s.heap a (.frz ob (.lst xs)) from I.hok a _ ea)
    exact PySem.W.kia_one PySem.W.kitx_list I.kIn ⟨_, h1, rfl⟩ e (fun z => nomatch z) h
  | @tup a xs ea =>
    cases (show u = Value.ref a from rx)
    obtain ⟨_, _, _, p⟩ := (show ObjOk X.prog X.w H s.heap a (.tup xs) from I.hok a _ ea)
    obtain ⟨o, h1, h2, _⟩ := p
    exact PySem.W.kia_one PySem.W.kitx_tuple I.kIn ⟨o, h1, h2⟩ e (fun z => nomatch z) h
  | @dK a kvs ea =>
    cases (show u = Value.ref a from rx)
    obtain ⟨_, _, vs, _, p⟩ := (show ObjOk X.prog X.w H s.heap a (.dK kvs) from I.hok a _ ea)
    obtain ⟨o, es, ep, h1, h2, _⟩ := p
    exact PySem.W.kia_one PySem.W.kitx_dict I.kIn ⟨o, h1, h2.1⟩ e (fun z => nomatch z) h
  | @dT a kvs ea =>
    cases (show u = Value.ref a from rx)
    obtain ⟨_, _, xs, _, o, es, ep, h1, h2, _⟩ := (show ObjOk X.prog X.w H s.heap a (.dT kvs) from I.hok a _ ea)
    exact PySem.W.kia_one PySem.W.kitx_dict I.kIn ⟨o, h1, h2.1⟩ e (fun z => nomatch z) h
  | @ins a C dx fs ea cl ha hn htk hm =>
    cases (show u = Value.ref a from rx)
    obtain ⟨mA, O, _⟩ := ins_get I.hok ea
    obtain ⟨od, J, _⟩ := O.look
    exact PySem.W.kia_one (PySem.W.kitx_own (cl.get _) cl.hd ha hn htk hm) I.kIn J e (fun z => nomatch z) h
end
end L2
namespace L2
open PySem PySem.Spec PyProof.Rows
structure Room (k : Nat) (A : Around) : Prop where
  hd : A.handled = none
  dp : A.depth + 3 * k + 5 < recursionLimit
  un : A.units + 16 * k + 200 < cLine
  gd : A.guards = some []
theorem Room.mono {j k : Nat} {A : Around} (r : Room k A) (h : j ≤ k) : Room j A := ⟨r.hd, by have := r.dp; omega, by have := r.un; omega, r.gd⟩
theorem Room.deeper {k : Nat} {A : Around} (r : Room (k + 1) A) (env : Env) : Room k (A.deeper env) :=
  ⟨r.hd, by have := r.dp; show A.depth + 1 + 3 * k + 5 < _; omega, by have := r.un; show A.units + 3 + 16 * k + 200 < _; omega, r.gd⟩
theorem Room.in1 {k : Nat} {A : Around} (r : Room (k + 1) A) : Room k A.in1 :=
  ⟨r.hd, by have := r.dp; show A.depth + 3 * k + 5 < _; omega, by have := r.un; show A.units + 1 + 16 * k + 200 < _; omega, r.gd⟩
theorem Room.depth {k : Nat} {A : Around} (r : Room k A) : A.depth < recursionLimit := by have := r.dp; omega
theorem Room.units {k : Nat} {A : Around} (r : Room k A) : A.units + 64 < cLine := by have := r.un; omega
noncomputable def tNil : TA := fun _ H Q => Q [] H
noncomputable def tCons (ta : TE) (tr : TA) : TA := fun σ H Q => ta σ H fun x H1 => tr σ H1 fun xs H2 => Q (x :: xs) H2
section
variable {X : Cx} {e : Expr} {es : List Expr} {te : TE} {t : TA} {pos : Pos}
theorem pa_nil : PA X [] tNil := fun _ _ _ _ H Q I h => Calls.spliced_nil ⟨[], H, I, .nil, h⟩
theorem pa_cons (ha : PE X e te) (hr : PA X es t) (hs : starEach (e :: es) X.env = (false, eval e X.env) :: starEach es X.env := by with_unfolding_all rfl) : PA X (e :: es) (tCons te t) := by
  intro pos pins s σ H Q I h
  rw [hs]
  show wpAny _ _ (spliced ((false, eval e X.env) :: backTo pos (starEach es X.env))) _ _ s
  refine Calls.spliced_cons (thn (ha pins s σ H _ I h) fun u s1 ⟨x, H1, I1, r1, q1⟩ => ?_)
  exact thn (hr pos pins s1 σ H1 _ I1 q1) fun us s2 ⟨xs, H2, I2, r2, q2⟩ => ⟨x :: xs, H2, I2, .cons r1 r2, q2⟩
noncomputable def tTup (t : TA) : TE := fun σ H Q => t σ H fun xs H1 => xs.length ≤ sizeLine ∧ ∀ p, H1 p = none → Q (.ref p) (upd H1 p (.tup xs))
noncomputable def tLst (t : TA) : TE := fun σ H Q => t σ H fun xs H1 => xs.length ≤ sizeLine ∧ ∀ p, H1 p = none → Q (.ref p) (upd H1 p (.lst xs))
theorem pe_tup {x1} (h : PA X es t) : PE X (.Tuple es x1 pos) (tTup t) := by
  intro pins s σ H Q I hq
  refine wpAny_Tuple_spliced (thn (h pos pins s σ H _ I hq) fun us s1 ⟨xs, H1, I1, r, z, q⟩ => ⟨by rw [← r.length]; exact z, ?_⟩)
  have hf : H1 s1.heap.objs.size = none := I1.hok.fresh (Nat.le_refl _)
  refine ⟨.ref s1.heap.objs.size, upd H1 s1.heap.objs.size (.tup xs), I1.laid (t' := s1.toks) (fun b u e => Heap.get?_push_of_some _ e) (Nat.le_refl _) ?_, rfl, q _ hf⟩
  exact ⟨z, us, r, ⟨_, Heap.get?_push_size _ rfl, rfl, ⟨_, rfl⟩, rfl⟩⟩
theorem pe_lst (h : PA X es t) : PE X (.List es pos) (tLst t) := by
  intro pins s σ H Q I hq
  refine wpAny_List_spliced (thn (h pos pins s σ H _ I hq) fun us s1 ⟨xs, H1, I1, r, z, q⟩ => ⟨by rw [← r.length]; exact z, ?_⟩)
  have hf : H1 s1.heap.objs.size = none := I1.hok.fresh (Nat.le_refl _)
  refine ⟨.ref s1.heap.objs.size, upd H1 s1.heap.objs.size (.lst xs), I1.laid (t' := s1.toks) (fun b u e => Heap.get?_push_of_some _ e) (Nat.le_refl _) ?_, rfl, q _ hf⟩
  exact ⟨z, us, 0, r, Heap.get?_push_size _ rfl⟩
end
noncomputable abbrev Sp := List V → Hp → VK → XK → Prop
noncomputable abbrev CXT := List Env → Hp → Shared → XK → Value → Shared → Prop
structure Env0 (P : Program) (w : World) (K : PySem.W.Frag) (mg : Str → Option Value) (base : Heap) (A : Around) (outer : List Env) (s : Shared) (H : Hp) : Prop where
  frames : A.frames = some outer
  mod : Mod K mg base
  bs : ∀ b o, base.get? b = some o → s.heap.get? b = some o ∧ H b = none
  bsz : base.objs.size ≤ s.heap.objs.size
  funs : s.heap.FunFrames base outer
  frf : ∀ b ∈ frs outer, H b = none
  hok : HOk P w H s.heap
  bare : AllBare s.gens
noncomputable def CE (outer : List Env) (P : Program) (w : World) (H : Hp) (s : Shared) (Q : VK) (u : Value) (s' : Shared) : Prop :=
  ∃ v H', s'.os = s.os ∧ AllBare s'.gens ∧ Un (frs outer) [] H H' s.heap s'.heap ∧ HOk P w H' s'.heap ∧ RelV v u ∧ Q v H'
noncomputable def CR (CX : CXT) (outer : List Env) (P : Program) (w : World) (H : Hp) (s : Shared) (Q : VK) (E : XK) (r : Result) (s' : Shared) : Prop :=
  match r with
  | .ok (.ret u) => CE outer P w H s Q u s'
  | .ok _ => False
  | .error e => CX outer H s E e s'
structure FnOk (P : Program) (w : World) (K : PySem.W.Frag) (mg : Str → Option Value) (base : Heap) (CX : CXT) (k : Nat) (f : Addr) (fd : FuncData) (ps : List Str) (sp : Sp) : Prop where
  len : ∀ vs H Q E, sp vs H Q E → vs.length = ps.length
  run : ∀ (A : Around) (outer : List Env) (s : Shared) (H : Hp) (args : Args) (us : List Value) (vs : List V) (Q : VK) (E : XK), Room k A → Env0 P w K mg base A outer s H → BindsTo s fd args (ps.zip us) → Vals vs us → sp vs H Q E →
    codeAny (model P w) A (.call (.ref f) args) (CR CX outer P w H s Q E) s
theorem FnOk.mono {P : Program} {w : World} {K : PySem.W.Frag} {mg : Str → Option Value} {base : Heap} {CX : CXT} {j k : Nat} {f : Addr} {fd : FuncData} {ps : List Str} {sp : Sp} (F : FnOk P w K mg base CX j f fd ps sp) (h : j ≤ k) :
    FnOk P w K mg base CX k f fd ps sp := ⟨F.len, fun A outer s H args us vs Q E hr => F.run A outer s H args us vs Q E (hr.mono h)⟩
theorem FnOk.imp {P : Program} {w : World} {K : PySem.W.Frag} {mg : Str → Option Value} {base : Heap} {CX : CXT} {k : Nat} {f : Addr} {fd : FuncData} {ps : List Str} {sp sp' : Sp} (F : FnOk P w K mg base CX k f fd ps sp)
    (h : ∀ vs H Q E, sp' vs H Q E → sp vs H Q E) : FnOk P w K mg base CX k f fd ps sp' :=
  ⟨fun vs H Q E q => F.len vs H Q E (h _ _ _ _ q), fun A outer s H args us vs Q E hr he hb hv hs => F.run A outer s H args us vs Q E hr he hb hv (h _ _ _ _ hs)⟩
theorem Env0.in1 {P : Program} {w : World} {K : PySem.W.Frag} {mg : Str → Option Value} {base : Heap} {A : Around} {outer : List Env} {s : Shared} {H : Hp} (e : Env0 P w K mg base A outer s H) :
    Env0 P w K mg base A.in1 outer s H := ⟨e.frames, e.mod, e.bs, e.bsz, e.funs, e.frf, e.hok, e.bare⟩
section
variable {X : Cx} {pins : List (Addr × Obj)} {σ : St} {H : Hp} {s s' : Shared}
theorem Inv.env0 (I : Inv X pins σ H s) : Env0 X.prog X.w X.K X.mg X.base X.A X.stack s H :=
  ⟨I.ok.frames, I.ok.mod, I.bs, Nat.le_trans I.ok.bsz I.sz, I.stack, I.stkFree, I.hok, I.bare⟩
theorem Inv.after {Q : VK} {u : Value} (I : Inv X pins σ H s) (h : CE X.stack X.prog X.w H s Q u s') : EP X pins σ Q u s' := by
  obtain ⟨v, H', os, bare, un, hok, r, q⟩ := h
  obtain ⟨hh, g, d, t, os'⟩ := s'
  obtain rfl : os' = s.os := os
  exact ⟨v, H', I.call (h' := hh) (g' := g) (d' := d) (t' := t) (ch := []) un hok bare (fun b z => absurd z (by simp)), r, q⟩
end
noncomputable def tCall (sp : Sp) (dvs : List V) (E : XK) (t : TA) : TE := fun σ H Q => t σ H fun vs H1 => sp (vs ++ dvs) H1 Q E
noncomputable def Binds (K : PySem.W.Frag) (fd : FuncData) (ps : List Str) (ds : List Value) : Prop :=
  ∀ (s : Shared) (us : List Value), K.In s.heap → (us ++ ds).length = ps.length → BindsTo s fd ⟨us, []⟩ (ps.zip (us ++ ds))
theorem Binds.all {K : PySem.W.Frag} {fd : FuncData} {ps : List Str} (h : ∀ us : List Value, us.length = ps.length → bindArgs fd ⟨us, []⟩ = pure (ps.zip us)) : Binds K fd ps [] := fun s us _ hl => by
  rw [List.append_nil] at hl ⊢
  exact .of_eq (h us hl)
noncomputable def Passes (CX : CXT) (X : Cx) (E : XK) : Prop := ∀ (pins : List (Addr × Obj)) (σ : St) (H : Hp) (s : Shared) (e : Value) (s' : Shared), Inv X pins σ H s → CX X.stack H s E e s' → X.xe e s'
section
variable {X : Cx} {CX : CXT} {k : Nat} {f C : Addr} {fd : FuncData} {ps : List Str} {sp : Sp} {dvs : List V} {ds : List Value} {E : XK} {x m : Str} {p pos apos : Pos} {e o : Expr} {es : List Expr} {ta : TE} {t : TA}
theorem run_fn {pins : List (Addr × Obj)} {σ : St} {H : Hp} {s : Shared} {Q : VK} {us : List Value} {vs : List V} (F : FnOk X.prog X.w X.K X.mg X.base CX k f fd ps sp) (hr : Room k X.A) (hb : Binds X.K fd ps ds) (hd : Vals dvs ds) (hx : Passes CX X E)
    (I : Inv X pins σ H s) (r : Vals vs us) (h : sp (vs ++ dvs) H Q E) : wpAny (model X.prog X.w) X.A (call (.ref f) us) (EP X pins σ Q) X.xe s := by
  have r2 : Vals (vs ++ dvs) (us ++ ds) := r.append hd
  have hl : (us ++ ds).length = ps.length := by rw [← r2.length]; exact F.len _ _ _ _ h
  refine wpAny_call (codeAny_mono (F.run X.A X.stack s H ⟨us, []⟩ (us ++ ds) (vs ++ dvs) Q E hr I.env0 (hb s us I.kIn hl) r2 h) fun r s' hq => ?_)
  cases r with
  | error e => exact hx pins σ H s e s' I hq
  | ok fl =>
    cases fl with
    | ret u => exact I.after hq
    | next => exact False.elim hq
    | brk => exact False.elim hq
    | cont => exact False.elim hq
theorem pe_call (F : FnOk X.prog X.w X.K X.mg X.base CX k f fd ps sp) (hr : Room k X.A) (hg : Gl X x) (hm : X.mg x = some (.ref f)) (hk : PySem.W.keepIn X.K (.ref f) = true) (hb : Binds X.K fd ps ds) (hd : Vals dvs ds) (hx : Passes CX X E)
    (ha : PA X (e :: es) t) (hdb : (x == ("__debug__" : Str)) = false := by decide) (he : starEach (e :: es) X.env = (false, eval e X.env) :: starEach es X.env := by with_unfolding_all rfl) (hpl : (backTo pos (starEach es X.env)).any (·.1) = false := by with_unfolding_all rfl) :
    PE X (.Call (.Name x p) (e :: es) [] pos) (tCall sp dvs E t) := by
  intro pins s σ H Q I h
  refine wpAny_Call_Name_kw (ld_glob I hg hm ?_ hdb)
  refine PySem.W.callWith_K (h₀ := X.base) I.ok.mod.kin hk (thn (ha pos pins s σ H _ I h) fun us s1 ⟨vs, H1, I1, r, q⟩ => ⟨I1.kIn, ?_⟩) he hpl
  exact run_fn F hr hb hd hx I1 r q
end
section
variable {X : Cx} {CX : CXT} {k : Nat} {f C : Addr} {fd : FuncData} {ps ks : List Str} {sp : Sp} {E : XK} {x m : Str} {p pos apos kpos : Pos} {e o : Expr} {es : List Expr} {kws : List Keyword} {te ta : TE} {t tk : TA} {nm : Option Str}
variable {g : List Value → List Value → List Value} {gV : List V → List V → List V}
end
structure FnScope (N P : List Str) (sc : Scope) : Prop where
  kind : sc.kind = .function
  co : sc.isCoroutine = false
  gen : sc.isGenerator = false
  nd : N.Nodup
  pre : N.take P.length = P
  par : ∀ x ∈ P, sc.names.lookup x = some .local ∨ sc.names.lookup x = some .cell
  nofree : ∀ y ∈ sc.names, y.2 ≠ .free
theorem bindL_out {kindOf : Str → Option NameKind} {x : Str} : ∀ {binds : List (Str × Value)} {m : Str → Option Value}, (∀ v, (x, v) ∉ binds) → bindL kindOf binds m x = m x
  | [], _, _ => rfl
  | (n, v) :: r, m, h => by
    unfold bindL
    rw [bindL_out fun w hw => h w (List.mem_cons_of_mem _ hw)]
    split
    · have : x ≠ n := by rintro rfl; exact h v List.mem_cons_self
      simp [this]
    · rfl
theorem bindC_out {kindOf : Str → Option NameKind} {x : Str} : ∀ {binds : List (Str × Value)} {m : Str → Option Value}, (∀ v, (x, v) ∉ binds) → bindC kindOf binds m x = m x
  | [], _, _ => rfl
  | (n, v) :: r, m, h => by
    unfold bindC
    rw [bindC_out fun w hw => h w (List.mem_cons_of_mem _ hw)]
    split
    · rfl
    · have : x ≠ n := by rintro rfl; exact h v List.mem_cons_self
      simp [this]
theorem bindL_get {kindOf : Str → Option NameKind} {x : Str} {v : Value} : ∀ {P : List Str} {vs : List Value} {i : Nat} {m : Str → Option Value}, P.Nodup → P[i]? = some x → vs[i]? = some v → kindOf x = some .local →
    bindL kindOf (P.zip vs) m x = some v
  | [], _, _, _, _, h, _, _ => by simp at h
  | _ :: _, [], _, _, _, _, h, _ => by simp at h
  | p :: P, w :: vs, 0, m, nd, h1, h2, hk => by
    simp at h1 h2; subst h1; subst h2
    show bindL kindOf ((p, w) :: P.zip vs) m p = _
    unfold bindL
    rw [bindL_out fun v hv => (List.nodup_cons.mp nd).1 (List.of_mem_zip hv).1, if_pos hk]
    simp
  | p :: P, w :: vs, i + 1, m, nd, h1, h2, hk => by
    show bindL kindOf ((p, w) :: P.zip vs) m x = _
    unfold bindL
    exact bindL_get (i := i) (List.nodup_cons.mp nd).2 (by simpa using h1) (by simpa using h2) hk
theorem bindC_get {kindOf : Str → Option NameKind} {x : Str} {v : Value} : ∀ {P : List Str} {vs : List Value} {i : Nat} {m : Str → Option Value}, P.Nodup → P[i]? = some x → vs[i]? = some v → kindOf x ≠ some .local →
    bindC kindOf (P.zip vs) m x = some v
  | [], _, _, _, _, h, _, _ => by simp at h
  | _ :: _, [], _, _, _, _, h, _ => by simp at h
  | p :: P, w :: vs, 0, m, nd, h1, h2, hk => by
    simp at h1 h2; subst h1; subst h2
    show bindC kindOf ((p, w) :: P.zip vs) m p = _
    unfold bindC
    rw [bindC_out fun v hv => (List.nodup_cons.mp nd).1 (List.of_mem_zip hv).1, if_neg hk]
    simp
  | p :: P, w :: vs, i + 1, m, nd, h1, h2, hk => by
    show bindC kindOf ((p, w) :: P.zip vs) m x = _
    unfold bindC
    exact bindC_get (i := i) (List.nodup_cons.mp nd).2 (by simpa using h1) (by simpa using h2) hk
noncomputable def start (N : List Str) (vs : List V) : St := vs.map some ++ List.replicate (N.length - vs.length) none
noncomputable def cxOf (CX : CXT) (P : Program) (w : World) (K : PySem.W.Frag) (mg : Str → Option Value) (base : Heap) (N : List Str) (qual : Str) (scope : Scope) (f : Addr) (cd : Value) (A : Around) (outer : List Env) (s : Shared) (H : Hp) (E : XK) : Cx where
  prog := P
  w := w
  K := K
  mg := mg
  base := base
  A := A.deeper (envOfC qual scope s.heap.objs.size f cd)
  N := N
  s₀ := s
  H₀ := H
  env := envOfC qual scope s.heap.objs.size f cd
  outer := outer
  stack := envOfC qual scope s.heap.objs.size f cd :: outer
  ex := []
  calm := true
  fn := fun _ => true
  pn := []
  xe := fun e s' => wpAny (model P w) (A.deeper (envOfC qual scope s.heap.objs.size f cd)) (leaving (envOfC qual scope s.heap.objs.size f cd) e) (fun _ s'' => CX outer H s E e s'') (fun e' s'' => CX outer H s E e' s'') s'
theorem cell_has {sc : Scope} {n : Nat} {x : Str} (h : sc.names.lookup x = some .cell) : ∃ c, (cellsFrom n sc.names []).lookup x = some c := by
  have q := PySem.W.cellsFrom_some sc.names n [] (.inl h)
  exact Option.isSome_iff_exists.mp q
theorem inv_start {CX : CXT} {P : Program} {w : World} {K : PySem.W.Frag} {mg : Str → Option Value} {base : Heap} {N ps : List Str} {qual : Str} {scope : Scope} {f : Addr} {cd : Value} {A : Around} {outer : List Env} {s s1 : Shared} {H : Hp} {E : XK} {us : List Value} {vs : List V}
    (S : FnScope N ps scope) (hd : A.handled = none) (e0 : Env0 P w K mg base A outer s H) (hl : vs.length = ps.length) (r : Vals vs us)
    (x : InCallC s s.heap.objs.size (bindL (envOfC qual scope s.heap.objs.size f cd).kindOf (ps.zip us) fun _ => none) (cellsFrom (s.heap.objs.size + 1) scope.names []) (bindC (envOfC qual scope s.heap.objs.size f cd).kindOf (ps.zip us) fun _ => none) s1) :
    Inv (cxOf CX P w K mg base N qual scope f cd A outer s H E) [] (start N vs) H s1 := by
  have hpl : ps.length ≤ N.length := by have := congrArg List.length S.pre; rw [List.length_take] at this; omega
  obtain ⟨h1, tk, rfl, hk⟩ := x.done
  have noA : ∀ b : Addr, b ∉ (cxOf CX P w K mg base N qual scope f cd A outer s H E).ex := fun b z => absurd (show b ∈ ([] : List Addr) from z) (by simp)
  refine ⟨⟨e0.mod, S.kind, rfl, rfl, Nat.le_refl _, fun y z c h1 h2 => ?_, fun y hy => ?_, fun y c _ h => ?_, fun _ => hd, Around.frames_deeper e0.frames, .inr ⟨rfl, rfl⟩, fun b z => absurd z (noA b), e0.bs, e0.bsz, fun b _ _ => noA b, fun b z => absurd z (noA b), e0.funs, e0.frf⟩,
    rfl, e0.bare, Un.kept hk, ⟨_, x.toInCall.ns, fun i y v h1 h2 h3 => ?_⟩, fun y c h => ⟨_, x.cell y c h⟩, e0.hok.fresh (Nat.le_refl _), fun y c h => ?_, fun p hp => absurd (show p ∈ ([] : List (Addr × Obj)) from hp) (by simp), e0.hok.kept hk, ?_⟩
  · exact name_of_addr x.apart (PySem.mem_of_lookup h1) (PySem.mem_of_lookup h2)
  · have hy : scope.names.lookup y = some .cell ∨ scope.names.lookup y = some .free := hy
    rcases hy with hy | hy
    · exact cell_has hy
    · exact absurd rfl (S.nofree _ (PySem.mem_of_lookup hy))
  · exact Nat.le_of_lt (x.above y c (PySem.mem_of_lookup h))
  · have hi : i < vs.length := by
      unfold start at h2
      by_cases hi : i < vs.length
      · exact hi
      · rw [List.getElem?_append_right (by simpa using hi)] at h2
        rw [List.getElem?_replicate] at h2
        split at h2 <;> cases h2
    have ha : vs[i]? = some v := by
      unfold start at h2
      rw [List.getElem?_append_left (by simpa using hi), List.getElem?_map] at h2
      cases e : vs[i]? with
      | none => rw [e] at h2; cases h2
      | some a => rw [e] at h2; cases h2; rfl
    obtain ⟨u, hu, rv⟩ := r.get ha
    have hp : ps[i]? = some y := by
      rw [← S.pre, List.getElem?_take_of_lt (by omega)]; exact h1
    have ndP : ps.Nodup := by rw [← S.pre]; exact S.nd.sublist (List.take_sublist _ _)
    refine ⟨u, rv, ?_⟩
    rcases S.par y (List.mem_of_getElem? hp) with k | k
    · exact .inl ⟨k, bindL_get ndP hp hu k⟩
    · obtain ⟨c, e⟩ := cell_has (n := s.heap.objs.size + 1) k
      refine .inr ⟨.inl k, c, e, ?_⟩
      have q := x.cell y c e
      rw [bindC_get ndP hp hu (by show scope.names.lookup y ≠ _; rw [k]; decide)] at q
      exact q
  · exact e0.hok.fresh (Nat.le_of_lt (x.above y c (PySem.mem_of_lookup h)))
  · unfold start
    show _ = N.length
    rw [List.length_append, List.length_map, List.length_replicate]
    omega
theorem fn_of {CX : CXT} {P : Program} {w : World} {K : PySem.W.Frag} {mg : Str → Option Value} {base : Heap} {k : Nat} {f : Addr} {name qual : Str} {params : Arguments} {body : List Stmt} {scope : Scope} {dV kV doc pm cdv ct oc : Value} {an od : Option Addr}
    {osl : Array (Option Value)} {N ps : List Str} {sp : Sp} (lk : K.lookup f = some ⟨oc, od, .func (PySem.W.fnOf name qual params body scope dV kV doc pm an cdv ct), osl⟩) (hcd : PySem.W.codeIn K cdv qual = true) (S : FnScope N ps scope)
    (len : ∀ vs H Q E, sp vs H Q E → vs.length = ps.length)
    (hbody : ∀ (A : Around) (outer : List Env) (s : Shared) (H : Hp) (vs : List V) (Q : VK) (E : XK), Room k (A.deeper (envOfC qual scope s.heap.objs.size f cdv)) → sp vs H Q E →
      ∃ t, PSs (cxOf CX P w K mg base N qual scope f cdv A outer s H E) body t ∧ t { nx := fun _ H' => Q .non H', rt := Q } (start N vs) H) :
    FnOk P w K mg base CX (k + 1) f (PySem.W.fnOf name qual params body scope dV kV doc pm an cdv ct) ps sp := by
  refine ⟨len, fun A outer s H args us vs Q E hr e0 hb r hsp => ?_⟩
  have hl := len _ _ _ _ hsp
  have KX : K.In s.heap := e0.mod.kin.keeps fun b o e => (e0.bs b o e).1
  have lim : s.heap.NoLimit := e0.mod.nolimit.keeps fun b o e => (e0.bs b o e).1
  have hkind : ∀ y ∈ ps.zip us, scope.names.lookup y.1 = some .local ∨ (scope.names.lookup y.1 = some .cell ∧ ((cellsFrom (s.heap.objs.size + 1) scope.names []).lookup y.1).isSome = true) := fun ⟨n, v⟩ hy => by
    rcases S.par n (List.of_mem_zip hy).1 with q | q
    · exact .inl q
    · exact .inr ⟨q, PySem.W.cellsFrom_some _ _ _ (.inl q)⟩
  refine codeAny_call_function hr.depth (KX _ _ lk) rfl S.co S.gen rfl (PySem.W.codeRec_of KX hcd) (hb _ _ _ _ ?_)
  refine wpAny_newFunctionEnv_cells S.kind hkind fun env he s1 x => ?_
  subst he
  refine ⟨lim.keeps x.toInCall.keep, codeAny_func ?_⟩
  obtain ⟨t, ht, hq⟩ := hbody A outer s H vs Q E (hr.deeper _) hsp
  have I : Inv (cxOf CX P w K mg base N qual scope f cdv A outer s H E) [] (start N vs) H s1 := inv_start S hr.hd e0 hl r x
  refine wpAny_mono (ht [] s1 (start N vs) H _ I hq) (fun fl s' hs => ?_) fun e s' hs => hs
  have fin : ∀ {σ' : St} {H' : Hp} {v : V} {u : Value}, Inv (cxOf CX P w K mg base N qual scope f cdv A outer s H E) [] σ' H' s' → RelV v u → Q v H' → CE outer P w H s Q u s' :=
    fun {σ' H' v u} J rv q => ⟨v, H', J.os, J.bare, J.base, J.hok, rv, q⟩
  cases fl with
  | ret u =>
    obtain ⟨v, σ', H', J, rv, q⟩ := hs
    exact fin J rv q
  | next =>
    obtain ⟨σ', H', J, q⟩ := hs
    exact fin (v := V.non) (u := Value.none) J rfl q
  | brk =>
    obtain ⟨_, _, _, q⟩ := hs
    exact False.elim q
  | cont =>
    obtain ⟨_, _, _, q⟩ := hs
    exact False.elim q
end L2
namespace L2
open PySem PySem.Spec PyProof.Rows
section
variable {X : Cx} {x : Str} {p pos : Pos} {e : Expr} {es : List Expr} {t : TA} {id T : String} {r : List V → Hp → VK → Prop}
noncomputable def tCB (r : List V → Hp → VK → Prop) (t : TA) : TE := fun σ H Q => t σ H fun vs H1 => r vs H1 Q
theorem pe_callB (hc : CallR X (.builtin id) r) (hg : Gl X x) (hm : X.mg x = none) (hv : bootBuiltins x = some (.builtin id)) (ha : PA X (e :: es) t) (hn : x ≠ "__name__" := by decide) (hdb : (x == ("__debug__" : Str)) = false := by decide)
    (he : starEach (e :: es) X.env = (false, eval e X.env) :: starEach es X.env := by with_unfolding_all rfl) (hpl : (backTo pos (starEach es X.env)).any (·.1) = false := by with_unfolding_all rfl) : PE X (.Call (.Name x p) (e :: es) [] pos) (tCB r t) := by
  intro pins s σ H Q I h
  refine wpAny_Call_Name_kw (ld_blt I hg hm hv ?_ hn hdb)
  exact PyProof.Rows.callWith_builtin1 (thn (ha pos pins s σ H _ I h) fun us s1 ⟨vs, H1, I1, r1, q1⟩ => hc pins s1 σ H1 vs us Q I1 r1 q1) he hpl
theorem pe_callTy (hc : CallR X (.type T) r) (hg : Gl X x) (hm : X.mg x = none) (hv : bootBuiltins x = some (.type T)) (ha : PA X (e :: es) t) (hn : x ≠ "__name__" := by decide) (hdb : (x == ("__debug__" : Str)) = false := by decide)
    (he : starEach (e :: es) X.env = (false, eval e X.env) :: starEach es X.env := by with_unfolding_all rfl) (hpl : (backTo pos (starEach es X.env)).any (·.1) = false := by with_unfolding_all rfl) : PE X (.Call (.Name x p) (e :: es) [] pos) (tCB r t) := by
  intro pins s σ H Q I h
  refine wpAny_Call_Name_kw (ld_blt I hg hm hv ?_ hn hdb)
  exact PyProof.Rows.callWith_type1 (thn (ha pos pins s σ H _ I h) fun us s1 ⟨vs, H1, I1, r1, q1⟩ => hc pins s1 σ H1 vs us Q I1 r1 q1) he hpl
end
end L2
namespace HT
open PySem PyProof.Rows
section
open PySem.SeqAt
open PySem.AutoSeq1 (wpAny_loadPart')
open PySem.MeetsSeq PySem.MeetsSeq2 PySem.MeetsSeq3
end
section
variable {prog : Program} {w : World} {A : Around} {E : Value → Shared → Prop} {s : Shared}
theorem cat_tup {t b : Addr} {vs ws : List Value} {Q : Value → Shared → Prop} (ht : IsTup s.heap t vs.toArray) (hb : IsTup s.heap b ws.toArray) (hv : vs ≠ [])
    (h1 : ws = [] → Q (.ref t) s) (h2 : ws ≠ [] → Q (.ref s.heap.objs.size) { s with heap := s.heap.push { cls := .type "tuple", data := .seq (vs ++ ws).toArray } })
    (hsz : vs.length + ws.length ≤ sizeLine) : wpAny (model prog w) A (binaryOp .Add (.ref t) (.ref b)) Q E s := by
  obtain ⟨⟨cls, dd, data, sl⟩, ho, hc, n, hd⟩ := id ht
  obtain ⟨⟨cls2, dd2, data2, sl2⟩, ho2, hc2, n2, hd2⟩ := id hb
  simp only at hc hd hc2 hd2
  subst hc hd hc2 hd2
  have e : vs.toArray ++ ws.toArray = (vs ++ ws).toArray := by simp
  by_cases hw : ws = []
  · exact concat_meets ⟨_, ho, rfl⟩ ⟨_, ho2, rfl⟩ noFill_tuple_add seq_tuple_add PySem.F.slot_tuple_add PySem.F.entry_tuple_add (PySem.F.args_tuple_add_2 _ _)
      (tuple_addW1 t b vs.toArray ws.toArray n n2 dd dd2 sl sl2 (by simpa using hv) (by simp [hw])) ⟨ho, ho2, h1 hw⟩
  · refine concat_meets ⟨_, ho, rfl⟩ ⟨_, ho2, rfl⟩ noFill_tuple_add seq_tuple_add PySem.F.slot_tuple_add PySem.F.entry_tuple_add (PySem.F.args_tuple_add_2 _ _)
      (tuple_addW2 t b vs.toArray ws.toArray n n2 dd dd2 sl sl2 (by simpa using hv) (by simpa using hw) (by rw [List.size_toArray, List.size_toArray]; exact hsz)) ⟨ho, ho2, ?_⟩
    rw [e]
    exact h2 hw
noncomputable def sIx (n d : Nat) : Option Int → Nat
  | none => d
  | some v => if v < 0 then (v + (n : Int)).toNat else min v.toNat n
theorem sIx_none (n d : Nat) : sIx n d none = d := rfl
theorem sIx_nat (n d k : Nat) : sIx n d (some (k : Int)) = min k n := by
  show (if (k : Int) < 0 then ((k : Int) + (n : Int)).toNat else min (k : Int).toNat n) = min k n
  rw [if_neg (by omega), Int.toNat_natCast]
theorem sIx_le (n d : Nat) (hd : d ≤ n) (o : Option Int) : sIx n d o ≤ n := by
  cases o with
  | none => exact hd
  | some v =>
    show (if v < 0 then (v + (n : Int)).toNat else min v.toNat n) ≤ n
    by_cases hv : v < 0
    · rw [if_pos hv]; omega
    · rw [if_neg hv]; exact Nat.min_le_right _ _
theorem clip_eq (v : Int) (n d : Nat) : (if v < 0 then max (v + (n : Int)) 0 else min v (n : Int)) = ((sIx n d (some v) : Nat) : Int) := by
  show (if v < 0 then max (v + (n : Int)) 0 else min v (n : Int)) = (((if v < 0 then (v + (n : Int)).toNat else min v.toNat n) : Nat) : Int)
  by_cases hv : v < 0
  · simp only [if_pos hv]; omega
  · simp only [if_neg hv]; omega
theorem adjust_gen (lo hi : Option Int) (n : Nat) : Builtin.Slice.sliceAdjust lo hi 1 (n : Int) = (((sIx n 0 lo : Nat) : Int), ((sIx n n hi : Nat) : Int)) := by
  have h1 : ¬ ((1 : Int) < 0) := by omega
  unfold Builtin.Slice.sliceAdjust
  simp only [h1, if_false]
  refine Prod.ext ?_ ?_
  · cases lo with
    | none => rfl
    | some v => exact clip_eq v n 0
  · cases hi with
    | none => rfl
    | some v => exact clip_eq v n n
theorem places_gen (i j : Nat) : Builtin.Slice.slicePlaces (i : Int) (j : Int) 1 = j - i := by
  unfold Builtin.Slice.slicePlaces
  have h1 : (1 : Int) > 0 := by omega
  simp only [h1, if_true, Int.ediv_one]
  split <;> omega
theorem slicePart_ {v : Value} {o : Option Int} {Q : Option Int → Shared → Prop} (p : IsPart v o) (h : Q o s) : wpAny (model prog w) A (Builtin.Slice.slicePartIndex v) Q E s := by
  cases p with
  | none => exact slicePart_none h
  | int i t => exact slicePart_int h
theorem sliceApplied_gen {sl : Addr} {vl vu : Value} {lo hi : Option Int} {n : Nat} {Q : Int × Int × Nat → Shared → Prop} (hs : s.heap.IsSliceOf sl vl vu .none) (pl : IsPart vl lo) (pu : IsPart vu hi)
    (h : Q (((sIx n 0 lo : Nat) : Int), 1, sIx n n hi - sIx n 0 lo) s) : wpAny (model prog w) A (Builtin.Slice.sliceApplied (.ref sl) (pure (n : Int))) Q E s := by
  obtain ⟨os, hos, hcs, hds⟩ := id hs
  unfold Builtin.Slice.sliceApplied Builtin.Slice.sliceFields
  refine wpAny_bind (wpAny_bind (wpAny_field hos hds (x := vl) rfl (wpAny_bind (wpAny_field hos hds (x := vu) rfl (wpAny_bind (wpAny_field hos hds (x := .none) rfl (wpAny_pure ?_)))))))
  refine wpAny_bind (slicePart_none ?_)
  show wpAny _ _ (if ((1 : Int) == 0) = true then _ else _) _ _ s
  rw [if_neg (by decide)]
  refine wpAny_bind (slicePart_ pl (wpAny_bind (slicePart_ pu (wpAny_bind (wpAny_pure ?_)))))
  show wpAny _ _ (match Builtin.Slice.sliceAdjust lo hi 1 (n : Int) with | (lo, hi) => pure (lo, (1 : Int), Builtin.Slice.slicePlaces lo hi 1)) _ _ s
  rw [adjust_gen lo hi n]
  show wpAny _ _ (pure (((sIx n 0 lo : Nat) : Int), (1 : Int), Builtin.Slice.slicePlaces ((sIx n 0 lo : Nat) : Int) ((sIx n n hi : Nat) : Int) 1)) _ _ s
  rw [places_gen]
  exact wpAny_pure h
theorem pick_gen (xs : Array Value) (i k : Nat) : ((List.range k).filterMap fun (m : Nat) => xs[((i : Int) + (m : Int) * 1).toNat]?).toArray = ((xs.toList.drop i).take k).toArray := by
  have e : (fun (m : Nat) => xs[((i : Int) + (m : Int) * 1).toNat]?) = fun m => xs[i + m]? := by
    funext m
    have : ((i : Int) + (m : Int) * 1).toNat = i + m := by omega
    rw [this]
  rw [e]
  have := pick_run xs i k
  rw [List.filterMap_map] at this
  have e2 : ((fun x => xs[x]?) ∘ fun x => i + x) = fun m => xs[i + m]? := rfl
  rw [e2] at this
  rw [this]
theorem getItem_tuple_cut {t sl : Addr} {items : Array Value} {vl vu : Value} {lo hi : Option Int} {Q : Value → Shared → Prop} (ht : IsTup s.heap t items) (hs : s.heap.IsSliceOf sl vl vu .none) (pl : IsPart vl lo) (pu : IsPart vu hi)
    (hw : ¬ (sIx items.size 0 lo = 0 ∧ sIx items.size items.size hi = items.size))
    (h : Q (.ref s.heap.objs.size) { s with heap := s.heap.push { cls := .type "tuple", data := .seq ((items.toList.drop (sIx items.size 0 lo)).take (sIx items.size items.size hi - sIx items.size 0 lo)).toArray } })
    (hsz : items.size ≤ sizeLine) : wpAny (model prog w) A (getItem (.ref t) (.ref sl)) Q E s := by
  have htake : sizeOk (.seq ((items.toList.drop (sIx items.size 0 lo)).take (sIx items.size items.size hi - sIx items.size 0 lo)).toArray) := by
    show ((items.toList.drop (sIx items.size 0 lo)).take (sIx items.size items.size hi - sIx items.size 0 lo)).toArray.size ≤ sizeLine
    rw [List.size_toArray, List.length_take, List.length_drop, Array.length_toList]
    omega
  have hj : sIx items.size items.size hi ≤ items.size := sIx_le _ _ (Nat.le_refl _) hi
  obtain ⟨os, hos, hcs, hds⟩ := id hs
  have hTs : s.TypeIs (.ref sl) "slice" := ⟨os, hos, hcs⟩
  unfold getItem
  try with_reducible refine wpAny_holding ?_
  first | refine wpAny_bind (wpAny_pure ?_) | skip
  refine wpAny_bind (wpAny_sequenceKey ht.typeIs (by decide) ?_)
  refine wpAny_bind (wpAny_callSpecial?_slot (name := Str.ofString "__getitem__") ht.typeIs PyProof.Rows.slot_tuple_getitem
    (wpAny_call_entry PyProof.Rows.slot_tuple_getitem ht.typeIs entry_tuple_getitem ?_ (args_tuple_getitem _ _)))
  show wpAny _ _ (Builtin.Tuple.tupleItemsOf (.ref t) >>= _) _ _ s
  refine wpAny_bind (tupleItemsOf_ ht ?_)
  refine wpAny_bind (wpAny_typeOf hTs ?_)
  rw [if_pos (by decide)]
  refine wpAny_bind (sliceApplied_gen hs pl pu ?_)
  have hno : ¬ ((((sIx items.size 0 lo : Nat) : Int) == 0 && (1 : Int) == 1 && (sIx items.size items.size hi - sIx items.size 0 lo) == items.size) = true) := by
    intro q
    rw [Bool.and_eq_true, Bool.and_eq_true] at q
    have q1 : ((sIx items.size 0 lo : Nat) : Int) = 0 := eq_of_beq q.1.1
    have q2 : sIx items.size items.size hi - sIx items.size 0 lo = items.size := eq_of_beq q.2
    exact hw ⟨by omega, by omega⟩
  show wpAny _ _ (if (((sIx items.size 0 lo : Nat) : Int) == 0 && (1 : Int) == 1 && (sIx items.size items.size hi - sIx items.size 0 lo) == items.size) = true then _ else _) _ _ s
  rw [if_neg hno, pick_gen]
  first
    | exact wpAny_bind (m := Builtin.Tuple.tupleExact _) (wpAny_newObj_type (wpAny_pure ⟨_, rfl, wpAny_pure h⟩) htake)
    | exact wpAny_bind (m := Builtin.Tuple.tupleExact _) (wpAny_newObj_type (wpAny_bind (wpAny_pure (wpAny_pure ⟨_, rfl, wpAny_pure h⟩))) htake)
    | exact wpAny_bind (wpAny_bind (m := Builtin.Tuple.tupleExact _) (wpAny_newObj_type (wpAny_pure (wpAny_pure ⟨_, rfl, wpAny_pure h⟩)) htake))
    | exact wpAny_bind (wpAny_bind (m := Builtin.Tuple.tupleExact _) (wpAny_newObj_type (wpAny_pure ⟨_, rfl, wpAny_pure h⟩) htake))
end
end HT
namespace L2
open PySem PySem.Spec PyProof.Rows
noncomputable abbrev TO := St → Hp → (Option Int → Hp → Prop) → Prop
noncomputable def PO (X : Cx) (e : Option Expr) (t : TO) : Prop :=
  ∀ (pins : List (Addr × Obj)) (s : Shared) (σ : St) (H : Hp) (Q : Option Int → Hp → Prop), Inv X pins σ H s → t σ H Q →
    wpAny (model X.prog X.w) X.A (evalPart e X.env) (fun u s' => ∃ o H', Inv X pins σ H' s' ∧ IsPart u o ∧ Q o H') X.xe s
noncomputable def tNoPart : TO := fun _ H Q => Q none H
noncomputable def tPart (t : TE) : TO := fun σ H Q => t σ H fun x H1 => ∃ i, x = .int i ∧ Q (some i) H1
section
variable {X : Cx} {e : Expr} {te : TE} {lo hi : Option Expr} {tl th : TO} {pos p2 : Pos}
theorem po_none : PO X none tNoPart := by
  intro pins s σ H Q I h
  rw [evalPart_none]
  exact wpAny_pure ⟨none, H, I, .none, h⟩
theorem po_some (h : PE X e te) : PO X (some e) (tPart te) := by
  intro pins s σ H Q I hw
  rw [evalPart_some]
  refine thn (h pins s σ H _ I hw) fun u s1 ⟨x, H1, I1, r1, q1⟩ => ?_
  obtain ⟨i, rfl, q⟩ := q1
  obtain ⟨t, rfl⟩ := r1
  exact ⟨some i, H1, I1, .int i t, q⟩
noncomputable def SlR (X : Cx) (r : V → Option Int → Option Int → Hp → VK → Prop) : Prop :=
  ∀ (pins : List (Addr × Obj)) (s : Shared) (σ : St) (H : Hp) (x : V) (v vl vu : Value) (lo hi : Option Int) (sl : Addr) (Q : VK), Inv X pins σ H s → RelV x v → s.heap.IsSliceOf sl vl vu .none → IsPart vl lo → IsPart vu hi → r x lo hi H Q →
    ∃ T id, typeLookup (.type T) "__getitem__" = pure (some (.builtin id)) ∧ s.TypeIs v T ∧ wpAny (model X.prog X.w) X.A (getItem v (.ref sl)) (EP X pins σ Q) X.xe s
theorem SlR.or {r r' : V → Option Int → Option Int → Hp → VK → Prop} (h : SlR X r) (h' : SlR X r') : SlR X (fun x lo hi H Q => r x lo hi H Q ∨ r' x lo hi H Q) := by
  intro pins s σ H x v vl vu lo hi sl Q I rx hs pl pu q
  rcases q with q | q
  · exact h pins s σ H x v vl vu lo hi sl Q I rx hs pl pu q
  · exact h' pins s σ H x v vl vu lo hi sl Q I rx hs pl pu q
noncomputable def tSl (r : V → Option Int → Option Int → Hp → VK → Prop) (te : TE) (tl th : TO) : TE := fun σ H Q => te σ H fun x H1 => tl σ H1 fun l H2 => th σ H2 fun u H3 => r x l u H3 Q
theorem pe_slice {r : V → Option Int → Option Int → Hp → VK → Prop} (hr : SlR X r) (he : PE X e te) (hl : PO X lo tl) (hu : PO X hi th) : PE X (.Subscript e (.Slice lo hi none p2) pos) (tSl r te tl th) := by
  intro pins s σ H Q I h
  refine Subscript_ (thn (he pins s σ H _ I h) fun v s1 ⟨x, H1, I1, r1, q1⟩ => ?_)
  refine wpAny_Slice (thn (hl pins s1 σ H1 _ I1 q1) fun vl s2 ⟨l, H2, I2, pl, q2⟩ => thn (hu pins s2 σ H2 _ I2 q2) fun vu s3 ⟨u, H3, I3, pu, q3⟩ => ?_)
  rw [evalPart_none]
  refine wpAny_pure ?_
  have I4 : Inv X pins σ H3 { s3 with heap := s3.heap.push { cls := .type "slice", data := .fields #[vl, vu, .none] } } := I3.kept (t' := s3.toks) fun b ob q => Heap.get?_push_of_some _ q
  obtain ⟨T, id, hT, ht, hg⟩ := hr pins { s3 with heap := s3.heap.push { cls := .type "slice", data := .fields #[vl, vu, .none] } } σ H3 x v vl vu l u s3.heap.objs.size Q I4 r1 (Heap.IsSliceOf.new ..) pl pu q3
  show wpAny (model X.prog X.w) X.A (subscriptTail e (.Slice lo hi none p2) v (.ref s3.heap.objs.size)) (EP X pins σ Q) X.xe { s3 with heap := s3.heap.push { cls := .type "slice", data := .fields #[vl, vu, .none] } }
  exact tail_any (ops := [.ref s3.heap.objs.size, v]) ht hT hg (by with_unfolding_all rfl)
noncomputable def cutV (xs : List V) (lo hi : Option Int) : List V := (xs.drop (HT.sIx xs.length 0 lo)).take (HT.sIx xs.length xs.length hi - HT.sIx xs.length 0 lo)
theorem cutV_length (xs : List V) (lo hi : Option Int) : (cutV xs lo hi).length ≤ xs.length := by
  unfold cutV
  rw [List.length_take, List.length_drop]
  omega
noncomputable def rSlT (K : PySem.W.Frag) : V → Option Int → Option Int → Hp → VK → Prop := fun x lo hi H Q => ∃ a xs, x = .ref a ∧ SqT K H a xs ∧
  ¬ (HT.sIx xs.length 0 lo = 0 ∧ HT.sIx xs.length xs.length hi = xs.length) ∧ ∀ p, H p = none → Q (.ref p) (upd H p (.tup (cutV xs lo hi)))
theorem sl_tup : SlR X (rSlT X.K) := by
  intro pins s σ H x v vl vu lo hi sl Q I rx hs pl pu h
  obtain ⟨a, xs, rfl, hx, hw, q⟩ := h
  cases rx
  obtain ⟨its, r, ht, hz⟩ := I.tuple hx
  have hlen : its.toArray.size = xs.length := by rw [List.size_toArray]; exact r.length.symm
  refine ⟨"tuple", _, PyProof.Rows.slot_tuple_getitem.lookup, ht.typeIs, ?_⟩
  refine HT.getItem_tuple_cut ht hs pl pu (by rw [hlen]; exact hw) ?_ (by rw [hlen]; exact hz)
  rw [hlen]
  refine ⟨.ref s.heap.objs.size, _, I.laid (t' := s.toks) (o := .tup (cutV xs lo hi)) (fun b ob q => Heap.get?_push_of_some _ q) (Nat.le_refl _) ?_, rfl, q _ (I.hok.fresh (Nat.le_refl _))⟩
  exact ⟨Nat.le_trans (cutV_length xs lo hi) hz, _, (r.drop (HT.sIx xs.length 0 lo)).take (HT.sIx xs.length xs.length hi - HT.sIx xs.length 0 lo), IsTupN.new _ _⟩
noncomputable def rCatT (K : PySem.W.Frag) : R2 := fun x y H Q => ∃ a b xs ys, x = .ref a ∧ y = .ref b ∧ SqT K H a xs ∧ SqT K H b ys ∧ xs ≠ [] ∧ xs.length + ys.length ≤ sizeLine ∧
  (ys = [] → Q (.ref a) H) ∧ (ys ≠ [] → ∀ p, H p = none → Q (.ref p) (upd H p (.tup (xs ++ ys))))
theorem Vals.nil_iff {xs : List V} {us : List Value} (r : Vals xs us) : us = [] ↔ xs = [] := by
  cases r with
  | nil => simp
  | cons _ _ => simp
theorem op_catT : OpR X (binaryOp .Add) (rCatT X.K) := by
  intro pins s σ H x y v u Q I rx ry h
  obtain ⟨a, b, xs, ys, rfl, rfl, ha, hb, hx, hz, q1, q2⟩ := h
  cases rx
  cases ry
  obtain ⟨its, r1, p1, _⟩ := I.tuple ha
  obtain ⟨its2, r2, p2, _⟩ := I.tuple hb
  refine HT.cat_tup p1 p2 (fun z => hx (r1.nil_iff.mp z)) (fun z => ⟨.ref a, H, I, rfl, q1 (r2.nil_iff.mp z)⟩) (fun z => ?_) (by rw [← r1.length, ← r2.length]; exact hz)
  refine ⟨.ref s.heap.objs.size, _, I.laid (t' := s.toks) (o := .tup (xs ++ ys)) (fun b ob q => Heap.get?_push_of_some _ q) (Nat.le_refl _) ?_, rfl, q2 (fun w => z (r2.nil_iff.mpr w)) _ (I.hok.fresh (Nat.le_refl _))⟩
  exact ⟨by rw [List.length_append]; exact hz, _, r1.append r2, IsTupN.new _ _⟩
end
end L2
namespace L2
open PySem PySem.Spec PyProof.Rows
noncomputable def ixN (n : Nat) (i : Int) : Option Nat := if 0 ≤ i then (if i < n then some i.toNat else none) else if -(n : Int) ≤ i then some (i + n).toNat else none
noncomputable def atI {α : Type} (xs : List α) (i : Int) : Option α := (ixN xs.length i).bind fun j => xs[j]?
theorem ixN_seq {n : Nat} {i : Int} {j : Nat} (h : ixN n i = some j) : seqIndex? i n = some j ∧ j < n ∧ -(n : Int) ≤ i ∧ i < n := by
  unfold ixN at h
  by_cases h0 : 0 ≤ i
  · rw [if_pos h0] at h
    by_cases h1 : i < n
    · rw [if_pos h1] at h
      have e : i.toNat = j := Option.some.inj h
      exact ⟨by rw [seqIndex_of h0 h1, e], by omega, by omega, h1⟩
    · rw [if_neg h1] at h; cases h
  · rw [if_neg h0] at h
    by_cases h1 : -(n : Int) ≤ i
    · rw [if_pos h1] at h
      have e : (i + n).toNat = j := Option.some.inj h
      exact ⟨by rw [seqIndex_neg (by omega) h1, e], by omega, h1, by omega⟩
    · rw [if_neg h1] at h; cases h
theorem atI_get {α : Type} {xs : List α} {i : Int} {v : α} (h : atI xs i = some v) : ∃ j, seqIndex? i xs.length = some j ∧ xs[j]? = some v ∧ j < xs.length ∧ -(xs.length : Int) ≤ i ∧ i < xs.length := by
  unfold atI at h
  cases e : ixN xs.length i with
  | none => rw [e] at h; cases h
  | some j =>
    rw [e] at h
    obtain ⟨h1, h2, h3, h4⟩ := ixN_seq e
    exact ⟨j, h1, h, h2, h3, h4⟩
theorem atI_nat {α : Type} {xs : List α} {j : Nat} {v : α} (h : xs[j]? = some v) : atI xs (j : Int) = some v := by
  have hj : j < xs.length := (List.getElem?_eq_some_iff.mp h).1
  have e : ixN xs.length (j : Int) = some j := by
    unfold ixN
    rw [if_pos (by omega), if_pos (by omega)]; simp
  unfold atI; rw [e]; exact h
theorem atI_last {α : Type} (xs : List α) (v : α) : atI (xs ++ [v]) (-1) = some v := by
  have hl : (xs ++ [v]).length = xs.length + 1 := by simp
  have e : ixN (xs ++ [v]).length (-1) = some xs.length := by
    unfold ixN
    rw [hl, if_neg (by decide), if_pos (by omega)]
    congr 1
    omega
  unfold atI
  rw [e]
  show (xs ++ [v])[xs.length]? = some v
  simp
noncomputable def PlainIx (b : Expr) : Prop := ∀ o i, subscripted b false o i = operate [o, i] (getItem o i)
noncomputable def IxR (X : Cx) (r : R2) : Prop :=
  ∀ (value slice : Expr) (pins : List (Addr × Obj)) (s : Shared) (σ : St) (H : Hp) (x y : V) (v u : Value) (Q : VK), Inv X pins σ H s → RelV x v → RelV y u → r x y H Q →
    subscripted slice false v u = operate [v, u] (getItem v u) → wpAny (model X.prog X.w) X.A (subscriptTail value slice v u) (EP X pins σ Q) X.xe s
noncomputable def MtR (X : Cx) (id : String) (r : V → List V → Hp → VK → Prop) : Prop :=
  ∀ (pins : List (Addr × Obj)) (s : Shared) (σ : St) (H : Hp) (x : V) (xs : List V) (v : Value) (us : List Value) (Q : VK), Inv X pins σ H s → RelV x v → Vals xs us → r x xs H Q →
    wpAny (model X.prog X.w) X.A (call (.builtin id) (v :: us)) (EP X pins σ Q) X.xe s
section
variable {X : Cx} {a b : Expr} {ta tb : TE} {pos : Pos}
theorem IxR.or {r r' : R2} (h : IxR X r) (h' : IxR X r') : IxR X (fun x y H Q => r x y H Q ∨ r' x y H Q) := by
  intro value slice pins s σ H x y v u Q I rx ry q hs
  rcases q with q | q
  · exact h value slice pins s σ H x y v u Q I rx ry q hs
  · exact h' value slice pins s σ H x y v u Q I rx ry q hs
theorem MtR.or {id : String} {r r' : V → List V → Hp → VK → Prop} (h : MtR X id r) (h' : MtR X id r') : MtR X id (fun x xs H Q => r x xs H Q ∨ r' x xs H Q) := by
  intro pins s σ H x xs v us Q I rx rs q
  rcases q with q | q
  · exact h pins s σ H x xs v us Q I rx rs q
  · exact h' pins s σ H x xs v us Q I rx rs q
theorem pe_ix {r : R2} (hr : IxR X r) (ha : PE X a ta) (hb : PE X b tb) (hs : PlainIx b) : PE X (.Subscript a b pos) (tOp r ta tb) := by
  intro pins s σ H Q I h
  exact Subscript_ (binT ha hb I h fun v u s2 x y H2 I2 rx ry q => hr a b pins s2 σ H2 x y v u Q I2 rx ry q (hs _ _))
noncomputable def rIxL (K : PySem.W.Frag) : R2 := fun x y H Q => ∃ p xs i v, x = .ref p ∧ y = .int i ∧ SqL K H p xs ∧ atI xs i = some v ∧ Q v H
noncomputable def rIxT (K : PySem.W.Frag) : R2 := fun x y H Q => ∃ p xs i v, x = .ref p ∧ y = .int i ∧ SqT K H p xs ∧ atI xs i = some v ∧ Q v H
noncomputable def rIxS : R2 := fun x y H Q => ∃ z i c, x = .str z ∧ y = .int i ∧ z.length ≤ sizeLine ∧ atI z.cps.toList i = some c ∧ Q (.str ⟨#[c]⟩) H
theorem ix_list : IxR X (rIxL X.K) := by
  intro value slice pins s σ H x y v u Q I rx ry h hs
  obtain ⟨p, xs, i, z, rfl, rfl, hq, he, q⟩ := h
  cases rx
  obtain ⟨t, rfl⟩ := ry
  obtain ⟨its, r, pl, hz⟩ := I.list hq
  obtain ⟨j, h1, h2, h3, h4, h5⟩ := atI_get he
  obtain ⟨w, ew, rw'⟩ := r.get h2
  have hl := r.length
  have hn := line63
  have fin : EP X pins σ Q w s := ⟨z, H, I, rw', q⟩
  by_cases h0 : 0 ≤ i
  · have hj : i.toNat = j := by
      rw [seqIndex_of h0 h5] at h1
      exact Option.some.inj h1
    exact item_listR pl.isList h0 (by omega) (by rw [hj]; simpa using ew) fin hs
  · have hj : (i + (its.toArray.size : Int)).toNat = j := by
      rw [seqIndex_neg (by omega) h4] at h1
      rw [List.size_toArray, ← hl]
      exact Option.some.inj h1
    exact subscriptTail_builtinR (x := w) pl.isList.typeIs slot_list_getitem.lookup
      (wpAny_getItem_list_neg (Q := fun r s' => r = w ∧ EP X pins σ Q r s') pl.isList (by omega) (by rw [List.size_toArray] <;> omega) (by omega) (by rw [hj]; simpa using ew) ⟨rfl, fin⟩) hs
theorem ix_tup : IxR X (rIxT X.K) := by
  intro value slice pins s σ H x y v u Q I rx ry h hs
  obtain ⟨p, xs, i, z, rfl, rfl, hq, he, q⟩ := h
  cases rx
  obtain ⟨t, rfl⟩ := ry
  obtain ⟨its, r, pl, hz⟩ := I.tuple hq
  obtain ⟨j, h1, h2, h3, h4, h5⟩ := atI_get he
  obtain ⟨w, ew, rw'⟩ := r.get h2
  have hl := r.length
  have hn := line63
  have fin : EP X pins σ Q w s := ⟨z, H, I, rw', q⟩
  exact subscriptTail_builtinR (x := w) pl.typeIs slot_tuple_getitem.lookup
    (getItem_tuple (j := j) (Q := fun r s' => r = w ∧ EP X pins σ Q r s') pl (by omega) (by omega) (by rw [List.size_toArray, ← hl]; exact h1) (by simpa using ew) ⟨rfl, fin⟩) hs
theorem ix_str : IxR X rIxS := by
  intro value slice pins s σ H x y v u Q I rx ry h hs
  obtain ⟨z, i, c, rfl, rfl, hz, he, q⟩ := h
  obtain ⟨t, rfl⟩ := rx
  obtain ⟨t', rfl⟩ := ry
  obtain ⟨j, h1, h2, h3, h4, h5⟩ := atI_get he
  have hl : z.cps.toList.length = z.length := by simp [Str.length]
  rw [hl] at h1 h4 h5
  have hn := line63
  exact tail_any (typeIs_str s z t) slot_str_getitem.lookup (getItem_str (c := c) (by
    have e1 : decide (i < -(2 ^ 63 : Int)) = false := decide_eq_false (by omega)
    have e2 : decide (i ≥ 2 ^ 63) = false := decide_eq_false (by omega)
    rw [e1, e2, Bool.or_false]) (by rw [h1]; simpa using h2) ⟨.str ⟨#[c]⟩, H, I.tok _, ⟨_, rfl⟩, q⟩) hs
noncomputable def rIx (K : PySem.W.Frag) : R2 := fun x y H Q => rIxL K x y H Q ∨ rIxT K x y H Q ∨ rIxS x y H Q
theorem ix_seq : IxR X (rIx X.K) := ix_list.or (ix_tup.or ix_str)
theorem Inv.lst {pins : List (Addr × Obj)} {σ : St} {H : Hp} {s : Shared} {p : Addr} {xs : List V} (I : Inv X pins σ H s) (h : H p = some (.lst xs)) :
    ∃ (its : List Value) (n : Nat), Vals xs its ∧ s.heap.get? p = some { cls := .type "list", data := .seq its.toArray n } ∧ xs.length ≤ sizeLine := by
  obtain ⟨z, its, n, r, e⟩ := I.hok p _ h
  exact ⟨its, n, r, e, z⟩
theorem slice_bounds (lo hi : Option Int) (n : Nat) : (sliceBounds lo hi none n).1 = ((HT.sIx n 0 lo : Nat) : Int) ∧ (sliceBounds lo hi none n).2.1 = ((HT.sIx n n hi : Nat) : Int) ∧ (sliceBounds lo hi none n).2.2 = 1 := by
  refine ⟨?_, ?_, rfl⟩
  · cases lo with
    | none => simp [sliceBounds, HT.sIx]
    | some i =>
      simp only [sliceBounds, HT.sIx, Option.getD_none, show (1 : Int) > 0 by decide, if_true]
      by_cases h : i < 0
      · simp only [h, if_true] <;> omega
      · simp only [h, if_false] <;> omega
  · cases hi with
    | none => simp [sliceBounds, HT.sIx]
    | some i =>
      simp only [sliceBounds, HT.sIx, Option.getD_none, show (1 : Int) > 0 by decide, if_true]
      by_cases h : i < 0
      · simp only [h, if_true] <;> omega
      · simp only [h, if_false] <;> omega
theorem slicePick_cut (its : List Value) (lo hi : Option Int) : slicePick its.toArray lo hi none = ((its.drop (HT.sIx its.length 0 lo)).take (HT.sIx its.length its.length hi - HT.sIx its.length 0 lo)).toArray := by
  obtain ⟨h1, h2, h3⟩ := slice_bounds lo hi its.toArray.size
  unfold slicePick
  rw [h1, h2, h3]
  simp only [sliceRange_one, pick_run, List.size_toArray] <;> rfl
noncomputable def rSlL (K : PySem.W.Frag) : V → Option Int → Option Int → Hp → VK → Prop := fun x lo hi H Q => ∃ a xs, x = .ref a ∧ SqL K H a xs ∧ ∀ p, H p = none → Q (.ref p) (upd H p (.lst (cutV xs lo hi)))
theorem sl_list : SlR X (rSlL X.K) := by
  intro pins s σ H x v vl vu lo hi sl Q I rx hs pl pu h
  obtain ⟨a, xs, rfl, hx, q⟩ := h
  cases rx
  obtain ⟨its, r, ht, hz⟩ := I.list hx
  have hlen := r.length
  refine ⟨"list", _, slot_list_getitem.lookup, ht.isList.typeIs, ?_⟩
  refine wpAny_getItem_list_slice ht.isList hs pl pu .none (by simp) ?_ (by rw [List.size_toArray] <;> omega)
  rw [slicePick_cut, ← hlen]
  refine ⟨.ref s.heap.objs.size, _, I.laid (t' := s.toks) (o := .lst (cutV xs lo hi)) (fun b ob q => Heap.get?_push_of_some _ q) (Nat.le_refl _) ?_, rfl, q _ (I.hok.fresh (Nat.le_refl _))⟩
  exact ⟨Nat.le_trans (cutV_length xs lo hi) hz, _, 0, (r.drop (HT.sIx xs.length 0 lo)).take (HT.sIx xs.length xs.length hi - HT.sIx xs.length 0 lo), Heap.get?_push_size _ rfl⟩
noncomputable def flatV : V → Bool
  | .non => true
  | .bl _ => true
  | .int _ => true
  | .str _ => true
  | _ => false
noncomputable def eqV : V → V → Bool
  | .non, .non => true
  | .bl a, .bl b => a == b
  | .bl a, .int b => (if a then 1 else 0) == b
  | .int a, .bl b => a == (if b then 1 else 0)
  | .int a, .int b => a == b
  | .str a, .str b => a == b
  | _, _ => false
theorem eqAt_V {A : Around} {s : Shared} {y x : V} {u v : Value} (ry : RelV y u) (rx : RelV x v) (fy : flatV y = true) (fx : flatV x = true) : SeqAt.EqAt A s u v (eqV y x) := by
  cases y with
  | non =>
    cases ry
    cases x with
    | non => cases rx; exact SeqAt.EqAt.same _
    | bl b => cases rx; exact SeqAt.EqAt.none_bool b
    | int b => obtain ⟨t, rfl⟩ := rx; exact SeqAt.EqAt.none_int b t
    | str b => obtain ⟨t, rfl⟩ := rx; exact SeqAt.EqAt.none_str b t
    | _ => exact absurd (show false = true from fx) Bool.false_ne_true
  | bl a =>
    cases ry
    cases x with
    | non => cases rx; exact SeqAt.EqAt.bool_none a
    | bl b => cases rx; exact SeqAt.EqAt.bool_bool a b
    | int b => obtain ⟨t, rfl⟩ := rx; exact SeqAt.EqAt.bool_int a b t
    | str b => obtain ⟨t, rfl⟩ := rx; exact SeqAt.EqAt.bool_str a b t
    | _ => exact absurd (show false = true from fx) Bool.false_ne_true
  | int a =>
    obtain ⟨t', rfl⟩ := ry
    cases x with
    | non => cases rx; exact SeqAt.EqAt.int_none a t'
    | bl b => cases rx; exact SeqAt.EqAt.int_bool a t' b
    | int b => obtain ⟨t, rfl⟩ := rx; exact SeqAt.EqAt.int_int a t' b t
    | str b => obtain ⟨t, rfl⟩ := rx; exact SeqAt.EqAt.int_str a t' b t
    | _ => exact absurd (show false = true from fx) Bool.false_ne_true
  | str a =>
    obtain ⟨t', rfl⟩ := ry
    cases x with
    | non => cases rx; exact SeqAt.EqAt.str_none a t'
    | bl b => cases rx; exact SeqAt.EqAt.str_bool a t' b
    | int b => obtain ⟨t, rfl⟩ := rx; exact SeqAt.EqAt.str_int a t' b t
    | str b => obtain ⟨t, rfl⟩ := rx; exact SeqAt.EqAt.str_str a t' b t
    | _ => exact absurd (show false = true from fx) Bool.false_ne_true
  | _ => exact absurd (show false = true from fy) Bool.false_ne_true
noncomputable def eqU (x : V) (u : Value) : Bool := match u with
  | .none => eqV .non x
  | .bool b => eqV (.bl b) x
  | .int i _ => eqV (.int i) x
  | .str z _ => eqV (.str z) x
  | _ => false
theorem eqU_of {x y : V} {u : Value} (r : RelV y u) (f : flatV y = true) : eqU x u = eqV y x := by
  cases y with
  | non => cases r; rfl
  | bl b => cases r; rfl
  | int i => obtain ⟨t, rfl⟩ := r; rfl
  | str z => obtain ⟨t, rfl⟩ := r; rfl
  | _ => exact absurd (show false = true from f) Bool.false_ne_true
theorem any_eqU {x : V} : ∀ {xs : List V} {us : List Value}, Vals xs us → xs.all flatV = true → us.any (eqU x) = xs.any fun y => eqV y x
  | _, _, .nil, _ => rfl
  | y :: xs, u :: us, .cons r t, f => by
    rw [List.all_cons, Bool.and_eq_true] at f
    rw [List.any_cons, List.any_cons, eqU_of r f.1, any_eqU t f.2]
theorem mem_eqAt {A : Around} {s : Shared} {x : V} {v : Value} (rx : RelV x v) (fx : flatV x = true) : ∀ {xs : List V} {us : List Value}, Vals xs us → xs.all flatV = true → ∀ u ∈ us, SeqAt.EqAt A s u v (eqU x u)
  | _, _, .nil, _ => fun u hu => by cases hu
  | y :: xs, u :: us, .cons r t, f => fun u' hu => by
    rw [List.all_cons, Bool.and_eq_true] at f
    rcases List.mem_cons.mp hu with rfl | hu
    · rw [eqU_of r f.1]; exact eqAt_V r rx f.1 fx
    · exact mem_eqAt rx fx t f.2 u' hu
noncomputable def inV (x : V) (xs : List V) : Bool := xs.any fun y => eqV y x
noncomputable def rIn (K : PySem.W.Frag) (neg : Bool) : R2 := fun x y H Q => ∃ p xs, y = .ref p ∧ (SqL K H p xs ∨ SqT K H p xs) ∧ flatV x = true ∧ xs.all flatV = true ∧ Q (.bl (if neg then !inV x xs else inV x xs)) H
theorem op_in_seq : OpR X (compareOp .In) (rIn X.K false) := by
  intro pins s σ H x y v u Q I rx ry h
  obtain ⟨p, xs, rfl, hq, fx, fs, q⟩ := h
  cases ry
  rcases hq with hq | hq
  · obtain ⟨its, r, pl, hz⟩ := I.list hq
    refine SeqAt.in_listAt (eqU x) pl.isList (fun w hw => mem_eqAt rx fx r fs w (by simpa using hw)) ⟨.bl _, H, I, rfl, ?_⟩
    rw [show its.toArray.any (eqU x) = its.any (eqU x) by simp, any_eqU r fs]
    exact q
  · obtain ⟨its, r, pl, hz⟩ := I.tuple hq
    refine SeqAt.in_tupleAt (eqU x) pl (fun w hw => mem_eqAt rx fx r fs w (by simpa using hw)) ⟨.bl _, H, I, rfl, ?_⟩
    rw [show its.toArray.any (eqU x) = its.any (eqU x) by simp, any_eqU r fs]
    exact q
theorem op_notIn_seq : OpR X (compareOp .NotIn) (rIn X.K true) := by
  intro pins s σ H x y v u Q I rx ry h
  obtain ⟨p, xs, rfl, hq, fx, fs, q⟩ := h
  cases ry
  rcases hq with hq | hq
  · obtain ⟨its, r, pl, hz⟩ := I.list hq
    refine SeqAt.notIn_listAt (eqU x) pl.isList (fun w hw => mem_eqAt rx fx r fs w (by simpa using hw)) ⟨.bl _, H, I, rfl, ?_⟩
    rw [show its.toArray.any (eqU x) = its.any (eqU x) by simp, any_eqU r fs]
    exact q
  · obtain ⟨its, r, pl, hz⟩ := I.tuple hq
    refine SeqAt.notIn_tupleAt (eqU x) pl (fun w hw => mem_eqAt rx fx r fs w (by simpa using hw)) ⟨.bl _, H, I, rfl, ?_⟩
    rw [show its.toArray.any (eqU x) = its.any (eqU x) by simp, any_eqU r fs]
    exact q
theorem op_notIn_str : OpR X (compareOp .NotIn) (fun x y H Q => ∃ i j, x = .str i ∧ y = .str j ∧ Q (.bl (!(!(Builtin.Str.occurrences j i 0 j.length 1).isEmpty))) H) := by
  intro pins s σ H x y v u Q I rx ry h
  obtain ⟨i, j, rfl, rfl, q⟩ := h
  obtain ⟨t, rfl⟩ := rx
  obtain ⟨t', rfl⟩ := ry
  exact notIn_str ⟨.bl _, H, I, rfl, q⟩
theorem CallR.or {f : Value} {r r' : List V → Hp → VK → Prop} (h : CallR X f r) (h' : CallR X f r') : CallR X f (fun xs H Q => r xs H Q ∨ r' xs H Q) := by
  intro pins s σ H xs us Q I rs q
  rcases q with q | q
  · exact h pins s σ H xs us Q I rs q
  · exact h' pins s σ H xs us Q I rs q
theorem call_list_of : CallR X (.type "list") (fun xs H Q => ∃ p ys, xs = [.ref p] ∧ (SqL X.K H p ys ∨ SqT X.K H p ys) ∧ ∀ l, H l = none → Q (.ref l) (upd H l (.lst ys))) := by
  intro pins s σ H xs us Q I r h
  obtain ⟨p, ys, rfl, hq, q⟩ := h
  obtain ⟨u, rfl, rx⟩ := vals1 r
  cases rx
  have fin : ∀ (its : List Value), Vals ys its → ys.length ≤ sizeLine → ∀ (h' : Heap) (c' : Nat), (∀ b o', s.heap.get? b = some o' → h'.get? b = some o') →
      h'.get? s.heap.objs.size = some { cls := .type "list", dict := none, data := .seq its.toArray c', slots := #[] } → EP X pins σ Q (.ref s.heap.objs.size) { s with heap := h' } := fun its r' hz h' c' kp e =>
    ⟨.ref s.heap.objs.size, _, I.laid (t' := s.toks) kp (Nat.le_refl _) (show ObjOk X.prog X.w _ h' _ (.lst ys) from ⟨hz, its, c', r', e⟩), rfl, q _ (I.hok.fresh (Nat.le_refl _))⟩
  rcases hq with hq | hq
  · obtain ⟨its, r', pl, hz⟩ := I.list hq
    have hlen := r'.length
    obtain ⟨o, ho, hc, n, hd⟩ := pl.isList
    exact call_list_seq p (.inl rfl) ho hc hd (fun h' c' kp e => fin its r' hz h' c' kp e) (by simp only [List.size_toArray] <;> omega)
  · obtain ⟨its, r', pl, hz⟩ := I.tuple hq
    have hlen := r'.length
    obtain ⟨o, ho, hc, n, hd⟩ := pl
    exact call_list_seq p (.inr rfl) ho hc hd (fun h' c' kp e => fin its r' hz h' c' kp e) (by simp only [List.size_toArray] <;> omega)
theorem call_tuple_of : CallR X (.type "tuple") (fun xs H Q => ∃ p ys, xs = [.ref p] ∧ ((SqL X.K H p ys ∧ ∀ l, H l = none → Q (.ref l) (upd H l (.tup ys))) ∨ (SqT X.K H p ys ∧ Q (.ref p) H))) := by
  intro pins s σ H xs us Q I r h
  obtain ⟨p, ys, rfl, h⟩ := h
  obtain ⟨u, rfl, rx⟩ := vals1 r
  cases rx
  rcases h with ⟨hq, q⟩ | ⟨hq, q⟩
  · obtain ⟨its, r', pl, hz⟩ := I.list hq
    have hlen := r'.length
    refine call_tuple_list pl.isList (fun h' kp => ?_) (by simp only [List.size_toArray] <;> omega)
    have I1 : Inv X pins σ H { s with heap := h' } := I.kept (t' := s.toks) kp
    have I2 : Inv X pins σ (upd H h'.objs.size (.tup ys)) { s with heap := h'.push { cls := .type "tuple", data := .seq its.toArray } } :=
      I1.laid (t' := s.toks) (fun b o e => Heap.get?_push_of_some _ e) (Nat.le_refl _) (show ObjOk X.prog X.w _ _ _ (.tup ys) from ⟨hz, its, r', IsTupN.new _ _⟩)
    exact ⟨.ref h'.objs.size, _, I2, rfl, q _ (I1.hok.fresh (Nat.le_refl _))⟩
  · obtain ⟨its, r', pl, hz⟩ := I.tuple hq
    exact call_tuple_same pl ⟨.ref p, H, I, rfl, q⟩
noncomputable def tyV (K : PySem.W.Frag) (T : String) (x : V) (H : Hp) : Prop := match x with
  | .str _ => T = "str"
  | .int _ => T = "int"
  | .ref p => (T = "list" ∧ ∃ xs, SqL K H p xs) ∨ (T = "tuple" ∧ ∃ o, K.lookup p = some o ∧ o.cls = .type "tuple" ∧ o.dict = none) ∨
      (T = "dict" ∧ ((∃ kvs, H p = some (.dK kvs)) ∨ ∃ kvs, H p = some (.dT kvs))) ∨ (T = "set" ∧ ∃ S n, H p = some (.set S n))
  | _ => False
theorem tyV_is {pins : List (Addr × Obj)} {σ : St} {H : Hp} {s : Shared} {T : String} {x : V} {v : Value} (I : Inv X pins σ H s) (r : RelV x v) (ty : tyV X.K T x H) :
    s.TypeIs v T ∧ ∀ a, v = .ref a → ∃ ob, s.heap.get? a = some ob ∧ ob.dict = none := by
  cases x with
  | str z =>
    obtain ⟨t, rfl⟩ := r
    cases (show T = "str" from ty)
    exact ⟨typeIs_str s z t, fun _ e => nomatch e⟩
  | int i =>
    obtain ⟨t, rfl⟩ := r
    cases (show T = "int" from ty)
    exact ⟨typeIs_int s i t, fun _ e => nomatch e⟩
  | ref p =>
    cases r
    rcases ty with ⟨rfl, xs, hq⟩ | ⟨rfl, o, hk, hc, hd⟩ | ⟨rfl, hk⟩ | ⟨rfl, S, n, hk⟩
    · obtain ⟨its, _, pl, _⟩ := I.list hq
      refine ⟨pl.isList.typeIs, fun a e => ?_⟩
      cases e
      obtain ⟨o, n, e, c, hd, _⟩ := pl
      exact ⟨o, e, hd⟩
    · refine ⟨⟨o, I.kIn p o hk, hc⟩, fun a e => ?_⟩
      cases e
      exact ⟨o, I.kIn _ o hk, hd⟩
    · have z : ∃ o, s.heap.get? p = some o ∧ o.ExactDict := by
        rcases hk with ⟨kvs, hk⟩ | ⟨kvs, hk⟩
        · obtain ⟨_, _, _, _, o, _, _, e, ex, _⟩ := I.hok p _ hk
          exact ⟨o, e, ex⟩
        · obtain ⟨_, _, _, _, o, _, _, e, ex, _⟩ := I.hok p _ hk
          exact ⟨o, e, ex⟩
      obtain ⟨o, e, ex⟩ := z
      refine ⟨⟨o, e, ex.1⟩, fun a e2 => ?_⟩
      cases e2
      exact ⟨o, e, ex.2.1⟩
    · obtain ⟨o, _, _, _, e, ex, _⟩ := I.hok p _ hk
      refine ⟨⟨o, e, ex.1⟩, fun a e2 => ?_⟩
      cases e2
      exact ⟨o, e, ex.2.1⟩
  | _ => exact False.elim ty
noncomputable def tBM0 (K : PySem.W.Frag) (T : String) (r : V → List V → Hp → VK → Prop) (to : TE) : TE := fun σ H Q => to σ H fun x H1 => tyV K T x H1 ∧ r x [] H1 Q
noncomputable def tBM (K : PySem.W.Frag) (T : String) (r : V → List V → Hp → VK → Prop) (to : TE) (t : TA) : TE := fun σ H Q => to σ H fun x H1 => tyV K T x H1 ∧ t σ H1 fun xs H2 => r x xs H2 Q
variable {o e : Expr} {es : List Expr} {to : TE} {t : TA} {name : Str} {apos cpos : Pos} {T id : String} {r : V → List V → Hp → VK → Prop}
theorem pe_bm0 (pa : PlainAttrs T) (slot : Slot T name id) (hty : typeOf (.builtin id) = pure (.type "method_descriptor")) (hm : MtR X id r) (ho : PE X o to)
    (hbase : attributeBase o name X.env (eval o X.env) = eval o X.env := by with_unfolding_all rfl) (hline : (apos.endLine == cpos.line) = true := by with_unfolding_all rfl) : PE X (.Call (.Attribute o name apos) [] [] cpos) (tBM0 X.K T r to) := by
  intro pins s σ H Q I h
  refine wpAny_Call_method0_late hbase hline (thn (ho pins s σ H _ I h) fun v s1 ⟨x, H1, I1, r1, ty, q1⟩ => ?_)
  obtain ⟨h1, h2⟩ := tyV_is I1 r1 ty
  exact ⟨T, id, pa, slot, hty, h1, h2, Calls.callWith_builtin rfl (PySem.evalArgs_none (hm pins s1 σ H1 x [] v [] Q I1 r1 .nil q1))⟩
theorem pe_bm (pa : PlainAttrs T) (slot : Slot T name id) (hty : typeOf (.builtin id) = pure (.type "method_descriptor")) (hm : MtR X id r) (ho : PE X o to) (ha : PA X (e :: es) t)
    (hbase : attributeBase o name X.env (eval o X.env) = eval o X.env := by with_unfolding_all rfl)
    (hfew : ((backTo cpos (starEach (e :: es) X.env)).all (fun x => !x.1) && (backToKw cpos (keywordEach [] X.env)).all (fun x => x.1.isSome)
      && decide ((e :: es).length + ([] : List Keyword).length + (if ([] : List Keyword).isEmpty then 0 else 1) < 30)) = true := by with_unfolding_all rfl)
    (hline : (apos.endLine == cpos.line) = true := by with_unfolding_all rfl) (hs : starEach (e :: es) X.env = (false, eval e X.env) :: starEach es X.env := by with_unfolding_all rfl) (hplain : (backTo cpos (starEach es X.env)).any (·.1) = false := by with_unfolding_all rfl) :
    PE X (.Call (.Attribute o name apos) (e :: es) [] cpos) (tBM X.K T r to t) := by
  intro pins s σ H Q I h
  refine wpAny_Call_method_late hbase hfew hline rfl (thn (ho pins s σ H _ I h) fun v s1 ⟨x, H1, I1, r1, ty, q1⟩ => ?_)
  obtain ⟨h1, h2⟩ := tyV_is I1 r1 ty
  refine ⟨T, id, pa, slot, hty, h1, h2, ?_⟩
  have hA := ha cpos pins s1 σ H1 _ I1 q1
  rw [hs] at hA ⊢
  refine Calls.callWith_builtin (by show (false || (backTo cpos (starEach es X.env)).any (·.1)) = false; rw [hplain] <;> rfl) (Calls.evalArgs_plain ?_)
  exact thn hA fun us s2 ⟨vs, H2, I2, r2, q2⟩ => hm pins s2 σ H2 x vs v us Q I2 r1 r2 q2
/- xs.append(e), list.index on a module's tuple .. are MtR facts of 06m -/
end
end L2
namespace L2
open PySem PySem.Spec PyProof.Rows
noncomputable def MtM (X : Cx) (id : String) (r : V → List V → Hp → VK → Prop) : Prop :=
  ∀ (pins : List (Addr × Obj)) (s : Shared) (σ : St) (H : Hp) (x : V) (xs : List V) (v : Value) (us : List Value) (Q : VK), Inv X pins σ H s → RelV x v → Vals xs us → r x xs H Q →
    wpAny (model X.prog X.w) X.A (call (.builtin id) (v :: us)) (EP X pins σ Q) X.xe s
theorem Vals.one {x : V} {us : List Value} (h : Vals [x] us) : ∃ u, us = [u] ∧ RelV x u := by
  cases h with
  | cons r q => cases q; exact ⟨_, rfl, r⟩
theorem Vals.two {x y : V} {us : List Value} (h : Vals [x, y] us) : ∃ u v, us = [u, v] ∧ RelV x u ∧ RelV y v := by
  cases h with
  | cons r q => obtain ⟨u, rfl, q'⟩ := Vals.one q; exact ⟨_, _, rfl, r, q'⟩
theorem Vals.zero : ∀ {us : List Value}, Vals [] us → us = []
  | _, .nil => rfl
theorem Vals.dropLast {xs : List V} {us : List Value} (h : Vals xs us) : Vals xs.dropLast us.dropLast := by
  induction h with
  | nil => exact .nil
  | cons r t ih =>
    cases t with
    | nil => exact .nil
    | cons q t' => exact .cons r ih
theorem Vals.eraseIdx : ∀ {xs : List V} {us : List Value} (i : Nat), Vals xs us → Vals (xs.eraseIdx i) (us.eraseIdx i)
  | _, _, _, .nil => .nil
  | _, _, 0, .cons _ t => t
  | _, _, i + 1, .cons r t => .cons r (Vals.eraseIdx i t)
theorem Vals.reverse {xs : List V} {us : List Value} (h : Vals xs us) : Vals xs.reverse us.reverse := by
  induction h with
  | nil => exact .nil
  | cons r t ih => rw [List.reverse_cons, List.reverse_cons]; exact Vals.append ih (.cons r .nil)
theorem Vals.rep {xs : List V} {us : List Value} (h : Vals xs us) : ∀ k : Nat, Vals (List.replicate k xs).flatten (List.replicate k us).flatten
  | 0 => .nil
  | k + 1 => by
    rw [List.replicate_succ, List.replicate_succ, List.flatten_cons, List.flatten_cons]
    exact Vals.append h (Vals.rep h k)
theorem erase_last {α : Type} (l : List α) : l.eraseIdx (l.length - 1) = l.dropLast := by
  induction l with
  | nil => rfl
  | cons a r ih =>
    cases r with
    | nil => rfl
    | cons b r =>
      have e : (a :: b :: r).length - 1 = ((b :: r).length - 1) + 1 := by
        have h1 : (a :: b :: r).length = r.length + 2 := rfl
        have h2 : (b :: r).length = r.length + 1 := rfl
        omega
      rw [e, List.eraseIdx_cons_succ, ih]
      all_goals rfl
theorem len_erase {α : Type} : ∀ (l : List α) (i : Nat), (l.eraseIdx i).length ≤ l.length
  | [], _ => Nat.le_refl _
  | _ :: _, 0 => Nat.le_succ _
  | _ :: r, i + 1 => Nat.succ_le_succ (len_erase r i)
theorem foldl_rep (its : List Value) : ∀ (k : Nat) (acc : List Value),
    List.foldl (fun x1 x2 => x1 ++ x2) acc.toArray (List.replicate k its.toArray) = (acc ++ (List.replicate k its).flatten).toArray
  | 0, acc => by simp
  | k + 1, acc => by
    have e : acc.toArray ++ its.toArray = (acc ++ its).toArray := by simp
    have e2 : (acc ++ its) ++ (List.replicate k its).flatten = acc ++ (List.replicate (k + 1) its).flatten := by
      rw [List.replicate_succ, List.flatten_cons, List.append_assoc]
    rw [← e2, ← foldl_rep its k (acc ++ its), ← e, List.replicate_succ, List.foldl_cons]
section
variable {X : Cx} {pins : List (Addr × Obj)} {σ : St} {H : Hp} {s : Shared} {l b : Addr} {xs ys zs : List V}
theorem Inv.lset {its its' : List Value} {n : Nat} {f : Array Value → Array Value} {t' : Nat} (I : Inv X pins σ H s) (hH : H l = some (.lst xs))
    (e : s.heap.get? l = some { cls := .type "list", data := .seq its.toArray n }) (hf : f its.toArray = its'.toArray) (hv : Vals ys its') (hz : ys.length ≤ sizeLine) :
    Inv X pins σ (upd H l (.lst ys)) { s with heap := s.heap.update l (Obj.mapSeq f), toks := t' } := by
  have q := PySem.IsL.update e f
  rw [hf] at q
  refine I.write (x := l) (e := l) (by rw [hH]; exact trivial) (.inl rfl) (fun b' u hb hu => (Heap.get?_update_other s.heap (Obj.mapSeq f) (Ne.symm hb)).trans hu) ⟨_, q⟩ ?_
  exact ⟨hz, its', _, hv, q⟩
theorem Inv.lnew {its : List Value} {t' : Nat} (I : Inv X pins σ H s) (hv : Vals ys its) (hz : ys.length ≤ sizeLine) :
    Inv X pins σ (upd H s.heap.objs.size (.lst ys)) { s with heap := s.heap.push { cls := .type "list", data := .seq its.toArray }, toks := t' } :=
  I.laid (fun _ _ q => Heap.get?_push_of_some _ q) (Nat.le_refl _) ⟨hz, its, 0, hv, Heap.get?_push_size _ rfl⟩
theorem Inv.fresh (I : Inv X pins σ H s) : H s.heap.objs.size = none := I.hok.fresh (Nat.le_refl _)
theorem Inv.lstM (I : Inv X pins σ H s) (hH : H l = some (.lst xs)) : xs.length ≤ sizeLine ∧ ∃ (its : List Value) (n : Nat), Vals xs its ∧ xs.length = its.length ∧ s.heap.get? l = some { cls := .type "list", data := .seq its.toArray n } := by
  obtain ⟨z, its, n, r, e⟩ := I.hok l _ hH
  exact ⟨z, its, n, r, r.length, e⟩
theorem notLongL {n : Nat} (h : n ≤ sizeLine) : Builtin.List.listTooLong n = false := by
  unfold Builtin.List.listTooLong
  exact decide_eq_false (by omega)
end
section
variable {X : Cx}
noncomputable def rAppend : V → List V → Hp → VK → Prop := fun x vs H Q => ∃ l xs y, x = .ref l ∧ vs = [y] ∧ H l = some (.lst xs) ∧ xs.length < sizeLine ∧ Q .non (upd H l (.lst (xs ++ [y])))
theorem mt_append : MtM X "list.append" rAppend := by
  intro pins s σ H x vs v us Q I rx rv h
  obtain ⟨l, xs, y, rfl, rfl, hH, hz, q⟩ := h
  cases rx
  obtain ⟨u, rfl, ru⟩ := rv.one
  obtain ⟨z, its, n, r, hl, e⟩ := I.lstM hH
  refine call_meets F.slot_list_append ⟨_, e, rfl⟩ F.entry_list_append (F.args_list_append_2 _ _) (PySem.list_append l its.toArray n u (by rw [List.size_toArray]; omega)) ⟨e, ?_⟩
  refine ⟨.non, _, I.lset (its' := its ++ [u]) hH e (by simp) (r.append (.cons ru .nil)) ?_, rfl, q⟩
  rw [List.length_append, List.length_singleton]
  omega
noncomputable def rExtend : V → List V → Hp → VK → Prop := fun x vs H Q => ∃ l b xs zs, x = .ref l ∧ vs = [.ref b] ∧ H l = some (.lst xs) ∧ H b = some (.lst zs) ∧ xs.length + zs.length ≤ sizeLine ∧ Q .non (upd H l (.lst (xs ++ zs)))
theorem mt_extend : MtM X "list.extend" rExtend := by
  intro pins s σ H x vs v us Q I rx rv h
  obtain ⟨l, b, xs, zs, rfl, rfl, hH, hB, hz, q⟩ := h
  cases rx
  obtain ⟨u, rfl, ru⟩ := rv.one
  cases ru
  obtain ⟨z, its, n, r, hl, e⟩ := I.lstM hH
  obtain ⟨z2, its2, n2, r2, hl2, e2⟩ := I.lstM hB
  have hsz : its.toArray.size + its2.toArray.size ≤ sizeLine := by rw [List.size_toArray, List.size_toArray]; omega
  have hlong : ¬ (!its.toArray.isEmpty && Builtin.List.listTooLong (its.toArray.size + its2.toArray.size)) = true := by
    rw [notLongL hsz, Bool.and_false]
    exact Bool.false_ne_true
  refine call_meets F.slot_list_extend ⟨_, e, rfl⟩ F.entry_list_extend (F.args_list_extend_2 _ _)
    (AutoSeq1.list_extend_list_list_0 l its.toArray n b its2.toArray n2 hlong (by rw [List.size_toArray]; omega) (by omega)) ⟨e, e2, ?_⟩
  refine ⟨.non, _, I.lset (its' := its ++ its2) hH e (by simp) (r.append r2) ?_, rfl, q⟩
  rw [List.length_append]
  omega
noncomputable def rPop : V → List V → Hp → VK → Prop := fun x vs H Q => ∃ l xs y, x = .ref l ∧ vs = [] ∧ H l = some (.lst xs) ∧ xs[xs.length - 1]? = some y ∧ Q y (upd H l (.lst xs.dropLast))
theorem mt_pop : MtM X "list.pop" rPop := by
  intro pins s σ H x vs v us Q I rx rv h
  obtain ⟨l, xs, y, rfl, rfl, hH, hy, q⟩ := h
  cases rx
  have hus := rv.zero
  subst hus
  obtain ⟨z, its, n, r, hl, e⟩ := I.lstM hH
  obtain ⟨u, hu, ru⟩ := r.get hy
  have hy' : its.toArray[its.toArray.size - 1]? = some u := by
    show its.toArray[its.length - 1]? = some u
    rw [← Array.getElem?_toList, ← hl]
    exact hu
  refine call_meets F.slot_list_pop ⟨_, e, rfl⟩ F.entry_list_pop (F.args_list_pop_1 _) (MeetsSeq.list_pop_last l its.toArray n u hy' (by rw [List.size_toArray]; omega)) ⟨e, ?_⟩
  refine ⟨y, _, I.lset (its' := its.dropLast) hH e ?_ r.dropLast ?_, ru, q⟩
  · show its.toArray.eraseIdxIfInBounds (its.toArray.size - 1) = its.dropLast.toArray
    rw [List.size_toArray, List.eraseIdxIfInBounds_toArray, erase_last]
  · rw [List.length_dropLast]
    omega
noncomputable def rPopAt : V → List V → Hp → VK → Prop := fun x vs H Q => ∃ l xs i k y, x = .ref l ∧ vs = [.int i] ∧ H l = some (.lst xs) ∧ -(2 ^ 63) ≤ i ∧ i < 2 ^ 63 ∧ seqIndex? i xs.length = some k ∧ xs[k]? = some y ∧ Q y (upd H l (.lst (xs.eraseIdx k)))
theorem mt_popAt : MtM X "list.pop" rPopAt := by
  intro pins s σ H x vs v us Q I rx rv h
  obtain ⟨l, xs, i, k, y, rfl, rfl, hH, h1, h2, hk, hy, q⟩ := h
  cases rx
  obtain ⟨u, rfl, ru⟩ := rv.one
  obtain ⟨t, rfl⟩ := ru
  obtain ⟨z, its, n, r, hl, e⟩ := I.lstM hH
  obtain ⟨w, hw, rw'⟩ := r.get hy
  refine call_meets F.slot_list_pop ⟨_, e, rfl⟩ F.entry_list_pop (F.args_list_pop_2 _ _)
    (MeetsSeq.list_pop_at l its.toArray n i t k w (fitsIndex_both h1 h2) (by rw [List.size_toArray, ← hl]; exact hk) (by rw [← Array.getElem?_toList]; exact hw) (by rw [List.size_toArray]; omega)) ⟨e, ?_⟩
  refine ⟨y, _, I.lset (its' := its.eraseIdx k) hH e ?_ (r.eraseIdx k) ?_, rw', q⟩
  · show its.toArray.eraseIdxIfInBounds k = (its.eraseIdx k).toArray
    rw [List.eraseIdxIfInBounds_toArray]
  · have := len_erase xs k
    omega
noncomputable def rCat : R2 := fun x y H Q => ∃ l b xs zs, x = .ref l ∧ y = .ref b ∧ H l = some (.lst xs) ∧ H b = some (.lst zs) ∧ xs.length + zs.length ≤ sizeLine ∧ ∀ p, H p = none → Q (.ref p) (upd H p (.lst (xs ++ zs)))
theorem op_cat : OpR X (binaryOp .Add) rCat := by
  intro pins s σ H x y v u Q I rx ry h
  obtain ⟨l, b, xs, zs, rfl, rfl, hH, hB, hz, q⟩ := h
  cases rx
  cases ry
  obtain ⟨z, its, n, r, hl, e⟩ := I.lstM hH
  obtain ⟨z2, its2, n2, r2, hl2, e2⟩ := I.lstM hB
  refine PySem.P.add_list e e2 ?_ (by rw [List.size_toArray, List.size_toArray]; omega)
  have ea : its.toArray ++ its2.toArray = (its ++ its2).toArray := by simp
  rw [ea]
  exact ⟨.ref _, _, I.lnew (t' := s.toks) (r.append r2) (by rw [List.length_append]; omega), rfl, q _ I.fresh⟩
noncomputable def rRep : R2 := fun x y H Q => ∃ l k xs, x = .ref l ∧ y = .int k ∧ H l = some (.lst xs) ∧ -(2 ^ 63) ≤ k ∧ k < 2 ^ 63 ∧ xs.length * k.toNat ≤ sizeLine ∧
  ∀ p, H p = none → Q (.ref p) (upd H p (.lst (List.replicate k.toNat xs).flatten))
theorem len_rep {α : Type} (xs : List α) (k : Nat) : (List.replicate k xs).flatten.length = k * xs.length := by
  induction k with
  | zero => simp
  | succ k ih => rw [List.replicate_succ, List.flatten_cons, List.length_append, ih, Nat.succ_mul, Nat.add_comm]
theorem op_rep : OpR X (binaryOp .Mult) rRep := by
  intro pins s σ H x y v u Q I rx ry h
  obtain ⟨l, k, xs, rfl, rfl, hH, h1, h2, hz, q⟩ := h
  cases rx
  obtain ⟨t, rfl⟩ := ry
  obtain ⟨z, its, n, r, hl, e⟩ := I.lstM hH
  have hlen : its.toArray.size * k.toNat ≤ sizeLine := by rw [List.size_toArray, ← hl]; exact hz
  have hcap : ¬ its.toArray.size * k.toNat > (2 ^ 63 - 1) / 8 := by
    have : (sizeLine : Nat) ≤ (2 ^ 63 - 1) / 8 := by decide
    omega
  have hfit : ¬ (!Builtin.List.listFitsIndex k) = true := by
    rw [fitsIndex_both h1 h2]
    exact Bool.false_ne_true
  have hlong : ¬ Builtin.List.listTooLong (its.toArray.size * k.toNat) = true := by
    rw [notLongL hlen]
    exact Bool.false_ne_true
  have hnew : List.foldl (fun x1 x2 => x1 ++ x2) #[] (List.replicate (if its.toArray.isEmpty = true then 0 else k.toNat) its.toArray) = (List.replicate k.toNat its).flatten.toArray := by
    have f0 : ∀ m : Nat, List.foldl (fun x1 x2 => x1 ++ x2) #[] (List.replicate m its.toArray) = (List.replicate m its).flatten.toArray := fun m => by
      have := foldl_rep its m []
      rw [List.nil_append] at this
      exact this
    rw [f0]
    cases its with
    | nil => simp
    | cons a r' => rw [if_neg (by simp)]
  refine wpAny_binaryOp_repeat_ref (T := "list") (U := "int") (by decide) ⟨_, e, rfl⟩ (fun s' => typeIs_int s' k t) noFill_list_mul F.fills_int_mul F.slot_int_rmul repeat_list F.slot_int_index.lookup
    (call_meets F.slot_int_rmul (typeIs_int s k t) F.entry_int_rmul (F.args_int_rmul_2 _ _) (int___rmul___int_list k t l its.toArray n)
      ⟨e, rfl, ⟨_, e, rfl⟩, call_meets F.slot_list_mul ⟨_, e, rfl⟩ F.entry_list_mul (F.args_list_mul_2 _ _) (AutoListH.list___mul___list_int_3 l its.toArray n k t hfit hcap hlong) ⟨e, ?_⟩⟩)
  rw [hnew]
  exact ⟨.ref _, _, I.lnew (t' := s.toks) (r.rep k.toNat) (by rw [len_rep, Nat.mul_comm]; exact hz), rfl, q _ I.fresh⟩
end
section
variable {prog : Program} {w : World} {A : Around} {E : Value → Shared → Prop} {s : Shared}
set_option maxRecDepth 100000 in
end
section
variable {X : Cx}
end
end L2
namespace L2
open PySem PySem.Spec PyProof.Rows
section
variable {κ : Type} [DecidableEq κ]
noncomputable def valV (kvs : List (κ × V)) (k : κ) : Option V := (kvs.find? fun kv => decide (kv.1 = k)).map (·.2)
noncomputable def putK (kvs : List (κ × V)) (k : κ) (v : V) : List (κ × V) :=
  if (kvs.any fun kv => decide (kv.1 = k)) = true then kvs.map (fun kv => if kv.1 = k then (kv.1, v) else kv) else kvs ++ [(k, v)]
noncomputable def dropK (kvs : List (κ × V)) (k : κ) : List (κ × V) := kvs.filter fun kv => decide (kv.1 ≠ k)
theorem valV_nil {k : κ} : valV ([] : List (κ × V)) k = none := rfl
theorem valV_pos {p : κ × V} {r : List (κ × V)} {k : κ} (e : p.1 = k) : valV (p :: r) k = some p.2 := by simp [valV, List.find?_cons, e]
theorem valV_neg {p : κ × V} {r : List (κ × V)} {k : κ} (e : ¬ p.1 = k) : valV (p :: r) k = valV r k := by simp [valV, List.find?_cons, e]
theorem valV_any (k : κ) : ∀ kvs : List (κ × V), (kvs.any fun kv => decide (kv.1 = k)) = (valV kvs k).isSome
  | [] => rfl
  | p :: r => by
    rw [List.any_cons]
    by_cases e : p.1 = k
    · simp only [valV_pos e, decide_eq_true e, Bool.true_or, Option.isSome_some]
    · rw [valV_neg e, decide_eq_false e, Bool.false_or]; exact valV_any k r
theorem valV_map (k j : κ) (y : V) : ∀ kvs : List (κ × V), valV (kvs.map fun kv => if kv.1 = k then (kv.1, y) else kv) j = (valV kvs j).map fun x => if j = k then y else x
  | [] => rfl
  | p :: r => by
    have ih := valV_map k j y r
    rw [List.map_cons]
    by_cases h : p.1 = k
    · rw [if_pos h]
      by_cases e : p.1 = j
      · rw [valV_pos (p := (p.1, y)) e, valV_pos e, Option.map_some, if_pos (e.symm.trans h)]
      · rw [valV_neg (p := (p.1, y)) e, valV_neg e, ih]
    · rw [if_neg h]
      by_cases e : p.1 = j
      · rw [valV_pos (p := p) e, valV_pos e, Option.map_some, if_neg (fun z => h (e.trans z))]
      · rw [valV_neg (p := p) e, valV_neg e, ih]
theorem valV_snoc (k j : κ) (y : V) : ∀ kvs : List (κ × V), valV kvs k = none → valV (kvs ++ [(k, y)]) j = if j = k then some y else valV kvs j
  | [], _ => by
    by_cases e : k = j
    · rw [if_pos e.symm]; exact valV_pos (p := (k, y)) e
    · rw [if_neg (fun z => e z.symm)]; exact valV_neg (p := (k, y)) e
  | p :: r, hn => by
    rw [List.cons_append]
    have hk : ¬ p.1 = k := fun z => by rw [valV_pos z] at hn; cases hn
    rw [valV_neg hk] at hn
    have ih := valV_snoc k j y r hn
    by_cases e : p.1 = j
    · rw [valV_pos e, valV_pos e, if_neg (fun z => hk (e.trans z))]
    · rw [valV_neg e, valV_neg e, ih]
theorem valV_put (kvs : List (κ × V)) (k j : κ) (y : V) : valV (putK kvs k y) j = if j = k then some y else valV kvs j := by
  unfold putK
  by_cases a : (kvs.any fun kv => decide (kv.1 = k)) = true
  · rw [if_pos a, valV_map]
    rw [valV_any] at a
    by_cases e : j = k
    · obtain ⟨x, hx⟩ := Option.isSome_iff_exists.mp a
      rw [if_pos e, e, hx, Option.map_some, if_pos rfl]
    · rw [if_neg e]
      cases valV kvs j with
      | none => rfl
      | some x => rw [Option.map_some, if_neg e]
  · rw [if_neg a]
    refine valV_snoc k j y kvs ?_
    rw [valV_any] at a
    cases q : valV kvs k with
    | none => rfl
    | some x => rw [q] at a; exact (a rfl).elim
theorem length_putK (kvs : List (κ × V)) (k : κ) (v : V) : (putK kvs k v).length ≤ kvs.length + 1 := by
  unfold putK
  split
  · rw [List.length_map]; omega
  · rw [List.length_append, List.length_cons, List.length_nil]; omega
theorem putK_new {kvs : List (κ × V)} {k : κ} (v : V) (h : valV kvs k = none) : putK kvs k v = kvs ++ [(k, v)] := by
  unfold putK
  rw [valV_any, h]
  exact if_neg (by decide)
theorem RelO.isSome_eq {o : Option V} {u : Option Value} (r : RelO o u) : o.isSome = u.isSome := by
  cases o with
  | none => cases u with
    | none => rfl
    | some _ => exact (show False from r).elim
  | some _ => cases u with
    | none => exact (show False from r).elim
    | some _ => rfl
theorem RelO.getD {o : Option V} {u : Option Value} {d : V} {d' : Value} (r : RelO o u) (rd : RelV d d') : RelV (o.getD d) (u.getD d') := by
  cases o with
  | none => cases u with
    | none => exact rd
    | some _ => exact (show False from r).elim
  | some _ => cases u with
    | none => exact (show False from r).elim
    | some _ => exact r
theorem KV.val {kvs : List (κ × V)} {vs : List (κ × Value)} (r : KV kvs vs) (k : κ) : RelO (valV kvs k) (valueAt vs k) := by
  unfold KV at r
  induction r with
  | nil => exact True.intro
  | @cons p q ps qs h t ih =>
    obtain ⟨h1, h2⟩ := h
    by_cases e : p.1 = k
    · have e' : q.1 = k := h1.symm.trans e
      have b : valueAt (q :: qs) k = some q.2 := by simp [valueAt, List.find?_cons, e']
      rw [valV_pos e, b]; exact h2
    · have e' : ¬ q.1 = k := fun z => e (h1.trans z)
      have b : valueAt (q :: qs) k = valueAt qs k := by simp [valueAt, List.find?_cons, e']
      rw [valV_neg e, b]; exact ih
theorem KV.any {kvs : List (κ × V)} {vs : List (κ × Value)} (r : KV kvs vs) (k : κ) : (kvs.any fun kv => decide (kv.1 = k)) = vs.any fun kv => decide (kv.1 = k) := by
  unfold KV at r
  induction r with
  | nil => rfl
  | cons h t ih => rw [List.any_cons, List.any_cons, ih, h.1]
theorem KV.repl {kvs : List (κ × V)} {vs : List (κ × Value)} (r : KV kvs vs) (k : κ) {y : V} {u : Value} (ry : RelV y u) :
    KV (kvs.map fun kv => if kv.1 = k then (kv.1, y) else kv) (vs.map fun kv => if kv.1 = k then (kv.1, u) else kv) := by
  unfold KV at r ⊢
  induction r with
  | nil => exact .nil
  | @cons p q ps qs h t ih =>
    rw [List.map_cons, List.map_cons]
    refine .cons ?_ ih
    obtain ⟨h1, h2⟩ := h
    by_cases e : p.1 = k
    · rw [if_pos e, if_pos (h1.symm.trans e)]; exact ⟨h1, ry⟩
    · rw [if_neg e, if_neg (fun z => e (h1.trans z))]; exact ⟨h1, h2⟩
theorem KV.put {kvs : List (κ × V)} {vs : List (κ × Value)} (r : KV kvs vs) (k : κ) {y : V} {u : Value} (ry : RelV y u) : KV (putK kvs k y) (stored vs k u) := by
  unfold putK stored
  rw [r.any k]
  by_cases e : (vs.any fun kv => decide (kv.1 = k)) = true
  · rw [if_pos e, if_pos e]; exact r.repl k ry
  · rw [if_neg e, if_neg e]; exact Paired.snoc r ⟨rfl, ry⟩
theorem KV.drop {kvs : List (κ × V)} {vs : List (κ × Value)} (r : KV kvs vs) (k : κ) : KV (dropK kvs k) (without vs k) := by
  unfold KV at r ⊢
  unfold dropK without
  induction r with
  | nil => exact .nil
  | @cons p q ps qs h t ih =>
    obtain ⟨h1, h2⟩ := h
    rw [List.filter_cons, List.filter_cons]
    by_cases e : p.1 = k
    · have a : ¬ decide (p.1 ≠ k) = true := by simp [e]
      have b : ¬ decide (q.1 ≠ k) = true := by simp [h1.symm.trans e]
      rw [if_neg a, if_neg b]; exact ih
    · have e' : ¬ q.1 = k := fun z => e (h1.trans z)
      have a : decide (p.1 ≠ k) = true := by simp [e]
      have b : decide (q.1 ≠ k) = true := by simp [e']
      rw [if_pos a, if_pos b]; exact .cons ⟨h1, h2⟩ ih
theorem KV.keys {kvs : List (κ × V)} {vs : List (κ × Value)} (r : KV kvs vs) : kvs.map (·.1) = vs.map (·.1) := by
  unfold KV at r
  induction r with
  | nil => rfl
  | cons h t ih => rw [List.map_cons, List.map_cons, ih, h.1]
theorem KV.length {kvs : List (κ × V)} {vs : List (κ × Value)} (r : KV kvs vs) : kvs.length = vs.length := Paired.length r
end
theorem kV_is {P : Program} {w : World} {k : Key} {u : Value} (r : RelV (kV k) u) : (mixKind P w).is k u = true := by
  cases k with
  | inl i => obtain ⟨t, e⟩ := (show ∃ t, u = Value.int i t from r); subst e; exact mixKind_int P w i t
  | inr x => obtain ⟨t, e⟩ := (show ∃ t, u = Value.str x t from r); subst e; exact mixKind_str P w x t
theorem items_are {P : Program} {w : World} : ∀ {ks : List Key} {us : List Value}, Vals (ks.map kV) us → ItemsAre (mixKind P w) ks us
  | [], _, r => by rw [List.map_nil] at r; cases r; exact .nil
  | k :: ks, _, r => by
    rw [List.map_cons] at r
    cases r with
    | cons h t => exact .cons (kV_is h) (items_are t)
noncomputable abbrev KT (H : Hp) : List (List Key × V) → List (List Key × Addr × Value) → Prop := Paired fun p q => p.1 = q.1 ∧ H q.2.1 = some (.tup (p.1.map kV)) ∧ RelV p.2 q.2.2
theorem KT.val {H : Hp} {kvs : List (List Key × V)} {xs : List (List Key × Addr × Value)} (r : KT H kvs xs) (k : List Key) : RelO (valV kvs k) ((atKey xs k).map (·.2)) := by
  induction r with
  | nil => exact True.intro
  | @cons p q ps qs h t ih =>
    obtain ⟨h1, _, h2⟩ := h
    by_cases e : p.1 = k
    · have e' : q.1 = k := h1.symm.trans e
      have b : atKey (q :: qs) k = some q.2 := by simp [atKey, List.find?_cons, e']
      rw [valV_pos e, b]; exact h2
    · have e' : ¬ q.1 = k := fun z => e (h1.trans z)
      have b : atKey (q :: qs) k = atKey qs k := by simp [atKey, List.find?_cons, e']
      rw [valV_neg e, b]; exact ih
theorem KT.repl {H : Hp} {kvs : List (List Key × V)} {xs : List (List Key × Addr × Value)} (r : KT H kvs xs) (k : List Key) {y : V} {u : Value} (ry : RelV y u) :
    KT H (kvs.map fun kv => if kv.1 = k then (kv.1, y) else kv) (xs.map (putAt k u)) := by
  induction r with
  | nil => exact .nil
  | @cons p q ps qs h t ih =>
    rw [List.map_cons, List.map_cons]
    refine .cons ?_ ih
    obtain ⟨h1, h2, h3⟩ := h
    unfold putAt
    by_cases e : p.1 = k
    · rw [if_pos e, if_pos (h1.symm.trans e)]; exact ⟨h1, h2, ry⟩
    · rw [if_neg e, if_neg (fun z => e (h1.trans z))]; exact ⟨h1, h2, h3⟩
theorem KT.put {H : Hp} {kvs : List (List Key × V)} {xs : List (List Key × Addr × Value)} (r : KT H kvs xs) (k : List Key) {b : Addr} {y : V} {u : Value} (hb : H b = some (.tup (k.map kV))) (ry : RelV y u) :
    KT H (putK kvs k y) (storedH xs k b u) := by
  have e : (kvs.any fun kv => decide (kv.1 = k)) = (atKey xs k).isSome := by
    rw [valV_any, (r.val k).isSome_eq, Option.isSome_map]
  unfold putK storedH
  rw [e]
  by_cases q : (atKey xs k).isSome = true
  · rw [if_pos q, if_pos q]; exact r.repl k ry
  · rw [if_neg q, if_neg q]; exact Paired.snoc r ⟨rfl, hb, ry⟩
theorem KT.keeps {H H' : Hp} {kvs : List (List Key × V)} {xs : List (List Key × Addr × Value)} (r : KT H kvs xs) (ht : ∀ b ys, H b = some (.tup ys) → H' b = some (.tup ys)) : KT H' kvs xs :=
  Paired.mapP r fun _ _ z => ⟨z.1, ht _ _ z.2.1, z.2.2⟩
section
variable {P : Program} {w : World} {H : Hp} {h : Heap} {a : Addr}
theorem rd_of {u : HO} (ok : HOk P w H h) (e : Rd H a u) : ObjOk P w H h a u := e.ok ok
theorem dk_rd {kvs : List (Key × V)} (ok : HOk P w H h) (e : Rd H a (.dK kvs)) : kvs.length ≤ sizeLine ∧ (a == sysModules) = false ∧ ∃ vs, KV kvs vs ∧ h.DictOf (mixKind P w) a vs :=
  show ObjOk P w H h a (.dK kvs) from rd_of ok e
theorem dk_of {kvs : List (Key × V)} (ok : HOk P w H h) (e : H a = some (.dK kvs)) : kvs.length ≤ sizeLine ∧ (a == sysModules) = false ∧ ∃ vs, KV kvs vs ∧ h.DictOf (mixKind P w) a vs := dk_rd ok (.inl e)
theorem key_of {ks : List Key} (ok : HOk P w H h) (e : H a = some (.tup (ks.map kV))) : (tupleKind (mixKind P w)).is h ks a := by
  obtain ⟨_, its, r, o, h1, h2, ⟨n, h3⟩, _⟩ := (show ObjOk P w H h a (.tup (ks.map kV)) from ok a _ e)
  exact ⟨o, its.toArray, n, h1, h2, h3, by simpa using items_are r⟩
theorem dt_rd {kvs : List (List Key × V)} (ok : HOk P w H h) (e : Rd H a (.dT kvs)) : kvs.length ≤ sizeLine ∧ (a == sysModules) = false ∧
    ∃ xs, KT H kvs xs ∧ h.DictOfH (tupleKind (mixKind P w)) a xs := by
  obtain ⟨z, y, xs, r, o, es, ep, h1, h2, h3, h4, h5⟩ := (show ObjOk P w H h a (.dT kvs) from rd_of ok e)
  refine ⟨z, y, xs, r, o, es, ep, h1, h2, h3, h4, fun x hx => ?_, h5⟩
  have all : ∀ {l : List (List Key × V)} {m : List (List Key × Addr × Value)}, KT H l m → ∀ x ∈ m, (tupleKind (mixKind P w)).is h x.1 x.2.1 := by
    intro l m q
    induction q with
    | nil => intro x hx; exact nomatch hx
    | @cons p q ps qs hq t ih =>
      intro x hx
      rcases List.mem_cons.mp hx with e | hx
      · subst e
        exact key_of ok (by rw [← hq.1]; exact hq.2.1)
      · exact ih x hx
  exact all r x hx
theorem dt_of {kvs : List (List Key × V)} (ok : HOk P w H h) (e : H a = some (.dT kvs)) : kvs.length ≤ sizeLine ∧ (a == sysModules) = false ∧
    ∃ xs, KT H kvs xs ∧ h.DictOfH (tupleKind (mixKind P w)) a xs := dt_rd ok (.inl e)
end
noncomputable def DGet (H : Hp) (a : Addr) (y : V) (r : Option V) : Prop :=
  (∃ kvs k, Rd H a (.dK kvs) ∧ y = kV k ∧ r = valV kvs k) ∨ ∃ kvs k b, Rd H a (.dT kvs) ∧ y = .ref b ∧ H b = some (.tup (k.map kV)) ∧ r = valV kvs k
noncomputable def DPut (H : Hp) (a : Addr) (y v : V) (H' : Hp) : Prop :=
  (∃ kvs k, H a = some (.dK kvs) ∧ y = kV k ∧ kvs.length < sizeLine ∧ H' = upd H a (.dK (putK kvs k v))) ∨
  ∃ kvs k b, H a = some (.dT kvs) ∧ y = .ref b ∧ H b = some (.tup (k.map kV)) ∧ kvs.length < sizeLine ∧ H' = upd H a (.dT (putK kvs k v))
theorem DGet.k {H : Hp} {a : Addr} {kvs : List (Key × V)} {k : Key} (e : H a = some (.dK kvs)) : DGet H a (kV k) (valV kvs k) := .inl ⟨kvs, k, .inl e, rfl, rfl⟩
theorem DPut.k {H : Hp} {a : Addr} {kvs : List (Key × V)} {k : Key} {v : V} (e : H a = some (.dK kvs)) (hl : kvs.length < sizeLine) : DPut H a (kV k) v (upd H a (.dK (putK kvs k v))) := .inl ⟨kvs, k, e, rfl, hl, rfl⟩
section
variable {X : Cx} {pins : List (Addr × Obj)} {σ : St} {H : Hp} {s : Shared} {a : Addr} {y v : V} {u r : Value} {o : Option V} {A : Around} {E : Value → Shared → Prop}
theorem Inv.big (I : Inv X pins σ H s) : sysModules < s.heap.objs.size := by
  have h : mainGlobals < s.heap.objs.size := (I.mod.glob.keeps I.bk).lt
  exact Nat.lt_trans (by decide) h
theorem d_getItem {Q : Value → Shared → Prop} (hu : A.units + 1 < cLine) (I : Inv X pins σ H s) (g : DGet H a y (some v)) (ry : RelV y u) (h : ∀ w' s', Inv X pins σ H s' → RelV v w' → Q w' s') :
    wpAny (model X.prog X.w) A (getItem (.ref a) u) Q E s := by
  rcases g with ⟨kvs, k, e, ey, l⟩ | ⟨kvs, k, b, e, ey, eb, l⟩
  · subst ey
    obtain ⟨z, hd, vs, rel, dd⟩ := dk_rd I.hok e
    obtain ⟨w', hw, rw'⟩ := RelO.some_of (v := v) (o := valueAt vs k) (by rw [l]; exact rel.val k)
    exact wpAny_getItem_of (kV_is ry) dd.mapOf hw (h w' _ (I.tok _) rw')
  · subst ey
    cases (show u = Value.ref b from ry)
    obtain ⟨z, hd, xs, rel, dd⟩ := dt_rd I.hok e
    obtain ⟨w', hw, rw'⟩ := RelO.some_of (v := v) (o := (atKey xs k).map (·.2)) (by rw [l]; exact rel.val k)
    obtain ⟨p, hp, hp2⟩ := Option.map_eq_some_iff.mp hw
    refine wpAny_getItem_heap (tupleKind_room_in1 hu) (key_of I.hok eb) dd hp ?_
    rw [hp2]
    exact h w' _ (I.tok _) rw'
theorem d_in {Q : Value → Shared → Prop} (hu : A.units + 1 < cLine) (I : Inv X pins σ H s) (g : DGet H a y o) (ry : RelV y u) (h : ∀ s', Inv X pins σ H s' → Q (.bool o.isSome) s') :
    wpAny (model X.prog X.w) A (compareOp .In u (.ref a)) Q E s := by
  rcases g with ⟨kvs, k, e, ey, l⟩ | ⟨kvs, k, b, e, ey, eb, l⟩
  · subst ey
    obtain ⟨z, hd, vs, rel, dd⟩ := dk_rd I.hok e
    refine wpAny_in_of (kV_is ry) hd dd.mapOf ?_
    rw [← (rel.val k).isSome_eq, ← l]
    exact h _ (I.tok _)
  · subst ey
    cases (show u = Value.ref b from ry)
    obtain ⟨z, hd, xs, rel, dd⟩ := dt_rd I.hok e
    refine wpAny_in_heap (tupleKind_room_in1 hu) (key_of I.hok eb) hd dd ?_
    have q := (rel.val k).isSome_eq
    rw [Option.isSome_map] at q
    rw [← q, ← l]
    exact h _ (I.tok _)
theorem d_notIn {Q : Value → Shared → Prop} (hu : A.units + 1 < cLine) (I : Inv X pins σ H s) (g : DGet H a y o) (ry : RelV y u) (h : ∀ s', Inv X pins σ H s' → Q (.bool (!o.isSome)) s') :
    wpAny (model X.prog X.w) A (compareOp .NotIn u (.ref a)) Q E s := by
  rcases g with ⟨kvs, k, e, ey, l⟩ | ⟨kvs, k, b, e, ey, eb, l⟩
  · subst ey
    obtain ⟨z, hd, vs, rel, dd⟩ := dk_rd I.hok e
    refine wpAny_notIn_of (kV_is ry) hd dd.mapOf ?_
    rw [← (rel.val k).isSome_eq, ← l]
    exact h _ (I.tok _)
  · subst ey
    cases (show u = Value.ref b from ry)
    obtain ⟨z, hd, xs, rel, dd⟩ := dt_rd I.hok e
    refine wpAny_notIn_heap (tupleKind_room_in1 hu) (key_of I.hok eb) hd dd ?_
    have q := (rel.val k).isSome_eq
    rw [Option.isSome_map] at q
    rw [← q, ← l]
    exact h _ (I.tok _)
theorem d_write {h' : Heap} {t' : Nat} {ob : HO} (I : Inv X pins σ H s) (mu : Mut (H a)) (hs : Heap.SameBut a s.heap h') (he : ∃ q, h'.get? a = some q) (new : ObjOk X.prog X.w (upd H a ob) h' a ob) :
    Inv X pins σ (upd H a ob) { s with heap := h', toks := t' } :=
  I.write (x := a) (e := a) mu (.inl rfl) (fun b q hb z => (hs.2 b hb).trans z) he new
theorem dk_new {P : Program} {w : World} {H' : Hp} {h' : Heap} {kvs : List (Key × V)} {vs : List (Key × Value)} (z : kvs.length ≤ sizeLine) (hd : (a == sysModules) = false) (rel : KV kvs vs) (dd : h'.DictOf (mixKind P w) a vs) :
    ObjOk P w H' h' a (.dK kvs) := ⟨z, hd, vs, rel, dd⟩
theorem d_setItem {H' : Hp} {Q : Unit → Shared → Prop} (hu : A.units + 1 < cLine) (I : Inv X pins σ H s) (g : DPut H a y v H') (ry : RelV y u) (rv : RelV v r) (h : ∀ s', Inv X pins σ H' s' → Q () s') :
    wpAny (model X.prog X.w) A (setItem (.ref a) u r) Q E s := by
  rcases g with ⟨kvs, k, e, ey, l, eH⟩ | ⟨kvs, k, b, e, ey, eb, l, eH⟩
  · subst ey eH
    obtain ⟨z, hd, vs, rel, dd⟩ := dk_of I.hok e
    have hz : vs.length ≤ sizeLine := by rw [← rel.length]; exact z
    have hl : (putK kvs k v).length ≤ sizeLine := by have := length_putK kvs k v; omega
    refine wpAny_setItem_pairs (hsz := hz) (kV_is ry) dd fun h' dd' hs => h _ ?_
    have he : ∃ q, h'.get? a = some q := let ⟨q, _, _, hq, _⟩ := dd'; ⟨q, hq⟩
    exact d_write I (by rw [e]; exact True.intro) hs he (dk_new hl hd (rel.put k rv) dd')
  · subst ey eH
    cases (show u = Value.ref b from ry)
    obtain ⟨z, hd, xs, rel, dd⟩ := dt_of I.hok e
    have hz : xs.length ≤ sizeLine := by rw [← Paired.length rel]; exact z
    have hl : (putK kvs k v).length ≤ sizeLine := by have := length_putK kvs k v; omega
    refine wpAny_setItem_heap (hsz := hz) (tupleKind_room_in1 hu) (key_of I.hok eb) dd fun h' dd' hs => h _ ?_
    obtain ⟨q, es, ep, hq, h2, h3, h4, _, h5⟩ := dd'
    refine d_write I (by rw [e]; exact True.intro) hs ⟨q, hq⟩ ⟨hl, hd, _, (rel.put k eb rv).keeps fun c ys ec => ?_, q, es, ep, hq, h2, h3, h4, h5⟩
    rw [upd_ne (ne_of ec e (fun z => nomatch z))]
    exact ec
end
section
variable {X : Cx} {pins : List (Addr × Obj)} {σ : St} {H : Hp} {s : Shared} {a : Addr} {kvs : List (Key × V)} {k : Key} {u : Value} {A : Around} {E : Value → Shared → Prop}
theorem d_len {Q : Value → Shared → Prop} (I : Inv X pins σ H s) (e : Rd H a (.dK kvs)) (h : ∀ t s', Inv X pins σ H s' → Q (.int kvs.length t) s') : wpAny (model X.prog X.w) A (call (.builtin "len") [.ref a]) Q E s := by
  obtain ⟨z, hd, vs, rel, dd⟩ := dk_rd I.hok e
  refine call_len_dict hd dd (by rw [← rel.length]; rw [sizeLine_eq] at z; omega) ?_
  rw [← rel.length]
  exact h _ _ (I.tok _)
end
theorem dict_typeIs {X : Cx} {pins : List (Addr × Obj)} {σ : St} {H : Hp} {s : Shared} {a : Addr} {y : V} {o : Option V} (I : Inv X pins σ H s) (g : DGet H a y o) : s.TypeIs (.ref a) "dict" := by
  rcases g with ⟨kvs, k, e, _, _⟩ | ⟨kvs, k, b, e, _, _, _⟩
  · obtain ⟨_, _, vs, _, dd⟩ := dk_rd I.hok e
    exact dd.typeIs
  · obtain ⟨_, _, xs, _, dd⟩ := dt_rd I.hok e
    exact dd.typeIs
noncomputable def sDPut (td ty tv : TE) : TS := fun D σ H => tv σ H fun v H1 => td σ H1 fun x H2 => ty σ H2 fun y H3 => ∃ a H4, x = .ref a ∧ DPut H3 a y v H4 ∧ D.nx σ H4
section
variable {X : Cx} {o i e value : Expr} {pos pos' tpos : Pos} {td ty tv : TE}
theorem ps_dput (hu : X.A.units + 1 < cLine) (ho : PE X o td) (hi : PE X i ty) (hv : PE X value tv) (hs : swapsWith value (some (.Subscript o i pos')) pos.line X.env = pure false) :
    PS X (.Assign [.Subscript o i pos'] value pos) (sDPut td ty tv) := by
  intro pins s σ H D I h
  refine wpAny_Assign_Subscript (thn (hv pins s σ H _ I h) fun r s1 ⟨v, H1, I1, rv, q1⟩ => thn (ho pins s1 σ H1 _ I1 q1) fun u s2 ⟨x, H2, I2, rx, q2⟩ => thn (hi pins s2 σ H2 _ I2 q2) fun iv s3 ⟨y, H3, I3, ry, a, H4, ex, g, q3⟩ => ?_) hs
  subst ex
  obtain rfl : u = Value.ref a := rx
  exact d_setItem hu I3 g ry rv fun s4 I4 => ⟨σ, H4, I4, q3⟩
end
theorem dk_empty {P : Program} {w : World} {H : Hp} (h : Heap) (hb : sysModules < h.objs.size) : ObjOk P w H (h.push { cls := .type "dict", data := .dict #[] }) h.objs.size (.dK []) :=
  ⟨Nat.zero_le _, beq_eq_false_iff_ne.mpr (Ne.symm (Nat.ne_of_lt hb)), [], .nil, Heap.DictOf.new h⟩
noncomputable def tDNewK : TE := fun _ H Q => ∀ p, H p = none → Q (.ref p) (upd H p (.dK []))
section
variable {X : Cx} {pos : Pos}
theorem pe_dnewK : PE X (.Dict [] [] pos) tDNewK := fun pins s σ H Q I h =>
  wpAny_Dict_empty ⟨.ref s.heap.objs.size, _, I.laid (a := s.heap.objs.size) (o := .dK []) (t' := s.toks) (fun _ _ q => Heap.get?_push_of_some _ q) (Nat.le_refl _) (dk_empty s.heap I.big), rfl, h _ (I.hok.fresh (Nat.le_refl _))⟩
end
noncomputable def tPairs : List (TE × TE) → St → Hp → (List (V × V) → Hp → Prop) → Prop
  | [], _, H, Q => Q [] H
  | (tk, tv) :: r, σ, H, Q => tk σ H fun x H1 => tv σ H1 fun y H2 => tPairs r σ H2 fun ps H3 => Q ((x, y) :: ps) H3
noncomputable abbrev VV : List (V × V) → List (Value × Value) → Prop := Paired fun p q => RelV p.1 q.1 ∧ RelV p.2 q.2
noncomputable def PPs (X : Cx) (pos : Pos) (keys : List (Option Expr)) (values : List Expr) (trs : List (TE × TE)) : Prop :=
  ∀ (pins : List (Addr × Obj)) (s : Shared) (σ : St) (H : Hp) (Q : List (V × V) → Hp → Prop), Inv X pins σ H s → tPairs trs σ H Q →
    wpAny (model X.prog X.w) X.A (evalPairs (pairTrees keys values X.env pos)) (fun vs s' => ∃ ps H', Inv X pins σ H' s' ∧ VV ps vs ∧ Q ps H') X.xe s
theorem pps_nil {X : Cx} {pos : Pos} : PPs X pos [] [] [] := fun pins s σ H Q I h => pairTrees_nil_walk ⟨[], H, I, .nil, h⟩
theorem pps_cons {X : Cx} {pos : Pos} {k v : Expr} {ks : List (Option Expr)} {vs : List Expr} {tk tv : TE} {trs : List (TE × TE)} (hk : PE X k tk) (hv : PE X v tv) (hr : PPs X pos ks vs trs) :
    PPs X pos (some k :: ks) (v :: vs) ((tk, tv) :: trs) := fun pins s σ H Q I h =>
  pairTrees_cons_walk (thn (hk pins s σ H _ I h) fun u s1 ⟨x, H1, I1, rx, q1⟩ => thn (hv pins s1 σ H1 _ I1 q1) fun w2 s2 ⟨y, H2, I2, ry, q2⟩ =>
    thn (hr pins s2 σ H2 _ I2 q2) fun ws s3 ⟨ps, H3, I3, rel, q3⟩ => ⟨(x, y) :: ps, H3, I3, .cons ⟨rx, ry⟩ rel, q3⟩)
noncomputable def mergeK (kvs more : List (Key × V)) : List (Key × V) := more.foldl (fun acc kv => putK acc kv.1 kv.2) kvs
theorem KV.merge : ∀ {more : List (Key × V)} {rs : List (Key × Value)} {kvs : List (Key × V)} {vs : List (Key × Value)}, KV more rs → KV kvs vs → KV (mergeK kvs more) (merged vs rs) := by
  intro more rs kvs vs r
  unfold KV at r
  induction r generalizing kvs vs with
  | nil => intro q; exact q
  | @cons p q ps qs h t ih =>
    intro r0
    have e : KV (putK kvs p.1 p.2) (stored vs q.1 q.2) := by
      have := r0.put p.1 h.2
      rw [← h.1]; exact this
    exact ih e
theorem length_mergeK : ∀ (more kvs : List (Key × V)), (mergeK kvs more).length ≤ kvs.length + more.length
  | [], kvs => by show kvs.length ≤ kvs.length + 0; omega
  | p :: r, kvs => by
    have h1 := length_mergeK r (putK kvs p.1 p.2)
    have h2 := length_putK kvs p.1 p.2
    show (mergeK (putK kvs p.1 p.2) r).length ≤ _
    rw [List.length_cons]; omega
theorem carries_of {P : Program} {w : World} : ∀ {kvs : List (Key × V)} {ws : List (Value × Value)}, VV (kvs.map fun kv => (kV kv.1, kv.2)) ws → ∃ rs, Carries (mixKind P w) ws rs ∧ KV kvs rs
  | [], _, r => by rw [List.map_nil] at r; cases r; exact ⟨[], True.intro, .nil⟩
  | p :: kvs, _, r => by
    rw [List.map_cons] at r
    cases r with
    | @cons a b as bs h t =>
      obtain ⟨rs, c, q⟩ := carries_of (P := P) (w := w) t
      obtain ⟨b1, b2⟩ := b
      exact ⟨(p.1, b2) :: rs, ⟨kV_is h.1, rfl, c⟩, .cons ⟨rfl, h.2⟩ q⟩
noncomputable def tDisp (trs : List (TE × TE)) : TE := fun σ H Q => ∀ p, H p = none → tPairs trs σ (upd H p (.dK [])) fun ps H2 => H2 p = some (.dK []) ∧ ∃ kvs : List (Key × V), ps = kvs.map (fun kv => (kV kv.1, kv.2)) ∧ kvs.length ≤ 15 ∧ Q (.ref p) (upd H2 p (.dK (mergeK [] kvs)))
theorem pe_disp {X : Cx} {pos : Pos} {keys : List (Option Expr)} {values : List Expr} {trs : List (TE × TE)} (h : PPs X pos keys values trs) (hall : keys.all (·.isSome) = true) (hl : keys.length = values.length) (h0 : keys ≠ [])
    (h15 : keys.length ≤ 15) : PE X (.Dict keys values pos) (tDisp trs) := by
  intro pins s σ H Q I q
  have hn := I.hok.fresh (Nat.le_refl s.heap.objs.size)
  have I1 := I.laid (a := s.heap.objs.size) (o := .dK []) (h' := s.heap.push { cls := .type "dict", data := .dict #[] }) (t' := s.toks) (fun _ _ q => Heap.get?_push_of_some _ q) (Nat.le_refl _) (dk_empty s.heap I.big)
  refine wpAny_Dict_walk (knd := mixKind X.prog X.w) hall hl h0 h15 (thn (h pins _ σ _ _ I1 (q _ hn)) fun ws s2 ⟨ps, H2, I2, rel, e, kvs, ep, lk, q2⟩ => ?_)
  subst ep
  obtain ⟨rs, c, rk⟩ := carries_of (P := X.prog) (w := X.w) rel
  obtain ⟨z, hd, vs0, r0, dd⟩ := dk_of I2.hok e
  cases r0
  refine ⟨rs, c, dd, fun h' dd' hs => ⟨.ref s.heap.objs.size, _, ?_, rfl, q2⟩⟩
  have hz : (mergeK [] kvs).length ≤ sizeLine := by
    have h1 := length_mergeK kvs []
    rw [List.length_nil] at h1
    rw [sizeLine_eq]; omega
  have he : ∃ q, h'.get? s.heap.objs.size = some q := let ⟨q, _, _, hq, _⟩ := dd'; ⟨q, hq⟩
  exact d_write I2 (by rw [e]; exact True.intro) hs he (dk_new hz hd (rk.merge .nil) dd')
noncomputable def IsD (H : Hp) (a : Addr) : Prop := (∃ kvs, Rd H a (.dK kvs)) ∨ ∃ kvs, Rd H a (.dT kvs)
section
variable {X : Cx} {pins : List (Addr × Obj)} {σ : St} {H : Hp} {s : Shared} {a : Addr} {y d : V} {u r : Value} {o : Option V} {A : Around} {E : Value → Shared → Prop}
end
noncomputable def tDGet1 (td ty : TE) : TE := fun σ H Q => td σ H fun x H1 => ∃ a, x = .ref a ∧ IsD H1 a ∧ ty σ H1 fun y H2 => ∃ o, DGet H2 a y o ∧ Q (o.getD .non) H2
noncomputable def tDGet2 (td ty tx : TE) : TE := fun σ H Q => td σ H fun x H1 => ∃ a, x = .ref a ∧ IsD H1 a ∧ ty σ H1 fun y H2 => tx σ H2 fun z H3 => ∃ o, DGet H3 a y o ∧ Q (o.getD z) H3
section
variable {X : Cx} {o e f : Expr} {apos cpos : Pos} {td ty tx : TE}
end
section
variable {X : Cx} {pins : List (Addr × Obj)} {σ : St} {H : Hp} {s : Shared} {a : Addr} {kvs : List (Key × V)} {A : Around} {E : Value → Shared → Prop}
end
section
variable {X : Cx} {pins : List (Addr × Obj)} {σ : St} {H : Hp} {s : Shared} {a : Addr} {y : V} {u : Value} {A : Around} {E : Value → Shared → Prop}
end
end L2
namespace Att
open PySem PySem.W PySem.Calls PyProof.Rows
theorem ints_of_wellAll {P : Params} {h : Heap} : ∀ (ns : List Int) (vs : List Value), WellAll P h vs (ns.map WData.int) → IntsAre vs ns := by
  intro ns
  induction ns with
  | nil =>
    intro vs w
    rw [List.map_nil] at w
    cases w
    exact .nil
  | cons n ns ih =>
    intro vs w
    rw [List.map_cons] at w
    cases w with
    | cons a b =>
      cases a
      exact .cons _ _ (ih _ b)
theorem script_of {l : OpenLaw} {n : Nat} (hn : l.most = some n) {P : Params} {h : Heap} {args : List WData} {vals : List Value}
    (hpre : l.row.toRowW.claim.pre args = true) (hwl : WellAll P h vals args) :
    ∃ a vs ns, vals = [Value.ref a] ∧ args = [WData.list (ns.map WData.int)] ∧ h.get? a = some { cls := .type "list", data := .seq vs.toArray } ∧ IntsAre vs ns ∧ ns.length ≤ n := by
  have hsh : WShape.hasAll [] args [.list .int] = true := (pre_splitW hpre).1
  have hc : l.pre.holds [] { args := args } = true := (pre_splitW hpre).2
  obtain ⟨d, r, rfl, h1, h2⟩ := hasAllW_cons hsh
  obtain rfl := hasAllW_nil h2
  obtain ⟨xs, rfl, h3⟩ := hasW_list h1
  obtain ⟨ns, rfl⟩ := items_int h3
  have hlen : ns.length ≤ n := by
    unfold OpenLaw.pre at hc
    have h4 : (WTm.not (.lt (.lit (.int (n : Int))) (.len (.arg 0)))).holds [] { args := [.list (ns.map .int)] } = true := by
      have h4 := (holds_andW hc).1
      rw [hn] at h4
      exact h4
    have h5 := condW_of h4 (w_not (w_lt w_lit (w_len_list (w_arg rfl))))
    rw [List.length_map] at h5
    refine Nat.le_of_not_lt fun q => ?_
    have q' : (n : Int) < ((ns.length : Nat) : Int) := by omega
    first
      | (rw [decide_eq_true q'] at h5; exact absurd h5 (by decide))
      | (simp at h5; omega)
  cases hwl with
  | cons w1 w2 =>
    cases w2
    cases w1 with
    | list ho hall => exact ⟨_, _, ns, rfl, rfl, ho, ints_of_wellAll ns _ hall, hlen⟩
theorem post_true (l : OpenLaw) (args : List WData) : l.row.toRowW.claim.post args (.bool true) args = true :=
  postW_of (r := l.row.toRowW) (X := (true == true))
    (show WShape.has [] (.bool true) .bool = true by first | rfl | decide | simp [WShape.has, WShape.arms, WShape.armsAll])
    (show (WTm.eq .res (.lit (.bool true))).value [] { args := args, res := some (.bool true), after := args } = some (.bool (true == true)) from w_eq_bool (w_res rfl) w_lit) rfl
theorem attach_call {l : OpenLaw} {n : Nat} {q : Program} {loose : List Str} {XP : (Str → Option Value) → Heap → Prop} {YP : World → Heap → Prop} {d : DefRec}
    (hn : l.most = some n) (hdf : d.params.defaults = [])
    (call : ∀ (w : World) (s₀ s₁ : Shared) (mg mb : Str → Option Value) (fa : Addr) (o : Obj) (pm cd doc : Value) (a : Addr) (vs : List Value) (ns : List Int),
      Ground q loose [] XP w s₀ mg mb s₁.heap → YP w s₁.heap →
      s₁.heap.get? fa = some o → o.data = .func (docDef d.name d.params d.body d.scope pm cd doc) → s₁.heap.CodeRec cd d.name → mg d.name = some (.ref fa) →
      s₁.heap.get? a = some { cls := .type "list", data := .seq vs.toArray } → IntsAre vs ns → ns.length ≤ n → s₁.gens = #[] →
      codeAny (model l.prog w) callerA (.call (.ref fa) ⟨[.ref a], []⟩) (fun r s' => r = .ok (.ret (.bool true)) ∧ OldK s₁.heap s'.heap ∧ s'.os = s₁.os ∧ AllBare s'.gens) s₁) :
    WalkO q loose XP YP l.row.toRowW d [] (fun f vs => PySem.call f vs) := by
  intro w s₀ s₁ mg mb G Y fa o pm cd doc dV kV ho hd hcd hD hmg hg args vals as hpre hlay hrd hwl hlo
  obtain rfl : dV = .none := Dflts.none hD hdf
  obtain rfl : kV = .none := Dflts.noKw hD
  obtain ⟨a, vs, ns, rfl, rfl, hobj, hints, hlen⟩ := script_of hn hpre hwl
  refine enter_call (codeAny_mono (call w s₀ s₁ mg mb fa o pm cd doc a vs ns G Y ho (fd_plain hd) hcd hmg hobj hints hlen hg) fun r s' hq => ?_)
  obtain ⟨rfl, h2, h3, h4⟩ := hq
  exact ⟨.inl ⟨.bool true, .bool true, [], rfl, fun _ => rfl, .bool true, post_true l _, fun _ => ⟨List.Pairwise.nil, fun _ hm => (nomatch hm)⟩⟩, h2, h3, h4⟩
section
variable {prog : Program} {w : World} {A : Around} {E : Value → Shared → Prop} {s : Shared} {K : Frag}
end
end Att
namespace L2
open PySem PySem.Spec PyProof.Rows
theorem vals_ints : ∀ {vs : List Value} {ns : List Int}, IntsAre vs ns → Vals (ns.map V.int) vs
  | _, _, .nil => .nil
  | _, _, .cons n t h => .cons ⟨t, rfl⟩ (vals_ints h)
noncomputable def Only (H : Hp) : Prop := ∀ b, H b = none ∨ ∃ o xs, H b = some (.frz o (.lst xs))
theorem law_call {P : Program} {w : World} {K : PySem.W.Frag} {mg mb : Str → Option Value} {CX : CXT} {k : Nat} {fa a : Addr} {fd : FuncData} {x : Str} {sp : Sp} {s₁ : Shared} {vs : List Value} {ns : List Int}
    (KX : K.In s₁.heap) (hns : s₁.heap.Ns mainGlobals mg) (hb : s₁.heap.Ns builtinsNs mb) (hbb : ∀ x : Str, x ≠ "__name__" → mb x = bootBuiltins x) (hlim : s₁.heap.NoLimit) (hg : s₁.gens = #[])
    (ha : s₁.heap.get? a = some { cls := .type "list", data := .seq vs.toArray }) (hi : IntsAre vs ns) (hl : ns.length ≤ sizeLine) (hr : Room k callerA)
    (F : ∀ base : Heap, K.In base → base.Ns mainGlobals mg → FnOk P w K mg base CX k fa fd [x] sp) (hbind : ∀ (s : Shared) (u : Value), BindsTo s fd ⟨[u], []⟩ [(x, u)])
    (hsp : ∀ H : Hp, Only H → SqL K H a (ns.map V.int) → sp [.ref a] H (fun v _ => v = .bl true) fun _ _ _ => False)
    (hCX : ∀ H e s', CX [] H s₁ (fun _ _ _ => False) e s' → False) :
    codeAny (model P w) callerA (.call (.ref fa) ⟨[.ref a], []⟩) (fun r s' => r = .ok (.ret (.bool true)) ∧ OldK s₁.heap s'.heap ∧ s'.os = s₁.os ∧ AllBare s'.gens) s₁ := by
  have rv := vals_ints hi
  have lenV := hi.length
  -- from an abstract heap in which nothing but the script may be tracked
  have core : ∀ H : Hp, Only H → SqL K H a (ns.map V.int) → HOk P w H s₁.heap → (∀ b, H b ≠ none → b = a) → (H a ≠ none → K.lookup a = none) →
      codeAny (model P w) callerA (.call (.ref fa) ⟨[.ref a], []⟩) (fun r s' => r = .ok (.ret (.bool true)) ∧ OldK s₁.heap s'.heap ∧ s'.os = s₁.os ∧ AllBare s'.gens) s₁ := by
    intro H hO hS hok hA hK
    have base_of : ∀ {b : Addr} {o : Obj}, s₁.heap.get? b = some o → H b = none → (hidT s₁.heap H).get? b = some o := fun e n => hidT_get e n
    have noA : ∀ {b : Addr} {o : Obj} {es : Array DictEntry} {ep : Nat}, s₁.heap.get? b = some o → o.data = .dict es ep → H b = none := fun {b o es ep} e d => by
      cases q : H b with
      | none => rfl
      | some u =>
        have e' : b = a := hA b (by rw [q]; simp)
        subst e'
        rw [ha] at e; cases e
        have d' : Data.seq vs.toArray _ = Data.dict es ep := d
        cases d'
    have nsK : ∀ {b : Addr} {m : Str → Option Value}, s₁.heap.Ns b m → (hidT s₁.heap H).Ns b m := fun {b m} ⟨o, es, ep, e, d, r⟩ => ⟨o, es, ep, base_of e (noA e d), d, r⟩
    have hKb : K.In (hidT s₁.heap H) := fun b o e => base_of (KX b o e) (by
      cases q : H b with
      | none => rfl
      | some u =>
        have e' : b = a := hA b (by rw [q]; simp)
        subst e'
        rw [hK (by rw [q]; simp)] at e; cases e)
    have hM : Mod K mg (hidT s₁.heap H) := ⟨hKb, nsK hns, ⟨mb, nsK hb, hbb⟩, let ⟨mc, h1, h2⟩ := hlim; ⟨mc, nsK h1, h2⟩⟩
    have e0 : Env0 P w K mg (hidT s₁.heap H) callerA [] s₁ H := ⟨rfl, hM, fun b o e => of_hidT e, Nat.le_of_eq (hidT_size _ _), trivial, fun b hb => absurd (show b ∈ ([] : List Addr) from hb) (by simp), hok, .of_eq hg⟩
    refine codeAny_mono ((F _ hKb (nsK hns)).run callerA [] s₁ H ⟨[.ref a], []⟩ [.ref a] [.ref a] _ _ hr e0 (hbind s₁ (.ref a)) (.cons rfl .nil) (hsp H hO hS)) fun r s' h => ?_
    cases r with
    | error e => exact (hCX H e s' h).elim
    | ok fl =>
      cases fl with
      | next => exact False.elim h
      | brk => exact False.elim h
      | cont => exact False.elim h
      | ret u =>
        obtain ⟨v, H', os, bare, un, hok', r', q⟩ := h
        have q' : v = .bl true := q
        subst q'
        obtain rfl : u = Value.bool true := r'
        refine ⟨rfl, OldK.of_keep fun b o e => ?_, os, bare⟩
        cases q : H b with
        | none => exact un.keep b o e q (by intro z; exact absurd (show b ∈ ([] : List Addr) from z) (by simp)) (by simp)
        | some u =>
          rcases hO b with z | ⟨ob, xs, z⟩
          · rw [q] at z; cases z
          · have z2 := un.frzs b ob _ z
            obtain ⟨e1, _⟩ := hok b _ z
            obtain ⟨e2, _⟩ := hok' b _ z2
            rw [e] at e1; cases e1
            exact e2
  cases hk : K.lookup a with
  | some o =>
    -- the script is one of the module's own objects
    have e := KX a o hk
    rw [ha] at e
    cases e
    refine core (fun _ => none) (fun _ => .inl rfl) (.inr ⟨_, vs.toArray, _, hk, rfl, rfl, rfl, by rw [List.size_toArray, lenV]; exact hl, by simpa using rv⟩) (fun b u z => by have z' : (none : Option HO) = some u := z; cases z') (fun b z => absurd rfl z) fun z => absurd rfl z
  | none =>
    refine core (fun b => if b = a then some (.frz { cls := .type "list", data := .seq vs.toArray } (.lst (ns.map V.int))) else none) (fun b => ?_) (.inl (.inr ⟨{ cls := .type "list", data := .seq vs.toArray }, if_pos rfl⟩)) (fun b u z => ?_) (fun b z => ?_) fun _ => hk
    · by_cases hb : b = a
      · exact .inr ⟨_, _, if_pos hb⟩
      · exact .inl (if_neg hb)
    · by_cases hb : b = a
      · have z' := (if_pos hb).symm.trans z
        cases z'
        subst hb
        exact ⟨ha, by rw [List.length_map]; exact hl, vs, _, rv, ha⟩
      · have z' := (if_neg hb).symm.trans z
        cases z'
    · by_cases hb : b = a
      · exact hb
      · exact absurd (if_neg hb) z
end L2
namespace L2
open PySem PySem.Spec PyProof.Rows
theorem walk_of {l : PySem.W.OpenLaw} {n k : Nat} {q : Program} {loose : List Str} {XP : (Str → Option Value) → Heap → Prop} {YP : World → Heap → Prop} {d : DefRec} {K : Params → PySem.W.Frag} {CX : World → CXT} {sp : World → Sp} {x : Str}
    (hn : l.most = some n) (hn2 : n ≤ sizeLine) (hdf : d.params.defaults = []) (hr : Room k callerA)
    (hY : ∀ (w : World) (h : Heap), YP w h → (K w.params).In h)
    (F : ∀ (w : World) (mg : Str → Option Value) (fa : Addr) (h : Heap), (K w.params).In h → h.Ns mainGlobals mg → mg d.name = some (.ref fa) →
      ∃ fd : FuncData, (∀ (s : Shared) (u : Value), BindsTo s fd ⟨[u], []⟩ [(x, u)]) ∧
        ∀ base : Heap, (K w.params).In base → base.Ns mainGlobals mg → FnOk l.prog w (K w.params) mg base (CX w) k fa fd [x] (sp w))
    (hsp : ∀ (w : World) (H : Hp) (a : Addr) (ns : List Int), ns.length ≤ n → Only H → SqL (K w.params) H a (ns.map V.int) → sp w [.ref a] H (fun v _ => v = .bl true) fun _ _ _ => False)
    (hCX : ∀ (w : World) (H : Hp) (s : Shared) (e : Value) (s' : Shared), CX w [] H s (fun _ _ _ => False) e s' → False) :
    PySem.W.WalkO q loose XP YP l.row.toRowW d [] (fun f vs => PySem.call f vs) := by
  refine Att.attach_call hn hdf fun w s₀ s₁ mg mb fa o pm cd doc a vs ns G Y ho hd hcd hmg hobj hints hlen hg => ?_
  have KX := hY w _ Y
  obtain ⟨fd, hb, hF⟩ := F w mg fa _ KX G.T.g hmg
  exact law_call KX G.T.g G.T.b G.T.builtins G.T.nolimit hg hobj hints (Nat.le_trans hlen hn2) hr hF hb (fun H hO hS => hsp w H a ns hlen hO hS) fun H e s' => hCX w H s₁ e s'
end L2
namespace L2
open PySem PySem.Spec PyProof.Rows
noncomputable def defArgs (s : Stmt) : Arguments := match s with
  | .FunctionDef _ a _ _ _ _ _ _ _ _ => a
  | _ => { posonlyargs := [], args := [], vararg := none, kwonlyargs := [], kw_defaults := [], kwarg := none, defaults := [] }
noncomputable def defBody (s : Stmt) : List Stmt := match s with
  | .FunctionDef _ _ b _ _ _ _ _ _ _ => b
  | _ => []
noncomputable def defScope (s : Stmt) : Scope := match s with
  | .FunctionDef _ _ _ _ _ _ sc _ _ _ => sc
  | _ => { kind := .function, names := [], isGenerator := false, isCoroutine := false }
noncomputable abbrev CX0 : CXT := fun _ _ _ _ _ _ => False
noncomputable abbrev E0 : XK := fun _ _ _ => False
theorem pass0 {X : Cx} : Passes CX0 X E0 := fun _ _ _ _ _ _ _ h => h.elim
structure Fun (K : PySem.W.Frag) (x qual : Str) (st : Stmt) (f : Addr) (fd : FuncData) : Prop where
  ex : ∃ (oc : Value) (od : Option Addr) (kV doc pm : Value) (an : Option Addr) (cdv ct : Value) (osl : Array (Option Value)),
    fd = PySem.W.fnOf x qual (defArgs st) (defBody st) (defScope st) .none kV doc pm an cdv ct ∧ K.lookup f = some ⟨oc, od, .func fd, osl⟩ ∧ PySem.W.codeIn K cdv qual = true
  kp : PySem.W.keepIn K (.ref f) = true
section
variable {P : Program} {w : World} {K : PySem.W.Frag} {mg : Str → Option Value} {base : Heap}
theorem Fun.ok {x qual : Str} {st : Stmt} {f : Addr} {fd : FuncData} {N ps : List Str} {k : Nat} {sp : Sp} (F : Fun K x qual st f fd) (S : FnScope N ps (defScope st)) (len : ∀ vs H Q E, sp vs H Q E → vs.length = ps.length)
    (hbody : ∀ (cdv : Value) (A : Around) (outer : List Env) (s : Shared) (H : Hp) (vs : List V) (Q : VK) (E : XK), Room k (A.deeper (envOfC qual (defScope st) s.heap.objs.size f cdv)) → sp vs H Q E →
      ∃ t, PSs (cxOf CX0 P w K mg base N qual (defScope st) f cdv A outer s H E).nox (defBody st) t ∧ t { nx := fun _ H' => Q .non H', rt := Q } (start N vs) H) : FnOk P w K mg base CX0 (k + 1) f fd ps sp := by
  obtain ⟨oc, od, kV, doc, pm, an, cdv, ct, osl, rfl, lk, hcd⟩ := F.ex
  refine fn_of lk hcd S len fun A outer s H vs Q E hr hsp => ?_
  obtain ⟨t, h, q⟩ := hbody cdv A outer s H vs Q E hr hsp
  exact ⟨t, h.nox, q⟩
theorem Fun.binds {x qual : Str} {st : Stmt} {f : Addr} {fd : FuncData} {ps : List Str} (F : Fun K x qual st f fd)
    (h : ∀ (kV doc pm : Value) (an : Option Addr) (cdv ct : Value) (us : List Value), us.length = ps.length → bindArgs (PySem.W.fnOf x qual (defArgs st) (defBody st) (defScope st) .none kV doc pm an cdv ct) ⟨us, []⟩ = pure (ps.zip us)) : Binds K fd ps [] := by
  obtain ⟨oc, od, kV, doc, pm, an, cdv, ct, osl, rfl, lk, hcd⟩ := F.ex
  exact .all (h kV doc pm an cdv ct)
theorem fun_mk {x qual : Str} {st : Stmt} {f : Addr} {oc : Value} {od an : Option Addr} {osl : Array (Option Value)} {kV doc pm cdv ct : Value} (l : K.lookup f = some ⟨oc, od, .func (PySem.W.fnOf x qual (defArgs st) (defBody st) (defScope st) .none kV doc pm an cdv ct), osl⟩)
    (c : PySem.W.codeIn K cdv qual = true) (k : PySem.W.keepIn K (.ref f) = true) : Fun K x qual st f (PySem.W.fnOf x qual (defArgs st) (defBody st) (defScope st) .none kV doc pm an cdv ct) := ⟨⟨oc, od, kV, doc, pm, an, cdv, ct, osl, rfl, l, c⟩, k⟩
end
theorem hu_of {A : Around} {k : Nat} (hr : Room k A) : A.units + 1 < cLine := Nat.lt_of_le_of_lt (Nat.add_le_add_left (by decide : 1 ≤ 64) _) hr.units
theorem small1000 {n : Nat} (h : n ≤ 1000) : n < sizeLine := Nat.lt_of_le_of_lt h (by decide)
section
variable {X : Cx}
theorem pv (i : Nat) {x : Str} {pos : Pos} (hN : X.N[i]? = some x := by with_unfolding_all rfl) (hv : Vis X.env.scope x := by with_unfolding_all first | exact Or.inl rfl | exact Or.inr (Or.inl rfl) | exact Or.inr (Or.inr rfl)) (hd : (x == ("__debug__" : Str)) = false := by decide)
    (hcd : (x == ("__classdict__" : Str)) = false := by decide) : PE X (.Name x pos) (tVar i) := pe_var hN hv hd hcd
end
theorem iteF {A B : Prop} (h : B) : if false = true then A else B := by
  rw [if_neg Bool.false_ne_true]
  exact h
theorem iteT {A B : Prop} (h : A) : if true = true then A else B := by
  rw [if_pos rfl]
  exact h
theorem ite2 {c A B : Prop} [Decidable c] (h1 : c → A) (h2 : ¬ c → B) : if c then A else B := by
  by_cases h : c
  · rw [if_pos h]
    exact h1 h
  · rw [if_neg h]
    exact h2 h
noncomputable def Same (H H' : Hp) : Prop := ∀ b o, H b = some o → H' b = some o
theorem Same.refl (H : Hp) : Same H H := fun _ _ h => h
theorem Same.trans {H H1 H2 : Hp} (a : Same H H1) (b : Same H1 H2) : Same H H2 := fun c o h => b c o (a c o h)
theorem Same.free {H H' : Hp} (e : Same H H') {l : Addr} (h : H' l = Option.none) : H l = Option.none := by
  cases q : H l with
  | none => rfl
  | some o =>
    rw [e l o q] at h
    cases h
theorem Same.seq {K : PySem.W.Frag} {H H' : Hp} {a : Addr} {xs : List V} (e : Same H H') (h : SqL K H a xs) : SqL K H' a xs := by
  rcases h with (h | ⟨o, h⟩) | h
  · exact .inl (.inl (e _ _ h))
  · exact .inl (.inr ⟨o, e _ _ h⟩)
  · exact .inr h
end L2
namespace L2
open PySem PySem.Spec PyProof.Rows
section
variable {X : Cx}
theorem call_lenD : CallR X (.builtin "len") (fun xs H Q => ∃ a kvs, xs = [V.ref a] ∧ H a = some (.dK kvs) ∧ Q (.int kvs.length) H) := by
  intro pins s σ H xs us Q I r h
  obtain ⟨a, kvs, rfl, ha, q⟩ := h
  obtain ⟨u, rfl, ru⟩ := vals1 r
  cases ru
  exact d_len I (.inl ha) fun t s' I' => ⟨.int kvs.length, H, I', ⟨t, rfl⟩, q⟩
end
section
variable {κ : Type} [DecidableEq κ]
theorem valV_not {kvs : List (κ × V)} {k : κ} (h : valV kvs k = none) : ¬ k ∈ kvs.map (·.1) := by
  intro m
  obtain ⟨p, hp, e⟩ := List.mem_map.mp m
  have q : (kvs.any fun kv => decide (kv.1 = k)) = true := List.any_eq_true.mpr ⟨p, hp, decide_eq_true e⟩
  rw [valV_any, h] at q
  exact absurd q (by simp)
theorem nd_snoc : ∀ {l : List κ} {k : κ}, l.Nodup → ¬ k ∈ l → (l ++ [k]).Nodup
  | [], k, _, _ => by simp
  | a :: r, k, h, hk => by
    obtain ⟨h1, h2⟩ := List.nodup_cons.mp h
    show (a :: (r ++ [k])).Nodup
    refine List.nodup_cons.mpr ⟨fun m => ?_, nd_snoc h2 fun m => hk (List.mem_cons.mpr (Or.inr m))⟩
    rcases List.mem_append.mp m with q | q
    · exact h1 q
    · exact hk (List.mem_cons.mpr (Or.inl (List.mem_singleton.mp q).symm))
theorem nd_putK {kvs : List (κ × V)} {k : κ} (v : V) (hn : (kvs.map (·.1)).Nodup) (h : valV kvs k = none) : ((putK kvs k v).map (·.1)).Nodup := by
  rw [putK_new v h, List.map_append]
  exact nd_snoc hn (valV_not h)
end
end L2
set_option Elab.async false
set_option linter.all false
set_option maxRecDepth 100000
set_option maxHeartbeats 4000000
namespace L2
open PySem PySem.Spec PyProof.Rows
noncomputable def clOf (env : Env) (names : List (Str × NameKind)) (acc : List (Str × Addr)) : List (Str × Addr) :=
  names.foldl (fun acc y => if y.2 == NameKind.free then (y.1, (env.cells.lookup y.1).getD 0) :: acc else acc) acc
theorem closure_is {env : Env} {scope : Scope} (h : ∀ y ∈ scope.names, y.2 = NameKind.free → ∃ c, env.cells.lookup y.1 = some c) : closureFor scope env = pure (clOf env scope.names []) := by
  have all : ∀ (names : List (Str × NameKind)) (acc : List (Str × Addr)), (∀ y ∈ names, y.2 = NameKind.free → ∃ c, env.cells.lookup y.1 = some c) →
      (forIn names acc fun (y : Str × NameKind) (cs : List (Str × Addr)) => (match y with
        | (name, kind) => if (kind == NameKind.free) = true then do let c ← cellOf env name; pure (ForInStep.yield ((name, c) :: cs)) else pure (ForInStep.yield cs) : Sem (ForInStep (List (Str × Addr))))) = (pure (clOf env names acc) : Sem (List (Str × Addr))) := by
    intro names
    induction names with
    | nil => intro acc _; rfl
    | cons y r ih =>
      intro acc hy
      obtain ⟨n, k⟩ := y
      rw [List.forIn_cons]
      by_cases hk : k = NameKind.free
      · subst hk
        obtain ⟨c, hc⟩ := hy (n, .free) List.mem_cons_self rfl
        have e : cellOf env n = pure c := by unfold cellOf; rw [show env.cells.lookup n = some c from hc]
        have e2 : clOf env ((n, NameKind.free) :: r) acc = clOf env r ((n, c) :: acc) := by
          unfold clOf
          rw [List.foldl_cons]
          simp only [beq_self_eq_true, if_true]
          rw [show env.cells.lookup n = some c from hc]
          rfl
        rw [e2, ← ih ((n, c) :: acc) fun z hz => hy z (List.mem_cons_of_mem _ hz)]
        simp only [beq_self_eq_true, if_true, e]
        rfl
      · have hb : (k == NameKind.free) = false := by simpa using hk
        have e2 : clOf env ((n, k) :: r) acc = clOf env r acc := by
          unfold clOf
          rw [List.foldl_cons]
          simp only [hb, Bool.false_eq_true, if_false]
        rw [e2, ← ih acc fun z hz => hy z (List.mem_cons_of_mem _ hz)]
        simp only [hb, Bool.false_eq_true, if_false]
        rfl
  have q := all scope.names [] h
  unfold closureFor
  first
    | exact q
    | (simp only [bind_pure]; exact q)
    | (refine Eq.trans ?_ q; rfl)
theorem clOf_sub {env : Env} {x : Str} {c : Addr} : ∀ {names : List (Str × NameKind)} {acc : List (Str × Addr)}, (∀ y ∈ names, y.2 = NameKind.free → ∃ c, env.cells.lookup y.1 = some c) → (acc.lookup x = some c → env.cells.lookup x = some c) →
    (clOf env names acc).lookup x = some c → env.cells.lookup x = some c
  | [], acc, _, ha, h => ha h
  | (n, k) :: r, acc, hn, ha, h => by
    have e : clOf env ((n, k) :: r) acc = clOf env r (if k == NameKind.free then (n, (env.cells.lookup n).getD 0) :: acc else acc) := rfl
    rw [e] at h
    refine clOf_sub (fun y hy => hn y (List.mem_cons_of_mem _ hy)) (fun q => ?_) h
    by_cases hk : k = NameKind.free
    · subst hk
      simp only [beq_self_eq_true, if_true, List.lookup_cons] at q
      obtain ⟨d, hd⟩ := hn (n, .free) List.mem_cons_self rfl
      have hd' : env.cells.lookup n = some d := hd
      split at q
      · rename_i hx
        have hx' : x = n := beq_iff_eq.mp hx
        rw [hd'] at q
        rw [hx', hd']
        exact q
      · exact ha q
    · have hb : (k == NameKind.free) = false := by simpa using hk
      simp only [hb, Bool.false_eq_true, if_false] at q
      exact ha q
theorem clOf_has {env : Env} {x : Str} : ∀ {names : List (Str × NameKind)} {acc : List (Str × Addr)}, ((∃ c, acc.lookup x = some c) ∨ (x, NameKind.free) ∈ names) → ∃ c, (clOf env names acc).lookup x = some c
  | [], acc, h => by
    rcases h with h | h
    · exact h
    · cases h
  | (n, k) :: r, acc, h => by
    have e : clOf env ((n, k) :: r) acc = clOf env r (if k == NameKind.free then (n, (env.cells.lookup n).getD 0) :: acc else acc) := rfl
    rw [e]
    refine clOf_has ?_
    by_cases hk : k = NameKind.free
    · subst hk
      simp only [beq_self_eq_true, if_true, List.lookup_cons]
      by_cases hx : x = n
      · left
        have hb : (x == n) = true := beq_iff_eq.mpr hx
        rw [hb]
        exact ⟨_, rfl⟩
      · have hb : (x == n) = false := beq_eq_false_iff_ne.mpr hx
        rw [hb]
        rcases h with h | h
        · exact .inl h
        · rcases List.mem_cons.mp h with q | q
          · cases q; exact absurd rfl hx
          · exact .inr q
    · have hb : (k == NameKind.free) = false := by simpa using hk
      simp only [hb, Bool.false_eq_true, if_false]
      rcases h with h | h
      · exact .inl h
      · rcases List.mem_cons.mp h with q | q
        · cases q; exact absurd rfl hk
        · exact .inr q
theorem cells_app : ∀ (names : List (Str × NameKind)) (n : Nat) (acc : List (Str × Addr)), cellsFrom n names acc = cellsFrom n names [] ++ acc
  | [], _, _ => rfl
  | (x, k) :: r, n, acc => by
    unfold cellsFrom
    split
    · rw [cells_app r (n + 1) ((x, n) :: acc), cells_app r (n + 1) [(x, n)], List.append_assoc]
      rfl
    · exact cells_app r n acc
theorem cells_kind {x : Str} {c : Addr} : ∀ {names : List (Str × NameKind)} {n : Nat}, (x, c) ∈ cellsFrom n names [] → (x, NameKind.cell) ∈ names
  | [], _, h => by cases h
  | (y, k) :: r, n, h => by
    unfold cellsFrom at h
    split at h
    · rename_i hk
      rw [cells_app] at h
      rcases List.mem_append.mp h with h | h
      · exact List.mem_cons_of_mem _ (cells_kind h)
      · have e := List.mem_singleton.mp h
        cases e
        rw [beq_iff_eq.mp hk]
        exact List.mem_cons_self
    · exact List.mem_cons_of_mem _ (cells_kind h)
theorem lookup_ex {α : Type} {x : Str} {c : α} : ∀ {l : List (Str × α)}, (x, c) ∈ l → ∃ d, l.lookup x = some d
  | [], h => by cases h
  | (y, d) :: r, h => by
    rw [List.lookup_cons]
    cases e : x == y with
    | true => exact ⟨d, rfl⟩
    | false =>
      rcases List.mem_cons.mp h with q | q
      · cases q
        simp at e
      · exact lookup_ex q
theorem cells_has {x : Str} : ∀ {names : List (Str × NameKind)} {n : Nat}, (x, NameKind.cell) ∈ names → ∃ c, (x, c) ∈ cellsFrom n names []
  | [], _, h => by cases h
  | (y, k) :: r, n, h => by
    unfold cellsFrom
    split
    · rw [cells_app]
      rcases List.mem_cons.mp h with q | q
      · cases q
        exact ⟨n, List.mem_append_right _ (by simp)⟩
      · obtain ⟨c, hc⟩ := cells_has (n := n + 1) q
        exact ⟨c, List.mem_append_left _ hc⟩
    · rename_i hk
      rcases List.mem_cons.mp h with q | q
      · cases q
        exact absurd rfl hk
      · exact cells_has q
noncomputable def compOk (outer scope : Scope) (xs fr : List Str) : Bool :=
  (scope.kind == .function) && (outer.kind == .function) && decide (scope.names.map (·.1)).Nodup
  && (scope.names.all fun y => y.2 != .local || scope.names.lookup y.1 == some .local)
  && (scope.names.all fun y => y.2 != .free || (outer.names.lookup y.1 == some .cell || outer.names.lookup y.1 == some .free))
  && (scope.names.all fun y => y.2 != .free || scope.names.lookup y.1 == some .free)
  && (xs.all fun x => scope.names.lookup x == some .local || scope.names.lookup x == some .cell) && (fr.all fun x => scope.names.lookup x == some .free) && decide (xs ++ fr).Nodup
theorem lookup_mem {α : Type} {x : Str} {v : α} : ∀ {l : List (Str × α)}, l.lookup x = some v → (x, v) ∈ l
  | [], h => by cases h
  | (n, k) :: r, h => by
    rw [List.lookup_cons] at h
    split at h
    · rename_i hx
      have hx' : x = n := beq_iff_eq.mp hx
      cases h
      rw [hx']
      exact List.mem_cons_self
    · exact List.mem_cons_of_mem _ (lookup_mem h)
theorem lookup_relabel {scope : Scope} {env : Env} {x : Str} {k : NameKind} (hk : env.scope.kind = .function) : ∀ {names : List (Str × NameKind)}, names.lookup x = some k →
    (names.map fun (n, k) => if (k == NameKind.free && env.scope.kind == .function && env.kindOf n == some .cell) then (n, NameKind.cell) else (n, k)).lookup x = some (if (k == NameKind.free && env.kindOf x == some .cell) then .cell else k)
  | [], h => by cases h
  | (n, j) :: r, h => by
    have ih := @lookup_relabel scope env x k hk r
    rw [List.map_cons]
    rw [List.lookup_cons] at h
    dsimp only
    split at h
    · rename_i hx
      have hx' : x = n := beq_iff_eq.mp hx
      cases h
      subst hx'
      by_cases hc : (k == NameKind.free && env.scope.kind == .function && env.kindOf x == some .cell) = true
      · have hc2 : (k == NameKind.free && env.kindOf x == some .cell) = true := by
          rw [Bool.and_eq_true, Bool.and_eq_true] at hc
          rw [Bool.and_eq_true]
          exact ⟨hc.1.1, hc.2⟩
        rw [if_pos hc, if_pos hc2, List.lookup_cons, beq_self_eq_true]
      · have hc2 : ¬ (k == NameKind.free && env.kindOf x == some .cell) = true := fun q => hc (by
          rw [Bool.and_eq_true] at q
          rw [Bool.and_eq_true, Bool.and_eq_true, hk]
          exact ⟨⟨q.1, rfl⟩, q.2⟩)
        rw [if_neg hc, if_neg hc2, List.lookup_cons, beq_self_eq_true]
    · rename_i hx
      have hx' : (x == n) = false := by simpa using hx
      by_cases hc : (j == NameKind.free && env.scope.kind == .function && env.kindOf n == some .cell) = true
      · rw [if_pos hc, List.lookup_cons, hx']
        exact ih h
      · rw [if_neg hc, List.lookup_cons, hx']
        exact ih h
theorem of_lookup_relabel {env : Env} {x : Str} {k : NameKind} : ∀ {names : List (Str × NameKind)},
    (names.map fun (n, k) => if (k == NameKind.free && env.scope.kind == .function && env.kindOf n == some .cell) then (n, NameKind.cell) else (n, k)).lookup x = some k →
    ∃ j, names.lookup x = some j ∧ (k = j ∨ (j = .free ∧ k = .cell))
  | [], h => by cases h
  | (n, j) :: r, h => by
    have ih := @of_lookup_relabel env x k r
    rw [List.map_cons] at h
    dsimp only at h
    by_cases hc : (j == NameKind.free && env.scope.kind == .function && env.kindOf n == some .cell) = true
    · rw [if_pos hc, List.lookup_cons] at h
      have hj : j = .free := by
        rw [Bool.and_eq_true, Bool.and_eq_true] at hc
        exact beq_iff_eq.mp hc.1.1
      rw [List.lookup_cons]
      split at h
      · rename_i hx
        cases h
        exact ⟨j, rfl, .inr ⟨hj, rfl⟩⟩
      · rename_i hx
        have hx' : (x == n) = false := by simpa using hx
        exact ih h
    · rw [if_neg hc, List.lookup_cons] at h
      rw [List.lookup_cons]
      split at h
      · rename_i hx
        cases h
        exact ⟨_, rfl, .inl rfl⟩
      · rename_i hx
        have hx' : (x == n) = false := by simpa using hx
        exact ih h
structure CompS (X : Cx) (scope : Scope) (xs fr : List Str) : Prop where
  kind : scope.kind = .function
  okind : X.env.scope.kind = .function
  uniq : (scope.names.map (·.1)).Nodup
  names : ∀ y ∈ scope.names, y.2 = .local → scope.names.lookup y.1 = some .local
  free : ∀ y ∈ scope.names, y.2 = .free → X.env.kindOf y.1 = some .cell ∨ X.env.kindOf y.1 = some .free
  own : ∀ x ∈ xs, scope.names.lookup x = some .local ∨ scope.names.lookup x = some .cell
  fre : ∀ x ∈ fr, scope.names.lookup x = some .free
  nd : (xs ++ fr).Nodup
theorem compS_of {X : Cx} {scope : Scope} {xs fr : List Str} (h : compOk X.env.scope scope xs fr = true) : CompS X scope xs fr := by
  unfold compOk at h
  simp only [Bool.and_eq_true, List.all_eq_true, bne_iff_ne, Bool.or_eq_true, beq_iff_eq, decide_eq_true_eq] at h
  obtain ⟨⟨⟨⟨⟨⟨⟨⟨h1, h2⟩, h3⟩, h4⟩, h5⟩, h6⟩, h7⟩, h8⟩, h9⟩ := h
  exact ⟨h1, h2, h3, fun y hy e => (h4 y hy).resolve_left (fun q => q e), fun y hy e => (h5 y hy).resolve_left (fun q => q e), h7, h8, h9⟩
noncomputable def pick (σ : St) (js : List Nat) : St := js.map fun j => (σ[j]?).getD none
noncomputable abbrev cxC (X : Cx) (scope : Scope) (xs fr : List Str) (C : Addr) (ex : List Addr) (s₀ : Shared) (H₀ : Hp) : Cx :=
  { X with N := xs ++ fr, env := compEnvC scope (cellsFrom (C + 1) scope.names (clOf X.env scope.names [])) C X.env, s₀ := s₀, H₀ := H₀, outer := X.stack, ex := ex, fn := fun x => scope.names.lookup x == some .cell, pn := [], xe := fun _ _ => False }
section
variable {X : Cx} {scope : Scope} {xs fr : List Str} {pins : List (Addr × Obj)} {σ : St} {H : Hp} {s : Shared} {js : List Nat} {fp : List Addr}
theorem lookup_nd {α : Type} {x : Str} {v : α} : ∀ {l : List (Str × α)}, (l.map (·.1)).Nodup → (x, v) ∈ l → l.lookup x = some v
  | [], _, h => by cases h
  | (y, d) :: r, hn, h => by
    obtain ⟨h1, h2⟩ := List.nodup_cons.mp hn
    rw [List.lookup_cons]
    rcases List.mem_cons.mp h with q | q
    · cases q
      rw [beq_self_eq_true]
    · have hne : (x == y) = false := beq_eq_false_iff_ne.mpr fun e => h1 (e ▸ List.mem_map.mpr ⟨(x, v), q, rfl⟩)
      rw [hne]
      exact lookup_nd h2 q
theorem CompS.cells (S : CompS X scope xs fr) (ok : X.Ok) : ∀ y ∈ scope.names, y.2 = NameKind.free → ∃ c, X.env.cells.lookup y.1 = some c := fun y hy e => ok.has _ (S.free y hy e)
theorem block_in (S : CompS X scope xs fr) (hjs : js.map (fun j => X.N[j]?) = fr.map some) (I : Inv X pins σ H s) (hfp : ∀ b ∈ fp, FpOk X pins H b) (hob : ∀ b ∈ fp, ∃ o, s.heap.get? b = some o) {h' : Heap} {t' : Nat}
    (hn : h'.Ns s.heap.objs.size fun _ => none) (keep : ∀ b o, s.heap.get? b = some o → h'.get? b = some o) (hcs : CellsOk h' (s.heap.objs.size + 1) (cellsFrom (s.heap.objs.size + 1) scope.names [])) :
    Inv (cxC X scope xs fr s.heap.objs.size fp s H) [] (List.replicate xs.length none ++ pick σ js) H { s with heap := h', toks := t' } := by
  have hcl := S.cells I.ok
  have sub : ∀ x c, (clOf X.env scope.names []).lookup x = some c → X.env.cells.lookup x = some c := fun x c h => clOf_sub hcl (fun q => by cases q) h
  have hl : js.length = fr.length := by have := congrArg List.length hjs; rwa [List.length_map, List.length_map] at this
  have two : ∀ x c, (cellsFrom (s.heap.objs.size + 1) scope.names (clOf X.env scope.names [])).lookup x = some c → (x, c) ∈ cellsFrom (s.heap.objs.size + 1) scope.names [] ∨ (clOf X.env scope.names []).lookup x = some c := fun x c h => by
    rw [cells_app, List.lookup_append] at h
    cases e : (cellsFrom (s.heap.objs.size + 1) scope.names []).lookup x with
    | some d =>
      rw [e] at h
      cases h
      exact .inl (lookup_mem e)
    | none =>
      rw [e] at h
      exact .inr h
  have oldc : ∀ x c, X.env.cells.lookup x = some c → c < s.heap.objs.size := fun x c h => let ⟨_, _, ho, _⟩ := I.cell x c h; Heap.lt_size ho
  have newc : ∀ x c, (x, c) ∈ cellsFrom (s.heap.objs.size + 1) scope.names [] → s.heap.objs.size < c := fun x c h => (hcs.empty x c h).2
  refine ⟨⟨I.ok.mod, S.kind, I.ok.glob, I.ok.blt, Nat.le_refl _, fun x y c h1 h2 => ?_, fun x hx => ?_, fun x c hf h => ?_, I.ok.hd, I.ok.frames, .inl rfl, fun b hb => ?_, fun b o e => I.bs b o e, Nat.le_trans I.ok.bsz I.sz, fun b o e hb => ?_, fun b hb hb2 => ?_, I.stack, I.stkFree⟩,
    rfl, I.bare, Un.kept keep, ⟨_, hn, fun i x v e1 e2 e3 => ?_⟩, fun x c h => ?_, I.hok.fresh (Nat.le_refl _), fun x c h => ?_, fun p hp => absurd (show p ∈ ([] : List (Addr × Obj)) from hp) (by simp), I.hok.kept keep, ?_⟩
  · rcases two x c h1 with g1 | g1
    · rcases two y c h2 with g2 | g2
      · exact name_of_addr hcs.apart g1 g2
      · exact absurd (oldc y c (sub y c g2)) (Nat.not_lt.mpr (Nat.le_of_lt (newc x c g1)))
    · rcases two y c h2 with g2 | g2
      · exact absurd (oldc x c (sub x c g1)) (Nat.not_lt.mpr (Nat.le_of_lt (newc y c g2)))
      · exact I.ok.inj x y c (sub x c g1) (sub y c g2)
  · -- the names that are cells there have one
    have hx : (relabel scope X.env).names.lookup x = some .cell ∨ (relabel scope X.env).names.lookup x = some .free := hx
    have app : ∀ c, (clOf X.env scope.names []).lookup x = some c ∨ (x, c) ∈ cellsFrom (s.heap.objs.size + 1) scope.names [] → ∃ c, (cellsFrom (s.heap.objs.size + 1) scope.names (clOf X.env scope.names [])).lookup x = some c := fun c h => by
      rw [cells_app, List.lookup_append]
      rcases h with h | h
      · cases (cellsFrom (s.heap.objs.size + 1) scope.names []).lookup x with
        | some d => exact ⟨d, rfl⟩
        | none => exact ⟨c, h⟩
      · obtain ⟨d, hd⟩ := lookup_ex h
        rw [hd]
        exact ⟨d, rfl⟩
    have go : ∀ k, (relabel scope X.env).names.lookup x = some k → (k = .cell ∨ k = .free) → ∃ c, (cellsFrom (s.heap.objs.size + 1) scope.names (clOf X.env scope.names [])).lookup x = some c := fun k e hk => by
      obtain ⟨j, hj, q⟩ := of_lookup_relabel (env := X.env) (names := scope.names) e
      have hm := lookup_mem hj
      have hjf : j = .free ∨ j = .cell := by
        rcases q with q | q
        · rcases hk with hk | hk
          · exact .inr (q ▸ hk)
          · exact .inl (q ▸ hk)
        · exact .inl q.1
      rcases hjf with hjf | hjf
      · subst hjf
        obtain ⟨c, hc⟩ := clOf_has (env := X.env) (x := x) (names := scope.names) (acc := []) (.inr hm)
        exact app c (.inl hc)
      · subst hjf
        obtain ⟨c, hc⟩ := cells_has (n := s.heap.objs.size + 1) hm
        exact app c (.inr hc)
    rcases hx with hx | hx
    · exact go _ hx (.inl rfl)
    · exact go _ hx (.inr rfl)
  · rcases two x c h with g | g
    · exact Nat.le_of_lt (newc x c g)
    · have hf' : scope.names.lookup x = some .cell := by simpa using hf
      obtain ⟨d, hd⟩ := cells_has (n := s.heap.objs.size + 1) (lookup_mem hf')
      have h' := h
      obtain ⟨e, he⟩ := lookup_ex hd
      have h' : (cellsFrom (s.heap.objs.size + 1) scope.names (clOf X.env scope.names [])).lookup x = some c := h
      rw [cells_app, List.lookup_append, he] at h'
      cases h'
      exact Nat.le_of_lt (newc x _ (lookup_mem he))
  · obtain ⟨f0, f1, f2, f3, f4, f5⟩ := hfp b hb
    obtain ⟨o, ho⟩ := hob b hb
    refine ⟨Nat.ne_of_lt (Heap.lt_size ho), fun x c h z => ?_⟩
    rcases two x c h with g | g
    · have h1 := newc x c g
      have h2 := Heap.lt_size ho
      rw [← z] at h2
      exact absurd h1 (Nat.not_lt.mpr (Nat.le_of_lt h2))
    · exact f4 x c (sub x c g) z
  · obtain ⟨f0, f1, f2, f3, f4, f5⟩ := hfp b hb
    rcases f3 with f3 | f3
    · exact I.ok.noex b o e f3
    · exact absurd (Nat.lt_of_lt_of_le (Heap.lt_size (I.ok.bs b o e).1) f3) (Nat.lt_irrefl _)
  · obtain ⟨f0, f1, f2, f3, f4, f5⟩ := hfp b hb
    rcases List.mem_cons.mp (I.stkSub b hb2) with z | z
    · exact f1 z
    · exact f2 z
  · have e1 : (xs ++ fr)[i]? = some x := e1
    by_cases hi : i < xs.length
    · rw [List.getElem?_append_left (by rw [List.length_replicate]; exact hi), List.getElem?_replicate, if_pos hi] at e2
      cases e2
    · have hi' : xs.length ≤ i := Nat.le_of_not_lt hi
      rw [List.getElem?_append_right hi'] at e1
      rw [List.getElem?_append_right (by rw [List.length_replicate]; exact hi'), List.length_replicate] at e2
      unfold pick at e2
      rw [List.getElem?_map] at e2
      cases ej : js[i - xs.length]? with
      | none => rw [ej] at e2; cases e2
      | some j =>
        rw [ej] at e2
        have e2' : (σ[j]?).getD none = some v := Option.some.inj e2
        have e4 : σ[j]? = some (some v) := by
          cases q : σ[j]? with
          | none => rw [q] at e2'; cases e2'
          | some o => rw [q] at e2'; rw [show o = some v from e2']
        have e5 : X.N[j]? = some x := by
          have := congrArg (fun l => l[i - xs.length]?) hjs
          rw [List.getElem?_map, List.getElem?_map, ej, e1] at this
          exact Option.some.inj this
        have hf := S.fre x (List.mem_of_getElem? e1)
        have hk := S.free _ (lookup_mem hf) rfl
        obtain ⟨m, hm, hl'⟩ := I.loc
        obtain ⟨u, r, lk⟩ := hl' j x v e5 e4 (.inr hk)
        refine ⟨u, r, .inr ⟨?_, ?_⟩⟩
        · have q := lookup_relabel (scope := scope) (env := X.env) S.okind hf
          show (relabel scope X.env).names.lookup x = some .cell ∨ (relabel scope X.env).names.lookup x = some .free
          have q' : (relabel scope X.env).names.lookup x = some (if (NameKind.free == NameKind.free && X.env.kindOf x == some .cell) then .cell else .free) := q
          by_cases hc : (NameKind.free == NameKind.free && X.env.kindOf x == some .cell) = true
          · rw [if_pos hc] at q'; exact .inl q'
          · rw [if_neg hc] at q'; exact .inr q'
        · obtain ⟨c', hc'⟩ := clOf_has (env := X.env) (x := x) (names := scope.names) (acc := []) (.inr (lookup_mem hf))
          rcases lk with ⟨z, _⟩ | ⟨_, c, hc, ob, ho, hd⟩
          · rcases hk with hk | hk
            · rw [z] at hk; cases hk
            · rw [z] at hk; cases hk
          · have e6 : c = c' := by
              have := sub x c' hc'
              rw [hc] at this
              exact Option.some.inj this
            subst e6
            refine ⟨_, ?_, ob, keep _ _ ho, hd⟩
            show (cellsFrom (s.heap.objs.size + 1) scope.names (clOf X.env scope.names [])).lookup x = some c
            rw [cells_app, List.lookup_append]
            have none' : (cellsFrom (s.heap.objs.size + 1) scope.names []).lookup x = none := by
              cases e : (cellsFrom (s.heap.objs.size + 1) scope.names []).lookup x with
              | none => rfl
              | some d =>
                have := lookup_nd S.uniq (cells_kind (lookup_mem e))
                rw [hf] at this
                cases this
            rw [none']
            exact hc'
  · rcases two x c h with g | g
    · exact ⟨_, (hcs.empty x c g).1⟩
    · obtain ⟨v, ob, ho, hd⟩ := I.cell x c (sub x c g)
      exact ⟨v, ob, keep _ _ ho, hd⟩
  · rcases two x c h with g | g
    · exact I.hok.fresh (Nat.le_of_lt (newc x c g))
    · exact I.freeC x c (sub x c g)
  · show _ = (xs ++ fr).length
    unfold pick
    rw [List.length_append, List.length_append, List.length_replicate, List.length_map, hl]
theorem new_block {M : Model} {A : Around} {E : Value → Shared → Prop} {s : Shared} {scope : Scope} {globals : Addr} {cl : List (Str × Addr)} {qual : Str} {env : Env} {Q : Env → Shared → Prop}
    (hQ : ∀ h', h'.Ns s.heap.objs.size (fun _ => none) → (∀ b o, s.heap.get? b = some o → h'.get? b = some o) → CellsOk h' (s.heap.objs.size + 1) (cellsFrom (s.heap.objs.size + 1) scope.names []) →
      Q (newEnv scope s.heap.objs.size globals (cellsFrom (s.heap.objs.size + 1) scope.names cl) qual none .none (some env) builtinsNs) { s with heap := h' }) :
    wpAny M A (newFunctionEnv scope globals cl [] qual none .none (some env)) Q E s := by
  simp only [newFunctionEnv, Option.isSome_some, if_true]
  refine wpAny_bind (wpAny_alloc ?_)
  refine wpAny_bind (wpAny_layCells _ (fun name kind cells => by cases hkc : kind == NameKind.cell <;> simp [hkc]) _ _ _ _ ?_)
  have okc := cellsFrom_ok scope.names (s.heap.push { cls := .type "dict", data := .dict #[] }) (s.heap.objs.size + 1) [] ⟨fun _ _ hm => (nomatch hm), List.Pairwise.nil⟩ (by rw [Heap.size_push]; exact Nat.le_refl _)
  rw [Heap.size_push] at okc
  rw [show ({ s with heap := s.heap.push { cls := .type "dict", data := .dict #[] } } : Shared).heap.objs.size = s.heap.objs.size + 1 from Heap.size_push ..]
  rw [List.forIn_nil]
  exact wpAny_bind (wpAny_pure (wpAny_pure (hQ _ ((Heap.Ns.new s.heap (.type "dict")).keeps (pushCells_keeps _ _)) (fun b o e => pushCells_keeps _ _ b o (Heap.get?_push_of_some _ e)) okc)))
theorem block_out {σ' : St} {H' : Hp} {s' : Shared} {h'' : Heap} (I : Inv X pins σ H s) (hfp : ∀ b ∈ fp, FpOk X pins H b) (J : Inv (cxC X scope xs fr s.heap.objs.size fp s H) [] σ' H' s') (hs : Heap.SameBut s.heap.objs.size s'.heap h'') :
    Inv X pins σ H' { s' with heap := h'' } := by
  have old : ∀ b o, s.heap.get? b = some o → b ≠ s.heap.objs.size := fun b o e => Nat.ne_of_lt (Heap.lt_size e)
  have ub : Un (frs X.stack) fp H H' s.heap s'.heap := J.base
  refine I.call' (s' := { s' with heap := h'' }) (ch := fp) J.os ⟨fun b o e n hb hx => (hs.2 b (old b o e)).trans (ub.keep b o e n hb hx), fun b o e n hb hx => ?_, ub.free, fun b o e hx => ?_, ub.tups, ub.frzs, ub.tbls⟩ (fun b o e => ?_) J.bare fun b hb => ?_
  · obtain ⟨sl, e1⟩ := ub.slot b o e n hb hx
    exact ⟨sl, (hs.2 b (old b o e)).trans e1⟩
  · obtain ⟨o', e1⟩ := ub.there b o e hx
    exact ⟨o', (hs.2 b (old b o e)).trans e1⟩
  · have hf : H' s.heap.objs.size = none := J.free
    refine (J.hok b o e).stay (fun c v hc q => (hs.2 c ?_).trans q) (fun _ q => q) fun _ _ q => q
    intro z
    rcases hc with hc | hc
    · rw [← hc, z, hf] at e; cases e
    · rw [z, hf] at hc; cases hc
  · obtain ⟨f0, f1, f2, f3, f4, f5⟩ := hfp b hb
    exact ⟨f3, f1, f4, f5⟩
noncomputable def PIf (X : Cx) (ifs : List Expr) (t : TT) : Prop :=
  ∀ (pins : List (Addr × Obj)) (s : Shared) (σ : St) (H : Hp) (Q : Bool → Hp → Prop) (E : Value → Shared → Prop), (∀ e s', X.xe e s' → E e s') → Inv X pins σ H s → t σ H Q →
    wpAny (model X.prog X.w) X.A (forIn ifs true fun c r => if r = true then do let ok ← isTrue c X.env (eval c X.env); pure (ForInStep.yield ok) else pure (ForInStep.yield r)) (TP X pins σ Q) E s
noncomputable def tTrue : TT := fun _ H Q => Q true H
theorem pif_nil : PIf X [] tTrue := fun _ _ _ H _ _ _ I h => wpAny_tests_nil ⟨H, I, h⟩
theorem pif_one {c : Expr} {t : TT} (hc : PT X c t) : PIf X [c] t := fun pins s σ H Q _ hE I h => wpAny_tests_one (wpAny_mono (hc pins s σ H Q I h) (fun _ _ z => z) hE)
noncomputable def tComp (k : Nat) (js : List Nat) (wi : TI) (g : TG) (tt : TT) (te : TE) : TE := fun σ H Q => wi σ H fun J H1 => ∀ p, H1 p = none →
  ∃ W : Nat → Nat → Hp → Prop, (∃ m, W 0 m (upd H1 p (.lst []))) ∧ ∀ i m H, W i m H →
    (J.stop i H ∧ Q (.ref p) H) ∨ (J.go i H ∧ ∃ N : Hp → Prop, (∀ H', N H' → ∃ m', m' < m ∧ W (i + 1) m' H') ∧
      ∀ x H', J.yld i H x H' → g x (List.replicate k none ++ pick σ js) H' fun σ2 H2 => tt σ2 H2 fun b H3 =>
        if b = true then te σ2 H3 fun y H4 => ∃ acc, H4 p = some (.lst acc) ∧ acc.length < sizeLine ∧ N (upd H4 p (.lst (acc ++ [y]))) else N H3)
theorem comp_loop {tg elt iter : Expr} {ifs : List Expr} {pos : Pos} {it acc : Value} {env : Env} {A : Around} {R : Result → Shared → Prop} {s : Shared} {P : Program} {w : World} (I : Nat → Shared → Prop)
    (turn : ∀ n s, I n s → wpAny (model P w) A (pyNext it) (fun r s₁ => match r with
      | none => R (.ok .next) s₁
      | some v => wpAny (model P w) A (letOwnedTupleGo tg it v) (fun _ s₁' => wpAny (model P w) A (assign tg env v) (fun _ s₂ =>
          wpAny (model P w) A (forIn ifs true fun c r => if r = true then do let ok ← isTrue c env (eval c env); pure (ForInStep.yield ok) else pure (ForInStep.yield r)) (fun ok s₃ =>
            if ok = true then wpAny (model P w) A (eval elt env) (fun x s₄ =>
              wpAny (model P w) A (call (.builtin "list.append") [acc, x]) (fun _ s₅ => ∃ m, m < n ∧ I m s₅) (fun _ _ => False) s₄) (fun _ _ => False) s₃
            else ∃ m, m < n ∧ I m s₃) (fun _ _ => False) s₂) (fun _ _ => False) s₁') (fun _ _ => False) s₁) (fun _ _ => False) s)
    (n : Nat) (h : I n s) : codeAny (model P w) A (.compLoop (.ListComp elt [⟨tg, iter, ifs, 0⟩] scope pos) 0 it acc env) R s := by
  refine codeAny_loop rfl I (fun n s hI => ?_) n h
  show wpAny _ A ((compTurn (.ListComp elt [⟨tg, iter, ifs, 0⟩] scope pos) 0 it acc env).onRaise (fun x => do noteFrame x env; theTreesLotGoes x)) _ _ s
  refine wpAny_noted ?_
  rw [compTurn_list]
  refine wpAny_bind (wpAny_standAt (wpAny_bind (wpAny_mono (turn n s hI) (fun r s₁ h₁ => ?_) fun _ _ h' => h'.elim)))
  cases r with
  | none => exact wpAny_pure h₁
  | some v =>
    refine wpAny_bind (wpAny_mono h₁ (fun _ s₁' h₁' => ?_) fun _ _ h' => h'.elim)
    refine wpAny_bind (wpAny_mono h₁' (fun _ s₂ h₂ => wpAny_bind (wpAny_mono h₂ (fun ok s₃ h₃ => ?_) fun _ _ h' => h'.elim)) fun _ _ h' => h'.elim)
    cases ok with
    | false => exact wpAny_pure ⟨rfl, h₃⟩
    | true =>
      exact wpAny_bind (wpAny_bind (wpAny_mono h₃ (fun x s₄ h₄ => wpAny_bind (wpAny_mono h₄ (fun _ s₅ h₅ => wpAny_pure (wpAny_pure ⟨rfl, h₅⟩)) fun _ _ h' => h'.elim)) fun _ _ h' => h'.elim))
noncomputable def GKeep (n : Nat) (g : TG) : Prop := ∀ x σ H Q, g x σ H Q → g x σ H fun σ' H' => (∀ k, n ≤ k → σ'[k]? = σ[k]?) ∧ Q σ' H'
theorem gk_name {n i : Nat} (h : i < n) : GKeep n (gName i) := fun x σ H Q q => ⟨fun k hk => List.getElem?_set_ne (by omega), q⟩
theorem comp_run {tg elt iter : Expr} {ifs : List Expr} {pos : Pos} {g : TG} {tt : TT} {te : TE} (hc : X.calm = true) (S : CompS X scope xs fr) (hjs : js.map (fun j => X.N[j]?) = fr.map some)
    (hg : ∀ C ex s₀ H₀, PG (cxC X scope xs fr C ex s₀ H₀) tg g) (hk : GKeep xs.length g) (hi : ∀ C ex s₀ H₀, PIf (cxC X scope xs fr C ex s₀ H₀) ifs tt) (he : ∀ C ex s₀ H₀, PE (cxC X scope xs fr C ex s₀ H₀) elt te)
    {s2 : Shared} {H1 : Hp} {R : Value → Addr → Result → Shared → Prop} {Q : VK} {it : Addr} {tn : Nat → Heap → Prop} {J : It} (I : Inv X pins σ H1 s2) (T : Turn X.prog X.w X.K tg J fp it tn) (st : tn 0 s2.heap) (hfp : ∀ b ∈ fp, FpOk X pins H1 b)
    (hq : ∀ p, H1 p = none → ∃ W : Nat → Nat → Hp → Prop, (∃ m, W 0 m (upd H1 p (.lst []))) ∧ ∀ i m H, W i m H →
      (J.stop i H ∧ Q (.ref p) H) ∨ (J.go i H ∧ ∃ N : Hp → Prop, (∀ H', N H' → ∃ m', m' < m ∧ W (i + 1) m' H') ∧
        ∀ x H', J.yld i H x H' → g x (List.replicate xs.length none ++ pick σ js) H' fun σ2 H2 => tt σ2 H2 fun b H3 =>
          if b = true then te σ2 H3 fun y H4 => ∃ acc, H4 p = some (.lst acc) ∧ acc.length < sizeLine ∧ N (upd H4 p (.lst (acc ++ [y]))) else N H3))
    (hR : ∀ (p C : Addr) (s' : Shared) (H' : Hp), (∃ m, s'.heap.Ns C m) → FpOk X pins H' C → Inv X pins σ H' s' → Q (.ref p) H' → R (.ref p) C (.ok .next) s') :
    wpAny (model X.prog X.w) X.A (newList []) (fun acc s₃ => wpAny (model X.prog X.w) X.A (newFunctionEnv scope X.env.globals (clOf X.env scope.names []) [] X.env.qual none .none (some X.env)) (fun cenv s₄ =>
      codeAny (model X.prog X.w) X.A (.compStart (.ListComp elt [⟨tg, iter, ifs, 0⟩] scope pos) 0 (.ref it) acc { cenv with scope := relabel scope X.env }) (R acc cenv.locals) s₄) X.xe s₃) X.xe s2 := by
  refine wpAny_newObj_type ?_ (by show 0 ≤ sizeLine; exact Nat.zero_le _)
  have hn0 : H1 s2.heap.objs.size = none := I.hok.fresh (Nat.le_refl _)
  have I3 : Inv X pins σ (upd H1 s2.heap.objs.size (.lst [])) { s2 with heap := s2.heap.push { cls := .type "list", data := .seq ([] : List Value).toArray } } := I.laid (t' := s2.toks) (fun b u e => Heap.get?_push_of_some _ e) (Nat.le_refl _) ⟨Nat.zero_le _, [], 0, .nil, Heap.get?_push_size _ rfl⟩
  obtain ⟨W, ⟨m0, w0⟩, turn⟩ := hq _ hn0
  have hob : ∀ b ∈ fp, ∃ o, s2.heap.get? b = some o := fun b hb => let ⟨o, e, _⟩ := T.obj _ _ st b hb; ⟨o, e⟩
  have hfp3 : ∀ b ∈ fp, FpOk X pins (upd H1 s2.heap.objs.size (.lst [])) b := fun b hb => by
    obtain ⟨f0, f⟩ := hfp b hb
    obtain ⟨o, e⟩ := hob b hb
    exact ⟨by rw [upd_ne (Nat.ne_of_lt (Heap.lt_size e))]; exact f0, f⟩
  have hob3 : ∀ b ∈ fp, ∃ o, (s2.heap.push { cls := .type "list", data := .seq ([] : List Value).toArray }).get? b = some o := fun b hb => let ⟨o, e⟩ := hob b hb; ⟨o, Heap.get?_push_of_some _ e⟩
  have st3 : tn 0 (s2.heap.push { cls := .type "list", data := .seq ([] : List Value).toArray }) := T.keep _ _ _ st fun b _ o e => Heap.get?_push_of_some _ e
  generalize hs3 : ({ s2 with heap := s2.heap.push { cls := .type "list", data := .seq ([] : List Value).toArray } } : Shared) = s3 at I3 ⊢
  have st3' : tn 0 s3.heap := by rw [← hs3]; exact st3
  have hob3' : ∀ b ∈ fp, ∃ o, s3.heap.get? b = some o := by rw [← hs3]; exact hob3
  generalize hH3 : upd H1 s2.heap.objs.size (.lst []) = H3 at I3 hfp3 w0
  generalize hp0 : s2.heap.objs.size = p0 at turn ⊢
  refine new_block fun h₁ hns₁ hkp₁ hco₁ => ?_
  have I4 := block_in (t' := s3.toks) S hjs I3 hfp3 hob3' hns₁ hkp₁ hco₁
  have st4 : tn 0 h₁ := T.keep _ _ _ st3' fun b hb o e => hkp₁ b o e
  have loop : ∀ s₄ : Shared, Inv (cxC X scope xs fr s3.heap.objs.size fp s3 H3) [] (List.replicate xs.length none ++ pick σ js) H3 s₄ → tn 0 s₄.heap →
      codeAny (model X.prog X.w) X.A (.compLoop (.ListComp elt [⟨tg, iter, ifs, 0⟩] scope pos) 0 (.ref it) (.ref p0) (compEnvC scope (cellsFrom (s3.heap.objs.size + 1) scope.names (clOf X.env scope.names [])) s3.heap.objs.size X.env)) (R (.ref p0) s3.heap.objs.size) s₄ := by
    intro s₄ I4 st4
    have stat : ∀ {H' : Hp}, (∀ b ∈ fp, H' b = none) → ∀ b ∈ fp, FpOk (cxC X scope xs fr s3.heap.objs.size fp s3 H3) [] H' b := fun {H'} hn b hb => by
      obtain ⟨f0, f1, f2, f3, f4, f5⟩ := hfp3 b hb
      obtain ⟨o, e⟩ := hob3' b hb
      refine ⟨hn b hb, Nat.ne_of_lt (Heap.lt_size e), I4.ok.exfs b hb, .inl hb, fun x c h => (I4.ok.exf b hb).2 x c h, fun p hp => absurd (show p ∈ ([] : List (Addr × Obj)) from hp) (by simp)⟩
    refine comp_loop (fun n s' => ∃ i H', Inv (cxC X scope xs fr s3.heap.objs.size fp s3 H3) [] (List.replicate xs.length none ++ pick σ js) H' s' ∧ tn i s'.heap ∧ (∀ b ∈ fp, H' b = none) ∧ W i n H') ?_ m0 ⟨0, H3, I4, st4, fun b hb => (hfp3 b hb).1, w0⟩
    rintro n s5 ⟨i, H5, I5, st5, fr5, w5⟩
    rcases turn i n H5 w5 with ⟨stop, qn⟩ | ⟨go, N, hN, step⟩
    · refine thn (T.done (cxC X scope xs fr s3.heap.objs.size fp s3 H3) rfl rfl rfl hc i [] s5 _ H5 (fun _ _ => False) I5 (stat fr5) st5 stop) fun r s6 ⟨hr, I6⟩ => ?_
      subst hr
      obtain ⟨m6, n6, _⟩ := id I6.loc
      exact hR p0 s3.heap.objs.size s6 H5 ⟨m6, n6⟩ (I3.fpOk (Nat.le_refl _) I6.free) (block_out I3 hfp3 I6 (Heap.SameBut.refl ..)) qn
    · refine thn (T.item (cxC X scope xs fr s3.heap.objs.size fp s3 H3) rfl rfl rfl hc i [] s5 _ H5 (fun _ _ => False) I5 (stat fr5) st5 go) fun r s6 ⟨u, hr, h6⟩ => ?_
      subst hr
      refine thn h6 fun _ s7 ⟨x, H7, I7, r7, y7, st7, fr7⟩ => ?_
      have I7' := I7.pinned (stat fr7) (T.obj _ _ st7)
      refine thn (hg _ _ _ _ _ s7 _ H7 x u _ I7' r7 (hk _ _ _ _ (step x H7 y7))) fun _ s8 ⟨σ8, H8, I8, kp8, q8⟩ => ?_
      have again : ∀ {s9 : Shared} {H9 : Hp}, Inv (cxC X scope xs fr s3.heap.objs.size fp s3 H3) ([] ++ pinsAt fp s7.heap) σ8 H9 s9 → N H9 →
          ∃ m, m < n ∧ ∃ i H', Inv (cxC X scope xs fr s3.heap.objs.size fp s3 H3) [] (List.replicate xs.length none ++ pick σ js) H' s9 ∧ tn i s9.heap ∧ (∀ b ∈ fp, H' b = none) ∧ W i m H' := fun {s9 H9} I9 n9 => by
        obtain ⟨m', hm, w9⟩ := hN H9 n9
        refine ⟨m', hm, i + 1, H9, I9.unpinned.weak ?_ ?_, T.keep _ _ _ st7 fun b hb o e => (I9.pin (b, o) (List.mem_append_right _ (List.mem_append_right _ (mem_pinsAt hb e)))).1, fun b hb => ?_, w9⟩
        · rw [I9.len, I5.len]
        · intro k v hkv
          by_cases hx : k < xs.length
          · rw [List.getElem?_append_left (by rw [List.length_replicate]; exact hx), List.getElem?_replicate, if_pos hx] at hkv
            cases hkv
          · rw [kp8 k (Nat.le_of_not_lt hx)]
            exact hkv
        · obtain ⟨o, e, d⟩ := T.obj _ _ st7 b hb
          exact (I9.pin (b, o) (List.mem_append_right _ (List.mem_append_right _ (mem_pinsAt hb e)))).2.1
      refine wpAny_mono (hi _ _ _ _ _ s8 σ8 H8 _ (fun _ _ => False) (fun _ _ z => z) I8 q8) (fun ok s9 ⟨H9, I9, q9⟩ => ?_) fun _ _ z => z
      cases ok with
      | false =>
        rw [if_neg Bool.false_ne_true]
        rw [if_neg Bool.false_ne_true] at q9
        exact again I9 q9
      | true =>
        rw [if_pos rfl]
        rw [if_pos rfl] at q9
        refine thn (he _ _ _ _ _ s9 σ8 H9 _ I9 q9) fun uy s10 ⟨y, H10, I10, r10, acc, hacc, hz, n10⟩ => ?_
        refine thn (mt_append _ s10 σ8 H10 (.ref p0) [y] (.ref p0) [uy] (fun _ H11 => N H11) I10 rfl (.cons r10 .nil) ⟨p0, acc, y, rfl, rfl, hacc, hz, n10⟩) fun _ s11 ⟨_, H11, I11, _, n11⟩ => ?_
        exact again I11 n11
  exact codeAny_compStart_list (loop _ I4 st4) (T.self _ _ _ _ _ st4 (loop _ I4 st4))
theorem Inv.letgo {C : Addr} {h'' : Heap} (I : Inv X pins σ H s) (f : FpOk X pins H C) (hs : Heap.SameBut C s.heap h'') : Inv X pins σ H { s with heap := h'' } := by
  obtain ⟨f0, f1, f2, f3, f4, f5⟩ := f
  exact I.turned (t' := s.toks) (fun b o hb e => (hs.2 b hb).trans e) f0 f1 f3 f4 f5
theorem pe_comp {tg elt iter : Expr} {ifs : List Expr} {pos : Pos} {wi : TI} {g : TG} {tt : TT} {te : TE} (xs fr : List Str) (js : List Nat) (hc : X.calm = true) (hS : compOk X.env.scope scope xs fr = true) (hjs : js.map (fun j => X.N[j]?) = fr.map some) (hw : PI X tg iter wi)
    (hg : ∀ C ex s₀ H₀, PG (cxC X scope xs fr C ex s₀ H₀) tg g) (hk : GKeep xs.length g) (hi : ∀ C ex s₀ H₀, PIf (cxC X scope xs fr C ex s₀ H₀) ifs tt) (he : ∀ C ex s₀ H₀, PE (cxC X scope xs fr C ex s₀ H₀) elt te)
    (hs : ∀ x, foldedSetIterable iter X.env x = pure x := by intro _; with_unfolding_all rfl) :
    PE X (.ListComp elt [⟨tg, iter, ifs, 0⟩] scope pos) (tComp xs.length js wi g tt te) := by
  intro pins s σ H Q I h
  have S := compS_of hS
  rw [eval_ListComp]
  refine wpAny_comprehension_free (use := none) rfl hs (closure_is (S.cells I.ok)) S.kind S.names ?_
  refine thn (hw pins s σ H _ I h) fun v s1 h1 => thn h1 fun itv s2 h2 => ?_
  obtain ⟨it, fp, tn, J, H2, e, I2, T, st2, f2, q2⟩ := h2
  subst e
  refine comp_run (Q := Q) (R := fun acc C => compPost (model X.prog X.w) X.A X.xe none (EP X pins σ Q) acc C) hc S hjs hg hk hi he I2 T st2 f2 q2 ?_
  intro p C s' H' ⟨m, hn⟩ fC hI q
  exact ⟨m, hn, fun h'' hs'' => ⟨.ref p, H', hI.letgo fC hs'', rfl, q⟩⟩
theorem ps_setcomp {tg elt iter : Expr} {ifs : List Expr} {pos spos py : Pos} {wi : TI} {g : TG} {tt : TT} {te : TE} {i : Nat} {y : Str} (xs fr : List Str) (js : List Nat) (hc : X.calm = true) (hS : compOk X.env.scope scope xs fr = true) (hjs : js.map (fun j => X.N[j]?) = fr.map some)
    (hN : X.N.Nodup) (hi' : X.N[i]? = some y) (hy : X.env.scope.names.lookup y = some .local) (hw : PI X tg iter wi)
    (hg : ∀ C ex s₀ H₀, PG (cxC X scope xs fr C ex s₀ H₀) tg g) (hk : GKeep xs.length g) (hi : ∀ C ex s₀ H₀, PIf (cxC X scope xs fr C ex s₀ H₀) ifs tt) (he : ∀ C ex s₀ H₀, PE (cxC X scope xs fr C ex s₀ H₀) elt te)
    (hsw : swapsWith (.ListComp elt [⟨tg, iter, ifs, 0⟩] scope pos) (some (.Name y py)) spos.line X.env = pure true := by with_unfolding_all rfl)
    (hs : ∀ x, foldedSetIterable iter X.env x = pure x := by intro _; with_unfolding_all rfl) :
    PS X (.Assign [.Name y py] (.ListComp elt [⟨tg, iter, ifs, 0⟩] scope pos) spos) (tAsg (tComp xs.length js wi g tt te) (gName i)) := by
  intro pins s σ H D I h
  have S := compS_of hS
  rw [exec_Assign_Name_used _ _ _ _ hsw]
  refine wpAny_bind (wpAny_standAt (wpAny_bind ?_))
  show wpAny _ X.A (do let _ ← comprehension (.ListComp elt [⟨tg, iter, ifs, 0⟩] scope pos) scope X.env _ (newList []) false (eval iter X.env) (some (assign (.Name y py) X.env))) _ _ s
  refine wpAny_bind (wpAny_mono (wpAny_comprehension_free (use := some (assign (.Name y py) X.env)) (Q := fun _ s' => SP X pins D .next s') rfl hs (closure_is (S.cells I.ok)) S.kind S.names ?_) (fun _ s' hq => wpAny_pure (wpAny_pure hq)) fun _ _ e => e)
  refine thn (hw pins s σ H _ I h) fun v s1 h1 => thn h1 fun itv s2 h2 => ?_
  obtain ⟨it, fp, tn, J, H2, e, I2, T, st2, f2, q2⟩ := h2
  subst e
  refine comp_run (Q := fun x H1 => gName i x σ H1 D.nx) (R := fun acc C => compPost (model X.prog X.w) X.A X.xe (some (assign (.Name y py) X.env)) (fun _ s' => SP X pins D .next s') acc C) hc S hjs hg hk hi he I2 T st2 f2 q2 ?_
  intro p C s' H' ⟨m, hn⟩ fC I' q
  show wpAny _ X.A (assign (.Name y py) X.env (.ref p)) _ _ s'
  refine wpAny_assign_Name (store_ok2 I' hN hi' (.inl hy) (show RelV (.ref p) (.ref p) from rfl) (fun s'' I'' ⟨a, hs1, ha⟩ => ?_) (.inr hy))
  have hne : C ≠ a := by
    rcases ha with ha | ha
    · rw [ha]; exact fC.2.1
    · exact (fC.2.2.2.2.1 y a ha).symm
  exact ⟨m, hn.sameBut hs1 hne, fun h'' hs'' => ⟨_, H', I''.letgo fC hs'', q⟩⟩
end
end L2
set_option Elab.async false
set_option linter.all false
set_option maxRecDepth 100000
set_option maxHeartbeats 4000000
namespace L2
open PySem PySem.Spec PyProof.Rows
noncomputable def Its (x : Str) : It := ⟨fun i _ => i < x.cps.size, fun i H v H' => H' = H ∧ ∃ c, x.cps[i]? = some c ∧ v = .str ⟨#[c]⟩, fun i _ => x.cps.size ≤ i⟩
section
variable {X : Cx} {tg : Expr}
theorem turn_of {P : Program} {w : World} {K : PySem.W.Frag} {tg : Expr} {it : Addr} {n : Nat} {PV : Nat → Value → Prop} {val : Nat → V → Prop} {St : Nat → Heap → Prop} (W : ∀ A : Around, A.handled = none → Walks P w A it [it] [it] n PV St)
    (hself : ∀ (A : Around) (i : Nat) (s : Shared) (Q : Value → Shared → Prop) (E : Value → Shared → Prop), St i s.heap → Q (.ref it) s → wpAny (model P w) A (pyIter (.ref it)) Q E s)
    (hv : ∀ i u, PV i u → ∃ v, RelV v u ∧ val i v) (hto : ∀ i h, St i h → ∃ o T vs, h.get? it = some o ∧ o.cls = .type T ∧ o.data = .fields vs ∧ ["enumerate", "zip", "dict_itemiterator", "dict_reverseitemiterator", "odict_iterator", "itertools.zip_longest", "itertools.pairwise"].contains T = false) :
    Turn P w K tg ⟨fun i _ => i < n, fun i H v H' => H' = H ∧ val i v, fun i _ => n ≤ i⟩ [it] it (fun i h => St i h ∧ i ≤ n) where
  mem := by simp
  obj := fun i h st b hb => by
    have e : b = it := by simpa using hb
    subst e
    obtain ⟨o, T, vs, e1, e2, e3, e4⟩ := hto i h st.1
    exact ⟨o, e1, fun v z => by rw [e3] at z; cases z⟩
  keep := fun i h h' st k => ⟨(W { handled := none } rfl).frame i h h' st.1 k, st.2⟩
  item := by
    intro X hP hw hK hc i pins s σ H E I hf st hg
    subst hP hw hK
    obtain ⟨f0, f1, f2, f3, f4, f5⟩ := hf it (by simp)
    refine (W X.A (I.ok.hd hc)).item i s _ _ hg st.1 fun u h' tk hp st' kk => ?_
    obtain ⟨v, rv, vv⟩ := hv i u hp
    have I1 : Inv X pins σ H { s with heap := h', toks := tk } := I.turned (fun b o hb e => kk b o (by simpa using hb) e) f0 f1 f3 f4 f5
    obtain ⟨o, T, vs, e1, e2, e3, e4⟩ := hto _ _ st'
    exact ⟨u, rfl, go_of (s := { s with heap := h', toks := tk }) e1 e2 e3 e4 ⟨v, H, I1, rv, ⟨rfl, vv⟩, ⟨st', hg⟩, fun b hb => (hf b hb).1⟩⟩
  done := by
    intro X hP hw hK hc i pins s σ H E I hf st hg
    subst hP hw hK
    obtain ⟨f0, f1, f2, f3, f4, f5⟩ := hf it (by simp)
    have e : i = n := Nat.le_antisymm st.2 hg
    subst e
    exact (W X.A (I.ok.hd hc)).done s _ _ st.1 fun h' tk kk => ⟨rfl, I.turned (fun b o hb e => kk b o (by simpa using hb) e) f0 f1 f3 f4 f5⟩
  self := fun A i s Q E st h => hself A i s Q E st.1 h
theorem it_str {pins : List (Addr × Obj)} {σ : St} {H1 : Hp} {s1 : Shared} {R : It → Hp → Prop} {E : Value → Shared → Prop} {z : Str} {v : Value} (I1 : Inv X pins σ H1 s1) (r1 : RelV (.str z) v) (q : R (Its z) H1) : wpAny (model X.prog X.w) X.A (pyIter v) (PIE X pins σ tg R) E s1 := by
  obtain ⟨t, rfl⟩ := r1
  have sv : ∀ i u, SignAt z i u → ∃ v, RelV v u ∧ ∃ c, z.cps[i]? = some c ∧ v = .str ⟨#[c]⟩ := fun i u ⟨c, tu, hc, hu⟩ => ⟨.str ⟨#[c]⟩, ⟨tu, hu⟩, c, hc, rfl⟩
  have fin : ∀ (o : Obj) (St : Nat → Heap → Prop) (n : Nat), St 0 (s1.heap.push o) → Turn X.prog X.w X.K tg (Its z) [s1.heap.objs.size] s1.heap.objs.size (fun i h => St i h ∧ i ≤ z.cps.size) → PIE X pins σ tg R (.ref s1.heap.objs.size) { s1 with heap := s1.heap.push o } := fun o St n h0 T => by
    refine ⟨s1.heap.objs.size, [s1.heap.objs.size], _, _, H1, rfl, I1.kept (t' := s1.toks) fun b ob e => Heap.get?_push_of_some _ e, T, ⟨h0, Nat.zero_le _⟩, fun b hb => ?_, q⟩
    have e : b = s1.heap.objs.size := by simpa using hb
    subst e
    exact I1.fpOk (Nat.le_refl _) (I1.hok.fresh (Nat.le_refl _))
  cases ha : z.cps.all (· < 128)
  · exact wpAny_pyIter_wide ha (fin _ _ 0 ⟨_, Heap.get?_push_size _ rfl, rfl, rfl⟩ (turn_of (fun A hA => Walks.strWide hA _ z t) (fun _ _ _ _ _ st hq => wpAny_pyIter_striter_wide st hq) sv fun i h ⟨o, ho, hc, hd⟩ => ⟨o, _, _, ho, hc, hd, by decide⟩))
  · exact wpAny_pyIter_ascii ha (fin _ _ 0 ⟨_, Heap.get?_push_size _ rfl, rfl, rfl⟩ (turn_of (fun A hA => Walks.strAscii hA _ z t) (fun _ _ _ _ _ st hq => wpAny_pyIter_striter_ascii st hq) sv fun i h ⟨o, ho, hc, hd⟩ => ⟨o, _, _, ho, hc, hd, by decide⟩))
end
section
variable {X : Cx}
noncomputable def rSlS : V → Option Int → Option Int → Hp → VK → Prop := fun x lo hi H Q => ∃ z, x = .str z ∧ z.length ≤ sizeLine ∧ Q (.str (Txt.slice z lo hi)) H
theorem sl_str : SlR X rSlS := by
  intro pins s σ H x v vl vu lo hi sl Q I rx hs pl pu h
  obtain ⟨z, rfl, hz, q⟩ := h
  obtain ⟨t, rfl⟩ := rx
  have fin : ∀ t' k, EP X pins σ Q (.str (Txt.slice z lo hi) t') { s with toks := k } := fun t' k => ⟨.str _, H, I.tok _, ⟨_, rfl⟩, q⟩
  have sz := Nat.le_trans (Txt.slice_le z lo hi) hz
  refine ⟨"str", _, F.slot_str_getitem.lookup, typeIs_str _ _ _, ?_⟩
  cases pl with
  | none =>
    cases pu with
    | none => exact wpAny_getItem_str_slice (l := none) (u := none) (st := none) hs rfl (post_val_or_str ⟨sz, fin⟩)
    | int j uj => exact wpAny_getItem_str_slice (l := none) (u := some (j, uj)) (st := none) hs rfl (post_val_or_str ⟨sz, fin⟩)
  | int i ui =>
    cases pu with
    | none => exact wpAny_getItem_str_slice (l := some (i, ui)) (u := none) (st := none) hs rfl (post_val_or_str ⟨sz, fin⟩)
    | int j uj => exact wpAny_getItem_str_slice (l := some (i, ui)) (u := some (j, uj)) (st := none) hs rfl (post_val_or_str ⟨sz, fin⟩)
theorem strs_of : ∀ {ys : List Str} {us : List Value}, Vals (ys.map V.str) us → StrsAre us ys
  | [], _, .nil => .nil
  | y :: ys, _, .cons r t => by
    obtain ⟨tk, rfl⟩ := r
    exact .cons y tk (strs_of t)
noncomputable def rFind : V → List V → Hp → VK → Prop := fun x vs H Q => ∃ z y, x = .str z ∧ vs = [.str y] ∧ Q (.int (Txt.find z y)) H
theorem call_reprS : CallR X (.builtin "repr") (fun xs H Q => (∃ b, xs = [.bl b] ∧ Q (.str (if b then "True" else "False")) H) ∨ (xs = [.non] ∧ Q (.str "None") H)) := by
  intro pins s σ H xs us Q I r h
  rcases h with ⟨b, rfl, q⟩ | ⟨rfl, q⟩
  · obtain ⟨u, rfl, ru⟩ := vals1 r
    cases ru
    exact PySem.P.repr_of_bool ⟨.str _, H, I.tok _, ⟨_, rfl⟩, q⟩
  · obtain ⟨u, rfl, ru⟩ := vals1 r
    cases ru
    exact PySem.P.repr_of_none ⟨.str _, H, I.tok _, ⟨_, rfl⟩, q⟩
theorem call_isinst : CallR X (.builtin "isinstance") (fun xs H Q => ∃ x c t b, xs = [x, .ty c] ∧ TyOf X.K H x t ∧ PySem.W.kitOne X.K t (.type c) = some b ∧ Q (.bl b) H) := by
  intro pins s σ H xs us Q I r h
  obtain ⟨x, c, t, b, rfl, ty, e, q⟩ := h
  obtain ⟨u, w', rfl, r1, r2⟩ := vals2 r
  cases r2
  exact isinst_ok I r1 ty e fun tk => ⟨.bl _, H, I.tok _, rfl, q⟩
theorem call_isinstR : CallR X (.builtin "isinstance") (fun xs H Q => ∃ x c t b, xs = [x, .ref c] ∧ TyOf X.K H x t ∧ PySem.W.kitOne X.K t (.ref c) = some b ∧ Q (.bl b) H) := by
  intro pins s σ H xs us Q I r h
  obtain ⟨x, c, t, b, rfl, ty, e, q⟩ := h
  obtain ⟨u, w', rfl, r1, r2⟩ := vals2 r
  cases r2
  exact isinst_ok I r1 ty e fun tk => ⟨.bl _, H, I.tok _, rfl, q⟩
theorem call_isinstQ : CallR X (.builtin "isinstance") (fun xs H Q => ∃ a ys c b, xs = [V.ref a, .ty c] ∧ ((SqT X.K H a ys ∧ PySem.W.kitOne X.K (.type "tuple") (.type c) = some b) ∨ (SqL X.K H a ys ∧ PySem.W.kitOne X.K (.type "list") (.type c) = some b)) ∧ Q (.bl b) H) := by
  intro pins s σ H xs us Q I r h
  obtain ⟨a, ys, c, b, rfl, ty, q⟩ := h
  obtain ⟨u, w', rfl, r1, r2⟩ := vals2 r
  cases r2
  cases r1
  rcases ty with ⟨ty, e⟩ | ⟨ty, e⟩
  · obtain ⟨its, _, p, _⟩ := I.tuple ty
    obtain ⟨o, h1, h2, _⟩ := p
    exact PySem.W.kia_one PySem.W.kitx_tuple I.kIn ⟨o, h1, h2⟩ e (fun z => nomatch z) fun tk => ⟨.bl _, H, I.tok _, rfl, q⟩
  · obtain ⟨its, _, p, _⟩ := I.list ty
    obtain ⟨o, h1, h2, _⟩ := p.isList
    exact PySem.W.kia_one PySem.W.kitx_list I.kIn ⟨o, h1, h2⟩ e (fun z => nomatch z) fun tk => ⟨.bl _, H, I.tok _, rfl, q⟩
end
section
variable {X : Cx} {x : Str} {pos : Pos}
end
section
variable {X : Cx} {K : PySem.W.Frag}
noncomputable def rCat0 (K : PySem.W.Frag) : R2 := fun x y H Q => ∃ a b ys, x = .ref a ∧ y = .ref b ∧ SqT K H a [] ∧ SqT K H b ys ∧ Q (.ref b) H
theorem op_cat0 : OpR X (binaryOp .Add) (rCat0 X.K) := by
  intro pins s σ H x y v u Q I rx ry h
  obtain ⟨a, b, ys, rfl, rfl, ha, hb, q⟩ := h
  cases rx
  cases ry
  obtain ⟨its, r1, p1, _⟩ := I.tuple ha
  obtain ⟨its2, r2, p2, _⟩ := I.tuple hb
  cases r1
  obtain ⟨⟨cls, dd, data, sl⟩, ho, hc, n, hd⟩ := id p1
  obtain ⟨⟨cls2, dd2, data2, sl2⟩, ho2, hc2, n2, hd2⟩ := id p2
  simp only at hc hd hc2 hd2
  subst hc hd hc2 hd2
  exact concat_meets ⟨_, ho, rfl⟩ ⟨_, ho2, rfl⟩ noFill_tuple_add seq_tuple_add PySem.F.slot_tuple_add PySem.F.entry_tuple_add (PySem.F.args_tuple_add_2 _ _) (tuple_addW0 a b _ _ n n2 dd dd2 sl sl2 (by simp)) ⟨ho, ho2, ⟨.ref b, H, I, rfl, q⟩⟩
noncomputable def rSlW (K : PySem.W.Frag) : V → Option Int → Option Int → Hp → VK → Prop := fun x lo hi H Q => ∃ a xs, x = .ref a ∧ SqT K H a xs ∧ (HT.sIx xs.length 0 lo = 0 ∧ HT.sIx xs.length xs.length hi = xs.length) ∧ Q (.ref a) H
theorem sl_whole : SlR X (rSlW X.K) := by
  intro pins s σ H x v vl vu lo hi sl Q I rx hs pl pu h
  obtain ⟨a, xs, rfl, hx, hw, q⟩ := h
  cases rx
  obtain ⟨its, r, ht, hz⟩ := I.tuple hx
  have hlen : its.toArray.size = xs.length := by rw [List.size_toArray]; exact r.length.symm
  refine ⟨"tuple", _, PyProof.Rows.slot_tuple_getitem.lookup, ht.typeIs, ?_⟩
  obtain ⟨os, hos, hcs, hds⟩ := id hs
  have hTs : s.TypeIs (.ref sl) "slice" := ⟨os, hos, hcs⟩
  unfold getItem
  try with_reducible refine wpAny_holding ?_
  first | refine wpAny_bind (wpAny_pure ?_) | skip
  refine wpAny_bind (wpAny_sequenceKey ht.typeIs (by decide) ?_)
  refine wpAny_bind (wpAny_callSpecial?_slot (name := Str.ofString "__getitem__") ht.typeIs PyProof.Rows.slot_tuple_getitem (wpAny_call_entry PyProof.Rows.slot_tuple_getitem ht.typeIs entry_tuple_getitem ?_ (args_tuple_getitem _ _)))
  refine wpAny_bind (m := Builtin.Tuple.tupleItemsOf (.ref a)) (tupleItemsOf_ ht ?_)
  refine wpAny_bind (wpAny_typeOf hTs ?_)
  rw [if_pos (by decide)]
  refine wpAny_bind (HT.sliceApplied_gen hs pl pu ?_)
  have yes : (((HT.sIx its.toArray.size 0 lo : Nat) : Int) == 0 && (1 : Int) == 1 && (HT.sIx its.toArray.size its.toArray.size hi - HT.sIx its.toArray.size 0 lo) == its.toArray.size) = true := by
    rw [hlen, hw.1, hw.2]
    simp
  show wpAny _ _ (if (((HT.sIx its.toArray.size 0 lo : Nat) : Int) == 0 && (1 : Int) == 1 && (HT.sIx its.toArray.size its.toArray.size hi - HT.sIx its.toArray.size 0 lo) == its.toArray.size) = true then _ else _) _ _ s
  rw [if_pos yes]
  have fin : ∀ s', s' = s → EP X pins σ Q (.ref a) s' := fun s' e => by subst e; exact ⟨.ref a, H, I, rfl, q⟩
  unfold Builtin.Tuple.tupleIsExact
  obtain ⟨hp, g, d, tk, os⟩ := s
  have hT := ht.typeIs
  repeat (any_goals (first | assumption | wp_step))
  exact ⟨_, rfl, wpAny_pure (fin _ rfl)⟩
end
theorem Inv.freeze {X : Cx} {pins : List (Addr × Obj)} {σ : St} {H : Hp} {s : Shared} {d : Addr} {kvs : List (Key × V)} {o : Obj} (I : Inv X pins σ H s) (hd : H d = some (.dK kvs)) (ho : s.heap.get? d = some o) : Inv X pins σ (upd H d (.frz o (.dK kvs))) s := by
  have nn : ∀ b, H b = none → upd H d (.frz o (.dK kvs)) b = none := fun b h => by rw [upd_ne (Ne.symm (ne_of_none hd h))]; exact h
  have other : ∀ b u, H b = some u → u ≠ .dK kvs → upd H d (.frz o (.dK kvs)) b = some u := fun b u h q => by rw [upd_ne (ne_of h hd q)]; exact h
  refine ⟨I.ok, I.os, I.bare, ⟨I.base.keep, I.base.slot, fun b ob q n hx => nn b (I.base.free b ob q n hx), I.base.there, fun b xs q => other b _ (I.base.tups b xs q) (by intro z; cases z), fun b ob u q => other b _ (I.base.frzs b ob u q) (by intro z; cases z), fun b ps q => ?_⟩, I.loc, I.cell, nn _ I.free, fun x c q => nn _ (I.freeC x c q), fun p hp => ?_, fun b u q => ?_, I.len⟩
  · obtain ⟨more, h⟩ := I.base.tbls b ps q
    exact ⟨more, other b _ h (by intro z; cases z)⟩
  · obtain ⟨a1, a2, a3⟩ := I.pin p hp
    exact ⟨a1, nn _ a2, a3⟩
  · by_cases e : b = d
    · subst e
      rw [upd_same] at q
      cases q
      exact ⟨ho, (I.hok b _ hd).stay (fun c v hc z => z) (fun c z => other c _ z (by intro w; cases w)) fun c xs z => other c _ z (by intro w; cases w)⟩
    · rw [upd_ne e] at q
      exact (I.hok b u q).stay (fun c v hc z => z) (fun c z => other c _ z (by intro w; cases w)) fun c xs z => other c _ z (by intro w; cases w)
noncomputable def Itd (a : Addr) (o : Obj) (kvs : List (Key × V)) : It :=
  ⟨fun i H => H a = some (.frz o (.dK kvs)) ∧ i < kvs.length, fun i H x H' => H' = H ∧ ∃ kv, kvs[i]? = some kv ∧ x = kV kv.1, fun i H => H a = some (.frz o (.dK kvs)) ∧ kvs.length ≤ i⟩
theorem key_rel {k : Key} {u : Value} (h : keyIs k u = true) : RelV (kV k) u := by
  rcases keyIs_shape h with ⟨i, t, rfl, rfl⟩ | ⟨x, t, rfl, rfl⟩
  · exact ⟨t, rfl⟩
  · exact ⟨t, rfl⟩
theorem dict_at {X : Cx} {pins : List (Addr × Obj)} {σ : St} {H : Hp} {s : Shared} {a : Addr} {kvs : List (Key × V)} {o : Obj} {es : Array DictEntry} {ep : Nat} (I : Inv X pins σ H s) (h : H a = some (.frz o (.dK kvs))) (ho : o.data = .dict es ep) : ∃ vs, KV kvs vs ∧ s.heap.DictAt (mixKind X.prog X.w) a vs ep := by
  obtain ⟨h1, _, _, vs, r, o', es', ep', h2, c, hd, rest⟩ := I.hok a _ h
  rw [h1] at h2
  cases h2
  rw [ho] at hd
  cases hd
  exact ⟨vs, r, o, es, h1, c, ho, rest⟩
theorem KV.get : ∀ {kvs : List (Key × V)} {vs : List (Key × Value)} {i : Nat} {kv : Key × V}, KV kvs vs → kvs[i]? = some kv → ∃ u, vs[i]? = some (kv.1, u) ∧ RelV kv.2 u
  | _, _, _, _, .nil, e => by simp at e
  | _, _, 0, kv, .cons r _, e => by
    simp at e
    subst e
    exact ⟨_, congrArg some (Prod.ext r.1.symm rfl), r.2⟩
  | _, _, i + 1, kv, .cons _ t, e => by
    obtain ⟨u, h1, h2⟩ := KV.get (i := i) t (by simpa using e)
    exact ⟨u, by simpa using h1, h2⟩
theorem turn_dict {P : Program} {w : World} {K : PySem.W.Frag} {tg : Expr} (a it : Addr) (o : Obj) (kvs : List (Key × V)) (es : Array DictEntry) (ep : Nat) (hd : o.data = .dict es ep) : Turn P w K tg (Itd a o kvs) [it] it (fun i h => h.IsKeyIter it a i kvs.length ep) where
  mem := by simp
  obj := fun i h st b hb => by
    have e : b = it := by simpa using hb
    subst e
    obtain ⟨o, e, c, d⟩ := st
    exact ⟨o, e, fun v z => by rw [d] at z; cases z⟩
  keep := fun i h h' st k => st.at fun o e => k it (by simp) o e
  item := by
    intro X hP hw hK hc i pins s σ H E I hf st hg
    subst hP hw hK
    obtain ⟨hH, hi⟩ := hg
    obtain ⟨vs, rv, hat⟩ := dict_at I hH hd
    have hl : kvs.length = vs.length := Paired.length rv
    obtain ⟨kv, hkv⟩ : ∃ kv, kvs[i]? = some kv := ⟨kvs[i], List.getElem?_eq_getElem hi⟩
    obtain ⟨u, hu, _⟩ := KV.get rv hkv
    obtain ⟨f0, f1, f2, f3, f4, f5⟩ := hf it (by simp)
    rw [hl] at st
    refine wpAny_pyNext_dict_item st hat hu fun key h' hkey hit' hs' => ?_
    have I1 : Inv X pins σ H { s with heap := h' } := I.turned (t' := s.toks) (fun b o hb e => (hs'.2 b hb).trans e) f0 f1 f3 f4 f5
    obtain ⟨o', e, c, d⟩ := id hit'
    exact ⟨key, rfl, go_of (s := { s with heap := h' }) e c d (by decide) ⟨kV kv.1, H, I1, key_rel hkey, ⟨rfl, kv, hkv, rfl⟩, by rw [hl]; exact hit', fun b hb => (hf b hb).1⟩⟩
  done := by
    intro X hP hw hK hc i pins s σ H E I hf st hg
    subst hP hw hK
    obtain ⟨hH, hi⟩ := hg
    obtain ⟨vs, rv, hat⟩ := dict_at I hH hd
    have hl : kvs.length = vs.length := Paired.length rv
    obtain ⟨f0, f1, f2, f3, f4, f5⟩ := hf it (by simp)
    rw [hl] at st
    exact wpAny_pyNext_dict_end (I.ok.hd hc) st hat (List.getElem?_eq_none (by omega)) fun h' eb => ⟨rfl, I.turned (t' := s.toks) (fun b o hb e => eb b o hb e) f0 f1 f3 f4 f5⟩
  self := fun A i s Q E st hQ => wpAny_pyIter_keyiter st hQ
theorem it_dict {X : Cx} {tg : Expr} {pins : List (Addr × Obj)} {σ : St} {H : Hp} {s : Shared} {a : Addr} {kvs : List (Key × V)} {R : It → Hp → Prop} {E : Value → Shared → Prop} (I : Inv X pins σ H s) (h : H a = some (.dK kvs)) (q : ∀ o, R (Itd a o kvs) (upd H a (.frz o (.dK kvs)))) :
    wpAny (model X.prog X.w) X.A (pyIter (.ref a)) (PIE X pins σ tg R) E s := by
  obtain ⟨_, hs, vs, rv, o, es, ep, ho, c, hd, rest⟩ := I.hok a _ h
  have I1 := I.freeze h ho
  have hl : kvs.length = vs.length := Paired.length rv
  refine wpAny_pyIter_dict (knd := mixKind X.prog X.w) hs ⟨o, es, ho, c, hd, rest⟩ ?_
  rw [← hl]
  refine ⟨s.heap.objs.size, [s.heap.objs.size], _, _, _, rfl, I1.kept (t' := s.toks) fun b o e => Heap.get?_push_of_some _ e, turn_dict a _ o kvs es ep hd, ⟨_, Heap.get?_push_size _ rfl, rfl, rfl⟩, fun b hb => ?_, q o⟩
  have e : b = s.heap.objs.size := by simpa using hb
  subst e
  exact I1.fpOk (Nat.le_refl _) (I1.hok.fresh (Nat.le_refl _))
theorem it_dictF {X : Cx} {tg : Expr} {pins : List (Addr × Obj)} {σ : St} {H : Hp} {s : Shared} {a : Addr} {kvs : List (Key × V)} {o : Obj} {R : It → Hp → Prop} {E : Value → Shared → Prop} (I : Inv X pins σ H s) (h : H a = some (.frz o (.dK kvs))) (q : R (Itd a o kvs) H) :
    wpAny (model X.prog X.w) X.A (pyIter (.ref a)) (PIE X pins σ tg R) E s := by
  obtain ⟨ho', _, hs, vs, rv, o', es, ep, ho, c, hd, rest⟩ := I.hok a _ h
  rw [ho'] at ho
  cases ho
  have hl : kvs.length = vs.length := Paired.length rv
  refine wpAny_pyIter_dict (knd := mixKind X.prog X.w) hs ⟨o, es, ho', c, hd, rest⟩ ?_
  rw [← hl]
  refine ⟨s.heap.objs.size, [s.heap.objs.size], _, _, _, rfl, I.kept (t' := s.toks) fun b o e => Heap.get?_push_of_some _ e, turn_dict a _ o kvs es ep hd, ⟨_, Heap.get?_push_size _ rfl, rfl, rfl⟩, fun b hb => ?_, q⟩
  have e : b = s.heap.objs.size := by simpa using hb
  subst e
  exact I.fpOk (Nat.le_refl _) (I.hok.fresh (Nat.le_refl _))
end L2
set_option Elab.async false
set_option linter.all false
set_option maxRecDepth 100000
set_option maxHeartbeats 4000000
namespace L2
open PySem PySem.Spec PyProof.Rows
theorem Same.seqT {K : PySem.W.Frag} {H H' : Hp} {a : Addr} {xs : List V} (e : Same H H') (h : SqT K H a xs) : SqT K H' a xs := by
  rcases h with (h | ⟨o, h⟩) | h
  · exact .inl (.inl (e _ _ h))
  · exact .inl (.inr ⟨o, e _ _ h⟩)
  · exact .inr h
mutual
def Is (K : PySem.W.Frag) (H : Hp) : PyData → V → Prop
  | .none, v => v = .non
  | .bool b, v => v = .bl b
  | .int i, v => v = .int i
  | .str x, v => v = .str x
  | .list ds, v => ∃ a xs, v = .ref a ∧ SqL K H a xs ∧ IsL K H ds xs
  | .tuple ds, v => ∃ a xs, v = .ref a ∧ SqT K H a xs ∧ IsL K H ds xs
  | .dict _, _ => False
def IsL (K : PySem.W.Frag) (H : Hp) : List PyData → List V → Prop
  | [], vs => vs = []
  | d :: ds, vs => ∃ v r, vs = v :: r ∧ Is K H d v ∧ IsL K H ds r
end
mutual
theorem Is.mono {K : PySem.W.Frag} {H H' : Hp} (e : Same H H') : ∀ (d : PyData) (v : V), Is K H d v → Is K H' d v
  | .none, _, h => by simp only [Is] at h ⊢; exact h
  | .bool _, _, h => by simp only [Is] at h ⊢; exact h
  | .int _, _, h => by simp only [Is] at h ⊢; exact h
  | .str _, _, h => by simp only [Is] at h ⊢; exact h
  | .list ds, v, h => by
    simp only [Is] at h ⊢
    obtain ⟨a, xs, e1, e2, e3⟩ := h
    exact ⟨a, xs, e1, e.seq e2, IsL.mono e ds xs e3⟩
  | .tuple ds, v, h => by
    simp only [Is] at h ⊢
    obtain ⟨a, xs, e1, e2, e3⟩ := h
    exact ⟨a, xs, e1, e.seqT e2, IsL.mono e ds xs e3⟩
  | .dict _, _, h => by simp only [Is] at h
theorem IsL.mono {K : PySem.W.Frag} {H H' : Hp} (e : Same H H') : ∀ (ds : List PyData) (vs : List V), IsL K H ds vs → IsL K H' ds vs
  | [], _, h => by simp only [IsL] at h ⊢; exact h
  | d :: ds, vs, h => by
    simp only [IsL] at h ⊢
    obtain ⟨v, r, e1, e2, e3⟩ := h
    exact ⟨v, r, e1, Is.mono e d v e2, IsL.mono e ds r e3⟩
end
section
variable {X : Cx} {pins : List (Addr × Obj)} {σ : St} {H : Hp} {s : Shared}
mutual
theorem Is.reads (I : Inv X pins σ H s) : ∀ (d : PyData) (v : V) (u : Value), Is X.K H d v → RelV v u → ∃ as, Reads s.heap u d as
  | .none, v, u, i, r => by
    simp only [Is] at i
    subst i
    cases r
    exact ⟨_, .none⟩
  | .bool b, v, u, i, r => by
    simp only [Is] at i
    subst i
    cases r
    exact ⟨_, .bool b⟩
  | .int n, v, u, i, r => by
    simp only [Is] at i
    subst i
    obtain ⟨t, rfl⟩ := r
    exact ⟨_, .int n t⟩
  | .str x, v, u, i, r => by
    simp only [Is] at i
    subst i
    obtain ⟨t, rfl⟩ := r
    exact ⟨_, .str x t⟩
  | .list ds, v, u, i, r => by
    simp only [Is] at i
    obtain ⟨a, xs, rfl, e2, e3⟩ := i
    cases r
    obtain ⟨its, rv, ⟨o, n, e, hc, hd, hs⟩, _⟩ := I.list e2
    obtain ⟨as, ra⟩ := IsL.reads I ds xs its e3 rv
    exact ⟨_, .list e hc hs (by simpa using ra)⟩
  | .tuple ds, v, u, i, r => by
    simp only [Is] at i
    obtain ⟨a, xs, rfl, e2, e3⟩ := i
    cases r
    obtain ⟨its, rv, ⟨o, e, hc, n, hd⟩, _⟩ := I.tuple e2
    obtain ⟨as, ra⟩ := IsL.reads I ds xs its e3 rv
    exact ⟨_, .tuple e hc hd (by simpa using ra)⟩
  | .dict _, _, _, i, _ => by simp only [Is] at i
theorem IsL.reads (I : Inv X pins σ H s) : ∀ (ds : List PyData) (vs : List V) (us : List Value), IsL X.K H ds vs → Vals vs us → ∃ as, ReadsAll s.heap us ds as
  | [], vs, us, i, r => by
    simp only [IsL] at i
    subst i
    cases r
    exact ⟨_, .nil⟩
  | d :: ds, vs, us, i, r => by
    simp only [IsL] at i
    obtain ⟨v, rr, rfl, e2, e3⟩ := i
    cases r with
    | cons r1 r2 =>
      obtain ⟨a1, h1⟩ := Is.reads I d v _ e2 r1
      obtain ⟨a2, h2⟩ := IsL.reads I ds rr _ e3 r2
      exact ⟨_, .cons h1 h2⟩
end
end
theorem is_ints {K : PySem.W.Frag} {H : Hp} : ∀ ns : List Int, IsL K H (ns.map PyData.int) (ns.map V.int)
  | [] => by simp only [List.map_nil, IsL]
  | n :: r => by
    simp only [List.map_cons, IsL]
    exact ⟨_, _, rfl, by simp only [Is], is_ints r⟩
theorem is_strs {K : PySem.W.Frag} {H : Hp} : ∀ ns : List Str, IsL K H (ns.map PyData.str) (ns.map V.str)
  | [] => by simp only [List.map_nil, IsL]
  | n :: r => by
    simp only [List.map_cons, IsL]
    exact ⟨_, _, rfl, by simp only [Is], is_strs r⟩
theorem is_listI {K : PySem.W.Frag} {H : Hp} {a : Addr} {ns : List Int} (h : SqL K H a (ns.map V.int)) : Is K H (.list (ns.map PyData.int)) (.ref a) := by
  simp only [Is]
  exact ⟨a, _, rfl, h, is_ints ns⟩
structure QA (A : Around) : Prop where
  un : A.units + 150 < cLine
  gd : A.guards = some []
theorem qa_of {A : Around} {k : Nat} (hr : Room k A) : QA A := ⟨by have := hr.un; omega, hr.gd⟩
section
variable {X : Cx}
noncomputable def rAddA (K : PySem.W.Frag) : R2 := fun x y H Q => (∃ i j, x = .int i ∧ y = .int j ∧ Q (.int (i + j)) H) ∨ (∃ i j, x = .str i ∧ y = .str j ∧ i.length + j.length ≤ sizeLine ∧ Q (.str (i ++ j)) H) ∨ rCat x y H Q ∨ rCatT K x y H Q ∨ rCat0 K x y H Q
theorem op_addA : OpR X (binaryOp .Add) (rAddA X.K) := op_add.or (op_add_str.or (op_cat.or (op_catT.or op_cat0)))
noncomputable def rMulA : R2 := fun x y H Q => (∃ i j, x = .int i ∧ y = .int j ∧ CMul i j ∧ Q (.int (i * j)) H) ∨ rRep x y H Q
theorem op_mulA : OpR X (binaryOp .Mult) rMulA := op_mul.or op_rep
theorem op_fdivA : OpR X (binaryOp .FloorDiv) (rI CDiv fun i j => .int (i / j)) := op_fdiv
noncomputable def rEqD (K : PySem.W.Frag) (neg : Bool) : R2 := fun x y H Q => ∃ dx dy, Is K H dx x ∧ Is K H dy y ∧ SeqAt.shaped dx = true ∧ SeqAt.shaped dy = true ∧ Q (.bl (if neg then !PyData.eqv dx dy else PyData.eqv dx dy)) H
theorem op_eqD (hq : QA X.A) : OpR X (compareOp .Eq) (rEqD X.K false) := by
  intro pins s σ H x y v u Q I rx ry h
  obtain ⟨dx, dy, ix, iy, sx, sy, q⟩ := h
  obtain ⟨as, ra⟩ := Is.reads I dx x v ix rx
  obtain ⟨bs, rb⟩ := Is.reads I dy y u iy ry
  exact eq_dataH ra rb sx sy (by have := hq.un; omega) ⟨.bl _, H, I, rfl, q⟩
theorem op_neD (hq : QA X.A) : OpR X (compareOp .NotEq) (rEqD X.K true) := by
  intro pins s σ H x y v u Q I rx ry h
  obtain ⟨dx, dy, ix, iy, sx, sy, q⟩ := h
  obtain ⟨as, ra⟩ := Is.reads I dx x v ix rx
  obtain ⟨bs, rb⟩ := Is.reads I dy y u iy ry
  exact ne_dataH ra rb sx sy (by have := hq.un; omega) ⟨.bl _, H, I, rfl, q⟩
noncomputable def rEqA (K : PySem.W.Frag) : R2 := fun x y H Q => rEq x y H Q ∨ rEqD K false x y H Q
noncomputable def rNeA (K : PySem.W.Frag) : R2 := fun x y H Q => rNe x y H Q ∨ rEqD K true x y H Q
theorem op_eqA (hq : QA X.A) : OpR X (compareOp .Eq) (rEqA X.K) := op_eq.or (op_eqD hq)
theorem op_neA (hq : QA X.A) : OpR X (compareOp .NotEq) (rNeA X.K) := op_ne.or (op_neD hq)
noncomputable def rInT (neg : Bool) : R2 := fun x y H Q => ∃ i j, x = .str i ∧ y = .str j ∧ Q (.bl (if neg then !(!(Builtin.Str.occurrences j i 0 j.length 1).isEmpty) else !(Builtin.Str.occurrences j i 0 j.length 1).isEmpty)) H
noncomputable def rInD (neg : Bool) : R2 := fun x y H Q => ∃ a o, y = .ref a ∧ DGet H a x o ∧ Q (.bl (if neg then !o.isSome else o.isSome)) H
theorem op_inD (hu : X.A.units + 1 < cLine) : OpR X (compareOp .In) (rInD false) := by
  intro pins s σ H x y v u Q I rx ry h
  obtain ⟨a, o, rfl, g, q⟩ := h
  cases ry
  exact d_in hu I g rx fun s' I' => ⟨.bl _, H, I', rfl, q⟩
theorem op_notInD (hu : X.A.units + 1 < cLine) : OpR X (compareOp .NotIn) (rInD true) := by
  intro pins s σ H x y v u Q I rx ry h
  obtain ⟨a, o, rfl, g, q⟩ := h
  cases ry
  exact d_notIn hu I g rx fun s' I' => ⟨.bl _, H, I', rfl, q⟩
noncomputable def rInX (K : PySem.W.Frag) (neg : Bool) : R2 := fun x y H Q => ∃ d ds, Is K H d x ∧ (Is K H (.list ds) y ∨ Is K H (.tuple ds) y) ∧ PyData.canLayAll0 ds = true ∧ d.canLay0 = true ∧ d.depth ≤ 100 ∧ Q (.bl (if neg then !(ds.any fun e => PyData.eqv e d) else ds.any fun e => PyData.eqv e d)) H
theorem op_inX (hq : QA X.A) : OpR X (compareOp .In) (rInX X.K false) := by
  intro pins s σ H x y v u Q I rx ry h
  obtain ⟨d, ds, ix, iy, h1, h2, h3, q⟩ := h
  obtain ⟨bs, rb⟩ := Is.reads I d x v ix rx
  rcases iy with iy | iy
  · obtain ⟨as, ra⟩ := Is.reads I _ y u iy ry
    exact SeqAt.in_list_reads ra rb h1 h2 (by have := hq.un; have := Nat.min_le_right (PyData.depthAll ds) d.depth; omega) ⟨.bl _, H, I, rfl, q⟩
  · obtain ⟨as, ra⟩ := Is.reads I _ y u iy ry
    exact SeqAt.in_tuple_reads ra rb h1 h2 (by have := hq.un; have := Nat.min_le_right (PyData.depthAll ds) d.depth; omega) ⟨.bl _, H, I, rfl, q⟩
theorem op_notInX (hq : QA X.A) : OpR X (compareOp .NotIn) (rInX X.K true) := by
  intro pins s σ H x y v u Q I rx ry h
  obtain ⟨d, ds, ix, iy, h1, h2, h3, q⟩ := h
  obtain ⟨bs, rb⟩ := Is.reads I d x v ix rx
  rcases iy with iy | iy
  · obtain ⟨as, ra⟩ := Is.reads I _ y u iy ry
    exact SeqAt.notIn_list_reads ra rb h1 h2 (by have := hq.un; have := Nat.min_le_right (PyData.depthAll ds) d.depth; omega) ⟨.bl _, H, I, rfl, q⟩
  · obtain ⟨as, ra⟩ := Is.reads I _ y u iy ry
    exact SeqAt.notIn_tuple_reads ra rb h1 h2 (by have := hq.un; have := Nat.min_le_right (PyData.depthAll ds) d.depth; omega) ⟨.bl _, H, I, rfl, q⟩
noncomputable def rInA (K : PySem.W.Frag) (neg : Bool) : R2 := fun x y H Q => rIn K neg x y H Q ∨ rInT neg x y H Q ∨ rInD neg x y H Q ∨ rInX K neg x y H Q
theorem QA.hu {A : Around} (h : QA A) : A.units + 1 < cLine := by have := h.un; omega
theorem op_inA (hq : QA X.A) : OpR X (compareOp .In) (rInA X.K false) := op_in_seq.or (op_in_str.or ((op_inD hq.hu).or (op_inX hq)))
theorem op_notInA (hq : QA X.A) : OpR X (compareOp .NotIn) (rInA X.K true) := op_notIn_seq.or (op_notIn_str.or ((op_notInD hq.hu).or (op_notInX hq)))
noncomputable def rSlA (K : PySem.W.Frag) : V → Option Int → Option Int → Hp → VK → Prop := fun x lo hi H Q => rSlL K x lo hi H Q ∨ rSlT K x lo hi H Q ∨ rSlS x lo hi H Q ∨ rSlW K x lo hi H Q
theorem sl_A : SlR X (rSlA X.K) := sl_list.or (sl_tup.or (sl_str.or sl_whole))
noncomputable def rIxD : R2 := fun x y H Q => ∃ a v, x = .ref a ∧ DGet H a y (some v) ∧ Q v H
theorem ix_dict (hu : X.A.units + 1 < cLine) : IxR X rIxD := by
  intro value slice pins s σ H x y v u Q I rx ry h hs
  obtain ⟨a, z, rfl, g, q⟩ := h
  cases rx
  exact tail_any (dict_typeIs I g) PySem.F.slot_dict_getitem.lookup (d_getItem hu I g ry fun w' s' I' rw' => ⟨z, H, I', rw', q⟩) hs
noncomputable def rIxA (K : PySem.W.Frag) : R2 := fun x y H Q => rIx K x y H Q ∨ rIxD x y H Q
theorem ix_any (hu : X.A.units + 1 < cLine) : IxR X (rIxA X.K) := ix_seq.or (ix_dict hu)
noncomputable def rLenA (K : PySem.W.Frag) : List V → Hp → VK → Prop := fun xs H Q => (∃ x n, xs = [x] ∧ LenV K x H n ∧ Q (.int n) H) ∨ ∃ a kvs, xs = [V.ref a] ∧ H a = some (.dK kvs) ∧ Q (.int kvs.length) H
theorem call_lenA : CallR X (.builtin "len") (rLenA X.K) := call_len.or call_lenD
noncomputable def rIsinst (K : PySem.W.Frag) : List V → Hp → VK → Prop := fun xs H Q => (∃ x c t b, xs = [x, .ty c] ∧ TyOf K H x t ∧ PySem.W.kitOne K t (.type c) = some b ∧ Q (.bl b) H) ∨ (∃ x c t b, xs = [x, .ref c] ∧ TyOf K H x t ∧ PySem.W.kitOne K t (.ref c) = some b ∧ Q (.bl b) H) ∨ ∃ a ys c b, xs = [V.ref a, .ty c] ∧ ((SqT K H a ys ∧ PySem.W.kitOne K (.type "tuple") (.type c) = some b) ∨ (SqL K H a ys ∧ PySem.W.kitOne K (.type "list") (.type c) = some b)) ∧ Q (.bl b) H
theorem call_isinstA : CallR X (.builtin "isinstance") (rIsinst X.K) := call_isinst.or (call_isinstR.or call_isinstQ)
noncomputable def rListA (K : PySem.W.Frag) : List V → Hp → VK → Prop := fun xs H Q => ∃ p ys, xs = [.ref p] ∧ (SqL K H p ys ∨ SqT K H p ys) ∧ ∀ l, H l = none → Q (.ref l) (upd H l (.lst ys))
theorem call_listA : CallR X (.type "list") (rListA X.K) := call_list_of
noncomputable def rTupleA (K : PySem.W.Frag) : List V → Hp → VK → Prop := fun xs H Q => ∃ p ys, xs = [.ref p] ∧ ((SqL K H p ys ∧ ∀ l, H l = none → Q (.ref l) (upd H l (.tup ys))) ∨ (SqT K H p ys ∧ Q (.ref p) H))
theorem call_tupleA : CallR X (.type "tuple") (rTupleA X.K) := call_tuple_of
noncomputable def rReprA : List V → Hp → VK → Prop := fun xs H Q => (∃ b, xs = [.bl b] ∧ Q (.str (if b then "True" else "False")) H) ∨ (xs = [.non] ∧ Q (.str "None") H)
theorem call_reprA : CallR X (.builtin "repr") rReprA := call_reprS
noncomputable def rIntA : List V → Hp → VK → Prop := fun xs H Q => (∃ i, xs = [.int i] ∧ Q (.int i) H) ∨ ∃ k, xs = [.bl k] ∧ Q (.int (if k then 1 else 0)) H
theorem call_intA : CallR X (.type "int") rIntA := call_int1
variable {tg : Expr}
noncomputable def rAnyIt (K : PySem.W.Frag) (x : V) (H1 : Hp) (R : It → Hp → Prop) : Prop := (∃ a, x = .ref a ∧ (∃ xs, SqL K H1 a xs) ∧ R (Itl K a) H1) ∨ (∃ a, x = .ref a ∧ (∃ xs, SqT K H1 a xs) ∧ R (Itt K a) H1) ∨ (∃ z, x = .str z ∧ R (Its z) H1) ∨ ∃ a kvs, x = .ref a ∧ ((H1 a = some (.dK kvs) ∧ ∀ o, R (Itd a o kvs) (upd H1 a (.frz o (.dK kvs)))) ∨ ∃ o, H1 a = some (.frz o (.dK kvs)) ∧ R (Itd a o kvs) H1)
noncomputable def iAny (K : PySem.W.Frag) (tl : TE) : TI := fun σ H R => tl σ H fun x H1 => rAnyIt K x H1 R
theorem pi_any (hu : X.A.units + 1 < cLine) {l : Expr} {tl : TE} (hl : PE X l tl) : PI X tg l (iAny X.K tl) := by
  intro pins s σ H R I h
  refine thn (hl pins s σ H _ I h) fun v s1 ⟨x, H1, I1, r1, q1⟩ => ?_
  rcases q1 with ⟨a, e, ⟨xs, hq⟩, q⟩ | ⟨a, e, ⟨xs, hq⟩, q⟩ | ⟨z, e, q⟩ | ⟨a, kvs, e, q⟩
  · subst e
    cases r1
    obtain ⟨its, rv, p, hz⟩ := I1.list hq
    refine wpAny_pyIter_list p.isList ?_
    refine ⟨s1.heap.objs.size, [s1.heap.objs.size], _, _, H1, rfl, I1.kept (t' := s1.toks) fun b o e => Heap.get?_push_of_some _ e, turn_list a _, ⟨_, Heap.get?_push_size _ rfl, rfl, rfl⟩, fun b hb => ?_, q⟩
    have e : b = s1.heap.objs.size := by simpa using hb
    subst e
    exact I1.fpOk (Nat.le_refl _) (I1.hok.fresh (Nat.le_refl _))
  · subst e
    cases r1
    obtain ⟨its, rv, p, hz⟩ := I1.tuple hq
    refine wpAny_pyIter_tuple (show s1.heap.IsTuple a its.toArray from p) ?_
    refine ⟨s1.heap.objs.size, [s1.heap.objs.size], _, _, H1, rfl, I1.kept (t' := s1.toks) fun b o e => Heap.get?_push_of_some _ e, turn_tuple a _, ⟨_, Heap.get?_push_size _ rfl, rfl, rfl⟩, fun b hb => ?_, q⟩
    have e : b = s1.heap.objs.size := by simpa using hb
    subst e
    exact I1.fpOk (Nat.le_refl _) (I1.hok.fresh (Nat.le_refl _))
  · subst e
    exact it_str I1 r1 q
  · subst e
    cases r1
    rcases q with ⟨hd, q⟩ | ⟨o, hd, q⟩
    · exact it_dict I1 hd q
    · exact it_dictF I1 hd q
end
noncomputable def Fnd (P : Program) (w : World) (K : PySem.W.Frag) (mg : Str → Option Value) (base : Heap) (k : Nat) (x : Str) (ps : List Str) (sp : Sp) : Prop :=
  ∃ f fd, FnOk P w K mg base CX0 k f fd ps sp ∧ mg x = some (.ref f) ∧ PySem.W.keepIn K (.ref f) = true ∧ Binds K fd ps []
section
variable {X : Cx} {k : Nat} {x : Str} {ps : List Str} {sp : Sp} {e : Expr} {es : List Expr} {t : TA} {p pos : Pos}
theorem pe_fn (F : Fnd X.prog X.w X.K X.mg X.base k x ps sp) (hr : Room k X.A) (hg : Gl X x) (ha : PA X (e :: es) t) (hdb : (x == ("__debug__" : Str)) = false := by decide)
    (he : starEach (e :: es) X.env = (false, eval e X.env) :: starEach es X.env := by with_unfolding_all rfl) (hpl : (backTo pos (starEach es X.env)).any (·.1) = false := by with_unfolding_all rfl) : PE X (.Call (.Name x p) (e :: es) [] pos) (tCall sp [] E0 t) := by
  obtain ⟨f, fd, h1, h2, h3, h4⟩ := F
  exact pe_call h1 hr hg h2 h3 h4 .nil pass0 ha hdb he hpl
end
noncomputable def ExtBut (d : Addr) (H H' : Hp) : Prop := ∀ b o, b ≠ d → H b = some o → H' b = some o
theorem Same.lk {H H' : Hp} {a : Addr} {o : HO} (e : Same H H') (h : H a = some o) : H' a = some o := e a o h
theorem ExtBut.lk {d : Addr} {H H' : Hp} {a : Addr} {o : HO} (e : ExtBut d H H') (h : H a = some o) (n : a ≠ d) : H' a = some o := e a o n h
theorem Same.upd {H : Hp} {p : Addr} {o : HO} (h : H p = none) : Same H (upd H p o) := fun b u e => by rw [upd_ne (ne_of_none e h)]; exact e
theorem ExtBut.upd {H : Hp} {p : Addr} {o : HO} : ExtBut p H (upd H p o) := fun b u n e => by rw [upd_ne n]; exact e
theorem Same.but {d : Addr} {H H' : Hp} (e : Same H H') : ExtBut d H H' := fun b o _ h => e b o h
theorem ExtBut.trans {d : Addr} {H H1 H2 : Hp} (a : ExtBut d H H1) (b : ExtBut d H1 H2) : ExtBut d H H2 := fun c o n h => b c o n (a c o n h)
theorem ExtBut.same {d : Addr} {H H1 H2 : Hp} (a : ExtBut d H H1) (b : Same H1 H2) : ExtBut d H H2 := fun c o n h => b c o (a c o n h)
theorem ExtBut.after {d : Addr} {H H1 H2 : Hp} (a : Same H H1) (b : ExtBut d H1 H2) : ExtBut d H H2 := fun c o n h => b c o n (a c o h)
theorem ExtBut.refl {d : Addr} {H : Hp} : ExtBut d H H := fun _ _ _ h => h
theorem ExtBut.fresh {p : Addr} {H H' : Hp} (h : H p = none) (e : ExtBut p H H') : Same H H' := fun b o q => e b o (ne_of_none q h) q
theorem ExtBut.seq {K : PySem.W.Frag} {d : Addr} {H H' : Hp} {a : Addr} {xs : List V} (e : ExtBut d H H') (n : a ≠ d) (h : SqL K H a xs) : SqL K H' a xs := by
  rcases h with (h | ⟨o, h⟩) | h
  · exact .inl (.inl (e _ _ n h))
  · exact .inl (.inr ⟨o, e _ _ n h⟩)
  · exact .inr h
noncomputable def rNewT (xs : List V) (H : Hp) (Q : VK) : Prop := xs.length ≤ sizeLine ∧ ∀ p, H p = none → Q (.ref p) (upd H p (.tup xs))
noncomputable def rNewL (xs : List V) (H : Hp) (Q : VK) : Prop := xs.length ≤ sizeLine ∧ ∀ p, H p = none → Q (.ref p) (upd H p (.lst xs))
noncomputable def rRng1 (vs : List V) (H : Hp) (R : It → Hp → Prop) : Prop := ∃ j : Int, vs = [.int j] ∧ -(2 ^ 62) ≤ j ∧ j < 2 ^ 62 ∧ R (Itr 0 j.toNat) H
noncomputable def rRng2 (vs : List V) (H : Hp) (R : It → Hp → Prop) : Prop := ∃ i j : Int, vs = [.int i, .int j] ∧ (-(2 ^ 62) ≤ i ∧ i < 2 ^ 62 ∧ -(2 ^ 62) ≤ j ∧ j < 2 ^ 62) ∧ R (Itr i (j - i).toNat) H
noncomputable def rFor (g : TG) (tb : TS) (D : Ends) (σ : St) (J : It) (H1 : Hp) : Prop := ∃ W : Nat → Nat → St → Hp → Prop, (∃ m, W 0 m σ H1) ∧ ∀ i m σ H, W i m σ H →
  (J.stop i H ∧ D.nx σ H) ∨ (J.go i H ∧ ∃ N : St → Hp → Prop, (∀ σ' H', N σ' H' → ∃ m', m' < m ∧ W (i + 1) m' σ' H') ∧ ∀ x H', J.yld i H x H' → g x σ H' fun σ2 H2 => tb { D with nx := N, ct := N, bk := D.nx } σ2 H2)
noncomputable def rComp (k : Nat) (js : List Nat) (g : TG) (tt : TT) (te : TE) (σ : St) (J : It) (H1 : Hp) (Q : VK) : Prop := ∀ p, H1 p = none →
  ∃ W : Nat → Nat → Hp → Prop, (∃ m, W 0 m (upd H1 p (.lst []))) ∧ ∀ i m H, W i m H →
    (J.stop i H ∧ Q (.ref p) H) ∨ (J.go i H ∧ ∃ N : Hp → Prop, (∀ H', N H' → ∃ m', m' < m ∧ W (i + 1) m' H') ∧
      ∀ x H', J.yld i H x H' → g x (List.replicate k none ++ pick σ js) H' fun σ2 H2 => tt σ2 H2 fun b H3 =>
        if b = true then te σ2 H3 fun y H4 => ∃ acc, H4 p = some (.lst acc) ∧ acc.length < sizeLine ∧ N (upd H4 p (.lst (acc ++ [y]))) else N H3)
noncomputable def rPairs (p : Addr) (ps : List (V × V)) (H : Hp) (Q : VK) : Prop := H p = some (.dK []) ∧ ∃ kvs : List (Key × V), ps = kvs.map (fun kv => (kV kv.1, kv.2)) ∧ kvs.length ≤ 15 ∧ Q (.ref p) (upd H p (.dK (mergeK [] kvs)))
section
variable {K : PySem.W.Frag} {σ : St} {H : Hp} {Q : VK} {D : Ends} {ta tb te : TE} {c : TT} {t u : TS} {x y v : V} {i j : Int}
theorem i_var {n : Nat} (h : σ[n]? = some (some v)) (k : Q v H) : tVar n σ H Q := ⟨v, h, k⟩
theorem i_c (k : Q v H) : tC v σ H Q := k
theorem i_next (k : D.nx σ H) : tNext D σ H := k
theorem i_ret (k : te σ H D.rt) : tRet te D σ H := k
theorem i_drop (k : te σ H fun _ H1 => D.nx σ H1) : tDrop te D σ H := k
theorem i_asg {g : TG} (k : te σ H fun x H1 => g x σ H1 D.nx) : tAsg te g D σ H := k
theorem i_gname {n : Nat} {R : St → Hp → Prop} (k : R (σ.set n (some v)) H) : gName n v σ H R := k
theorem i_if (k : c σ H fun b H1 => if b = true then t D σ H1 else u D σ H1) : tIfS c t u D σ H := k
theorem i_op {r : R2} (k : ta σ H fun x H1 => tb σ H1 fun y H2 => r x y H2 Q) : tOp r ta tb σ H Q := k
theorem i_un {r : V → Hp → VK → Prop} (k : ta σ H fun x H1 => r x H1 Q) : tUn r ta σ H Q := k
theorem i_rU {g : Int → V} (k : Q (g i) H) : rU g (.int i) H Q := ⟨i, rfl, k⟩
theorem i_rI0 {g : Int → Int → V} (k : Q (g i j) H) : rI0 g (.int i) (.int j) H Q := ⟨i, j, rfl, rfl, k⟩
theorem i_rI {C : Int → Int → Prop} {g : Int → Int → V} (h : C i j) (k : Q (g i j) H) : rI C g (.int i) (.int j) H Q := ⟨i, j, rfl, rfl, h, k⟩
theorem i_addI (k : Q (.int (i + j)) H) : rAddA K (.int i) (.int j) H Q := .inl ⟨i, j, rfl, rfl, k⟩
theorem i_addS {a b : Str} (h : a.length + b.length ≤ sizeLine) (k : Q (.str (a ++ b)) H) : rAddA K (.str a) (.str b) H Q := .inr (.inl ⟨a, b, rfl, rfl, h, k⟩)
theorem i_addL {a b : Addr} {xs ys : List V} (h1 : H a = some (.lst xs)) (h2 : H b = some (.lst ys)) (h : xs.length + ys.length ≤ sizeLine) (k : ∀ p H', H p = none → Same H H' → H' p = some (.lst (xs ++ ys)) → Q (.ref p) H') : rAddA K (.ref a) (.ref b) H Q :=
  .inr (.inr (.inl ⟨a, b, xs, ys, rfl, rfl, h1, h2, h, fun p hp => k p _ hp (Same.upd hp) upd_same⟩))
theorem i_mulI (h : CMul i j) (k : Q (.int (i * j)) H) : rMulA (.int i) (.int j) H Q := .inl ⟨i, j, rfl, rfl, h, k⟩
theorem i_mulL {a : Addr} {xs : List V} (h1 : H a = some (.lst xs)) (h2 : -(2 ^ 63) ≤ i ∧ i < 2 ^ 63) (h3 : xs.length * i.toNat ≤ sizeLine) (k : ∀ p H', H p = none → Same H H' → H' p = some (.lst (List.replicate i.toNat xs).flatten) → Q (.ref p) H') : rMulA (.ref a) (.int i) H Q :=
  .inr ⟨a, i, xs, rfl, rfl, h1, h2.1, h2.2, h3, fun p hp => k p _ hp (Same.upd hp) upd_same⟩
theorem i_eqS (h : scal x y = true) (k : Q (.bl (decide (x = y))) H) : rEqA K x y H Q := .inl ⟨h, k⟩
theorem i_neS (h : scal x y = true) (k : Q (.bl (!decide (x = y))) H) : rNeA K x y H Q := .inl ⟨h, k⟩
theorem i_eqD {dx dy : PyData} (h1 : Is K H dx x) (h2 : Is K H dy y) (h3 : SeqAt.shaped dx = true) (h4 : SeqAt.shaped dy = true) (k : Q (.bl (PyData.eqv dx dy)) H) : rEqA K x y H Q := .inr ⟨dx, dy, h1, h2, h3, h4, k⟩
theorem i_neD {dx dy : PyData} (h1 : Is K H dx x) (h2 : Is K H dy y) (h3 : SeqAt.shaped dx = true) (h4 : SeqAt.shaped dy = true) (k : Q (.bl (!PyData.eqv dx dy)) H) : rNeA K x y H Q := .inr ⟨dx, dy, h1, h2, h3, h4, k⟩
theorem i_true {R : Bool → Hp → Prop} (k : R true H) : tTrue σ H R := k
theorem i_tTest {R : Bool → Hp → Prop} (k : te σ H fun x H' => ∃ b, x = .bl b ∧ R b H') : tTest te σ H R := k
theorem i_tB {R : Bool → Hp → Prop} (k : te σ H fun x H' => ∃ b, x = .bl b ∧ R b H') : tB te σ H R := k
theorem i_bl {b : Bool} {R : Bool → Prop} (k : R b) : ∃ c, V.bl b = .bl c ∧ R c := ⟨b, rfl, k⟩
theorem i_not {R : Bool → Hp → Prop} (k : c σ H fun b H1 => R (!b) H1) : tNot c σ H R := k
theorem i_and {c' : TT} {R : Bool → Hp → Prop} (k : c σ H fun b H1 => if b = true then c' σ H1 R else R false H1) : tAnd c c' σ H R := k
theorem i_or {c' : TT} {R : Bool → Hp → Prop} (k : c σ H fun b H1 => if b = true then R true H1 else c' σ H1 R) : tOr c c' σ H R := k
theorem i_ixL {a : Addr} {xs : List V} (h : H a = some (.lst xs)) (e : atI xs i = some v) (k : Q v H) : rIxA K (.ref a) (.int i) H Q := .inl (.inl ⟨a, xs, i, v, rfl, rfl, SqL.of h, e, k⟩)
theorem i_ixS {z : Str} {s : Nat} (h : z.length ≤ sizeLine) (e : atI z.cps.toList i = some s) (k : Q (.str ⟨#[s]⟩) H) : rIxA K (.str z) (.int i) H Q := .inl (.inr (.inr ⟨z, i, s, rfl, rfl, h, e, k⟩))
theorem i_ixD {a : Addr} {kvs : List (Key × V)} {z : Str} (h : H a = some (.dK kvs)) (e : valV kvs (Sum.inr z : Key) = some v) (k : Q v H) : rIxA K (.ref a) (.str z) H Q := .inr ⟨a, v, rfl, by rw [← e]; exact DGet.k (k := Sum.inr z) h, k⟩
theorem i_lenL {a : Addr} {xs : List V} (h : H a = some (.lst xs)) (k : Q (.int xs.length) H) : rLenA K [.ref a] H Q := .inl ⟨.ref a, _, rfl, .inl ⟨xs, SqL.of h, rfl⟩, k⟩
theorem i_lenT {a : Addr} {xs : List V} (h : H a = some (.tup xs)) (k : Q (.int xs.length) H) : rLenA K [.ref a] H Q := .inl ⟨.ref a, _, rfl, .inr ⟨xs, SqT.of h, rfl⟩, k⟩
theorem i_lenS {z : Str} (h : z.length ≤ sizeLine) (k : Q (.int z.length) H) : rLenA K [.str z] H Q := .inl ⟨.str z, _, rfl, ⟨h, rfl⟩, k⟩
theorem i_isi {c : String} {t : Value} {b : Bool} (h : TyOf K H x t) (e : PySem.W.kitOne K t (.type c) = some b) (k : Q (.bl b) H) : rIsinst K [x, .ty c] H Q := .inl ⟨x, c, t, b, rfl, h, e, k⟩
theorem i_isiT {c : String} {b : Bool} {a : Addr} {ys : List V} (h : SqT K H a ys) (e : PySem.W.kitOne K (.type "tuple") (.type c) = some b) (k : Q (.bl b) H) : rIsinst K [.ref a, .ty c] H Q := .inr (.inr ⟨a, ys, c, b, rfl, .inl ⟨h, e⟩, k⟩)
theorem i_isiL {c : String} {b : Bool} {a : Addr} {ys : List V} (h : SqL K H a ys) (e : PySem.W.kitOne K (.type "list") (.type c) = some b) (k : Q (.bl b) H) : rIsinst K [.ref a, .ty c] H Q := .inr (.inr ⟨a, ys, c, b, rfl, .inr ⟨h, e⟩, k⟩)
theorem i_listL {a : Addr} {xs : List V} (h : SqL K H a xs) (k : ∀ p H', H p = none → Same H H' → H' p = some (.lst xs) → Q (.ref p) H') : rListA K [.ref a] H Q := ⟨a, xs, rfl, .inl h, fun p hp => k p _ hp (Same.upd hp) upd_same⟩
theorem i_tupleL {a : Addr} {xs : List V} (h : SqL K H a xs) (k : ∀ p H', H p = none → Same H H' → H' p = some (.tup xs) → Q (.ref p) H') : rTupleA K [.ref a] H Q := ⟨a, xs, rfl, .inl ⟨h, fun p hp => k p _ hp (Same.upd hp) upd_same⟩⟩
theorem i_intB {b : Bool} (k : Q (.int (if b then 1 else 0)) H) : rIntA [.bl b] H Q := .inr ⟨b, rfl, k⟩
theorem i_sl {r : V → Option Int → Option Int → Hp → VK → Prop} {tl th : TO} (k : te σ H fun x H1 => tl σ H1 fun l H2 => th σ H2 fun u H3 => r x l u H3 Q) : tSl r te tl th σ H Q := k
theorem i_noPart {R : Option Int → Hp → Prop} (k : R none H) : tNoPart σ H R := k
theorem i_part {R : Option Int → Hp → Prop} (k : te σ H fun x H1 => ∃ i, x = .int i ∧ R (some i) H1) : tPart te σ H R := k
theorem i_int {R : Int → Prop} (k : R i) : ∃ j, V.int i = .int j ∧ R j := ⟨i, rfl, k⟩
theorem i_slS {z : Str} {lo hi : Option Int} (h : z.length ≤ sizeLine) (k : Q (.str (Txt.slice z lo hi)) H) : rSlA K (.str z) lo hi H Q := .inr (.inr (.inl ⟨z, rfl, h, k⟩))
theorem i_slL {a : Addr} {xs : List V} {lo hi : Option Int} (h : SqL K H a xs) (k : ∀ p H', H p = none → Same H H' → H' p = some (.lst (cutV xs lo hi)) → Q (.ref p) H') : rSlA K (.ref a) lo hi H Q := .inl ⟨a, xs, rfl, h, fun p hp => k p _ hp (Same.upd hp) upd_same⟩
theorem i_inS {a b : Str} (k : Q (.bl (!(Builtin.Str.occurrences b a 0 b.length 1).isEmpty)) H) : rInA K false (.str a) (.str b) H Q := .inr (.inl ⟨a, b, rfl, rfl, k⟩)
theorem i_bm {T : String} {r : V → List V → Hp → VK → Prop} {ts : TA} (k : te σ H fun x H1 => tyV K T x H1 ∧ ts σ H1 fun xs H2 => r x xs H2 Q) : tBM K T r te ts σ H Q := k
theorem i_tyS {z : Str} {B : Prop} (k : B) : tyV K "str" (.str z) H ∧ B := ⟨rfl, k⟩
theorem i_find {z y : Str} (k : Q (.int (Txt.find z y)) H) : rFind (.str z) [.str y] H Q := ⟨z, y, rfl, rfl, k⟩
theorem i_bm0 {T : String} {r : V → List V → Hp → VK → Prop} (k : te σ H fun x H1 => tyV K T x H1 ∧ r x [] H1 Q) : tBM0 K T r te σ H Q := k
theorem i_call {sp : Sp} {E : XK} {ts : TA} (k : ts σ H fun vs H1 => sp (vs ++ []) H1 Q E) : tCall sp [] E ts σ H Q := k
theorem i_cb {r : List V → Hp → VK → Prop} {ts : TA} (k : ts σ H fun vs H1 => r vs H1 Q) : tCB r ts σ H Q := k
theorem i_cons {tr : TA} {R : List V → Hp → Prop} (k : ta σ H fun x H1 => tr σ H1 fun xs H2 => R (x :: xs) H2) : tCons ta tr σ H R := k
theorem i_nil {R : List V → Hp → Prop} (k : R [] H) : tNil σ H R := k
theorem i_tup {ts : TA} (k : ts σ H fun xs H1 => rNewT xs H1 Q) : tTup ts σ H Q := k
theorem i_lst {ts : TA} (k : ts σ H fun xs H1 => rNewL xs H1 Q) : tLst ts σ H Q := k
theorem i_newT {xs : List V} (h : xs.length ≤ sizeLine) (k : ∀ p H', H p = none → Same H H' → H' p = some (.tup xs) → Q (.ref p) H') : rNewT xs H Q := ⟨h, fun p hp => k p _ hp (Same.upd hp) upd_same⟩
theorem i_newL {xs : List V} (h : xs.length ≤ sizeLine) (k : ∀ p H', H p = none → Same H H' → H' p = some (.lst xs) → Q (.ref p) H') : rNewL xs H Q := ⟨h, fun p hp => k p _ hp (Same.upd hp) upd_same⟩
theorem i_newD (k : ∀ p H', H p = none → Same H H' → H' p = some (.dK []) → Q (.ref p) H') : tDNewK σ H Q := fun p hp => k p _ hp (Same.upd hp) upd_same
theorem i_put {td ty tv : TE} (k : tv σ H fun v H1 => td σ H1 fun x H2 => ty σ H2 fun y H3 => ∃ a H4, x = .ref a ∧ DPut H3 a y v H4 ∧ D.nx σ H4) : sDPut td ty tv D σ H := k
theorem i_dput {a : Addr} {kvs : List (Key × V)} {z : Str} {R : Hp → Prop} (h : H a = some (.dK kvs)) (hl : kvs.length < 1000) (k : ∀ H', ExtBut a H H' → H' a = some (.dK (putK kvs (Sum.inr z) v)) → R H') : ∃ b H4, V.ref a = .ref b ∧ DPut H b (.str z) v H4 ∧ R H4 :=
  ⟨a, _, rfl, DPut.k (k := Sum.inr z) h (small1000 (Nat.le_of_lt hl)), k _ ExtBut.upd upd_same⟩
theorem i_for {wi : TI} {g : TG} {tb : TS} (k : wi σ H fun J H1 => rFor g tb D σ J H1) : tFor wi g tb D σ H := k
theorem i_comp {m : Nat} {js : List Nat} {wi : TI} {g : TG} {tt : TT} (k : wi σ H fun J H1 => rComp m js g tt te σ J H1 Q) : tComp m js wi g tt te σ H Q := k
theorem i_itS {z : Str} {R : It → Hp → Prop} (k : R (Its z) H) : rAnyIt K (.str z) H R := .inr (.inr (.inl ⟨z, rfl, k⟩))
theorem i_itL {a : Addr} {xs : List V} {R : It → Hp → Prop} (h : SqL K H a xs) (k : R (Itl K a) H) : rAnyIt K (.ref a) H R := .inl ⟨a, rfl, ⟨xs, h⟩, k⟩
theorem i_itT {a : Addr} {xs : List V} {R : It → Hp → Prop} (h : SqT K H a xs) (k : R (Itt K a) H) : rAnyIt K (.ref a) H R := .inr (.inl ⟨a, rfl, ⟨xs, h⟩, k⟩)
theorem i_itD {a : Addr} {kvs : List (Key × V)} {R : It → Hp → Prop} (h : H a = some (.dK kvs)) (k : ∀ o, R (Itd a o kvs) (upd H a (.frz o (.dK kvs)))) : rAnyIt K (.ref a) H R := .inr (.inr (.inr ⟨a, kvs, rfl, .inl ⟨h, k⟩⟩))
theorem i_itF {a : Addr} {kvs : List (Key × V)} {o : Obj} {R : It → Hp → Prop} (h : H a = some (.frz o (.dK kvs))) (k : R (Itd a o kvs) H) : rAnyIt K (.ref a) H R := .inr (.inr (.inr ⟨a, kvs, rfl, .inr ⟨o, h, k⟩⟩))
theorem i_rng1 {ts : TA} {R : It → Hp → Prop} (k : ts σ H fun vs H1 => rRng1 vs H1 R) : iRng1 ts σ H R := k
theorem i_rngv {R : It → Hp → Prop} (h : -(2 ^ 62) ≤ i ∧ i < 2 ^ 62) (k : R (Itr 0 i.toNat) H) : rRng1 [V.int i] H R := ⟨i, rfl, h.1, h.2, k⟩
theorem i_rng2 {ts : TA} {R : It → Hp → Prop} (k : ts σ H fun vs H1 => rRng2 vs H1 R) : iRng2 ts σ H R := k
theorem i_rngw {R : It → Hp → Prop} (h : (-(2 ^ 62) ≤ i ∧ i < 2 ^ 62) ∧ -(2 ^ 62) ≤ j ∧ j < 2 ^ 62) (k : R (Itr i (j - i).toNat) H) : rRng2 [V.int i, V.int j] H R := ⟨i, j, rfl, ⟨h.1.1, h.1.2, h.2.1, h.2.2⟩, k⟩
theorem i_iany {R : It → Hp → Prop} (k : te σ H fun x H1 => rAnyIt K x H1 R) : iAny K te σ H R := k
theorem i_disp {trs : List (TE × TE)} (k : ∀ p H1, H p = none → Same H H1 → H1 p = some (.dK []) → tPairs trs σ H1 fun ps H2 => rPairs p ps H2 Q) : tDisp trs σ H Q := fun p hp => k p _ hp (Same.upd hp) upd_same
theorem i_pair {tk tv : TE} {r : List (TE × TE)} {R : List (V × V) → Hp → Prop} (k : tk σ H fun x H1 => tv σ H1 fun y H2 => tPairs r σ H2 fun ps H3 => R ((x, y) :: ps) H3) : tPairs ((tk, tv) :: r) σ H R := k
theorem i_pairs {p : Addr} {ps : List (V × V)} (kvs : List (Key × V)) (h : H p = some (.dK [])) (e : ps = kvs.map (fun kv => (kV kv.1, kv.2))) (hl : kvs.length ≤ 15) (k : ∀ H', ExtBut p H H' → H' p = some (.dK (mergeK [] kvs)) → Q (.ref p) H') : rPairs p ps H Q := ⟨h, kvs, e, hl, k _ ExtBut.upd upd_same⟩
theorem i_pair0 {R : List (V × V) → Hp → Prop} (k : R [] H) : tPairs [] σ H R := k
end
end L2
set_option Elab.async false
set_option linter.all false
set_option maxRecDepth 100000
set_option maxHeartbeats 4000000
namespace L2
open PySem PySem.Spec PyProof.Rows
theorem iteD {c A B : Prop} [Decidable c] (h1 : c → A) (h2 : ¬ c → B) : if decide c = true then A else B := by
  by_cases h : c
  · rw [if_pos (decide_eq_true h)]; exact h1 h
  · rw [if_neg (by rw [decide_eq_false h]; exact Bool.false_ne_true)]; exact h2 h
theorem iteND {c A B : Prop} [Decidable c] (h1 : ¬ c → A) (h2 : c → B) : if (!decide c) = true then A else B := by
  by_cases h : c
  · rw [decide_eq_true h, if_neg (by decide)]; exact h2 h
  · rw [decide_eq_false h, if_pos (by decide)]; exact h1 h
theorem iteB {b : Bool} {A B : Prop} (h1 : b = true → A) (h2 : b = false → B) : if b = true then A else B := by
  cases b
  · rw [if_neg Bool.false_ne_true]; exact h2 rfl
  · rw [if_pos rfl]; exact h1 rfl
theorem iteNB {b : Bool} {A B : Prop} (h1 : b = false → A) (h2 : b = true → B) : if (!b) = true then A else B := by
  cases b
  · exact h1 rfl
  · exact h2 rfl
theorem iteNT {A B : Prop} (h : B) : if (!true) = true then A else B := h
theorem iteNF {A B : Prop} (h : A) : if (!false) = true then A else B := h
theorem line_of {n : Nat} (h : n ≤ 1000000) : n ≤ sizeLine := by rw [sizeLine_eq]; omega
noncomputable def WalkOf (J : It) (xs : List V) (G : Hp → Prop) : Prop :=
  ∀ i H, G H → (i < xs.length → J.go i H) ∧ (xs.length ≤ i → J.stop i H) ∧ ∀ x H', i < xs.length → J.yld i H x H' → H' = H ∧ xs[i]? = some x
theorem walk_list {K : PySem.W.Frag} {a : Addr} {xs : List V} : WalkOf (Itl K a) xs fun H => SqL K H a xs := by
  intro i H g
  refine ⟨fun h => ⟨xs, xs[i], g, List.getElem?_eq_getElem h⟩, fun h => ⟨xs, g, h⟩, fun x H' _ h => ⟨h.1, h.2 xs g⟩⟩
theorem walk_tup {K : PySem.W.Frag} {a : Addr} {xs : List V} : WalkOf (Itt K a) xs fun H => SqT K H a xs := by
  intro i H g
  refine ⟨fun h => ⟨xs, xs[i], g, List.getElem?_eq_getElem h⟩, fun h => ⟨xs, g, h⟩, fun x H' _ h => ⟨h.1, h.2 xs g⟩⟩
theorem walk_dict {a : Addr} {o : Obj} {kvs : List (Key × V)} : WalkOf (Itd a o kvs) (kvs.map fun kv => kV kv.1) fun H => H a = some (.frz o (.dK kvs)) := by
  intro i H g
  rw [List.length_map]
  refine ⟨fun h => ⟨g, h⟩, fun h => ⟨g, h⟩, fun x H' _ h => ?_⟩
  obtain ⟨e, kv, h1, h2⟩ := h
  exact ⟨e, by rw [List.getElem?_map, h1, h2]; rfl⟩
theorem walk_range {lo : Int} {n : Nat} : WalkOf (Itr lo n) ((List.range n).map fun (i : Nat) => V.int (lo + (i : Int))) fun _ => True := by
  intro i H _
  refine ⟨fun h => ?_, fun h => ?_, fun x H' hi h => ?_⟩
  · show i < n
    simpa using h
  · show n ≤ i
    simpa using h
  · obtain ⟨e, hx⟩ := h
    refine ⟨e, ?_⟩
    have hi' : i < n := by simpa using hi
    rw [List.getElem?_map, List.getElem?_range hi', hx]
    rfl
theorem for_walk {J : It} {xs : List V} {G : Hp → Prop} {g : TG} {tb : TS} {D : Ends} {σ : St} {H : Hp} (hw : WalkOf J xs G) (Pv : Nat → St → Hp → Prop) (h0 : Pv 0 σ H) (hG : ∀ i σ H, Pv i σ H → G H)
    (hs : ∀ i x σ H, xs[i]? = some x → Pv i σ H → g x σ H fun σ2 H2 => tb { D with nx := Pv (i + 1), ct := Pv (i + 1), bk := D.nx } σ2 H2) (hd : ∀ σ H, Pv xs.length σ H → D.nx σ H) :
    ∃ W : Nat → Nat → St → Hp → Prop, (∃ m, W 0 m σ H) ∧ ∀ i m σ H, W i m σ H →
      (J.stop i H ∧ D.nx σ H) ∨ (J.go i H ∧ ∃ N : St → Hp → Prop, (∀ σ' H', N σ' H' → ∃ m', m' < m ∧ W (i + 1) m' σ' H') ∧ ∀ x H', J.yld i H x H' → g x σ H' fun σ2 H2 => tb { D with nx := N, ct := N, bk := D.nx } σ2 H2) := by
  refine ⟨fun i m σ H => m = xs.length - i ∧ i ≤ xs.length ∧ Pv i σ H, ⟨xs.length, by simp, Nat.zero_le _, h0⟩, ?_⟩
  rintro i m σ H ⟨rfl, hi, p⟩
  obtain ⟨w1, w2, w3⟩ := hw i H (hG i σ H p)
  by_cases hlt : i < xs.length
  · refine .inr ⟨w1 hlt, Pv (i + 1), fun σ' H' p' => ⟨xs.length - (i + 1), by omega, rfl, hlt, p'⟩, fun x H' y => ?_⟩
    obtain ⟨e, hx⟩ := w3 x H' hlt y
    subst e
    exact hs i x σ _ hx p
  · have e : i = xs.length := by omega
    subst e
    exact .inl ⟨w2 (Nat.le_refl _), hd σ H p⟩
noncomputable def CN (p : Addr) (n : Nat) (Pv : Nat → List V → Hp → Prop) (i : Nat) : Hp → Prop := fun H' => i + 1 ≤ n ∧ ∃ acc, H' p = some (.lst acc) ∧ acc.length ≤ i + 1 ∧ Pv (i + 1) acc H'
theorem cn_push {p : Addr} {n : Nat} {Pv : Nat → List V → Hp → Prop} {i : Nat} {H : Hp} {acc : List V} {y : V} (hn : n ≤ 1000000) (hi : i < n) (hl : acc.length ≤ i) (e : H p = some (.lst acc)) (k : ∀ H', ExtBut p H H' → H' p = some (.lst (acc ++ [y])) → Pv (i + 1) (acc ++ [y]) H') :
    ∃ acc, H p = some (.lst acc) ∧ acc.length < sizeLine ∧ CN p n Pv i (upd H p (.lst (acc ++ [y]))) :=
  ⟨acc, e, by rw [sizeLine_eq]; omega, hi, acc ++ [y], upd_same, by rw [List.length_append, List.length_singleton]; omega, k _ ExtBut.upd upd_same⟩
theorem cn_skip {p : Addr} {n : Nat} {Pv : Nat → List V → Hp → Prop} {i : Nat} {H : Hp} {acc : List V} (hi : i < n) (hl : acc.length ≤ i) (e : H p = some (.lst acc)) (k : Pv (i + 1) acc H) : CN p n Pv i H := ⟨hi, acc, e, by omega, k⟩
theorem comp_walk {J : It} {xs : List V} {G : Hp → Prop} {g : TG} {tt : TT} {te : TE} {σ : St} {H : Hp} {Q : VK} {p : Addr} {k : Nat} {js : List Nat} (hw : WalkOf J xs G) (hp : H p = none) (Pv : Nat → List V → Hp → Prop)
    (h0 : ∀ H', Same H H' → H' p = some (.lst []) → Pv 0 [] H') (hG : ∀ i acc H, Pv i acc H → G H)
    (hs : ∀ i x acc H, xs[i]? = some x → i < xs.length → acc.length ≤ i → H p = some (.lst acc) → Pv i acc H → g x (List.replicate k none ++ pick σ js) H fun σ2 H2 => tt σ2 H2 fun b H3 =>
      if b = true then te σ2 H3 fun y H4 => ∃ acc, H4 p = some (.lst acc) ∧ acc.length < sizeLine ∧ CN p xs.length Pv i (upd H4 p (.lst (acc ++ [y]))) else CN p xs.length Pv i H3)
    (hd : ∀ acc H, H p = some (.lst acc) → acc.length ≤ xs.length → Pv xs.length acc H → Q (.ref p) H) :
    ∃ W : Nat → Nat → Hp → Prop, (∃ m, W 0 m (upd H p (.lst []))) ∧ ∀ i m H, W i m H →
      (J.stop i H ∧ Q (.ref p) H) ∨ (J.go i H ∧ ∃ N : Hp → Prop, (∀ H', N H' → ∃ m', m' < m ∧ W (i + 1) m' H') ∧
        ∀ x H', J.yld i H x H' → g x (List.replicate k none ++ pick σ js) H' fun σ2 H2 => tt σ2 H2 fun b H3 =>
          if b = true then te σ2 H3 fun y H4 => ∃ acc, H4 p = some (.lst acc) ∧ acc.length < sizeLine ∧ N (upd H4 p (.lst (acc ++ [y]))) else N H3) := by
  refine ⟨fun i m H => m = xs.length - i ∧ i ≤ xs.length ∧ ∃ acc, H p = some (.lst acc) ∧ acc.length ≤ i ∧ Pv i acc H, ⟨xs.length, by simp, Nat.zero_le _, [], upd_same, Nat.le_refl _, h0 _ (Same.upd hp) upd_same⟩, ?_⟩
  rintro i m H ⟨rfl, hi, acc, hacc, hl, q⟩
  obtain ⟨w1, w2, w3⟩ := hw i H (hG i acc H q)
  by_cases hlt : i < xs.length
  · refine .inr ⟨w1 hlt, CN p xs.length Pv i, fun H' ⟨h1, h2⟩ => ⟨xs.length - (i + 1), by omega, rfl, h1, h2⟩, fun x H' y => ?_⟩
    obtain ⟨e, hx⟩ := w3 x H' hlt y
    subst e
    exact hs i x acc _ hx hlt hl hacc q
  · have e : i = xs.length := by omega
    subst e
    exact .inl ⟨w2 (Nat.le_refl _), hd acc H hacc hl q⟩
noncomputable def rPush (p : Addr) (N : Hp → Prop) : VK := fun y H4 => ∃ acc, H4 p = some (.lst acc) ∧ acc.length < sizeLine ∧ N (upd H4 p (.lst (acc ++ [y])))
theorem comp_by {J : It} {xs : List V} {G : Hp → Prop} {g : TG} {tt : TT} {te : TE} {σ : St} {H : Hp} {Q : VK} {k : Nat} {js : List Nat} (hw : WalkOf J xs G) (Pv : Addr → Nat → List V → Hp → Prop)
    (h0 : ∀ p H', H p = none → Same H H' → H' p = some (.lst []) → Pv p 0 [] H') (hG : ∀ p i acc H, Pv p i acc H → G H)
    (hs : ∀ p i x acc H1, H p = none → xs[i]? = some x → i < xs.length → acc.length ≤ i → H1 p = some (.lst acc) → Pv p i acc H1 → g x (List.replicate k none ++ pick σ js) H1 fun σ2 H2 => tt σ2 H2 fun b H3 =>
      if b = true then te σ2 H3 (rPush p (CN p xs.length (Pv p) i)) else CN p xs.length (Pv p) i H3)
    (hd : ∀ p acc H1, H p = none → H1 p = some (.lst acc) → acc.length ≤ xs.length → Pv p xs.length acc H1 → Q (.ref p) H1) : rComp k js g tt te σ J H Q := fun p hp =>
  comp_walk hw hp (Pv p) (fun H' e h => h0 p H' hp e h) (hG p) (fun i x acc H1 h1 h2 h3 h4 h5 => hs p i x acc H1 hp h1 h2 h3 h4 h5) fun acc H1 h1 h2 h3 => hd p acc H1 hp h1 h2 h3
theorem push_i {p : Addr} {n : Nat} {Pv : Nat → List V → Hp → Prop} {i : Nat} {H : Hp} {acc : List V} {y : V} (hn : n ≤ 1000000) (hi : i < n) (hl : acc.length ≤ i) (e : H p = some (.lst acc)) (k : ∀ H', ExtBut p H H' → H' p = some (.lst (acc ++ [y])) → Pv (i + 1) (acc ++ [y]) H') :
    rPush p (CN p n Pv i) y H := cn_push hn hi hl e k
theorem comp_pure {J : It} {xs : List V} {G : Hp → Prop} {g : TG} {tt : TT} {te : TE} {σ : St} {H : Hp} {Q : VK} {k : Nat} {js : List Nat} (hw : WalkOf J xs G) (t : V → Bool) (f : V → V) (hz : xs.length ≤ 1000000) (hG : ∀ H', Same H H' → G H')
    (hs : ∀ (i : Nat) x H1 (R : VK) (R' : Hp → Prop), xs[i]? = some x → Same H H1 → (t x = true → R (f x) H1) → (t x = false → R' H1) → g x (List.replicate k none ++ pick σ js) H1 fun σ2 H2 => tt σ2 H2 fun b H3 => if b = true then te σ2 H3 R else R' H3)
    (hd : ∀ p H', H p = none → Same H H' → H' p = some (.lst ((xs.filter t).map f)) → Q (.ref p) H') : rComp k js g tt te σ J H Q := by
  refine comp_by hw (fun p i acc H1 => Same H H1 ∧ acc = ((xs.take i).filter t).map f) (fun p H' hp e h => ⟨e, by simp⟩) (fun p i acc H1 h => hG H1 h.1) (fun p i x acc H1 hp hx hi hl ha ⟨e, hacc⟩ => ?_) fun p acc H1 hp ha hl ⟨e, hacc⟩ => ?_
  · have ht : xs.take (i + 1) = xs.take i ++ [x] := by rw [List.take_add_one, hx]; rfl
    refine hs i x H1 _ _ hx e (fun h => ?_) fun h => ?_
    · refine push_i hz hi hl ha fun H' e' h' => ⟨fun b o hb => e' b o (ne_of_none hb hp) (e b o hb), ?_⟩
      rw [ht, List.filter_append, List.map_append, hacc]
      simp [h]
    · refine cn_skip hi hl ha ⟨e, ?_⟩
      rw [ht, List.filter_append, List.map_append, hacc]
      simp [h]
  · refine hd p H1 hp e ?_
    rw [ha, hacc, List.take_length]
theorem filter_true {α : Type} (xs : List α) : xs.filter (fun _ => true) = xs := by simp
theorem comp_map {J : It} {xs : List V} {G : Hp → Prop} {g : TG} {te : TE} {σ : St} {H : Hp} {Q : VK} {k : Nat} {js : List Nat} (hw : WalkOf J xs G) (f : V → V) (hz : xs.length ≤ 1000000) (hG : ∀ H', Same H H' → G H')
    (hs : ∀ (i : Nat) x H1 (R : VK), xs[i]? = some x → Same H H1 → R (f x) H1 → g x (List.replicate k none ++ pick σ js) H1 fun σ2 H2 => te σ2 H2 R)
    (hd : ∀ p H', H p = none → Same H H' → H' p = some (.lst (xs.map f)) → Q (.ref p) H') : rComp k js g tTrue te σ J H Q :=
  comp_pure hw (fun _ => true) f hz hG (fun i x H1 R R' hx e h _ => by
    have := hs i x H1 R hx e (h rfl)
    show g x _ H1 fun σ2 H2 => if true = true then te σ2 H2 R else R' H2
    simpa using this) fun p H' hp e h => hd p H' hp e (by rw [h, filter_true])
theorem for_by {J : It} {xs : List V} {G : Hp → Prop} {g : TG} {tb : TS} {D : Ends} {σ : St} {H : Hp} (hw : WalkOf J xs G) (Pv : Nat → St → Hp → Prop) (h0 : Pv 0 σ H) (hG : ∀ i σ H, Pv i σ H → G H)
    (hs : ∀ i x σ H, xs[i]? = some x → i < xs.length → Pv i σ H → g x σ H fun σ2 H2 => tb { D with nx := Pv (i + 1), ct := Pv (i + 1), bk := D.nx } σ2 H2) (hd : ∀ σ H, Pv xs.length σ H → D.nx σ H) : rFor g tb D σ J H :=
  for_walk hw Pv h0 hG (fun i x σ H hx => hs i x σ H hx (List.getElem?_eq_some_iff.mp hx).1) hd
section
variable {X : Cx} {K : PySem.W.Frag}
theorem op_addK (hK : X.K = K := by with_unfolding_all rfl) : OpR X (binaryOp .Add) (rAddA K) := hK ▸ op_addA
theorem op_eqK (hq : QA X.A) (hK : X.K = K := by with_unfolding_all rfl) : OpR X (compareOp .Eq) (rEqA K) := hK ▸ op_eqA hq
theorem op_neK (hq : QA X.A) (hK : X.K = K := by with_unfolding_all rfl) : OpR X (compareOp .NotEq) (rNeA K) := hK ▸ op_neA hq
theorem op_inK (hq : QA X.A) (hK : X.K = K := by with_unfolding_all rfl) : OpR X (compareOp .In) (rInA K false) := hK ▸ op_inA hq
theorem op_notInK (hq : QA X.A) (hK : X.K = K := by with_unfolding_all rfl) : OpR X (compareOp .NotIn) (rInA K true) := hK ▸ op_notInA hq
theorem ix_anyK (hu : X.A.units + 1 < cLine) (hK : X.K = K := by with_unfolding_all rfl) : IxR X (rIxA K) := hK ▸ ix_any hu
theorem sl_K (hK : X.K = K := by with_unfolding_all rfl) : SlR X (rSlA K) := hK ▸ sl_A
theorem call_lenK (hK : X.K = K := by with_unfolding_all rfl) : CallR X (.builtin "len") (rLenA K) := hK ▸ call_lenA
theorem call_isinstK (hK : X.K = K := by with_unfolding_all rfl) : CallR X (.builtin "isinstance") (rIsinst K) := hK ▸ call_isinstA
theorem call_listK (hK : X.K = K := by with_unfolding_all rfl) : CallR X (.type "list") (rListA K) := hK ▸ call_listA
theorem call_tupleK (hK : X.K = K := by with_unfolding_all rfl) : CallR X (.type "tuple") (rTupleA K) := hK ▸ call_tupleA
theorem pi_anyK {tg : Expr} (hu : X.A.units + 1 < cLine) {l : Expr} {tl : TE} (hl : PE X l tl) (hK : X.K = K := by with_unfolding_all rfl) : PI X tg l (iAny K tl) := hK ▸ pi_any hu hl
theorem pg_tupK {es : List Expr} {k : Nat} {t : TGs} {n : Nat} {pos : Pos} (hc : X.calm = true) (h : PGs X es t) (hK : X.K = K := by with_unfolding_all rfl)
    (hn : (assignEach es X.env).length = n := by with_unfolding_all rfl) (hst : (assignEach es X.env).findIdx? (·.1) = none := by with_unfolding_all rfl) : PG X (.Tuple es k pos) (gTup K n t) := hK ▸ pg_tup hc h hn hst
variable {o e : Expr} {es : List Expr} {to : TE} {t : TA} {name : Str} {apos cpos : Pos} {T id : String} {r : V → List V → Hp → VK → Prop}
theorem pe_bm0K (pa : PlainAttrs T) (slot : Slot T name id) (hty : typeOf (.builtin id) = pure (.type "method_descriptor")) (hm : MtR X id r) (ho : PE X o to) (hK : X.K = K := by with_unfolding_all rfl)
    (hbase : attributeBase o name X.env (eval o X.env) = eval o X.env := by with_unfolding_all rfl) (hline : (apos.endLine == cpos.line) = true := by with_unfolding_all rfl) : PE X (.Call (.Attribute o name apos) [] [] cpos) (tBM0 K T r to) := hK ▸ pe_bm0 pa slot hty hm ho hbase hline
theorem pe_bmK (pa : PlainAttrs T) (slot : Slot T name id) (hty : typeOf (.builtin id) = pure (.type "method_descriptor")) (hm : MtR X id r) (ho : PE X o to) (ha : PA X (e :: es) t) (hK : X.K = K := by with_unfolding_all rfl)
    (hbase : attributeBase o name X.env (eval o X.env) = eval o X.env := by with_unfolding_all rfl)
    (hfew : ((backTo cpos (starEach (e :: es) X.env)).all (fun x => !x.1) && (backToKw cpos (keywordEach [] X.env)).all (fun x => x.1.isSome)
      && decide ((e :: es).length + ([] : List Keyword).length + (if ([] : List Keyword).isEmpty then 0 else 1) < 30)) = true := by with_unfolding_all rfl)
    (hline : (apos.endLine == cpos.line) = true := by with_unfolding_all rfl) (hs : starEach (e :: es) X.env = (false, eval e X.env) :: starEach es X.env := by with_unfolding_all rfl) (hplain : (backTo cpos (starEach es X.env)).any (·.1) = false := by with_unfolding_all rfl) :
    PE X (.Call (.Attribute o name apos) (e :: es) [] cpos) (tBM K T r to t) := hK ▸ pe_bm pa slot hty hm ho ha hbase hfew hline hs hplain
end
end L2
set_option Elab.async false
set_option linter.all false
set_option maxRecDepth 100000
set_option maxHeartbeats 4000000
namespace L2
open PySem PySem.Spec PyProof.Rows
noncomputable def Fz (H H' : Hp) : Prop := ∀ a xs, Rd H a (.tup xs) → Rd H' a (.tup xs)
theorem Fz.refl (H : Hp) : Fz H H := fun _ _ h => h
theorem Fz.trans {H H1 H2 : Hp} (a : Fz H H1) (b : Fz H1 H2) : Fz H H2 := fun c xs h => b c xs (a c xs h)
theorem Same.fz {H H' : Hp} (e : Same H H') : Fz H H' := fun a xs h => by
  rcases h with h | ⟨o, h⟩
  · exact .inl (e _ _ h)
  · exact .inr ⟨o, e _ _ h⟩
theorem fz_but {p : Addr} {H H' : Hp} (e : ExtBut p H H') (hp : ∀ xs, ¬ Rd H p (.tup xs)) : Fz H H' := fun a xs h => by
  have n : a ≠ p := fun q => hp xs (q ▸ h)
  rcases h with h | ⟨o, h⟩
  · exact .inl (e _ _ n h)
  · exact .inr ⟨o, e _ _ n h⟩
theorem ExtBut.fzL {p : Addr} {H H' : Hp} {l : List V} (e : ExtBut p H H') (hp : H p = some (.lst l)) : Fz H H' := fz_but e fun xs h => by
  rcases h with h | ⟨o, h⟩
  · rw [hp] at h; cases h
  · rw [hp] at h; cases h
theorem ExtBut.fzD {p : Addr} {H H' : Hp} {l : List (Key × V)} (e : ExtBut p H H') (hp : H p = some (.dK l)) : Fz H H' := fz_but e fun xs h => by
  rcases h with h | ⟨o, h⟩
  · rw [hp] at h; cases h
  · rw [hp] at h; cases h
theorem Fz.seq {K : PySem.W.Frag} {H H' : Hp} (e : Fz H H') {a : Addr} {xs : List V} (h : SqT K H a xs) : SqT K H' a xs := by
  rcases h with h | h
  · exact .inl (e _ _ h)
  · exact .inr h
mutual
def frz : PyData → Bool
  | .tuple ds => frzL ds
  | .list _ => false
  | .dict _ => false
  | _ => true
def frzL : List PyData → Bool
  | [] => true
  | d :: ds => frz d && frzL ds
end
mutual
theorem Is.fz {K : PySem.W.Frag} {H H' : Hp} (e : Fz H H') : ∀ (d : PyData) (v : V), frz d = true → Is K H d v → Is K H' d v
  | .none, _, _, h => by simp only [Is] at h ⊢; exact h
  | .bool _, _, _, h => by simp only [Is] at h ⊢; exact h
  | .int _, _, _, h => by simp only [Is] at h ⊢; exact h
  | .str _, _, _, h => by simp only [Is] at h ⊢; exact h
  | .list ds, v, hf, _ => by simp [frz] at hf
  | .tuple ds, v, hf, h => by
    simp only [Is] at h ⊢
    obtain ⟨a, xs, e1, e2, e3⟩ := h
    exact ⟨a, xs, e1, e.seq e2, IsL.fz e ds xs (by simpa only [frz] using hf) e3⟩
  | .dict _, _, _, h => by simp only [Is] at h
theorem IsL.fz {K : PySem.W.Frag} {H H' : Hp} (e : Fz H H') : ∀ (ds : List PyData) (vs : List V), frzL ds = true → IsL K H ds vs → IsL K H' ds vs
  | [], _, _, h => by simp only [IsL] at h ⊢; exact h
  | d :: ds, vs, hf, h => by
    simp only [IsL] at h ⊢
    simp only [frzL, Bool.and_eq_true] at hf
    obtain ⟨v, r, e1, e2, e3⟩ := h
    exact ⟨v, r, e1, Is.fz e d v hf.1 e2, IsL.fz e ds r hf.2 e3⟩
end
section
variable {K : PySem.W.Frag} {H H' : Hp}
theorem IsL.length : ∀ {ds : List PyData} {vs : List V}, IsL K H ds vs → ds.length = vs.length
  | [], _, h => by simp only [IsL] at h; subst h; rfl
  | d :: ds, vs, h => by
    simp only [IsL] at h
    obtain ⟨v, r, rfl, _, e3⟩ := h
    simp only [List.length_cons, IsL.length e3]
theorem IsL.get : ∀ {ds : List PyData} {vs : List V} {i : Nat} {x : V}, IsL K H ds vs → vs[i]? = some x → ∃ d, ds[i]? = some d ∧ Is K H d x
  | [], _, _, _, h, e => by simp only [IsL] at h; subst h; simp at e
  | d :: ds, vs, i, x, h, e => by
    simp only [IsL] at h
    obtain ⟨v, r, rfl, e2, e3⟩ := h
    cases i with
    | zero => simp at e; subst e; exact ⟨d, rfl, e2⟩
    | succ i =>
      obtain ⟨d', h1, h2⟩ := IsL.get (i := i) e3 (by simpa using e)
      exact ⟨d', by simpa using h1, h2⟩
theorem IsL.at : ∀ {ds : List PyData} {vs : List V} {i : Nat} {d : PyData}, IsL K H ds vs → ds[i]? = some d → ∃ x, vs[i]? = some x ∧ Is K H d x
  | [], _, _, _, h, e => by simp at e
  | d :: ds, vs, i, d', h, e => by
    simp only [IsL] at h
    obtain ⟨v, r, rfl, e2, e3⟩ := h
    cases i with
    | zero => simp at e; subst e; exact ⟨v, rfl, e2⟩
    | succ i =>
      obtain ⟨x, h1, h2⟩ := IsL.at (i := i) e3 (by simpa using e)
      exact ⟨x, by simpa using h1, h2⟩
theorem IsL.append : ∀ {ds es : List PyData} {vs us : List V}, IsL K H ds vs → IsL K H es us → IsL K H (ds ++ es) (vs ++ us)
  | [], _, _, _, h, g => by simp only [IsL] at h; subst h; exact g
  | d :: ds, es, vs, us, h, g => by
    simp only [IsL] at h
    obtain ⟨v, r, rfl, e2, e3⟩ := h
    simp only [List.cons_append, IsL]
    exact ⟨v, _, rfl, e2, IsL.append e3 g⟩
theorem IsL.one {d : PyData} {v : V} (h : Is K H d v) : IsL K H [d] [v] := by simp only [IsL]; exact ⟨v, [], rfl, h, rfl⟩
theorem IsL.nil : IsL K H [] [] := by simp only [IsL]
theorem IsL.cons {d : PyData} {v : V} {ds : List PyData} {vs : List V} (h : Is K H d v) (g : IsL K H ds vs) : IsL K H (d :: ds) (v :: vs) := by simp only [IsL]; exact ⟨v, vs, rfl, h, g⟩
theorem IsL.take : ∀ {ds : List PyData} {vs : List V} (n : Nat), IsL K H ds vs → IsL K H (ds.take n) (vs.take n)
  | ds, vs, 0, h => by simp only [List.take_zero]; exact .nil
  | [], vs, n + 1, h => by simp only [IsL] at h; subst h; exact .nil
  | d :: ds, vs, n + 1, h => by
    simp only [IsL] at h
    obtain ⟨v, r, rfl, e2, e3⟩ := h
    exact .cons e2 (IsL.take n e3)
theorem IsL.drop : ∀ {ds : List PyData} {vs : List V} (n : Nat), IsL K H ds vs → IsL K H (ds.drop n) (vs.drop n)
  | ds, vs, 0, h => h
  | [], vs, n + 1, h => by simp only [IsL] at h; subst h; exact .nil
  | d :: ds, vs, n + 1, h => by
    simp only [IsL] at h
    obtain ⟨v, r, rfl, e2, e3⟩ := h
    exact IsL.drop n e3
theorem IsL.str_eq : ∀ {ns : List Str} {vs : List V}, IsL K H (ns.map PyData.str) vs → vs = ns.map V.str
  | [], vs, h => by simp only [List.map_nil, IsL] at h; exact h
  | n :: ns, vs, h => by
    simp only [List.map_cons, IsL, Is] at h
    obtain ⟨v, r, rfl, rfl, e3⟩ := h
    rw [IsL.str_eq e3]
    rfl
theorem Is.tup {ds : List PyData} {v : V} (h : Is K H (.tuple ds) v) : ∃ a xs, v = .ref a ∧ SqT K H a xs ∧ IsL K H ds xs := by simpa only [Is] using h
theorem Is.of_tup {ds : List PyData} {a : Addr} {xs : List V} (h : SqT K H a xs) (g : IsL K H ds xs) : Is K H (.tuple ds) (.ref a) := by simp only [Is]; exact ⟨a, xs, rfl, h, g⟩
theorem Is.of_lst {ds : List PyData} {a : Addr} {xs : List V} (h : SqL K H a xs) (g : IsL K H ds xs) : Is K H (.list ds) (.ref a) := by simp only [Is]; exact ⟨a, xs, rfl, h, g⟩
theorem Is.str {z : Str} {v : V} (h : Is K H (.str z) v) : v = .str z := by simpa only [Is] using h
theorem is_str {z : Str} : Is K H (.str z) (.str z) := by simp only [Is]
theorem is_bl {z : Bool} : Is K H (.bool z) (.bl z) := by simp only [Is]
end
noncomputable def nmD (ns : List Str) : PyData := .tuple (ns.map PyData.str)
noncomputable def prD (p : Str × Str) : PyData := .tuple [.str p.1, .str p.2]
noncomputable def psD (ps : List (Str × Str)) : PyData := .tuple (ps.map prD)
noncomputable def hfD (ns : List Str) (ps : List (Str × Str)) : PyData := .tuple [nmD ns, psD ps]
theorem frzL_strs : ∀ ns : List Str, frzL (ns.map PyData.str) = true
  | [] => rfl
  | n :: ns => by simp only [List.map_cons, frzL, frz, frzL_strs ns, Bool.and_self]
theorem frz_nm (ns : List Str) : frz (nmD ns) = true := by simp only [nmD, frz, frzL_strs]
theorem frz_pr (p : Str × Str) : frz (prD p) = true := by simp [prD, frz, frzL]
theorem frzL_prs : ∀ ps : List (Str × Str), frzL (ps.map prD) = true
  | [] => rfl
  | n :: ns => by simp only [List.map_cons, frzL, frz_pr, frzL_prs ns, Bool.and_self]
theorem frz_ps (ps : List (Str × Str)) : frz (psD ps) = true := by simp only [psD, frz, frzL_prs]
theorem frz_hf (ns : List Str) (ps : List (Str × Str)) : frz (hfD ns ps) = true := by simp only [hfD, frz, frzL, frz_nm, frz_ps, Bool.and_self]
section
variable {K : PySem.W.Frag} {H H' : Hp}
theorem Is.nm {ns : List Str} {v : V} (h : Is K H (nmD ns) v) : ∃ a, v = .ref a ∧ SqT K H a (ns.map V.str) := by
  obtain ⟨a, xs, rfl, h1, h2⟩ := Is.tup h
  exact ⟨a, rfl, by rw [← IsL.str_eq h2]; exact h1⟩
theorem is_nm {ns : List Str} {a : Addr} (h : SqT K H a (ns.map V.str)) : Is K H (nmD ns) (.ref a) := Is.of_tup h (is_strs ns)
theorem Is.pr {p : Str × Str} {v : V} (h : Is K H (prD p) v) : ∃ a, v = .ref a ∧ SqT K H a [.str p.1, .str p.2] := by
  obtain ⟨a, xs, rfl, h1, h2⟩ := Is.tup h
  simp only [IsL, Is] at h2
  obtain ⟨_, _, rfl, rfl, _, _, rfl, rfl, rfl⟩ := h2
  exact ⟨a, rfl, h1⟩
theorem is_pr {x y : Str} {a : Addr} (h : SqT K H a [.str x, .str y]) : Is K H (prD (x, y)) (.ref a) := Is.of_tup h (.cons is_str (.one is_str))
theorem Is.hf {ns : List Str} {ps : List (Str × Str)} {v : V} (h : Is K H (hfD ns ps) v) : ∃ a x y, v = .ref a ∧ SqT K H a [x, y] ∧ Is K H (nmD ns) x ∧ Is K H (psD ps) y := by
  obtain ⟨a, xs, rfl, h1, h2⟩ := Is.tup h
  simp only [IsL] at h2
  obtain ⟨x, _, rfl, hx, y, _, rfl, hy, rfl⟩ := h2
  exact ⟨a, x, y, rfl, h1, hx, hy⟩
theorem is_hf {ns : List Str} {ps : List (Str × Str)} {a : Addr} {x y : V} (h : SqT K H a [x, y]) (hx : Is K H (nmD ns) x) (hy : Is K H (psD ps) y) : Is K H (hfD ns ps) (.ref a) := Is.of_tup h (.cons hx (.one hy))
theorem Is.nm_fz {ns : List Str} {v : V} (h : Is K H (nmD ns) v) (e : Fz H H') : Is K H' (nmD ns) v := Is.fz e _ _ (frz_nm ns) h
theorem Is.pr_fz {p : Str × Str} {v : V} (h : Is K H (prD p) v) (e : Fz H H') : Is K H' (prD p) v := Is.fz e _ _ (frz_pr p) h
theorem Is.ps_fz {ps : List (Str × Str)} {v : V} (h : Is K H (psD ps) v) (e : Fz H H') : Is K H' (psD ps) v := Is.fz e _ _ (frz_ps ps) h
theorem Is.hf_fz {ns : List Str} {ps : List (Str × Str)} {v : V} (h : Is K H (hfD ns ps) v) (e : Fz H H') : Is K H' (hfD ns ps) v := Is.fz e _ _ (frz_hf ns ps) h
variable {σ : St} {Q : VK} {x v : V} {i : Int}
theorem i_ixQ {a : Addr} {xs : List V} (h : SqT K H a xs) (e : atI xs i = some v) (k : Q v H) : rIxA K (.ref a) (.int i) H Q := .inl (.inr (.inl ⟨a, xs, i, v, rfl, rfl, h, e, k⟩))
theorem i_ixN {ns : List Str} {z : Str} (h : Is K H (nmD ns) x) (e : atI ns i = some z) (k : Q (.str z) H) : rIxA K x (.int i) H Q := by
  obtain ⟨a, rfl, h1⟩ := h.nm
  refine i_ixQ h1 ?_ k
  unfold atI at e ⊢
  rw [List.length_map]
  cases hj : ixN ns.length i with
  | none => rw [hj] at e; cases e
  | some j =>
    rw [hj] at e
    show (ns.map V.str)[j]? = _
    rw [List.getElem?_map, show ns[j]? = some z from e]
    rfl
theorem i_ixH0 {ns : List Str} {ps : List (Str × Str)} (h : Is K H (hfD ns ps) x) (k : ∀ v, Is K H (nmD ns) v → Q v H) : rIxA K x (.int 0) H Q := by
  obtain ⟨a, u, w, rfl, h1, h2, h3⟩ := h.hf
  exact i_ixQ h1 rfl (k u h2)
theorem i_ixH1 {ns : List Str} {ps : List (Str × Str)} (h : Is K H (hfD ns ps) x) (k : ∀ v, Is K H (psD ps) v → Q v H) : rIxA K x (.int 1) H Q := by
  obtain ⟨a, u, w, rfl, h1, h2, h3⟩ := h.hf
  exact i_ixQ h1 rfl (k w h3)
theorem i_ixP0 {p : Str × Str} (h : Is K H (prD p) x) (k : Q (.str p.1) H) : rIxA K x (.int 0) H Q := by
  obtain ⟨a, rfl, h1⟩ := h.pr
  exact i_ixQ h1 rfl k
theorem i_ixP1 {p : Str × Str} (h : Is K H (prD p) x) (k : Q (.str p.2) H) : rIxA K x (.int 1) H Q := by
  obtain ⟨a, rfl, h1⟩ := h.pr
  exact i_ixQ h1 rfl k
theorem i_lenQ {ds : List PyData} (h : Is K H (.tuple ds) x) (k : Q (.int ds.length) H) : rLenA K [x] H Q := by
  obtain ⟨a, xs, rfl, h1, h2⟩ := h.tup
  rw [IsL.length h2] at k
  exact .inl ⟨.ref a, _, rfl, .inr ⟨xs, h1, rfl⟩, k⟩
theorem i_lenN {ns : List Str} (h : Is K H (nmD ns) x) (k : Q (.int ns.length) H) : rLenA K [x] H Q := i_lenQ h (by rw [List.length_map]; exact k)
theorem flat_strs (ns : List Str) : (ns.map V.str).all flatV = true := by
  rw [List.all_eq_true]
  intro v h
  obtain ⟨n, _, rfl⟩ := List.mem_map.mp h
  rfl
theorem inV_strs (z : Str) : ∀ ns : List Str, inV (.str z) (ns.map V.str) = decide (z ∈ ns)
  | [] => rfl
  | n :: ns => by
    have ih := inV_strs z ns
    unfold inV at ih ⊢
    rw [List.map_cons, List.any_cons, ih]
    have e : eqV (V.str n) (V.str z) = decide (n = z) := by
      show (n == z) = _
      by_cases h : n = z <;> simp [h]
    rw [e]
    by_cases h : n = z
    · subst h
      simp
    · have h' : ¬ z = n := fun q => h q.symm
      by_cases g : z ∈ ns <;> simp [h, h', g]
theorem i_inN {ns : List Str} {z : Str} (h : Is K H (nmD ns) x) (k : Q (.bl (decide (z ∈ ns))) H) : rInA K false (.str z) x H Q := by
  obtain ⟨a, rfl, h1⟩ := h.nm
  exact .inl ⟨a, _, rfl, .inr h1, rfl, flat_strs ns, by rw [inV_strs]; exact k⟩
theorem i_inLN {ns : List Str} {z : Str} {a : Addr} (h : SqL K H a (ns.map V.str)) (k : Q (.bl (decide (z ∈ ns))) H) : rInA K false (.str z) (.ref a) H Q :=
  .inl ⟨a, _, rfl, .inl h, rfl, flat_strs ns, by rw [inV_strs]; exact k⟩
theorem i_ninLN {ns : List Str} {z : Str} {a : Addr} (h : SqL K H a (ns.map V.str)) (k : Q (.bl (!decide (z ∈ ns))) H) : rInA K true (.str z) (.ref a) H Q :=
  .inl ⟨a, _, rfl, .inl h, rfl, flat_strs ns, by rw [inV_strs]; exact k⟩
theorem i_gpair {p : Str × Str} {n m : Nat} {R : St → Hp → Prop} (h : Is K H (prD p) x) (k : R ((σ.set n (some (.str p.1))).set m (some (.str p.2))) H) : gTup K 2 (gCons (gName n) (gCons (gName m) gNil)) x σ H R := by
  obtain ⟨a, rfl, h1⟩ := h.pr
  exact ⟨a, _, rfl, h1, rfl, .str p.1, [.str p.2], rfl, .str p.2, [], rfl, rfl, k⟩
theorem for_is {ds : List PyData} {g : TG} {tb : TS} {D : Ends} (h : Is K H (.tuple ds) x) (hf : frzL ds = true) (Pv : Nat → St → Hp → Prop) (h0 : Pv 0 σ H) (hG : ∀ i σ' H', Pv i σ' H' → Fz H H')
    (hs : ∀ i d v σ' H', ds[i]? = some d → Is K H' d v → Pv i σ' H' → g v σ' H' fun σ2 H2 => tb { D with nx := Pv (i + 1), ct := Pv (i + 1), bk := D.nx } σ2 H2) (hd : ∀ σ' H', Pv ds.length σ' H' → D.nx σ' H') :
    rAnyIt K x H fun J H1 => rFor g tb D σ J H1 := by
  obtain ⟨a, xs, rfl, h1, h2⟩ := h.tup
  refine i_itT h1 (for_by walk_tup Pv h0 (fun i σ' H' p => (hG i σ' H' p).seq h1) (fun i v σ' H' hx hi p => ?_) fun σ' H' p => hd σ' H' (by rw [IsL.length h2]; exact p))
  obtain ⟨d, e1, e2⟩ := IsL.get (IsL.fz (hG i σ' H' p) ds xs hf h2) hx
  exact hs i d v σ' H' e1 e2 p
theorem for_nm {ns : List Str} {g : TG} {tb : TS} {D : Ends} (h : Is K H (nmD ns) x) (Pv : Nat → St → Hp → Prop) (h0 : Pv 0 σ H) (hG : ∀ i σ' H', Pv i σ' H' → Fz H H')
    (hs : ∀ i z σ' H', ns[i]? = some z → Pv i σ' H' → g (.str z) σ' H' fun σ2 H2 => tb { D with nx := Pv (i + 1), ct := Pv (i + 1), bk := D.nx } σ2 H2) (hd : ∀ σ' H', Pv ns.length σ' H' → D.nx σ' H') :
    rAnyIt K x H fun J H1 => rFor g tb D σ J H1 :=
  for_is h (frzL_strs ns) Pv h0 hG (fun i d v σ' H' e h p => by
    rw [List.getElem?_map] at e
    cases hn : ns[i]? with
    | none => rw [hn] at e; cases e
    | some z =>
      rw [hn] at e
      cases e
      rw [h.str]
      exact hs i z σ' H' hn p) fun σ' H' p => hd σ' H' (by rw [List.length_map] at p; exact p)
theorem for_ps {ps : List (Str × Str)} {g : TG} {tb : TS} {D : Ends} (h : Is K H (psD ps) x) (Pv : Nat → St → Hp → Prop) (h0 : Pv 0 σ H) (hG : ∀ i σ' H', Pv i σ' H' → Fz H H')
    (hs : ∀ i p v σ' H', ps[i]? = some p → Is K H' (prD p) v → Pv i σ' H' → g v σ' H' fun σ2 H2 => tb { D with nx := Pv (i + 1), ct := Pv (i + 1), bk := D.nx } σ2 H2) (hd : ∀ σ' H', Pv ps.length σ' H' → D.nx σ' H') :
    rAnyIt K x H fun J H1 => rFor g tb D σ J H1 :=
  for_is h (frzL_prs ps) Pv h0 hG (fun i d v σ' H' e h p => by
    rw [List.getElem?_map] at e
    cases hn : ps[i]? with
    | none => rw [hn] at e; cases e
    | some z =>
      rw [hn] at e
      cases e
      exact hs i z v σ' H' hn h p) fun σ' H' p => hd σ' H' (by rw [List.length_map] at p; exact p)
theorem frzL_map {α : Type} (f : α → PyData) (hf : ∀ a, frz (f a) = true) : ∀ xs : List α, frzL (xs.map f) = true
  | [] => rfl
  | x :: xs => by simp only [List.map_cons, frzL, hf, frzL_map f hf xs, Bool.and_self]
theorem comp_dat {α : Type} {J : It} {xs : List V} {G : Hp → Prop} {g : TG} {tt : TT} {te : TE} {Q : VK} {k : Nat} {js : List Nat} (hw : WalkOf J xs G) (as : List α) (hl : as.length = xs.length) (t : α → Bool) (f : α → PyData) (hf : ∀ a, frz (f a) = true) (hz : xs.length ≤ 1000000) (hG : ∀ H', Same H H' → G H')
    (hs : ∀ (i : Nat) a v H1 (R : VK) (R' : Hp → Prop), as[i]? = some a → xs[i]? = some v → Same H H1 → (t a = true → ∀ y H2, Same H1 H2 → Is K H2 (f a) y → R y H2) → (t a = false → ∀ H2, Same H1 H2 → R' H2) →
      g v (List.replicate k none ++ pick σ js) H1 fun σ2 H2 => tt σ2 H2 fun b H3 => if b = true then te σ2 H3 R else R' H3)
    (hd : ∀ p ys H', H p = none → Same H H' → H' p = some (.lst ys) → IsL K H' ((as.filter t).map f) ys → Q (.ref p) H') : rComp k js g tt te σ J H Q := by
  refine comp_by hw (fun p i acc H1 => Same H H1 ∧ IsL K H1 (((as.take i).filter t).map f) acc) (fun p H' hp e h => ⟨e, by simp only [List.take_zero, List.filter_nil, List.map_nil]; exact .nil⟩) (fun p i acc H1 h => hG H1 h.1) (fun p i x acc H1 hp hx hi hl1 ha ⟨e, hacc⟩ => ?_) fun p acc H1 hp ha hl1 ⟨e, hacc⟩ => ?_
  · have hi' : i < as.length := by omega
    obtain ⟨a, hai⟩ : ∃ a, as[i]? = some a := ⟨as[i], List.getElem?_eq_getElem hi'⟩
    have ht : as.take (i + 1) = as.take i ++ [a] := by rw [List.take_add_one, hai]; rfl
    refine hs i a x H1 _ _ hai hx e (fun h y H2 e2 hy => ?_) fun h H2 e2 => ?_
    · refine push_i hz hi hl1 (e2 _ _ ha) fun H' e' h' => ⟨fun b o hb => e' b o (ne_of_none hb hp) (e2 _ _ (e b o hb)), ?_⟩
      rw [ht, List.filter_append, List.map_append]
      have fz := e'.fzL (e2 _ _ ha)
      refine IsL.append (IsL.fz (e2.fz.trans fz) _ _ (frzL_map f hf _) hacc) ?_
      simp only [List.filter_cons, h, if_true, List.filter_nil, List.map_cons, List.map_nil]
      exact .one (Is.fz fz _ _ (hf a) hy)
    · refine cn_skip hi hl1 (e2 _ _ ha) ⟨e.trans e2, ?_⟩
      rw [ht, List.filter_append, List.map_append]
      simp only [List.filter_cons, h, Bool.false_eq_true, if_false, List.filter_nil, List.map_nil, List.append_nil]
      exact IsL.mono e2 _ _ hacc
  · refine hd p acc H1 hp e ha ?_
    rw [← hl, List.take_length] at hacc
    exact hacc
end
end L2
set_option Elab.async false
set_option linter.all false
set_option maxRecDepth 100000
set_option maxHeartbeats 4000000
namespace L2
open PySem PySem.Spec PyProof.Rows
section
variable {X : Cx} {K : PySem.W.Frag}
noncomputable def isDisp : PyData → Bool
  | .list _ => true
  | .tuple _ => true
  | _ => false
mutual
theorem Is.noDict {H : Hp} : ∀ (d : PyData) (v : V), Is K H d v → d.hasDict = false
  | .none, _, h => by simp only [PyData.hasDict]
  | .bool _, _, h => by simp only [PyData.hasDict]
  | .int _, _, h => by simp only [PyData.hasDict]
  | .str _, _, h => by simp only [PyData.hasDict]
  | .list ds, v, h => by
    simp only [Is] at h
    obtain ⟨a, xs, e1, e2, e3⟩ := h
    simp only [PyData.hasDict]
    exact IsL.noDict ds xs e3
  | .tuple ds, v, h => by
    simp only [Is] at h
    obtain ⟨a, xs, e1, e2, e3⟩ := h
    simp only [PyData.hasDict]
    exact IsL.noDict ds xs e3
  | .dict _, _, h => by simp only [Is] at h
theorem IsL.noDict {H : Hp} : ∀ (ds : List PyData) (vs : List V), IsL K H ds vs → PyData.hasDictAll ds = false
  | [], _, h => by simp only [PyData.hasDictAll]
  | d :: ds, vs, h => by
    simp only [IsL] at h
    obtain ⟨v, r, e1, e2, e3⟩ := h
    simp only [PyData.hasDictAll, Is.noDict d v e2, IsL.noDict ds r e3, Bool.or_self]
end
structure Sh (d : PyData) : Prop where
  dp : isDisp d = true
  sh : d.showable = true
  fits : d.shown.length ≤ sizeLine
  deep : d.depth ≤ 100
noncomputable def rReprK (K : PySem.W.Frag) : List V → Hp → VK → Prop := fun xs H Q => rReprA xs H Q ∨ ∃ x d, xs = [x] ∧ Is K H d x ∧ Sh d ∧ Q (.str d.shown) H
theorem call_reprD (hq : QA X.A) : CallR X (.builtin "repr") (fun xs H Q => ∃ x d, xs = [x] ∧ Is X.K H d x ∧ Sh d ∧ Q (.str d.shown) H) := by
  intro pins s σ H xs us Q I rv h
  obtain ⟨x, d, rfl, i, S, q⟩ := h
  obtain ⟨u, rfl, ru⟩ := rv.one
  obtain ⟨as, ra⟩ := Is.reads I d x u i ru
  have href : ∃ a, u = .ref a := by
    have hd := S.dp
    cases d with
    | list ds => simp only [Is] at i; obtain ⟨a, _, rfl, _⟩ := i; exact ⟨a, ru⟩
    | tuple ds => simp only [Is] at i; obtain ⟨a, _, rfl, _⟩ := i; exact ⟨a, ru⟩
    | _ => cases hd
  obtain ⟨a, rfl⟩ := href
  refine repr_of_reads' ra S.sh (fun hx => absurd hx (by rw [Is.noDict d x i]; exact Bool.false_ne_true)) hq.gd (by have := hq.un; have := S.deep; omega) (fun _ _ e => e) (fun h' t tk hk => ?_) S.fits
  exact ⟨.str d.shown, H, I.kept hk, ⟨t, rfl⟩, q⟩
theorem call_reprK (hq : QA X.A) (hK : X.K = K := by with_unfolding_all rfl) : CallR X (.builtin "repr") (rReprK K) := hK ▸ call_reprA.or (call_reprD hq)
theorem i_reprKB {b : Bool} {H : Hp} {Q : VK} (k : Q (.str (if b then "True" else "False")) H) : rReprK K [.bl b] H Q := .inl (.inl ⟨b, rfl, k⟩)
theorem i_repr {d : PyData} {x : V} {H : Hp} {Q : VK} (h : Is K H d x) (S : Sh d) (k : Q (.str d.shown) H) : rReprK K [x] H Q := .inr ⟨x, d, rfl, h, S, k⟩
noncomputable def strRep (z : Str) (n : Nat) : Str := ⟨(List.replicate n z.cps).foldl (· ++ ·) #[]⟩
noncomputable def rMulS : R2 := fun x y H Q => ∃ z n, x = .str z ∧ y = .int n ∧ 2 ≤ n ∧ n ≤ 1000 ∧ z.length ≤ 1000 ∧ 0 < z.length ∧ Q (.str (strRep z n.toNat)) H
theorem op_mulS : OpR X (binaryOp .Mult) rMulS := by
  intro pins s σ H x y v u Q I rx ry h
  obtain ⟨z, n, rfl, rfl, h1, h2, h3, h4, q⟩ := h
  obtain ⟨t, rfl⟩ := rx
  obtain ⟨t2, rfl⟩ := ry
  have a1 : ¬ n < 1 := by omega
  have a2 : (n == 1 || z.length == 0) = false := by
    have e1 : (n == 1) = false := by simp; omega
    have e2 : (z.length == 0) = false := by simp; omega
    rw [e1, e2]; rfl
  have hz : z.length * n.toNat ≤ 1000000 := by
    have : z.length * n.toNat ≤ 1000 * 1000 := Nat.mul_le_mul h3 (by omega)
    omega
  have hlen : (strRep z n.toNat).length ≤ sizeLine := by
    have e : ∀ (m : Nat) (a : Array Nat), ((List.replicate m z.cps).foldl (· ++ ·) a).size = a.size + m * z.cps.size := by
      intro m
      induction m with
      | zero => intro a; simp
      | succ m ih => intro a; rw [List.replicate_succ, List.foldl_cons, ih, Array.size_append, Nat.succ_mul]; omega
    show ((List.replicate n.toNat z.cps).foldl (· ++ ·) #[]).size ≤ sizeLine
    rw [e]
    have e2 : z.cps.size = z.length := rfl
    rw [e2, sizeLine_eq, Nat.mul_comm]
    simp
    omega
  refine PySem.P.mul_str (by
      have b1 : ¬ n < -(2 ^ 63 : Int) := by omega
      have b2 : ¬ n ≥ 2 ^ 63 := by omega
      rw [decide_eq_false b1, decide_eq_false b2]; rfl) (fun _ _ => ?_) (fun _ _ => ?_) ?_
  · have : (2 ^ 63 - 1 : Int) / n ≥ 1000 := by
      refine Int.le_ediv_of_mul_le (by omega) ?_
      have : 1000 * n ≤ 1000 * 1000 := by omega
      omega
    omega
  · have hz2 : z.length * n.toNat ≤ sizeLine := line_of hz
    rw [sizeLine_eq] at hz2
    unfold Builtin.Str.tooLong
    simp [sizeLine_eq]
    omega
  · rw [if_neg a1, a2, if_neg Bool.false_ne_true]
    exact ⟨hlen, .str _, H, I.kept fun _ _ e => e, ⟨_, rfl⟩, q⟩
noncomputable def rMulB : R2 := fun x y H Q => rMulA x y H Q ∨ rMulS x y H Q
theorem op_mulB : OpR X (binaryOp .Mult) rMulB := op_mulA.or op_mulS
theorem i_mulBI {i j : Int} {H : Hp} {Q : VK} (h : CMul i j) (k : Q (.int (i * j)) H) : rMulB (.int i) (.int j) H Q := .inl (i_mulI h k)
theorem i_mulBS {z : Str} {n : Int} {H : Hp} {Q : VK} (h : 2 ≤ n ∧ n ≤ 1000 ∧ z.length ≤ 1000 ∧ 0 < z.length) (k : Q (.str (strRep z n.toNat)) H) : rMulB (.str z) (.int n) H Q := .inr ⟨z, n, rfl, rfl, h.1, h.2.1, h.2.2.1, h.2.2.2, k⟩
theorem i_mulBL {i : Int} {H : Hp} {Q : VK} {a : Addr} {xs : List V} (h1 : H a = some (.lst xs)) (h2 : -(2 ^ 63) ≤ i ∧ i < 2 ^ 63) (h3 : xs.length * i.toNat ≤ sizeLine) (k : ∀ p H', H p = none → Same H H' → H' p = some (.lst (List.replicate i.toNat xs).flatten) → Q (.ref p) H') : rMulB (.ref a) (.int i) H Q := .inl (i_mulL h1 h2 h3 k)
noncomputable def rIs (neg : Bool) : R2 := fun x y H Q => (y = .non ∧ Q (.bl (if neg then !decide (x = .non) else decide (x = .non))) H) ∨ ∃ a b, x = .bl a ∧ y = .bl b ∧ Q (.bl (if neg then !(a == b) else a == b)) H
theorem i_isN {x : V} {H : Hp} {Q : VK} (k : Q (.bl (decide (x = .non))) H) : rIs false x .non H Q := .inl ⟨rfl, k⟩
theorem i_isNotN {x : V} {H : Hp} {Q : VK} (k : Q (.bl (!decide (x = .non))) H) : rIs true x .non H Q := .inl ⟨rfl, k⟩
theorem i_isB {a b : Bool} {H : Hp} {Q : VK} (k : Q (.bl (a == b)) H) : rIs false (.bl a) (.bl b) H Q := .inr ⟨a, b, rfl, rfl, k⟩
theorem i_isNotB {a b : Bool} {H : Hp} {Q : VK} (k : Q (.bl (!(a == b))) H) : rIs true (.bl a) (.bl b) H Q := .inr ⟨a, b, rfl, rfl, k⟩
noncomputable def insL (xs : List V) (i : Nat) (y : V) : List V := xs.take i ++ y :: xs.drop i
noncomputable def rInsert : V → List V → Hp → VK → Prop := fun x vs H Q => ∃ l xs i y, x = .ref l ∧ vs = [.int i, y] ∧ H l = some (.lst xs) ∧ 0 ≤ i ∧ i ≤ xs.length ∧ xs.length < sizeLine ∧ Q .non (upd H l (.lst (insL xs i.toNat y)))
theorem mt_insert : MtM X "list.insert" rInsert := by
  intro pins s σ H x vs v us Q I rx rv h
  obtain ⟨l, xs, i, y, rfl, rfl, hH, h0, h1, hz, q⟩ := h
  cases rx
  obtain ⟨u, w, rfl, ru, rw'⟩ := Vals.two rv
  obtain ⟨t, rfl⟩ := ru
  obtain ⟨z, its, n, r, hl, e⟩ := I.lstM hH
  have hlen := r.length
  refine call_meets F.slot_list_insert ⟨_, e, rfl⟩ F.entry_list_insert (F.args_list_insert_3 _ _ _)
    (AutoSeq1.list_insert_list_int_val_1 l its.toArray n i t w (by rw [fitsIndex_both (by omega) (by rw [sizeLine_eq] at hz; omega)]; decide) (by rw [List.size_toArray]; omega)) ⟨e, ?_⟩
  refine ⟨.non, _, I.lset (its' := its.take i.toNat ++ w :: its.drop i.toNat) hH e ?_ ((r.take i.toNat).append (.cons rw' (r.drop i.toNat))) ?_, rfl, q⟩
  · have hi : i.toNat ≤ its.length := by omega
    show (have k := if i < 0 then (i + ((its.toArray.size : Nat) : Int)).toNat else min i.toNat its.toArray.size; (its.toArray.extract 0 k).push w ++ its.toArray.extract k) = _
    rw [if_neg (by omega), List.size_toArray, Nat.min_eq_left hi]
    simp [List.extract_eq_drop_take]
    exact List.take_of_length_le (by rw [List.length_drop]; omega)
  · rw [List.length_append, List.length_cons, List.length_take, List.length_drop]
    omega
section
variable {D : Ends} {σ : St} {H : Hp} {t u : TS} {te td ty tv : TE} {g : TG}
theorem i_cut (M : St → Hp → Prop) (h1 : ∀ N : St → Hp → Prop, (∀ σ' H', M σ' H' → N σ' H') → t { D with nx := N } σ H) (h2 : ∀ σ' H', M σ' H' → u D σ' H') : tSeq t u D σ H := h1 (u D) h2
end
theorem i_listA {a : Addr} {xs : List V} {H : Hp} {Q : VK} (h : SqL K H a xs ∨ SqT K H a xs) (k : ∀ p H', H p = none → Same H H' → H' p = some (.lst xs) → Q (.ref p) H') : rListA K [.ref a] H Q := ⟨a, xs, rfl, h, fun p hp => k p _ hp (Same.upd hp) upd_same⟩
theorem mm {id : String} {r : V → List V → Hp → VK → Prop} (h : MtM X id r) : MtR X id r := h
theorem i_tyLm {a : Addr} {xs : List V} {H : Hp} {B : Prop} (h : H a = some (.lst xs)) (k : B) : tyV K "list" (.ref a) H ∧ B := ⟨.inl ⟨rfl, xs, SqL.of h⟩, k⟩
theorem i_ins {l : Addr} {xs : List V} {y : V} {i : Int} {H : Hp} {Q : VK} (h : H l = some (.lst xs)) (h0 : 0 ≤ i) (h1 : i ≤ xs.length) (hz : xs.length ≤ 1000000) (k : ∀ H', ExtBut l H H' → H' l = some (.lst (insL xs i.toNat y)) → Q .non H') : rInsert (.ref l) [.int i, y] H Q :=
  ⟨l, xs, i, y, rfl, rfl, h, h0, h1, by rw [sizeLine_eq]; omega, k _ ExtBut.upd upd_same⟩
theorem i_appR {l : Addr} {xs : List V} {y : V} {H : Hp} {Q : VK} (h : H l = some (.lst xs)) (hz : xs.length ≤ 1000000) (k : ∀ H', ExtBut l H H' → H' l = some (.lst (xs ++ [y])) → Q .non H') : rAppend (.ref l) [y] H Q :=
  ⟨l, xs, y, rfl, rfl, h, by rw [sizeLine_eq]; omega, k _ ExtBut.upd upd_same⟩
theorem i_extR {l b : Addr} {xs zs : List V} {H : Hp} {Q : VK} (h : H l = some (.lst xs)) (hb : H b = some (.lst zs)) (hz : xs.length + zs.length ≤ 1000000) (k : ∀ H', ExtBut l H H' → H' l = some (.lst (xs ++ zs)) → Q .non H') : rExtend (.ref l) [.ref b] H Q :=
  ⟨l, b, xs, zs, rfl, rfl, h, hb, line_of hz, k _ ExtBut.upd upd_same⟩
theorem i_popR {l : Addr} {xs : List V} {y : V} {H : Hp} {Q : VK} (h : H l = some (.lst (xs ++ [y]))) (k : ∀ H', ExtBut l H H' → H' l = some (.lst xs) → Q y H') : rPop (.ref l) [] H Q :=
  ⟨l, xs ++ [y], y, rfl, rfl, h, by simp, by rw [List.dropLast_concat]; exact k _ ExtBut.upd upd_same⟩
theorem i_popAtR {l : Addr} {xs : List V} {y : V} {i : Int} {H : Hp} {Q : VK} (h : H l = some (.lst xs)) (h0 : 0 ≤ i) (h1 : xs[i.toNat]? = some y) (k : ∀ H', ExtBut l H H' → H' l = some (.lst (xs.eraseIdx i.toNat)) → Q y H') (hz : xs.length ≤ 1000000) : rPopAt (.ref l) [.int i] H Q := by
  have h2 := (List.getElem?_eq_some_iff.mp h1).1
  refine ⟨l, xs, i, i.toNat, y, rfl, rfl, h, by omega, by omega, ?_, h1, k _ ExtBut.upd upd_same⟩
  have e := atI_get (atI_nat (α := V) h1)
  obtain ⟨j, e1, e2, e3, _⟩ := e
  rw [Int.toNat_of_nonneg h0] at e1
  rw [e1]
  have e4 : seqIndex? i xs.length = some i.toNat := by
    unfold seqIndex? at e1 ⊢
    simp [show ¬ i < 0 by omega] at e1 ⊢
    omega
  rw [← e1, e4]
noncomputable def stepV (xs : List V) (k : Int) : List V := if k = 1 then xs else xs.reverse
noncomputable def rSlStep (K : PySem.W.Frag) : V → V → Hp → VK → Prop := fun x y H Q => ∃ a xs k, x = .ref a ∧ y = .int k ∧ (k = 1 ∨ k = -1) ∧ SqL K H a xs ∧ ∀ p, H p = none → Q (.ref p) (upd H p (.lst (stepV xs k)))
theorem pick_one (items : Array Value) : slicePick items none none (some 1) = items := by
  have e : slicePick items none none (some 1) = slicePick items none none none := rfl
  rw [e, slicePick_cut]
  simp [HT.sIx]
  rw [show items.size = items.toList.length by simp, List.take_length]
theorem pe_sliceStep {e st : Expr} {te ts : TE} {p2 pos : Pos} (he : PE X e te) (hst : PE X st ts) (hK : X.K = K := by with_unfolding_all rfl) : PE X (.Subscript e (.Slice none none (some st) p2) pos) (tOp (rSlStep K) te ts) := by
  subst hK
  intro pins s σ H Q I h
  refine Subscript_ (thn (he pins s σ H _ I h) fun v s1 ⟨x, H1, I1, r1, q1⟩ => ?_)
  refine wpAny_Slice ?_
  rw [evalPart_none]
  refine wpAny_pure (wpAny_pure ?_)
  rw [evalPart_some]
  refine thn (hst pins s1 σ H1 _ I1 q1) fun u s2 ⟨y, H2, I2, r2, q2⟩ => ?_
  obtain ⟨a, xs, k, rfl, rfl, hk, hx, q⟩ := q2
  cases r1
  obtain ⟨t, rfl⟩ := r2
  have I4 : Inv X pins σ H2 { s2 with heap := s2.heap.push { cls := .type "slice", data := .fields #[.none, .none, .int k t] } } := I2.kept (t' := s2.toks) fun b ob q => Heap.get?_push_of_some _ q
  obtain ⟨its, r, ht, hz⟩ := I4.list hx
  have hlen := r.length
  refine tail_any (ops := [.ref a, .ref s2.heap.objs.size]) ht.isList.typeIs slot_list_getitem.lookup ?_ (by with_unfolding_all rfl)
  refine wpAny_getItem_list_slice ht.isList (Heap.IsSliceOf.new ..) .none .none (.int k t) (by rcases hk with rfl | rfl <;> decide) ?_ (by rw [List.size_toArray]; omega)
  rcases hk with rfl | rfl
  · rw [pick_one]
    refine ⟨.ref _, _, I4.laid (t' := s2.toks) (o := .lst (stepV xs 1)) (fun b ob q => Heap.get?_push_of_some _ q) (Nat.le_refl _) ?_, rfl, q _ (I4.hok.fresh (Nat.le_refl _))⟩
    exact ⟨hz, _, 0, r, Heap.get?_push_size _ rfl⟩
  · rw [PySem.W.krv_pick]
    refine ⟨.ref _, _, I4.laid (t' := s2.toks) (o := .lst (stepV xs (-1))) (fun b ob q => Heap.get?_push_of_some _ q) (Nat.le_refl _) ?_, rfl, q _ (I4.hok.fresh (Nat.le_refl _))⟩
    exact ⟨by show xs.reverse.length ≤ _; rw [List.length_reverse]; exact hz, _, 0, by show Vals xs.reverse _; exact r.reverse, Heap.get?_push_size _ rfl⟩
theorem i_step {a : Addr} {xs : List V} {k : Int} {H : Hp} {Q : VK} (h : SqL K H a xs) (hk : k = 1 ∨ k = -1) (c : ∀ p H', H p = none → Same H H' → H' p = some (.lst (stepV xs k)) → Q (.ref p) H') : rSlStep K (.ref a) (.int k) H Q :=
  ⟨a, xs, k, rfl, rfl, hk, h, fun p hp => c p _ hp (Same.upd hp) upd_same⟩
end
end L2
set_option Elab.async false
set_option linter.all false
set_option maxRecDepth 100000
set_option maxHeartbeats 4000000
namespace L2
open PySem PySem.Spec PyProof.Rows
noncomputable def smallN (c : Nat) : Bool := decide (97 ≤ c) && decide (c ≤ 122)
noncomputable def isNm (x : Str) : Bool := decide (1 ≤ x.length) && decide (x.length ≤ 8) && x.cps.toList.all smallN
noncomputable def Names (ns : List Str) : Prop := ns.Nodup ∧ ∀ z ∈ ns, isNm z = true
noncomputable def LL : Str := "abcdefghijklmnopqrstuvwxyzabcdefghijklmnopqrstuvwxyz"
theorem LL_rep : strRep "abcdefghijklmnopqrstuvwxyz" (2 : Int).toNat = LL := by decide +kernel
noncomputable def LLn : List Nat := LL.cps.toList
theorem LL_len : LL.length = 52 := by decide +kernel
theorem LLn_len : LLn.length = 52 := by decide +kernel
theorem LL_small : ∀ c ∈ LLn, smallN c = true := by decide +kernel
noncomputable def txt (l : List Nat) : Str := ⟨l.toArray⟩
theorem txt_inj {a b : List Nat} (h : txt a = txt b) : a = b := by
  have : a.toArray = b.toArray := congrArg Str.cps h
  simpa using this
theorem txt_app (a b : List Nat) : txt a ++ txt b = txt (a ++ b) := by
  show (⟨a.toArray ++ b.toArray⟩ : Str) = ⟨(a ++ b).toArray⟩
  simp
theorem txt_name {l : List Nat} (h0 : 1 ≤ l.length) (h1 : l.length ≤ 8) (h2 : ∀ c ∈ l, smallN c = true) : isNm (txt l) = true := by
  unfold isNm
  have e : (txt l).length = l.length := by show l.toArray.size = _; simp
  rw [e, decide_eq_true h0, decide_eq_true h1]
  show (true && true && l.all smallN) = true
  rw [List.all_eq_true.mpr h2]
  rfl
noncomputable def cutN (a b : Nat) : List Nat := (LLn.drop a).take (b - a)
theorem cutN_len {a b : Nat} (h : a ≤ b) (h1 : b ≤ 52) : (cutN a b).length = b - a := by
  unfold cutN
  rw [List.length_take, List.length_drop, LLn_len]
  omega
theorem cutN_small {a b : Nat} : ∀ c ∈ cutN a b, smallN c = true := fun c hc => LL_small c (List.mem_of_mem_drop (List.mem_of_mem_take hc))
theorem LL_cut {i j : Int} (h0 : 0 ≤ i) (h1 : i ≤ j) (h2 : j ≤ 52) : Txt.slice LL (some i) (some j) = txt (cutN i.toNat j.toNat) := by
  have e := StrLaws.sliceText_plain (x := LL) (i := i) (j := j) ⟨h0, h1, by rw [show LL.cps.toList.length = 52 by decide +kernel]; omega⟩
  have e2 : (j - i).toNat = j.toNat - i.toNat := by omega
  rw [e2] at e
  exact e
noncomputable def sgnN (i : Nat) : List Nat := (LLn.drop i).take 1
theorem LL_at {i : Int} (h0 : 0 ≤ i) (h1 : i < 52) : ∃ c, atI LL.cps.toList i = some c ∧ (⟨#[c]⟩ : Str) = txt (sgnN i.toNat) := by
  have h2 : i.toNat < LLn.length := by rw [LLn_len]; omega
  refine ⟨LLn[i.toNat], ?_, ?_⟩
  · have := atI_nat (List.getElem?_eq_getElem h2)
    rwa [Int.toNat_of_nonneg h0] at this
  · unfold sgnN
    rw [List.drop_eq_getElem_cons h2]
    rfl
theorem sgnN_len {i : Nat} (h : i < 52) : (sgnN i).length = 1 := by
  unfold sgnN
  rw [List.length_take, List.length_drop, LLn_len]
  omega
theorem sgnN_small {i : Nat} : ∀ c ∈ sgnN i, smallN c = true := fun c hc => LL_small c (List.mem_of_mem_drop (List.mem_of_mem_take hc))
noncomputable def nm0 (s : Nat) : List (List Nat) := (List.range 8).map (fun k => cutN s (s + 1 + k)) ++ [sgnN (s + 9), sgnN (s + 10)]
noncomputable def nm1 (s z a : Nat) : List (List Nat) := (List.range 10).map fun k => cutN s (s + a) ++ sgnN (s + 5 * k % 26) ++ cutN (s + a + 1) (s + z)
noncomputable def nm2 (s : Nat) : List (List Nat) := (List.range 10).map fun k => cutN (s + k) (s + k + 1 + 3 * k % 8)
theorem nd0 : ∀ s < 26, (nm0 s).Nodup := by decide +kernel
theorem nd2 : ∀ s < 26, (nm2 s).Nodup := by decide +kernel
theorem nd1' : ∀ s < 26, ((List.range 10).map fun k => sgnN (s + 5 * k % 26)).Nodup := by decide +kernel
theorem nodup_map_on {α β : Type} {f : α → β} : ∀ {l : List α}, l.Nodup → (∀ a ∈ l, ∀ b ∈ l, f a = f b → a = b) → (l.map f).Nodup
  | [], _, _ => by simp
  | a :: l, h, hf => by
    rw [List.map_cons, List.nodup_cons]
    rw [List.nodup_cons] at h
    refine ⟨fun hm => ?_, nodup_map_on h.2 fun x hx y hy => hf x (List.mem_cons_of_mem _ hx) y (List.mem_cons_of_mem _ hy)⟩
    obtain ⟨b, hb, e⟩ := List.mem_map.mp hm
    have := hf b (List.mem_cons_of_mem _ hb) a List.mem_cons_self e
    subst this
    exact h.1 hb
theorem inj_of_nodup_map {α β : Type} {f : α → β} : ∀ {l : List α}, (l.map f).Nodup → ∀ a ∈ l, ∀ b ∈ l, f a = f b → a = b
  | [], _, a, ha, _, _, _ => by cases ha
  | c :: l, h, a, ha, b, hb, e => by
    rw [List.map_cons, List.nodup_cons] at h
    rcases List.mem_cons.mp ha with q | ha'
    · rcases List.mem_cons.mp hb with q' | hb'
      · rw [q, q']
      · exact absurd (List.mem_map.mpr ⟨b, hb', by rw [← e, q]⟩) h.1
    · rcases List.mem_cons.mp hb with q' | hb'
      · exact absurd (List.mem_map.mpr ⟨a, ha', by rw [e, q']⟩) h.1
      · exact inj_of_nodup_map h.2 a ha' b hb' e
theorem nodup_txt {l : List (List Nat)} (h : l.Nodup) : (l.map txt).Nodup := nodup_map_on h fun a _ b _ e => txt_inj e
theorem nd1 {s z a : Nat} (hs : s < 26) : (nm1 s z a).Nodup := by
  refine nodup_map_on List.nodup_range fun k hk j hj e => ?_
  have e1 : sgnN (s + 5 * k % 26) = sgnN (s + 5 * j % 26) := List.append_cancel_left (List.append_cancel_right e)
  exact inj_of_nodup_map (f := fun k => sgnN (s + 5 * k % 26)) (nd1' s hs) k hk j hj e1
theorem ok_nm0 {s : Nat} (hs : s < 26) : Names ((nm0 s).map txt) := by
  refine ⟨nodup_txt (nd0 s hs), fun z hz => ?_⟩
  obtain ⟨l, hl, rfl⟩ := List.mem_map.mp hz
  rcases List.mem_append.mp hl with h | h
  · obtain ⟨k, hk, rfl⟩ := List.mem_map.mp h
    have hk := List.mem_range.mp hk
    have e := cutN_len (a := s) (b := s + 1 + k) (by omega) (by omega)
    exact txt_name (by omega) (by omega) cutN_small
  · simp only [List.mem_cons, List.not_mem_nil, or_false] at h
    rcases h with rfl | rfl
    · have e := sgnN_len (i := s + 9) (by omega)
      exact txt_name (by omega) (by omega) sgnN_small
    · have e := sgnN_len (i := s + 10) (by omega)
      exact txt_name (by omega) (by omega) sgnN_small
theorem ok_nm1 {s z a : Nat} (hs : s < 26) (ha : a < z) (hz : z ≤ 8) : Names ((nm1 s z a).map txt) := by
  refine ⟨nodup_txt (nd1 hs), fun y hy => ?_⟩
  obtain ⟨l, hl, rfl⟩ := List.mem_map.mp hy
  obtain ⟨k, hk, rfl⟩ := List.mem_map.mp hl
  have hm : 5 * k % 26 < 26 := Nat.mod_lt _ (by decide)
  have e1 := cutN_len (a := s) (b := s + a) (by omega) (by omega)
  have e2 := sgnN_len (i := s + 5 * k % 26) (by omega)
  have e3 := cutN_len (a := s + a + 1) (b := s + z) (by omega) (by omega)
  refine txt_name (by simp only [List.length_append]; omega) (by simp only [List.length_append]; omega) fun c hc => ?_
  rcases List.mem_append.mp hc with hc | hc
  · rcases List.mem_append.mp hc with hc | hc
    · exact cutN_small c hc
    · exact sgnN_small c hc
  · exact cutN_small c hc
theorem ok_nm2 {s : Nat} (hs : s < 26) : Names ((nm2 s).map txt) := by
  refine ⟨nodup_txt (nd2 s hs), fun z hz => ?_⟩
  obtain ⟨l, hl, rfl⟩ := List.mem_map.mp hz
  obtain ⟨k, hk, rfl⟩ := List.mem_map.mp hl
  have hk := List.mem_range.mp hk
  have hm : 3 * k % 8 < 8 := Nat.mod_lt _ (by decide)
  have e := cutN_len (a := s + k) (b := s + k + 1 + 3 * k % 8) (by omega) (by omega)
  exact txt_name (by omega) (by omega) cutN_small
noncomputable def nm3 : List Str := ["names", "ahead", "name", "a", "ab", "aheads", "last", "ask", "row", "end"]
theorem ok_nm3 : Names nm3 := ⟨by decide +kernel, by decide +kernel⟩
theorem Names.sub {ns ms : List Str} (h : Names ns) (hn : ms.Nodup) (hs : ∀ z ∈ ms, z ∈ ns) : Names ms := ⟨hn, fun z hz => h.2 z (hs z hz)⟩
theorem Names.perm {ns ms : List Str} (h : Names ns) (p : ms.Perm ns) : Names ms := ⟨p.nodup_iff.mpr h.1, fun z hz => h.2 z (p.mem_iff.mp hz)⟩
theorem Names.sublist {ns ms : List Str} (h : Names ns) (p : ms.Sublist ns) : Names ms := ⟨h.1.sublist p, fun z hz => h.2 z (p.subset hz)⟩
theorem Names.reverse {ns : List Str} (h : Names ns) : Names ns.reverse := h.perm (List.reverse_perm _)
theorem Names.turn {ns : List Str} (h : Names ns) (t n : Nat) : Names ((ns.drop t ++ ns.take t).take n) :=
  Names.sublist (ns := ns.drop t ++ ns.take t) (h.perm (List.perm_append_comm.trans (by rw [List.take_append_drop]))) (List.take_sublist _ _)
theorem cut_from {xs : List V} {t : Int} (h0 : 0 ≤ t) (h1 : t ≤ xs.length) : cutV xs (some t) none = xs.drop t.toNat := by
  have e : HT.sIx xs.length 0 (some t) = t.toNat := by unfold HT.sIx; simp [show ¬ t < 0 by omega]; omega
  unfold cutV
  rw [e]
  have e2 : HT.sIx xs.length xs.length none = xs.length := rfl
  rw [e2]
  exact List.take_of_length_le (by rw [List.length_drop]; omega)
theorem cut_upto {xs : List V} {t : Int} (h0 : 0 ≤ t) : cutV xs none (some t) = xs.take t.toNat := by
  have e : HT.sIx xs.length xs.length (some t) = min t.toNat xs.length := by unfold HT.sIx; simp [show ¬ t < 0 by omega]
  unfold cutV
  rw [e]
  have e2 : HT.sIx xs.length 0 none = 0 := rfl
  rw [e2, List.drop_zero, Nat.sub_zero, Nat.min_comm]
  rw [← List.take_take]
  exact List.take_of_length_le (by rw [List.length_take]; omega)
theorem rng_get {lo : Int} {n i : Nat} {x : V} (h : ((List.range n).map fun (i : Nat) => V.int (lo + (i : Int)))[i]? = some x) : x = .int (lo + (i : Int)) ∧ i < n := by
  rw [List.getElem?_map] at h
  cases e : (List.range n)[i]? with
  | none => rw [e] at h; cases h
  | some j =>
    rw [e] at h
    cases h
    have e1 := List.getElem?_eq_some_iff.mp e
    obtain ⟨h1, h2⟩ := e1
    rw [List.length_range] at h1
    rw [List.getElem_range] at h2
    subst h2
    exact ⟨rfl, h1⟩
noncomputable def fI (F : Int → V) : V → V
  | .int k => F k
  | v => v
theorem map_rng {lo : Int} {n : Nat} {F : Int → V} {G : Nat → Str} (h : ∀ k < n, F (lo + (k : Int)) = .str (G k)) : ((List.range n).map fun (i : Nat) => V.int (lo + (i : Int))).map (fI F) = ((List.range n).map G).map V.str := by
  rw [List.map_map, List.map_map]
  refine List.map_congr_left fun k hk => ?_
  exact h k (List.mem_range.mp hk)
theorem LL_line : LL.length ≤ sizeLine := by rw [LL_len, sizeLine_eq]; omega
theorem step_names {ns : List Str} (h : Names ns) {k : Int} : ∃ ms, stepV (ns.map V.str) k = ms.map V.str ∧ Names ms ∧ ms.length = ns.length := by
  unfold stepV
  split
  · exact ⟨ns, rfl, h, rfl⟩
  · exact ⟨ns.reverse, by rw [List.map_reverse], h.reverse, List.length_reverse ..⟩
theorem ExtBut.off {d q : Addr} {H H1 H2 : Hp} (e : ExtBut d H H1) (hq : H q = none) (e2 : ExtBut q H1 H2) : ExtBut d H H2 := fun b o n h => e2 b o (ne_of_none h hq) (e b o n h)
theorem Same.off {q : Addr} {H H1 H2 : Hp} (e : Same H H1) (hq : H q = none) (e2 : ExtBut q H1 H2) : Same H H2 := fun b o h => e2 b o (ne_of_none h hq) (e b o h)
noncomputable def Up (ls : List Str) (ps : List (Str × Str)) : Prop := ∀ p ∈ ps, ∃ i j : Nat, i < j ∧ ls[i]? = some p.1 ∧ ls[j]? = some p.2
theorem Up.nil {ls : List Str} : Up ls [] := fun _ h => by cases h
theorem Up.append {ls : List Str} {ps qs : List (Str × Str)} (h : Up ls ps) (g : Up ls qs) : Up ls (ps ++ qs) := fun p hp => by
  rcases List.mem_append.mp hp with hp | hp
  · exact h p hp
  · exact g p hp
theorem Up.one {ls : List Str} {x y : Str} {i j : Nat} (h : i < j) (hx : ls[i]? = some x) (hy : ls[j]? = some y) : Up ls [(x, y)] := fun p hp => by
  have : p = (x, y) := by simpa using hp
  subst this
  exact ⟨i, j, h, hx, hy⟩
theorem Up.sub {ls : List Str} {ps qs : List (Str × Str)} (h : Up ls ps) (s : ∀ p ∈ qs, p ∈ ps) : Up ls qs := fun p hp => h p (s p hp)
theorem str_at? {ls : List Str} {i : Int} (h0 : 0 ≤ i) (h1 : i < ls.length) : ∃ z, ls[i.toNat]? = some z ∧ atI (ls.map V.str) i = some (.str z) ∧ atI ls i = some z := by
  have h2 : i.toNat < ls.length := by omega
  refine ⟨ls[i.toNat], List.getElem?_eq_getElem h2, ?_, ?_⟩
  · have := atI_nat (xs := ls.map V.str) (j := i.toNat) (v := .str ls[i.toNat]) (by rw [List.getElem?_map, List.getElem?_eq_getElem h2]; rfl)
    rwa [Int.toNat_of_nonneg h0] at this
  · have := atI_nat (List.getElem?_eq_getElem h2)
    rwa [Int.toNat_of_nonneg h0] at this
theorem perm_erase {α : Type} : ∀ (us : List α) (k : Nat) (y : α), us[k]? = some y → (y :: us.eraseIdx k).Perm us
  | [], k, y, h => by simp at h
  | u :: us, 0, y, h => by
    have : u = y := by simpa using h
    subst this
    exact List.Perm.refl _
  | u :: us, k + 1, y, h => by
    have ih := perm_erase us k y (by simpa using h)
    exact (List.Perm.swap u y _).trans (ih.cons u)
theorem perm_pop {α : Type} {us : List α} {k : Nat} {y : α} (h : us[k]? = some y) (vs : List α) : (vs ++ [y] ++ us.eraseIdx k).Perm (vs ++ us) := by
  rw [List.append_assoc]
  exact List.Perm.append_left vs (perm_erase us k y h)
theorem getD_of {α : Type} {l : List α} {i : Nat} {x y : α} (h : l[i]? = some x) : l.getD i y = x := by rw [List.getD_eq_getElem?_getD, h]; rfl
theorem map_prD {α : Type} (as : List α) (f : α → Str × Str) : as.map (fun a => prD (f a)) = (as.map f).map prD := by rw [List.map_map]; rfl
theorem get_getD {α : Type} {l : List α} {i : Nat} {y : α} (h : i < l.length) : l[i]? = some (l.getD i y) := by rw [List.getD_eq_getElem?_getD, List.getElem?_eq_getElem h]; rfl
end L2
set_option Elab.async false
set_option linter.all false
set_option maxRecDepth 100000
set_option maxHeartbeats 4000000
namespace L2
open PySem PySem.Spec PyProof.Rows
inductive Way (ps : List (Str × Str)) : Str → Str → Prop
  | one {x y : Str} : (x, y) ∈ ps → Way ps x y
  | cons {x z y : Str} : (x, z) ∈ ps → Way ps z y → Way ps x y
theorem Way.trans {ps : List (Str × Str)} {x y z : Str} (h : Way ps x y) (g : Way ps y z) : Way ps x z := by
  induction h with
  | one e => exact .cons e g
  | cons e _ ih => exact .cons e (ih g)
theorem Way.snoc {ps : List (Str × Str)} {x y z : Str} (h : Way ps x y) (g : (y, z) ∈ ps) : Way ps x z := h.trans (.one g)
theorem Way.left {ps : List (Str × Str)} {x y : Str} (h : Way ps x y) : x ∈ ps.map (·.1) := by
  cases h with
  | one e => exact List.mem_map.mpr ⟨_, e, rfl⟩
  | cons e _ => exact List.mem_map.mpr ⟨_, e, rfl⟩
theorem Way.right {ps : List (Str × Str)} {x y : Str} (h : Way ps x y) : y ∈ ps.map (·.2) := by
  induction h with
  | one e => exact List.mem_map.mpr ⟨_, e, rfl⟩
  | cons _ _ ih => exact ih
theorem Way.mono {ps qs : List (Str × Str)} (h : ∀ p ∈ ps, p ∈ qs) {x y : Str} (g : Way ps x y) : Way qs x y := by
  induction g with
  | one e => exact .one (h _ e)
  | cons e _ ih => exact .cons (h _ e) ih
theorem Way.shut {ps : List (Str × Str)} {S : Str → Prop} {x : Str} (h0 : ∀ y, (x, y) ∈ ps → S y) (h1 : ∀ z y, S z → (z, y) ∈ ps → S y) {y : Str} (g : Way ps x y) : S y := by
  induction g with
  | one e => exact h0 _ e
  | cons e _ ih => exact ih fun y hy => h1 _ _ (h0 _ e) hy
theorem Up.lt {ls : List Str} (hn : ls.Nodup) {ps : List (Str × Str)} (h : Up ls ps) {x y : Str} (g : Way ps x y) : ∃ i j : Nat, i < j ∧ ls[i]? = some x ∧ ls[j]? = some y := by
  induction g with
  | one e => exact h _ e
  | cons e _ ih =>
    obtain ⟨i, j, h1, h2, h3⟩ := h _ e
    obtain ⟨i', j', g1, g2, g3⟩ := ih
    have e : j = i' := by
      obtain ⟨a, b⟩ := List.getElem?_eq_some_iff.mp h3
      obtain ⟨c, d⟩ := List.getElem?_eq_some_iff.mp g2
      exact (List.getElem_inj hn).mp (b.trans d.symm)
    exact ⟨i, j', by omega, h2, g3⟩
theorem Up.irrefl {ls : List Str} (hn : ls.Nodup) {ps : List (Str × Str)} (h : Up ls ps) {x : Str} : ¬ Way ps x x := fun g => by
  obtain ⟨i, j, h1, h2, h3⟩ := h.lt hn g
  obtain ⟨a, b⟩ := List.getElem?_eq_some_iff.mp h2
  obtain ⟨c, d⟩ := List.getElem?_eq_some_iff.mp h3
  have := (List.getElem_inj hn).mp (b.trans d.symm)
  omega
theorem Up.mem {ls : List Str} {ps : List (Str × Str)} (h : Up ls ps) {p : Str × Str} (hp : p ∈ ps) : p.1 ∈ ls ∧ p.2 ∈ ls := by
  obtain ⟨i, j, _, h2, h3⟩ := h p hp
  exact ⟨List.mem_of_getElem? h2, List.mem_of_getElem? h3⟩
structure Half (ns : List Str) (ps : List (Str × Str)) : Prop where
  names : Names ns
  few : ns.length ≤ 10
  le : ps.length ≤ 60
  line : ∃ ls : List Str, ls.Perm ns ∧ Up ls ps
theorem Half.irrefl {ns : List Str} {ps : List (Str × Str)} (h : Half ns ps) {x : Str} : ¬ Way ps x x := by
  obtain ⟨ls, h1, h2⟩ := h.line
  exact h2.irrefl (h1.nodup_iff.mpr h.names.1)
theorem Half.mem {ns : List Str} {ps : List (Str × Str)} (h : Half ns ps) {p : Str × Str} (hp : p ∈ ps) : p.1 ∈ ns ∧ p.2 ∈ ns := by
  obtain ⟨ls, h1, h2⟩ := h.line
  have := h2.mem hp
  exact ⟨h1.mem_iff.mp this.1, h1.mem_iff.mp this.2⟩
theorem eqv_nil_strs (ls : List Str) : PyData.eqv (.list (ls.map PyData.str)) (.list []) = ls.isEmpty := by
  cases ls <;> simp [PyData.eqv, PyData.eqvAll]
mutual
def plainD : PyData → Bool
  | .none => true
  | .bool _ => true
  | .str x => PyData.strOk x
  | .list ds => plainL ds
  | .tuple ds => plainL ds
  | _ => false
def plainL : List PyData → Bool
  | [] => true
  | d :: ds => plainD d && plainL ds
end
mutual
theorem plain_lay : ∀ d : PyData, plainD d = true → d.canLay0 = true
  | .none, _ => by simp only [PyData.canLay0]
  | .bool _, _ => by simp only [PyData.canLay0]
  | .str x, h => by simpa only [PyData.canLay0, plainD] using h
  | .list ds, h => by simp only [PyData.canLay0]; exact plain_layL ds (by simpa only [plainD] using h)
  | .tuple ds, h => by simp only [PyData.canLay0]; exact plain_layL ds (by simpa only [plainD] using h)
  | .int _, h => by simp [plainD] at h
  | .dict _, h => by simp [plainD] at h
theorem plain_layL : ∀ ds : List PyData, plainL ds = true → PyData.canLayAll0 ds = true
  | [], _ => by simp only [PyData.canLayAll0]
  | d :: ds, h => by
    simp only [plainL, Bool.and_eq_true] at h
    simp only [PyData.canLayAll0, plain_lay d h.1, plain_layL ds h.2, Bool.and_self]
end
mutual
theorem plain_sh : ∀ d : PyData, plainD d = true → d.showable = true
  | .none, _ => by simp only [PyData.showable]
  | .bool _, _ => by simp only [PyData.showable]
  | .str x, h => by simp only [PyData.showable]
  | .list ds, h => by simp only [PyData.showable]; exact plain_shL ds (by simpa only [plainD] using h)
  | .tuple ds, h => by simp only [PyData.showable]; exact plain_shL ds (by simpa only [plainD] using h)
  | .int _, h => by simp [plainD] at h
  | .dict _, h => by simp [plainD] at h
theorem plain_shL : ∀ ds : List PyData, plainL ds = true → PyData.showableAll ds = true
  | [], _ => by simp only [PyData.showableAll]
  | d :: ds, h => by
    simp only [plainL, Bool.and_eq_true] at h
    simp only [PyData.showableAll, plain_sh d h.1, plain_shL ds h.2, Bool.and_self]
end
mutual
theorem plain_ints : ∀ d : PyData, plainD d = true → d.intsShort 13 = true
  | .none, _ => by simp only [PyData.intsShort]
  | .bool _, _ => by simp only [PyData.intsShort]
  | .str x, h => by simp only [PyData.intsShort]
  | .list ds, h => by simp only [PyData.intsShort]; exact plain_intsL ds (by simpa only [plainD] using h)
  | .tuple ds, h => by simp only [PyData.intsShort]; exact plain_intsL ds (by simpa only [plainD] using h)
  | .int _, h => by simp [plainD] at h
  | .dict _, h => by simp [plainD] at h
theorem plain_intsL : ∀ ds : List PyData, plainL ds = true → PyData.intsShortAll 13 ds = true
  | [], _ => by simp only [PyData.intsShortAll]
  | d :: ds, h => by
    simp only [plainL, Bool.and_eq_true] at h
    simp only [PyData.intsShortAll, plain_ints d h.1, plain_intsL ds h.2, Bool.and_self]
end
structure Fine (d : PyData) : Prop where
  plain : plainD d = true
  deep : d.depth ≤ 60
  light : d.weight ≤ 1000000
theorem Fine.sh {d : PyData} (h : Fine d) (hd : isDisp d = true) : Sh d := by
  refine ⟨hd, plain_sh d h.plain, ?_, Nat.le_trans h.deep (by decide)⟩
  have h2 := PyData.shown_le 13 (by decide) d (PyData.leavesShort_of_canLay0 13 d (plain_lay d h.plain) (plain_ints d h.plain))
  have := h.light
  rw [sizeLine_eq]
  omega
theorem Fine.shaped {d : PyData} (h : Fine d) : SeqAt.shaped d = true := by
  unfold SeqAt.shaped
  rw [plain_lay d h.plain, decide_eq_true (Nat.le_trans h.deep (by decide))]
  rfl
theorem nm_ok {z : Str} (h : isNm z = true) : PyData.strOk z = true ∧ z.cps.size ≤ 8 := by
  unfold isNm at h
  simp only [Bool.and_eq_true, decide_eq_true_eq] at h
  refine ⟨?_, h.1.2⟩
  unfold PyData.strOk
  rw [← Array.all_toList, List.all_eq_true]
  intro c hc
  have := List.all_eq_true.mp h.2 c hc
  unfold smallN at this
  simp only [Bool.and_eq_true, decide_eq_true_eq] at this
  exact decide_eq_true (by omega)
theorem plainL_map {α : Type} (f : α → PyData) : ∀ xs : List α, (∀ a ∈ xs, plainD (f a) = true) → plainL (xs.map f) = true
  | [], _ => by simp only [List.map_nil, plainL]
  | x :: xs, h => by simp only [List.map_cons, plainL, h x List.mem_cons_self, plainL_map f xs fun a ha => h a (List.mem_cons_of_mem _ ha), Bool.and_self]
theorem depth_map {α : Type} (f : α → PyData) (n : Nat) : ∀ xs : List α, (∀ a ∈ xs, (f a).depth ≤ n) → PyData.depthAll (xs.map f) ≤ n
  | [], _ => by simp only [List.map_nil, PyData.depthAll]; omega
  | x :: xs, h => by
    have h1 := h x List.mem_cons_self
    have h2 := depth_map f n xs fun a ha => h a (List.mem_cons_of_mem _ ha)
    simp only [List.map_cons, PyData.depthAll]
    omega
theorem weight_map {α : Type} (f : α → PyData) (n : Nat) : ∀ xs : List α, (∀ a ∈ xs, (f a).weight ≤ n) → PyData.weightAll (xs.map f) ≤ xs.length * (n + 1)
  | [], _ => by simp only [List.map_nil, PyData.weightAll]; omega
  | x :: xs, h => by
    have h1 := h x List.mem_cons_self
    have h2 := weight_map f n xs fun a ha => h a (List.mem_cons_of_mem _ ha)
    simp only [List.map_cons, PyData.weightAll, List.length_cons, Nat.add_mul]
    omega
theorem pr_facts {p : Str × Str} (h1 : isNm p.1 = true) (h2 : isNm p.2 = true) : plainD (prD p) = true ∧ (prD p).depth ≤ 1 ∧ (prD p).weight ≤ 18 := by
  have a := nm_ok h1
  have b := nm_ok h2
  refine ⟨by simp only [prD, plainD, plainL, a.1, b.1, Bool.and_self], by simp only [prD, PyData.depth, PyData.depthAll]; omega, ?_⟩
  simp only [prD, PyData.weight, PyData.weightAll]
  omega
theorem nm_facts {ns : List Str} (h : ∀ z ∈ ns, isNm z = true) : plainD (nmD ns) = true ∧ (nmD ns).depth ≤ 1 ∧ (nmD ns).weight ≤ ns.length * 9 := by
  refine ⟨by simp only [nmD, plainD]; exact plainL_map _ ns fun z hz => by simp only [plainD]; exact (nm_ok (h z hz)).1, ?_, ?_⟩
  · simp only [nmD, PyData.depth]
    have := depth_map PyData.str 0 ns fun z hz => by simp only [PyData.depth]; omega
    omega
  · simp only [nmD, PyData.weight]
    exact weight_map PyData.str 8 ns fun z hz => by simp only [PyData.weight]; exact (nm_ok (h z hz)).2
noncomputable def NmP (ps : List (Str × Str)) : Prop := ∀ p ∈ ps, isNm p.1 = true ∧ isNm p.2 = true
theorem ps_facts {ps : List (Str × Str)} (h : NmP ps) : plainD (psD ps) = true ∧ (psD ps).depth ≤ 2 ∧ (psD ps).weight ≤ ps.length * 19 := by
  refine ⟨by simp only [psD, plainD]; exact plainL_map _ ps fun z hz => (pr_facts (h z hz).1 (h z hz).2).1, ?_, ?_⟩
  · simp only [psD, PyData.depth]
    have := depth_map prD 1 ps fun z hz => (pr_facts (h z hz).1 (h z hz).2).2.1
    omega
  · simp only [psD, PyData.weight]
    exact weight_map prD 18 ps fun z hz => (pr_facts (h z hz).1 (h z hz).2).2.2
theorem fine_hf {ns : List Str} {ps : List (Str × Str)} (h : ∀ z ∈ ns, isNm z = true) (g : NmP ps) (hn : ns.length ≤ 1000) (hl : ps.length ≤ 1000) : Fine (hfD ns ps) := by
  obtain ⟨a, b, c⟩ := nm_facts h
  obtain ⟨a', b', c'⟩ := ps_facts g
  refine ⟨by simp only [hfD, plainD, plainL, a, a', Bool.and_self], ?_, ?_⟩
  · simp only [hfD, PyData.depth, PyData.depthAll]
    omega
  · simp only [hfD, PyData.weight, PyData.weightAll]
    omega
theorem fine_lst {ns : List Str} (h : ∀ z ∈ ns, PyData.strOk z = true) : SeqAt.shaped (.list (ns.map PyData.str)) = true := by
  unfold SeqAt.shaped
  have e : (PyData.list (ns.map PyData.str)).canLay0 = true := plain_lay _ (by simp only [plainD]; exact plainL_map _ ns fun z hz => by simp only [plainD]; exact h z hz)
  have e2 : (PyData.list (ns.map PyData.str)).depth ≤ 64 := by
    simp only [PyData.depth]
    have := depth_map PyData.str 0 ns fun z hz => by simp only [PyData.depth]; omega
    omega
  rw [e, decide_eq_true e2]
  rfl
theorem Half.nmP {ns : List Str} {ps : List (Str × Str)} (h : Half ns ps) : NmP ps := fun p hp => ⟨h.names.2 _ (h.mem hp).1, h.names.2 _ (h.mem hp).2⟩
theorem Half.fine {ns : List Str} {ps : List (Str × Str)} (h : Half ns ps) : Fine (hfD ns ps) := fine_hf h.names.2 h.nmP (Nat.le_trans h.few (by decide)) (Nat.le_trans h.le (by decide))
theorem nodup_le {α : Type} [DecidableEq α] : ∀ {xs ys : List α}, xs.Nodup → (∀ x ∈ xs, x ∈ ys) → xs.length ≤ ys.length
  | [], _, _, _ => Nat.zero_le _
  | x :: xs, ys, h, hs => by
    rw [List.nodup_cons] at h
    have hx : x ∈ ys := hs x List.mem_cons_self
    have ih := nodup_le (xs := xs) (ys := ys.erase x) h.2 fun z hz => by
      refine (List.mem_erase_of_ne ?_).mpr (hs z (List.mem_cons_of_mem _ hz))
      intro e
      subst e
      exact h.1 hz
    rw [List.length_erase_of_mem hx] at ih
    have : 0 < ys.length := List.length_pos_of_mem hx
    rw [List.length_cons]
    omega
section
variable {c : TT} {tb : TS} {D : Ends} {σ : St} {H : Hp}
theorem i_while (W : Nat → St → Hp → Prop) (m : Nat) (h0 : W m σ H)
    (hs : ∀ m σ H, W m σ H → c σ H fun b H1 => if b = true then ∃ N : St → Hp → Prop, (∀ σ' H', N σ' H' → ∃ m', m' < m ∧ W m' σ' H') ∧ tb { D with nx := N, ct := N, bk := D.nx } σ H1 else D.nx σ H1) : tWhile c tb D σ H := ⟨W, ⟨m, h0⟩, hs⟩
theorem i_turn {W : Nat → St → Hp → Prop} {m : Nat} (h : tb { D with nx := fun σ' H' => ∃ m', m' < m ∧ W m' σ' H', ct := fun σ' H' => ∃ m', m' < m ∧ W m' σ' H', bk := D.nx } σ H) :
    ∃ N : St → Hp → Prop, (∀ σ' H', N σ' H' → ∃ m', m' < m ∧ W m' σ' H') ∧ tb { D with nx := N, ct := N, bk := D.nx } σ H := ⟨_, fun _ _ h => h, h⟩
end
end L2
set_option Elab.async false
set_option linter.all false
set_option maxRecDepth 100000
set_option maxHeartbeats 4000000
namespace L2
open PySem PySem.Spec PyProof.Rows
section
variable {X : Cx} {K : PySem.W.Frag}
noncomputable def rUpdate : V → List V → Hp → VK → Prop := fun x vs H Q => ∃ d o kvs more, x = .ref d ∧ vs = [.ref o] ∧ d ≠ o ∧ H d = some (.dK kvs) ∧ H o = some (.dK more) ∧ kvs.length + more.length ≤ 1000000 ∧ Q .non (upd H d (.dK (mergeK kvs more)))
theorem mt_update : MtM X "dict.update" rUpdate := by
  intro pins s σ H x vs v us Q I rx rv h
  obtain ⟨d, o, kvs, more, rfl, rfl, hdo, hD, hO, hz, q⟩ := h
  cases rx
  obtain ⟨u, rfl, ru⟩ := rv.one
  cases ru
  obtain ⟨z1, hd1, vs1, rel1, dd1⟩ := dk_of I.hok hD
  obtain ⟨z2, hd2, vs2, rel2, dd2⟩ := dk_of I.hok hO
  have l1 : kvs.length = vs1.length := rel1.length
  have l2 : more.length = vs2.length := rel2.length
  refine call_meetsIn F.slot_dict_update dd1.typeIs F.entry_dict_update (F.args_dict_update_2 _ _) (meets_dict_update (mixKind X.prog X.w) d o hdo hd2) ⟨vs1, vs2, dd1, dd2, line_of (by omega), fun h' dd' _ hs => ?_⟩
  have he : ∃ q, h'.get? d = some q := let ⟨q, _, _, hq, _⟩ := dd'; ⟨q, hq⟩
  refine ⟨.non, _, d_write I (by rw [hD]; exact True.intro) hs he (dk_new ?_ hd1 (KV.merge rel2 rel1) dd'), rfl, q⟩
  have := length_mergeK more kvs
  exact line_of (by omega)
end
end L2
set_option Elab.async false
set_option linter.all false
set_option maxRecDepth 100000
set_option maxHeartbeats 4000000
namespace L2
open PySem PySem.Spec PyProof.Rows
theorem entry_dloop : entryFor table "dict.update.loop" = some Builtin.«dict.update.loop» := entryFor_of_tree (by kernel_rfl)
theorem plain_dloop : plainId "dict.update.loop" = true := by decide +kernel
theorem list_no_keys : typeLookup (.type "list") "keys" = pure none := by rw [typeLookup_type, builtinLookup_eq_fast]; kernel_rfl
section
variable {prog : Program} {w : World} {κ : Type} [DecidableEq κ] {knd : KeyKind prog w κ} {A : Around} {E : Value → Shared → Prop} {s : Shared}
theorem keys_miss {a : Addr} {xs : Array Value} {k : Nat} {Q : Option Value → Shared → Prop} (hx : s.heap.get? a = some { cls := .type "list", data := .seq xs k }) (hA : A.handled = none)
    (h : ∀ h' tk, (∀ b o, s.heap.get? b = some o → h'.get? b = some o) → Q none { s with heap := h', toks := tk }) : wpAny (model prog w) A (getAttr? (.ref a) "keys") Q E s := by
  obtain ⟨hp, g, d, tk, os⟩ := s
  have hT : ∀ tk', (⟨hp, g, d, tk', os⟩ : Shared).TypeIs (.ref a) "list" := fun _ => ⟨_, hx, rfl⟩
  have f1 := sub_AttributeError
  have f3 := F.slot_list_getattribute.lookup
  have f4 := F.slot_list_getattribute.bind (.ref a)
  have f5 := am_list_getattr_none
  unfold getAttr? getAttrBy? getAttrBy
  repeat (any_goals (first | assumption | exact hT _ | ((with_reducible show wpAny _ _ (call (Value.builtin "list.__getattribute__") _ _) _ _ _); refine call_meets F.slot_list_getattribute (hT _) am_entry_list_getattribute (F.args_list_getattribute_2 _ _) (meets_getattribute_miss_list a xs k #[] "keys" _ list_no_keys (by decide +kernel) (by rw [sizeLine_eq]; decide +kernel)) ⟨hx, hA, fun h' tk' e hx' => ?_⟩) | wp_step))
  obtain ⟨t', u', he⟩ := hx'.there
  show wpAny _ _ (getattributeRaised _ _ _ _ _ _ _) _ _ _
  unfold getattributeRaised
  repeat (any_goals (first | assumption | wp_step))
  exact h _ _ hx'.keeps
theorem pair_items {t : Addr} {k v : Value} {Q : List Value → Shared → Prop} (ht : IsTup s.heap t #[k, v]) (h : Q [k, v] s) : wpAny (model prog w) A (Builtin.Dict.pairItems (.ref t)) Q E s := by
  obtain ⟨o, ho, hc, n, hd⟩ := ht
  unfold Builtin.Dict.pairItems
  refine wpAny_bind (wpAny_typeOf ⟨o, ho, hc⟩ ?_)
  rw [if_pos (by decide)]
  refine wpAny_bind (wpAny_seqItems ho hd ?_)
  exact wpAny_pure h
theorem dict_loop {I D l : Addr} {items : Array Value} (hh : A.in1.handled = none) (hne : l ≠ I) (hDI : D ≠ I) (hDl : D ≠ l) (pk : List (κ × Value × Addr × Value)) (hlen : pk.length = items.size) (hz : items.size ≤ 1000000) :
    ∀ (j i : Nat) (s : Shared) (R : Result → Shared → Prop), items.size - i = j → i ≤ items.size → s.heap.IsListIter I l i → s.heap.IsList l items →
      s.heap.DictOf knd D (merged [] ((pk.take i).map fun p => (p.1, p.2.1))) →
      (∀ (n : Nat) (p : κ × Value × Addr × Value), pk[n]? = some p → items[n]? = some (Value.ref p.2.2.1) ∧ p.2.2.1 ≠ I ∧ p.2.2.1 ≠ D ∧ IsTup s.heap p.2.2.1 #[p.2.2.2, p.2.1] ∧ knd.is p.1 p.2.2.2 = true) →
      (∀ h' tk, h'.DictOf knd D (merged [] (pk.map fun p => (p.1, p.2.1))) → (∀ b o, b ≠ D → b ≠ I → s.heap.get? b = some o → h'.get? b = some o) → R (.ok (.ret .none)) { s with heap := h', toks := tk }) →
      codeAny (model prog w) A (.builtin "dict.update.loop" ⟨[.ref D, .ref I, .int i 0, .none], []⟩) R s := by
  have W := Walks.list (prog := prog) (w := w) hh I l hne items
  intro j
  induction j with
  | zero =>
    intro i s R hj hi hI hL hD hP hR
    have hin : i = items.size := by omega
    subst hin
    refine codeAny_builtin entry_dloop ?_
    rw [Around.under_plainId plain_dloop _]
    show wpAny _ A.in1 (pyNext (.ref I) >>= _) _ _ s
    refine wpAny_bind (W.done s _ _ ⟨hI, hL⟩ fun h' tk hm => ?_)
    show wpAny _ A.in1 (Builtin.Dict.addKeywords D [] >>= _) _ _ _
    refine wpAny_bind (wpAny_pure (wpAny_pure (hR h' tk ?_ fun b o hb hb' e => hm b o (by simpa using hb') e)))
    rw [← hlen, List.take_length] at hD
    obtain ⟨o, es, ep, ho, r⟩ := hD
    exact ⟨o, es, ep, hm D o (by simpa using hDI) ho, r⟩
  | succ j ih =>
    intro i s R hj hi hI hL hD hP hR
    have hlt : i < items.size := by omega
    obtain ⟨p, hp⟩ : ∃ p, pk[i]? = some p := ⟨pk[i]'(by omega), List.getElem?_eq_getElem _⟩
    obtain ⟨q1, q2, q3, q4, q5⟩ := hP i p hp
    refine codeAny_builtin entry_dloop ?_
    rw [Around.under_plainId plain_dloop _]
    show wpAny _ A.in1 (pyNext (.ref I) >>= _) _ _ s
    refine wpAny_bind (W.item i s _ _ hlt ⟨hI, hL⟩ fun v h' tk hv hst hm => ?_)
    have hv' : v = .ref p.2.2.1 := by
      have hv2 : items[i]? = some v := hv
      rw [q1] at hv2
      exact (Option.some.inj hv2).symm
    subst hv'
    have ht' : IsTup h' p.2.2.1 #[p.2.2.2, p.2.1] := by
      obtain ⟨o, ho, r⟩ := q4
      exact ⟨o, hm _ o (by simpa using q2) ho, r⟩
    have hD' : h'.DictOf knd D (merged [] ((pk.take i).map fun p => (p.1, p.2.1))) := by
      obtain ⟨o, es, ep, ho, r⟩ := hD
      exact ⟨o, es, ep, hm D o (by simpa using hDI) ho, r⟩
    show wpAny _ A.in1 (holding [Value.ref p.2.2.1] _ >>= _) _ _ _
    refine wpAny_bind (wpAny_holding ?_)
    refine wpAny_bind (wpAny_tryCatch (pair_items ht' ?_))
    show wpAny _ A.in1 (holding [p.2.2.2, p.2.1] (dictSet D p.2.2.2 p.2.1)) _ _ _
    refine wpAny_holding (wpAny_dictSet_pairs q5 hD' (fun h'' hD'' hs => ?_) ?_)
    · refine wpAny_pure ⟨plainId_quiet plain_dloop _, ?_⟩
      have hkeep : ∀ b o, b ≠ D → b ≠ I → s.heap.get? b = some o → h''.get? b = some o := fun b o h1 h2 e => (hs.2 b h1).trans (hm b o (by simpa using h2) e)
      refine ih (i + 1) _ R (by omega) hlt ?_ ?_ ?_ (fun n p' hp' => ?_) fun h3 tk3 hD3 hk3 => hR h3 tk3 hD3 fun b o h1 h2 e => hk3 b o h1 h2 (hkeep b o h1 h2 e)
      · exact hst.1.at fun o e => (hs.2 I (Ne.symm hDI)).trans e
      · exact hst.2.at fun o e => (hs.2 l (Ne.symm hDl)).trans e
      · have e : merged [] ((pk.take (i + 1)).map fun p => (p.1, p.2.1)) = stored (merged [] ((pk.take i).map fun p => (p.1, p.2.1))) p.1 p.2.1 := by
          rw [List.take_add_one, hp]
          unfold merged
          rw [List.map_append, List.foldl_append]
          rfl
        rw [e]
        exact hD''
      · obtain ⟨a1, a2, a3, ⟨o, ho, r⟩, a5⟩ := hP n p' hp'
        exact ⟨a1, a2, a3, ⟨o, hkeep _ o a3 a2 ho, r⟩, a5⟩
    · refine Nat.le_trans (merged_length_le _ _) (line_of ?_)
      rw [List.length_map, List.length_take]
      simp
      omega
theorem call_dict_pairs {l : Addr} {items : Array Value} {n : Nat} {Q : Value → Shared → Prop} (hl : s.heap.get? l = some { cls := .type "list", data := .seq items n }) (hA : A.handled = none) (pk : List (κ × Value × Addr × Value)) (hlen : pk.length = items.size) (hz : items.size ≤ 1000000)
    (hP : ∀ (n : Nat) (p : κ × Value × Addr × Value), pk[n]? = some p → items[n]? = some (Value.ref p.2.2.1) ∧ IsTup s.heap p.2.2.1 #[p.2.2.2, p.2.1] ∧ knd.is p.1 p.2.2.2 = true)
    (h : ∀ h' tk, h'.DictOf knd s.heap.objs.size (merged [] (pk.map fun p => (p.1, p.2.1))) → (∀ b o, s.heap.get? b = some o → h'.get? b = some o) → Q (.ref s.heap.objs.size) { s with heap := h', toks := tk }) :
    wpAny (model prog w) A (call (.type "dict") [.ref l]) Q E s := by
  refine callType_codes (Q₁ := fun obj s₁ => obj = .ref s.heap.objs.size ∧ s₁ = { s with heap := s.heap.push { cls := .type "dict", data := .dict #[] } }) F.kt_called_dict (F.kt_typeCall_dict_1 _) F.entry_dict_init (kt_code_dict_new _ ⟨rfl, rfl⟩) ?_
  rintro obj s₁ ⟨rfl, rfl⟩
  have hnew : (s.heap.push { cls := .type "dict", data := .dict #[] }).DictOf knd s.heap.objs.size [] := Heap.DictOf.new s.heap
  have hl' : (s.heap.push { cls := .type "dict", data := .dict #[] }).get? l = some { cls := .type "list", data := .seq items n } := Heap.get?_push_of_some _ hl
  have hll : l < s.heap.objs.size := Heap.lt_size hl
  refine ⟨hnew.typeIs, F.args_dict_init_2 _ _, ?_⟩
  unfold Builtin.«dict.__init__»
  refine wpAny_bind ?_
  unfold Builtin.Dict.selfAndRest
  refine wpAny_bind (wpAny_notOrdered_dict hnew.typeIs ?_)
  show wpAny _ _ (pure (s.heap.objs.size, [Value.ref l])) _ _ _
  refine wpAny_pure ?_
  show wpAny _ _ (Builtin.Dict.updateFrom "dict.__init__" s.heap.objs.size (.ref l) [] .none) _ _ _
  unfold Builtin.Dict.updateFrom
  refine wpAny_bind (wpAny_typeOf ⟨_, hl', rfl⟩ ?_)
  rw [if_pos (by decide)]
  refine wpAny_bind (keys_miss hl' (by simpa using hA) fun h1 tk1 hk1 => ?_)
  have hl1 : h1.get? l = some { cls := .type "list", data := .seq items n } := hk1 _ _ hl'
  rw [if_pos (show (none : Option Value).isNone = true from rfl)]
  have hD1 : h1.DictOf knd s.heap.objs.size [] := by
    obtain ⟨o, es, ep, ho, r⟩ := hnew
    exact ⟨o, es, ep, hk1 _ _ ho, r⟩
  have hsz : s.heap.objs.size < h1.objs.size := by
    obtain ⟨o, es, ep, ho, r⟩ := hD1
    exact Heap.lt_size ho
  refine wpAny_bind (wpAny_rule ?_)
  have hL1 : h1.IsList l items := ⟨_, hl1, rfl, n, rfl⟩
  refine wpAny_bind (wpAny_pyIter_list hL1 ?_)
  refine wpAny_pure ⟨plainId_quiet plain_dloop _, ?_⟩
  have kp : ∀ b o, s.heap.get? b = some o → (h1.push { cls := .type "list_iterator", data := .fields #[.ref l, .int 0 0] }).get? b = some o := fun b o e => Heap.get?_push_of_some _ (hk1 _ _ (Heap.get?_push_of_some _ e))
  refine dict_loop (knd := knd) (A := A.in1) (I := h1.objs.size) (D := s.heap.objs.size) (l := l) (items := items) (by simpa using hA) (Nat.ne_of_lt (Nat.lt_trans hll hsz)) (Nat.ne_of_lt hsz) (Nat.ne_of_gt hll) pk hlen hz items.size 0 _ _ (Nat.sub_zero _) (Nat.zero_le _) ⟨_, Heap.get?_push_size _ rfl, rfl, rfl⟩ (hL1.push _) ?_ (fun m p hp => ?_) fun h' tk hD hk => ?_
  · exact hD1.push _
  · obtain ⟨a1, ⟨o, ho, r⟩, a3⟩ := hP m p hp
    have hlt := Heap.lt_size ho
    exact ⟨a1, Nat.ne_of_lt (Nat.lt_trans hlt hsz), Nat.ne_of_lt hlt, ⟨o, kp _ _ ho, r⟩, a3⟩
  · refine ⟨rfl, h h' tk hD fun b o e => ?_⟩
    have hlt := Heap.lt_size e
    exact hk b o (Nat.ne_of_lt hlt) (Nat.ne_of_lt (Nat.lt_trans hlt hsz)) (kp b o e)
end
noncomputable def PrsK (K : PySem.W.Frag) (H : Hp) : List (Key × V) → List V → Prop
  | [], ys => ys = []
  | kv :: r, ys => ∃ t ys', ys = .ref t :: ys' ∧ SqT K H t [kV kv.1, kv.2] ∧ PrsK K H r ys'
theorem PrsK.pk {X : Cx} {pins : List (Addr × Obj)} {σ : St} {H : Hp} {s : Shared} (I : Inv X pins σ H s) : ∀ (kvs : List (Key × V)) (ys : List V) (its : List Value), PrsK X.K H kvs ys → Vals ys its →
    ∃ pk : List (Key × Value × Addr × Value), pk.length = its.length ∧ KV kvs (pk.map fun p => (p.1, p.2.1)) ∧ ∀ (n : Nat) (p : Key × Value × Addr × Value), pk[n]? = some p → its[n]? = some (Value.ref p.2.2.1) ∧ IsTup s.heap p.2.2.1 #[p.2.2.2, p.2.1] ∧ (mixKind X.prog X.w).is p.1 p.2.2.2 = true
  | [], ys, its, h, v => by
    have h' : ys = [] := h
    subst h'
    cases v
    exact ⟨[], rfl, .nil, fun n p hp => by simp at hp⟩
  | kv :: r, ys, its, h, v => by
    obtain ⟨t, ys', rfl, h2, h3⟩ := h
    cases v with
    | cons v1 v2 =>
      obtain ⟨pk, l1, l2, l3⟩ := PrsK.pk I r ys' _ h3 v2
      cases v1
      obtain ⟨its2, rv, ht, _⟩ := I.tuple h2
      obtain ⟨key, val, rfl, a1, a3⟩ := Vals.two rv
      refine ⟨(kv.1, val, t, key) :: pk, by simp [l1], .cons ⟨rfl, a3⟩ l2, fun n p hp => ?_⟩
      cases n with
      | zero =>
        have : p = (kv.1, val, t, key) := (Option.some.inj (by simpa using hp)).symm
        subst this
        exact ⟨rfl, ht, kV_is a1⟩
      | succ n => exact l3 n p (by simpa using hp)
section
variable {X : Cx} {K : PySem.W.Frag}
noncomputable def rDictA (K : PySem.W.Frag) : List V → Hp → VK → Prop := fun xs H Q => ∃ l ys kvs, xs = [V.ref l] ∧ H l = some (.lst ys) ∧ PrsK K H kvs ys ∧ ys.length ≤ 1000000 ∧ kvs.length ≤ 1000000 ∧ ∀ p, H p = none → Q (.ref p) (upd H p (.dK (mergeK [] kvs)))
theorem call_dictA (hr : X.A.handled = none) : CallR X (.type "dict") (rDictA X.K) := by
  intro pins s σ H xs us Q I rv h
  obtain ⟨l, ys, kvs, rfl, hl, hp, hz, hz2, q⟩ := h
  obtain ⟨u, rfl, ru⟩ := rv.one
  cases ru
  obtain ⟨z, its, n, r, hlen, e⟩ := I.lstM hl
  obtain ⟨pk, l1, l2, l3⟩ := PrsK.pk I kvs ys its hp r
  refine call_dict_pairs (knd := mixKind X.prog X.w) e hr pk (by simpa using l1) (by simp; omega) (fun n p hp => ?_) fun h' tk hD hk => ?_
  · obtain ⟨a1, a2, a3⟩ := l3 n p hp
    exact ⟨by simpa using a1, a2, a3⟩
  · refine ⟨.ref s.heap.objs.size, _, I.laid hk (Nat.le_refl _) (dk_new ?_ ?_ (KV.merge l2 .nil) hD), rfl, q _ (I.hok.fresh (Nat.le_refl _))⟩
    · have := length_mergeK kvs []
      exact line_of (by simpa using Nat.le_trans this (by simpa using hz2))
    · exact beq_eq_false_iff_ne.mpr (Nat.ne_of_gt I.big)
theorem call_dictK (hr : X.A.handled = none) (hK : X.K = K := by with_unfolding_all rfl) : CallR X (.type "dict") (rDictA K) := hK ▸ call_dictA hr
end
end L2
set_option Elab.async false
set_option linter.all false
set_option maxRecDepth 100000
set_option maxHeartbeats 4000000
namespace L2
open PySem PySem.Spec PyProof.Rows
noncomputable def tabK (ns : List Str) (as : List Addr) : List (Key × V) := (ns.zip as).map fun p => (Sum.inr p.1, V.ref p.2)
noncomputable def rowK (ks : List Str) : List (Key × V) := ks.map fun y => (Sum.inr y, V.bl true)
theorem valV_tab : ∀ {ns : List Str} {as : List Addr} {i : Nat} {z : Str} {a : Addr}, ns.Nodup → ns[i]? = some z → as[i]? = some a → valV (tabK ns as) (Sum.inr z : Key) = some (.ref a)
  | [], _, i, _, _, _, h, _ => by simp at h
  | n :: ns, [], i, _, _, _, _, h => by simp at h
  | n :: ns, b :: as, 0, z, a, _, h, g => by
    simp at h g
    subst h g
    exact valV_pos rfl
  | n :: ns, b :: as, i + 1, z, a, hn, h, g => by
    rw [List.nodup_cons] at hn
    have h' : ns[i]? = some z := by simpa using h
    have ne : ¬ (Sum.inr n : Key) = Sum.inr z := by
      intro e
      have e2 : n = z := by injection e
      subst e2
      exact hn.1 (List.mem_of_getElem? h')
    show valV ((Sum.inr n, V.ref b) :: tabK ns as) _ = _
    rw [valV_neg ne]
    exact valV_tab hn.2 h' (by simpa using g)
theorem valV_row (y : Str) : ∀ ks : List Str, valV (rowK ks) (Sum.inr y : Key) = if y ∈ ks then some (.bl true) else none
  | [] => by simp [rowK, valV_nil]
  | k :: ks => by
    show valV ((Sum.inr k, V.bl true) :: rowK ks) _ = _
    by_cases e : k = y
    · subst e
      rw [valV_pos rfl, if_pos List.mem_cons_self]
    · rw [valV_neg (by intro q; injection q with q; exact e q), valV_row y ks]
      have : (y ∈ k :: ks) ↔ y ∈ ks := by simp [Ne.symm e]
      simp only [this]
noncomputable def addK (ks : List Str) (y : Str) : List Str := if y ∈ ks then ks else ks ++ [y]
theorem mem_addK {ks : List Str} {y z : Str} : z ∈ addK ks y ↔ z ∈ ks ∨ z = y := by
  unfold addK
  split
  · constructor
    · exact .inl
    · rintro (h | rfl)
      · exact h
      · assumption
  · simp
theorem nodup_addK {ks : List Str} {y : Str} (h : ks.Nodup) : (addK ks y).Nodup := by
  unfold addK
  split
  · exact h
  · rename_i hy
    rw [List.nodup_append]
    refine ⟨h, by simp, fun a ha b hb e => ?_⟩
    have : b = y := by simpa using hb
    subst this
    subst e
    exact hy ha
theorem any_row (y : Str) (ks : List Str) : ((rowK ks).any fun kv => decide (kv.1 = (Sum.inr y : Key))) = decide (y ∈ ks) := by
  induction ks with
  | nil => simp [rowK]
  | cons k ks ih =>
    show (decide ((Sum.inr k : Key) = Sum.inr y) || (rowK ks).any _) = _
    rw [ih]
    by_cases e : k = y
    · subst e; simp
    · have e' : ¬ (Sum.inr k : Key) = Sum.inr y := by intro q; injection q with q; exact e q
      simp [e', Ne.symm e]
theorem put_row (ks : List Str) (y : Str) : putK (rowK ks) (Sum.inr y : Key) (.bl true) = rowK (addK ks y) := by
  unfold putK addK
  rw [any_row]
  by_cases h : y ∈ ks
  · rw [if_pos (decide_eq_true h), if_pos h]
    unfold rowK
    rw [List.map_map]
    refine List.map_congr_left fun k _ => ?_
    show (if (Sum.inr k : Key) = Sum.inr y then (Sum.inr k, V.bl true) else (Sum.inr k, V.bl true)) = _
    split <;> rfl
  · rw [if_neg (by simpa using h), if_neg h]
    unfold rowK
    rw [List.map_append]
    rfl
noncomputable def addAll (ks ms : List Str) : List Str := ms.foldl addK ks
theorem merge_row : ∀ (ms ks : List Str), mergeK (rowK ks) (rowK ms) = rowK (addAll ks ms)
  | [], ks => rfl
  | m :: ms, ks => by
    show mergeK (putK (rowK ks) (Sum.inr m) (.bl true)) (rowK ms) = _
    rw [put_row, merge_row ms]
    rfl
theorem mem_addAll : ∀ {ms ks : List Str} {z : Str}, z ∈ addAll ks ms ↔ z ∈ ks ∨ z ∈ ms
  | [], ks, z => by simp [addAll]
  | m :: ms, ks, z => by
    show z ∈ addAll (addK ks m) ms ↔ _
    rw [mem_addAll, mem_addK, List.mem_cons, or_assoc]
theorem nodup_addAll : ∀ {ms ks : List Str}, ks.Nodup → (addAll ks ms).Nodup
  | [], ks, h => h
  | m :: ms, ks, h => nodup_addAll (ms := ms) (nodup_addK h)
theorem len_row (ks : List Str) : (rowK ks).length = ks.length := by simp [rowK]
theorem merge_new : ∀ (kvs acc : List (Key × V)), (kvs.map (·.1)).Nodup → (∀ k ∈ kvs, ∀ q ∈ acc, q.1 ≠ k.1) → mergeK acc kvs = acc ++ kvs
  | [], acc, _, _ => by simp [mergeK]
  | k :: kvs, acc, hn, hd => by
    show mergeK (putK acc k.1 k.2) kvs = _
    have e : putK acc k.1 k.2 = acc ++ [k] := by
      unfold putK
      have : ¬ (acc.any fun kv => decide (kv.1 = k.1)) = true := by
        rw [List.any_eq_true]
        rintro ⟨q, hq, e⟩
        exact hd k List.mem_cons_self q hq (of_decide_eq_true e)
      rw [if_neg this]
    rw [List.map_cons, List.nodup_cons] at hn
    rw [e, merge_new kvs (acc ++ [k]) hn.2 fun x hx q hq => ?_, List.append_assoc]
    · rfl
    · rcases List.mem_append.mp hq with hq | hq
      · exact hd x (List.mem_cons_of_mem _ hx) q hq
      · have : q = k := by simpa using hq
        subst this
        intro e
        exact hn.1 (List.mem_map.mpr ⟨x, hx, e.symm⟩)
structure Tab (H : Hp) (r : Addr) (ns : List Str) (as : List Addr) (R : Str → Str → Prop) : Prop where
  len : as.length = ns.length
  nd : as.Nodup
  nr : r ∉ as
  top : H r = some (.dK (tabK ns as))
  row : ∀ (i : Nat) (z : Str) (a : Addr), ns[i]? = some z → as[i]? = some a → ∃ ks : List Str, H a = some (.dK (rowK ks)) ∧ ks.Nodup ∧ (∀ y ∈ ks, y ∈ ns) ∧ ∀ y, y ∈ ks ↔ R z y
theorem Tab.same {H H' : Hp} {r : Addr} {ns : List Str} {as : List Addr} {R : Str → Str → Prop} (h : Tab H r ns as R) (e : Same H H') : Tab H' r ns as R :=
  ⟨h.len, h.nd, h.nr, e _ _ h.top, fun i z a hz ha => let ⟨ks, h1, h2⟩ := h.row i z a hz ha; ⟨ks, e _ _ h1, h2⟩⟩
theorem Tab.lst {H H' : Hp} {r l : Addr} {ns : List Str} {as : List Addr} {R : Str → Str → Prop} {xs : List V} (h : Tab H r ns as R) (e : ExtBut l H H') (hl : H l = some (.lst xs)) : Tab H' r ns as R :=
  ⟨h.len, h.nd, h.nr, e _ _ (ne_of h.top hl (by intro z; cases z)) h.top, fun i z a hz ha => let ⟨ks, h1, h2⟩ := h.row i z a hz ha; ⟨ks, e _ _ (ne_of h1 hl (by intro z; cases z)) h1, h2⟩⟩
theorem Tab.congr {H : Hp} {r : Addr} {ns : List Str} {as : List Addr} {R R' : Str → Str → Prop} (h : Tab H r ns as R) (e : ∀ z ∈ ns, ∀ y, R z y ↔ R' z y) : Tab H r ns as R' :=
  ⟨h.len, h.nd, h.nr, h.top, fun i z a hz ha => let ⟨ks, h1, h2, h3, h4⟩ := h.row i z a hz ha; ⟨ks, h1, h2, h3, fun y => (h4 y).trans (e z (List.mem_of_getElem? hz) y)⟩⟩
theorem Tab.put {H H' : Hp} {r b : Addr} {ns : List Str} {as : List Addr} {R R' : Str → Str → Prop} (h : Tab H r ns as R) (e : ExtBut b H H') {j : Nat} {x : Str} (hn : ns.Nodup) (hj : ns[j]? = some x) (hb : as[j]? = some b) {ks : List Str}
    (hk : H' b = some (.dK (rowK ks))) (k1 : ks.Nodup) (k2 : ∀ y ∈ ks, y ∈ ns) (k3 : ∀ y, y ∈ ks ↔ R' x y) (k4 : ∀ z ∈ ns, z ≠ x → ∀ y, R z y ↔ R' z y) : Tab H' r ns as R' := by
  refine ⟨h.len, h.nd, h.nr, e _ _ (fun q => h.nr (q ▸ List.mem_of_getElem? hb)) h.top, fun i z a hz ha => ?_⟩
  by_cases hij : i = j
  · subst hij
    rw [hz] at hj
    cases hj
    rw [ha] at hb
    cases hb
    exact ⟨ks, hk, k1, k2, k3⟩
  · obtain ⟨ms, h1, h2, h3, h4⟩ := h.row i z a hz ha
    have hab : a ≠ b := by
      intro q
      subst q
      obtain ⟨p1, p2⟩ := List.getElem?_eq_some_iff.mp ha
      obtain ⟨q1, q2⟩ := List.getElem?_eq_some_iff.mp hb
      exact hij ((List.getElem_inj h.nd).mp (p2.trans q2.symm))
    have hzx : z ≠ x := by
      intro q
      subst q
      obtain ⟨p1, p2⟩ := List.getElem?_eq_some_iff.mp hz
      obtain ⟨q1, q2⟩ := List.getElem?_eq_some_iff.mp hj
      exact hij ((List.getElem_inj hn).mp (p2.trans q2.symm))
    exact ⟨ms, e _ _ hab h1, h2, h3, fun y => (h4 y).trans (k4 z (List.mem_of_getElem? hz) hzx y)⟩
theorem Tab.at {H : Hp} {r : Addr} {ns : List Str} {as : List Addr} {R : Str → Str → Prop} (h : Tab H r ns as R) {x : Str} (hx : x ∈ ns) : ∃ (i : Nat) (a : Addr), ns[i]? = some x ∧ as[i]? = some a := by
  obtain ⟨i, hi, e⟩ := List.getElem_of_mem hx
  have hi' : i < as.length := by rw [h.len]; exact hi
  exact ⟨i, as[i], by rw [List.getElem?_eq_getElem hi, e], List.getElem?_eq_getElem hi'⟩
section
variable {K : PySem.W.Frag} {H : Hp} {Q : VK} {r : Addr} {ns : List Str} {as : List Addr} {R : Str → Str → Prop}
theorem i_tab {x : Str} {i : Nat} {a : Addr} (h : Tab H r ns as R) (hn : ns.Nodup) (hx : ns[i]? = some x) (ha : as[i]? = some a) (k : Q (.ref a) H) : rIxA K (.ref r) (.str x) H Q := i_ixD h.top (valV_tab hn hx ha) k
theorem i_inRow {a : Addr} {ks : List Str} {y : Str} (h : H a = some (.dK (rowK ks))) (k : Q (.bl (decide (y ∈ ks))) H) : rInA K false (.str y) (.ref a) H Q := by
  refine .inr (.inr (.inl ⟨a, valV (rowK ks) (Sum.inr y : Key), rfl, DGet.k (k := Sum.inr y) h, ?_⟩))
  rw [valV_row]
  by_cases e : y ∈ ks
  · rw [if_pos e]; simpa [e] using k
  · rw [if_neg e]; simpa [e] using k
theorem i_ninRow {a : Addr} {ks : List Str} {y : Str} (h : H a = some (.dK (rowK ks))) (k : Q (.bl (!decide (y ∈ ks))) H) : rInA K true (.str y) (.ref a) H Q := by
  refine .inr (.inr (.inl ⟨a, valV (rowK ks) (Sum.inr y : Key), rfl, DGet.k (k := Sum.inr y) h, ?_⟩))
  rw [valV_row]
  by_cases e : y ∈ ks
  · rw [if_pos e]; simpa [e] using k
  · rw [if_neg e]; simpa [e] using k
theorem i_tyD {a : Addr} {kvs : List (Key × V)} {B : Prop} (h : H a = some (.dK kvs)) (k : B) : tyV K "dict" (.ref a) H ∧ B := ⟨.inr (.inr (.inl ⟨rfl, .inl ⟨kvs, h⟩⟩)), k⟩
theorem i_upd {d o : Addr} {ks ms : List Str} (hd : H d = some (.dK (rowK ks))) (ho : H o = some (.dK (rowK ms))) (hne : d ≠ o) (hz : ks.length + ms.length ≤ 1000000) (k : ∀ H', ExtBut d H H' → H' d = some (.dK (rowK (addAll ks ms))) → Q .non H') : rUpdate (.ref d) [.ref o] H Q :=
  ⟨d, o, _, _, rfl, rfl, hne, hd, ho, by rw [len_row, len_row]; exact hz, k _ ExtBut.upd (by rw [upd_same, merge_row])⟩
end
structure HalfW (ns : List Str) (ps : List (Str × Str)) : Prop where
  nd : ns.Nodup
  mem : ∀ p ∈ ps, p.1 ∈ ns ∧ p.2 ∈ ns
  irr : ∀ x, ¬ Way ps x x
  few : ns.length ≤ 100
  le : ps.length ≤ 1000
theorem Half.w {ns : List Str} {ps : List (Str × Str)} (h : Half ns ps) : HalfW ns ps := ⟨h.names.1, fun p hp => h.mem hp, fun _ => h.irrefl, Nat.le_trans h.few (by decide), Nat.le_trans h.le (by decide)⟩
structure War (ns : List Str) (ps : List (Str × Str)) (ms : List Str) (R : Str → Str → Prop) : Prop where
  snd : ∀ z y, R z y → Way ps z y
  edge : ∀ z y, (z, y) ∈ ps → R z y
  shut : ∀ m ∈ ms, ∀ z y, R z m → R m y → R z y
noncomputable def warR (R : Str → Str → Prop) (mid : Str) (ms : List Str) (z y : Str) : Prop := R z y ∨ (z ∈ ms ∧ R z mid ∧ R mid y)
theorem War.step {ns : List Str} {ps : List (Str × Str)} {ms : List Str} {R : Str → Str → Prop} (h : War ns ps ms R) {mid : Str} : War ns ps (ms ++ [mid]) (fun z y => R z y ∨ (R z mid ∧ R mid y)) := by
  refine ⟨fun z y hz => ?_, fun z y hz => .inl (h.edge z y hz), fun m hm z y h1 h2 => ?_⟩
  · rcases hz with hz | ⟨h1, h2⟩
    · exact h.snd z y hz
    · exact (h.snd _ _ h1).trans (h.snd _ _ h2)
  · rcases List.mem_append.mp hm with hm | hm
    · rcases h1 with h1 | ⟨h1, h1'⟩
      · rcases h2 with h2 | ⟨h2, h2'⟩
        · exact .inl (h.shut m hm z y h1 h2)
        · exact .inr ⟨h.shut m hm z mid h1 h2, h2'⟩
      · rcases h2 with h2 | ⟨h2, h2'⟩
        · exact .inr ⟨h1, h.shut m hm mid y h1' h2⟩
        · exact .inr ⟨h1, h2'⟩
    · have e : m = mid := by simpa using hm
      subst e
      rcases h1 with h1 | ⟨h1, h1'⟩
      · rcases h2 with h2 | ⟨h2, h2'⟩
        · exact .inr ⟨h1, h2⟩
        · exact .inr ⟨h1, h2'⟩
      · rcases h2 with h2 | ⟨h2, h2'⟩
        · exact .inr ⟨h1, h2⟩
        · exact .inr ⟨h1, h2'⟩
theorem War.done {ns : List Str} {ps : List (Str × Str)} {R : Str → Str → Prop} (h : War ns ps ns R) (hm : ∀ p ∈ ps, p.1 ∈ ns ∧ p.2 ∈ ns) (z y : Str) : R z y ↔ Way ps z y := by
  refine ⟨h.snd z y, fun g => ?_⟩
  induction g with
  | one e => exact h.edge _ _ e
  | cons e _ ih => exact h.shut _ (hm _ e).2 _ _ (h.edge _ _ e) ih
end L2
namespace L2
open PySem PySem.Spec PyProof.Rows
theorem PrsK.fz {K : PySem.W.Frag} {H H' : Hp} (e : Fz H H') : ∀ {kvs : List (Key × V)} {ys : List V}, PrsK K H kvs ys → PrsK K H' kvs ys
  | [], _, h => h
  | kv :: r, ys, ⟨t, ys', h1, h2, h3⟩ => ⟨t, ys', h1, e.seq h2, PrsK.fz e h3⟩
theorem PrsK.snoc {K : PySem.W.Frag} {H : Hp} {kv : Key × V} {t : Addr} (h : SqT K H t [kV kv.1, kv.2]) : ∀ {kvs : List (Key × V)} {ys : List V}, PrsK K H kvs ys → PrsK K H (kvs ++ [kv]) (ys ++ [.ref t])
  | [], ys, g => by
    have g' : ys = [] := g
    subst g'
    exact ⟨t, [], rfl, h, rfl⟩
  | k :: r, ys, ⟨u, ys', h1, h2, h3⟩ => by
    subst h1
    exact ⟨u, ys' ++ [.ref t], rfl, h2, PrsK.snoc h h3⟩
theorem PrsK.length {K : PySem.W.Frag} {H : Hp} : ∀ {kvs : List (Key × V)} {ys : List V}, PrsK K H kvs ys → ys.length = kvs.length
  | [], ys, g => by
    have g' : ys = [] := g
    subst g'
    rfl
  | k :: r, ys, ⟨u, ys', h1, h2, h3⟩ => by
    subst h1
    simp [PrsK.length h3]
theorem i_dict {K : PySem.W.Frag} {H : Hp} {Q : VK} {l : Addr} {ys : List V} {kvs : List (Key × V)} (h : H l = some (.lst ys)) (g : PrsK K H kvs ys) (hz : kvs.length ≤ 1000000) (k : ∀ p H', H p = none → Same H H' → H' p = some (.dK (mergeK [] kvs)) → Q (.ref p) H') : rDictA K [.ref l] H Q :=
  ⟨l, ys, kvs, rfl, h, g, by rw [g.length]; exact hz, hz, fun p hp => k p _ hp (Same.upd hp) upd_same⟩
theorem keys_tab : ∀ {ns : List Str} {as : List Addr}, ns.Nodup → ((tabK ns as).map (·.1)).Nodup
  | [], as, _ => by simp [tabK]
  | n :: ns, [], _ => by simp [tabK]
  | n :: ns, a :: as, h => by
    rw [List.nodup_cons] at h
    show ((Sum.inr n : Key) :: (tabK ns as).map (·.1)).Nodup
    rw [List.nodup_cons]
    refine ⟨fun hm => ?_, keys_tab h.2⟩
    obtain ⟨kv, hkv, e⟩ := List.mem_map.mp hm
    obtain ⟨p, hp, rfl⟩ := List.mem_map.mp hkv
    have e' : p.1 = n := by injection e
    exact h.1 (e' ▸ (List.of_mem_zip hp).1)
theorem tab_snoc {ns : List Str} {as : List Addr} {z : Str} {a : Addr} (h : ns.length = as.length) : tabK (ns ++ [z]) (as ++ [a]) = tabK ns as ++ [(Sum.inr z, V.ref a)] := by
  unfold tabK
  rw [List.zip_append h, List.map_append]
  rfl
end L2
set_option Elab.async false
set_option linter.all false
set_option maxRecDepth 100000
set_option maxHeartbeats 4000000
namespace L2
open PySem PySem.Spec PyProof.Rows
open Classical in
noncomputable def wayB (ps : List (Str × Str)) (x y : Str) : Bool := decide (Way ps x y)
theorem wayB_iff {ps : List (Str × Str)} {x y : Str} : wayB ps x y = true ↔ Way ps x y := by unfold wayB; simp
theorem wayB_of {ps : List (Str × Str)} {x y : Str} {b : Bool} (h : b = true ↔ Way ps x y) : b = wayB ps x y := by
  cases hb : wayB ps x y with
  | true => exact h.mpr (wayB_iff.mp hb)
  | false =>
    cases b with
    | false => rfl
    | true =>
      have := wayB_iff.mpr (h.mp rfl)
      rw [hb] at this
      cases this
theorem wayB_dec {ps : List (Str × Str)} {x y : Str} {p : Prop} [Decidable p] (h : p ↔ Way ps x y) : decide p = wayB ps x y := wayB_of (by rw [decide_eq_true_iff]; exact h)
theorem wayB_false {ps : List (Str × Str)} {x y : Str} (h : ¬ Way ps x y) : wayB ps x y = false := by
  cases hb : wayB ps x y with
  | false => rfl
  | true => exact absurd (wayB_iff.mp hb) h
theorem iteR {α : Type} {a : α} {A B : Prop} [Decidable (a = a)] (h : A) : if decide (a = a) = true then A else B := by rw [if_pos (by simp)]; exact h
theorem iteNR {α : Type} {a : α} {A B : Prop} [Decidable (a = a)] (h : B) : if (!decide (a = a)) = true then A else B := by rw [if_neg (by simp)]; exact h
theorem iteNbb {b : Bool} {A B : Prop} (h : B) : if (!(b == b)) = true then A else B := by rw [if_neg (by simp)]; exact h
theorem itebb {b : Bool} {A B : Prop} (h : A) : if (b == b) = true then A else B := by rw [if_pos (by simp)]; exact h
section
variable {K : PySem.W.Frag} {H : Hp} {σ : St} {x : V} {Q : VK}
theorem comp_nm {ns : List Str} {g : TG} {tt : TT} {te : TE} {k : Nat} {js : List Nat} (h : Is K H (nmD ns) x) (t : Str → Bool) (f : Str → PyData) (hf : ∀ a, frz (f a) = true) (hz : ns.length ≤ 1000000)
    (hs : ∀ (i : Nat) a H1 (R : VK) (R' : Hp → Prop), ns[i]? = some a → Same H H1 → (t a = true → ∀ y H2, Same H1 H2 → Is K H2 (f a) y → R y H2) → (t a = false → ∀ H2, Same H1 H2 → R' H2) →
      g (.str a) (List.replicate k none ++ pick σ js) H1 fun σ2 H2 => tt σ2 H2 fun b H3 => if b = true then te σ2 H3 R else R' H3)
    (hd : ∀ p ys H', H p = none → Same H H' → H' p = some (.lst ys) → IsL K H' ((ns.filter t).map f) ys → Q (.ref p) H') : rAnyIt K x H fun J H1 => rComp k js g tt te σ J H1 Q := by
  obtain ⟨a, rfl, hS⟩ := h.nm
  refine i_itT hS (comp_dat (K := K) (walk_tup (xs := ns.map V.str)) ns (by simp) t f hf (by simpa using hz) (fun H' e => e.seqT hS) (fun i z v H1 R R' hz hv e hR hR' => ?_) hd)
  rw [List.getElem?_map, hz] at hv
  cases hv
  exact hs i z H1 R R' hz e hR hR'
theorem comp_lnm {ns : List Str} {a : Addr} {g : TG} {tt : TT} {te : TE} {k : Nat} {js : List Nat} (h : SqL K H a (ns.map V.str)) (t : Str → Bool) (f : Str → PyData) (hf : ∀ a, frz (f a) = true) (hz : ns.length ≤ 1000000)
    (hs : ∀ (i : Nat) a H1 (R : VK) (R' : Hp → Prop), ns[i]? = some a → Same H H1 → (t a = true → ∀ y H2, Same H1 H2 → Is K H2 (f a) y → R y H2) → (t a = false → ∀ H2, Same H1 H2 → R' H2) →
      g (.str a) (List.replicate k none ++ pick σ js) H1 fun σ2 H2 => tt σ2 H2 fun b H3 => if b = true then te σ2 H3 R else R' H3)
    (hd : ∀ p ys H', H p = none → Same H H' → H' p = some (.lst ys) → IsL K H' ((ns.filter t).map f) ys → Q (.ref p) H') : rAnyIt K (.ref a) H fun J H1 => rComp k js g tt te σ J H1 Q := by
  refine i_itL h (comp_dat (K := K) (walk_list (xs := ns.map V.str)) ns (by simp) t f hf (by simpa using hz) (fun H' e => e.seq h) (fun i z v H1 R R' hz hv e hR hR' => ?_) hd)
  rw [List.getElem?_map, hz] at hv
  cases hv
  exact hs i z H1 R R' hz e hR hR'
theorem i_tupNm {ns : List Str} {a : Addr} {ys : List V} (h : H a = some (.lst ys)) (g : IsL K H (ns.map PyData.str) ys) (k : ∀ v H', Same H H' → Is K H' (nmD ns) v → Q v H') : rTupleA K [.ref a] H Q := by
  have e := IsL.str_eq g
  subst e
  exact i_tupleL (SqL.of h) fun p H' hp e h' => k _ H' e (is_nm (SqT.of h'))
theorem i_tupPs {ps : List (Str × Str)} {a : Addr} {ys : List V} (h : H a = some (.lst ys)) (g : IsL K H (ps.map prD) ys) (k : ∀ v H', Same H H' → Is K H' (psD ps) v → Q v H') : rTupleA K [.ref a] H Q :=
  i_tupleL (SqL.of h) fun p H' hp e h' => k _ H' e (Is.of_tup (SqT.of h') (IsL.mono e _ _ g))
end
end L2
set_option Elab.async false
set_option linter.all false
set_option maxRecDepth 100000
set_option maxHeartbeats 4000000
namespace L2
open PySem PySem.Spec PyProof.Rows
open AutoSeq1 (wpAny_loadPart')
section
variable {prog : Program} {w : World} {A : Around} {E : Value → Shared → Prop} {s : Shared}
end
noncomputable def Ite (K : PySem.W.Frag) (a : Addr) : It :=
  ⟨fun i H => ∃ xs x, SqT K H a xs ∧ xs[i]? = some x, fun i H v H' => ∃ t x, H t = none ∧ H' = upd H t (.tup [.int i, x]) ∧ v = .ref t ∧ ∀ xs, SqT K H a xs → xs[i]? = some x, fun i H => ∃ xs, SqT K H a xs ∧ xs.length = i⟩
section
variable {X : Cx} {K : PySem.W.Frag}
noncomputable def rEnum (K : PySem.W.Frag) (vs : List V) (H : Hp) (R : It → Hp → Prop) : Prop := ∃ a xs, vs = [.ref a] ∧ SqT K H a xs ∧ R (Ite K a) H
noncomputable def iEnum (K : PySem.W.Frag) (ta : TA) : TI := fun σ H R => ta σ H fun vs H1 => rEnum K vs H1 R
end
section
variable {K : PySem.W.Frag} {σ : St} {H : Hp}
theorem i_ienum {ts : TA} {R : It → Hp → Prop} (k : ts σ H fun vs H1 => rEnum K vs H1 R) : iEnum K ts σ H R := k
end
end L2
set_option Elab.async false
set_option linter.all false
set_option maxRecDepth 100000
set_option maxHeartbeats 4000000
namespace L2
open PySem PySem.Spec PyProof.Rows
section
variable {X : Cx} {K : PySem.W.Frag}
section
variable {H : Hp} {Q : VK} {lo hi : Option Int}
theorem i_addT {a b : Addr} {xs ys : List V} (h1 : SqT K H a xs) (h2 : SqT K H b ys) (h : xs.length + ys.length ≤ sizeLine) (k : ∀ p H', Same H H' → SqT K H' p (xs ++ ys) → Q (.ref p) H') : rAddA K (.ref a) (.ref b) H Q := by
  by_cases hx : xs = []
  · subst hx
    exact .inr (.inr (.inr (.inr ⟨a, b, ys, rfl, rfl, h1, h2, k b H (Same.refl _) h2⟩)))
  · refine .inr (.inr (.inr (.inl ⟨a, b, xs, ys, rfl, rfl, h1, h2, hx, h, fun e => ?_, fun _ p hp => k p _ (Same.upd hp) (SqT.of upd_same)⟩)))
    subst e
    exact k a H (Same.refl _) (by rw [List.append_nil]; exact h1)
theorem i_slT {a : Addr} {xs : List V} (h : SqT K H a xs) (k : ∀ p H', Same H H' → SqT K H' p (cutV xs lo hi) → Q (.ref p) H') : rSlA K (.ref a) lo hi H Q := by
  by_cases hw : HT.sIx xs.length 0 lo = 0 ∧ HT.sIx xs.length xs.length hi = xs.length
  · refine .inr (.inr (.inr ⟨a, xs, rfl, h, hw, k a H (Same.refl _) ?_⟩))
    have e : cutV xs lo hi = xs := by
      unfold cutV
      rw [hw.1, hw.2, List.drop_zero, Nat.sub_zero, List.take_length]
    rw [e]
    exact h
  · exact .inr (.inl ⟨a, xs, rfl, h, hw, fun p hp => k p _ (Same.upd hp) (SqT.of upd_same)⟩)
theorem i_inX {x y : V} {d : PyData} {ds : List PyData} (hx : Is K H d x) (hy : Is K H (.list ds) y ∨ Is K H (.tuple ds) y) (h1 : PyData.canLayAll0 ds = true) (h2 : d.canLay0 = true) (h3 : d.depth ≤ 100) (k : Q (.bl (ds.any fun e => PyData.eqv e d)) H) : rInA K false x y H Q := .inr (.inr (.inr ⟨d, ds, hx, hy, h1, h2, h3, k⟩))
end
end
end L2
set_option Elab.async false
set_option linter.all false
set_option maxRecDepth 100000
set_option maxHeartbeats 4000000
namespace L2
open PySem PySem.Spec PyProof.Rows
structure Trl (ps : List (Str × Str)) (x : Str) (js : List Nat) (y : Str) (os : List Str) : Prop where
  len : os.length = js.length
  hd : (os ++ [y])[0]? = some x
  ed : ∀ (i j : Nat), js[i]? = some j → ∃ a b, (os ++ [y])[i]? = some a ∧ (os ++ [y])[i + 1]? = some b ∧ ps[j]? = some (a, b)
  nd : (os ++ [y]).Nodup
theorem Trl.nil (ps : List (Str × Str)) (x : Str) : Trl ps x [] x [] := ⟨rfl, rfl, fun i j h => by simp at h, by simp⟩
theorem Trl.snoc {ps : List (Str × Str)} {x y z : Str} {js : List Nat} {os : List Str} {j : Nat} (h : Trl ps x js y os) (hj : ps[j]? = some (y, z)) (hz : z ∉ os ++ [y]) : Trl ps x (js ++ [j]) z (os ++ [y]) := by
  refine ⟨by simp [h.len], ?_, fun i k hk => ?_, ?_⟩
  · rw [List.getElem?_append_left (by simp)]
    exact h.hd
  · by_cases hi : i < js.length
    · rw [List.getElem?_append_left hi] at hk
      obtain ⟨a, b, h1, h2, h3⟩ := h.ed i k hk
      have l := h.len
      refine ⟨a, b, ?_, ?_, h3⟩
      · rw [List.getElem?_append_left (by simp; omega)]
        exact h1
      · rw [List.getElem?_append_left (by simp; omega)]
        exact h2
    · have hi' : i = js.length := by
        have := (List.getElem?_eq_some_iff.mp hk).1
        rw [List.length_append, List.length_singleton] at this
        omega
      subst hi'
      have e : k = j := by simpa using hk.symm
      subst e
      have l := h.len
      refine ⟨y, z, ?_, ?_, hj⟩
      · rw [List.getElem?_append_left (by simp; omega), ← l]
        simp
      · rw [← l]
        simp
  · rw [List.nodup_append]
    refine ⟨h.nd, by simp, fun a ha b hb e => ?_⟩
    have : b = z := by simpa using hb
    subst this
    subst e
    exact hz ha
theorem Trl.mono {ps qs : List (Str × Str)} {x y : Str} {js : List Nat} {os : List Str} (h : Trl ps x js y os) (hm : ∀ (j : Nat) p, ps[j]? = some p → qs[j]? = some p) : Trl qs x js y os :=
  ⟨h.len, h.hd, fun i j hj => let ⟨a, b, h1, h2, h3⟩ := h.ed i j hj; ⟨a, b, h1, h2, hm j _ h3⟩, h.nd⟩
theorem Trl.way {ps : List (Str × Str)} : ∀ {js : List Nat} {x y : Str} {os : List Str}, Trl ps x js y os → x = y ∨ Way ps x y := by
  intro js x y os h
  have l := h.len
  suffices g : ∀ i, i ≤ js.length → ∀ z, (os ++ [y])[i]? = some z → z = x ∨ Way ps x z by
    rcases g js.length (Nat.le_refl _) y (by rw [← l]; simp) with e | e
    · exact .inl e.symm
    · exact .inr e
  intro i
  induction i with
  | zero =>
    intro _ z hz
    rw [h.hd] at hz
    exact .inl (Option.some.inj hz).symm
  | succ i ih =>
    intro hi z hz
    obtain ⟨j, hj⟩ : ∃ j, js[i]? = some j := ⟨js[i]'(by omega), List.getElem?_eq_getElem _⟩
    obtain ⟨a, b, h1, h2, h3⟩ := h.ed i j hj
    rw [hz] at h2
    cases h2
    rcases ih (by omega) a h1 with e | e
    · subst e
      exact .inr (.one (List.mem_of_getElem? h3))
    · exact .inr (e.snoc (List.mem_of_getElem? h3))
structure WyI (ps : List (Str × Str)) (x : Str) (ks ws : List Str) : Prop where
  nd : ks.Nodup
  has : x ∈ ks
  way : ∀ y ∈ ks, y = x ∨ Way ps x y
  line : ∀ z ∈ ws, z ∈ ks
  shut : ∀ z ∈ ks, z ∉ ws → ∀ y, (z, y) ∈ ps → y ∈ ks
  few : ws.length ≤ ks.length
theorem WyI.le {ps : List (Str × Str)} {x : Str} {ks ws : List Str} (h : WyI ps x ks ws) : ks.length ≤ ps.length + 1 := by
  have := nodup_le (ys := x :: ps.map (·.2)) h.nd fun y hy => by
    rcases h.way y hy with e | e
    · exact e ▸ List.mem_cons_self
    · exact List.mem_cons_of_mem _ e.right
  rwa [List.length_cons, List.length_map] at this
structure WyJ (ps : List (Str × Str)) (x here : Str) (ks ws gs ms : List Str) (i : Nat) : Prop where
  nd : gs.Nodup
  way : ∀ y ∈ gs, y = x ∨ Way ps x y
  line : ∀ z ∈ ms, z ∈ gs
  keep : ∀ z ∈ ks, z ∈ gs
  keepL : ∀ z ∈ ws, z ∈ ms
  new : ∀ z ∈ gs, z ∈ ks ∨ z ∈ ms
  seen : ∀ j < i, ∀ y, ps[j]? = some (here, y) → y ∈ gs
  len : gs.length + ws.length = ks.length + ms.length
theorem WyJ.le {ps : List (Str × Str)} {x here : Str} {ks ws gs ms : List Str} {i : Nat} (h : WyJ ps x here ks ws gs ms i) : gs.length ≤ ps.length + 1 := by
  have := nodup_le (ys := x :: ps.map (·.2)) h.nd fun y hy => by
    rcases h.way y hy with e | e
    · exact e ▸ List.mem_cons_self
    · exact List.mem_cons_of_mem _ e.right
  rwa [List.length_cons, List.length_map] at this
theorem WyJ.step {ps : List (Str × Str)} {x here : Str} {ks ws gs ms : List Str} {i : Nat} {p : Str × Str} (h : WyJ ps x here ks ws gs ms i) (hh : here ∈ gs) (hp : ps[i]? = some p) (h1 : p.1 = here) (h2 : p.2 ∉ gs) : WyJ ps x here ks ws (gs ++ [p.2]) (ms ++ [p.2]) (i + 1) := by
  have hm : (here, p.2) ∈ ps := by rw [← h1]; exact List.mem_of_getElem? hp
  refine ⟨?_, fun y hy => ?_, fun z hz => ?_, fun z hz => List.mem_append_left _ (h.keep z hz), fun z hz => List.mem_append_left _ (h.keepL z hz), fun z hz => ?_, fun j hj y e => ?_, ?_⟩
  · rw [List.nodup_append]
    refine ⟨h.nd, by simp, fun a ha b hb e => ?_⟩
    have : b = p.2 := by simpa using hb
    subst this
    subst e
    exact h2 ha
  · rcases List.mem_append.mp hy with hy | hy
    · exact h.way y hy
    · have : y = p.2 := by simpa using hy
      subst this
      rcases h.way here hh with rfl | hw
      · exact .inr (.one hm)
      · exact .inr (hw.snoc hm)
  · rcases List.mem_append.mp hz with hz | hz
    · exact List.mem_append_left _ (h.line z hz)
    · exact List.mem_append_right _ hz
  · rcases List.mem_append.mp hz with hz | hz
    · rcases h.new z hz with e | e
      · exact .inl e
      · exact .inr (List.mem_append_left _ e)
    · exact .inr (List.mem_append_right _ hz)
  · by_cases hji : j = i
    · subst hji
      rw [hp] at e
      cases e
      exact List.mem_append_right _ (by simp)
    · exact List.mem_append_left _ (h.seen j (by omega) y e)
  · rw [List.length_append, List.length_append, List.length_singleton]
    have := h.len
    omega
theorem WyJ.skip {ps : List (Str × Str)} {x here : Str} {ks ws gs ms : List Str} {i : Nat} {p : Str × Str} (h : WyJ ps x here ks ws gs ms i) (hp : ps[i]? = some p) (h1 : p.1 = here → p.2 ∈ gs) : WyJ ps x here ks ws gs ms (i + 1) := by
  refine ⟨h.nd, h.way, h.line, h.keep, h.keepL, h.new, fun j hj y e => ?_, h.len⟩
  by_cases hji : j = i
  · subst hji
    rw [hp] at e
    cases e
    exact h1 rfl
  · exact h.seen j (by omega) y e
theorem WyJ.done {ps : List (Str × Str)} {x here : Str} {ks ws gs ms : List Str} (I : WyI ps x ks (here :: ws)) (h : WyJ ps x here ks ws gs ms ps.length) : WyI ps x gs ms := by
  refine ⟨h.nd, h.keep x I.has, h.way, h.line, fun z hz hm y hy => ?_, ?_⟩
  · by_cases e : z = here
    · subst e
      obtain ⟨j, hj, ej⟩ := List.getElem_of_mem hy
      exact h.seen j hj y (by rw [List.getElem?_eq_getElem hj, ej])
    · have hz' : z ∈ ks := by
        rcases h.new z hz with q | q
        · exact q
        · exact absurd q hm
      refine h.keep y (I.shut z hz' (fun q => ?_) y hy)
      rcases List.mem_cons.mp q with q | q
      · exact e q
      · exact hm (h.keepL z q)
  · have := h.len
    have := I.few
    rw [List.length_cons] at this
    omega
theorem WyI.all {ps : List (Str × Str)} {x : Str} {ks : List Str} (h : WyI ps x ks []) {y : Str} (g : Way ps x y) : y ∈ ks :=
  Way.shut (S := fun y => y ∈ ks) (fun y hy => h.shut x h.has (by simp) y hy) (fun z y hz hy => h.shut z hz (by simp) y hy) g
section
variable {K : PySem.W.Frag} {σ : St} {H : Hp} {Q : VK} {td ty : TE}
noncomputable def rDGet1 (ty : TE) (σ : St) (x : V) (H1 : Hp) (Q : VK) : Prop := ∃ a, x = .ref a ∧ IsD H1 a ∧ ty σ H1 fun y H2 => ∃ o, DGet H2 a y o ∧ Q (o.getD .non) H2
theorem i_dget1 (k : td σ H fun x H1 => rDGet1 ty σ x H1 Q) : tDGet1 td ty σ H Q := k
theorem i_chain {r r' : R2} {ta tb tc : TE} (k : ta σ H fun x H1 => tb σ H1 fun y H2 => r x y H2 fun z H3 => ∃ k, z = .bl k ∧ (if k = true then tc σ H3 fun w' H4 => r' y w' H4 Q else Q (.bl false) H3)) : tChain r r' ta tb tc σ H Q := k
theorem i_andV {ta tb : TE} (k : ta σ H fun x H1 => ∃ c, x = .bl c ∧ if c = true then tb σ H1 Q else Q (.bl false) H1) : tAndV ta tb σ H Q := k
theorem i_orV {ta tb : TE} (k : ta σ H fun x H1 => ∃ c, x = .bl c ∧ if c = true then Q (.bl true) H1 else tb σ H1 Q) : tOrV ta tb σ H Q := k
theorem i_notV {ta : TE} (k : ta σ H fun x H1 => ∃ c, x = .bl c ∧ Q (.bl (!c)) H1) : tNotV ta σ H Q := k
theorem i_ninBF {a : Addr} {bs : List Bool} (h : SqL K H a (bs.map V.bl)) (k : Q (.bl (bs.all id)) H) : rInA K true (.bl false) (.ref a) H Q := .inl ⟨a, _, rfl, .inl h, rfl, by
    rw [List.all_eq_true]
    intro v h
    obtain ⟨n, _, rfl⟩ := List.mem_map.mp h
    rfl, by
    have e : (!inV (.bl false) (bs.map V.bl)) = bs.all id := by
      clear h k
      unfold inV
      induction bs with
      | nil => rfl
      | cons b bs ih =>
        rw [List.map_cons, List.any_cons, List.all_cons, Bool.not_or, ih]
        cases b <;> rfl
    show Q (.bl (!inV (.bl false) (bs.map V.bl))) H
    rw [e]
    exact k⟩
theorem i_inBF {a : Addr} {bs : List Bool} (h : SqL K H a (bs.map V.bl)) (k : Q (.bl (!bs.all id)) H) : rInA K false (.bl false) (.ref a) H Q := .inl ⟨a, _, rfl, .inl h, rfl, by
    rw [List.all_eq_true]
    intro v h
    obtain ⟨n, _, rfl⟩ := List.mem_map.mp h
    rfl, by
    have e : inV (.bl false) (bs.map V.bl) = !bs.all id := by
      clear h k
      unfold inV
      induction bs with
      | nil => rfl
      | cons b bs ih =>
        rw [List.map_cons, List.any_cons, List.all_cons, ih]
        cases b <;> simp [eqV]
    show Q (.bl (inV (.bl false) (bs.map V.bl))) H
    rw [e]
    exact k⟩
end
end L2
set_option Elab.async false
set_option linter.all false
set_option maxRecDepth 100000
set_option maxHeartbeats 4000000
namespace L2
open PySem PySem.Spec PyProof.Rows
theorem Same.rd {H H' : Hp} (e : Same H H') {a : Addr} {u : HO} (h : Rd H a u) : Rd H' a u := by
  rcases h with h | ⟨o, h⟩
  · exact .inl (e _ _ h)
  · exact .inr ⟨o, e _ _ h⟩
noncomputable def Keep (as : List Addr) (H H' : Hp) : Prop := (∀ b o, b ∉ as → H b = some o → H' b = some o) ∧ ∀ a ∈ as, ∀ u, Rd H a u → Rd H' a u
theorem Keep.refl (as : List Addr) (H : Hp) : Keep as H H := ⟨fun _ _ _ h => h, fun _ _ _ h => h⟩
theorem Keep.trans {as : List Addr} {H H1 H2 : Hp} (a : Keep as H H1) (b : Keep as H1 H2) : Keep as H H2 := ⟨fun c o n h => b.1 c o n (a.1 c o n h), fun c hc u h => b.2 c hc u (a.2 c hc u h)⟩
theorem Same.keep {H H' : Hp} (e : Same H H') (as : List Addr) : Keep as H H' := ⟨fun b o _ h => e b o h, fun a _ u h => e.rd h⟩
theorem Keep.freeze {as : List Addr} {H : Hp} {a : Addr} {u : HO} {o : Obj} (ha : a ∈ as) (h : H a = some u) (hu : ∀ o' u', u ≠ .frz o' u') : Keep as H (upd H a (.frz o u)) := by
  refine ⟨fun b q hb e => ?_, fun b hb w e => ?_⟩
  · have hne : b ≠ a := fun z => by subst z; exact hb ha
    rw [upd_ne hne]
    exact e
  · by_cases hba : b = a
    · subst hba
      rcases e with e | ⟨o', e⟩
      · rw [h] at e
        cases e
        exact .inr ⟨o, upd_same⟩
      · rw [h] at e
        cases e
        exact absurd rfl (hu _ _)
    · rcases e with e | ⟨o', e⟩
      · exact .inl (by rw [upd_ne hba]; exact e)
      · exact .inr ⟨o', by rw [upd_ne hba]; exact e⟩
theorem Keep.rd {as : List Addr} {H H' : Hp} (k : Keep as H H') {a : Addr} {u : HO} (h : Rd H a u) : Rd H' a u := by
  by_cases ha : a ∈ as
  · exact k.2 a ha u h
  · rcases h with h | ⟨o, h⟩
    · exact .inl (k.1 _ _ ha h)
    · exact .inr ⟨o, k.1 _ _ ha h⟩
theorem Keep.fz {as : List Addr} {H H' : Hp} (k : Keep as H H') : Fz H H' := fun a xs h => k.rd h
theorem Keep.lst {as : List Addr} {H H1 H2 : Hp} {p : Addr} (k : Keep as H H1) (e : ExtBut p H1 H2) (hp : H p = none) (hpa : p ∉ as) : Keep as H H2 := by
  refine ⟨fun b o hb h => e b o (fun z => ?_) (k.1 b o hb h), fun a ha u h => ?_⟩
  · subst z
    rw [hp] at h
    cases h
  · have hap : a ≠ p := fun z => hpa (z ▸ ha)
    rcases k.2 a ha u h with g | ⟨o, g⟩
    · exact .inl (e _ _ hap g)
    · exact .inr ⟨o, e _ _ hap g⟩
structure TabR (H : Hp) (r : Addr) (ns : List Str) (as : List Addr) (R : Str → Str → Prop) : Prop where
  len : as.length = ns.length
  top : Rd H r (.dK (tabK ns as))
  row : ∀ (i : Nat) (z : Str) (a : Addr), ns[i]? = some z → as[i]? = some a → ∃ ks : List Str, Rd H a (.dK (rowK ks)) ∧ ks.Nodup ∧ (∀ y ∈ ks, y ∈ ns) ∧ ∀ y, y ∈ ks ↔ R z y
theorem Tab.toR {H : Hp} {r : Addr} {ns : List Str} {as : List Addr} {R : Str → Str → Prop} (h : Tab H r ns as R) : TabR H r ns as R :=
  ⟨h.len, .inl h.top, fun i z a hz ha => let ⟨ks, h1, h2⟩ := h.row i z a hz ha; ⟨ks, .inl h1, h2⟩⟩
theorem TabR.keep {bs : List Addr} {H H' : Hp} {r : Addr} {ns : List Str} {as : List Addr} {R : Str → Str → Prop} (h : TabR H r ns as R) (k : Keep bs H H') : TabR H' r ns as R :=
  ⟨h.len, k.rd h.top, fun i z a hz ha => let ⟨ks, h1, h2⟩ := h.row i z a hz ha; ⟨ks, k.rd h1, h2⟩⟩
theorem TabR.same {H H' : Hp} {r : Addr} {ns : List Str} {as : List Addr} {R : Str → Str → Prop} (h : TabR H r ns as R) (e : Same H H') : TabR H' r ns as R := h.keep (e.keep [])
theorem TabR.at {H : Hp} {r : Addr} {ns : List Str} {as : List Addr} {R : Str → Str → Prop} (h : TabR H r ns as R) {x : Str} (hx : x ∈ ns) : ∃ (i : Nat) (a : Addr), ns[i]? = some x ∧ as[i]? = some a := by
  obtain ⟨i, hi, e⟩ := List.getElem_of_mem hx
  have hi' : i < as.length := by rw [h.len]; exact hi
  exact ⟨i, as[i], by rw [List.getElem?_eq_getElem hi, e], List.getElem?_eq_getElem hi'⟩
structure TabL (K : PySem.W.Frag) (H : Hp) (r : Addr) (ns : List Str) (as : List Addr) (R : Str → Str → Prop) : Prop where
  len : as.length = ns.length
  top : H r = some (.dK (tabK ns as))
  row : ∀ (i : Nat) (z : Str) (a : Addr), ns[i]? = some z → as[i]? = some a → ∃ ks : List Str, H a = some (.lst (ks.map V.str)) ∧ ks.Nodup ∧ ∀ y, y ∈ ks ↔ R z y
theorem TabL.same {K : PySem.W.Frag} {H H' : Hp} {r : Addr} {ns : List Str} {as : List Addr} {R : Str → Str → Prop} (h : TabL K H r ns as R) (e : Same H H') : TabL K H' r ns as R :=
  ⟨h.len, e _ _ h.top, fun i z a hz ha => let ⟨ks, h1, h2⟩ := h.row i z a hz ha; ⟨ks, e _ _ h1, h2⟩⟩
theorem TabL.at {K : PySem.W.Frag} {H : Hp} {r : Addr} {ns : List Str} {as : List Addr} {R : Str → Str → Prop} (h : TabL K H r ns as R) {x : Str} (hx : x ∈ ns) : ∃ (i : Nat) (a : Addr), ns[i]? = some x ∧ as[i]? = some a := by
  obtain ⟨i, hi, e⟩ := List.getElem_of_mem hx
  have hi' : i < as.length := by rw [h.len]; exact hi
  exact ⟨i, as[i], by rw [List.getElem?_eq_getElem hi, e], List.getElem?_eq_getElem hi'⟩
section
variable {K : PySem.W.Frag} {σ : St} {H : Hp} {Q : VK} {r : Addr} {ns : List Str} {as : List Addr} {R : Str → Str → Prop}
theorem i_ixDR {a : Addr} {kvs : List (Key × V)} {z : Str} {v : V} (h : Rd H a (.dK kvs)) (e : valV kvs (Sum.inr z : Key) = some v) (k : Q v H) : rIxA K (.ref a) (.str z) H Q := .inr ⟨a, v, rfl, .inl ⟨kvs, Sum.inr z, h, rfl, e.symm⟩, k⟩
theorem i_tabR {x : Str} {i : Nat} {a : Addr} (h : TabR H r ns as R) (hn : ns.Nodup) (hx : ns[i]? = some x) (ha : as[i]? = some a) (k : Q (.ref a) H) : rIxA K (.ref r) (.str x) H Q := i_ixDR h.top (valV_tab hn hx ha) k
theorem i_tabL {x : Str} {i : Nat} {a : Addr} (h : TabL K H r ns as R) (hn : ns.Nodup) (hx : ns[i]? = some x) (ha : as[i]? = some a) (k : Q (.ref a) H) : rIxA K (.ref r) (.str x) H Q := i_ixD h.top (valV_tab hn hx ha) k
theorem i_ninRowR {a : Addr} {ks : List Str} {y : Str} (h : Rd H a (.dK (rowK ks))) (k : Q (.bl (!decide (y ∈ ks))) H) : rInA K true (.str y) (.ref a) H Q := by
  refine .inr (.inr (.inl ⟨a, valV (rowK ks) (Sum.inr y : Key), rfl, .inl ⟨_, Sum.inr y, h, rfl, rfl⟩, ?_⟩))
  rw [valV_row]
  by_cases e : y ∈ ks
  · simpa [e] using k
  · simpa [e] using k
end
noncomputable def clR (ns : List Str) (ps : List (Str × Str)) (x : Str) : List (Str × Str) := (ns.filter fun y => wayB ps x y).map fun y => (x, y)
noncomputable def clP (ns : List Str) (ps : List (Str × Str)) : List (Str × Str) := ns.flatMap (clR ns ps)
noncomputable def thB (ns : List Str) (ps : List (Str × Str)) (p : Str × Str) : Bool := ns.any fun z => wayB ps p.1 z && wayB ps z p.2
noncomputable def baP (ns : List Str) (ps : List (Str × Str)) : List (Str × Str) := (clP ns ps).filter fun p => !thB ns ps p
noncomputable def unB (ps : List (Str × Str)) (x y : Str) : Bool := !wayB ps x y && !wayB ps y x
noncomputable def unR (ns : List Str) (ps : List (Str × Str)) (i : Nat) : List (Str × Str) := ((ns.drop (i + 1)).filter fun y => unB ps (ns.getD i "") y).map fun y => (ns.getD i "", y)
noncomputable def unK (ns : List Str) (ps : List (Str × Str)) (k : Nat) : List (Str × Str) := (List.range k).flatMap (unR ns ps)
noncomputable def unP (ns : List Str) (ps : List (Str × Str)) : List (Str × Str) := unK ns ps ns.length
theorem mem_clR {ns : List Str} {ps : List (Str × Str)} {x : Str} {p : Str × Str} : p ∈ clR ns ps x ↔ p.1 = x ∧ p.2 ∈ ns ∧ Way ps x p.2 := by
  unfold clR
  rw [List.mem_map]
  constructor
  · rintro ⟨y, hy, rfl⟩
    rw [List.mem_filter, wayB_iff] at hy
    exact ⟨rfl, hy⟩
  · rintro ⟨h1, h2⟩
    refine ⟨p.2, ?_, by rw [← h1]⟩
    rw [List.mem_filter, wayB_iff]
    exact h2
theorem mem_clP {ns : List Str} {ps : List (Str × Str)} {p : Str × Str} : p ∈ clP ns ps ↔ p.1 ∈ ns ∧ p.2 ∈ ns ∧ Way ps p.1 p.2 := by
  unfold clP
  rw [List.mem_flatMap]
  constructor
  · rintro ⟨x, hx, hp⟩
    obtain ⟨rfl, h⟩ := mem_clR.mp hp
    exact ⟨hx, h⟩
  · rintro ⟨h1, h⟩
    exact ⟨p.1, h1, mem_clR.mpr ⟨rfl, h⟩⟩
theorem len_flat {α β : Type} (f : α → List β) (n : Nat) (h : ∀ a, (f a).length ≤ n) : ∀ l : List α, (l.flatMap f).length ≤ l.length * n
  | [] => by simp
  | a :: l => by
    rw [List.flatMap_cons, List.length_append, List.length_cons, Nat.add_mul]
    have := len_flat f n h l
    have := h a
    omega
theorem eqv_pr (p q : Str × Str) : PyData.eqv (prD p) (prD q) = decide (p = q) := by
  obtain ⟨a, b⟩ := p
  obtain ⟨c, d⟩ := q
  simp only [prD, PyData.eqv, PyData.eqvAll, Prod.mk.injEq, Bool.and_true]
  rw [Bool.eq_iff_iff]
  simp
theorem any_pr (ps : List (Str × Str)) (p : Str × Str) : ((ps.map prD).any fun e => PyData.eqv e (prD p)) = decide (p ∈ ps) := by
  induction ps with
  | nil => simp
  | cons q ps ih =>
    rw [List.map_cons, List.any_cons, ih, eqv_pr]
    by_cases h : q = p
    · subst h
      simp
    · simp [h, Ne.symm h]
theorem lay_prs {ps : List (Str × Str)} (h : NmP ps) : PyData.canLayAll0 (ps.map prD) = true := plain_layL _ (plainL_map _ _ fun p hp => (pr_facts (h p hp).1 (h p hp).2).1)
theorem nmP_clP {ns : List Str} {ps : List (Str × Str)} (h : Names ns) : NmP (clP ns ps) := fun p hp => let ⟨a, b, _⟩ := mem_clP.mp hp; ⟨h.2 _ a, h.2 _ b⟩
section
variable {K : PySem.W.Frag} {H : Hp} {σ : St}
theorem Tab.some {H : Hp} {r : Addr} {ns : List Str} {as : List Addr} {R : Str → Str → Prop} (h : Tab H r ns as R) : ∀ a ∈ as, H a ≠ none := fun a ha e => by
  obtain ⟨i, hi, hq⟩ := List.getElem_of_mem ha
  have hi' : i < ns.length := by rw [← h.len]; exact hi
  obtain ⟨ks, h1, _⟩ := h.row i ns[i] a (List.getElem?_eq_getElem hi') (by rw [List.getElem?_eq_getElem hi, hq])
  rw [e] at h1
  cases h1
end
end L2
set_option Elab.async false
set_option linter.all false
set_option maxRecDepth 100000
set_option maxHeartbeats 4000000
namespace L2
open PySem PySem.Spec PyProof.Rows
theorem IsL.perm {α : Type} {K : PySem.W.Frag} {H : Hp} {f : α → PyData} {xs ys : List V} (p : ys.Perm xs) : ∀ {as : List α}, IsL K H (as.map f) xs → ∃ bs : List α, bs.Perm as ∧ IsL K H (bs.map f) ys := by
  induction p with
  | nil => exact fun {as} h => ⟨as, .refl _, h⟩
  | @cons x l1 l2 _ ih =>
    intro as h
    cases as with
    | nil =>
      have := IsL.length h
      simp at this
    | cons a as =>
      rw [List.map_cons] at h
      simp only [IsL] at h
      obtain ⟨v, vs, e, h1, h2⟩ := h
      cases e
      obtain ⟨bs, hb, hL⟩ := ih h2
      exact ⟨a :: bs, hb.cons a, by rw [List.map_cons]; exact .cons h1 hL⟩
  | @swap x y l =>
    intro as h
    cases as with
    | nil =>
      have := IsL.length h
      simp at this
    | cons a as =>
      cases as with
      | nil =>
        have := IsL.length h
        simp at this
      | cons b as =>
        rw [List.map_cons, List.map_cons] at h
        simp only [IsL] at h
        obtain ⟨v, vs, e, h1, v2, vs2, e2, h2, h3⟩ := h
        cases e
        cases e2
        exact ⟨b :: a :: as, .swap a b as, by rw [List.map_cons, List.map_cons]; exact .cons h2 (.cons h1 h3)⟩
  | trans _ _ ih1 ih2 =>
    intro as h
    obtain ⟨bs, hb, hL⟩ := ih2 h
    obtain ⟨cs, hc, hL2⟩ := ih1 hL
    exact ⟨cs, hc.trans hb, hL2⟩
theorem half_nil : Half [] [] := ⟨⟨by simp, fun _ h => by cases h⟩, by simp, by simp, [], .refl _, Up.nil⟩
end L2
set_option Elab.async false
set_option linter.all false
set_option maxRecDepth 100000
set_option maxHeartbeats 4000000
namespace L2
open PySem PySem.Spec PyProof.Rows
noncomputable def IsRevT (h : Heap) (a l : Addr) (i : Int) : Prop := ∃ o, h.get? a = some o ∧ o.cls = .type "reversed" ∧ o.data = .fields #[.ref l, rawInt i]
section
variable {prog : Program} {w : World} {A : Around} {E : Value → Shared → Prop} {s : Shared}
theorem IsRevT.typeIs {a l : Addr} {i : Int} (x : IsRevT s.heap a l i) : s.TypeIs (.ref a) "reversed" := let ⟨o, ho, hc, _⟩ := x; ⟨o, ho, hc⟩
theorem IsRevT.at {h h' : Heap} {a l : Addr} {i : Int} (x : IsRevT h a l i) (e : ∀ o, h.get? a = some o → h'.get? a = some o) : IsRevT h' a l i := let ⟨o, ho, r⟩ := x; ⟨o, e _ ho, r⟩
end
noncomputable def Itv (K : PySem.W.Frag) (a : Addr) (n : Nat) : It :=
  ⟨fun i H => i < n ∧ ∃ xs, SqT K H a xs ∧ xs.length = n, fun i H v H' => H' = H ∧ ∀ xs, SqT K H a xs → xs[n - 1 - i]? = some v, fun i H => n ≤ i⟩
section
variable {X : Cx} {K : PySem.W.Frag}
noncomputable def rRev (K : PySem.W.Frag) (vs : List V) (H : Hp) (R : It → Hp → Prop) : Prop := ∃ a xs, vs = [.ref a] ∧ SqT K H a xs ∧ R (Itv K a xs.length) H
noncomputable def iRev (K : PySem.W.Frag) (ta : TA) : TI := fun σ H R => ta σ H fun vs H1 => rRev K vs H1 R
end
section
variable {K : PySem.W.Frag} {σ : St} {H : Hp}
theorem i_irev {ts : TA} {R : It → Hp → Prop} (k : ts σ H fun vs H1 => rRev K vs H1 R) : iRev K ts σ H R := k
end
end L2
set_option Elab.async false
set_option linter.all false
set_option maxRecDepth 100000
set_option maxHeartbeats 4000000
namespace L2
open PySem PySem.Spec PyProof.Rows
noncomputable def layF (ps : List (Str × Str)) (l : List Str) : List Str := l.filter fun x => !l.any fun y => wayB ps y x
noncomputable def resF (ps : List (Str × Str)) (l : List Str) : List Str := l.filter fun x => l.any fun y => wayB ps y x
inductive Lays (ps : List (Str × Str)) : List Str → List (List Str) → Prop
  | nil : Lays ps [] []
  | cons {l : List Str} {Ls : List (List Str)} : l ≠ [] → Lays ps (resF ps l) Ls → Lays ps l (layF ps l :: Ls)
theorem Lays.det {ps : List (Str × Str)} {l : List Str} {A B : List (List Str)} (h : Lays ps l A) (g : Lays ps l B) : A = B := by
  induction h generalizing B with
  | nil =>
    cases g with
    | nil => rfl
    | cons n _ => exact absurd rfl n
  | cons n _ ih =>
    cases g with
    | nil => exact absurd rfl n
    | cons _ g => rw [ih g]
theorem any_way {ps : List (Str × Str)} {l : List Str} {x : Str} : (l.any fun y => wayB ps y x) = true ↔ ∃ y ∈ l, Way ps y x := by
  rw [List.any_eq_true]
  exact ⟨fun ⟨y, h, e⟩ => ⟨y, h, wayB_iff.mp e⟩, fun ⟨y, h, e⟩ => ⟨y, h, wayB_iff.mpr e⟩⟩
theorem mem_resF {ps : List (Str × Str)} {l : List Str} {x : Str} : x ∈ resF ps l ↔ x ∈ l ∧ ∃ y ∈ l, Way ps y x := by
  unfold resF
  rw [List.mem_filter, any_way]
theorem mem_layF {ps : List (Str × Str)} {l : List Str} {x : Str} : x ∈ layF ps l ↔ x ∈ l ∧ ¬ ∃ y ∈ l, Way ps y x := by
  unfold layF
  rw [List.mem_filter, Bool.not_eq_true', ← Bool.not_eq_true, any_way]
theorem min_way {ps : List (Str × Str)} (irr : ∀ x, ¬ Way ps x x) : ∀ l : List Str, l ≠ [] → ∃ x ∈ l, ∀ y ∈ l, ¬ Way ps y x
  | [], h => absurd rfl h
  | [a], _ => ⟨a, by simp, fun y hy => by
      have : y = a := by simpa using hy
      subst this
      exact irr y⟩
  | a :: b :: t, _ => by
    obtain ⟨x, hx, h⟩ := min_way irr (b :: t) (by simp)
    by_cases e : Way ps a x
    · refine ⟨a, by simp, fun y hy => ?_⟩
      rcases List.mem_cons.mp hy with rfl | hy
      · exact irr y
      · exact fun g => h y hy (g.trans e)
    · refine ⟨x, List.mem_cons_of_mem _ hx, fun y hy => ?_⟩
      rcases List.mem_cons.mp hy with rfl | hy
      · exact e
      · exact h y hy
theorem filter_lt {α : Type} {p : α → Bool} : ∀ {l : List α} {x : α}, x ∈ l → p x = false → (l.filter p).length < l.length
  | a :: l, x, hx, h => by
    rcases List.mem_cons.mp hx with rfl | hx
    · rw [List.filter_cons, h]
      exact Nat.lt_succ_of_le (List.length_filter_le _ _)
    · rw [List.filter_cons]
      have := filter_lt hx h
      split
      · rw [List.length_cons, List.length_cons]; omega
      · rw [List.length_cons]; omega
theorem res_lt {ps : List (Str × Str)} (irr : ∀ x, ¬ Way ps x x) {l : List Str} (h : l ≠ []) : (resF ps l).length < l.length := by
  obtain ⟨x, hx, g⟩ := min_way irr l h
  refine filter_lt hx ?_
  rw [← Bool.not_eq_true, any_way]
  exact fun ⟨y, hy, e⟩ => g y hy e
theorem Lays.len {ps : List (Str × Str)} (irr : ∀ x, ¬ Way ps x x) {l : List Str} {Ls : List (List Str)} (h : Lays ps l Ls) : Ls.length ≤ l.length := by
  induction h with
  | nil => simp
  | cons n _ ih =>
    have := res_lt irr n
    rw [List.length_cons]
    omega
theorem Lays.mem {ps : List (Str × Str)} {l : List Str} {Ls : List (List Str)} (h : Lays ps l Ls) : ∀ L ∈ Ls, L.length ≤ l.length ∧ ∀ x ∈ L, x ∈ l := by
  induction h with
  | nil => exact fun _ h => by cases h
  | @cons l Ls n _ ih =>
    intro L hL
    rcases List.mem_cons.mp hL with rfl | hL
    · exact ⟨List.length_filter_le _ _, fun x hx => (mem_layF.mp hx).1⟩
    · obtain ⟨h1, h2⟩ := ih L hL
      exact ⟨Nat.le_trans h1 (List.length_filter_le _ _), fun x hx => (mem_resF.mp (h2 x hx)).1⟩
noncomputable def lsD (Ls : List (List Str)) : PyData := .tuple (Ls.map nmD)
noncomputable def Chn (ps : List (Str × Str)) (cs : List Str) : Prop := ∀ (k : Nat) (x y : Str), cs[k]? = some x → cs[k + 1]? = some y → Way ps x y
theorem Chn.nil {ps : List (Str × Str)} : Chn ps [] := fun k x y h => by cases h
theorem Chn.cons {ps : List (Str × Str)} {x : Str} {cs : List Str} (h : Chn ps cs) (g : ∀ y, cs[0]? = some y → Way ps x y) : Chn ps (x :: cs) := fun k a b ha hb => by
  cases k with
  | zero =>
    have : x = a := by simpa using ha
    subst this
    rw [List.getElem?_cons_succ] at hb
    exact g b hb
  | succ k =>
    rw [List.getElem?_cons_succ] at ha hb
    exact h k a b ha hb
section
variable {K : PySem.W.Frag} {H : Hp} {Q : VK}
theorem i_tupLs {Ls : List (List Str)} {a : Addr} {ys : List V} (h : H a = some (.lst ys)) (g : IsL K H (Ls.map nmD) ys) (k : ∀ v H', Same H H' → Is K H' (lsD Ls) v → Q v H') : rTupleA K [.ref a] H Q :=
  i_tupleL (SqL.of h) fun p H' hp e h' => k _ H' e (Is.of_tup (SqT.of h') (IsL.mono e _ _ g))
theorem i_lenLs {Ls : List (List Str)} {x : V} (h : Is K H (lsD Ls) x) (k : Q (.int Ls.length) H) : rLenA K [x] H Q := i_lenQ h (by rw [List.length_map]; exact k)
end
theorem eqv_nm_nil (ns : List Str) : PyData.eqv (nmD ns) (.tuple []) = ns.isEmpty := by
  cases ns <;> simp [nmD, PyData.eqv, PyData.eqvAll]
theorem eqv_ls_nil (ns : List (List Str)) : PyData.eqv (lsD ns) (.tuple []) = ns.isEmpty := by
  cases ns <;> simp [lsD, PyData.eqv, PyData.eqvAll]
theorem IsL.bl_eq {α : Type} {K : PySem.W.Frag} {H : Hp} {f : α → Bool} : ∀ {as : List α} {vs : List V}, IsL K H (as.map fun a => PyData.bool (f a)) vs → vs = (as.map f).map V.bl
  | [], vs, h => by simp only [List.map_nil, IsL] at h; exact h
  | n :: ns, vs, h => by
    simp only [List.map_cons, IsL, Is] at h
    obtain ⟨v, r, rfl, rfl, e3⟩ := h
    rw [IsL.bl_eq e3]
    rfl
theorem comp_bls {α : Type} {K : PySem.W.Frag} {H : Hp} {σ : St} {J : It} {xs : List V} {G : Hp → Prop} {g : TG} {te : TE} {Q : VK} {k : Nat} {js : List Nat} (hw : WalkOf J xs G) (as : List α) (hl : as.length = xs.length) (f : α → Bool) (hz : xs.length ≤ 1000000) (hG : ∀ H', Same H H' → G H')
    (hs : ∀ (i : Nat) a v H1 (R : VK), as[i]? = some a → xs[i]? = some v → Same H H1 → (∀ H2, Same H1 H2 → R (.bl (f a)) H2) → g v (List.replicate k none ++ pick σ js) H1 fun σ2 H2 => te σ2 H2 R)
    (hd : ∀ p H', H p = none → Same H H' → SqL K H' p ((as.map f).map V.bl) → Q (.ref p) H') : rComp k js g tTrue te σ J H Q := by
  refine comp_dat (K := K) hw as hl (fun _ => true) (fun a => PyData.bool (f a)) (fun _ => rfl) hz hG (fun i a v H1 R R' ha hv e hR hR' => ?_) (fun p ys H' hp e h hL => ?_)
  · exact hs i a v H1 R ha hv e fun H2 e2 => hR rfl _ H2 e2 is_bl
  · rw [filter_true] at hL
    have := IsL.bl_eq hL
    subst this
    exact hd p H' hp e (SqL.of h)
end L2
set_option Elab.async false
set_option linter.all false
set_option maxRecDepth 100000
set_option maxHeartbeats 4000000
namespace L2
open PySem PySem.Spec PyProof.Rows
section
variable {P : Program} {w : World} {κ : Type} [DecidableEq κ] {knd : KeyKind P w κ} {A : Around} {E : Value → Shared → Prop} {s : Shared}
end
theorem KV.right {κ : Type} : ∀ {kvs : List (κ × V)} {vs : List (κ × Value)}, KV kvs vs → ∀ u ∈ vs, ∃ kv ∈ kvs, kv.1 = u.1 ∧ RelV kv.2 u.2
  | _, _, .nil, _, h => nomatch h
  | _, _, .cons r t, u, h => by
    rcases List.mem_cons.mp h with rfl | h
    · exact ⟨_, List.mem_cons_self, r⟩
    · obtain ⟨kv, h1, h2⟩ := KV.right t u h
      exact ⟨kv, List.mem_cons_of_mem _ h1, h2⟩
theorem KV.left {κ : Type} : ∀ {kvs : List (κ × V)} {vs : List (κ × Value)}, KV kvs vs → ∀ kv ∈ kvs, ∃ u ∈ vs, kv.1 = u.1 ∧ RelV kv.2 u.2
  | _, _, .nil, _, h => nomatch h
  | _, _, .cons r t, u, h => by
    rcases List.mem_cons.mp h with rfl | h
    · exact ⟨_, List.mem_cons_self, r⟩
    · obtain ⟨kv, h1, h2⟩ := KV.left t u h
      exact ⟨kv, List.mem_cons_of_mem _ h1, h2⟩
section
variable {X : Cx} {pins : List (Addr × Obj)} {σ : St} {H : Hp} {s : Shared} {A : Around}
end
end L2
set_option Elab.async false
set_option linter.all false
set_option maxRecDepth 100000
set_option maxHeartbeats 4000000
namespace L2
open PySem PySem.Spec PyProof.Rows
section
variable {prog : Program} {w : World} {A : Around} {E : Value → Shared → Prop} {s : Shared}
end
section
variable {X : Cx} {K : PySem.W.Frag}
end
end L2
set_option Elab.async false
set_option linter.all false
set_option maxRecDepth 100000
set_option maxHeartbeats 4000000
namespace L2
open PySem PySem.Spec PyProof.Rows
theorem Way.mem {ns : List Str} {ps : List (Str × Str)} (hm : ∀ p ∈ ps, p.1 ∈ ns ∧ p.2 ∈ ns) {x y : Str} (h : Way ps x y) : x ∈ ns ∧ y ∈ ns := by
  obtain ⟨p, hp, e⟩ := List.mem_map.mp h.left
  obtain ⟨q, hq, e'⟩ := List.mem_map.mp h.right
  exact ⟨e ▸ (hm p hp).1, e' ▸ (hm q hq).2⟩
end L2
set_option Elab.async false
set_option linter.all false
set_option maxRecDepth 100000
set_option maxHeartbeats 4000000
namespace L2
open PySem PySem.Spec PyProof.Rows
noncomputable def inS (ns : List Str) : Key → Bool
  | .inr z => decide (z ∈ ns)
  | .inl _ => false
section
variable {P : Program} {w : World} {A : Around} {R : Result → Shared → Prop} {it : Addr} {fp wr : List Addr} {G : Array GenState → Array GenState → Prop} {n : Nat} {PV : Nat → Value → Prop} {St : Nat → Shared → Prop}
end
section
variable {prog : Program} {w : World} {A : Around} {E : Value → Shared → Prop} {s : Shared}
set_option maxHeartbeats 3200000 in
end
end L2
set_option Elab.async false
set_option linter.all false
set_option maxRecDepth 100000
set_option maxHeartbeats 4000000
namespace L2
open PySem PySem.Spec PyProof.Rows
section
variable {X : Cx} {K : PySem.W.Frag}
end
end L2
set_option Elab.async false
set_option linter.all false
set_option maxRecDepth 100000
set_option maxHeartbeats 4000000
namespace L2
open PySem PySem.Spec PyProof.Rows
theorem nm_len {z : Str} (h : isNm z = true) : z.length ≤ 8 := (nm_ok h).2
section
variable {K : PySem.W.Frag} {H : Hp} {Q : VK}
end
end L2
set_option Elab.async false
set_option linter.all false
set_option maxRecDepth 100000
set_option maxHeartbeats 4000000
namespace L2
open PySem PySem.Spec PyProof.Rows
section
variable {X : Cx} {K : PySem.W.Frag}
end
section
variable {prog : Program} {w : World} {A : Around} {E : Value → Shared → Prop} {s : Shared}
end
section
variable {X : Cx} {K : PySem.W.Frag}
noncomputable def tBMT (K : PySem.W.Frag) (r : V → List V → Hp → VK → Prop) (to : TE) (t : TA) : TE := fun σ H Q => to σ H fun x H1 => (∃ a xs, x = .ref a ∧ SqT K H1 a xs) ∧ t σ H1 fun vs H2 => r x vs H2 Q
theorem i_bmT {r : V → List V → Hp → VK → Prop} {te : TE} {ts : TA} {σ : St} {H : Hp} {Q : VK} (k : te σ H fun x H1 => (∃ a xs, x = .ref a ∧ SqT K H1 a xs) ∧ ts σ H1 fun xs H2 => r x xs H2 Q) : tBMT K r te ts σ H Q := k
end
end L2
set_option Elab.async false
set_option linter.all false
set_option maxRecDepth 100000
set_option maxHeartbeats 4000000
namespace L2
open PySem PySem.Spec PyProof.Rows
section
variable {prog : Program} {w : World} {A : Around} {E : Value → Shared → Prop} {s : Shared}
theorem sort_strs {t : Addr} {vs : List Value} {ss : List Str} {T : String} {n : Nat} {o : Obj} {Q : Value → Shared → Prop} (hT : T = "list" ∨ T = "tuple") (ho : s.heap.get? t = some o) (hc : o.cls = .type T) (hd : o.data = .seq vs.toArray n) (hS : StrsAre vs ss) (h64 : vs.length < 64)
    (h : ∀ (h1 h' : Heap) (out : List Value) (e : Nat) (ss' : List Str), (∀ b ob, s.heap.get? b = some ob → h1.get? b = some ob) → (∀ b ob, h1.get? b = some ob → h'.get? b = some ob) → h'.get? h1.objs.size = some (seqObj "list" out.toArray e) → StrsAre out ss' → ss'.Perm ss → sortedS ss' = true → Q (.ref h1.objs.size) { s with heap := h' }) :
    wpAny (model prog w) A (call (.builtin "sorted") [.ref t]) Q E s := by
  refine Calls.call_function_entry kind_sorted plain_sorted entry_sorted (args_sorted1 _) ?_
  unfold Builtin.«sorted»
  refine wpAny_bind (m := checkCount "sorted" 1 1 _) (wpAny_pure ?_)
  refine wpAny_bind (wpAny_collect_seq t hT ho hc hd (fun h1 k1 => ?_) (by rw [List.size_toArray, sizeLine_eq]; omega))
  refine wpAny_bind (wpAny_newList ?_ (by simp only [List.size_toArray]; rw [sizeLine_eq]; omega))
  have hnew : (h1.push (seqObj "list" vs.toArray 0)).get? h1.objs.size = some (seqObj "list" vs.toArray 0) := Heap.get?_push_size _ rfl
  show wpAny _ _ _ _ _ { s with heap := h1.push (seqObj "list" vs.toArray 0) }
  refine wpAny_bind (wpAny_holding (wpAny_call_entry slot_list_sort ⟨_, hnew, rfl⟩ entry_list_sort (list_sort_treeK strKind_oneLt hnew hS.keysOf (fun v₁ v₂ r e => keyKind_strs (by rw [← e]; exact hS)) h64 fun st' hp hs => ⟨_, rfl, ?_⟩) (args_list_sort _)))
  obtain ⟨ss', q1, q2, q3⟩ := sorted_out_str hS hp hs
  obtain ⟨e, he⟩ := sortedHeap_at (out := (arrOf st').map (·.2)) hnew
  refine wpAny_pure ⟨_, rfl, h h1 _ ((arrOf st').map (·.2)).toList e ss' k1 (fun b ob hb => ?_) (by rw [Array.toArray_toList]; exact he) q1 q2 q3⟩
  have hlt := Heap.lt_size hb
  rw [sortedHeap_old (Nat.ne_of_lt hlt) (by rw [size_push']; exact Nat.lt_succ_of_lt hlt)]
  exact Heap.get?_push_of_some _ hb
end
theorem strs_vals : ∀ {us : List Value} {ys : List Str}, StrsAre us ys → Vals (ys.map V.str) us
  | _, _, .nil => .nil
  | _, _, .cons y t h => .cons ⟨t, rfl⟩ (strs_vals h)
section
variable {X : Cx} {K : PySem.W.Frag}
noncomputable def rSorted (K : PySem.W.Frag) : List V → Hp → VK → Prop := fun xs H Q => ∃ (a : Addr) (ns : List Str), xs = [.ref a] ∧ (SqL K H a (ns.map V.str) ∨ SqT K H a (ns.map V.str)) ∧ ns.length < 64 ∧ ∀ p (ms : List Str), H p = none → ms.Perm ns → sortedS ms = true → Q (.ref p) (upd H p (.lst (ms.map V.str)))
theorem call_sortedS : CallR X (.builtin "sorted") (rSorted X.K) := by
  intro pins s σ H xs us Q I r h
  obtain ⟨a, ns, rfl, hl, hz, q⟩ := h
  obtain ⟨u, rfl, ru⟩ := vals1 r
  cases ru
  have fin : ∀ (vs : List Value), Vals (ns.map V.str) vs → ∀ (h1 h' : Heap) (out : List Value) (e : Nat) (ss' : List Str), (∀ b ob, s.heap.get? b = some ob → h1.get? b = some ob) → (∀ b ob, h1.get? b = some ob → h'.get? b = some ob) → h'.get? h1.objs.size = some (seqObj "list" out.toArray e) → StrsAre out ss' → ss'.Perm ns → sortedS ss' = true → EP X pins σ Q (.ref h1.objs.size) { s with heap := h' } := fun vs rv h1 h' out e ss' k1 k2 he q1 q2 q3 => by
    have I1 : Inv X pins σ H { s with heap := h1 } := I.kept (t' := s.toks) k1
    exact ⟨.ref _, _, I1.laid (t' := s.toks) (o := .lst (ss'.map V.str)) k2 (Nat.le_refl _) ⟨by rw [List.length_map, q2.length_eq, sizeLine_eq]; omega, out, e, strs_vals q1, he⟩, rfl, q _ ss' (I1.hok.fresh (Nat.le_refl _)) q2 q3⟩
  rcases hl with hl | hl
  · obtain ⟨its, rv, ⟨o, n, h1, h2, _, h3⟩, _⟩ := I.list hl
    have hlen := rv.length
    rw [List.length_map] at hlen
    exact sort_strs (.inl rfl) h1 h2 h3 (strs_of rv) (by omega) (fin its rv)
  · obtain ⟨its, rv, ⟨o, h1, h2, n, h3⟩, _⟩ := I.tuple hl
    have hlen := rv.length
    rw [List.length_map] at hlen
    exact sort_strs (.inr rfl) h1 h2 h3 (strs_of rv) (by omega) (fin its rv)
theorem call_sortedK (hK : X.K = K := by with_unfolding_all rfl) : CallR X (.builtin "sorted") (rSorted K) := hK ▸ call_sortedS
theorem i_sorted {a : Addr} {ns : List Str} {H : Hp} {Q : VK} (h : SqL K H a (ns.map V.str) ∨ SqT K H a (ns.map V.str)) (hz : ns.length < 64) (k : ∀ p (ms : List Str) H', H p = none → Same H H' → H' p = some (.lst (ms.map V.str)) → ms.Perm ns → sortedS ms = true → Q (.ref p) H') : rSorted K [.ref a] H Q :=
  ⟨a, ns, rfl, h, hz, fun p ms hp h1 h2 => k p ms _ hp (Same.upd hp) upd_same h1 h2⟩
end
theorem rising_le : ∀ (p : Str) (l : List Str), risingS p l = true → ∀ y ∈ l, ¬ y.cps.toList < p.cps.toList
  | p, [], _, y, h => nomatch h
  | p, x :: r, h, y, hy => by
    have h' : (!ltCps x.cps.toList p.cps.toList && risingS x r) = true := h
    rw [Bool.and_eq_true, Bool.not_eq_true', ltCps_eq, decide_eq_false_iff_not] at h'
    rcases List.mem_cons.mp hy with rfl | hy
    · exact h'.1
    · have ih := rising_le x r h'.2 y hy
      exact List.not_lt.mpr (List.le_trans (List.not_lt.mp h'.1) (List.not_lt.mp ih))
theorem rising_tail {x : Str} {r : List Str} (h : sortedS (x :: r) = true) : sortedS r = true := by
  cases r with
  | nil => rfl
  | cons y r =>
    have h' : (!ltCps y.cps.toList x.cps.toList && risingS y r) = true := h
    rw [Bool.and_eq_true] at h'
    exact h'.2
theorem sorted_one : ∀ {a b : List Str}, a.Perm b → sortedS a = true → sortedS b = true → a = b
  | [], b, p, _, _ => (List.nil_perm.mp p).symm
  | x :: a, [], p, _, _ => absurd p.length_eq (by simp)
  | x :: a, y :: b, p, ha, hb => by
    have hxy : x = y := by
      have h1 : x = y ∨ x ∈ b := by simpa using p.mem_iff.mp List.mem_cons_self
      have h2 : y = x ∨ y ∈ a := by simpa using p.symm.mem_iff.mp List.mem_cons_self
      rcases h1 with e | h1
      · exact e
      rcases h2 with e | h2
      · exact e.symm
      have q1 := rising_le x a ha y h2
      have q2 := rising_le y b hb x h1
      exact Str.ext' (Array.toList_inj.mp (List.le_antisymm (List.not_lt.mp q1) (List.not_lt.mp q2)))
    subst hxy
    rw [sorted_one (List.Perm.cons_inv p) (rising_tail ha) (rising_tail hb)]
end L2
set_option linter.all false
namespace L2
section
variable {α : Type} [DecidableEq α]
noncomputable def binM : List α → (α → Bool) → Nat
  | [], _ => 0
  | x :: xs, p => (p x).toNat + 2 * binM xs p
noncomputable def bitOf : List α → α → Nat
  | [], _ => 0
  | y :: ys, x => if x = y then 1 else 2 * bitOf ys x
theorem bool_two {a b : Bool} {m n : Nat} (h : a.toNat + 2 * m = b.toNat + 2 * n) : a = b ∧ m = n := by
  cases a <;> cases b <;> simp [Bool.toNat] at h ⊢ <;> omega
theorem binM_inj {p q : α → Bool} : ∀ {ns : List α}, binM ns p = binM ns q → ∀ x ∈ ns, p x = q x
  | [], _, x, hx => by cases hx
  | y :: ys, h, x, hx => by
    unfold binM at h
    obtain ⟨h1, h2⟩ := bool_two h
    rcases List.mem_cons.mp hx with rfl | hx
    · exact h1
    · exact binM_inj h2 x hx
theorem binM_zero {p : α → Bool} : ∀ {ns : List α}, binM ns p = 0 ↔ ∀ x ∈ ns, p x = false
  | [] => by simp [binM]
  | x :: xs => by
    unfold binM
    have := binM_zero (p := p) (ns := xs)
    constructor
    · intro h y hy
      have h1 : (p x).toNat = 0 := by omega
      have h2 : binM xs p = 0 := by omega
      rcases List.mem_cons.mp hy with rfl | hy
      · cases e : p y with
        | false => rfl
        | true => rw [e] at h1; cases h1
      · exact this.mp h2 y hy
    · intro h
      rw [h x (by simp), this.mpr fun y hy => h y (by simp [hy])]
      rfl
theorem binM_lt (p : α → Bool) : ∀ ns : List α, binM ns p < 2 ^ ns.length
  | [] => by simp [binM]
  | x :: xs => by
    have := binM_lt p xs
    unfold binM
    rw [List.length_cons, Nat.pow_succ]
    have : (p x).toNat ≤ 1 := by cases p x <;> simp [Bool.toNat]
    omega
noncomputable def frF (b : α → α → Bool) (L : List α) : List α := L.filter fun x => !(L.any fun y => b y x)
noncomputable def lessF (L : List α) (x : α) : List α := L.filter fun y => !decide (y = x)
noncomputable def ext (b : α → α → Bool) : Nat → List α → List (List α)
  | 0, _ => [[]]
  | n + 1, L => (frF b L).flatMap fun x => (ext b n (lessF L x)).map (x :: ·)
noncomputable def cnt (b : α → α → Bool) (L : List α) : Nat := (ext b L.length L).length
theorem cnt_nil (b : α → α → Bool) : cnt b [] = 1 := rfl
theorem mem_frF {b : α → α → Bool} {L : List α} {x : α} : x ∈ frF b L ↔ x ∈ L ∧ ∀ y ∈ L, b y x = false := by
  unfold frF
  rw [List.mem_filter]
  constructor
  · rintro ⟨h1, h2⟩
    refine ⟨h1, fun y hy => ?_⟩
    cases e : b y x with
    | false => rfl
    | true =>
      have : (L.any fun y => b y x) = true := List.any_eq_true.mpr ⟨y, hy, e⟩
      rw [this] at h2
      cases h2
  · rintro ⟨h1, h2⟩
    refine ⟨h1, ?_⟩
    have : (L.any fun y => b y x) = false := by
      rw [Bool.eq_false_iff]
      intro h
      obtain ⟨y, hy, e⟩ := List.any_eq_true.mp h
      rw [h2 y hy] at e
      cases e
    rw [this]
    rfl
theorem mem_lessF {L : List α} {x y : α} : y ∈ lessF L x ↔ y ∈ L ∧ y ≠ x := by
  unfold lessF
  rw [List.mem_filter]
  simp
theorem lessF_nodup {L : List α} (h : L.Nodup) (x : α) : (lessF L x).Nodup := List.Nodup.sublist (List.filter_sublist) h
theorem lessF_no : ∀ {L : List α} {x : α}, x ∉ L → lessF L x = L := fun {L x} h => by
  unfold lessF
  rw [List.filter_eq_self]
  intro y hy
  have : y ≠ x := fun q => h (q ▸ hy)
  simp [this]
theorem lessF_len : ∀ {L : List α} {x : α}, L.Nodup → x ∈ L → (lessF L x).length + 1 = L.length
  | [], _, _, h => by cases h
  | y :: ys, x, hn, h => by
    obtain ⟨h1, h2⟩ := List.nodup_cons.mp hn
    by_cases e : y = x
    · subst e
      have : lessF (y :: ys) y = lessF ys y := by unfold lessF; rw [List.filter_cons, if_neg (by simp)]
      rw [this, lessF_no h1]
      rfl
    · have : lessF (y :: ys) x = y :: lessF ys x := by unfold lessF; rw [List.filter_cons, if_pos (by simp [e])]
      rw [this, List.length_cons, lessF_len h2 ((List.mem_cons.mp h).resolve_left fun q => e q.symm)]
      rfl
theorem cnt_eq {b : α → α → Bool} {L : List α} (hn : L.Nodup) (hne : L ≠ []) : cnt b L = ((frF b L).map fun x => cnt b (lessF L x)).sum := by
  unfold cnt
  cases hl : L.length with
  | zero => exact absurd (List.length_eq_zero_iff.mp hl) hne
  | succ n =>
    show ((frF b L).flatMap fun x => (ext b n (lessF L x)).map (x :: ·)).length = _
    rw [List.length_flatMap]
    congr 1
    apply List.map_congr_left
    intro x hx
    have := lessF_len hn (mem_frF.mp hx).1
    have e : (lessF L x).length = n := by omega
    rw [List.length_map, e]
noncomputable def fac : Nat → Nat
  | 0 => 1
  | n + 1 => fac n * (n + 1)
theorem sum_le {f g : α → Nat} : ∀ {l : List α}, (∀ x ∈ l, f x ≤ g x) → (l.map f).sum ≤ (l.map g).sum
  | [], _ => Nat.le_refl _
  | x :: xs, h => by
    have h1 := h x (by simp)
    have h2 := sum_le (l := xs) (f := f) (g := g) fun y hy => h y (by simp [hy])
    simp
    omega
theorem sum_mulR (c : Nat) (f : α → Nat) : ∀ l : List α, (l.map fun x => f x * c).sum = (l.map f).sum * c
  | [] => by simp
  | x :: xs => by simp [sum_mulR c f xs, Nat.add_mul]
theorem sum_congr {f g : α → Nat} {l : List α} (h : ∀ x ∈ l, f x = g x) : (l.map f).sum = (l.map g).sum := by
  rw [List.map_congr_left h]
end
end L2
set_option Elab.async false
set_option linter.all false
set_option maxRecDepth 100000
set_option maxHeartbeats 4000000
namespace L2
open PySem PySem.Spec PyProof.Rows
theorem FnOk.void {P : Program} {w : World} {K : PySem.W.Frag} {mg : Str → Option Value} {base : Heap} {CX : CXT} {k : Nat} {f : Addr} {fd : FuncData} {ps : List Str} {sp : Sp} (h : ∀ vs H Q E, ¬ sp vs H Q E) : FnOk P w K mg base CX k f fd ps sp :=
  ⟨fun vs H Q E q => absurd q (h vs H Q E), fun A outer s H args us vs Q E _ _ _ _ hs => absurd hs (h vs H Q E)⟩
noncomputable def rAt (f : Str) (C : Addr) : V → Hp → VK → Prop := fun x H Q => ∃ a dx fs v, x = .ref a ∧ H a = some (.ins C dx fs) ∧ fs.lookup f = some v ∧ Q v H
noncomputable def tAt (f : Str) (C : Addr) (ta : TE) : TE := fun σ H Q => ta σ H fun x H1 => rAt f C x H1 Q
noncomputable def rSt (f : Str) (C : Addr) (y : V) : V → Hp → (Hp → Prop) → Prop := fun x H R => ∃ a dx fs, x = .ref a ∧ H a = some (.ins C dx fs) ∧ fs.length < 1000 ∧ R (upd H a (.ins C dx (putF f y fs)))
noncomputable def sSt (f : Str) (C : Addr) (ta tv : TE) : TS := fun D σ H => tv σ H fun y H1 => ta σ H1 fun x H2 => rSt f C y x H2 fun H3 => D.nx σ H3
noncomputable def rMe (m : Str) (C : Addr) (sp : Sp) (t : TA) (σ : St) : V → Hp → VK → Prop := fun x H Q => ∃ a dx fs, x = .ref a ∧ H a = some (.ins C dx fs) ∧ fs.lookup m = none ∧ t σ H fun vs H2 => sp (x :: (vs ++ [])) H2 Q E0
noncomputable def tMe (m : Str) (C : Addr) (sp : Sp) (ta : TE) (t : TA) : TE := fun σ H Q => ta σ H fun x H1 => rMe m C sp t σ x H1 Q
noncomputable def rMk (C : Addr) (sp : Sp) : List V → Hp → VK → Prop := fun vs H1 Q => ∀ x dx, H1 x = none → H1 dx = none → dx ≠ x →
  sp (.ref x :: (vs ++ [])) (upd (upd H1 dx (.own x)) x (.ins C dx [])) (fun v H2 => v = .non ∧ Q (.ref x) H2) E0
noncomputable def tMk (C : Addr) (sp : Sp) (t : TA) : TE := fun σ H Q => t σ H fun vs H1 => rMk C sp vs H1 Q
noncomputable def tTru (ta : TE) : TT := fun σ H Q => ta σ H fun x H1 => ∃ i : Int, x = .int i ∧ Q (i != 0) H1
section
variable {X : Cx} {K : PySem.W.Frag} {k : Nat} {C : Addr} {f x m : Str} {ps : List Str} {sp : Sp} {e o value : Expr} {es : List Expr} {ta tv : TE} {t : TA} {p pos pos' apos : Pos}
end
section
variable {K : PySem.W.Frag} {C : Addr} {f m : Str} {sp : Sp} {ta tv : TE} {t : TA} {σ : St} {H : Hp} {Q : VK} {D : Ends}
theorem i_tAt (k : ta σ H fun x H1 => rAt f C x H1 Q) : tAt f C ta σ H Q := k
theorem i_sSt (k : tv σ H fun y H1 => ta σ H1 fun x H2 => rSt f C y x H2 fun H3 => D.nx σ H3) : sSt f C ta tv D σ H := k
theorem i_tMe (k : ta σ H fun x H1 => rMe m C sp t σ x H1 Q) : tMe m C sp ta t σ H Q := k
theorem i_tMk (k : t σ H fun vs H1 => rMk C sp vs H1 Q) : tMk C sp t σ H Q := k
theorem i_tTru {R : Bool → Hp → Prop} (k : ta σ H fun x H1 => ∃ i : Int, x = .int i ∧ R (i != 0) H1) : tTru ta σ H R := k
end
section
variable {X : Cx} {K : PySem.W.Frag}
end
section
variable {X : Cx}
end
section
variable {α : Type} [DecidableEq α]
theorem fac_pos : ∀ n : Nat, 0 < fac n
  | 0 => Nat.lt_succ_self 0
  | n + 1 => Nat.mul_pos (fac_pos n) (Nat.succ_pos n)
theorem fac_le {m n : Nat} (h : m ≤ n) : fac m ≤ fac n := by
  induction h with
  | refl => exact Nat.le_refl _
  | @step k _ ih => exact Nat.le_trans ih (Nat.le_mul_of_pos_right _ (Nat.succ_pos k))
theorem sum_const (c : Nat) : ∀ l : List α, (l.map fun _ => c).sum = l.length * c
  | [] => by simp
  | x :: xs => by rw [List.map_cons, List.sum_cons, sum_const c xs, List.length_cons, Nat.add_mul, Nat.one_mul, Nat.add_comm]
theorem cnt_le (b : α → α → Bool) : ∀ (n : Nat) (L : List α), L.length = n → L.Nodup → cnt b L ≤ fac n
  | 0, L, hl, _ => by
    have := List.length_eq_zero_iff.mp hl
    subst this
    exact Nat.le_refl _
  | n + 1, L, hl, hn => by
    have hne : L ≠ [] := by intro e; rw [e] at hl; cases hl
    rw [cnt_eq hn hne]
    have h1 : ((frF b L).map fun x => cnt b (lessF L x)).sum ≤ ((frF b L).map fun _ => fac n).sum := sum_le fun x hx => by
      have := lessF_len hn (mem_frF.mp hx).1
      exact cnt_le b n (lessF L x) (by omega) (lessF_nodup hn x)
    rw [sum_const] at h1
    refine Nat.le_trans h1 ?_
    show _ ≤ fac n * (n + 1)
    rw [Nat.mul_comm]
    refine Nat.mul_le_mul_left _ ?_
    rw [← hl]
    exact List.length_filter_le _ _
theorem cnt_ten {b : α → α → Bool} {L : List α} (hn : L.Nodup) (h : L.length ≤ 10) : cnt b L ≤ 3628800 := Nat.le_trans (cnt_le b _ L rfl hn) (Nat.le_trans (fac_le h) (by decide))
end
end L2
set_option Elab.async false
set_option linter.all false
set_option maxRecDepth 100000
set_option maxHeartbeats 4000000
namespace L2
open PySem PySem.Spec PyProof.Rows
noncomputable def bitK (ns : List Str) : List (Key × V) := ns.map fun x => ((Sum.inr x : Key), V.int ((bitOf ns x : Nat) : Int))
noncomputable def ahK (ns : List Str) (ps : List (Str × Str)) : List (Key × V) := ns.map fun x => ((Sum.inr x : Key), V.int ((binM ns (fun y => wayB ps y x) : Nat) : Int))
noncomputable def Knw (ns : List Str) (ps : List (Str × Str)) (kvs : List (Key × V)) : Prop := (kvs.map (·.1)).Nodup ∧
  (∀ kv ∈ kvs, ∃ q : Str → Bool, kv.1 = Sum.inl ((binM ns q : Nat) : Int) ∧ kv.2 = V.int ((cnt (wayB ps) (ns.filter q) : Nat) : Int)) ∧ valV kvs (Sum.inl 0 : Key) = some (.int 1)
theorem valV_mem {κ : Type} [DecidableEq κ] : ∀ {kvs : List (κ × V)} {k : κ} {v : V}, valV kvs k = some v → (k, v) ∈ kvs
  | [], k, v, h => by cases h
  | p :: r, k, v, h => by
    by_cases e : p.1 = k
    · rw [valV_pos e] at h
      cases h
      rw [← e]
      exact List.mem_cons_self
    · rw [valV_neg e] at h
      exact List.mem_cons_of_mem _ (valV_mem h)
theorem Knw.get {ns : List Str} {ps : List (Str × Str)} {kvs : List (Key × V)} (h : Knw ns ps kvs) {q : Str → Bool} {v : V} (e : valV kvs (Sum.inl ((binM ns q : Nat) : Int) : Key) = some v) : v = .int ((cnt (wayB ps) (ns.filter q) : Nat) : Int) := by
  obtain ⟨q', h1, h2⟩ := h.2.1 _ (valV_mem e)
  have h3 : binM ns q' = binM ns q := by
    have := Sum.inl.inj h1
    omega
  have h4 : ns.filter q' = ns.filter q := List.filter_congr fun x hx => binM_inj h3 x hx
  rw [h4] at h2
  exact h2
theorem Knw.len {ns : List Str} {ps : List (Str × Str)} {kvs : List (Key × V)} (h : Knw ns ps kvs) (hf : ns.length ≤ 10) : kvs.length ≤ 1024 := by
  have := nodup_le (ys := (List.range 1024).map fun i => (Sum.inl ((i : Nat) : Int) : Key)) h.1 fun k hk => by
    obtain ⟨kv, hkv, rfl⟩ := List.mem_map.mp hk
    obtain ⟨q, h1, _⟩ := h.2.1 kv hkv
    rw [h1]
    have h2 := binM_lt q ns
    have h3 : (2 : Nat) ^ ns.length ≤ 2 ^ 10 := Nat.pow_le_pow_right (by decide) hf
    exact List.mem_map.mpr ⟨binM ns q, List.mem_range.mpr (by omega), rfl⟩
  rwa [List.length_map, List.length_map, List.length_range] at this
theorem Knw.put {ns : List Str} {ps : List (Str × Str)} {kvs : List (Key × V)} (h : Knw ns ps kvs) (q : Str → Bool) :
    Knw ns ps (putK kvs (Sum.inl ((binM ns q : Nat) : Int)) (.int ((cnt (wayB ps) (ns.filter q) : Nat) : Int))) := by
  cases e : valV kvs (Sum.inl ((binM ns q : Nat) : Int) : Key) with
  | some v =>
    have hp : putK kvs (Sum.inl ((binM ns q : Nat) : Int) : Key) (.int ((cnt (wayB ps) (ns.filter q) : Nat) : Int)) = kvs := by
      unfold putK
      rw [valV_any, e, if_pos (show (some v).isSome = true from rfl)]
      conv => rhs; rw [← List.map_id kvs]
      apply List.map_congr_left
      intro kv hkv
      by_cases c : kv.1 = Sum.inl ((binM ns q : Nat) : Int)
      · rw [if_pos c]
        obtain ⟨q', h1, h2⟩ := h.2.1 kv hkv
        rw [h1] at c
        have h3 : binM ns q' = binM ns q := by
          have := Sum.inl.inj c
          omega
        have h4 : ns.filter q' = ns.filter q := List.filter_congr fun x hx => binM_inj h3 x hx
        rw [← h4, ← h2]
        rfl
      · rw [if_neg c]
        rfl
    rw [hp]
    exact h
  | none =>
    refine ⟨nd_putK _ h.1 e, fun kv hkv => ?_, ?_⟩
    · rw [putK_new _ e] at hkv
      rcases List.mem_append.mp hkv with hkv | hkv
      · exact h.2.1 kv hkv
      · have : kv = (Sum.inl ((binM ns q : Nat) : Int), V.int ((cnt (wayB ps) (ns.filter q) : Nat) : Int)) := by simpa using hkv
        subst this
        exact ⟨q, rfl, rfl⟩
    · rw [valV_put]
      by_cases c : (Sum.inl 0 : Key) = Sum.inl ((binM ns q : Nat) : Int)
      · rw [← c, h.2.2] at e
        cases e
      · rw [if_neg c]
        exact h.2.2
theorem Knw.new (ns : List Str) (ps : List (Str × Str)) : Knw ns ps [(Sum.inl 0, V.int 1)] := by
  refine ⟨by simp, fun kv hkv => ?_, valV_pos rfl⟩
  have : kv = (Sum.inl 0, V.int 1) := by simpa using hkv
  subst this
  refine ⟨fun _ => false, ?_, ?_⟩
  · rw [binM_zero.mpr fun _ _ => rfl]
    rfl
  · have : ns.filter (fun _ => false) = [] := by simp
    rw [this, cnt_nil]
    rfl
structure WaysAt (K : PySem.W.Frag) (C : Addr) (H : Hp) (p dx : Addr) (nv : V) (bd ad kd : Addr) (ns : List Str) (ps : List (Str × Str)) (kvs : List (Key × V)) : Prop where
  ob : H p = some (.ins C dx [("names", nv), ("bits", .ref bd), ("ahead", .ref ad), ("full", .int ((binM ns (fun _ => true) : Nat) : Int)), ("known", .ref kd)])
  nm : Is K H (nmD ns) nv
  bt : H bd = some (.dK (bitK ns))
  ah : H ad = some (.dK (ahK ns ps))
  kn : H kd = some (.dK kvs)
  nb : bd ≠ kd
  na : ad ≠ kd
  ok : Knw ns ps kvs
section
variable {K : PySem.W.Frag} {C : Addr} {H H' : Hp} {p dx : Addr} {nv : V} {bd ad kd : Addr} {ns : List Str} {ps : List (Str × Str)} {kvs kvs' : List (Key × V)}
theorem WaysAt.same (h : WaysAt K C H p dx nv bd ad kd ns ps kvs) (e : Same H H') : WaysAt K C H' p dx nv bd ad kd ns ps kvs :=
  ⟨e _ _ h.ob, h.nm.nm_fz e.fz, e _ _ h.bt, e _ _ h.ah, e _ _ h.kn, h.nb, h.na, h.ok⟩
theorem WaysAt.pk (h : WaysAt K C H p dx nv bd ad kd ns ps kvs) : p ≠ kd := ne_of h.ob h.kn (by intro z; cases z)
theorem WaysAt.put (h : WaysAt K C H p dx nv bd ad kd ns ps kvs) (e : ExtBut kd H H') (hk : H' kd = some (.dK kvs')) (ok : Knw ns ps kvs') : WaysAt K C H' p dx nv bd ad kd ns ps kvs' :=
  ⟨e _ _ h.pk h.ob, h.nm.nm_fz (e.fzD h.kn), e _ _ h.nb h.bt, e _ _ h.na h.ah, hk, h.nb, h.na, ok⟩
theorem WaysAt.list {l : Addr} {xs : List V} (h : WaysAt K C H p dx nv bd ad kd ns ps kvs) (e : ExtBut l H H') (hl : H l = some (.lst xs)) : WaysAt K C H' p dx nv bd ad kd ns ps kvs :=
  ⟨e _ _ (ne_of h.ob hl (by intro z; cases z)) h.ob, h.nm.nm_fz (e.fzL hl), e _ _ (ne_of h.bt hl (by intro z; cases z)) h.bt, e _ _ (ne_of h.ah hl (by intro z; cases z)) h.ah, e _ _ (ne_of h.kn hl (by intro z; cases z)) h.kn, h.nb, h.na, h.ok⟩
end
theorem wayB_irr {ns : List Str} {ps : List (Str × Str)} (h : HalfW ns ps) (x : Str) : wayB ps x x = false := wayB_false (h.irr x)
theorem wayB_tr {ps : List (Str × Str)} (x y z : Str) (h : wayB ps x y = true) (g : wayB ps y z = true) : wayB ps x z = true := wayB_iff.mpr ((wayB_iff.mp h).trans (wayB_iff.mp g))
end L2
namespace L2
open PySem PySem.Spec PyProof.Rows
section
variable {α : Type} [DecidableEq α]
end
end L2
namespace L2
end L2
namespace L2
open PySem PySem.Spec PyProof.Rows
end L2
set_option linter.all false
namespace L2
section
variable {α : Type} [DecidableEq α]
end
end L2
namespace L2
open PySem PySem.Spec PyProof.Rows
theorem putK_ne {p : Key × V} {r : List (Key × V)} {k : Key} {v : V} (h : ¬ p.1 = k) : putK (p :: r) k v = p :: putK r k v := by
  unfold putK
  rw [List.any_cons, decide_eq_false h, Bool.false_or]
  by_cases c : (r.any fun kv => decide (kv.1 = k)) = true
  · rw [if_pos c, if_pos c, List.map_cons, if_neg h]
  · rw [if_neg c, if_neg c]
    rfl
theorem putK_eq {p : Key × V} {r : List (Key × V)} {v : V} (h : p.1 ∉ r.map (·.1)) : putK (p :: r) p.1 v = (p.1, v) :: r := by
  unfold putK
  rw [List.any_cons, decide_eq_true rfl, Bool.true_or, if_pos rfl, List.map_cons, if_pos rfl]
  congr 1
  conv => rhs; rw [← List.map_id r]
  apply List.map_congr_left
  intro kv hkv
  rw [if_neg fun q => h (List.mem_map.mpr ⟨kv, hkv, q⟩)]
  rfl
end L2
namespace L2
open PySem PySem.Spec PyProof.Rows
section
variable {K : PySem.W.Frag} {σ : St} {H : Hp} {Q : VK} {td ty tx : TE}
noncomputable def rDGet2 (ty tx : TE) (σ : St) : V → Hp → VK → Prop := fun x H1 Q => ∃ a, x = .ref a ∧ IsD H1 a ∧ ty σ H1 fun y H2 => tx σ H2 fun z H3 => ∃ o, DGet H3 a y o ∧ Q (o.getD z) H3
theorem i_dget2 (k : td σ H fun x H1 => rDGet2 ty tx σ x H1 Q) : tDGet2 td ty tx σ H Q := k
end
section
variable {K : PySem.W.Frag} {C : Addr} {H H' : Hp} {p dx : Addr} {nv : V} {bd ad kd : Addr} {ns : List Str} {ps : List (Str × Str)} {kvs : List (Key × V)}
theorem WaysAt.keep {cd : Addr} (h : WaysAt K C H p dx nv bd ad kd ns ps kvs) (k : Keep [cd] H H') (h1 : p ≠ cd) (h2 : bd ≠ cd) (h3 : ad ≠ cd) (h4 : kd ≠ cd) : WaysAt K C H' p dx nv bd ad kd ns ps kvs :=
  ⟨k.1 _ _ (by simpa using h1) h.ob, h.nm.nm_fz k.fz, k.1 _ _ (by simpa using h2) h.bt, k.1 _ _ (by simpa using h3) h.ah, k.1 _ _ (by simpa using h4) h.kn, h.nb, h.na, h.ok⟩
theorem WaysAt.dict {d : Addr} {l : List (Key × V)} (h : WaysAt K C H p dx nv bd ad kd ns ps kvs) (e : ExtBut d H H') (hd : H d = some (.dK l)) (h2 : bd ≠ d) (h3 : ad ≠ d) (h4 : kd ≠ d) : WaysAt K C H' p dx nv bd ad kd ns ps kvs :=
  ⟨e _ _ (ne_of h.ob hd (by intro z; cases z)) h.ob, h.nm.nm_fz (e.fzD hd), e _ _ h2 h.bt, e _ _ h3 h.ah, e _ _ h4 h.kn, h.nb, h.na, h.ok⟩
end
end L2
namespace L2
open PySem PySem.Spec PyProof.Rows
section
variable {K : PySem.W.Frag} {σ : St} {H : Hp} {Q : VK}
end
end L2
set_option Elab.async false
set_option linter.all false
set_option maxRecDepth 100000
set_option maxHeartbeats 4000000
namespace L2
open PySem PySem.Spec PyProof.Rows
theorem meets_upd_self {prog : Program} {w : World} {κ : Type} [DecidableEq κ] (knd : KeyKind prog w κ) (d : Addr) :
    MeetsIn prog w (Builtin.«dict.update» ⟨[.ref d, .ref d], []⟩) (fun _ R s => (∃ kvs, s.heap.DictOf knd d kvs) ∧ R (.ok (.ret .none)) s) :=
  .of_wp fun A R s hh => by
    obtain ⟨⟨kvs, hd⟩, h⟩ := hh
    unfold Builtin.«dict.update» Builtin.Dict.selfAndRest
    refine wpAny_bind (wpAny_bind (wpAny_notOrdered_dict hd.typeIs ?_))
    show wpAny _ _ (pure (d, [Value.ref d])) _ _ s
    refine wpAny_pure ?_
    show wpAny _ _ (Builtin.Dict.updateFrom "dict.update" d (.ref d) [] .none) _ _ s
    unfold Builtin.Dict.updateFrom Builtin.Dict.merge Builtin.Dict.readDirectly
    refine wpAny_bind (wpAny_typeOf hd.typeIs ?_)
    rw [if_neg (by decide)]
    refine wpAny_bind (wpAny_bind (wpAny_bind (wpAny_isInstance hd.typeIs isSubtype_dict_dict ?_)))
    simp only [Bool.not_true, Bool.false_eq_true, if_false]
    refine wpAny_bind (wpAny_specialOf hd.typeIs F.slot_dict_iter.lookup (wpAny_pure ?_))
    simp only [beq_self_eq_true, if_true]
    refine wpAny_bind (wpAny_pure ?_)
    unfold Builtin.Dict.mergeDict
    rw [if_pos (by simp)]
    refine wpAny_bind (wpAny_rule (wpAny_pure ?_))
    show wpAny _ _ (Builtin.Dict.addKeywords d [] >>= _) _ _ _
    exact wpAny_bind (wpAny_pure (wpAny_pure ⟨.none, rfl, h⟩))
noncomputable def rUpdateS : V → List V → Hp → VK → Prop := fun x vs H Q => ∃ d kvs, x = .ref d ∧ vs = [.ref d] ∧ H d = some (.dK kvs) ∧ Q .non H
noncomputable def rUpdateA : V → List V → Hp → VK → Prop := fun x vs H Q => rUpdate x vs H Q ∨ rUpdateS x vs H Q
section
variable {X : Cx} {K : PySem.W.Frag}
theorem mt_updateS : MtM X "dict.update" rUpdateS := by
  intro pins s σ H x vs v us Q I rx rv h
  obtain ⟨d, kvs, rfl, rfl, hD, q⟩ := h
  cases rx
  obtain ⟨u, rfl, ru⟩ := rv.one
  cases ru
  obtain ⟨z1, hd1, vs1, rel1, dd1⟩ := dk_of I.hok hD
  refine call_meetsIn F.slot_dict_update dd1.typeIs F.entry_dict_update (F.args_dict_update_2 _ _) (meets_upd_self (mixKind X.prog X.w) d) ⟨⟨vs1, dd1⟩, ?_⟩
  exact ⟨.non, H, I.tok s.toks, rfl, q⟩
theorem mt_updateA : MtM X "dict.update" rUpdateA := by
  intro pins s σ H x vs v us Q I rx rv h
  rcases h with h | h
  · exact mt_update pins s σ H x vs v us Q I rx rv h
  · exact mt_updateS pins s σ H x vs v us Q I rx rv h
end
theorem i_updA {d o : Addr} {ks ms : List Str} {H : Hp} {Q : VK} (hd : H d = some (.dK (rowK ks))) (ho : H o = some (.dK (rowK ms))) (hne : d ≠ o) (hz : ks.length + ms.length ≤ 1000000) (k : ∀ H', ExtBut d H H' → H' d = some (.dK (rowK (addAll ks ms))) → Q .non H') : rUpdateA (.ref d) [.ref o] H Q := .inl (i_upd hd ho hne hz k)
theorem i_updS {d : Addr} {kvs : List (Key × V)} {H : Hp} {Q : VK} (hd : H d = some (.dK kvs)) (k : Q .non H) : rUpdateA (.ref d) [.ref d] H Q := .inr ⟨d, kvs, rfl, rfl, hd, k⟩
structure HalfC (ns : List Str) (ps : List (Str × Str)) : Prop where
  nd : ns.Nodup
  mem : ∀ p ∈ ps, p.1 ∈ ns ∧ p.2 ∈ ns
  few : ns.length ≤ 100
  le : ps.length ≤ 1100
theorem HalfW.c {ns : List Str} {ps : List (Str × Str)} (h : HalfW ns ps) : HalfC ns ps := ⟨h.nd, h.mem, h.few, Nat.le_trans h.le (by decide)⟩
instance {ns : List Str} {ps : List (Str × Str)} : Coe (HalfW ns ps) (HalfC ns ps) := ⟨HalfW.c⟩
section
variable {α : Type} [DecidableEq α]
end
end L2
namespace L2
open PySem PySem.Spec PyProof.Rows
section
variable {prog : Program} {w : World} {A : Around} {E : Value → Shared → Prop} {I : Addr} {fp wr : List Addr} {n : Nat} {P : Nat → Value → Prop} {St : Nat → Heap → Prop}
end
end L2
set_option linter.all false
set_option maxHeartbeats 4000000
namespace L2
open PySem PySem.Spec PyProof.Rows
section
variable {α : Type} [DecidableEq α]
theorem frF_congr {b c : α → α → Bool} {L : List α} (h : ∀ x ∈ L, ∀ y ∈ L, b x y = c x y) : frF b L = frF c L := by
  unfold frF
  apply List.filter_congr
  intro x hx
  have : (L.any fun y => b y x) = L.any fun y => c y x := by
    rw [Bool.eq_iff_iff, List.any_eq_true, List.any_eq_true]
    constructor
    · rintro ⟨y, hy, e⟩
      exact ⟨y, hy, by rw [← h y hy x hx]; exact e⟩
    · rintro ⟨y, hy, e⟩
      exact ⟨y, hy, by rw [h y hy x hx]; exact e⟩
  rw [this]
theorem cnt_congr {b c : α → α → Bool} : ∀ (n : Nat) {L : List α}, L.length = n → L.Nodup → (∀ x ∈ L, ∀ y ∈ L, b x y = c x y) → cnt b L = cnt c L
  | 0, L, hl, _, _ => by
    have := List.length_eq_zero_iff.mp hl
    subst this
    rfl
  | n + 1, L, hl, hn, h => by
    have hne : L ≠ [] := by intro e; rw [e] at hl; cases hl
    rw [cnt_eq hn hne, cnt_eq hn hne, frF_congr h]
    apply sum_congr
    intro x hx
    have := lessF_len hn (mem_frF.mp hx).1
    exact cnt_congr n (by omega) (lessF_nodup hn x) fun u hu v hv => h u (mem_lessF.mp hu).1 v (mem_lessF.mp hv).1
theorem lessF_append (A B : List α) (x : α) : lessF (A ++ B) x = lessF A x ++ lessF B x := by unfold lessF; rw [List.filter_append]
theorem any_false {l : List α} {p : α → Bool} (h : ∀ x ∈ l, p x = false) : l.any p = false := by
  rw [Bool.eq_false_iff]
  intro e
  obtain ⟨x, hx, hp⟩ := List.any_eq_true.mp e
  rw [h x hx] at hp
  cases hp
theorem cnt_above {b : α → α → Bool} : ∀ (n : Nat) {A B : List α}, A.length = n → (A ++ B).Nodup → (∀ x ∈ A, ∀ y ∈ B, b x y = true ∧ b y x = false) → cnt b (A ++ B) = cnt b A * cnt b B
  | 0, A, B, hl, _, _ => by
    have := List.length_eq_zero_iff.mp hl
    subst this
    rw [List.nil_append, cnt_nil, Nat.one_mul]
  | n + 1, A, B, hl, hn, h => by
    obtain ⟨hA, hB, hAB⟩ := List.nodup_append.mp hn
    have hne : A ≠ [] := by intro e; rw [e] at hl; cases hl
    have hne2 : A ++ B ≠ [] := by simp [hne]
    have hfr : frF b (A ++ B) = frF b A := by
      unfold frF
      rw [List.filter_append]
      have e1 : (A.filter fun x => !((A ++ B).any fun y => b y x)) = A.filter fun x => !(A.any fun y => b y x) := by
        apply List.filter_congr
        intro x hx
        rw [List.any_append, any_false (l := B) fun y hy => (h x hx y hy).2, Bool.or_false]
      have e2 : (B.filter fun x => !((A ++ B).any fun y => b y x)) = [] := by
        rw [List.filter_eq_nil_iff]
        intro y hy
        cases A with
        | nil => exact absurd rfl hne
        | cons a A =>
          have : ((a :: A ++ B).any fun z => b z y) = true := List.any_eq_true.mpr ⟨a, by simp, (h a (by simp) y hy).1⟩
          rw [this]
          decide
      rw [e1, e2, List.append_nil]
    rw [cnt_eq hn hne2, hfr, cnt_eq hA hne, ← sum_mulR]
    apply sum_congr
    intro x hx
    have hxA := (mem_frF.mp hx).1
    have hxB : x ∉ B := fun hb => hAB x hxA x hb rfl
    have hlen := lessF_len hA hxA
    rw [lessF_append, lessF_no hxB]
    refine cnt_above n (by omega) ?_ fun u hu v hv => h u (mem_lessF.mp hu).1 v hv
    rw [List.nodup_append]
    exact ⟨lessF_nodup hA x, hB, fun u hu v hv => hAB u (mem_lessF.mp hu).1 v hv⟩
noncomputable def shuf : Nat → Nat → Nat
  | 0, _ => 1
  | _ + 1, 0 => 1
  | m + 1, n + 1 => shuf m (n + 1) + shuf (m + 1) n
theorem shuf_0 (n : Nat) : shuf 0 n = 1 := by rw [shuf]
theorem shuf_zero (m : Nat) : shuf m 0 = 1 := by cases m <;> rw [shuf]
theorem shuf_ss (m n : Nat) : shuf (m + 1) (n + 1) = shuf m (n + 1) + shuf (m + 1) n := by rw [shuf]
theorem shuf_fac : ∀ k m n : Nat, m + n = k → shuf m n * (fac m * fac n) = fac (m + n)
  | 0, m, n, h => by
    have h1 : m = 0 := by omega
    have h2 : n = 0 := by omega
    subst h1
    subst h2
    rw [shuf_0]
    rfl
  | k + 1, 0, n, h => by
    rw [shuf_0]
    show 1 * (1 * fac n) = fac (0 + n)
    rw [Nat.one_mul, Nat.one_mul, Nat.zero_add]
  | k + 1, m + 1, 0, h => by
    rw [shuf_zero]
    show 1 * (fac (m + 1) * 1) = fac (m + 1)
    rw [Nat.one_mul, Nat.mul_one]
  | k + 1, m + 1, n + 1, h => by
    have i1 := shuf_fac k m (n + 1) (by omega)
    have i2 := shuf_fac k (m + 1) n (by omega)
    rw [shuf_ss, show fac (m + 1 + (n + 1)) = fac (m + n + 1) * (m + 1 + n + 1) by rw [show m + 1 + (n + 1) = (m + n + 1) + 1 by omega]; show fac (m + n + 1) * (m + n + 1 + 1) = _; congr 1; omega]
    show (shuf m (n + 1) + shuf (m + 1) n) * (fac m * (m + 1) * (fac n * (n + 1))) = fac (m + n + 1) * (m + 1 + n + 1)
    have e1 : fac (m + (n + 1)) = fac (m + n + 1) := by congr 1
    have e2 : fac (m + 1 + n) = fac (m + n + 1) := by congr 1; omega
    have j1 : shuf m (n + 1) * (fac m * (m + 1) * (fac n * (n + 1))) = fac (m + n + 1) * (m + 1) := by
      rw [← e1, ← i1]
      show _ = shuf m (n + 1) * (fac m * (fac n * (n + 1))) * (m + 1)
      ac_rfl
    have j2 : shuf (m + 1) n * (fac m * (m + 1) * (fac n * (n + 1))) = fac (m + n + 1) * (n + 1) := by
      rw [← e2, ← i2]
      show _ = shuf (m + 1) n * (fac m * (m + 1) * fac n) * (n + 1)
      ac_rfl
    rw [Nat.add_mul, j1, j2, ← Nat.mul_add]
    congr 1
theorem cnt_beside {b : α → α → Bool} : ∀ (k : Nat) {A B : List α}, A.length + B.length = k → (A ++ B).Nodup → (∀ x ∈ A, ∀ y ∈ B, b x y = false ∧ b y x = false) → cnt b (A ++ B) = shuf A.length B.length * (cnt b A * cnt b B)
  | 0, A, B, hl, _, _ => by
    have h1 := List.length_eq_zero_iff.mp (show A.length = 0 by omega)
    have h2 := List.length_eq_zero_iff.mp (show B.length = 0 by omega)
    subst h1
    subst h2
    show 1 = shuf 0 0 * (1 * 1)
    rw [shuf_0]
  | k + 1, A, B, hl, hn, h => by
    obtain ⟨hA, hB, hAB⟩ := List.nodup_append.mp hn
    by_cases cA : A = []
    · subst cA
      rw [List.nil_append, cnt_nil, Nat.one_mul]
      rw [List.length_nil, shuf_0, Nat.one_mul]
    by_cases cB : B = []
    · subst cB
      rw [List.append_nil, cnt_nil, Nat.mul_one, List.length_nil, shuf_zero, Nat.one_mul]
    have hfr : frF b (A ++ B) = frF b A ++ frF b B := by
      unfold frF
      rw [List.filter_append]
      congr 1
      · apply List.filter_congr
        intro x hx
        rw [List.any_append, any_false (l := B) fun y hy => (h x hx y hy).2, Bool.or_false]
      · apply List.filter_congr
        intro y hy
        rw [List.any_append, any_false (l := A) fun x hx => (h x hx y hy).1, Bool.false_or]
    obtain ⟨m, hm⟩ : ∃ m, A.length = m + 1 := ⟨A.length - 1, by have := List.length_pos_iff.mpr cA; omega⟩
    obtain ⟨n, hn'⟩ : ∃ n, B.length = n + 1 := ⟨B.length - 1, by have := List.length_pos_iff.mpr cB; omega⟩
    rw [cnt_eq hn (by simp [cA]), hfr, List.map_append, List.sum_append]
    have s1 : ((frF b A).map fun x => cnt b (lessF (A ++ B) x)).sum = shuf m (n + 1) * (cnt b A * cnt b B) := by
      have e : ((frF b A).map fun x => cnt b (lessF (A ++ B) x)).sum = ((frF b A).map fun x => cnt b (lessF A x) * (shuf m (n + 1) * cnt b B)).sum := by
        apply sum_congr
        intro x hx
        have hxA := (mem_frF.mp hx).1
        have hxB : x ∉ B := fun hb => hAB x hxA x hb rfl
        have hlen := lessF_len hA hxA
        rw [lessF_append, lessF_no hxB, cnt_beside k (by omega) ?_ fun u hu v hv => h u (mem_lessF.mp hu).1 v hv, show (lessF A x).length = m by omega, hn']
        · ac_rfl
        · rw [List.nodup_append]
          exact ⟨lessF_nodup hA x, hB, fun u hu v hv => hAB u (mem_lessF.mp hu).1 v hv⟩
      rw [e, sum_mulR, ← cnt_eq hA cA]
      ac_rfl
    have s2 : ((frF b B).map fun x => cnt b (lessF (A ++ B) x)).sum = shuf (m + 1) n * (cnt b A * cnt b B) := by
      have e : ((frF b B).map fun x => cnt b (lessF (A ++ B) x)).sum = ((frF b B).map fun x => cnt b (lessF B x) * (shuf (m + 1) n * cnt b A)).sum := by
        apply sum_congr
        intro y hy
        have hyB := (mem_frF.mp hy).1
        have hyA : y ∉ A := fun ha => hAB y ha y hyB rfl
        have hlen := lessF_len hB hyB
        rw [lessF_append, lessF_no hyA, cnt_beside k (by omega) ?_ fun u hu v hv => h u hu v (mem_lessF.mp hv).1, show (lessF B y).length = n by omega, hm]
        · ac_rfl
        · rw [List.nodup_append]
          exact ⟨hA, lessF_nodup hB y, fun u hu v hv => hAB u hu v (mem_lessF.mp hv).1⟩
      rw [e, sum_mulR, ← cnt_eq hB cB]
      ac_rfl
    rw [s1, s2, hm, hn', ← Nat.add_mul, shuf_ss]
end
end L2
set_option Elab.async false
set_option linter.all false
set_option maxRecDepth 100000
set_option maxHeartbeats 4000000
namespace L2
open PySem PySem.Spec PyProof.Rows
section
variable {prog : Program} {w : World} {A : Around} {E : Value → Shared → Prop} {s : Shared}
structure RawAt (h : Heap) (d : Addr) (es : Array DictEntry) (ep : Nat) : Prop where
  at_ : ∃ o, h.get? d = some o ∧ o.cls = .type "dict" ∧ o.data = .dict es ep
theorem RawAt.ty (x : RawAt s.heap d es ep) : s.TypeIs (.ref d) "dict" := let ⟨o, h, c, _⟩ := x.at_; ⟨o, h, c⟩
end
noncomputable def ItT (a : Addr) (o : Obj) (kvs : List (List Key × V)) (bs : List Addr) : It :=
  ⟨fun i H => H a = some (.frz o (.dT kvs)) ∧ i < bs.length, fun i H x H' => H' = H ∧ ∃ b, bs[i]? = some b ∧ x = .ref b, fun i H => H a = some (.frz o (.dT kvs)) ∧ bs.length ≤ i⟩
noncomputable def KeysAt (H : Hp) (kvs : List (List Key × V)) (bs : List Addr) : Prop := bs.length = kvs.length ∧ ∀ (i : Nat) kv, kvs[i]? = some kv → ∃ b, bs[i]? = some b ∧ H b = some (.tup (kv.1.map kV))
noncomputable def rItT (x : V) (H : Hp) (R : It → Hp → Prop) : Prop := ∃ a kvs, x = .ref a ∧ H a = some (.dT kvs) ∧ ∀ o bs, KeysAt H kvs bs → R (ItT a o kvs bs) (upd H a (.frz o (.dT kvs)))
noncomputable def iDT (tl : TE) : TI := fun σ H R => tl σ H fun x H1 => rItT x H1 R
theorem i_iDT {tl : TE} {σ : St} {H : Hp} {R : It → Hp → Prop} (k : tl σ H fun x H1 => rItT x H1 R) : iDT tl σ H R := k
end L2
namespace L2
open PySem PySem.Spec PyProof.Rows
end L2
namespace L2
open PySem PySem.Spec PyProof.Rows
noncomputable def keyT (ns : List Str) (q : Str → Bool) : List Key := (ns.filter fun x => !q x).map Sum.inr
section
variable {κ : Type} [DecidableEq κ]
end
end L2
set_option linter.all false
set_option maxHeartbeats 4000000
set_option maxRecDepth 100000
namespace L2
open PySem PySem.Spec PyProof.Rows
section
variable {α β : Type} [DecidableEq α] [DecidableEq β]
end
end L2
set_option linter.all false
set_option maxHeartbeats 4000000
set_option maxRecDepth 100000
namespace L2
open PySem PySem.Spec PyProof.Rows
theorem putK_tab : ∀ {ns : List Str} {as : List Addr} {i : Nat} {z : Str} {q : Addr}, ns.Nodup → as.length = ns.length → ns[i]? = some z → putK (tabK ns as) (Sum.inr z : Key) (.ref q) = tabK ns (as.set i q)
  | [], _, i, _, _, _, _, h => by simp at h
  | n :: ns, [], i, _, _, _, hl, _ => by simp at hl
  | n :: ns, b :: as, 0, z, q, hn, hl, h => by
    have hz : n = z := by simpa using h
    subst hz
    have : (Sum.inr n : Key) ∉ (tabK ns as).map (·.1) := by
      have := keys_tab (as := b :: as) hn
      exact (List.nodup_cons.mp this).1
    exact putK_eq (p := (Sum.inr n, V.ref b)) this
  | n :: ns, b :: as, i + 1, z, q, hn, hl, h => by
    have hz : ns[i]? = some z := by simpa using h
    have hne : ¬ n = z := fun e => (List.nodup_cons.mp hn).1 (e ▸ List.mem_of_getElem? hz)
    have h1 : ¬ ((Sum.inr n : Key) = Sum.inr z) := fun e => hne (Sum.inr.inj e)
    show putK ((Sum.inr n, V.ref b) :: tabK ns as) _ _ = (Sum.inr n, V.ref b) :: tabK ns (as.set i q)
    rw [putK_ne (p := ((Sum.inr n : Key), V.ref b)) h1, putK_tab (List.nodup_cons.mp hn).2 (by simpa using hl) hz]
structure Ovr (H : Hp) (r : Addr) (ns : List Str) (as : List Addr) (ov : Str → List Str) : Prop where
  len : as.length = ns.length
  top : H r = some (.dK (tabK ns as))
  row : ∀ (i : Nat) (z : Str) (a : Addr), ns[i]? = some z → as[i]? = some a → H a = some (.lst ((ov z).map V.str))
theorem Ovr.same {H H' : Hp} {r : Addr} {ns : List Str} {as : List Addr} {ov : Str → List Str} (h : Ovr H r ns as ov) (e : Same H H') : Ovr H' r ns as ov := ⟨h.len, e _ _ h.top, fun i z a hz ha => e _ _ (h.row i z a hz ha)⟩
theorem Ovr.at {H : Hp} {r : Addr} {ns : List Str} {as : List Addr} {ov : Str → List Str} (h : Ovr H r ns as ov) {x : Str} (hx : x ∈ ns) : ∃ (i : Nat) (a : Addr), ns[i]? = some x ∧ as[i]? = some a := by
  obtain ⟨i, hi, e⟩ := List.getElem_of_mem hx
  have hi' : i < as.length := by rw [h.len]; exact hi
  exact ⟨i, as[i], by rw [List.getElem?_eq_getElem hi, e], List.getElem?_eq_getElem hi'⟩
noncomputable def ovP (ov : Str → List Str) (x : Str) (fr : List Str) : Str → List Str := fun z => if z = x then ov z ++ fr else ov z
theorem Ovr.put {H H' : Hp} {r q : Addr} {ns : List Str} {as : List Addr} {ov : Str → List Str} (hn : ns.Nodup) (h : Ovr H r ns as ov) {x : Str} {i : Nat} (hx : ns[i]? = some x) {fr : List Str} (e : ExtBut r H H') (hq : H q = some (.lst ((ov x ++ fr).map V.str))) (ht : H' r = some (.dK (putK (tabK ns as) (Sum.inr x : Key) (.ref q)))) : Ovr H' r ns (as.set i q) (ovP ov x fr) := by
  have hi : i < ns.length := (List.getElem?_eq_some_iff.mp hx).1
  refine ⟨by rw [List.length_set, h.len], by rw [ht, putK_tab hn h.len hx], fun j z a hz ha => ?_⟩
  by_cases c : i = j
  · subst c
    rw [hx] at hz
    cases hz
    rw [List.getElem?_set_self (by rw [h.len]; exact hi)] at ha
    cases ha
    have : q ≠ r := ne_of hq h.top (by intro z; cases z)
    rw [e _ _ this hq]
    unfold ovP
    rw [if_pos rfl]
  · rw [List.getElem?_set_ne c] at ha
    have hzx : z ≠ x := fun e => by
      subst e
      obtain ⟨a1, a2⟩ := List.getElem?_eq_some_iff.mp hx
      obtain ⟨b1, b2⟩ := List.getElem?_eq_some_iff.mp hz
      exact c ((List.getElem_inj hn).mp (a2.trans b2.symm))
    have h0 := h.row j z a hz ha
    have : a ≠ r := ne_of h0 h.top (by intro z; cases z)
    rw [e _ _ this h0]
    unfold ovP
    rw [if_neg hzx]
structure OvOk (ns : List Str) (ps : List (Str × Str)) (ov : Str → List Str) : Prop where
  nd : ∀ z ∈ ns, (ov z).Nodup
  way : ∀ z ∈ ns, ∀ y ∈ ov z, Way ps z y
theorem OvOk.len {ns : List Str} {ps : List (Str × Str)} {ov : Str → List Str} (h : OvOk ns ps ov) (hm : ∀ p ∈ ps, p.1 ∈ ns ∧ p.2 ∈ ns) {z : Str} (hz : z ∈ ns) : (ov z).length ≤ ns.length :=
  nodup_le (h.nd z hz) fun y hy => by
    obtain ⟨p, hp, e⟩ := List.mem_map.mp (h.way z hz y hy).right
    exact e ▸ (hm p hp).2
noncomputable def frsh (ov : Str → List Str) (p : Str × Str) : List Str := (p.2 :: ov p.2).filter fun z => !decide (z ∈ ov p.1)
theorem OvOk.put {ns : List Str} {ps : List (Str × Str)} {ov : Str → List Str} (h : OvOk ns ps ov) (irr : ∀ x, ¬ Way ps x x) {p : Str × Str} (hp : p ∈ ps) (hm : p.1 ∈ ns ∧ p.2 ∈ ns) : OvOk ns ps (ovP ov p.1 (frsh ov p)) := by
  have hnd : (p.2 :: ov p.2).Nodup := List.nodup_cons.mpr ⟨fun hi => irr _ (h.way _ hm.2 _ hi), h.nd _ hm.2⟩
  refine ⟨fun z hz => ?_, fun z hz y hy => ?_⟩
  · unfold ovP
    by_cases c : z = p.1
    · rw [if_pos c, List.nodup_append]
      refine ⟨h.nd z hz, hnd.filter _, fun a ha b hb e => ?_⟩
      subst e
      have := (List.mem_filter.mp hb).2
      rw [c] at ha
      rw [decide_eq_true ha] at this
      cases this
    · rw [if_neg c]
      exact h.nd z hz
  · unfold ovP at hy
    by_cases c : z = p.1
    · rw [if_pos c] at hy
      subst c
      rcases List.mem_append.mp hy with hy | hy
      · exact h.way _ hz y hy
      · rcases List.mem_cons.mp (List.mem_filter.mp hy).1 with e | e
        · exact e ▸ .one hp
        · exact .cons hp (h.way _ hm.2 _ e)
    · rw [if_neg c] at hy
      exact h.way z hz y hy
end L2
set_option Elab.async false
set_option linter.all false
set_option maxRecDepth 100000
set_option maxHeartbeats 4000000
namespace L2
open PySem PySem.Spec PyProof.Rows
section
variable {α : Type} [DecidableEq α]
end
section
variable {X : Cx}
end
theorem Way.sub {ps qs : List (Str × Str)} (h : ∀ p ∈ qs, Way ps p.1 p.2) {a b : Str} (g : Way qs a b) : Way ps a b := by
  induction g with
  | one e => exact h _ e
  | cons e _ ih => exact (h _ e).trans ih
end L2
set_option Elab.async false
set_option linter.all false
set_option maxRecDepth 100000
set_option maxHeartbeats 4000000
namespace L2
open PySem PySem.Spec PyProof.Rows
noncomputable def ItE (K : PySem.W.Frag) (a : Addr) : It :=
  ⟨fun i H => ∃ xs x, SqL K H a xs ∧ xs[i]? = some x, fun i H v H' => ∃ t x, H t = none ∧ H' = upd H t (.tup [.int i, x]) ∧ v = .ref t ∧ ∀ xs, SqL K H a xs → xs[i]? = some x, fun i H => ∃ xs, SqL K H a xs ∧ xs.length = i⟩
section
variable {X : Cx} {K : PySem.W.Frag}
noncomputable def rEnumL (K : PySem.W.Frag) (vs : List V) (H : Hp) (R : It → Hp → Prop) : Prop := ∃ a xs, vs = [.ref a] ∧ SqL K H a xs ∧ R (ItE K a) H
noncomputable def iEnumL (K : PySem.W.Frag) (ta : TA) : TI := fun σ H R => ta σ H fun vs H1 => rEnumL K vs H1 R
end
section
variable {K : PySem.W.Frag} {σ : St} {H : Hp}
theorem i_ienumL {ts : TA} {R : It → Hp → Prop} (k : ts σ H fun vs H1 => rEnumL K vs H1 R) : iEnumL K ts σ H R := k
end
end L2
set_option Elab.async false
set_option linter.all false
set_option maxRecDepth 100000
set_option maxHeartbeats 4000000
namespace L2
open PySem PySem.W PyProof.Rows
section
variable {n : Nat} {r : Nat → Nat}
noncomputable def PmA (n : Nat) (p : Array Nat) : Prop := p.Perm (List.range n).toArray
theorem PmA.size {p : Array Nat} (h : PmA n p) : p.size = n := by
  have := Array.Perm.size_eq h
  simpa using this
theorem PmA.lt {p : Array Nat} (h : PmA n p) {i : Nat} (hi : i < n) : p.getD i 0 < n := by
  have hs := h.size
  have hi' : i < p.size := by omega
  have e : p.getD i 0 = p[i] := by simp [Array.getD, hi']
  rw [e]
  have hm : p[i] ∈ p.toList := by simp
  have := (Array.perm_iff_toList_perm.mp h).mem_iff.mp hm
  simpa using this
end
section
variable {prog : Program} {w : World} {A : Around} {E : Value → Shared → Prop} {z : Shared}
noncomputable def PrT (h : Heap) (v : Value) (p : Str × Str) : Prop := ∃ a o n t u, v = .ref a ∧ h.get? a = some o ∧ o.cls = .type "tuple" ∧ o.data = .seq #[.str p.1 t, .str p.2 u] n
theorem PrT.keep {h h' : Heap} {v : Value} {p : Str × Str} (x : PrT h v p) (k : ∀ b o, h.get? b = some o → o.cls = .type "tuple" → h'.get? b = some o) : PrT h' v p := by
  obtain ⟨a, o, n, t, u, e, h1, h2, h3⟩ := x
  exact ⟨a, o, n, t, u, e, k a o h1 h2, h2, h3⟩
end
section
variable {prog : Program} {w : World} {A : Around} {E : Value → Shared → Prop} {z : Shared}
end
section
variable {X : Cx} {K : PySem.W.Frag}
end
end L2
set_option Elab.async false
set_option linter.all false
set_option maxRecDepth 100000
set_option maxHeartbeats 4000000
namespace L2
open PySem PySem.Spec PyProof.Rows
theorem Half.sub {ns : List Str} {ps qs : List (Str × Str)} (h : Half ns ps) (hq : ∀ p ∈ qs, p ∈ ps) (hl : qs.length ≤ ps.length) : Half ns qs := by
  obtain ⟨ls, h1, h2⟩ := h.line
  exact ⟨h.names, h.few, Nat.le_trans hl h.le, ls, h1, fun p hp => h2 p (hq p hp)⟩
noncomputable def fxB (n : Str) (z : Str) : Str := if z = n then z ++ "x" else z
theorem Half.fresh {ns : List Str} {ps : List (Str × Str)} (h : Half ns ps) {n : Str} (hn : n ∈ ns) (hl : n.length < 8) (hx : n ++ "x" ∉ ns) : Half (ns.map (fxB n)) (ps.map fun p => (fxB n p.1, fxB n p.2)) := by
  obtain ⟨ls, h1, h2⟩ := h.line
  refine ⟨⟨nodup_map_on h.names.1 fun a ha b hb e => ?_, fun z hz => ?_⟩, by rw [List.length_map]; exact h.few, by rw [List.length_map]; exact h.le, ls.map (fxB n), h1.map _, fun p hp => ?_⟩
  · unfold fxB at e
    by_cases c1 : a = n <;> by_cases c2 : b = n
    · rw [c1, c2]
    · rw [if_pos c1, if_neg c2, c1] at e
      exact absurd (e ▸ hb) hx
    · rw [if_neg c1, if_pos c2, c2] at e
      exact absurd (e ▸ ha) hx
    · rw [if_neg c1, if_neg c2] at e
      exact e
  · obtain ⟨a, ha, rfl⟩ := List.mem_map.mp hz
    unfold fxB
    by_cases c1 : a = n
    · rw [if_pos c1, c1]
      have hi := h.names.2 n hn
      unfold isNm at hi ⊢
      simp only [Bool.and_eq_true, decide_eq_true_eq] at hi ⊢
      have e : (n ++ "x").length = n.length + 1 := by rw [Str.length_append]; rfl
      refine ⟨⟨by omega, by omega⟩, ?_⟩
      have e2 : (n ++ "x").cps.toList = n.cps.toList ++ [120] := by
        show (n.cps ++ #[120]).toList = _
        simp
      rw [e2, List.all_append, hi.2]
      decide
    · rw [if_neg c1]
      exact h.names.2 a ha
  · obtain ⟨q, hq, rfl⟩ := List.mem_map.mp hp
    obtain ⟨i, j, hij, hi, hj⟩ := h2 q hq
    exact ⟨i, j, hij, by rw [List.getElem?_map, hi]; rfl, by rw [List.getElem?_map, hj]; rfl⟩
theorem Way.swap {ps : List (Str × Str)} {x y : Str} (g : Way (ps.map fun p => (p.2, p.1)) x y) : Way ps y x := by
  induction g with
  | one h =>
    obtain ⟨p, hp, e⟩ := List.mem_map.mp h
    cases e
    exact .one hp
  | cons h _ ih =>
    obtain ⟨p, hp, e⟩ := List.mem_map.mp h
    cases e
    exact ih.snoc hp
theorem eqv_strsL (xs ys : List Str) : PyData.eqvAll (xs.map PyData.str) (ys.map PyData.str) = decide (xs = ys) := by
  induction xs generalizing ys with
  | nil => cases ys <;> simp [PyData.eqvAll]
  | cons x xs ih =>
    cases ys with
    | nil => simp [PyData.eqvAll]
    | cons y ys =>
      simp only [List.map_cons, PyData.eqvAll, ih, PyData.eqv]
      by_cases c : x = y
      · subst c; simp
      · simp [c]
theorem eqv_lsts (xs ys : List Str) : PyData.eqv (.list (xs.map PyData.str)) (.list (ys.map PyData.str)) = decide (xs = ys) := by simp only [PyData.eqv, eqv_strsL]
end L2
set_option Elab.async false
set_option linter.all false
set_option maxRecDepth 100000
set_option maxHeartbeats 4000000
namespace L2
open PySem PySem.Spec PyProof.Rows
section
variable {κ : Type} [DecidableEq κ] {P : Program} {w : World} {kd : KeyKind P w κ} {A : Around} {E : Value → Shared → Prop} {z : Shared}
end
section
variable {X : Cx} {K : PySem.W.Frag}
end
end L2
set_option Elab.async false
set_option linter.all false
set_option maxRecDepth 100000
set_option maxHeartbeats 4000000
namespace L2
open PySem PySem.Spec PyProof.Rows
section
variable {P : Program} {w : World} {A : Around} {E : Value → Shared → Prop} {z : Shared}
end
end L2
set_option Elab.async false
set_option linter.all false
set_option maxRecDepth 100000
set_option maxHeartbeats 4000000
namespace L2
open PySem PySem.Spec PyProof.Rows
section
variable {P : Program} {w : World} {A : Around} {E : Value → Shared → Prop} {z : Shared}
end
end L2
set_option Elab.async false
set_option linter.all false
set_option maxRecDepth 100000
set_option maxHeartbeats 4000000
namespace L2
open PySem PySem.Spec PyProof.Rows
section
variable {P : Program} {w : World} {A : Around} {E : Value → Shared → Prop} {z : Shared} {c TI TO i1 i2 D : Addr} {fp1 fp2 : List Addr} {n : Nat} {P1 P2 : Nat → Value → Prop} {S1 S2 : Nat → Heap → Prop}
end
section
variable {P : Program} {w : World} {κ : Type} [DecidableEq κ] {kd : KeyKind P w κ} {A : Around} {E : Value → Shared → Prop} {c TI TO i1 i2 D : Addr} {fp1 fp2 : List Addr} {n : Nat} {P1 P2 : Nat → Value → Prop} {S1 S2 : Nat → Heap → Prop}
end
end L2
set_option Elab.async false
set_option linter.all false
set_option maxRecDepth 100000
set_option maxHeartbeats 4000000
namespace L2
open PySem PySem.Spec PyProof.Rows
section
variable {P : Program} {w : World} {A : Around} {E : Value → Shared → Prop} {z : Shared}
end
end L2
set_option Elab.async false
set_option linter.all false
set_option maxRecDepth 100000
set_option maxHeartbeats 4000000
namespace L2
open PySem PySem.Spec PyProof.Rows
section
variable {X : Cx} {K : PySem.W.Frag}
end
section
variable {K : PySem.W.Frag} {H : Hp} {Q : VK}
end
end L2
set_option Elab.async false
set_option linter.all false
set_option maxRecDepth 100000
set_option maxHeartbeats 4000000
namespace L2
open PySem PySem.Spec PyProof.Rows
section
variable {K : PySem.W.Frag} {H : Hp} {Q : VK}
end
end L2
set_option Elab.async false
set_option linter.all false
set_option maxRecDepth 100000
set_option maxHeartbeats 4000000
namespace L2
open PySem PySem.Spec PyProof.Rows
section
variable {ns ns' : List Str} {ps ps' bs : List (Str × Str)}
end
end L2
namespace L2
open PySem PySem.Spec PyProof.Rows
theorem Half.map {ns : List Str} {ps : List (Str × Str)} (h : Half ns ps) {f : Str → Str} (hN : Names (ns.map f)) : Half (ns.map f) (ps.map fun p => (f p.1, f p.2)) := by
  obtain ⟨ls, h1, h2⟩ := h.line
  refine ⟨hN, by rw [List.length_map]; exact h.few, by rw [List.length_map]; exact h.le, ls.map f, h1.map _, fun p hp => ?_⟩
  obtain ⟨q, hq, rfl⟩ := List.mem_map.mp hp
  obtain ⟨i, j, hij, hi, hj⟩ := h2 q hq
  exact ⟨i, j, hij, by rw [List.getElem?_map, hi]; rfl, by rw [List.getElem?_map, hj]; rfl⟩
end L2
set_option Elab.async false
set_option linter.all false
set_option maxRecDepth 100000
set_option maxHeartbeats 4000000
namespace L2
open PySem PySem.Spec PyProof.Rows
section
variable {ns : List Str} {ps : List (Str × Str)}
end
end L2
set_option Elab.async false
set_option linter.all false
set_option maxRecDepth 100000
set_option maxHeartbeats 4000000
namespace L2
open PySem PySem.Spec PyProof.Rows
section
variable {P : Program} {w : World} {A : Around} {E : Value → Shared → Prop} {z : Shared}
theorem RawAt.at {g g' : Heap} {e : Addr} {es : Array DictEntry} {ep : Nat} (x : RawAt g e es ep) (k : ∀ o, g.get? e = some o → g'.get? e = some o) : RawAt g' e es ep := let ⟨o, h, r⟩ := x.at_; ⟨⟨o, k o h, r⟩⟩
end
section
variable {X : Cx} {K : PySem.W.Frag}
end
end L2
set_option Elab.async false
set_option linter.all false
set_option maxRecDepth 100000
set_option maxHeartbeats 4000000
namespace L2
open PySem PySem.Spec PyProof.Rows
section
variable {α : Type} [DecidableEq α] {b : α → α → Bool} {L : List α}
end
end L2
set_option Elab.async false
set_option linter.all false
set_option maxRecDepth 100000
set_option maxHeartbeats 4000000
namespace L2
open PySem PySem.Spec PyProof.Rows
end L2
set_option Elab.async false
set_option linter.all false
set_option maxRecDepth 100000
set_option maxHeartbeats 4000000
namespace L2
open PySem PySem.Spec PyProof.Rows
noncomputable def LvA (H : Hp) (ms : List Str) (la : Addr) (es : List (Str → Bool)) : Prop := ∃ bs : List Addr, H la = some (.lst (bs.map V.ref)) ∧ bs.length = es.length ∧ ∀ (i : Nat) e, es[i]? = some e → ∃ b, bs[i]? = some b ∧ H b = some (.tup ((keyT ms e).map kV))
theorem LvA.keep {H H' : Hp} {ms : List Str} {la : Addr} {es : List (Str → Bool)} (h : LvA H ms la es) (h1 : ∀ xs, H la = some (.lst xs) → H' la = some (.lst xs)) (h2 : ∀ b xs, H b = some (.tup xs) → H' b = some (.tup xs)) : LvA H' ms la es := by
  obtain ⟨bs, a1, a2, a3⟩ := h
  exact ⟨bs, h1 _ a1, a2, fun i e he => let ⟨b, b1, b2⟩ := a3 i e he; ⟨b, b1, h2 _ _ b2⟩⟩
end L2
set_option Elab.async false
set_option linter.all false
set_option maxRecDepth 100000
set_option maxHeartbeats 4000000
namespace L2
open PySem PySem.Spec PyProof.Rows
end L2
set_option Elab.async false
set_option linter.all false
set_option maxRecDepth 100000
set_option maxHeartbeats 4000000
namespace L2
open PySem PySem.Spec PyProof.Rows
noncomputable def xB : List Value := [.type "ValueError", .type "Exception", .type "BaseException", .type "object"]
noncomputable def xcIn (K : PySem.W.Frag) (C : Addr) : Bool := match K.lookup C with
  | some ⟨.type "type", _, .cls cd, sl⟩ => (match cd.mro, sl.toList with
    | .ref D :: bm, [_, _, _, _, some (.builtin n), _] => D == C && n == "ValueError.__new__" && !cd.hasDel && cd.hasDict && PySem.W.tailIn K xB bm
    | _, _ => false)
  | _ => false
theorem xc_obj {K : PySem.W.Frag} {C : Addr} (q : xcIn K C = true) : ∃ (nm qn : Str) (N : Addr) (bs bm : List Value) (sn : List Str) (sub : List Value) (ab : Bool) (col : Option Bool) (dd : Option Addr) (k0 k1 k2 k3 k5 : Option Value),
    K.lookup C = some (excClassObj nm qn C N bs bm true sn sub ab col dd k0 k1 k2 k3 k5 "ValueError.__new__") ∧ PySem.W.tailIn K xB bm = true := by
  unfold xcIn at q
  split at q
  · rename_i dd cd sl ho
    split at q
    · rename_i D bm k0 k1 k2 k3 n k5 hm hs
      simp only [Bool.and_eq_true, beq_iff_eq, Bool.not_eq_true'] at q
      obtain ⟨⟨⟨⟨e1, e2⟩, hdel⟩, hdc⟩, ht⟩ := q
      subst e1 e2
      obtain ⟨nm, bs, mro, ns, qn, hd, sn, sub, ab, col, del⟩ := cd
      dsimp only at hm hdel hdc
      subst hm hdel hdc
      have e3 : sl = #[k0, k1, k2, k3, some (.builtin "ValueError.__new__"), k5] := by
        obtain ⟨l⟩ := sl
        simp only at hs
        rw [hs]
      subst e3
      exact ⟨nm, qn, ns, bs, bm, sn, sub, ab, col, dd, k0, k1, k2, k3, k5, ho, ht⟩
    · cases q
  · cases q
section
variable {prog : Program} {w : World} {A : Around} {E : Value → Shared → Prop} {h : Heap} {g : Array GenState} {d : Drawn} {t : Nat} {os : OsState} {K : PySem.W.Frag} {C fI : Addr} {rest : List Value}
end
end L2
set_option Elab.async false
set_option linter.all false
set_option maxRecDepth 100000
set_option maxHeartbeats 4000000
namespace L2
open PySem PySem.Spec PyProof.Rows Builtin Builtin.ObjectAttr
structure XC (K : PySem.W.Frag) (C : Addr) : Prop where
  ex : xcIn K C = true
  sa : PySem.W.findIn K (.ref C) "__setattr__" = some (some (.builtin "object.__setattr__"))
  ga : PySem.W.findIn K (.ref C) "__getattribute__" = some (some (.builtin "BaseException.__getattribute__"))
  gt : PySem.W.findIn K (.ref C) "__getattr__" = some none
  cl : PySem.W.findIn K (.ref C) "__class__" = some (some (.builtin "object.__class__"))
  cg : PySem.W.specialIn K (.builtin "object.__class__") "__get__" = some (some (.builtin "getset_descriptor.__get__"))
  ct : PySem.W.takesIn K (.builtin "object.__class__") = some true
section
variable {prog : Program} {w : World} {A : Around} {E : Value → Shared → Prop} {s : Shared} {K : PySem.W.Frag} {C x : Addr} {name : Str} {v : Value}
theorem XC.cls (c : XC K C) : ∃ cd, PySem.W.clsIn K C = some cd ∧ cd.hasDict = true ∧ ∃ bm, cd.mro = .ref C :: bm ∧ PySem.W.tailIn K xB bm = true := by
  obtain ⟨nm, qn, N, bs, bm, sn, sub, ab, col, dd, k0, k1, k2, k3, k5, hl, htl⟩ := xc_obj c.ex
  exact ⟨_, by unfold PySem.W.clsIn; rw [hl], rfl, bm, rfl, htl⟩
theorem XC.mro (c : XC K C) {h : Heap} (X : K.In h) {T : String} (hT : xB.contains (.type T) = true) : PySem.W.mroIn K C (.type T) = some true := by
  obtain ⟨cd, hc, _, bm, hm, ht⟩ := c.cls
  unfold PySem.W.mroIn
  rw [hc, Option.bind_some, hm, if_neg (by simp)]
  rw [List.contains_cons, (PySem.W.tail_of_in X ht).hasType hT, Bool.or_true]
end
end L2
set_option Elab.async false
set_option linter.all false
set_option maxRecDepth 100000
set_option maxHeartbeats 4000000
namespace L2
open PySem PySem.Spec PyProof.Rows
noncomputable def exG (n : Bool) (a C : Addr) (od : Option Addr) : HO := .ext fun h => ∃ vs sl, h.get? a = some ⟨.ref C, od, .fields vs, sl⟩ ∧ (n = true → vs[1]? = some .none)
noncomputable def xdO (dx : Addr) (fs : List (Str × V)) : HO := .ext fun h => ∃ mA, h.Ns1 dx mA ∧ ∀ f, RelO (fs.lookup f) (mA f)
section
variable {P : Program} {w : World} {H : Hp} {h : Heap} {a C dx : Addr} {od : Option Addr} {fs : List (Str × V)}
theorem exG_ok {n : Bool} : ObjOk P w H h a (exG n a C od) ↔ ∃ vs sl, h.get? a = some ⟨.ref C, od, .fields vs, sl⟩ ∧ (n = true → vs[1]? = some .none) :=
  ⟨fun x => x.1, fun ⟨vs, sl, e, z⟩ => ⟨⟨vs, sl, e, z⟩, ⟨_, e⟩, fun h1 h2 ⟨vs, sl, e, z⟩ k => ⟨vs, sl, k _ e, z⟩⟩⟩
end
section
variable {K : PySem.W.Frag} {C B D : Addr}
theorem XC.ty (c : XC K C) : PySem.W.typeIn K (.ref C) = some (.type "type") := by
  obtain ⟨nm, qn, N, bs, bm, sn, sub, ab, col, dd, k0, k1, k2, k3, k5, hl, htl⟩ := xc_obj c.ex
  show Option.map (fun x => x.cls) (List.lookup C K) = _
  rw [hl]
  rfl
end
section
variable {X : Cx} {pins : List (Addr × Obj)} {σ : St} {H : Hp} {s : Shared} {a C dx : Addr} {fs : List (Str × V)} {f : Str} {v : V} {A : Around} {E : Value → Shared → Prop}
end
section
variable {X : Cx} {o e value : Expr} {f : Str} {pos pos' tpos : Pos} {ta tv : TE}
end
end L2
set_option Elab.async false
set_option linter.all false
set_option maxRecDepth 100000
set_option maxHeartbeats 4000000
namespace L2
open PySem PySem.Spec PyProof.Rows
noncomputable def ExB (n : Bool) (H : Hp) (a C : Addr) (fs : List (Str × V)) : Prop := (fs = [] ∧ H a = some (exG n a C none)) ∨ ∃ dx, dx ≠ a ∧ H a = some (exG n a C (some dx)) ∧ H dx = some (xdO dx fs)
theorem ExB.same {n : Bool} {H H' : Hp} {a C : Addr} {fs : List (Str × V)} (e : ExB n H a C fs) (s : ∀ b o, H b = some o → H' b = some o) : ExB n H' a C fs := by
  rcases e with ⟨e1, e⟩ | ⟨dx, ne, e, d⟩
  · exact .inl ⟨e1, s _ _ e⟩
  · exact .inr ⟨dx, ne, s _ _ e, s _ _ d⟩
section
variable {X : Cx} {k : Nat} {f C : Addr} {fd : FuncData} {ps : List Str} {sp : Sp} {x : Str} {p pos : Pos} {e : Expr} {es : List Expr} {t : TA} {pins : List (Addr × Obj)} {σ : St} {H : Hp} {s : Shared} {Q : VK} {us : List Value} {vs : List V}
end
end L2
set_option Elab.async false
set_option linter.all false
set_option maxRecDepth 100000
set_option maxHeartbeats 4000000
namespace L2
open PySem PySem.Spec PyProof.Rows
section
variable {X : Cx} {K : PySem.W.Frag} {o e value : Expr} {f : Str} {pos pos' : Pos} {ta tv : TE}
end
section
variable {K : PySem.W.Frag} {σ : St} {H : Hp} {Q : VK} {D : Ends} {f : Str} {ta tv : TE} {t : TA} {sp : Sp} {C a dx B G : Addr} {fs : List (Str × V)} {v y : V} {R : Hp → Prop} {vs : List V}
end
end L2
set_option Elab.async false
set_option linter.all false
set_option maxRecDepth 100000
set_option maxHeartbeats 4000000
namespace L2
open PySem PySem.Spec PyProof.Rows
structure Lft (fs : List Addr) (a : Addr) (oe : Obj) (old : List Addr) (h h' : Heap) : Prop where
  keep : ∀ b o, b ∉ fs → b ≠ a → b ∉ old → h.get? b = some o → h'.get? b = some o
  slot : ∀ b o, b ∈ fs → h.get? b = some o → ∃ sl, h'.get? b = some { o with slots := sl }
  there : ∀ b o, h.get? b = some o → ∃ o', h'.get? b = some o'
  tr : ∃ oe' vs T oT ts, h'.get? a = some oe' ∧ oe'.cls = oe.cls ∧ oe'.dict = oe.dict ∧ oe'.slots = oe.slots ∧ oe'.data = .fields vs ∧ vs[1]? = some (.ref T) ∧ T ≠ a ∧ h.get? T = none ∧ h'.get? T = some oT ∧ oT.data = .fields ts ∧ ts[3]? = some .none
section
variable {M : Model} {A : Around} {E : Value → Shared → Prop} {s : Shared} {base : Heap} {env : Env} {outer : List Env} {L a : Addr} {oe : Obj} {vs : Array Value} {Q : Unit → Shared → Prop}
end
end L2
set_option Elab.async false
set_option linter.all false
set_option maxRecDepth 100000
set_option maxHeartbeats 4000000
namespace L2
open PySem PySem.Spec PyProof.Rows
section
variable {P : Program} {w : World} {fs : List Addr} {a C : Addr} {od : Option Addr} {oe : Obj} {old : List Addr} {h h' : Heap} {H : Hp} {n : Bool}
theorem Lft.hok (l : Lft fs a oe old h h') (ok : HOk P w H h) (he : h.get? a = some oe) (ha : H a = some (exG n a C od)) (hfs : ∀ b ∈ fs, H b = none) (hold : ∀ b ∈ old, H b = none) : HOk P w (upd H a (exG false a C od)) h' := fun b u q => by
  have hu : ∀ c z, H c = some z → c ≠ a → upd H a (exG false a C od) c = some z := fun c z r ne => by rw [upd_ne ne]; exact r
  by_cases hb : b = a
  · subst hb
    rw [upd_same] at q; cases q
    obtain ⟨vs, sl, e1, _⟩ := exG_ok.mp (ok b _ ha)
    rw [he] at e1; cases e1
    obtain ⟨oe', us, T, oT, ts, q1, q2, q3, q4, q5, _⟩ := l.tr
    obtain ⟨c, d, dt, s4⟩ := oe'
    dsimp only at q2 q3 q4 q5
    subst q2 q3 q4 q5
    exact exG_ok.mpr ⟨us, _, q1, fun z => Bool.noConfusion z⟩
  · rw [upd_ne hb] at q
    refine (ok b u q).stay (fun c v hc r => ?_) (fun c r => hu c _ r fun z => ?_) fun c xs r => hu c _ r fun z => ?_
    · have hcn : ∃ z, H c = some z := by
        rcases hc with hc | hc
        · exact ⟨u, hc ▸ q⟩
        · exact ⟨_, hc⟩
      obtain ⟨z, hz⟩ := hcn
      refine l.keep c v (fun m => by rw [hfs c m] at hz; cases hz) (fun e => ?_) (fun m => by rw [hold c m] at hz; cases hz) r
      subst e
      rcases hc with hc | hc
      · exact hb hc.symm
      · rw [ha] at hc; cases hc
    · rw [z, ha] at r; cases r
    · rw [z, ha] at r; cases r
end
section
variable {P : Program} {w : World} {K : PySem.W.Frag} {mg : Str → Option Value} {base : Heap} {N : List Str} {qual : Str} {scope : Scope} {f : Addr} {cd : Value} {A : Around} {outer : List Env} {s₀ : Shared} {H₀ : Hp} {E : XK}
end
end L2
set_option Elab.async false
set_option linter.all false
set_option maxRecDepth 100000
set_option maxHeartbeats 4000000
namespace L2
open PySem PySem.Spec PyProof.Rows
section
variable {X : Cx} {pins : List (Addr × Obj)} {σ : St} {H : Hp} {s : Shared}
end
section
variable {M : Model} {A : Around} {E : Value → Shared → Prop} {s : Shared} {K : PySem.W.Frag} {C B a : Addr} {oe : Obj} {Q : Bool → Shared → Prop}
end
end L2
set_option Elab.async false
set_option linter.all false
set_option maxRecDepth 100000
set_option maxHeartbeats 4000000
namespace L2
open PySem PySem.Spec PyProof.Rows
section
variable {X : Cx} {pins : List (Addr × Obj)}
end
end L2
set_option Elab.async false
set_option linter.all false
set_option maxRecDepth 100000
set_option maxHeartbeats 4000000
namespace L2
open PySem PySem.Spec PyProof.Rows
section
variable {X : Cx} {k : Nat} {x : Str} {ps : List Str} {sp : Sp} {e : Expr} {es : List Expr} {t : TA} {p pos : Pos} {E : XK}
end
section
variable {P : Program} {w : World} {K : PySem.W.Frag} {mg : Str → Option Value} {base : Heap}
end
section
variable {K : PySem.W.Frag} {σ : St} {H H0 : Hp} {D : Ends} {t : TE} {C a : Addr} {fs : List (Str × V)} {E : XK}
end
end L2
set_option Elab.async false
set_option linter.all false
set_option maxRecDepth 100000
set_option maxHeartbeats 4000000
namespace L2
section
open Lean
def mWay (s : String) : MacroM (TSyntax `tactic) :=
  if s == "as" then `(tactic| assumption) else if s == "ar" then `(tactic| with_reducible assumption) else `(tactic| walk_at $(quote s))
def mFirst (ts : Array (TSyntax `tactic)) : MacroM (TSyntax `tactic) := do
  let ts ← ts.mapM fun t => `(Lean.Parser.Tactic.tacticSeq| $t:tactic)
  `(tactic| first $[| $ts]*)
def mId (s : String) : Ident := mkIdent ((s.splitOn ".").foldl Name.mkStr Name.anonymous)
def mIs (s : String) : MacroM Ident := do return mkIdent (← Macro.addMacroScope (.mkSimple s))
def mCases : List String → TSyntax `tactic → MacroM (TSyntax `tactic)
  | [], t => pure t
  | s :: r, t => do
    match s.splitOn "=" with
    | [x, y] => let w ← mWay y; let i ← mIs x; mCases r (← `(tactic| ($t:tactic; (case $i:ident => $w:tactic))))
    | _ => mCases r t
def mRow (s : String) : MacroM (TSyntax `tactic) := do
  match s.splitOn ": " with
  | [h, c] =>
    match h.splitOn " " with
    | f :: as =>
      let xs ← as.toArray.mapM fun a => do if a == "_" then `(?_) else `(?$(← mIs a))
      let u := Syntax.mkApp (mId f) xs
      let t ← if as.contains "_" then `(tactic| with_reducible refine' $u) else `(tactic| refine' $u)
      mCases (c.splitOn " ") t
    | _ => Macro.throwUnsupported
  | _ => do
    if s == "as" then `(tactic| assumption)
    else if s == "no" then `(tactic| fail "no")
    else `(tactic| exact $(mId s))
def mRows (s : String) : MacroM (TSyntax `tactic) := do mFirst (← (s.splitOn " | ").toArray.mapM mRow)
def mAlts (s : String) : MacroM (TSyntax `tactic) := do
  let a ← mFirst (← (s.splitOn " ").toArray.mapM fun n => `(tactic| refine $(mId n) ?_))
  `(tactic| with_reducible $a:tactic)
def mAltG (s : String) : MacroM (TSyntax `tactic) := do
  let a ← mFirst (← (s.splitOn " ").toArray.mapM fun n => `(tactic| refine $(mId n) fun N hN => ?_))
  `(tactic| with_reducible $a:tactic)
end
section
open PySem
theorem same_refl {H : Hp} : Same H H := Same.refl _
theorem fz_refl {H : Hp} : Fz H H := Fz.refl _
theorem ne_none2 {H : Hp} {a b : PySem.Addr} {o : HO} (h : H a = some o) (g : H b = none) : b ≠ a := Ne.symm (ne_of_none h g)
noncomputable def Cut (N M : St → Hp → Prop) : Prop := ∀ σ H, M σ H → N σ H
section
variable {t u : TS} {te td ty tv : TE} {g : TG} {D : Ends} {σ : St} {H : Hp}
theorem i_seqG (k : ∀ N : St → Hp → Prop, Cut N (u D) → t { D with nx := N } σ H) : tSeq t u D σ H := k (u D) fun _ _ h => h
theorem i_seqAG (k : ∀ N : St → Hp → Prop, Cut N (u D) → tAsg te g { D with nx := N } σ H) : tSeq (tAsg te g) u D σ H := k (u D) fun _ _ h => h
theorem i_seqDG (k : ∀ N : St → Hp → Prop, Cut N (u D) → tDrop te { D with nx := N } σ H) : tSeq (tDrop te) u D σ H := k (u D) fun _ _ h => h
theorem i_seqPG (k : ∀ N : St → Hp → Prop, Cut N (u D) → sDPut td ty tv { D with nx := N } σ H) : tSeq (sDPut td ty tv) u D σ H := k (u D) fun _ _ h => h
theorem i_cutN {N M : St → Hp → Prop} (h : Cut N M) (k : M σ H) : N σ H := h _ _ k
end
theorem len_n0 {α : Type} {P : List α → Prop} {us : List α} (hl : us.length = 0) (h : P []) : P us := by
  rw [List.length_eq_zero_iff.mp hl]; exact h
theorem len_n1 {α : Type} {P : List α → Prop} {us : List α} (hl : us.length = 1) (h : ∀ a0 : α, P [a0]) : P us := by
  cases us with
  | nil => cases hl
  | cons a r => exact len_n0 (P := fun r => P (a :: r)) (Nat.succ.inj hl) (h a)
theorem len_n2 {α : Type} {P : List α → Prop} {us : List α} (hl : us.length = 2) (h : ∀ a0 a1 : α, P [a0, a1]) : P us := by
  cases us with
  | nil => cases hl
  | cons a r => exact len_n1 (P := fun r => P (a :: r)) (Nat.succ.inj hl) (h a)
theorem len_n3 {α : Type} {P : List α → Prop} {us : List α} (hl : us.length = 3) (h : ∀ a0 a1 a2 : α, P [a0, a1, a2]) : P us := by
  cases us with
  | nil => cases hl
  | cons a r => exact len_n2 (P := fun r => P (a :: r)) (Nat.succ.inj hl) (h a)
theorem len_n4 {α : Type} {P : List α → Prop} {us : List α} (hl : us.length = 4) (h : ∀ a0 a1 a2 a3 : α, P [a0, a1, a2, a3]) : P us := by
  cases us with
  | nil => cases hl
  | cons a r => exact len_n3 (P := fun r => P (a :: r)) (Nat.succ.inj hl) (h a)
end
end L2
set_option Elab.async false
set_option linter.all false
set_option maxRecDepth 100000
set_option maxHeartbeats 4000000
namespace L2
open PySem PySem.Spec PyProof.Rows
structure NamesS (ns : List Str) : Prop where
  nm : Names ns
  st : ("strange" : Str) ∉ ns
  zz : ("zz" : Str) ∉ ns
theorem NamesS.perm {ns ms : List Str} (h : NamesS ns) (p : ms.Perm ns) : NamesS ms := ⟨h.nm.perm p, fun q => h.st (p.mem_iff.mp q), fun q => h.zz (p.mem_iff.mp q)⟩
theorem NamesS.sublist {ns ms : List Str} (h : NamesS ns) (p : ms.Sublist ns) : NamesS ms := ⟨h.nm.sublist p, fun q => h.st (p.subset q), fun q => h.zz (p.subset q)⟩
section
variable {K : PySem.W.Frag} {x qual : Str} {st : Stmt} {f : Addr} {fd : FuncData}
theorem binds1 {p0 : Str} (F : Fun K x qual st f fd) (h : ∀ (kV doc pm : Value) (an : Option Addr) (cdv ct : Value) (u0 : Value), bindArgs (PySem.W.fnOf x qual (defArgs st) (defBody st) (defScope st) .none kV doc pm an cdv ct) ⟨[u0], []⟩ = pure (([p0] : List Str).zip [u0])) : Binds K fd [p0] [] :=
  F.binds fun kV doc pm an cdv ct us hl => len_n1 (P := fun us => bindArgs (PySem.W.fnOf x qual (defArgs st) (defBody st) (defScope st) .none kV doc pm an cdv ct) ⟨us, []⟩ = pure (([p0] : List Str).zip us)) hl (h kV doc pm an cdv ct)
theorem binds2 {p0 p1 : Str} (F : Fun K x qual st f fd) (h : ∀ (kV doc pm : Value) (an : Option Addr) (cdv ct : Value) (u0 u1 : Value), bindArgs (PySem.W.fnOf x qual (defArgs st) (defBody st) (defScope st) .none kV doc pm an cdv ct) ⟨[u0, u1], []⟩ = pure (([p0, p1] : List Str).zip [u0, u1])) : Binds K fd [p0, p1] [] :=
  F.binds fun kV doc pm an cdv ct us hl => len_n2 (P := fun us => bindArgs (PySem.W.fnOf x qual (defArgs st) (defBody st) (defScope st) .none kV doc pm an cdv ct) ⟨us, []⟩ = pure (([p0, p1] : List Str).zip us)) hl (h kV doc pm an cdv ct)
theorem binds3 {p0 p1 p2 : Str} (F : Fun K x qual st f fd) (h : ∀ (kV doc pm : Value) (an : Option Addr) (cdv ct : Value) (u0 u1 u2 : Value), bindArgs (PySem.W.fnOf x qual (defArgs st) (defBody st) (defScope st) .none kV doc pm an cdv ct) ⟨[u0, u1, u2], []⟩ = pure (([p0, p1, p2] : List Str).zip [u0, u1, u2])) : Binds K fd [p0, p1, p2] [] :=
  F.binds fun kV doc pm an cdv ct us hl => len_n3 (P := fun us => bindArgs (PySem.W.fnOf x qual (defArgs st) (defBody st) (defScope st) .none kV doc pm an cdv ct) ⟨us, []⟩ = pure (([p0, p1, p2] : List Str).zip us)) hl (h kV doc pm an cdv ct)
theorem binds4 {p0 p1 p2 p3 : Str} (F : Fun K x qual st f fd) (h : ∀ (kV doc pm : Value) (an : Option Addr) (cdv ct : Value) (u0 u1 u2 u3 : Value), bindArgs (PySem.W.fnOf x qual (defArgs st) (defBody st) (defScope st) .none kV doc pm an cdv ct) ⟨[u0, u1, u2, u3], []⟩ = pure (([p0, p1, p2, p3] : List Str).zip [u0, u1, u2, u3])) : Binds K fd [p0, p1, p2, p3] [] :=
  F.binds fun kV doc pm an cdv ct us hl => len_n4 (P := fun us => bindArgs (PySem.W.fnOf x qual (defArgs st) (defBody st) (defScope st) .none kV doc pm an cdv ct) ⟨us, []⟩ = pure (([p0, p1, p2, p3] : List Str).zip us)) hl (h kV doc pm an cdv ct)
end
end L2
set_option Elab.async false
set_option linter.all false
set_option maxRecDepth 100000
set_option maxHeartbeats 4000000
namespace L2
open PySem PySem.Spec PyProof.Rows
end L2
set_option Elab.async false
set_option linter.all false
set_option maxRecDepth 100000
set_option maxHeartbeats 4000000
namespace L2
open PySem PySem.Spec PyProof.Rows
section
open PySem.SeqAt PySem.MeetsSeq
variable {A : Around} {s : Shared}
end
noncomputable def ItM (K : PySem.W.Frag) (H : Hp) (e : V) : Prop := e = .non ∨ (∃ b, e = .bl b) ∨ (∃ i, e = .int i) ∨ (∃ z, e = .str z) ∨ (∃ a ys, e = .ref a ∧ (SqL K H a ys ∨ SqT K H a ys)) ∨ ∃ a kvs, e = .ref a ∧ H a = some (.dK kvs)
theorem ItM.same {K : PySem.W.Frag} {H H' : Hp} {e : V} (h : ItM K H e) (s : Same H H') : ItM K H' e := by
  rcases h with h | h | h | h | ⟨a, ys, h1, h2⟩ | ⟨a, kvs, h1, h2⟩
  · exact .inl h
  · exact .inr (.inl h)
  · exact .inr (.inr (.inl h))
  · exact .inr (.inr (.inr (.inl h)))
  · exact .inr (.inr (.inr (.inr (.inl ⟨a, ys, h1, h2.elim (fun h => .inl (s.seq h)) fun h => .inr (s.seqT h)⟩))))
  · exact .inr (.inr (.inr (.inr (.inr ⟨a, kvs, h1, s _ _ h2⟩))))
end L2
set_option Elab.async false
set_option linter.all false
set_option maxRecDepth 100000
set_option maxHeartbeats 4000000
namespace L2
open PySem PySem.Spec PyProof.Rows
section
variable {prog : Program} {w : World} {A : Around} {E : Value → Shared → Prop} {s : Shared}
set_option maxRecDepth 100000 in
end
section
variable {X : Cx} {pos p2 : Pos}
end
end L2
set_option Elab.async false
set_option linter.all false
set_option maxRecDepth 100000
set_option maxHeartbeats 4000000
namespace L2
open PySem PySem.Spec PyProof.Rows
section
variable {P : Program} {w : World} {A : Around} {E : Value → Shared → Prop} {z : Shared}
end
section
variable {X : Cx} {K : PySem.W.Frag}
end
section
variable {K : PySem.W.Frag} {H : Hp} {Q : VK}
end
end L2
set_option Elab.async false
set_option linter.all false
set_option maxRecDepth 100000
set_option maxHeartbeats 4000000
namespace L2
open PySem PySem.Spec PyProof.Rows
mutual
def flatD : PyData → Bool
  | .list _ => false
  | .dict _ => false
  | .tuple ds => flatL ds
  | _ => true
def flatL : List PyData → Bool
  | [] => true
  | d :: ds => flatD d && flatL ds
end
mutual
theorem reads_flat {h : Heap} : ∀ {v : Value} {d : PyData} {as : List Addr}, Reads h v d as → flatD d = true → as = []
  | _, _, _, .none, _ => rfl
  | _, _, _, .bool _, _ => rfl
  | _, _, _, .int _ _, _ => rfl
  | _, _, _, .str _ _, _ => rfl
  | _, _, _, .list _ _ _ _, f => by simp only [flatD] at f; cases f
  | _, _, _, .tuple _ _ _ r, f => readsAll_flat r (by simpa only [flatD] using f)
  | _, _, _, .dict _ _ _ _ _, f => by simp only [flatD] at f; cases f
theorem readsAll_flat {h : Heap} : ∀ {vs : List Value} {ds : List PyData} {as : List Addr}, ReadsAll h vs ds as → flatL ds = true → as = []
  | _, _, _, .nil, _ => rfl
  | _, _, _, .cons r rs, f => by
    simp only [flatL, Bool.and_eq_true] at f
    rw [reads_flat r f.1, readsAll_flat rs f.2]
    rfl
end
noncomputable def dsD (rs : List (Str × Str)) : PyData := .dict (rs.map fun p => (.str p.1, .str p.2))
noncomputable def dsK (rs : List (Str × Str)) : List (Key × V) := rs.map fun p => (Sum.inr p.1, .str p.2)
mutual
inductive RD (K : PySem.W.Frag) (H : Hp) : PyData → V → Prop
  | is {d : PyData} {v : V} : Is K H d v → flatD d = true → RD K H d v
  | tup {a : Addr} {ds : List PyData} {xs : List V} : SqT K H a xs → RDL K H ds xs → RD K H (.tuple ds) (.ref a)
  | dct {a : Addr} (rs : List (Str × Str)) : H a = some (.dK (dsK rs)) → RD K H (dsD rs) (.ref a)
inductive RDL (K : PySem.W.Frag) (H : Hp) : List PyData → List V → Prop
  | nil : RDL K H [] []
  | cons {d : PyData} {v : V} {ds : List PyData} {vs : List V} : RD K H d v → RDL K H ds vs → RDL K H (d :: ds) (v :: vs)
end
mutual
theorem RD.same {K : PySem.W.Frag} {H H' : Hp} (e : Same H H') : ∀ {d : PyData} {v : V}, RD K H d v → RD K H' d v
  | _, _, .is h f => .is (Is.mono e _ _ h) f
  | _, _, .tup h l => .tup (e.seqT h) (RDL.same e l)
  | _, _, .dct rs h => .dct rs (e _ _ h)
theorem RDL.same {K : PySem.W.Frag} {H H' : Hp} (e : Same H H') : ∀ {ds : List PyData} {vs : List V}, RDL K H ds vs → RDL K H' ds vs
  | _, _, .nil => .nil
  | _, _, .cons h l => .cons (RD.same e h) (RDL.same e l)
end
theorem ds_reads {P : Program} {w : World} {h : Heap} : ∀ {rs : List (Str × Str)} {vs : List (Key × Value)} {es : List DictEntry}, KV (dsK rs) vs → Pairs (mixKind P w) es vs →
    ReadsAll h (es.map (·.key)) ((rs.map fun p => (PyData.str p.1, PyData.str p.2)).map (·.1)) [] ∧ ReadsAll h (es.map (·.val)) ((rs.map fun p => (PyData.str p.1, PyData.str p.2)).map (·.2)) []
  | [], _, _, .nil, .nil => ⟨.nil, .nil⟩
  | p :: rs, _, _, .cons ⟨k1, k2⟩ kr, .cons q1 q2 qr => by
    rename_i q vs e es
    obtain ⟨qk, qv⟩ := q
    dsimp only at k1 k2 q1 q2
    subst k1
    obtain ⟨t, rfl⟩ := k2
    obtain ⟨i1, i2⟩ := ds_reads (h := h) kr qr
    have hk : ∃ t', e.key = .str p.1 t' := by
      have : Value.isStrOf p.1 e.key = true := q1
      cases hkey : e.key with
      | str b t' =>
        rw [hkey] at this
        have hb : b = p.1 := by simpa [Value.isStrOf] using this
        exact ⟨t', by rw [hb]⟩
      | _ => rw [hkey] at this; simp [Value.isStrOf] at this
    obtain ⟨t', hk⟩ := hk
    refine ⟨?_, ?_⟩
    · simp only [List.map_cons]
      rw [hk]
      exact .cons (.str _ _) i1
    · simp only [List.map_cons]
      rw [q2]
      exact .cons (.str _ _) i2
section
variable {X : Cx} {pins : List (Addr × Obj)} {σ : St} {H : Hp} {s : Shared}
mutual
theorem RD.reads (I : Inv X pins σ H s) : ∀ {d : PyData} {v : V} {u : Value}, RD X.K H d v → RelV v u → ∃ as, Reads s.heap u d as ∧ sysModules ∉ as
  | d, v, u, .is h f, r => by
    obtain ⟨as, ra⟩ := Is.reads I d v u h r
    exact ⟨as, ra, by rw [reads_flat ra f]; simp⟩
  | _, _, u, .tup (a := a) (ds := ds) (xs := xs) h l, r => by
    cases r
    obtain ⟨its, rv, ⟨o, e, hc, n, hd⟩, _⟩ := I.tuple h
    obtain ⟨as, ra, hs⟩ := RDL.reads I l rv
    exact ⟨as, .tuple e hc hd (by simpa using ra), hs⟩
  | _, _, u, .dct (a := a) rs h, r => by
    cases r
    obtain ⟨_, hsm, vs, kv, o, es, ep, e1, ⟨e2, _, _⟩, e4, _, e6, _⟩ := (show ObjOk X.prog X.w H s.heap a (.dK (dsK rs)) from I.hok a _ h)
    obtain ⟨r1, r2⟩ := ds_reads (h := s.heap) kv e6
    refine ⟨_, .dict e1 e2 e4 r1 r2, ?_⟩
    simp only [List.append_nil, List.mem_singleton]
    exact Ne.symm (beq_eq_false_iff_ne.mp hsm)
theorem RDL.reads (I : Inv X pins σ H s) : ∀ {ds : List PyData} {vs : List V} {us : List Value}, RDL X.K H ds vs → Vals vs us → ∃ as, ReadsAll s.heap us ds as ∧ sysModules ∉ as
  | _, _, _, .nil, r => by cases r; exact ⟨_, .nil, by simp⟩
  | _, _, _, .cons h l, r => by
    cases r with
    | cons r1 r2 =>
      obtain ⟨a1, h1, s1⟩ := RD.reads I h r1
      obtain ⟨a2, h2, s2⟩ := RDL.reads I l r2
      exact ⟨_, .cons h1 h2, fun q => (List.mem_append.mp q).elim s1 s2⟩
end
end
structure Fd (d : PyData) : Prop where
  sh : d.showable = true
  lv : d.leavesShort 13 = true
  dp : d.depth ≤ 20
  wt : d.weight ≤ 5000
theorem Fd.fits {d : PyData} (h : Fd d) : d.shown.length ≤ sizeLine := by
  have h2 := PyData.shown_le 13 (by decide) d h.lv
  have := h.wt
  rw [sizeLine_eq]
  omega
end L2
set_option Elab.async false
set_option linter.all false
set_option maxRecDepth 100000
set_option maxHeartbeats 4000000
namespace L2
open PySem PySem.Spec PyProof.Rows
end L2
set_option linter.all false
set_option maxRecDepth 100000
namespace L2
open PySem PySem.Spec PyProof.Rows
theorem sqL_off {K : PySem.W.Frag} {H H' : Hp} {d a : Addr} {kvs : List (Key × V)} {xs : List V} (hd : H d = some (.dK kvs)) (e : ExtBut d H H') (h : SqL K H a xs) : SqL K H' a xs := by
  rcases h with h | h
  · refine e.seq (fun z => ?_) (.inl h)
    subst z
    rcases h with h | ⟨o, h⟩
    · rw [hd] at h; cases h
    · rw [hd] at h; cases h
  · exact .inr h
mutual
theorem Is.off {K : PySem.W.Frag} {H H' : Hp} {d : Addr} {kvs : List (Key × V)} (hd : H d = some (.dK kvs)) (e : ExtBut d H H') : ∀ (D : PyData) (v : V), Is K H D v → Is K H' D v
  | .none, _, h => by simp only [Is] at h ⊢; exact h
  | .bool _, _, h => by simp only [Is] at h ⊢; exact h
  | .int _, _, h => by simp only [Is] at h ⊢; exact h
  | .str _, _, h => by simp only [Is] at h ⊢; exact h
  | .list ds, v, h => by
    simp only [Is] at h ⊢
    obtain ⟨a, xs, e1, e2, e3⟩ := h
    exact ⟨a, xs, e1, sqL_off hd e e2, IsL.off hd e ds xs e3⟩
  | .tuple ds, v, h => by
    simp only [Is] at h ⊢
    obtain ⟨a, xs, e1, e2, e3⟩ := h
    exact ⟨a, xs, e1, (e.fzD hd).seq e2, IsL.off hd e ds xs e3⟩
  | .dict _, _, h => by simp only [Is] at h
theorem IsL.off {K : PySem.W.Frag} {H H' : Hp} {d : Addr} {kvs : List (Key × V)} (hd : H d = some (.dK kvs)) (e : ExtBut d H H') : ∀ (ds : List PyData) (vs : List V), IsL K H ds vs → IsL K H' ds vs
  | [], _, h => by simp only [IsL] at h ⊢; exact h
  | D :: ds, vs, h => by
    simp only [IsL] at h ⊢
    obtain ⟨v, r, e1, e2, e3⟩ := h
    exact ⟨v, r, e1, Is.off hd e D v e2, IsL.off hd e ds r e3⟩
end
mutual
def ascD : PyData → Bool
  | .str z => z.cps.toList.all fun c => decide (c < 128)
  | .list ds => ascL ds
  | .tuple ds => ascL ds
  | .dict _ => false
  | _ => true
def ascL : List PyData → Bool
  | [] => true
  | d :: ds => ascD d && ascL ds
end
mutual
def widD : PyData → Nat
  | .list ds => max ds.length (widL ds)
  | .tuple ds => max ds.length (widL ds)
  | _ => 0
def widL : List PyData → Nat
  | [] => 0
  | d :: ds => max (widD d) (widL ds)
end
structure Dk (p w W : Nat) (D : PyData) : Prop where
  asc : ascD D = true
  lay : D.canLay0 = true
  sh : D.showable = true
  lv : D.leavesShort 45 = true
  dp : D.depth ≤ p
  wt : D.weight ≤ w
  wd : widD D ≤ W
structure Els (p w W : Nat) (ds : List PyData) : Prop where
  all : ∀ e ∈ ds, ∃ u, Dk p u W e
  wt : PyData.weightAll ds ≤ w
  len : ds.length ≤ W
theorem Dk.le {p w W p' w' W' : Nat} {D : PyData} (h : Dk p w W D) (h1 : p ≤ p') (h2 : w ≤ w') (h3 : W ≤ W' := by omega) : Dk p' w' W' D := ⟨h.asc, h.lay, h.sh, h.lv, Nat.le_trans h.dp h1, Nat.le_trans h.wt h2, Nat.le_trans h.wd h3⟩
theorem els_all {p W : Nat} : ∀ {ds : List PyData}, (∀ e ∈ ds, ∃ u, Dk p u W e) → ascL ds = true ∧ PyData.canLayAll0 ds = true ∧ PyData.showableAll ds = true ∧ PyData.leavesShortAll 45 ds = true ∧ PyData.depthAll ds ≤ p ∧ widL ds ≤ W
  | [], _ => ⟨by simp only [ascL], by simp only [PyData.canLayAll0], by simp only [PyData.showableAll], by simp only [PyData.leavesShortAll], by simp only [PyData.depthAll]; omega, by simp only [widL]; omega⟩
  | d :: ds, h => by
    obtain ⟨u, a⟩ := h d (by simp)
    obtain ⟨b0, b1, b2, b3, b4, b5⟩ := els_all (ds := ds) fun e he => h e (by simp [he])
    have := a.dp
    have := a.wd
    exact ⟨by simp only [ascL, a.asc, b0, Bool.and_self], by simp only [PyData.canLayAll0, a.lay, b1, Bool.and_self], by simp only [PyData.showableAll, a.sh, b2, Bool.and_self], by simp only [PyData.leavesShortAll, a.lv, b3, Bool.and_self], by simp only [PyData.depthAll]; omega, by simp only [widL]; omega⟩
theorem all_els {p W : Nat} : ∀ {ds : List PyData}, ascL ds = true → PyData.canLayAll0 ds = true → PyData.showableAll ds = true → PyData.leavesShortAll 45 ds = true → PyData.depthAll ds ≤ p → widL ds ≤ W → ∀ e ∈ ds, ∃ u, Dk p u W e
  | [], _, _, _, _, _, _ => fun e he => by cases he
  | d :: ds, h0, h1, h2, h3, h4, h5 => fun e he => by
    simp only [ascL, PyData.canLayAll0, PyData.showableAll, PyData.leavesShortAll, PyData.depthAll, widL, Bool.and_eq_true] at h0 h1 h2 h3 h4 h5
    rcases List.mem_cons.mp he with rfl | he
    · exact ⟨_, h0.1, h1.1, h2.1, h3.1, by omega, Nat.le_refl _, by omega⟩
    · exact all_els h0.2 h1.2 h2.2 h3.2 (by omega) (by omega) e he
theorem dk_tup {p w W : Nat} {ds : List PyData} (h : Els p w W ds) : Dk (p + 1) w W (.tuple ds) := by
  obtain ⟨a0, a1, a2, a3, a4, a5⟩ := els_all h.all
  have := h.len
  exact ⟨by simpa only [ascD] using a0, by simpa only [PyData.canLay0] using a1, by simpa only [PyData.showable] using a2, by simpa only [PyData.leavesShort] using a3, by simp only [PyData.depth]; omega, by simpa only [PyData.weight] using h.wt, by simp only [widD]; omega⟩
theorem Dk.els {p w W : Nat} {ds : List PyData} (h : Dk (p + 1) w W (.tuple ds)) : Els p w W ds := by
  obtain ⟨a0, a1, a2, a3, a4, a5, a6⟩ := h
  simp only [widD, ascD, PyData.canLay0, PyData.showable, PyData.leavesShort, PyData.depth, PyData.weight] at a0 a1 a2 a3 a4 a5 a6
  exact ⟨all_els a0 a1 a2 a3 (by omega) (by omega), a5, by omega⟩
theorem wt_app : ∀ as bs : List PyData, PyData.weightAll (as ++ bs) = PyData.weightAll as + PyData.weightAll bs
  | [], bs => by simp only [List.nil_append, PyData.weightAll]; omega
  | a :: as, bs => by
    have := wt_app as bs
    simp only [List.cons_append, PyData.weightAll]
    omega
theorem Els.sub {p w W : Nat} {ds es : List PyData} (h : Els p w W ds) (hs : ∀ e ∈ es, e ∈ ds) (hw : PyData.weightAll es ≤ PyData.weightAll ds) (hl : es.length ≤ ds.length) : Els p w W es := ⟨fun e he => h.all e (hs e he), Nat.le_trans hw h.wt, Nat.le_trans hl h.len⟩
theorem wt_drop (ds : List PyData) (n : Nat) : PyData.weightAll (ds.drop n) ≤ PyData.weightAll ds := by
  have := wt_app (ds.take n) (ds.drop n)
  rw [List.take_append_drop] at this
  omega
theorem wt_take (ds : List PyData) (n : Nat) : PyData.weightAll (ds.take n) ≤ PyData.weightAll ds := by
  have := wt_app (ds.take n) (ds.drop n)
  rw [List.take_append_drop] at this
  omega
theorem Els.take {p w W : Nat} {ds : List PyData} (h : Els p w W ds) (n : Nat) : Els p w W (ds.take n) := h.sub (fun e he => List.mem_of_mem_take he) (wt_take ds n) (by rw [List.length_take]; omega)
theorem Els.drop {p w W : Nat} {ds : List PyData} (h : Els p w W ds) (n : Nat) : Els p w W (ds.drop n) := h.sub (fun e he => List.mem_of_mem_drop he) (wt_drop ds n) (by rw [List.length_drop]; omega)
theorem Els.one {p w W : Nat} {D : PyData} (h : Dk p w W D) (hW : 1 ≤ W) : Els p (w + 1) W [D] := ⟨fun e he => by rw [List.mem_singleton.mp he]; exact ⟨w, h⟩, by simp only [PyData.weightAll]; have := h.wt; omega, by simpa using hW⟩
noncomputable def Asc (z : Str) : Prop := ∀ c ∈ z.cps.toList, c < 128
theorem Asc.ok {z : Str} (h : Asc z) : PyData.strOk z = true := by
  unfold PyData.strOk
  rw [← Array.all_toList, List.all_eq_true]
  intro c hc
  have := h c hc
  exact decide_eq_true (by omega)
theorem dk_str {p w W : Nat} {z : Str} (h : Asc z) (hl : z.length ≤ w) : Dk p w W (.str z) := by
  refine ⟨?_, by simpa only [PyData.canLay0] using h.ok, by simp only [PyData.showable], ?_, by simp only [PyData.depth]; omega, by simp only [PyData.weight]; exact hl, by simp only [widD]; omega⟩
  · simp only [ascD]
    rw [List.all_eq_true]
    exact fun c hc => decide_eq_true (h c hc)
  · simp only [PyData.leavesShort]
    rw [List.all_eq_true]
    intro c hc
    have := h c hc
    exact decide_eq_true (by omega)
theorem Dk.str {p w W : Nat} {z : Str} (h : Dk p w W (.str z)) : Asc z ∧ z.length ≤ w := by
  obtain ⟨a0, _, _, _, _, a5, _⟩ := h
  simp only [ascD, List.all_eq_true] at a0
  simp only [PyData.weight] at a5
  exact ⟨fun c hc => of_decide_eq_true (a0 c hc), a5⟩
theorem Dk.shaped {p w W : Nat} {D : PyData} (h : Dk p w W D) (hp : p ≤ 64) : SeqAt.shaped D = true := by
  have := h.dp
  unfold SeqAt.shaped
  rw [h.lay, decide_eq_true (by omega)]
  rfl
theorem cut_dropA {xs : List V} {t : Int} (h0 : 0 ≤ t) : cutV xs (some t) none = xs.drop t.toNat := by
  by_cases h : t ≤ xs.length
  · exact cut_from h0 h
  · have e : HT.sIx xs.length 0 (some t) = xs.length := by unfold HT.sIx; simp [show ¬ t < 0 by omega]; omega
    unfold cutV
    rw [e, List.drop_length, List.take_nil, List.drop_eq_nil_of_le (by omega)]
end L2
set_option linter.all false
set_option maxRecDepth 100000
namespace L2
open PySem PySem.Spec PyProof.Rows
section
variable {X : Cx} {K : PySem.W.Frag}
end
end L2
set_option linter.all false
set_option maxRecDepth 100000
namespace L2
open PySem PySem.Spec PyProof.Rows
section
variable {X : Cx} {K : PySem.W.Frag}
end
end L2
set_option linter.all false
set_option maxRecDepth 100000
set_option maxHeartbeats 4000000
namespace L2
open PySem PySem.Spec PyProof.Rows
section
variable {prog : Program} {w : World} {A : Around} {E : Value → Shared → Prop} {s : Shared}
end
section
variable {P : Program} {w : World} {A : Around} {R : Result → Shared → Prop} {it : Addr} {fp wr : List Addr} {G : Array GenState → Array GenState → Prop} {n : Nat} {PV : Nat → Value → Prop} {St : Nat → Shared → Prop}
end
section
variable {prog : Program} {w : World} {A : Around} {E : Value → Shared → Prop} {s : Shared}
set_option maxHeartbeats 3200000 in
end
end L2
set_option linter.all false
set_option maxRecDepth 100000
set_option maxHeartbeats 4000000
namespace L2
open PySem PySem.Spec PyProof.Rows
section
variable {prog : Program} {w : World} {A : Around} {E : Value → Shared → Prop} {s : Shared}
noncomputable def SIt (g : Heap) (it b : Addr) (first : Value) (i n ep : Nat) : Prop := ∃ o, g.get? it = some o ∧ o.cls = .type "set_iterator" ∧ o.data = .fields #[first, .int i 0, .ref b, .int n 0, .int ep 0]
noncomputable def SOb (g : Heap) (b : Addr) (xs : Array (Int × Value)) (ep : Nat) (tb : SetTable) : Prop := ∃ ob, g.get? b = some ob ∧ ob.ExactSet ∧ ob.data = .set xs ep tb
theorem SIt.ty {it b : Addr} {first : Value} {i n ep : Nat} (h : SIt s.heap it b first i n ep) : s.TypeIs (.ref it) "set_iterator" := let ⟨o, h1, h2, _⟩ := h; ⟨o, h1, h2⟩
end
end L2
set_option linter.all false
set_option maxRecDepth 100000
set_option maxHeartbeats 4000000
namespace L2
open PySem PySem.Spec PyProof.Rows
section
variable {prog : Program} {w : World} {A : Around} {E : Value → Shared → Prop} {s : Shared}
end
end L2
set_option linter.all false
set_option maxRecDepth 100000
set_option maxHeartbeats 4000000
namespace L2
open PySem PySem.Spec PyProof.Rows
section
variable {prog : Program} {w : World} {A : Around} {E : Value → Shared → Prop} {s : Shared}
theorem SIt.keep {g g' : Heap} {it b : Addr} {first : Value} {i n ep : Nat} (h : SIt g it b first i n ep) (k : ∀ o, g.get? it = some o → g'.get? it = some o) : SIt g' it b first i n ep := let ⟨o, h1, h2⟩ := h; ⟨o, k o h1, h2⟩
theorem SOb.keep {g g' : Heap} {b : Addr} {xs : Array (Int × Value)} {ep : Nat} {tb : SetTable} (h : SOb g b xs ep tb) (k : ∀ o, g.get? b = some o → g'.get? b = some o) : SOb g' b xs ep tb := let ⟨o, h1, h2⟩ := h; ⟨o, k o h1, h2⟩
end
end L2
set_option linter.all false
set_option maxRecDepth 100000
set_option maxHeartbeats 4000000
namespace L2
open PySem PySem.Spec PyProof.Rows
section
variable {prog : Program} {w : World} {A : Around} {E : Value → Shared → Prop} {s : Shared}
end
end L2
namespace L2
open PySem PySem.Spec PyProof.Rows
section
variable {X : Cx} {K : PySem.W.Frag}
end
end L2
set_option linter.all false
set_option maxRecDepth 100000
set_option maxHeartbeats 4000000
namespace L2
open PySem PySem.Spec PyProof.Rows
open Builtin
section
variable {X : Cx} {K : PySem.W.Frag}
end
end L2
set_option linter.all false
set_option maxRecDepth 100000
set_option maxHeartbeats 4000000
namespace L2
open PySem PySem.Spec PyProof.Rows
section
variable {P : Program} {w : World} {K : PySem.W.Frag} {mg : Str → Option Value} {base : Heap} {k : Nat} {f : Addr} {fd : FuncData} {ps : List Str} {sp sp' : Sp}
theorem FnOk.or {CX : CXT} (F : FnOk P w K mg base CX k f fd ps sp) (G : FnOk P w K mg base CX k f fd ps sp') : FnOk P w K mg base CX k f fd ps (fun vs H Q E => sp vs H Q E ∨ sp' vs H Q E) :=
  ⟨fun vs H Q E q => q.elim (F.len vs H Q E) (G.len vs H Q E), fun A outer s H args us vs Q E hr he hb hv h => h.elim (F.run A outer s H args us vs Q E hr he hb hv) (G.run A outer s H args us vs Q E hr he hb hv)⟩
end
end L2
set_option linter.all false
set_option maxRecDepth 100000
set_option maxHeartbeats 4000000
namespace L2
open PySem PySem.Spec PyProof.Rows
section
variable {P : Program} {w : World} {A : Around} {E : Value → Shared → Prop} {z : Shared}
end
end L2
set_option linter.all false
set_option maxRecDepth 100000
set_option maxHeartbeats 4000000
namespace L2
open PySem PySem.Spec PyProof.Rows
noncomputable def Itz (K : PySem.W.Frag) (a b : Addr) : It :=
  ⟨fun i H => ∃ xs ys x y, SqT K H a xs ∧ SqT K H b ys ∧ xs[i]? = some x ∧ ys[i]? = some y, fun i H v H' => ∃ t x y, H t = none ∧ H' = upd H t (.tup [x, y]) ∧ v = .ref t ∧ (∀ xs, SqT K H a xs → xs[i]? = some x) ∧ ∀ ys, SqT K H b ys → ys[i]? = some y, fun i H => ∃ xs ys, SqT K H a xs ∧ SqT K H b ys ∧ (xs.length = i ∨ (i < xs.length ∧ ys.length = i))⟩
end L2
set_option linter.all false
set_option maxRecDepth 100000
set_option maxHeartbeats 4000000
namespace L2
open PySem PySem.Spec PyProof.Rows
section
variable {X : Cx} {K : PySem.W.Frag}
noncomputable def rZip (K : PySem.W.Frag) (vs : List V) (H : Hp) (R : It → Hp → Prop) : Prop := ∃ a b xs ys, vs = [.ref a, .ref b] ∧ SqT K H a xs ∧ SqT K H b ys ∧ R (Itz K a b) H
noncomputable def iZip (K : PySem.W.Frag) (ta : TA) : TI := fun σ H R => ta σ H fun vs H1 => rZip K vs H1 R
end
section
variable {K : PySem.W.Frag} {σ : St} {H : Hp} {Q : VK}
theorem i_izip {ts : TA} {R : It → Hp → Prop} (k : ts σ H fun vs H1 => rZip K vs H1 R) : iZip K ts σ H R := k
end
end L2
set_option linter.all false
set_option maxRecDepth 100000
namespace L2
open PySem PySem.Spec PyProof.Rows
section
variable {X : Cx} {K : PySem.W.Frag} {H : Hp} {Q : VK}
end
theorem eqv_str_iff {e : PyData} {z : Str} : PyData.eqv e (.str z) = true ↔ e = .str z := by
  cases e with
  | str y => simp only [PyData.eqv, PyData.str.injEq]; simp
  | _ => simp only [PyData.eqv]; simp
end L2
set_option linter.all false
set_option maxRecDepth 100000
namespace L2
open PySem PySem.Spec PyProof.Rows
theorem meets_extT (a : Addr) (its : Array Value) (n : Nat) (b : Addr) (more : Array Value) (m : Nat) (sl : Array (Option Value)) (h0 : ¬(!its.isEmpty && Builtin.List.listTooLong (its.size + more.size)) = true) (h1 : its.size ≤ sizeLine) (h2 : its.size + more.size ≤ sizeLine + 1) :
    Meets (Builtin.«list.extend» ⟨[.ref a, .ref b], []⟩) (fun _ R s => s.heap.get? a = some { cls := .type "list", data := .seq its n } ∧ s.heap.get? b = some { cls := .type "tuple", data := .seq more m, slots := sl } ∧ R (.ok (.ret Value.none)) { s with heap := s.heap.update a (Obj.mapSeq fun x => x ++ more) }) := by
  refine .of_wp fun prog w A R s h => ?_
  obtain ⟨hp, g, dd, tk, os⟩ := s
  obtain ⟨ha, hb, h⟩ := h
  have f2 := sub_tuple_tuple
  have f3 := sub_list_list
  have f4 := sub_tuple_list
  have f5 := sub_list_tuple
  have hz : (its ++ more).size ≤ sizeLine + 1 := by rw [Array.size_append]; exact h2
  wp_walk using (wpAny_updateSeq ha rfl (hz := h1) (_hz' := hz)), wpAny_loadPart' ha, wpAny_loadPart' hb
  exact ⟨_, rfl, h⟩
section
variable {X : Cx} {K : PySem.W.Frag}
noncomputable def rExtB (K : PySem.W.Frag) : V → List V → Hp → VK → Prop := fun x vs H Q => rExtend x vs H Q ∨ ∃ l b xs zs, x = .ref l ∧ vs = [.ref b] ∧ H l = some (.lst xs) ∧ SqT K H b zs ∧ xs.length + zs.length ≤ sizeLine ∧ Q .non (upd H l (.lst (xs ++ zs)))
theorem mt_extendB (hK : X.K = K := by with_unfolding_all rfl) : MtM X "list.extend" (rExtB K) := by
  subst hK
  intro pins s σ H x vs v us Q I rx rv h
  rcases h with h | h
  · exact mt_extend pins s σ H x vs v us Q I rx rv h
  obtain ⟨l, b, xs, zs, rfl, rfl, hH, hB, hz, q⟩ := h
  cases rx
  obtain ⟨u, rfl, ru⟩ := rv.one
  cases ru
  obtain ⟨z, its, n, r, hl, e⟩ := I.lstM hH
  obtain ⟨it2, r2, ⟨o, g1, g2, m, g3⟩, hl2⟩ := I.tuple hB
  obtain ⟨ob, g5, g4⟩ := I.tupleN hB
  rw [g1] at g5
  cases g5
  obtain ⟨cl, dc, da, sl⟩ := o
  cases g2
  cases g3
  cases g4
  have l1 := r.length
  have l2 := r2.length
  have hsz : its.toArray.size + it2.toArray.size ≤ sizeLine := by rw [List.size_toArray, List.size_toArray]; omega
  have hlong : ¬ (!its.toArray.isEmpty && Builtin.List.listTooLong (its.toArray.size + it2.toArray.size)) = true := by
    rw [notLongL hsz, Bool.and_false]
    exact Bool.false_ne_true
  refine call_meets F.slot_list_extend ⟨_, e, rfl⟩ F.entry_list_extend (F.args_list_extend_2 _ _) (meets_extT l its.toArray n b it2.toArray m sl hlong (by omega) (by omega)) ⟨e, g1, ?_⟩
  refine ⟨.non, _, I.lset (its' := its ++ it2) hH e (by simp) (r.append r2) ?_, rfl, q⟩
  rw [List.length_append]
  omega
theorem i_extT {l b : Addr} {xs zs : List V} {H : Hp} {Q : VK} (h : H l = some (.lst xs)) (hb : SqT K H b zs) (hz : xs.length + zs.length ≤ 1000000) (k : ∀ H', ExtBut l H H' → H' l = some (.lst (xs ++ zs)) → Q .non H') : rExtB K (.ref l) [.ref b] H Q :=
  .inr ⟨l, b, xs, zs, rfl, rfl, h, hb, line_of hz, k _ ExtBut.upd upd_same⟩
end
end L2
set_option linter.all false
set_option maxRecDepth 100000
namespace L2
open PySem PySem.Spec PyProof.Rows
section
variable {α : Type} [DecidableEq α]
end
end L2
set_option linter.all false
set_option maxRecDepth 100000
namespace L2
open PySem PySem.Spec PyProof.Rows
section
variable {α : Type} [DecidableEq α]
theorem sub_len {l m : List α} (hn : l.Nodup) (h : ∀ x ∈ l, x ∈ m) : l.length ≤ m.length := by
  induction l generalizing m with
  | nil => simp
  | cons a l ih =>
    obtain ⟨h1, h2⟩ := List.nodup_cons.mp hn
    have ha := h a (.head _)
    have := ih (m := m.erase a) h2 fun x hx => by
      have hne : x ≠ a := fun e => h1 (e ▸ hx)
      exact (List.mem_erase_of_ne hne).mpr (h x (.tail _ hx))
    rw [List.length_erase_of_mem ha] at this
    have hp : 0 < m.length := List.length_pos_of_mem ha
    rw [List.length_cons]
    omega
theorem bunch_le {b : α → α → Bool} : ∀ {rows : List (List α)} {W : List α}, W.Nodup → (∀ x ∈ W, x ∈ rows.flatten) → (∀ x ∈ W, ∀ y ∈ W, b x y = false) → (∀ r ∈ rows, r.Pairwise fun x y => b x y = true) → W.length ≤ rows.length
  | [], W, hn, hm, _, _ => by
    cases W with
    | nil => simp
    | cons x W => have := hm x (.head _); simp at this
  | r :: rs, W, hn, hm, ha, hc => by
    have h2 := len_filter_two (fun x => decide (x ∈ r)) W
    have h3 : (W.filter fun x => !decide (x ∈ r)).length ≤ rs.length := bunch_le (b := b) (List.Nodup.sublist List.filter_sublist hn) (fun x hx => by
      obtain ⟨h1, h2⟩ := List.mem_filter.mp hx
      have := hm x h1
      rw [List.flatten_cons] at this
      rcases List.mem_append.mp this with h | h
      · simp [h] at h2
      · exact h) (fun x hx y hy => ha x (List.mem_filter.mp hx).1 y (List.mem_filter.mp hy).1) fun q hq => hc q (.tail _ hq)
    have h1 : (W.filter fun x => decide (x ∈ r)).length ≤ 1 := by
      have hpr := hc r (.head _)
      have hnd : (W.filter fun x => decide (x ∈ r)).Nodup := List.Nodup.sublist List.filter_sublist hn
      match hW : W.filter (fun x => decide (x ∈ r)), hnd with
      | [], _ => simp
      | [x], _ => simp
      | x :: y :: t, hnd =>
        exfalso
        have hx : x ∈ W.filter fun x => decide (x ∈ r) := by rw [hW]; exact .head _
        have hy : y ∈ W.filter fun x => decide (x ∈ r) := by rw [hW]; exact .tail _ (.head _)
        have hxy : x ≠ y := fun e => by subst e; exact (List.nodup_cons.mp hnd).1 (.head _)
        obtain ⟨hx1, hx2⟩ := List.mem_filter.mp hx
        obtain ⟨hy1, hy2⟩ := List.mem_filter.mp hy
        rcases pw_or hpr (of_decide_eq_true hx2) (of_decide_eq_true hy2) hxy with h | h
        · rw [ha x hx1 y hy1] at h; cases h
        · rw [ha y hy1 x hx1] at h; cases h
    rw [List.length_cons]
    omega
where
  len_filter_two (p : α → Bool) : ∀ l : List α, (l.filter p).length + (l.filter fun x => !p x).length = l.length
    | [] => rfl
    | a :: l => by
      have := len_filter_two p l
      cases h : p a <;> simp [h] <;> omega
  pw_or {R : α → α → Prop} : ∀ {r : List α}, r.Pairwise R → ∀ {x y : α}, x ∈ r → y ∈ r → x ≠ y → R x y ∨ R y x
    | a :: r, h, x, y, hx, hy, ne => by
      obtain ⟨h1, h2⟩ := List.pairwise_cons.mp h
      rcases List.mem_cons.mp hx with e1 | hx
      · rcases List.mem_cons.mp hy with e2 | hy
        · exact absurd (e1.trans e2.symm) ne
        · rw [e1]
          exact .inl (h1 y hy)
      · rcases List.mem_cons.mp hy with e2 | hy
        · rw [e2]
          exact .inr (h1 x hx)
        · exact pw_or h2 hx hy ne
theorem or_len (Z T : α → Bool) : ∀ l : List α, (l.filter fun x => !Z x || T x).length ≤ (l.filter T).length + (l.filter fun x => !Z x).length
  | [] => by simp
  | a :: l => by
    have := or_len Z T l
    cases h1 : Z a <;> cases h2 : T a <;> simp [h1, h2] <;> omega
structure MtO (ns : List α) (b : α → α → Bool) (ld : List (α × α)) : Prop where
  keys : (ld.map (·.1)).Nodup
  mem : ∀ p ∈ ld, p.1 ∈ ns ∧ p.2 ∈ ns ∧ b p.2 p.1 = true
noncomputable def Shut (ns : List α) (b : α → α → Bool) (ld : List (α × α)) (T : α → Bool) : Prop := ∀ t, T t = true → ∃ x, (t, x) ∈ ld ∧ ∀ y ∈ ns, b x y = true → T y = true
theorem key_one {ld : List (α × α)} (h : (ld.map (·.1)).Nodup) : ∀ {k x y : α}, (k, x) ∈ ld → (k, y) ∈ ld → x = y := by
  induction ld with
  | nil => intro k x y h; cases h
  | cons p ld ih =>
    rw [List.map_cons] at h
    obtain ⟨h1, h2⟩ := List.nodup_cons.mp h
    intro k x y hx hy
    rcases List.mem_cons.mp hx with e1 | hx
    · rcases List.mem_cons.mp hy with e2 | hy
      · have := e1.trans e2.symm
        injection this
      · exact absurd (List.mem_map.mpr ⟨_, hy, by rw [← e1]⟩) h1
    · rcases List.mem_cons.mp hy with e2 | hy
      · exact absurd (List.mem_map.mpr ⟨_, hx, by rw [← e2]⟩) h1
      · exact ih h2 hx hy
theorem wide_of {ns : List α} {b : α → α → Bool} {ld : List (α × α)} {T : α → Bool} (hn : ns.Nodup) (hM : MtO ns b ld) (hT : Shut ns b ld T) (hF : ∀ x ∈ ns, (∀ p ∈ ld, p.2 ≠ x) → ∀ y ∈ ns, b x y = true → T y = true) :
    ∃ A : List α, A.Nodup ∧ (∀ x ∈ A, x ∈ ns) ∧ (∀ x ∈ A, ∀ y ∈ A, b x y = false) ∧ ns.length ≤ A.length + ld.length := by
  let Z : α → Bool := fun x => !(ld.any fun p => decide (p.2 = x)) || ld.any fun p => decide (p.2 = x) && T p.1
  have hZ : ∀ x ∈ ns, Z x = true → ∀ y ∈ ns, b x y = true → T y = true := fun x hx hz y hy hb => by
    rcases (Bool.or_eq_true _ _).mp hz with h | h
    · refine hF x hx (fun p hp e => ?_) y hy hb
      have : (ld.any fun p => decide (p.2 = x)) = true := List.any_eq_true.mpr ⟨p, hp, decide_eq_true e⟩
      rw [this] at h
      cases h
    · obtain ⟨p, hp, h⟩ := List.any_eq_true.mp h
      obtain ⟨h1, h2⟩ := (Bool.and_eq_true _ _).mp h
      have h1 := of_decide_eq_true h1
      obtain ⟨x', hx', hc⟩ := hT p.1 h2
      have : x' = p.2 := key_one hM.keys hx' (show (p.1, p.2) ∈ ld from hp)
      rw [this, h1] at hc
      exact hc y hy hb
  refine ⟨ns.filter fun x => Z x && !T x, List.Nodup.sublist List.filter_sublist hn, fun x hx => (List.mem_filter.mp hx).1, fun x hx y hy => ?_, ?_⟩
  · obtain ⟨hx1, hx2⟩ := List.mem_filter.mp hx
    obtain ⟨hy1, hy2⟩ := List.mem_filter.mp hy
    cases hb : b x y with
    | false => rfl
    | true =>
      have := hZ x hx1 ((Bool.and_eq_true _ _).mp hx2).1 y hy1 hb
      rw [this] at hy2
      simp at hy2
  · have h1 := bunch_le.len_filter_two (fun x => Z x && !T x) ns
    rw [show (fun x => !(Z x && !T x)) = fun x => !Z x || T x from funext fun x => by cases Z x <;> cases T x <;> rfl] at h1
    have h2 : (ns.filter fun x => !Z x || T x).length ≤ (ns.filter T).length + (ns.filter fun x => !Z x).length := or_len Z T ns
    have h3 : (ns.filter T).length ≤ ((ld.filter fun p => T p.1).map (·.1)).length := sub_len (List.Nodup.sublist List.filter_sublist hn) fun x hx => by
      obtain ⟨_, ht⟩ := List.mem_filter.mp hx
      obtain ⟨y, hy, _⟩ := hT x ht
      exact List.mem_map.mpr ⟨(x, y), List.mem_filter.mpr ⟨hy, ht⟩, rfl⟩
    have h4 : (ns.filter fun x => !Z x).length ≤ ((ld.filter fun p => !T p.1).map (·.2)).length := sub_len (List.Nodup.sublist List.filter_sublist hn) fun x hx => by
      obtain ⟨_, hz⟩ := List.mem_filter.mp hx
      have hz : Z x = false := by simpa using hz
      obtain ⟨ha, hb⟩ := (Bool.or_eq_false_iff).mp hz
      have ha : (ld.any fun p => decide (p.2 = x)) = true := by simpa using ha
      obtain ⟨p, hp, he⟩ := List.any_eq_true.mp ha
      have hnT : T p.1 = false := by
        cases ht : T p.1 with
        | false => rfl
        | true =>
          have : (ld.any fun p => decide (p.2 = x) && T p.1) = true := List.any_eq_true.mpr ⟨p, hp, by rw [ht, he]; rfl⟩
          rw [this] at hb
          cases hb
      exact List.mem_map.mpr ⟨p, List.mem_filter.mpr ⟨hp, by rw [hnT]; rfl⟩, of_decide_eq_true he⟩
    have h5 : (ld.filter fun p => T p.1).length + (ld.filter fun p => !T p.1).length = ld.length := bunch_le.len_filter_two (fun p => T p.1) ld
    rw [List.length_map] at h3 h4
    omega
end
end L2
set_option linter.all false
set_option maxRecDepth 100000
namespace L2
open PySem PySem.Spec PyProof.Rows
noncomputable def setP (ld : List (Str × Str)) (o x : Str) : List (Str × Str) := if (ld.any fun p => decide (p.1 = o)) = true then ld.map (fun p => if p.1 = o then (p.1, x) else p) else ld ++ [(o, x)]
theorem put_ds (ld : List (Str × Str)) (o x : Str) : putK (dsK ld) (Sum.inr o : Key) (.str x) = dsK (setP ld o x) := by
  unfold putK setP
  have e : ((dsK ld).any fun kv => decide (kv.1 = (Sum.inr o : Key))) = ld.any fun p => decide (p.1 = o) := by
    unfold dsK
    rw [List.any_map]
    congr 1
    funext p
    show decide ((Sum.inr p.1 : Key) = Sum.inr o) = decide (p.1 = o)
    rw [decide_eq_decide]
    exact ⟨fun h => by injection h, fun h => by rw [h]⟩
  rw [e]
  by_cases h : (ld.any fun p => decide (p.1 = o)) = true
  · rw [if_pos h, if_pos h]
    unfold dsK
    rw [List.map_map, List.map_map]
    refine List.map_congr_left fun p _ => ?_
    show (if (Sum.inr p.1 : Key) = Sum.inr o then ((Sum.inr p.1 : Key), V.str x) else (Sum.inr p.1, V.str p.2)) = ((Sum.inr (if p.1 = o then (p.1, x) else p).1 : Key), V.str (if p.1 = o then (p.1, x) else p).2)
    by_cases hp : p.1 = o
    · rw [if_pos hp, if_pos (by rw [hp])]
    · rw [if_neg hp, if_neg (fun z => hp (by injection z))]
  · rw [if_neg h, if_neg h]
    unfold dsK
    rw [List.map_append]
    rfl
theorem val_ds {ld : List (Str × Str)} (hk : (ld.map (·.1)).Nodup) {o x : Str} (h : (o, x) ∈ ld) : valV (dsK ld) (Sum.inr o : Key) = some (.str x) := by
  induction ld with
  | nil => cases h
  | cons p ld ih =>
    rw [List.map_cons] at hk
    obtain ⟨h1, h2⟩ := List.nodup_cons.mp hk
    show valV (((Sum.inr p.1 : Key), V.str p.2) :: dsK ld) _ = _
    rcases List.mem_cons.mp h with e | h
    · subst e
      exact valV_pos rfl
    · rw [valV_neg (fun z => h1 ?_)]
      · exact ih h2 h
      · have : p.1 = o := by injection z
        rw [this]
        exact List.mem_map.mpr ⟨_, h, rfl⟩
theorem val_dsN {ld : List (Str × Str)} {o : Str} (h : ∀ p ∈ ld, p.1 ≠ o) : valV (dsK ld) (Sum.inr o : Key) = none := by
  induction ld with
  | nil => rfl
  | cons p ld ih =>
    show valV (((Sum.inr p.1 : Key), V.str p.2) :: dsK ld) _ = _
    rw [valV_neg (fun z => h p (.head _) (by injection z))]
    exact ih fun q hq => h q (.tail _ hq)
theorem set_new {ld : List (Str × Str)} {o x : Str} (h : ∀ p ∈ ld, p.1 ≠ o) : setP ld o x = ld ++ [(o, x)] := by
  unfold setP
  rw [if_neg]
  intro g
  obtain ⟨p, hp, e⟩ := List.any_eq_true.mp g
  exact h p hp (of_decide_eq_true e)
theorem set_old {A B : List (Str × Str)} {o x y : Str} (hk : ((A ++ (o, y) :: B).map (·.1)).Nodup) : setP (A ++ (o, y) :: B) o x = A ++ (o, x) :: B := by
  unfold setP
  rw [if_pos (List.any_eq_true.mpr ⟨(o, y), by simp, by simp⟩)]
  rw [List.map_append, List.map_cons, List.nodup_append] at hk
  obtain ⟨_, h2, h3⟩ := hk
  have hA : ∀ p ∈ A, p.1 ≠ o := fun p hp e => h3 p.1 (List.mem_map.mpr ⟨p, hp, rfl⟩) o (by simp) e
  have hB : ∀ p ∈ B, p.1 ≠ o := fun p hp e => (List.nodup_cons.mp h2).1 (List.mem_map.mpr ⟨p, hp, e⟩)
  rw [List.map_append, List.map_cons]
  have same : ∀ {C : List (Str × Str)}, (∀ p ∈ C, p.1 ≠ o) → C.map (fun p => if p.1 = o then (p.1, x) else p) = C := fun {C} h => by
    conv => rhs; rw [← List.map_id C]
    exact List.map_congr_left fun p hp => if_neg (h p hp)
  rw [same hA, same hB]
  simp
structure Won (ns : List Str) (b : Str → Str → Bool) (ld ld' : List (Str × Str)) (one : Str) (ks : List Str) : Prop where
  len : ld'.length = ld.length + 1
  vals : (ld'.map (·.2)).Perm (one :: ld.map (·.2))
  tried : ∀ t ∈ ks, ∀ x, (t, x) ∈ ld' ↔ (t, x) ∈ ld
  shut : ∀ T, Shut ns b ld T → (∀ t, T t = true → ∀ x, (t, x) ∈ ld' ↔ (t, x) ∈ ld) ∧ ¬ ∀ y ∈ ns, b one y = true → T y = true
  keys : ∀ p ∈ ld, ∃ x, (p.1, x) ∈ ld'
structure Lost (ns : List Str) (b : Str → Str → Bool) (ld : List (Str × Str)) (one : Str) (ks ks' : List Str) : Prop where
  all : ∀ y ∈ ns, b one y = true → y ∈ ks'
  new : ∀ t ∈ ks', t ∉ ks → ∃ x, (t, x) ∈ ld ∧ ∀ y ∈ ns, b x y = true → y ∈ ks'
theorem won_free {ns : List Str} {b : Str → Str → Bool} {ld : List (Str × Str)} {one o : Str} {ks : List Str} (hM : MtO ns b ld) (h1 : one ∈ ns) (ho : o ∈ ns) (hb : b one o = true) (hf : ∀ p ∈ ld, p.1 ≠ o) (hk : o ∉ ks) : MtO ns b (setP ld o one) ∧ Won ns b ld (setP ld o one) one ks := by
  rw [set_new hf]
  have hmem : ∀ {t x : Str}, t ≠ o → ((t, x) ∈ ld ++ [(o, one)] ↔ (t, x) ∈ ld) := fun {t x} ht => by
    rw [List.mem_append, List.mem_singleton]
    exact ⟨fun h => h.resolve_right fun e => ht (by injection e), .inl⟩
  refine ⟨⟨?_, fun p hp => ?_⟩, ⟨by simp, ?_, fun t ht x => hmem fun e => hk (e ▸ ht), fun T hT => ⟨fun t ht x => hmem fun e => ?_, fun hall => ?_⟩, fun p hp => ⟨p.2, List.mem_append_left _ hp⟩⟩⟩
  · rw [List.map_append, List.nodup_append]
    refine ⟨hM.keys, by simp, fun a ha c hc e => ?_⟩
    obtain ⟨p, hp, rfl⟩ := List.mem_map.mp ha
    have : c = o := by simpa using hc
    exact hf p hp (e.trans this)
  · rcases List.mem_append.mp hp with hp | hp
    · exact hM.mem p hp
    · rw [List.mem_singleton.mp hp]
      exact ⟨ho, h1, hb⟩
  · rw [List.map_append]
    exact List.perm_append_comm
  · subst e
    obtain ⟨x, hx, _⟩ := hT t ht
    exact hf _ hx rfl
  · obtain ⟨x, hx, _⟩ := hT o (hall o ho hb)
    exact hf _ hx rfl
theorem won_on {ns : List Str} {b : Str → Str → Bool} {ld ld1 : List (Str × Str)} {one o y : Str} {ks ks1 : List Str} (hM : MtO ns b ld) (hM1 : MtO ns b ld1) (h1 : one ∈ ns) (ho : o ∈ ns) (hb : b one o = true) (hy : (o, y) ∈ ld) (hW : Won ns b ld ld1 y ks1) (hks : ∀ t ∈ ks, t ∈ ks1) (ho1 : o ∈ ks1) (hk : o ∉ ks) :
    MtO ns b (setP ld1 o one) ∧ Won ns b ld (setP ld1 o one) one ks := by
  have hy1 : (o, y) ∈ ld1 := (hW.tried o ho1 y).mpr hy
  obtain ⟨A, B, rfl⟩ := List.append_of_mem hy1
  rw [set_old hM1.keys]
  have hmem : ∀ {t x : Str}, t ≠ o → ((t, x) ∈ A ++ (o, one) :: B ↔ (t, x) ∈ A ++ (o, y) :: B) := fun {t x} ht => by
    rw [List.mem_append, List.mem_append, List.mem_cons, List.mem_cons]
    have e1 : ¬ (t, x) = (o, one) := fun e => ht (by injection e)
    have e2 : ¬ (t, x) = (o, y) := fun e => ht (by injection e)
    simp only [e1, e2, false_or]
  have hnot : ∀ T, Shut ns b ld T → T o ≠ true := fun T hT ht => by
    obtain ⟨x, hx, hc⟩ := hT o ht
    have : x = y := key_one hM.keys hx hy
    subst this
    exact (hW.shut T hT).2 hc
  refine ⟨⟨?_, fun p hp => ?_⟩, ⟨?_, ?_, fun t ht x => (hmem fun e => hk (e ▸ ht)).trans (hW.tried t (hks t ht) x), fun T hT => ⟨fun t ht x => (hmem fun e => hnot T hT (e ▸ ht)).trans ((hW.shut T hT).1 t ht x), fun hall => hnot T hT (hall o ho hb)⟩, fun p hp => ?_⟩⟩
  · have := hM1.keys
    rw [List.map_append, List.map_cons] at this ⊢
    exact this
  · rcases List.mem_append.mp hp with hp | hp
    · exact hM1.mem p (List.mem_append_left _ hp)
    · rcases List.mem_cons.mp hp with rfl | hp
      · exact ⟨ho, h1, hb⟩
      · exact hM1.mem p (List.mem_append_right _ (.tail _ hp))
  · have := hW.len
    simp only [List.length_append, List.length_cons] at this ⊢
    exact this
  · have := hW.vals
    rw [List.map_append, List.map_cons] at this ⊢
    have h2 : (y :: (A.map (·.2) ++ B.map (·.2))).Perm (y :: ld.map (·.2)) := List.perm_middle.symm.trans this
    exact List.perm_middle.trans (.cons one (List.Perm.cons_inv h2))
  · obtain ⟨x, hx⟩ := hW.keys p hp
    by_cases e : p.1 = o
    · exact ⟨one, by rw [e]; simp⟩
    · exact ⟨x, (hmem e).mpr hx⟩
structure KeepF (as : List Addr) (L Tr : Addr) (H H' : Hp) : Prop where
  old : ∀ b o, b ∉ as → b ≠ L → b ≠ Tr → H b = some o → H' b = some o
  rows : ∀ a ∈ as, ∀ u, Rd H a u → Rd H' a u
  frz : ∀ b o u, b ≠ L → b ≠ Tr → H b = some (.frz o u) → H' b = some (.frz o u)
theorem KeepF.refl (as : List Addr) (L Tr : Addr) (H : Hp) : KeepF as L Tr H H := ⟨fun _ _ _ _ _ h => h, fun _ _ _ h => h, fun _ _ _ _ _ h => h⟩
theorem KeepF.trans {as : List Addr} {L Tr : Addr} {H H1 H2 : Hp} (a : KeepF as L Tr H H1) (b : KeepF as L Tr H1 H2) : KeepF as L Tr H H2 := ⟨fun c o n n1 n2 h => b.old c o n n1 n2 (a.old c o n n1 n2 h), fun c hc u h => b.rows c hc u (a.rows c hc u h), fun c o u n1 n2 h => b.frz c o u n1 n2 (a.frz c o u n1 n2 h)⟩
theorem ExtBut.keepF {as : List Addr} {L Tr p : Addr} {H H' : Hp} (e : ExtBut p H H') (hp : p = L ∨ p = Tr) (hL : L ∉ as) (hT : Tr ∉ as) : KeepF as L Tr H H' := by
  have hpa : ∀ a ∈ as, a ≠ p := fun a ha z => by
    subst z
    rcases hp with rfl | rfl
    · exact hL ha
    · exact hT ha
  have hne : ∀ {b}, b ≠ L → b ≠ Tr → b ≠ p := fun {b} n1 n2 z => by
    rcases hp with rfl | rfl
    · exact n1 z
    · exact n2 z
  refine ⟨fun b o _ n1 n2 h => e b o (hne n1 n2) h, fun a ha u h => ?_, fun b o u n1 n2 h => e b _ (hne n1 n2) h⟩
  rcases h with h | ⟨o, h⟩
  · exact .inl (e _ _ (hpa a ha) h)
  · exact .inr ⟨o, e _ _ (hpa a ha) h⟩
theorem KeepF.rd {as : List Addr} {L Tr : Addr} {H H' : Hp} (k : KeepF as L Tr H H') {a : Addr} {u : HO} (n1 : a ≠ L) (n2 : a ≠ Tr) (h : Rd H a u) : Rd H' a u := by
  by_cases ha : a ∈ as
  · exact k.rows a ha u h
  · rcases h with h | ⟨o, h⟩
    · exact .inl (k.old _ _ ha n1 n2 h)
    · exact .inr ⟨o, k.old _ _ ha n1 n2 h⟩
theorem TabR.keepF {L Tr : Addr} {H H' : Hp} {r : Addr} {ns : List Str} {as : List Addr} {R : Str → Str → Prop} (h : TabR H r ns as R) (k : KeepF as L Tr H H') (n1 : r ≠ L) (n2 : r ≠ Tr) : TabR H' r ns as R :=
  ⟨h.len, k.rd n1 n2 h.top, fun i z a hz ha => let ⟨ks, h1, h2⟩ := h.row i z a hz ha; ⟨ks, k.rows a (List.mem_of_getElem? ha) _ h1, h2⟩⟩
theorem i_itRowF {K : PySem.W.Frag} {H : Hp} {as : List Addr} {L Tr a : Addr} {kvs : List (Key × V)} {R : It → Hp → Prop} (h : Rd H a (.dK kvs)) (ha : a ∈ as) (k : ∀ o H', KeepF as L Tr H H' → (∀ b, b ≠ a → H' b = H b) → H' a = some (.frz o (.dK kvs)) → R (Itd a o kvs) H') : rAnyIt K (.ref a) H R := by
  rcases h with h | ⟨o, h⟩
  · refine i_itD h fun o => k o _ ?_ (fun b hb => upd_ne hb) upd_same
    have kp := Keep.freeze (as := as) (o := o) ha h (fun _ _ z => by cases z)
    refine ⟨fun b q hb _ _ e => kp.1 b q hb e, kp.2, fun b o' u _ _ e => ?_⟩
    have hne : b ≠ a := fun z => by rw [z, h] at e; cases e
    rw [upd_ne hne]
    exact e
  · exact i_itF h (k o H (KeepF.refl _ _ _ _) (fun _ _ => rfl) h)
end L2
set_option linter.all false
set_option maxRecDepth 100000
namespace L2
open PySem PySem.Spec PyProof.Rows
section
variable {α : Type} [DecidableEq α]
inductive Chf (fo : List (α × α)) : α → List α → Prop
  | stop {x : α} : (∀ p ∈ fo, p.1 ≠ x) → Chf fo x [x]
  | go {x y : α} {r : List α} : (x, y) ∈ fo → Chf fo y r → Chf fo x (x :: r)
theorem Chf.head {fo : List (α × α)} {x : α} {r : List α} (h : Chf fo x r) : ∃ t, r = x :: t := by
  cases h with
  | stop _ => exact ⟨[], rfl⟩
  | go _ _ => exact ⟨_, rfl⟩
theorem Chf.next {fo : List (α × α)} (hk : (fo.map (·.1)).Nodup) {a : α} {r : List α} (h : Chf fo a r) : ∀ {p x : α}, p ∈ r → (p, x) ∈ fo → x ∈ r := by
  induction h with
  | stop hs =>
    intro p x hp hx
    rw [List.mem_singleton.mp hp] at hx
    exact absurd rfl (hs _ hx)
  | @go a y r hay hr ih =>
    intro p x hp hx
    rcases List.mem_cons.mp hp with rfl | hp
    · rw [key_one hk hx hay]
      obtain ⟨t, rfl⟩ := hr.head
      exact .tail _ (.head _)
    · exact .tail _ (ih hp hx)
theorem Chf.pred {fo : List (α × α)} {a : α} {r : List α} (h : Chf fo a r) : ∀ {x : α}, x ∈ r → x = a ∨ ∃ p ∈ r, (p, x) ∈ fo := by
  induction h with
  | stop _ => intro x hx; exact .inl (List.mem_singleton.mp hx)
  | @go a y r hay hr ih =>
    intro x hx
    rcases List.mem_cons.mp hx with rfl | hx
    · exact .inl rfl
    · rcases ih hx with rfl | ⟨p, hp, h⟩
      · exact .inr ⟨a, .head _, hay⟩
      · exact .inr ⟨p, .tail _ hp, h⟩
theorem Chf.mem {fo : List (α × α)} {P : α → Prop} (hf : ∀ p ∈ fo, P p.2) {a : α} {r : List α} (h : Chf fo a r) (ha : P a) : ∀ x ∈ r, P x := by
  induction h with
  | stop _ => intro x hx; rw [List.mem_singleton.mp hx]; exact ha
  | @go a y r hay hr ih =>
    intro x hx
    rcases List.mem_cons.mp hx with rfl | hx
    · exact ha
    · exact ih (hf _ hay) x hx
theorem Chf.pw {fo : List (α × α)} {b : α → α → Bool} (tr : ∀ x y z, b x y = true → b y z = true → b x z = true) (hf : ∀ p ∈ fo, b p.1 p.2 = true) {a : α} {r : List α} (h : Chf fo a r) : r.Pairwise fun x y => b x y = true := by
  induction h with
  | stop _ => exact List.pairwise_singleton _ _
  | @go a y r hay hr ih =>
    obtain ⟨t, rfl⟩ := hr.head
    refine List.pairwise_cons.mpr ⟨fun z hz => ?_, ih⟩
    rcases List.mem_cons.mp hz with rfl | hz
    · exact hf _ hay
    · exact tr _ _ _ (hf _ hay) ((List.pairwise_cons.mp ih).1 z hz)
theorem Chf.det {fo : List (α × α)} (hk : (fo.map (·.1)).Nodup) {a : α} {r r' : List α} (h : Chf fo a r) (h' : Chf fo a r') : r = r' := by
  induction h generalizing r' with
  | stop hs =>
    cases h' with
    | stop _ => rfl
    | go h1 _ => exact absurd rfl (hs _ h1)
  | @go a y r hay hr ih =>
    cases h' with
    | stop hs => exact absurd rfl (hs _ hay)
    | go h1 h2 =>
      have := key_one hk hay h1
      subst this
      rw [ih h2]
noncomputable def rankB (b : α → α → Bool) (ns : List α) (x : α) : Nat := (ns.filter fun y => b y x).length
theorem rank_lt {b : α → α → Bool} {ns : List α} (hn : ns.Nodup) (irr : ∀ x, b x x = false) (tr : ∀ x y z, b x y = true → b y z = true → b x z = true) {p x : α} (hp : p ∈ ns) (h : b p x = true) : rankB b ns p < rankB b ns x := by
  unfold rankB
  have : (p :: ns.filter fun y => b y p).length ≤ (ns.filter fun y => b y x).length := sub_len (List.nodup_cons.mpr ⟨fun hm => (by
    have := (List.mem_filter.mp hm).2
    rw [irr] at this
    cases this), List.Nodup.sublist List.filter_sublist hn⟩) fun y hy => by
    rcases List.mem_cons.mp hy with rfl | hy
    · exact List.mem_filter.mpr ⟨hp, h⟩
    · obtain ⟨h1, h2⟩ := List.mem_filter.mp hy
      exact List.mem_filter.mpr ⟨h1, tr _ _ _ h2 h⟩
  rw [List.length_cons] at this
  omega
theorem cover_of {ns : List α} {b : α → α → Bool} {ld fo : List (α × α)} {g : α → List α} (hn : ns.Nodup) (irr : ∀ x, b x x = false) (tr : ∀ x y z, b x y = true → b y z = true → b x z = true) (hM : MtO ns b ld) (hf : ∀ x y, (x, y) ∈ fo ↔ (y, x) ∈ ld) (hk : (fo.map (·.1)).Nodup)
    (hr : ∀ a ∈ ns.filter (fun z => !(ld.any fun p => decide (p.1 = z))), Chf fo a (g a)) : ((ns.filter fun z => !(ld.any fun p => decide (p.1 = z))).map g).flatten.Perm ns := by
  have hroot : ∀ {z : α}, z ∈ (ns.filter fun z => !(ld.any fun p => decide (p.1 = z))) ↔ z ∈ ns ∧ ∀ p ∈ ld, p.1 ≠ z := fun {z} => by
    rw [List.mem_filter]
    constructor
    · rintro ⟨h1, h2⟩
      refine ⟨h1, fun p hp e => ?_⟩
      have : (ld.any fun p => decide (p.1 = z)) = true := List.any_eq_true.mpr ⟨p, hp, decide_eq_true e⟩
      rw [this] at h2
      cases h2
    · rintro ⟨h1, h2⟩
      refine ⟨h1, ?_⟩
      have : (ld.any fun p => decide (p.1 = z)) = false := by
        rw [List.any_eq_false]
        intro p hp
        simp [h2 p hp]
      rw [this]
      rfl
  have hfo : ∀ p ∈ fo, p.1 ∈ ns ∧ p.2 ∈ ns ∧ b p.1 p.2 = true := fun p hp => by
    have := hM.mem _ ((hf p.1 p.2).mp hp)
    exact ⟨this.2.1, this.1, this.2.2⟩
  have roots : (ns.filter fun z => !(ld.any fun p => decide (p.1 = z))).Nodup := List.Nodup.sublist List.filter_sublist hn
  generalize (ns.filter fun z => !(ld.any fun p => decide (p.1 = z))) = rs at hr hroot roots
  have back : ∀ r ∈ rs.map g, ∃ a ∈ rs, Chf fo a r := fun r h => by
    obtain ⟨a, ha, rfl⟩ := List.mem_map.mp h
    exact ⟨a, ha, hr a ha⟩
  have meet : ∀ (n : Nat) {x a a' : α} {r r' : List α}, rankB b ns x = n → a ∈ rs → a' ∈ rs → Chf fo a r → Chf fo a' r' → x ∈ r → x ∈ r' → a = a' := by
    intro n
    induction n using Nat.strongRecOn with
    | _ n ih =>
      intro x a a' r r' hx ha ha' hc hc' h1 h2
      rcases hc.pred h1 with rfl | ⟨p, hp, hpx⟩
      · rcases hc'.pred h2 with rfl | ⟨p', _, hpx'⟩
        · rfl
        · exact absurd rfl ((hroot.mp ha).2 _ ((hf p' x).mp hpx'))
      · rcases hc'.pred h2 with rfl | ⟨p', hp', hpx'⟩
        · exact absurd rfl ((hroot.mp ha').2 _ ((hf p x).mp hpx))
        · have : p = p' := key_one hM.keys ((hf p x).mp hpx) ((hf p' x).mp hpx')
          subst this
          have := hfo _ hpx
          exact ih _ (by rw [← hx]; exact rank_lt hn irr tr this.1 this.2.2) rfl ha ha' hc hc' hp hp'
  have all : ∀ (n : Nat) {x : α}, rankB b ns x = n → x ∈ ns → x ∈ (rs.map g).flatten := by
    intro n
    induction n using Nat.strongRecOn with
    | _ n ih =>
      intro x hx hxn
      by_cases hroot' : ∀ p ∈ ld, p.1 ≠ x
      · have hxr := hroot.mpr ⟨hxn, hroot'⟩
        obtain ⟨t, ht⟩ := (hr x hxr).head
        exact List.mem_flatten.mpr ⟨g x, List.mem_map.mpr ⟨x, hxr, rfl⟩, by rw [ht]; exact .head _⟩
      · obtain ⟨p, hp⟩ : ∃ p, (x, p) ∈ ld := by
          apply Classical.byContradiction
          intro hno
          exact hroot' fun q hq e => hno ⟨q.2, by rw [← e]; exact hq⟩
        have hm := hM.mem _ hp
        obtain ⟨r, h1, h2⟩ := List.mem_flatten.mp (ih _ (by rw [← hx]; exact rank_lt hn irr tr hm.2.1 hm.2.2) rfl hm.2.1)
        obtain ⟨a, _, h3⟩ := back r h1
        exact List.mem_flatten.mpr ⟨r, h1, h3.next hk h2 ((hf p x).mpr hp)⟩
  have nd : ∀ rs' : List α, rs'.Nodup → (∀ a ∈ rs', a ∈ rs) → (rs'.map g).flatten.Nodup := fun rs' => by
    induction rs' with
    | nil => intro _ _; exact .nil
    | cons a rs' ih =>
      intro hnd hsub
      obtain ⟨n1, n2⟩ := List.nodup_cons.mp hnd
      rw [List.map_cons, List.flatten_cons, List.nodup_append]
      have h1 := hr a (hsub a (.head _))
      refine ⟨(h1.pw tr fun p hp => (hfo p hp).2.2).imp fun {x y} hxy e => ?_, ih n2 fun c hc => hsub c (.tail _ hc), fun x hx y hy e => ?_⟩
      · subst e
        rw [irr] at hxy
        cases hxy
      · subst e
        obtain ⟨r', h3, h4⟩ := List.mem_flatten.mp hy
        obtain ⟨a', h5, rfl⟩ := List.mem_map.mp h3
        have := meet _ rfl (hsub a (.head _)) (hsub a' (.tail _ h5)) h1 (hr a' (hsub a' (.tail _ h5))) hx h4
        exact n1 (this ▸ h5)
  refine (List.perm_ext_iff_of_nodup (nd rs roots fun _ h => h) hn).mpr fun x => ⟨fun hx => ?_, all _ rfl⟩
  obtain ⟨r, h1, h2⟩ := List.mem_flatten.mp hx
  obtain ⟨a, h3, h4⟩ := back r h1
  exact h4.mem (P := fun z => z ∈ ns) (fun p hp => (hfo p hp).2.1) (hroot.mp h3).1 x h2
end
end L2
namespace L2
theorem chf_ex {α : Type} [DecidableEq α] {ns : List α} {b : α → α → Bool} {fo : List (α × α)} (hn : ns.Nodup) (irr : ∀ x, b x x = false) (tr : ∀ x y z, b x y = true → b y z = true → b x z = true) (hf : ∀ p ∈ fo, p.2 ∈ ns ∧ b p.1 p.2 = true) : ∀ (n : Nat) {x : α}, rankB (fun a c => b c a) ns x = n → x ∈ ns → ∃ r, Chf fo x r := by
  intro n
  induction n using Nat.strongRecOn with
  | _ n ih =>
    intro x hx hxn
    by_cases hs : ∀ p ∈ fo, p.1 ≠ x
    · exact ⟨[x], .stop hs⟩
    · obtain ⟨y, hy⟩ : ∃ y, (x, y) ∈ fo := by
        apply Classical.byContradiction
        intro hno
        exact hs fun q hq e => hno ⟨q.2, by rw [← e]; exact hq⟩
      have h1 := hf _ hy
      obtain ⟨r, hr⟩ := ih _ (by rw [← hx]; exact rank_lt (b := fun a c => b c a) hn irr (fun a c e h g => tr _ _ _ g h) h1.1 h1.2) rfl h1.1
      exact ⟨x :: r, .go hy hr⟩
end L2
set_option linter.all false
set_option maxRecDepth 100000
namespace L2
open PySem PySem.Spec PyProof.Rows
section
variable {X : Cx} {pins : List (Addr × Obj)} {σ : List (Option V)} {H : Hp} {s : Shared} {h' : Heap}
theorem Inv.nsed {t' : Nat} (I : Inv X pins σ H s) (k : ∀ b u, b ≠ X.env.locals → s.heap.get? b = some u → h'.get? b = some u) {m : Str → Option Value} (hlk : ∀ (i : Nat) (x : Str) (v : V), X.N[i]? = some x → σ[i]? = some (some v) → Vis X.env.scope x → ∃ u, RelV v u ∧ Look X.env s.heap m x u) (hns : h'.Ns X.env.locals m) : Inv X pins σ H { s with heap := h', toks := t' } := by
  have low : ∀ b o, X.s₀.heap.get? b = some o → b ≠ X.env.locals := fun b o q e => by
    have h1 := Heap.lt_size q
    have h2 := I.ok.above
    rw [e] at h1
    exact absurd (Nat.lt_of_lt_of_le h1 h2) (Nat.lt_irrefl _)
  refine ⟨I.ok, I.os, I.bare, ⟨fun b o q n hf hx => k b o (low b o q) (I.base.keep b o q n hf hx), fun b o q n hf hx => ?_, I.base.free, fun b o q hx => ?_, I.base.tups, I.base.frzs, I.base.tbls⟩, ?_, fun x c e => ?_, I.free, I.freeC, fun p hp => ?_, fun a o e => ?_, I.len⟩
  · obtain ⟨sl, e⟩ := I.base.slot b o q n hf hx
    exact ⟨sl, k b _ (low b o q) e⟩
  · obtain ⟨o', e⟩ := I.base.there b o q hx
    exact ⟨o', k b _ (low b o q) e⟩
  · refine ⟨m, hns, fun i x v a b c => ?_⟩
    obtain ⟨u, r, l⟩ := hlk i x v a b c
    refine ⟨u, r, ?_⟩
    rcases l with l | ⟨l1, c, l2, l3⟩
    · exact .inl l
    · obtain ⟨o, e1, e2⟩ := l3
      exact .inr ⟨l1, c, l2, o, k c o (I.cne x c l2) e1, e2⟩
  · obtain ⟨v, o, e1, e2⟩ := I.cell x c e
    exact ⟨v, o, k c o (I.cne x c e) e1, e2⟩
  · obtain ⟨h1, h2, h3, h4, h5⟩ := I.pin p hp
    exact ⟨k _ _ h3 h1, h2, h3, h4, h5⟩
  · refine (I.hok a o e).stay (fun b u hb q => k b u (fun z => ?_) q) (fun _ q => q) fun _ _ q => q
    have := I.free
    rcases hb with rfl | hb
    · rw [z] at e
      rw [e] at this
      cases this
    · rw [z, this] at hb
      cases hb
theorem allNews_keep {g h : Heap} {L : Addr} (hb : ∀ b o, g.get? b = some o → h.get? b = some o) (hb' : ∀ b o, g.get? b = some o → h'.get? b = some o) {more : List (Addr × Obj)} (N : News g L h' (allNews g h L ++ more)) : ∀ b u, b ≠ L → h.get? b = some u → h'.get? b = some u := fun b u n e => by
  cases hc : g.get? b with
  | some o =>
    have := hb b o hc
    rw [e] at this
    cases this
    exact hb' b u hc
  | none => exact (N (b, u) (List.mem_append_left _ (mem_allNews n hc e))).1
noncomputable def rMaxL (K : PySem.W.Frag) : List V → Hp → VK → Prop := fun vs H Q => ∃ l a b xs ys, vs = [.ref l] ∧ SqL K H l [.ref a, .ref b] ∧ SqT K H a xs ∧ SqT K H b ys ∧ Q (.ref (if xs.length < ys.length then b else a)) H
theorem max_two {Q : VK} {u : List Value} (hc : X.calm = true) (I : Inv X pins σ H s) {vs : List V} (r : Vals vs u) (h : rMaxL X.K vs H Q) : wpAny (model X.prog X.w) X.A (call (.builtin "max") u [(Str.ofString "key", .builtin "len")]) (EP X pins σ Q) X.xe s := by
  obtain ⟨l, a, b, xs, ys, rfl, hl, ha, hb, q⟩ := h
  obtain ⟨v, rfl, rv⟩ := vals1 r
  cases rv
  obtain ⟨its, r1, pl, _⟩ := I.list hl
  obtain ⟨w1, w2, rfl, rw1, rw2⟩ := Vals.two r1
  cases rw1
  cases rw2
  obtain ⟨ia, ra, pa, za⟩ := I.tuple ha
  obtain ⟨ib, rb, pb, zb⟩ := I.tuple hb
  have la := ra.length
  have lb := rb.length
  have h63 := line63
  obtain ⟨m, hn, hlk⟩ := I.loc
  have F : Fr X.base X.env.locals s.heap m := ⟨hn, I.bk, Nat.le_trans I.ok.bsz I.ok.above⟩
  have keep : ∀ {h : Heap} {more : List (Addr × Obj)}, Fr X.base X.env.locals h m → News X.base X.env.locals h (allNews X.base s.heap X.env.locals ++ more) → ∀ b u, b ≠ X.env.locals → s.heap.get? b = some u → h.get? b = some u := fun F' N' => allNews_keep I.bk F'.keep N'
  have notT : ∀ {c : Addr} {zs : Array Value}, IsTup s.heap c zs → c ≠ X.env.locals := fun {c zs} p z => by
    obtain ⟨o, e1, e2, n, e3⟩ := p
    obtain ⟨oL, es, ep, e4, e5⟩ := hn
    rw [z, e4] at e1
    cases e1
    have := e5.1
    rw [e3] at this
    cases this
  have notL : l ≠ X.env.locals := fun z => by
    obtain ⟨o, e1, e2, n, e3⟩ := pl.isList
    obtain ⟨oL, es, ep, e4, e5⟩ := hn
    rw [z, e4] at e1
    cases e1
    have := e5.1
    rw [e3] at this
    cases this
  have fin : ∀ {h : Heap} {t' : Nat}, Fr X.base X.env.locals h m → News X.base X.env.locals h (allNews X.base s.heap X.env.locals) → Inv X pins σ H { s with heap := h, toks := t' } := fun {h t'} F' N' => I.nsed (keep (more := []) F' (by rw [List.append_nil]; exact N')) hlk F'.ns
  have tupK : ∀ {h : Heap} {more : List (Addr × Obj)} {c : Addr} {zs : Array Value}, Fr X.base X.env.locals h m → News X.base X.env.locals h (allNews X.base s.heap X.env.locals ++ more) → IsTup s.heap c zs → IsTup h c zs := fun F' N' p => by
    have hne := notT p
    obtain ⟨o, e1, e2⟩ := p
    exact ⟨o, keep F' N' _ _ hne e1, e2⟩
  refine kmb_max_two (kid := "len") (v₁ := .ref a) (v₂ := .ref b) (xs.length : Int) (ys.length : Int) (I.ok.hd hc) F news_all (fun h F' N' => ?_) (fun h tk own F' N' => ?_) (fun h tk own F' N' => ?_) (fun hk h tk F' N' => ?_) (fun hk h tk F' N' => ?_)
  · obtain ⟨o, e1, e2⟩ := pl.isList
    exact ⟨o, keep (more := []) F' (by rw [List.append_nil]; exact N') _ _ notL e1, e2⟩
  · refine len_tuple (tupK F' N' pa) (by simp only [List.size_toArray] <;> omega) ?_
    rw [List.size_toArray, ← la]
    exact KskEnd.intro F' N' fun p hp => hp
  · refine len_tuple (tupK F' N' pb) (by simp only [List.size_toArray] <;> omega) ?_
    rw [List.size_toArray, ← lb]
    exact KskEnd.intro F' N' fun p hp => hp
  · rw [if_neg (by omega)] at q
    exact ⟨.ref a, H, fin F' N', rfl, q⟩
  · rw [if_pos (by omega)] at q
    exact ⟨.ref b, H, fin F' N', rfl, q⟩
variable {K : PySem.W.Frag}
theorem pe_maxlen {ea : Expr} {t : TE} {p p2 p3 pos : Pos} (hc : X.calm = true) (hg : Gl X "max") (hm : X.mg "max" = none) (hg2 : Gl X "len") (hm2 : X.mg "len" = none) (ha : PA X [ea] (tCons t tNil)) (hK : X.K = K := by with_unfolding_all rfl)
    (he : backTo pos (starEach [ea] X.env) = (false, eval ea X.env) :: backTo pos (starEach [] X.env) := by with_unfolding_all rfl) (hpl : (backTo pos (starEach [ea] X.env)).any (·.1) = false := by with_unfolding_all rfl) :
    PE X (.Call (.Name "max" p) [ea] [⟨some "key", .Name "len" p2, p3⟩] pos) (tCB (rMaxL K) (tCons t tNil)) := by
  subst hK
  intro pins s σ H Q I h
  refine wpAny_Call_Name_kw (ld_blt I hg hm PyProof.Rows.Boot.«max» ?_)
  refine callWith_kw (thn (ha pos pins s σ H _ I h) fun us s1 ⟨vs, H1, I1, r1, q1⟩ => ?_) he hpl rfl rfl
  refine kws_cons (ld_blt I1 hg2 hm2 PyProof.Rows.Boot.«len» (kws_nil ?_))
  exact max_two hc I1 r1 q1
theorem i_maxL {l a b : Addr} {xs ys : List V} {H : Hp} {Q : VK} (hl : SqL K H l [.ref a, .ref b]) (ha : SqT K H a xs) (hb : SqT K H b ys) (k : Q (.ref (if xs.length < ys.length then b else a)) H) : rMaxL K [.ref l] H Q := ⟨l, a, b, xs, ys, rfl, hl, ha, hb, k⟩
end
end L2
set_option Elab.async false
set_option linter.all false
set_option maxRecDepth 100000
set_option maxHeartbeats 4000000
namespace K13
open PySem L2 PySem.Spec PyProof.Rows
noncomputable def top (i : Nat) : Stmt := PySem.Challenge.pw_halforder_k13_whole_cover_and_bunch.main.body.getD i (.Pass ⟨0, 0, 0, 0⟩)
noncomputable abbrev s_behind_each : Stmt := top 1
theorem sc_behind_each : FnScope ["half", "names", "reach", "saying", "middle", "name"] ["half"] (defScope s_behind_each) := ⟨rfl, rfl, rfl, by decide +kernel, rfl, by decide +kernel, by decide +kernel⟩
noncomputable abbrev s_are_untold : Stmt := top 2
theorem sc_are_untold : FnScope ["reach", "one", "other"] ["reach", "one", "other"] (defScope s_are_untold) := ⟨rfl, rfl, rfl, by decide +kernel, rfl, by decide +kernel, by decide +kernel⟩
noncomputable abbrev s_widest_of : Stmt := top 4
theorem sc_widest_of : FnScope ["reach", "names", "rest", "untold_rest", "found"] ["reach", "names"] (defScope s_widest_of) := ⟨rfl, rfl, rfl, by decide +kernel, rfl, by decide +kernel, by decide +kernel⟩
noncomputable abbrev s_widest : Stmt := top 5
theorem sc_widest : FnScope ["half"] ["half"] (defScope s_widest) := ⟨rfl, rfl, rfl, by decide +kernel, rfl, by decide +kernel, by decide +kernel⟩
noncomputable abbrev s_finds_follower : Stmt := top 6
theorem sc_finds_follower : FnScope ["reach", "one", "leaders", "tried", "other"] ["reach", "one", "leaders", "tried"] (defScope s_finds_follower) := ⟨rfl, rfl, rfl, by decide +kernel, rfl, by decide +kernel, by decide +kernel⟩
noncomputable abbrev s_chain_from : Stmt := top 7
theorem sc_chain_from : FnScope ["followers", "name", "chain"] ["followers", "name"] (defScope s_chain_from) := ⟨rfl, rfl, rfl, by decide +kernel, rfl, by decide +kernel, by decide +kernel⟩
noncomputable abbrev s_cover : Stmt := top 8
theorem sc_cover : FnScope ["half", "reach", "leaders", "one", "followers"] ["half"] (defScope s_cover) := ⟨rfl, rfl, rfl, by decide +kernel, rfl, by decide +kernel, by decide +kernel⟩
noncomputable abbrev s__law_feed : Stmt := top 10
theorem sc__law_feed : FnScope ["_law_script"] ["_law_script"] (defScope s__law_feed) := ⟨rfl, rfl, rfl, by decide +kernel, rfl, by decide +kernel, by decide +kernel⟩
noncomputable abbrev s__law_draw : Stmt := top 11
theorem sc__law_draw : FnScope ["_law_feed_here", "_law_many", "_law_cell", "_law_mixed", "_law_found"] ["_law_feed_here", "_law_many"] (defScope s__law_draw) := ⟨rfl, rfl, rfl, by decide +kernel, rfl, by decide +kernel, by decide +kernel⟩
noncomputable abbrev s__law_names : Stmt := top 12
theorem sc__law_names : FnScope ["_law_feed_here", "_law_many", "_law_letters", "_law_start", "_law_way", "_law_size", "_law_at", "_law_names_here", "_law_head", "_law_tail", "_law_turn"] ["_law_feed_here", "_law_many"] (defScope s__law_names) := ⟨rfl, rfl, rfl, by decide +kernel, rfl, by decide +kernel, by decide +kernel⟩
noncomputable abbrev s__law_shuffled : Stmt := top 13
theorem sc__law_shuffled : FnScope ["_law_feed_here", "_law_some", "_law_left", "_law_found", "_law_k"] ["_law_feed_here", "_law_some"] (defScope s__law_shuffled) := ⟨rfl, rfl, rfl, by decide +kernel, rfl, by decide +kernel, by decide +kernel⟩
noncomputable abbrev s__law_pairs : Stmt := top 14
theorem sc__law_pairs : FnScope ["_law_feed_here", "_law_line", "_law_many", "_law_way", "_law_found", "_law_k", "_law_at", "_law_cut", "_law_one"] ["_law_feed_here", "_law_line"] (defScope s__law_pairs) := ⟨rfl, rfl, rfl, by decide +kernel, rfl, by decide +kernel, by decide +kernel⟩
noncomputable abbrev s__law_sayings : Stmt := top 15
theorem sc__law_sayings : FnScope ["_law_feed_here", "_law_line", "_law_found", "_law_pair", "_law_turn"] ["_law_feed_here", "_law_line"] (defScope s__law_sayings) := ⟨rfl, rfl, rfl, by decide +kernel, rfl, by decide +kernel, by decide +kernel⟩
noncomputable abbrev s__law_half : Stmt := top 16
theorem sc__law_half : FnScope ["_law_feed_here", "_law_most", "_law_names_here"] ["_law_feed_here", "_law_most"] (defScope s__law_half) := ⟨rfl, rfl, rfl, by decide +kernel, rfl, by decide +kernel, by decide +kernel⟩
noncomputable abbrev s__law_behind : Stmt := top 17
theorem sc__law_behind : FnScope ["_law_half_here", "_law_name", "_law_found", "_law_line", "_law_here", "_law_one", "_law_other"] ["_law_half_here", "_law_name"] (defScope s__law_behind) := ⟨rfl, rfl, rfl, by decide +kernel, rfl, by decide +kernel, by decide +kernel⟩
noncomputable abbrev s__law_table : Stmt := top 18
theorem sc__law_table : FnScope ["_law_half_here"] ["_law_half_here"] (defScope s__law_table) := ⟨rfl, rfl, rfl, by decide +kernel, rfl, by decide +kernel, by decide +kernel⟩
noncomputable abbrev s__law_closed : Stmt := top 19
theorem sc__law_closed : FnScope ["_law_half_here", "_law_table_here", "_law_found", "_law_one"] ["_law_half_here"] (defScope s__law_closed) := ⟨rfl, rfl, rfl, by decide +kernel, rfl, by decide +kernel, by decide +kernel⟩
noncomputable abbrev s__law_is_chain : Stmt := top 20
theorem sc__law_is_chain : FnScope ["_law_half_here", "_law_thing"] ["_law_half_here", "_law_thing"] (defScope s__law_is_chain) := ⟨rfl, rfl, rfl, by decide +kernel, rfl, by decide +kernel, by decide +kernel⟩
noncomputable abbrev s__law_is_bunch : Stmt := top 21
theorem sc__law_is_bunch : FnScope ["_law_half_here", "_law_thing", "_law_told", "_law_one"] ["_law_half_here", "_law_thing"] (defScope s__law_is_bunch) := ⟨rfl, rfl, rfl, by decide +kernel, rfl, by decide +kernel, by decide +kernel⟩
noncomputable abbrev s__law_is_cover : Stmt := top 22
theorem sc__law_is_cover : FnScope ["_law_half_here", "_law_thing", "_law_met", "_law_chain"] ["_law_half_here", "_law_thing"] (defScope s__law_is_cover) := ⟨rfl, rfl, rfl, by decide +kernel, rfl, by decide +kernel, by decide +kernel⟩
noncomputable abbrev s__law_shuffles : Stmt := top 23
theorem sc__law_shuffles : FnScope ["_law_many", "_law_found", "_law_k"] ["_law_many"] (defScope s__law_shuffles) := ⟨rfl, rfl, rfl, by decide +kernel, rfl, by decide +kernel, by decide +kernel⟩
noncomputable abbrev s__law_big : Stmt := top 24
theorem sc__law_big : FnScope ["_law_feed_here", "_law_names_here", "_law_cut", "_law_first", "_law_one", "_law_second", "_law_other", "_law_more", "_law_name", "_law_own"] ["_law_feed_here", "_law_names_here"] (defScope s__law_big) := ⟨rfl, rfl, rfl, by decide +kernel, rfl, by decide +kernel, by decide +kernel⟩
noncomputable abbrev s__law_right : Stmt := top 25
theorem sc__law_right : FnScope ["_law_half_here", "_law_kept", "_law_chains", "_law_bunch"] ["_law_half_here"] (defScope s__law_right) := ⟨rfl, rfl, rfl, by decide +kernel, rfl, by decide +kernel, by decide +kernel⟩
noncomputable abbrev s_law : Stmt := top 26
theorem sc_law : FnScope ["_law_script", "_law_feed_here", "_law_k", "_law_names_here", "_law_parts", "_law_half_here"] ["_law_script"] (defScope s_law) := ⟨rfl, rfl, rfl, by decide +kernel, rfl, by decide +kernel, by decide +kernel⟩
structure TopF (mg : Str → Option Value) : Prop where
  b_dict : mg "dict" = none
  b_int : mg "int" = none
  b_isinstance : mg "isinstance" = none
  b_len : mg "len" = none
  b_list : mg "list" = none
  b_max : mg "max" = none
  b_range : mg "range" = none
  b_repr : mg "repr" = none
  b_sorted : mg "sorted" = none
  b_str : mg "str" = none
  b_tuple : mg "tuple" = none
section
variable {P : Program} {w : World} {K : PySem.W.Frag} {mg : Str → Option Value} {base : Heap}
local macro_rules | `(tactic| walk_at "lk") => L2.mRows "as | Same.lk e h: e=as h=lk | ExtBut.lk e h n: e=as n=ne h=lk | no"
local macro_rules | `(tactic| walk_at "ne") => L2.mRows "as | Ne.symm q: q=as | ne_of_none h g: g=as h=lk | ne_none2 h g: g=as h=lk | ne_of h g z: h=as g=as z=nc | no"
local macro_rules | `(tactic| walk_at "nc") => `(tactic| (intro z; cases z))
local macro_rules | `(tactic| walk_at "fr") => L2.mRows "ExtBut.refl | ExtBut.trans a b: b=as a=fr | ExtBut.same a b: b=as a=fr | ExtBut.off a q b: b=as q=as a=fr | no"
local macro_rules | `(tactic| walk_at "sm") => L2.mRows "same_refl | Same.trans a b: b=as a=sm | Same.off a q b: b=as q=as a=sm | no"
local macro_rules | `(tactic| walk_at "fd") => L2.mRows "as | Feed.same h e: e=as h=fd | Feed.off h e q f: e=as q=as f=as h=fd | no"
local macro_rules | `(tactic| walk_at "fz1") => L2.mRows "Same.fz b: b=as | ExtBut.fzL b l: b=as l=lk | ExtBut.fzD b l: b=as l=lk | Feed.fz f b: b=as f=fd | no"
local macro_rules | `(tactic| walk_at "fz") => L2.mRows "fz_refl | Fz.trans a x: x=fz1 a=fz | no"
local macro_rules | `(tactic| walk_at "sd") => `(tactic| first | omega | (show (0 : Int) < _; omega) | (unfold CDiv; omega) | (unfold CMul; omega) | (unfold CPow; omega) | (unfold CPow; decide) | (refine ⟨?_, ?_⟩ <;> omega) | decide)
local macro_rules | `(tactic| walk_at "sz") => `(tactic| first | decide | exact line_of (by omega) | (rw [sizeLine_eq]; omega))
local macro_rules | `(tactic| walk_at "kv") => `(tactic| rfl)
local macro_rules | `(tactic| walk_at "rq1") => do
  let a ← L2.mAlts "i_asg i_gname i_ret i_drop i_if i_op i_un i_call i_cb i_cons i_nil i_c i_put i_tTest i_tB i_not i_and i_or i_tup i_lst i_next i_sl i_noPart i_part i_int i_for i_rng1 i_rng2 i_comp i_itS i_iany i_ienum i_ienumL i_irev i_chain i_andV i_orV i_notV i_dget1 i_tAt i_sSt i_tMe i_tMk i_tTru i_dget2 i_iDT i_bmT i_rU i_rI0 i_addI i_bl i_bm i_bm0 i_reprKB i_isN i_isNotN i_isB i_isNotB i_true i_tyS i_find i_intB i_inS i_pair i_pair0 iteR iteNR iteNbb itebb iteT iteF iteNT iteNF"
  let b ← L2.mRows "i_var w _: w=kv | i_rI w _: w=sd | i_mulBI w _: w=sd | i_tyLm w _: w=lk | i_ixD w v _: w=lk v=kv | i_eqS w _: w=kv | i_neS w _: w=kv | i_slS w _: w=sz | i_addS w _: w=sz | i_lenS w _: w=sz | i_lenL w _: w=lk | i_lenT w _: w=lk | i_cutN w _: w=ar"
  let c ← L2.mAltG "i_seqAG i_seqDG i_seqPG"
  `(tactic| first | $c:tactic | $a:tactic | $b:tactic)
local macro_rules | `(tactic| walk_at "rd1") => `(tactic| first | with_reducible refine i_seqG fun N hN => ?_ | walk_at "rq1")
local macro_rules | `(tactic| walk_at "rq") => `(tactic| repeat (walk_at "rq1"))
local macro_rules | `(tactic| walk_at "rd") => `(tactic| repeat (walk_at "rd1"))
noncomputable def feedKvs (l : Addr) (a t u : Int) : List (Key × V) := [(Sum.inr "cells", .ref l), (Sum.inr "at", .int a), (Sum.inr "left", .int t), (Sum.inr "turn", .int u)]
noncomputable def Feed (H : Hp) (d l : Addr) : Prop := ∃ (a t u : Int) (ns : List Int), H d = some (.dK (feedKvs l a t u)) ∧ H l = some (.lst (ns.map V.int)) ∧ 0 < ns.length ∧ ns.length ≤ 64
noncomputable def sp__law_feed (K : PySem.W.Frag) : Sp := fun vs H Q _ => ∃ (a : Addr) (ns : List Int), vs = [.ref a] ∧ SqL K H a (ns.map V.int) ∧ ns.length ≤ 63 ∧ ∀ d l H', H d = none → H l = none → Same H H' → Feed H' d l → Q (.ref d) H'
noncomputable def sp__law_draw (K : PySem.W.Frag) : Sp := fun vs H Q _ => ∃ d l n, vs = [.ref d, .int n] ∧ Feed H d l ∧ 0 < n ∧ n < 1073741824 ∧ ∀ r H', 0 ≤ r → r < n → ExtBut d H H' → Feed H' d l → Q (.int r) H'
theorem fd_cells {l : Addr} {a t u : Int} : valV (feedKvs l a t u) (Sum.inr "cells" : Key) = some (.ref l) := by rfl
theorem fd_at {l : Addr} {a t u : Int} : valV (feedKvs l a t u) (Sum.inr "at" : Key) = some (.int a) := by rfl
theorem fd_left {l : Addr} {a t u : Int} : valV (feedKvs l a t u) (Sum.inr "left" : Key) = some (.int t) := by rfl
theorem fd_turn {l : Addr} {a t u : Int} : valV (feedKvs l a t u) (Sum.inr "turn" : Key) = some (.int u) := by rfl
local macro_rules | `(tactic| walk_at "kv") => `(tactic| first | exact fd_cells | exact fd_at | exact fd_left | exact fd_turn | rfl)
theorem put_turn {l : Addr} {a t u x : Int} : putK (feedKvs l a t u) (Sum.inr "turn" : Key) (.int x) = feedKvs l a t x := by rfl
theorem put_at {l : Addr} {a t u x : Int} : putK (feedKvs l a t u) (Sum.inr "at" : Key) (.int x) = feedKvs l x t u := by rfl
theorem put_left {l : Addr} {a t u x : Int} : putK (feedKvs l a t u) (Sum.inr "left" : Key) (.int x) = feedKvs l a x u := by rfl
theorem Feed.same {H H' : Hp} {d l : Addr} (h : Feed H d l) (e : Same H H') : Feed H' d l := let ⟨a, t, u, ns, h1, h2, h3, h4⟩ := h; ⟨a, t, u, ns, e _ _ h1, e _ _ h2, h3, h4⟩
theorem Feed.put {H H' : Hp} {d l p : Addr} (h : Feed H d l) (e : ExtBut p H H') (hd : d ≠ p) (hl : l ≠ p) : Feed H' d l := let ⟨a, t, u, ns, h1, h2, h3, h4⟩ := h; ⟨a, t, u, ns, e _ _ hd h1, e _ _ hl h2, h3, h4⟩
theorem Feed.nd {H : Hp} {d l p : Addr} (h : Feed H d l) (hp : H p = none) : d ≠ p := let ⟨_, _, _, _, h1, _⟩ := h; ne_of_none h1 hp
theorem Feed.nl {H : Hp} {d l p : Addr} (h : Feed H d l) (hp : H p = none) : l ≠ p := let ⟨_, _, _, _, _, h2, _⟩ := h; ne_of_none h2 hp
theorem Feed.lst {H : Hp} {d l b : Addr} {xs : List V} (h : Feed H d l) (hb : H b = some (.lst xs)) : b ≠ d := let ⟨_, _, _, _, h1, _⟩ := h; ne_of hb h1 (by intro z; cases z)
theorem Feed.tup {H : Hp} {d l b : Addr} {xs : List V} (h : Feed H d l) (hb : H b = some (.tup xs)) : b ≠ d := let ⟨_, _, _, _, h1, _⟩ := h; ne_of hb h1 (by intro z; cases z)
theorem Feed.free {H H' : Hp} {d l p : Addr} (h : Feed H' d l) (e : ExtBut d H H') (hp : H' p = none) : H p = none := by
  cases hq : H p with
  | none => rfl
  | some o =>
    obtain ⟨_, _, _, _, h1, _⟩ := h
    have n : p ≠ d := fun q => by subst q; rw [hp] at h1; cases h1
    rw [e p o n hq] at hp
    cases hp
theorem Feed.fz {H H' : Hp} {d l : Addr} (h : Feed H d l) (e : ExtBut d H H') : Fz H H' := let ⟨_, _, _, _, h1, _⟩ := h; e.fzD h1
theorem Feed.off {H H1 H2 : Hp} {d l q : Addr} (h : Feed H1 d l) (e : ExtBut q H1 H2) (hq : H q = none) (hF : Feed H d l) : Feed H2 d l := h.put e (hF.nd hq) (hF.nl hq)
theorem ok__law_draw {f : Addr} {fd : FuncData} (F : Fun K "_law_draw" "_law_draw" s__law_draw f fd) (T : TopF mg) : FnOk P w K mg base CX0 1 f fd ["_law_feed_here", "_law_many"] (sp__law_draw K) := by
  refine F.ok sc__law_draw (fun vs H Q E h => ?_) (fun cdv A outer s H vs Q E hr h => ?_)
  · obtain ⟨d, l, n, rfl, _⟩ := h
    rfl
  · obtain ⟨d, l, n, rfl, ⟨a, t, u, ns, hd, hl, h0, h64⟩, hn, hn2, k⟩ := h
    have hu := hu_of hr
    have hq := qa_of hr
    have hld : l ≠ d := ne_of hl hd (by intro z; cases z)
    with_reducible refine ⟨_, (pss_cons (ps_dput hu (pv 0) pe_str (pe_op (op_addK (K := K)) (pe_ix (ix_anyK (K := K) hu) (pv 0) pe_str (by with_unfolding_all exact fun _ _ => rfl)) pe_int) (by with_unfolding_all rfl))
      (pss_cons (ps_if (pt_cmpR (op_eqK (K := K) hq) (pe_ix (ix_anyK (K := K) hu) (pv 0) pe_str (by with_unfolding_all exact fun _ _ => rfl)) pe_int (nomark _)) (pss_cons (ps_set (i := 2) sc__law_draw.nd (by with_unfolding_all rfl) (by with_unfolding_all exact Or.inl rfl) (pe_ix (ix_anyK (K := K) hu) (pe_ix (ix_anyK (K := K) hu) (pv 0) pe_str (by with_unfolding_all exact fun _ _ => rfl)) (pe_op op_mod (pe_ix (ix_anyK (K := K) hu) (pv 0) pe_str (by with_unfolding_all exact fun _ _ => rfl)) (pe_callB (call_lenK (K := K)) (by with_unfolding_all rfl) T.b_len PyProof.Rows.Boot.«len» (pa_cons (pe_ix (ix_anyK (K := K) hu) (pv 0) pe_str (by with_unfolding_all exact fun _ _ => rfl)) pa_nil))) (by with_unfolding_all exact fun _ _ => rfl)))
      (pss_cons (ps_dput hu (pv 0) pe_str (pe_op (op_addK (K := K)) (pe_ix (ix_anyK (K := K) hu) (pv 0) pe_str (by with_unfolding_all exact fun _ _ => rfl)) pe_int) (by with_unfolding_all rfl))
      (pss_cons (ps_if (pt_cmpR op_lt (pv 2) (pe_op op_pow pe_int pe_int) (nomark _)) (pss_cons (ps_set (i := 3) sc__law_draw.nd (by with_unfolding_all rfl) (by with_unfolding_all exact Or.inl rfl) (pe_op op_mod (pe_op op_mulB (pe_op (op_addK (K := K)) (pe_op op_mod (pv 2) pe_int) (pe_op op_mulB pe_int (pe_ix (ix_anyK (K := K) hu) (pv 0) pe_str (by with_unfolding_all exact fun _ _ => rfl)))) pe_int) pe_int))
      (pss_cons (ps_set (i := 3) sc__law_draw.nd (by with_unfolding_all rfl) (by with_unfolding_all exact Or.inl rfl) (pe_op op_mod (pe_op op_mulB (pe_op (op_addK (K := K)) (pe_op op_fdivA (pv 3) pe_int) (pe_op op_mulB pe_int (pe_ix (ix_anyK (K := K) hu) (pv 0) pe_str (by with_unfolding_all exact fun _ _ => rfl)))) pe_int) pe_int))
      (pss_one (ps_ret (pe_op op_mod (pe_op op_fdivA (pv 3) pe_int) (pv 1)))))) pss_nil)
      (pss_one (ps_dput hu (pv 0) pe_str (pv 2) (by with_unfolding_all rfl)))))) pss_nil)
      (pss_cons (ps_set (i := 4) sc__law_draw.nd (by with_unfolding_all rfl) (by with_unfolding_all exact Or.inl rfl) (pe_op op_mod (pe_ix (ix_anyK (K := K) hu) (pv 0) pe_str (by with_unfolding_all exact fun _ _ => rfl)) (pv 1)))
      (pss_cons (ps_dput hu (pv 0) pe_str (pe_op op_fdivA (pe_ix (ix_anyK (K := K) hu) (pv 0) pe_str (by with_unfolding_all exact fun _ _ => rfl)) (pv 1)) (by with_unfolding_all rfl))
      (pss_one (ps_ret (pv 4))))))), ?_⟩
    walk_at "rd"
    refine i_dput hd (by show 4 < 1000; decide) fun H1 e1 hd1 => ?_
    rw [put_turn] at hd1
    have hl1 : H1 l = some (.lst (ns.map V.int)) := e1 _ _ hld hl
    walk_at "rd"
    refine ite2 (fun ht => ?_) (fun ht => ?_)
    · walk_at "rd"
      have hlen : (0 : Int) < ((ns.map V.int).length : Nat) := by rw [List.length_map]; omega
      refine i_rI hlen ?_
      have hm0 : 0 ≤ a % (((ns.map V.int).length : Nat) : Int) := Int.emod_nonneg _ (by omega)
      have hm1 := Int.emod_lt_of_pos a hlen
      obtain ⟨c, hc⟩ : ∃ c, (ns.map V.int)[(a % (((ns.map V.int).length : Nat) : Int)).toNat]? = some (V.int c) := by
        refine ⟨ns[(a % (((ns.map V.int).length : Nat) : Int)).toNat]'(by rw [List.length_map] at *; omega), ?_⟩
        rw [List.getElem?_map, List.getElem?_eq_getElem]
        rfl
      refine i_ixL hl1 (by
        have := atI_nat hc
        rwa [Int.toNat_of_nonneg hm0] at this) ?_
      walk_at "rd"
      refine i_dput hd1 (by show 4 < 1000; decide) fun H2 e2 hd2 => ?_
      rw [put_at] at hd2
      have hl2 : H2 l = some (.lst (ns.map V.int)) := e2 _ _ hld hl1
      walk_at "rd"
      refine ite2 (fun hc1 => ?_) (fun hc1 => ?_)
      · walk_at "rd"
        exact k _ H2 (Int.emod_nonneg _ (by omega)) (Int.emod_lt_of_pos _ hn) (e1.trans e2) ⟨_, _, _, ns, hd2, hl2, h0, h64⟩
      · walk_at "rd"
        refine i_dput hd2 (by show 4 < 1000; decide) fun H3 e3 hd3 => ?_
        rw [put_left] at hd3
        have hl3 : H3 l = some (.lst (ns.map V.int)) := e3 _ _ hld hl2
        walk_at "rd"
        refine i_dput hd3 (by show 4 < 1000; decide) fun H4 e4 hd4 => ?_
        rw [put_left] at hd4
        have hl4 : H4 l = some (.lst (ns.map V.int)) := e4 _ _ hld hl3
        walk_at "rd"
        exact k _ H4 (Int.emod_nonneg _ (by omega)) (Int.emod_lt_of_pos _ hn) (((e1.trans e2).trans e3).trans e4) ⟨_, _, _, ns, hd4, hl4, h0, h64⟩
    · walk_at "rd"
      refine i_dput hd1 (by show 4 < 1000; decide) fun H2 e2 hd2 => ?_
      rw [put_left] at hd2
      have hl2 : H2 l = some (.lst (ns.map V.int)) := e2 _ _ hld hl1
      walk_at "rd"
      exact k _ H2 (Int.emod_nonneg _ (by omega)) (Int.emod_lt_of_pos _ hn) (e1.trans e2) ⟨_, _, _, ns, hd2, hl2, h0, h64⟩
theorem feed_ms (ns : List Int) (h : ns.length ≤ 63) : ∃ ms : List Int, cutV (ns.map V.int) none (some 63) ++ (List.replicate (if (PyData.list (ns.map PyData.int)).eqv (PyData.list (([] : List Int).map PyData.int)) = true then (1 : Int) else 0).toNat [V.int 0]).flatten = ms.map V.int ∧ 0 < ms.length ∧ ms.length ≤ 64 := by
  have hc : cutV (ns.map V.int) none (some 63) = ns.map V.int := by
    unfold cutV
    have e : HT.sIx (ns.map V.int).length (ns.map V.int).length (some 63) = (ns.map V.int).length := by
      have := HT.sIx_nat (ns.map V.int).length (ns.map V.int).length 63
      rw [List.length_map] at *
      rw [show ((63 : Nat) : Int) = (63 : Int) from rfl] at this
      rw [this]
      omega
    rw [HT.sIx_none, e, List.drop_zero, Nat.sub_zero, List.take_length]
  rw [hc]
  cases ns with
  | nil => exact ⟨[0], by simp [PyData.eqv, PyData.eqvAll], by decide, by decide⟩
  | cons n r => exact ⟨n :: r, by simp [PyData.eqv, PyData.eqvAll], by simp, by omega⟩
theorem ok__law_feed {f : Addr} {fd : FuncData} (F : Fun K "_law_feed" "_law_feed" s__law_feed f fd) (T : TopF mg) : FnOk P w K mg base CX0 1 f fd ["_law_script"] (sp__law_feed K) := by
  refine F.ok sc__law_feed (fun vs H Q E h => ?_) (fun cdv A outer s H vs Q E hr h => ?_)
  · obtain ⟨a, ns, rfl, _⟩ := h
    rfl
  · obtain ⟨a, ns, rfl, hS, h63, k⟩ := h
    have hu := hu_of hr
    have hq := qa_of hr
    with_reducible refine ⟨_, (pss_one (ps_ret (pe_disp (pps_cons pe_str (pe_op (op_addK (K := K)) (pe_callTy (call_listK (K := K)) (by with_unfolding_all rfl) T.b_list PyProof.Rows.Boot.«list» (pa_cons (pe_slice (sl_K (K := K)) (pv 0) po_none (po_some pe_int)) pa_nil)) (pe_op op_mulB (pe_lst (pa_cons pe_int pa_nil)) (pe_callTy call_intA (by with_unfolding_all rfl) T.b_int PyProof.Rows.Boot.«int» (pa_cons (pe_cmpR (op_eqK (K := K) hq) (pv 0) (pe_lst pa_nil) (nomark _)) pa_nil)))) (pps_cons pe_str pe_int (pps_cons pe_str pe_int (pps_cons pe_str pe_int pps_nil)))) (by with_unfolding_all rfl) (by with_unfolding_all rfl) (by decide) (by decide)))), ?_⟩
    walk_at "rd"
    refine i_disp fun p H1 hp e1 hp1 => ?_
    walk_at "rd"
    have hS1 := e1.seq hS
    refine i_slL hS1 fun q H2 hq2 e2 hq2' => ?_
    walk_at "rd"
    refine i_listL (SqL.of hq2') fun r H3 hr3 e3 hr3' => ?_
    walk_at "rd"
    refine i_newL (by decide) fun z H4 hz4 e4 hz4' => ?_
    walk_at "rd"
    refine i_newL (by decide) fun y H5 hy5 e5 hy5' => ?_
    refine i_eqD (is_listI (e5.seq (e4.seq (e3.seq (e2.seq hS1))))) (is_listI (ns := []) (SqL.of hy5')) (PySem.W.ke_shaped_ints ns) (PySem.W.ke_shaped_ints []) ?_
    walk_at "rd"
    refine i_mulBL (xs := [V.int 0]) (by walk_at "lk") ?_ ?_ fun x H6 hx6 e6 hx6' => ?_
    · split <;> omega
    · split <;> decide
    refine i_addL (xs := cutV (ns.map V.int) none (some 63)) (by walk_at "lk") hx6' ?_ fun v H7 hv7 e7 hv7' => ?_
    · obtain ⟨ms, e, h1, h2⟩ := feed_ms ns h63
      rw [← List.length_append, e, List.length_map]
      exact Nat.le_trans h2 (by decide)
    walk_at "rd"
    refine i_pairs [(Sum.inr "cells", .ref v), (Sum.inr "at", .int 0), (Sum.inr "left", .int 0), (Sum.inr "turn", .int 0)] (by walk_at "lk") (by rfl) (by show 4 ≤ 15; decide) fun H8 e8 h8 => ?_
    have en : H8 p = some (.dK (feedKvs v 0 0 0)) := h8
    refine k p v H8 hp ?_ ?_ ⟨0, 0, 0, ?_⟩
    · exact e1.free (e2.free (e3.free (e4.free (e5.free (e6.free hv7)))))
    · exact fun b o hb => e8 b o (ne_of_none hb hp) (e7 _ _ (e6 _ _ (e5 _ _ (e4 _ _ (e3 _ _ (e2 _ _ (e1 _ _ hb)))))))
    · obtain ⟨ms, e, h1, h2⟩ := feed_ms ns h63
      rw [e] at hv7'
      exact ⟨ms, en, by walk_at "lk", h1, h2⟩
noncomputable def sp__law_names (K : PySem.W.Frag) : Sp := fun vs H Q _ => ∃ d l n, vs = [.ref d, .int n] ∧ Feed H d l ∧ 0 ≤ n ∧ n ≤ 10 ∧ ∀ p ns H', H p = none → ExtBut d H H' → Feed H' d l → H' p = some (.lst (ns.map V.str)) → Names ns → ns.length = n.toNat → Q (.ref p) H'
noncomputable def MN (H : Hp) (d l : Addr) (n st way sz at' : Int) : L2.St → Hp → Prop := fun σ' H' => ∃ p ns x8 x9, σ' = [some (V.ref d), some (.int n), some (.str LL), some (.int st), some (.int way), some (.int (1 + sz)), some (.int at'), some (.ref p), x8, x9, none] ∧ H p = none ∧ ExtBut d H H' ∧ Feed H' d l ∧ H' p = some (.lst (ns.map V.str)) ∧ Names ns ∧ ns.length = 10
theorem ok__law_names {f : Addr} {fd : FuncData} (F : Fun K "_law_names" "_law_names" s__law_names f fd) (T : TopF mg) (c__law_draw : Fnd P w K mg base 1 "_law_draw" ["_law_feed_here", "_law_many"] (sp__law_draw K)) : FnOk P w K mg base CX0 2 f fd ["_law_feed_here", "_law_many"] (sp__law_names K) := by
  refine F.ok sc__law_names (fun vs H Q E h => ?_) (fun cdv A outer s H vs Q E hr h => ?_)
  · obtain ⟨d, l, n, rfl, _⟩ := h
    rfl
  · obtain ⟨d, l, n, rfl, hF, hn0, hn1, k⟩ := h
    have hu := hu_of hr
    have hq := qa_of hr
    with_reducible refine ⟨_, (pss_cons (ps_set (i := 2) sc__law_names.nd (by with_unfolding_all rfl) (by with_unfolding_all exact Or.inr rfl) (pe_op op_mulB pe_str pe_int))
      (pss_cons (ps_set (i := 3) sc__law_names.nd (by with_unfolding_all rfl) (by with_unfolding_all exact Or.inr rfl) (pe_fn c__law_draw (hr.mono (by decide)) (by with_unfolding_all rfl) (pa_cons (pv 0) (pa_cons pe_int pa_nil))))
      (pss_cons (ps_set (i := 4) sc__law_names.nd (by with_unfolding_all rfl) (by with_unfolding_all exact Or.inl rfl) (pe_fn c__law_draw (hr.mono (by decide)) (by with_unfolding_all rfl) (pa_cons (pv 0) (pa_cons pe_int pa_nil))))
      (pss_cons (ps_set (i := 5) sc__law_names.nd (by with_unfolding_all rfl) (by with_unfolding_all exact Or.inl rfl) (pe_op (op_addK (K := K)) pe_int (pe_fn c__law_draw (hr.mono (by decide)) (by with_unfolding_all rfl) (pa_cons (pv 0) (pa_cons pe_int pa_nil)))))
      (pss_cons (ps_set (i := 6) sc__law_names.nd (by with_unfolding_all rfl) (by with_unfolding_all exact Or.inl rfl) (pe_fn c__law_draw (hr.mono (by decide)) (by with_unfolding_all rfl) (pa_cons (pv 0) (pa_cons (pv 5) pa_nil))))
      (pss_cons (ps_set (i := 7) sc__law_names.nd (by with_unfolding_all rfl) (by with_unfolding_all exact Or.inl rfl) (pe_lst (pa_cons pe_str (pa_cons pe_str (pa_cons pe_str (pa_cons pe_str (pa_cons pe_str (pa_cons pe_str (pa_cons pe_str (pa_cons pe_str (pa_cons pe_str (pa_cons pe_str pa_nil))))))))))))
      (pss_cons (ps_if (pt_cmpR (op_eqK (K := K) hq) (pv 4) pe_int (nomark _)) (pss_one (ps_set (i := 7) sc__law_names.nd (by with_unfolding_all rfl) (by with_unfolding_all exact Or.inl rfl) (pe_op (op_addK (K := K)) (pe_comp ["_law_k"] ["_law_letters", "_law_start"] [2, 3] (by with_unfolding_all rfl) (by with_unfolding_all rfl) (by with_unfolding_all rfl) (pi_range1 (by with_unfolding_all rfl) T.b_range (pa_cons pe_int pa_nil)) (fun _ _ _ _ => (pg_name (i := 0) (by with_unfolding_all (show (["_law_k", "_law_letters", "_law_start"] : List Str).Nodup; decide +kernel)) (by with_unfolding_all rfl) (by with_unfolding_all exact Or.inl rfl))) (gk_name (by decide)) (fun _ _ _ _ => pif_nil) (fun _ _ _ _ => (pe_slice (sl_K (K := K)) (pv 1) (po_some (pv 2)) (po_some (pe_op (op_addK (K := K)) (pe_op (op_addK (K := K)) (pv 2) pe_int) (pv 0)))))) (pe_lst (pa_cons (pe_ix (ix_anyK (K := K) hu) (pv 2) (pe_op (op_addK (K := K)) (pv 3) pe_int) (by with_unfolding_all exact fun _ _ => rfl)) (pa_cons (pe_ix (ix_anyK (K := K) hu) (pv 2) (pe_op (op_addK (K := K)) (pv 3) pe_int) (by with_unfolding_all exact fun _ _ => rfl)) pa_nil)))))) pss_nil)
      (pss_cons (ps_if (pt_cmpR (op_eqK (K := K) hq) (pv 4) pe_int (nomark _)) (pss_cons (ps_set (i := 8) sc__law_names.nd (by with_unfolding_all rfl) (by with_unfolding_all exact Or.inr rfl) (pe_slice (sl_K (K := K)) (pv 2) (po_some (pv 3)) (po_some (pe_op (op_addK (K := K)) (pv 3) (pv 6)))))
      (pss_cons (ps_set (i := 9) sc__law_names.nd (by with_unfolding_all rfl) (by with_unfolding_all exact Or.inr rfl) (pe_slice (sl_K (K := K)) (pv 2) (po_some (pe_op (op_addK (K := K)) (pe_op (op_addK (K := K)) (pv 3) (pv 6)) pe_int)) (po_some (pe_op (op_addK (K := K)) (pv 3) (pv 5)))))
      (pss_one (ps_setcomp (i := 7) ["_law_k"] ["_law_head", "_law_letters", "_law_start", "_law_tail"] [8, 2, 3, 9] (by with_unfolding_all rfl) (by with_unfolding_all rfl) (by with_unfolding_all rfl) sc__law_names.nd (by with_unfolding_all rfl) (by with_unfolding_all rfl) (pi_range1 (by with_unfolding_all rfl) T.b_range (pa_cons pe_int pa_nil)) (fun _ _ _ _ => (pg_name (i := 0) (by with_unfolding_all (show (["_law_k", "_law_head", "_law_letters", "_law_start", "_law_tail"] : List Str).Nodup; decide +kernel)) (by with_unfolding_all rfl) (by with_unfolding_all exact Or.inl rfl))) (gk_name (by decide)) (fun _ _ _ _ => pif_nil) (fun _ _ _ _ => (pe_op (op_addK (K := K)) (pe_op (op_addK (K := K)) (pv 1) (pe_ix (ix_anyK (K := K) hu) (pv 2) (pe_op (op_addK (K := K)) (pv 3) (pe_op op_mod (pe_op op_mulB pe_int (pv 0)) pe_int)) (by with_unfolding_all exact fun _ _ => rfl))) (pv 4))))))) pss_nil)
      (pss_cons (ps_if (pt_cmpR (op_eqK (K := K) hq) (pv 4) pe_int (nomark _)) (pss_one (ps_setcomp (i := 7) ["_law_k"] ["_law_letters", "_law_start"] [2, 3] (by with_unfolding_all rfl) (by with_unfolding_all rfl) (by with_unfolding_all rfl) sc__law_names.nd (by with_unfolding_all rfl) (by with_unfolding_all rfl) (pi_range1 (by with_unfolding_all rfl) T.b_range (pa_cons pe_int pa_nil)) (fun _ _ _ _ => (pg_name (i := 0) (by with_unfolding_all (show (["_law_k", "_law_letters", "_law_start"] : List Str).Nodup; decide +kernel)) (by with_unfolding_all rfl) (by with_unfolding_all exact Or.inl rfl))) (gk_name (by decide)) (fun _ _ _ _ => pif_nil) (fun _ _ _ _ => (pe_slice (sl_K (K := K)) (pv 1) (po_some (pe_op (op_addK (K := K)) (pv 2) (pv 0))) (po_some (pe_op (op_addK (K := K)) (pe_op (op_addK (K := K)) (pe_op (op_addK (K := K)) (pv 2) (pv 0)) pe_int) (pe_op op_mod (pe_op op_mulB pe_int (pv 0)) pe_int))))))) pss_nil)
      (pss_cons (ps_set (i := 10) sc__law_names.nd (by with_unfolding_all rfl) (by with_unfolding_all exact Or.inl rfl) (pe_fn c__law_draw (hr.mono (by decide)) (by with_unfolding_all rfl) (pa_cons (pv 0) (pa_cons pe_int pa_nil))))
      (pss_cons (ps_set (i := 7) sc__law_names.nd (by with_unfolding_all rfl) (by with_unfolding_all exact Or.inl rfl) (pe_op (op_addK (K := K)) (pe_slice (sl_K (K := K)) (pv 7) (po_some (pv 10)) po_none) (pe_slice (sl_K (K := K)) (pv 7) po_none (po_some (pv 10)))))
      (pss_one (ps_ret (pe_sliceStep (pe_slice (sl_K (K := K)) (pv 7) po_none (po_some (pv 1))) (pe_ix (ix_anyK (K := K) hu) (pe_lst (pa_cons pe_int (pa_cons (pe_un un_neg pe_int) pa_nil))) (pe_fn c__law_draw (hr.mono (by decide)) (by with_unfolding_all rfl) (pa_cons (pv 0) (pa_cons pe_int pa_nil))) (by with_unfolding_all exact fun _ _ => rfl)))))))))))))))), ?_⟩
    walk_at "rd"
    refine i_mulBS (by decide) ?_
    rw [LL_rep]
    walk_at "rd"
    refine ⟨d, l, _, rfl, hF, by omega, by omega, fun st H1 hs0 hs1 e1 hF1 => ?_⟩
    walk_at "rd"
    refine ⟨d, l, _, rfl, hF1, by omega, by omega, fun way H2 hw0 hw1 e2 hF2 => ?_⟩
    walk_at "rd"
    refine ⟨d, l, _, rfl, hF2, by omega, by omega, fun sz H3 hz0 hz1 e3 hF3 => ?_⟩
    walk_at "rd"
    refine ⟨d, l, _, rfl, hF3, by omega, by omega, fun at' H4 ha0 ha1 e4 hF4 => ?_⟩
    walk_at "rd"
    refine i_newL (by decide) fun p5 H5 hp5 e5 h5 => ?_
    walk_at "rq"
    have fr4 : ExtBut d H H4 := by walk_at "fr"
    have hF5 : Feed H5 d l := by walk_at "fd"
    with_reducible refine i_cut (MN H d l n st way sz at') (fun N hN => ?_) (fun σ1 H6 hM => ?_)
    · walk_at "rq"
      refine iteD (fun hw => ?_) (fun hw => ?_)
      · walk_at "rq"
        refine i_rngv (by omega) ?_
        refine comp_map walk_range (fI fun k => .str (Txt.slice LL (some st) (some (st + 1 + k)))) (by simp) (fun _ _ => trivial) (fun i x H6 R hx e6 hR => ?_) (fun p6 H6 hp6 e6 h6 => ?_)
        · obtain ⟨rfl, hi⟩ := rng_get hx
          walk_at "rq"
          exact hR
        · rw [map_rng (G := fun k => txt (cutN st.toNat (st.toNat + 1 + k))) (fun k hk => by
            have e := LL_cut (i := st) (j := st + 1 + (0 + (k : Int))) hs0 (by omega) (by have : ((8 : Int)).toNat = 8 := rfl; omega)
            have e2 : (st + 1 + (0 + (k : Int))).toNat = st.toNat + 1 + k := by omega
            rw [e2] at e
            rw [e])] at h6
          obtain ⟨c9, hc9, e9⟩ := LL_at (i := st + 9) (by omega) (by omega)
          obtain ⟨c10, hc10, e10⟩ := LL_at (i := st + 10) (by omega) (by omega)
          walk_at "rq"
          refine i_ixS LL_line hc9 ?_
          walk_at "rq"
          refine i_ixS LL_line hc10 ?_
          walk_at "rq"
          refine i_newL (line_of (by simp)) fun p7 H7 hp7 e7 h7 => ?_
          refine i_addL (by walk_at "lk") h7 (by simp [sizeLine_eq]) fun p8 H8 hp8 e8 h8 => ?_
          walk_at "rq"
          have f5 : ExtBut d H H5 := by walk_at "fr"
          refine hN _ _ ⟨p8, (nm0 st.toNat).map txt, none, none, rfl, Feed.free (l := l) (H' := H7) (by walk_at "fd") (by walk_at "fr") hp8, by walk_at "fr", by walk_at "fd", ?_, ok_nm0 (by omega), by simp [nm0]⟩
          rw [h8, e9, e10]
          have q9 : (st + 9).toNat = st.toNat + 9 := by omega
          have q10 : (st + 10).toNat = st.toNat + 10 := by omega
          rw [q9, q10]
          simp [nm0, Function.comp_def]
      · walk_at "rq"
        refine hN _ _ ⟨p5, nm3, none, none, rfl, hF4.free fr4 hp5, by walk_at "fr", hF5, h5, ok_nm3, rfl⟩
    · obtain ⟨p, ns, x8, x9, rfl, hp, e6, hF6, h6, hN6, hl6⟩ := hM
      with_reducible refine i_cut (MN H d l n st way sz at') (fun N hN => ?_) (fun σ1 H7 hM => ?_)
      · walk_at "rq"
        refine iteD (fun hw => ?_) (fun hw => ?_)
        · walk_at "rq"
          refine i_rngv (by omega) ?_
          have c1 := LL_cut (i := st) (j := st + at') hs0 (by omega) (by omega)
          have c2 := LL_cut (i := st + at' + 1) (j := st + (1 + sz)) (by omega) (by omega) (by omega)
          rw [c1, c2]
          refine comp_map walk_range (fI fun k => .str (txt (cutN st.toNat (st + at').toNat) ++ txt (sgnN (st + 5 * k % 26).toNat) ++ txt (cutN (st + at' + 1).toNat (st + (1 + sz)).toNat))) (by simp) (fun _ _ => trivial) (fun i x H8 R hx e8 hR => ?_) (fun p8 H8 hp8 e8 h8 => ?_)
          · obtain ⟨rfl, hi⟩ := rng_get hx
            have hm0 := Int.emod_nonneg (5 * (0 + (i : Int))) (show (26 : Int) ≠ 0 by decide)
            have hm1 := Int.emod_lt_of_pos (5 * (0 + (i : Int))) (show (0 : Int) < 26 by decide)
            obtain ⟨c, hc, ec⟩ := LL_at (i := st + 5 * (0 + (i : Int)) % 26) (by omega) (by omega)
            walk_at "rq"
            refine i_ixS LL_line hc ?_
            rw [ec]
            have l1 : (txt (cutN st.toNat (st + at').toNat)).length ≤ 52 := by show (cutN _ _).toArray.size ≤ _; unfold cutN; simp [LLn_len]; omega
            have l2 : (txt (cutN (st + at' + 1).toNat (st + (1 + sz)).toNat)).length ≤ 52 := by show (cutN _ _).toArray.size ≤ _; unfold cutN; simp [LLn_len]; omega
            have l3 : (txt (sgnN (st + 5 * (0 + (i : Int)) % 26).toNat)).length ≤ 52 := by show (sgnN _).toArray.size ≤ _; unfold sgnN; simp [LLn_len]; omega
            refine i_addS (line_of (by omega)) ?_
            have l4 : (txt (cutN st.toNat (st + at').toNat) ++ txt (sgnN (st + 5 * (0 + (i : Int)) % 26).toNat)).length ≤ 104 := by rw [Str.length_append]; omega
            walk_at "rq"
            exact hR
          · rw [map_rng (G := fun k => txt (cutN st.toNat (st.toNat + at'.toNat) ++ sgnN (st.toNat + 5 * k % 26) ++ cutN (st.toNat + at'.toNat + 1) (st.toNat + (1 + sz).toNat))) (fun k hk => by
              have q1 : (st + at').toNat = st.toNat + at'.toNat := by omega
              have q2 : (st + 5 * (0 + (k : Int)) % 26).toNat = st.toNat + 5 * k % 26 := by omega
              have q3 : (st + at' + 1).toNat = st.toNat + at'.toNat + 1 := by omega
              have q4 : (st + (1 + sz)).toNat = st.toNat + (1 + sz).toNat := by omega
              rw [q1, q2, q3, q4, txt_app, txt_app])] at h8
            walk_at "rq"
            refine hN _ _ ⟨p8, (nm1 st.toNat (1 + sz).toNat at'.toNat).map txt, _, _, rfl, hF6.free e6 hp8, by walk_at "fr", by walk_at "fd", ?_, ok_nm1 (by omega) (by omega) (by omega), by simp [nm1]⟩
            rw [h8]
            simp [nm1, Function.comp_def]
        · walk_at "rq"
          exact hN _ _ ⟨p, ns, x8, x9, rfl, hp, e6, hF6, h6, hN6, hl6⟩
      · obtain ⟨p', ns', x8', x9', rfl, hp', e7, hF7, h7, hN7, hl7⟩ := hM
        with_reducible refine i_cut (MN H d l n st way sz at') (fun N hN => ?_) (fun σ1 H8 hM => ?_)
        · walk_at "rq"
          refine iteD (fun hw => ?_) (fun hw => ?_)
          · walk_at "rq"
            refine i_rngv (by omega) ?_
            refine comp_map walk_range (fI fun k => .str (Txt.slice LL (some (st + k)) (some (st + k + 1 + 3 * k % 8)))) (by simp) (fun _ _ => trivial) (fun i x H8 R hx e8 hR => ?_) (fun p8 H8 hp8 e8 h8 => ?_)
            · obtain ⟨rfl, hi⟩ := rng_get hx
              walk_at "rq"
              exact hR
            · rw [map_rng (G := fun k => txt (cutN (st.toNat + k) (st.toNat + k + 1 + 3 * k % 8))) (fun k hk => by
                have h10 : ((10 : Int)).toNat = 10 := rfl
                have e := LL_cut (i := st + (0 + (k : Int))) (j := st + (0 + (k : Int)) + 1 + 3 * (0 + (k : Int)) % 8) (by omega) (by omega) (by omega)
                have q1 : (st + (0 + (k : Int))).toNat = st.toNat + k := by omega
                have q2 : (st + (0 + (k : Int)) + 1 + 3 * (0 + (k : Int)) % 8).toNat = st.toNat + k + 1 + 3 * k % 8 := by omega
                rw [q1, q2] at e
                rw [e])] at h8
              walk_at "rq"
              refine hN _ _ ⟨p8, (nm2 st.toNat).map txt, _, _, rfl, hF7.free e7 hp8, by walk_at "fr", by walk_at "fd", ?_, ok_nm2 (by omega), by simp [nm2]⟩
              rw [h8]
              simp [nm2, Function.comp_def]
          · walk_at "rq"
            exact hN _ _ ⟨p', ns', x8', x9', rfl, hp', e7, hF7, h7, hN7, hl7⟩
        · obtain ⟨p2, ms, y8, y9, rfl, hp2, e8, hF8, h8, hN8, hl8⟩ := hM
          walk_at "rd"
          refine ⟨d, l, _, rfl, hF8, by omega, by omega, fun tn H9 ht0 ht1 e9 hF9 => ?_⟩
          have nd2 : p2 ≠ d := hF8.lst h8
          walk_at "rd"
          have h9 : H9 p2 = some (.lst (ms.map V.str)) := e9 _ _ nd2 h8
          refine i_slL (SqL.of h9) fun q1 H10 hq1 e10 h10 => ?_
          walk_at "rd"
          refine i_slL (SqL.of (show H10 p2 = some (.lst (ms.map V.str)) by walk_at "lk")) fun q2 H11 hq2 e11 h11 => ?_
          walk_at "rd"
          rw [cut_from ht0 (by rw [List.length_map]; omega)] at h10
          rw [cut_upto ht0] at h11
          refine i_addL (by walk_at "lk") h11 (line_of (by simp; omega)) fun q3 H12 hq3 e12 h12 => ?_
          walk_at "rd"
          rw [← List.map_drop, ← List.map_take, ← List.map_append] at h12
          refine i_slL (SqL.of h12) fun q4 H13 hq4 e13 h13 => ?_
          walk_at "rd"
          rw [cut_upto hn0, ← List.map_take] at h13
          refine i_newL (by decide) fun q5 H14 hq5 e14 h14 => ?_
          walk_at "rd"
          refine ⟨d, l, 2, rfl, by walk_at "fd", by omega, by omega, fun r H15 hr0 hr1 e15 hF15 => ?_⟩
          have hq5d : q5 ≠ d := Ne.symm (Feed.nd (H := H13) (l := l) (by walk_at "fd") hq5)
          have hq4d : q4 ≠ d := Ne.symm (Feed.nd (H := H12) (l := l) (by walk_at "fd") hq4)
          have h15 : H15 q4 = some (.lst (((ms.drop tn.toNat ++ ms.take tn.toNat).take n.toNat).map V.str)) := e15 _ _ hq4d (by walk_at "lk")
          have g15 : H15 q5 = some (.lst [V.int 1, V.int (-1)]) := e15 _ _ hq5d h14
          have hstep : ∃ k, atI [V.int 1, V.int (-1)] r = some (V.int k) ∧ (k = 1 ∨ k = -1) := by
            rcases (by omega : r = 0 ∨ r = 1) with rfl | rfl
            · exact ⟨1, rfl, .inl rfl⟩
            · exact ⟨-1, rfl, .inr rfl⟩
          obtain ⟨kk, hk1, hk2⟩ := hstep
          refine i_ixL g15 hk1 ?_
          refine i_step (SqL.of h15) hk2 fun q6 H16 hq6 e16 h16 => ?_
          obtain ⟨os, eo, ho1, ho2⟩ := step_names (k := kk) (hN8.turn tn.toNat n.toNat)
          rw [eo] at h16
          have fr15 : ExtBut d H H15 := by walk_at "fr"
          refine k q6 os H16 (hF15.free fr15 hq6) (by walk_at "fr") (by walk_at "fd") h16 ho1 ?_
          rw [ho2, List.length_take, List.length_append, List.length_drop, List.length_take]
          omega
noncomputable def sp__law_shuffled (K : PySem.W.Frag) : Sp := fun vs H Q _ => ∃ d l a xs, vs = [.ref d, .ref a] ∧ Feed H d l ∧ (SqL K H a xs ∨ SqT K H a xs) ∧ xs.length ≤ 1000 ∧ ∀ p ys H', H p = none → ExtBut d H H' → Feed H' d l → H' p = some (.lst ys) → ys.Perm xs → Q (.ref p) H'
theorem ok__law_shuffled {f : Addr} {fd : FuncData} (F : Fun K "_law_shuffled" "_law_shuffled" s__law_shuffled f fd) (T : TopF mg) (c__law_draw : Fnd P w K mg base 1 "_law_draw" ["_law_feed_here", "_law_many"] (sp__law_draw K)) : FnOk P w K mg base CX0 2 f fd ["_law_feed_here", "_law_some"] (sp__law_shuffled K) := by
  refine F.ok sc__law_shuffled (fun vs H Q E h => ?_) (fun cdv A outer s H vs Q E hr h => ?_)
  · obtain ⟨d, l, a, xs, rfl, _⟩ := h
    rfl
  · obtain ⟨d, l, a, xs, rfl, hF, hS, hx, k⟩ := h
    have hu := hu_of hr
    have hq := qa_of hr
    with_reducible refine ⟨_, (pss_cons (ps_set (i := 2) sc__law_shuffled.nd (by with_unfolding_all rfl) (by with_unfolding_all exact Or.inl rfl) (pe_callTy (call_listK (K := K)) (by with_unfolding_all rfl) T.b_list PyProof.Rows.Boot.«list» (pa_cons (pv 1) pa_nil)))
      (pss_cons (ps_set (i := 3) sc__law_shuffled.nd (by with_unfolding_all rfl) (by with_unfolding_all exact Or.inl rfl) (pe_lst pa_nil))
      (pss_cons (ps_for PassesOwn.never (by with_unfolding_all rfl) (pi_range1 (by with_unfolding_all rfl) T.b_range (pa_cons (pe_callB (call_lenK (K := K)) (by with_unfolding_all rfl) T.b_len PyProof.Rows.Boot.«len» (pa_cons (pv 2) pa_nil)) pa_nil)) (pg_name (i := 4) sc__law_shuffled.nd (by with_unfolding_all rfl) (by with_unfolding_all exact Or.inl rfl))
      (pss_one (ps_expr (pe_bmK (K := K) PySem.F.plainAttrs_list PySem.F.slot_list_append PySem.F.type_list_append (mm mt_append) (pv 3) (pa_cons (pe_bmK (K := K) PySem.F.plainAttrs_list PySem.F.slot_list_pop PySem.F.type_list_pop (mm mt_popAt) (pv 2) (pa_cons (pe_fn c__law_draw (hr.mono (by decide)) (by with_unfolding_all rfl) (pa_cons (pv 0) (pa_cons (pe_callB (call_lenK (K := K)) (by with_unfolding_all rfl) T.b_len PyProof.Rows.Boot.«len» (pa_cons (pv 2) pa_nil)) pa_nil))) pa_nil)) pa_nil)))))
      (pss_one (ps_ret (pv 3)))))), ?_⟩
    walk_at "rd"
    refine i_listA hS fun q H1 hq1 e1 h1 => ?_
    walk_at "rd"
    refine i_newL (by decide) fun p H2 hp2 e2 h2 => ?_
    walk_at "rd"
    refine i_rngv (by omega) ?_
    have hp0 : H p = none := e1.free hp2
    have hpq : p ≠ q := fun z => by subst z; rw [h1] at hp2; cases hp2
    refine for_by walk_range (fun i σ H3 => ∃ us vs x4, σ = [some (.ref d), some (.ref a), some (.ref q), some (.ref p), x4] ∧ ExtBut d H H3 ∧ Feed H3 d l ∧ H3 q = some (.lst us) ∧ H3 p = some (.lst vs) ∧ (vs ++ us).Perm xs ∧ us.length + i = xs.length ∧ vs.length = i)
      ⟨xs, [], none, rfl, by walk_at "fr", by walk_at "fd", by walk_at "lk", h2, by simp, rfl, rfl⟩ (fun _ _ _ _ => trivial) (fun i x σ H3 hx3 hi hP => ?_) (fun σ H3 hP => ?_)
    · obtain ⟨us, vs, x4, rfl, e3, hF3, h3q, h3p, hperm, hlen, hvl⟩ := hP
      obtain ⟨rfl, hi2⟩ := rng_get hx3
      have hi3 : i < xs.length := by simpa using hi2
      walk_at "rd"
      refine ⟨d, l, _, rfl, hF3, by omega, by omega, fun r H4 hr0 hr1 e4 hF4 => ?_⟩
      have h4q : H4 q = some (.lst us) := e4 _ _ (hF3.lst h3q) h3q
      have h4p : H4 p = some (.lst vs) := e4 _ _ (hF3.lst h3p) h3p
      have hr2 : r.toNat < us.length := by omega
      walk_at "rd"
      refine i_popAtR h4q hr0 (List.getElem?_eq_getElem hr2) (fun H5 e5 h5q => ?_) (by omega)
      have h5p : H5 p = some (.lst vs) := e5 _ _ hpq h4p
      walk_at "rd"
      refine i_appR h5p (by omega) fun H6 e6 h6p => ?_
      walk_at "rd"
      refine ⟨us.eraseIdx r.toNat, vs ++ [us[r.toNat]], _, rfl, by walk_at "fr", (hF4.put e5 (hF.nd hq1) (hF.nl hq1)).put e6 (hF.nd hp0) (hF.nl hp0), e6 _ _ (Ne.symm hpq) h5q, h6p, ?_, ?_, by simp [hvl]⟩
      · exact (perm_pop (List.getElem?_eq_getElem hr2) vs).trans hperm
      · rw [List.length_eraseIdx, if_pos hr2]
        omega
    · obtain ⟨us, vs, x4, rfl, e3, hF3, h3q, h3p, hperm, hlen, hvl⟩ := hP
      walk_at "rd"
      have hu0 : us = [] := by
        rw [List.length_map, List.length_range] at hlen
        exact List.length_eq_zero_iff.mp (by omega)
      subst hu0
      rw [List.append_nil] at hperm
      exact k p vs H3 hp0 e3 hF3 h3p hperm
noncomputable def sp__law_pairs (K : PySem.W.Frag) : Sp := fun vs H Q _ => ∃ d l a ls, vs = [.ref d, .ref a] ∧ Feed H d l ∧ H a = some (.lst (ls.map V.str)) ∧ ls.length ≤ 10 ∧ ∀ p xs ps H', H p = none → ExtBut d H H' → Feed H' d l → H' p = some (.lst xs) → IsL K H' (ps.map prD) xs → Up ls ps → ps.length ≤ 100 → Q (.ref p) H'
noncomputable def MP (K : PySem.W.Frag) (H : Hp) (d l a : Addr) (ls : List Str) (way : Int) (E : Prop) : L2.St → Hp → Prop := fun σ' H' => ∃ p xs ps x5 x6 x7 x8, σ' = [some (V.ref d), some (.ref a), some (.int (ls.length : Nat)), some (.int way), some (.ref p), x5, x6, x7, x8] ∧ H p = none ∧ ExtBut d H H' ∧ Feed H' d l ∧ H' p = some (.lst xs) ∧ IsL K H' (ps.map prD) xs ∧ Up ls ps ∧ ps.length ≤ 100 ∧ (E → ps = [])
theorem len_prs {K : PySem.W.Frag} {H : Hp} {ps : List (Str × Str)} {xs : List V} (h : IsL K H (ps.map prD) xs) : xs.length = ps.length := by rw [← IsL.length h, List.length_map]
theorem ok__law_pairs {f : Addr} {fd : FuncData} (F : Fun K "_law_pairs" "_law_pairs" s__law_pairs f fd) (T : TopF mg) (c__law_draw : Fnd P w K mg base 1 "_law_draw" ["_law_feed_here", "_law_many"] (sp__law_draw K)) : FnOk P w K mg base CX0 2 f fd ["_law_feed_here", "_law_line"] (sp__law_pairs K) := by
  refine F.ok sc__law_pairs (fun vs H Q E h => ?_) (fun cdv A outer s H vs Q E hr h => ?_)
  · obtain ⟨d, l, a, xs, rfl, _⟩ := h
    rfl
  · obtain ⟨d, l, a, ls, rfl, hF, hA, hl, k⟩ := h
    have hu := hu_of hr
    have hq := qa_of hr
    with_reducible refine ⟨_, (pss_cons (ps_set (i := 2) sc__law_pairs.nd (by with_unfolding_all rfl) (by with_unfolding_all exact Or.inl rfl) (pe_callB (call_lenK (K := K)) (by with_unfolding_all rfl) T.b_len PyProof.Rows.Boot.«len» (pa_cons (pv 1) pa_nil)))
      (pss_cons (ps_set (i := 3) sc__law_pairs.nd (by with_unfolding_all rfl) (by with_unfolding_all exact Or.inl rfl) (pe_fn c__law_draw (hr.mono (by decide)) (by with_unfolding_all rfl) (pa_cons (pv 0) (pa_cons pe_int pa_nil))))
      (pss_cons (ps_set (i := 4) sc__law_pairs.nd (by with_unfolding_all rfl) (by with_unfolding_all exact Or.inl rfl) (pe_lst pa_nil))
      (pss_cons (ps_if (PW.pt (pw_and (pt_cmpR op_lt (pv 3) pe_int (nomark _)) (pw_and1 (pt_cmpR op_gt (pv 2) pe_int (nomark _))))) (pss_one (ps_for PassesOwn.never (by with_unfolding_all rfl) (pi_range1 (by with_unfolding_all rfl) T.b_range (pa_cons (pe_ix (ix_anyK (K := K) hu) (pe_lst (pa_cons (pe_op op_fdivA (pv 2) pe_int) (pa_cons (pv 2) (pa_cons (pe_op op_mulB pe_int (pv 2)) pa_nil)))) (pv 3) (by with_unfolding_all exact fun _ _ => rfl)) pa_nil)) (pg_name (i := 5) sc__law_pairs.nd (by with_unfolding_all rfl) (by with_unfolding_all exact Or.inl rfl))
      (pss_cons (ps_set (i := 6) sc__law_pairs.nd (by with_unfolding_all rfl) (by with_unfolding_all exact Or.inl rfl) (pe_fn c__law_draw (hr.mono (by decide)) (by with_unfolding_all rfl) (pa_cons (pv 0) (pa_cons (pe_op op_sub (pv 2) pe_int) pa_nil))))
      (pss_one (ps_expr (pe_bmK (K := K) PySem.F.plainAttrs_list PySem.F.slot_list_append PySem.F.type_list_append (mm mt_append) (pv 4) (pa_cons (pe_tup (pa_cons (pe_ix (ix_anyK (K := K) hu) (pv 1) (pv 6) (by with_unfolding_all exact fun _ _ => rfl)) (pa_cons (pe_ix (ix_anyK (K := K) hu) (pv 1) (pe_op (op_addK (K := K)) (pe_op (op_addK (K := K)) (pv 6) pe_int) (pe_fn c__law_draw (hr.mono (by decide)) (by with_unfolding_all rfl) (pa_cons (pv 0) (pa_cons (pe_op op_sub (pe_op op_sub (pv 2) pe_int) (pv 6)) pa_nil)))) (by with_unfolding_all exact fun _ _ => rfl)) pa_nil))) pa_nil))))))) pss_nil)
      (pss_cons (ps_if (pt_cmpR (op_eqK (K := K) hq) (pv 3) pe_int (nomark _)) (pss_cons (ps_set (i := 7) sc__law_pairs.nd (by with_unfolding_all rfl) (by with_unfolding_all exact Or.inr rfl) (pe_fn c__law_draw (hr.mono (by decide)) (by with_unfolding_all rfl) (pa_cons (pv 0) (pa_cons (pe_op (op_addK (K := K)) (pv 2) pe_int) pa_nil))))
      (pss_one (ps_setcomp (i := 4) ["_law_k"] ["_law_line", "_law_cut"] [1, 7] (by with_unfolding_all rfl) (by with_unfolding_all rfl) (by with_unfolding_all rfl) sc__law_pairs.nd (by with_unfolding_all rfl) (by with_unfolding_all rfl) (pi_range1 (by with_unfolding_all rfl) T.b_range (pa_cons (pe_op op_sub (pv 2) pe_int) pa_nil)) (fun _ _ _ _ => (pg_name (i := 0) (by with_unfolding_all (show (["_law_k", "_law_line", "_law_cut"] : List Str).Nodup; decide +kernel)) (by with_unfolding_all rfl) (by with_unfolding_all exact Or.inl rfl))) (gk_name (by decide)) (fun _ _ _ _ => (pif_one (pt_cmpR (op_neK (K := K) hq) (pe_op (op_addK (K := K)) (pv 0) pe_int) (pv 2) (nomark _)))) (fun _ _ _ _ => (pe_tup (pa_cons (pe_ix (ix_anyK (K := K) hu) (pv 1) (pv 0) (by with_unfolding_all exact fun _ _ => rfl)) (pa_cons (pe_ix (ix_anyK (K := K) hu) (pv 1) (pe_op (op_addK (K := K)) (pv 0) pe_int) (by with_unfolding_all exact fun _ _ => rfl)) pa_nil))))))) pss_nil)
      (pss_cons (ps_if (pt_cmpR (op_eqK (K := K) hq) (pv 3) pe_int (nomark _)) (pss_one (ps_setcomp (i := 4) ["_law_k"] ["_law_line", "_law_feed_here"] [1, 0] (by with_unfolding_all rfl) (by with_unfolding_all rfl) (by with_unfolding_all rfl) sc__law_pairs.nd (by with_unfolding_all rfl) (by with_unfolding_all rfl) (pi_range2 (by with_unfolding_all rfl) T.b_range (pa_cons pe_int (pa_cons (pv 2) pa_nil))) (fun _ _ _ _ => (pg_name (i := 0) (by with_unfolding_all (show (["_law_k", "_law_line", "_law_feed_here"] : List Str).Nodup; decide +kernel)) (by with_unfolding_all rfl) (by with_unfolding_all exact Or.inl rfl))) (gk_name (by decide)) (fun _ _ _ _ => (pif_one (pt_cmpR op_gt (pe_fn c__law_draw (hr.mono (by decide)) (by with_unfolding_all rfl) (pa_cons (pv 2) (pa_cons pe_int pa_nil))) pe_int (nomark _)))) (fun _ _ _ _ => (pe_tup (pa_cons (pe_ix (ix_anyK (K := K) hu) (pv 1) (pe_fn c__law_draw (hr.mono (by decide)) (by with_unfolding_all rfl) (pa_cons (pv 2) (pa_cons (pv 0) pa_nil))) (by with_unfolding_all exact fun _ _ => rfl)) (pa_cons (pe_ix (ix_anyK (K := K) hu) (pv 1) (pv 0) (by with_unfolding_all exact fun _ _ => rfl)) pa_nil)))))) pss_nil)
      (pss_cons (ps_if (pt_cmpR (op_eqK (K := K) hq) (pv 3) pe_int (nomark _)) (pss_cons (ps_set (i := 7) sc__law_pairs.nd (by with_unfolding_all rfl) (by with_unfolding_all exact Or.inr rfl) (pe_fn c__law_draw (hr.mono (by decide)) (by with_unfolding_all rfl) (pa_cons (pv 0) (pa_cons (pe_op (op_addK (K := K)) (pv 2) pe_int) pa_nil))))
      (pss_one (ps_for PassesOwn.never (by with_unfolding_all rfl) (pi_anyK (K := K) hu (pe_slice (sl_K (K := K)) (pv 1) po_none (po_some (pv 7)))) (pg_name (i := 8) sc__law_pairs.nd (by with_unfolding_all rfl) (by with_unfolding_all exact Or.inr rfl))
      (pss_one (ps_expr (pe_bmK (K := K) PySem.F.plainAttrs_list PySem.F.slot_list_extend PySem.F.type_list_extend (mm mt_extend) (pv 4) (pa_cons (pe_comp ["_law_other"] ["_law_one"] [8] (by with_unfolding_all rfl) (by with_unfolding_all rfl) (by with_unfolding_all rfl) (pi_anyK (K := K) hu (pe_slice (sl_K (K := K)) (pv 1) (po_some (pv 7)) po_none)) (fun _ _ _ _ => (pg_name (i := 0) (by with_unfolding_all (show (["_law_other", "_law_one"] : List Str).Nodup; decide +kernel)) (by with_unfolding_all rfl) (by with_unfolding_all exact Or.inl rfl))) (gk_name (by decide)) (fun _ _ _ _ => pif_nil) (fun _ _ _ _ => (pe_tup (pa_cons (pv 1) (pa_cons (pv 0) pa_nil))))) pa_nil))))))) pss_nil)
      (pss_one (ps_ret (pv 4)))))))))), ?_⟩
    walk_at "rd"
    rw [List.length_map]
    refine ⟨d, l, _, rfl, hF, by omega, by omega, fun way H1 hw0 hw1 e1 hF1 => ?_⟩
    have had : a ≠ d := hF.lst hA
    walk_at "rd"
    refine i_newL (by decide) fun p H2 hp2 e2 h2 => ?_
    walk_at "rq"
    have hp0 : H p = none := hF1.free e1 hp2
    have hF2 : Feed H2 d l := by walk_at "fd"
    have hA2 : H2 a = some (.lst (ls.map V.str)) := by walk_at "lk"
    with_reducible refine i_cut (MP K H d l a ls way (way = 5)) (fun N hN => ?_) (fun σ1 H3 hM => ?_)
    · walk_at "rq"
      have done0 : N [some (V.ref d), some (.ref a), some (.int (ls.length : Nat)), some (.int way), some (.ref p), none, none, none, none] H2 := hN _ _ ⟨p, [], [], none, none, none, none, rfl, hp0, by walk_at "fr", hF2, h2, .nil, .nil, by decide, fun _ => rfl⟩
      refine iteD (fun hw => ?_) (fun hw => ?_)
      · walk_at "rq"
        refine iteD (fun hm => ?_) (fun hm => ?_)
        · walk_at "rq"
          refine i_newL (line_of (by simp)) fun q H3 hq3 e3 h3 => ?_
          have hm3 : ∃ m, atI [V.int ((ls.length : Nat) / 2), V.int (ls.length : Nat), V.int (3 * (ls.length : Nat))] way = some (V.int m) ∧ 0 ≤ m ∧ m ≤ 30 := by
            rcases (by omega : way = 0 ∨ way = 1 ∨ way = 2) with rfl | rfl | rfl
            · exact ⟨_, rfl, by omega, by omega⟩
            · exact ⟨_, rfl, by omega, by omega⟩
            · exact ⟨_, rfl, by omega, by omega⟩
          obtain ⟨m, hm1, hm2, hm3⟩ := hm3
          walk_at "rq"
          refine i_ixL h3 hm1 ?_
          walk_at "rq"
          refine i_rngv (by omega) ?_
          refine for_by walk_range (fun i σ H4 => ∃ xs ps x5 x6, σ = [some (V.ref d), some (.ref a), some (.int (ls.length : Nat)), some (.int way), some (.ref p), x5, x6, none, none] ∧ ExtBut d H H4 ∧ Feed H4 d l ∧ H4 p = some (.lst xs) ∧ IsL K H4 (ps.map prD) xs ∧ Up ls ps ∧ ps.length = i)
            ⟨[], [], none, none, rfl, by walk_at "fr", by walk_at "fd", by walk_at "lk", .nil, .nil, rfl⟩ (fun _ _ _ _ => trivial) (fun i x σ H4 hx4 hi hP => ?_) (fun σ H4 hP => ?_)
          · obtain ⟨xs, ps, x5, x6, rfl, e4, hF4, h4, hI4, hU, hpl⟩ := hP
            obtain ⟨rfl, hi2⟩ := rng_get hx4
            have hA4 : H4 a = some (.lst (ls.map V.str)) := e4 _ _ had hA
            walk_at "rd"
            refine ⟨d, l, _, rfl, hF4, by omega, by omega, fun u H5 hu0 hu1 e5 hF5 => ?_⟩
            obtain ⟨z1, hz1, hz1', _⟩ := str_at? (ls := ls) (i := u) hu0 (by omega)
            have hA5 : H5 a = some (.lst (ls.map V.str)) := e5 _ _ had hA4
            have h5 : H5 p = some (.lst xs) := e5 _ _ (hF4.lst h4) h4
            walk_at "rd"
            refine i_ixL hA5 hz1' ?_
            walk_at "rd"
            refine ⟨d, l, _, rfl, hF5, by omega, by omega, fun u2 H6 hv0 hv1 e6 hF6 => ?_⟩
            obtain ⟨z2, hz2, hz2', _⟩ := str_at? (ls := ls) (i := u + 1 + u2) (by omega) (by omega)
            have hA6 : H6 a = some (.lst (ls.map V.str)) := e6 _ _ had hA5
            have h6 : H6 p = some (.lst xs) := e6 _ _ (hF5.lst h5) h5
            walk_at "rd"
            refine i_ixL hA6 hz2' ?_
            walk_at "rd"
            refine i_newT (line_of (by simp)) fun t H7 ht7 e7 h7 => ?_
            have h7p : H7 p = some (.lst xs) := e7 _ _ h6
            have hxl := len_prs hI4
            walk_at "rd"
            refine i_appR h7p (by omega) fun H8 e8 h8 => ?_
            walk_at "rd"
            have fz8 : Fz H7 H8 := e8.fzL h7p
            have fz7 : Fz H4 H7 := ((hF4.fz e5).trans (hF5.fz e6)).trans e7.fz
            refine ⟨xs ++ [.ref t], ps ++ [(z1, z2)], _, _, rfl, by walk_at "fr", by walk_at "fd", h8, ?_, ?_, by simp [hpl]⟩
            · rw [List.map_append]
              exact (IsL.fz (fz7.trans fz8) _ _ (frzL_prs ps) hI4).append (.one ((is_pr (SqT.of h7)).pr_fz fz8))
            · exact hU.append (.one (by omega) hz1 hz2)
          · obtain ⟨xs, ps, x5, x6, rfl, e4, hF4, h4, hI4, hU, hpl⟩ := hP
            rw [List.length_map, List.length_range] at hpl
            exact hN _ _ ⟨p, xs, ps, _, _, _, _, rfl, hp0, e4, hF4, h4, hI4, hU, by omega, fun q => by omega⟩
        · walk_at "rq"
          exact done0
      · walk_at "rq"
        exact done0
    · obtain ⟨p3, xs3, ps3, x5, x6, x7, x8, rfl, hp3, e3, hF3, h3, hI3, hU3, hl3, hE3⟩ := hM
      have hA3 : H3 a = some (.lst (ls.map V.str)) := e3 _ _ had hA
      with_reducible refine i_cut (MP K H d l a ls way (way = 5)) (fun N hN => ?_) (fun σ1 H4 hM => ?_)
      · walk_at "rq"
        refine iteD (fun hw => ?_) (fun hw => ?_)
        · walk_at "rd"
          refine ⟨d, l, _, rfl, hF3, by omega, by omega, fun cut H4 hc0 hc1 e4 hF4 => ?_⟩
          have hA4 : H4 a = some (.lst (ls.map V.str)) := e4 _ _ had hA3
          walk_at "rd"
          refine i_rngv (by omega) ?_
          refine comp_dat (K := K) walk_range (List.range ((ls.length : Nat) - 1 : Int).toNat) (by simp) (fun k => !decide (V.int ((0 : Int) + (k : Nat) + 1) = V.int cut)) (fun k => prD (ls.getD k "", ls.getD (k + 1) "")) (fun _ => frz_pr _) (by simp; omega) (fun _ _ => trivial) (fun i k v H5 R R' hk hv e5 hR hR' => ?_) (fun p5 ys H5 hp5 e5 h5 hI5 => ?_)
          · obtain ⟨rfl, hi2⟩ := rng_get hv
            have hki : i = k := by
              obtain ⟨_, h2⟩ := List.getElem?_eq_some_iff.mp hk
              rw [List.getElem_range] at h2
              exact h2
            subst hki
            have hA5 : H5 a = some (.lst (ls.map V.str)) := e5 _ _ hA4
            walk_at "rd"
            refine iteND (fun hc => ?_) (fun hc => ?_)
            · obtain ⟨z1, hz1, hz1', _⟩ := str_at? (ls := ls) (i := 0 + (i : Int)) (by omega) (by omega)
              obtain ⟨z2, hz2, hz2', _⟩ := str_at? (ls := ls) (i := 0 + (i : Int) + 1) (by omega) (by omega)
              walk_at "rd"
              refine i_ixL hA5 hz1' ?_
              walk_at "rd"
              refine i_ixL hA5 hz2' ?_
              walk_at "rd"
              refine i_newT (line_of (by simp)) fun t H6 ht6 e6 h6 => ?_
              have q1 : (0 + (i : Int)).toNat = i := by omega
              have q2 : (0 + (i : Int) + 1).toNat = i + 1 := by omega
              rw [q1] at hz1
              rw [q2] at hz2
              refine hR (by rw [decide_eq_false hc]; rfl) _ _ e6 ?_
              rw [getD_of hz1, getD_of hz2]
              exact is_pr (SqT.of h6)
            · exact hR' (by rw [decide_eq_true hc]; rfl) _ (Same.refl _)
          · walk_at "rd"
            rw [map_prD] at hI5
            have hp0' : H p5 = none := hF4.free (by walk_at "fr") hp5
            refine hN _ _ ⟨p5, ys, _, _, _, _, _, rfl, hp0', by walk_at "fr", by walk_at "fd", h5, hI5, fun pr hpr => ?_, ?_, fun q => by cases hw; cases q⟩
            · obtain ⟨j, hj, rfl⟩ := List.mem_map.mp hpr
              have hj := List.mem_range.mp (List.mem_filter.mp hj).1
              exact ⟨j, j + 1, by omega, get_getD (by omega), get_getD (by omega)⟩
            · rw [List.length_map]
              refine Nat.le_trans (List.length_filter_le _ _) ?_
              rw [List.length_range]
              omega
        · walk_at "rq"
          exact hN _ _ ⟨p3, xs3, ps3, x5, x6, x7, x8, rfl, hp3, e3, hF3, h3, hI3, hU3, hl3, hE3⟩
      · obtain ⟨p4, xs4, ps4, y5, y6, y7, y8, rfl, hp4, e4, hF4, h4, hI4, hU4, hl4, hE4⟩ := hM
        have hA4 : H4 a = some (.lst (ls.map V.str)) := e4 _ _ had hA
        with_reducible refine i_cut (MP K H d l a ls way (way = 5)) (fun N hN => ?_) (fun σ1 H5 hM => ?_)
        · walk_at "rq"
          refine iteD (fun hw => ?_) (fun hw => ?_)
          · walk_at "rd"
            refine i_rngw (by omega) ?_
            refine comp_by walk_range (fun p i acc H5 => ∃ ps, ExtBut d H H5 ∧ Feed H5 d l ∧ IsL K H5 (ps.map prD) acc ∧ Up ls ps ∧ ps.length ≤ i) (fun p H5 hp e5 h5 => ⟨[], by walk_at "fr", by walk_at "fd", .nil, .nil, Nat.le_refl _⟩) (fun _ _ _ _ _ => trivial) (fun p i x acc H5 hp hx hi hl5 ha hP => ?_) fun p acc H5 hp ha hl5 hP => ?_
            · obtain ⟨ps, e5, hF5, hI5, hU5, hpl5⟩ := hP
              obtain ⟨rfl, hi2⟩ := rng_get hx
              have hp0' : H p = none := hF4.free e4 hp
              have hpd : p ≠ d := Ne.symm (hF4.nd hp)
              walk_at "rd"
              refine ⟨d, l, _, rfl, hF5, by omega, by omega, fun u H6 hu0 hu1 e6 hF6 => ?_⟩
              walk_at "rd"
              have h6 : H6 p = some (.lst acc) := e6 _ _ hpd ha
              have hA6 : H6 a = some (.lst (ls.map V.str)) := e6 _ _ had (e5 _ _ had hA)
              refine iteD (fun hc => ?_) (fun hc => ?_)
              · walk_at "rd"
                refine ⟨d, l, _, rfl, hF6, by omega, by omega, fun u2 H7 hv0 hv1 e7 hF7 => ?_⟩
                have h7 : H7 p = some (.lst acc) := e7 _ _ hpd h6
                have hA7 : H7 a = some (.lst (ls.map V.str)) := e7 _ _ had hA6
                obtain ⟨z1, hz1, hz1', _⟩ := str_at? (ls := ls) (i := u2) hv0 (by omega)
                obtain ⟨z2, hz2, hz2', _⟩ := str_at? (ls := ls) (i := 1 + (i : Int)) (by omega) (by omega)
                walk_at "rd"
                refine i_ixL hA7 hz1' ?_
                walk_at "rd"
                refine i_ixL hA7 hz2' ?_
                walk_at "rd"
                refine i_newT (line_of (by simp)) fun t H8 ht8 e8 h8 => ?_
                have h8p : H8 p = some (.lst acc) := e8 _ _ h7
                refine push_i (by simp; omega) hi hl5 h8p fun H9 e9 h9 => ?_
                have fz9 : Fz H8 H9 := e9.fzL h8p
                have fz8 : Fz H5 H8 := ((hF5.fz e6).trans (hF6.fz e7)).trans e8.fz
                refine ⟨ps ++ [(z1, z2)], by walk_at "fr", by walk_at "fd", ?_, hU5.append (.one (by omega) hz1 hz2), by simp [hpl5]⟩
                rw [List.map_append]
                exact (IsL.fz (fz8.trans fz9) _ _ (frzL_prs ps) hI5).append (.one ((is_pr (SqT.of h8)).pr_fz fz9))
              · refine cn_skip hi hl5 h6 ⟨ps, by walk_at "fr", hF6, IsL.fz (hF5.fz e6) _ _ (frzL_prs ps) hI5, hU5, by omega⟩
            · obtain ⟨ps, e5, hF5, hI5, hU5, hpl5⟩ := hP
              rw [List.length_map, List.length_range] at hpl5
              walk_at "rd"
              exact hN _ _ ⟨p, acc, ps, _, _, _, _, rfl, hF4.free e4 hp, e5, hF5, ha, hI5, hU5, by omega, fun q => by cases hw; cases q⟩
          · walk_at "rq"
            exact hN _ _ ⟨p4, xs4, ps4, _, _, _, _, rfl, hp4, e4, hF4, h4, hI4, hU4, hl4, hE4⟩
        · obtain ⟨p5, xs5, ps5, z5, z6, z7, z8, rfl, hp5, e5, hF5, h5, hI5, hU5, hl5, hE5⟩ := hM
          have hA5 : H5 a = some (.lst (ls.map V.str)) := e5 _ _ had hA
          with_reducible refine i_cut (MP K H d l a ls way False) (fun N hN => ?_) (fun σ1 H6 hM => ?_)
          · walk_at "rq"
            refine iteD (fun hw => ?_) (fun hw => ?_)
            · walk_at "rd"
              refine ⟨d, l, _, rfl, hF5, by omega, by omega, fun cut H6 hc0 hc1 e6 hF6 => ?_⟩
              have hA6 : H6 a = some (.lst (ls.map V.str)) := e6 _ _ had hA5
              have h6 : H6 p5 = some (.lst xs5) := e6 _ _ (hF5.lst h5) h5
              walk_at "rd"
              refine i_slL (SqL.of hA6) fun q H7 hq7 e7 h7 => ?_
              rw [cut_upto hc0, ← List.map_take] at h7
              have hq0 : H q = none := hF6.free (by walk_at "fr") hq7
              have hp5n : p5 ≠ q := ne_of_none h6 hq7
              refine i_itL (SqL.of h7) ?_
              have hway : way = 5 := by
                cases hw
                rfl
              have hps : ps5 = [] := hE5 hway
              subst hps
              have hxs : xs5 = [] := by simpa only [List.map_nil, L2.IsL] using hI5
              subst hxs
              have hdrop : ∀ H8, ExtBut d H H8 → H8 a = some (.lst (ls.map V.str)) := fun H8 e8 => e8 _ _ had hA
              refine for_by (walk_list (xs := (ls.take cut.toNat).map V.str)) (fun i σ H8 => ∃ xs ps x8, σ = [some (V.ref d), some (.ref a), some (.int (ls.length : Nat)), some (.int way), some (.ref p5), z5, z6, some (.int cut), x8] ∧ ExtBut d H H8 ∧ Feed H8 d l ∧ H8 q = some (.lst ((ls.take cut.toNat).map V.str)) ∧ H8 p5 = some (.lst xs) ∧ IsL K H8 (ps.map prD) xs ∧ Up ls ps ∧ ps.length ≤ i * 10)
                ⟨[], [], _, rfl, by walk_at "fr", by walk_at "fd", h7, by walk_at "lk", .nil, .nil, by decide⟩ (fun i σ H8 hP => ?_) (fun i x σ H8 hx8 hi hP => ?_) (fun σ H8 hP => ?_)
              · obtain ⟨xs, ps, x8, rfl, e8, hF8, hq8, _⟩ := hP
                exact SqL.of hq8
              · obtain ⟨xs, ps, x8, rfl, e8, hF8, hq8, h8, hI8, hU8, hl8⟩ := hP
                rw [List.getElem?_map] at hx8
                cases hz : (ls.take cut.toNat)[i]? with
                | none => rw [hz] at hx8; cases hx8
                | some one =>
                  rw [hz] at hx8
                  cases hx8
                  have hi10 : i < 10 := by
                    have := List.getElem?_eq_some_iff.mp hz
                    obtain ⟨h1, _⟩ := this
                    rw [List.length_take] at h1
                    omega
                  have hone : ls[i]? = some one := by
                    rw [List.getElem?_take] at hz
                    split at hz
                    · exact hz
                    · cases hz
                  have hicut : i < cut.toNat := by
                    rw [List.getElem?_take] at hz
                    split at hz
                    · assumption
                    · cases hz
                  walk_at "rd"
                  refine i_slL (SqL.of (hdrop H8 e8)) fun q9 H9 hq9 e9 h9 => ?_
                  rw [cut_from hc0 (by rw [List.length_map]; omega), ← List.map_drop] at h9
                  refine i_itL (SqL.of h9) ?_
                  refine comp_dat (K := K) (walk_list (xs := (ls.drop cut.toNat).map V.str)) (ls.drop cut.toNat) (by simp) (fun _ => true) (fun o => prD (one, o)) (fun _ => frz_pr _) (by simp; omega) (fun H' e' => SqL.of (e' _ _ h9)) (fun j o v H10 R R' ho hv e10 hR hR' => ?_) (fun p10 ys H10 hp10 e10 h10 hI10 => ?_)
                  · rw [List.getElem?_map, ho] at hv
                    cases hv
                    walk_at "rd"
                    refine i_newT (line_of (by simp)) fun t H11 ht11 e11 h11 => ?_
                    exact hR rfl _ _ e11 (is_pr (SqT.of h11))
                  · walk_at "rd"
                    have h10p : H10 p5 = some (.lst xs) := e10 _ _ (e9 _ _ h8)
                    have hy : ys.length ≤ 10 := by
                      have := IsL.length hI10
                      rw [List.length_map, filter_true, List.length_drop] at this
                      omega
                    have hxl := len_prs hI8
                    refine i_extR h10p h10 (by omega) fun H11 e11 h11 => ?_
                    walk_at "rd"
                    have hq10 : H10 q = some (.lst ((ls.take cut.toNat).map V.str)) := e10 _ _ (e9 _ _ hq8)
                    have fz11 : Fz H10 H11 := e11.fzL h10p
                    rw [filter_true, map_prD] at hI10
                    refine ⟨xs ++ ys, ps ++ (ls.drop cut.toNat).map (fun o => (one, o)), _, rfl, by walk_at "fr", by walk_at "fd", e11 _ _ (Ne.symm hp5n) hq10, h11, ?_, hU8.append fun pr hpr => ?_, ?_⟩
                    · rw [List.map_append]
                      exact (IsL.fz ((e9.fz.trans e10.fz).trans fz11) _ _ (frzL_prs ps) hI8).append (IsL.fz fz11 _ _ (frzL_prs _) hI10)
                    · obtain ⟨o, ho, rfl⟩ := List.mem_map.mp hpr
                      obtain ⟨j, hj, ej⟩ := List.getElem_of_mem ho
                      refine ⟨i, cut.toNat + j, by omega, hone, ?_⟩
                      rw [← List.getElem?_drop, List.getElem?_eq_getElem hj, ej]
                    · rw [List.length_append, List.length_map, List.length_drop, Nat.add_mul]
                      omega
              · obtain ⟨xs, ps, x8, rfl, e8, hF8, hq8, h8, hI8, hU8, hl8⟩ := hP
                rw [List.length_map, List.length_take] at hl8
                exact hN _ _ ⟨p5, xs, ps, _, _, _, _, rfl, hp5, e8, hF8, h8, hI8, hU8, by omega, False.elim⟩
            · walk_at "rq"
              exact hN _ _ ⟨p5, xs5, ps5, _, _, _, _, rfl, hp5, e5, hF5, h5, hI5, hU5, hl5, False.elim⟩
          · obtain ⟨p6, xs6, ps6, w5, w6, w7, w8, rfl, hp6, e6, hF6, h6, hI6, hU6, hl6, hE6⟩ := hM
            walk_at "rd"
            exact k p6 xs6 ps6 H6 hp6 e6 hF6 h6 hI6 hU6 hl6
noncomputable def sp__law_sayings (K : PySem.W.Frag) : Sp := fun vs H Q _ => ∃ d l a ls, vs = [.ref d, .ref a] ∧ Feed H d l ∧ H a = some (.lst (ls.map V.str)) ∧ ls.length ≤ 10 ∧ ∀ v ps H', ExtBut d H H' → Feed H' d l → Is K H' (psD ps) v → Up ls ps → ps.length ≤ 60 → Q v H'
theorem isL_ins {K : PySem.W.Frag} {H : Hp} {ps : List (Str × Str)} {xs : List V} {p : Str × Str} {v : V} (n : Nat) (h : IsL K H (ps.map prD) xs) (hv : Is K H (prD p) v) : IsL K H ((ps.take n ++ p :: ps.drop n).map prD) (insL xs n v) := by
  rw [List.map_append, List.map_cons, List.map_take, List.map_drop]
  exact (IsL.take n h).append (.cons hv (IsL.drop n h))
theorem ok__law_sayings {f : Addr} {fd : FuncData} (F : Fun K "_law_sayings" "_law_sayings" s__law_sayings f fd) (T : TopF mg) (c__law_draw : Fnd P w K mg base 1 "_law_draw" ["_law_feed_here", "_law_many"] (sp__law_draw K)) (c__law_pairs : Fnd P w K mg base 2 "_law_pairs" ["_law_feed_here", "_law_line"] (sp__law_pairs K)) : FnOk P w K mg base CX0 3 f fd ["_law_feed_here", "_law_line"] (sp__law_sayings K) := by
  refine F.ok sc__law_sayings (fun vs H Q E h => ?_) (fun cdv A outer s H vs Q E hr h => ?_)
  · obtain ⟨d, l, a, xs, rfl, _⟩ := h
    rfl
  · obtain ⟨d, l, a, ls, rfl, hF, hA, hl, k⟩ := h
    have hu := hu_of hr
    have hq := qa_of hr
    with_reducible refine ⟨_, (pss_cons (ps_set (i := 2) sc__law_sayings.nd (by with_unfolding_all rfl) (by with_unfolding_all exact Or.inl rfl) (pe_lst pa_nil))
      (pss_cons (ps_for PassesOwn.never (by with_unfolding_all rfl) (pi_anyK (K := K) hu (pe_fn c__law_pairs (hr.mono (by decide)) (by with_unfolding_all rfl) (pa_cons (pv 0) (pa_cons (pv 1) pa_nil)))) (pg_name (i := 3) sc__law_sayings.nd (by with_unfolding_all rfl) (by with_unfolding_all exact Or.inl rfl))
      (pss_one (ps_for PassesOwn.never (by with_unfolding_all rfl) (pi_range1 (by with_unfolding_all rfl) T.b_range (pa_cons (pe_op (op_addK (K := K)) pe_int (pe_callTy call_intA (by with_unfolding_all rfl) T.b_int PyProof.Rows.Boot.«int» (pa_cons (pe_cmpR (op_eqK (K := K) hq) (pe_fn c__law_draw (hr.mono (by decide)) (by with_unfolding_all rfl) (pa_cons (pv 0) (pa_cons pe_int pa_nil))) pe_int (nomark _)) pa_nil))) pa_nil)) (pg_name (i := 4) sc__law_sayings.nd (by with_unfolding_all rfl) (by with_unfolding_all exact Or.inl rfl))
      (pss_one (ps_expr (pe_bmK (K := K) PySem.F.plainAttrs_list PySem.F.slot_list_insert PySem.F.type_list_insert (mm mt_insert) (pv 2) (pa_cons (pe_fn c__law_draw (hr.mono (by decide)) (by with_unfolding_all rfl) (pa_cons (pv 0) (pa_cons (pe_op (op_addK (K := K)) (pe_callB (call_lenK (K := K)) (by with_unfolding_all rfl) T.b_len PyProof.Rows.Boot.«len» (pa_cons (pv 2) pa_nil)) pe_int) pa_nil))) (pa_cons (pv 3) pa_nil))))))))
      (pss_one (ps_ret (pe_callTy (call_tupleK (K := K)) (by with_unfolding_all rfl) T.b_tuple PyProof.Rows.Boot.«tuple» (pa_cons (pe_slice (sl_K (K := K)) (pv 2) po_none (po_some pe_int)) pa_nil)))))), ?_⟩
    walk_at "rd"
    refine i_newL (by decide) fun p H1 hp1 e1 h1 => ?_
    have hA1 : H1 a = some (.lst (ls.map V.str)) := e1 _ _ hA
    have hF1 : Feed H1 d l := hF.same e1
    walk_at "rd"
    refine ⟨d, l, a, ls, rfl, hF1, hA1, hl, fun q xs ps H2 hq2 e2 hF2 h2 hI2 hU2 hl2 => ?_⟩
    have hpd : p ≠ d := Ne.symm (hF.nd hp1)
    have h2p : H2 p = some (.lst []) := e2 _ _ hpd h1
    have hpq : p ≠ q := ne_of_none h1 hq2
    have hq0 : H q = none := e1.free hq2
    have hxl := len_prs hI2
    refine i_itL (SqL.of h2) ?_
    refine for_by (walk_list (xs := xs)) (fun i σ H3 => ∃ ys qs x3 x4, σ = [some (V.ref d), some (.ref a), some (.ref p), x3, x4] ∧ ExtBut d H H3 ∧ Feed H3 d l ∧ H3 q = some (.lst xs) ∧ Fz H2 H3 ∧ H3 p = some (.lst ys) ∧ IsL K H3 (qs.map prD) ys ∧ Up ls qs ∧ qs.length ≤ i * 2)
      ⟨[], [], _, _, rfl, by walk_at "fr", hF2, h2, .refl _, h2p, .nil, .nil, by decide⟩ (fun i σ H3 hP => ?_) (fun i x σ H3 hx3 hi hP => ?_) (fun σ H3 hP => ?_)
    · obtain ⟨ys, qs, x3, x4, rfl, e3, hF3, hq3, _⟩ := hP
      exact SqL.of hq3
    · obtain ⟨ys, qs, x3, x4, rfl, e3, hF3, hq3, fz3, h3p, hI3, hU3, hl3⟩ := hP
      obtain ⟨dp, hdp, hip⟩ := IsL.get hI2 hx3
      rw [List.getElem?_map] at hdp
      cases hpr : ps[i]? with
      | none => rw [hpr] at hdp; cases hdp
      | some pr =>
        rw [hpr] at hdp
        cases hdp
        have hUp : Up ls [pr] := hU2.sub fun z hz => by
          have : z = pr := by simpa using hz
          subst this
          exact List.mem_of_getElem? hpr
        have hi100 : i < 100 := by omega
        walk_at "rd"
        refine ⟨d, l, _, rfl, hF3, by omega, by omega, fun u H4 hu0 hu1 e4 hF4 => ?_⟩
        have h4p : H4 p = some (.lst ys) := e4 _ _ hpd h3p
        have h4q : H4 q = some (.lst xs) := e4 _ _ (hF3.lst hq3) hq3
        have fz4 : Fz H2 H4 := fz3.trans (hF3.fz e4)
        have hI4 : IsL K H4 (qs.map prD) ys := IsL.fz (hF3.fz e4) _ _ (frzL_prs qs) hI3
        walk_at "rd"
        refine i_rngv (by split <;> omega) ?_
        refine for_by walk_range (fun j σ H5 => ∃ zs rs x4, σ = [some (V.ref d), some (.ref a), some (.ref p), some x, x4] ∧ ExtBut d H H5 ∧ Feed H5 d l ∧ H5 q = some (.lst xs) ∧ Fz H2 H5 ∧ H5 p = some (.lst zs) ∧ IsL K H5 (rs.map prD) zs ∧ Up ls rs ∧ rs.length = qs.length + j)
          ⟨ys, qs, _, rfl, by walk_at "fr", hF4, h4q, fz4, h4p, hI4, hU3, rfl⟩ (fun _ _ _ _ => trivial) (fun j x' σ H5 hx5 hj hP => ?_) (fun σ H5 hP => ?_)
        · obtain ⟨zs, rs, x4', rfl, e5, hF5, hq5, fz5, h5p, hI5, hU5, hl5⟩ := hP
          obtain ⟨rfl, hj2⟩ := rng_get hx5
          have hzl := len_prs hI5
          have hj3 : j < 2 := by
            have : (1 + if decide (V.int u = V.int 0) = true then (1 : Int) else 0).toNat ≤ 2 := by split <;> omega
            omega
          walk_at "rd"
          refine ⟨d, l, _, rfl, hF5, by omega, by omega, fun u2 H6 hv0 hv1 e6 hF6 => ?_⟩
          have h6p : H6 p = some (.lst zs) := e6 _ _ hpd h5p
          have h6q : H6 q = some (.lst xs) := e6 _ _ (hF5.lst hq5) hq5
          walk_at "rd"
          refine i_ins h6p hv0 (by omega) (by omega) fun H7 e7 h7p => ?_
          have fz6 : Fz H5 H6 := hF5.fz e6
          have fz7 : Fz H6 H7 := e7.fzL h6p
          walk_at "rd"
          refine ⟨_, _, _, rfl, by walk_at "fr", by walk_at "fd", e7 _ _ (Ne.symm hpq) h6q, (fz5.trans fz6).trans fz7, h7p, isL_ins u2.toNat (IsL.fz (fz6.trans fz7) _ _ (frzL_prs rs) hI5) (Is.fz ((fz5.trans fz6).trans fz7) _ _ (frz_pr pr) hip), ?_, ?_⟩
          · intro z hz
            rcases List.mem_append.mp hz with hz | hz
            · exact hU5 z (List.mem_of_mem_take hz)
            · rcases List.mem_cons.mp hz with rfl | hz
              · exact hUp _ (by simp)
              · exact hU5 z (List.mem_of_mem_drop hz)
          · rw [List.length_append, List.length_cons, List.length_take, List.length_drop]
            omega
        · obtain ⟨zs, rs, x4', rfl, e5, hF5, hq5, fz5, h5p, hI5, hU5, hl5⟩ := hP
          rw [List.length_map, List.length_range] at hl5
          have hj3 : (1 + if decide (V.int u = V.int 0) = true then (1 : Int) else 0).toNat ≤ 2 := by split <;> omega
          exact ⟨zs, rs, _, _, rfl, e5, hF5, hq5, fz5, h5p, hI5, hU5, by omega⟩
    · obtain ⟨ys, qs, x3, x4, rfl, e3, hF3, hq3, fz3, h3p, hI3, hU3, hl3⟩ := hP
      walk_at "rd"
      refine i_slL (SqL.of h3p) fun t H4 ht4 e4 h4 => ?_
      walk_at "rd"
      rw [cut_upto (by decide)] at h4
      refine i_tupleL (SqL.of h4) fun t2 H5 ht5 e5 h5 => ?_
      have hI5 : IsL K H5 (qs.map prD) ys := IsL.mono e5 _ _ (IsL.mono e4 _ _ hI3)
      refine k (.ref t2) (qs.take 60) H5 (by walk_at "fr") (by walk_at "fd") (Is.of_tup (SqT.of h5) ?_) (hU3.sub fun z hz => List.mem_of_mem_take hz) ?_
      · rw [List.map_take]
        exact IsL.take 60 hI5
      · rw [List.length_take]
        omega
noncomputable def OkP (ps : List (Str × Str)) : Prop := ∀ p ∈ ps, PyData.strOk p.1 = true ∧ PyData.strOk p.2 = true
noncomputable def sp__law_behind (K : PySem.W.Frag) : Sp := fun vs H Q _ => ∃ v x ns ps, vs = [v, .str x] ∧ Is K H (hfD ns ps) v ∧ ps.length ≤ 1000 ∧ OkP ps ∧ PyData.strOk x = true ∧ ∀ p (fs : List Str) H', H p = none → Same H H' → H' p = some (.lst (fs.map V.str)) → fs.Nodup → (∀ y, y ∈ fs ↔ Way ps x y) → Q (.ref p) H'
structure BhI (ps : List (Str × Str)) (x : Str) (fs ls : List Str) : Prop where
  nd : fs.Nodup
  way : ∀ y ∈ fs, Way ps x y
  line : ∀ z ∈ ls, z = x ∨ z ∈ fs
  shut : ∀ z, z = x ∨ z ∈ fs → z ∉ ls → ∀ y, (z, y) ∈ ps → y ∈ fs
  few : ls.length ≤ fs.length + 1
theorem BhI.le {ps : List (Str × Str)} {x : Str} {fs ls : List Str} (h : BhI ps x fs ls) : fs.length ≤ ps.length := by
  have := nodup_le (ys := ps.map (·.2)) h.nd fun y hy => (h.way y hy).right
  rwa [List.length_map] at this
structure BhJ (ps : List (Str × Str)) (x here : Str) (fs ls gs ms : List Str) (i : Nat) : Prop where
  nd : gs.Nodup
  way : ∀ y ∈ gs, Way ps x y
  line : ∀ z ∈ ms, z = x ∨ z ∈ gs
  keep : ∀ z ∈ fs, z ∈ gs
  keepL : ∀ z ∈ ls, z ∈ ms
  new : ∀ z ∈ gs, z ∈ fs ∨ z ∈ ms
  seen : ∀ j < i, ∀ y, ps[j]? = some (here, y) → y ∈ gs
  len : gs.length + ls.length = fs.length + ms.length
theorem BhJ.le {ps : List (Str × Str)} {x here : Str} {fs ls gs ms : List Str} {i : Nat} (h : BhJ ps x here fs ls gs ms i) : gs.length ≤ ps.length := by
  have := nodup_le (ys := ps.map (·.2)) h.nd fun y hy => (h.way y hy).right
  rwa [List.length_map] at this
theorem BhJ.step {ps : List (Str × Str)} {x here : Str} {fs ls gs ms : List Str} {i : Nat} {p : Str × Str} (h : BhJ ps x here fs ls gs ms i) (hw : here = x ∨ Way ps x here) (hp : ps[i]? = some p) (h1 : p.1 = here) (h2 : p.2 ∉ gs) : BhJ ps x here fs ls (gs ++ [p.2]) (ms ++ [p.2]) (i + 1) := by
  have hm : (here, p.2) ∈ ps := by rw [← h1]; exact List.mem_of_getElem? hp
  refine ⟨?_, fun y hy => ?_, fun z hz => ?_, fun z hz => List.mem_append_left _ (h.keep z hz), fun z hz => List.mem_append_left _ (h.keepL z hz), fun z hz => ?_, fun j hj y e => ?_, ?_⟩
  · rw [List.nodup_append]
    refine ⟨h.nd, by simp, fun a ha b hb => ?_⟩
    have : b = p.2 := by simpa using hb
    subst this
    intro e
    subst e
    exact h2 ha
  · rcases List.mem_append.mp hy with hy | hy
    · exact h.way y hy
    · have : y = p.2 := by simpa using hy
      subst this
      rcases hw with rfl | hw
      · exact .one hm
      · exact hw.snoc hm
  · rcases List.mem_append.mp hz with hz | hz
    · rcases h.line z hz with e | e
      · exact .inl e
      · exact .inr (List.mem_append_left _ e)
    · exact .inr (List.mem_append_right _ hz)
  · rcases List.mem_append.mp hz with hz | hz
    · rcases h.new z hz with e | e
      · exact .inl e
      · exact .inr (List.mem_append_left _ e)
    · exact .inr (List.mem_append_right _ hz)
  · by_cases hji : j = i
    · subst hji
      rw [hp] at e
      cases e
      exact List.mem_append_right _ (by simp)
    · exact List.mem_append_left _ (h.seen j (by omega) y e)
  · rw [List.length_append, List.length_append, List.length_singleton]
    have := h.len
    omega
theorem BhJ.skip {ps : List (Str × Str)} {x here : Str} {fs ls gs ms : List Str} {i : Nat} {p : Str × Str} (h : BhJ ps x here fs ls gs ms i) (hp : ps[i]? = some p) (h1 : p.1 = here → p.2 ∈ gs) : BhJ ps x here fs ls gs ms (i + 1) := by
  refine ⟨h.nd, h.way, h.line, h.keep, h.keepL, h.new, fun j hj y e => ?_, h.len⟩
  by_cases hji : j = i
  · subst hji
    rw [hp] at e
    cases e
    exact h1 rfl
  · exact h.seen j (by omega) y e
theorem BhJ.done {ps : List (Str × Str)} {x here : Str} {fs ls gs ms : List Str} (I : BhI ps x fs (ls ++ [here])) (h : BhJ ps x here fs ls gs ms ps.length) : BhI ps x gs ms := by
  refine ⟨h.nd, h.way, h.line, fun z hz hm y hy => ?_, ?_⟩
  · by_cases e : z = here
    · subst e
      obtain ⟨j, hj, ej⟩ := List.getElem_of_mem hy
      exact h.seen j hj y (by rw [List.getElem?_eq_getElem hj, ej])
    · have hz' : z = x ∨ z ∈ fs := by
        rcases hz with hz | hz
        · exact .inl hz
        · rcases h.new z hz with q | q
          · exact .inr q
          · exact absurd q hm
      refine h.keep y (I.shut z hz' (fun q => ?_) y hy)
      rcases List.mem_append.mp q with q | q
      · exact hm (h.keepL z q)
      · exact e (by simpa using q)
  · have := h.len
    have := I.few
    rw [List.length_append, List.length_singleton] at this
    omega
theorem ok__law_behind {f : Addr} {fd : FuncData} (F : Fun K "_law_behind" "_law_behind" s__law_behind f fd) (T : TopF mg) : FnOk P w K mg base CX0 1 f fd ["_law_half_here", "_law_name"] (sp__law_behind K) := by
  refine F.ok sc__law_behind (fun vs H Q E h => ?_) (fun cdv A outer s H vs Q E hr h => ?_)
  · obtain ⟨v, x, ns, ps, rfl, _⟩ := h
    rfl
  · obtain ⟨v, x, ns, ps, rfl, hI, hl, hok, hx, k⟩ := h
    have hu := hu_of hr
    have hq := qa_of hr
    with_reducible refine ⟨_, (pss_cons (ps_set (i := 2) sc__law_behind.nd (by with_unfolding_all rfl) (by with_unfolding_all exact Or.inl rfl) (pe_lst pa_nil))
      (pss_cons (ps_set (i := 3) sc__law_behind.nd (by with_unfolding_all rfl) (by with_unfolding_all exact Or.inl rfl) (pe_lst (pa_cons (pv 1) pa_nil)))
      (pss_cons (ps_while PassesOwn.never (pt_cmpR (op_neK (K := K) hq) (pv 3) (pe_lst pa_nil) (nomark _))
      (pss_cons (ps_set (i := 4) sc__law_behind.nd (by with_unfolding_all rfl) (by with_unfolding_all exact Or.inl rfl) (pe_bm0K (K := K) PySem.F.plainAttrs_list PySem.F.slot_list_pop PySem.F.type_list_pop (mm mt_pop) (pv 3)))
      (pss_one (ps_for PassesOwn.never (by with_unfolding_all rfl) (pi_anyK (K := K) hu (pe_ix (ix_anyK (K := K) hu) (pv 0) pe_int (by with_unfolding_all exact fun _ _ => rfl))) (pg_tupK (K := K) (n := 2) (by with_unfolding_all rfl) (pgs_cons (pg_name (i := 5) sc__law_behind.nd (by with_unfolding_all rfl) (by with_unfolding_all exact Or.inl rfl)) (pgs_cons (pg_name (i := 6) sc__law_behind.nd (by with_unfolding_all rfl) (by with_unfolding_all exact Or.inl rfl)) pgs_nil)))
      (pss_one (ps_if (PW.pt (pw_and (pt_cmpR (op_eqK (K := K) hq) (pv 5) (pv 4) (nomark _)) (pw_and1 (pt_cmpR (op_notInK (K := K) hq) (pv 6) (pv 2) (by with_unfolding_all rfl))))) (pss_cons (ps_expr (pe_bmK (K := K) PySem.F.plainAttrs_list PySem.F.slot_list_append PySem.F.type_list_append (mm mt_append) (pv 2) (pa_cons (pv 6) pa_nil)))
      (pss_one (ps_expr (pe_bmK (K := K) PySem.F.plainAttrs_list PySem.F.slot_list_append PySem.F.type_list_append (mm mt_append) (pv 3) (pa_cons (pv 6) pa_nil))))) pss_nil))))))
      (pss_one (ps_ret (pv 2)))))), ?_⟩
    walk_at "rd"
    refine i_newL (by decide) fun p H1 hp1 e1 h1 => ?_
    walk_at "rd"
    refine i_newL (line_of (by simp)) fun q H2 hq2 e2 h2 => ?_
    walk_at "rd"
    have hpq : p ≠ q := ne_of_none h1 hq2
    have hq0 : H q = none := e1.free hq2
    have okn : ∀ y, y = x ∨ Way ps x y → PyData.strOk y = true := fun y hy => by
      rcases hy with rfl | hy
      · exact hx
      · obtain ⟨pr, hpr, e⟩ := List.mem_map.mp hy.right
        exact e ▸ (hok pr hpr).2
    refine i_while (fun m σ H3 => ∃ fs ls x4 x5 x6, σ = [some v, some (.str x), some (.ref p), some (.ref q), x4, x5, x6] ∧ Same H H3 ∧ H3 p = some (.lst (fs.map V.str)) ∧ H3 q = some (.lst (ls.map V.str)) ∧ BhI ps x fs ls ∧ m = 2 * (ps.length - fs.length) + ls.length)
      (2 * (ps.length - ([] : List Str).length) + [x].length) ⟨[], [x], _, _, _, rfl, by walk_at "sm", by walk_at "lk", h2, ⟨by simp, fun _ h => (by cases h), fun z hz => .inl (by simpa using hz), fun z hz hn => (by
        rcases hz with rfl | hz
        · exact absurd (by simp) hn
        · cases hz), by simp⟩, rfl⟩ fun m σ H3 hP => ?_
    obtain ⟨fs, ls, x4, x5, x6, rfl, e3, h3p, h3q, hB, rfl⟩ := hP
    walk_at "rd"
    refine i_newL (by decide) fun t H4 ht4 e4 h4 => ?_
    refine i_neD (dx := .list (ls.map PyData.str)) (dy := .list []) (Is.of_lst (SqL.of (e4 _ _ h3q)) (is_strs ls)) (Is.of_lst (SqL.of h4) .nil) (fine_lst fun z hz => ?_) (by rfl) ?_
    · refine okn z ?_
      rcases hB.line z hz with e | e
      · exact .inl e
      · exact .inr (hB.way z e)
    rw [eqv_nil_strs]
    walk_at "rd"
    refine iteNB (fun hE => ?_) (fun hE => ?_)
    · have hne : ls ≠ [] := by
        intro e
        subst e
        cases hE
      obtain ⟨ls', here, rfl⟩ : ∃ ls' here, ls = ls' ++ [here] := ⟨ls.dropLast, ls.getLast hne, (List.dropLast_concat_getLast hne).symm⟩
      refine i_turn ?_
      walk_at "rd"
      have h4p : H4 p = some (.lst (fs.map V.str)) := e4 _ _ h3p
      have h4q : H4 q = some (.lst (ls'.map V.str ++ [V.str here])) := by rw [e4 _ _ h3q, List.map_append]; rfl
      refine i_popR h4q fun H5 e5 h5q => ?_
      walk_at "rd"
      have h5p : H5 p = some (.lst (fs.map V.str)) := e5 _ _ hpq h4p
      have e05 : Same H H5 := by walk_at "sm"
      refine i_ixH1 (hI.hf_fz e05.fz) fun u hI5 => ?_
      have hle := hB.le
      have hfew := hB.few
      rw [List.length_append, List.length_singleton] at hfew
      refine for_ps hI5 (fun i σ H6 => ∃ gs ms x5 x6, σ = [some v, some (.str x), some (.ref p), some (.ref q), some (.str here), x5, x6] ∧ Same H H6 ∧ Fz H5 H6 ∧ H6 p = some (.lst (gs.map V.str)) ∧ H6 q = some (.lst (ms.map V.str)) ∧ BhJ ps x here fs ls' gs ms i)
        ⟨fs, ls', _, _, rfl, e05, .refl _, h5p, h5q, ⟨hB.nd, hB.way, fun z hz => hB.line z (List.mem_append_left _ hz), fun _ h => h, fun _ h => h, fun _ h => .inl h, fun j hj => absurd hj (Nat.not_lt_zero _), rfl⟩⟩ (fun i σ' H' hP => ?_) (fun i pr w σ' H6 hpr hIp hP => ?_) (fun σ' H6 hP => ?_)
      · obtain ⟨_, _, _, _, _, _, fz, _⟩ := hP
        exact fz
      · obtain ⟨gs, ms, x5', x6', rfl, e6, fz6, h6p, h6q, hJ⟩ := hP
        have hgl := hJ.le
        have hml := hJ.len
        refine i_gpair hIp ?_
        walk_at "rd"
        refine iteD (fun h1 => ?_) (fun h1 => ?_)
        · have h1' : pr.1 = here := by injection h1
          walk_at "rd"
          refine i_ninLN (SqL.of h6p) ?_
          walk_at "rd"
          refine iteND (fun h2 => ?_) (fun h2 => ?_)
          · walk_at "rd"
            refine i_appR h6p (by rw [List.length_map]; omega) fun H7 e7 h7p => ?_
            walk_at "rd"
            have h7q : H7 q = some (.lst (ms.map V.str)) := e7 _ _ (Ne.symm hpq) h6q
            refine i_appR h7q (by rw [List.length_map]; omega) fun H8 e8 h8q => ?_
            walk_at "rd"
            refine ⟨gs ++ [pr.2], ms ++ [pr.2], _, _, rfl, by walk_at "sm", (fz6.trans (e7.fzL h6p)).trans (e8.fzL h7q), ?_, ?_, hJ.step ?_ hpr h1' h2⟩
            · rw [e8 _ _ hpq h7p, List.map_append]
              rfl
            · rw [h8q, List.map_append]
              rfl
            · rcases hB.line here (List.mem_append_right _ (by simp)) with e | e
              · exact .inl e
              · exact .inr (hB.way _ e)
          · exact ⟨gs, ms, _, _, rfl, e6, fz6, h6p, h6q, hJ.skip hpr fun _ => h2⟩
        · exact ⟨gs, ms, _, _, rfl, e6, fz6, h6p, h6q, hJ.skip hpr fun e => absurd (by rw [e]) h1⟩
      · obtain ⟨gs, ms, x5', x6', rfl, e6, fz6, h6p, h6q, hJ⟩ := hP
        have hgl := hJ.le
        have hml := hJ.len
        have hge := nodup_le hB.nd hJ.keep
        refine ⟨_, ?_, gs, ms, _, _, _, rfl, e6, h6p, h6q, BhJ.done hB hJ, rfl⟩
        rw [List.length_append, List.length_singleton]
        omega
    · have hn : ls = [] := by
        cases ls with
        | nil => rfl
        | cons _ _ => cases hE
      subst hn
      walk_at "rd"
      refine k p fs H4 hp1 (by walk_at "sm") (e4 _ _ h3p) hB.nd fun y => ⟨hB.way y, fun g => ?_⟩
      exact Way.shut (S := fun y => y ∈ fs) (fun y hy => hB.shut x (.inl rfl) (by simp) y hy) (fun z y hz hy => hB.shut z (.inr hz) (by simp) y hy) g
noncomputable def sp__law_half (K : PySem.W.Frag) : Sp := fun vs H Q _ => ∃ d l n, vs = [.ref d, .int n] ∧ Feed H d l ∧ 0 ≤ n ∧ n ≤ 10 ∧ ∀ v ns ps H', ExtBut d H H' → Feed H' d l → Is K H' (hfD ns ps) v → Half ns ps → ns.length ≤ n.toNat → Q v H'
theorem half_of {ns ls : List Str} {ps : List (Str × Str)} (h : Names ns) (hl : ns.length ≤ 10) (p : ls.Perm ns) (u : Up ls ps) (hp : ps.length ≤ 60) : Half ns ps := ⟨h, hl, hp, ls, p, u⟩
theorem perm_strs {ns : List Str} {ys : List V} (h : ys.Perm (ns.map V.str)) : ∃ ls : List Str, ys = ls.map V.str ∧ ls.Perm ns := by
  refine ⟨ys.map fun v => match v with | .str z => z | _ => "", ?_, ?_⟩
  · rw [List.map_map]
    have : ∀ v ∈ ys, (V.str ∘ fun v => match v with | .str z => z | _ => "") v = v := fun v hv => by
      obtain ⟨z, _, rfl⟩ := List.mem_map.mp (h.mem_iff.mp hv)
      rfl
    rw [List.map_congr_left this]
    simp
  · have := h.map fun v => match v with | .str z => z | _ => ("" : Str)
    rw [List.map_map] at this
    have e : ns.map ((fun v => match v with | .str z => z | _ => ("" : Str)) ∘ V.str) = ns := by
      rw [show ((fun v => match v with | .str z => z | _ => ("" : Str)) ∘ V.str) = id from rfl, List.map_id]
    rw [e] at this
    exact this
theorem ok__law_half {f : Addr} {fd : FuncData} (F : Fun K "_law_half" "_law_half" s__law_half f fd) (T : TopF mg) (c__law_draw : Fnd P w K mg base 1 "_law_draw" ["_law_feed_here", "_law_many"] (sp__law_draw K)) (c__law_names : Fnd P w K mg base 2 "_law_names" ["_law_feed_here", "_law_many"] (sp__law_names K)) (c__law_shuffled : Fnd P w K mg base 2 "_law_shuffled" ["_law_feed_here", "_law_some"] (sp__law_shuffled K)) (c__law_sayings : Fnd P w K mg base 3 "_law_sayings" ["_law_feed_here", "_law_line"] (sp__law_sayings K)) : FnOk P w K mg base CX0 4 f fd ["_law_feed_here", "_law_most"] (sp__law_half K) := by
  refine F.ok sc__law_half (fun vs H Q E h => ?_) (fun cdv A outer s H vs Q E hr h => ?_)
  · obtain ⟨d, l, n, rfl, _⟩ := h
    rfl
  · obtain ⟨d, l, n, rfl, hF, h0, h10, k⟩ := h
    have hu := hu_of hr
    have hq := qa_of hr
    with_reducible refine ⟨_, (pss_cons (ps_set (i := 2) sc__law_half.nd (by with_unfolding_all rfl) (by with_unfolding_all exact Or.inl rfl) (pe_fn c__law_names (hr.mono (by decide)) (by with_unfolding_all rfl) (pa_cons (pv 0) (pa_cons (pe_fn c__law_draw (hr.mono (by decide)) (by with_unfolding_all rfl) (pa_cons (pv 0) (pa_cons (pe_op (op_addK (K := K)) (pv 1) pe_int) pa_nil))) pa_nil))))
      (pss_one (ps_ret (pe_tup (pa_cons (pe_callTy (call_tupleK (K := K)) (by with_unfolding_all rfl) T.b_tuple PyProof.Rows.Boot.«tuple» (pa_cons (pv 2) pa_nil)) (pa_cons (pe_fn c__law_sayings (hr.mono (by decide)) (by with_unfolding_all rfl) (pa_cons (pv 0) (pa_cons (pe_fn c__law_shuffled (hr.mono (by decide)) (by with_unfolding_all rfl) (pa_cons (pv 0) (pa_cons (pv 2) pa_nil))) pa_nil))) pa_nil)))))), ?_⟩
    walk_at "rd"
    refine ⟨d, l, _, rfl, hF, by omega, by omega, fun u H1 hu0 hu1 e1 hF1 => ?_⟩
    walk_at "rd"
    refine ⟨d, l, _, rfl, hF1, by omega, by omega, fun p2 ns H2 hp2 e2 hF2 h2 hN hl => ?_⟩
    walk_at "rd"
    refine i_tupleL (SqL.of h2) fun t3 H3 ht3 e3 h3 => ?_
    have hF3 := hF2.same e3
    have hI3 : Is K H3 (nmD ns) (.ref t3) := is_nm (SqT.of h3)
    walk_at "rd"
    refine ⟨d, l, p2, _, rfl, hF3, .inl (SqL.of (e3 _ _ h2)), by rw [List.length_map]; omega, fun p4 ys4 H4 hp4 e4 hF4 h4 hperm => ?_⟩
    obtain ⟨ls, rfl, hpm⟩ := perm_strs hperm
    have fz4 := hF3.fz e4
    walk_at "rd"
    refine ⟨d, l, p4, ls, rfl, hF4, h4, by rw [hpm.length_eq]; omega, fun v5 ps H5 e5 hF5 hI5 hU hl5 => ?_⟩
    have fz5 := hF4.fz e5
    walk_at "rd"
    refine i_newT (line_of (by simp)) fun t6 H6 ht6 e6 h6 => ?_
    exact k (.ref t6) ns ps H6 (by walk_at "fr") (by walk_at "fd") (is_hf (SqT.of h6) (hI3.nm_fz ((fz4.trans fz5).trans e6.fz)) (hI5.ps_fz e6.fz)) (half_of hN (by omega) hpm hU hl5) (by omega)
noncomputable def sp_behind_each (K : PySem.W.Frag) : Sp := fun vs H Q _ => ∃ v ns ps, vs = [v] ∧ Is K H (hfD ns ps) v ∧ HalfC ns ps ∧ ∀ r as H', H r = none → (∀ a ∈ as, H a = none) → Same H H' → Tab H' r ns as (Way ps) → Q (.ref r) H'
theorem ok_behind_each {f : Addr} {fd : FuncData} (F : Fun K "behind_each" "behind_each" s_behind_each f fd) (T : TopF mg) : FnOk P w K mg base CX0 1 f fd ["half"] (sp_behind_each K) := by
  refine F.ok sc_behind_each (fun vs H Q E h => ?_) (fun cdv A outer s H vs Q E hr h => ?_)
  · obtain ⟨v, ns, ps, rfl, _⟩ := h
    rfl
  · obtain ⟨v, ns, ps, rfl, hI, hW, k⟩ := h
    have hu := hu_of hr
    have hq := qa_of hr
    have hn := hW.nd
    have hfew := hW.few
    with_reducible refine ⟨_, (pss_cons (ps_set (i := 1) sc_behind_each.nd (by with_unfolding_all rfl) (by with_unfolding_all exact Or.inl rfl) (pe_ix (ix_anyK (K := K) hu) (pv 0) pe_int (by with_unfolding_all exact fun _ _ => rfl)))
      (pss_cons (ps_set (i := 2) sc_behind_each.nd (by with_unfolding_all rfl) (by with_unfolding_all exact Or.inl rfl) (pe_callTy (call_dictK (K := K) hr.hd) (by with_unfolding_all rfl) T.b_dict PyProof.Rows.Boot.«dict» (pa_cons (pe_comp ["name"] [] [] (by with_unfolding_all rfl) (by with_unfolding_all rfl) (by with_unfolding_all rfl) (pi_anyK (K := K) hu (pv 1)) (fun _ _ _ _ => (pg_name (i := 0) (by with_unfolding_all (show (["name"] : List Str).Nodup; decide +kernel)) (by with_unfolding_all rfl) (by with_unfolding_all exact Or.inl rfl))) (gk_name (by decide)) (fun _ _ _ _ => pif_nil) (fun _ _ _ _ => (pe_tup (pa_cons (pv 0) (pa_cons pe_dnewK pa_nil))))) pa_nil)))
      (pss_cons (ps_for PassesOwn.never (by with_unfolding_all rfl) (pi_anyK (K := K) hu (pe_ix (ix_anyK (K := K) hu) (pv 0) pe_int (by with_unfolding_all exact fun _ _ => rfl))) (pg_name (i := 3) sc_behind_each.nd (by with_unfolding_all rfl) (by with_unfolding_all exact Or.inl rfl))
      (pss_one (ps_dput hu (pe_ix (ix_anyK (K := K) hu) (pv 2) (pe_ix (ix_anyK (K := K) hu) (pv 3) pe_int (by with_unfolding_all exact fun _ _ => rfl)) (by with_unfolding_all exact fun _ _ => rfl)) (pe_ix (ix_anyK (K := K) hu) (pv 3) pe_int (by with_unfolding_all exact fun _ _ => rfl)) pe_bl (by with_unfolding_all rfl))))
      (pss_cons (ps_for PassesOwn.never (by with_unfolding_all rfl) (pi_anyK (K := K) hu (pv 1)) (pg_name (i := 4) sc_behind_each.nd (by with_unfolding_all rfl) (by with_unfolding_all exact Or.inl rfl))
      (pss_one (ps_for PassesOwn.never (by with_unfolding_all rfl) (pi_anyK (K := K) hu (pv 1)) (pg_name (i := 5) sc_behind_each.nd (by with_unfolding_all rfl) (by with_unfolding_all exact Or.inl rfl))
      (pss_one (ps_if (pt_cmpR (op_inK (K := K) hq) (pv 4) (pe_ix (ix_anyK (K := K) hu) (pv 2) (pv 5) (by with_unfolding_all exact fun _ _ => rfl)) (by with_unfolding_all rfl)) (pss_one (ps_expr (pe_bmK (K := K) PySem.F.plainAttrs_dict PySem.F.slot_dict_update PySem.F.type_dict_update (mm mt_updateA) (pe_ix (ix_anyK (K := K) hu) (pv 2) (pv 5) (by with_unfolding_all exact fun _ _ => rfl)) (pa_cons (pe_ix (ix_anyK (K := K) hu) (pv 2) (pv 4) (by with_unfolding_all exact fun _ _ => rfl)) pa_nil)))) pss_nil)))))
      (pss_one (ps_ret (pv 2))))))), ?_⟩
    walk_at "rd"
    refine i_ixH0 hI fun nv hN => ?_
    walk_at "rd"
    obtain ⟨na, rfl, hS⟩ := hN.nm
    refine i_itT hS ?_
    refine comp_by (walk_tup (xs := ns.map V.str)) (fun p i acc H1 => Same H H1 ∧ ∃ as : List Addr, as.length = i ∧ as.Nodup ∧ (∀ a ∈ as, H1 a = some (.dK []) ∧ H a = none) ∧ PrsK K H1 (tabK (ns.take i) as) acc) (fun p H' hp e h => ⟨e, [], rfl, by simp, fun _ h => (by cases h), by rfl⟩) (fun p i acc H1 hP => hP.1.seqT hS) (fun p i x acc H1 hp hx hi hl ha hP => ?_) fun p acc H1 hp ha hl hP => ?_
    · obtain ⟨e1, as, hal, had, haf, hpr⟩ := hP
      rw [List.getElem?_map] at hx
      cases hz : ns[i]? with
      | none => rw [hz] at hx; cases hx
      | some z =>
        rw [hz] at hx
        cases hx
        have hin : i < ns.length := (List.getElem?_eq_some_iff.mp hz).1
        walk_at "rd"
        refine i_newD fun b H2 hb2 e2 h2 => ?_
        walk_at "rd"
        refine i_newT (line_of (by simp)) fun t H3 ht3 e3 h3 => ?_
        have h3p : H3 p = some (.lst acc) := e3 _ _ (e2 _ _ ha)
        refine push_i (by rw [List.length_map]; omega) hi hl h3p fun H4 e4 h4 => ?_
        have hbp : b ≠ p := Ne.symm (ne_of_none ha hb2)
        refine ⟨by walk_at "sm", as ++ [b], by simp [hal], ?_, fun a ha' => ?_, ?_⟩
        · rw [List.nodup_append]
          refine ⟨had, by simp, fun a ha1 c hc e => ?_⟩
          have : c = b := by simpa using hc
          subst this
          subst e
          have := (haf _ ha1).1
          rw [hb2] at this
          cases this
        · rcases List.mem_append.mp ha' with ha' | ha'
          · obtain ⟨q1, q2⟩ := haf a ha'
            exact ⟨e4 _ _ (ne_of q1 ha (by intro z; cases z)) (e3 _ _ (e2 _ _ q1)), q2⟩
          · have : a = b := by simpa using ha'
            subst this
            exact ⟨e4 _ _ hbp (e3 _ _ h2), e1.free hb2⟩
        · have ht : ns.take (i + 1) = ns.take i ++ [z] := by rw [List.take_add_one, hz]; rfl
          have hlen : (ns.take i).length = as.length := by rw [List.length_take, hal]; omega
          rw [ht, tab_snoc hlen]
          have fz4 := e4.fzL h3p
          exact PrsK.snoc (kv := (Sum.inr z, V.ref b)) (fz4.seq (SqT.of h3)) (PrsK.fz ((e2.fz.trans e3.fz).trans fz4) hpr)
    · obtain ⟨e1, as, hal, had, haf, hpr⟩ := hP
      rw [List.length_map] at hal
      rw [List.length_map, List.take_length] at hpr
      walk_at "rd"
      refine i_dict ha hpr (by unfold tabK; rw [List.length_map, List.length_zip]; omega) fun r H2 hr2 e2 h2 => ?_
      rw [merge_new _ _ (keys_tab hn) (fun _ _ _ h => by cases h), List.nil_append] at h2
      have hr0 : H r = none := e1.free hr2
      have hra : r ∉ as := fun hm => by
        have := (haf r hm).1
        rw [hr2] at this
        cases this
      have hT0 : Tab H2 r ns as (fun z y => (z, y) ∈ ps.take 0) := ⟨hal, had, hra, h2, fun i z a hz ha' => ⟨[], e2 _ _ (haf a (List.mem_of_getElem? ha')).1, by simp, fun _ h => (by cases h), fun y => by simp⟩⟩
      walk_at "rd"
      refine i_ixH1 (hI.hf_fz (by walk_at "fz")) fun pv hP2 => ?_
      refine for_ps hP2 (fun i σ H3 => ∃ x3, σ = [some v, some (.ref na), some (.ref r), x3, none, none] ∧ Same H H3 ∧ Fz H2 H3 ∧ Tab H3 r ns as (fun z y => (z, y) ∈ ps.take i))
        ⟨none, rfl, by walk_at "sm", .refl _, hT0⟩ (fun i σ' H' hP => hP.choose_spec.2.2.1) (fun i pr w σ' H3 hpr hIp hP => ?_) (fun σ' H3 hP => ?_)
      · obtain ⟨x3, rfl, e3, fz3, hT⟩ := hP
        have hpm := hW.mem pr (List.mem_of_getElem? hpr)
        obtain ⟨j, a, hj, haj⟩ := hT.at hpm.1
        obtain ⟨ks, hk1, hk2, hk3, hk4⟩ := hT.row j _ a hj haj
        have hkl : ks.length ≤ ns.length := nodup_le hk2 hk3
        walk_at "rd"
        refine i_ixP0 hIp ?_
        refine i_tab hT hn hj haj ?_
        walk_at "rd"
        refine i_ixP1 hIp ?_
        refine i_dput hk1 (by rw [len_row]; omega) fun H4 e4 h4 => ?_
        rw [put_row] at h4
        walk_at "rd"
        have ha0 : H a = none := (haf a (List.mem_of_getElem? haj)).2
        refine ⟨_, rfl, by walk_at "sm", fz3.trans (e4.fzD hk1), hT.put e4 hn hj haj h4 (nodup_addK hk2) (fun y hy => ?_) (fun y => ?_) (fun z hz hzx y => ?_)⟩
        · rcases mem_addK.mp hy with hy | rfl
          · exact hk3 y hy
          · exact hpm.2
        · rw [mem_addK, hk4, List.take_add_one, hpr, List.mem_append]
          constructor
          · rintro (h | rfl)
            · exact .inl h
            · exact .inr (by simp)
          · rintro (h | h)
            · exact .inl h
            · right
              have : (pr.1, y) = pr := by simpa using h
              rw [← this]
        · rw [List.take_add_one, hpr, List.mem_append]
          constructor
          · exact .inl
          · rintro (h | h)
            · exact h
            · have : (z, y) = pr := by simpa using h
              exact absurd (by rw [← this]) hzx
      · obtain ⟨x3, rfl, e3, fz3, hT⟩ := hP
        rw [List.take_length] at hT
        have hW0 : War ns ps [] (fun z y => (z, y) ∈ ps) := ⟨fun z y h => .one h, fun z y h => h, fun m hm => by cases hm⟩
        walk_at "rd"
        have hN3 : Is K H3 (nmD ns) (.ref na) := hN.nm_fz e3.fz
        refine for_nm hN3 (fun i σ H4 => ∃ x4 x5 R, σ = [some v, some (.ref na), some (.ref r), x3, x4, x5] ∧ Same H H4 ∧ Fz H3 H4 ∧ Tab H4 r ns as R ∧ War ns ps (ns.take i) R)
          ⟨_, _, _, rfl, e3, .refl _, hT, hW0⟩ (fun i σ' H' hP => ?_) (fun i mid σ' H4 hmid hP => ?_) (fun σ' H4 hP => ?_)
        · obtain ⟨_, _, _, _, _, fz, _⟩ := hP
          exact fz
        · obtain ⟨x4, x5, R, rfl, e4, fz4, hT4, hR⟩ := hP
          obtain ⟨jm, am, hjm, ham⟩ := hT4.at (List.mem_of_getElem? hmid)
          have hN4 : Is K H4 (nmD ns) (.ref na) := hN3.nm_fz fz4
          walk_at "rd"
          refine for_nm hN4 (fun j σ H5 => ∃ x5, σ = [some v, some (.ref na), some (.ref r), x3, some (.str mid), x5] ∧ Same H H5 ∧ Fz H4 H5 ∧ Tab H5 r ns as (warR R mid (ns.take j)))
            ⟨_, rfl, e4, .refl _, hT4.congr fun z _ y => ⟨.inl, fun h => h.elim (fun q => q) fun q => absurd q.1 (by simp)⟩⟩ (fun i σ' H' hP => hP.choose_spec.2.2.1) (fun j nm σ' H5 hnm hP => ?_) (fun σ' H5 hP => ?_)
          · obtain ⟨x5', rfl, e5, fz5, hT5⟩ := hP
            obtain ⟨jn, an, hjn, han⟩ := hT5.at (List.mem_of_getElem? hnm)
            obtain ⟨ks, hk1, hk2, hk3, hk4⟩ := hT5.row jn nm an hjn han
            obtain ⟨ms, hm1, hm2, hm3, hm4⟩ := hT5.row jm mid am hjm ham
            have hkl : ks.length ≤ ns.length := nodup_le hk2 hk3
            have hml : ms.length ≤ ns.length := nodup_le hm2 hm3
            have htj : ns.take (j + 1) = ns.take j ++ [nm] := by rw [List.take_add_one, hnm]; rfl
            have hin : mid ∈ ks ↔ R nm mid := (hk4 mid).trans ⟨fun h => h.elim (fun q => q) fun q => q.2.1, .inl⟩
            have hmid2 : ∀ y, y ∈ ms ↔ R mid y := fun y => (hm4 y).trans ⟨fun h => h.elim (fun q => q) fun q => q.2.2, .inl⟩
            have hother : ∀ z ∈ ns, z ≠ nm → ∀ y, warR R mid (ns.take j) z y ↔ warR R mid (ns.take (j + 1)) z y := fun z _ hz y => by
              unfold warR
              rw [htj, List.mem_append, List.mem_singleton]
              simp [hz]
            walk_at "rd"
            refine i_tab hT5 hn hjn han ?_
            refine i_inRow hk1 ?_
            walk_at "rd"
            refine iteD (fun hc => ?_) (fun hc => ?_)
            · have hRn := hin.mp hc
              by_cases hne : nm = mid
              · subst hne
                have hji : jn = jm := by
                  obtain ⟨p1, p2⟩ := List.getElem?_eq_some_iff.mp hjn
                  obtain ⟨q1, q2⟩ := List.getElem?_eq_some_iff.mp hjm
                  exact (List.getElem_inj hn).mp (p2.trans q2.symm)
                subst hji
                rw [han] at ham
                cases ham
                walk_at "rd"
                refine i_tab hT5 hn hjn han ?_
                refine i_tyD hk1 ?_
                walk_at "rd"
                refine i_tab hT5 hn hjn han ?_
                walk_at "rd"
                refine i_updS hk1 ?_
                walk_at "rd"
                refine ⟨_, rfl, e5, fz5, hT5.congr fun z hz y => ?_⟩
                by_cases hzn : z = nm
                · subst hzn
                  unfold warR
                  constructor
                  · exact fun h => .inl (h.elim (fun q => q) fun q => q.2.2)
                  · exact fun h => .inl (h.elim (fun q => q) fun q => q.2.2)
                · exact hother z hz hzn y
              have hane : an ≠ am := fun q => by
                subst q
                obtain ⟨p1, p2⟩ := List.getElem?_eq_some_iff.mp han
                obtain ⟨q1, q2⟩ := List.getElem?_eq_some_iff.mp ham
                have := (List.getElem_inj hT5.nd).mp (p2.trans q2.symm)
                subst this
                rw [hjn] at hjm
                exact hne (Option.some.inj hjm)
              walk_at "rd"
              refine i_tab hT5 hn hjn han ?_
              refine i_tyD hk1 ?_
              walk_at "rd"
              refine i_tab hT5 hn hjm ham ?_
              walk_at "rd"
              refine i_updA hk1 hm1 hane (by omega) fun H6 e6 h6 => ?_
              walk_at "rd"
              have ha0 : H an = none := (haf an (List.mem_of_getElem? han)).2
              refine ⟨_, rfl, by walk_at "sm", fz5.trans (e6.fzD hk1), hT5.put e6 hn hjn han h6 (nodup_addAll hk2) (fun y hy => ?_) (fun y => ?_) hother⟩
              · rcases mem_addAll.mp hy with hy | hy
                · exact hk3 y hy
                · exact hm3 y hy
              · rw [mem_addAll, hk4, hmid2]
                unfold warR
                rw [htj, List.mem_append, List.mem_singleton]
                constructor
                · rintro ((h | h) | h)
                  · exact .inl h
                  · exact .inr ⟨.inl h.1, h.2⟩
                  · exact .inr ⟨.inr rfl, hRn, h⟩
                · rintro (h | h)
                  · exact .inl (.inl h)
                  · exact .inr h.2.2
            · have hRn : ¬ R nm mid := fun q => hc (hin.mpr q)
              walk_at "rd"
              refine ⟨_, rfl, e5, fz5, hT5.congr fun z hz y => ?_⟩
              by_cases hzn : z = nm
              · subst hzn
                unfold warR
                constructor
                · exact fun h => .inl (h.elim (fun q => q) fun q => absurd q.2.1 hRn)
                · exact fun h => .inl (h.elim (fun q => q) fun q => absurd q.2.1 hRn)
              · exact hother z hz hzn y
          · obtain ⟨x5', rfl, e5, fz5, hT5⟩ := hP
            rw [List.take_length] at hT5
            refine ⟨_, _, _, rfl, e5, fz4.trans fz5, hT5.congr (R' := fun z y => R z y ∨ (R z mid ∧ R mid y)) fun z hz y => ?_, ?_⟩
            · unfold warR
              simp [hz]
            · have htj : ns.take (i + 1) = ns.take i ++ [mid] := by rw [List.take_add_one, hmid]; rfl
              rw [htj]
              exact hR.step
        · obtain ⟨x4, x5, R, rfl, e4, fz4, hT4, hR⟩ := hP
          rw [List.take_length] at hR
          walk_at "rd"
          exact k r as H4 hr0 (fun a ha' => (haf a ha').2) e4 (hT4.congr fun z _ y => hR.done hW.mem z y)
noncomputable def sp_closed (K : PySem.W.Frag) : Sp := fun vs H Q _ => ∃ v ns ps, vs = [v] ∧ Is K H (hfD ns ps) v ∧ HalfW ns ps ∧ ∀ u H', Same H H' → Is K H' (psD (clP ns ps)) u → Q u H'
noncomputable def sp_has_third_between (K : PySem.W.Frag) : Sp := fun vs H Q _ => ∃ r v ns ps as p, vs = [.ref r, v] ∧ TabR H r ns as (Way ps) ∧ ns.Nodup ∧ ns.length ≤ 100 ∧ (∀ q ∈ ps, q.1 ∈ ns ∧ q.2 ∈ ns) ∧ Is K H (prD p) v ∧ p.1 ∈ ns ∧ ∀ H', Keep as H H' → Q (.bl (thB ns ps p)) H'
noncomputable def sp_bare (K : PySem.W.Frag) : Sp := fun vs H Q _ => ∃ v ns ps, vs = [v] ∧ Is K H (hfD ns ps) v ∧ HalfW ns ps ∧ ∀ u H', Same H H' → Is K H' (psD (baP ns ps)) u → Q u H'
noncomputable def sp_are_untold (K : PySem.W.Frag) : Sp := fun vs H Q _ => ∃ r x y ns ps as, vs = [.ref r, .str x, .str y] ∧ TabR H r ns as (Way ps) ∧ ns.Nodup ∧ x ∈ ns ∧ y ∈ ns ∧ Q (.bl (unB ps x y)) H
noncomputable def sp_untold_of (K : PySem.W.Frag) : Sp := fun vs H Q _ => ∃ r ns ps as, vs = [.ref r] ∧ Tab H r ns as (Way ps) ∧ ns.Nodup ∧ ns.length ≤ 100 ∧ ∀ u H', Same H H' → Is K H' (psD (unP ns ps)) u → Q u H'
theorem tab_keys : ∀ {ns : List Str} {as : List Addr}, as.length = ns.length → (tabK ns as).map (fun kv => kV kv.1) = ns.map V.str
  | [], [], _ => rfl
  | [], _ :: _, h => by simp at h
  | _ :: _, [], h => by simp at h
  | n :: ns, a :: as, h => by
    have ih := tab_keys (ns := ns) (as := as) (by simpa using h)
    unfold tabK at ih ⊢
    rw [List.zip_cons_cons, List.map_cons, List.map_cons, ih]
    rfl
noncomputable def sp_untold (K : PySem.W.Frag) : Sp := fun vs H Q _ => ∃ v ns ps, vs = [v] ∧ Is K H (hfD ns ps) v ∧ HalfW ns ps ∧ ∀ u H', Same H H' → Is K H' (psD (unP ns ps)) u → Q u H'
noncomputable def sp_is_row (K : PySem.W.Frag) : Sp := fun vs H Q _ => ∃ v ns ps, vs = [v] ∧ Is K H (hfD ns ps) v ∧ HalfW ns ps ∧ ∀ H', Same H H' → Q (.bl (unP ns ps).isEmpty) H'
theorem ok_are_untold {f : Addr} {fd : FuncData} (F : Fun K "are_untold" "are_untold" s_are_untold f fd) (T : TopF mg) : FnOk P w K mg base CX0 1 f fd ["reach", "one", "other"] (sp_are_untold K) := by
  refine F.ok sc_are_untold (fun vs H Q E h => ?_) (fun cdv A outer s H vs Q E hr h => ?_)
  · obtain ⟨r, x, y, ns, ps, as, rfl, _⟩ := h
    rfl
  · obtain ⟨r, x, y, ns, ps, as, rfl, hT, hn, hx, hy, k⟩ := h
    have hu := hu_of hr
    have hq := qa_of hr
    obtain ⟨i, a, hi, hai⟩ := hT.at hx
    obtain ⟨ks, hk1, hk2, hk3, hk4⟩ := hT.row i x a hi hai
    obtain ⟨j, b, hj, hbj⟩ := hT.at hy
    obtain ⟨ms, hm1, hm2, hm3, hm4⟩ := hT.row j y b hj hbj
    with_reducible refine ⟨_, (pss_one (ps_ret (pe_and (pe_cmpR (op_notInK (K := K) hq) (pv 2) (pe_ix (ix_anyK (K := K) hu) (pv 0) (pv 1) (by with_unfolding_all exact fun _ _ => rfl)) (by with_unfolding_all rfl)) (pe_one (pe_cmpR (op_notInK (K := K) hq) (pv 1) (pe_ix (ix_anyK (K := K) hu) (pv 0) (pv 2) (by with_unfolding_all exact fun _ _ => rfl)) (by with_unfolding_all rfl)))))), ?_⟩
    walk_at "rd"
    refine i_tabR hT hn hi hai ?_
    refine i_ninRowR hk1 ?_
    rw [wayB_dec (hk4 y)]
    walk_at "rd"
    refine iteNB (fun hc => ?_) (fun hc => ?_)
    · walk_at "rd"
      refine i_tabR hT hn hj hbj ?_
      refine i_ninRowR hm1 ?_
      rw [wayB_dec (hm4 x)]
      unfold unB at k
      rw [hc] at k
      exact k
    · unfold unB at k
      rw [hc] at k
      exact k
noncomputable def sp__law_table (K : PySem.W.Frag) : Sp := fun vs H Q _ => ∃ v ns ps, vs = [v] ∧ Is K H (hfD ns ps) v ∧ Half ns ps ∧ ∀ r as H', H r = none → Same H H' → TabL K H' r ns as (Way ps) → Q (.ref r) H'
theorem okP_of {ps : List (Str × Str)} (h : NmP ps) : OkP ps := fun p hp => ⟨(nm_ok (h p hp).1).1, (nm_ok (h p hp).2).1⟩
theorem ok__law_table {f : Addr} {fd : FuncData} (F : Fun K "_law_table" "_law_table" s__law_table f fd) (T : TopF mg) (c__law_behind : Fnd P w K mg base 1 "_law_behind" ["_law_half_here", "_law_name"] (sp__law_behind K)) : FnOk P w K mg base CX0 2 f fd ["_law_half_here"] (sp__law_table K) := by
  refine F.ok sc__law_table (fun vs H Q E h => ?_) (fun cdv A outer s H vs Q E hr h => ?_)
  · obtain ⟨v, ns, ps, rfl, _⟩ := h
    rfl
  · obtain ⟨v, ns, ps, rfl, hI, hH, k⟩ := h
    have hu := hu_of hr
    have hq := qa_of hr
    have hn := hH.names.1
    have hfew := hH.few
    have hle := hH.le
    have hok : OkP ps := okP_of hH.nmP
    have hok1 : ∀ z ∈ ns, PyData.strOk z = true := fun z hz => (nm_ok (hH.names.2 z hz)).1
    with_reducible refine ⟨_, (pss_one (ps_ret (pe_callTy (call_dictK (K := K) hr.hd) (by with_unfolding_all rfl) T.b_dict PyProof.Rows.Boot.«dict» (pa_cons (pe_comp ["_law_name"] ["_law_half_here"] [0] (by with_unfolding_all rfl) (by with_unfolding_all rfl) (by with_unfolding_all rfl) (pi_anyK (K := K) hu (pe_ix (ix_anyK (K := K) hu) (pv 0) pe_int (by with_unfolding_all exact fun _ _ => rfl))) (fun _ _ _ _ => (pg_name (i := 0) (by with_unfolding_all (show (["_law_name", "_law_half_here"] : List Str).Nodup; decide +kernel)) (by with_unfolding_all rfl) (by with_unfolding_all exact Or.inl rfl))) (gk_name (by decide)) (fun _ _ _ _ => pif_nil) (fun _ _ _ _ => (pe_tup (pa_cons (pv 0) (pa_cons (pe_fn c__law_behind (hr.mono (by decide)) (by with_unfolding_all rfl) (pa_cons (pv 1) (pa_cons (pv 0) pa_nil))) pa_nil))))) pa_nil)))), ?_⟩
    walk_at "rd"
    refine i_ixH0 hI fun nv hN => ?_
    obtain ⟨na, rfl, hS⟩ := hN.nm
    refine i_itT hS ?_
    refine comp_by (walk_tup (xs := ns.map V.str)) (fun p i acc H1 => Same H H1 ∧ ∃ as : List Addr, as.length = i ∧ (∀ (j : Nat) (z : Str) (a : Addr), ns[j]? = some z → as[j]? = some a → ∃ ks : List Str, H1 a = some (.lst (ks.map V.str)) ∧ a ≠ p ∧ ks.Nodup ∧ ∀ y, y ∈ ks ↔ Way ps z y) ∧ PrsK K H1 (tabK (ns.take i) as) acc) (fun p H' hp e h => ⟨e, [], rfl, fun j z a _ h => (by simp at h), by rfl⟩) (fun p i acc H1 hP => hP.1.seqT hS) (fun p i x acc H1 hp hx hi hl ha hP => ?_) fun p acc H1 hp ha hl hP => ?_
    · obtain ⟨e1, as, hal, hrow, hpr⟩ := hP
      rw [List.getElem?_map] at hx
      cases hz : ns[i]? with
      | none => rw [hz] at hx; cases hx
      | some z =>
        rw [hz] at hx
        cases hx
        have hin : i < ns.length := (List.getElem?_eq_some_iff.mp hz).1
        walk_at "rd"
        refine ⟨v, z, ns, ps, rfl, hI.hf_fz e1.fz, by omega, hok, hok1 z (List.mem_of_getElem? hz), fun b fs H2 hb2 e2 h2 hnd hfs => ?_⟩
        walk_at "rd"
        refine i_newT (line_of (by simp)) fun t H3 ht3 e3 h3 => ?_
        have h3p : H3 p = some (.lst acc) := e3 _ _ (e2 _ _ ha)
        refine push_i (by rw [List.length_map]; omega) hi hl h3p fun H4 e4 h4 => ?_
        have hbp : b ≠ p := Ne.symm (ne_of_none ha hb2)
        refine ⟨by walk_at "sm", as ++ [b], by simp [hal], fun j y a hj haj => ?_, ?_⟩
        · by_cases hji : j < as.length
          · rw [List.getElem?_append_left hji] at haj
            obtain ⟨ks, q1, q2, q3⟩ := hrow j y a hj haj
            exact ⟨ks, e4 _ _ q2 (e3 _ _ (e2 _ _ q1)), q2, q3⟩
          · have hj' : j = as.length := by
              have := (List.getElem?_eq_some_iff.mp haj).1
              rw [List.length_append, List.length_singleton] at this
              omega
            subst hj'
            have : a = b := by simpa using haj.symm
            subst this
            rw [hal, hz] at hj
            cases hj
            exact ⟨fs, e4 _ _ hbp (e3 _ _ h2), hbp, hnd, hfs⟩
        · have ht : ns.take (i + 1) = ns.take i ++ [z] := by rw [List.take_add_one, hz]; rfl
          have hlen : (ns.take i).length = as.length := by rw [List.length_take, hal]; omega
          rw [ht, tab_snoc hlen]
          have fz4 := e4.fzL h3p
          exact PrsK.snoc (kv := (Sum.inr z, V.ref b)) (fz4.seq (SqT.of h3)) (PrsK.fz ((e2.fz.trans e3.fz).trans fz4) hpr)
    · obtain ⟨e1, as, hal, hrow, hpr⟩ := hP
      rw [List.length_map] at hal
      rw [List.length_map, List.take_length] at hpr
      walk_at "rd"
      refine i_dict ha hpr (by unfold tabK; rw [List.length_map, List.length_zip]; omega) fun r H2 hr2 e2 h2 => ?_
      rw [merge_new _ _ (keys_tab hn) (fun _ _ _ h => by cases h), List.nil_append] at h2
      have hr0 : H r = none := e1.free hr2
      refine k r as H2 hr0 (e1.trans e2) ⟨hal, h2, fun j z a hj haj => ?_⟩
      obtain ⟨ks, q1, q2, q3, q4⟩ := hrow j z a hj haj
      exact ⟨ks, e2 _ _ q1, q3, q4⟩
noncomputable def sp__law_closed (K : PySem.W.Frag) : Sp := fun vs H Q _ => ∃ v ns ps, vs = [v] ∧ Is K H (hfD ns ps) v ∧ Half ns ps ∧ ∀ p ys H', H p = none → Same H H' → H' p = some (.lst ys) → IsL K H' ((clP ns ps).map prD) ys → Q (.ref p) H'
noncomputable def sp__law_untold (K : PySem.W.Frag) : Sp := fun vs H Q _ => ∃ v ns ps, vs = [v] ∧ Is K H (hfD ns ps) v ∧ Half ns ps ∧ ∀ p ys H', H p = none → Same H H' → H' p = some (.lst ys) → IsL K H' ((unP ns ps).map prD) ys → Q (.ref p) H'
noncomputable def sp__law_bare (K : PySem.W.Frag) : Sp := fun vs H Q _ => ∃ v ns ps, vs = [v] ∧ Is K H (hfD ns ps) v ∧ Half ns ps ∧ ∀ p ys H', H p = none → Same H H' → H' p = some (.lst ys) → IsL K H' ((baP ns ps).map prD) ys → Q (.ref p) H'
theorem ok__law_closed {f : Addr} {fd : FuncData} (F : Fun K "_law_closed" "_law_closed" s__law_closed f fd) (T : TopF mg) (c__law_table : Fnd P w K mg base 2 "_law_table" ["_law_half_here"] (sp__law_table K)) : FnOk P w K mg base CX0 3 f fd ["_law_half_here"] (sp__law_closed K) := by
  refine F.ok sc__law_closed (fun vs H Q E h => ?_) (fun cdv A outer s H vs Q E hr h => ?_)
  · obtain ⟨v, ns, ps, rfl, _⟩ := h
    rfl
  · obtain ⟨v, ns, ps, rfl, hI, hH, k⟩ := h
    have hu := hu_of hr
    have hq := qa_of hr
    have hfew := hH.few
    have hn := hH.names.1
    with_reducible refine ⟨_, (pss_cons (ps_set (i := 1) sc__law_closed.nd (by with_unfolding_all rfl) (by with_unfolding_all exact Or.inr rfl) (pe_fn c__law_table (hr.mono (by decide)) (by with_unfolding_all rfl) (pa_cons (pv 0) pa_nil)))
      (pss_cons (ps_set (i := 2) sc__law_closed.nd (by with_unfolding_all rfl) (by with_unfolding_all exact Or.inl rfl) (pe_lst pa_nil))
      (pss_cons (ps_for PassesOwn.never (by with_unfolding_all rfl) (pi_anyK (K := K) hu (pe_ix (ix_anyK (K := K) hu) (pv 0) pe_int (by with_unfolding_all exact fun _ _ => rfl))) (pg_name (i := 3) sc__law_closed.nd (by with_unfolding_all rfl) (by with_unfolding_all exact Or.inr rfl))
      (pss_one (ps_expr (pe_bmK (K := K) PySem.F.plainAttrs_list PySem.F.slot_list_extend PySem.F.type_list_extend (mm mt_extend) (pv 2) (pa_cons (pe_comp ["_law_other"] ["_law_one", "_law_table_here"] [3, 1] (by with_unfolding_all rfl) (by with_unfolding_all rfl) (by with_unfolding_all rfl) (pi_anyK (K := K) hu (pe_ix (ix_anyK (K := K) hu) (pv 0) pe_int (by with_unfolding_all exact fun _ _ => rfl))) (fun _ _ _ _ => (pg_name (i := 0) (by with_unfolding_all (show (["_law_other", "_law_one", "_law_table_here"] : List Str).Nodup; decide +kernel)) (by with_unfolding_all rfl) (by with_unfolding_all exact Or.inl rfl))) (gk_name (by decide)) (fun _ _ _ _ => (pif_one (pt_cmpR (op_inK (K := K) hq) (pv 0) (pe_ix (ix_anyK (K := K) hu) (pv 2) (pv 1) (by with_unfolding_all exact fun _ _ => rfl)) (by with_unfolding_all rfl)))) (fun _ _ _ _ => (pe_tup (pa_cons (pv 1) (pa_cons (pv 0) pa_nil))))) pa_nil)))))
      (pss_one (ps_ret (pv 2)))))), ?_⟩
    walk_at "rd"
    refine ⟨v, ns, ps, rfl, hI, hH, fun r as H1 hr1 e1 hT => ?_⟩
    walk_at "rd"
    refine i_newL (line_of (by simp)) fun p H2 hp2 e2 h2 => ?_
    walk_at "rd"
    refine i_ixH0 (hI.hf_fz (by walk_at "fz")) fun nv hN => ?_
    refine for_nm hN (fun i σ H3 => ∃ x3, σ = [some v, some (.ref r), some (.ref p), x3] ∧ Same H1 H3 ∧ Fz H2 H3 ∧ ∃ ys, H3 p = some (.lst ys) ∧ IsL K H3 (((ns.take i).flatMap (clR ns ps)).map prD) ys ∧ ys.length ≤ i * 100)
      ⟨none, rfl, e2, .refl _, [], h2, by simp only [List.take_zero, List.flatMap_nil, List.map_nil]; exact .nil, by simp⟩ (fun i σ' H' hP => ?_) (fun i z σ' H3 hz hP => ?_) (fun σ' H3 hP => ?_)
    · obtain ⟨_, _, _, fz, _⟩ := hP
      exact fz
    · obtain ⟨x3, rfl, e3, fz3, ys, h3, hL, hly⟩ := hP
      have hI3 : Is K H3 (hfD ns ps) v := hI.hf_fz (e1.fz.trans e3.fz)
      have hzm := List.mem_of_getElem? hz
      have hin : i < ns.length := (List.getElem?_eq_some_iff.mp hz).1
      walk_at "rd"
      refine i_ixH0 hI3 fun nv3 hN3 => ?_
      refine comp_nm hN3 (fun y => wayB ps z y) (fun y => prD (z, y)) (fun _ => frz_pr _) (by omega) (fun j y H4 R R' hy e4 hR hR' => ?_) (fun q zs H4 hq4 e4 h4 hL4 => ?_)
      · have hT4 := hT.same (e3.trans e4)
        obtain ⟨a0, b0, ha0, hb0⟩ := hT4.at hzm
        obtain ⟨ks, hk1, hk2, hk3⟩ := hT4.row a0 z b0 ha0 hb0
        walk_at "rd"
        refine i_tabL hT4 hn ha0 hb0 ?_
        refine i_inLN (SqL.of hk1) ?_
        rw [wayB_dec (hk3 y)]
        walk_at "rd"
        refine iteB (fun hc => ?_) (fun hc => ?_)
        · walk_at "rd"
          refine i_newT (line_of (by simp)) fun t H5 ht5 e5 h5 => ?_
          exact hR hc _ _ e5 (is_pr (SqT.of h5))
        · exact hR' hc _ (Same.refl _)
      · walk_at "rd"
        have h4p := e4 _ _ h3
        have hlz : zs.length ≤ ns.length := by
          rw [← IsL.length hL4, List.length_map]
          exact List.length_filter_le _ _
        refine i_extR h4p h4 (by omega) fun H5 e5 h5 => ?_
        walk_at "rd"
        have fz5 : Fz H4 H5 := e5.fzL h4p
        refine ⟨_, rfl, ?_, (fz3.trans e4.fz).trans fz5, _, h5, ?_, ?_⟩
        · exact Same.off (q := p) (H1 := H4) (e3.trans e4) hp2 e5
        · have ht : ns.take (i + 1) = ns.take i ++ [z] := by rw [List.take_add_one, hz]; rfl
          rw [ht, List.flatMap_append, List.map_append]
          refine IsL.append (IsL.fz (e4.fz.trans fz5) _ _ (frzL_prs _) hL) ?_
          have e : ([z].flatMap (clR ns ps)).map prD = (ns.filter fun y => wayB ps z y).map fun y => prD (z, y) := by
            simp [clR, Function.comp_def]
          rw [e]
          exact IsL.fz fz5 _ _ (frzL_map _ (fun _ => frz_pr _) _) hL4
        · rw [List.length_append]
          omega
    · obtain ⟨x3, rfl, e3, fz3, ys, h3, hL, hly⟩ := hP
      rw [List.take_length] at hL
      walk_at "rd"
      exact k p ys H3 (e1.free hp2) (e1.trans e3) h3 hL
theorem ninB_cl {ns : List Str} {ps : List (Str × Str)} {x y : Str} (hx : x ∈ ns) (hy : y ∈ ns) : decide ((x, y) ∈ clP ns ps) = wayB ps x y := wayB_dec ⟨fun h => (mem_clP.mp h).2.2, fun h => mem_clP.mpr ⟨hx, hy, h⟩⟩
theorem eqv_nil_strs' (ls : List Str) : PyData.eqv (.list (ls.map PyData.str)) (.list []) = ls.isEmpty := eqv_nil_strs ls
theorem th_empty {ns : List Str} {ps : List (Str × Str)} {p : Str × Str} : (ns.filter fun z => wayB ps p.1 z && wayB ps z p.2).isEmpty = !thB ns ps p := by
  unfold thB
  induction ns with
  | nil => rfl
  | cons a l ih =>
    rw [List.filter_cons, List.any_cons]
    cases wayB ps p.1 a && wayB ps a p.2
    · simpa using ih
    · rfl
noncomputable def tupD : PyData → Bool
  | .tuple _ => true
  | _ => false
noncomputable def strD : PyData → Bool
  | .str _ => true
  | _ => false
theorem isTupD {K : PySem.W.Frag} {H : Hp} {Q : VK} {D : PyData} {v : V} (h : Is K H D v) (k : Q (.bl (tupD D)) H) : rIsinst K [v, .ty "tuple"] H Q := by
  cases D with
  | none => simp only [Is] at h; subst h; exact i_isi .non (b := false) (by rfl) k
  | bool b => simp only [Is] at h; subst h; exact i_isi (.bl b) (b := false) (by rfl) k
  | int b => simp only [Is] at h; subst h; exact i_isi (.int b) (b := false) (by rfl) k
  | str b => simp only [Is] at h; subst h; exact i_isi (.str b) (b := false) (by rfl) k
  | list ds => simp only [Is] at h; obtain ⟨a, xs, rfl, h1, _⟩ := h; exact i_isiL h1 (b := false) (by rfl) k
  | tuple ds => simp only [Is] at h; obtain ⟨a, xs, rfl, h1, _⟩ := h; exact i_isiT h1 (b := true) (by rfl) k
  | dict _ => simp only [Is] at h
theorem isStrD {K : PySem.W.Frag} {H : Hp} {Q : VK} {D : PyData} {v : V} (h : Is K H D v) (k : Q (.bl (strD D)) H) : rIsinst K [v, .ty "str"] H Q := by
  cases D with
  | none => simp only [Is] at h; subst h; exact i_isi .non (b := false) (by rfl) k
  | bool b => simp only [Is] at h; subst h; exact i_isi (.bl b) (b := false) (by rfl) k
  | int b => simp only [Is] at h; subst h; exact i_isi (.int b) (b := false) (by rfl) k
  | str b => simp only [Is] at h; subst h; exact i_isi (.str b) (b := true) (by rfl) k
  | list ds => simp only [Is] at h; obtain ⟨a, xs, rfl, h1, _⟩ := h; exact i_isiL h1 (b := false) (by rfl) k
  | tuple ds => simp only [Is] at h; obtain ⟨a, xs, rfl, h1, _⟩ := h; exact i_isiT h1 (b := false) (by rfl) k
  | dict _ => simp only [Is] at h
mutual
def lfs : PyData → Nat
  | .str _ => 1
  | .list ds => lfsL ds
  | .tuple ds => lfsL ds
  | _ => 0
def lfsL : List PyData → Nat
  | [] => 0
  | d :: ds => lfs d + lfsL ds
end
theorem lf_app : ∀ as bs : List PyData, lfsL (as ++ bs) = lfsL as + lfsL bs
  | [], bs => by simp only [List.nil_append, lfsL]; omega
  | a :: as, bs => by
    have := lf_app as bs
    simp only [List.cons_append, lfsL]
    omega
theorem lf_rev : ∀ as : List PyData, lfsL as.reverse = lfsL as
  | [] => rfl
  | a :: as => by
    have := lf_rev as
    rw [List.reverse_cons, lf_app, this]
    simp only [lfsL]
    omega
theorem lf_take (ds : List PyData) (n : Nat) : lfsL (ds.take n) ≤ lfsL ds := by
  have := lf_app (ds.take n) (ds.drop n)
  rw [List.take_append_drop] at this
  omega
theorem lf_drop (ds : List PyData) (n : Nat) : lfsL (ds.drop n) ≤ lfsL ds := by
  have := lf_app (ds.take n) (ds.drop n)
  rw [List.take_append_drop] at this
  omega
theorem lf_tup (ds : List PyData) : lfs (.tuple ds) = lfsL ds := by simp only [lfs]
theorem lf_lst (ds : List PyData) : lfs (.list ds) = lfsL ds := by simp only [lfs]
theorem lf_str (z : Str) : lfs (.str z) = 1 := by simp only [lfs]
noncomputable def OddL (K : PySem.W.Frag) (H : Hp) (p : Addr) (n w W M N0 : Nat) : Prop := ∃ ys es, H p = some (.lst ys) ∧ IsL K H es ys ∧ (∀ e ∈ es, Dk n w W e ∧ lfs e ≤ M) ∧ es ≠ [] ∧ es.length ≤ N0
theorem OddL.le {K : PySem.W.Frag} {H : Hp} {p : Addr} {n w W M N0 N1 : Nat} (h : OddL K H p n w W M N0) (h1 : N0 ≤ N1) : OddL K H p n w W M N1 := let ⟨ys, es, a, b, c, d, e⟩ := h; ⟨ys, es, a, b, c, d, Nat.le_trans e h1⟩
noncomputable def sp__law_odd (K : PySem.W.Frag) : Sp := fun vs H Q _ => ∃ d l v D n w W M, vs = [.ref d, v] ∧ Feed H d l ∧ Is K H D v ∧ Dk n w W D ∧ n ≤ 20 ∧ w ≤ 100000 ∧ 2 ≤ W ∧ lfs D ≤ M ∧ ∀ v' D' H', ExtBut d H H' → Feed H' d l → Is K H' D' v' → Dk (n + 2) (2 * w + 200) (W + 1) D' → lfs D' ≤ 2 * M + 2 → Q v' H'
theorem oddC_ok : ∀ e ∈ [PyData.none, .bool true, .bool false, .int (-1), .int 0, .int 1, .int (10 ^ 39), .str "", .str "a", .str "A", .str "abcdefghi", .str "a b", .str "a{", .tuple [], .list [], .tuple [.str "a"], .tuple [.str "a", .str "b"]], Dk 2 200 2 e := by
  intro e he
  simp only [List.mem_cons, List.not_mem_nil, or_false] at he
  rcases he with rfl | rfl | rfl | rfl | rfl | rfl | rfl | rfl | rfl | rfl | rfl | rfl | rfl | rfl | rfl | rfl | rfl <;> exact ⟨by decide +kernel, by decide +kernel, by decide +kernel, by decide +kernel, by decide +kernel, by decide +kernel, by decide +kernel⟩
theorem oddC_lf : ∀ e ∈ [PyData.none, .bool true, .bool false, .int (-1), .int 0, .int 1, .int (10 ^ 39), .str "", .str "a", .str "A", .str "abcdefghi", .str "a b", .str "a{", .tuple [], .list [], .tuple [.str "a"], .tuple [.str "a", .str "b"]], lfs e ≤ 2 := by
  intro e he
  simp only [List.mem_cons, List.not_mem_nil, or_false] at he
  rcases he with rfl | rfl | rfl | rfl | rfl | rfl | rfl | rfl | rfl | rfl | rfl | rfl | rfl | rfl | rfl | rfl | rfl <;> decide +kernel
theorem wt_len : ∀ ds : List PyData, ds.length ≤ PyData.weightAll ds
  | [] => by simp
  | d :: ds => by
    have := wt_len ds
    simp only [List.length_cons, PyData.weightAll]
    omega
theorem mem_rep {α : Type} {es : List α} {e : α} : ∀ {k : Nat}, e ∈ (List.replicate k es).flatten → e ∈ es
  | 0, h => by cases h
  | k + 1, h => by
    rw [List.replicate_succ, List.flatten_cons] at h
    exact (List.mem_append.mp h).elim id fun h => mem_rep h
theorem isl_rep {K : PySem.W.Frag} {H : Hp} {es : List PyData} {ys : List V} (h : IsL K H es ys) : ∀ k : Nat, IsL K H (List.replicate k es).flatten (List.replicate k ys).flatten
  | 0 => .nil
  | k + 1 => by
    rw [List.replicate_succ, List.flatten_cons, List.replicate_succ, List.flatten_cons]
    exact IsL.append h (isl_rep h k)
noncomputable def cutD (ds : List PyData) (lo hi : Option Int) : List PyData := (ds.drop (HT.sIx ds.length 0 lo)).take (HT.sIx ds.length ds.length hi - HT.sIx ds.length 0 lo)
theorem isl_rev {K : PySem.W.Frag} {H : Hp} : ∀ {es : List PyData} {ys : List V}, IsL K H es ys → IsL K H es.reverse ys.reverse
  | [], ys, h => by simp only [L2.IsL] at h; subst h; exact .nil
  | e :: es, ys, h => by
    simp only [L2.IsL] at h
    obtain ⟨v, r, rfl, h1, h2⟩ := h
    rw [List.reverse_cons, List.reverse_cons]
    exact IsL.append (isl_rev h2) (.one h1)
theorem less_asc {z : Str} (h : Asc z) : Asc (Txt.slice z none (some (-1))) ∧ (Txt.slice z none (some (-1))).length ≤ z.length := by
  refine ⟨fun c hc => ?_, Txt.slice_le ..⟩
  unfold Txt.slice at hc
  split at hc
  · exact h c hc
  · rw [List.toList_toArray] at hc
    obtain ⟨i, _, hi⟩ := List.mem_filterMap.mp hc
    exact h c (Array.mem_toList_iff.mpr (Array.mem_of_getElem? hi))
theorem cut_to (ds : List PyData) {t : Int} (h : 0 ≤ t) : cutD ds none (some t) = ds.take t.toNat := by
  have e1 : HT.sIx ds.length ds.length (some t) = min t.toNat ds.length := by unfold HT.sIx; simp [show ¬ t < 0 by omega]
  have e3 : HT.sIx ds.length 0 none = 0 := rfl
  unfold cutD
  rw [e1, e3, List.drop_zero, Nat.sub_zero]
  by_cases hl : t.toNat ≤ ds.length
  · rw [Nat.min_eq_left hl]
  · rw [Nat.min_eq_right (by omega), List.take_length, List.take_of_length_le (by omega)]
theorem cut_fr (ds : List PyData) {t : Int} (h : 0 ≤ t) : cutD ds (some t) none = ds.drop t.toNat := by
  have e2 : HT.sIx ds.length 0 (some t) = min t.toNat ds.length := by unfold HT.sIx; simp [show ¬ t < 0 by omega]
  have e4 : HT.sIx ds.length ds.length none = ds.length := rfl
  unfold cutD
  rw [e2, e4]
  by_cases hl : t.toNat ≤ ds.length
  · rw [Nat.min_eq_left hl, List.take_of_length_le (by rw [List.length_drop]; omega)]
  · rw [Nat.min_eq_right (by omega), List.drop_length, List.take_nil, List.drop_eq_nil_of_le (by omega)]
theorem lf_split {ds : List PyData} {i : Nat} {x : PyData} (h : ds[i]? = some x) : lfsL (ds.take i) + lfs x + lfsL (ds.drop (i + 1)) = lfsL ds := by
  have hl := (List.getElem?_eq_some_iff.mp h).1
  have e : ds = ds.take i ++ x :: ds.drop (i + 1) := by
    have := List.take_append_drop i ds
    rw [List.drop_eq_getElem_cons hl, (List.getElem?_eq_some_iff.mp h).2] at this
    exact this.symm
  have := congrArg lfsL e
  rw [lf_app] at this
  simp only [lfsL] at this
  omega
theorem len12 {K : PySem.W.Frag} {H : Hp} {Q : VK} {a : Addr} {xs : List V} (h : SqT K H a xs) (k : Q (.int xs.length) H) : rLenA K [.ref a] H Q := .inl ⟨.ref a, _, rfl, .inr ⟨xs, h, rfl⟩, k⟩
theorem wt_mem : ∀ {ds : List PyData} {e : PyData}, e ∈ ds → e.weight ≤ PyData.weightAll ds
  | d :: ds, e, h => by
    simp only [PyData.weightAll]
    rcases List.mem_cons.mp h with rfl | h
    · omega
    · have := wt_mem h
      omega
theorem wt_cut (ds : List PyData) {t : Int} (h : 0 ≤ t) : PyData.weightAll (cutD ds none (some t)) + PyData.weightAll (cutD ds (some (t + 1)) none) ≤ PyData.weightAll ds := by
  have e1 : HT.sIx ds.length ds.length (some t) = min t.toNat ds.length := by unfold HT.sIx; simp [show ¬ t < 0 by omega]
  have e2 : HT.sIx ds.length 0 (some (t + 1)) = min (t + 1).toNat ds.length := by unfold HT.sIx; simp [show ¬ t + 1 < 0 by omega]
  have e3 : HT.sIx ds.length 0 none = 0 := rfl
  unfold cutD
  rw [e1, e2, e3, List.drop_zero, Nat.sub_zero]
  have a := wt_app (ds.take (min t.toNat ds.length)) (ds.drop (min t.toNat ds.length))
  rw [List.take_append_drop] at a
  have b := wt_drop (ds.drop (min t.toNat ds.length)) (min (t + 1).toNat ds.length - min t.toNat ds.length)
  rw [List.drop_drop, show min t.toNat ds.length + (min (t + 1).toNat ds.length - min t.toNat ds.length) = min (t + 1).toNat ds.length by omega] at b
  have c := wt_take (ds.drop (min (t + 1).toNat ds.length)) (HT.sIx ds.length ds.length none - min (t + 1).toNat ds.length)
  omega
noncomputable def spr__law_bent (K : PySem.W.Frag) (m : Nat) : Sp := fun vs H Q _ => ∃ (d l : Addr) (v : V) (D : PyData) (n w W M j : Nat), vs = [.ref d, v, .int (j : Int)] ∧ Feed H d l ∧ Is K H D v ∧ Dk n w W D ∧ n ≤ 20 ∧ w ≤ 100000 ∧ 2 ≤ W ∧ lfs D ≤ M ∧ j < m ∧ ∀ v' D' H', ExtBut d H H' → Feed H' d l → Is K H' D' v' → Dk (n + 2) ((j + 2) * w + 200 + j) (W + 1) D' → lfs D' ≤ 2 * M + 2 → Q v' H'
theorem spr__law_bent_zero {K : PySem.W.Frag} : ∀ vs H Q E, ¬ spr__law_bent K 0 vs H Q E := fun vs H Q E h => by
  obtain ⟨d, l, v, D, n, w, W, M, j, _, _, _, _, _, _, _, _, h, _⟩ := h
  omega
noncomputable def sp__law_bent (K : PySem.W.Frag) : Sp := spr__law_bent K 11
theorem wt_all {k : Nat} : ∀ {ds : List PyData}, (∀ e ∈ ds, e.weight ≤ k) → PyData.weightAll ds ≤ ds.length * (k + 1)
  | [], _ => by simp only [PyData.weightAll]; omega
  | d :: ds, h => by
    have h1 := h d (by simp)
    have h2 := wt_all (ds := ds) fun e he => h e (by simp [he])
    simp only [PyData.weightAll, List.length_cons, Nat.succ_mul]
    omega
theorem nm_asc {z : Str} (h : isNm z = true) : Asc z := fun c hc => by
  unfold isNm at h
  rw [Bool.and_eq_true, List.all_eq_true] at h
  have := h.2 c hc
  unfold smallN at this
  rw [Bool.and_eq_true, decide_eq_true_eq, decide_eq_true_eq] at this
  omega
theorem nms_els {p W : Nat} {ns : List Str} (h : ∀ z ∈ ns, isNm z = true) (hl : ns.length ≤ W) : Els p (ns.length * 9) W (ns.map PyData.str) := by
  refine ⟨fun e he => ?_, ?_, by simpa using hl⟩
  · obtain ⟨z, hz, rfl⟩ := List.mem_map.mp he
    exact ⟨8, dk_str (nm_asc (h z hz)) (nm_len (h z hz))⟩
  · have := wt_all (k := 8) (ds := ns.map PyData.str) fun e he => by
      obtain ⟨z, hz, rfl⟩ := List.mem_map.mp he
      simp only [PyData.weight]
      exact nm_len (h z hz)
    simpa using this
theorem pr_dk {p W : Nat} {q : Str × Str} (h1 : isNm q.1 = true) (h2 : isNm q.2 = true) (hW : 2 ≤ W) : Dk (p + 1) 18 W (prD q) := by
  have := nms_els (p := p) (W := W) (ns := [q.1, q.2]) (fun z hz => by
    simp only [List.mem_cons, List.not_mem_nil, or_false] at hz
    rcases hz with rfl | rfl
    · exact h1
    · exact h2) hW
  exact dk_tup this
theorem prs_els {p W : Nat} {ps : List (Str × Str)} (h : NmP ps) (hl : ps.length ≤ W) (hW : 2 ≤ W) : Els (p + 1) (ps.length * 19) W (ps.map prD) := by
  refine ⟨fun e he => ?_, ?_, by simpa using hl⟩
  · obtain ⟨q, hq, rfl⟩ := List.mem_map.mp he
    exact ⟨18, pr_dk (h q hq).1 (h q hq).2 hW⟩
  · have := wt_all (k := 18) (ds := ps.map prD) fun e he => by
      obtain ⟨q, hq, rfl⟩ := List.mem_map.mp he
      exact (pr_dk (p := 0) (h q hq).1 (h q hq).2 hW).wt
    simpa using this
theorem tale_dk {ns : List Str} {ps : List (Str × Str)} (h : NmP ps) (h1 : ∀ z ∈ ns, isNm z = true) (h2 : ns.length ≤ 20) (h3 : ps.length ≤ 70) : Dk 3 1600 70 (hfD ns ps) := by
  have a := dk_tup (nms_els (p := 1) (W := 70) h1 (by omega))
  have b := dk_tup (prs_els (p := 0) (W := 70) h (by omega) (by omega))
  refine dk_tup (p := 2) ⟨fun e he => ?_, ?_, by simp⟩
  · simp only [List.mem_cons, List.not_mem_nil, or_false] at he
    rcases he with rfl | rfl
    · exact ⟨_, a⟩
    · exact ⟨_, b⟩
  · have := a.wt
    have := b.wt
    simp only [PyData.weightAll]
    simp only [nmD, psD] at *
    omega
noncomputable def NoTup (K : PySem.W.Frag) (H : Hp) (v : V) : Prop := ∃ t, TyOf K H v t ∧ PySem.W.kitOne K t (.type "tuple") = some false
noncomputable def ThW (K : PySem.W.Frag) (H : Hp) (v : V) (n w W M : Nat) : Option (List PyData) → Prop
  | some ds => Is K H (.tuple ds) v ∧ Dk n w W (.tuple ds) ∧ lfsL ds ≤ M
  | none => (∃ D, Is K H D v ∧ tupD D = false) ∨ NoTup K H v
theorem isTupW {K : PySem.W.Frag} {H : Hp} {Q : VK} {v : V} {n w W M : Nat} {o : Option (List PyData)} (h : ThW K H v n w W M o) (k : Q (.bl o.isSome) H) : rIsinst K [v, .ty "tuple"] H Q := by
  cases o with
  | none =>
    rcases h with ⟨D, h1, h2⟩ | ⟨t, h1, h2⟩
    · refine isTupD h1 ?_
      rw [h2]
      exact k
    · exact i_isi h1 h2 k
  | some ds => exact isTupD h.1 k
theorem ThW.same {K : PySem.W.Frag} {H H' : Hp} {v : V} {n w W M : Nat} {o : Option (List PyData)} (h : ThW K H v n w W M o) (e : Same H H') : ThW K H' v n w W M o := by
  cases o with
  | none =>
    rcases h with ⟨D, h1, h2⟩ | ⟨t, h1, h2⟩
    · exact .inl ⟨D, Is.mono e _ _ h1, h2⟩
    · refine .inr ⟨t, ?_, h2⟩
      cases h1 with
      | non => exact .non
      | bl x => exact .bl x
      | int i => exact .int i
      | str x => exact .str x
      | flt x => exact .flt x
      | lst e1 => exact .lst (e _ _ e1)
      | frz e1 => exact .frz (e _ _ e1)
      | tup e1 => exact .tup (e _ _ e1)
      | dK e1 => exact .dK (e _ _ e1)
      | dT e1 => exact .dT (e _ _ e1)
      | ins e1 cl ha hn htk hm => exact .ins (e _ _ e1) cl ha hn htk hm
  | some ds => exact ⟨Is.mono e _ _ h.1, h.2⟩
theorem pw_at {α : Type} {R : α → α → Prop} : ∀ {row : List α}, (∀ (j : Nat) x, row[j]? = some x → ∀ y ∈ row.drop (j + 1), R x y) ↔ row.Pairwise R
  | [] => ⟨fun _ => .nil, fun _ j x h => by simp at h⟩
  | a :: r => by
    rw [List.pairwise_cons]
    constructor
    · intro h
      exact ⟨fun y hy => h 0 a rfl y hy, pw_at.mp fun j x hx y hy => h (j + 1) x hx y hy⟩
    · rintro ⟨h1, h2⟩ j x hx y hy
      cases j with
      | zero =>
        have : a = x := by simpa using hx
        subst this
        exact h1 y hy
      | succ j => exact pw_at.mpr h2 j x hx y hy
noncomputable def sp_no_two_told (K : PySem.W.Frag) : Sp := fun vs H Q _ => ∃ r u ns ps as, ∃ row : List Str, vs = [.ref r, u] ∧ Tab H r ns as (Way ps) ∧ ns.Nodup ∧ Is K H (nmD row) u ∧ (∀ z ∈ row, z ∈ ns) ∧ row.length ≤ 100 ∧ ∀ b H', Same H H' → (b = true ↔ row.Pairwise fun x y => unB ps x y = true) → Q (.bl b) H'
noncomputable def BunO (ns : List Str) (ps : List (Str × Str)) : Option (List PyData) → Prop
  | some ds => ∃ row : List Str, ds = row.map PyData.str ∧ row = ns.filter (fun z => decide (z ∈ row)) ∧ row.Pairwise fun x y => unB ps x y = true
  | none => False
theorem mem_strs {row : List Str} {z : Str} : PyData.str z ∈ row.map PyData.str ↔ z ∈ row := by
  constructor
  · intro h
    obtain ⟨y, hy, e⟩ := List.mem_map.mp h
    injection e with e
    rw [← e]
    exact hy
  · exact fun h => List.mem_map_of_mem h
theorem strs_inj {a b : List Str} (h : a.map PyData.str = b.map PyData.str) : a = b := by
  have := congrArg (List.map fun d => match d with | PyData.str z => z | _ => ("" : Str)) h
  simpa [List.map_map, Function.comp_def] using this
noncomputable def sp_is_bunch (K : PySem.W.Frag) : Sp := fun vs H Q _ => ∃ v u ns ps n w W M o, vs = [v, u] ∧ Is K H (hfD ns ps) v ∧ Half ns ps ∧ ThW K H u n w W M o ∧ n ≤ 60 ∧ ∀ b H', Same H H' → (b = true ↔ BunO ns ps o) → Q (.bl b) H'
local macro_rules | `(tactic| walk_at "rq1") => L2.mAlts "i_izip"
noncomputable def ChnI (ps : List (Str × Str)) (row : List Str) : Prop := ∀ (i : Nat) x y, row[i]? = some x → row[i + 1]? = some y → Way ps x y
noncomputable def ChR (ns : List Str) (ps : List (Str × Str)) (row : List Str) : Prop := row ≠ [] ∧ (∀ z ∈ row, z ∈ ns) ∧ ChnI ps row
noncomputable def ChD (ns : List Str) (ps : List (Str × Str)) (D : PyData) : Prop := ∃ row : List Str, D = nmD row ∧ ChR ns ps row
noncomputable def inS (ns : List Str) (d : PyData) : Bool := (ns.map PyData.str).any fun e => PyData.eqv e d
theorem inS_iff {ns : List Str} {d : PyData} : inS ns d = true ↔ ∃ z ∈ ns, d = .str z := by
  unfold inS
  rw [List.any_map, List.any_eq_true]
  constructor
  · rintro ⟨z, hz, h⟩
    refine ⟨z, hz, ?_⟩
    cases d with
    | str y =>
      have h : PyData.eqv (.str z) (.str y) = true := h
      have := eqv_str_iff.mp h
      injection this with this
      rw [this]
    | _ => simp [PyData.eqv] at h
  · rintro ⟨z, hz, rfl⟩
    exact ⟨z, hz, eqv_str_iff.mpr rfl⟩
theorem all_inS {ns : List Str} : ∀ {ds : List PyData}, (∀ d ∈ ds, inS ns d = true) → ∃ row : List Str, ds = row.map PyData.str ∧ ∀ z ∈ row, z ∈ ns
  | [], _ => ⟨[], rfl, fun z h => by cases h⟩
  | d :: ds, h => by
    obtain ⟨z, hz, rfl⟩ := inS_iff.mp (h d (.head _))
    obtain ⟨row, rfl, hr⟩ := all_inS fun e he => h e (.tail _ he)
    exact ⟨z :: row, rfl, fun y hy => (List.mem_cons.mp hy).elim (fun e => e ▸ hz) (hr y)⟩
theorem ch_in {ns : List Str} {ps : List (Str × Str)} {ds : List PyData} (h : ChD ns ps (.tuple ds)) : ds ≠ [] ∧ ∀ d ∈ ds, inS ns d = true := by
  obtain ⟨row, e, h1, h2, _⟩ := h
  unfold nmD at e
  injection e with e
  subst e
  refine ⟨by simpa using h1, fun d hd => ?_⟩
  obtain ⟨z, hz, rfl⟩ := List.mem_map.mp hd
  exact inS_iff.mpr ⟨z, h2 z hz, rfl⟩
theorem lay_nms {ns : List Str} (h : ∀ z ∈ ns, isNm z = true) : PyData.canLayAll0 (ns.map PyData.str) = true := by
  induction ns with
  | nil => rfl
  | cons z ns ih =>
    rw [List.map_cons]
    simp only [PyData.canLayAll0, Bool.and_eq_true]
    exact ⟨by simpa only [PyData.canLay0] using (nm_ok (h z (.head _))).1, ih fun y hy => h y (.tail _ hy)⟩
noncomputable def sp_is_chain (K : PySem.W.Frag) : Sp := fun vs H Q _ => ∃ nv r u ns ps as D n w W, vs = [nv, .ref r, u] ∧ Is K H (nmD ns) nv ∧ TabR H r ns as (Way ps) ∧ ns.Nodup ∧ (∀ z ∈ ns, isNm z = true) ∧ Is K H D u ∧ Dk n w W D ∧ n ≤ 60 ∧ w ≤ 500000 ∧ ∀ b H', Same H H' → (b = true ↔ ChD ns ps D) → Q (.bl b) H'
noncomputable def CvO (ns : List Str) (ps : List (Str × Str)) : Option (List PyData) → Prop
  | some ds => ∃ rows : List (List Str), ds = rows.map nmD ∧ (∀ row ∈ rows, ChR ns ps row) ∧ rows.flatten.Perm ns
  | none => False
theorem lf_strs : ∀ row : List Str, lfsL (row.map PyData.str) = row.length
  | [] => rfl
  | z :: row => by
    have := lf_strs row
    simp only [List.map_cons, lfsL, lfs, List.length_cons]
    omega
theorem lf_rows : ∀ rows : List (List Str), lfsL (rows.map nmD) = rows.flatten.length
  | [] => rfl
  | r :: rows => by
    have := lf_rows rows
    have h := lf_strs r
    rw [List.map_cons, List.flatten_cons, List.length_append]
    simp only [lfsL]
    unfold nmD at this ⊢
    rw [lf_tup]
    omega
theorem nmD_inj {a b : List Str} (h : nmD a = nmD b) : a = b := by
  unfold nmD at h
  injection h with h
  exact strs_inj h
theorem cv_at {ns : List Str} {ps : List (Str × Str)} {ds : List PyData} {i : Nat} {D : PyData} (h : CvO ns ps (some ds)) (hD : ds[i]? = some D) : ChD ns ps D := by
  obtain ⟨rows, rfl, h1, _⟩ := h
  rw [List.getElem?_map] at hD
  obtain ⟨row, hr, rfl⟩ := Option.map_eq_some_iff.mp hD
  exact ⟨row, rfl, h1 row (List.mem_of_getElem? hr)⟩
theorem perm_sorted {a b m1 m2 : List Str} (h1 : m1.Perm a) (s1 : sortedS m1 = true) (h2 : m2.Perm b) (s2 : sortedS m2 = true) : decide (m1 = m2) = true ↔ a.Perm b := by
  rw [decide_eq_true_eq]
  constructor
  · rintro rfl
    exact h1.symm.trans h2
  · exact fun h => sorted_one ((h1.trans h).trans h2.symm) s1 s2
noncomputable def sp_is_cover (K : PySem.W.Frag) : Sp := fun vs H Q _ => ∃ v u ns ps n w W M o, vs = [v, u] ∧ Is K H (hfD ns ps) v ∧ Half ns ps ∧ ThW K H u n w W M o ∧ n ≤ 60 ∧ w ≤ 500000 ∧ M < 64 ∧ ∀ b H', Same H H' → (b = true ↔ CvO ns ps o) → Q (.bl b) H'
theorem i_inBT {K : PySem.W.Frag} {H : Hp} {Q : VK} {a : Addr} {bs : List Bool} (h : SqL K H a (bs.map V.bl)) (k : Q (.bl (bs.any id)) H) : rInA K false (.bl true) (.ref a) H Q := .inl ⟨a, _, rfl, .inl h, rfl, by
    rw [List.all_eq_true]
    intro v h
    obtain ⟨n, _, rfl⟩ := List.mem_map.mp h
    rfl, by
    have e : inV (.bl true) (bs.map V.bl) = bs.any id := by
      clear h k
      unfold inV
      induction bs with
      | nil => rfl
      | cons b bs ih =>
        rw [List.map_cons, List.any_cons, List.any_cons, ih]
        cases b <;> rfl
    show Q (.bl (inV (.bl true) (bs.map V.bl))) H
    rw [e]
    exact k⟩
theorem inS_not {ns : List Str} {d : PyData} (h : strD d = false) : inS ns d = false := by
  cases e : inS ns d with
  | false => rfl
  | true =>
    obtain ⟨z, _, rfl⟩ := inS_iff.mp e
    cases h
theorem each_in {K : PySem.W.Frag} {H : Hp} {R : VK} {d : PyData} {x v : V} {ns : List Str} {m w W : Nat} (hI : Is K H d x) (hd : Dk m w W d) (hm : m ≤ 100) (hnm : ∀ z ∈ ns, isNm z = true) (hN : Is K H (nmD ns) v) (hR : R (.bl (inS ns d)) H) : rInA K false x v H R := i_inX hI (.inr hN) (lay_nms hnm) hd.lay (Nat.le_trans hd.dp hm) hR
noncomputable def sp__law_is_chain (K : PySem.W.Frag) : Sp := fun vs H Q _ => ∃ v u ns ps D n w W, vs = [v, u] ∧ Is K H (hfD ns ps) v ∧ Half ns ps ∧ Is K H D u ∧ Dk n w W D ∧ n ≤ 60 ∧ w ≤ 500000 ∧ ∀ b H', Same H H' → (b = true ↔ ChD ns ps D) → Q (.bl b) H'
theorem ok__law_is_chain {f : Addr} {fd : FuncData} (F : Fun K "_law_is_chain" "_law_is_chain" s__law_is_chain f fd) (T : TopF mg) (c__law_behind : Fnd P w K mg base 1 "_law_behind" ["_law_half_here", "_law_name"] (sp__law_behind K)) : FnOk P w K mg base CX0 2 f fd ["_law_half_here", "_law_thing"] (sp__law_is_chain K) := by
  refine F.ok sc__law_is_chain (fun vs H Q E h => ?_) (fun cdv A outer s H vs Q E hr h => ?_)
  · obtain ⟨v, u, ns, ps, D, n, w, W, rfl, _⟩ := h
    rfl
  · obtain ⟨v, u, ns, ps, D, n, w, W, rfl, hI, hH, hU, hD, hn, hw, k⟩ := h
    have hu := hu_of hr
    have hq := qa_of hr
    have hle := hH.le
    have hok : OkP ps := okP_of hH.nmP
    have hok1 : ∀ z ∈ ns, PyData.strOk z = true := fun z hz => (nm_ok (hH.names.2 z hz)).1
    with_reducible refine ⟨_, (pss_cons (ps_if (PW.pt (pw_or (pt_not (pt_val (pe_callB (call_isinstK (K := K)) (by with_unfolding_all rfl) T.b_isinstance PyProof.Rows.Boot.«isinstance» (pa_cons (pv 1) (pa_cons (pe_bltn (v := .ty "tuple") (by with_unfolding_all rfl) T.b_tuple PyProof.Rows.Boot.«tuple» (by with_unfolding_all rfl)) pa_nil))))) (pw_or1 (pt_cmpR (op_eqK (K := K) hq) (pe_callB (call_lenK (K := K)) (by with_unfolding_all rfl) T.b_len PyProof.Rows.Boot.«len» (pa_cons (pv 1) pa_nil)) pe_int (nomark _))))) (pss_one (ps_ret pe_bl)) pss_nil)
      (pss_cons (ps_if (pt_cmpR (op_inK (K := K) hq) pe_bl (pe_comp ["_law_one"] ["_law_half_here"] [0] (by with_unfolding_all rfl) (by with_unfolding_all rfl) (by with_unfolding_all rfl) (pi_anyK (K := K) hu (pv 1)) (fun _ _ _ _ => (pg_name (i := 0) (by with_unfolding_all (show (["_law_one", "_law_half_here"] : List Str).Nodup; decide +kernel)) (by with_unfolding_all rfl) (by with_unfolding_all exact Or.inl rfl))) (gk_name (by decide)) (fun _ _ _ _ => pif_nil) (fun _ _ _ _ => (pe_and (pe_callB (call_isinstK (K := K)) (by with_unfolding_all rfl) T.b_isinstance PyProof.Rows.Boot.«isinstance» (pa_cons (pv 0) (pa_cons (pe_bltn (v := .ty "str") (by with_unfolding_all rfl) T.b_str PyProof.Rows.Boot.«str» (by with_unfolding_all rfl)) pa_nil))) (pe_one (pe_cmpR (op_inK (K := K) hq) (pv 0) (pe_ix (ix_anyK (K := K) hu) (pv 1) pe_int (by with_unfolding_all exact fun _ _ => rfl)) (by with_unfolding_all rfl)))))) (by with_unfolding_all rfl)) (pss_one (ps_ret pe_bl)) pss_nil)
      (pss_one (ps_ret (pe_cmpR (op_notInK (K := K) hq) pe_bl (pe_comp ["_law_k"] ["_law_thing", "_law_half_here"] [1, 0] (by with_unfolding_all rfl) (by with_unfolding_all rfl) (by with_unfolding_all rfl) (pi_range2 (by with_unfolding_all rfl) T.b_range (pa_cons pe_int (pa_cons (pe_callB (call_lenK (K := K)) (by with_unfolding_all rfl) T.b_len PyProof.Rows.Boot.«len» (pa_cons (pv 1) pa_nil)) pa_nil))) (fun _ _ _ _ => (pg_name (i := 0) (by with_unfolding_all (show (["_law_k", "_law_thing", "_law_half_here"] : List Str).Nodup; decide +kernel)) (by with_unfolding_all rfl) (by with_unfolding_all exact Or.inl rfl))) (gk_name (by decide)) (fun _ _ _ _ => pif_nil) (fun _ _ _ _ => (pe_cmpR (op_inK (K := K) hq) (pe_ix (ix_anyK (K := K) hu) (pv 1) (pv 0) (by with_unfolding_all exact fun _ _ => rfl)) (pe_fn c__law_behind (hr.mono (by decide)) (by with_unfolding_all rfl) (pa_cons (pv 2) (pa_cons (pe_ix (ix_anyK (K := K) hu) (pv 1) (pe_op op_sub (pv 0) pe_int) (by with_unfolding_all exact fun _ _ => rfl)) pa_nil))) (by with_unfolding_all rfl)))) (by with_unfolding_all rfl)))))), ?_⟩
    walk_at "rd"
    refine isTupD hU ⟨_, rfl, ?_⟩
    cases hTu : tupD D with
    | false =>
      walk_at "rd"
      exact k false H (.refl H) ⟨fun h => (by cases h), fun ⟨row, h, _⟩ => by rw [h] at hTu; cases hTu⟩
    | true =>
      obtain ⟨ds, rfl⟩ : ∃ ds, D = .tuple ds := by cases D <;> first | exact ⟨_, rfl⟩ | cases hTu
      obtain ⟨ua, xs, rfl, hS, hX⟩ := hU.tup
      have hxl := IsL.length hX
      have hE0 : ds.length ≤ w := by
        have := hD.wt
        simp only [PyData.weight] at this
        exact Nat.le_trans (wt_len ds) (by omega)
      walk_at "rd"
      refine len12 hS ?_
      walk_at "rd"
      refine iteD (fun hc => ?_) (fun hc => ?_)
      · walk_at "rd"
        refine k false H (.refl H) ⟨fun h => (by cases h), fun h => absurd ?_ (ch_in h).1⟩
        have : xs.length = 0 := by
          rcases Nat.eq_zero_or_pos xs.length with h | h
          · exact h
          · exact absurd hc (by simp; intro h2; rw [h2] at h; simp at h)
        exact List.eq_nil_of_length_eq_zero (by omega)
      · have hds : ds ≠ [] := by
          rintro rfl
          exact hc (by rw [← hxl]; rfl)
        walk_at "rd"
        refine i_itT hS ?_
        refine comp_bls (K := K) (walk_tup (xs := xs)) ds (by omega) (fun d => inS ns d) (by omega) (fun H' e => e.seqT hS) (fun j d xv H1 R hd hxv e1 hR => ?_) (fun q H1 hq1 e1 h1 => ?_)
        · obtain ⟨d', hd', hId⟩ := IsL.get hX hxv
          rw [hd] at hd'
          cases hd'
          walk_at "rd"
          obtain ⟨m, rfl⟩ : ∃ m, n = m + 1 := ⟨n - 1, by have := hD.dp; simp only [PyData.depth] at this; omega⟩
          obtain ⟨du, hdu⟩ := hD.els.all d (List.mem_of_getElem? hd)
          refine isStrD (Is.mono e1 _ _ hId) ⟨_, rfl, ?_⟩
          cases hs : strD d with
          | false =>
            walk_at "rd"
            have := hR H1 (.refl _)
            rw [inS_not hs] at this
            exact this
          | true =>
            walk_at "rd"
            refine i_ixH0 (hI.hf_fz e1.fz) fun nv hN => ?_
            exact each_in (Is.mono e1 _ _ hId) hdu (by omega) hH.names.2 hN (hR H1 (.refl _))
        · walk_at "rd"
          refine i_inBF h1 ?_
          cases hA : (ds.map fun d => inS ns d).all id with
          | false =>
            walk_at "rd"
            refine k false H1 e1 ⟨fun h => (by cases h), fun h => ?_⟩
            rw [List.all_map] at hA
            rw [← hA, List.all_eq_true]
            exact (ch_in h).2
          | true =>
            rw [List.all_map, List.all_eq_true] at hA
            obtain ⟨row, rfl, hrow⟩ := all_inS hA
            have hU1 : Is K H1 (nmD row) (.ref ua) := Is.mono e1 _ _ hU
            have hl2 : row.length ≤ 500000 := by simp at hE0; omega
            walk_at "rd"
            refine i_lenN hU1 ?_
            walk_at "rd"
            refine i_rngw (by omega) ?_
            refine comp_bls (K := K) walk_range (List.range ((row.length : Nat) - 1 : Int).toNat) (by simp) (fun i => match row[i]?, row[i + 1]? with | some x, some y => wayB ps x y | _, _ => true) (by simp; omega) (fun _ _ => trivial) (fun j j' x H2 R hj' hx e2 hR => ?_) (fun q2 H2 hq2 e2 h2 => ?_)
            · obtain ⟨rfl, hj⟩ := rng_get hx
              have hjj : j' = j := by
                obtain ⟨h2, h3⟩ := List.getElem?_eq_some_iff.mp hj'
                simp at h2 h3
                exact h3.symm
              subst hjj
              have hU2 := hU1.nm_fz e2.fz
              obtain ⟨y, hy1, _, hy3⟩ := str_at? (ls := row) (i := 1 + (j' : Int)) (by omega) (by omega)
              obtain ⟨x, hx1, _, hx3⟩ := str_at? (ls := row) (i := 1 + (j' : Int) - 1) (by omega) (by omega)
              have q1 : (1 + (j' : Int)).toNat = j' + 1 := by omega
              have q2 : (1 + (j' : Int) - 1).toNat = j' := by omega
              rw [q1] at hy1
              rw [q2] at hx1
              walk_at "rd"
              refine i_ixN hU2 hy3 ?_
              walk_at "rd"
              refine i_ixN hU2 hx3 ?_
              walk_at "rd"
              refine ⟨v, x, ns, ps, rfl, hI.hf_fz (e1.fz.trans e2.fz), by omega, hok, hok1 x (hrow x (List.mem_of_getElem? hx1)), fun b fs H3 hb3 e3' h3 hnd hfs => ?_⟩
              refine i_inLN (SqL.of h3) ?_
              rw [wayB_dec (hfs y)]
              have := hR H3 e3'
              simpa only [hx1, hy1] using this
            · walk_at "rd"
              refine i_ninBF h2 ?_
              walk_at "rd"
              refine k _ H2 (e1.trans e2) ?_
              rw [List.all_map, List.all_eq_true]
              constructor
              · intro h
                refine ⟨row, rfl, by simpa using hds, hrow, fun i x y hx hy => ?_⟩
                have hl1 := (List.getElem?_eq_some_iff.mp hy).1
                have := h i (by rw [List.mem_range]; omega)
                simp only [Function.comp, id, hx, hy] at this
                exact wayB_iff.mp this
              · rintro ⟨row', e, _, _, h⟩ i _
                have := nmD_inj (a := row) e
                subst this
                show (match row[i]?, row[i + 1]? with | some x, some y => wayB ps x y | _, _ => true) = true
                cases hx : row[i]? with
                | none => rfl
                | some x =>
                  cases hy : row[i + 1]? with
                  | none => rfl
                  | some y => exact wayB_iff.mpr (h i x y hx hy)
noncomputable def chB (ns : List Str) (ps : List (Str × Str)) (D : PyData) : Bool := @decide (ChD ns ps D) (Classical.propDecidable _)
theorem chB_iff {ns : List Str} {ps : List (Str × Str)} {D : PyData} : chB ns ps D = true ↔ ChD ns ps D := by
  unfold chB
  exact @decide_eq_true_iff (ChD ns ps D) (Classical.propDecidable _)
theorem all_ch {ns : List Str} {ps : List (Str × Str)} : ∀ {ds : List PyData}, (∀ d ∈ ds, ChD ns ps d) → ∃ rows : List (List Str), ds = rows.map nmD ∧ ∀ row ∈ rows, ChR ns ps row
  | [], _ => ⟨[], rfl, fun z h => by cases h⟩
  | d :: ds, h => by
    obtain ⟨r, rfl, hr⟩ := h d (.head _)
    obtain ⟨rows, rfl, hrs⟩ := all_ch fun e he => h e (.tail _ he)
    exact ⟨r :: rows, rfl, fun y hy => (List.mem_cons.mp hy).elim (fun e => e ▸ hr) (hrs y)⟩
noncomputable def sp__law_is_cover (K : PySem.W.Frag) : Sp := fun vs H Q _ => ∃ v u ns ps n w W M o, vs = [v, u] ∧ Is K H (hfD ns ps) v ∧ Half ns ps ∧ ThW K H u n w W M o ∧ n ≤ 60 ∧ w ≤ 500000 ∧ M < 64 ∧ ∀ b H', Same H H' → (b = true ↔ CvO ns ps o) → Q (.bl b) H'
theorem ok__law_is_cover {f : Addr} {fd : FuncData} (F : Fun K "_law_is_cover" "_law_is_cover" s__law_is_cover f fd) (T : TopF mg) (c__law_is_chain : Fnd P w K mg base 2 "_law_is_chain" ["_law_half_here", "_law_thing"] (sp__law_is_chain K)) : FnOk P w K mg base CX0 3 f fd ["_law_half_here", "_law_thing"] (sp__law_is_cover K) := by
  refine F.ok sc__law_is_cover (fun vs H Q E h => ?_) (fun cdv A outer s H vs Q E hr h => ?_)
  · obtain ⟨v, u, ns, ps, n, w, W, M, o, rfl, _⟩ := h
    rfl
  · obtain ⟨v, u, ns, ps, n, w, W, M, o, rfl, hI, hH, hU, hn, hw, hM, k⟩ := h
    have hu := hu_of hr
    have hq := qa_of hr
    have h10 := hH.few
    with_reducible refine ⟨_, (pss_cons (ps_if (PW.pt (pw_or (pt_not (pt_val (pe_callB (call_isinstK (K := K)) (by with_unfolding_all rfl) T.b_isinstance PyProof.Rows.Boot.«isinstance» (pa_cons (pv 1) (pa_cons (pe_bltn (v := .ty "tuple") (by with_unfolding_all rfl) T.b_tuple PyProof.Rows.Boot.«tuple» (by with_unfolding_all rfl)) pa_nil))))) (pw_or1 (pt_cmpR (op_inK (K := K) hq) pe_bl (pe_comp ["_law_one"] ["_law_half_here"] [0] (by with_unfolding_all rfl) (by with_unfolding_all rfl) (by with_unfolding_all rfl) (pi_anyK (K := K) hu (pv 1)) (fun _ _ _ _ => (pg_name (i := 0) (by with_unfolding_all (show (["_law_one", "_law_half_here"] : List Str).Nodup; decide +kernel)) (by with_unfolding_all rfl) (by with_unfolding_all exact Or.inl rfl))) (gk_name (by decide)) (fun _ _ _ _ => pif_nil) (fun _ _ _ _ => (pe_fn c__law_is_chain (hr.mono (by decide)) (by with_unfolding_all rfl) (pa_cons (pv 1) (pa_cons (pv 0) pa_nil))))) (by with_unfolding_all rfl))))) (pss_one (ps_ret pe_bl)) pss_nil)
      (pss_cons (ps_set (i := 2) sc__law_is_cover.nd (by with_unfolding_all rfl) (by with_unfolding_all exact Or.inl rfl) (pe_lst pa_nil))
      (pss_cons (ps_for PassesOwn.never (by with_unfolding_all rfl) (pi_anyK (K := K) hu (pv 1)) (pg_name (i := 3) sc__law_is_cover.nd (by with_unfolding_all rfl) (by with_unfolding_all exact Or.inl rfl))
      (pss_one (ps_expr (pe_bmK (K := K) PySem.F.plainAttrs_list PySem.F.slot_list_extend PySem.F.type_list_extend (mm (mt_extendB (K := K))) (pv 2) (pa_cons (pv 3) pa_nil)))))
      (pss_one (ps_ret (pe_cmpR (op_eqK (K := K) hq) (pe_callB (call_sortedK (K := K)) (by with_unfolding_all rfl) T.b_sorted PyProof.Rows.Boot.«sorted» (pa_cons (pv 2) pa_nil)) (pe_callB (call_sortedK (K := K)) (by with_unfolding_all rfl) T.b_sorted PyProof.Rows.Boot.«sorted» (pa_cons (pe_ix (ix_anyK (K := K) hu) (pv 0) pe_int (by with_unfolding_all exact fun _ _ => rfl)) pa_nil)) (nomark _))))))), ?_⟩
    walk_at "rd"
    refine isTupW hU ⟨_, rfl, ?_⟩
    cases o with
    | none =>
      walk_at "rd"
      exact k false H (.refl H) ⟨fun h => (by cases h), fun h => h.elim⟩
    | some ds =>
      obtain ⟨hU, hD, hlf⟩ := hU
      obtain ⟨ua, xs, rfl, hS, hX⟩ := hU.tup
      have hxl := IsL.length hX
      obtain ⟨m, rfl⟩ : ∃ m, n = m + 1 := ⟨n - 1, by have := hD.dp; simp only [PyData.depth] at this; omega⟩
      have hE := hD.els
      have hwl : ds.length ≤ w := Nat.le_trans (wt_len ds) hE.wt
      rw [show (some ds).isSome = true from rfl]
      walk_at "rd"
      refine i_itT hS ?_
      refine comp_bls (K := K) (walk_tup (xs := xs)) ds (by omega) (fun d => chB ns ps d) (by omega) (fun H' e => e.seqT hS) (fun j d xv H1 R hd hxv e1 hR => ?_) (fun q H1 hq1 e1 h1 => ?_)
      · obtain ⟨d', hd', hId⟩ := IsL.get hX hxv
        rw [hd] at hd'
        cases hd'
        obtain ⟨du, hdu⟩ := hE.all d (List.mem_of_getElem? hd)
        have hwx : d.weight ≤ w := Nat.le_trans (wt_mem (List.mem_of_getElem? hd)) hE.wt
        walk_at "rd"
        refine ⟨v, xv, ns, ps, d, m, w, W, rfl, hI.hf_fz e1.fz, hH, Is.mono e1 _ _ hId, ⟨hdu.asc, hdu.lay, hdu.sh, hdu.lv, hdu.dp, hwx, hdu.wd⟩, by omega, hw, fun b H2 e2 hb => ?_⟩
        have : b = chB ns ps d := Bool.eq_iff_iff.mpr (hb.trans chB_iff.symm)
        rw [this]
        exact hR H2 e2
      · walk_at "rd"
        refine i_inBF h1 ?_
        cases hA : (ds.map fun d => chB ns ps d).all id with
        | false =>
          walk_at "rd"
          refine k false H1 e1 ⟨fun h => (by cases h), fun h => ?_⟩
          rw [List.all_map] at hA
          rw [← hA, List.all_eq_true]
          intro d hd
          obtain ⟨i, hi⟩ := List.mem_iff_getElem?.mp hd
          exact chB_iff.mpr (cv_at h hi)
        | true =>
          rw [List.all_map, List.all_eq_true] at hA
          obtain ⟨rows, rfl, hrows⟩ := all_ch fun d hd => chB_iff.mp (hA d hd)
          rw [lf_rows] at hlf
          have hin : ∀ z ∈ rows.flatten, z ∈ ns := fun z hz => by
            obtain ⟨row, h1, h2⟩ := List.mem_flatten.mp hz
            exact (hrows row h1).2.1 z h2
          walk_at "rd"
          refine i_newL (line_of (by simp)) fun p H2 hp2 e2 h2 => ?_
          walk_at "rd"
          refine i_itT ((e1.trans e2).seqT hS) ?_
          refine for_by (walk_tup (xs := xs)) (fun i σ H3 => ∃ x3, σ = [some v, some (.ref ua), some (.ref p), x3] ∧ Same H1 H3 ∧ H3 p = some (.lst ((rows.take i).flatten.map V.str)))
            ⟨none, rfl, e2, h2⟩ (fun i σ' H' hP => ?_) (fun i x σ' H3 hx hi hP => ?_) (fun σ' H3 hP => ?_)
          · obtain ⟨_, _, e, _⟩ := hP
            exact (e1.trans e).seqT hS
          · obtain ⟨x3, rfl, e3, h3⟩ := hP
            have e13 := e1.trans e3
            obtain ⟨D, hDi, hIx⟩ := IsL.get hX hx
            rw [List.getElem?_map] at hDi
            obtain ⟨row, hri, rfl⟩ := Option.map_eq_some_iff.mp hDi
            obtain ⟨xa, rfl, hSx⟩ := Is.nm (Is.mono e13 _ _ hIx)
            have ht : (rows.take (i + 1)).flatten = (rows.take i).flatten ++ row := by rw [List.take_add_one, hri, List.flatten_append]; simp
            have hsz : (rows.take (i + 1)).flatten.length ≤ M := by
              have := lf_take (rows.map nmD) (i + 1)
              rw [← List.map_take, lf_rows, lf_rows] at this
              omega
            rw [ht, List.length_append] at hsz
            walk_at "rd"
            refine i_extT h3 hSx (by rw [List.length_map, List.length_map]; omega) fun H5 e5 h5 => ?_
            walk_at "rd"
            exact ⟨_, rfl, Same.off (q := p) (H1 := H3) e3 hp2 e5, by rw [h5, ht, List.map_append]⟩
          · obtain ⟨x3, rfl, e3, h3⟩ := hP
            have e13 := e1.trans e3
            rw [← hxl, List.length_map, List.take_length] at h3
            walk_at "rd"
            refine i_sorted (.inl (SqL.of h3)) (by omega) fun p4 m4 H4 hp4 e4 h4 hm4 hs4 => ?_
            walk_at "rd"
            refine i_ixH0 (hI.hf_fz (e13.trans e4).fz) fun nv hN => ?_
            obtain ⟨na, rfl, hSn⟩ := hN.nm
            walk_at "rd"
            refine i_sorted (.inr hSn) (by omega) fun p5 m5 H5 hp5 e5 h5 hm5 hs5 => ?_
            walk_at "rd"
            refine i_eqD (Is.of_lst (SqL.of (e5 _ _ h4)) (is_strs m4)) (Is.of_lst (SqL.of h5) (is_strs m5)) (fine_lst fun z hz => (nm_ok (hH.names.2 z (hin z (hm4.mem_iff.mp hz)))).1) (fine_lst fun z hz => (nm_ok (hH.names.2 z (hm5.mem_iff.mp hz))).1) ?_
            rw [eqv_lsts]
            walk_at "rd"
            refine k _ H5 ((e13.trans e4).trans e5) ((perm_sorted hm4 hs4 hm5 hs5).trans ⟨fun h => ⟨rows, rfl, hrows, h⟩, fun ⟨rows', h1, _, h3⟩ => ?_⟩)
            rw [(List.map_inj_right fun _ _ => nmD_inj).mp h1]
            exact h3
theorem pw_all {ps : List (Str × Str)} (irr : ∀ x, wayB ps x x = false) : ∀ {row : List Str}, row.Pairwise (fun x y => unB ps x y = true) ↔ ∀ x ∈ row, ∀ y ∈ row, wayB ps x y = false
  | [] => ⟨fun _ x h => (by cases h), fun _ => .nil⟩
  | a :: r => by
    rw [List.pairwise_cons, pw_all irr]
    have hun : ∀ x y, unB ps x y = true ↔ wayB ps x y = false ∧ wayB ps y x = false := fun x y => by unfold unB; simp
    constructor
    · rintro ⟨h1, h2⟩ x hx y hy
      rcases List.mem_cons.mp hx with e1 | hx1
      · rcases List.mem_cons.mp hy with e2 | hy1
        · rw [e1, e2]
          exact irr _
        · rw [e1]
          exact ((hun _ _).mp (h1 y hy1)).1
      · rcases List.mem_cons.mp hy with e2 | hy1
        · rw [e2]
          exact ((hun _ _).mp (h1 x hx1)).2
        · exact h2 x hx1 y hy1
    · intro h
      exact ⟨fun y hy => (hun _ _).mpr ⟨h a (.head _) y (.tail _ hy), h y (.tail _ hy) a (.head _)⟩, fun x hx y hy => h x (.tail _ hx) y (.tail _ hy)⟩
theorem bun_in {ns : List Str} {ps : List (Str × Str)} {ds : List PyData} (h : BunO ns ps (some ds)) : ∀ d ∈ ds, inS ns d = true := by
  obtain ⟨row, rfl, h1, _⟩ := h
  intro d hd
  obtain ⟨z, hz, rfl⟩ := List.mem_map.mp hd
  rw [h1] at hz
  exact inS_iff.mpr ⟨z, (List.mem_filter.mp hz).1, rfl⟩
noncomputable def sp__law_is_bunch (K : PySem.W.Frag) : Sp := fun vs H Q _ => ∃ v u ns ps n w W M o, vs = [v, u] ∧ Is K H (hfD ns ps) v ∧ Half ns ps ∧ ThW K H u n w W M o ∧ n ≤ 60 ∧ w ≤ 500000 ∧ ∀ b H', Same H H' → (b = true ↔ BunO ns ps o) → Q (.bl b) H'
theorem ok__law_is_bunch {f : Addr} {fd : FuncData} (F : Fun K "_law_is_bunch" "_law_is_bunch" s__law_is_bunch f fd) (T : TopF mg) (c__law_closed : Fnd P w K mg base 3 "_law_closed" ["_law_half_here"] (sp__law_closed K)) : FnOk P w K mg base CX0 4 f fd ["_law_half_here", "_law_thing"] (sp__law_is_bunch K) := by
  refine F.ok sc__law_is_bunch (fun vs H Q E h => ?_) (fun cdv A outer s H vs Q E hr h => ?_)
  · obtain ⟨v, u, ns, ps, n, w, W, M, o, rfl, _⟩ := h
    rfl
  · obtain ⟨v, u, ns, ps, n, w, W, M, o, rfl, hI, hH, hU, hn, hw, k⟩ := h
    have hu := hu_of hr
    have hq := qa_of hr
    have h10 := hH.few
    have irr : ∀ x, wayB ps x x = false := wayB_irr hH.w
    have hlay := lay_prs (nmP_clP (ps := ps) hH.names)
    with_reducible refine ⟨_, (pss_cons (ps_if (PW.pt (pw_or (pt_not (pt_val (pe_callB (call_isinstK (K := K)) (by with_unfolding_all rfl) T.b_isinstance PyProof.Rows.Boot.«isinstance» (pa_cons (pv 1) (pa_cons (pe_bltn (v := .ty "tuple") (by with_unfolding_all rfl) T.b_tuple PyProof.Rows.Boot.«tuple» (by with_unfolding_all rfl)) pa_nil))))) (pw_or1 (pt_cmpR (op_inK (K := K) hq) pe_bl (pe_comp ["_law_one"] ["_law_half_here"] [0] (by with_unfolding_all rfl) (by with_unfolding_all rfl) (by with_unfolding_all rfl) (pi_anyK (K := K) hu (pv 1)) (fun _ _ _ _ => (pg_name (i := 0) (by with_unfolding_all (show (["_law_one", "_law_half_here"] : List Str).Nodup; decide +kernel)) (by with_unfolding_all rfl) (by with_unfolding_all exact Or.inl rfl))) (gk_name (by decide)) (fun _ _ _ _ => pif_nil) (fun _ _ _ _ => (pe_and (pe_callB (call_isinstK (K := K)) (by with_unfolding_all rfl) T.b_isinstance PyProof.Rows.Boot.«isinstance» (pa_cons (pv 0) (pa_cons (pe_bltn (v := .ty "str") (by with_unfolding_all rfl) T.b_str PyProof.Rows.Boot.«str» (by with_unfolding_all rfl)) pa_nil))) (pe_one (pe_cmpR (op_inK (K := K) hq) (pv 0) (pe_ix (ix_anyK (K := K) hu) (pv 1) pe_int (by with_unfolding_all exact fun _ _ => rfl)) (by with_unfolding_all rfl)))))) (by with_unfolding_all rfl))))) (pss_one (ps_ret pe_bl)) pss_nil)
      (pss_cons (ps_if (pt_cmpR (op_neK (K := K) hq) (pe_callTy (call_listK (K := K)) (by with_unfolding_all rfl) T.b_list PyProof.Rows.Boot.«list» (pa_cons (pv 1) pa_nil)) (pe_comp ["_law_name"] ["_law_thing"] [1] (by with_unfolding_all rfl) (by with_unfolding_all rfl) (by with_unfolding_all rfl) (pi_anyK (K := K) hu (pe_ix (ix_anyK (K := K) hu) (pv 0) pe_int (by with_unfolding_all exact fun _ _ => rfl))) (fun _ _ _ _ => (pg_name (i := 0) (by with_unfolding_all (show (["_law_name", "_law_thing"] : List Str).Nodup; decide +kernel)) (by with_unfolding_all rfl) (by with_unfolding_all exact Or.inl rfl))) (gk_name (by decide)) (fun _ _ _ _ => (pif_one (pt_cmpR (op_inK (K := K) hq) (pv 0) (pv 1) (by with_unfolding_all rfl)))) (fun _ _ _ _ => (pv 0))) (nomark _)) (pss_one (ps_ret pe_bl)) pss_nil)
      (pss_cons (ps_set (i := 2) sc__law_is_bunch.nd (by with_unfolding_all rfl) (by with_unfolding_all exact Or.inr rfl) (pe_fn c__law_closed (hr.mono (by decide)) (by with_unfolding_all rfl) (pa_cons (pv 0) pa_nil)))
      (pss_cons (ps_for PassesOwn.never (by with_unfolding_all rfl) (pi_anyK (K := K) hu (pv 1)) (pg_name (i := 3) sc__law_is_bunch.nd (by with_unfolding_all rfl) (by with_unfolding_all exact Or.inr rfl))
      (pss_one (ps_if (pt_cmpR (op_inK (K := K) hq) pe_bl (pe_comp ["_law_other"] ["_law_one", "_law_told"] [3, 2] (by with_unfolding_all rfl) (by with_unfolding_all rfl) (by with_unfolding_all rfl) (pi_anyK (K := K) hu (pv 1)) (fun _ _ _ _ => (pg_name (i := 0) (by with_unfolding_all (show (["_law_other", "_law_one", "_law_told"] : List Str).Nodup; decide +kernel)) (by with_unfolding_all rfl) (by with_unfolding_all exact Or.inl rfl))) (gk_name (by decide)) (fun _ _ _ _ => pif_nil) (fun _ _ _ _ => (pe_cmpR (op_inK (K := K) hq) (pe_tup (pa_cons (pv 1) (pa_cons (pv 0) pa_nil))) (pv 2) (by with_unfolding_all rfl)))) (by with_unfolding_all rfl)) (pss_one (ps_ret pe_bl)) pss_nil)))
      (pss_one (ps_ret pe_bl)))))), ?_⟩
    walk_at "rd"
    refine isTupW hU ⟨_, rfl, ?_⟩
    cases o with
    | none =>
      walk_at "rd"
      exact k false H (.refl H) ⟨fun h => (by cases h), fun h => h.elim⟩
    | some ds =>
      obtain ⟨hU, hD, hlf⟩ := hU
      obtain ⟨ua, xs, rfl, hS, hX⟩ := hU.tup
      have hxl := IsL.length hX
      obtain ⟨m, rfl⟩ : ∃ m, n = m + 1 := ⟨n - 1, by have := hD.dp; simp only [PyData.depth] at this; omega⟩
      have hE := hD.els
      have hwl : ds.length ≤ w := Nat.le_trans (wt_len ds) hE.wt
      rw [show (some ds).isSome = true from rfl]
      walk_at "rd"
      refine i_itT hS ?_
      refine comp_bls (K := K) (walk_tup (xs := xs)) ds (by omega) (fun d => inS ns d) (by omega) (fun H' e => e.seqT hS) (fun j d xv H1 R hd hxv e1 hR => ?_) (fun q H1 hq1 e1 h1 => ?_)
      · obtain ⟨d', hd', hId⟩ := IsL.get hX hxv
        rw [hd] at hd'
        cases hd'
        walk_at "rd"
        obtain ⟨du, hdu⟩ := hE.all d (List.mem_of_getElem? hd)
        refine isStrD (Is.mono e1 _ _ hId) ⟨_, rfl, ?_⟩
        cases hs : strD d with
        | false =>
          walk_at "rd"
          have := hR H1 (.refl _)
          rw [inS_not hs] at this
          exact this
        | true =>
          walk_at "rd"
          refine i_ixH0 (hI.hf_fz e1.fz) fun nv hN => ?_
          exact each_in (Is.mono e1 _ _ hId) hdu (by omega) hH.names.2 hN (hR H1 (.refl _))
      · walk_at "rd"
        refine i_inBF h1 ?_
        cases hA : (ds.map fun d => inS ns d).all id with
        | false =>
          walk_at "rd"
          refine k false H1 e1 ⟨fun h => (by cases h), fun h => ?_⟩
          rw [List.all_map] at hA
          rw [← hA, List.all_eq_true]
          exact bun_in h
        | true =>
          rw [List.all_map, List.all_eq_true] at hA
          obtain ⟨row, rfl, hrow⟩ := all_inS hA
          have hU1 : Is K H1 (nmD row) (.ref ua) := Is.mono e1 _ _ hU
          obtain ⟨_, eua, hS1⟩ := hU1.nm
          cases eua
          have hokr : ∀ z ∈ row, PyData.strOk z = true := fun z hz => (nm_ok (hH.names.2 z (hrow z hz))).1
          have hl2 : row.length ≤ 500000 := by simp at hwl; omega
          walk_at "rd"
          refine i_listA (.inr hS1) fun q2 H2 hq2 e2 h2 => ?_
          have e12 := e1.trans e2
          walk_at "rd"
          refine i_ixH0 (hI.hf_fz e12.fz) fun nv hN => ?_
          walk_at "rd"
          refine comp_nm hN (fun z => decide (z ∈ row)) PyData.str (fun _ => rfl) (by omega) (fun i z H3 R R' hz e3 hR hR' => ?_) (fun q ys H3 hq3 e3 h3 hL3 => ?_)
          · walk_at "rd"
            refine i_inN (hU1.nm_fz (e2.trans e3).fz) ?_
            cases ht : decide (z ∈ row) with
            | true =>
              walk_at "rd"
              exact hR ht _ H3 (.refl _) is_str
            | false =>
              walk_at "rd"
              exact hR' ht H3 (.refl _)
          · have hfin : ∀ z ∈ ns.filter (fun z => decide (z ∈ row)), PyData.strOk z = true := fun z hz => (nm_ok (hH.names.2 z (List.mem_filter.mp hz).1)).1
            have e13 := e12.trans e3
            walk_at "rd"
            refine i_neD (Is.of_lst (SqL.of (e3 _ _ h2)) (is_strs row)) (Is.of_lst (SqL.of h3) hL3) (fine_lst hokr) (fine_lst hfin) ?_
            rw [eqv_lsts]
            walk_at "rd"
            refine iteND (fun hc => ?_) (fun hc => ?_)
            · walk_at "rd"
              refine k false H3 e13 ⟨fun h => (by cases h), fun ⟨row', h1, h2, _⟩ => ?_⟩
              have := strs_inj h1
              subst this
              exact absurd h2 hc
            · walk_at "rd"
              refine ⟨v, ns, ps, rfl, hI.hf_fz e13.fz, hH, fun c cs H4 hc4 e4 h4 hC => ?_⟩
              walk_at "rd"
              have e14 := e13.trans e4
              have hU4 : Is K H4 (nmD row) (.ref ua) := Is.mono e14 _ _ hU
              refine for_nm hU4 (fun i σ H5 => ∃ x3, σ = [some v, some (.ref ua), some (.ref c), x3] ∧ Same H4 H5 ∧ ∀ x ∈ row.take i, ∀ y ∈ row, wayB ps x y = false)
                ⟨none, rfl, .refl _, fun x h => by cases h⟩ (fun i σ' H' hP => ?_) (fun i z σ' H5 hz hP => ?_) (fun σ' H5 hP => ?_)
              · obtain ⟨_, _, e, _⟩ := hP
                exact e.fz
              · obtain ⟨x3, rfl, e5, hP⟩ := hP
                have hU5 := hU4.nm_fz e5.fz
                obtain ⟨_, eua, hS5⟩ := hU5.nm
                cases eua
                have hzn := hrow z (List.mem_of_getElem? hz)
                walk_at "rd"
                refine i_itT hS5 ?_
                refine comp_bls (K := K) (walk_tup (xs := row.map V.str)) row (by rw [List.length_map]) (fun y => wayB ps z y) (by rw [List.length_map]; omega) (fun H' e => e.seqT hS5) (fun j y xv H6 R hy hxv e6 hR => ?_) (fun q H6 hq6 e6 h6 => ?_)
                · rw [List.getElem?_map, hy] at hxv
                  cases hxv
                  have hyn := hrow y (List.mem_of_getElem? hy)
                  walk_at "rd"
                  refine i_newT (line_of (by simp)) fun t7 H7 ht7 e7 h7 => ?_
                  walk_at "rd"
                  have e47 := (e5.trans e6).trans e7
                  refine i_inX (d := prD (z, y)) (is_pr (SqT.of h7)) (.inl (Is.of_lst (SqL.of (e47 _ _ h4)) (IsL.mono e47 _ _ hC))) hlay (plain_lay _ (pr_facts (p := (z, y)) (hH.names.2 z hzn) (hH.names.2 y hyn)).1) (by simp only [prD, PyData.depth, PyData.depthAll]; omega) ?_
                  rw [any_pr, ninB_cl hzn hyn]
                  exact hR H7 e7
                · walk_at "rd"
                  refine i_inBT h6 ?_
                  cases hB : (row.map fun y => wayB ps z y).any id with
                  | true =>
                    walk_at "rd"
                    refine k false H6 ((e14.trans e5).trans e6) ⟨fun h => (by cases h), fun ⟨row', h1, h2, h3⟩ => ?_⟩
                    have := strs_inj h1
                    subst this
                    rw [List.any_map, List.any_eq_true] at hB
                    obtain ⟨y, hy, hyt⟩ := hB
                    have := (pw_all irr).mp h3 z (List.mem_of_getElem? hz) y hy
                    have hyt : wayB ps z y = true := hyt
                    rw [hyt] at this
                    cases this
                  | false =>
                    walk_at "rd"
                    refine ⟨_, rfl, e5.trans e6, fun x hx y hy => ?_⟩
                    rw [List.take_add_one, hz] at hx
                    rcases List.mem_append.mp hx with hx | hx
                    · exact hP x hx y hy
                    · have : x = z := by simpa using hx
                      subst this
                      rw [List.any_map, List.any_eq_false] at hB
                      simpa using hB y hy
              · obtain ⟨x3, rfl, e5, hP⟩ := hP
                rw [List.take_length] at hP
                walk_at "rd"
                exact k true H5 (e14.trans e5) ⟨fun _ => ⟨row, rfl, hc, (pw_all irr).mpr hP⟩, fun _ => rfl⟩
theorem part_in {ps P : List (Str × Str)} {A : List Str} (hm : ∀ p ∈ P, p.1 ∈ A ∧ p.2 ∈ A) (h : ∀ p ∈ ps, p.2 ∈ A → p ∈ P) {x y : Str} (hw : Way ps x y) (hy : y ∈ A) : Way P x y := by
  induction hw with
  | one e => exact .one (h _ e hy)
  | cons e _ ih =>
    have g := ih hy
    exact .cons (h _ e (Way.mem hm g).1) g
theorem part_out {ps P : List (Str × Str)} {B : List Str} (hm : ∀ p ∈ P, p.1 ∈ B ∧ p.2 ∈ B) (h : ∀ p ∈ ps, p.1 ∈ B → p ∈ P) {x y : Str} (hw : Way ps x y) (hx : x ∈ B) : Way P x y := by
  induction hw with
  | one e => exact .one (h _ e hx)
  | cons e _ ih =>
    have g := h _ e hx
    exact .cons g (ih (hm _ g).2)
theorem wayB_eq {ps qs : List (Str × Str)} {x y : Str} (h : Way ps x y ↔ Way qs x y) : wayB ps x y = wayB qs x y := wayB_of (by rw [wayB_iff]; exact h)
theorem up_take {ns : List Str} {c : Nat} {P : List (Str × Str)} (h : Up (ns.take c) P) : Up ns P := fun p hp => by
  obtain ⟨i, j, h1, h2, h3⟩ := h p hp
  rw [List.getElem?_take] at h2 h3
  split at h2
  · split at h3
    · exact ⟨i, j, h1, h2, h3⟩
    · cases h3
  · cases h2
theorem up_drop {ns : List Str} {c : Nat} {P : List (Str × Str)} (h : Up (ns.drop c) P) : Up ns P := fun p hp => by
  obtain ⟨i, j, h1, h2, h3⟩ := h p hp
  rw [List.getElem?_drop] at h2 h3
  exact ⟨c + i, c + j, by omega, h2, h3⟩
theorem up_cross {ns : List Str} {c : Nat} {x y : Str} (hx : x ∈ ns.take c) (hy : y ∈ ns.drop c) : ∃ i j : Nat, i < j ∧ ns[i]? = some x ∧ ns[j]? = some y := by
  obtain ⟨i, hi⟩ := List.mem_iff_getElem?.mp hx
  obtain ⟨j, hj⟩ := List.mem_iff_getElem?.mp hy
  rw [List.getElem?_take] at hi
  rw [List.getElem?_drop] at hj
  split at hi
  · exact ⟨i, c + j, by omega, hi, hj⟩
  · cases hi
noncomputable def crossP (A B : List Str) : List (Str × Str) := A.flatMap fun x => B.map fun y => (x, y)
theorem mem_cross {A B : List Str} {p : Str × Str} : p ∈ crossP A B ↔ p.1 ∈ A ∧ p.2 ∈ B := by
  unfold crossP
  rw [List.mem_flatMap]
  constructor
  · rintro ⟨x, hx, h⟩
    obtain ⟨y, hy, rfl⟩ := List.mem_map.mp h
    exact ⟨hx, hy⟩
  · rintro ⟨h1, h2⟩
    exact ⟨p.1, h1, List.mem_map.mpr ⟨p.2, h2, rfl⟩⟩
theorem big_above {ns : List Str} {c : Nat} {P1 P2 : List (Str × Str)} (hn : ns.Nodup) (h1 : Up (ns.take c) P1) (h2 : Up (ns.drop c) P2) :
    Up ns (P1 ++ P2 ++ crossP (ns.take c) (ns.drop c)) ∧ cnt (wayB (P1 ++ P2 ++ crossP (ns.take c) (ns.drop c))) ns = cnt (wayB P1) (ns.take c) * cnt (wayB P2) (ns.drop c) := by
  have hnd : (ns.take c ++ ns.drop c).Nodup := by rw [List.take_append_drop]; exact hn
  obtain ⟨hA, hB, hAB⟩ := List.nodup_append.mp hnd
  have hu : Up ns (P1 ++ P2 ++ crossP (ns.take c) (ns.drop c)) := fun p hp => by
    rcases List.mem_append.mp hp with hp | hp
    · rcases List.mem_append.mp hp with hp | hp
      · exact up_take h1 p hp
      · exact up_drop h2 p hp
    · obtain ⟨q1, q2⟩ := mem_cross.mp hp
      exact up_cross q1 q2
  refine ⟨hu, ?_⟩
  have m1 : ∀ p ∈ P1, p.1 ∈ ns.take c ∧ p.2 ∈ ns.take c := fun p hp => h1.mem hp
  have m2 : ∀ p ∈ P2, p.1 ∈ ns.drop c ∧ p.2 ∈ ns.drop c := fun p hp => h2.mem hp
  have i1 : ∀ p ∈ P1 ++ P2 ++ crossP (ns.take c) (ns.drop c), p.2 ∈ ns.take c → p ∈ P1 := fun p hp ha => by
    rcases List.mem_append.mp hp with hp | hp
    · rcases List.mem_append.mp hp with hp | hp
      · exact hp
      · exact absurd rfl (hAB _ ha _ (m2 p hp).2)
    · exact absurd rfl (hAB _ ha _ (mem_cross.mp hp).2)
  have i2 : ∀ p ∈ P1 ++ P2 ++ crossP (ns.take c) (ns.drop c), p.1 ∈ ns.drop c → p ∈ P2 := fun p hp hb => by
    rcases List.mem_append.mp hp with hp | hp
    · rcases List.mem_append.mp hp with hp | hp
      · exact absurd rfl (hAB _ (m1 p hp).1 _ hb)
      · exact hp
    · exact absurd rfl (hAB _ (mem_cross.mp hp).1 _ hb)
  have key := cnt_above (b := wayB (P1 ++ P2 ++ crossP (ns.take c) (ns.drop c))) _ rfl hnd fun x hx y hy => ⟨wayB_iff.mpr (.one (List.mem_append_right _ (mem_cross.mpr ⟨hx, hy⟩))), wayB_false fun g => by
    have := Way.mem m1 (part_in m1 i1 g hx)
    exact absurd rfl (hAB _ this.1 _ hy)⟩
  rw [List.take_append_drop] at key
  rw [key]
  congr 1
  · refine cnt_congr _ rfl hA fun x hx y hy => wayB_eq ⟨fun g => part_in m1 i1 g hy, fun g => g.mono fun p hp => List.mem_append_left _ (List.mem_append_left _ hp)⟩
  · refine cnt_congr _ rfl hB fun x hx y hy => wayB_eq ⟨fun g => part_out m2 i2 g hx, fun g => g.mono fun p hp => List.mem_append_left _ (List.mem_append_right _ hp)⟩
theorem big_beside {ns : List Str} {c : Nat} {P1 P2 : List (Str × Str)} (hn : ns.Nodup) (h1 : Up (ns.take c) P1) (h2 : Up (ns.drop c) P2) :
    Up ns (P1 ++ P2) ∧ cnt (wayB (P1 ++ P2)) ns = shuf (ns.take c).length (ns.drop c).length * (cnt (wayB P1) (ns.take c) * cnt (wayB P2) (ns.drop c)) := by
  have hnd : (ns.take c ++ ns.drop c).Nodup := by rw [List.take_append_drop]; exact hn
  obtain ⟨hA, hB, hAB⟩ := List.nodup_append.mp hnd
  have hu : Up ns (P1 ++ P2) := fun p hp => by
    rcases List.mem_append.mp hp with hp | hp
    · exact up_take h1 p hp
    · exact up_drop h2 p hp
  refine ⟨hu, ?_⟩
  have m1 : ∀ p ∈ P1, p.1 ∈ ns.take c ∧ p.2 ∈ ns.take c := fun p hp => h1.mem hp
  have m2 : ∀ p ∈ P2, p.1 ∈ ns.drop c ∧ p.2 ∈ ns.drop c := fun p hp => h2.mem hp
  have i1 : ∀ p ∈ P1 ++ P2, p.2 ∈ ns.take c → p ∈ P1 := fun p hp ha => by
    rcases List.mem_append.mp hp with hp | hp
    · exact hp
    · exact absurd rfl (hAB _ ha _ (m2 p hp).2)
  have i2 : ∀ p ∈ P1 ++ P2, p.2 ∈ ns.drop c → p ∈ P2 := fun p hp hb => by
    rcases List.mem_append.mp hp with hp | hp
    · exact absurd rfl (hAB _ (m1 p hp).2 _ hb)
    · exact hp
  have key := cnt_beside (b := wayB (P1 ++ P2)) _ rfl hnd fun x hx y hy => ⟨wayB_false fun g => by
    have := Way.mem m2 (part_in m2 i2 g hy)
    exact absurd rfl (hAB _ hx _ this.1), wayB_false fun g => by
    have := Way.mem m1 (part_in m1 i1 g hx)
    exact absurd rfl (hAB _ this.1 _ hy)⟩
  rw [List.take_append_drop] at key
  rw [key]
  congr 2
  · refine cnt_congr _ rfl hA fun x hx y hy => wayB_eq ⟨fun g => part_in m1 i1 g hy, fun g => g.mono fun p hp => List.mem_append_left _ hp⟩
  · refine cnt_congr _ rfl hB fun x hx y hy => wayB_eq ⟨fun g => part_in m2 i2 g hy, fun g => g.mono fun p hp => List.mem_append_right _ hp⟩
noncomputable def sp__law_is_number (K : PySem.W.Frag) : Sp := fun vs H Q _ => ∃ n : Int, vs = [.int n] ∧ Q (.bl true) H
noncomputable def sp__law_shuffles (K : PySem.W.Frag) : Sp := fun vs H Q _ => ∃ m : Nat, vs = [.int ((m : Nat) : Int)] ∧ m ≤ 1000 ∧ Q (.int ((fac m : Nat) : Int)) H
theorem ok__law_shuffles {f : Addr} {fd : FuncData} (F : Fun K "_law_shuffles" "_law_shuffles" s__law_shuffles f fd) (T : TopF mg) : FnOk P w K mg base CX0 1 f fd ["_law_many"] (sp__law_shuffles K) := by
  refine F.ok sc__law_shuffles (fun vs H Q E h => ?_) (fun cdv A outer s H vs Q E hr h => ?_)
  · obtain ⟨m, rfl, _⟩ := h
    rfl
  · obtain ⟨m, rfl, hm, k⟩ := h
    have hu := hu_of hr
    have hq := qa_of hr
    with_reducible refine ⟨_, (pss_cons (ps_set (i := 1) sc__law_shuffles.nd (by with_unfolding_all rfl) (by with_unfolding_all exact Or.inl rfl) pe_int)
      (pss_cons (ps_for PassesOwn.never (by with_unfolding_all rfl) (pi_range1 (by with_unfolding_all rfl) T.b_range (pa_cons (pv 0) pa_nil)) (pg_name (i := 2) sc__law_shuffles.nd (by with_unfolding_all rfl) (by with_unfolding_all exact Or.inl rfl))
      (pss_one (ps_set (i := 1) sc__law_shuffles.nd (by with_unfolding_all rfl) (by with_unfolding_all exact Or.inl rfl) (pe_op op_mulB (pv 1) (pe_op (op_addK (K := K)) (pv 2) pe_int)))))
      (pss_one (ps_ret (pv 1))))), ?_⟩
    walk_at "rd"
    refine i_rngv (by omega) ?_
    refine for_by walk_range (fun i σ H1 => ∃ x2, σ = [some (.int ((m : Nat) : Int)), some (.int ((fac i : Nat) : Int)), x2] ∧ H1 = H) ⟨_, rfl, rfl⟩ (fun _ _ _ _ => trivial) (fun i x σ' H1 hx hi hP => ?_) (fun σ' H1 hP => ?_)
    · obtain ⟨x2, rfl, rfl⟩ := hP
      obtain ⟨rfl, hi2⟩ := rng_get hx
      walk_at "rd"
      refine ⟨some (.int (0 + (i : Int))), ?_, rfl⟩
      have : ((fac i : Nat) : Int) * (0 + (i : Int) + 1) = ((fac (i + 1) : Nat) : Int) := by
        show _ = ((fac i * (i + 1) : Nat) : Int)
        rw [Int.natCast_mul]
        congr 1
        omega
      rw [this]
      rfl
    · obtain ⟨x2, rfl, rfl⟩ := hP
      have : ((List.range ((m : Nat) : Int).toNat).map fun (i : Nat) => V.int (0 + (i : Int))).length = m := by rw [List.length_map, List.length_range]; omega
      rw [this]
      walk_at "rd"
      exact k
noncomputable def spr__law_big (K : PySem.W.Frag) (n : Nat) : Sp := fun vs H Q _ => ∃ d l a ns, vs = [.ref d, .ref a] ∧ Feed H d l ∧ H a = some (.lst (ns.map V.str)) ∧ ns.Nodup ∧ ns.length ≤ 10 ∧ ns.length < n ∧
  ∀ t p xs ps H', H p = none → ExtBut d H H' → Feed H' d l → H' t = some (.tup [.ref p, .int ((cnt (wayB ps) ns : Nat) : Int)]) → H' p = some (.lst xs) → IsL K H' (ps.map prD) xs → Up ns ps → 2 * ps.length + ns.length ≤ ns.length * ns.length → Q (.ref t) H'
noncomputable def sp__law_big (K : PySem.W.Frag) : Sp := spr__law_big K 11
theorem spr__law_big_zero {K : PySem.W.Frag} : ∀ vs H Q E, ¬ spr__law_big K 0 vs H Q E := by
  rintro vs H Q E ⟨_, _, _, _, _, _, _, _, _, h, _⟩
  exact absurd h (Nat.not_lt_zero _)
theorem cnt_small {b : Str → Str → Bool} {ns : List Str} (h : ns.length < 2) (hb : ∀ x, b x x = false) : cnt b ns = 1 := by
  cases ns with
  | nil => rfl
  | cons x t =>
    cases t with
    | nil =>
      rw [cnt_eq (by simp) (by simp)]
      have : frF b [x] = [x] := by unfold frF; simp [hb]
      rw [this]
      have e : lessF [x] x = [] := by unfold lessF; simp
      simp [e]
      exact cnt_nil b
    | cons y t => simp at h; omega
theorem okr__law_big {f : Addr} {fd : FuncData} (F : Fun K "_law_big" "_law_big" s__law_big f fd) (T : TopF mg) (c__law_draw : Fnd P w K mg base 1 "_law_draw" ["_law_feed_here", "_law_many"] (sp__law_draw K)) (c__law_shuffles : Fnd P w K mg base 1 "_law_shuffles" ["_law_many"] (sp__law_shuffles K)) (n : Nat) (c__law_big : Fnd P w K mg base (2 + n) "_law_big" ["_law_feed_here", "_law_names_here"] (spr__law_big K n)) : FnOk P w K mg base CX0 (2 + n + 1) f fd ["_law_feed_here", "_law_names_here"] (spr__law_big K (n + 1)) := by
  refine F.ok sc__law_big (fun vs H Q E h => ?_) (fun cdv A outer s H vs Q E hr h => ?_)
  · obtain ⟨d, l, a, ns, rfl, _⟩ := h
    rfl
  · obtain ⟨d, l, a, ns, rfl, hF, hA, hn, h10, hlt, k⟩ := h
    have hu := hu_of hr
    have hq := qa_of hr
    have had : a ≠ d := hF.lst hA
    have hlm : (ns.map V.str).length = ns.length := List.length_map _
    with_reducible refine ⟨_, (pss_cons (ps_if (pt_cmpR op_lt (pe_callB (call_lenK (K := K)) (by with_unfolding_all rfl) T.b_len PyProof.Rows.Boot.«len» (pa_cons (pv 1) pa_nil)) pe_int (nomark _)) (pss_one (ps_ret (pe_tup (pa_cons (pe_lst pa_nil) (pa_cons pe_int pa_nil))))) pss_nil)
      (pss_cons (ps_set (i := 2) sc__law_big.nd (by with_unfolding_all rfl) (by with_unfolding_all exact Or.inl rfl) (pe_op (op_addK (K := K)) pe_int (pe_fn c__law_draw (hr.mono (by omega)) (by with_unfolding_all rfl) (pa_cons (pv 0) (pa_cons (pe_op op_sub (pe_callB (call_lenK (K := K)) (by with_unfolding_all rfl) T.b_len PyProof.Rows.Boot.«len» (pa_cons (pv 1) pa_nil)) pe_int) pa_nil)))))
      (pss_cons (ps_asg (pe_fn c__law_big (hr.mono (by omega)) (by with_unfolding_all rfl) (pa_cons (pv 0) (pa_cons (pe_slice (sl_K (K := K)) (pv 1) po_none (po_some (pv 2))) pa_nil))) (pg_tupK (K := K) (n := 2) (by with_unfolding_all rfl) (pgs_cons (pg_name (i := 3) sc__law_big.nd (by with_unfolding_all rfl) (by with_unfolding_all exact Or.inl rfl)) (pgs_cons (pg_name (i := 4) sc__law_big.nd (by with_unfolding_all rfl) (by with_unfolding_all exact Or.inl rfl)) pgs_nil))))
      (pss_cons (ps_asg (pe_fn c__law_big (hr.mono (by omega)) (by with_unfolding_all rfl) (pa_cons (pv 0) (pa_cons (pe_slice (sl_K (K := K)) (pv 1) (po_some (pv 2)) po_none) pa_nil))) (pg_tupK (K := K) (n := 2) (by with_unfolding_all rfl) (pgs_cons (pg_name (i := 5) sc__law_big.nd (by with_unfolding_all rfl) (by with_unfolding_all exact Or.inl rfl)) (pgs_cons (pg_name (i := 6) sc__law_big.nd (by with_unfolding_all rfl) (by with_unfolding_all exact Or.inl rfl)) pgs_nil))))
      (pss_cons (ps_if (pt_cmpR (op_eqK (K := K) hq) (pe_fn c__law_draw (hr.mono (by omega)) (by with_unfolding_all rfl) (pa_cons (pv 0) (pa_cons pe_int pa_nil))) pe_int (nomark _)) (pss_cons (ps_set (i := 7) sc__law_big.nd (by with_unfolding_all rfl) (by with_unfolding_all exact Or.inl rfl) (pe_lst pa_nil))
      (pss_cons (ps_for PassesOwn.never (by with_unfolding_all rfl) (pi_anyK (K := K) hu (pe_slice (sl_K (K := K)) (pv 1) po_none (po_some (pv 2)))) (pg_name (i := 8) sc__law_big.nd (by with_unfolding_all rfl) (by with_unfolding_all exact Or.inr rfl))
      (pss_one (ps_expr (pe_bmK (K := K) PySem.F.plainAttrs_list PySem.F.slot_list_extend PySem.F.type_list_extend (mm mt_extend) (pv 7) (pa_cons (pe_comp ["_law_later"] ["_law_name"] [8] (by with_unfolding_all rfl) (by with_unfolding_all rfl) (by with_unfolding_all rfl) (pi_anyK (K := K) hu (pe_slice (sl_K (K := K)) (pv 1) (po_some (pv 2)) po_none)) (fun _ _ _ _ => (pg_name (i := 0) (by with_unfolding_all (show (["_law_later", "_law_name"] : List Str).Nodup; decide +kernel)) (by with_unfolding_all rfl) (by with_unfolding_all exact Or.inl rfl))) (gk_name (by decide)) (fun _ _ _ _ => pif_nil) (fun _ _ _ _ => (pe_tup (pa_cons (pv 1) (pa_cons (pv 0) pa_nil))))) pa_nil)))))
      (pss_one (ps_ret (pe_tup (pa_cons (pe_op (op_addK (K := K)) (pe_op (op_addK (K := K)) (pv 3) (pv 5)) (pv 7)) (pa_cons (pe_op op_mulB (pv 4) (pv 6)) pa_nil))))))) pss_nil)
      (pss_cons (ps_set (i := 9) sc__law_big.nd (by with_unfolding_all rfl) (by with_unfolding_all exact Or.inl rfl) (pe_op op_mulB (pe_fn c__law_shuffles (hr.mono (by omega)) (by with_unfolding_all rfl) (pa_cons (pv 2) pa_nil)) (pe_fn c__law_shuffles (hr.mono (by omega)) (by with_unfolding_all rfl) (pa_cons (pe_op op_sub (pe_callB (call_lenK (K := K)) (by with_unfolding_all rfl) T.b_len PyProof.Rows.Boot.«len» (pa_cons (pv 1) pa_nil)) (pv 2)) pa_nil))))
      (pss_one (ps_ret (pe_tup (pa_cons (pe_op (op_addK (K := K)) (pv 3) (pv 5)) (pa_cons (pe_op op_mulB (pe_op op_mulB (pv 4) (pv 6)) (pe_op op_fdivA (pe_fn c__law_shuffles (hr.mono (by omega)) (by with_unfolding_all rfl) (pa_cons (pe_callB (call_lenK (K := K)) (by with_unfolding_all rfl) T.b_len PyProof.Rows.Boot.«len» (pa_cons (pv 1) pa_nil)) pa_nil)) (pv 9))) pa_nil))))))))))), ?_⟩
    walk_at "rd"
    rw [List.length_map]
    refine iteD (fun hc => ?_) (fun hc => ?_)
    · walk_at "rd"
      refine i_newL (by decide) fun p1 H1 hp1 e1 h1 => ?_
      walk_at "rd"
      refine i_newT (line_of (by simp)) fun t2 H2 ht2 e2 h2 => ?_
      refine k t2 p1 [] [] H2 hp1 ((e1.trans e2).but) (hF.same (e1.trans e2)) ?_ (e2 _ _ h1) .nil .nil (by rcases (by omega : ns.length = 0 ∨ ns.length = 1) with h | h <;> rw [h] <;> simp)
      rw [h2, cnt_small (by omega) fun x => wayB_false fun g => by cases g with | one e => cases e | cons e _ => cases e]
      rfl
    · walk_at "rd"
      refine ⟨d, l, _, rfl, hF, by omega, by omega, fun u H1 hu0 hu1 e1 hF1 => ?_⟩
      have h1a := e1 _ _ had hA
      obtain ⟨c, hcu⟩ : ∃ c : Nat, (1 + u) = ((c : Nat) : Int) := ⟨(1 + u).toNat, by omega⟩
      have hc1 : 1 ≤ c ∧ c < ns.length := by omega
      walk_at "rd"
      rw [hcu]
      refine i_slL (SqL.of h1a) fun q2 H2 hq2 e2 h2 => ?_
      rw [cut_upto (by omega), show ((c : Nat) : Int).toNat = c by omega, ← List.map_take] at h2
      have hF2 := hF1.same e2
      walk_at "rd"
      refine ⟨d, l, q2, ns.take c, rfl, hF2, h2, List.Nodup.sublist (List.take_sublist _ _) hn, by rw [List.length_take]; omega, by rw [List.length_take]; omega, fun t3 p3 xs3 P1 H3 hp3 e3 hF3 h3t h3 hL3 hU3 hz3 => ?_⟩
      have fz3 := hF2.fz e3
      have h3a := e3 _ _ had (e2 _ _ h1a)
      refine ⟨t3, _, rfl, SqT.of h3t, rfl, _, _, rfl, _, _, rfl, rfl, ?_⟩
      walk_at "rd"
      refine i_slL (SqL.of h3a) fun q4 H4 hq4 e4 h4 => ?_
      rw [cut_from (by omega) (by rw [List.length_map]; omega), show ((c : Nat) : Int).toNat = c by omega, ← List.map_drop] at h4
      have hF4 := hF3.same e4
      walk_at "rd"
      refine ⟨d, l, q4, ns.drop c, rfl, hF4, h4, List.Nodup.sublist (List.drop_sublist _ _) hn, by rw [List.length_drop]; omega, by rw [List.length_drop]; omega, fun t5 p5 xs5 P2 H5 hp5 e5 hF5 h5t h5 hL5 hU5 hz5 => ?_⟩
      have fz5 := hF4.fz e5
      have h5a := e5 _ _ had (e4 _ _ h3a)
      have hp3d : p3 ≠ d := hF3.lst h3
      have h5p3 := e5 _ _ hp3d (e4 _ _ h3)
      have hL5' : IsL K H5 (P1.map prD) xs3 := IsL.fz (e4.fz.trans fz5) _ _ (frzL_prs P1) hL3
      have ntk : (ns.take c).Nodup := List.Nodup.sublist (List.take_sublist _ _) hn
      have ndr : (ns.drop c).Nodup := List.Nodup.sublist (List.drop_sublist _ _) hn
      have ltk : (ns.take c).length = c := by rw [List.length_take]; omega
      have ldr : (ns.drop c).length = ns.length - c := by rw [List.length_drop]
      have m1 : cnt (wayB P1) (ns.take c) ≤ 3628800 := cnt_ten ntk (by omega)
      have m2 : cnt (wayB P2) (ns.drop c) ≤ 3628800 := cnt_ten ndr (by omega)
      have z1 : P1.length ≤ 100 := by
        have hz3' := hz3
        rw [ltk] at hz3'
        have := Nat.mul_le_mul (show c ≤ 10 by omega) (show c ≤ 10 by omega)
        omega
      have z2 : P2.length ≤ 100 := by
        have hz5' := hz5
        rw [ldr] at hz5'
        have := Nat.mul_le_mul (show ns.length - c ≤ 10 by omega) (show ns.length - c ≤ 10 by omega)
        omega
      have hx3 : xs3.length = P1.length := by rw [← IsL.length hL3, List.length_map]
      have hx5 : xs5.length = P2.length := by rw [← IsL.length hL5, List.length_map]
      refine ⟨t5, _, rfl, SqT.of h5t, rfl, _, _, rfl, _, _, rfl, rfl, ?_⟩
      walk_at "rd"
      refine ⟨d, l, _, rfl, hF5, by omega, by omega, fun u6 H6 hu60 hu61 e6 hF6 => ?_⟩
      have fz6 := hF5.fz e6
      have h6a := e6 _ _ had h5a
      have hp5d : p5 ≠ d := hF5.lst h5
      have h6p3 := e6 _ _ hp3d h5p3
      have h6p5 := e6 _ _ hp5d h5
      have hL6a : IsL K H6 (P1.map prD) xs3 := IsL.fz fz6 _ _ (frzL_prs P1) hL5'
      have hL6b : IsL K H6 (P2.map prD) xs5 := IsL.fz fz6 _ _ (frzL_prs P2) hL5
      have e06 : ExtBut d H H6 := ((((e1.same e2).trans e3).same e4).trans e5).trans e6
      walk_at "rd"
      refine iteD (fun hc6 => ?_) (fun hc6 => ?_)
      · walk_at "rd"
        refine i_newL (by decide) fun g7 H7 hg7 e7 h7 => ?_
        have hF7 := hF6.same e7
        have hg3 : p3 ≠ g7 := ne_of_none h6p3 hg7
        have hg5 : p5 ≠ g7 := ne_of_none h6p5 hg7
        have hga : a ≠ g7 := ne_of_none h6a hg7
        have hgd : g7 ≠ d := Ne.symm (hF6.nd hg7)
        walk_at "rd"
        refine i_slL (SqL.of (e7 _ _ h6a)) fun q8 H8 hq8 e8 h8 => ?_
        rw [cut_upto (by omega), show ((c : Nat) : Int).toNat = c by omega, ← List.map_take] at h8
        have h8g := e8 _ _ h7
        have hq8g : g7 ≠ q8 := ne_of_none h7 hq8
        refine i_itL (SqL.of h8) ?_
        refine for_by (walk_list (xs := (ns.take c).map V.str)) (fun i σ H9 => ∃ x8 ys Pm, σ = [some (.ref d), some (.ref a), some (.int ((c : Nat) : Int)), some (.ref p3), some (.int ((cnt (wayB P1) (ns.take c) : Nat) : Int)), some (.ref p5), some (.int ((cnt (wayB P2) (ns.drop c) : Nat) : Int)), some (.ref g7), x8, none] ∧ Same H6 H9 ∧ H9 q8 = some (.lst ((ns.take c).map V.str)) ∧ H9 g7 = some (.lst ys) ∧ IsL K H9 (Pm.map prD) ys ∧ Pm = crossP ((ns.take c).take i) (ns.drop c) ∧ ys.length ≤ i * 10)
          ⟨_, [], [], rfl, e7.trans e8, h8, h8g, .nil, rfl, by simp⟩ (fun i σ' H' hP => ?_) (fun i x σ' H9 hx hi hP => ?_) (fun σ' H9 hP => ?_)
        · obtain ⟨_, _, _, _, _, h, _⟩ := hP
          exact SqL.of h
        · obtain ⟨x8, ys, Pm, rfl, e9, h9q, h9g, hL9, hPm, hyl⟩ := hP
          rw [List.getElem?_map] at hx
          cases hz : (ns.take c)[i]? with
          | none => rw [hz] at hx; cases hx
          | some z =>
            rw [hz] at hx
            cases hx
            have hi10 : i < 10 := by rw [List.length_map] at hi; omega
            walk_at "rd"
            refine i_slL (SqL.of (e9 _ _ h6a)) fun q10 H10 hq10 e10 h10 => ?_
            rw [cut_from (by omega) (by rw [List.length_map]; omega), show ((c : Nat) : Int).toNat = c by omega, ← List.map_drop] at h10
            refine comp_lnm (SqL.of h10) (fun _ => true) (fun o => prD (z, o)) (fun _ => frz_pr _) (by omega) (fun j o H11 R R' ho e11 hR hR' => ?_) (fun p11 ys11 H11 hp11 e11 h11 hL11 => ?_)
            · walk_at "rd"
              refine i_newT (line_of (by simp)) fun t H12 ht12 e12 h12 => ?_
              exact hR rfl _ _ e12 (is_pr (SqT.of h12))
            · walk_at "rd"
              have e911 := e10.trans e11
              have h11g := e911 _ _ h9g
              have hl11 : ys11.length ≤ 10 := by
                have := IsL.length hL11
                rw [List.length_map] at this
                have h2 := List.length_filter_le (fun _ : Str => true) (ns.drop c)
                omega
              refine i_extR h11g h11 (by omega) fun H12 e12 h12 => ?_
              have fz12 : Fz H11 H12 := e12.fzL h11g
              walk_at "rd"
              have hft : (ns.drop c).filter (fun _ => true) = ns.drop c := by simp
              rw [hft] at hL11
              refine ⟨_, ys ++ ys11, Pm ++ (ns.drop c).map (fun o => (z, o)), rfl, (e9.trans e911).off hg7 e12, e12 _ _ hq8g.symm (e911 _ _ h9q), h12, ?_, ?_, by rw [List.length_append]; omega⟩
              · rw [List.map_append, List.map_map]
                exact IsL.append (IsL.fz (e911.fz.trans fz12) _ _ (frzL_prs Pm) hL9) (IsL.fz fz12 _ _ (by have := frzL_prs ((ns.drop c).map fun o => (z, o)); rwa [List.map_map] at this) hL11)
              · rw [hPm, List.take_add_one, hz]
                unfold crossP
                rw [List.flatMap_append]
                simp
        · obtain ⟨x8, ys, Pm, rfl, e9, h9q, h9g, hL9, hPm, hyl⟩ := hP
          rw [List.length_map, List.take_length] at hPm
          rw [List.length_map] at hyl
          subst hPm
          obtain ⟨hUU, hCC⟩ := big_above hn hU3 hU5
          have h9p3 := e9 _ _ h6p3
          have h9p5 := e9 _ _ h6p5
          walk_at "rd"
          refine i_addL h9p3 h9p5 (line_of (by omega)) fun q10 H10 hq10 e10 h10 => ?_
          walk_at "rd"
          refine i_addL h10 (e10 _ _ h9g) (line_of (by rw [List.length_append]; omega)) fun q11 H11 hq11 e11 h11 => ?_
          walk_at "rd"
          refine i_newT (line_of (by simp)) fun t12 H12 ht12 e12 h12 => ?_
          have e912 : Same H9 H12 := (e10.trans e11).trans e12
          have eA : ExtBut d H H12 := (e06.same e9).same e912
          have hq11' : H q11 = none := by
            cases c' : H q11 with
            | none => rfl
            | some o =>
              have hne : q11 ≠ d := fun e => by
                subst e
                exact (hF6.nd ((e9.trans e10).free hq11)) rfl
              rw [e10 _ _ (e9 _ _ (e06 _ _ hne c'))] at hq11
              cases hq11
          refine k t12 q11 (xs3 ++ xs5 ++ ys) (P1 ++ P2 ++ crossP (ns.take c) (ns.drop c)) H12 hq11' eA (hF6.same (e9.trans e912)) ?_ (e12 _ _ h11) ?_ hUU ?_
          · rw [h12, hCC, Int.natCast_mul]
          · rw [List.map_append, List.map_append]
            exact IsL.append (IsL.append (IsL.fz (e9.trans e912).fz _ _ (frzL_prs P1) hL6a) (IsL.fz (e9.trans e912).fz _ _ (frzL_prs P2) hL6b)) (IsL.mono e912 _ _ hL9)
          · have hcl : (crossP (ns.take c) (ns.drop c)).length ≤ c * (ns.length - c) := by
              unfold crossP
              have := len_flat (fun x => (ns.drop c).map fun y => (x, y)) (ns.length - c) (fun x => by rw [List.length_map, ldr]; exact Nat.le_refl _) (ns.take c)
              rw [ltk] at this
              exact this
            rw [List.length_append, List.length_append]
            rw [ltk] at hz3
            rw [ldr] at hz5
            obtain ⟨m, hm⟩ : ∃ m, ns.length = c + m := ⟨ns.length - c, by omega⟩
            rw [hm] at hcl hz5 ⊢
            rw [show c + m - c = m by omega] at hcl hz5
            have e9 : (c + m) * (c + m) = c * c + c * m + (m * c + m * m) := by rw [Nat.add_mul, Nat.mul_add, Nat.mul_add]
            have e8 := Nat.mul_comm m c
            rw [e9]
            omega
      · walk_at "rd"
        obtain ⟨hUU, hCC⟩ := big_beside hn hU3 hU5
        have hsf := shuf_fac _ (ns.take c).length (ns.drop c).length rfl
        have hfac : fac ns.length ≤ 3628800 := Nat.le_trans (fac_le h10) (by decide)
        have htot : (ns.take c).length + (ns.drop c).length = ns.length := by omega
        rw [htot, ltk, ldr] at hsf
        have hsm : ((ns.length : Nat) : Int) - ((c : Nat) : Int) = (((ns.length - c : Nat)) : Int) := by omega
        have hfp : 0 < fac c * fac (ns.length - c) := Nat.mul_pos (fac_pos _) (fac_pos _)
        have hsp : 0 < shuf c (ns.length - c) := by
          rcases Nat.eq_zero_or_pos (shuf c (ns.length - c)) with e | e
          · rw [e, Nat.zero_mul] at hsf
            have := fac_pos ns.length
            omega
          · exact e
        have hown : fac c * fac (ns.length - c) ≤ fac ns.length := by
          rw [← hsf]
          exact Nat.le_mul_of_pos_left _ hsp
        have hdiv : ((fac ns.length : Nat) : Int) / ((fac c * fac (ns.length - c) : Nat) : Int) = ((shuf c (ns.length - c) : Nat) : Int) := by
          rw [← Int.natCast_ediv, ← hsf, Nat.mul_div_cancel _ hfp]
        have hsle : shuf c (ns.length - c) ≤ 3628800 := by
          have : shuf c (ns.length - c) ≤ fac ns.length := by
            rw [← hsf]
            exact Nat.le_mul_of_pos_right _ hfp
          omega
        have fc : fac c ≤ 3628800 := Nat.le_trans (fac_le (by omega : c ≤ 10)) (by decide)
        have fd : fac (ns.length - c) ≤ 3628800 := Nat.le_trans (fac_le (by omega : ns.length - c ≤ 10)) (by decide)
        refine ⟨c, rfl, by omega, ?_⟩
        walk_at "rd"
        rw [List.length_map, hsm]
        refine ⟨ns.length - c, rfl, by omega, ?_⟩
        walk_at "rd"
        rw [← Int.natCast_mul]
        refine i_addL h6p3 h6p5 (line_of (by omega)) fun q10 H10 hq10 e10 h10 => ?_
        walk_at "rd"
        rw [List.length_map]
        refine ⟨ns.length, rfl, by omega, ?_⟩
        walk_at "rd"
        rw [hdiv]
        walk_at "rd"
        refine i_newT (line_of (by simp)) fun t12 H12 ht12 e12 h12 => ?_
        have e612 : Same H6 H12 := e10.trans e12
        have hq10' : H q10 = none := by
          cases c' : H q10 with
          | none => rfl
          | some o =>
            have hne : q10 ≠ d := fun e => by
              subst e
              exact (hF6.nd hq10) rfl
            rw [e06 _ _ hne c'] at hq10
            cases hq10
        refine k t12 q10 (xs3 ++ xs5) (P1 ++ P2) H12 hq10' (e06.same e612) (hF6.same e612) ?_ (e12 _ _ h10) ?_ hUU ?_
        · rw [h12, hCC, ltk, ldr, Int.natCast_mul, Int.natCast_mul, Int.mul_comm ((shuf c (ns.length - c) : Nat) : Int)]
        · rw [List.map_append]
          exact IsL.append (IsL.fz e612.fz _ _ (frzL_prs P1) hL6a) (IsL.fz e612.fz _ _ (frzL_prs P2) hL6b)
        · rw [List.length_append]
          rw [ltk] at hz3
          rw [ldr] at hz5
          obtain ⟨m, hm⟩ : ∃ m, ns.length = c + m := ⟨ns.length - c, by omega⟩
          rw [hm] at hz5 ⊢
          rw [show c + m - c = m by omega] at hz5
          have e9 : (c + m) * (c + m) = c * c + c * m + (m * c + m * m) := by rw [Nat.add_mul, Nat.mul_add, Nat.mul_add]
          rw [e9]
          omega
theorem ok__law_big {f : Addr} {fd : FuncData} (F : Fun K "_law_big" "_law_big" s__law_big f fd) (T : TopF mg) (c__law_draw : Fnd P w K mg base 1 "_law_draw" ["_law_feed_here", "_law_many"] (sp__law_draw K)) (c__law_shuffles : Fnd P w K mg base 1 "_law_shuffles" ["_law_many"] (sp__law_shuffles K)) (hm : mg "_law_big" = some (.ref f)) (hk : PySem.W.keepIn K (.ref f) = true) (hb : Binds K fd ["_law_feed_here", "_law_names_here"] []) : FnOk P w K mg base CX0 13 f fd ["_law_feed_here", "_law_names_here"] (sp__law_big K) := by
  have h : ∀ n : Nat, FnOk P w K mg base CX0 (2 + n) f fd ["_law_feed_here", "_law_names_here"] (spr__law_big K n) := fun n => by
    induction n with
    | zero => exact FnOk.void spr__law_big_zero
    | succ n ih => exact okr__law_big F T c__law_draw c__law_shuffles n ⟨f, fd, ih, hm, hk, hb⟩
  exact h 11
noncomputable def spr_finds_follower (K : PySem.W.Frag) (m : Nat) : Sp := fun vs H Q _ => ∃ r one L Tr ns ps as ld ks, vs = [.ref r, .str one, .ref L, .ref Tr] ∧ TabR H r ns as (Way ps) ∧ ns.Nodup ∧ ns.length ≤ 10 ∧ one ∈ ns ∧ H L = some (.dK (dsK ld)) ∧ H Tr = some (.dK (rowK ks)) ∧ MtO ns (wayB ps) ld ∧ L ∉ as ∧ Tr ∉ as ∧ L ≠ Tr ∧ r ≠ L ∧ r ≠ Tr ∧ ks.Nodup ∧ (∀ z ∈ ks, z ∈ ns) ∧ (ns.filter fun z => !decide (z ∈ ks)).length < m ∧
  ∀ c ld' ks' H', KeepF as L Tr H H' → H' L = some (.dK (dsK ld')) → H' Tr = some (.dK (rowK ks')) → ks'.Nodup → (∀ z ∈ ks, z ∈ ks') → (∀ z ∈ ks', z ∈ ns) → MtO ns (wayB ps) ld' → (c = true → Won ns (wayB ps) ld ld' one ks) → (c = false → ld' = ld ∧ Lost ns (wayB ps) ld one ks ks') → Q (.bl c) H'
theorem spr_finds_follower_zero {K : PySem.W.Frag} : ∀ vs H Q E, ¬ spr_finds_follower K 0 vs H Q E := fun vs H Q E h => by
  obtain ⟨r, one, L, Tr, ns, ps, as, ld, ks, _, _, _, _, _, _, _, _, _, _, _, _, _, _, _, h, _⟩ := h
  omega
noncomputable def sp_finds_follower (K : PySem.W.Frag) : Sp := spr_finds_follower K 11
theorem few_left {ns ks : List Str} {z : Str} (hn : ns.Nodup) (hz : z ∈ ns) (hk : z ∉ ks) : (ns.filter fun y => !decide (y ∈ addK ks z)).length < (ns.filter fun y => !decide (y ∈ ks)).length := by
  have h1 : z ∈ ns.filter fun y => !decide (y ∈ ks) := List.mem_filter.mpr ⟨hz, by simp [hk]⟩
  have h2 : (z :: ns.filter fun y => !decide (y ∈ addK ks z)).length ≤ (ns.filter fun y => !decide (y ∈ ks)).length := nodup_le (List.nodup_cons.mpr ⟨fun h => by
    have := (List.mem_filter.mp h).2
    simp [mem_addK] at this, List.Nodup.sublist List.filter_sublist hn⟩) fun y hy => by
    rcases List.mem_cons.mp hy with rfl | hy
    · exact h1
    · obtain ⟨a, b⟩ := List.mem_filter.mp hy
      refine List.mem_filter.mpr ⟨a, ?_⟩
      simp [mem_addK] at b
      simp [b.1]
  rw [List.length_cons] at h2
  omega
theorem add_nodup {ks : List Str} {z : Str} (h : ks.Nodup) (hz : z ∉ ks) : (addK ks z).Nodup := by
  unfold addK
  rw [if_neg hz, List.nodup_append]
  exact ⟨h, by simp, fun a ha c hc e => hz ((e.trans (by simpa using hc)) ▸ ha)⟩
theorem mt_few {ns : List Str} {b : Str → Str → Bool} {ld : List (Str × Str)} (h : MtO ns b ld) : ld.length ≤ ns.length := by
  have : (ld.map (·.1)).length ≤ ns.length := nodup_le h.keys fun x hx => by
    obtain ⟨p, hp, rfl⟩ := List.mem_map.mp hx
    exact (h.mem p hp).1
  rwa [List.length_map] at this
theorem i_ninDS {K : PySem.W.Frag} {H : Hp} {Q : VK} {a : Addr} {kvs : List (Key × V)} {z : Str} (h : H a = some (.dK kvs)) (k : Q (.bl (valV kvs (Sum.inr z : Key)).isNone) H) : rInA K true (.str z) (.ref a) H Q := by
  refine .inr (.inr (.inl ⟨a, valV kvs (Sum.inr z : Key), rfl, DGet.k (k := Sum.inr z) h, ?_⟩))
  cases hv : valV kvs (Sum.inr z : Key) with
  | none => rw [hv] at k; exact k
  | some _ => rw [hv] at k; exact k
theorem okr_finds_follower {f : Addr} {fd : FuncData} (F : Fun K "finds_follower" "finds_follower" s_finds_follower f fd) (T : TopF mg) (n : Nat) (c_finds_follower : Fnd P w K mg base (1 + n) "finds_follower" ["reach", "one", "leaders", "tried"] (spr_finds_follower K n)) : FnOk P w K mg base CX0 (1 + n + 1) f fd ["reach", "one", "leaders", "tried"] (spr_finds_follower K (n + 1)) := by
  refine F.ok sc_finds_follower (fun vs H Q E h => ?_) (fun cdv A outer s H vs Q E hr h => ?_)
  · obtain ⟨r, one, L, Tr, ns, ps, as, ld, ks, rfl, _⟩ := h
    rfl
  · obtain ⟨r, one, L, Tr, ns, ps, as, ld, ks, rfl, hT, hn, h10, hone, hL, hK, hM, hLa, hTa, hLT, hrL, hrT, hknd, hkn, hm, k⟩ := h
    have hu := hu_of hr
    have hq := qa_of hr
    have hfew := mt_few hM
    obtain ⟨i0, a, hi, hai⟩ := hT.at hone
    obtain ⟨kk, hk1, hk2, hk3, hk4⟩ := hT.row i0 one a hi hai
    have haa : a ∈ as := List.mem_of_getElem? hai
    have haL : a ≠ L := fun e => hLa (e ▸ haa)
    have haT : a ≠ Tr := fun e => hTa (e ▸ haa)
    with_reducible refine ⟨_, (pss_cons (ps_for PassesOwn.never (by with_unfolding_all rfl) (pi_anyK (K := K) hu (pe_ix (ix_anyK (K := K) hu) (pv 0) (pv 1) (by with_unfolding_all exact fun _ _ => rfl))) (pg_name (i := 4) sc_finds_follower.nd (by with_unfolding_all rfl) (by with_unfolding_all exact Or.inl rfl))
      (pss_one (ps_if (pt_cmpR (op_notInK (K := K) hq) (pv 4) (pv 3) (by with_unfolding_all rfl)) (pss_cons (ps_dput hu (pv 3) (pv 4) pe_bl (by with_unfolding_all rfl))
      (pss_one (ps_if (PW.pt (pw_or (pt_cmpR (op_notInK (K := K) hq) (pv 4) (pv 2) (by with_unfolding_all rfl)) (pw_or1 (pt_val (pe_fn c_finds_follower (hr.mono (by omega)) (by with_unfolding_all rfl) (pa_cons (pv 0) (pa_cons (pe_ix (ix_anyK (K := K) hu) (pv 2) (pv 4) (by with_unfolding_all exact fun _ _ => rfl)) (pa_cons (pv 2) (pa_cons (pv 3) pa_nil))))))))) (pss_cons (ps_dput hu (pv 2) (pv 4) (pv 1) (by with_unfolding_all rfl))
      (pss_one (ps_ret pe_bl))) pss_nil))) pss_nil)))
      (pss_one (ps_ret pe_bl))), ?_⟩
    walk_at "rd"
    refine i_tabR hT hn hi hai ?_
    refine i_itRowF (as := as) (L := L) (Tr := Tr) hk1 haa fun o H1 kp1 hb1 h1 => ?_
    refine for_by walk_dict (fun i σ H2 => ∃ x4 ks2, σ = [some (V.ref r), some (.str one), some (.ref L), some (.ref Tr), x4] ∧ KeepF as L Tr H H2 ∧ H2 a = some (.frz o (.dK (rowK kk))) ∧ H2 L = some (.dK (dsK ld)) ∧ H2 Tr = some (.dK (rowK ks2)) ∧ ks2.Nodup ∧ (∀ z ∈ ks, z ∈ ks2) ∧ (∀ z ∈ ks2, z ∈ ns) ∧ (∀ y ∈ kk.take i, y ∈ ks2) ∧ ∀ t ∈ ks2, t ∉ ks → ∃ x, (t, x) ∈ ld ∧ ∀ y ∈ ns, wayB ps x y = true → y ∈ ks2)
      ⟨_, ks, rfl, kp1, h1, by rw [hb1 L (Ne.symm haL)]; exact hL, by rw [hb1 Tr (Ne.symm haT)]; exact hK, hknd, fun _ h => h, hkn, fun y h => (by cases h), fun t h1 h2 => absurd h1 h2⟩ (fun i σ' H' hP => ?_) (fun i x σ' H2 hx hi2 hP => ?_) (fun σ' H2 hP => ?_)
    · obtain ⟨_, _, _, _, h, _⟩ := hP
      exact h
    · obtain ⟨x4, ks2, rfl, kp2, h2a, h2L, h2T, hnd2, hsub2, hns2, hall2, hcl2⟩ := hP
      have hxk : ∃ y, kk[i]? = some y ∧ x = .str y := by
        rw [List.getElem?_map] at hx
        unfold rowK at hx
        rw [List.getElem?_map] at hx
        cases hy : kk[i]? with
        | none => rw [hy] at hx; cases hx
        | some y => rw [hy] at hx; cases hx; exact ⟨y, rfl, rfl⟩
      obtain ⟨y, hyi, rfl⟩ := hxk
      have hyk := List.mem_of_getElem? hyi
      have hyn := hk3 y hyk
      have hby : wayB ps one y = true := wayB_iff.mpr ((hk4 y).mp hyk)
      have htk : kk.take (i + 1) = kk.take i ++ [y] := by rw [List.take_add_one, hyi]; rfl
      walk_at "rd"
      refine i_ninRow h2T ?_
      by_cases hin : y ∈ ks2
      · rw [decide_eq_true hin]
        walk_at "rd"
        refine ⟨_, ks2, rfl, kp2, h2a, h2L, h2T, hnd2, hsub2, hns2, fun z hz => ?_, hcl2⟩
        rw [htk] at hz
        rcases List.mem_append.mp hz with hz | hz
        · exact hall2 z hz
        · rw [List.mem_singleton.mp hz]
          exact hin
      · rw [decide_eq_false hin]
        have hyks : y ∉ ks := fun h => hin (hsub2 y h)
        have hl2 : ks2.length ≤ ns.length := nodup_le hnd2 hns2
        walk_at "rd"
        refine i_dput h2T (by unfold rowK; rw [List.length_map]; omega) fun H3 e3 h3 => ?_
        rw [put_row] at h3
        have h3L : H3 L = some (.dK (dsK ld)) := e3 _ _ hLT h2L
        have h3a := e3 _ _ haT h2a
        have kp3 : KeepF as L Tr H H3 := kp2.trans (ExtBut.keepF e3 (.inr rfl) hLa hTa)
        have hnd3 := add_nodup hnd2 hin
        have hns3 : ∀ z ∈ addK ks2 y, z ∈ ns := fun z hz => (mem_addK.mp hz).elim (hns2 z) fun e => e ▸ hyn
        have hsub3 : ∀ z ∈ ks, z ∈ addK ks2 y := fun z hz => mem_addK.mpr (.inl (hsub2 z hz))
        walk_at "rd"
        refine i_ninDS h3L ?_
        by_cases hfree : ∀ p ∈ ld, p.1 ≠ y
        · rw [val_dsN hfree, show (none : Option V).isNone = true from rfl]
          walk_at "rd"
          refine i_dput h3L (by unfold dsK; rw [List.length_map]; omega) fun H4 e4 h4 => ?_
          rw [put_ds] at h4
          obtain ⟨hM4, hW4⟩ := won_free hM hone hyn hby hfree hyks
          walk_at "rd"
          exact k true (setP ld y one) (addK ks2 y) H4 (kp3.trans (ExtBut.keepF e4 (.inl rfl) hLa hTa)) h4 (e4 _ _ (Ne.symm hLT) h3) hnd3 hsub3 hns3 hM4 (fun _ => hW4) fun h => by cases h
        · obtain ⟨x, hxl⟩ : ∃ x, (y, x) ∈ ld := by
            apply Classical.byContradiction
            intro hno
            exact hfree fun p hp e => hno ⟨p.2, by rw [← e]; exact hp⟩
          have hval := val_ds hM.keys hxl
          rw [hval, show (some (V.str x)).isNone = false from rfl]
          have hT3 := hT.keepF kp3 hrL hrT
          walk_at "rd"
          refine i_ixD h3L hval ?_
          walk_at "rd"
          refine ⟨r, x, L, Tr, ns, ps, as, ld, addK ks2 y, rfl, hT3, hn, h10, (hM.mem _ hxl).2.1, h3L, h3, hM, hLa, hTa, hLT, hrL, hrT, hnd3, hns3, ?_, fun c ld4 ks4 H4 kp4 h4L h4T hnd4 hsub4 hns4 hM4 hw hl => ?_⟩
          · have h1 := few_left hn hyn hin
            have h2 : (ns.filter fun z => !decide (z ∈ ks2)).length ≤ (ns.filter fun z => !decide (z ∈ ks)).length := nodup_le (List.Nodup.sublist List.filter_sublist hn) fun z hz => by
              obtain ⟨p, q⟩ := List.mem_filter.mp hz
              refine List.mem_filter.mpr ⟨p, ?_⟩
              have q : z ∉ ks2 := by simpa using q
              have : z ∉ ks := fun h => q (hsub2 z h)
              simp [this]
            omega
          · have kp34 := kp3.trans kp4
            cases c with
            | true =>
              have hW := hw rfl
              obtain ⟨hM5, hW5⟩ := won_on (ks := ks) hM hM4 hone hyn hby hxl hW hsub3 (mem_addK.mpr (.inr rfl)) hyks
              have hf4 := mt_few hM4
              walk_at "rd"
              refine i_dput h4L (by unfold dsK; rw [List.length_map]; omega) fun H5 e5 h5 => ?_
              rw [put_ds] at h5
              walk_at "rd"
              exact k true (setP ld4 y one) ks4 H5 (kp34.trans (ExtBut.keepF e5 (.inl rfl) hLa hTa)) h5 (e5 _ _ (Ne.symm hLT) h4T) hnd4 (fun z hz => hsub4 z (hsub3 z hz)) hns4 hM5 (fun _ => hW5) fun h => by cases h
            | false =>
              obtain ⟨rfl, hLo⟩ := hl rfl
              walk_at "rd"
              refine ⟨_, ks4, rfl, kp34, kp4.frz a o _ haL haT h3a, h4L, h4T, hnd4, fun z hz => hsub4 z (hsub3 z hz), hns4, fun z hz => ?_, fun t ht htk => ?_⟩
              · rw [htk] at hz
                rcases List.mem_append.mp hz with hz | hz
                · exact hsub4 z (mem_addK.mpr (.inl (hall2 z hz)))
                · rw [List.mem_singleton.mp hz]
                  exact hsub4 y (mem_addK.mpr (.inr rfl))
              · by_cases h3k : t ∈ addK ks2 y
                · rcases mem_addK.mp h3k with h | rfl
                  · obtain ⟨x', hx', hc'⟩ := hcl2 t h htk
                    exact ⟨x', hx', fun z hz hb => hsub4 z (mem_addK.mpr (.inl (hc' z hz hb)))⟩
                  · exact ⟨x, hxl, hLo.all⟩
                · exact hLo.new t ht h3k
    · obtain ⟨x4, ks2, rfl, kp2, h2a, h2L, h2T, hnd2, hsub2, hns2, hall2, hcl2⟩ := hP
      have hlen : (rowK kk |>.map fun kv => kV kv.1).length = kk.length := by unfold rowK; rw [List.length_map, List.length_map]
      rw [hlen, List.take_length] at hall2
      walk_at "rd"
      exact k false ld ks2 H2 kp2 h2L h2T hnd2 hsub2 hns2 hM (fun h => by cases h) fun _ => ⟨rfl, fun y hy hb => hall2 y ((hk4 y).mpr (wayB_iff.mp hb)), hcl2⟩
theorem ok_finds_follower {f : Addr} {fd : FuncData} (F : Fun K "finds_follower" "finds_follower" s_finds_follower f fd) (T : TopF mg) (hm : mg "finds_follower" = some (.ref f)) (hk : PySem.W.keepIn K (.ref f) = true) (hb : Binds K fd ["reach", "one", "leaders", "tried"] []) : FnOk P w K mg base CX0 12 f fd ["reach", "one", "leaders", "tried"] (sp_finds_follower K) := by
  have h : ∀ n : Nat, FnOk P w K mg base CX0 (1 + n) f fd ["reach", "one", "leaders", "tried"] (spr_finds_follower K n) := fun n => by
    induction n with
    | zero => exact FnOk.void spr_finds_follower_zero
    | succ n ih => exact okr_finds_follower F T n ⟨f, fd, ih, hm, hk, hb⟩
  exact h 11
structure Wid (ps : List (Str × Str)) (row W : List Str) : Prop where
  sub : W.Sublist row
  un : W.Pairwise fun x y => unB ps x y = true
  most : ∀ A : List Str, A.Nodup → (∀ x ∈ A, x ∈ row) → (∀ x ∈ A, ∀ y ∈ A, wayB ps x y = false) → A.length ≤ W.length
theorem wid_nil {ps : List (Str × Str)} : Wid ps [] [] := ⟨.refl _, .nil, fun A _ h _ => by
  cases A with
  | nil => simp
  | cons x A => have := h x (.head _); cases this⟩
theorem unB_iff {ps : List (Str × Str)} {x y : Str} : unB ps x y = true ↔ wayB ps x y = false ∧ wayB ps y x = false := by unfold unB; simp
theorem wid_cons {ps : List (Str × Str)} {x : Str} {rest W1 W2 : List Str} (hn : (x :: rest).Nodup) (h1 : Wid ps (rest.filter fun y => unB ps x y) W1) (h2 : Wid ps rest W2) : Wid ps (x :: rest) (if (x :: W1).length < W2.length then W2 else x :: W1) := by
  have hmost : ∀ A : List Str, A.Nodup → (∀ z ∈ A, z ∈ x :: rest) → (∀ z ∈ A, ∀ y ∈ A, wayB ps z y = false) → A.length ≤ W2.length ∨ A.length ≤ (x :: W1).length := fun A hA hm ha => by
    by_cases hx : x ∈ A
    · refine .inr ?_
      have h3 := h1.most (A.erase x) (hA.erase x) (fun z hz => ?_) fun z hz y hy => ha z (List.mem_of_mem_erase hz) y (List.mem_of_mem_erase hy)
      · rw [List.length_erase_of_mem hx] at h3
        rw [List.length_cons]
        omega
      · have hzx : z ≠ x := fun e => by subst e; exact (hA.not_mem_erase) hz
        have hzA := List.mem_of_mem_erase hz
        refine List.mem_filter.mpr ⟨(List.mem_cons.mp (hm z hzA)).resolve_left hzx, unB_iff.mpr ⟨ha x hx z hzA, ha z hzA x hx⟩⟩
    · refine .inl (h2.most A hA (fun z hz => (List.mem_cons.mp (hm z hz)).resolve_left fun e => hx (e ▸ hz)) ha)
  by_cases hl : (x :: W1).length < W2.length
  · rw [if_pos hl]
    exact ⟨.cons _ h2.sub, h2.un, fun A hA hm ha => (hmost A hA hm ha).elim id fun h => by omega⟩
  · rw [if_neg hl]
    refine ⟨List.Sublist.cons₂ _ (h1.sub.trans List.filter_sublist), List.pairwise_cons.mpr ⟨fun y hy => (List.mem_filter.mp (h1.sub.subset hy)).2, h1.un⟩, fun A hA hm ha => (hmost A hA hm ha).elim (fun h => by omega) id⟩
noncomputable def spr_widest_of (K : PySem.W.Frag) (m : Nat) : Sp := fun vs H Q _ => ∃ r u ns ps as, ∃ row : List Str, vs = [.ref r, u] ∧ TabR H r ns as (Way ps) ∧ ns.Nodup ∧ Is K H (nmD row) u ∧ row.Nodup ∧ (∀ z ∈ row, z ∈ ns) ∧ row.length < m ∧ row.length ≤ 10 ∧ ∀ w W H', Same H H' → Is K H' (nmD W) w → Wid ps row W → Q w H'
theorem spr_widest_of_zero {K : PySem.W.Frag} : ∀ vs H Q E, ¬ spr_widest_of K 0 vs H Q E := fun vs H Q E h => by
  obtain ⟨r, u, ns, ps, as, row, _, _, _, _, _, _, h, _⟩ := h
  omega
noncomputable def sp_widest_of (K : PySem.W.Frag) : Sp := spr_widest_of K 11
theorem okr_widest_of {f : Addr} {fd : FuncData} (F : Fun K "widest_of" "widest_of" s_widest_of f fd) (T : TopF mg) (c_are_untold : Fnd P w K mg base 1 "are_untold" ["reach", "one", "other"] (sp_are_untold K)) (n : Nat) (c_widest_of : Fnd P w K mg base (2 + n) "widest_of" ["reach", "names"] (spr_widest_of K n)) : FnOk P w K mg base CX0 (2 + n + 1) f fd ["reach", "names"] (spr_widest_of K (n + 1)) := by
  refine F.ok sc_widest_of (fun vs H Q E h => ?_) (fun cdv A outer s H vs Q E hr h => ?_)
  · obtain ⟨r, u, ns, ps, as, row, rfl, _⟩ := h
    rfl
  · obtain ⟨r, u, ns, ps, as, row, rfl, hT, hn, hU, hrn, hrm, hlt, h10, k⟩ := h
    have hu := hu_of hr
    have hq := qa_of hr
    obtain ⟨ua, rfl, hS⟩ := hU.nm
    with_reducible refine ⟨_, (pss_cons (ps_if (pt_cmpR (op_eqK (K := K) hq) (pe_callB (call_lenK (K := K)) (by with_unfolding_all rfl) T.b_len PyProof.Rows.Boot.«len» (pa_cons (pv 1) pa_nil)) pe_int (nomark _)) (pss_one (ps_ret (pe_tup pa_nil))) pss_nil)
      (pss_cons (ps_set (i := 2) sc_widest_of.nd (by with_unfolding_all rfl) (by with_unfolding_all exact Or.inl rfl) (pe_slice (sl_K (K := K)) (pv 1) (po_some pe_int) po_none))
      (pss_cons (ps_set (i := 3) sc_widest_of.nd (by with_unfolding_all rfl) (by with_unfolding_all exact Or.inl rfl) (pe_callTy (call_tupleK (K := K)) (by with_unfolding_all rfl) T.b_tuple PyProof.Rows.Boot.«tuple» (pa_cons (pe_comp ["other"] ["reach", "names"] [0, 1] (by with_unfolding_all rfl) (by with_unfolding_all rfl) (by with_unfolding_all rfl) (pi_anyK (K := K) hu (pv 2)) (fun _ _ _ _ => (pg_name (i := 0) (by with_unfolding_all (show (["other", "reach", "names"] : List Str).Nodup; decide +kernel)) (by with_unfolding_all rfl) (by with_unfolding_all exact Or.inl rfl))) (gk_name (by decide)) (fun _ _ _ _ => (pif_one (pt_val (pe_fn c_are_untold (hr.mono (by omega)) (by with_unfolding_all rfl) (pa_cons (pv 1) (pa_cons (pe_ix (ix_anyK (K := K) hu) (pv 2) pe_int (by with_unfolding_all exact fun _ _ => rfl)) (pa_cons (pv 0) pa_nil))))))) (fun _ _ _ _ => (pv 0))) pa_nil)))
      (pss_cons (ps_set (i := 4) sc_widest_of.nd (by with_unfolding_all rfl) (by with_unfolding_all exact Or.inl rfl) (pe_lst (pa_cons (pe_op (op_addK (K := K)) (pe_slice (sl_K (K := K)) (pv 1) po_none (po_some pe_int)) (pe_fn c_widest_of (hr.mono (by omega)) (by with_unfolding_all rfl) (pa_cons (pv 0) (pa_cons (pv 3) pa_nil)))) (pa_cons (pe_fn c_widest_of (hr.mono (by omega)) (by with_unfolding_all rfl) (pa_cons (pv 0) (pa_cons (pv 2) pa_nil))) pa_nil))))
      (pss_one (ps_ret (pe_maxlen (K := K) (by with_unfolding_all rfl) (by with_unfolding_all rfl) T.b_max (by with_unfolding_all rfl) T.b_len (pa_cons (pv 4) pa_nil)))))))), ?_⟩
    walk_at "rd"
    refine i_lenN hU ?_
    walk_at "rd"
    refine iteD (fun hc => ?_) (fun hc => ?_)
    · have hr0 : row = [] := by
        apply List.eq_nil_of_length_eq_zero
        injection hc with hc
        omega
      subst hr0
      walk_at "rd"
      refine i_newT (line_of (by simp)) fun t H1 ht e1 h1 => ?_
      exact k _ [] H1 e1 (is_nm (ns := []) (SqT.of h1)) wid_nil
    · obtain ⟨x, rest, rfl⟩ : ∃ x rest, row = x :: rest := by
        cases row with
        | nil => exact absurd rfl hc
        | cons x rest => exact ⟨x, rest, rfl⟩
      have hxn := hrm x (.head _)
      have hrest : ∀ z ∈ rest, z ∈ ns := fun z hz => hrm z (.tail _ hz)
      rw [List.length_cons] at hlt h10
      walk_at "rd"
      refine i_slT hS fun q1 H1 e1 h1 => ?_
      rw [cut_dropA (by omega), ← List.map_drop, show (x :: rest).drop (1 : Int).toNat = rest from rfl] at h1
      have hT1 := hT.same e1
      walk_at "rd"
      refine comp_nm (is_nm h1) (fun y => unB ps x y) PyData.str (fun _ => rfl) (by omega) (fun i y H2 R R' hy e2 hR hR' => ?_) (fun q ys H2 hq2 e2 h2 hL2 => ?_)
      · walk_at "rd"
        refine i_ixN (hU.nm_fz (e1.trans e2).fz) (show atI (x :: rest) 0 = some x from atI_nat (j := 0) rfl) ?_
        walk_at "rd"
        refine ⟨r, x, y, ns, ps, as, rfl, hT1.same e2, hn, hxn, hrest y (List.mem_of_getElem? hy), ?_⟩
        walk_at "rd"
        refine ite2 (fun hb => ?_) (fun hb => ?_)
        · walk_at "rd"
          exact hR hb _ _ (.refl _) is_str
        · walk_at "rd"
          exact hR' (Bool.eq_false_iff.mpr hb) _ (.refl _)
      · walk_at "rd"
        refine i_tupNm h2 hL2 fun t3 H3 e3 hI3 => ?_
        have e13 := (e1.trans e2).trans e3
        walk_at "rd"
        refine i_slT (e13.seqT hS) fun q4 H4 e4 h4 => ?_
        rw [cut_upto (by omega), ← List.map_take, show (x :: rest).take (1 : Int).toNat = [x] from rfl] at h4
        have e14 := e13.trans e4
        have hfl := List.length_filter_le (fun y => unB ps x y) rest
        walk_at "rd"
        refine ⟨r, t3, ns, ps, as, _, rfl, hT.same e14, hn, hI3.nm_fz e4.fz, List.Nodup.sublist List.filter_sublist (List.nodup_cons.mp hrn).2, fun z hz => hrest z (List.mem_filter.mp hz).1, by omega, by omega, fun w5 W5 H5 e5 hW5 hw5 => ?_⟩
        have hl5 := hw5.sub.length_le
        obtain ⟨wa, rfl, hSw⟩ := hW5.nm
        refine i_addT (e5.seqT h4) hSw (line_of (by rw [List.length_map, List.length_map, List.length_singleton]; omega)) fun q6 H6 e6 h6 => ?_
        rw [← List.map_append, show [x] ++ W5 = x :: W5 from rfl] at h6
        have e16 := (e14.trans e5).trans e6
        walk_at "rd"
        refine ⟨r, _, ns, ps, as, rest, rfl, hT.same e16, hn, is_nm ((((((e2.trans e3).trans e4).trans e5).trans e6)).seqT h1), (List.nodup_cons.mp hrn).2, hrest, by omega, by omega, fun w7 W7 H7 e7 hW7 hw7 => ?_⟩
        obtain ⟨wb, rfl, hSb⟩ := hW7.nm
        walk_at "rd"
        refine i_newL (line_of (by simp)) fun p8 H8 hp8 e8 h8 => ?_
        walk_at "rd"
        have e17 := e16.trans e7
        refine i_maxL (SqL.of h8) ((e7.trans e8).seqT h6) (e8.seqT hSb) ?_
        have hres := wid_cons hrn hw5 hw7
        have hl : ((x :: W5).map V.str).length < (W7.map V.str).length ↔ (x :: W5).length < W7.length := by rw [List.length_map, List.length_map]
        walk_at "rd"
        by_cases hlen : (x :: W5).length < W7.length
        · rw [if_pos (hl.mpr hlen)]
          rw [if_pos hlen] at hres
          exact k _ W7 H8 (e17.trans e8) (is_nm (e8.seqT hSb)) hres
        · rw [if_neg (fun h => hlen (hl.mp h))]
          rw [if_neg hlen] at hres
          exact k _ (x :: W5) H8 (e17.trans e8) (is_nm ((e7.trans e8).seqT h6)) hres
theorem ok_widest_of {f : Addr} {fd : FuncData} (F : Fun K "widest_of" "widest_of" s_widest_of f fd) (T : TopF mg) (c_are_untold : Fnd P w K mg base 1 "are_untold" ["reach", "one", "other"] (sp_are_untold K)) (hm : mg "widest_of" = some (.ref f)) (hk : PySem.W.keepIn K (.ref f) = true) (hb : Binds K fd ["reach", "names"] []) : FnOk P w K mg base CX0 13 f fd ["reach", "names"] (sp_widest_of K) := by
  have h : ∀ n : Nat, FnOk P w K mg base CX0 (2 + n) f fd ["reach", "names"] (spr_widest_of K n) := fun n => by
    induction n with
    | zero => exact FnOk.void spr_widest_of_zero
    | succ n ih => exact okr_widest_of F T c_are_untold n ⟨f, fd, ih, hm, hk, hb⟩
  exact h 11
noncomputable def sp_widest (K : PySem.W.Frag) : Sp := fun vs H Q _ => ∃ v ns ps, vs = [v] ∧ Is K H (hfD ns ps) v ∧ HalfW ns ps ∧ ns.length ≤ 10 ∧ ∀ w W H', Same H H' → Is K H' (nmD W) w → Wid ps ns W → Q w H'
theorem ok_widest {f : Addr} {fd : FuncData} (F : Fun K "widest" "widest" s_widest f fd) (T : TopF mg) (c_behind_each : Fnd P w K mg base 1 "behind_each" ["half"] (sp_behind_each K)) (c_widest_of : Fnd P w K mg base 13 "widest_of" ["reach", "names"] (sp_widest_of K)) : FnOk P w K mg base CX0 14 f fd ["half"] (sp_widest K) := by
  refine F.ok sc_widest (fun vs H Q E h => ?_) (fun cdv A outer s H vs Q E hr h => ?_)
  · obtain ⟨v, ns, ps, rfl, _⟩ := h
    rfl
  · obtain ⟨v, ns, ps, rfl, hI, hW, h10, k⟩ := h
    have hu := hu_of hr
    have hq := qa_of hr
    with_reducible refine ⟨_, (pss_one (ps_ret (pe_fn c_widest_of (hr.mono (by decide)) (by with_unfolding_all rfl) (pa_cons (pe_fn c_behind_each (hr.mono (by decide)) (by with_unfolding_all rfl) (pa_cons (pv 0) pa_nil)) (pa_cons (pe_ix (ix_anyK (K := K) hu) (pv 0) pe_int (by with_unfolding_all exact fun _ _ => rfl)) pa_nil))))), ?_⟩
    walk_at "rd"
    refine ⟨v, ns, ps, rfl, hI, hW.c, fun r as H1 hr1 has e1 hT1 => ?_⟩
    walk_at "rd"
    refine i_ixH0 (hI.hf_fz e1.fz) fun nv hN => ?_
    walk_at "rd"
    exact ⟨r, nv, ns, ps, as, ns, rfl, hT1.toR, hW.nd, hN, hW.nd, fun _ h => h, by omega, h10, fun w W H' e hw hd => k w W H' (e1.trans e) hw hd⟩
theorem i_inDS {K : PySem.W.Frag} {H : Hp} {Q : VK} {a : Addr} {kvs : List (Key × V)} {z : Str} (h : H a = some (.dK kvs)) (k : Q (.bl (valV kvs (Sum.inr z : Key)).isSome) H) : rInA K false (.str z) (.ref a) H Q := by
  refine .inr (.inr (.inl ⟨a, valV kvs (Sum.inr z : Key), rfl, DGet.k (k := Sum.inr z) h, ?_⟩))
  cases hv : valV kvs (Sum.inr z : Key) with
  | none => rw [hv] at k; exact k
  | some _ => rw [hv] at k; exact k
theorem i_ninDR {K : PySem.W.Frag} {H : Hp} {Q : VK} {a : Addr} {kvs : List (Key × V)} {z : Str} (h : Rd H a (.dK kvs)) (k : Q (.bl (valV kvs (Sum.inr z : Key)).isNone) H) : rInA K true (.str z) (.ref a) H Q := by
  refine .inr (.inr (.inl ⟨a, valV kvs (Sum.inr z : Key), rfl, .inl ⟨kvs, Sum.inr z, h, rfl, rfl⟩, ?_⟩))
  cases hv : valV kvs (Sum.inr z : Key) with
  | none => rw [hv] at k; exact k
  | some _ => rw [hv] at k; exact k
structure FoO (ns : List Str) (ps : List (Str × Str)) (fo : List (Str × Str)) : Prop where
  keys : (fo.map (·.1)).Nodup
  mem : ∀ p ∈ fo, p.1 ∈ ns ∧ p.2 ∈ ns ∧ wayB ps p.1 p.2 = true
noncomputable def sp_chain_from (K : PySem.W.Frag) : Sp := fun vs H Q _ => ∃ f z fo ns ps, vs = [.ref f, .str z] ∧ H f = some (.dK (dsK fo)) ∧ FoO ns ps fo ∧ HalfW ns ps ∧ ns.length ≤ 10 ∧ z ∈ ns ∧ ∀ u row H', Same H H' → Is K H' (nmD row) u → Chf fo z row → Q u H'
theorem ok_chain_from {f : Addr} {fd : FuncData} (F : Fun K "chain_from" "chain_from" s_chain_from f fd) (T : TopF mg) : FnOk P w K mg base CX0 1 f fd ["followers", "name"] (sp_chain_from K) := by
  refine F.ok sc_chain_from (fun vs H Q E h => ?_) (fun cdv A outer s H vs Q E hr h => ?_)
  · obtain ⟨f, z, fo, ns, ps, rfl, _⟩ := h
    rfl
  · obtain ⟨f, z, fo, ns, ps, rfl, hf, hO, hW, h10, hz, k⟩ := h
    have hu := hu_of hr
    have hq := qa_of hr
    have irr := wayB_irr hW
    with_reducible refine ⟨_, (pss_cons (ps_set (i := 2) sc_chain_from.nd (by with_unfolding_all rfl) (by with_unfolding_all exact Or.inl rfl) (pe_lst (pa_cons (pv 1) pa_nil)))
      (pss_cons (ps_while PassesOwn.never (pt_cmpR (op_inK (K := K) hq) (pe_ix (ix_anyK (K := K) hu) (pv 2) (pe_un un_neg pe_int) (by with_unfolding_all exact fun _ _ => rfl)) (pv 0) (by with_unfolding_all rfl))
      (pss_one (ps_expr (pe_bmK (K := K) PySem.F.plainAttrs_list PySem.F.slot_list_append PySem.F.type_list_append (mm mt_append) (pv 2) (pa_cons (pe_ix (ix_anyK (K := K) hu) (pv 0) (pe_ix (ix_anyK (K := K) hu) (pv 2) (pe_un un_neg pe_int) (by with_unfolding_all exact fun _ _ => rfl)) (by with_unfolding_all exact fun _ _ => rfl)) pa_nil)))))
      (pss_one (ps_ret (pe_callTy (call_tupleK (K := K)) (by with_unfolding_all rfl) T.b_tuple PyProof.Rows.Boot.«tuple» (pa_cons (pv 2) pa_nil)))))), ?_⟩
    walk_at "rd"
    refine i_newL (line_of (by simp)) fun c H1 hc1 e1 h1 => ?_
    walk_at "rd"
    refine i_while (fun m σ H2 => ∃ (pre : List Str) (last : Str), σ = [some (.ref f), some (.str z), some (.ref c)] ∧ Same H H2 ∧ H2 c = some (.lst ((pre ++ [last]).map V.str)) ∧ (∀ r, Chf fo last r → Chf fo z (pre ++ r)) ∧ (pre ++ [last]).Pairwise (fun x y => wayB ps x y = true) ∧ (∀ x ∈ pre ++ [last], x ∈ ns) ∧ m + pre.length = 20)
      20 ⟨[], z, rfl, e1, h1, fun r h => h, List.pairwise_singleton _ _, fun x hx => by rw [List.mem_singleton.mp hx]; exact hz, rfl⟩ fun m σ H2 hP => ?_
    obtain ⟨pre, last, rfl, e2, h2, hch, hpw, hmem, hm⟩ := hP
    have hnd : (pre ++ [last]).Nodup := hpw.imp fun {x y} h e => by subst e; rw [irr] at h; cases h
    have hlen : (pre ++ [last]).length ≤ ns.length := nodup_le hnd hmem
    rw [List.length_append, List.length_singleton] at hlen
    have hlast : atI ((pre ++ [last]).map V.str) (-1) = some (.str last) := by rw [List.map_append]; exact atI_last _ _
    have hf2 := e2 _ _ hf
    walk_at "rd"
    refine i_ixL h2 hlast ?_
    walk_at "rd"
    refine i_inDS hf2 ?_
    by_cases hs : ∀ p ∈ fo, p.1 ≠ last
    · rw [val_dsN hs, show (none : Option V).isSome = false from rfl]
      walk_at "rd"
      refine i_tupleL (SqL.of h2) fun t H3 ht e3 h3 => ?_
      exact k _ (pre ++ [last]) H3 (e2.trans e3) (is_nm (SqT.of h3)) (hch _ (.stop hs))
    · obtain ⟨y, hy⟩ : ∃ y, (last, y) ∈ fo := by
        apply Classical.byContradiction
        intro hno
        exact hs fun q hq e => hno ⟨q.2, by rw [← e]; exact hq⟩
      have hval := val_ds hO.keys hy
      have hyo := hO.mem _ hy
      rw [hval, show (some (V.str y)).isSome = true from rfl]
      walk_at "rd"
      refine i_turn ?_
      walk_at "rd"
      refine i_ixL h2 hlast ?_
      walk_at "rd"
      refine i_ixD hf2 hval ?_
      walk_at "rd"
      refine i_appR h2 (by rw [List.length_map, List.length_append, List.length_singleton]; omega) fun H3 e3 h3 => ?_
      walk_at "rd"
      refine ⟨m - 1, by omega, pre ++ [last], y, rfl, Same.off e2 hc1 e3, h3.trans (by rw [show [V.str y] = [y].map V.str from rfl, ← List.map_append]), fun r h => ?_, ?_, fun x hx => ?_, by rw [List.length_append, List.length_singleton]; omega⟩
      · rw [List.append_assoc]
        exact hch _ (.go hy h)
      · rw [List.pairwise_append]
        refine ⟨hpw, List.pairwise_singleton _ _, fun x hx w hw => ?_⟩
        rw [List.mem_singleton.mp hw]
        rcases List.mem_append.mp hx with hx | hx
        · exact wayB_tr _ _ _ ((List.pairwise_append.mp hpw).2.2 x hx last (by simp)) hyo.2.2
        · rw [List.mem_singleton.mp hx]
          exact hyo.2.2
      · rcases List.mem_append.mp hx with hx | hx
        · exact hmem x hx
        · rw [List.mem_singleton.mp hx]
          exact hyo.2.1
theorem prs_ds {K : PySem.W.Frag} {H : Hp} : ∀ {qs : List (Str × Str)} {ys : List V}, IsL K H (qs.map prD) ys → PrsK K H (dsK qs) ys
  | [], ys, h => by simp only [List.map_nil, L2.IsL] at h; exact h
  | p :: qs, ys, h => by
    simp only [List.map_cons, L2.IsL] at h
    obtain ⟨v, r, rfl, h1, h2⟩ := h
    obtain ⟨a, xs, rfl, hS, hX⟩ := Is.tup (ds := [.str p.1, .str p.2]) h1
    simp only [L2.IsL] at hX
    obtain ⟨v1, _, rfl, e1, v2, _, rfl, e2, rfl⟩ := hX
    simp only [L2.Is] at e1 e2
    subst e1
    subst e2
    exact ⟨a, r, rfl, hS, prs_ds h2⟩
theorem live_row {H : Hp} {r : Addr} {ns : List Str} {as : List Addr} {R : Str → Str → Prop} (hT : TabR H r ns as R) {a : Addr} (ha : a ∈ as) : H a ≠ none := fun h => by
  obtain ⟨i, hi⟩ := List.mem_iff_getElem?.mp ha
  have hil := (List.getElem?_eq_some_iff.mp hi).1
  obtain ⟨ks, h1, _⟩ := hT.row i _ a (List.getElem?_eq_getElem (by rw [← hT.len]; exact hil)) hi
  rcases h1 with h1 | ⟨o, h1⟩ <;> rw [h] at h1 <;> cases h1
theorem live_top {H : Hp} {r : Addr} {ns : List Str} {as : List Addr} {R : Str → Str → Prop} (hT : TabR H r ns as R) : H r ≠ none := fun h => by
  rcases hT.top with h1 | ⟨o, h1⟩ <;> rw [h] at h1 <;> cases h1
theorem KeepF.one {as : List Addr} {L Tr : Addr} {H H1 H2 H3 : Hp} (a : KeepF as L L H H1) (e : Same H1 H2) (b : KeepF as L Tr H2 H3) (h : H1 Tr = none) (hT : Tr ∉ as) : KeepF as L L H H3 := by
  have hne : ∀ {c o}, H1 c = some o → c ≠ Tr := fun {c o} q z => by rw [z, h] at q; cases q
  refine ⟨fun c o n n1 n2 q => ?_, fun c hc u q => b.rows c hc u (e.rd (a.rows c hc u q)), fun c o u n1 n2 q => ?_⟩
  · have q1 := a.old c o n n1 n2 q
    exact b.old c o n n1 (hne q1) (e _ _ q1)
  · have q1 := a.frz c o u n1 n2 q
    exact b.frz c o u n1 (hne q1) (e _ _ q1)
theorem keepF_fz {as : List Addr} {L : Addr} {H H' : Hp} {kvs : List (Key × V)} (k : KeepF as L L H H') (hL : H L = some (.dK kvs)) : Fz H H' := fun a xs h => by
  have hne : a ≠ L := fun z => by
    rcases h with h | ⟨o, h⟩ <;> rw [z, hL] at h <;> cases h
  exact k.rd hne hne h
theorem any_key {ld : List (Str × Str)} {z : Str} (hk : (ld.map (·.1)).Nodup) : (valV (dsK ld) (Sum.inr z : Key)).isNone = !(ld.any fun p => decide (p.1 = z)) := by
  by_cases h : ∀ p ∈ ld, p.1 ≠ z
  · rw [val_dsN h]
    have : (ld.any fun p => decide (p.1 = z)) = false := by
      rw [List.any_eq_false]
      intro p hp
      simp [h p hp]
    rw [this]
    rfl
  · obtain ⟨y, hy⟩ : ∃ y, (z, y) ∈ ld := by
      apply Classical.byContradiction
      intro hno
      exact h fun q hq e => hno ⟨q.2, by rw [← e]; exact hq⟩
    rw [val_ds hk hy]
    have : (ld.any fun p => decide (p.1 = z)) = true := List.any_eq_true.mpr ⟨_, hy, decide_eq_true rfl⟩
    rw [this]
    rfl
noncomputable def gCh (fo : List (Str × Str)) (z : Str) : List Str := Classical.epsilon fun r => Chf fo z r
noncomputable def sp_cover (K : PySem.W.Frag) : Sp := fun vs H Q _ => ∃ v ns ps, vs = [v] ∧ Is K H (hfD ns ps) v ∧ HalfW ns ps ∧ ns.length ≤ 10 ∧ ∀ u rows H', Same H H' → Is K H' (lsD rows) u → (∀ r ∈ rows, ChR ns ps r) → rows.flatten.Perm ns → (∀ W, Wid ps ns W → rows.length = W.length) → Q u H'
theorem cover_all {ns : List Str} {ps ld : List (Str × Str)} {T : Str → Bool} (hW : HalfW ns ps) (hM : MtO ns (wayB ps) ld) (hv : (ld.map (·.2)).Nodup) (hT : Shut ns (wayB ps) ld T) (hF : ∀ x ∈ ns, (∀ p ∈ ld, p.2 ≠ x) → ∀ y ∈ ns, wayB ps x y = true → T y = true) {fo : List (Str × Str)} (hfo : fo = ld.map fun p => (p.2, p.1)) :
    FoO ns ps fo ∧ (∀ z ∈ ns, Chf fo z (gCh fo z)) ∧ (∀ r ∈ (ns.filter fun z => !(ld.any fun p => decide (p.1 = z))).map (gCh fo), ChR ns ps r) ∧ ((ns.filter fun z => !(ld.any fun p => decide (p.1 = z))).map (gCh fo)).flatten.Perm ns ∧ ∀ W, Wid ps ns W → ((ns.filter fun z => !(ld.any fun p => decide (p.1 = z))).map (gCh fo)).length = W.length := by
  have irr := wayB_irr hW
  have tr : ∀ x y z, wayB ps x y = true → wayB ps y z = true → wayB ps x z = true := fun x y z => wayB_tr x y z
  have hiff : ∀ x y, (x, y) ∈ fo ↔ (y, x) ∈ ld := fun x y => by
    rw [hfo, List.mem_map]
    constructor
    · rintro ⟨p, hp, e⟩
      injection e with e1 e2
      rw [← e1, ← e2]
      exact hp
    · exact fun h => ⟨_, h, rfl⟩
  have hO : FoO ns ps fo := ⟨by rw [hfo, List.map_map]; exact hv, fun p hp => by
    have := hM.mem _ ((hiff p.1 p.2).mp hp)
    exact ⟨this.2.1, this.1, this.2.2⟩⟩
  have hg : ∀ z ∈ ns, Chf fo z (gCh fo z) := fun z hz => Classical.epsilon_spec (chf_ex hW.nd irr tr (fun p hp => (hO.mem p hp).2) _ rfl hz)
  have hch : ∀ r ∈ (ns.filter fun z => !(ld.any fun p => decide (p.1 = z))).map (gCh fo), r ≠ [] ∧ (∀ z ∈ r, z ∈ ns) ∧ r.Pairwise fun x y => wayB ps x y = true := fun r hr => by
    obtain ⟨z, hz, rfl⟩ := List.mem_map.mp hr
    have hzn := (List.mem_filter.mp hz).1
    have hc := hg z hzn
    refine ⟨?_, hc.mem (P := fun x => x ∈ ns) (fun p hp => (hO.mem p hp).2.1) hzn, hc.pw tr fun p hp => (hO.mem p hp).2.2⟩
    obtain ⟨t, ht⟩ := hc.head
    rw [ht]
    simp
  have hperm := cover_of hW.nd irr tr hM hiff hO.keys (g := gCh fo) fun a ha => hg a (List.mem_filter.mp ha).1
  refine ⟨hO, hg, fun r hr => ?_, hperm, fun W hWd => ?_⟩
  · obtain ⟨h1, h2, h3⟩ := hch r hr
    refine ⟨h1, h2, fun i x y hx hy => ?_⟩
    have hil := (List.getElem?_eq_some_iff.mp hy).1
    rw [List.pairwise_iff_getElem] at h3
    have := h3 i (i + 1) (by omega) hil (by omega)
    rw [(List.getElem?_eq_some_iff.mp hx).2, (List.getElem?_eq_some_iff.mp hy).2] at this
    exact wayB_iff.mp this
  · have h1 : W.length ≤ _ := bunch_le (b := wayB ps) (rows := (ns.filter fun z => !(ld.any fun p => decide (p.1 = z))).map (gCh fo)) (List.Nodup.sublist hWd.sub hW.nd) (fun x hx => hperm.mem_iff.mpr (hWd.sub.subset hx)) ((pw_all irr).mp hWd.un) fun r hr => (hch r hr).2.2
    obtain ⟨A, hA1, hA2, hA3, hA4⟩ := wide_of hW.nd hM hT hF
    have h2 := hWd.most A hA1 hA2 hA3
    have h3 : (ld.map (·.1)).length ≤ (ns.filter fun z => ld.any fun p => decide (p.1 = z)).length := nodup_le hM.keys fun x hx => by
      obtain ⟨p, hp, rfl⟩ := List.mem_map.mp hx
      exact List.mem_filter.mpr ⟨(hM.mem p hp).1, List.any_eq_true.mpr ⟨p, hp, decide_eq_true rfl⟩⟩
    have h4 := bunch_le.len_filter_two (fun z => ld.any fun p => decide (p.1 = z)) ns
    rw [List.length_map] at h3 h1 ⊢
    omega
theorem ok_cover {f : Addr} {fd : FuncData} (F : Fun K "cover" "cover" s_cover f fd) (T : TopF mg) (c_behind_each : Fnd P w K mg base 1 "behind_each" ["half"] (sp_behind_each K)) (c_finds_follower : Fnd P w K mg base 12 "finds_follower" ["reach", "one", "leaders", "tried"] (sp_finds_follower K)) (c_chain_from : Fnd P w K mg base 1 "chain_from" ["followers", "name"] (sp_chain_from K)) : FnOk P w K mg base CX0 13 f fd ["half"] (sp_cover K) := by
  refine F.ok sc_cover (fun vs H Q E h => ?_) (fun cdv A outer s H vs Q E hr h => ?_)
  · obtain ⟨v, ns, ps, rfl, _⟩ := h
    rfl
  · obtain ⟨v, ns, ps, rfl, hI, hW, h10, k⟩ := h
    have hu := hu_of hr
    have hq := qa_of hr
    have hn := hW.nd
    with_reducible refine ⟨_, (pss_cons (ps_set (i := 1) sc_cover.nd (by with_unfolding_all rfl) (by with_unfolding_all exact Or.inl rfl) (pe_fn c_behind_each (hr.mono (by decide)) (by with_unfolding_all rfl) (pa_cons (pv 0) pa_nil)))
      (pss_cons (ps_set (i := 2) sc_cover.nd (by with_unfolding_all rfl) (by with_unfolding_all exact Or.inr rfl) pe_dnewK)
      (pss_cons (ps_for PassesOwn.never (by with_unfolding_all rfl) (pi_anyK (K := K) hu (pe_ix (ix_anyK (K := K) hu) (pv 0) pe_int (by with_unfolding_all exact fun _ _ => rfl))) (pg_name (i := 3) sc_cover.nd (by with_unfolding_all rfl) (by with_unfolding_all exact Or.inl rfl))
      (pss_one (ps_expr (pe_fn c_finds_follower (hr.mono (by decide)) (by with_unfolding_all rfl) (pa_cons (pv 1) (pa_cons (pv 3) (pa_cons (pv 2) (pa_cons pe_dnewK pa_nil))))))))
      (pss_cons (ps_set (i := 4) sc_cover.nd (by with_unfolding_all rfl) (by with_unfolding_all exact Or.inr rfl) (pe_callTy (call_dictK (K := K) hr.hd) (by with_unfolding_all rfl) T.b_dict PyProof.Rows.Boot.«dict» (pa_cons (pe_comp ["other"] ["leaders"] [2] (by with_unfolding_all rfl) (by with_unfolding_all rfl) (by with_unfolding_all rfl) (pi_anyK (K := K) hu (pv 2)) (fun _ _ _ _ => (pg_name (i := 0) (by with_unfolding_all (show (["other", "leaders"] : List Str).Nodup; decide +kernel)) (by with_unfolding_all rfl) (by with_unfolding_all exact Or.inl rfl))) (gk_name (by decide)) (fun _ _ _ _ => pif_nil) (fun _ _ _ _ => (pe_tup (pa_cons (pe_ix (ix_anyK (K := K) hu) (pv 1) (pv 0) (by with_unfolding_all exact fun _ _ => rfl)) (pa_cons (pv 0) pa_nil))))) pa_nil)))
      (pss_one (ps_ret (pe_callTy (call_tupleK (K := K)) (by with_unfolding_all rfl) T.b_tuple PyProof.Rows.Boot.«tuple» (pa_cons (pe_comp ["name"] ["followers", "leaders"] [4, 2] (by with_unfolding_all rfl) (by with_unfolding_all rfl) (by with_unfolding_all rfl) (pi_anyK (K := K) hu (pe_ix (ix_anyK (K := K) hu) (pv 0) pe_int (by with_unfolding_all exact fun _ _ => rfl))) (fun _ _ _ _ => (pg_name (i := 0) (by with_unfolding_all (show (["name", "followers", "leaders"] : List Str).Nodup; decide +kernel)) (by with_unfolding_all rfl) (by with_unfolding_all exact Or.inl rfl))) (gk_name (by decide)) (fun _ _ _ _ => (pif_one (pt_cmpR (op_notInK (K := K) hq) (pv 0) (pv 2) (by with_unfolding_all rfl)))) (fun _ _ _ _ => (pe_fn c_chain_from (hr.mono (by decide)) (by with_unfolding_all rfl) (pa_cons (pv 1) (pa_cons (pv 0) pa_nil))))) pa_nil)))))))), ?_⟩
    walk_at "rd"
    refine ⟨v, ns, ps, rfl, hI, hW.c, fun r as H1 hr1 has e1 hT1 => ?_⟩
    have hTR := hT1.toR
    walk_at "rd"
    refine i_newD fun L H2 hL2 e2 h2 => ?_
    have hLa : L ∉ as := fun h => live_row hTR h hL2
    have hrL : r ≠ L := fun z => live_top hTR (z ▸ hL2)
    have hTR2 := hTR.same e2
    have hL0 : H L = none := e1.free hL2
    walk_at "rd"
    refine i_ixH0 (hI.hf_fz (e1.trans e2).fz) fun nv hN => ?_
    refine for_nm hN (fun i σ H3 => ∃ x3 x4 ld T, σ = [some v, some (.ref r), some (.ref L), x3, x4] ∧ KeepF as L L H2 H3 ∧ H3 L = some (.dK (dsK ld)) ∧ MtO ns (wayB ps) ld ∧ (ld.map (·.2)).Nodup ∧ (∀ p ∈ ld, p.2 ∈ ns.take i) ∧ Shut ns (wayB ps) ld T ∧ ∀ x ∈ ns.take i, (∀ p ∈ ld, p.2 ≠ x) → ∀ y ∈ ns, wayB ps x y = true → T y = true)
      ⟨_, _, [], fun _ => false, rfl, .refl _ _ _ _, h2, ⟨.nil, fun p h => (by cases h)⟩, .nil, fun p h => (by cases h), fun t h => (by cases h), fun x h => (by cases h)⟩ (fun i σ' H' hP => ?_) (fun i z σ' H3 hz hP => ?_) (fun σ' H3 hP => ?_)
    · obtain ⟨_, _, _, _, _, kp, _⟩ := hP
      exact keepF_fz kp h2
    · obtain ⟨x3, x4, ld, T, rfl, kp3, h3L, hM, hv, hvin, hT, hF⟩ := hP
      have hTR3 := hTR2.keepF kp3 hrL hrL
      have hzn := List.mem_of_getElem? hz
      have htk : ns.take (i + 1) = ns.take i ++ [z] := by rw [List.take_add_one, hz]; rfl
      have hzt : z ∉ ns.take i := fun h => by
        have hnd : (ns.take (i + 1)).Nodup := List.Nodup.sublist (List.take_sublist _ _) hn
        rw [htk, List.nodup_append] at hnd
        exact hnd.2.2 z h z (by simp) rfl
      walk_at "rd"
      refine i_newD fun Tr H4 hTr4 e4 h4 => ?_
      have hTa : Tr ∉ as := fun h => live_row hTR3 h hTr4
      have hrT : r ≠ Tr := fun z => live_top hTR3 (z ▸ hTr4)
      have hLT : L ≠ Tr := fun z => by rw [← z, h3L] at hTr4; cases hTr4
      walk_at "rd"
      refine ⟨r, z, L, Tr, ns, ps, as, ld, [], rfl, hTR3.same e4, hn, h10, hzn, e4 _ _ h3L, h4, hM, hLa, hTa, hLT, hrL, hrT, .nil, fun z h => (by cases h), Nat.lt_of_le_of_lt (List.length_filter_le _ _) (by omega), fun c ld5 ks5 H5 kp5 h5L h5T hnd5 _ hns5 hM5 hw hl => ?_⟩
      have kp := KeepF.one kp3 e4 kp5 hTr4 hTa
      walk_at "rd"
      cases c with
      | true =>
        have hWn := hw rfl
        refine ⟨_, _, ld5, T, rfl, kp, h5L, hM5, ?_, fun p hp => ?_, fun t ht => ?_, fun x hx hno => ?_⟩
        · rw [hWn.vals.nodup_iff]
          refine List.nodup_cons.mpr ⟨fun h => ?_, hv⟩
          obtain ⟨p, hp, e⟩ := List.mem_map.mp h
          exact hzt (e ▸ hvin p hp)
        · have := hWn.vals.mem_iff.mp (List.mem_map.mpr ⟨p, hp, rfl⟩)
          rw [htk]
          rcases List.mem_cons.mp this with e | h
          · rw [e]
            simp
          · obtain ⟨p', hp', e⟩ := List.mem_map.mp h
            exact List.mem_append_left _ (e ▸ hvin p' hp')
        · obtain ⟨x, hx, hc⟩ := hT t ht
          exact ⟨x, ((hWn.shut T hT).1 t ht x).mpr hx, hc⟩
        · rw [htk] at hx
          have hval : ∀ x, x ∈ ld5.map (·.2) ↔ x ∈ z :: ld.map (·.2) := fun x => hWn.vals.mem_iff
          have hnx : x ∉ ld5.map (·.2) := fun h => by
            obtain ⟨p, hp, e⟩ := List.mem_map.mp h
            exact hno p hp e
          rw [hval] at hnx
          rcases List.mem_append.mp hx with hx | hx
          · refine hF x hx fun p hp e => hnx (.tail _ (List.mem_map.mpr ⟨p, hp, e⟩))
          · exact absurd (by rw [List.mem_singleton.mp hx]; exact .head _) hnx
      | false =>
        obtain ⟨rfl, hLo⟩ := hl rfl
        refine ⟨_, _, ld5, fun y => T y || decide (y ∈ ks5), rfl, kp, h5L, hM, hv, fun p hp => by rw [htk]; exact List.mem_append_left _ (hvin p hp), fun t ht => ?_, fun x hx hno y hy hb => ?_⟩
        · rcases (Bool.or_eq_true _ _).mp ht with ht | ht
          · obtain ⟨x, hx, hc⟩ := hT t ht
            exact ⟨x, hx, fun y hy hb => by show (T y || decide (y ∈ ks5)) = true; rw [hc y hy hb]; rfl⟩
          · obtain ⟨x, hx, hc⟩ := hLo.new t (of_decide_eq_true ht) (fun h => by cases h)
            exact ⟨x, hx, fun y hy hb => by show (T y || decide (y ∈ ks5)) = true; rw [decide_eq_true (hc y hy hb), Bool.or_true]⟩
        · rw [htk] at hx
          show (T y || decide (y ∈ ks5)) = true
          rcases List.mem_append.mp hx with hx | hx
          · rw [hF x hx hno y hy hb]
            rfl
          · rw [List.mem_singleton.mp hx] at hb
            rw [decide_eq_true (hLo.all y hy hb), Bool.or_true]
    · obtain ⟨x3, x4, ld, T, rfl, kp3, h3L, hM, hv, hvin, hT, hF⟩ := hP
      rw [List.take_length] at hF
      obtain ⟨hO, hg, hch, hperm, hlen⟩ := cover_all hW hM hv hT hF rfl
      have hld := mt_few hM
      have s3 : Same H H3 := fun b o q => kp3.old b o (fun h => by rw [has b h] at q; cases q) (fun z => by rw [z, hL0] at q; cases q) (fun z => by rw [z, hL0] at q; cases q) ((e1.trans e2) _ _ q)
      walk_at "rd"
      refine i_itD h3L fun o => ?_
      generalize hH4 : upd H3 L (.frz o (.dK (dsK ld))) = H4
      have h4L : H4 L = some (.frz o (.dK (dsK ld))) := by rw [← hH4]; exact upd_same
      have s4 : Same H H4 := fun b o' q => by
        rw [← hH4, upd_ne (fun z => by rw [z, hL0] at q; cases q)]
        exact s3 b o' q
      have hdl : ((dsK ld).map fun kv => kV kv.1) = ld.map fun p => V.str p.1 := by unfold dsK; rw [List.map_map]; rfl
      refine comp_dat (K := K) walk_dict ld (by rw [hdl, List.length_map]) (fun _ => true) (fun p => prD (p.2, p.1)) (fun p => frz_pr _) (by rw [hdl, List.length_map]; omega) (fun H' e => e _ _ h4L) (fun j p xv H5 R R' hp hxv e5 hR hR' => ?_) (fun q ys H5 hq5 e5 h5 hL5 => ?_)
      · rw [hdl, List.getElem?_map, hp] at hxv
        cases hxv
        walk_at "rd"
        refine i_ixDR (.inr ⟨o, e5 _ _ h4L⟩) (val_ds hM.keys (show (p.1, p.2) ∈ ld from List.mem_of_getElem? hp)) ?_
        walk_at "rd"
        exact i_newT (line_of (by simp)) fun t H6 ht e6 h6 => hR rfl _ _ e6 (is_pr (SqT.of h6))
      · rw [filter_true, show ld.map (fun p => prD (p.2, p.1)) = (ld.map fun p => (p.2, p.1)).map prD by rw [List.map_map]; rfl] at hL5
        generalize hfo : (ld.map fun p => (p.2, p.1)) = fo at hO hg hch hperm hlen hL5
        have hfl : fo.length ≤ 10 := by rw [← hfo, List.length_map]; omega
        walk_at "rd"
        refine i_dict h5 (prs_ds hL5) (by unfold dsK; rw [List.length_map]; omega) fun f H6 hf6 e6 h6 => ?_
        rw [merge_new (dsK fo) [] (by
          have := hO.keys
          have e : (dsK fo).map (·.1) = (fo.map (·.1)).map (fun z => (Sum.inr z : Key)) := by unfold dsK; rw [List.map_map, List.map_map]; rfl
          rw [e]
          exact List.Pairwise.map _ (fun a b h z => h (by injection z)) this) (fun k _ q h => by cases h), List.nil_append] at h6
        have s6 := (s4.trans e5).trans e6
        have h6L := (e5.trans e6) _ _ h4L
        walk_at "rd"
        refine i_ixH0 (hI.hf_fz s6.fz) fun nv6 hN6 => ?_
        refine comp_nm hN6 (fun z => !(ld.any fun p => decide (p.1 = z))) (fun z => nmD (gCh fo z)) (fun z => frz_nm _) (by omega) (fun j z H7 R R' hz e7 hR hR' => ?_) (fun q7 ys7 H7 hq7 e7 h7 hL7 => ?_)
        · have hzn := List.mem_of_getElem? hz
          walk_at "rd"
          refine i_ninDR (.inr ⟨o, e7 _ _ h6L⟩) ?_
          rw [any_key hM.keys]
          walk_at "rd"
          refine ite2 (fun hb => ?_) (fun hb => ?_)
          · walk_at "rd"
            refine ⟨f, z, fo, ns, ps, rfl, e7 _ _ h6, hO, hW, h10, hzn, fun u row H8 e8 hu8 hc => ?_⟩
            have : row = gCh fo z := hc.det hO.keys (hg z hzn)
            subst this
            exact hR hb _ _ e8 hu8
          · walk_at "rd"
            exact hR' (Bool.eq_false_iff.mpr hb) _ (.refl _)
        · rw [show (ns.filter fun z => !(ld.any fun p => decide (p.1 = z))).map (fun z => nmD (gCh fo z)) = ((ns.filter fun z => !(ld.any fun p => decide (p.1 = z))).map (gCh fo)).map nmD by rw [List.map_map]; rfl] at hL7
          walk_at "rd"
          exact i_tupLs h7 hL7 fun u H8 e8 hu8 => k u _ H8 ((s6.trans e7).trans e8) hu8 hch hperm hlen
noncomputable def sp__law_right (K : PySem.W.Frag) : Sp := fun vs H Q _ => ∃ v ns ps, vs = [v] ∧ Is K H (hfD ns ps) v ∧ Half ns ps ∧ ∀ H', Same H H' → Q (.bl true) H'
theorem len_ne13 : ∀ {rows : List (List Str)}, (∀ r ∈ rows, r ≠ []) → rows.length ≤ rows.flatten.length
  | [], _ => by simp
  | r :: rows, h => by
    have := len_ne13 fun q hq => h q (.tail _ hq)
    have h1 : 0 < r.length := List.length_pos_iff.mpr (h r (.head _))
    rw [List.flatten_cons, List.length_append, List.length_cons]
    omega
theorem cov13_dk {ns : List Str} {ps : List (Str × Str)} {rows : List (List Str)} (hH : Half ns ps) (h1 : ∀ r ∈ rows, ChR ns ps r) (h2 : rows.flatten.Perm ns) : Dk 20 50000 100 (lsD rows) ∧ lfsL (rows.map nmD) ≤ 60 ∧ rows.length ≤ 10 := by
  have h10 := hH.few
  have hf := h2.length_eq
  have hne : rows.length ≤ rows.flatten.length := len_ne13 fun r hr => (h1 r hr).1
  have hr1 : ∀ r ∈ rows, r.length ≤ 10 := fun r hr => by
    have : r.length ≤ rows.flatten.length := (List.sublist_flatten_of_mem hr).length_le
    omega
  refine ⟨?_, by rw [lf_rows]; omega, by omega⟩
  have hr : ∀ r ∈ rows, Dk 19 180 100 (nmD r) := fun r hr => by
    have := hr1 r hr
    exact (dk_tup (nms_els (p := 1) (W := 30) (fun z hz => hH.names.2 z ((h1 r hr).2.1 z hz)) (by omega))).le (by omega) (by omega)
  refine dk_tup (p := 19) ⟨fun e he => ?_, ?_, by rw [List.length_map]; omega⟩
  · obtain ⟨r, hm, rfl⟩ := List.mem_map.mp he
    exact ⟨180, hr r hm⟩
  · have := wt_all (k := 180) (ds := rows.map nmD) fun e he => by
      obtain ⟨r, hm, rfl⟩ := List.mem_map.mp he
      exact (hr r hm).wt
    rw [List.length_map] at this
    have := Nat.mul_le_mul (show rows.length ≤ 10 by omega) (Nat.le_refl 181)
    omega
theorem sub_filter {W ns : List Str} (hn : ns.Nodup) (h : W.Sublist ns) : W = ns.filter fun z => decide (z ∈ W) := by
  induction h with
  | slnil => rfl
  | @cons l₁ l₂ a hs ih =>
    obtain ⟨h1, h2⟩ := List.nodup_cons.mp hn
    have : a ∉ l₁ := fun h => h1 (hs.subset h)
    rw [List.filter_cons, if_neg (by simpa using this)]
    exact ih h2
  | @cons_cons l₁ l₂ a hs ih =>
    obtain ⟨h1, h2⟩ := List.nodup_cons.mp hn
    rw [List.filter_cons, if_pos (by simp)]
    congr 1
    conv => lhs; rw [ih h2]
    refine List.filter_congr fun z hz => ?_
    have : z ≠ a := fun e => h1 (e ▸ hz)
    simp [this]
theorem ok__law_right {f : Addr} {fd : FuncData} (F : Fun K "_law_right" "_law_right" s__law_right f fd) (T : TopF mg) (c_widest : Fnd P w K mg base 14 "widest" ["half"] (sp_widest K)) (c_cover : Fnd P w K mg base 13 "cover" ["half"] (sp_cover K)) (c__law_is_bunch : Fnd P w K mg base 4 "_law_is_bunch" ["_law_half_here", "_law_thing"] (sp__law_is_bunch K)) (c__law_is_cover : Fnd P w K mg base 3 "_law_is_cover" ["_law_half_here", "_law_thing"] (sp__law_is_cover K)) : FnOk P w K mg base CX0 15 f fd ["_law_half_here"] (sp__law_right K) := by
  refine F.ok sc__law_right (fun vs H Q E h => ?_) (fun cdv A outer s H vs Q E hr h => ?_)
  · obtain ⟨v, ns, ps, rfl, _⟩ := h
    rfl
  · obtain ⟨v, ns, ps, rfl, hI, hH, k⟩ := h
    have hu := hu_of hr
    have hq := qa_of hr
    have hW := hH.w
    have h10 := hH.few
    have hfine := hH.fine.sh rfl
    with_reducible refine ⟨_, (pss_cons (ps_set (i := 1) sc__law_right.nd (by with_unfolding_all rfl) (by with_unfolding_all exact Or.inl rfl) (pe_callB (call_reprK (K := K) hq) (by with_unfolding_all rfl) T.b_repr PyProof.Rows.Boot.«repr» (pa_cons (pv 0) pa_nil)))
      (pss_cons (ps_set (i := 2) sc__law_right.nd (by with_unfolding_all rfl) (by with_unfolding_all exact Or.inl rfl) (pe_fn c_cover (hr.mono (by decide)) (by with_unfolding_all rfl) (pa_cons (pv 0) pa_nil)))
      (pss_cons (ps_set (i := 3) sc__law_right.nd (by with_unfolding_all rfl) (by with_unfolding_all exact Or.inl rfl) (pe_fn c_widest (hr.mono (by decide)) (by with_unfolding_all rfl) (pa_cons (pv 0) pa_nil)))
      (pss_cons (ps_if (PW.pt (pw_or (pt_not (pt_val (pe_fn c__law_is_cover (hr.mono (by decide)) (by with_unfolding_all rfl) (pa_cons (pv 0) (pa_cons (pv 2) pa_nil))))) (pw_or1 (pt_not (pt_val (pe_fn c__law_is_bunch (hr.mono (by decide)) (by with_unfolding_all rfl) (pa_cons (pv 0) (pa_cons (pv 3) pa_nil)))))))) (pss_one (ps_ret pe_bl)) pss_nil)
      (pss_one (ps_ret (pe_and (pe_cmpR (op_eqK (K := K) hq) (pe_callB (call_lenK (K := K)) (by with_unfolding_all rfl) T.b_len PyProof.Rows.Boot.«len» (pa_cons (pv 2) pa_nil)) (pe_callB (call_lenK (K := K)) (by with_unfolding_all rfl) T.b_len PyProof.Rows.Boot.«len» (pa_cons (pv 3) pa_nil)) (nomark _)) (pe_one (pe_cmpR (op_eqK (K := K) hq) (pe_callB (call_reprK (K := K) hq) (by with_unfolding_all rfl) T.b_repr PyProof.Rows.Boot.«repr» (pa_cons (pv 0) pa_nil)) (pv 1) (nomark _)))))))))), ?_⟩
    walk_at "rd"
    refine i_repr hI hfine ?_
    walk_at "rd"
    refine ⟨v, ns, ps, rfl, hI, hW, h10, fun u1 rows H1 e1 hU1 hch hpm hlen => ?_⟩
    walk_at "rd"
    refine ⟨v, ns, ps, rfl, hI.hf_fz e1.fz, hW, h10, fun w2 W H2 e2 hW2 hWd => ?_⟩
    have e12 := e1.trans e2
    obtain ⟨hDk, hlf, hrl⟩ := cov13_dk hH hch hpm
    have hU2 : Is K H2 (lsD rows) u1 := Is.mono e2 _ _ hU1
    have hWl := hWd.sub.length_le
    walk_at "rd"
    refine ⟨v, u1, ns, ps, 20, 50000, 100, 60, some (rows.map nmD), rfl, hI.hf_fz e12.fz, hH, ⟨hU2, hDk, hlf⟩, by omega, by omega, by omega, fun b H3 e3 hb => ?_⟩
    have : b = true := hb.mpr ⟨rows, rfl, hch, hpm⟩
    subst this
    have e13 := e12.trans e3
    have hdw : Dk 20 50000 100 (nmD W) := (dk_tup (nms_els (p := 1) (W := 30) (fun z hz => hH.names.2 z (hWd.sub.subset hz)) (by omega))).le (by omega) (by omega)
    walk_at "rd"
    refine ⟨v, w2, ns, ps, 20, 50000, 100, 60, some (W.map PyData.str), rfl, hI.hf_fz e13.fz, hH, ⟨Is.mono e3 _ _ hW2, hdw, by rw [lf_strs]; omega⟩, by omega, by omega, fun b4 H4 e4 hb4 => ?_⟩
    have : b4 = true := hb4.mpr ⟨W, rfl, sub_filter hW.nd hWd.sub, hWd.un⟩
    subst this
    have e14 := e13.trans e4
    walk_at "rd"
    refine i_lenLs (Is.mono (e3.trans e4) _ _ hU2) ?_
    walk_at "rd"
    refine i_lenN (Is.mono (e3.trans e4) _ _ hW2) ?_
    rw [hlen W hWd]
    walk_at "rd"
    refine i_repr (hI.hf_fz e14.fz) hfine ?_
    walk_at "rd"
    have ed : decide (V.str (hfD ns ps).shown = V.str (hfD ns ps).shown) = true := decide_eq_true rfl
    rw [ed]
    exact k H4 e14
noncomputable def spLaw (K : PySem.W.Frag) : Sp := fun vs H Q _ => ∃ (a : Addr) (ns : List Int), vs = [.ref a] ∧ SqL K H a (ns.map V.int) ∧ ns.length ≤ 63 ∧ ∀ H', Q (.bl true) H'
theorem ok_law {f : Addr} {fd : FuncData} (F : Fun K "law" "law" s_law f fd) (T : TopF mg) (c_widest : Fnd P w K mg base 14 "widest" ["half"] (sp_widest K)) (c_cover : Fnd P w K mg base 13 "cover" ["half"] (sp_cover K)) (c__law_feed : Fnd P w K mg base 1 "_law_feed" ["_law_script"] (sp__law_feed K)) (c__law_names : Fnd P w K mg base 2 "_law_names" ["_law_feed_here", "_law_many"] (sp__law_names K)) (c__law_shuffled : Fnd P w K mg base 2 "_law_shuffled" ["_law_feed_here", "_law_some"] (sp__law_shuffled K)) (c__law_half : Fnd P w K mg base 4 "_law_half" ["_law_feed_here", "_law_most"] (sp__law_half K)) (c__law_big : Fnd P w K mg base 13 "_law_big" ["_law_feed_here", "_law_names_here"] (sp__law_big K)) (c__law_right : Fnd P w K mg base 15 "_law_right" ["_law_half_here"] (sp__law_right K)) : FnOk P w K mg base CX0 16 f fd ["_law_script"] (spLaw K) := by
  refine F.ok sc_law (fun vs H Q E h => ?_) (fun cdv A outer s H vs Q E hr h => ?_)
  · obtain ⟨a, ns, rfl, _⟩ := h
    rfl
  · obtain ⟨a, ns0, rfl, hS, h63, k⟩ := h
    have hu := hu_of hr
    have hq := qa_of hr
    with_reducible refine ⟨_, (pss_cons (ps_set (i := 1) sc_law.nd (by with_unfolding_all rfl) (by with_unfolding_all exact Or.inl rfl) (pe_fn c__law_feed (hr.mono (by decide)) (by with_unfolding_all rfl) (pa_cons (pv 0) pa_nil)))
      (pss_cons (ps_for PassesOwn.never (by with_unfolding_all rfl) (pi_range1 (by with_unfolding_all rfl) T.b_range (pa_cons pe_int pa_nil)) (pg_name (i := 2) sc_law.nd (by with_unfolding_all rfl) (by with_unfolding_all exact Or.inl rfl))
      (pss_cons (ps_set (i := 3) sc_law.nd (by with_unfolding_all rfl) (by with_unfolding_all exact Or.inl rfl) (pe_fn c__law_names (hr.mono (by decide)) (by with_unfolding_all rfl) (pa_cons (pv 1) (pa_cons pe_int pa_nil))))
      (pss_cons (ps_set (i := 4) sc_law.nd (by with_unfolding_all rfl) (by with_unfolding_all exact Or.inl rfl) (pe_tup (pa_cons (pe_callTy (call_tupleK (K := K)) (by with_unfolding_all rfl) T.b_tuple PyProof.Rows.Boot.«tuple» (pa_cons (pe_fn c__law_shuffled (hr.mono (by decide)) (by with_unfolding_all rfl) (pa_cons (pv 1) (pa_cons (pv 3) pa_nil))) pa_nil)) (pa_cons (pe_callTy (call_tupleK (K := K)) (by with_unfolding_all rfl) T.b_tuple PyProof.Rows.Boot.«tuple» (pa_cons (pe_ix (ix_anyK (K := K) hu) (pe_fn c__law_big (hr.mono (by decide)) (by with_unfolding_all rfl) (pa_cons (pv 1) (pa_cons (pv 3) pa_nil))) pe_int (by with_unfolding_all exact fun _ _ => rfl)) pa_nil)) pa_nil))))
      (pss_one (ps_for PassesOwn.never (by with_unfolding_all rfl) (pi_anyK (K := K) hu (pe_lst (pa_cons (pe_fn c__law_half (hr.mono (by decide)) (by with_unfolding_all rfl) (pa_cons (pv 1) (pa_cons pe_int pa_nil))) (pa_cons (pv 4) (pa_cons (pe_fn c__law_half (hr.mono (by decide)) (by with_unfolding_all rfl) (pa_cons (pv 1) (pa_cons pe_int pa_nil))) pa_nil))))) (pg_name (i := 5) sc_law.nd (by with_unfolding_all rfl) (by with_unfolding_all exact Or.inl rfl))
      (pss_one (ps_if (pt_not (pt_val (pe_fn c__law_right (hr.mono (by decide)) (by with_unfolding_all rfl) (pa_cons (pv 5) pa_nil)))) (pss_one (ps_ret pe_bl)) pss_nil)))))))
      (pss_one (ps_ret (pe_and (pe_cmpR (op_eqK (K := K) hq) (pe_fn c_cover (hr.mono (by decide)) (by with_unfolding_all rfl) (pa_cons (pe_tup (pa_cons (pe_tup pa_nil) (pa_cons (pe_tup pa_nil) pa_nil))) pa_nil)) (pe_tup pa_nil) (nomark _)) (pe_one (pe_cmpR (op_eqK (K := K) hq) (pe_fn c_widest (hr.mono (by decide)) (by with_unfolding_all rfl) (pa_cons (pe_tup (pa_cons (pe_tup pa_nil) (pa_cons (pe_tup pa_nil) pa_nil))) pa_nil)) (pe_tup pa_nil) (nomark _)))))))), ?_⟩
    walk_at "rd"
    refine ⟨a, ns0, rfl, hS, h63, fun d l H1 hd hl e1 hF => ?_⟩
    walk_at "rd"
    refine i_rngv (by omega) ?_
    refine for_by walk_range (fun i σ H2 => ∃ x2 x3 x4 x5, σ = [some (.ref a), some (.ref d), x2, x3, x4, x5] ∧ Feed H2 d l) ⟨_, _, _, _, rfl, hF⟩ (fun _ _ _ _ => trivial) (fun i x σ H2 hx hi hP => ?_) (fun σ H2 hP => ?_)
    · obtain ⟨x2, x3, x4, x5, rfl, hF2⟩ := hP
      walk_at "rd"
      refine ⟨d, l, 10, rfl, hF2, by omega, by omega, fun p3 n3 H3 hp3 e3 hF3 h3 hN3 hl3 => ?_⟩
      have hl3' : n3.length = 10 := hl3
      have hp3d : p3 ≠ d := hF3.lst h3
      walk_at "rd"
      refine ⟨d, l, p3, _, rfl, hF3, .inl (SqL.of h3), by rw [List.length_map]; omega, fun p4 ys4 H4 hp4 e4 hF4 h4 hperm => ?_⟩
      obtain ⟨m4, rfl, hpm⟩ := perm_strs hperm
      walk_at "rd"
      refine i_tupleL (SqL.of h4) fun t5 H5 ht5 e5 h5 => ?_
      have h5l := e5 _ _ (e4 _ _ hp3d h3)
      have hF5 := hF4.same e5
      walk_at "rd"
      refine ⟨d, l, p3, n3, rfl, hF5, h5l, hN3.1, by omega, by omega, fun t6 p6 xs6 P H6 hp6 e6 hF6 h6t h6 hL6 hU6 hz6 => ?_⟩
      have hP60 : P.length ≤ 60 := by
        rw [hl3'] at hz6
        omega
      have hI5 : Is K H6 (nmD m4) (.ref t5) := is_nm ((hF5.fz e6).seq (SqT.of h5))
      walk_at "rd"
      refine i_ixQ (SqT.of h6t) (show atI _ 0 = some (.ref p6) from atI_nat (j := 0) rfl) ?_
      walk_at "rd"
      refine i_tupPs h6 hL6 fun v7 H7 e7 hv7 => ?_
      walk_at "rd"
      refine i_newT (line_of (by simp)) fun t8 H8 ht8 e8 h8 => ?_
      have hI8 : Is K H8 (hfD m4 P) (.ref t8) := is_hf (SqT.of h8) (hI5.nm_fz (e7.trans e8).fz) (Is.mono e8 _ _ hv7)
      have hH8 : Half m4 P := ⟨⟨hpm.nodup_iff.mpr hN3.1, fun z hz => hN3.2 z (hpm.mem_iff.mp hz)⟩, by rw [hpm.length_eq]; omega, hP60, n3, hpm.symm, hU6⟩
      have hF8 := (hF6.same e7).same e8
      walk_at "rd"
      refine ⟨d, l, 10, rfl, hF8, by omega, by omega, fun v9 n9 s9 H9 e9 hF9 hI9 hH9 hl9 => ?_⟩
      walk_at "rd"
      refine ⟨d, l, 10, rfl, hF9, by omega, by omega, fun v10 n10 s10 H10 e10 hF10 hI10 hH10 hl10 => ?_⟩
      walk_at "rd"
      refine i_newL (line_of (by simp)) fun p11 H11 hp11 e11 h11 => ?_
      have g9 : Is K H11 (hfD n9 s9) v9 := (hI9.hf_fz (hF9.fz e10)).hf_fz e11.fz
      have g8 : Is K H11 (hfD m4 P) (.ref t8) := ((hI8.hf_fz (hF8.fz e9)).hf_fz (hF9.fz e10)).hf_fz e11.fz
      have g10 : Is K H11 (hfD n10 s10) v10 := hI10.hf_fz e11.fz
      have hF11 := hF10.same e11
      walk_at "rd"
      refine i_itL (SqL.of h11) ?_
      refine for_by (walk_list (xs := [v9, .ref t8, v10])) (fun j σ H12 => ∃ y5, σ = [some (.ref a), some (.ref d), some x, some (.ref p3), some (.ref t8), y5] ∧ Same H11 H12) ⟨_, rfl, .refl _⟩ (fun j σ' H' hP => ?_) (fun j y σ' H12 hy hj hP => ?_) (fun σ' H12 hP => ?_)
      · obtain ⟨_, _, e⟩ := hP
        exact SqL.of (e _ _ h11)
      · obtain ⟨y5, rfl, e12⟩ := hP
        obtain ⟨nn, pp, hIy, hHy⟩ : ∃ nn pp, Is K H11 (hfD nn pp) y ∧ Half nn pp := by
          match j, hy with
          | 0, hy => cases hy; exact ⟨_, _, g9, hH9⟩
          | 1, hy => cases hy; exact ⟨_, _, g8, hH8⟩
          | 2, hy => cases hy; exact ⟨_, _, g10, hH10⟩
          | n + 3, hy => simp at hy
        walk_at "rd"
        refine ⟨y, nn, pp, rfl, hIy.hf_fz e12.fz, hHy, fun H13 e13 => ?_⟩
        walk_at "rd"
        exact ⟨_, rfl, e12.trans e13⟩
      · obtain ⟨y5, rfl, e12⟩ := hP
        walk_at "rd"
        exact ⟨_, _, _, _, rfl, hF11.same e12⟩
    · obtain ⟨x2, x3, x4, x5, rfl, hF2⟩ := hP
      walk_at "rd"
      refine i_newT (line_of (by simp)) fun t3 H3 ht3 e3 h3 => ?_
      walk_at "rd"
      refine i_newT (line_of (by simp)) fun t4 H4 ht4 e4 h4 => ?_
      walk_at "rd"
      refine i_newT (line_of (by simp)) fun t5 H5 ht5 e5 h5 => ?_
      walk_at "rd"
      refine ⟨.ref t5, [], [], rfl, is_hf (SqT.of h5) (is_nm (SqT.of (e5 _ _ (e4 _ _ h3)))) (Is.of_tup (SqT.of (e5 _ _ h4)) .nil), half_nil.w, by decide, fun u6 rows H6 e6 hU6 hch hpm hlen => ?_⟩
      have hr0 : rows = [] := by
        cases rows with
        | nil => rfl
        | cons r rs =>
          have h1 := hpm.eq_nil
          rw [List.flatten_cons, List.append_eq_nil_iff] at h1
          exact absurd h1.1 (hch r (.head _)).1
      subst hr0
      walk_at "rd"
      refine i_newT (line_of (by simp)) fun t7 H7 ht7 e7 h7 => ?_
      refine i_eqD (Is.mono e7 _ _ hU6) (Is.of_tup (ds := []) (SqT.of h7) .nil) (by rfl) (by rfl) ?_
      rw [eqv_ls_nil, show ([] : List (List Str)).isEmpty = true from rfl]
      walk_at "rd"
      refine i_newT (line_of (by simp)) fun t8 H8 ht8 e8 h8 => ?_
      walk_at "rd"
      refine i_newT (line_of (by simp)) fun t9 H9 ht9 e9 h9 => ?_
      walk_at "rd"
      refine i_newT (line_of (by simp)) fun t10 H10 ht10 e10 h10 => ?_
      walk_at "rd"
      refine ⟨.ref t10, [], [], rfl, is_hf (SqT.of h10) (is_nm (SqT.of (e10 _ _ (e9 _ _ h8)))) (Is.of_tup (SqT.of (e10 _ _ h9)) .nil), half_nil.w, by decide, fun w11 W H11 e11 hW11 hWd => ?_⟩
      have hW0 : W = [] := List.sublist_nil.mp hWd.sub
      subst hW0
      walk_at "rd"
      refine i_newT (line_of (by simp)) fun t12 H12 ht12 e12 h12 => ?_
      refine i_eqD (Is.mono e12 _ _ hW11) (Is.of_tup (ds := []) (SqT.of h12) .nil) (by rfl) (by rfl) ?_
      rw [eqv_nm_nil]
      exact k H12
end
theorem all_mk {l : PySem.W.OpenLaw} {w : World} {K : PySem.W.Frag} {h : Heap} {mg : Str → Option Value} {fa f0 f1 f2 f3 f4 f5 f6 f7 f8 f9 f10 f11 f12 f13 f14 f15 f16 f17 f18 f19 f20 f21 f22 f23 : Addr} (X : K.In h) (G : h.Ns mainGlobals mg) (hfa : mg "law" = some (.ref fa))
    {od0 an0 od1 an1 od2 an2 od3 an3 od4 an4 od5 an5 od6 an6 od7 an7 od8 an8 od9 an9 od10 an10 od11 an11 od12 an12 od13 an13 od14 an14 od15 an15 od16 an16 od17 an17 od18 an18 od19 an19 od20 an20 od21 an21 od22 an22 od23 an23 : Option Addr} {sl0 sl1 sl2 sl3 sl4 sl5 sl6 sl7 sl8 sl9 sl10 sl11 sl12 sl13 sl14 sl15 sl16 sl17 sl18 sl19 sl20 sl21 sl22 sl23 : Array (Option Value)} {oc0 kV0 dc0 pm0 cd0 ct0 oc1 kV1 dc1 pm1 cd1 ct1 oc2 kV2 dc2 pm2 cd2 ct2 oc3 kV3 dc3 pm3 cd3 ct3 oc4 kV4 dc4 pm4 cd4 ct4 oc5 kV5 dc5 pm5 cd5 ct5 oc6 kV6 dc6 pm6 cd6 ct6 oc7 kV7 dc7 pm7 cd7 ct7 oc8 kV8 dc8 pm8 cd8 ct8 oc9 kV9 dc9 pm9 cd9 ct9 oc10 kV10 dc10 pm10 cd10 ct10 oc11 kV11 dc11 pm11 cd11 ct11 oc12 kV12 dc12 pm12 cd12 ct12 oc13 kV13 dc13 pm13 cd13 ct13 oc14 kV14 dc14 pm14 cd14 ct14 oc15 kV15 dc15 pm15 cd15 ct15 oc16 kV16 dc16 pm16 cd16 ct16 oc17 kV17 dc17 pm17 cd17 ct17 oc18 kV18 dc18 pm18 cd18 ct18 oc19 kV19 dc19 pm19 cd19 ct19 oc20 kV20 dc20 pm20 cd20 ct20 oc21 kV21 dc21 pm21 cd21 ct21 oc22 kV22 dc22 pm22 cd22 ct22 oc23 kV23 dc23 pm23 cd23 ct23 : Value}
    (a0 : PySem.W.nsIn K mainGlobals "behind_each" = some (some (.ref f0))) (l0 : K.lookup f0 = some ⟨oc0, od0, .func (PySem.W.fnOf "behind_each" "behind_each" (defArgs s_behind_each) (defBody s_behind_each) (defScope s_behind_each) .none kV0 dc0 pm0 an0 cd0 ct0), sl0⟩) (c0 : PySem.W.codeIn K cd0 "behind_each" = true) (k0 : PySem.W.keepIn K (.ref f0) = true)
    (a1 : PySem.W.nsIn K mainGlobals "are_untold" = some (some (.ref f1))) (l1 : K.lookup f1 = some ⟨oc1, od1, .func (PySem.W.fnOf "are_untold" "are_untold" (defArgs s_are_untold) (defBody s_are_untold) (defScope s_are_untold) .none kV1 dc1 pm1 an1 cd1 ct1), sl1⟩) (c1 : PySem.W.codeIn K cd1 "are_untold" = true) (k1 : PySem.W.keepIn K (.ref f1) = true)
    (a2 : PySem.W.nsIn K mainGlobals "widest_of" = some (some (.ref f2))) (l2 : K.lookup f2 = some ⟨oc2, od2, .func (PySem.W.fnOf "widest_of" "widest_of" (defArgs s_widest_of) (defBody s_widest_of) (defScope s_widest_of) .none kV2 dc2 pm2 an2 cd2 ct2), sl2⟩) (c2 : PySem.W.codeIn K cd2 "widest_of" = true) (k2 : PySem.W.keepIn K (.ref f2) = true)
    (a3 : PySem.W.nsIn K mainGlobals "widest" = some (some (.ref f3))) (l3 : K.lookup f3 = some ⟨oc3, od3, .func (PySem.W.fnOf "widest" "widest" (defArgs s_widest) (defBody s_widest) (defScope s_widest) .none kV3 dc3 pm3 an3 cd3 ct3), sl3⟩) (c3 : PySem.W.codeIn K cd3 "widest" = true) (k3 : PySem.W.keepIn K (.ref f3) = true)
    (a4 : PySem.W.nsIn K mainGlobals "finds_follower" = some (some (.ref f4))) (l4 : K.lookup f4 = some ⟨oc4, od4, .func (PySem.W.fnOf "finds_follower" "finds_follower" (defArgs s_finds_follower) (defBody s_finds_follower) (defScope s_finds_follower) .none kV4 dc4 pm4 an4 cd4 ct4), sl4⟩) (c4 : PySem.W.codeIn K cd4 "finds_follower" = true) (k4 : PySem.W.keepIn K (.ref f4) = true)
    (a5 : PySem.W.nsIn K mainGlobals "chain_from" = some (some (.ref f5))) (l5 : K.lookup f5 = some ⟨oc5, od5, .func (PySem.W.fnOf "chain_from" "chain_from" (defArgs s_chain_from) (defBody s_chain_from) (defScope s_chain_from) .none kV5 dc5 pm5 an5 cd5 ct5), sl5⟩) (c5 : PySem.W.codeIn K cd5 "chain_from" = true) (k5 : PySem.W.keepIn K (.ref f5) = true)
    (a6 : PySem.W.nsIn K mainGlobals "cover" = some (some (.ref f6))) (l6 : K.lookup f6 = some ⟨oc6, od6, .func (PySem.W.fnOf "cover" "cover" (defArgs s_cover) (defBody s_cover) (defScope s_cover) .none kV6 dc6 pm6 an6 cd6 ct6), sl6⟩) (c6 : PySem.W.codeIn K cd6 "cover" = true) (k6 : PySem.W.keepIn K (.ref f6) = true)
    (a7 : PySem.W.nsIn K mainGlobals "_law_feed" = some (some (.ref f7))) (l7 : K.lookup f7 = some ⟨oc7, od7, .func (PySem.W.fnOf "_law_feed" "_law_feed" (defArgs s__law_feed) (defBody s__law_feed) (defScope s__law_feed) .none kV7 dc7 pm7 an7 cd7 ct7), sl7⟩) (c7 : PySem.W.codeIn K cd7 "_law_feed" = true) (k7 : PySem.W.keepIn K (.ref f7) = true)
    (a8 : PySem.W.nsIn K mainGlobals "_law_draw" = some (some (.ref f8))) (l8 : K.lookup f8 = some ⟨oc8, od8, .func (PySem.W.fnOf "_law_draw" "_law_draw" (defArgs s__law_draw) (defBody s__law_draw) (defScope s__law_draw) .none kV8 dc8 pm8 an8 cd8 ct8), sl8⟩) (c8 : PySem.W.codeIn K cd8 "_law_draw" = true) (k8 : PySem.W.keepIn K (.ref f8) = true)
    (a9 : PySem.W.nsIn K mainGlobals "_law_names" = some (some (.ref f9))) (l9 : K.lookup f9 = some ⟨oc9, od9, .func (PySem.W.fnOf "_law_names" "_law_names" (defArgs s__law_names) (defBody s__law_names) (defScope s__law_names) .none kV9 dc9 pm9 an9 cd9 ct9), sl9⟩) (c9 : PySem.W.codeIn K cd9 "_law_names" = true) (k9 : PySem.W.keepIn K (.ref f9) = true)
    (a10 : PySem.W.nsIn K mainGlobals "_law_shuffled" = some (some (.ref f10))) (l10 : K.lookup f10 = some ⟨oc10, od10, .func (PySem.W.fnOf "_law_shuffled" "_law_shuffled" (defArgs s__law_shuffled) (defBody s__law_shuffled) (defScope s__law_shuffled) .none kV10 dc10 pm10 an10 cd10 ct10), sl10⟩) (c10 : PySem.W.codeIn K cd10 "_law_shuffled" = true) (k10 : PySem.W.keepIn K (.ref f10) = true)
    (a11 : PySem.W.nsIn K mainGlobals "_law_pairs" = some (some (.ref f11))) (l11 : K.lookup f11 = some ⟨oc11, od11, .func (PySem.W.fnOf "_law_pairs" "_law_pairs" (defArgs s__law_pairs) (defBody s__law_pairs) (defScope s__law_pairs) .none kV11 dc11 pm11 an11 cd11 ct11), sl11⟩) (c11 : PySem.W.codeIn K cd11 "_law_pairs" = true) (k11 : PySem.W.keepIn K (.ref f11) = true)
    (a12 : PySem.W.nsIn K mainGlobals "_law_sayings" = some (some (.ref f12))) (l12 : K.lookup f12 = some ⟨oc12, od12, .func (PySem.W.fnOf "_law_sayings" "_law_sayings" (defArgs s__law_sayings) (defBody s__law_sayings) (defScope s__law_sayings) .none kV12 dc12 pm12 an12 cd12 ct12), sl12⟩) (c12 : PySem.W.codeIn K cd12 "_law_sayings" = true) (k12 : PySem.W.keepIn K (.ref f12) = true)
    (a13 : PySem.W.nsIn K mainGlobals "_law_half" = some (some (.ref f13))) (l13 : K.lookup f13 = some ⟨oc13, od13, .func (PySem.W.fnOf "_law_half" "_law_half" (defArgs s__law_half) (defBody s__law_half) (defScope s__law_half) .none kV13 dc13 pm13 an13 cd13 ct13), sl13⟩) (c13 : PySem.W.codeIn K cd13 "_law_half" = true) (k13 : PySem.W.keepIn K (.ref f13) = true)
    (a14 : PySem.W.nsIn K mainGlobals "_law_behind" = some (some (.ref f14))) (l14 : K.lookup f14 = some ⟨oc14, od14, .func (PySem.W.fnOf "_law_behind" "_law_behind" (defArgs s__law_behind) (defBody s__law_behind) (defScope s__law_behind) .none kV14 dc14 pm14 an14 cd14 ct14), sl14⟩) (c14 : PySem.W.codeIn K cd14 "_law_behind" = true) (k14 : PySem.W.keepIn K (.ref f14) = true)
    (a15 : PySem.W.nsIn K mainGlobals "_law_table" = some (some (.ref f15))) (l15 : K.lookup f15 = some ⟨oc15, od15, .func (PySem.W.fnOf "_law_table" "_law_table" (defArgs s__law_table) (defBody s__law_table) (defScope s__law_table) .none kV15 dc15 pm15 an15 cd15 ct15), sl15⟩) (c15 : PySem.W.codeIn K cd15 "_law_table" = true) (k15 : PySem.W.keepIn K (.ref f15) = true)
    (a16 : PySem.W.nsIn K mainGlobals "_law_closed" = some (some (.ref f16))) (l16 : K.lookup f16 = some ⟨oc16, od16, .func (PySem.W.fnOf "_law_closed" "_law_closed" (defArgs s__law_closed) (defBody s__law_closed) (defScope s__law_closed) .none kV16 dc16 pm16 an16 cd16 ct16), sl16⟩) (c16 : PySem.W.codeIn K cd16 "_law_closed" = true) (k16 : PySem.W.keepIn K (.ref f16) = true)
    (a17 : PySem.W.nsIn K mainGlobals "_law_is_chain" = some (some (.ref f17))) (l17 : K.lookup f17 = some ⟨oc17, od17, .func (PySem.W.fnOf "_law_is_chain" "_law_is_chain" (defArgs s__law_is_chain) (defBody s__law_is_chain) (defScope s__law_is_chain) .none kV17 dc17 pm17 an17 cd17 ct17), sl17⟩) (c17 : PySem.W.codeIn K cd17 "_law_is_chain" = true) (k17 : PySem.W.keepIn K (.ref f17) = true)
    (a18 : PySem.W.nsIn K mainGlobals "_law_is_bunch" = some (some (.ref f18))) (l18 : K.lookup f18 = some ⟨oc18, od18, .func (PySem.W.fnOf "_law_is_bunch" "_law_is_bunch" (defArgs s__law_is_bunch) (defBody s__law_is_bunch) (defScope s__law_is_bunch) .none kV18 dc18 pm18 an18 cd18 ct18), sl18⟩) (c18 : PySem.W.codeIn K cd18 "_law_is_bunch" = true) (k18 : PySem.W.keepIn K (.ref f18) = true)
    (a19 : PySem.W.nsIn K mainGlobals "_law_is_cover" = some (some (.ref f19))) (l19 : K.lookup f19 = some ⟨oc19, od19, .func (PySem.W.fnOf "_law_is_cover" "_law_is_cover" (defArgs s__law_is_cover) (defBody s__law_is_cover) (defScope s__law_is_cover) .none kV19 dc19 pm19 an19 cd19 ct19), sl19⟩) (c19 : PySem.W.codeIn K cd19 "_law_is_cover" = true) (k19 : PySem.W.keepIn K (.ref f19) = true)
    (a20 : PySem.W.nsIn K mainGlobals "_law_shuffles" = some (some (.ref f20))) (l20 : K.lookup f20 = some ⟨oc20, od20, .func (PySem.W.fnOf "_law_shuffles" "_law_shuffles" (defArgs s__law_shuffles) (defBody s__law_shuffles) (defScope s__law_shuffles) .none kV20 dc20 pm20 an20 cd20 ct20), sl20⟩) (c20 : PySem.W.codeIn K cd20 "_law_shuffles" = true) (k20 : PySem.W.keepIn K (.ref f20) = true)
    (a21 : PySem.W.nsIn K mainGlobals "_law_big" = some (some (.ref f21))) (l21 : K.lookup f21 = some ⟨oc21, od21, .func (PySem.W.fnOf "_law_big" "_law_big" (defArgs s__law_big) (defBody s__law_big) (defScope s__law_big) .none kV21 dc21 pm21 an21 cd21 ct21), sl21⟩) (c21 : PySem.W.codeIn K cd21 "_law_big" = true) (k21 : PySem.W.keepIn K (.ref f21) = true)
    (a22 : PySem.W.nsIn K mainGlobals "_law_right" = some (some (.ref f22))) (l22 : K.lookup f22 = some ⟨oc22, od22, .func (PySem.W.fnOf "_law_right" "_law_right" (defArgs s__law_right) (defBody s__law_right) (defScope s__law_right) .none kV22 dc22 pm22 an22 cd22 ct22), sl22⟩) (c22 : PySem.W.codeIn K cd22 "_law_right" = true) (k22 : PySem.W.keepIn K (.ref f22) = true)
    (a23 : PySem.W.nsIn K mainGlobals "law" = some (some (.ref f23))) (l23 : K.lookup f23 = some ⟨oc23, od23, .func (PySem.W.fnOf "law" "law" (defArgs s_law) (defBody s_law) (defScope s_law) .none kV23 dc23 pm23 an23 cd23 ct23), sl23⟩) (c23 : PySem.W.codeIn K cd23 "law" = true) (k23 : PySem.W.keepIn K (.ref f23) = true)
    (z0 : PySem.W.nsIn K mainGlobals "dict" = some none)
    (z1 : PySem.W.nsIn K mainGlobals "int" = some none)
    (z2 : PySem.W.nsIn K mainGlobals "isinstance" = some none)
    (z3 : PySem.W.nsIn K mainGlobals "len" = some none)
    (z4 : PySem.W.nsIn K mainGlobals "list" = some none)
    (z5 : PySem.W.nsIn K mainGlobals "max" = some none)
    (z6 : PySem.W.nsIn K mainGlobals "range" = some none)
    (z7 : PySem.W.nsIn K mainGlobals "repr" = some none)
    (z8 : PySem.W.nsIn K mainGlobals "sorted" = some none)
    (z9 : PySem.W.nsIn K mainGlobals "str" = some none)
    (z10 : PySem.W.nsIn K mainGlobals "tuple" = some none)
    : ∃ fd : FuncData, (∀ (s : Shared) (v : Value), BindsTo s fd ⟨[v], []⟩ [("_law_script", v)]) ∧ ∀ base : Heap, K.In base → base.Ns mainGlobals mg → FnOk l.prog w K mg base CX0 16 fa fd ["_law_script"] (spLaw K) := by
  have e := hfa.symm.trans (PySem.W.mg_of X G a23)
  cases e
  have T : TopF mg := ⟨PySem.W.mg_none_of X G z0, PySem.W.mg_none_of X G z1, PySem.W.mg_none_of X G z2, PySem.W.mg_none_of X G z3, PySem.W.mg_none_of X G z4, PySem.W.mg_none_of X G z5, PySem.W.mg_none_of X G z6, PySem.W.mg_none_of X G z7, PySem.W.mg_none_of X G z8, PySem.W.mg_none_of X G z9, PySem.W.mg_none_of X G z10⟩
  have F0 := fun_mk (st := s_behind_each) l0 c0 k0
  have b0 : Binds K _ ["half"] [] := binds1 F0 fun _ _ _ _ _ _ _ => rfl
  have F1 := fun_mk (st := s_are_untold) l1 c1 k1
  have b1 : Binds K _ ["reach", "one", "other"] [] := binds3 F1 fun _ _ _ _ _ _ _ _ _ => rfl
  have F2 := fun_mk (st := s_widest_of) l2 c2 k2
  have b2 : Binds K _ ["reach", "names"] [] := binds2 F2 fun _ _ _ _ _ _ _ _ => rfl
  have F3 := fun_mk (st := s_widest) l3 c3 k3
  have b3 : Binds K _ ["half"] [] := binds1 F3 fun _ _ _ _ _ _ _ => rfl
  have F4 := fun_mk (st := s_finds_follower) l4 c4 k4
  have b4 : Binds K _ ["reach", "one", "leaders", "tried"] [] := binds4 F4 fun _ _ _ _ _ _ _ _ _ _ => rfl
  have F5 := fun_mk (st := s_chain_from) l5 c5 k5
  have b5 : Binds K _ ["followers", "name"] [] := binds2 F5 fun _ _ _ _ _ _ _ _ => rfl
  have F6 := fun_mk (st := s_cover) l6 c6 k6
  have b6 : Binds K _ ["half"] [] := binds1 F6 fun _ _ _ _ _ _ _ => rfl
  have F7 := fun_mk (st := s__law_feed) l7 c7 k7
  have b7 : Binds K _ ["_law_script"] [] := binds1 F7 fun _ _ _ _ _ _ _ => rfl
  have F8 := fun_mk (st := s__law_draw) l8 c8 k8
  have b8 : Binds K _ ["_law_feed_here", "_law_many"] [] := binds2 F8 fun _ _ _ _ _ _ _ _ => rfl
  have F9 := fun_mk (st := s__law_names) l9 c9 k9
  have b9 : Binds K _ ["_law_feed_here", "_law_many"] [] := binds2 F9 fun _ _ _ _ _ _ _ _ => rfl
  have F10 := fun_mk (st := s__law_shuffled) l10 c10 k10
  have b10 : Binds K _ ["_law_feed_here", "_law_some"] [] := binds2 F10 fun _ _ _ _ _ _ _ _ => rfl
  have F11 := fun_mk (st := s__law_pairs) l11 c11 k11
  have b11 : Binds K _ ["_law_feed_here", "_law_line"] [] := binds2 F11 fun _ _ _ _ _ _ _ _ => rfl
  have F12 := fun_mk (st := s__law_sayings) l12 c12 k12
  have b12 : Binds K _ ["_law_feed_here", "_law_line"] [] := binds2 F12 fun _ _ _ _ _ _ _ _ => rfl
  have F13 := fun_mk (st := s__law_half) l13 c13 k13
  have b13 : Binds K _ ["_law_feed_here", "_law_most"] [] := binds2 F13 fun _ _ _ _ _ _ _ _ => rfl
  have F14 := fun_mk (st := s__law_behind) l14 c14 k14
  have b14 : Binds K _ ["_law_half_here", "_law_name"] [] := binds2 F14 fun _ _ _ _ _ _ _ _ => rfl
  have F15 := fun_mk (st := s__law_table) l15 c15 k15
  have b15 : Binds K _ ["_law_half_here"] [] := binds1 F15 fun _ _ _ _ _ _ _ => rfl
  have F16 := fun_mk (st := s__law_closed) l16 c16 k16
  have b16 : Binds K _ ["_law_half_here"] [] := binds1 F16 fun _ _ _ _ _ _ _ => rfl
  have F17 := fun_mk (st := s__law_is_chain) l17 c17 k17
  have b17 : Binds K _ ["_law_half_here", "_law_thing"] [] := binds2 F17 fun _ _ _ _ _ _ _ _ => rfl
  have F18 := fun_mk (st := s__law_is_bunch) l18 c18 k18
  have b18 : Binds K _ ["_law_half_here", "_law_thing"] [] := binds2 F18 fun _ _ _ _ _ _ _ _ => rfl
  have F19 := fun_mk (st := s__law_is_cover) l19 c19 k19
  have b19 : Binds K _ ["_law_half_here", "_law_thing"] [] := binds2 F19 fun _ _ _ _ _ _ _ _ => rfl
  have F20 := fun_mk (st := s__law_shuffles) l20 c20 k20
  have b20 : Binds K _ ["_law_many"] [] := binds1 F20 fun _ _ _ _ _ _ _ => rfl
  have F21 := fun_mk (st := s__law_big) l21 c21 k21
  have b21 : Binds K _ ["_law_feed_here", "_law_names_here"] [] := binds2 F21 fun _ _ _ _ _ _ _ _ => rfl
  have F22 := fun_mk (st := s__law_right) l22 c22 k22
  have b22 : Binds K _ ["_law_half_here"] [] := binds1 F22 fun _ _ _ _ _ _ _ => rfl
  have F23 := fun_mk (st := s_law) l23 c23 k23
  refine ⟨PySem.W.fnOf "law" "law" (defArgs s_law) (defBody s_law) (defScope s_law) .none kV23 dc23 pm23 an23 cd23 ct23, fun s v => .of_eq rfl, fun base _ _ => ?_⟩
  have c_behind_each : Fnd l.prog w K mg base 1 "behind_each" ["half"] (sp_behind_each K) := ⟨_, _, ok_behind_each F0 T, PySem.W.mg_of X G a0, k0, b0⟩
  have c_are_untold : Fnd l.prog w K mg base 1 "are_untold" ["reach", "one", "other"] (sp_are_untold K) := ⟨_, _, ok_are_untold F1 T, PySem.W.mg_of X G a1, k1, b1⟩
  have c_chain_from : Fnd l.prog w K mg base 1 "chain_from" ["followers", "name"] (sp_chain_from K) := ⟨_, _, ok_chain_from F5 T, PySem.W.mg_of X G a5, k5, b5⟩
  have c__law_feed : Fnd l.prog w K mg base 1 "_law_feed" ["_law_script"] (sp__law_feed K) := ⟨_, _, ok__law_feed F7 T, PySem.W.mg_of X G a7, k7, b7⟩
  have c__law_draw : Fnd l.prog w K mg base 1 "_law_draw" ["_law_feed_here", "_law_many"] (sp__law_draw K) := ⟨_, _, ok__law_draw F8 T, PySem.W.mg_of X G a8, k8, b8⟩
  have c__law_behind : Fnd l.prog w K mg base 1 "_law_behind" ["_law_half_here", "_law_name"] (sp__law_behind K) := ⟨_, _, ok__law_behind F14 T, PySem.W.mg_of X G a14, k14, b14⟩
  have c__law_shuffles : Fnd l.prog w K mg base 1 "_law_shuffles" ["_law_many"] (sp__law_shuffles K) := ⟨_, _, ok__law_shuffles F20 T, PySem.W.mg_of X G a20, k20, b20⟩
  have c__law_names : Fnd l.prog w K mg base 2 "_law_names" ["_law_feed_here", "_law_many"] (sp__law_names K) := ⟨_, _, ok__law_names F9 T c__law_draw, PySem.W.mg_of X G a9, k9, b9⟩
  have c__law_shuffled : Fnd l.prog w K mg base 2 "_law_shuffled" ["_law_feed_here", "_law_some"] (sp__law_shuffled K) := ⟨_, _, ok__law_shuffled F10 T c__law_draw, PySem.W.mg_of X G a10, k10, b10⟩
  have c__law_pairs : Fnd l.prog w K mg base 2 "_law_pairs" ["_law_feed_here", "_law_line"] (sp__law_pairs K) := ⟨_, _, ok__law_pairs F11 T c__law_draw, PySem.W.mg_of X G a11, k11, b11⟩
  have c__law_table : Fnd l.prog w K mg base 2 "_law_table" ["_law_half_here"] (sp__law_table K) := ⟨_, _, ok__law_table F15 T c__law_behind, PySem.W.mg_of X G a15, k15, b15⟩
  have c__law_is_chain : Fnd l.prog w K mg base 2 "_law_is_chain" ["_law_half_here", "_law_thing"] (sp__law_is_chain K) := ⟨_, _, ok__law_is_chain F17 T c__law_behind, PySem.W.mg_of X G a17, k17, b17⟩
  have c__law_sayings : Fnd l.prog w K mg base 3 "_law_sayings" ["_law_feed_here", "_law_line"] (sp__law_sayings K) := ⟨_, _, ok__law_sayings F12 T c__law_draw c__law_pairs, PySem.W.mg_of X G a12, k12, b12⟩
  have c__law_closed : Fnd l.prog w K mg base 3 "_law_closed" ["_law_half_here"] (sp__law_closed K) := ⟨_, _, ok__law_closed F16 T c__law_table, PySem.W.mg_of X G a16, k16, b16⟩
  have c__law_is_cover : Fnd l.prog w K mg base 3 "_law_is_cover" ["_law_half_here", "_law_thing"] (sp__law_is_cover K) := ⟨_, _, ok__law_is_cover F19 T c__law_is_chain, PySem.W.mg_of X G a19, k19, b19⟩
  have c__law_half : Fnd l.prog w K mg base 4 "_law_half" ["_law_feed_here", "_law_most"] (sp__law_half K) := ⟨_, _, ok__law_half F13 T c__law_draw c__law_names c__law_shuffled c__law_sayings, PySem.W.mg_of X G a13, k13, b13⟩
  have c__law_is_bunch : Fnd l.prog w K mg base 4 "_law_is_bunch" ["_law_half_here", "_law_thing"] (sp__law_is_bunch K) := ⟨_, _, ok__law_is_bunch F18 T c__law_closed, PySem.W.mg_of X G a18, k18, b18⟩
  have c_finds_follower : Fnd l.prog w K mg base 12 "finds_follower" ["reach", "one", "leaders", "tried"] (sp_finds_follower K) := ⟨_, _, ok_finds_follower F4 T (PySem.W.mg_of X G a4) k4 b4, PySem.W.mg_of X G a4, k4, b4⟩
  have c_widest_of : Fnd l.prog w K mg base 13 "widest_of" ["reach", "names"] (sp_widest_of K) := ⟨_, _, ok_widest_of F2 T c_are_untold (PySem.W.mg_of X G a2) k2 b2, PySem.W.mg_of X G a2, k2, b2⟩
  have c_cover : Fnd l.prog w K mg base 13 "cover" ["half"] (sp_cover K) := ⟨_, _, ok_cover F6 T c_behind_each c_finds_follower c_chain_from, PySem.W.mg_of X G a6, k6, b6⟩
  have c__law_big : Fnd l.prog w K mg base 13 "_law_big" ["_law_feed_here", "_law_names_here"] (sp__law_big K) := ⟨_, _, ok__law_big F21 T c__law_draw c__law_shuffles (PySem.W.mg_of X G a21) k21 b21, PySem.W.mg_of X G a21, k21, b21⟩
  have c_widest : Fnd l.prog w K mg base 14 "widest" ["half"] (sp_widest K) := ⟨_, _, ok_widest F3 T c_behind_each c_widest_of, PySem.W.mg_of X G a3, k3, b3⟩
  have c__law_right : Fnd l.prog w K mg base 15 "_law_right" ["_law_half_here"] (sp__law_right K) := ⟨_, _, ok__law_right F22 T c_widest c_cover c__law_is_bunch c__law_is_cover, PySem.W.mg_of X G a22, k22, b22⟩
  exact ok_law F23 T c_widest c_cover c__law_feed c__law_names c__law_shuffled c__law_half c__law_big c__law_right
theorem walk {l : PySem.W.OpenLaw} {q : Program} {loose : List Str} {XP : (Str → Option Value) → Heap → Prop} {YP : World → Heap → Prop} {d : DefRec} {K : Params → PySem.W.Frag} (hn : l.most = some 63) (hdf : d.params.defaults = [])
    (hY : ∀ (w : World) (h : Heap), YP w h → (K w.params).In h)
    (F : ∀ (w : World) (mg : Str → Option Value) (fa : Addr) (h : Heap), (K w.params).In h → h.Ns mainGlobals mg → mg d.name = some (.ref fa) →
      ∃ fd : FuncData, (∀ (s : Shared) (u : Value), BindsTo s fd ⟨[u], []⟩ [("_law_script", u)]) ∧ ∀ base : Heap, (K w.params).In base → base.Ns mainGlobals mg → FnOk l.prog w (K w.params) mg base CX0 16 fa fd ["_law_script"] (spLaw (K w.params))) :
    PySem.W.WalkO q loose XP YP l.row.toRowW d [] (fun f vs => PySem.call f vs) :=
  L2.walk_of (n := 63) (k := 16) (x := "_law_script") (CX := fun _ => CX0) (sp := fun w => spLaw (K w.params)) hn (by decide) hdf ⟨rfl, by decide, by decide, rfl⟩ hY F (fun _ _ a ns hl _ hS => ⟨a, ns, rfl, hS, hl, fun _ => rfl⟩) fun _ _ _ _ _ z => z
end K13
open PySem PySem.W PyProof.Rows
set_option maxRecDepth 100000 in
set_option maxHeartbeats 0 in
theorem PySem.Challenge.cw_halforder_k13_whole_cover_and_bunch_holds : PySem.Challenge.rw_halforder_k13_whole_cover_and_bunch.Holds := by
  w_on; o_law; k_head; (case hw => w_witness2)
  k_fill
  refine K13.walk (l := PySem.Challenge.rw_halforder_k13_whole_cover_and_bunch) rfl rfl (fun w h Y => PySem.W.kIn_of Y) ?F
  case F =>
    intro w mg fa h KX G hmg
    refine' K13.all_mk KX G hmg ?q_a0 ?q_l0 ?q_c0 ?q_k0 ?q_a1 ?q_l1 ?q_c1 ?q_k1 ?q_a2 ?q_l2 ?q_c2 ?q_k2 ?q_a3 ?q_l3 ?q_c3 ?q_k3 ?q_a4 ?q_l4 ?q_c4 ?q_k4 ?q_a5 ?q_l5 ?q_c5 ?q_k5 ?q_a6 ?q_l6 ?q_c6 ?q_k6 ?q_a7 ?q_l7 ?q_c7 ?q_k7 ?q_a8 ?q_l8 ?q_c8 ?q_k8 ?q_a9 ?q_l9 ?q_c9 ?q_k9 ?q_a10 ?q_l10 ?q_c10 ?q_k10 ?q_a11 ?q_l11 ?q_c11 ?q_k11 ?q_a12 ?q_l12 ?q_c12 ?q_k12 ?q_a13 ?q_l13 ?q_c13 ?q_k13 ?q_a14 ?q_l14 ?q_c14 ?q_k14 ?q_a15 ?q_l15 ?q_c15 ?q_k15 ?q_a16 ?q_l16 ?q_c16 ?q_k16 ?q_a17 ?q_l17 ?q_c17 ?q_k17 ?q_a18 ?q_l18 ?q_c18 ?q_k18 ?q_a19 ?q_l19 ?q_c19 ?q_k19 ?q_a20 ?q_l20 ?q_c20 ?q_k20 ?q_a21 ?q_l21 ?q_c21 ?q_k21 ?q_a22 ?q_l22 ?q_c22 ?q_k22 ?q_a23 ?q_l23 ?q_c23 ?q_k23 ?q_z0 ?q_z1 ?q_z2 ?q_z3 ?q_z4 ?q_z5 ?q_z6 ?q_z7 ?q_z8 ?q_z9 ?q_z10
    (case q_a0 => k_is)
    (case q_l0 => k_is)
    (case q_c0 => k_is)
    (case q_k0 => k_is)
    (case q_a1 => k_is)
    (case q_l1 => k_is)
    (case q_c1 => k_is)
    (case q_k1 => k_is)
    (case q_a2 => k_is)
    (case q_l2 => k_is)
    (case q_c2 => k_is)
    (case q_k2 => k_is)
    (case q_a3 => k_is)
    (case q_l3 => k_is)
    (case q_c3 => k_is)
    (case q_k3 => k_is)
    (case q_a4 => k_is)
    (case q_l4 => k_is)
    (case q_c4 => k_is)
    (case q_k4 => k_is)
    (case q_a5 => k_is)
    (case q_l5 => k_is)
    (case q_c5 => k_is)
    (case q_k5 => k_is)
    (case q_a6 => k_is)
    (case q_l6 => k_is)
    (case q_c6 => k_is)
    (case q_k6 => k_is)
    (case q_a7 => k_is)
    (case q_l7 => k_is)
    (case q_c7 => k_is)
    (case q_k7 => k_is)
    (case q_a8 => k_is)
    (case q_l8 => k_is)
    (case q_c8 => k_is)
    (case q_k8 => k_is)
    (case q_a9 => k_is)
    (case q_l9 => k_is)
    (case q_c9 => k_is)
    (case q_k9 => k_is)
    (case q_a10 => k_is)
    (case q_l10 => k_is)
    (case q_c10 => k_is)
    (case q_k10 => k_is)
    (case q_a11 => k_is)
    (case q_l11 => k_is)
    (case q_c11 => k_is)
    (case q_k11 => k_is)
    (case q_a12 => k_is)
    (case q_l12 => k_is)
    (case q_c12 => k_is)
    (case q_k12 => k_is)
    (case q_a13 => k_is)
    (case q_l13 => k_is)
    (case q_c13 => k_is)
    (case q_k13 => k_is)
    (case q_a14 => k_is)
    (case q_l14 => k_is)
    (case q_c14 => k_is)
    (case q_k14 => k_is)
    (case q_a15 => k_is)
    (case q_l15 => k_is)
    (case q_c15 => k_is)
    (case q_k15 => k_is)
    (case q_a16 => k_is)
    (case q_l16 => k_is)
    (case q_c16 => k_is)
    (case q_k16 => k_is)
    (case q_a17 => k_is)
    (case q_l17 => k_is)
    (case q_c17 => k_is)
    (case q_k17 => k_is)
    (case q_a18 => k_is)
    (case q_l18 => k_is)
    (case q_c18 => k_is)
    (case q_k18 => k_is)
    (case q_a19 => k_is)
    (case q_l19 => k_is)
    (case q_c19 => k_is)
    (case q_k19 => k_is)
    (case q_a20 => k_is)
    (case q_l20 => k_is)
    (case q_c20 => k_is)
    (case q_k20 => k_is)
    (case q_a21 => k_is)
    (case q_l21 => k_is)
    (case q_c21 => k_is)
    (case q_k21 => k_is)
    (case q_a22 => k_is)
    (case q_l22 => k_is)
    (case q_c22 => k_is)
    (case q_k22 => k_is)
    (case q_a23 => k_is)
    (case q_l23 => k_is)
    (case q_c23 => k_is)
    (case q_k23 => k_is)
    (case q_z0 => k_is)
    (case q_z1 => k_is)
    (case q_z2 => k_is)
    (case q_z3 => k_is)
    (case q_z4 => k_is)
    (case q_z5 => k_is)
    (case q_z6 => k_is)
    (case q_z7 => k_is)
    (case q_z8 => k_is)
    (case q_z9 => k_is)
    (case q_z10 => k_is)
