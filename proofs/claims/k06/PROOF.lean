import PyProof.Rows.All
import Wide.All
import OpenK.AllK
import Wide.FinOn
import PyProof.EqAt
import PyProof.EqKinds
import PyProof.TupleCall
import Lean
import PyProof.DictWalks
import PyProof.DictIter
import PyProof.P3In
import KE.KEqSeq
import PyProof.ReprLen
import PyProof.ReprRoads
import PyProof.StrOps2
import KE.KRevSl
import PyProof.IsRules
import PyProof.StrLawsIdx
import PyProof.Rows.RegRepr
import PyProof.Rows.RegFStrParts
import PyProof.DictUpdate
import PyProof.AttrMissHeap
import PyProof.Walks
import KE.KDictOf
import PyProof.EnumIter
import PyProof.EnumFor
import PyProof.LayNew
import PyProof.EnumMake
import PyProof.Draws
import PyProof.WalksT
import PyProof.TupleIter
import PyProof.WalksMore
import KE.KRevIter
import KE.KEqDict
import PyProof.Rows.SetFrom
import PyProof.StrLawsTight
import PyProof.StrLawsChain
import PyProof.SumWalk
import PyProof.Rows.SortStr
import PyProof.Rows.SortWalk
import PyProof.TupleOfSeq
import KE.KDictSum
import KE.KSortTup
import PyProof.ListRange
import PyProof.ZipIter
import PyProof.Rows.ZipGen
import KE.KItemsList
import PyProof.ExcArgsOwn
import PyProof.InstStoreFacts
import PyProof.ExcBaseAll.ValueError
import PyProof.StationsW
import PyProof.RulesAs
import PyProof.RulesDel
import PyProof.NeKinds
import PyProof.ListMulAny
import KE.KMinBuiltin
import PyProof.Rows.CallKwBuiltin
import PySem.Challenge.RW_halforder_k06_lines_that_write_none
set_option compiler.extract_closed false
set_option Elab.async false
set_option linter.all false
set_option maxRecDepth 100000
namespace L2
open PySem PySem.Spec PyProof.Rows
noncomputable abbrev Key := Sum Int Str
noncomputable def keyIs : Key → Value → Bool
  | .inl k, v => Value.isInt k v
  | .inr x, v => Value.isStrOf x v
noncomputable def keyH (w : World) : Key → Int
  | .inl k => hashInt k
  | .inr x => hashStr w x
theorem keyIs_shape : ∀ {k : Key} {v : Value}, keyIs k v = true → (∃ i t, k = Sum.inl i ∧ v = Value.int i t) ∨ (∃ x t, k = Sum.inr x ∧ v = Value.str x t)
  | .inl i, v, h => by
    obtain ⟨t, e⟩ := Value.isInt_shape (k := i) (v := v) h
    exact .inl ⟨i, t, rfl, e⟩
  | .inr x, v, h => by
    obtain ⟨t, e⟩ := Value.isStrOf_shape (x := x) (v := v) h
    exact .inr ⟨x, t, rfl, e⟩
theorem keyIs_int (i : Int) (t : Tok) : keyIs (.inl i) (.int i t) = true := by simp [keyIs, Value.isInt]
theorem keyIs_str (x : Str) (t : Tok) : keyIs (.inr x) (.str x t) = true := by simp [keyIs, Value.isStrOf]
theorem key_ll (a b : Int) : decide ((Sum.inl a : Key) = Sum.inl b) = (a == b) := by
  by_cases e : a = b
  · subst e; simp
  · have h : ¬ (Sum.inl a : Key) = Sum.inl b := fun q => e (Sum.inl.inj q)
    rw [decide_eq_false h]
    exact (beq_eq_false_iff_ne.mpr e).symm
theorem key_rr (a b : Str) : decide ((Sum.inr a : Key) = Sum.inr b) = decide (a = b) := by
  by_cases e : a = b
  · subst e; simp
  · have h : ¬ (Sum.inr a : Key) = Sum.inr b := fun q => e (Sum.inr.inj q)
    rw [decide_eq_false h, decide_eq_false e]
theorem key_lr (a : Int) (b : Str) : decide ((Sum.inl a : Key) = Sum.inr b) = false := decide_eq_false (fun q => nomatch q)
theorem key_rl (a : Str) (b : Int) : decide ((Sum.inr a : Key) = Sum.inl b) = false := decide_eq_false (fun q => nomatch q)
noncomputable def mixKind (prog : Program) (w : World) : PySem.KeyKind prog w Key where
  is := keyIs
  hash := keyH w
  inj := fun v a b ha hb => by
    rcases keyIs_shape ha with ⟨i, t, rfl, rfl⟩ | ⟨x, t, rfl, rfl⟩
    · rcases keyIs_shape hb with ⟨j, u, rfl, e⟩ | ⟨y, u, rfl, e⟩
      · injection e with e1 _; rw [e1]
      · exact nomatch e
    · rcases keyIs_shape hb with ⟨j, u, rfl, e⟩ | ⟨y, u, rfl, e⟩
      · exact nomatch e
      · injection e with e1 _; rw [e1]
  byValue := fun k v h => by
    rcases keyIs_shape h with ⟨i, t, rfl, rfl⟩ | ⟨x, t, rfl, rfl⟩ <;> rfl
  pyHash := fun hv h => by
    rcases keyIs_shape hv with ⟨i, t, rfl, rfl⟩ | ⟨x, t, rfl, rfl⟩
    · exact wpAny_pyHash_int h
    · exact wpAny_pyHash_str h
  eqBool := fun hu hv h => by
    rcases keyIs_shape hu with ⟨i, t, rfl, rfl⟩ | ⟨x, t, rfl, rfl⟩
    · rcases keyIs_shape hv with ⟨j, u, rfl, rfl⟩ | ⟨y, u, rfl, rfl⟩
      · rw [key_ll] at h; exact wpAny_eqBool_int h
      · rw [key_lr] at h; exact SeqAt.EqAt.int_str i t y u _ _ _ _ h
    · rcases keyIs_shape hv with ⟨j, u, rfl, rfl⟩ | ⟨y, u, rfl, rfl⟩
      · rw [key_rl] at h; exact SeqAt.EqAt.str_int x t j u _ _ _ _ h
      · rw [key_rr] at h; exact wpAny_eqBool_str h
  «strs» := fun k x t v h => by
    rcases keyIs_shape h with ⟨i, u, rfl, e⟩ | ⟨y, u, rfl, e⟩
    · exact nomatch e
    · injection e with e1 _
      subst e1
      cases v <;> rfl
theorem mixKind_int (prog : Program) (w : World) (i : Int) (t : Tok) : (mixKind prog w).is (.inl i) (.int i t) = true := keyIs_int i t
theorem mixKind_str (prog : Program) (w : World) (x : Str) (t : Tok) : (mixKind prog w).is (.inr x) (.str x t) = true := keyIs_str x t
end L2
namespace L2
open PySem PySem.Spec PyProof.Rows
inductive V where
  | non | bl (b : Bool) | int (i : Int) | str (x : Str) | byt (b : Array UInt8) | flt (b : UInt64) | ref (a : Addr) | ty (n : String)
  deriving DecidableEq
noncomputable def RelV : V → Value → Prop
  | .non, u => u = Value.none
  | .bl b, u => u = Value.bool b
  | .int i, u => ∃ t, u = Value.int i t
  | .str x, u => ∃ t, u = Value.str x t
  | .byt b, u => ∃ t, u = Value.bytes b t
  | .flt b, u => ∃ t, u = Value.float b t
  | .ref a, u => u = Value.ref a
  | .ty n, u => u = Value.type n
noncomputable abbrev Vals : List V → List Value → Prop := Paired RelV
theorem Vals.length {xs : List V} {us : List Value} (r : Vals xs us) : xs.length = us.length := Paired.length r
theorem Vals.get : ∀ {xs : List V} {us : List Value} {i : Nat} {x : V}, Vals xs us → xs[i]? = some x → ∃ u, us[i]? = some u ∧ RelV x u
  | _, _, _, _, .nil, e => by simp at e
  | _, _, 0, _, .cons r _, e => by simp at e; subst e; exact ⟨_, rfl, r⟩
  | _, _, i + 1, x, .cons _ t, e => by
    obtain ⟨u, h1, h2⟩ := Vals.get (i := i) (x := x) t (by simpa using e)
    exact ⟨u, by simpa using h1, h2⟩
theorem Vals.append : ∀ {xs ys : List V} {us ws : List Value}, Vals xs us → Vals ys ws → Vals (xs ++ ys) (us ++ ws)
  | _, _, _, _, .nil, s => s
  | _, _, _, _, .cons r t, s => .cons r (Vals.append t s)
theorem Vals.take : ∀ {xs : List V} {us : List Value} (n : Nat), Vals xs us → Vals (xs.take n) (us.take n)
  | _, _, 0, _ => .nil
  | _, _, _ + 1, .nil => .nil
  | _, _, n + 1, .cons r t => .cons r (Vals.take n t)
theorem Vals.drop : ∀ {xs : List V} {us : List Value} (n : Nat), Vals xs us → Vals (xs.drop n) (us.drop n)
  | _, _, 0, r => r
  | _, _, _ + 1, .nil => .nil
  | _, _, n + 1, .cons _ t => Vals.drop n t
noncomputable def RelO : Option V → Option Value → Prop
  | some v, some u => RelV v u
  | none, none => True
  | _, _ => False
noncomputable def KV {κ : Type} : List (κ × V) → List (κ × Value) → Prop := Paired fun (p : κ × V) (q : κ × Value) => p.1 = q.1 ∧ RelV p.2 q.2
noncomputable def kV : Key → V
  | .inl i => .int i
  | .inr x => .str x
noncomputable def IsTupN (h : Heap) (a : Addr) (items : Array Value) : Prop := ∃ o, h.get? a = some o ∧ o.cls = .type "tuple" ∧ (∃ n, o.data = .seq items n) ∧ o.dict = none
theorem IsTupN.tup {h : Heap} {a : Addr} {items : Array Value} (x : IsTupN h a items) : IsTup h a items := let ⟨o, h1, h2, ⟨n, h3⟩, _⟩ := x; ⟨o, h1, h2, n, h3⟩
theorem IsTupN.new (h : Heap) (its : Array Value) : IsTupN (h.push { cls := .type "tuple", data := .seq its }) h.objs.size its := ⟨_, Heap.get?_push_size _ rfl, rfl, ⟨_, rfl⟩, rfl⟩
inductive HO where
  | lst (xs : List V)
  | tup (xs : List V)
  | dK (kvs : List (Key × V)) | dT (kvs : List (List Key × V))
  | set (S : Int → Bool) (n : Nat)
  | ins (C dx : Addr) (fs : List (Str × V))
  | own (x : Addr)
  | xd (fs : List (Str × V))
  | met (f x : Addr)
  | rng (lo hi : Int)
  | frz (o : Obj) (u : HO)
  | tbl (ps : Array Value)
  | ext (φ : Heap → Prop)
noncomputable abbrev Hp := Addr → Option HO
noncomputable def upd (H : Hp) (a : Addr) (o : HO) : Hp := fun b => if b = a then some o else H b
theorem upd_same {H : Hp} {a : Addr} {o : HO} : upd H a o a = some o := by unfold upd; rw [if_pos rfl]
theorem upd_ne {H : Hp} {a b : Addr} {o : HO} (h : b ≠ a) : upd H a o b = H b := by unfold upd; rw [if_neg h]
theorem ne_of {H : Hp} {a b : Addr} {o u : HO} (h : H a = some o) (h' : H b = some u) (d : o ≠ u) : a ≠ b := by
  intro e; subst e; rw [h] at h'; exact d (Option.some.inj h')
theorem ne_of_none {H : Hp} {a b : Addr} {o : HO} (h : H a = some o) (h' : H b = none) : a ≠ b := by
  intro e; subst e; rw [h] at h'; cases h'
section
variable (P : Program) (w : World)
noncomputable def ObjOk (H : Hp) (h : Heap) (a : Addr) : HO → Prop
  | .lst xs => xs.length ≤ sizeLine ∧ ∃ (its : List Value) (n : Nat), Vals xs its ∧ h.get? a = some { cls := .type "list", data := .seq its.toArray n }
  | .tup xs => xs.length ≤ sizeLine ∧ ∃ its : List Value, Vals xs its ∧ IsTupN h a its.toArray
  | .dK kvs => kvs.length ≤ sizeLine ∧ (a == sysModules) = false ∧ ∃ vs, KV kvs vs ∧ h.DictOf (mixKind P w) a vs
  | .dT kvs => kvs.length ≤ sizeLine ∧ (a == sysModules) = false ∧ ∃ xs : List (List Key × Addr × Value),
      Paired (fun (p : List Key × V) (q : List Key × Addr × Value) => p.1 = q.1 ∧ H q.2.1 = some (.tup (p.1.map kV)) ∧ RelV p.2 q.2.2) kvs xs ∧
      ∃ o es ep, h.get? a = some o ∧ o.ExactDict ∧ o.data = .dict es ep ∧ es.toList = xs.map (entryOfKey (tupleKind (mixKind P w))) ∧ (xs.map (·.1)).Nodup
  | .set S n => h.SetOf (intKind P w) a S n
  | .ins C dx fs => H dx = some (.own a) ∧ fs.length ≤ 1000 ∧ dx ≠ a ∧ h.get? a = some (PySem.W.instObj C dx) ∧
      ∃ mA, h.Ns1 dx mA ∧ (∀ f, RelO (fs.lookup f) (mA f)) ∧ PySem.Within mA (fs.map (·.1))
  | .own _ => ∃ o, h.get? a = some o
  | .xd fs => ∃ mA, h.Ns1 a mA ∧ ∀ f, RelO (fs.lookup f) (mA f)
  | .rng lo hi => ∃ t u v, h.get? a = some { cls := .type "range", data := .fields #[.int lo t, .int hi u, .int 1 v] }
  | .frz o u => h.get? a = some o ∧ ObjOk H h a u
  | .tbl ps => h.get? a = some { cls := .none, data := .fields ps }
  | .met f x => h.get? a = some (PySem.W.methodObj (.ref f) (.ref x))
  | .ext φ => φ h ∧ (∃ o, h.get? a = some o) ∧ ∀ h1 h2 : Heap, φ h1 → (∀ o, h1.get? a = some o → h2.get? a = some o) → φ h2
noncomputable def HOk (H : Hp) (h : Heap) : Prop := ∀ a o, H a = some o → ObjOk P w H h a o
end
section
variable {P : Program} {w : World} {H H' : Hp} {h h' : Heap} {a : Addr} {o : HO}
theorem ObjOk.lt (x : ObjOk P w H h a o) : a < h.objs.size := by
  cases o with
  | lst xs => obtain ⟨_, _, _, _, e⟩ := x; exact Heap.lt_size e
  | tup xs => obtain ⟨_, _, _, p⟩ := x; exact p.tup.lt
  | dK kvs => obtain ⟨_, _, _, _, o, _, _, e, _⟩ := x; exact Heap.lt_size e
  | dT kvs => obtain ⟨_, _, _, _, o, _, _, e, _⟩ := x; exact Heap.lt_size e
  | set S n => obtain ⟨o, _, _, _, e, _⟩ := x; exact Heap.lt_size e
  | ins C dx fs => obtain ⟨_, _, _, e, _⟩ := x; exact Heap.lt_size e
  | own y => obtain ⟨_, e⟩ := x; exact Heap.lt_size e
  | xd fs => obtain ⟨_, ⟨_, _, _, e, _⟩, _⟩ := x; exact Heap.lt_size e
  | rng lo hi => obtain ⟨_, _, _, e⟩ := x; exact Heap.lt_size e
  | frz ob u => obtain ⟨e, _⟩ := x; exact Heap.lt_size e
  | tbl ps => exact Heap.lt_size (show h.get? a = some _ from x)
  | met f y => exact Heap.lt_size (show h.get? a = some _ from x)
  | ext φ => obtain ⟨_, ⟨_, e⟩, _⟩ := x; exact Heap.lt_size e
theorem Paired.mapP {α β : Type} {F G : α → β → Prop} : ∀ {l₁ : List α} {l₂ : List β}, Paired F l₁ l₂ → (∀ a b, F a b → G a b) → Paired G l₁ l₂
  | _, _, .nil, _ => .nil
  | _, _, .cons r t, f => .cons (f _ _ r) (Paired.mapP t f)
theorem ObjOk.stay (x : ObjOk P w H h a o) (k : ∀ b u, (b = a ∨ H b = some (.own a)) → h.get? b = some u → h'.get? b = some u)
    (ho : ∀ b, H b = some (.own a) → H' b = some (.own a)) (ht : ∀ b xs, H b = some (.tup xs) → H' b = some (.tup xs)) : ObjOk P w H' h' a o := by
  induction o with
  | lst xs => obtain ⟨z, its, n, r, e⟩ := x; exact ⟨z, its, n, r, k _ _ (.inl rfl) e⟩
  | tup xs => obtain ⟨z, its, r, ob, e, c⟩ := x; exact ⟨z, its, r, ob, k _ _ (.inl rfl) e, c⟩
  | dK kvs => obtain ⟨z, y, vs, r, ob, es, ep, e, c⟩ := x; exact ⟨z, y, vs, r, ob, es, ep, k _ _ (.inl rfl) e, c⟩
  | dT kvs =>
    obtain ⟨z, y, xs, r, ob, es, ep, e, c⟩ := x
    exact ⟨z, y, xs, Paired.mapP r fun p q z => ⟨z.1, ht _ _ z.2.1, z.2.2⟩, ob, es, ep, k _ _ (.inl rfl) e, c⟩
  | set S n => obtain ⟨ob, es, ep, t, e, c⟩ := x; exact ⟨ob, es, ep, t, k _ _ (.inl rfl) e, c⟩
  | ins C dx fs =>
    obtain ⟨d, z, ne, e, mA, ⟨od, es, ep, e2, c⟩, r⟩ := x
    exact ⟨ho _ d, z, ne, k _ _ (.inl rfl) e, mA, ⟨od, es, ep, k _ _ (.inr d) e2, c⟩, r⟩
  | own y => obtain ⟨ob, e⟩ := x; exact ⟨ob, k _ _ (.inl rfl) e⟩
  | xd fs => obtain ⟨mA, ⟨od, es, ep, e, c⟩, r⟩ := x; exact ⟨mA, ⟨od, es, ep, k _ _ (.inl rfl) e, c⟩, r⟩
  | rng lo hi => obtain ⟨t, u, v, e⟩ := x; exact ⟨t, u, v, k _ _ (.inl rfl) e⟩
  | frz ob u ih => obtain ⟨e, q⟩ := x; exact ⟨k _ _ (.inl rfl) e, ih q⟩
  | tbl ps =>
    have e : h.get? a = some { cls := .none, data := .fields ps } := x
    show h'.get? a = some { cls := .none, data := .fields ps }
    exact k a _ (.inl rfl) e
  | met f y =>
    have e : h.get? a = some (PySem.W.methodObj (.ref f) (.ref y)) := x
    show h'.get? a = some (PySem.W.methodObj (.ref f) (.ref y))
    exact k a _ (.inl rfl) e
  | ext φ => obtain ⟨p, ⟨o, e⟩, st⟩ := x; exact ⟨st _ _ p fun o q => k _ _ (.inl rfl) q, ⟨o, k _ _ (.inl rfl) e⟩, st⟩
theorem HOk.lt (x : HOk P w H h) (e : H a = some o) : a < h.objs.size := (x a o e).lt
theorem HOk.fresh (x : HOk P w H h) (e : h.objs.size ≤ a) : H a = none := by
  cases q : H a with
  | none => rfl
  | some u => exact absurd (Nat.lt_of_lt_of_le (x.lt q) e) (Nat.lt_irrefl _)
theorem HOk.kept (x : HOk P w H h) (k : ∀ b u, h.get? b = some u → h'.get? b = some u) : HOk P w H h' := fun a o e =>
  (x a o e).stay (fun b u _ q => k b u q) (fun _ q => q) fun _ _ q => q
theorem HOk.laid (x : HOk P w H h) (k : ∀ b u, h.get? b = some u → h'.get? b = some u) (hp : h.objs.size ≤ a) (new : ObjOk P w (upd H a o) h' a o) : HOk P w (upd H a o) h' := fun b u e => by
  have hn := x.fresh hp
  by_cases hb : b = a
  · subst hb; rw [upd_same] at e; cases e; exact new
  · rw [upd_ne hb] at e
    exact (x b u e).stay (fun c v _ q => k c v q) (fun c q => by rw [upd_ne (ne_of_none q hn)]; exact q) fun c xs q => by rw [upd_ne (ne_of_none q hn)]; exact q
end
noncomputable def Rd (H : Hp) (a : Addr) (u : HO) : Prop := H a = some u ∨ ∃ o, H a = some (.frz o u)
theorem Rd.ok {P : Program} {w : World} {H : Hp} {h : Heap} {a : Addr} {u : HO} (r : Rd H a u) (x : HOk P w H h) : ObjOk P w H h a u := by
  rcases r with r | ⟨o, r⟩
  · exact x a u r
  · obtain ⟨_, q⟩ := x a _ r
    exact q
noncomputable def Mut : Option HO → Prop
  | some (.lst _) => True
  | some (.dK _) => True
  | some (.dT _) => True
  | some (.set _ _) => True
  | some (.ins _ _ _) => True
  | some (.ext _) => True
  | _ => False
section
variable {P : Program} {w : World} {H : Hp} {h h' : Heap} {x e : Addr} {o' : HO}
theorem HOk.write (ok : HOk P w H h) (mu : Mut (H x)) (he : e = x ∨ H e = some (.own x)) (k : ∀ b u, b ≠ e → h.get? b = some u → h'.get? b = some u) (heo : ∃ u, h'.get? e = some u)
    (new : ObjOk P w (upd H x o') h' x o') : HOk P w (upd H x o') h' := fun b u q => by
  have nown : ∀ c y, H c = some (.own y) → c ≠ x := fun c y r z => by subst z; rw [r] at mu; exact mu
  have ntup : ∀ c xs, H c = some (.tup xs) → c ≠ x := fun c xs r z => by subst z; rw [r] at mu; exact mu
  by_cases hb : b = x
  · subst hb; rw [upd_same] at q; cases q; exact new
  · rw [upd_ne hb] at q
    by_cases hbe : b = e
    · have q' : H b = some (.own x) := by
        rcases he with z | z
        · exact absurd (hbe.trans z) hb
        · rw [hbe]; exact z
      rw [q] at q'; cases q'
      obtain ⟨v, hv⟩ := heo
      exact ⟨v, by rw [hbe]; exact hv⟩
    · refine (ok b u q).stay (fun c v hc r => k c v ?_ r) (fun c r => by rw [upd_ne (nown c b r)]; exact r) fun c xs r => by rw [upd_ne (ntup c xs r)]; exact r
      rcases hc with rfl | hc
      · exact hbe
      · rintro rfl
        rcases he with z | z
        · exact nown c b hc z
        · rw [hc] at z; cases z; exact hb rfl
end
structure Un (fs ex : List Addr) (H H' : Hp) (h h' : Heap) : Prop where
  keep : ∀ b o, h.get? b = some o → H b = none → b ∉ fs → b ∉ ex → h'.get? b = some o
  slot : ∀ b o, h.get? b = some o → H b = none → b ∈ fs → b ∉ ex → ∃ sl, h'.get? b = some { o with slots := sl }
  free : ∀ b o, h.get? b = some o → H b = none → b ∉ ex → H' b = none
  there : ∀ b o, h.get? b = some o → b ∉ ex → ∃ o', h'.get? b = some o'
  tups : ∀ b xs, H b = some (.tup xs) → H' b = some (.tup xs)
  frzs : ∀ b o u, H b = some (.frz o u) → H' b = some (.frz o u)
  tbls : ∀ b ps, H b = some (.tbl ps) → ∃ more, H' b = some (.tbl (ps ++ more))
section
variable {fs fs' ex ex' : List Addr} {H H1 H2 : Hp} {h h1 h2 h' : Heap} {a x e : Addr} {o : HO}
theorem Un.any (u : Un fs ex H H1 h h1) {b : Addr} {ob : Obj} (q : h.get? b = some ob) (n : H b = none) (hx : b ∉ ex) : ∃ sl, h1.get? b = some { ob with slots := sl } := by
  by_cases hb : b ∈ fs
  · exact u.slot b ob q n hb hx
  · exact ⟨ob.slots, u.keep b ob q n hb hx⟩
theorem Un.kept (k : ∀ b u, h.get? b = some u → h'.get? b = some u) : Un fs ex H H h h' :=
  ⟨fun b ob q _ _ _ => k b ob q, fun b ob q _ _ _ => ⟨ob.slots, k b ob q⟩, fun _ _ _ n _ => n, fun b ob q _ => ⟨ob, k b ob q⟩, fun _ _ q => q, fun _ _ _ q => q, fun _ ps q => ⟨#[], by rw [q]; simp⟩⟩
theorem Un.refl : Un fs ex H H h h := Un.kept fun _ _ q => q
theorem Un.laid (k : ∀ b u, h.get? b = some u → h'.get? b = some u) (hp : h.objs.size ≤ a) (hn : H a = none) : Un fs ex H (upd H a o) h h' where
  keep := fun b u q _ _ _ => k b u q
  slot := fun b u q _ _ _ => ⟨u.slots, k b u q⟩
  free := fun b u q n _ => by rw [upd_ne (Nat.ne_of_lt (Nat.lt_of_lt_of_le (Heap.lt_size q) hp))]; exact n
  there := fun b u q _ => ⟨u, k b u q⟩
  tups := fun b xs q => by rw [upd_ne (ne_of_none q hn)]; exact q
  frzs := fun b u xs q => by rw [upd_ne (ne_of_none q hn)]; exact q
  tbls := fun b ps q => ⟨#[], by rw [upd_ne (ne_of_none q hn), q]; simp⟩
theorem Un.write (mu : Mut (H x)) (he : e = x ∨ H e = some (.own x)) (k : ∀ b u, b ≠ e → h.get? b = some u → h'.get? b = some u) (heo : ∃ u, h'.get? e = some u) : Un fs ex H (upd H x o) h h' := by
  have hx : ∀ b, H b = none → b ≠ x := fun b n z => by subst z; rw [n] at mu; exact mu
  have hb : ∀ b, H b = none → b ≠ e := fun b n z => by
    subst z
    rcases he with r | r
    · exact hx b n r
    · rw [n] at r; cases r
  have hm : ∀ b u, H b = some u → ¬ Mut (some u) → b ≠ x := fun b u q nm z => by subst z; rw [q] at mu; exact nm mu
  refine ⟨fun b u q n _ _ => k b u (hb b n) q, fun b u q n _ _ => ⟨u.slots, k b u (hb b n) q⟩, fun b u q n _ => by rw [upd_ne (hx b n)]; exact n, fun b u q _ => ?_,
    fun b xs q => by rw [upd_ne (hm b _ q fun z => z)]; exact q, fun b u xs q => by rw [upd_ne (hm b _ q fun z => z)]; exact q, fun b ps q => ⟨#[], by rw [upd_ne (hm b _ q fun z => z), q]; simp⟩⟩
  by_cases hbe : b = e
  · subst hbe; exact heo
  · exact ⟨u, k b u hbe q⟩
end
noncomputable def trk (h : Heap) (H : Hp) : List Addr := (List.range h.objs.size).filter fun a => (H a).isSome
noncomputable def hidT (h : Heap) (H : Hp) : Heap := PySem.W.hideAll h (trk h H)
theorem hidT_size (h : Heap) (H : Hp) : (hidT h H).objs.size = h.objs.size := PySem.W.hideAll_size _ _
theorem hidT_get {h : Heap} {H : Hp} {b : Addr} {o : Obj} (e : h.get? b = some o) (n : H b = none) : (hidT h H).get? b = some o :=
  PySem.W.hideAll_get _ e fun hm => by
    have q : (H b).isSome = true := (List.mem_filter.mp hm).2
    rw [n] at q; simp at q
theorem of_hidT {h : Heap} {H : Hp} {b : Addr} {o : Obj} (e : (hidT h H).get? b = some o) : h.get? b = some o ∧ H b = none := by
  have e' : h.get? b = some o := PySem.W.of_hideAll (trk h H) e
  refine ⟨e', ?_⟩
  cases q : H b with
  | none => rfl
  | some x =>
    have hm : b ∈ trk h H := List.mem_filter.mpr ⟨List.mem_range.mpr (Heap.lt_size e'), by simp [q]⟩
    have z : (hidT h H).get? b = none := PySem.W.hideAll_none (trk h H) hm
    rw [z] at e; cases e
noncomputable def allNews (g h : Heap) (L : Addr) : List (Addr × Obj) := (List.range h.objs.size).filterMap fun a => if a = L ∨ (g.get? a).isSome = true then none else (h.get? a).map fun o => (a, o)
noncomputable def rest (g h : Heap) (L d : Addr) : List (Addr × Obj) := (allNews g h L).filter fun p => decide (p.1 ≠ d)
end L2
namespace L2
open PySem PySem.Spec PyProof.Rows
structure Mod (K : PySem.W.Frag) (mg : Str → Option Value) (base : Heap) : Prop where
  kin : K.In base
  glob : base.Ns mainGlobals mg
  blt : ∃ mb, base.Ns builtinsNs mb ∧ ∀ x : Str, x ≠ "__name__" → mb x = bootBuiltins x
  nolimit : base.NoLimit
/-- the context: a def's body (or a comprehension's block) running. base: fixed through the whole law; s₀, H₀: the entry; outer: the frames whose slots others may change (a def's callers); stack: all frames that run;
   ex: iterators that were made ahead of the entry and are walked here (a comprehension's); fn: the names whose cells were made at the entry (a def: all; a comprehension's block: its own); calm: not within an except suite; pn: pins that every state bears; xe: what is wanted of an exception that leaves the code -/
structure Cx where
  prog : Program
  w : World
  K : PySem.W.Frag
  mg : Str → Option Value
  base : Heap
  A : Around
  N : List Str
  s₀ : Shared
  H₀ : Hp
  env : Env
  outer : List Env
  stack : List Env
  ex : List Addr
  fn : Str → Bool
  calm : Bool
  pn : List (Addr × Obj)
  xe : Value → Shared → Prop
noncomputable def frs (l : List Env) : List Addr := l.filterMap (·.frame)
noncomputable abbrev Cx.fs (X : Cx) : List Addr := frs X.outer
noncomputable def Vis (sc : Scope) (x : Str) : Prop := sc.names.lookup x = some .local ∨ sc.names.lookup x = some .cell ∨ sc.names.lookup x = some .free
noncomputable def Loc (sc : Scope) (x : Str) : Prop := sc.names.lookup x = some .local ∨ sc.names.lookup x = some .cell
noncomputable def Look (env : Env) (h : Heap) (m : Str → Option Value) (x : Str) (u : Value) : Prop :=
  (env.kindOf x = some .local ∧ m x = some u) ∨ ((env.kindOf x = some .cell ∨ env.kindOf x = some .free) ∧ ∃ c, env.cells.lookup x = some c ∧ h.IsCell c (some u))
structure Cx.Ok (X : Cx) : Prop where
  mod : Mod X.K X.mg X.base
  kind : X.env.scope.kind = .function
  glob : X.env.globals = mainGlobals
  blt : X.env.builtins = builtinsNs
  above : X.s₀.heap.objs.size ≤ X.env.locals
  inj : ∀ x y c, X.env.cells.lookup x = some c → X.env.cells.lookup y = some c → x = y
  has : ∀ x, (X.env.kindOf x = some .cell ∨ X.env.kindOf x = some .free) → ∃ c, X.env.cells.lookup x = some c
  cab : ∀ x c, X.fn x = true → X.env.cells.lookup x = some c → X.s₀.heap.objs.size ≤ c
  hd : X.calm = true → X.A.handled = none
  frames : X.A.frames = some X.stack
  stk : X.stack = X.outer ∨ (X.stack = X.env :: X.outer ∧ X.env.frame = some X.env.locals)
  exf : ∀ b ∈ X.ex, b ≠ X.env.locals ∧ ∀ x c, X.env.cells.lookup x = some c → c ≠ b
  bs : ∀ b o, X.base.get? b = some o → X.s₀.heap.get? b = some o ∧ X.H₀ b = none
  bsz : X.base.objs.size ≤ X.s₀.heap.objs.size
  noex : ∀ b o, X.base.get? b = some o → b ∉ X.ex
  exfs : ∀ b ∈ X.ex, b ∉ X.fs
  funs : X.s₀.heap.FunFrames X.base X.outer
  frf : ∀ b ∈ X.fs, X.H₀ b = none
structure Inv (X : Cx) (pins : List (Addr × Obj)) (σ : List (Option V)) (H : Hp) (s : Shared) : Prop where
  ok : X.Ok
  os : s.os = X.s₀.os
  bare : AllBare s.gens
  base : Un X.fs X.ex X.H₀ H X.s₀.heap s.heap
  loc : ∃ m, s.heap.Ns X.env.locals m ∧ ∀ (i : Nat) (x : Str) (v : V), X.N[i]? = some x → σ[i]? = some (some v) → Vis X.env.scope x → ∃ u, RelV v u ∧ Look X.env s.heap m x u
  cell : ∀ x c, X.env.cells.lookup x = some c → ∃ v, s.heap.IsCell c v
  free : H X.env.locals = none
  freeC : ∀ x c, X.env.cells.lookup x = some c → H c = none
  pin : ∀ p ∈ X.pn ++ pins, s.heap.get? p.1 = some p.2 ∧ H p.1 = none ∧ p.1 ≠ X.env.locals ∧ p.1 ∉ X.fs ∧ ∀ v, p.2.data ≠ .cell v
  hok : HOk X.prog X.w H s.heap
  len : σ.length = X.N.length
section
variable {X : Cx} {pins : List (Addr × Obj)} {σ : List (Option V)} {H H' : Hp} {s : Shared} {h' : Heap}
theorem Cx.Ok.nofr (ok : X.Ok) {b : Addr} {o : Obj} (e : X.base.get? b = some o) : b ∉ X.fs := fun hb => by
  have := (ok.funs.mem hb).1
  rw [e] at this; cases this
theorem Inv.bs (I : Inv X pins σ H s) : ∀ b o, X.base.get? b = some o → s.heap.get? b = some o ∧ H b = none := fun b o e =>
  ⟨I.base.keep b o (I.ok.bs b o e).1 (I.ok.bs b o e).2 (I.ok.nofr e) (I.ok.noex b o e), I.base.free b o (I.ok.bs b o e).1 (I.ok.bs b o e).2 (I.ok.noex b o e)⟩
theorem Inv.bk (I : Inv X pins σ H s) : ∀ b o, X.base.get? b = some o → s.heap.get? b = some o := fun b o e => (I.bs b o e).1
theorem Inv.mod (I : Inv X pins σ H s) : Mod X.K X.mg X.base := I.ok.mod
theorem Inv.kIn (I : Inv X pins σ H s) : X.K.In s.heap := I.ok.mod.kin.keeps I.bk
theorem Inv.lt (I : Inv X pins σ H s) : X.env.locals < s.heap.objs.size := let ⟨_, hn, _⟩ := I.loc; hn.lt
theorem Inv.sz (I : Inv X pins σ H s) : X.s₀.heap.objs.size ≤ s.heap.objs.size := Nat.le_trans I.ok.above (Nat.le_of_lt I.lt)
theorem Inv.nofs (I : Inv X pins σ H s) {a : Addr} (h : s.heap.objs.size ≤ a) : a ∉ X.fs := fun hb => by
  obtain ⟨_, o, ho, _⟩ := I.ok.funs.mem hb
  exact absurd (Nat.lt_of_lt_of_le (Heap.lt_size ho) (Nat.le_trans I.sz h)) (Nat.lt_irrefl _)
theorem Inv.cne (I : Inv X pins σ H s) : ∀ x c, X.env.cells.lookup x = some c → c ≠ X.env.locals := fun x c e z => by
  obtain ⟨v, o, ho, hd⟩ := I.cell x c e
  obtain ⟨m, ⟨o', es, ep, ho', hd', _⟩, _⟩ := I.loc
  rw [z, ho'] at ho; cases ho; rw [hd'] at hd; cases hd
theorem Inv.funs (I : Inv X pins σ H s) : s.heap.FunFrames X.base X.outer := by
  have all : ∀ (l : List Env), (∀ b ∈ frs l, b ∈ X.fs) → X.s₀.heap.FunFrames X.base l → s.heap.FunFrames X.base l := by
    intro l
    induction l with
    | nil => intro _ _; trivial
    | cons env r ih =>
      intro hs hl
      obtain ⟨hk, ⟨L, o, hf, hn, ho, hd⟩, hr⟩ := hl
      have hL : L ∈ X.fs := hs L (by unfold frs; rw [List.filterMap_cons, hf]; exact List.mem_cons_self)
      obtain ⟨sl, e⟩ := I.base.slot L o ho (I.ok.frf L hL) hL fun z => I.ok.exfs L z hL
      exact ⟨hk, ⟨L, _, hf, hn, e, hd⟩, ih (fun b hb => hs b (by unfold frs; rw [List.filterMap_cons, hf]; exact List.mem_cons_of_mem _ hb)) hr⟩
  exact all X.outer (fun _ hb => hb) I.ok.funs
theorem Inv.stack (I : Inv X pins σ H s) : s.heap.FunFrames X.base X.stack := by
  rcases I.ok.stk with e | ⟨e, hf⟩
  · rw [e]; exact I.funs
  · rw [e]
    obtain ⟨m, hn, _⟩ := I.loc
    refine .cons (by rw [I.ok.kind]; decide) hf hn ?_ I.funs
    exact Heap.get?_none_of_le (Nat.le_trans I.ok.bsz I.ok.above)
theorem Inv.stkSub (I : Inv X pins σ H s) : ∀ b ∈ frs X.stack, b ∈ X.env.locals :: X.fs := fun b hb => by
  rcases I.ok.stk with e | ⟨e, hf⟩
  · rw [e] at hb; exact List.mem_cons_of_mem _ hb
  · rw [e] at hb
    unfold frs at hb
    rw [List.filterMap_cons, hf] at hb
    exact hb
theorem Inv.stkFree (I : Inv X pins σ H s) : ∀ b ∈ frs X.stack, H b = none := fun b hb => by
  rcases List.mem_cons.mp (I.stkSub b hb) with e | hb
  · rw [e]; exact I.free
  · obtain ⟨_, o, ho, _⟩ := I.ok.funs.mem hb
    exact I.base.free b o ho (I.ok.frf b hb) fun z => I.ok.exfs b z hb
theorem Inv.step {g' : Array GenState} {t' : Nat} {d' : Drawn} {ch : List Addr} (I : Inv X pins σ H s)
    (hch : ∀ b ∈ ch, (b ∈ X.ex ∨ X.s₀.heap.objs.size ≤ b) ∧ b ≠ X.env.locals ∧ (∀ x c, X.env.cells.lookup x = some c → c ≠ b) ∧ ∀ p ∈ X.pn ++ pins, p.1 ≠ b)
    (keep : ∀ b o, b ≠ X.env.locals → b ∉ X.fs → b ∉ ch → s.heap.get? b = some o → H b = none → h'.get? b = some o)
    (slot : ∀ b o, b ≠ X.env.locals → b ∈ X.fs → b ∉ ch → s.heap.get? b = some o → H b = none → ∃ sl, h'.get? b = some { o with slots := sl }) (free : ∀ b o, b ∉ ch → s.heap.get? b = some o → H b = none → H' b = none)
    (there : ∀ b o, b ∉ ch → s.heap.get? b = some o → ∃ o', h'.get? b = some o')
    (tups : ∀ b xs, H b = some (.tup xs) → H' b = some (.tup xs)) (frzs : ∀ b o u, H b = some (.frz o u) → H' b = some (.frz o u)) (tbls : ∀ b ps, H b = some (.tbl ps) → ∃ more, H' b = some (.tbl (ps ++ more)))
    (ns : ∀ m, s.heap.Ns X.env.locals m → h'.Ns X.env.locals m) (hok : HOk X.prog X.w H' h') (hg : AllBare g') :
    Inv X pins σ H' { s with heap := h', gens := g', drawn := d', toks := t' } := by
  have neL : ∀ b o, X.s₀.heap.get? b = some o → b ≠ X.env.locals := fun b o e => Nat.ne_of_lt (Nat.lt_of_lt_of_le (Heap.lt_size e) I.ok.above)
  have neC : ∀ b o, X.s₀.heap.get? b = some o → b ∉ X.ex → b ∉ ch := fun b o e hx hb => by
    rcases (hch b hb).1 with z | z
    · exact hx z
    · exact absurd (Nat.lt_of_lt_of_le (Heap.lt_size e) z) (Nat.lt_irrefl _)
  have cellK : ∀ x c, X.env.cells.lookup x = some c → ∀ v, s.heap.IsCell c v → h'.IsCell c v := fun x c e v ⟨o, ho, hd⟩ => by
    have nch : c ∉ ch := fun z => (hch c z).2.2.1 x c e rfl
    by_cases hc : c ∈ X.fs
    · obtain ⟨sl, q⟩ := slot c o (I.cne x c e) hc nch ho (I.freeC x c e)
      exact ⟨_, q, hd⟩
    · exact ⟨o, keep c o (I.cne x c e) hc nch ho (I.freeC x c e), hd⟩
  refine ⟨I.ok, I.os, hg, ⟨fun b o e n hb hx => ?_, fun b o e n hb hx => ?_, fun b o e n hx => ?_, fun b o e hx => ?_, fun b xs e => tups b xs (I.base.tups b xs e), fun b o xs e => frzs b o xs (I.base.frzs b o xs e), fun b ps e => ?_⟩, ?_, fun x c e => ?_, ?_, fun x c e => ?_, fun p hp => ?_, hok, I.len⟩
  · exact keep b o (neL b o e) hb (neC b o e hx) (I.base.keep b o e n hb hx) (I.base.free b o e n hx)
  · obtain ⟨sl, e1⟩ := I.base.slot b o e n hb hx
    obtain ⟨sl', e2⟩ := slot b _ (neL b o e) hb (neC b o e hx) e1 (I.base.free b o e n hx)
    exact ⟨sl', e2⟩
  · obtain ⟨o', e1⟩ := I.base.there b o e hx
    exact free b o' (neC b o e hx) e1 (I.base.free b o e n hx)
  · obtain ⟨o', e1⟩ := I.base.there b o e hx
    exact there b o' (neC b o e hx) e1
  · obtain ⟨m1, e1⟩ := I.base.tbls b ps e
    obtain ⟨m2, e2⟩ := tbls b _ e1
    exact ⟨m1 ++ m2, by rw [e2, Array.append_assoc]⟩
  · obtain ⟨m, hn, hl⟩ := I.loc
    refine ⟨m, ns m hn, fun i x v e1 e2 e3 => ?_⟩
    obtain ⟨u, r, l⟩ := hl i x v e1 e2 e3
    refine ⟨u, r, ?_⟩
    rcases l with l | ⟨k, c, e, z⟩
    · exact .inl l
    · exact .inr ⟨k, c, e, cellK x c e _ z⟩
  · obtain ⟨v, z⟩ := I.cell x c e
    exact ⟨v, cellK x c e v z⟩
  · obtain ⟨m, ⟨o, _, _, ho, _⟩, _⟩ := I.loc
    exact free _ o (fun z => (hch _ z).2.1 rfl) ho I.free
  · obtain ⟨v, o, ho, hd⟩ := I.cell x c e
    exact free c o (fun z => (hch c z).2.2.1 x c e rfl) ho (I.freeC x c e)
  · obtain ⟨e, n, ne, nf, d⟩ := I.pin p hp
    have nch : p.1 ∉ ch := fun z => (hch p.1 z).2.2.2 p hp rfl
    exact ⟨keep p.1 p.2 ne nf nch e n, free p.1 p.2 nch e n, ne, nf, d⟩
theorem Inv.un {t' : Nat} (I : Inv X pins σ H s) (u : Un X.fs [] H H' s.heap h') (hok : HOk X.prog X.w H' h') : Inv X pins σ H' { s with heap := h', toks := t' } := by
  obtain ⟨m, ⟨o, es, ep, ho, r⟩, _⟩ := id I.loc
  obtain ⟨sl, hL⟩ := u.any ho I.free (by simp)
  exact I.step (g' := s.gens) (d' := s.drawn) (ch := []) (fun _ z => nomatch z) (fun b o _ hb _ e n => u.keep b o e n hb (by simp)) (fun b o _ hb _ e n => u.slot b o e n hb (by simp)) (fun b o _ e n => u.free b o e n (by simp)) (fun b o _ e => u.there b o e (by simp)) u.tups u.frzs u.tbls (fun m' hm => by
    obtain ⟨o', es', ep', ho', r'⟩ := hm
    rw [ho] at ho'; cases ho'
    exact ⟨_, es', ep', hL, r'⟩) hok I.bare
theorem Inv.call {g' : Array GenState} {t' : Nat} {d' : Drawn} {ch : List Addr} (I : Inv X pins σ H s) (u : Un (frs X.stack) ch H H' s.heap h') (hok : HOk X.prog X.w H' h') (hg : AllBare g')
    (hch : ∀ b ∈ ch, (b ∈ X.ex ∨ X.s₀.heap.objs.size ≤ b) ∧ b ≠ X.env.locals ∧ (∀ x c, X.env.cells.lookup x = some c → c ≠ b) ∧ ∀ p ∈ X.pn ++ pins, p.1 ≠ b) :
    Inv X pins σ H' { s with heap := h', gens := g', drawn := d', toks := t' } := by
  obtain ⟨m, ⟨o, es, ep, ho, r⟩, _⟩ := id I.loc
  obtain ⟨sl, hL⟩ := u.any ho I.free fun z => (hch _ z).2.1 rfl
  exact I.step (ch := ch) hch (fun b o hL hb hc e n => u.keep b o e n (fun z => (List.mem_cons.mp (I.stkSub b z)).elim hL hb) hc) (fun b o _ _ hc e n => u.any e n hc) (fun b o hc e n => u.free b o e n hc) (fun b o hc e => u.there b o e hc) u.tups u.frzs u.tbls (fun m' hm => by
    obtain ⟨o', es', ep', ho', r'⟩ := hm
    rw [ho] at ho'; cases ho'
    exact ⟨_, es', ep', hL, r'⟩) hok hg
theorem Inv.turned {t' : Nat} {it : Addr} (I : Inv X pins σ H s) (k : ∀ b o, b ≠ it → s.heap.get? b = some o → h'.get? b = some o) (hn : H it = none) (hL : it ≠ X.env.locals)
    (h1 : it ∈ X.ex ∨ X.s₀.heap.objs.size ≤ it) (h2 : ∀ x c, X.env.cells.lookup x = some c → c ≠ it) (h3 : ∀ p ∈ X.pn ++ pins, p.1 ≠ it) : Inv X pins σ H { s with heap := h', toks := t' } := by
  have nit : ∀ b u, H b = some u → b ≠ it := fun b u e z => by rw [z, hn] at e; cases e
  refine I.step (g' := s.gens) (d' := s.drawn) (ch := [it]) (fun b hb => ?_) (fun b o _ _ hc e _ => k b o (fun z => hc (by simp [z])) e) (fun b o _ _ hc e _ => ⟨o.slots, k b o (fun z => hc (by simp [z])) e⟩) (fun _ _ _ _ n => n)
    (fun b o hc e => ⟨o, k b o (fun z => hc (by simp [z])) e⟩) (fun _ _ e => e) (fun _ _ _ e => e) (fun b ps e => ⟨#[], by rw [e]; simp⟩) (fun m hm => ?_) (fun b u e => ?_) I.bare
  · have e : b = it := by simpa using hb
    subst e
    exact ⟨h1, hL, h2, h3⟩
  · obtain ⟨o, es, ep, ho, r⟩ := hm
    exact ⟨o, es, ep, k _ o (Ne.symm hL) ho, r⟩
  · refine (I.hok b u e).stay (fun c v hc q => k c v ?_ q) (fun _ q => q) fun _ _ q => q
    rcases hc with z | z
    · rw [z]; exact nit b u e
    · exact nit c _ z
theorem Inv.tok (I : Inv X pins σ H s) (t : Nat) : Inv X pins σ H { s with toks := t } := I.un (h' := s.heap) (t' := t) Un.refl I.hok
theorem Inv.kept {t' : Nat} (I : Inv X pins σ H s) (k : ∀ b u, s.heap.get? b = some u → h'.get? b = some u) : Inv X pins σ H { s with heap := h', toks := t' } := I.un (Un.kept k) (I.hok.kept k)
theorem Inv.laid {a : Addr} {o : HO} {t' : Nat} (I : Inv X pins σ H s) (k : ∀ b u, s.heap.get? b = some u → h'.get? b = some u) (hp : s.heap.objs.size ≤ a) (new : ObjOk X.prog X.w (upd H a o) h' a o) :
    Inv X pins σ (upd H a o) { s with heap := h', toks := t' } := I.un (Un.laid k hp (I.hok.fresh hp)) (I.hok.laid k hp new)
theorem Inv.write {x e : Addr} {o : HO} {t' : Nat} (I : Inv X pins σ H s) (mu : Mut (H x)) (he : e = x ∨ H e = some (.own x)) (k : ∀ b u, b ≠ e → s.heap.get? b = some u → h'.get? b = some u) (heo : ∃ u, h'.get? e = some u)
    (new : ObjOk X.prog X.w (upd H x o) h' x o) : Inv X pins σ (upd H x o) { s with heap := h', toks := t' } := I.un (Un.write mu he k heo) (I.hok.write mu he k heo new)
theorem Inv.weak {σ' : List (Option V)} (I : Inv X pins σ H s) (hl : σ'.length = σ.length) (w : ∀ (i : Nat) v, σ'[i]? = some (some v) → σ[i]? = some (some v)) : Inv X pins σ' H s :=
  ⟨I.ok, I.os, I.bare, I.base, let ⟨m, hn, hl'⟩ := I.loc; ⟨m, hn, fun i x v e1 e2 e3 => hl' i x v e1 (w i v e2) e3⟩, I.cell, I.free, I.freeC, I.pin, I.hok, hl.trans I.len⟩
theorem Inv.pins_of {pins' : List (Addr × Obj)} (I : Inv X pins σ H s) (h : ∀ p ∈ pins', s.heap.get? p.1 = some p.2 ∧ H p.1 = none ∧ p.1 ≠ X.env.locals ∧ p.1 ∉ X.fs ∧ ∀ v, p.2.data ≠ .cell v) : Inv X pins' σ H s :=
  ⟨I.ok, I.os, I.bare, I.base, I.loc, I.cell, I.free, I.freeC, fun p hp => (List.mem_append.mp hp).elim (fun z => I.pin p (List.mem_append_left _ z)) (h p), I.hok, I.len⟩
theorem nodup_ix {N : List Str} (hN : N.Nodup) {i j : Nat} {x : Str} (a : N[i]? = some x) (b : N[j]? = some x) : i = j := by
  obtain ⟨h1, e1⟩ := List.getElem?_eq_some_iff.mp a
  obtain ⟨h2, e2⟩ := List.getElem?_eq_some_iff.mp b
  exact (List.getElem_inj hN).mp (e1.trans e2.symm)
theorem store_ok2 {M : Model} {A : Around} {E : Value → Shared → Prop} {i : Nat} {x : Str} {v : V} {u : Value} {Q : Unit → Shared → Prop} (I : Inv X pins σ H s) (hN : X.N.Nodup) (hi : X.N[i]? = some x) (hx : Loc X.env.scope x) (r : RelV v u)
    (h : ∀ s', Inv X pins (σ.set i (some v)) H s' → (∃ a, Heap.SameBut a s.heap s'.heap ∧ (a = X.env.locals ∨ X.env.cells.lookup x = some a)) → Q () s') (hf : X.fn x = true ∨ X.env.scope.names.lookup x = some .local := by with_unfolding_all (first | exact .inl rfl | exact .inr rfl | assumption)) : wpAny M A (storeName X.env x u) Q E s := by
  obtain ⟨m, hn, hl⟩ := id I.loc
  have hcls : (X.env.scope.kind == .class || (X.env.scope.kind == .module && X.env.locals != X.env.globals)) = false := by rw [I.ok.kind]; rfl
  have hiσ : i < σ.length := by rw [I.len]; exact (List.getElem?_eq_some_iff.mp hi).1
  have cne := I.cne
  have tracked : ∀ {a : Addr} {h' : Heap}, (∃ o, s.heap.get? a = some o ∧ H a = none) → Heap.SameBut a s.heap h' → HOk X.prog X.w H h' := fun {a h'} ha hs b ob e => by
    obtain ⟨_, _, hfree⟩ := ha
    refine (I.hok b ob e).stay (fun c w' hc q => (hs.2 c ?_).trans q) (fun _ q => q) fun _ _ q => q
    rintro rfl
    rcases hc with rfl | hc
    · rw [hfree] at e; cases e
    · rw [hfree] at hc; cases hc
  rcases hx with hk | hk
  · refine wpAny_storeName_local hk hn (fun h' hn' hs => ?_) hcls
    obtain ⟨oL, _, _, hoL, _⟩ := id hn
    refine h _ ⟨I.ok, I.os, I.bare, ⟨fun b o e n hb hx => ?_, fun b o e n hb hx => ?_, I.base.free, fun b o e hx => ?_, I.base.tups, I.base.frzs, I.base.tbls⟩, ⟨_, hn', fun j y v' e1 e2 e3 => ?_⟩, fun y c e => ?_, I.free, I.freeC, fun p hp => ?_, tracked ⟨oL, hoL, I.free⟩ hs, by simpa using I.len⟩ ⟨_, hs, .inl rfl⟩
    · exact (hs.2 b (Nat.ne_of_lt (Nat.lt_of_lt_of_le (Heap.lt_size e) I.ok.above))).trans (I.base.keep b o e n hb hx)
    · obtain ⟨sl, e1⟩ := I.base.slot b o e n hb hx
      exact ⟨sl, (hs.2 b (Nat.ne_of_lt (Nat.lt_of_lt_of_le (Heap.lt_size e) I.ok.above))).trans e1⟩
    · obtain ⟨o', e1⟩ := I.base.there b o e hx
      exact ⟨o', (hs.2 b (Nat.ne_of_lt (Nat.lt_of_lt_of_le (Heap.lt_size e) I.ok.above))).trans e1⟩
    · by_cases hj : j = i
      · subst hj
        rw [hi] at e1; cases e1
        rw [List.getElem?_set_self hiσ] at e2
        cases e2
        exact ⟨u, r, .inl ⟨hk, by simp⟩⟩
      · rw [List.getElem?_set_ne (Ne.symm hj)] at e2
        obtain ⟨u', r', q⟩ := hl j y v' e1 e2 e3
        refine ⟨u', r', ?_⟩
        rcases q with ⟨k, e⟩ | ⟨k, c, e, z⟩
        · refine .inl ⟨k, ?_⟩
          have : y ≠ x := fun e => hj (nodup_ix hN e1 (e ▸ hi))
          simp [this, e]
        · exact .inr ⟨k, c, e, z.sameBut hs (cne y c e)⟩
    · obtain ⟨w', z⟩ := I.cell y c e
      exact ⟨w', z.sameBut hs (cne y c e)⟩
    · obtain ⟨e, n, ne, nf, d⟩ := I.pin p hp
      exact ⟨(hs.2 p.1 ne).trans e, n, ne, nf, d⟩
  · have hfn : X.fn x = true := by
      rcases hf with z | z
      · exact z
      · rw [z] at hk; cases hk
    obtain ⟨c, hc⟩ := I.ok.has x (.inl hk)
    obtain ⟨w', z⟩ := I.cell x c hc
    refine wpAny_storeName_cell I.ok.kind hk hc z (fun h' hc' hs => ?_)
    obtain ⟨oc, hoc, hocd⟩ := id z
    refine h { s with heap := h' } ⟨I.ok, I.os, I.bare, ⟨fun b o e n hb hx => ?_, fun b o e n hb hx => ?_, I.base.free, fun b o e hx => ?_, I.base.tups, I.base.frzs, I.base.tbls⟩, ⟨m, hn.sameBut hs (Ne.symm (cne x c hc)), fun j y v' e1 e2 e3 => ?_⟩, fun y c' e => ?_, I.free, I.freeC, fun p hp => ?_, tracked ⟨oc, hoc, I.freeC x c hc⟩ hs, by simpa using I.len⟩ ⟨c, hs, .inr hc⟩
    · exact (hs.2 b (Nat.ne_of_lt (Nat.lt_of_lt_of_le (Heap.lt_size e) (I.ok.cab x c hfn hc)))).trans (I.base.keep b o e n hb hx)
    · obtain ⟨sl, e1⟩ := I.base.slot b o e n hb hx
      exact ⟨sl, (hs.2 b (Nat.ne_of_lt (Nat.lt_of_lt_of_le (Heap.lt_size e) (I.ok.cab x c hfn hc)))).trans e1⟩
    · obtain ⟨o', e1⟩ := I.base.there b o e hx
      exact ⟨o', (hs.2 b (Nat.ne_of_lt (Nat.lt_of_lt_of_le (Heap.lt_size e) (I.ok.cab x c hfn hc)))).trans e1⟩
    · by_cases hj : j = i
      · subst hj
        rw [hi] at e1; cases e1
        rw [List.getElem?_set_self hiσ] at e2
        cases e2
        exact ⟨u, r, .inr ⟨.inl hk, c, hc, hc'⟩⟩
      · rw [List.getElem?_set_ne (Ne.symm hj)] at e2
        obtain ⟨u', r', q⟩ := hl j y v' e1 e2 e3
        refine ⟨u', r', ?_⟩
        rcases q with q | ⟨k, c', e, z'⟩
        · exact .inl q
        · refine .inr ⟨k, c', e, z'.sameBut hs ?_⟩
          rintro rfl
          exact hj (nodup_ix hN e1 (I.ok.inj _ _ _ e hc ▸ hi))
    · by_cases hcc : c' = c
      · subst hcc; exact ⟨_, hc'⟩
      · obtain ⟨w2, z2⟩ := I.cell y c' e
        exact ⟨w2, z2.sameBut hs hcc⟩
    · obtain ⟨e, n, ne, nf, d⟩ := I.pin p hp
      refine ⟨(hs.2 p.1 ?_).trans e, n, ne, nf, d⟩
      intro q
      rw [q, hoc] at e
      have q' : oc = p.2 := Option.some.inj e
      exact d w' (by rw [← q']; exact hocd)
theorem store_ok {M : Model} {A : Around} {E : Value → Shared → Prop} {i : Nat} {x : Str} {v : V} {u : Value} {Q : Unit → Shared → Prop} (I : Inv X pins σ H s) (hN : X.N.Nodup) (hi : X.N[i]? = some x) (hx : Loc X.env.scope x) (r : RelV v u)
    (h : ∀ s', Inv X pins (σ.set i (some v)) H s' → Q () s') (hf : X.fn x = true ∨ X.env.scope.names.lookup x = some .local := by with_unfolding_all (first | exact .inl rfl | exact .inr rfl | assumption)) : wpAny M A (storeName X.env x u) Q E s :=
  store_ok2 I hN hi hx r (fun s' I' _ => h s' I') hf
theorem Inv.call' {s' : Shared} {ch : List Addr} (I : Inv X pins σ H s) (ho : s'.os = s.os) (u : Un (frs X.stack) ch H H' s.heap s'.heap) (hok : HOk X.prog X.w H' s'.heap) (hg : AllBare s'.gens)
    (hch : ∀ b ∈ ch, (b ∈ X.ex ∨ X.s₀.heap.objs.size ≤ b) ∧ b ≠ X.env.locals ∧ (∀ x c, X.env.cells.lookup x = some c → c ≠ b) ∧ ∀ p ∈ X.pn ++ pins, p.1 ≠ b) : Inv X pins σ H' s' := by
  obtain ⟨h', g', d', t', o'⟩ := s'
  have e : o' = s.os := ho
  subst e
  exact I.call (g' := g') (t' := t') (d' := d') u hok hg hch
end
noncomputable abbrev XK := Value → Option Addr → Hp → Prop
noncomputable abbrev St := List (Option V)
noncomputable abbrev VK := V → Hp → Prop
noncomputable abbrev TE := St → Hp → VK → Prop
noncomputable abbrev TT := St → Hp → (Bool → Hp → Prop) → Prop
noncomputable abbrev TA := St → Hp → (List V → Hp → Prop) → Prop
structure Ends where
  nx : St → Hp → Prop
  rt : VK
  bk : St → Hp → Prop := fun _ _ => False
  ct : St → Hp → Prop := fun _ _ => False
noncomputable abbrev TS := Ends → St → Hp → Prop
noncomputable def EP (X : Cx) (pins : List (Addr × Obj)) (σ : St) (Q : VK) (u : Value) (s' : Shared) : Prop := ∃ v H', Inv X pins σ H' s' ∧ RelV v u ∧ Q v H'
noncomputable def TP (X : Cx) (pins : List (Addr × Obj)) (σ : St) (Q : Bool → Hp → Prop) (b : Bool) (s' : Shared) : Prop := ∃ H', Inv X pins σ H' s' ∧ Q b H'
noncomputable def AP (X : Cx) (pins : List (Addr × Obj)) (σ : St) (Q : List V → Hp → Prop) (us : List Value) (s' : Shared) : Prop := ∃ vs H', Inv X pins σ H' s' ∧ Vals vs us ∧ Q vs H'
noncomputable def SP (X : Cx) (pins : List (Addr × Obj)) (D : Ends) (f : Flow) (s' : Shared) : Prop :=
  match f with
  | .next => ∃ σ' H', Inv X pins σ' H' s' ∧ D.nx σ' H'
  | .brk => ∃ σ' H', Inv X pins σ' H' s' ∧ D.bk σ' H'
  | .cont => ∃ σ' H', Inv X pins σ' H' s' ∧ D.ct σ' H'
  | .ret u => ∃ v σ' H', Inv X pins σ' H' s' ∧ RelV v u ∧ D.rt v H'
noncomputable def PE (X : Cx) (e : Expr) (t : TE) : Prop :=
  ∀ (pins : List (Addr × Obj)) (s : Shared) (σ : St) (H : Hp) (Q : VK), Inv X pins σ H s → t σ H Q → wpAny (model X.prog X.w) X.A (eval e X.env) (EP X pins σ Q) X.xe s
noncomputable def PT (X : Cx) (e : Expr) (t : TT) : Prop :=
  ∀ (pins : List (Addr × Obj)) (s : Shared) (σ : St) (H : Hp) (Q : Bool → Hp → Prop), Inv X pins σ H s → t σ H Q → wpAny (model X.prog X.w) X.A (isTrue e X.env (eval e X.env)) (TP X pins σ Q) X.xe s
noncomputable def PW (X : Cx) (e : Expr) (t : TT) : Prop :=
  ∀ (whole : Sem Value) (pins : List (Addr × Obj)) (s : Shared) (σ : St) (H : Hp) (Q : Bool → Hp → Prop), Inv X pins σ H s → t σ H Q → wpAny (model X.prog X.w) X.A (isTrue e X.env whole) (TP X pins σ Q) X.xe s
theorem PW.pt {X : Cx} {e : Expr} {t : TT} (h : PW X e t) : PT X e t := h _
noncomputable def PA (X : Cx) (es : List Expr) (t : TA) : Prop :=
  ∀ (pos : Pos) (pins : List (Addr × Obj)) (s : Shared) (σ : St) (H : Hp) (Q : List V → Hp → Prop), Inv X pins σ H s → t σ H Q → wpAny (model X.prog X.w) X.A (spliced (backTo pos (starEach es X.env))) (AP X pins σ Q) X.xe s
noncomputable def PS (X : Cx) (st : Stmt) (t : TS) : Prop :=
  ∀ (pins : List (Addr × Obj)) (s : Shared) (σ : St) (H : Hp) (D : Ends), Inv X pins σ H s → t D σ H → wpAny (model X.prog X.w) X.A (exec st X.env) (SP X pins D) X.xe s
noncomputable def PSs (X : Cx) (st : List Stmt) (t : TS) : Prop :=
  ∀ (pins : List (Addr × Obj)) (s : Shared) (σ : St) (H : Hp) (D : Ends), Inv X pins σ H s → t D σ H → wpAny (model X.prog X.w) X.A (execs st X.env) (SP X pins D) X.xe s
theorem thn {α : Type} {t : Sem α} {Q Q' : α → Shared → Prop} {M : Model} {A : Around} {E : Value → Shared → Prop} {s : Shared} (h : wpAny M A t Q E s) (hQ : ∀ a s, Q a s → Q' a s) : wpAny M A t Q' E s := wpAny_mono h hQ fun _ _ x => x
end L2
namespace L2
open PySem PySem.Spec PyProof.Rows
section
variable {X : Cx}
noncomputable def tVar (i : Nat) : TE := fun σ H Q => ∃ v, σ[i]? = some (some v) ∧ Q v H
noncomputable def tC (v : V) : TE := fun _ H Q => Q v H
theorem pe_var {i : Nat} {x : Str} {pos : Pos} (hN : X.N[i]? = some x) (hv : Vis X.env.scope x) (hd : (x == ("__debug__" : Str)) = false := by decide) (hcd : (x == ("__classdict__" : Str)) = false := by decide) : PE X (.Name x pos) (tVar i) := by
  intro pins s σ H Q I h
  obtain ⟨v, e, h⟩ := h
  obtain ⟨m, hn, hl⟩ := I.loc
  obtain ⟨u, r, l⟩ := hl i x v hN e hv
  have fin : EP X pins σ Q u s := ⟨v, H, I, r, h⟩
  rcases l with ⟨hk, hm⟩ | ⟨hk, c, hc, hcell⟩
  · exact wpAny_Name (wpAny_loadName_local I.ok.kind hk hn hm fin) hd
  · rcases hk with hk | hk
    · exact wpAny_Name (wpAny_loadName_cell I.ok.kind hk hc hcell fin) hd
    · exact wpAny_Name (wpAny_loadName_free I.ok.kind hk hc hcell fin hcd) hd
theorem pe_int {i j pos} : PE X (.Constant (.int i) j pos) (tC (.int i)) := fun _ _ _ H _ I h => wpAny_Constant_int ⟨.int i, H, I.tok _, ⟨_, rfl⟩, h⟩
theorem pe_bl {b j pos} : PE X (.Constant (.bool b) j pos) (tC (.bl b)) := fun _ _ _ H _ I h => Constant_bool ⟨.bl b, H, I, rfl, h⟩
theorem pe_non {j pos} : PE X (.Constant .none j pos) (tC .non) := fun _ _ _ H _ I h => Constant_none ⟨.non, H, I, rfl, h⟩
theorem pe_str {x j pos} : PE X (.Constant (.str x) j pos) (tC (.str x)) := fun _ _ _ H _ I h => Calls.Constant_str ⟨.str x, H, I.tok _, ⟨_, rfl⟩, h⟩
noncomputable def Gl (X : Cx) (x : Str) : Prop := X.env.kindOf x = some .globalImplicit
theorem ld_glob {E : Value → Shared → Prop} {pins : List (Addr × Obj)} {s : Shared} {σ : St} {H : Hp} {x : Str} {u : Value} {pos : Pos} {Q : Value → Shared → Prop} (I : Inv X pins σ H s) (hg : Gl X x) (hm : X.mg x = some u) (h : Q u s)
    (hd : (x == ("__debug__" : Str)) = false := by decide) : wpAny (model X.prog X.w) X.A (eval (.Name x pos) X.env) Q E s :=
  Calls.Name_function_global I.ok.kind hg (Calls.loadGlobal_global (by rw [I.ok.glob]; exact I.mod.glob.keeps I.bk) hm h) hd
theorem ld_blt {E : Value → Shared → Prop} {pins : List (Addr × Obj)} {s : Shared} {σ : St} {H : Hp} {x : Str} {u : Value} {pos : Pos} {Q : Value → Shared → Prop} (I : Inv X pins σ H s) (hg : Gl X x) (hm : X.mg x = none) (hv : bootBuiltins x = some u) (h : Q u s)
    (hn : x ≠ "__name__" := by decide) (hd : (x == ("__debug__" : Str)) = false := by decide) : wpAny (model X.prog X.w) X.A (eval (.Name x pos) X.env) Q E s := by
  obtain ⟨mb, h1, h2⟩ := I.mod.blt
  exact Calls.Name_function_global I.ok.kind hg (Calls.loadGlobal_builtin (by rw [I.ok.glob]; exact I.mod.glob.keeps I.bk) hm (by rw [I.ok.blt]; exact h1.keeps I.bk) ((h2 x hn).trans hv) h) hd
theorem pe_glob {x : Str} {v : V} {u : Value} {pos : Pos} (hg : Gl X x) (hm : X.mg x = some u) (r : RelV v u) (hd : (x == ("__debug__" : Str)) = false := by decide) : PE X (.Name x pos) (tC v) :=
  fun _ _ _ H _ I h => ld_glob I hg hm ⟨v, H, I, r, h⟩ hd
theorem pe_bltn {x : Str} {v : V} {u : Value} {pos : Pos} (hg : Gl X x) (hm : X.mg x = none) (hv : bootBuiltins x = some u) (r : RelV v u) (hn : x ≠ "__name__" := by decide) (hd : (x == ("__debug__" : Str)) = false := by decide) : PE X (.Name x pos) (tC v) :=
  fun _ _ _ H _ I h => ld_blt I hg hm hv ⟨v, H, I, r, h⟩ hn hd
variable {a b : Expr} {ta tb : TE} {pos : Pos}
noncomputable def tB (t : TE) : TT := fun σ H Q => t σ H fun x H1 => ∃ c, x = .bl c ∧ Q c H1
theorem pt_val {e : Expr} {t : TE} (h : PE X e t) (he : ∀ whole, isTrue e X.env whole = (do let v ← whole; standAt e.pos; holding [v] (truthy v)) := by intro _; with_unfolding_all rfl) : PT X e (tB t) := by
  intro pins s σ H Q I hw
  refine isTrue_plain (thn (h pins s σ H _ I hw) fun v s1 ⟨x, H1, I1, r1, q1⟩ => ?_) (he _)
  obtain ⟨d, rfl, q⟩ := q1
  cases r1
  exact wpAny_truthy_bool ⟨H1, I1, q⟩
variable {tA tB' : TT} {rest : List Expr}
noncomputable def tAnd (t u : TT) : TT := fun σ H Q => t σ H fun c H1 => if c = true then u σ H1 Q else Q false H1
noncomputable def tOr (t u : TT) : TT := fun σ H Q => t σ H fun c H1 => if c = true then Q true H1 else u σ H1 Q
noncomputable def tNot (t : TT) : TT := fun σ H Q => t σ H fun c H1 => Q (!c) H1
theorem pw_and1 (ha : PT X a tA) : PW X (.BoolOp .And [a] pos) tA := by
  intro wh pins s σ H Q I h
  refine isTrue_and (thn (ha pins s σ H Q I h) fun c s1 e => ?_)
  cases c with
  | true => exact isTrue_and_nil e
  | false => exact e
theorem pw_or1 (ha : PT X a tA) : PW X (.BoolOp .Or [a] pos) tA := by
  intro wh pins s σ H Q I h
  refine isTrue_or (thn (ha pins s σ H Q I h) fun c s1 e => ?_)
  cases c with
  | false => exact isTrue_or_nil e
  | true => exact e
theorem pw_and (ha : PT X a tA) (hb : PW X (.BoolOp .And (b :: rest) pos) tB') : PW X (.BoolOp .And (a :: b :: rest) pos) (tAnd tA tB') := by
  intro wh pins s σ H Q I h
  refine isTrue_and (thn (ha pins s σ H _ I h) fun c s1 ⟨H1, I1, q1⟩ => ?_)
  cases c with
  | true => exact hb wh pins s1 σ H1 Q I1 q1
  | false => exact ⟨H1, I1, q1⟩
theorem pw_or (ha : PT X a tA) (hb : PW X (.BoolOp .Or (b :: rest) pos) tB') : PW X (.BoolOp .Or (a :: b :: rest) pos) (tOr tA tB') := by
  intro wh pins s σ H Q I h
  refine isTrue_or (thn (ha pins s σ H _ I h) fun c s1 ⟨H1, I1, q1⟩ => ?_)
  cases c with
  | true => exact ⟨H1, I1, q1⟩
  | false => exact hb wh pins s1 σ H1 Q I1 q1
theorem pt_not (ha : PT X a tA) : PT X (.UnaryOp .Not a pos) (tNot tA) := by
  intro pins s σ H Q I h
  exact isTrue_not (ha pins s σ H (fun c H1 => Q (!c) H1) I h)
noncomputable def tAndV (ta tb : TE) : TE := fun σ H Q => ta σ H fun x H1 => ∃ c, x = .bl c ∧ if c = true then tb σ H1 Q else Q (.bl false) H1
theorem pe_one {op} {t : TE} (h : PE X a t) : PE X (.BoolOp op [a] pos) t := fun pins s σ H Q I hw => BoolOp_one (h pins s σ H Q I hw)
theorem pe_and (ha : PE X a ta) (hb : PE X (.BoolOp .And (b :: rest) pos) tb) : PE X (.BoolOp .And (a :: b :: rest) pos) (tAndV ta tb) := by
  intro pins s σ H Q I h
  refine BoolOp_and (thn (ha pins s σ H _ I h) fun v s1 ⟨x, H1, I1, r1, q1⟩ => ?_)
  obtain ⟨c, rfl, q1⟩ := q1
  cases r1
  refine wpAny_truthy_bool ?_
  cases c with
  | true => exact hb pins s1 σ H1 Q I1 q1
  | false => exact ⟨.bl false, H1, I1, rfl, q1⟩
noncomputable def tIf (t : TT) (ta tb : TE) : TE := fun σ H Q => t σ H fun c H1 => if c = true then ta σ H1 Q else tb σ H1 Q
theorem pe_ifExp {c : Expr} (hc : PT X c tA) (ha : PE X a ta) (hb : PE X b tb) : PE X (.IfExp c a b pos) (tIf tA ta tb) := by
  intro pins s σ H Q I h
  refine wpAny_IfExp (thn (hc pins s σ H _ I h) fun d s1 ⟨H1, I1, q1⟩ => ?_)
  cases d with
  | true => exact ha pins s1 σ H1 Q I1 q1
  | false => exact hb pins s1 σ H1 Q I1 q1
end
end L2
namespace L2
open PySem PySem.Spec PyProof.Rows
noncomputable def SqL (K : PySem.W.Frag) (H : Hp) (a : Addr) (xs : List V) : Prop :=
  Rd H a (.lst xs) ∨
    ∃ (o : Obj) (its : Array Value) (n : Nat), K.lookup a = some o ∧ o.cls = .type "list" ∧ o.dict = none ∧ o.data = .seq its n ∧ its.size ≤ sizeLine ∧ Vals xs its.toList
noncomputable def SqT (K : PySem.W.Frag) (H : Hp) (a : Addr) (xs : List V) : Prop :=
  Rd H a (.tup xs) ∨
    ∃ (o : Obj) (its : Array Value) (n : Nat), K.lookup a = some o ∧ o.cls = .type "tuple" ∧ o.data = .seq its n ∧ its.size ≤ sizeLine ∧ Vals xs its.toList ∧ o.dict = none
noncomputable def absV : Value → Option V
  | .none => some .non
  | .bool b => some (.bl b)
  | .int i _ => some (.int i)
  | .str x _ => some (.str x)
  | .bytes b _ => some (.byt b)
  | .float b _ => some (.flt b)
  | .ref a => some (.ref a)
  | .type n => some (.ty n)
  | _ => none
theorem RelV.abs {x : V} {u : Value} (r : RelV x u) : absV u = some x := by
  cases x with
  | non => cases r; rfl
  | bl _ => cases r; rfl
  | int _ => obtain ⟨t, rfl⟩ := r; rfl
  | str _ => obtain ⟨t, rfl⟩ := r; rfl
  | byt _ => obtain ⟨t, rfl⟩ := r; rfl
  | flt _ => obtain ⟨t, rfl⟩ := r; rfl
  | ref _ => cases r; rfl
  | ty _ => cases r; rfl
theorem RelV.inj {x y : V} {u : Value} (r : RelV x u) (q : RelV y u) : x = y := Option.some.inj (r.abs.symm.trans q.abs)
theorem Vals.inj : ∀ {xs ys : List V} {us : List Value}, Vals xs us → Vals ys us → xs = ys
  | _, _, _, .nil, .nil => rfl
  | _, _, _, .cons r t, .cons r' t' => by rw [r.inj r', Vals.inj t t']
section
variable {X : Cx} {pins : List (Addr × Obj)} {σ : St} {H : Hp} {s : Shared} {a : Addr} {xs ys : List V}
theorem SqL.of {K : PySem.W.Frag} (h : H a = some (.lst xs)) : SqL K H a xs := .inl (.inl h)
theorem SqT.of {K : PySem.W.Frag} (h : H a = some (.tup xs)) : SqT K H a xs := .inl (.inl h)
theorem Inv.list (I : Inv X pins σ H s) (h : SqL X.K H a xs) : ∃ its : List Value, Vals xs its ∧ PlainL s.heap a its.toArray ∧ xs.length ≤ sizeLine := by
  rcases h with h | ⟨o, its, n, hk, hc, hd, hs, hz, r⟩
  · obtain ⟨z, its, n, r, e⟩ := h.ok I.hok
    exact ⟨its, r, ⟨_, n, e, rfl, rfl, rfl⟩, z⟩
  · refine ⟨its.toList, r, ⟨o, n, I.kIn a o hk, hc, hd, by simpa using hs⟩, ?_⟩
    have e := r.length
    simp only [Array.length_toList] at e
    omega
theorem Inv.tuple (I : Inv X pins σ H s) (h : SqT X.K H a xs) : ∃ its : List Value, Vals xs its ∧ IsTup s.heap a its.toArray ∧ xs.length ≤ sizeLine := by
  rcases h with h | ⟨o, its, n, hk, hc, hs, hz, r, hn⟩
  · obtain ⟨z, its, r, p⟩ := h.ok I.hok
    exact ⟨its, r, p.tup, z⟩
  · refine ⟨its.toList, r, ⟨o, I.kIn a o hk, hc, n, by simpa using hs⟩, ?_⟩
    have e := r.length
    simp only [Array.length_toList] at e
    omega
theorem Inv.tupleN (I : Inv X pins σ H s) (h : SqT X.K H a xs) : ∃ ob, s.heap.get? a = some ob ∧ ob.dict = none := by
  rcases h with h | ⟨o, its, n, hk, hc, hs, hz, r, hn⟩
  · obtain ⟨z, its, r, o, h1, _, _, h2⟩ := h.ok I.hok
    exact ⟨o, h1, h2⟩
  · exact ⟨o, I.kIn a o hk, hn⟩
theorem Inv.list_inj (I : Inv X pins σ H s) (h : SqL X.K H a xs) (h' : SqL X.K H a ys) : xs = ys := by
  obtain ⟨its, r, ⟨o, n, e, _, _, d⟩, _⟩ := I.list h
  obtain ⟨its', r', ⟨o', n', e', _, _, d'⟩, _⟩ := I.list h'
  rw [e] at e'; cases e'
  rw [d] at d'
  injection d' with d1 _
  have : its = its' := by simpa using congrArg Array.toList d1
  subst this
  exact r.inj r'
theorem Inv.tuple_inj (I : Inv X pins σ H s) (h : SqT X.K H a xs) (h' : SqT X.K H a ys) : xs = ys := by
  obtain ⟨its, r, ⟨o, e, _, n, d⟩, _⟩ := I.tuple h
  obtain ⟨its', r', ⟨o', e', _, n', d'⟩, _⟩ := I.tuple h'
  rw [e] at e'; cases e'
  rw [d] at d'
  injection d' with d1 _
  have : its = its' := by simpa using congrArg Array.toList d1
  subst this
  exact r.inj r'
end
noncomputable abbrev Cx.wish (X : Cx) (E : Value → Shared → Prop) : Cx := { X with xe := E }
noncomputable abbrev Cx.nox (X : Cx) : Cx := X.wish fun _ _ => False
theorem Cx.Ok.wish {X : Cx} (ok : X.Ok) (E : Value → Shared → Prop) : (X.wish E).Ok :=
  ⟨ok.mod, ok.kind, ok.glob, ok.blt, ok.above, ok.inj, ok.has, ok.cab, ok.hd, ok.frames, ok.stk, ok.exf, ok.bs, ok.bsz, ok.noex, ok.exfs, ok.funs, ok.frf⟩
theorem Cx.Ok.unwish {X : Cx} {E : Value → Shared → Prop} (ok : (X.wish E).Ok) : X.Ok :=
  ⟨ok.mod, ok.kind, ok.glob, ok.blt, ok.above, ok.inj, ok.has, ok.cab, ok.hd, ok.frames, ok.stk, ok.exf, ok.bs, ok.bsz, ok.noex, ok.exfs, ok.funs, ok.frf⟩
section
variable {X : Cx} {pins : List (Addr × Obj)} {σ : St} {H : Hp} {s : Shared} {E : Value → Shared → Prop}
theorem Inv.wish (I : Inv X pins σ H s) (E : Value → Shared → Prop) : Inv (X.wish E) pins σ H s := ⟨I.ok.wish E, I.os, I.bare, I.base, I.loc, I.cell, I.free, I.freeC, I.pin, I.hok, I.len⟩
theorem Inv.unwish (I : Inv (X.wish E) pins σ H s) : Inv X pins σ H s := ⟨I.ok.unwish, I.os, I.bare, I.base, I.loc, I.cell, I.free, I.freeC, I.pin, I.hok, I.len⟩
theorem SP.unwish {D : Ends} {f : Flow} {s' : Shared} (h : SP (X.wish E) pins D f s') : SP X pins D f s' := by
  cases f with
  | next => obtain ⟨σ', H', I, q⟩ := h; exact ⟨σ', H', I.unwish, q⟩
  | brk => obtain ⟨σ', H', I, q⟩ := h; exact ⟨σ', H', I.unwish, q⟩
  | cont => obtain ⟨σ', H', I, q⟩ := h; exact ⟨σ', H', I.unwish, q⟩
  | ret u => obtain ⟨v, σ', H', I, r, q⟩ := h; exact ⟨v, σ', H', I.unwish, r, q⟩
theorem PSs.nox {st : List Stmt} {t : TS} (h : PSs X.nox st t) : PSs X st t := fun pins s σ H D I hw =>
  wpAny_mono (h pins s σ H D (I.wish _) hw) (fun _ _ q => q.unwish) fun _ _ z => False.elim z
end
section
variable {X : Cx} {st : Stmt} {rest : List Stmt} {t u : TS} {e : Expr} {te : TE} {pos : Pos}
noncomputable def tNext : TS := fun D σ H => D.nx σ H
noncomputable def tSeq (t u : TS) : TS := fun D σ H => t { D with nx := u D } σ H
theorem pss_nil : PSs X [] tNext := fun _ _ σ H _ I h => wpAny_execs_nil ⟨σ, H, I, h⟩
theorem pss_cons (h1 : PS X st t) (h2 : PSs X rest u) : PSs X (st :: rest) (tSeq t u) := by
  intro pins s σ H D I h
  refine wpAny_execs_cons (thn (h1 pins s σ H { D with nx := u D } I h) fun f s1 q => ?_)
  cases f with
  | next =>
    obtain ⟨σ', H', I', q⟩ := q
    exact h2 pins s1 σ' H' D I' q
  | ret v => exact q
  | brk => exact q
  | cont => exact q
theorem pss_one (h1 : PS X st t) : PSs X [st] t := by
  intro pins s σ H D I h
  refine wpAny_execs_cons (thn (h1 pins s σ H D I h) fun f s1 q => ?_)
  cases f with
  | next => exact wpAny_execs_nil q
  | ret v => exact q
  | brk => exact q
  | cont => exact q
theorem Inv.quiet {pins : List (Addr × Obj)} {σ : St} {H : Hp} {s : Shared} (I : Inv X pins σ H s) : interactive X.env = false := by simp [interactive, I.ok.kind]
noncomputable def tDrop (te : TE) : TS := fun D σ H => te σ H fun _ H1 => D.nx σ H1
theorem ps_expr (he : PE X e te) (hs : swapsWith e none pos.line X.env = pure false := by with_unfolding_all rfl) : PS X (.Expr e pos) (tDrop te) := by
  intro pins s σ H D I h
  exact wpAny_Expr_any (thn (he pins s σ H _ I h) fun v s1 ⟨x, H1, I1, r1, q1⟩ => ⟨σ, H1, I1, q1⟩) I.quiet hs
noncomputable def tRet (te : TE) : TS := fun D σ H => te σ H D.rt
theorem ps_ret (he : PE X e te) : PS X (.Return (some e) pos) (tRet te) := by
  intro pins s σ H D I h
  exact wpAny_Return_some (thn (he pins s σ H _ I h) fun v s1 ⟨x, H1, I1, r1, q1⟩ => ⟨x, σ, H1, I1, r1, q1⟩)
noncomputable def tIfS (c : TT) (t u : TS) : TS := fun D σ H => c σ H fun b H1 => if b = true then t D σ H1 else u D σ H1
theorem ps_if {c : Expr} {a b : List Stmt} {tc : TT} (hc : PT X c tc) (ha : PSs X a t) (hb : PSs X b u) : PS X (.If c a b pos) (tIfS tc t u) := by
  intro pins s σ H D I h
  refine wpAny_If (thn (hc pins s σ H _ I h) fun d s1 ⟨H1, I1, q1⟩ => ?_)
  cases d with
  | true => exact ha pins s1 σ H1 D I1 q1
  | false => exact hb pins s1 σ H1 D I1 q1
end
noncomputable abbrev TG := V → St → Hp → (St → Hp → Prop) → Prop
noncomputable abbrev TGs := List V → St → Hp → (St → Hp → Prop) → Prop
noncomputable def PG (X : Cx) (target : Expr) (t : TG) : Prop :=
  ∀ (pins : List (Addr × Obj)) (s : Shared) (σ : St) (H : Hp) (v : V) (u : Value) (Q : St → Hp → Prop), Inv X pins σ H s → RelV v u → t v σ H Q →
    wpAny (model X.prog X.w) X.A (assign target X.env u) (fun _ s' => ∃ σ' H', Inv X pins σ' H' s' ∧ Q σ' H') X.xe s
noncomputable def PGs (X : Cx) (ts : List Expr) (t : TGs) : Prop :=
  ∀ (pins : List (Addr × Obj)) (s : Shared) (σ : St) (H : Hp) (vs : List V) (us : List Value) (Q : St → Hp → Prop), Inv X pins σ H s → Vals vs us → t vs σ H Q →
    wpAny (model X.prog X.w) X.A (assignInOrder ((assignEach ts X.env).map (·.2)) us) (fun _ s' => ∃ σ' H', Inv X pins σ' H' s' ∧ Q σ' H') X.xe s
section
variable {X : Cx} {pos : Pos}
noncomputable def gName (i : Nat) : TG := fun v σ H Q => Q (σ.set i (some v)) H
theorem pg_name {i : Nat} {x : Str} (hN : X.N.Nodup) (hi : X.N[i]? = some x) (hx : Loc X.env.scope x) (hf : X.fn x = true ∨ X.env.scope.names.lookup x = some .local := by with_unfolding_all (first | exact .inl rfl | exact .inr rfl | assumption)) : PG X (.Name x pos) (gName i) := by
  intro pins s σ H v u Q I r h
  exact wpAny_assign_Name (store_ok I hN hi hx r (fun s' I' => ⟨_, H, I', h⟩) hf)
noncomputable def gNil : TGs := fun vs σ H Q => vs = [] ∧ Q σ H
noncomputable def gCons (t : TG) (u : TGs) : TGs := fun vs σ H Q => ∃ v r, vs = v :: r ∧ t v σ H fun σ' H' => u r σ' H' Q
theorem pgs_nil : PGs X [] gNil := by
  intro pins s σ H vs us Q I r h
  obtain ⟨e, h⟩ := h
  subst e
  cases r
  exact assignInOrder_nil ⟨σ, H, I, h⟩
theorem pgs_cons {e : Expr} {es : List Expr} {t : TG} {u : TGs} (h1 : PG X e t) (h2 : PGs X es u)
    (hs : (assignEach (e :: es) X.env).map (·.2) = assign e X.env :: (assignEach es X.env).map (·.2) := by with_unfolding_all rfl) : PGs X (e :: es) (gCons t u) := by
  intro pins s σ H vs us Q I r h
  obtain ⟨v, vr, e1, h⟩ := h
  subst e1
  cases r with
  | cons r rr =>
    rw [hs]
    refine assignInOrder_cons (thn (h1 pins s σ H _ _ _ I r h) fun _ s1 ⟨σ1, H1, I1, q1⟩ => ?_)
    exact h2 pins s1 σ1 H1 _ _ Q I1 rr q1
noncomputable def gTup (K : PySem.W.Frag) (n : Nat) (t : TGs) : TG := fun v σ H Q => ∃ a xs, v = .ref a ∧ SqT K H a xs ∧ xs.length = n ∧ t xs σ H Q
theorem pg_tup {es : List Expr} {k : Nat} {t : TGs} {n : Nat} (hc : X.calm = true) (h : PGs X es t)
    (hn : (assignEach es X.env).length = n := by with_unfolding_all rfl) (hst : (assignEach es X.env).findIdx? (·.1) = none := by with_unfolding_all rfl) : PG X (.Tuple es k pos) (gTup X.K n t) := by
  intro pins s σ H v u Q I r hw
  obtain ⟨a, xs, e1, hq, hl, hw⟩ := hw
  subst e1
  cases r
  obtain ⟨its, rv, ht, hz⟩ := I.tuple hq
  refine assign_Tuple_tuple (I.ok.hd hc) ht (by simp [hn, ← hl, rv.length]) hst fun h' hx => ?_
  have I1 : Inv X pins σ H { s with heap := h' } := I.kept (t' := s.toks) fun b o e => hx b o (Nat.ne_of_lt (Heap.lt_size e)) e
  exact h pins _ σ H xs _ Q I1 (by simpa using rv) hw
noncomputable def tAsg (te : TE) (g : TG) : TS := fun D σ H => te σ H fun x H1 => g x σ H1 D.nx
theorem ps_asg {tg e : Expr} {te : TE} {g : TG} (he : PE X e te) (hg : PG X tg g) (hs : swapsWithSole [tg] e pos.line X.env = pure false := by with_unfolding_all rfl) (hw : swappedStores [tg] e X.env = pure none := by with_unfolding_all rfl)
    (h1 : (assignEach [tg] X.env).map (·.2) = [assign tg X.env] := by with_unfolding_all rfl) : PS X (.Assign [tg] e pos) (tAsg te g) := by
  intro pins s σ H D I h
  refine wpAny_Assign_stores (thn (he pins s σ H _ I h) fun v s1 ⟨x, H1, I1, r1, q1⟩ => ?_) hs hw
  rw [h1]
  exact thn (hg pins s1 σ H1 x v _ I1 r1 q1) fun _ s2 q => q
theorem ps_set {i : Nat} {x : Str} {e : Expr} {te : TE} {pos' : Pos} (hN : X.N.Nodup) (hi : X.N[i]? = some x) (hx : Loc X.env.scope x) (he : PE X e te) (hs : swapsWith e (some (.Name x pos')) pos.line X.env = pure false := by with_unfolding_all rfl) (hf : X.fn x = true ∨ X.env.scope.names.lookup x = some .local := by with_unfolding_all (first | exact .inl rfl | exact .inr rfl | assumption)) :
    PS X (.Assign [.Name x pos'] e pos) (tAsg te (gName i)) := by
  intro pins s σ H D I h
  refine wpAny_Assign_Name (thn (he pins s σ H _ I h) fun v s1 ⟨y, H1, I1, r1, q1⟩ => ?_) hs
  exact store_ok I1 hN hi hx r1 (fun s2 I2 => ⟨_, H1, I2, q1⟩) hf
end
section
variable {X : Cx} {pos : Pos}
end
structure It where
  go : Nat → Hp → Prop
  yld : Nat → Hp → V → Hp → Prop
  stop : Nat → Hp → Prop
noncomputable def FpOk (X : Cx) (pins : List (Addr × Obj)) (H : Hp) (b : Addr) : Prop :=
  H b = none ∧ b ≠ X.env.locals ∧ b ∉ X.fs ∧ (b ∈ X.ex ∨ X.s₀.heap.objs.size ≤ b) ∧ (∀ x c, X.env.cells.lookup x = some c → c ≠ b) ∧ ∀ p ∈ X.pn ++ pins, p.1 ≠ b
theorem Inv.fpOk {X : Cx} {pins : List (Addr × Obj)} {σ : St} {H H' : Hp} {s : Shared} {b : Addr} (I : Inv X pins σ H s) (hb : s.heap.objs.size ≤ b) (hn : H' b = none) : FpOk X pins H' b := by
  refine ⟨hn, Nat.ne_of_gt (Nat.lt_of_lt_of_le I.lt hb), I.nofs hb, .inr (Nat.le_trans I.sz hb), fun x c e z => ?_, fun p hp z => ?_⟩
  · obtain ⟨v, q⟩ := I.cell x c e
    exact absurd (Nat.lt_of_lt_of_le q.lt (by rw [z]; exact hb)) (Nat.lt_irrefl _)
  · exact absurd (Nat.lt_of_lt_of_le (Heap.lt_size (I.pin p hp).1) (by rw [z]; exact hb)) (Nat.lt_irrefl _)
structure Turn (P : Program) (w : World) (K : PySem.W.Frag) (tg : Expr) (J : It) (fp : List Addr) (it : Addr) (tn : Nat → Heap → Prop) : Prop where
  mem : it ∈ fp
  obj : ∀ i h, tn i h → ∀ b ∈ fp, ∃ o, h.get? b = some o ∧ ∀ v, o.data ≠ .cell v
  keep : ∀ i h h', tn i h → (∀ b ∈ fp, ∀ o, h.get? b = some o → h'.get? b = some o) → tn i h'
  item : ∀ (X : Cx), X.prog = P → X.w = w → X.K = K → X.calm = true → ∀ (i : Nat) (pins : List (Addr × Obj)) (s : Shared) (σ : St) (H : Hp) (E : Value → Shared → Prop), Inv X pins σ H s → (∀ b ∈ fp, FpOk X pins H b) → tn i s.heap → J.go i H →
    wpAny (model P w) X.A (pyNext (.ref it)) (fun r s1 => ∃ u, r = some u ∧
      wpAny (model P w) X.A (letOwnedTupleGo tg (.ref it) u) (fun _ s2 => ∃ x H', Inv X pins σ H' s2 ∧ RelV x u ∧ J.yld i H x H' ∧ tn (i + 1) s2.heap ∧ ∀ b ∈ fp, H' b = none) E s1) E s
  done : ∀ (X : Cx), X.prog = P → X.w = w → X.K = K → X.calm = true → ∀ (i : Nat) (pins : List (Addr × Obj)) (s : Shared) (σ : St) (H : Hp) (E : Value → Shared → Prop), Inv X pins σ H s → (∀ b ∈ fp, FpOk X pins H b) → tn i s.heap → J.stop i H →
    wpAny (model P w) X.A (pyNext (.ref it)) (fun r s1 => r = none ∧ Inv X pins σ H s1) E s
  self : ∀ (A : Around) (i : Nat) (s : Shared) (Q : Value → Shared → Prop) (E : Value → Shared → Prop), tn i s.heap → Q (.ref it) s → wpAny (model P w) A (pyIter (.ref it)) Q E s
noncomputable abbrev TI := St → Hp → (It → Hp → Prop) → Prop
noncomputable def PIE (X : Cx) (pins : List (Addr × Obj)) (σ : St) (tg : Expr) (R : It → Hp → Prop) (itv : Value) (s2 : Shared) : Prop :=
  ∃ (it : Addr) (fp : List Addr) (tn : Nat → Heap → Prop) (J : It) (H' : Hp), itv = .ref it ∧ Inv X pins σ H' s2 ∧ Turn X.prog X.w X.K tg J fp it tn ∧ tn 0 s2.heap ∧ (∀ b ∈ fp, FpOk X pins H' b) ∧ R J H'
noncomputable def PI (X : Cx) (tg iter : Expr) (wi : TI) : Prop :=
  ∀ (pins : List (Addr × Obj)) (s : Shared) (σ : St) (H : Hp) (R : It → Hp → Prop), Inv X pins σ H s → wi σ H R →
    wpAny (model X.prog X.w) X.A (eval iter X.env) (fun v s1 => wpAny (model X.prog X.w) X.A (pyIter v) (PIE X pins σ tg R) X.xe s1) X.xe s
theorem go_of {M : Model} {A : Around} {E : Value → Shared → Prop} {s : Shared} {tg : Expr} {it : Addr} {u : Value} {o : Obj} {n : String} {vs : Array Value} {Q : Unit → Shared → Prop} (ho : s.heap.get? it = some o) (hc : o.cls = .type n) (hd : o.data = .fields vs)
    (hn : ["enumerate", "zip", "dict_itemiterator", "dict_reverseitemiterator", "odict_iterator", "itertools.zip_longest", "itertools.pairwise"].contains n = false) (hQ : Q () s) : wpAny M A (letOwnedTupleGo tg (.ref it) u) Q E s := by
  unfold letOwnedTupleGo
  cases tg <;> first
    | exact wpAny_pure hQ
    | (cases u <;> first
        | exact wpAny_pure hQ
        | (refine wpAny_bind (wpAny_load ho ?_)
           rw [hc, hd]
           show wpAny M A (if (["enumerate", "zip", "dict_itemiterator", "dict_reverseitemiterator", "odict_iterator", "itertools.zip_longest", "itertools.pairwise"].contains n && vs[0]? == some (rawInt _)) = true then _ else _) Q E s
           rw [if_neg (by intro h; rw [hn, Bool.false_and] at h; cases h)]
           exact wpAny_pure hQ))
noncomputable def Itl (K : PySem.W.Frag) (a : Addr) : It :=
  ⟨fun i H => ∃ xs x, SqL K H a xs ∧ xs[i]? = some x, fun i H x H' => H' = H ∧ ∀ xs, SqL K H a xs → xs[i]? = some x, fun i H => ∃ xs, SqL K H a xs ∧ xs.length ≤ i⟩
noncomputable def Itt (K : PySem.W.Frag) (a : Addr) : It :=
  ⟨fun i H => ∃ xs x, SqT K H a xs ∧ xs[i]? = some x, fun i H x H' => H' = H ∧ ∀ xs, SqT K H a xs → xs[i]? = some x, fun i H => ∃ xs, SqT K H a xs ∧ xs.length ≤ i⟩
noncomputable def Itr (lo : Int) (n : Nat) : It := ⟨fun i _ => i < n, fun i H x H' => H' = H ∧ x = .int (lo + i), fun i _ => n ≤ i⟩
theorem turn_list {P : Program} {w : World} {K : PySem.W.Frag} {tg : Expr} (a it : Addr) : Turn P w K tg (Itl K a) [it] it (fun i h => h.IsListIter it a i) where
  mem := by simp
  obj := fun i h st b hb => by
    have e : b = it := by simpa using hb
    subst e
    obtain ⟨o, e, c, d⟩ := st
    exact ⟨o, e, fun v z => by rw [d] at z; cases z⟩
  keep := fun i h h' st k => st.at fun o e => k it (by simp) o e
  item := by
    intro X hP hw hK hc i pins s σ H E I hf st hg
    subst hP hw hK
    obtain ⟨xs, x, hq, hx⟩ := hg
    obtain ⟨its, rv, p, hz⟩ := I.list hq
    obtain ⟨u, hu, ru⟩ := rv.get hx
    obtain ⟨f0, f1, f2, f3, f4, f5⟩ := hf it (by simp)
    refine wpAny_pyNext_list_item st p.isList (x := u) (by simpa using hu) fun h' st' sb => ?_
    have I1 : Inv X pins σ H { s with heap := h' } := I.turned (t' := s.toks) (fun b o hb e => (sb.2 b hb).trans e) f0 f1 f3 f4 f5
    obtain ⟨o, e, c, d⟩ := id st'
    exact ⟨u, rfl, go_of (s := { s with heap := h' }) e c d (by decide) ⟨x, H, I1, ru, ⟨rfl, fun ys hy => by rw [I.list_inj hy hq]; exact hx⟩, st', fun b hb => (hf b hb).1⟩⟩
  done := by
    intro X hP hw hK hc i pins s σ H E I hf st hg
    subst hP hw hK
    obtain ⟨xs, hq, hx⟩ := hg
    obtain ⟨its, rv, p, hz⟩ := I.list hq
    obtain ⟨f0, f1, f2, f3, f4, f5⟩ := hf it (by simp)
    have hl := rv.length
    exact wpAny_pyNext_list_end (I.ok.hd hc) st p.isList (by simp; omega) fun h' eb => ⟨rfl, I.turned (t' := s.toks) (fun b o hb e => eb b o hb e) f0 f1 f3 f4 f5⟩
  self := fun _ _ _ _ _ st h => wpAny_pyIter_listiter st h
theorem turn_tuple {P : Program} {w : World} {K : PySem.W.Frag} {tg : Expr} (a it : Addr) : Turn P w K tg (Itt K a) [it] it (fun i h => h.IsTupleIter it a i) where
  mem := by simp
  obj := fun i h st b hb => by
    have e : b = it := by simpa using hb
    subst e
    obtain ⟨o, e, c, d⟩ := st
    exact ⟨o, e, fun v z => by rw [d] at z; cases z⟩
  keep := fun i h h' st k => st.at fun o e => k it (by simp) o e
  item := by
    intro X hP hw hK hc i pins s σ H E I hf st hg
    subst hP hw hK
    obtain ⟨xs, x, hq, hx⟩ := hg
    obtain ⟨its, rv, p, hz⟩ := I.tuple hq
    obtain ⟨u, hu, ru⟩ := rv.get hx
    obtain ⟨f0, f1, f2, f3, f4, f5⟩ := hf it (by simp)
    refine wpAny_pyNext_tuple_item st (show s.heap.IsTuple a its.toArray from p) (x := u) (by simpa using hu) fun h' st' sb => ?_
    have I1 : Inv X pins σ H { s with heap := h' } := I.turned (t' := s.toks) (fun b o hb e => (sb.2 b hb).trans e) f0 f1 f3 f4 f5
    obtain ⟨o, e, c, d⟩ := id st'
    exact ⟨u, rfl, go_of (s := { s with heap := h' }) e c d (by decide) ⟨x, H, I1, ru, ⟨rfl, fun ys hy => by rw [I.tuple_inj hy hq]; exact hx⟩, st', fun b hb => (hf b hb).1⟩⟩
  done := by
    intro X hP hw hK hc i pins s σ H E I hf st hg
    subst hP hw hK
    obtain ⟨xs, hq, hx⟩ := hg
    obtain ⟨its, rv, p, hz⟩ := I.tuple hq
    obtain ⟨f0, f1, f2, f3, f4, f5⟩ := hf it (by simp)
    have hl := rv.length
    exact wpAny_pyNext_tuple_end (I.ok.hd hc) st (show s.heap.IsTuple a its.toArray from p) (by simp; omega) fun h' eb => ⟨rfl, I.turned (t' := s.toks) (fun b o hb e => eb b o hb e) f0 f1 f3 f4 f5⟩
  self := fun _ _ _ _ _ st h => wpAny_pyIter_tupleiter st h
theorem turn_range {P : Program} {w : World} {K : PySem.W.Frag} {tg : Expr} (it : Addr) (lo : Int) (n : Nat) : Turn P w K tg (Itr lo n) [it] it (fun i h => IsRangeIter h it (lo + (i : Nat) * 1) ((n : Int) - (i : Nat)) 1) where
  mem := by simp
  obj := fun i h st b hb => by
    have e : b = it := by simpa using hb
    subst e
    exact ⟨_, st, fun v z => by
      have z' : Data.fields _ = Data.cell v := z
      cases z'⟩
  keep := fun i h h' st k => k it (by simp) _ st
  item := by
    intro X hP hw hK hc i pins s σ H E I hf st hg
    subst hP hw hK
    obtain ⟨f0, f1, f2, f3, f4, f5⟩ := hf it (by simp)
    have W := Walks.range (prog := X.prog) (w := X.w) (I.ok.hd hc) it lo 1 n
    refine W.item i s _ _ hg st fun v h' tk hv st' kk => ?_
    obtain ⟨t, rfl⟩ := hv
    have I1 : Inv X pins σ H { s with heap := h', toks := tk } := I.turned (fun b o hb e => kk b o (by simpa using hb) e) f0 f1 f3 f4 f5
    refine ⟨_, rfl, go_of (s := { s with heap := h', toks := tk }) (n := "range_iterator") st' rfl rfl (by decide) ⟨.int (lo + i), H, I1, ⟨t, ?_⟩, ⟨rfl, rfl⟩, st', fun b hb => (hf b hb).1⟩⟩
    rw [Int.mul_one]
  done := by
    intro X hP hw hK hc i pins s σ H E I hf st hg
    subst hP hw hK
    obtain ⟨f0, f1, f2, f3, f4, f5⟩ := hf it (by simp)
    exact wpAny_pyNext_range_end (I.ok.hd hc) st (by have : n ≤ i := hg; omega) fun h' eb => ⟨rfl, I.turned (t' := s.toks) (fun b o hb e => eb b o hb e) f0 f1 f3 f4 f5⟩
  self := fun _ _ _ _ _ st h => wpAny_pyIter_rangeiter st h
end L2
namespace L2
open PySem PySem.Spec PyProof.Rows
section
variable {X : Cx} {tg : Expr}
theorem range_it {pins : List (Addr × Obj)} {σ : St} {H : Hp} {s : Shared} {R : It → Hp → Prop} {E : Value → Shared → Prop} {lo hi : Int} {t u v : Tok} {tk : Nat} (I : Inv X pins σ H s) (h1 : -(2 ^ 62) ≤ lo) (h2 : lo < 2 ^ 62) (h3 : -(2 ^ 62) ≤ hi) (h4 : hi < 2 ^ 62)
    (q : R (Itr lo (hi - lo).toNat) H) : wpAny (model X.prog X.w) X.A (pyIter (.ref s.heap.objs.size)) (PIE X pins σ tg R) E { s with heap := s.heap.push { cls := .type "range", data := .fields #[.int lo t, .int hi u, .int 1 v] }, toks := tk } := by
  refine wpAny_pyIter_range (IsRange.new ..) (small_one h1 h2 h3 h4) ?_
  have I1 : Inv X pins σ H { s with heap := s.heap.push { cls := .type "range", data := .fields #[.int lo t, .int hi u, .int 1 v] }, toks := tk } := I.kept fun b o e => Heap.get?_push_of_some _ e
  refine ⟨(s.heap.push { cls := .type "range", data := .fields #[.int lo t, .int hi u, .int 1 v] }).objs.size, [(s.heap.push { cls := .type "range", data := .fields #[.int lo t, .int hi u, .int 1 v] }).objs.size], _, _, H, rfl,
    I1.kept (t' := tk) fun b o e => Heap.get?_push_of_some _ e, turn_range _ lo (hi - lo).toNat, ?_, fun b hb => ?_, q⟩
  · have e1 : lo + ((0 : Nat) : Int) * 1 = lo := by simp
    have e2 : (((hi - lo).toNat : Nat) : Int) - ((0 : Nat) : Int) = Builtin.Range.rangeSize lo hi 1 := by rw [rangeSize_one]; split <;> omega
    show IsRangeIter _ _ (lo + ((0 : Nat) : Int) * 1) ((((hi - lo).toNat : Nat) : Int) - ((0 : Nat) : Int)) 1
    rw [e1, e2]
    exact Heap.get?_push_size _ rfl
  · have e : b = (s.heap.push { cls := .type "range", data := .fields #[.int lo t, .int hi u, .int 1 v] }).objs.size := by simpa using hb
    subst e
    exact I1.fpOk (Nat.le_refl _) (I1.hok.fresh (Nat.le_refl _))
noncomputable def iRng1 (ta : TA) : TI := fun σ H R => ta σ H fun vs H1 => ∃ j : Int, vs = [.int j] ∧ -(2 ^ 62) ≤ j ∧ j < 2 ^ 62 ∧ R (Itr 0 j.toNat) H1
noncomputable def iRng2 (ta : TA) : TI := fun σ H R => ta σ H fun vs H1 => ∃ i j : Int, vs = [.int i, .int j] ∧ (-(2 ^ 62) ≤ i ∧ i < 2 ^ 62 ∧ -(2 ^ 62) ≤ j ∧ j < 2 ^ 62) ∧ R (Itr i (j - i).toNat) H1
theorem pi_range1 {a : Expr} {ta : TA} {p pos : Pos} (hg : Gl X "range") (hm : X.mg "range" = none) (ha : PA X [a] ta) (hs : starEach [a] X.env = [(false, eval a X.env)] := by with_unfolding_all rfl) : PI X tg (.Call (.Name "range" p) [a] [] pos) (iRng1 ta) := by
  intro pins s σ H R I h
  refine Call_ (ld_blt I hg hm boot_range (PyProof.Rows.callWith_type1 (thn (ha pos pins s σ H _ I h) fun us s1 ⟨vs, H1, I1, r1, q1⟩ => ?_) hs rfl))
  obtain ⟨j, e, q1, q2, q⟩ := q1
  subst e
  cases r1 with
  | cons r rr =>
    cases rr
    obtain ⟨t, rfl⟩ := r
    exact call_range_1 (range_it I1 (by omega) (by omega) q1 q2 (by simpa using q))
theorem pi_range2 {a b : Expr} {ta : TA} {p pos : Pos} (hg : Gl X "range") (hm : X.mg "range" = none) (ha : PA X [a, b] ta) (hs : starEach [a, b] X.env = [(false, eval a X.env), (false, eval b X.env)] := by with_unfolding_all rfl) (hs2 : starEach [b] X.env = [(false, eval b X.env)] := by with_unfolding_all rfl) :
    PI X tg (.Call (.Name "range" p) [a, b] [] pos) (iRng2 ta) := by
  intro pins s σ H R I h
  refine Call_ (ld_blt I hg hm boot_range (PyProof.Rows.callWith_type1 (thn (ha pos pins s σ H _ I h) fun us s1 ⟨vs, H1, I1, r1, q1⟩ => ?_) (by rw [hs, hs2]) (by rw [hs2]; rfl)))
  obtain ⟨i, j, e, ⟨q1, q2, q3, q4⟩, q⟩ := q1
  subst e
  cases r1 with
  | cons r rr =>
    cases rr with
    | cons r' rr =>
      cases rr
      obtain ⟨t, rfl⟩ := r
      obtain ⟨t', rfl⟩ := r'
      exact call_range_2 (range_it I1 q1 q2 q3 q4 q)
noncomputable def tFor (wi : TI) (g : TG) (tb : TS) : TS := fun D σ H => wi σ H fun J H1 => ∃ W : Nat → Nat → St → Hp → Prop, (∃ m, W 0 m σ H1) ∧ ∀ i m σ H, W i m σ H →
  (J.stop i H ∧ D.nx σ H) ∨ (J.go i H ∧ ∃ N : St → Hp → Prop, (∀ σ' H', N σ' H' → ∃ m', m' < m ∧ W (i + 1) m' σ' H') ∧ ∀ x H', J.yld i H x H' → g x σ H' fun σ2 H2 => tb { D with nx := N, ct := N, bk := D.nx } σ2 H2)
noncomputable def pinsAt (fp : List Addr) (h : Heap) : List (Addr × Obj) := fp.filterMap fun b => (h.get? b).map fun o => (b, o)
theorem mem_pinsAt {fp : List Addr} {h : Heap} {b : Addr} {o : Obj} (hb : b ∈ fp) (e : h.get? b = some o) : (b, o) ∈ pinsAt fp h := List.mem_filterMap.mpr ⟨b, hb, by rw [e]; rfl⟩
theorem of_pinsAt {fp : List Addr} {h : Heap} {p : Addr × Obj} (hp : p ∈ pinsAt fp h) : p.1 ∈ fp ∧ h.get? p.1 = some p.2 := by
  obtain ⟨b, hb, e⟩ := List.mem_filterMap.mp hp
  cases q : h.get? b with
  | none => rw [q] at e; cases e
  | some o =>
    rw [q] at e
    have e' : (b, o) = p := Option.some.inj e
    subst e'
    exact ⟨hb, q⟩
theorem Inv.pinned {pins : List (Addr × Obj)} {σ : St} {H : Hp} {s : Shared} {fp : List Addr} (I : Inv X pins σ H s) (hf : ∀ b ∈ fp, FpOk X pins H b) (ho : ∀ b ∈ fp, ∃ o, s.heap.get? b = some o ∧ ∀ v, o.data ≠ .cell v) : Inv X (pins ++ pinsAt fp s.heap) σ H s :=
  I.pins_of fun p hp => (List.mem_append.mp hp).elim (fun z => I.pin p (List.mem_append_right _ z)) fun z => by
    obtain ⟨hb, e⟩ := of_pinsAt z
    obtain ⟨f0, f1, f2, _⟩ := hf p.1 hb
    obtain ⟨o, e', d⟩ := ho p.1 hb
    rw [e] at e'; cases e'
    exact ⟨e, f0, f1, f2, d⟩
theorem Inv.unpinned {pins pl : List (Addr × Obj)} {σ : St} {H : Hp} {s : Shared} (I : Inv X (pins ++ pl) σ H s) : Inv X pins σ H s := I.pins_of fun p hp => I.pin p (List.mem_append_right _ (List.mem_append_left _ hp))
theorem ps_for {iter : Expr} {body : List Stmt} {wi : TI} {g : TG} {tb : TS} {pos : Pos} (hp : PassesOwn (model X.prog X.w) X.A X.env X.xe) (hc : X.calm = true) (hi : PI X tg iter wi) (hg : PG X tg g) (hb : PSs X body tb)
    (hs : ∀ x, foldedSetIterable iter X.env x = pure x := by intro _; with_unfolding_all rfl) : PS X (.For tg iter body [] pos) (tFor wi g tb) := by
  intro pins s σ H D I h
  refine wpAny_For (thn (hi pins s σ H _ I h) fun v s1 h1 => thn h1 fun itv s2 h2 => ?_) hs
  obtain ⟨it, fp, tn, J, H2, e, I2, T, st2, f2, W, ⟨m0, w0⟩, turn⟩ := h2
  subst e
  -- what stays true of the iterator's objects through the loop
  have stat : ∀ {H' : Hp}, (∀ b ∈ fp, H' b = none) → ∀ b ∈ fp, FpOk X pins H' b := fun hn b hb => ⟨hn b hb, (f2 b hb).2⟩
  refine codeAny_forLoop_any (fun n s' => ∃ i σ' H', Inv X pins σ' H' s' ∧ tn i s'.heap ∧ (∀ b ∈ fp, H' b = none) ∧ W i n σ' H') ?_ m0 ⟨0, σ, H2, I2, st2, fun b hb => (f2 b hb).1, w0⟩
  rintro n s3 ⟨i, σ3, H3, I3, st3, fr3, w3⟩
  rcases turn i n σ3 H3 w3 with ⟨stop, qn⟩ | ⟨go, N, hN, step⟩
  · refine wpAny_passesOwn hp (thn (T.done X rfl rfl rfl hc i pins s3 σ3 H3 X.xe I3 (stat fr3) st3 stop) fun r s4 ⟨hr, I4⟩ => ?_)
    subst hr
    exact wpAny_execs_nil ⟨σ3, H3, I4, qn⟩
  · refine wpAny_passesOwn hp (thn (T.item X rfl rfl rfl hc i pins s3 σ3 H3 X.xe I3 (stat fr3) st3 go) fun r s4 ⟨u, hr, h4⟩ => ?_)
    subst hr
    refine wpAny_passesOwn hp (thn h4 fun _ s5 ⟨x, H5, I5, r5, y5, st5, fr5⟩ => ?_)
    have I5' := I5.pinned (stat fr5) (T.obj _ _ st5)
    refine wpAny_passesOwn hp (thn (hg _ s5 σ3 H5 x u _ I5' r5 (step x H5 y5)) fun _ s6 ⟨σ6, H6, I6, q6⟩ => ?_)
    refine wpAny_passesOwn hp (thn (hb _ s6 σ6 H6 _ I6 q6) fun f s7 q7 => ?_)
    have again : ∀ {σ7 : St} {H7 : Hp}, Inv X (pins ++ pinsAt fp s5.heap) σ7 H7 s7 → N σ7 H7 → ∃ m, m < n ∧ ∃ i σ' H', Inv X pins σ' H' s7 ∧ tn i s7.heap ∧ (∀ b ∈ fp, H' b = none) ∧ W i m σ' H' := fun {σ7 H7} I7 n7 => by
      obtain ⟨m', hm, w7⟩ := hN σ7 H7 n7
      refine ⟨m', hm, i + 1, σ7, H7, I7.unpinned, T.keep _ _ _ st5 fun b hb o e => (I7.pin (b, o) (List.mem_append_right _ (List.mem_append_right _ (mem_pinsAt hb e)))).1, fun b hb => ?_, w7⟩
      obtain ⟨o, e, d⟩ := T.obj _ _ st5 b hb
      exact (I7.pin (b, o) (List.mem_append_right _ (List.mem_append_right _ (mem_pinsAt hb e)))).2.1
    cases f with
    | next => obtain ⟨σ7, H7, I7, n7⟩ := q7; exact again I7 n7
    | cont => obtain ⟨σ7, H7, I7, n7⟩ := q7; exact again I7 n7
    | brk => obtain ⟨σ7, H7, I7, q7⟩ := q7; exact ⟨σ7, H7, I7.unpinned, q7⟩
    | ret v => obtain ⟨x7, σ7, H7, I7, r7, q7⟩ := q7; exact ⟨x7, σ7, H7, I7.unpinned, r7, q7⟩
end
end L2
namespace L2
open PySem PySem.Spec PyProof.Rows
noncomputable abbrev R2 := V → V → Hp → VK → Prop
noncomputable def OpR (X : Cx) (f : Value → Value → Sem Value) (r : R2) : Prop :=
  ∀ (pins : List (Addr × Obj)) (s : Shared) (σ : St) (H : Hp) (x y : V) (v u : Value) (Q : VK), Inv X pins σ H s → RelV x v → RelV y u → r x y H Q →
    wpAny (model X.prog X.w) X.A (f v u) (EP X pins σ Q) X.xe s
noncomputable def UnR (X : Cx) (f : Value → Sem Value) (r : V → Hp → VK → Prop) : Prop :=
  ∀ (pins : List (Addr × Obj)) (s : Shared) (σ : St) (H : Hp) (x : V) (v : Value) (Q : VK), Inv X pins σ H s → RelV x v → r x H Q →
    wpAny (model X.prog X.w) X.A (f v) (EP X pins σ Q) X.xe s
noncomputable def CallR (X : Cx) (f : Value) (r : List V → Hp → VK → Prop) : Prop :=
  ∀ (pins : List (Addr × Obj)) (s : Shared) (σ : St) (H : Hp) (xs : List V) (us : List Value) (Q : VK), Inv X pins σ H s → Vals xs us → r xs H Q →
    wpAny (model X.prog X.w) X.A (call f us) (EP X pins σ Q) X.xe s
noncomputable def tOp (r : R2) (ta tb : TE) : TE := fun σ H Q => ta σ H fun x H1 => tb σ H1 fun y H2 => r x y H2 Q
noncomputable def tUn (r : V → Hp → VK → Prop) (ta : TE) : TE := fun σ H Q => ta σ H fun x H1 => r x H1 Q
noncomputable def rI (C : Int → Int → Prop) (g : Int → Int → V) : R2 := fun x y H Q => ∃ i j, x = .int i ∧ y = .int j ∧ C i j ∧ Q (g i j) H
noncomputable def rI0 (g : Int → Int → V) : R2 := fun x y H Q => ∃ i j, x = .int i ∧ y = .int j ∧ Q (g i j) H
noncomputable def rU (g : Int → V) : V → Hp → VK → Prop := fun x H Q => ∃ i, x = .int i ∧ Q (g i) H
section
variable {X : Cx} {a b c : Expr} {ta tb tc : TE} {pos : Pos}
theorem binT (ha : PE X a ta) (hb : PE X b tb) {pins : List (Addr × Obj)} {s : Shared} {σ : St} {H : Hp} {R : V → V → Hp → Prop} (I : Inv X pins σ H s)
    (h : ta σ H fun x H1 => tb σ H1 fun y H2 => R x y H2) {Q : Value → Shared → Prop} {f : Value → Value → Sem Value}
    (hf : ∀ v u s2 x y H2, Inv X pins σ H2 s2 → RelV x v → RelV y u → R x y H2 → wpAny (model X.prog X.w) X.A (f v u) Q X.xe s2) :
    wpAny (model X.prog X.w) X.A (eval a X.env) (fun v s₁ => wpAny (model X.prog X.w) X.A (eval b X.env) (fun u s₂ => wpAny (model X.prog X.w) X.A (f v u) Q X.xe s₂) X.xe s₁) X.xe s := by
  refine thn (ha pins s σ H _ I h) fun v s1 ⟨x, H1, I1, r1, q1⟩ => ?_
  refine thn (hb pins s1 σ H1 _ I1 q1) fun u s2 ⟨y, H2, I2, r2, q2⟩ => ?_
  exact hf v u s2 x y H2 I2 r1 r2 q2
theorem pe_op {op : Operator} {r : R2} (ho : OpR X (binaryOp op) r) (ha : PE X a ta) (hb : PE X b tb) : PE X (.BinOp a op b pos) (tOp r ta tb) := by
  intro pins s σ H Q I h
  exact wpAny_BinOp (binT ha hb I h fun v u s2 x y H2 I2 rx ry q => ho pins s2 σ H2 x y v u Q I2 rx ry q)
theorem pe_un {op : UnaryOp} {r : V → Hp → VK → Prop} (ho : UnR X (unaryOp op) r) (ha : PE X a ta) : PE X (.UnaryOp op a pos) (tUn r ta) := by
  intro pins s σ H Q I h
  exact UnaryOp_ (thn (ha pins s σ H _ I h) fun v s1 ⟨x, H1, I1, r1, q1⟩ => ho pins s1 σ H1 x v Q I1 r1 q1)
theorem opI {f : Value → Value → Sem Value} {C : Int → Int → Prop} {g : Int → Int → Int}
    (rule : ∀ (i j : Int) (t u : Tok) (s : Shared) (Q : Value → Shared → Prop) (E : Value → Shared → Prop), C i j → Q (.int (g i j) s.toks) { s with toks := s.toks + 1 } → wpAny (model X.prog X.w) X.A (f (.int i t) (.int j u)) Q E s) :
    OpR X f (rI C fun i j => .int (g i j)) := by
  intro pins s σ H x y v u Q I rx ry h
  obtain ⟨i, j, rfl, rfl, hc, q⟩ := h
  obtain ⟨t, rfl⟩ := rx
  obtain ⟨t', rfl⟩ := ry
  exact rule i j t t' s _ _ hc ⟨.int (g i j), H, I.tok _, ⟨_, rfl⟩, q⟩
theorem opI0 {f : Value → Value → Sem Value} {g : Int → Int → Int}
    (rule : ∀ (i j : Int) (t u : Tok) (s : Shared) (Q : Value → Shared → Prop) (E : Value → Shared → Prop), Q (.int (g i j) s.toks) { s with toks := s.toks + 1 } → wpAny (model X.prog X.w) X.A (f (.int i t) (.int j u)) Q E s) :
    OpR X f (rI0 fun i j => .int (g i j)) := by
  intro pins s σ H x y v u Q I rx ry h
  obtain ⟨i, j, rfl, rfl, q⟩ := h
  obtain ⟨t, rfl⟩ := rx
  obtain ⟨t', rfl⟩ := ry
  exact rule i j t t' s _ _ ⟨.int (g i j), H, I.tok _, ⟨_, rfl⟩, q⟩
theorem opB0 {f : Value → Value → Sem Value} {g : Int → Int → Bool}
    (rule : ∀ (i j : Int) (t u : Tok) (s : Shared) (Q : Value → Shared → Prop) (E : Value → Shared → Prop), Q (.bool (g i j)) s → wpAny (model X.prog X.w) X.A (f (.int i t) (.int j u)) Q E s) :
    OpR X f (rI0 fun i j => .bl (g i j)) := by
  intro pins s σ H x y v u Q I rx ry h
  obtain ⟨i, j, rfl, rfl, q⟩ := h
  obtain ⟨t, rfl⟩ := rx
  obtain ⟨t', rfl⟩ := ry
  exact rule i j t t' s _ _ ⟨.bl (g i j), H, I, rfl, q⟩
noncomputable def CDiv (i j : Int) : Prop := 0 < j ∧ j < 1073741824
noncomputable def CPow (i j : Int) : Prop := 0 ≤ j ∧ j ≤ 1000000 ∧ i.natAbs < 2 ^ 64
noncomputable def CMul (i j : Int) : Prop := (-(2 ^ 64) < i ∧ i < 2 ^ 64) ∨ (-(2 ^ 64) < j ∧ j < 2 ^ 64)
theorem CMul.ok {i j : Int} (h : CMul i j) : IntMulOk i j := by
  rcases h with ⟨h1, h2⟩ | ⟨h1, h2⟩
  · exact .of_left (intBits_le_64 h1 h2)
  · exact .of_right (intBits_le_64 h1 h2)
theorem op_add : OpR X (binaryOp .Add) (rI0 fun i j => .int (i + j)) := opI0 fun _ _ _ _ _ _ _ q => add_int q
theorem op_sub : OpR X (binaryOp .Sub) (rI0 fun i j => .int (i - j)) := opI0 fun _ _ _ _ _ _ _ q => sub_int q
theorem op_mul : OpR X (binaryOp .Mult) (rI CMul fun i j => .int (i * j)) := opI fun _ _ _ _ _ _ _ hc q => mul_int q hc.ok
theorem op_fdiv : OpR X (binaryOp .FloorDiv) (rI CDiv fun i j => .int (i / j)) := opI fun i j _ _ _ _ _ hc q => by
  have h1 : (0 : Int) < j := hc.1
  have h2 : j < 1073741824 := hc.2
  exact floordiv_int (by omega) (by rw [Int.fdiv_eq_ediv_of_nonneg i (by omega)]; exact q) (.inl (PyProof.noPylong_small (by omega)))
theorem op_mod : OpR X (binaryOp .Mod) (rI (fun _ j => 0 < j) fun i j => .int (i % j)) := opI fun i j _ _ _ _ _ hc q => by
  have h1 : (0 : Int) < j := hc
  exact mod_int' (by omega) (by rw [Int.fmod_eq_emod_of_nonneg i (by omega)]; exact q)
theorem op_pow : OpR X (binaryOp .Pow) (rI CPow fun i j => .int (i ^ j.toNat)) := opI fun _ _ _ _ _ _ _ hc q => pow_int_small hc.1 hc.2.1 hc.2.2 q
theorem unI {f : Value → Sem Value} {g : Int → Int}
    (rule : ∀ (i : Int) (t : Tok) (s : Shared) (Q : Value → Shared → Prop) (E : Value → Shared → Prop), Q (.int (g i) s.toks) { s with toks := s.toks + 1 } → wpAny (model X.prog X.w) X.A (f (.int i t)) Q E s) :
    UnR X f (rU fun i => .int (g i)) := by
  intro pins s σ H x v Q I rx h
  obtain ⟨i, rfl, q⟩ := h
  obtain ⟨t, rfl⟩ := rx
  exact rule i t s _ _ ⟨.int (g i), H, I.tok _, ⟨_, rfl⟩, q⟩
theorem un_neg : UnR X (unaryOp .USub) (rU fun i => .int (-i)) := unI fun _ _ _ _ _ q => neg_int q
end
noncomputable def scal : V → V → Bool
  | .non, .non => true | .non, .int _ => true | .int _, .non => true | .non, .bl _ => true | .bl _, .non => true | .non, .str _ => true | .str _, .non => true
  | .int _, .int _ => true | .bl _, .bl _ => true | .str _, .str _ => true | .byt _, .byt _ => true
  | .int _, .str _ => true | .str _, .int _ => true | .bl _, .str _ => true | .str _, .bl _ => true
  | _, _ => false
noncomputable def rEq : R2 := fun x y H Q => scal x y = true ∧ Q (.bl (decide (x = y))) H
noncomputable def rNe : R2 := fun x y H Q => scal x y = true ∧ Q (.bl (!decide (x = y))) H
theorem dec_int {i j : Int} : decide (V.int i = V.int j) = (i == j) := by
  rw [Bool.eq_iff_iff]
  simp
theorem dec_bl {i j : Bool} : decide (V.bl i = V.bl j) = (i == j) := by
  rw [Bool.eq_iff_iff]
  simp
theorem dec_str {i j : Str} : decide (V.str i = V.str j) = (i == j) := by
  rw [Bool.eq_iff_iff]
  simp
theorem dec_byt {i j : Array UInt8} : decide (V.byt i = V.byt j) = (i.toList == j.toList) := by
  rw [Bool.eq_iff_iff]
  cases i
  cases j
  simp
section
variable {X : Cx} {a b c : Expr} {ta tb tc : TE} {pos : Pos}
theorem fin_bl {pins : List (Addr × Obj)} {σ : St} {H : Hp} {s : Shared} {Q : VK} {k k' : Bool} (I : Inv X pins σ H s) (q : Q (.bl k) H) (e : k = k') : EP X pins σ Q (.bool k') s := by
  subst e
  exact ⟨.bl k, H, I, rfl, q⟩
theorem op_eq : OpR X (compareOp .Eq) rEq := by
  intro pins s σ H x y v u Q I rx ry h
  obtain ⟨hs, q⟩ := h
  cases x with
  | non =>
    cases rx
    cases y with
    | non => cases ry; exact PySem.EqNone.eq_none_none (fin_bl I q (by simp))
    | bl j => cases ry; exact PySem.EqNone.eq_none_bool (fin_bl I q (by simp))
    | int j => obtain ⟨t', rfl⟩ := ry; exact PySem.EqNone.eq_none_int (fin_bl I q (by simp))
    | str j => obtain ⟨t', rfl⟩ := ry; exact PySem.EqNone.eq_none_str (fin_bl I q (by simp))
    | _ => exact absurd (show false = true from hs) Bool.false_ne_true
  | bl i =>
    cases rx
    cases y with
    | non => cases ry; exact PySem.EqNone.eq_bool_none (fin_bl I q (by simp))
    | bl j => cases ry; exact eq_bool (fin_bl I q dec_bl)
    | str j => obtain ⟨t', rfl⟩ := ry; exact PySem.EqMixed.eq_bool_str (fin_bl I q (by simp))
    | _ => exact absurd (show false = true from hs) Bool.false_ne_true
  | int i =>
    obtain ⟨t, rfl⟩ := rx
    cases y with
    | non => cases ry; exact PySem.EqNone.eq_int_none (fin_bl I q (by simp))
    | int j => obtain ⟨t', rfl⟩ := ry; exact eq_int (fin_bl I q dec_int)
    | str j => obtain ⟨t', rfl⟩ := ry; exact PySem.EqMixed.eq_int_str (fin_bl I q (by simp))
    | _ => exact absurd (show false = true from hs) Bool.false_ne_true
  | str i =>
    obtain ⟨t, rfl⟩ := rx
    cases y with
    | non => cases ry; exact PySem.EqNone.eq_str_none (fin_bl I q (by simp))
    | bl j => cases ry; exact PySem.EqMixed.eq_str_bool (fin_bl I q (by simp))
    | int j => obtain ⟨t', rfl⟩ := ry; exact PySem.EqMixed.eq_str_int (fin_bl I q (by simp))
    | str j => obtain ⟨t', rfl⟩ := ry; exact eq_str (fin_bl I q dec_str)
    | _ => exact absurd (show false = true from hs) Bool.false_ne_true
  | byt i =>
    obtain ⟨t, rfl⟩ := rx
    cases y with
    | byt j => obtain ⟨t', rfl⟩ := ry; exact PySem.W.eq_bytes (fin_bl I q dec_byt)
    | _ => exact absurd (show false = true from hs) Bool.false_ne_true
  | _ => cases y <;> exact absurd (show false = true from hs) Bool.false_ne_true
theorem op_ne : OpR X (compareOp .NotEq) rNe := by
  intro pins s σ H x y v u Q I rx ry h
  obtain ⟨hs, q⟩ := h
  cases x with
  | non =>
    cases rx
    cases y with
    | non => cases ry; exact PySem.EqNone.ne_none_none (fin_bl I q (by simp))
    | bl j => cases ry; exact PySem.EqNone.ne_none_bool (fin_bl I q (by simp))
    | int j => obtain ⟨t', rfl⟩ := ry; exact PySem.EqNone.ne_none_int (fin_bl I q (by simp))
    | str j => obtain ⟨t', rfl⟩ := ry; exact PySem.EqNone.ne_none_str (fin_bl I q (by simp))
    | _ => exact absurd (show false = true from hs) Bool.false_ne_true
  | bl i =>
    cases rx
    cases y with
    | non => cases ry; exact PySem.EqNone.ne_bool_none (fin_bl I q (by simp))
    | bl j => cases ry; exact ne_bool (fin_bl I q (congrArg not dec_bl))
    | str j => obtain ⟨t', rfl⟩ := ry; exact PySem.EqMixed.ne_bool_str (fin_bl I q (by simp))
    | _ => exact absurd (show false = true from hs) Bool.false_ne_true
  | int i =>
    obtain ⟨t, rfl⟩ := rx
    cases y with
    | non => cases ry; exact PySem.EqNone.ne_int_none (fin_bl I q (by simp))
    | int j => obtain ⟨t', rfl⟩ := ry; exact ne_int (fin_bl I q (congrArg not dec_int))
    | str j => obtain ⟨t', rfl⟩ := ry; exact PySem.EqMixed.ne_int_str (fin_bl I q (by simp))
    | _ => exact absurd (show false = true from hs) Bool.false_ne_true
  | str i =>
    obtain ⟨t, rfl⟩ := rx
    cases y with
    | non => cases ry; exact PySem.EqNone.ne_str_none (fin_bl I q (by simp))
    | bl j => cases ry; exact PySem.EqMixed.ne_str_bool (fin_bl I q (by simp))
    | int j => obtain ⟨t', rfl⟩ := ry; exact PySem.EqMixed.ne_str_int (fin_bl I q (by simp))
    | str j => obtain ⟨t', rfl⟩ := ry; exact ne_str (fin_bl I q (congrArg not dec_str))
    | _ => exact absurd (show false = true from hs) Bool.false_ne_true
  | byt i =>
    obtain ⟨t, rfl⟩ := rx
    cases y with
    | byt j => obtain ⟨t', rfl⟩ := ry; exact PySem.W.ne_bytes (fin_bl I q (congrArg not dec_byt))
    | _ => exact absurd (show false = true from hs) Bool.false_ne_true
  | _ => cases y <;> exact absurd (show false = true from hs) Bool.false_ne_true
theorem op_lt : OpR X (compareOp .Lt) (rI0 fun i j => .bl (decide (i < j))) := opB0 fun _ _ _ _ _ _ _ q => lt_int q
theorem op_le : OpR X (compareOp .LtE) (rI0 fun i j => .bl (decide (i ≤ j))) := opB0 fun _ _ _ _ _ _ _ q => le_int q
theorem op_gt : OpR X (compareOp .Gt) (rI0 fun i j => .bl (decide (j < i))) := opB0 fun _ _ _ _ _ _ _ q => gt_int q
theorem op_ge : OpR X (compareOp .GtE) (rI0 fun i j => .bl (decide (j ≤ i))) := opB0 fun _ _ _ _ _ _ _ q => ge_int q
theorem op_in_str : OpR X (compareOp .In) (fun x y H Q => ∃ i j, x = .str i ∧ y = .str j ∧ Q (.bl (!(Builtin.Str.occurrences j i 0 j.length 1).isEmpty)) H) := by
  intro pins s σ H x y v u Q I rx ry h
  obtain ⟨i, j, rfl, rfl, q⟩ := h
  obtain ⟨t, rfl⟩ := rx
  obtain ⟨t', rfl⟩ := ry
  exact in_str (fin_bl I q rfl)
theorem OpR.or {f : Value → Value → Sem Value} {r r' : R2} (h : OpR X f r) (h' : OpR X f r') : OpR X f (fun x y H Q => r x y H Q ∨ r' x y H Q) := by
  intro pins s σ H x y v u Q I rx ry q
  rcases q with q | q
  · exact h pins s σ H x y v u Q I rx ry q
  · exact h' pins s σ H x y v u Q I rx ry q
theorem nomark (b : Expr) {op : CmpOp} (h : op ≠ .In := by decide) (h2 : op ≠ .NotIn := by decide) : behindInMarks op b = false := by
  have e1 : (op == CmpOp.In) = false := by cases op <;> first | rfl | exact absurd rfl h
  have e2 : (op == CmpOp.NotIn) = false := by cases op <;> first | rfl | exact absurd rfl h2
  cases b <;> simp [behindInMarks, e1, e2]
theorem pe_cmpR {op : CmpOp} {r : R2} (ho : OpR X (compareOp op) r) (ha : PE X a ta) (hb : PE X b tb) (hm : behindInMarks op b = false) : PE X (.Compare a [op] [b] pos) (tOp r ta tb) := by
  intro pins s σ H Q I h
  exact wpAny_Compare1 (binT ha hb I h fun v u s2 x y H2 I2 rx ry q => ho pins s2 σ H2 x y v u Q I2 rx ry q) hm
noncomputable def tTest (t : TE) : TT := fun σ H Q => t σ H fun x H' => ∃ k, x = .bl k ∧ Q k H'
theorem pt_cmpR {op : CmpOp} {r : R2} (ho : OpR X (compareOp op) r) (ha : PE X a ta) (hb : PE X b tb) (hm : behindInMarks op b = false) : PT X (.Compare a [op] [b] pos) (tTest (tOp r ta tb)) := by
  intro pins s σ H Q I h
  refine wpAny_isTrue_Compare1 (thn (ha pins s σ H _ I h) fun v s1 ⟨x, H1, I1, r1, q1⟩ => thn (hb pins s1 σ H1 _ I1 q1) fun u s2 ⟨y, H2, I2, r2, q2⟩ =>
    thn (ho pins s2 σ H2 x y v u _ I2 r1 r2 q2) fun c s3 ⟨z, H3, I3, r3, k, e, q3⟩ => ?_) hm
  subst e
  cases r3
  exact wpAny_truthy_bool ⟨H3, I3, q3⟩
theorem line63 : (sizeLine : Nat) < 2 ^ 63 := by rw [sizeLine_eq]; decide
theorem op_add_str : OpR X (binaryOp .Add) (fun x y H Q => ∃ i j, x = .str i ∧ y = .str j ∧ i.length + j.length ≤ sizeLine ∧ Q (.str (i ++ j)) H) := by
  intro pins s σ H x y v u Q I rx ry h
  obtain ⟨i, j, rfl, rfl, hz, q⟩ := h
  obtain ⟨t, rfl⟩ := rx
  obtain ⟨t', rfl⟩ := ry
  exact add_str (fun t' tk => ⟨.str (i ++ j), H, I.tok _, ⟨_, rfl⟩, q⟩) hz
theorem vals1 {x : V} {us : List Value} (r : Vals [x] us) : ∃ u, us = [u] ∧ RelV x u := by
  cases r with
  | cons r1 r2 => cases r2; exact ⟨_, rfl, r1⟩
theorem vals2 {x y : V} {us : List Value} (r : Vals [x, y] us) : ∃ u w', us = [u, w'] ∧ RelV x u ∧ RelV y w' := by
  cases r with
  | cons r1 r2 =>
    cases r2 with
    | cons r3 r4 => cases r4; exact ⟨_, _, rfl, r1, r3⟩
theorem call_int1 : CallR X (.type "int") (fun xs H Q => (∃ i, xs = [.int i] ∧ Q (.int i) H) ∨ ∃ k, xs = [.bl k] ∧ Q (.int (if k then 1 else 0)) H) := by
  intro pins s σ H xs us Q I r h
  rcases h with ⟨i, rfl, q⟩ | ⟨k, rfl, q⟩
  · obtain ⟨u, rfl, t, rfl⟩ := vals1 r
    exact call_int_int ⟨.int i, H, I, ⟨_, rfl⟩, q⟩
  · obtain ⟨u, rfl, r1⟩ := vals1 r
    cases r1
    exact call_int_bool ⟨.int (if k then 1 else 0), H, I.tok _, ⟨_, rfl⟩, q⟩
noncomputable def LenV (K : PySem.W.Frag) (x : V) (H : Hp) (n : Nat) : Prop :=
  match x with
  | .str y => y.length ≤ sizeLine ∧ n = y.length
  | .byt y => y.size ≤ sizeLine ∧ n = y.size
  | .ref p => (∃ xs, SqL K H p xs ∧ n = xs.length) ∨ ∃ xs, SqT K H p xs ∧ n = xs.length
  | _ => False
theorem call_len : CallR X (.builtin "len") (fun xs H Q => ∃ x n, xs = [x] ∧ LenV X.K x H n ∧ Q (.int n) H) := by
  intro pins s σ H xs us Q I r h
  obtain ⟨x, n, rfl, e, q⟩ := h
  obtain ⟨u, rfl, rx⟩ := vals1 r
  have hl := line63
  have hs : sizeLine = 16777216 := sizeLine_eq
  cases x with
  | str y =>
    obtain ⟨t, rfl⟩ := rx
    obtain ⟨hy, e'⟩ : y.length ≤ sizeLine ∧ n = y.length := e
    subst e'
    exact len_str (by omega) ⟨.int _, H, I.tok _, ⟨_, rfl⟩, q⟩
  | byt y =>
    obtain ⟨t, rfl⟩ := rx
    obtain ⟨hy, e'⟩ : y.size ≤ sizeLine ∧ n = y.size := e
    subst e'
    exact PySem.W.len_bytes (by omega) ⟨.int _, H, I.tok _, ⟨_, rfl⟩, q⟩
  | ref p =>
    cases rx
    have e' : (∃ xs, SqL X.K H p xs ∧ n = xs.length) ∨ ∃ xs, SqT X.K H p xs ∧ n = xs.length := e
    rcases e' with ⟨xs, hx, e'⟩ | ⟨xs, hx, e'⟩
    · subst e'
      obtain ⟨its, r', pl, hz⟩ := I.list hx
      have hlen := r'.length
      exact Calls.call_len_list pl.isList (by simp only [List.size_toArray]; omega) ⟨.int xs.length, H, I.tok _, ⟨_, by simp only [List.size_toArray]; rw [hlen]⟩, q⟩
    · subst e'
      obtain ⟨its, r', pl, hz⟩ := I.tuple hx
      have hlen := r'.length
      exact len_tuple pl (by simp only [List.size_toArray]; omega) ⟨.int xs.length, H, I.tok _, ⟨_, by simp only [List.size_toArray]; rw [hlen]⟩, q⟩
  | _ => exact (show False from e).elim
end
end L2
namespace L2
open PySem PySem.Spec PyProof.Rows
structure ObjM (h : Heap) (x dx C : Addr) (mA : Str → Option Value) : Prop where
  obj : h.get? x = some (PySem.W.instObj C dx)
  ns : h.Ns1 dx mA
  ne : dx ≠ x
theorem lookIn_ns {h : Heap} {dx : Addr} {mA : Str → Option Value} (n : h.Ns1 dx mA) : ∃ od, h.get? dx = some od ∧ ∀ name, PySem.W.lookIn name od = some (mA name) := by
  obtain ⟨o, es, ep, ho, hd, hk, _, hm⟩ := n
  refine ⟨o, ho, fun name => ?_⟩
  have e := hm name
  unfold nsFind findBy at e
  rw [← Array.find?_toList] at e
  unfold PySem.W.lookIn
  rw [hd]
  dsimp only
  split
  · rename_i y q
    rw [q] at e
    exact congrArg some e
  · rename_i q
    rw [q] at e
    have a : es.toList.any (·.refKey) = false := by
      rw [List.any_eq_false]
      intro y hy
      obtain ⟨z, t, hkey⟩ := hk y (Array.mem_toList_iff.mp hy)
      simp [DictEntry.refKey, hkey]
    have a' : ¬ es.toList.any (·.refKey) = true := by rw [a]; exact Bool.false_ne_true
    rw [if_neg a']
    exact congrArg some e
theorem ObjM.look {h : Heap} {x dx C : Addr} {mA : Str → Option Value} (I : ObjM h x dx C mA) : ∃ od, PySem.W.InstAt h x (PySem.W.instObj C dx) C (some od) ∧ ∀ name, PySem.W.lookIn name od = some (mA name) :=
  let ⟨od, ho, hl⟩ := lookIn_ns I.ns
  ⟨od, ⟨I.obj, rfl, rfl, ho⟩, hl⟩
section
variable {prog : Program} {w : World} {A : Around} {E : Value → Shared → Prop} {s : Shared} {K : PySem.W.Frag} {x dx C f : Addr} {mA : Str → Option Value} {name : Str} {v : Value}
end
noncomputable def putF (f : Str) (v : V) : List (Str × V) → List (Str × V)
  | [] => [(f, v)]
  | (g, x) :: r => if g = f then (g, v) :: r else (g, x) :: putF f v r
theorem lookup_putF (f g : Str) (v : V) : ∀ fs : List (Str × V), (putF f v fs).lookup g = if g = f then some v else fs.lookup g
  | [] => by
    show List.lookup g [(f, v)] = _
    by_cases h : g = f
    · have hb : (g == f) = true := beq_iff_eq.mpr h
      simp only [List.lookup, hb, if_pos h]
    · have hb : (g == f) = false := beq_eq_false_iff_ne.mpr h
      simp only [List.lookup, hb, if_neg h]
  | (k, x) :: r => by
    have ih := lookup_putF f g v r
    rw [show putF f v ((k, x) :: r) = (if k = f then (k, v) :: r else (k, x) :: putF f v r) from rfl]
    by_cases hk : k = f
    · rw [if_pos hk]
      by_cases h : g = k
      · have hb : (g == k) = true := beq_iff_eq.mpr h
        simp only [List.lookup, hb, if_pos (h.trans hk)]
      · have hb : (g == k) = false := beq_eq_false_iff_ne.mpr h
        simp only [List.lookup, hb, if_neg (fun e : g = f => h (e.trans hk.symm))]
    · rw [if_neg hk]
      by_cases h : g = k
      · have hb : (g == k) = true := beq_iff_eq.mpr h
        simp only [List.lookup, hb, if_neg (fun e : g = f => hk (h.symm.trans e))]
      · have hb : (g == k) = false := beq_eq_false_iff_ne.mpr h
        simp only [List.lookup, hb]
        exact ih
theorem RelO.some_of {v : V} {o : Option Value} (r : RelO (some v) o) : ∃ u, o = some u ∧ RelV v u := by
  cases o with
  | none => exact (show False from r).elim
  | some u => exact ⟨u, rfl, r⟩
theorem RelO.none_of {o : Option Value} (r : RelO none o) : o = none := by
  cases o with
  | none => rfl
  | some u => exact (show False from r).elim
theorem handed_of {v : V} {u : Value} (r : RelV v u) : PySem.W.handedIn u = true := by
  cases v with
  | non => cases (show u = Value.none from r); rfl
  | bl b => cases (show u = Value.bool b from r); rfl
  | int i => obtain ⟨t, e⟩ := (show ∃ t, u = Value.int i t from r); cases e; rfl
  | str x => obtain ⟨t, e⟩ := (show ∃ t, u = Value.str x t from r); cases e; rfl
  | byt b => obtain ⟨t, e⟩ := (show ∃ t, u = Value.bytes b t from r); cases e; rfl
  | flt b => obtain ⟨t, e⟩ := (show ∃ t, u = Value.float b t from r); cases e; rfl
  | ref a => cases (show u = Value.ref a from r); rfl
  | ty n => cases (show u = Value.type n from r); rfl
section
variable {P : Program} {w : World} {H H' : Hp} {h h' : Heap} {a C dx : Addr} {fs fs' : List (Str × V)}
theorem ins_get (hok : HOk P w H h) (e : H a = some (.ins C dx fs)) : ∃ mA, ObjM h a dx C mA ∧ (∀ f, RelO (fs.lookup f) (mA f)) ∧ PySem.Within mA (fs.map (·.1)) ∧ fs.length ≤ 1000 ∧ H dx = some (.own a) := by
  obtain ⟨d, z, ne, ob, mA, n, r, q⟩ := (show ObjOk P w H h a (.ins C dx fs) from hok a _ e)
  exact ⟨mA, ⟨ob, n, ne⟩, r, q, z, d⟩
end
structure Cls (K : PySem.W.Frag) (C : Addr) : Prop where
  pg : PySem.W.plainGet K C Str.empty = true
  hd : PySem.W.hasDictIn K C = true
  po : PySem.W.plainOver K C = true
  sa : PySem.W.findIn K (.ref C) "__setattr__" = some (some (.builtin "object.__setattr__"))
theorem Cls.get {K : PySem.W.Frag} {C : Addr} (c : Cls K C) (f : Str) : PySem.W.plainGet K C f = true := c.pg
noncomputable def NoAttr (K : PySem.W.Frag) (C : Addr) (f : Str) : Prop := PySem.W.findIn K (.ref C) f = some none
section
variable {X : Cx} {pins : List (Addr × Obj)} {σ : St} {H : Hp} {s : Shared} {a C dx : Addr} {fs : List (Str × V)} {f : Str} {v : V} {A : Around} {E : Value → Shared → Prop}
theorem attr_of {prog : Program} {w : World} {env : Env} {e : Expr} {f : Str} {pos : Pos} {s : Shared} {Q : Value → Shared → Prop} (hb : attributeBase e f env (eval e env) = eval e env)
    (h : wpAny (model prog w) A (eval e env) (fun o s₁ => wpAny (model prog w) A (getAttr o f true) Q E s₁) E s) : wpAny (model prog w) A (eval (.Attribute e f pos) env) Q E s :=
  Attribute_any_ h (by rw [arm_eval_Attribute, hb])
end
section
variable {X : Cx} {o e value : Expr} {f : Str} {pos pos' tpos : Pos} {ta tv : TE}
end
section
variable {X : Cx} {pins : List (Addr × Obj)} {σ : St} {H : Hp} {s : Shared} {A : Around} {E : Value → Shared → Prop} {Q : Value → Shared → Prop} {c : Value} {b : Bool}
inductive TyOf (K : PySem.W.Frag) (H : Hp) : V → Value → Prop where
  | non : TyOf K H .non (.type "NoneType")
  | bl (x : Bool) : TyOf K H (.bl x) (.type "bool")
  | int (i : Int) : TyOf K H (.int i) (.type "int")
  | str (x : Str) : TyOf K H (.str x) (.type "str")
  | flt (x : UInt64) : TyOf K H (.flt x) (.type "float")
  | lst {a : Addr} {xs : List V} (e : H a = some (.lst xs)) : TyOf K H (.ref a) (.type "list")
  | frz {a : Addr} {o : Obj} {xs : List V} (e : H a = some (.frz o (.lst xs))) : TyOf K H (.ref a) (.type "list")
  | tup {a : Addr} {xs : List V} (e : H a = some (.tup xs)) : TyOf K H (.ref a) (.type "tuple")
  | dK {a : Addr} {kvs : List (Key × V)} (e : H a = some (.dK kvs)) : TyOf K H (.ref a) (.type "dict")
  | dT {a : Addr} {kvs : List (List Key × V)} (e : H a = some (.dT kvs)) : TyOf K H (.ref a) (.type "dict")
  | ins {a C dx : Addr} {fs : List (Str × V)} (e : H a = some (.ins C dx fs)) (cl : Cls K C) (ha : PySem.W.findIn K (.ref C) "__class__" = some (some (.builtin "object.__class__")))
      (hn : PySem.W.specialIn K (.builtin "object.__class__") "__get__" = some (some (.builtin "getset_descriptor.__get__"))) (htk : PySem.W.takesIn K (.builtin "object.__class__") = some true)
      (hm : PySem.W.mroIn K C (.type "object") = some true) : TyOf K H (.ref a) (.ref C)
theorem isinst_ok {x : V} {u t : Value} (I : Inv X pins σ H s) (rx : RelV x u) (ty : TyOf X.K H x t) (e : PySem.W.kitOne X.K t c = some b) (h : ∀ tk, Q (.bool b) { s with toks := tk }) :
    wpAny (model X.prog X.w) A (call (.builtin "isinstance") [u, c]) Q E s := by
  cases ty with
  | non => cases (show u = Value.none from rx); exact PySem.W.kia_one PySem.W.kitx_none I.kIn True.intro e (fun z => nomatch z) h
  | bl y => cases (show u = Value.bool y from rx); exact PySem.W.kia_one PySem.W.kitx_bool I.kIn True.intro e (fun z => nomatch z) h
  | int i => obtain ⟨t, q⟩ := (show ∃ t, u = Value.int i t from rx); cases q; exact PySem.W.kia_one PySem.W.kitx_int I.kIn True.intro e (fun z => nomatch z) h
  | str y => obtain ⟨t, q⟩ := (show ∃ t, u = Value.str y t from rx); cases q; exact PySem.W.kia_one PySem.W.kitx_str I.kIn True.intro e (fun z => nomatch z) h
  | flt y => obtain ⟨t, q⟩ := (show ∃ t, u = Value.float y t from rx); cases q; exact PySem.W.kia_one PySem.W.kitx_float I.kIn True.intro e (fun z => nomatch z) h
  | @lst a xs ea =>
    cases (show u = Value.ref a from rx)
    obtain ⟨_, _, n, _, h1⟩ := (show ObjOk X.prog X.w H s.heap a (.lst xs) from I.hok a _ ea)
    exact PySem.W.kia_one PySem.W.kitx_list I.kIn ⟨_, h1, rfl⟩ e (fun z => nomatch z) h
  | @frz a ob xs ea =>
    cases (show u = Value.ref a from rx)
    obtain ⟨_, _, _, n, _, h1⟩ := (show ObjOk X.prog X.w H s.heap a (.frz ob (.lst xs)) from I.hok a _ ea)
    exact PySem.W.kia_one PySem.W.kitx_list I.kIn ⟨_, h1, rfl⟩ e (fun z => nomatch z) h
  | @tup a xs ea =>
    cases (show u = Value.ref a from rx)
    obtain ⟨_, _, _, p⟩ := (show ObjOk X.prog X.w H s.heap a (.tup xs) from I.hok a _ ea)
    obtain ⟨o, h1, h2, _⟩ := p
    exact PySem.W.kia_one PySem.W.kitx_tuple I.kIn ⟨o, h1, h2⟩ e (fun z => nomatch z) h
  | @dK a kvs ea =>
    cases (show u = Value.ref a from rx)
    obtain ⟨_, _, vs, _, p⟩ := (show ObjOk X.prog X.w H s.heap a (.dK kvs) from I.hok a _ ea)
    obtain ⟨o, es, ep, h1, h2, _⟩ := p
    exact PySem.W.kia_one PySem.W.kitx_dict I.kIn ⟨o, h1, h2.1⟩ e (fun z => nomatch z) h
  | @dT a kvs ea =>
    cases (show u = Value.ref a from rx)
    obtain ⟨_, _, xs, _, o, es, ep, h1, h2, _⟩ := (show ObjOk X.prog X.w H s.heap a (.dT kvs) from I.hok a _ ea)
    exact PySem.W.kia_one PySem.W.kitx_dict I.kIn ⟨o, h1, h2.1⟩ e (fun z => nomatch z) h
  | @ins a C dx fs ea cl ha hn htk hm =>
    cases (show u = Value.ref a from rx)
    obtain ⟨mA, O, _⟩ := ins_get I.hok ea
    obtain ⟨od, J, _⟩ := O.look
    exact PySem.W.kia_one (PySem.W.kitx_own (cl.get _) cl.hd ha hn htk hm) I.kIn J e (fun z => nomatch z) h
end
end L2
namespace L2
open PySem PySem.Spec PyProof.Rows
structure Room (k : Nat) (A : Around) : Prop where
  hd : A.handled = none
  dp : A.depth + 3 * k + 5 < recursionLimit
  un : A.units + 16 * k + 200 < cLine
  gd : A.guards = some []
theorem Room.mono {j k : Nat} {A : Around} (r : Room k A) (h : j ≤ k) : Room j A := ⟨r.hd, by have := r.dp; omega, by have := r.un; omega, r.gd⟩
theorem Room.deeper {k : Nat} {A : Around} (r : Room (k + 1) A) (env : Env) : Room k (A.deeper env) :=
  ⟨r.hd, by have := r.dp; show A.depth + 1 + 3 * k + 5 < _; omega, by have := r.un; show A.units + 3 + 16 * k + 200 < _; omega, r.gd⟩
theorem make_depth {A : Around} {C : Addr} {us : List Value} {kw : List (Str × Value)} : (A.under (.builtin "type.__call__" ⟨.ref C :: us, kw⟩)).depth = A.depth + 1 := by
  first | rfl | simp [Around.under, Code.weight, Code.isCreation, Code.isGuard, Code.isCaller, Code.frames, Code.isFrame, guardIds]
theorem make_units {A : Around} {C : Addr} {us : List Value} {kw : List (Str × Value)} : (A.under (.builtin "type.__call__" ⟨.ref C :: us, kw⟩)).units = A.units + 1 := by
  first | rfl | simp [Around.under, Code.cUnits, Code.frames, Code.isFrame]
theorem Room.make {k : Nat} {A : Around} (r : Room (k + 1) A) (C : Addr) (us : List Value) (kw : List (Str × Value)) : Room k (A.under (.builtin "type.__call__" ⟨.ref C :: us, kw⟩)) :=
  ⟨r.hd, by have := r.dp; rw [make_depth]; omega, by have := r.un; rw [make_units]; omega, (by first | exact r.gd | (simpa [Around.under, Code.isGuard, guardIds, pushGuards] using r.gd))⟩
theorem Room.depth {k : Nat} {A : Around} (r : Room k A) : A.depth < recursionLimit := by have := r.dp; omega
theorem Room.units {k : Nat} {A : Around} (r : Room k A) : A.units + 64 < cLine := by have := r.un; omega
noncomputable def tNil : TA := fun _ H Q => Q [] H
noncomputable def tCons (ta : TE) (tr : TA) : TA := fun σ H Q => ta σ H fun x H1 => tr σ H1 fun xs H2 => Q (x :: xs) H2
section
variable {X : Cx} {e : Expr} {es : List Expr} {te : TE} {t : TA} {pos : Pos}
theorem pa_nil : PA X [] tNil := fun _ _ _ _ H Q I h => Calls.spliced_nil ⟨[], H, I, .nil, h⟩
theorem pa_cons (ha : PE X e te) (hr : PA X es t) (hs : starEach (e :: es) X.env = (false, eval e X.env) :: starEach es X.env := by with_unfolding_all rfl) : PA X (e :: es) (tCons te t) := by
  intro pos pins s σ H Q I h
  rw [hs]
  show wpAny _ _ (spliced ((false, eval e X.env) :: backTo pos (starEach es X.env))) _ _ s
  refine Calls.spliced_cons (thn (ha pins s σ H _ I h) fun u s1 ⟨x, H1, I1, r1, q1⟩ => ?_)
  exact thn (hr pos pins s1 σ H1 _ I1 q1) fun us s2 ⟨xs, H2, I2, r2, q2⟩ => ⟨x :: xs, H2, I2, .cons r1 r2, q2⟩
noncomputable def tTup (t : TA) : TE := fun σ H Q => t σ H fun xs H1 => xs.length ≤ sizeLine ∧ ∀ p, H1 p = none → Q (.ref p) (upd H1 p (.tup xs))
noncomputable def tLst (t : TA) : TE := fun σ H Q => t σ H fun xs H1 => xs.length ≤ sizeLine ∧ ∀ p, H1 p = none → Q (.ref p) (upd H1 p (.lst xs))
theorem pe_tup {x1} (h : PA X es t) : PE X (.Tuple es x1 pos) (tTup t) := by
  intro pins s σ H Q I hq
  refine wpAny_Tuple_spliced (thn (h pos pins s σ H _ I hq) fun us s1 ⟨xs, H1, I1, r, z, q⟩ => ⟨by rw [← r.length]; exact z, ?_⟩)
  have hf : H1 s1.heap.objs.size = none := I1.hok.fresh (Nat.le_refl _)
  refine ⟨.ref s1.heap.objs.size, upd H1 s1.heap.objs.size (.tup xs), I1.laid (t' := s1.toks) (fun b u e => Heap.get?_push_of_some _ e) (Nat.le_refl _) ?_, rfl, q _ hf⟩
  exact ⟨z, us, r, ⟨_, Heap.get?_push_size _ rfl, rfl, ⟨_, rfl⟩, rfl⟩⟩
theorem pe_lst (h : PA X es t) : PE X (.List es pos) (tLst t) := by
  intro pins s σ H Q I hq
  refine wpAny_List_spliced (thn (h pos pins s σ H _ I hq) fun us s1 ⟨xs, H1, I1, r, z, q⟩ => ⟨by rw [← r.length]; exact z, ?_⟩)
  have hf : H1 s1.heap.objs.size = none := I1.hok.fresh (Nat.le_refl _)
  refine ⟨.ref s1.heap.objs.size, upd H1 s1.heap.objs.size (.lst xs), I1.laid (t' := s1.toks) (fun b u e => Heap.get?_push_of_some _ e) (Nat.le_refl _) ?_, rfl, q _ hf⟩
  exact ⟨z, us, 0, r, Heap.get?_push_size _ rfl⟩
end
noncomputable abbrev Sp := List V → Hp → VK → XK → Prop
noncomputable abbrev CXT := List Env → Hp → Shared → XK → Value → Shared → Prop
structure Env0 (P : Program) (w : World) (K : PySem.W.Frag) (mg : Str → Option Value) (base : Heap) (A : Around) (outer : List Env) (s : Shared) (H : Hp) : Prop where
  frames : A.frames = some outer
  mod : Mod K mg base
  bs : ∀ b o, base.get? b = some o → s.heap.get? b = some o ∧ H b = none
  bsz : base.objs.size ≤ s.heap.objs.size
  funs : s.heap.FunFrames base outer
  frf : ∀ b ∈ frs outer, H b = none
  hok : HOk P w H s.heap
  bare : AllBare s.gens
noncomputable def CE (outer : List Env) (P : Program) (w : World) (H : Hp) (s : Shared) (Q : VK) (u : Value) (s' : Shared) : Prop :=
  ∃ v H', s'.os = s.os ∧ AllBare s'.gens ∧ Un (frs outer) [] H H' s.heap s'.heap ∧ HOk P w H' s'.heap ∧ RelV v u ∧ Q v H'
noncomputable def CR (CX : CXT) (outer : List Env) (P : Program) (w : World) (H : Hp) (s : Shared) (Q : VK) (E : XK) (r : Result) (s' : Shared) : Prop :=
  match r with
  | .ok (.ret u) => CE outer P w H s Q u s'
  | .ok _ => False
  | .error e => CX outer H s E e s'
structure FnOk (P : Program) (w : World) (K : PySem.W.Frag) (mg : Str → Option Value) (base : Heap) (CX : CXT) (k : Nat) (f : Addr) (fd : FuncData) (ps : List Str) (sp : Sp) : Prop where
  len : ∀ vs H Q E, sp vs H Q E → vs.length = ps.length
  run : ∀ (A : Around) (outer : List Env) (s : Shared) (H : Hp) (args : Args) (us : List Value) (vs : List V) (Q : VK) (E : XK), Room k A → Env0 P w K mg base A outer s H → BindsTo s fd args (ps.zip us) → Vals vs us → sp vs H Q E →
    codeAny (model P w) A (.call (.ref f) args) (CR CX outer P w H s Q E) s
theorem Env0.make {P : Program} {w : World} {K : PySem.W.Frag} {mg : Str → Option Value} {base : Heap} {A : Around} {outer : List Env} {s : Shared} {H : Hp} (e : Env0 P w K mg base A outer s H) (C : Addr) (us : List Value) (kw : List (Str × Value)) :
    Env0 P w K mg base (A.under (.builtin "type.__call__" ⟨.ref C :: us, kw⟩)) outer s H := ⟨by first | exact e.frames | (simpa [Around.under, Code.envs, Code.isFrame, pushEnvs] using e.frames), e.mod, e.bs, e.bsz, e.funs, e.frf, e.hok, e.bare⟩
section
variable {X : Cx} {pins : List (Addr × Obj)} {σ : St} {H : Hp} {s s' : Shared}
theorem Inv.env0 (I : Inv X pins σ H s) : Env0 X.prog X.w X.K X.mg X.base X.A X.stack s H :=
  ⟨I.ok.frames, I.ok.mod, I.bs, Nat.le_trans I.ok.bsz I.sz, I.stack, I.stkFree, I.hok, I.bare⟩
theorem Inv.after {Q : VK} {u : Value} (I : Inv X pins σ H s) (h : CE X.stack X.prog X.w H s Q u s') : EP X pins σ Q u s' := by
  obtain ⟨v, H', os, bare, un, hok, r, q⟩ := h
  obtain ⟨hh, g, d, t, os'⟩ := s'
  obtain rfl : os' = s.os := os
  exact ⟨v, H', I.call (h' := hh) (g' := g) (d' := d) (t' := t) (ch := []) un hok bare (fun b z => absurd z (by simp)), r, q⟩
end
noncomputable def tCall (sp : Sp) (dvs : List V) (E : XK) (t : TA) : TE := fun σ H Q => t σ H fun vs H1 => sp (vs ++ dvs) H1 Q E
noncomputable def Binds (K : PySem.W.Frag) (fd : FuncData) (ps : List Str) (ds : List Value) : Prop :=
  ∀ (s : Shared) (us : List Value), K.In s.heap → (us ++ ds).length = ps.length → BindsTo s fd ⟨us, []⟩ (ps.zip (us ++ ds))
theorem Binds.all {K : PySem.W.Frag} {fd : FuncData} {ps : List Str} (h : ∀ us : List Value, us.length = ps.length → bindArgs fd ⟨us, []⟩ = pure (ps.zip us)) : Binds K fd ps [] := fun s us _ hl => by
  rw [List.append_nil] at hl ⊢
  exact .of_eq (h us hl)
noncomputable def Passes (CX : CXT) (X : Cx) (E : XK) : Prop := ∀ (pins : List (Addr × Obj)) (σ : St) (H : Hp) (s : Shared) (e : Value) (s' : Shared), Inv X pins σ H s → CX X.stack H s E e s' → X.xe e s'
section
variable {X : Cx} {CX : CXT} {k : Nat} {f C : Addr} {fd : FuncData} {ps : List Str} {sp : Sp} {dvs : List V} {ds : List Value} {E : XK} {x m : Str} {p pos apos : Pos} {e o : Expr} {es : List Expr} {ta : TE} {t : TA}
theorem run_fn {pins : List (Addr × Obj)} {σ : St} {H : Hp} {s : Shared} {Q : VK} {us : List Value} {vs : List V} (F : FnOk X.prog X.w X.K X.mg X.base CX k f fd ps sp) (hr : Room k X.A) (hb : Binds X.K fd ps ds) (hd : Vals dvs ds) (hx : Passes CX X E)
    (I : Inv X pins σ H s) (r : Vals vs us) (h : sp (vs ++ dvs) H Q E) : wpAny (model X.prog X.w) X.A (call (.ref f) us) (EP X pins σ Q) X.xe s := by
  have r2 : Vals (vs ++ dvs) (us ++ ds) := r.append hd
  have hl : (us ++ ds).length = ps.length := by rw [← r2.length]; exact F.len _ _ _ _ h
  refine wpAny_call (codeAny_mono (F.run X.A X.stack s H ⟨us, []⟩ (us ++ ds) (vs ++ dvs) Q E hr I.env0 (hb s us I.kIn hl) r2 h) fun r s' hq => ?_)
  cases r with
  | error e => exact hx pins σ H s e s' I hq
  | ok fl =>
    cases fl with
    | ret u => exact I.after hq
    | next => exact False.elim hq
    | brk => exact False.elim hq
    | cont => exact False.elim hq
theorem pe_call (F : FnOk X.prog X.w X.K X.mg X.base CX k f fd ps sp) (hr : Room k X.A) (hg : Gl X x) (hm : X.mg x = some (.ref f)) (hk : PySem.W.keepIn X.K (.ref f) = true) (hb : Binds X.K fd ps ds) (hd : Vals dvs ds) (hx : Passes CX X E)
    (ha : PA X (e :: es) t) (hdb : (x == ("__debug__" : Str)) = false := by decide) (he : starEach (e :: es) X.env = (false, eval e X.env) :: starEach es X.env := by with_unfolding_all rfl) (hpl : (backTo pos (starEach es X.env)).any (·.1) = false := by with_unfolding_all rfl) :
    PE X (.Call (.Name x p) (e :: es) [] pos) (tCall sp dvs E t) := by
  intro pins s σ H Q I h
  refine wpAny_Call_Name_kw (ld_glob I hg hm ?_ hdb)
  refine PySem.W.callWith_K (h₀ := X.base) I.ok.mod.kin hk (thn (ha pos pins s σ H _ I h) fun us s1 ⟨vs, H1, I1, r, q⟩ => ⟨I1.kIn, ?_⟩) he hpl
  exact run_fn F hr hb hd hx I1 r q
end
section
variable {X : Cx} {CX : CXT} {k : Nat} {f C : Addr} {fd : FuncData} {ps ks : List Str} {sp : Sp} {E : XK} {x m : Str} {p pos apos kpos : Pos} {e o : Expr} {es : List Expr} {kws : List Keyword} {te ta : TE} {t tk : TA} {nm : Option Str}
variable {g : List Value → List Value → List Value} {gV : List V → List V → List V}
end
structure FnScope (N P : List Str) (sc : Scope) : Prop where
  kind : sc.kind = .function
  co : sc.isCoroutine = false
  gen : sc.isGenerator = false
  nd : N.Nodup
  pre : N.take P.length = P
  par : ∀ x ∈ P, sc.names.lookup x = some .local ∨ sc.names.lookup x = some .cell
  nofree : ∀ y ∈ sc.names, y.2 ≠ .free
theorem bindL_out {kindOf : Str → Option NameKind} {x : Str} : ∀ {binds : List (Str × Value)} {m : Str → Option Value}, (∀ v, (x, v) ∉ binds) → bindL kindOf binds m x = m x
  | [], _, _ => rfl
  | (n, v) :: r, m, h => by
    unfold bindL
    rw [bindL_out fun w hw => h w (List.mem_cons_of_mem _ hw)]
    split
    · have : x ≠ n := by rintro rfl; exact h v List.mem_cons_self
      simp [this]
    · rfl
theorem bindC_out {kindOf : Str → Option NameKind} {x : Str} : ∀ {binds : List (Str × Value)} {m : Str → Option Value}, (∀ v, (x, v) ∉ binds) → bindC kindOf binds m x = m x
  | [], _, _ => rfl
  | (n, v) :: r, m, h => by
    unfold bindC
    rw [bindC_out fun w hw => h w (List.mem_cons_of_mem _ hw)]
    split
    · rfl
    · have : x ≠ n := by rintro rfl; exact h v List.mem_cons_self
      simp [this]
theorem bindL_get {kindOf : Str → Option NameKind} {x : Str} {v : Value} : ∀ {P : List Str} {vs : List Value} {i : Nat} {m : Str → Option Value}, P.Nodup → P[i]? = some x → vs[i]? = some v → kindOf x = some .local →
    bindL kindOf (P.zip vs) m x = some v
  | [], _, _, _, _, h, _, _ => by simp at h
  | _ :: _, [], _, _, _, _, h, _ => by simp at h
  | p :: P, w :: vs, 0, m, nd, h1, h2, hk => by
    simp at h1 h2; subst h1; subst h2
    show bindL kindOf ((p, w) :: P.zip vs) m p = _
    unfold bindL
    rw [bindL_out fun v hv => (List.nodup_cons.mp nd).1 (List.of_mem_zip hv).1, if_pos hk]
    simp
  | p :: P, w :: vs, i + 1, m, nd, h1, h2, hk => by
    show bindL kindOf ((p, w) :: P.zip vs) m x = _
    unfold bindL
    exact bindL_get (i := i) (List.nodup_cons.mp nd).2 (by simpa using h1) (by simpa using h2) hk
theorem bindC_get {kindOf : Str → Option NameKind} {x : Str} {v : Value} : ∀ {P : List Str} {vs : List Value} {i : Nat} {m : Str → Option Value}, P.Nodup → P[i]? = some x → vs[i]? = some v → kindOf x ≠ some .local →
    bindC kindOf (P.zip vs) m x = some v
  | [], _, _, _, _, h, _, _ => by simp at h
  | _ :: _, [], _, _, _, _, h, _ => by simp at h
  | p :: P, w :: vs, 0, m, nd, h1, h2, hk => by
    simp at h1 h2; subst h1; subst h2
    show bindC kindOf ((p, w) :: P.zip vs) m p = _
    unfold bindC
    rw [bindC_out fun v hv => (List.nodup_cons.mp nd).1 (List.of_mem_zip hv).1, if_neg hk]
    simp
  | p :: P, w :: vs, i + 1, m, nd, h1, h2, hk => by
    show bindC kindOf ((p, w) :: P.zip vs) m x = _
    unfold bindC
    exact bindC_get (i := i) (List.nodup_cons.mp nd).2 (by simpa using h1) (by simpa using h2) hk
noncomputable def start (N : List Str) (vs : List V) : St := vs.map some ++ List.replicate (N.length - vs.length) none
noncomputable def cxOf (CX : CXT) (P : Program) (w : World) (K : PySem.W.Frag) (mg : Str → Option Value) (base : Heap) (N : List Str) (qual : Str) (scope : Scope) (f : Addr) (cd : Value) (A : Around) (outer : List Env) (s : Shared) (H : Hp) (E : XK) : Cx where
  prog := P
  w := w
  K := K
  mg := mg
  base := base
  A := A.deeper (envOfC qual scope s.heap.objs.size f cd)
  N := N
  s₀ := s
  H₀ := H
  env := envOfC qual scope s.heap.objs.size f cd
  outer := outer
  stack := envOfC qual scope s.heap.objs.size f cd :: outer
  ex := []
  calm := true
  fn := fun _ => true
  pn := []
  xe := fun e s' => wpAny (model P w) (A.deeper (envOfC qual scope s.heap.objs.size f cd)) (leaving (envOfC qual scope s.heap.objs.size f cd) e) (fun _ s'' => CX outer H s E e s'') (fun e' s'' => CX outer H s E e' s'') s'
theorem cell_has {sc : Scope} {n : Nat} {x : Str} (h : sc.names.lookup x = some .cell) : ∃ c, (cellsFrom n sc.names []).lookup x = some c := by
  have q := PySem.W.cellsFrom_some sc.names n [] (.inl h)
  exact Option.isSome_iff_exists.mp q
theorem inv_start {CX : CXT} {P : Program} {w : World} {K : PySem.W.Frag} {mg : Str → Option Value} {base : Heap} {N ps : List Str} {qual : Str} {scope : Scope} {f : Addr} {cd : Value} {A : Around} {outer : List Env} {s s1 : Shared} {H : Hp} {E : XK} {us : List Value} {vs : List V}
    (S : FnScope N ps scope) (hd : A.handled = none) (e0 : Env0 P w K mg base A outer s H) (hl : vs.length = ps.length) (r : Vals vs us)
    (x : InCallC s s.heap.objs.size (bindL (envOfC qual scope s.heap.objs.size f cd).kindOf (ps.zip us) fun _ => none) (cellsFrom (s.heap.objs.size + 1) scope.names []) (bindC (envOfC qual scope s.heap.objs.size f cd).kindOf (ps.zip us) fun _ => none) s1) :
    Inv (cxOf CX P w K mg base N qual scope f cd A outer s H E) [] (start N vs) H s1 := by
  have hpl : ps.length ≤ N.length := by have := congrArg List.length S.pre; rw [List.length_take] at this; omega
  obtain ⟨h1, tk, rfl, hk⟩ := x.done
  have noA : ∀ b : Addr, b ∉ (cxOf CX P w K mg base N qual scope f cd A outer s H E).ex := fun b z => absurd (show b ∈ ([] : List Addr) from z) (by simp)
  refine ⟨⟨e0.mod, S.kind, rfl, rfl, Nat.le_refl _, fun y z c h1 h2 => ?_, fun y hy => ?_, fun y c _ h => ?_, fun _ => hd, Around.frames_deeper e0.frames, .inr ⟨rfl, rfl⟩, fun b z => absurd z (noA b), e0.bs, e0.bsz, fun b _ _ => noA b, fun b z => absurd z (noA b), e0.funs, e0.frf⟩,
    rfl, e0.bare, Un.kept hk, ⟨_, x.toInCall.ns, fun i y v h1 h2 h3 => ?_⟩, fun y c h => ⟨_, x.cell y c h⟩, e0.hok.fresh (Nat.le_refl _), fun y c h => ?_, fun p hp => absurd (show p ∈ ([] : List (Addr × Obj)) from hp) (by simp), e0.hok.kept hk, ?_⟩
  · exact name_of_addr x.apart (PySem.mem_of_lookup h1) (PySem.mem_of_lookup h2)
  · have hy : scope.names.lookup y = some .cell ∨ scope.names.lookup y = some .free := hy
    rcases hy with hy | hy
    · exact cell_has hy
    · exact absurd rfl (S.nofree _ (PySem.mem_of_lookup hy))
  · exact Nat.le_of_lt (x.above y c (PySem.mem_of_lookup h))
  · have hi : i < vs.length := by
      unfold start at h2
      by_cases hi : i < vs.length
      · exact hi
      · rw [List.getElem?_append_right (by simpa using hi)] at h2
        rw [List.getElem?_replicate] at h2
        split at h2 <;> cases h2
    have ha : vs[i]? = some v := by
      unfold start at h2
      rw [List.getElem?_append_left (by simpa using hi), List.getElem?_map] at h2
      cases e : vs[i]? with
      | none => rw [e] at h2; cases h2
      | some a => rw [e] at h2; cases h2; rfl
    obtain ⟨u, hu, rv⟩ := r.get ha
    have hp : ps[i]? = some y := by
      rw [← S.pre, List.getElem?_take_of_lt (by omega)]; exact h1
    have ndP : ps.Nodup := by rw [← S.pre]; exact S.nd.sublist (List.take_sublist _ _)
    refine ⟨u, rv, ?_⟩
    rcases S.par y (List.mem_of_getElem? hp) with k | k
    · exact .inl ⟨k, bindL_get ndP hp hu k⟩
    · obtain ⟨c, e⟩ := cell_has (n := s.heap.objs.size + 1) k
      refine .inr ⟨.inl k, c, e, ?_⟩
      have q := x.cell y c e
      rw [bindC_get ndP hp hu (by show scope.names.lookup y ≠ _; rw [k]; decide)] at q
      exact q
  · exact e0.hok.fresh (Nat.le_of_lt (x.above y c (PySem.mem_of_lookup h)))
  · unfold start
    show _ = N.length
    rw [List.length_append, List.length_map, List.length_replicate]
    omega
theorem fn_of {CX : CXT} {P : Program} {w : World} {K : PySem.W.Frag} {mg : Str → Option Value} {base : Heap} {k : Nat} {f : Addr} {name qual : Str} {params : Arguments} {body : List Stmt} {scope : Scope} {dV kV doc pm cdv ct oc : Value} {an od : Option Addr}
    {osl : Array (Option Value)} {N ps : List Str} {sp : Sp} (lk : K.lookup f = some ⟨oc, od, .func (PySem.W.fnOf name qual params body scope dV kV doc pm an cdv ct), osl⟩) (hcd : PySem.W.codeIn K cdv qual = true) (S : FnScope N ps scope)
    (len : ∀ vs H Q E, sp vs H Q E → vs.length = ps.length)
    (hbody : ∀ (A : Around) (outer : List Env) (s : Shared) (H : Hp) (vs : List V) (Q : VK) (E : XK), Room k (A.deeper (envOfC qual scope s.heap.objs.size f cdv)) → sp vs H Q E →
      ∃ t, PSs (cxOf CX P w K mg base N qual scope f cdv A outer s H E) body t ∧ t { nx := fun _ H' => Q .non H', rt := Q } (start N vs) H) :
    FnOk P w K mg base CX (k + 1) f (PySem.W.fnOf name qual params body scope dV kV doc pm an cdv ct) ps sp := by
  refine ⟨len, fun A outer s H args us vs Q E hr e0 hb r hsp => ?_⟩
  have hl := len _ _ _ _ hsp
  have KX : K.In s.heap := e0.mod.kin.keeps fun b o e => (e0.bs b o e).1
  have lim : s.heap.NoLimit := e0.mod.nolimit.keeps fun b o e => (e0.bs b o e).1
  have hkind : ∀ y ∈ ps.zip us, scope.names.lookup y.1 = some .local ∨ (scope.names.lookup y.1 = some .cell ∧ ((cellsFrom (s.heap.objs.size + 1) scope.names []).lookup y.1).isSome = true) := fun ⟨n, v⟩ hy => by
    rcases S.par n (List.of_mem_zip hy).1 with q | q
    · exact .inl q
    · exact .inr ⟨q, PySem.W.cellsFrom_some _ _ _ (.inl q)⟩
  refine codeAny_call_function hr.depth (KX _ _ lk) rfl S.co S.gen rfl (PySem.W.codeRec_of KX hcd) (hb _ _ _ _ ?_)
  refine wpAny_newFunctionEnv_cells S.kind hkind fun env he s1 x => ?_
  subst he
  refine ⟨lim.keeps x.toInCall.keep, codeAny_func ?_⟩
  obtain ⟨t, ht, hq⟩ := hbody A outer s H vs Q E (hr.deeper _) hsp
  have I : Inv (cxOf CX P w K mg base N qual scope f cdv A outer s H E) [] (start N vs) H s1 := inv_start S hr.hd e0 hl r x
  refine wpAny_mono (ht [] s1 (start N vs) H _ I hq) (fun fl s' hs => ?_) fun e s' hs => hs
  have fin : ∀ {σ' : St} {H' : Hp} {v : V} {u : Value}, Inv (cxOf CX P w K mg base N qual scope f cdv A outer s H E) [] σ' H' s' → RelV v u → Q v H' → CE outer P w H s Q u s' :=
    fun {σ' H' v u} J rv q => ⟨v, H', J.os, J.bare, J.base, J.hok, rv, q⟩
  cases fl with
  | ret u =>
    obtain ⟨v, σ', H', J, rv, q⟩ := hs
    exact fin J rv q
  | next =>
    obtain ⟨σ', H', J, q⟩ := hs
    exact fin (v := V.non) (u := Value.none) J rfl q
  | brk =>
    obtain ⟨_, _, _, q⟩ := hs
    exact False.elim q
  | cont =>
    obtain ⟨_, _, _, q⟩ := hs
    exact False.elim q
end L2
namespace L2
open PySem PySem.Spec PyProof.Rows
section
variable {X : Cx} {x : Str} {p pos : Pos} {e : Expr} {es : List Expr} {t : TA} {id T : String} {r : List V → Hp → VK → Prop}
noncomputable def tCB (r : List V → Hp → VK → Prop) (t : TA) : TE := fun σ H Q => t σ H fun vs H1 => r vs H1 Q
theorem pe_callB (hc : CallR X (.builtin id) r) (hg : Gl X x) (hm : X.mg x = none) (hv : bootBuiltins x = some (.builtin id)) (ha : PA X (e :: es) t) (hn : x ≠ "__name__" := by decide) (hdb : (x == ("__debug__" : Str)) = false := by decide)
    (he : starEach (e :: es) X.env = (false, eval e X.env) :: starEach es X.env := by with_unfolding_all rfl) (hpl : (backTo pos (starEach es X.env)).any (·.1) = false := by with_unfolding_all rfl) : PE X (.Call (.Name x p) (e :: es) [] pos) (tCB r t) := by
  intro pins s σ H Q I h
  refine wpAny_Call_Name_kw (ld_blt I hg hm hv ?_ hn hdb)
  exact PyProof.Rows.callWith_builtin1 (thn (ha pos pins s σ H _ I h) fun us s1 ⟨vs, H1, I1, r1, q1⟩ => hc pins s1 σ H1 vs us Q I1 r1 q1) he hpl
theorem pe_callTy (hc : CallR X (.type T) r) (hg : Gl X x) (hm : X.mg x = none) (hv : bootBuiltins x = some (.type T)) (ha : PA X (e :: es) t) (hn : x ≠ "__name__" := by decide) (hdb : (x == ("__debug__" : Str)) = false := by decide)
    (he : starEach (e :: es) X.env = (false, eval e X.env) :: starEach es X.env := by with_unfolding_all rfl) (hpl : (backTo pos (starEach es X.env)).any (·.1) = false := by with_unfolding_all rfl) : PE X (.Call (.Name x p) (e :: es) [] pos) (tCB r t) := by
  intro pins s σ H Q I h
  refine wpAny_Call_Name_kw (ld_blt I hg hm hv ?_ hn hdb)
  exact PyProof.Rows.callWith_type1 (thn (ha pos pins s σ H _ I h) fun us s1 ⟨vs, H1, I1, r1, q1⟩ => hc pins s1 σ H1 vs us Q I1 r1 q1) he hpl
end
end L2
namespace HT
open PySem PyProof.Rows
section
open PySem.SeqAt
open PySem.AutoSeq1 (wpAny_loadPart')
open PySem.MeetsSeq PySem.MeetsSeq2 PySem.MeetsSeq3
end
section
variable {prog : Program} {w : World} {A : Around} {E : Value → Shared → Prop} {s : Shared}
theorem cat_tup {t b : Addr} {vs ws : List Value} {Q : Value → Shared → Prop} (ht : IsTup s.heap t vs.toArray) (hb : IsTup s.heap b ws.toArray) (hv : vs ≠ [])
    (h1 : ws = [] → Q (.ref t) s) (h2 : ws ≠ [] → Q (.ref s.heap.objs.size) { s with heap := s.heap.push { cls := .type "tuple", data := .seq (vs ++ ws).toArray } })
    (hsz : vs.length + ws.length ≤ sizeLine) : wpAny (model prog w) A (binaryOp .Add (.ref t) (.ref b)) Q E s := by
  obtain ⟨⟨cls, dd, data, sl⟩, ho, hc, n, hd⟩ := id ht
  obtain ⟨⟨cls2, dd2, data2, sl2⟩, ho2, hc2, n2, hd2⟩ := id hb
  simp only at hc hd hc2 hd2
  subst hc hd hc2 hd2
  have e : vs.toArray ++ ws.toArray = (vs ++ ws).toArray := by simp
  by_cases hw : ws = []
  · exact concat_meets ⟨_, ho, rfl⟩ ⟨_, ho2, rfl⟩ noFill_tuple_add seq_tuple_add PySem.F.slot_tuple_add PySem.F.entry_tuple_add (PySem.F.args_tuple_add_2 _ _)
      (tuple_addW1 t b vs.toArray ws.toArray n n2 dd dd2 sl sl2 (by simpa using hv) (by simp [hw])) ⟨ho, ho2, h1 hw⟩
  · refine concat_meets ⟨_, ho, rfl⟩ ⟨_, ho2, rfl⟩ noFill_tuple_add seq_tuple_add PySem.F.slot_tuple_add PySem.F.entry_tuple_add (PySem.F.args_tuple_add_2 _ _)
      (tuple_addW2 t b vs.toArray ws.toArray n n2 dd dd2 sl sl2 (by simpa using hv) (by simpa using hw) (by rw [List.size_toArray, List.size_toArray]; exact hsz)) ⟨ho, ho2, ?_⟩
    rw [e]
    exact h2 hw
noncomputable def sIx (n d : Nat) : Option Int → Nat
  | none => d
  | some v => if v < 0 then (v + (n : Int)).toNat else min v.toNat n
theorem sIx_none (n d : Nat) : sIx n d none = d := rfl
theorem sIx_nat (n d k : Nat) : sIx n d (some (k : Int)) = min k n := by
  show (if (k : Int) < 0 then ((k : Int) + (n : Int)).toNat else min (k : Int).toNat n) = min k n
  rw [if_neg (by omega), Int.toNat_natCast]
theorem sIx_le (n d : Nat) (hd : d ≤ n) (o : Option Int) : sIx n d o ≤ n := by
  cases o with
  | none => exact hd
  | some v =>
    show (if v < 0 then (v + (n : Int)).toNat else min v.toNat n) ≤ n
    by_cases hv : v < 0
    · rw [if_pos hv]; omega
    · rw [if_neg hv]; exact Nat.min_le_right _ _
theorem clip_eq (v : Int) (n d : Nat) : (if v < 0 then max (v + (n : Int)) 0 else min v (n : Int)) = ((sIx n d (some v) : Nat) : Int) := by
  show (if v < 0 then max (v + (n : Int)) 0 else min v (n : Int)) = (((if v < 0 then (v + (n : Int)).toNat else min v.toNat n) : Nat) : Int)
  by_cases hv : v < 0
  · simp only [if_pos hv]; omega
  · simp only [if_neg hv]; omega
theorem adjust_gen (lo hi : Option Int) (n : Nat) : Builtin.Slice.sliceAdjust lo hi 1 (n : Int) = (((sIx n 0 lo : Nat) : Int), ((sIx n n hi : Nat) : Int)) := by
  have h1 : ¬ ((1 : Int) < 0) := by omega
  unfold Builtin.Slice.sliceAdjust
  simp only [h1, if_false]
  refine Prod.ext ?_ ?_
  · cases lo with
    | none => rfl
    | some v => exact clip_eq v n 0
  · cases hi with
    | none => rfl
    | some v => exact clip_eq v n n
theorem places_gen (i j : Nat) : Builtin.Slice.slicePlaces (i : Int) (j : Int) 1 = j - i := by
  unfold Builtin.Slice.slicePlaces
  have h1 : (1 : Int) > 0 := by omega
  simp only [h1, if_true, Int.ediv_one]
  split <;> omega
theorem slicePart_ {v : Value} {o : Option Int} {Q : Option Int → Shared → Prop} (p : IsPart v o) (h : Q o s) : wpAny (model prog w) A (Builtin.Slice.slicePartIndex v) Q E s := by
  cases p with
  | none => exact slicePart_none h
  | int i t => exact slicePart_int h
theorem sliceApplied_gen {sl : Addr} {vl vu : Value} {lo hi : Option Int} {n : Nat} {Q : Int × Int × Nat → Shared → Prop} (hs : s.heap.IsSliceOf sl vl vu .none) (pl : IsPart vl lo) (pu : IsPart vu hi)
    (h : Q (((sIx n 0 lo : Nat) : Int), 1, sIx n n hi - sIx n 0 lo) s) : wpAny (model prog w) A (Builtin.Slice.sliceApplied (.ref sl) (pure (n : Int))) Q E s := by
  obtain ⟨os, hos, hcs, hds⟩ := id hs
  unfold Builtin.Slice.sliceApplied Builtin.Slice.sliceFields
  refine wpAny_bind (wpAny_bind (wpAny_field hos hds (x := vl) rfl (wpAny_bind (wpAny_field hos hds (x := vu) rfl (wpAny_bind (wpAny_field hos hds (x := .none) rfl (wpAny_pure ?_)))))))
  refine wpAny_bind (slicePart_none ?_)
  show wpAny _ _ (if ((1 : Int) == 0) = true then _ else _) _ _ s
  rw [if_neg (by decide)]
  refine wpAny_bind (slicePart_ pl (wpAny_bind (slicePart_ pu (wpAny_bind (wpAny_pure ?_)))))
  show wpAny _ _ (match Builtin.Slice.sliceAdjust lo hi 1 (n : Int) with | (lo, hi) => pure (lo, (1 : Int), Builtin.Slice.slicePlaces lo hi 1)) _ _ s
  rw [adjust_gen lo hi n]
  show wpAny _ _ (pure (((sIx n 0 lo : Nat) : Int), (1 : Int), Builtin.Slice.slicePlaces ((sIx n 0 lo : Nat) : Int) ((sIx n n hi : Nat) : Int) 1)) _ _ s
  rw [places_gen]
  exact wpAny_pure h
theorem pick_gen (xs : Array Value) (i k : Nat) : ((List.range k).filterMap fun (m : Nat) => xs[((i : Int) + (m : Int) * 1).toNat]?).toArray = ((xs.toList.drop i).take k).toArray := by
  have e : (fun (m : Nat) => xs[((i : Int) + (m : Int) * 1).toNat]?) = fun m => xs[i + m]? := by
    funext m
    have : ((i : Int) + (m : Int) * 1).toNat = i + m := by omega
    rw [this]
  rw [e]
  have := pick_run xs i k
  rw [List.filterMap_map] at this
  have e2 : ((fun x => xs[x]?) ∘ fun x => i + x) = fun m => xs[i + m]? := rfl
  rw [e2] at this
  rw [this]
theorem getItem_tuple_cut {t sl : Addr} {items : Array Value} {vl vu : Value} {lo hi : Option Int} {Q : Value → Shared → Prop} (ht : IsTup s.heap t items) (hs : s.heap.IsSliceOf sl vl vu .none) (pl : IsPart vl lo) (pu : IsPart vu hi)
    (hw : ¬ (sIx items.size 0 lo = 0 ∧ sIx items.size items.size hi = items.size))
    (h : Q (.ref s.heap.objs.size) { s with heap := s.heap.push { cls := .type "tuple", data := .seq ((items.toList.drop (sIx items.size 0 lo)).take (sIx items.size items.size hi - sIx items.size 0 lo)).toArray } })
    (hsz : items.size ≤ sizeLine) : wpAny (model prog w) A (getItem (.ref t) (.ref sl)) Q E s := by
  have htake : sizeOk (.seq ((items.toList.drop (sIx items.size 0 lo)).take (sIx items.size items.size hi - sIx items.size 0 lo)).toArray) := by
    show ((items.toList.drop (sIx items.size 0 lo)).take (sIx items.size items.size hi - sIx items.size 0 lo)).toArray.size ≤ sizeLine
    rw [List.size_toArray, List.length_take, List.length_drop, Array.length_toList]
    omega
  have hj : sIx items.size items.size hi ≤ items.size := sIx_le _ _ (Nat.le_refl _) hi
  obtain ⟨os, hos, hcs, hds⟩ := id hs
  have hTs : s.TypeIs (.ref sl) "slice" := ⟨os, hos, hcs⟩
  unfold getItem
  try with_reducible refine wpAny_holding ?_
  first | refine wpAny_bind (wpAny_pure ?_) | skip
  refine wpAny_bind (wpAny_sequenceKey ht.typeIs (by decide) ?_)
  refine wpAny_bind (wpAny_callSpecial?_slot (name := Str.ofString "__getitem__") ht.typeIs PyProof.Rows.slot_tuple_getitem
    (wpAny_call_entry PyProof.Rows.slot_tuple_getitem ht.typeIs entry_tuple_getitem ?_ (args_tuple_getitem _ _)))
  show wpAny _ _ (Builtin.Tuple.tupleItemsOf (.ref t) >>= _) _ _ s
  refine wpAny_bind (tupleItemsOf_ ht ?_)
  refine wpAny_bind (wpAny_typeOf hTs ?_)
  rw [if_pos (by decide)]
  refine wpAny_bind (sliceApplied_gen hs pl pu ?_)
  have hno : ¬ ((((sIx items.size 0 lo : Nat) : Int) == 0 && (1 : Int) == 1 && (sIx items.size items.size hi - sIx items.size 0 lo) == items.size) = true) := by
    intro q
    rw [Bool.and_eq_true, Bool.and_eq_true] at q
    have q1 : ((sIx items.size 0 lo : Nat) : Int) = 0 := eq_of_beq q.1.1
    have q2 : sIx items.size items.size hi - sIx items.size 0 lo = items.size := eq_of_beq q.2
    exact hw ⟨by omega, by omega⟩
  show wpAny _ _ (if (((sIx items.size 0 lo : Nat) : Int) == 0 && (1 : Int) == 1 && (sIx items.size items.size hi - sIx items.size 0 lo) == items.size) = true then _ else _) _ _ s
  rw [if_neg hno, pick_gen]
  first
    | exact wpAny_bind (m := Builtin.Tuple.tupleExact _) (wpAny_newObj_type (wpAny_pure ⟨_, rfl, wpAny_pure h⟩) htake)
    | exact wpAny_bind (m := Builtin.Tuple.tupleExact _) (wpAny_newObj_type (wpAny_bind (wpAny_pure (wpAny_pure ⟨_, rfl, wpAny_pure h⟩))) htake)
    | exact wpAny_bind (wpAny_bind (m := Builtin.Tuple.tupleExact _) (wpAny_newObj_type (wpAny_pure (wpAny_pure ⟨_, rfl, wpAny_pure h⟩)) htake))
    | exact wpAny_bind (wpAny_bind (m := Builtin.Tuple.tupleExact _) (wpAny_newObj_type (wpAny_pure ⟨_, rfl, wpAny_pure h⟩) htake))
end
end HT
namespace L2
open PySem PySem.Spec PyProof.Rows
noncomputable abbrev TO := St → Hp → (Option Int → Hp → Prop) → Prop
noncomputable def PO (X : Cx) (e : Option Expr) (t : TO) : Prop :=
  ∀ (pins : List (Addr × Obj)) (s : Shared) (σ : St) (H : Hp) (Q : Option Int → Hp → Prop), Inv X pins σ H s → t σ H Q →
    wpAny (model X.prog X.w) X.A (evalPart e X.env) (fun u s' => ∃ o H', Inv X pins σ H' s' ∧ IsPart u o ∧ Q o H') X.xe s
noncomputable def tNoPart : TO := fun _ H Q => Q none H
noncomputable def tPart (t : TE) : TO := fun σ H Q => t σ H fun x H1 => ∃ i, x = .int i ∧ Q (some i) H1
theorem intsAre_of {ns : List Int} : ∀ {us : List Value}, Vals (ns.map V.int) us → IntsAre us ns := by
  induction ns with
  | nil => intro us r; rw [List.map_nil] at r; cases r; exact .nil
  | cons n ns ih =>
    intro us r
    rw [List.map_cons] at r
    cases r with
    | cons r1 r2 =>
      obtain ⟨t, e⟩ := r1
      subst e
      exact .cons n t (ih r2)
section
variable {X : Cx} {e : Expr} {te : TE} {lo hi : Option Expr} {tl th : TO} {pos p2 : Pos}
theorem po_none : PO X none tNoPart := by
  intro pins s σ H Q I h
  rw [evalPart_none]
  exact wpAny_pure ⟨none, H, I, .none, h⟩
theorem po_some (h : PE X e te) : PO X (some e) (tPart te) := by
  intro pins s σ H Q I hw
  rw [evalPart_some]
  refine thn (h pins s σ H _ I hw) fun u s1 ⟨x, H1, I1, r1, q1⟩ => ?_
  obtain ⟨i, rfl, q⟩ := q1
  obtain ⟨t, rfl⟩ := r1
  exact ⟨some i, H1, I1, .int i t, q⟩
noncomputable def SlR (X : Cx) (r : V → Option Int → Option Int → Hp → VK → Prop) : Prop :=
  ∀ (pins : List (Addr × Obj)) (s : Shared) (σ : St) (H : Hp) (x : V) (v vl vu : Value) (lo hi : Option Int) (sl : Addr) (Q : VK), Inv X pins σ H s → RelV x v → s.heap.IsSliceOf sl vl vu .none → IsPart vl lo → IsPart vu hi → r x lo hi H Q →
    ∃ T id, typeLookup (.type T) "__getitem__" = pure (some (.builtin id)) ∧ s.TypeIs v T ∧ wpAny (model X.prog X.w) X.A (getItem v (.ref sl)) (EP X pins σ Q) X.xe s
theorem SlR.or {r r' : V → Option Int → Option Int → Hp → VK → Prop} (h : SlR X r) (h' : SlR X r') : SlR X (fun x lo hi H Q => r x lo hi H Q ∨ r' x lo hi H Q) := by
  intro pins s σ H x v vl vu lo hi sl Q I rx hs pl pu q
  rcases q with q | q
  · exact h pins s σ H x v vl vu lo hi sl Q I rx hs pl pu q
  · exact h' pins s σ H x v vl vu lo hi sl Q I rx hs pl pu q
noncomputable def tSl (r : V → Option Int → Option Int → Hp → VK → Prop) (te : TE) (tl th : TO) : TE := fun σ H Q => te σ H fun x H1 => tl σ H1 fun l H2 => th σ H2 fun u H3 => r x l u H3 Q
theorem pe_slice {r : V → Option Int → Option Int → Hp → VK → Prop} (hr : SlR X r) (he : PE X e te) (hl : PO X lo tl) (hu : PO X hi th) : PE X (.Subscript e (.Slice lo hi none p2) pos) (tSl r te tl th) := by
  intro pins s σ H Q I h
  refine Subscript_ (thn (he pins s σ H _ I h) fun v s1 ⟨x, H1, I1, r1, q1⟩ => ?_)
  refine wpAny_Slice (thn (hl pins s1 σ H1 _ I1 q1) fun vl s2 ⟨l, H2, I2, pl, q2⟩ => thn (hu pins s2 σ H2 _ I2 q2) fun vu s3 ⟨u, H3, I3, pu, q3⟩ => ?_)
  rw [evalPart_none]
  refine wpAny_pure ?_
  have I4 : Inv X pins σ H3 { s3 with heap := s3.heap.push { cls := .type "slice", data := .fields #[vl, vu, .none] } } := I3.kept (t' := s3.toks) fun b ob q => Heap.get?_push_of_some _ q
  obtain ⟨T, id, hT, ht, hg⟩ := hr pins { s3 with heap := s3.heap.push { cls := .type "slice", data := .fields #[vl, vu, .none] } } σ H3 x v vl vu l u s3.heap.objs.size Q I4 r1 (Heap.IsSliceOf.new ..) pl pu q3
  show wpAny (model X.prog X.w) X.A (subscriptTail e (.Slice lo hi none p2) v (.ref s3.heap.objs.size)) (EP X pins σ Q) X.xe { s3 with heap := s3.heap.push { cls := .type "slice", data := .fields #[vl, vu, .none] } }
  exact tail_any (ops := [.ref s3.heap.objs.size, v]) ht hT hg (by with_unfolding_all rfl)
noncomputable def cutV (xs : List V) (lo hi : Option Int) : List V := (xs.drop (HT.sIx xs.length 0 lo)).take (HT.sIx xs.length xs.length hi - HT.sIx xs.length 0 lo)
theorem cutV_length (xs : List V) (lo hi : Option Int) : (cutV xs lo hi).length ≤ xs.length := by
  unfold cutV
  rw [List.length_take, List.length_drop]
  omega
noncomputable def rSlT (K : PySem.W.Frag) : V → Option Int → Option Int → Hp → VK → Prop := fun x lo hi H Q => ∃ a xs, x = .ref a ∧ SqT K H a xs ∧
  ¬ (HT.sIx xs.length 0 lo = 0 ∧ HT.sIx xs.length xs.length hi = xs.length) ∧ ∀ p, H p = none → Q (.ref p) (upd H p (.tup (cutV xs lo hi)))
theorem sl_tup : SlR X (rSlT X.K) := by
  intro pins s σ H x v vl vu lo hi sl Q I rx hs pl pu h
  obtain ⟨a, xs, rfl, hx, hw, q⟩ := h
  cases rx
  obtain ⟨its, r, ht, hz⟩ := I.tuple hx
  have hlen : its.toArray.size = xs.length := by rw [List.size_toArray]; exact r.length.symm
  refine ⟨"tuple", _, PyProof.Rows.slot_tuple_getitem.lookup, ht.typeIs, ?_⟩
  refine HT.getItem_tuple_cut ht hs pl pu (by rw [hlen]; exact hw) ?_ (by rw [hlen]; exact hz)
  rw [hlen]
  refine ⟨.ref s.heap.objs.size, _, I.laid (t' := s.toks) (o := .tup (cutV xs lo hi)) (fun b ob q => Heap.get?_push_of_some _ q) (Nat.le_refl _) ?_, rfl, q _ (I.hok.fresh (Nat.le_refl _))⟩
  exact ⟨Nat.le_trans (cutV_length xs lo hi) hz, _, (r.drop (HT.sIx xs.length 0 lo)).take (HT.sIx xs.length xs.length hi - HT.sIx xs.length 0 lo), IsTupN.new _ _⟩
noncomputable def rCatT (K : PySem.W.Frag) : R2 := fun x y H Q => ∃ a b xs ys, x = .ref a ∧ y = .ref b ∧ SqT K H a xs ∧ SqT K H b ys ∧ xs ≠ [] ∧ xs.length + ys.length ≤ sizeLine ∧
  (ys = [] → Q (.ref a) H) ∧ (ys ≠ [] → ∀ p, H p = none → Q (.ref p) (upd H p (.tup (xs ++ ys))))
theorem Vals.nil_iff {xs : List V} {us : List Value} (r : Vals xs us) : us = [] ↔ xs = [] := by
  cases r with
  | nil => simp
  | cons _ _ => simp
theorem op_catT : OpR X (binaryOp .Add) (rCatT X.K) := by
  intro pins s σ H x y v u Q I rx ry h
  obtain ⟨a, b, xs, ys, rfl, rfl, ha, hb, hx, hz, q1, q2⟩ := h
  cases rx
  cases ry
  obtain ⟨its, r1, p1, _⟩ := I.tuple ha
  obtain ⟨its2, r2, p2, _⟩ := I.tuple hb
  refine HT.cat_tup p1 p2 (fun z => hx (r1.nil_iff.mp z)) (fun z => ⟨.ref a, H, I, rfl, q1 (r2.nil_iff.mp z)⟩) (fun z => ?_) (by rw [← r1.length, ← r2.length]; exact hz)
  refine ⟨.ref s.heap.objs.size, _, I.laid (t' := s.toks) (o := .tup (xs ++ ys)) (fun b ob q => Heap.get?_push_of_some _ q) (Nat.le_refl _) ?_, rfl, q2 (fun w => z (r2.nil_iff.mpr w)) _ (I.hok.fresh (Nat.le_refl _))⟩
  exact ⟨by rw [List.length_append]; exact hz, _, r1.append r2, IsTupN.new _ _⟩
end
end L2
namespace L2
open PySem PySem.Spec PyProof.Rows
noncomputable def ixN (n : Nat) (i : Int) : Option Nat := if 0 ≤ i then (if i < n then some i.toNat else none) else if -(n : Int) ≤ i then some (i + n).toNat else none
noncomputable def atI {α : Type} (xs : List α) (i : Int) : Option α := (ixN xs.length i).bind fun j => xs[j]?
theorem ixN_seq {n : Nat} {i : Int} {j : Nat} (h : ixN n i = some j) : seqIndex? i n = some j ∧ j < n ∧ -(n : Int) ≤ i ∧ i < n := by
  unfold ixN at h
  by_cases h0 : 0 ≤ i
  · rw [if_pos h0] at h
    by_cases h1 : i < n
    · rw [if_pos h1] at h
      have e : i.toNat = j := Option.some.inj h
      exact ⟨by rw [seqIndex_of h0 h1, e], by omega, by omega, h1⟩
    · rw [if_neg h1] at h; cases h
  · rw [if_neg h0] at h
    by_cases h1 : -(n : Int) ≤ i
    · rw [if_pos h1] at h
      have e : (i + n).toNat = j := Option.some.inj h
      exact ⟨by rw [seqIndex_neg (by omega) h1, e], by omega, h1, by omega⟩
    · rw [if_neg h1] at h; cases h
theorem atI_get {α : Type} {xs : List α} {i : Int} {v : α} (h : atI xs i = some v) : ∃ j, seqIndex? i xs.length = some j ∧ xs[j]? = some v ∧ j < xs.length ∧ -(xs.length : Int) ≤ i ∧ i < xs.length := by
  unfold atI at h
  cases e : ixN xs.length i with
  | none => rw [e] at h; cases h
  | some j =>
    rw [e] at h
    obtain ⟨h1, h2, h3, h4⟩ := ixN_seq e
    exact ⟨j, h1, h, h2, h3, h4⟩
theorem atI_nat {α : Type} {xs : List α} {j : Nat} {v : α} (h : xs[j]? = some v) : atI xs (j : Int) = some v := by
  have hj : j < xs.length := (List.getElem?_eq_some_iff.mp h).1
  have e : ixN xs.length (j : Int) = some j := by
    unfold ixN
    rw [if_pos (by omega), if_pos (by omega)]; simp
  unfold atI; rw [e]; exact h
noncomputable def PlainIx (b : Expr) : Prop := ∀ o i, subscripted b false o i = operate [o, i] (getItem o i)
noncomputable def IxR (X : Cx) (r : R2) : Prop :=
  ∀ (value slice : Expr) (pins : List (Addr × Obj)) (s : Shared) (σ : St) (H : Hp) (x y : V) (v u : Value) (Q : VK), Inv X pins σ H s → RelV x v → RelV y u → r x y H Q →
    subscripted slice false v u = operate [v, u] (getItem v u) → wpAny (model X.prog X.w) X.A (subscriptTail value slice v u) (EP X pins σ Q) X.xe s
noncomputable def MtR (X : Cx) (id : String) (r : V → List V → Hp → VK → Prop) : Prop :=
  ∀ (pins : List (Addr × Obj)) (s : Shared) (σ : St) (H : Hp) (x : V) (xs : List V) (v : Value) (us : List Value) (Q : VK), Inv X pins σ H s → RelV x v → Vals xs us → r x xs H Q →
    wpAny (model X.prog X.w) X.A (call (.builtin id) (v :: us)) (EP X pins σ Q) X.xe s
section
variable {X : Cx} {a b : Expr} {ta tb : TE} {pos : Pos}
theorem IxR.or {r r' : R2} (h : IxR X r) (h' : IxR X r') : IxR X (fun x y H Q => r x y H Q ∨ r' x y H Q) := by
  intro value slice pins s σ H x y v u Q I rx ry q hs
  rcases q with q | q
  · exact h value slice pins s σ H x y v u Q I rx ry q hs
  · exact h' value slice pins s σ H x y v u Q I rx ry q hs
theorem pe_ix {r : R2} (hr : IxR X r) (ha : PE X a ta) (hb : PE X b tb) (hs : PlainIx b) : PE X (.Subscript a b pos) (tOp r ta tb) := by
  intro pins s σ H Q I h
  exact Subscript_ (binT ha hb I h fun v u s2 x y H2 I2 rx ry q => hr a b pins s2 σ H2 x y v u Q I2 rx ry q (hs _ _))
noncomputable def rIxL (K : PySem.W.Frag) : R2 := fun x y H Q => ∃ p xs i v, x = .ref p ∧ y = .int i ∧ SqL K H p xs ∧ atI xs i = some v ∧ Q v H
noncomputable def rIxT (K : PySem.W.Frag) : R2 := fun x y H Q => ∃ p xs i v, x = .ref p ∧ y = .int i ∧ SqT K H p xs ∧ atI xs i = some v ∧ Q v H
noncomputable def rIxS : R2 := fun x y H Q => ∃ z i c, x = .str z ∧ y = .int i ∧ z.length ≤ sizeLine ∧ atI z.cps.toList i = some c ∧ Q (.str ⟨#[c]⟩) H
theorem ix_list : IxR X (rIxL X.K) := by
  intro value slice pins s σ H x y v u Q I rx ry h hs
  obtain ⟨p, xs, i, z, rfl, rfl, hq, he, q⟩ := h
  cases rx
  obtain ⟨t, rfl⟩ := ry
  obtain ⟨its, r, pl, hz⟩ := I.list hq
  obtain ⟨j, h1, h2, h3, h4, h5⟩ := atI_get he
  obtain ⟨w, ew, rw'⟩ := r.get h2
  have hl := r.length
  have hn := line63
  have fin : EP X pins σ Q w s := ⟨z, H, I, rw', q⟩
  by_cases h0 : 0 ≤ i
  · have hj : i.toNat = j := by
      rw [seqIndex_of h0 h5] at h1
      exact Option.some.inj h1
    exact item_listR pl.isList h0 (by omega) (by rw [hj]; simpa using ew) fin hs
  · have hj : (i + (its.toArray.size : Int)).toNat = j := by
      rw [seqIndex_neg (by omega) h4] at h1
      rw [List.size_toArray, ← hl]
      exact Option.some.inj h1
    exact subscriptTail_builtinR (x := w) pl.isList.typeIs slot_list_getitem.lookup
      (wpAny_getItem_list_neg (Q := fun r s' => r = w ∧ EP X pins σ Q r s') pl.isList (by omega) (by rw [List.size_toArray] <;> omega) (by omega) (by rw [hj]; simpa using ew) ⟨rfl, fin⟩) hs
theorem ix_tup : IxR X (rIxT X.K) := by
  intro value slice pins s σ H x y v u Q I rx ry h hs
  obtain ⟨p, xs, i, z, rfl, rfl, hq, he, q⟩ := h
  cases rx
  obtain ⟨t, rfl⟩ := ry
  obtain ⟨its, r, pl, hz⟩ := I.tuple hq
  obtain ⟨j, h1, h2, h3, h4, h5⟩ := atI_get he
  obtain ⟨w, ew, rw'⟩ := r.get h2
  have hl := r.length
  have hn := line63
  have fin : EP X pins σ Q w s := ⟨z, H, I, rw', q⟩
  exact subscriptTail_builtinR (x := w) pl.typeIs slot_tuple_getitem.lookup
    (getItem_tuple (j := j) (Q := fun r s' => r = w ∧ EP X pins σ Q r s') pl (by omega) (by omega) (by rw [List.size_toArray, ← hl]; exact h1) (by simpa using ew) ⟨rfl, fin⟩) hs
theorem ix_str : IxR X rIxS := by
  intro value slice pins s σ H x y v u Q I rx ry h hs
  obtain ⟨z, i, c, rfl, rfl, hz, he, q⟩ := h
  obtain ⟨t, rfl⟩ := rx
  obtain ⟨t', rfl⟩ := ry
  obtain ⟨j, h1, h2, h3, h4, h5⟩ := atI_get he
  have hl : z.cps.toList.length = z.length := by simp [Str.length]
  rw [hl] at h1 h4 h5
  have hn := line63
  exact tail_any (typeIs_str s z t) slot_str_getitem.lookup (getItem_str (c := c) (by
    have e1 : decide (i < -(2 ^ 63 : Int)) = false := decide_eq_false (by omega)
    have e2 : decide (i ≥ 2 ^ 63) = false := decide_eq_false (by omega)
    rw [e1, e2, Bool.or_false]) (by rw [h1]; simpa using h2) ⟨.str ⟨#[c]⟩, H, I.tok _, ⟨_, rfl⟩, q⟩) hs
noncomputable def rIx (K : PySem.W.Frag) : R2 := fun x y H Q => rIxL K x y H Q ∨ rIxT K x y H Q ∨ rIxS x y H Q
theorem ix_seq : IxR X (rIx X.K) := ix_list.or (ix_tup.or ix_str)
theorem slice_bounds (lo hi : Option Int) (n : Nat) : (sliceBounds lo hi none n).1 = ((HT.sIx n 0 lo : Nat) : Int) ∧ (sliceBounds lo hi none n).2.1 = ((HT.sIx n n hi : Nat) : Int) ∧ (sliceBounds lo hi none n).2.2 = 1 := by
  refine ⟨?_, ?_, rfl⟩
  · cases lo with
    | none => simp [sliceBounds, HT.sIx]
    | some i =>
      simp only [sliceBounds, HT.sIx, Option.getD_none, show (1 : Int) > 0 by decide, if_true]
      by_cases h : i < 0
      · simp only [h, if_true] <;> omega
      · simp only [h, if_false] <;> omega
  · cases hi with
    | none => simp [sliceBounds, HT.sIx]
    | some i =>
      simp only [sliceBounds, HT.sIx, Option.getD_none, show (1 : Int) > 0 by decide, if_true]
      by_cases h : i < 0
      · simp only [h, if_true] <;> omega
      · simp only [h, if_false] <;> omega
theorem slicePick_cut (its : List Value) (lo hi : Option Int) : slicePick its.toArray lo hi none = ((its.drop (HT.sIx its.length 0 lo)).take (HT.sIx its.length its.length hi - HT.sIx its.length 0 lo)).toArray := by
  obtain ⟨h1, h2, h3⟩ := slice_bounds lo hi its.toArray.size
  unfold slicePick
  rw [h1, h2, h3]
  simp only [sliceRange_one, pick_run, List.size_toArray] <;> rfl
noncomputable def rSlL (K : PySem.W.Frag) : V → Option Int → Option Int → Hp → VK → Prop := fun x lo hi H Q => ∃ a xs, x = .ref a ∧ SqL K H a xs ∧ ∀ p, H p = none → Q (.ref p) (upd H p (.lst (cutV xs lo hi)))
theorem sl_list : SlR X (rSlL X.K) := by
  intro pins s σ H x v vl vu lo hi sl Q I rx hs pl pu h
  obtain ⟨a, xs, rfl, hx, q⟩ := h
  cases rx
  obtain ⟨its, r, ht, hz⟩ := I.list hx
  have hlen := r.length
  refine ⟨"list", _, slot_list_getitem.lookup, ht.isList.typeIs, ?_⟩
  refine wpAny_getItem_list_slice ht.isList hs pl pu .none (by simp) ?_ (by rw [List.size_toArray] <;> omega)
  rw [slicePick_cut, ← hlen]
  refine ⟨.ref s.heap.objs.size, _, I.laid (t' := s.toks) (o := .lst (cutV xs lo hi)) (fun b ob q => Heap.get?_push_of_some _ q) (Nat.le_refl _) ?_, rfl, q _ (I.hok.fresh (Nat.le_refl _))⟩
  exact ⟨Nat.le_trans (cutV_length xs lo hi) hz, _, 0, (r.drop (HT.sIx xs.length 0 lo)).take (HT.sIx xs.length xs.length hi - HT.sIx xs.length 0 lo), Heap.get?_push_size _ rfl⟩
noncomputable def flatV : V → Bool
  | .non => true
  | .bl _ => true
  | .int _ => true
  | .str _ => true
  | _ => false
noncomputable def eqV : V → V → Bool
  | .non, .non => true
  | .bl a, .bl b => a == b
  | .bl a, .int b => (if a then 1 else 0) == b
  | .int a, .bl b => a == (if b then 1 else 0)
  | .int a, .int b => a == b
  | .str a, .str b => a == b
  | _, _ => false
theorem eqAt_V {A : Around} {s : Shared} {y x : V} {u v : Value} (ry : RelV y u) (rx : RelV x v) (fy : flatV y = true) (fx : flatV x = true) : SeqAt.EqAt A s u v (eqV y x) := by
  cases y with
  | non =>
    cases ry
    cases x with
    | non => cases rx; exact SeqAt.EqAt.same _
    | bl b => cases rx; exact SeqAt.EqAt.none_bool b
    | int b => obtain ⟨t, rfl⟩ := rx; exact SeqAt.EqAt.none_int b t
    | str b => obtain ⟨t, rfl⟩ := rx; exact SeqAt.EqAt.none_str b t
    | _ => exact absurd (show false = true from fx) Bool.false_ne_true
  | bl a =>
    cases ry
    cases x with
    | non => cases rx; exact SeqAt.EqAt.bool_none a
    | bl b => cases rx; exact SeqAt.EqAt.bool_bool a b
    | int b => obtain ⟨t, rfl⟩ := rx; exact SeqAt.EqAt.bool_int a b t
    | str b => obtain ⟨t, rfl⟩ := rx; exact SeqAt.EqAt.bool_str a b t
    | _ => exact absurd (show false = true from fx) Bool.false_ne_true
  | int a =>
    obtain ⟨t', rfl⟩ := ry
    cases x with
    | non => cases rx; exact SeqAt.EqAt.int_none a t'
    | bl b => cases rx; exact SeqAt.EqAt.int_bool a t' b
    | int b => obtain ⟨t, rfl⟩ := rx; exact SeqAt.EqAt.int_int a t' b t
    | str b => obtain ⟨t, rfl⟩ := rx; exact SeqAt.EqAt.int_str a t' b t
    | _ => exact absurd (show false = true from fx) Bool.false_ne_true
  | str a =>
    obtain ⟨t', rfl⟩ := ry
    cases x with
    | non => cases rx; exact SeqAt.EqAt.str_none a t'
    | bl b => cases rx; exact SeqAt.EqAt.str_bool a t' b
    | int b => obtain ⟨t, rfl⟩ := rx; exact SeqAt.EqAt.str_int a t' b t
    | str b => obtain ⟨t, rfl⟩ := rx; exact SeqAt.EqAt.str_str a t' b t
    | _ => exact absurd (show false = true from fx) Bool.false_ne_true
  | _ => exact absurd (show false = true from fy) Bool.false_ne_true
noncomputable def eqU (x : V) (u : Value) : Bool := match u with
  | .none => eqV .non x
  | .bool b => eqV (.bl b) x
  | .int i _ => eqV (.int i) x
  | .str z _ => eqV (.str z) x
  | _ => false
theorem eqU_of {x y : V} {u : Value} (r : RelV y u) (f : flatV y = true) : eqU x u = eqV y x := by
  cases y with
  | non => cases r; rfl
  | bl b => cases r; rfl
  | int i => obtain ⟨t, rfl⟩ := r; rfl
  | str z => obtain ⟨t, rfl⟩ := r; rfl
  | _ => exact absurd (show false = true from f) Bool.false_ne_true
theorem any_eqU {x : V} : ∀ {xs : List V} {us : List Value}, Vals xs us → xs.all flatV = true → us.any (eqU x) = xs.any fun y => eqV y x
  | _, _, .nil, _ => rfl
  | y :: xs, u :: us, .cons r t, f => by
    rw [List.all_cons, Bool.and_eq_true] at f
    rw [List.any_cons, List.any_cons, eqU_of r f.1, any_eqU t f.2]
theorem mem_eqAt {A : Around} {s : Shared} {x : V} {v : Value} (rx : RelV x v) (fx : flatV x = true) : ∀ {xs : List V} {us : List Value}, Vals xs us → xs.all flatV = true → ∀ u ∈ us, SeqAt.EqAt A s u v (eqU x u)
  | _, _, .nil, _ => fun u hu => by cases hu
  | y :: xs, u :: us, .cons r t, f => fun u' hu => by
    rw [List.all_cons, Bool.and_eq_true] at f
    rcases List.mem_cons.mp hu with rfl | hu
    · rw [eqU_of r f.1]; exact eqAt_V r rx f.1 fx
    · exact mem_eqAt rx fx t f.2 u' hu
noncomputable def inV (x : V) (xs : List V) : Bool := xs.any fun y => eqV y x
noncomputable def rIn (K : PySem.W.Frag) (neg : Bool) : R2 := fun x y H Q => ∃ p xs, y = .ref p ∧ (SqL K H p xs ∨ SqT K H p xs) ∧ flatV x = true ∧ xs.all flatV = true ∧ Q (.bl (if neg then !inV x xs else inV x xs)) H
theorem op_in_seq : OpR X (compareOp .In) (rIn X.K false) := by
  intro pins s σ H x y v u Q I rx ry h
  obtain ⟨p, xs, rfl, hq, fx, fs, q⟩ := h
  cases ry
  rcases hq with hq | hq
  · obtain ⟨its, r, pl, hz⟩ := I.list hq
    refine SeqAt.in_listAt (eqU x) pl.isList (fun w hw => mem_eqAt rx fx r fs w (by simpa using hw)) ⟨.bl _, H, I, rfl, ?_⟩
    rw [show its.toArray.any (eqU x) = its.any (eqU x) by simp, any_eqU r fs]
    exact q
  · obtain ⟨its, r, pl, hz⟩ := I.tuple hq
    refine SeqAt.in_tupleAt (eqU x) pl (fun w hw => mem_eqAt rx fx r fs w (by simpa using hw)) ⟨.bl _, H, I, rfl, ?_⟩
    rw [show its.toArray.any (eqU x) = its.any (eqU x) by simp, any_eqU r fs]
    exact q
theorem op_notIn_seq : OpR X (compareOp .NotIn) (rIn X.K true) := by
  intro pins s σ H x y v u Q I rx ry h
  obtain ⟨p, xs, rfl, hq, fx, fs, q⟩ := h
  cases ry
  rcases hq with hq | hq
  · obtain ⟨its, r, pl, hz⟩ := I.list hq
    refine SeqAt.notIn_listAt (eqU x) pl.isList (fun w hw => mem_eqAt rx fx r fs w (by simpa using hw)) ⟨.bl _, H, I, rfl, ?_⟩
    rw [show its.toArray.any (eqU x) = its.any (eqU x) by simp, any_eqU r fs]
    exact q
  · obtain ⟨its, r, pl, hz⟩ := I.tuple hq
    refine SeqAt.notIn_tupleAt (eqU x) pl (fun w hw => mem_eqAt rx fx r fs w (by simpa using hw)) ⟨.bl _, H, I, rfl, ?_⟩
    rw [show its.toArray.any (eqU x) = its.any (eqU x) by simp, any_eqU r fs]
    exact q
theorem op_notIn_str : OpR X (compareOp .NotIn) (fun x y H Q => ∃ i j, x = .str i ∧ y = .str j ∧ Q (.bl (!(!(Builtin.Str.occurrences j i 0 j.length 1).isEmpty))) H) := by
  intro pins s σ H x y v u Q I rx ry h
  obtain ⟨i, j, rfl, rfl, q⟩ := h
  obtain ⟨t, rfl⟩ := rx
  obtain ⟨t', rfl⟩ := ry
  exact notIn_str ⟨.bl _, H, I, rfl, q⟩
theorem CallR.or {f : Value} {r r' : List V → Hp → VK → Prop} (h : CallR X f r) (h' : CallR X f r') : CallR X f (fun xs H Q => r xs H Q ∨ r' xs H Q) := by
  intro pins s σ H xs us Q I rs q
  rcases q with q | q
  · exact h pins s σ H xs us Q I rs q
  · exact h' pins s σ H xs us Q I rs q
theorem call_list_of : CallR X (.type "list") (fun xs H Q => ∃ p ys, xs = [.ref p] ∧ (SqL X.K H p ys ∨ SqT X.K H p ys) ∧ ∀ l, H l = none → Q (.ref l) (upd H l (.lst ys))) := by
  intro pins s σ H xs us Q I r h
  obtain ⟨p, ys, rfl, hq, q⟩ := h
  obtain ⟨u, rfl, rx⟩ := vals1 r
  cases rx
  have fin : ∀ (its : List Value), Vals ys its → ys.length ≤ sizeLine → ∀ (h' : Heap) (c' : Nat), (∀ b o', s.heap.get? b = some o' → h'.get? b = some o') →
      h'.get? s.heap.objs.size = some { cls := .type "list", dict := none, data := .seq its.toArray c', slots := #[] } → EP X pins σ Q (.ref s.heap.objs.size) { s with heap := h' } := fun its r' hz h' c' kp e =>
    ⟨.ref s.heap.objs.size, _, I.laid (t' := s.toks) kp (Nat.le_refl _) (show ObjOk X.prog X.w _ h' _ (.lst ys) from ⟨hz, its, c', r', e⟩), rfl, q _ (I.hok.fresh (Nat.le_refl _))⟩
  rcases hq with hq | hq
  · obtain ⟨its, r', pl, hz⟩ := I.list hq
    have hlen := r'.length
    obtain ⟨o, ho, hc, n, hd⟩ := pl.isList
    exact call_list_seq p (.inl rfl) ho hc hd (fun h' c' kp e => fin its r' hz h' c' kp e) (by simp only [List.size_toArray] <;> omega)
  · obtain ⟨its, r', pl, hz⟩ := I.tuple hq
    have hlen := r'.length
    obtain ⟨o, ho, hc, n, hd⟩ := pl
    exact call_list_seq p (.inr rfl) ho hc hd (fun h' c' kp e => fin its r' hz h' c' kp e) (by simp only [List.size_toArray] <;> omega)
theorem call_tuple_of : CallR X (.type "tuple") (fun xs H Q => ∃ p ys, xs = [.ref p] ∧ ((SqL X.K H p ys ∧ ∀ l, H l = none → Q (.ref l) (upd H l (.tup ys))) ∨ (SqT X.K H p ys ∧ Q (.ref p) H))) := by
  intro pins s σ H xs us Q I r h
  obtain ⟨p, ys, rfl, h⟩ := h
  obtain ⟨u, rfl, rx⟩ := vals1 r
  cases rx
  rcases h with ⟨hq, q⟩ | ⟨hq, q⟩
  · obtain ⟨its, r', pl, hz⟩ := I.list hq
    have hlen := r'.length
    refine call_tuple_list pl.isList (fun h' kp => ?_) (by simp only [List.size_toArray] <;> omega)
    have I1 : Inv X pins σ H { s with heap := h' } := I.kept (t' := s.toks) kp
    have I2 : Inv X pins σ (upd H h'.objs.size (.tup ys)) { s with heap := h'.push { cls := .type "tuple", data := .seq its.toArray } } :=
      I1.laid (t' := s.toks) (fun b o e => Heap.get?_push_of_some _ e) (Nat.le_refl _) (show ObjOk X.prog X.w _ _ _ (.tup ys) from ⟨hz, its, r', IsTupN.new _ _⟩)
    exact ⟨.ref h'.objs.size, _, I2, rfl, q _ (I1.hok.fresh (Nat.le_refl _))⟩
  · obtain ⟨its, r', pl, hz⟩ := I.tuple hq
    exact call_tuple_same pl ⟨.ref p, H, I, rfl, q⟩
noncomputable def tyV (K : PySem.W.Frag) (T : String) (x : V) (H : Hp) : Prop := match x with
  | .str _ => T = "str"
  | .int _ => T = "int"
  | .ref p => (T = "list" ∧ ∃ xs, SqL K H p xs) ∨ (T = "tuple" ∧ ∃ o, K.lookup p = some o ∧ o.cls = .type "tuple" ∧ o.dict = none) ∨
      (T = "dict" ∧ ((∃ kvs, H p = some (.dK kvs)) ∨ ∃ kvs, H p = some (.dT kvs))) ∨ (T = "set" ∧ ∃ S n, H p = some (.set S n))
  | _ => False
theorem tyV_is {pins : List (Addr × Obj)} {σ : St} {H : Hp} {s : Shared} {T : String} {x : V} {v : Value} (I : Inv X pins σ H s) (r : RelV x v) (ty : tyV X.K T x H) :
    s.TypeIs v T ∧ ∀ a, v = .ref a → ∃ ob, s.heap.get? a = some ob ∧ ob.dict = none := by
  cases x with
  | str z =>
    obtain ⟨t, rfl⟩ := r
    cases (show T = "str" from ty)
    exact ⟨typeIs_str s z t, fun _ e => nomatch e⟩
  | int i =>
    obtain ⟨t, rfl⟩ := r
    cases (show T = "int" from ty)
    exact ⟨typeIs_int s i t, fun _ e => nomatch e⟩
  | ref p =>
    cases r
    rcases ty with ⟨rfl, xs, hq⟩ | ⟨rfl, o, hk, hc, hd⟩ | ⟨rfl, hk⟩ | ⟨rfl, S, n, hk⟩
    · obtain ⟨its, _, pl, _⟩ := I.list hq
      refine ⟨pl.isList.typeIs, fun a e => ?_⟩
      cases e
      obtain ⟨o, n, e, c, hd, _⟩ := pl
      exact ⟨o, e, hd⟩
    · refine ⟨⟨o, I.kIn p o hk, hc⟩, fun a e => ?_⟩
      cases e
      exact ⟨o, I.kIn _ o hk, hd⟩
    · have z : ∃ o, s.heap.get? p = some o ∧ o.ExactDict := by
        rcases hk with ⟨kvs, hk⟩ | ⟨kvs, hk⟩
        · obtain ⟨_, _, _, _, o, _, _, e, ex, _⟩ := I.hok p _ hk
          exact ⟨o, e, ex⟩
        · obtain ⟨_, _, _, _, o, _, _, e, ex, _⟩ := I.hok p _ hk
          exact ⟨o, e, ex⟩
      obtain ⟨o, e, ex⟩ := z
      refine ⟨⟨o, e, ex.1⟩, fun a e2 => ?_⟩
      cases e2
      exact ⟨o, e, ex.2.1⟩
    · obtain ⟨o, _, _, _, e, ex, _⟩ := I.hok p _ hk
      refine ⟨⟨o, e, ex.1⟩, fun a e2 => ?_⟩
      cases e2
      exact ⟨o, e, ex.2.1⟩
  | _ => exact False.elim ty
noncomputable def tBM (K : PySem.W.Frag) (T : String) (r : V → List V → Hp → VK → Prop) (to : TE) (t : TA) : TE := fun σ H Q => to σ H fun x H1 => tyV K T x H1 ∧ t σ H1 fun xs H2 => r x xs H2 Q
variable {o e : Expr} {es : List Expr} {to : TE} {t : TA} {name : Str} {apos cpos : Pos} {T id : String} {r : V → List V → Hp → VK → Prop}
theorem pe_bm (pa : PlainAttrs T) (slot : Slot T name id) (hty : typeOf (.builtin id) = pure (.type "method_descriptor")) (hm : MtR X id r) (ho : PE X o to) (ha : PA X (e :: es) t)
    (hbase : attributeBase o name X.env (eval o X.env) = eval o X.env := by with_unfolding_all rfl)
    (hfew : ((backTo cpos (starEach (e :: es) X.env)).all (fun x => !x.1) && (backToKw cpos (keywordEach [] X.env)).all (fun x => x.1.isSome)
      && decide ((e :: es).length + ([] : List Keyword).length + (if ([] : List Keyword).isEmpty then 0 else 1) < 30)) = true := by with_unfolding_all rfl)
    (hline : (apos.endLine == cpos.line) = true := by with_unfolding_all rfl) (hs : starEach (e :: es) X.env = (false, eval e X.env) :: starEach es X.env := by with_unfolding_all rfl) (hplain : (backTo cpos (starEach es X.env)).any (·.1) = false := by with_unfolding_all rfl) :
    PE X (.Call (.Attribute o name apos) (e :: es) [] cpos) (tBM X.K T r to t) := by
  intro pins s σ H Q I h
  refine wpAny_Call_method_late hbase hfew hline rfl (thn (ho pins s σ H _ I h) fun v s1 ⟨x, H1, I1, r1, ty, q1⟩ => ?_)
  obtain ⟨h1, h2⟩ := tyV_is I1 r1 ty
  refine ⟨T, id, pa, slot, hty, h1, h2, ?_⟩
  have hA := ha cpos pins s1 σ H1 _ I1 q1
  rw [hs] at hA ⊢
  refine Calls.callWith_builtin (by show (false || (backTo cpos (starEach es X.env)).any (·.1)) = false; rw [hplain] <;> rfl) (Calls.evalArgs_plain ?_)
  exact thn hA fun us s2 ⟨vs, H2, I2, r2, q2⟩ => hm pins s2 σ H2 x vs v us Q I2 r1 r2 q2
/- xs.append(e), list.index on a module's tuple .. are MtR facts of 06m -/
end
end L2
namespace L2
open PySem PySem.Spec PyProof.Rows
noncomputable def MtM (X : Cx) (id : String) (r : V → List V → Hp → VK → Prop) : Prop :=
  ∀ (pins : List (Addr × Obj)) (s : Shared) (σ : St) (H : Hp) (x : V) (xs : List V) (v : Value) (us : List Value) (Q : VK), Inv X pins σ H s → RelV x v → Vals xs us → r x xs H Q →
    wpAny (model X.prog X.w) X.A (call (.builtin id) (v :: us)) (EP X pins σ Q) X.xe s
theorem Vals.one {x : V} {us : List Value} (h : Vals [x] us) : ∃ u, us = [u] ∧ RelV x u := by
  cases h with
  | cons r q => cases q; exact ⟨_, rfl, r⟩
theorem Vals.two {x y : V} {us : List Value} (h : Vals [x, y] us) : ∃ u v, us = [u, v] ∧ RelV x u ∧ RelV y v := by
  cases h with
  | cons r q => obtain ⟨u, rfl, q'⟩ := Vals.one q; exact ⟨_, _, rfl, r, q'⟩
theorem Vals.eraseIdx : ∀ {xs : List V} {us : List Value} (i : Nat), Vals xs us → Vals (xs.eraseIdx i) (us.eraseIdx i)
  | _, _, _, .nil => .nil
  | _, _, 0, .cons _ t => t
  | _, _, i + 1, .cons r t => .cons r (Vals.eraseIdx i t)
theorem Vals.reverse {xs : List V} {us : List Value} (h : Vals xs us) : Vals xs.reverse us.reverse := by
  induction h with
  | nil => exact .nil
  | cons r t ih => rw [List.reverse_cons, List.reverse_cons]; exact Vals.append ih (.cons r .nil)
theorem Vals.rep {xs : List V} {us : List Value} (h : Vals xs us) : ∀ k : Nat, Vals (List.replicate k xs).flatten (List.replicate k us).flatten
  | 0 => .nil
  | k + 1 => by
    rw [List.replicate_succ, List.replicate_succ, List.flatten_cons, List.flatten_cons]
    exact Vals.append h (Vals.rep h k)
theorem len_erase {α : Type} : ∀ (l : List α) (i : Nat), (l.eraseIdx i).length ≤ l.length
  | [], _ => Nat.le_refl _
  | _ :: _, 0 => Nat.le_succ _
  | _ :: r, i + 1 => Nat.succ_le_succ (len_erase r i)
theorem foldl_rep (its : List Value) : ∀ (k : Nat) (acc : List Value),
    List.foldl (fun x1 x2 => x1 ++ x2) acc.toArray (List.replicate k its.toArray) = (acc ++ (List.replicate k its).flatten).toArray
  | 0, acc => by simp
  | k + 1, acc => by
    have e : acc.toArray ++ its.toArray = (acc ++ its).toArray := by simp
    have e2 : (acc ++ its) ++ (List.replicate k its).flatten = acc ++ (List.replicate (k + 1) its).flatten := by
      rw [List.replicate_succ, List.flatten_cons, List.append_assoc]
    rw [← e2, ← foldl_rep its k (acc ++ its), ← e, List.replicate_succ, List.foldl_cons]
section
variable {X : Cx} {pins : List (Addr × Obj)} {σ : St} {H : Hp} {s : Shared} {l b : Addr} {xs ys zs : List V}
theorem Inv.lset {its its' : List Value} {n : Nat} {f : Array Value → Array Value} {t' : Nat} (I : Inv X pins σ H s) (hH : H l = some (.lst xs))
    (e : s.heap.get? l = some { cls := .type "list", data := .seq its.toArray n }) (hf : f its.toArray = its'.toArray) (hv : Vals ys its') (hz : ys.length ≤ sizeLine) :
    Inv X pins σ (upd H l (.lst ys)) { s with heap := s.heap.update l (Obj.mapSeq f), toks := t' } := by
  have q := PySem.IsL.update e f
  rw [hf] at q
  refine I.write (x := l) (e := l) (by rw [hH]; exact trivial) (.inl rfl) (fun b' u hb hu => (Heap.get?_update_other s.heap (Obj.mapSeq f) (Ne.symm hb)).trans hu) ⟨_, q⟩ ?_
  exact ⟨hz, its', _, hv, q⟩
theorem Inv.lnew {its : List Value} {t' : Nat} (I : Inv X pins σ H s) (hv : Vals ys its) (hz : ys.length ≤ sizeLine) :
    Inv X pins σ (upd H s.heap.objs.size (.lst ys)) { s with heap := s.heap.push { cls := .type "list", data := .seq its.toArray }, toks := t' } :=
  I.laid (fun _ _ q => Heap.get?_push_of_some _ q) (Nat.le_refl _) ⟨hz, its, 0, hv, Heap.get?_push_size _ rfl⟩
theorem Inv.fresh (I : Inv X pins σ H s) : H s.heap.objs.size = none := I.hok.fresh (Nat.le_refl _)
theorem Inv.lstM (I : Inv X pins σ H s) (hH : H l = some (.lst xs)) : xs.length ≤ sizeLine ∧ ∃ (its : List Value) (n : Nat), Vals xs its ∧ xs.length = its.length ∧ s.heap.get? l = some { cls := .type "list", data := .seq its.toArray n } := by
  obtain ⟨z, its, n, r, e⟩ := I.hok l _ hH
  exact ⟨z, its, n, r, r.length, e⟩
theorem notLongL {n : Nat} (h : n ≤ sizeLine) : Builtin.List.listTooLong n = false := by
  unfold Builtin.List.listTooLong
  exact decide_eq_false (by omega)
end
section
variable {X : Cx}
noncomputable def rAppend : V → List V → Hp → VK → Prop := fun x vs H Q => ∃ l xs y, x = .ref l ∧ vs = [y] ∧ H l = some (.lst xs) ∧ xs.length < sizeLine ∧ Q .non (upd H l (.lst (xs ++ [y])))
theorem mt_append : MtM X "list.append" rAppend := by
  intro pins s σ H x vs v us Q I rx rv h
  obtain ⟨l, xs, y, rfl, rfl, hH, hz, q⟩ := h
  cases rx
  obtain ⟨u, rfl, ru⟩ := rv.one
  obtain ⟨z, its, n, r, hl, e⟩ := I.lstM hH
  refine call_meets F.slot_list_append ⟨_, e, rfl⟩ F.entry_list_append (F.args_list_append_2 _ _) (PySem.list_append l its.toArray n u (by rw [List.size_toArray]; omega)) ⟨e, ?_⟩
  refine ⟨.non, _, I.lset (its' := its ++ [u]) hH e (by simp) (r.append (.cons ru .nil)) ?_, rfl, q⟩
  rw [List.length_append, List.length_singleton]
  omega
noncomputable def rExtend : V → List V → Hp → VK → Prop := fun x vs H Q => ∃ l b xs zs, x = .ref l ∧ vs = [.ref b] ∧ H l = some (.lst xs) ∧ H b = some (.lst zs) ∧ xs.length + zs.length ≤ sizeLine ∧ Q .non (upd H l (.lst (xs ++ zs)))
theorem mt_extend : MtM X "list.extend" rExtend := by
  intro pins s σ H x vs v us Q I rx rv h
  obtain ⟨l, b, xs, zs, rfl, rfl, hH, hB, hz, q⟩ := h
  cases rx
  obtain ⟨u, rfl, ru⟩ := rv.one
  cases ru
  obtain ⟨z, its, n, r, hl, e⟩ := I.lstM hH
  obtain ⟨z2, its2, n2, r2, hl2, e2⟩ := I.lstM hB
  have hsz : its.toArray.size + its2.toArray.size ≤ sizeLine := by rw [List.size_toArray, List.size_toArray]; omega
  have hlong : ¬ (!its.toArray.isEmpty && Builtin.List.listTooLong (its.toArray.size + its2.toArray.size)) = true := by
    rw [notLongL hsz, Bool.and_false]
    exact Bool.false_ne_true
  refine call_meets F.slot_list_extend ⟨_, e, rfl⟩ F.entry_list_extend (F.args_list_extend_2 _ _)
    (AutoSeq1.list_extend_list_list_0 l its.toArray n b its2.toArray n2 hlong (by rw [List.size_toArray]; omega) (by omega)) ⟨e, e2, ?_⟩
  refine ⟨.non, _, I.lset (its' := its ++ its2) hH e (by simp) (r.append r2) ?_, rfl, q⟩
  rw [List.length_append]
  omega
noncomputable def rPopAt : V → List V → Hp → VK → Prop := fun x vs H Q => ∃ l xs i k y, x = .ref l ∧ vs = [.int i] ∧ H l = some (.lst xs) ∧ -(2 ^ 63) ≤ i ∧ i < 2 ^ 63 ∧ seqIndex? i xs.length = some k ∧ xs[k]? = some y ∧ Q y (upd H l (.lst (xs.eraseIdx k)))
theorem mt_popAt : MtM X "list.pop" rPopAt := by
  intro pins s σ H x vs v us Q I rx rv h
  obtain ⟨l, xs, i, k, y, rfl, rfl, hH, h1, h2, hk, hy, q⟩ := h
  cases rx
  obtain ⟨u, rfl, ru⟩ := rv.one
  obtain ⟨t, rfl⟩ := ru
  obtain ⟨z, its, n, r, hl, e⟩ := I.lstM hH
  obtain ⟨w, hw, rw'⟩ := r.get hy
  refine call_meets F.slot_list_pop ⟨_, e, rfl⟩ F.entry_list_pop (F.args_list_pop_2 _ _)
    (MeetsSeq.list_pop_at l its.toArray n i t k w (fitsIndex_both h1 h2) (by rw [List.size_toArray, ← hl]; exact hk) (by rw [← Array.getElem?_toList]; exact hw) (by rw [List.size_toArray]; omega)) ⟨e, ?_⟩
  refine ⟨y, _, I.lset (its' := its.eraseIdx k) hH e ?_ (r.eraseIdx k) ?_, rw', q⟩
  · show its.toArray.eraseIdxIfInBounds k = (its.eraseIdx k).toArray
    rw [List.eraseIdxIfInBounds_toArray]
  · have := len_erase xs k
    omega
noncomputable def rCat : R2 := fun x y H Q => ∃ l b xs zs, x = .ref l ∧ y = .ref b ∧ H l = some (.lst xs) ∧ H b = some (.lst zs) ∧ xs.length + zs.length ≤ sizeLine ∧ ∀ p, H p = none → Q (.ref p) (upd H p (.lst (xs ++ zs)))
theorem op_cat : OpR X (binaryOp .Add) rCat := by
  intro pins s σ H x y v u Q I rx ry h
  obtain ⟨l, b, xs, zs, rfl, rfl, hH, hB, hz, q⟩ := h
  cases rx
  cases ry
  obtain ⟨z, its, n, r, hl, e⟩ := I.lstM hH
  obtain ⟨z2, its2, n2, r2, hl2, e2⟩ := I.lstM hB
  refine PySem.P.add_list e e2 ?_ (by rw [List.size_toArray, List.size_toArray]; omega)
  have ea : its.toArray ++ its2.toArray = (its ++ its2).toArray := by simp
  rw [ea]
  exact ⟨.ref _, _, I.lnew (t' := s.toks) (r.append r2) (by rw [List.length_append]; omega), rfl, q _ I.fresh⟩
noncomputable def rRep : R2 := fun x y H Q => ∃ l k xs, x = .ref l ∧ y = .int k ∧ H l = some (.lst xs) ∧ -(2 ^ 63) ≤ k ∧ k < 2 ^ 63 ∧ xs.length * k.toNat ≤ sizeLine ∧
  ∀ p, H p = none → Q (.ref p) (upd H p (.lst (List.replicate k.toNat xs).flatten))
theorem len_rep {α : Type} (xs : List α) (k : Nat) : (List.replicate k xs).flatten.length = k * xs.length := by
  induction k with
  | zero => simp
  | succ k ih => rw [List.replicate_succ, List.flatten_cons, List.length_append, ih, Nat.succ_mul, Nat.add_comm]
theorem op_rep : OpR X (binaryOp .Mult) rRep := by
  intro pins s σ H x y v u Q I rx ry h
  obtain ⟨l, k, xs, rfl, rfl, hH, h1, h2, hz, q⟩ := h
  cases rx
  obtain ⟨t, rfl⟩ := ry
  obtain ⟨z, its, n, r, hl, e⟩ := I.lstM hH
  have hlen : its.toArray.size * k.toNat ≤ sizeLine := by rw [List.size_toArray, ← hl]; exact hz
  have hcap : ¬ its.toArray.size * k.toNat > (2 ^ 63 - 1) / 8 := by
    have : (sizeLine : Nat) ≤ (2 ^ 63 - 1) / 8 := by decide
    omega
  have hfit : ¬ (!Builtin.List.listFitsIndex k) = true := by
    rw [fitsIndex_both h1 h2]
    exact Bool.false_ne_true
  have hlong : ¬ Builtin.List.listTooLong (its.toArray.size * k.toNat) = true := by
    rw [notLongL hlen]
    exact Bool.false_ne_true
  have hnew : List.foldl (fun x1 x2 => x1 ++ x2) #[] (List.replicate (if its.toArray.isEmpty = true then 0 else k.toNat) its.toArray) = (List.replicate k.toNat its).flatten.toArray := by
    have f0 : ∀ m : Nat, List.foldl (fun x1 x2 => x1 ++ x2) #[] (List.replicate m its.toArray) = (List.replicate m its).flatten.toArray := fun m => by
      have := foldl_rep its m []
      rw [List.nil_append] at this
      exact this
    rw [f0]
    cases its with
    | nil => simp
    | cons a r' => rw [if_neg (by simp)]
  refine wpAny_binaryOp_repeat_ref (T := "list") (U := "int") (by decide) ⟨_, e, rfl⟩ (fun s' => typeIs_int s' k t) noFill_list_mul F.fills_int_mul F.slot_int_rmul repeat_list F.slot_int_index.lookup
    (call_meets F.slot_int_rmul (typeIs_int s k t) F.entry_int_rmul (F.args_int_rmul_2 _ _) (int___rmul___int_list k t l its.toArray n)
      ⟨e, rfl, ⟨_, e, rfl⟩, call_meets F.slot_list_mul ⟨_, e, rfl⟩ F.entry_list_mul (F.args_list_mul_2 _ _) (AutoListH.list___mul___list_int_3 l its.toArray n k t hfit hcap hlong) ⟨e, ?_⟩⟩)
  rw [hnew]
  exact ⟨.ref _, _, I.lnew (t' := s.toks) (r.rep k.toNat) (by rw [len_rep, Nat.mul_comm]; exact hz), rfl, q _ I.fresh⟩
end
section
variable {prog : Program} {w : World} {A : Around} {E : Value → Shared → Prop} {s : Shared}
set_option maxRecDepth 100000 in
end
section
variable {X : Cx}
end
end L2
namespace L2
open PySem PySem.Spec PyProof.Rows
section
variable {κ : Type} [DecidableEq κ]
noncomputable def valV (kvs : List (κ × V)) (k : κ) : Option V := (kvs.find? fun kv => decide (kv.1 = k)).map (·.2)
noncomputable def putK (kvs : List (κ × V)) (k : κ) (v : V) : List (κ × V) :=
  if (kvs.any fun kv => decide (kv.1 = k)) = true then kvs.map (fun kv => if kv.1 = k then (kv.1, v) else kv) else kvs ++ [(k, v)]
theorem valV_pos {p : κ × V} {r : List (κ × V)} {k : κ} (e : p.1 = k) : valV (p :: r) k = some p.2 := by simp [valV, List.find?_cons, e]
theorem valV_neg {p : κ × V} {r : List (κ × V)} {k : κ} (e : ¬ p.1 = k) : valV (p :: r) k = valV r k := by simp [valV, List.find?_cons, e]
theorem valV_any (k : κ) : ∀ kvs : List (κ × V), (kvs.any fun kv => decide (kv.1 = k)) = (valV kvs k).isSome
  | [] => rfl
  | p :: r => by
    rw [List.any_cons]
    by_cases e : p.1 = k
    · simp only [valV_pos e, decide_eq_true e, Bool.true_or, Option.isSome_some]
    · rw [valV_neg e, decide_eq_false e, Bool.false_or]; exact valV_any k r
theorem length_putK (kvs : List (κ × V)) (k : κ) (v : V) : (putK kvs k v).length ≤ kvs.length + 1 := by
  unfold putK
  split
  · rw [List.length_map]; omega
  · rw [List.length_append, List.length_cons, List.length_nil]; omega
theorem RelO.isSome_eq {o : Option V} {u : Option Value} (r : RelO o u) : o.isSome = u.isSome := by
  cases o with
  | none => cases u with
    | none => rfl
    | some _ => exact (show False from r).elim
  | some _ => cases u with
    | none => exact (show False from r).elim
    | some _ => rfl
theorem KV.val {kvs : List (κ × V)} {vs : List (κ × Value)} (r : KV kvs vs) (k : κ) : RelO (valV kvs k) (valueAt vs k) := by
  unfold KV at r
  induction r with
  | nil => exact True.intro
  | @cons p q ps qs h t ih =>
    obtain ⟨h1, h2⟩ := h
    by_cases e : p.1 = k
    · have e' : q.1 = k := h1.symm.trans e
      have b : valueAt (q :: qs) k = some q.2 := by simp [valueAt, List.find?_cons, e']
      rw [valV_pos e, b]; exact h2
    · have e' : ¬ q.1 = k := fun z => e (h1.trans z)
      have b : valueAt (q :: qs) k = valueAt qs k := by simp [valueAt, List.find?_cons, e']
      rw [valV_neg e, b]; exact ih
theorem KV.any {kvs : List (κ × V)} {vs : List (κ × Value)} (r : KV kvs vs) (k : κ) : (kvs.any fun kv => decide (kv.1 = k)) = vs.any fun kv => decide (kv.1 = k) := by
  unfold KV at r
  induction r with
  | nil => rfl
  | cons h t ih => rw [List.any_cons, List.any_cons, ih, h.1]
theorem KV.repl {kvs : List (κ × V)} {vs : List (κ × Value)} (r : KV kvs vs) (k : κ) {y : V} {u : Value} (ry : RelV y u) :
    KV (kvs.map fun kv => if kv.1 = k then (kv.1, y) else kv) (vs.map fun kv => if kv.1 = k then (kv.1, u) else kv) := by
  unfold KV at r ⊢
  induction r with
  | nil => exact .nil
  | @cons p q ps qs h t ih =>
    rw [List.map_cons, List.map_cons]
    refine .cons ?_ ih
    obtain ⟨h1, h2⟩ := h
    by_cases e : p.1 = k
    · rw [if_pos e, if_pos (h1.symm.trans e)]; exact ⟨h1, ry⟩
    · rw [if_neg e, if_neg (fun z => e (h1.trans z))]; exact ⟨h1, h2⟩
theorem KV.put {kvs : List (κ × V)} {vs : List (κ × Value)} (r : KV kvs vs) (k : κ) {y : V} {u : Value} (ry : RelV y u) : KV (putK kvs k y) (stored vs k u) := by
  unfold putK stored
  rw [r.any k]
  by_cases e : (vs.any fun kv => decide (kv.1 = k)) = true
  · rw [if_pos e, if_pos e]; exact r.repl k ry
  · rw [if_neg e, if_neg e]; exact Paired.snoc r ⟨rfl, ry⟩
theorem KV.length {kvs : List (κ × V)} {vs : List (κ × Value)} (r : KV kvs vs) : kvs.length = vs.length := Paired.length r
end
theorem kV_is {P : Program} {w : World} {k : Key} {u : Value} (r : RelV (kV k) u) : (mixKind P w).is k u = true := by
  cases k with
  | inl i => obtain ⟨t, e⟩ := (show ∃ t, u = Value.int i t from r); subst e; exact mixKind_int P w i t
  | inr x => obtain ⟨t, e⟩ := (show ∃ t, u = Value.str x t from r); subst e; exact mixKind_str P w x t
theorem items_are {P : Program} {w : World} : ∀ {ks : List Key} {us : List Value}, Vals (ks.map kV) us → ItemsAre (mixKind P w) ks us
  | [], _, r => by rw [List.map_nil] at r; cases r; exact .nil
  | k :: ks, _, r => by
    rw [List.map_cons] at r
    cases r with
    | cons h t => exact .cons (kV_is h) (items_are t)
noncomputable abbrev KT (H : Hp) : List (List Key × V) → List (List Key × Addr × Value) → Prop := Paired fun p q => p.1 = q.1 ∧ H q.2.1 = some (.tup (p.1.map kV)) ∧ RelV p.2 q.2.2
theorem KT.val {H : Hp} {kvs : List (List Key × V)} {xs : List (List Key × Addr × Value)} (r : KT H kvs xs) (k : List Key) : RelO (valV kvs k) ((atKey xs k).map (·.2)) := by
  induction r with
  | nil => exact True.intro
  | @cons p q ps qs h t ih =>
    obtain ⟨h1, _, h2⟩ := h
    by_cases e : p.1 = k
    · have e' : q.1 = k := h1.symm.trans e
      have b : atKey (q :: qs) k = some q.2 := by simp [atKey, List.find?_cons, e']
      rw [valV_pos e, b]; exact h2
    · have e' : ¬ q.1 = k := fun z => e (h1.trans z)
      have b : atKey (q :: qs) k = atKey qs k := by simp [atKey, List.find?_cons, e']
      rw [valV_neg e, b]; exact ih
theorem KT.repl {H : Hp} {kvs : List (List Key × V)} {xs : List (List Key × Addr × Value)} (r : KT H kvs xs) (k : List Key) {y : V} {u : Value} (ry : RelV y u) :
    KT H (kvs.map fun kv => if kv.1 = k then (kv.1, y) else kv) (xs.map (putAt k u)) := by
  induction r with
  | nil => exact .nil
  | @cons p q ps qs h t ih =>
    rw [List.map_cons, List.map_cons]
    refine .cons ?_ ih
    obtain ⟨h1, h2, h3⟩ := h
    unfold putAt
    by_cases e : p.1 = k
    · rw [if_pos e, if_pos (h1.symm.trans e)]; exact ⟨h1, h2, ry⟩
    · rw [if_neg e, if_neg (fun z => e (h1.trans z))]; exact ⟨h1, h2, h3⟩
theorem KT.put {H : Hp} {kvs : List (List Key × V)} {xs : List (List Key × Addr × Value)} (r : KT H kvs xs) (k : List Key) {b : Addr} {y : V} {u : Value} (hb : H b = some (.tup (k.map kV))) (ry : RelV y u) :
    KT H (putK kvs k y) (storedH xs k b u) := by
  have e : (kvs.any fun kv => decide (kv.1 = k)) = (atKey xs k).isSome := by
    rw [valV_any, (r.val k).isSome_eq, Option.isSome_map]
  unfold putK storedH
  rw [e]
  by_cases q : (atKey xs k).isSome = true
  · rw [if_pos q, if_pos q]; exact r.repl k ry
  · rw [if_neg q, if_neg q]; exact Paired.snoc r ⟨rfl, hb, ry⟩
theorem KT.keeps {H H' : Hp} {kvs : List (List Key × V)} {xs : List (List Key × Addr × Value)} (r : KT H kvs xs) (ht : ∀ b ys, H b = some (.tup ys) → H' b = some (.tup ys)) : KT H' kvs xs :=
  Paired.mapP r fun _ _ z => ⟨z.1, ht _ _ z.2.1, z.2.2⟩
section
variable {P : Program} {w : World} {H : Hp} {h : Heap} {a : Addr}
theorem rd_of {u : HO} (ok : HOk P w H h) (e : Rd H a u) : ObjOk P w H h a u := e.ok ok
theorem dk_rd {kvs : List (Key × V)} (ok : HOk P w H h) (e : Rd H a (.dK kvs)) : kvs.length ≤ sizeLine ∧ (a == sysModules) = false ∧ ∃ vs, KV kvs vs ∧ h.DictOf (mixKind P w) a vs :=
  show ObjOk P w H h a (.dK kvs) from rd_of ok e
theorem dk_of {kvs : List (Key × V)} (ok : HOk P w H h) (e : H a = some (.dK kvs)) : kvs.length ≤ sizeLine ∧ (a == sysModules) = false ∧ ∃ vs, KV kvs vs ∧ h.DictOf (mixKind P w) a vs := dk_rd ok (.inl e)
theorem key_of {ks : List Key} (ok : HOk P w H h) (e : H a = some (.tup (ks.map kV))) : (tupleKind (mixKind P w)).is h ks a := by
  obtain ⟨_, its, r, o, h1, h2, ⟨n, h3⟩, _⟩ := (show ObjOk P w H h a (.tup (ks.map kV)) from ok a _ e)
  exact ⟨o, its.toArray, n, h1, h2, h3, by simpa using items_are r⟩
theorem dt_rd {kvs : List (List Key × V)} (ok : HOk P w H h) (e : Rd H a (.dT kvs)) : kvs.length ≤ sizeLine ∧ (a == sysModules) = false ∧
    ∃ xs, KT H kvs xs ∧ h.DictOfH (tupleKind (mixKind P w)) a xs := by
  obtain ⟨z, y, xs, r, o, es, ep, h1, h2, h3, h4, h5⟩ := (show ObjOk P w H h a (.dT kvs) from rd_of ok e)
  refine ⟨z, y, xs, r, o, es, ep, h1, h2, h3, h4, fun x hx => ?_, h5⟩
  have all : ∀ {l : List (List Key × V)} {m : List (List Key × Addr × Value)}, KT H l m → ∀ x ∈ m, (tupleKind (mixKind P w)).is h x.1 x.2.1 := by
    intro l m q
    induction q with
    | nil => intro x hx; exact nomatch hx
    | @cons p q ps qs hq t ih =>
      intro x hx
      rcases List.mem_cons.mp hx with e | hx
      · subst e
        exact key_of ok (by rw [← hq.1]; exact hq.2.1)
      · exact ih x hx
  exact all r x hx
theorem dt_of {kvs : List (List Key × V)} (ok : HOk P w H h) (e : H a = some (.dT kvs)) : kvs.length ≤ sizeLine ∧ (a == sysModules) = false ∧
    ∃ xs, KT H kvs xs ∧ h.DictOfH (tupleKind (mixKind P w)) a xs := dt_rd ok (.inl e)
end
noncomputable def DGet (H : Hp) (a : Addr) (y : V) (r : Option V) : Prop :=
  (∃ kvs k, Rd H a (.dK kvs) ∧ y = kV k ∧ r = valV kvs k) ∨ ∃ kvs k b, Rd H a (.dT kvs) ∧ y = .ref b ∧ H b = some (.tup (k.map kV)) ∧ r = valV kvs k
noncomputable def DPut (H : Hp) (a : Addr) (y v : V) (H' : Hp) : Prop :=
  (∃ kvs k, H a = some (.dK kvs) ∧ y = kV k ∧ kvs.length < sizeLine ∧ H' = upd H a (.dK (putK kvs k v))) ∨
  ∃ kvs k b, H a = some (.dT kvs) ∧ y = .ref b ∧ H b = some (.tup (k.map kV)) ∧ kvs.length < sizeLine ∧ H' = upd H a (.dT (putK kvs k v))
theorem DGet.k {H : Hp} {a : Addr} {kvs : List (Key × V)} {k : Key} (e : H a = some (.dK kvs)) : DGet H a (kV k) (valV kvs k) := .inl ⟨kvs, k, .inl e, rfl, rfl⟩
theorem DPut.k {H : Hp} {a : Addr} {kvs : List (Key × V)} {k : Key} {v : V} (e : H a = some (.dK kvs)) (hl : kvs.length < sizeLine) : DPut H a (kV k) v (upd H a (.dK (putK kvs k v))) := .inl ⟨kvs, k, e, rfl, hl, rfl⟩
section
variable {X : Cx} {pins : List (Addr × Obj)} {σ : St} {H : Hp} {s : Shared} {a : Addr} {y v : V} {u r : Value} {o : Option V} {A : Around} {E : Value → Shared → Prop}
theorem Inv.big (I : Inv X pins σ H s) : sysModules < s.heap.objs.size := by
  have h : mainGlobals < s.heap.objs.size := (I.mod.glob.keeps I.bk).lt
  exact Nat.lt_trans (by decide) h
theorem d_getItem {Q : Value → Shared → Prop} (hu : A.units + 1 < cLine) (I : Inv X pins σ H s) (g : DGet H a y (some v)) (ry : RelV y u) (h : ∀ w' s', Inv X pins σ H s' → RelV v w' → Q w' s') :
    wpAny (model X.prog X.w) A (getItem (.ref a) u) Q E s := by
  rcases g with ⟨kvs, k, e, ey, l⟩ | ⟨kvs, k, b, e, ey, eb, l⟩
  · subst ey
    obtain ⟨z, hd, vs, rel, dd⟩ := dk_rd I.hok e
    obtain ⟨w', hw, rw'⟩ := RelO.some_of (v := v) (o := valueAt vs k) (by rw [l]; exact rel.val k)
    exact wpAny_getItem_of (kV_is ry) dd.mapOf hw (h w' _ (I.tok _) rw')
  · subst ey
    cases (show u = Value.ref b from ry)
    obtain ⟨z, hd, xs, rel, dd⟩ := dt_rd I.hok e
    obtain ⟨w', hw, rw'⟩ := RelO.some_of (v := v) (o := (atKey xs k).map (·.2)) (by rw [l]; exact rel.val k)
    obtain ⟨p, hp, hp2⟩ := Option.map_eq_some_iff.mp hw
    refine wpAny_getItem_heap (tupleKind_room_in1 hu) (key_of I.hok eb) dd hp ?_
    rw [hp2]
    exact h w' _ (I.tok _) rw'
theorem d_in {Q : Value → Shared → Prop} (hu : A.units + 1 < cLine) (I : Inv X pins σ H s) (g : DGet H a y o) (ry : RelV y u) (h : ∀ s', Inv X pins σ H s' → Q (.bool o.isSome) s') :
    wpAny (model X.prog X.w) A (compareOp .In u (.ref a)) Q E s := by
  rcases g with ⟨kvs, k, e, ey, l⟩ | ⟨kvs, k, b, e, ey, eb, l⟩
  · subst ey
    obtain ⟨z, hd, vs, rel, dd⟩ := dk_rd I.hok e
    refine wpAny_in_of (kV_is ry) hd dd.mapOf ?_
    rw [← (rel.val k).isSome_eq, ← l]
    exact h _ (I.tok _)
  · subst ey
    cases (show u = Value.ref b from ry)
    obtain ⟨z, hd, xs, rel, dd⟩ := dt_rd I.hok e
    refine wpAny_in_heap (tupleKind_room_in1 hu) (key_of I.hok eb) hd dd ?_
    have q := (rel.val k).isSome_eq
    rw [Option.isSome_map] at q
    rw [← q, ← l]
    exact h _ (I.tok _)
theorem d_notIn {Q : Value → Shared → Prop} (hu : A.units + 1 < cLine) (I : Inv X pins σ H s) (g : DGet H a y o) (ry : RelV y u) (h : ∀ s', Inv X pins σ H s' → Q (.bool (!o.isSome)) s') :
    wpAny (model X.prog X.w) A (compareOp .NotIn u (.ref a)) Q E s := by
  rcases g with ⟨kvs, k, e, ey, l⟩ | ⟨kvs, k, b, e, ey, eb, l⟩
  · subst ey
    obtain ⟨z, hd, vs, rel, dd⟩ := dk_rd I.hok e
    refine wpAny_notIn_of (kV_is ry) hd dd.mapOf ?_
    rw [← (rel.val k).isSome_eq, ← l]
    exact h _ (I.tok _)
  · subst ey
    cases (show u = Value.ref b from ry)
    obtain ⟨z, hd, xs, rel, dd⟩ := dt_rd I.hok e
    refine wpAny_notIn_heap (tupleKind_room_in1 hu) (key_of I.hok eb) hd dd ?_
    have q := (rel.val k).isSome_eq
    rw [Option.isSome_map] at q
    rw [← q, ← l]
    exact h _ (I.tok _)
theorem d_write {h' : Heap} {t' : Nat} {ob : HO} (I : Inv X pins σ H s) (mu : Mut (H a)) (hs : Heap.SameBut a s.heap h') (he : ∃ q, h'.get? a = some q) (new : ObjOk X.prog X.w (upd H a ob) h' a ob) :
    Inv X pins σ (upd H a ob) { s with heap := h', toks := t' } :=
  I.write (x := a) (e := a) mu (.inl rfl) (fun b q hb z => (hs.2 b hb).trans z) he new
theorem dk_new {P : Program} {w : World} {H' : Hp} {h' : Heap} {kvs : List (Key × V)} {vs : List (Key × Value)} (z : kvs.length ≤ sizeLine) (hd : (a == sysModules) = false) (rel : KV kvs vs) (dd : h'.DictOf (mixKind P w) a vs) :
    ObjOk P w H' h' a (.dK kvs) := ⟨z, hd, vs, rel, dd⟩
theorem d_setItem {H' : Hp} {Q : Unit → Shared → Prop} (hu : A.units + 1 < cLine) (I : Inv X pins σ H s) (g : DPut H a y v H') (ry : RelV y u) (rv : RelV v r) (h : ∀ s', Inv X pins σ H' s' → Q () s') :
    wpAny (model X.prog X.w) A (setItem (.ref a) u r) Q E s := by
  rcases g with ⟨kvs, k, e, ey, l, eH⟩ | ⟨kvs, k, b, e, ey, eb, l, eH⟩
  · subst ey eH
    obtain ⟨z, hd, vs, rel, dd⟩ := dk_of I.hok e
    have hz : vs.length ≤ sizeLine := by rw [← rel.length]; exact z
    have hl : (putK kvs k v).length ≤ sizeLine := by have := length_putK kvs k v; omega
    refine wpAny_setItem_pairs (hsz := hz) (kV_is ry) dd fun h' dd' hs => h _ ?_
    have he : ∃ q, h'.get? a = some q := let ⟨q, _, _, hq, _⟩ := dd'; ⟨q, hq⟩
    exact d_write I (by rw [e]; exact True.intro) hs he (dk_new hl hd (rel.put k rv) dd')
  · subst ey eH
    cases (show u = Value.ref b from ry)
    obtain ⟨z, hd, xs, rel, dd⟩ := dt_of I.hok e
    have hz : xs.length ≤ sizeLine := by rw [← Paired.length rel]; exact z
    have hl : (putK kvs k v).length ≤ sizeLine := by have := length_putK kvs k v; omega
    refine wpAny_setItem_heap (hsz := hz) (tupleKind_room_in1 hu) (key_of I.hok eb) dd fun h' dd' hs => h _ ?_
    obtain ⟨q, es, ep, hq, h2, h3, h4, _, h5⟩ := dd'
    refine d_write I (by rw [e]; exact True.intro) hs ⟨q, hq⟩ ⟨hl, hd, _, (rel.put k eb rv).keeps fun c ys ec => ?_, q, es, ep, hq, h2, h3, h4, h5⟩
    rw [upd_ne (ne_of ec e (fun z => nomatch z))]
    exact ec
end
section
variable {X : Cx} {pins : List (Addr × Obj)} {σ : St} {H : Hp} {s : Shared} {a : Addr} {kvs : List (Key × V)} {k : Key} {u : Value} {A : Around} {E : Value → Shared → Prop}
theorem d_len {Q : Value → Shared → Prop} (I : Inv X pins σ H s) (e : Rd H a (.dK kvs)) (h : ∀ t s', Inv X pins σ H s' → Q (.int kvs.length t) s') : wpAny (model X.prog X.w) A (call (.builtin "len") [.ref a]) Q E s := by
  obtain ⟨z, hd, vs, rel, dd⟩ := dk_rd I.hok e
  refine call_len_dict hd dd (by rw [← rel.length]; rw [sizeLine_eq] at z; omega) ?_
  rw [← rel.length]
  exact h _ _ (I.tok _)
end
theorem dict_typeIs {X : Cx} {pins : List (Addr × Obj)} {σ : St} {H : Hp} {s : Shared} {a : Addr} {y : V} {o : Option V} (I : Inv X pins σ H s) (g : DGet H a y o) : s.TypeIs (.ref a) "dict" := by
  rcases g with ⟨kvs, k, e, _, _⟩ | ⟨kvs, k, b, e, _, _, _⟩
  · obtain ⟨_, _, vs, _, dd⟩ := dk_rd I.hok e
    exact dd.typeIs
  · obtain ⟨_, _, xs, _, dd⟩ := dt_rd I.hok e
    exact dd.typeIs
noncomputable def sDPut (td ty tv : TE) : TS := fun D σ H => tv σ H fun v H1 => td σ H1 fun x H2 => ty σ H2 fun y H3 => ∃ a H4, x = .ref a ∧ DPut H3 a y v H4 ∧ D.nx σ H4
section
variable {X : Cx} {o i e value : Expr} {pos pos' tpos : Pos} {td ty tv : TE}
theorem ps_dput (hu : X.A.units + 1 < cLine) (ho : PE X o td) (hi : PE X i ty) (hv : PE X value tv) (hs : swapsWith value (some (.Subscript o i pos')) pos.line X.env = pure false) :
    PS X (.Assign [.Subscript o i pos'] value pos) (sDPut td ty tv) := by
  intro pins s σ H D I h
  refine wpAny_Assign_Subscript (thn (hv pins s σ H _ I h) fun r s1 ⟨v, H1, I1, rv, q1⟩ => thn (ho pins s1 σ H1 _ I1 q1) fun u s2 ⟨x, H2, I2, rx, q2⟩ => thn (hi pins s2 σ H2 _ I2 q2) fun iv s3 ⟨y, H3, I3, ry, a, H4, ex, g, q3⟩ => ?_) hs
  subst ex
  obtain rfl : u = Value.ref a := rx
  exact d_setItem hu I3 g ry rv fun s4 I4 => ⟨σ, H4, I4, q3⟩
end
theorem dk_empty {P : Program} {w : World} {H : Hp} (h : Heap) (hb : sysModules < h.objs.size) : ObjOk P w H (h.push { cls := .type "dict", data := .dict #[] }) h.objs.size (.dK []) :=
  ⟨Nat.zero_le _, beq_eq_false_iff_ne.mpr (Ne.symm (Nat.ne_of_lt hb)), [], .nil, Heap.DictOf.new h⟩
section
variable {X : Cx} {pos : Pos}
end
noncomputable def tPairs : List (TE × TE) → St → Hp → (List (V × V) → Hp → Prop) → Prop
  | [], _, H, Q => Q [] H
  | (tk, tv) :: r, σ, H, Q => tk σ H fun x H1 => tv σ H1 fun y H2 => tPairs r σ H2 fun ps H3 => Q ((x, y) :: ps) H3
noncomputable abbrev VV : List (V × V) → List (Value × Value) → Prop := Paired fun p q => RelV p.1 q.1 ∧ RelV p.2 q.2
noncomputable def PPs (X : Cx) (pos : Pos) (keys : List (Option Expr)) (values : List Expr) (trs : List (TE × TE)) : Prop :=
  ∀ (pins : List (Addr × Obj)) (s : Shared) (σ : St) (H : Hp) (Q : List (V × V) → Hp → Prop), Inv X pins σ H s → tPairs trs σ H Q →
    wpAny (model X.prog X.w) X.A (evalPairs (pairTrees keys values X.env pos)) (fun vs s' => ∃ ps H', Inv X pins σ H' s' ∧ VV ps vs ∧ Q ps H') X.xe s
theorem pps_nil {X : Cx} {pos : Pos} : PPs X pos [] [] [] := fun pins s σ H Q I h => pairTrees_nil_walk ⟨[], H, I, .nil, h⟩
theorem pps_cons {X : Cx} {pos : Pos} {k v : Expr} {ks : List (Option Expr)} {vs : List Expr} {tk tv : TE} {trs : List (TE × TE)} (hk : PE X k tk) (hv : PE X v tv) (hr : PPs X pos ks vs trs) :
    PPs X pos (some k :: ks) (v :: vs) ((tk, tv) :: trs) := fun pins s σ H Q I h =>
  pairTrees_cons_walk (thn (hk pins s σ H _ I h) fun u s1 ⟨x, H1, I1, rx, q1⟩ => thn (hv pins s1 σ H1 _ I1 q1) fun w2 s2 ⟨y, H2, I2, ry, q2⟩ =>
    thn (hr pins s2 σ H2 _ I2 q2) fun ws s3 ⟨ps, H3, I3, rel, q3⟩ => ⟨(x, y) :: ps, H3, I3, .cons ⟨rx, ry⟩ rel, q3⟩)
noncomputable def mergeK (kvs more : List (Key × V)) : List (Key × V) := more.foldl (fun acc kv => putK acc kv.1 kv.2) kvs
theorem KV.merge : ∀ {more : List (Key × V)} {rs : List (Key × Value)} {kvs : List (Key × V)} {vs : List (Key × Value)}, KV more rs → KV kvs vs → KV (mergeK kvs more) (merged vs rs) := by
  intro more rs kvs vs r
  unfold KV at r
  induction r generalizing kvs vs with
  | nil => intro q; exact q
  | @cons p q ps qs h t ih =>
    intro r0
    have e : KV (putK kvs p.1 p.2) (stored vs q.1 q.2) := by
      have := r0.put p.1 h.2
      rw [← h.1]; exact this
    exact ih e
theorem length_mergeK : ∀ (more kvs : List (Key × V)), (mergeK kvs more).length ≤ kvs.length + more.length
  | [], kvs => by show kvs.length ≤ kvs.length + 0; omega
  | p :: r, kvs => by
    have h1 := length_mergeK r (putK kvs p.1 p.2)
    have h2 := length_putK kvs p.1 p.2
    show (mergeK (putK kvs p.1 p.2) r).length ≤ _
    rw [List.length_cons]; omega
theorem carries_of {P : Program} {w : World} : ∀ {kvs : List (Key × V)} {ws : List (Value × Value)}, VV (kvs.map fun kv => (kV kv.1, kv.2)) ws → ∃ rs, Carries (mixKind P w) ws rs ∧ KV kvs rs
  | [], _, r => by rw [List.map_nil] at r; cases r; exact ⟨[], True.intro, .nil⟩
  | p :: kvs, _, r => by
    rw [List.map_cons] at r
    cases r with
    | @cons a b as bs h t =>
      obtain ⟨rs, c, q⟩ := carries_of (P := P) (w := w) t
      obtain ⟨b1, b2⟩ := b
      exact ⟨(p.1, b2) :: rs, ⟨kV_is h.1, rfl, c⟩, .cons ⟨rfl, h.2⟩ q⟩
noncomputable def tDisp (trs : List (TE × TE)) : TE := fun σ H Q => ∀ p, H p = none → tPairs trs σ (upd H p (.dK [])) fun ps H2 => H2 p = some (.dK []) ∧ ∃ kvs : List (Key × V), ps = kvs.map (fun kv => (kV kv.1, kv.2)) ∧ kvs.length ≤ 15 ∧ Q (.ref p) (upd H2 p (.dK (mergeK [] kvs)))
theorem pe_disp {X : Cx} {pos : Pos} {keys : List (Option Expr)} {values : List Expr} {trs : List (TE × TE)} (h : PPs X pos keys values trs) (hall : keys.all (·.isSome) = true) (hl : keys.length = values.length) (h0 : keys ≠ [])
    (h15 : keys.length ≤ 15) : PE X (.Dict keys values pos) (tDisp trs) := by
  intro pins s σ H Q I q
  have hn := I.hok.fresh (Nat.le_refl s.heap.objs.size)
  have I1 := I.laid (a := s.heap.objs.size) (o := .dK []) (h' := s.heap.push { cls := .type "dict", data := .dict #[] }) (t' := s.toks) (fun _ _ q => Heap.get?_push_of_some _ q) (Nat.le_refl _) (dk_empty s.heap I.big)
  refine wpAny_Dict_walk (knd := mixKind X.prog X.w) hall hl h0 h15 (thn (h pins _ σ _ _ I1 (q _ hn)) fun ws s2 ⟨ps, H2, I2, rel, e, kvs, ep, lk, q2⟩ => ?_)
  subst ep
  obtain ⟨rs, c, rk⟩ := carries_of (P := X.prog) (w := X.w) rel
  obtain ⟨z, hd, vs0, r0, dd⟩ := dk_of I2.hok e
  cases r0
  refine ⟨rs, c, dd, fun h' dd' hs => ⟨.ref s.heap.objs.size, _, ?_, rfl, q2⟩⟩
  have hz : (mergeK [] kvs).length ≤ sizeLine := by
    have h1 := length_mergeK kvs []
    rw [List.length_nil] at h1
    rw [sizeLine_eq]; omega
  have he : ∃ q, h'.get? s.heap.objs.size = some q := let ⟨q, _, _, hq, _⟩ := dd'; ⟨q, hq⟩
  exact d_write I2 (by rw [e]; exact True.intro) hs he (dk_new hz hd (rk.merge .nil) dd')
section
variable {X : Cx} {pins : List (Addr × Obj)} {σ : St} {H : Hp} {s : Shared} {a : Addr} {y d : V} {u r : Value} {o : Option V} {A : Around} {E : Value → Shared → Prop}
end
section
variable {X : Cx} {o e f : Expr} {apos cpos : Pos} {td ty tx : TE}
end
section
variable {X : Cx} {pins : List (Addr × Obj)} {σ : St} {H : Hp} {s : Shared} {a : Addr} {kvs : List (Key × V)} {A : Around} {E : Value → Shared → Prop}
end
section
variable {X : Cx} {pins : List (Addr × Obj)} {σ : St} {H : Hp} {s : Shared} {a : Addr} {y : V} {u : Value} {A : Around} {E : Value → Shared → Prop}
end
end L2
namespace Att
open PySem PySem.W PySem.Calls PyProof.Rows
theorem ints_of_wellAll {P : Params} {h : Heap} : ∀ (ns : List Int) (vs : List Value), WellAll P h vs (ns.map WData.int) → IntsAre vs ns := by
  intro ns
  induction ns with
  | nil =>
    intro vs w
    rw [List.map_nil] at w
    cases w
    exact .nil
  | cons n ns ih =>
    intro vs w
    rw [List.map_cons] at w
    cases w with
    | cons a b =>
      cases a
      exact .cons _ _ (ih _ b)
theorem script_of {l : OpenLaw} {n : Nat} (hn : l.most = some n) {P : Params} {h : Heap} {args : List WData} {vals : List Value}
    (hpre : l.row.toRowW.claim.pre args = true) (hwl : WellAll P h vals args) :
    ∃ a vs ns, vals = [Value.ref a] ∧ args = [WData.list (ns.map WData.int)] ∧ h.get? a = some { cls := .type "list", data := .seq vs.toArray } ∧ IntsAre vs ns ∧ ns.length ≤ n := by
  have hsh : WShape.hasAll [] args [.list .int] = true := (pre_splitW hpre).1
  have hc : l.pre.holds [] { args := args } = true := (pre_splitW hpre).2
  obtain ⟨d, r, rfl, h1, h2⟩ := hasAllW_cons hsh
  obtain rfl := hasAllW_nil h2
  obtain ⟨xs, rfl, h3⟩ := hasW_list h1
  obtain ⟨ns, rfl⟩ := items_int h3
  have hlen : ns.length ≤ n := by
    unfold OpenLaw.pre at hc
    have h4 : (WTm.not (.lt (.lit (.int (n : Int))) (.len (.arg 0)))).holds [] { args := [.list (ns.map .int)] } = true := by
      have h4 := (holds_andW hc).1
      rw [hn] at h4
      exact h4
    have h5 := condW_of h4 (w_not (w_lt w_lit (w_len_list (w_arg rfl))))
    rw [List.length_map] at h5
    refine Nat.le_of_not_lt fun q => ?_
    have q' : (n : Int) < ((ns.length : Nat) : Int) := by omega
    first
      | (rw [decide_eq_true q'] at h5; exact absurd h5 (by decide))
      | (simp at h5; omega)
  cases hwl with
  | cons w1 w2 =>
    cases w2
    cases w1 with
    | list ho hall => exact ⟨_, _, ns, rfl, rfl, ho, ints_of_wellAll ns _ hall, hlen⟩
theorem post_true (l : OpenLaw) (args : List WData) : l.row.toRowW.claim.post args (.bool true) args = true :=
  postW_of (r := l.row.toRowW) (X := (true == true))
    (show WShape.has [] (.bool true) .bool = true by first | rfl | decide | simp [WShape.has, WShape.arms, WShape.armsAll])
    (show (WTm.eq .res (.lit (.bool true))).value [] { args := args, res := some (.bool true), after := args } = some (.bool (true == true)) from w_eq_bool (w_res rfl) w_lit) rfl
theorem attach_call {l : OpenLaw} {n : Nat} {q : Program} {loose : List Str} {XP : (Str → Option Value) → Heap → Prop} {YP : World → Heap → Prop} {d : DefRec}
    (hn : l.most = some n) (hdf : d.params.defaults = [])
    (call : ∀ (w : World) (s₀ s₁ : Shared) (mg mb : Str → Option Value) (fa : Addr) (o : Obj) (pm cd doc : Value) (a : Addr) (vs : List Value) (ns : List Int),
      Ground q loose [] XP w s₀ mg mb s₁.heap → YP w s₁.heap →
      s₁.heap.get? fa = some o → o.data = .func (docDef d.name d.params d.body d.scope pm cd doc) → s₁.heap.CodeRec cd d.name → mg d.name = some (.ref fa) →
      s₁.heap.get? a = some { cls := .type "list", data := .seq vs.toArray } → IntsAre vs ns → ns.length ≤ n → s₁.gens = #[] →
      codeAny (model l.prog w) callerA (.call (.ref fa) ⟨[.ref a], []⟩) (fun r s' => r = .ok (.ret (.bool true)) ∧ OldK s₁.heap s'.heap ∧ s'.os = s₁.os ∧ AllBare s'.gens) s₁) :
    WalkO q loose XP YP l.row.toRowW d [] (fun f vs => PySem.call f vs) := by
  intro w s₀ s₁ mg mb G Y fa o pm cd doc dV kV ho hd hcd hD hmg hg args vals as hpre hlay hrd hwl hlo
  obtain rfl : dV = .none := Dflts.none hD hdf
  obtain rfl : kV = .none := Dflts.noKw hD
  obtain ⟨a, vs, ns, rfl, rfl, hobj, hints, hlen⟩ := script_of hn hpre hwl
  refine enter_call (codeAny_mono (call w s₀ s₁ mg mb fa o pm cd doc a vs ns G Y ho (fd_plain hd) hcd hmg hobj hints hlen hg) fun r s' hq => ?_)
  obtain ⟨rfl, h2, h3, h4⟩ := hq
  exact ⟨.inl ⟨.bool true, .bool true, [], rfl, fun _ => rfl, .bool true, post_true l _, fun _ => ⟨List.Pairwise.nil, fun _ hm => (nomatch hm)⟩⟩, h2, h3, h4⟩
section
variable {prog : Program} {w : World} {A : Around} {E : Value → Shared → Prop} {s : Shared} {K : Frag}
end
end Att
namespace L2
open PySem PySem.Spec PyProof.Rows
theorem vals_ints : ∀ {vs : List Value} {ns : List Int}, IntsAre vs ns → Vals (ns.map V.int) vs
  | _, _, .nil => .nil
  | _, _, .cons n t h => .cons ⟨t, rfl⟩ (vals_ints h)
noncomputable def Only (H : Hp) : Prop := ∀ b, H b = none ∨ ∃ o xs, H b = some (.frz o (.lst xs))
theorem law_call {P : Program} {w : World} {K : PySem.W.Frag} {mg mb : Str → Option Value} {CX : CXT} {k : Nat} {fa a : Addr} {fd : FuncData} {x : Str} {sp : Sp} {s₁ : Shared} {vs : List Value} {ns : List Int}
    (KX : K.In s₁.heap) (hns : s₁.heap.Ns mainGlobals mg) (hb : s₁.heap.Ns builtinsNs mb) (hbb : ∀ x : Str, x ≠ "__name__" → mb x = bootBuiltins x) (hlim : s₁.heap.NoLimit) (hg : s₁.gens = #[])
    (ha : s₁.heap.get? a = some { cls := .type "list", data := .seq vs.toArray }) (hi : IntsAre vs ns) (hl : ns.length ≤ sizeLine) (hr : Room k callerA)
    (F : ∀ base : Heap, K.In base → base.Ns mainGlobals mg → FnOk P w K mg base CX k fa fd [x] sp) (hbind : ∀ (s : Shared) (u : Value), BindsTo s fd ⟨[u], []⟩ [(x, u)])
    (hsp : ∀ H : Hp, Only H → SqL K H a (ns.map V.int) → sp [.ref a] H (fun v _ => v = .bl true) fun _ _ _ => False)
    (hCX : ∀ H e s', CX [] H s₁ (fun _ _ _ => False) e s' → False) :
    codeAny (model P w) callerA (.call (.ref fa) ⟨[.ref a], []⟩) (fun r s' => r = .ok (.ret (.bool true)) ∧ OldK s₁.heap s'.heap ∧ s'.os = s₁.os ∧ AllBare s'.gens) s₁ := by
  have rv := vals_ints hi
  have lenV := hi.length
  -- from an abstract heap in which nothing but the script may be tracked
  have core : ∀ H : Hp, Only H → SqL K H a (ns.map V.int) → HOk P w H s₁.heap → (∀ b, H b ≠ none → b = a) → (H a ≠ none → K.lookup a = none) →
      codeAny (model P w) callerA (.call (.ref fa) ⟨[.ref a], []⟩) (fun r s' => r = .ok (.ret (.bool true)) ∧ OldK s₁.heap s'.heap ∧ s'.os = s₁.os ∧ AllBare s'.gens) s₁ := by
    intro H hO hS hok hA hK
    have base_of : ∀ {b : Addr} {o : Obj}, s₁.heap.get? b = some o → H b = none → (hidT s₁.heap H).get? b = some o := fun e n => hidT_get e n
    have noA : ∀ {b : Addr} {o : Obj} {es : Array DictEntry} {ep : Nat}, s₁.heap.get? b = some o → o.data = .dict es ep → H b = none := fun {b o es ep} e d => by
      cases q : H b with
      | none => rfl
      | some u =>
        have e' : b = a := hA b (by rw [q]; simp)
        subst e'
        rw [ha] at e; cases e
        have d' : Data.seq vs.toArray _ = Data.dict es ep := d
        cases d'
    have nsK : ∀ {b : Addr} {m : Str → Option Value}, s₁.heap.Ns b m → (hidT s₁.heap H).Ns b m := fun {b m} ⟨o, es, ep, e, d, r⟩ => ⟨o, es, ep, base_of e (noA e d), d, r⟩
    have hKb : K.In (hidT s₁.heap H) := fun b o e => base_of (KX b o e) (by
      cases q : H b with
      | none => rfl
      | some u =>
        have e' : b = a := hA b (by rw [q]; simp)
        subst e'
        rw [hK (by rw [q]; simp)] at e; cases e)
    have hM : Mod K mg (hidT s₁.heap H) := ⟨hKb, nsK hns, ⟨mb, nsK hb, hbb⟩, let ⟨mc, h1, h2⟩ := hlim; ⟨mc, nsK h1, h2⟩⟩
    have e0 : Env0 P w K mg (hidT s₁.heap H) callerA [] s₁ H := ⟨rfl, hM, fun b o e => of_hidT e, Nat.le_of_eq (hidT_size _ _), trivial, fun b hb => absurd (show b ∈ ([] : List Addr) from hb) (by simp), hok, .of_eq hg⟩
    refine codeAny_mono ((F _ hKb (nsK hns)).run callerA [] s₁ H ⟨[.ref a], []⟩ [.ref a] [.ref a] _ _ hr e0 (hbind s₁ (.ref a)) (.cons rfl .nil) (hsp H hO hS)) fun r s' h => ?_
    cases r with
    | error e => exact (hCX H e s' h).elim
    | ok fl =>
      cases fl with
      | next => exact False.elim h
      | brk => exact False.elim h
      | cont => exact False.elim h
      | ret u =>
        obtain ⟨v, H', os, bare, un, hok', r', q⟩ := h
        have q' : v = .bl true := q
        subst q'
        obtain rfl : u = Value.bool true := r'
        refine ⟨rfl, OldK.of_keep fun b o e => ?_, os, bare⟩
        cases q : H b with
        | none => exact un.keep b o e q (by intro z; exact absurd (show b ∈ ([] : List Addr) from z) (by simp)) (by simp)
        | some u =>
          rcases hO b with z | ⟨ob, xs, z⟩
          · rw [q] at z; cases z
          · have z2 := un.frzs b ob _ z
            obtain ⟨e1, _⟩ := hok b _ z
            obtain ⟨e2, _⟩ := hok' b _ z2
            rw [e] at e1; cases e1
            exact e2
  cases hk : K.lookup a with
  | some o =>
    -- the script is one of the module's own objects
    have e := KX a o hk
    rw [ha] at e
    cases e
    refine core (fun _ => none) (fun _ => .inl rfl) (.inr ⟨_, vs.toArray, _, hk, rfl, rfl, rfl, by rw [List.size_toArray, lenV]; exact hl, by simpa using rv⟩) (fun b u z => by have z' : (none : Option HO) = some u := z; cases z') (fun b z => absurd rfl z) fun z => absurd rfl z
  | none =>
    refine core (fun b => if b = a then some (.frz { cls := .type "list", data := .seq vs.toArray } (.lst (ns.map V.int))) else none) (fun b => ?_) (.inl (.inr ⟨{ cls := .type "list", data := .seq vs.toArray }, if_pos rfl⟩)) (fun b u z => ?_) (fun b z => ?_) fun _ => hk
    · by_cases hb : b = a
      · exact .inr ⟨_, _, if_pos hb⟩
      · exact .inl (if_neg hb)
    · by_cases hb : b = a
      · have z' := (if_pos hb).symm.trans z
        cases z'
        subst hb
        exact ⟨ha, by rw [List.length_map]; exact hl, vs, _, rv, ha⟩
      · have z' := (if_neg hb).symm.trans z
        cases z'
    · by_cases hb : b = a
      · exact hb
      · exact absurd (if_neg hb) z
end L2
namespace L2
open PySem PySem.Spec PyProof.Rows
theorem walk_of {l : PySem.W.OpenLaw} {n k : Nat} {q : Program} {loose : List Str} {XP : (Str → Option Value) → Heap → Prop} {YP : World → Heap → Prop} {d : DefRec} {K : Params → PySem.W.Frag} {CX : World → CXT} {sp : World → Sp} {x : Str}
    (hn : l.most = some n) (hn2 : n ≤ sizeLine) (hdf : d.params.defaults = []) (hr : Room k callerA)
    (hY : ∀ (w : World) (h : Heap), YP w h → (K w.params).In h)
    (F : ∀ (w : World) (mg : Str → Option Value) (fa : Addr) (h : Heap), (K w.params).In h → h.Ns mainGlobals mg → mg d.name = some (.ref fa) →
      ∃ fd : FuncData, (∀ (s : Shared) (u : Value), BindsTo s fd ⟨[u], []⟩ [(x, u)]) ∧
        ∀ base : Heap, (K w.params).In base → base.Ns mainGlobals mg → FnOk l.prog w (K w.params) mg base (CX w) k fa fd [x] (sp w))
    (hsp : ∀ (w : World) (H : Hp) (a : Addr) (ns : List Int), ns.length ≤ n → Only H → SqL (K w.params) H a (ns.map V.int) → sp w [.ref a] H (fun v _ => v = .bl true) fun _ _ _ => False)
    (hCX : ∀ (w : World) (H : Hp) (s : Shared) (e : Value) (s' : Shared), CX w [] H s (fun _ _ _ => False) e s' → False) :
    PySem.W.WalkO q loose XP YP l.row.toRowW d [] (fun f vs => PySem.call f vs) := by
  refine Att.attach_call hn hdf fun w s₀ s₁ mg mb fa o pm cd doc a vs ns G Y ho hd hcd hmg hobj hints hlen hg => ?_
  have KX := hY w _ Y
  obtain ⟨fd, hb, hF⟩ := F w mg fa _ KX G.T.g hmg
  exact law_call KX G.T.g G.T.b G.T.builtins G.T.nolimit hg hobj hints (Nat.le_trans hlen hn2) hr hF hb (fun H hO hS => hsp w H a ns hlen hO hS) fun H e s' => hCX w H s₁ e s'
end L2
namespace L2
open PySem PySem.Spec PyProof.Rows
noncomputable def inClass (s : Stmt) (j : Nat) : Stmt := match s with
  | .ClassDef _ _ _ body _ _ _ _ _ _ _ => body.getD j (.Pass ⟨0, 0, 0, 0⟩)
  | _ => .Pass ⟨0, 0, 0, 0⟩
noncomputable def defArgs (s : Stmt) : Arguments := match s with
  | .FunctionDef _ a _ _ _ _ _ _ _ _ => a
  | _ => { posonlyargs := [], args := [], vararg := none, kwonlyargs := [], kw_defaults := [], kwarg := none, defaults := [] }
noncomputable def defBody (s : Stmt) : List Stmt := match s with
  | .FunctionDef _ _ b _ _ _ _ _ _ _ => b
  | _ => []
noncomputable def defScope (s : Stmt) : Scope := match s with
  | .FunctionDef _ _ _ _ _ _ sc _ _ _ => sc
  | _ => { kind := .function, names := [], isGenerator := false, isCoroutine := false }
noncomputable abbrev CX0 : CXT := fun _ _ _ _ _ _ => False
noncomputable abbrev E0 : XK := fun _ _ _ => False
theorem pass0 {X : Cx} : Passes CX0 X E0 := fun _ _ _ _ _ _ _ h => h.elim
structure Fun (K : PySem.W.Frag) (x qual : Str) (st : Stmt) (f : Addr) (fd : FuncData) : Prop where
  ex : ∃ (oc : Value) (od : Option Addr) (kV doc pm : Value) (an : Option Addr) (cdv ct : Value) (osl : Array (Option Value)),
    fd = PySem.W.fnOf x qual (defArgs st) (defBody st) (defScope st) .none kV doc pm an cdv ct ∧ K.lookup f = some ⟨oc, od, .func fd, osl⟩ ∧ PySem.W.codeIn K cdv qual = true
  kp : PySem.W.keepIn K (.ref f) = true
section
variable {P : Program} {w : World} {K : PySem.W.Frag} {mg : Str → Option Value} {base : Heap}
theorem Fun.ok {x qual : Str} {st : Stmt} {f : Addr} {fd : FuncData} {N ps : List Str} {k : Nat} {sp : Sp} (F : Fun K x qual st f fd) (S : FnScope N ps (defScope st)) (len : ∀ vs H Q E, sp vs H Q E → vs.length = ps.length)
    (hbody : ∀ (cdv : Value) (A : Around) (outer : List Env) (s : Shared) (H : Hp) (vs : List V) (Q : VK) (E : XK), Room k (A.deeper (envOfC qual (defScope st) s.heap.objs.size f cdv)) → sp vs H Q E →
      ∃ t, PSs (cxOf CX0 P w K mg base N qual (defScope st) f cdv A outer s H E).nox (defBody st) t ∧ t { nx := fun _ H' => Q .non H', rt := Q } (start N vs) H) : FnOk P w K mg base CX0 (k + 1) f fd ps sp := by
  obtain ⟨oc, od, kV, doc, pm, an, cdv, ct, osl, rfl, lk, hcd⟩ := F.ex
  refine fn_of lk hcd S len fun A outer s H vs Q E hr hsp => ?_
  obtain ⟨t, h, q⟩ := hbody cdv A outer s H vs Q E hr hsp
  exact ⟨t, h.nox, q⟩
theorem Fun.binds {x qual : Str} {st : Stmt} {f : Addr} {fd : FuncData} {ps : List Str} (F : Fun K x qual st f fd)
    (h : ∀ (kV doc pm : Value) (an : Option Addr) (cdv ct : Value) (us : List Value), us.length = ps.length → bindArgs (PySem.W.fnOf x qual (defArgs st) (defBody st) (defScope st) .none kV doc pm an cdv ct) ⟨us, []⟩ = pure (ps.zip us)) : Binds K fd ps [] := by
  obtain ⟨oc, od, kV, doc, pm, an, cdv, ct, osl, rfl, lk, hcd⟩ := F.ex
  exact .all (h kV doc pm an cdv ct)
theorem fun_mk {x qual : Str} {st : Stmt} {f : Addr} {oc : Value} {od an : Option Addr} {osl : Array (Option Value)} {kV doc pm cdv ct : Value} (l : K.lookup f = some ⟨oc, od, .func (PySem.W.fnOf x qual (defArgs st) (defBody st) (defScope st) .none kV doc pm an cdv ct), osl⟩)
    (c : PySem.W.codeIn K cdv qual = true) (k : PySem.W.keepIn K (.ref f) = true) : Fun K x qual st f (PySem.W.fnOf x qual (defArgs st) (defBody st) (defScope st) .none kV doc pm an cdv ct) := ⟨⟨oc, od, kV, doc, pm, an, cdv, ct, osl, rfl, l, c⟩, k⟩
end
theorem hu_of {A : Around} {k : Nat} (hr : Room k A) : A.units + 1 < cLine := Nat.lt_of_le_of_lt (Nat.add_le_add_left (by decide : 1 ≤ 64) _) hr.units
theorem small1000 {n : Nat} (h : n ≤ 1000) : n < sizeLine := Nat.lt_of_le_of_lt h (by decide)
section
variable {X : Cx}
theorem pv (i : Nat) {x : Str} {pos : Pos} (hN : X.N[i]? = some x := by with_unfolding_all rfl) (hv : Vis X.env.scope x := by with_unfolding_all first | exact Or.inl rfl | exact Or.inr (Or.inl rfl) | exact Or.inr (Or.inr rfl)) (hd : (x == ("__debug__" : Str)) = false := by decide)
    (hcd : (x == ("__classdict__" : Str)) = false := by decide) : PE X (.Name x pos) (tVar i) := pe_var hN hv hd hcd
end
theorem iteF {A B : Prop} (h : B) : if false = true then A else B := by
  rw [if_neg Bool.false_ne_true]
  exact h
theorem iteT {A B : Prop} (h : A) : if true = true then A else B := by
  rw [if_pos rfl]
  exact h
theorem ite2 {c A B : Prop} [Decidable c] (h1 : c → A) (h2 : ¬ c → B) : if c then A else B := by
  by_cases h : c
  · rw [if_pos h]
    exact h1 h
  · rw [if_neg h]
    exact h2 h
noncomputable def Same (H H' : Hp) : Prop := ∀ b o, H b = some o → H' b = some o
theorem Same.refl (H : Hp) : Same H H := fun _ _ h => h
theorem Same.trans {H H1 H2 : Hp} (a : Same H H1) (b : Same H1 H2) : Same H H2 := fun c o h => b c o (a c o h)
theorem Same.free {H H' : Hp} (e : Same H H') {l : Addr} (h : H' l = Option.none) : H l = Option.none := by
  cases q : H l with
  | none => rfl
  | some o =>
    rw [e l o q] at h
    cases h
theorem Same.seq {K : PySem.W.Frag} {H H' : Hp} {a : Addr} {xs : List V} (e : Same H H') (h : SqL K H a xs) : SqL K H' a xs := by
  rcases h with (h | ⟨o, h⟩) | h
  · exact .inl (.inl (e _ _ h))
  · exact .inl (.inr ⟨o, e _ _ h⟩)
  · exact .inr h
end L2
namespace L2
open PySem PySem.Spec PyProof.Rows
section
variable {X : Cx}
theorem call_lenD : CallR X (.builtin "len") (fun xs H Q => ∃ a kvs, xs = [V.ref a] ∧ H a = some (.dK kvs) ∧ Q (.int kvs.length) H) := by
  intro pins s σ H xs us Q I r h
  obtain ⟨a, kvs, rfl, ha, q⟩ := h
  obtain ⟨u, rfl, ru⟩ := vals1 r
  cases ru
  exact d_len I (.inl ha) fun t s' I' => ⟨.int kvs.length, H, I', ⟨t, rfl⟩, q⟩
end
section
variable {κ : Type} [DecidableEq κ]
end
end L2
set_option Elab.async false
set_option linter.all false
set_option maxRecDepth 100000
set_option maxHeartbeats 4000000
namespace L2
open PySem PySem.Spec PyProof.Rows
noncomputable def clOf (env : Env) (names : List (Str × NameKind)) (acc : List (Str × Addr)) : List (Str × Addr) :=
  names.foldl (fun acc y => if y.2 == NameKind.free then (y.1, (env.cells.lookup y.1).getD 0) :: acc else acc) acc
theorem closure_is {env : Env} {scope : Scope} (h : ∀ y ∈ scope.names, y.2 = NameKind.free → ∃ c, env.cells.lookup y.1 = some c) : closureFor scope env = pure (clOf env scope.names []) := by
  have all : ∀ (names : List (Str × NameKind)) (acc : List (Str × Addr)), (∀ y ∈ names, y.2 = NameKind.free → ∃ c, env.cells.lookup y.1 = some c) →
      (forIn names acc fun (y : Str × NameKind) (cs : List (Str × Addr)) => (match y with
        | (name, kind) => if (kind == NameKind.free) = true then do let c ← cellOf env name; pure (ForInStep.yield ((name, c) :: cs)) else pure (ForInStep.yield cs) : Sem (ForInStep (List (Str × Addr))))) = (pure (clOf env names acc) : Sem (List (Str × Addr))) := by
    intro names
    induction names with
    | nil => intro acc _; rfl
    | cons y r ih =>
      intro acc hy
      obtain ⟨n, k⟩ := y
      rw [List.forIn_cons]
      by_cases hk : k = NameKind.free
      · subst hk
        obtain ⟨c, hc⟩ := hy (n, .free) List.mem_cons_self rfl
        have e : cellOf env n = pure c := by unfold cellOf; rw [show env.cells.lookup n = some c from hc]
        have e2 : clOf env ((n, NameKind.free) :: r) acc = clOf env r ((n, c) :: acc) := by
          unfold clOf
          rw [List.foldl_cons]
          simp only [beq_self_eq_true, if_true]
          rw [show env.cells.lookup n = some c from hc]
          rfl
        rw [e2, ← ih ((n, c) :: acc) fun z hz => hy z (List.mem_cons_of_mem _ hz)]
        simp only [beq_self_eq_true, if_true, e]
        rfl
      · have hb : (k == NameKind.free) = false := by simpa using hk
        have e2 : clOf env ((n, k) :: r) acc = clOf env r acc := by
          unfold clOf
          rw [List.foldl_cons]
          simp only [hb, Bool.false_eq_true, if_false]
        rw [e2, ← ih acc fun z hz => hy z (List.mem_cons_of_mem _ hz)]
        simp only [hb, Bool.false_eq_true, if_false]
        rfl
  have q := all scope.names [] h
  unfold closureFor
  first
    | exact q
    | (simp only [bind_pure]; exact q)
    | (refine Eq.trans ?_ q; rfl)
theorem clOf_sub {env : Env} {x : Str} {c : Addr} : ∀ {names : List (Str × NameKind)} {acc : List (Str × Addr)}, (∀ y ∈ names, y.2 = NameKind.free → ∃ c, env.cells.lookup y.1 = some c) → (acc.lookup x = some c → env.cells.lookup x = some c) →
    (clOf env names acc).lookup x = some c → env.cells.lookup x = some c
  | [], acc, _, ha, h => ha h
  | (n, k) :: r, acc, hn, ha, h => by
    have e : clOf env ((n, k) :: r) acc = clOf env r (if k == NameKind.free then (n, (env.cells.lookup n).getD 0) :: acc else acc) := rfl
    rw [e] at h
    refine clOf_sub (fun y hy => hn y (List.mem_cons_of_mem _ hy)) (fun q => ?_) h
    by_cases hk : k = NameKind.free
    · subst hk
      simp only [beq_self_eq_true, if_true, List.lookup_cons] at q
      obtain ⟨d, hd⟩ := hn (n, .free) List.mem_cons_self rfl
      have hd' : env.cells.lookup n = some d := hd
      split at q
      · rename_i hx
        have hx' : x = n := beq_iff_eq.mp hx
        rw [hd'] at q
        rw [hx', hd']
        exact q
      · exact ha q
    · have hb : (k == NameKind.free) = false := by simpa using hk
      simp only [hb, Bool.false_eq_true, if_false] at q
      exact ha q
theorem clOf_has {env : Env} {x : Str} : ∀ {names : List (Str × NameKind)} {acc : List (Str × Addr)}, ((∃ c, acc.lookup x = some c) ∨ (x, NameKind.free) ∈ names) → ∃ c, (clOf env names acc).lookup x = some c
  | [], acc, h => by
    rcases h with h | h
    · exact h
    · cases h
  | (n, k) :: r, acc, h => by
    have e : clOf env ((n, k) :: r) acc = clOf env r (if k == NameKind.free then (n, (env.cells.lookup n).getD 0) :: acc else acc) := rfl
    rw [e]
    refine clOf_has ?_
    by_cases hk : k = NameKind.free
    · subst hk
      simp only [beq_self_eq_true, if_true, List.lookup_cons]
      by_cases hx : x = n
      · left
        have hb : (x == n) = true := beq_iff_eq.mpr hx
        rw [hb]
        exact ⟨_, rfl⟩
      · have hb : (x == n) = false := beq_eq_false_iff_ne.mpr hx
        rw [hb]
        rcases h with h | h
        · exact .inl h
        · rcases List.mem_cons.mp h with q | q
          · cases q; exact absurd rfl hx
          · exact .inr q
    · have hb : (k == NameKind.free) = false := by simpa using hk
      simp only [hb, Bool.false_eq_true, if_false]
      rcases h with h | h
      · exact .inl h
      · rcases List.mem_cons.mp h with q | q
        · cases q; exact absurd rfl hk
        · exact .inr q
theorem cells_app : ∀ (names : List (Str × NameKind)) (n : Nat) (acc : List (Str × Addr)), cellsFrom n names acc = cellsFrom n names [] ++ acc
  | [], _, _ => rfl
  | (x, k) :: r, n, acc => by
    unfold cellsFrom
    split
    · rw [cells_app r (n + 1) ((x, n) :: acc), cells_app r (n + 1) [(x, n)], List.append_assoc]
      rfl
    · exact cells_app r n acc
theorem cells_kind {x : Str} {c : Addr} : ∀ {names : List (Str × NameKind)} {n : Nat}, (x, c) ∈ cellsFrom n names [] → (x, NameKind.cell) ∈ names
  | [], _, h => by cases h
  | (y, k) :: r, n, h => by
    unfold cellsFrom at h
    split at h
    · rename_i hk
      rw [cells_app] at h
      rcases List.mem_append.mp h with h | h
      · exact List.mem_cons_of_mem _ (cells_kind h)
      · have e := List.mem_singleton.mp h
        cases e
        rw [beq_iff_eq.mp hk]
        exact List.mem_cons_self
    · exact List.mem_cons_of_mem _ (cells_kind h)
theorem lookup_ex {α : Type} {x : Str} {c : α} : ∀ {l : List (Str × α)}, (x, c) ∈ l → ∃ d, l.lookup x = some d
  | [], h => by cases h
  | (y, d) :: r, h => by
    rw [List.lookup_cons]
    cases e : x == y with
    | true => exact ⟨d, rfl⟩
    | false =>
      rcases List.mem_cons.mp h with q | q
      · cases q
        simp at e
      · exact lookup_ex q
theorem cells_has {x : Str} : ∀ {names : List (Str × NameKind)} {n : Nat}, (x, NameKind.cell) ∈ names → ∃ c, (x, c) ∈ cellsFrom n names []
  | [], _, h => by cases h
  | (y, k) :: r, n, h => by
    unfold cellsFrom
    split
    · rw [cells_app]
      rcases List.mem_cons.mp h with q | q
      · cases q
        exact ⟨n, List.mem_append_right _ (by simp)⟩
      · obtain ⟨c, hc⟩ := cells_has (n := n + 1) q
        exact ⟨c, List.mem_append_left _ hc⟩
    · rename_i hk
      rcases List.mem_cons.mp h with q | q
      · cases q
        exact absurd rfl hk
      · exact cells_has q
noncomputable def compOk (outer scope : Scope) (xs fr : List Str) : Bool :=
  (scope.kind == .function) && (outer.kind == .function) && decide (scope.names.map (·.1)).Nodup
  && (scope.names.all fun y => y.2 != .local || scope.names.lookup y.1 == some .local)
  && (scope.names.all fun y => y.2 != .free || (outer.names.lookup y.1 == some .cell || outer.names.lookup y.1 == some .free))
  && (scope.names.all fun y => y.2 != .free || scope.names.lookup y.1 == some .free)
  && (xs.all fun x => scope.names.lookup x == some .local || scope.names.lookup x == some .cell) && (fr.all fun x => scope.names.lookup x == some .free) && decide (xs ++ fr).Nodup
theorem lookup_mem {α : Type} {x : Str} {v : α} : ∀ {l : List (Str × α)}, l.lookup x = some v → (x, v) ∈ l
  | [], h => by cases h
  | (n, k) :: r, h => by
    rw [List.lookup_cons] at h
    split at h
    · rename_i hx
      have hx' : x = n := beq_iff_eq.mp hx
      cases h
      rw [hx']
      exact List.mem_cons_self
    · exact List.mem_cons_of_mem _ (lookup_mem h)
theorem lookup_relabel {scope : Scope} {env : Env} {x : Str} {k : NameKind} (hk : env.scope.kind = .function) : ∀ {names : List (Str × NameKind)}, names.lookup x = some k →
    (names.map fun (n, k) => if (k == NameKind.free && env.scope.kind == .function && env.kindOf n == some .cell) then (n, NameKind.cell) else (n, k)).lookup x = some (if (k == NameKind.free && env.kindOf x == some .cell) then .cell else k)
  | [], h => by cases h
  | (n, j) :: r, h => by
    have ih := @lookup_relabel scope env x k hk r
    rw [List.map_cons]
    rw [List.lookup_cons] at h
    dsimp only
    split at h
    · rename_i hx
      have hx' : x = n := beq_iff_eq.mp hx
      cases h
      subst hx'
      by_cases hc : (k == NameKind.free && env.scope.kind == .function && env.kindOf x == some .cell) = true
      · have hc2 : (k == NameKind.free && env.kindOf x == some .cell) = true := by
          rw [Bool.and_eq_true, Bool.and_eq_true] at hc
          rw [Bool.and_eq_true]
          exact ⟨hc.1.1, hc.2⟩
        rw [if_pos hc, if_pos hc2, List.lookup_cons, beq_self_eq_true]
      · have hc2 : ¬ (k == NameKind.free && env.kindOf x == some .cell) = true := fun q => hc (by
          rw [Bool.and_eq_true] at q
          rw [Bool.and_eq_true, Bool.and_eq_true, hk]
          exact ⟨⟨q.1, rfl⟩, q.2⟩)
        rw [if_neg hc, if_neg hc2, List.lookup_cons, beq_self_eq_true]
    · rename_i hx
      have hx' : (x == n) = false := by simpa using hx
      by_cases hc : (j == NameKind.free && env.scope.kind == .function && env.kindOf n == some .cell) = true
      · rw [if_pos hc, List.lookup_cons, hx']
        exact ih h
      · rw [if_neg hc, List.lookup_cons, hx']
        exact ih h
theorem of_lookup_relabel {env : Env} {x : Str} {k : NameKind} : ∀ {names : List (Str × NameKind)},
    (names.map fun (n, k) => if (k == NameKind.free && env.scope.kind == .function && env.kindOf n == some .cell) then (n, NameKind.cell) else (n, k)).lookup x = some k →
    ∃ j, names.lookup x = some j ∧ (k = j ∨ (j = .free ∧ k = .cell))
  | [], h => by cases h
  | (n, j) :: r, h => by
    have ih := @of_lookup_relabel env x k r
    rw [List.map_cons] at h
    dsimp only at h
    by_cases hc : (j == NameKind.free && env.scope.kind == .function && env.kindOf n == some .cell) = true
    · rw [if_pos hc, List.lookup_cons] at h
      have hj : j = .free := by
        rw [Bool.and_eq_true, Bool.and_eq_true] at hc
        exact beq_iff_eq.mp hc.1.1
      rw [List.lookup_cons]
      split at h
      · rename_i hx
        cases h
        exact ⟨j, rfl, .inr ⟨hj, rfl⟩⟩
      · rename_i hx
        have hx' : (x == n) = false := by simpa using hx
        exact ih h
    · rw [if_neg hc, List.lookup_cons] at h
      rw [List.lookup_cons]
      split at h
      · rename_i hx
        cases h
        exact ⟨_, rfl, .inl rfl⟩
      · rename_i hx
        have hx' : (x == n) = false := by simpa using hx
        exact ih h
structure CompS (X : Cx) (scope : Scope) (xs fr : List Str) : Prop where
  kind : scope.kind = .function
  okind : X.env.scope.kind = .function
  uniq : (scope.names.map (·.1)).Nodup
  names : ∀ y ∈ scope.names, y.2 = .local → scope.names.lookup y.1 = some .local
  free : ∀ y ∈ scope.names, y.2 = .free → X.env.kindOf y.1 = some .cell ∨ X.env.kindOf y.1 = some .free
  own : ∀ x ∈ xs, scope.names.lookup x = some .local ∨ scope.names.lookup x = some .cell
  fre : ∀ x ∈ fr, scope.names.lookup x = some .free
  nd : (xs ++ fr).Nodup
theorem compS_of {X : Cx} {scope : Scope} {xs fr : List Str} (h : compOk X.env.scope scope xs fr = true) : CompS X scope xs fr := by
  unfold compOk at h
  simp only [Bool.and_eq_true, List.all_eq_true, bne_iff_ne, Bool.or_eq_true, beq_iff_eq, decide_eq_true_eq] at h
  obtain ⟨⟨⟨⟨⟨⟨⟨⟨h1, h2⟩, h3⟩, h4⟩, h5⟩, h6⟩, h7⟩, h8⟩, h9⟩ := h
  exact ⟨h1, h2, h3, fun y hy e => (h4 y hy).resolve_left (fun q => q e), fun y hy e => (h5 y hy).resolve_left (fun q => q e), h7, h8, h9⟩
noncomputable def pick (σ : St) (js : List Nat) : St := js.map fun j => (σ[j]?).getD none
noncomputable abbrev cxC (X : Cx) (scope : Scope) (xs fr : List Str) (C : Addr) (ex : List Addr) (s₀ : Shared) (H₀ : Hp) : Cx :=
  { X with N := xs ++ fr, env := compEnvC scope (cellsFrom (C + 1) scope.names (clOf X.env scope.names [])) C X.env, s₀ := s₀, H₀ := H₀, outer := X.stack, ex := ex, fn := fun x => scope.names.lookup x == some .cell, pn := [], xe := fun _ _ => False }
section
variable {X : Cx} {scope : Scope} {xs fr : List Str} {pins : List (Addr × Obj)} {σ : St} {H : Hp} {s : Shared} {js : List Nat} {fp : List Addr}
theorem lookup_nd {α : Type} {x : Str} {v : α} : ∀ {l : List (Str × α)}, (l.map (·.1)).Nodup → (x, v) ∈ l → l.lookup x = some v
  | [], _, h => by cases h
  | (y, d) :: r, hn, h => by
    obtain ⟨h1, h2⟩ := List.nodup_cons.mp hn
    rw [List.lookup_cons]
    rcases List.mem_cons.mp h with q | q
    · cases q
      rw [beq_self_eq_true]
    · have hne : (x == y) = false := beq_eq_false_iff_ne.mpr fun e => h1 (e ▸ List.mem_map.mpr ⟨(x, v), q, rfl⟩)
      rw [hne]
      exact lookup_nd h2 q
theorem CompS.cells (S : CompS X scope xs fr) (ok : X.Ok) : ∀ y ∈ scope.names, y.2 = NameKind.free → ∃ c, X.env.cells.lookup y.1 = some c := fun y hy e => ok.has _ (S.free y hy e)
theorem block_in (S : CompS X scope xs fr) (hjs : js.map (fun j => X.N[j]?) = fr.map some) (I : Inv X pins σ H s) (hfp : ∀ b ∈ fp, FpOk X pins H b) (hob : ∀ b ∈ fp, ∃ o, s.heap.get? b = some o) {h' : Heap} {t' : Nat}
    (hn : h'.Ns s.heap.objs.size fun _ => none) (keep : ∀ b o, s.heap.get? b = some o → h'.get? b = some o) (hcs : CellsOk h' (s.heap.objs.size + 1) (cellsFrom (s.heap.objs.size + 1) scope.names [])) :
    Inv (cxC X scope xs fr s.heap.objs.size fp s H) [] (List.replicate xs.length none ++ pick σ js) H { s with heap := h', toks := t' } := by
  have hcl := S.cells I.ok
  have sub : ∀ x c, (clOf X.env scope.names []).lookup x = some c → X.env.cells.lookup x = some c := fun x c h => clOf_sub hcl (fun q => by cases q) h
  have hl : js.length = fr.length := by have := congrArg List.length hjs; rwa [List.length_map, List.length_map] at this
  have two : ∀ x c, (cellsFrom (s.heap.objs.size + 1) scope.names (clOf X.env scope.names [])).lookup x = some c → (x, c) ∈ cellsFrom (s.heap.objs.size + 1) scope.names [] ∨ (clOf X.env scope.names []).lookup x = some c := fun x c h => by
    rw [cells_app, List.lookup_append] at h
    cases e : (cellsFrom (s.heap.objs.size + 1) scope.names []).lookup x with
    | some d =>
      rw [e] at h
      cases h
      exact .inl (lookup_mem e)
    | none =>
      rw [e] at h
      exact .inr h
  have oldc : ∀ x c, X.env.cells.lookup x = some c → c < s.heap.objs.size := fun x c h => let ⟨_, _, ho, _⟩ := I.cell x c h; Heap.lt_size ho
  have newc : ∀ x c, (x, c) ∈ cellsFrom (s.heap.objs.size + 1) scope.names [] → s.heap.objs.size < c := fun x c h => (hcs.empty x c h).2
  refine ⟨⟨I.ok.mod, S.kind, I.ok.glob, I.ok.blt, Nat.le_refl _, fun x y c h1 h2 => ?_, fun x hx => ?_, fun x c hf h => ?_, I.ok.hd, I.ok.frames, .inl rfl, fun b hb => ?_, fun b o e => I.bs b o e, Nat.le_trans I.ok.bsz I.sz, fun b o e hb => ?_, fun b hb hb2 => ?_, I.stack, I.stkFree⟩,
    rfl, I.bare, Un.kept keep, ⟨_, hn, fun i x v e1 e2 e3 => ?_⟩, fun x c h => ?_, I.hok.fresh (Nat.le_refl _), fun x c h => ?_, fun p hp => absurd (show p ∈ ([] : List (Addr × Obj)) from hp) (by simp), I.hok.kept keep, ?_⟩
  · rcases two x c h1 with g1 | g1
    · rcases two y c h2 with g2 | g2
      · exact name_of_addr hcs.apart g1 g2
      · exact absurd (oldc y c (sub y c g2)) (Nat.not_lt.mpr (Nat.le_of_lt (newc x c g1)))
    · rcases two y c h2 with g2 | g2
      · exact absurd (oldc x c (sub x c g1)) (Nat.not_lt.mpr (Nat.le_of_lt (newc y c g2)))
      · exact I.ok.inj x y c (sub x c g1) (sub y c g2)
  · -- the names that are cells there have one
    have hx : (relabel scope X.env).names.lookup x = some .cell ∨ (relabel scope X.env).names.lookup x = some .free := hx
    have app : ∀ c, (clOf X.env scope.names []).lookup x = some c ∨ (x, c) ∈ cellsFrom (s.heap.objs.size + 1) scope.names [] → ∃ c, (cellsFrom (s.heap.objs.size + 1) scope.names (clOf X.env scope.names [])).lookup x = some c := fun c h => by
      rw [cells_app, List.lookup_append]
      rcases h with h | h
      · cases (cellsFrom (s.heap.objs.size + 1) scope.names []).lookup x with
        | some d => exact ⟨d, rfl⟩
        | none => exact ⟨c, h⟩
      · obtain ⟨d, hd⟩ := lookup_ex h
        rw [hd]
        exact ⟨d, rfl⟩
    have go : ∀ k, (relabel scope X.env).names.lookup x = some k → (k = .cell ∨ k = .free) → ∃ c, (cellsFrom (s.heap.objs.size + 1) scope.names (clOf X.env scope.names [])).lookup x = some c := fun k e hk => by
      obtain ⟨j, hj, q⟩ := of_lookup_relabel (env := X.env) (names := scope.names) e
      have hm := lookup_mem hj
      have hjf : j = .free ∨ j = .cell := by
        rcases q with q | q
        · rcases hk with hk | hk
          · exact .inr (q ▸ hk)
          · exact .inl (q ▸ hk)
        · exact .inl q.1
      rcases hjf with hjf | hjf
      · subst hjf
        obtain ⟨c, hc⟩ := clOf_has (env := X.env) (x := x) (names := scope.names) (acc := []) (.inr hm)
        exact app c (.inl hc)
      · subst hjf
        obtain ⟨c, hc⟩ := cells_has (n := s.heap.objs.size + 1) hm
        exact app c (.inr hc)
    rcases hx with hx | hx
    · exact go _ hx (.inl rfl)
    · exact go _ hx (.inr rfl)
  · rcases two x c h with g | g
    · exact Nat.le_of_lt (newc x c g)
    · have hf' : scope.names.lookup x = some .cell := by simpa using hf
      obtain ⟨d, hd⟩ := cells_has (n := s.heap.objs.size + 1) (lookup_mem hf')
      have h' := h
      obtain ⟨e, he⟩ := lookup_ex hd
      have h' : (cellsFrom (s.heap.objs.size + 1) scope.names (clOf X.env scope.names [])).lookup x = some c := h
      rw [cells_app, List.lookup_append, he] at h'
      cases h'
      exact Nat.le_of_lt (newc x _ (lookup_mem he))
  · obtain ⟨f0, f1, f2, f3, f4, f5⟩ := hfp b hb
    obtain ⟨o, ho⟩ := hob b hb
    refine ⟨Nat.ne_of_lt (Heap.lt_size ho), fun x c h z => ?_⟩
    rcases two x c h with g | g
    · have h1 := newc x c g
      have h2 := Heap.lt_size ho
      rw [← z] at h2
      exact absurd h1 (Nat.not_lt.mpr (Nat.le_of_lt h2))
    · exact f4 x c (sub x c g) z
  · obtain ⟨f0, f1, f2, f3, f4, f5⟩ := hfp b hb
    rcases f3 with f3 | f3
    · exact I.ok.noex b o e f3
    · exact absurd (Nat.lt_of_lt_of_le (Heap.lt_size (I.ok.bs b o e).1) f3) (Nat.lt_irrefl _)
  · obtain ⟨f0, f1, f2, f3, f4, f5⟩ := hfp b hb
    rcases List.mem_cons.mp (I.stkSub b hb2) with z | z
    · exact f1 z
    · exact f2 z
  · have e1 : (xs ++ fr)[i]? = some x := e1
    by_cases hi : i < xs.length
    · rw [List.getElem?_append_left (by rw [List.length_replicate]; exact hi), List.getElem?_replicate, if_pos hi] at e2
      cases e2
    · have hi' : xs.length ≤ i := Nat.le_of_not_lt hi
      rw [List.getElem?_append_right hi'] at e1
      rw [List.getElem?_append_right (by rw [List.length_replicate]; exact hi'), List.length_replicate] at e2
      unfold pick at e2
      rw [List.getElem?_map] at e2
      cases ej : js[i - xs.length]? with
      | none => rw [ej] at e2; cases e2
      | some j =>
        rw [ej] at e2
        have e2' : (σ[j]?).getD none = some v := Option.some.inj e2
        have e4 : σ[j]? = some (some v) := by
          cases q : σ[j]? with
          | none => rw [q] at e2'; cases e2'
          | some o => rw [q] at e2'; rw [show o = some v from e2']
        have e5 : X.N[j]? = some x := by
          have := congrArg (fun l => l[i - xs.length]?) hjs
          rw [List.getElem?_map, List.getElem?_map, ej, e1] at this
          exact Option.some.inj this
        have hf := S.fre x (List.mem_of_getElem? e1)
        have hk := S.free _ (lookup_mem hf) rfl
        obtain ⟨m, hm, hl'⟩ := I.loc
        obtain ⟨u, r, lk⟩ := hl' j x v e5 e4 (.inr hk)
        refine ⟨u, r, .inr ⟨?_, ?_⟩⟩
        · have q := lookup_relabel (scope := scope) (env := X.env) S.okind hf
          show (relabel scope X.env).names.lookup x = some .cell ∨ (relabel scope X.env).names.lookup x = some .free
          have q' : (relabel scope X.env).names.lookup x = some (if (NameKind.free == NameKind.free && X.env.kindOf x == some .cell) then .cell else .free) := q
          by_cases hc : (NameKind.free == NameKind.free && X.env.kindOf x == some .cell) = true
          · rw [if_pos hc] at q'; exact .inl q'
          · rw [if_neg hc] at q'; exact .inr q'
        · obtain ⟨c', hc'⟩ := clOf_has (env := X.env) (x := x) (names := scope.names) (acc := []) (.inr (lookup_mem hf))
          rcases lk with ⟨z, _⟩ | ⟨_, c, hc, ob, ho, hd⟩
          · rcases hk with hk | hk
            · rw [z] at hk; cases hk
            · rw [z] at hk; cases hk
          · have e6 : c = c' := by
              have := sub x c' hc'
              rw [hc] at this
              exact Option.some.inj this
            subst e6
            refine ⟨_, ?_, ob, keep _ _ ho, hd⟩
            show (cellsFrom (s.heap.objs.size + 1) scope.names (clOf X.env scope.names [])).lookup x = some c
            rw [cells_app, List.lookup_append]
            have none' : (cellsFrom (s.heap.objs.size + 1) scope.names []).lookup x = none := by
              cases e : (cellsFrom (s.heap.objs.size + 1) scope.names []).lookup x with
              | none => rfl
              | some d =>
                have := lookup_nd S.uniq (cells_kind (lookup_mem e))
                rw [hf] at this
                cases this
            rw [none']
            exact hc'
  · rcases two x c h with g | g
    · exact ⟨_, (hcs.empty x c g).1⟩
    · obtain ⟨v, ob, ho, hd⟩ := I.cell x c (sub x c g)
      exact ⟨v, ob, keep _ _ ho, hd⟩
  · rcases two x c h with g | g
    · exact I.hok.fresh (Nat.le_of_lt (newc x c g))
    · exact I.freeC x c (sub x c g)
  · show _ = (xs ++ fr).length
    unfold pick
    rw [List.length_append, List.length_append, List.length_replicate, List.length_map, hl]
theorem new_block {M : Model} {A : Around} {E : Value → Shared → Prop} {s : Shared} {scope : Scope} {globals : Addr} {cl : List (Str × Addr)} {qual : Str} {env : Env} {Q : Env → Shared → Prop}
    (hQ : ∀ h', h'.Ns s.heap.objs.size (fun _ => none) → (∀ b o, s.heap.get? b = some o → h'.get? b = some o) → CellsOk h' (s.heap.objs.size + 1) (cellsFrom (s.heap.objs.size + 1) scope.names []) →
      Q (newEnv scope s.heap.objs.size globals (cellsFrom (s.heap.objs.size + 1) scope.names cl) qual none .none (some env) builtinsNs) { s with heap := h' }) :
    wpAny M A (newFunctionEnv scope globals cl [] qual none .none (some env)) Q E s := by
  simp only [newFunctionEnv, Option.isSome_some, if_true]
  refine wpAny_bind (wpAny_alloc ?_)
  refine wpAny_bind (wpAny_layCells _ (fun name kind cells => by cases hkc : kind == NameKind.cell <;> simp [hkc]) _ _ _ _ ?_)
  have okc := cellsFrom_ok scope.names (s.heap.push { cls := .type "dict", data := .dict #[] }) (s.heap.objs.size + 1) [] ⟨fun _ _ hm => (nomatch hm), List.Pairwise.nil⟩ (by rw [Heap.size_push]; exact Nat.le_refl _)
  rw [Heap.size_push] at okc
  rw [show ({ s with heap := s.heap.push { cls := .type "dict", data := .dict #[] } } : Shared).heap.objs.size = s.heap.objs.size + 1 from Heap.size_push ..]
  rw [List.forIn_nil]
  exact wpAny_bind (wpAny_pure (wpAny_pure (hQ _ ((Heap.Ns.new s.heap (.type "dict")).keeps (pushCells_keeps _ _)) (fun b o e => pushCells_keeps _ _ b o (Heap.get?_push_of_some _ e)) okc)))
theorem block_out {σ' : St} {H' : Hp} {s' : Shared} {h'' : Heap} (I : Inv X pins σ H s) (hfp : ∀ b ∈ fp, FpOk X pins H b) (J : Inv (cxC X scope xs fr s.heap.objs.size fp s H) [] σ' H' s') (hs : Heap.SameBut s.heap.objs.size s'.heap h'') :
    Inv X pins σ H' { s' with heap := h'' } := by
  have old : ∀ b o, s.heap.get? b = some o → b ≠ s.heap.objs.size := fun b o e => Nat.ne_of_lt (Heap.lt_size e)
  have ub : Un (frs X.stack) fp H H' s.heap s'.heap := J.base
  refine I.call' (s' := { s' with heap := h'' }) (ch := fp) J.os ⟨fun b o e n hb hx => (hs.2 b (old b o e)).trans (ub.keep b o e n hb hx), fun b o e n hb hx => ?_, ub.free, fun b o e hx => ?_, ub.tups, ub.frzs, ub.tbls⟩ (fun b o e => ?_) J.bare fun b hb => ?_
  · obtain ⟨sl, e1⟩ := ub.slot b o e n hb hx
    exact ⟨sl, (hs.2 b (old b o e)).trans e1⟩
  · obtain ⟨o', e1⟩ := ub.there b o e hx
    exact ⟨o', (hs.2 b (old b o e)).trans e1⟩
  · have hf : H' s.heap.objs.size = none := J.free
    refine (J.hok b o e).stay (fun c v hc q => (hs.2 c ?_).trans q) (fun _ q => q) fun _ _ q => q
    intro z
    rcases hc with hc | hc
    · rw [← hc, z, hf] at e; cases e
    · rw [z, hf] at hc; cases hc
  · obtain ⟨f0, f1, f2, f3, f4, f5⟩ := hfp b hb
    exact ⟨f3, f1, f4, f5⟩
noncomputable def PIf (X : Cx) (ifs : List Expr) (t : TT) : Prop :=
  ∀ (pins : List (Addr × Obj)) (s : Shared) (σ : St) (H : Hp) (Q : Bool → Hp → Prop) (E : Value → Shared → Prop), (∀ e s', X.xe e s' → E e s') → Inv X pins σ H s → t σ H Q →
    wpAny (model X.prog X.w) X.A (forIn ifs true fun c r => if r = true then do let ok ← isTrue c X.env (eval c X.env); pure (ForInStep.yield ok) else pure (ForInStep.yield r)) (TP X pins σ Q) E s
noncomputable def tTrue : TT := fun _ H Q => Q true H
theorem pif_nil : PIf X [] tTrue := fun _ _ _ H _ _ _ I h => wpAny_tests_nil ⟨H, I, h⟩
theorem pif_one {c : Expr} {t : TT} (hc : PT X c t) : PIf X [c] t := fun pins s σ H Q _ hE I h => wpAny_tests_one (wpAny_mono (hc pins s σ H Q I h) (fun _ _ z => z) hE)
noncomputable def tComp (k : Nat) (js : List Nat) (wi : TI) (g : TG) (tt : TT) (te : TE) : TE := fun σ H Q => wi σ H fun J H1 => ∀ p, H1 p = none →
  ∃ W : Nat → Nat → Hp → Prop, (∃ m, W 0 m (upd H1 p (.lst []))) ∧ ∀ i m H, W i m H →
    (J.stop i H ∧ Q (.ref p) H) ∨ (J.go i H ∧ ∃ N : Hp → Prop, (∀ H', N H' → ∃ m', m' < m ∧ W (i + 1) m' H') ∧
      ∀ x H', J.yld i H x H' → g x (List.replicate k none ++ pick σ js) H' fun σ2 H2 => tt σ2 H2 fun b H3 =>
        if b = true then te σ2 H3 fun y H4 => ∃ acc, H4 p = some (.lst acc) ∧ acc.length < sizeLine ∧ N (upd H4 p (.lst (acc ++ [y]))) else N H3)
theorem comp_loop {tg elt iter : Expr} {ifs : List Expr} {pos : Pos} {it acc : Value} {env : Env} {A : Around} {R : Result → Shared → Prop} {s : Shared} {P : Program} {w : World} (I : Nat → Shared → Prop)
    (turn : ∀ n s, I n s → wpAny (model P w) A (pyNext it) (fun r s₁ => match r with
      | none => R (.ok .next) s₁
      | some v => wpAny (model P w) A (letOwnedTupleGo tg it v) (fun _ s₁' => wpAny (model P w) A (assign tg env v) (fun _ s₂ =>
          wpAny (model P w) A (forIn ifs true fun c r => if r = true then do let ok ← isTrue c env (eval c env); pure (ForInStep.yield ok) else pure (ForInStep.yield r)) (fun ok s₃ =>
            if ok = true then wpAny (model P w) A (eval elt env) (fun x s₄ =>
              wpAny (model P w) A (call (.builtin "list.append") [acc, x]) (fun _ s₅ => ∃ m, m < n ∧ I m s₅) (fun _ _ => False) s₄) (fun _ _ => False) s₃
            else ∃ m, m < n ∧ I m s₃) (fun _ _ => False) s₂) (fun _ _ => False) s₁') (fun _ _ => False) s₁) (fun _ _ => False) s)
    (n : Nat) (h : I n s) : codeAny (model P w) A (.compLoop (.ListComp elt [⟨tg, iter, ifs, 0⟩] scope pos) 0 it acc env) R s := by
  refine codeAny_loop rfl I (fun n s hI => ?_) n h
  show wpAny _ A ((compTurn (.ListComp elt [⟨tg, iter, ifs, 0⟩] scope pos) 0 it acc env).onRaise (fun x => do noteFrame x env; theTreesLotGoes x)) _ _ s
  refine wpAny_noted ?_
  rw [compTurn_list]
  refine wpAny_bind (wpAny_standAt (wpAny_bind (wpAny_mono (turn n s hI) (fun r s₁ h₁ => ?_) fun _ _ h' => h'.elim)))
  cases r with
  | none => exact wpAny_pure h₁
  | some v =>
    refine wpAny_bind (wpAny_mono h₁ (fun _ s₁' h₁' => ?_) fun _ _ h' => h'.elim)
    refine wpAny_bind (wpAny_mono h₁' (fun _ s₂ h₂ => wpAny_bind (wpAny_mono h₂ (fun ok s₃ h₃ => ?_) fun _ _ h' => h'.elim)) fun _ _ h' => h'.elim)
    cases ok with
    | false => exact wpAny_pure ⟨rfl, h₃⟩
    | true =>
      exact wpAny_bind (wpAny_bind (wpAny_mono h₃ (fun x s₄ h₄ => wpAny_bind (wpAny_mono h₄ (fun _ s₅ h₅ => wpAny_pure (wpAny_pure ⟨rfl, h₅⟩)) fun _ _ h' => h'.elim)) fun _ _ h' => h'.elim))
noncomputable def GKeep (n : Nat) (g : TG) : Prop := ∀ x σ H Q, g x σ H Q → g x σ H fun σ' H' => (∀ k, n ≤ k → σ'[k]? = σ[k]?) ∧ Q σ' H'
noncomputable def GsKeep (n : Nat) (g : TGs) : Prop := ∀ vs σ H Q, g vs σ H Q → g vs σ H fun σ' H' => (∀ k, n ≤ k → σ'[k]? = σ[k]?) ∧ Q σ' H'
theorem gk_name {n i : Nat} (h : i < n) : GKeep n (gName i) := fun x σ H Q q => ⟨fun k hk => List.getElem?_set_ne (by omega), q⟩
theorem gk_nil {n : Nat} : GsKeep n gNil := fun vs σ H Q ⟨e, q⟩ => ⟨e, fun _ _ => rfl, q⟩
theorem gk_cons {n i : Nat} {u : TGs} (h : i < n) (hu : GsKeep n u) : GsKeep n (gCons (gName i) u) := fun vs σ H Q ⟨v, r, e, q⟩ => by
  refine ⟨v, r, e, ?_⟩
  have q' : u r (σ.set i (some v)) H Q := q
  show u r (σ.set i (some v)) H _
  have z := hu _ _ _ _ q'
  have e2 : (fun (σ' : St) (H' : Hp) => (∀ k, n ≤ k → σ'[k]? = (σ.set i (some v))[k]?) ∧ Q σ' H') = fun σ' H' => (∀ k, n ≤ k → σ'[k]? = σ[k]?) ∧ Q σ' H' := by
    funext σ' H'
    have e3 : (∀ k, n ≤ k → σ'[k]? = (σ.set i (some v))[k]?) = ∀ k, n ≤ k → σ'[k]? = σ[k]? := by
      refine propext ⟨fun f k hk => ?_, fun f k hk => ?_⟩
      · rw [f k hk, List.getElem?_set_ne (by omega)]
      · rw [f k hk, List.getElem?_set_ne (by omega)]
    rw [e3]
  rw [e2] at z
  exact z
theorem gk_tup {K : PySem.W.Frag} {n m : Nat} {u : TGs} (hu : GsKeep n u) : GKeep n (gTup K m u) := fun x σ H Q ⟨a, xs, e, hq, hl, q⟩ => ⟨a, xs, e, hq, hl, hu _ _ _ _ q⟩
theorem comp_run {tg elt iter : Expr} {ifs : List Expr} {pos : Pos} {g : TG} {tt : TT} {te : TE} (hc : X.calm = true) (S : CompS X scope xs fr) (hjs : js.map (fun j => X.N[j]?) = fr.map some)
    (hg : ∀ C ex s₀ H₀, PG (cxC X scope xs fr C ex s₀ H₀) tg g) (hk : GKeep xs.length g) (hi : ∀ C ex s₀ H₀, PIf (cxC X scope xs fr C ex s₀ H₀) ifs tt) (he : ∀ C ex s₀ H₀, PE (cxC X scope xs fr C ex s₀ H₀) elt te)
    {s2 : Shared} {H1 : Hp} {R : Value → Addr → Result → Shared → Prop} {Q : VK} {it : Addr} {tn : Nat → Heap → Prop} {J : It} (I : Inv X pins σ H1 s2) (T : Turn X.prog X.w X.K tg J fp it tn) (st : tn 0 s2.heap) (hfp : ∀ b ∈ fp, FpOk X pins H1 b)
    (hq : ∀ p, H1 p = none → ∃ W : Nat → Nat → Hp → Prop, (∃ m, W 0 m (upd H1 p (.lst []))) ∧ ∀ i m H, W i m H →
      (J.stop i H ∧ Q (.ref p) H) ∨ (J.go i H ∧ ∃ N : Hp → Prop, (∀ H', N H' → ∃ m', m' < m ∧ W (i + 1) m' H') ∧
        ∀ x H', J.yld i H x H' → g x (List.replicate xs.length none ++ pick σ js) H' fun σ2 H2 => tt σ2 H2 fun b H3 =>
          if b = true then te σ2 H3 fun y H4 => ∃ acc, H4 p = some (.lst acc) ∧ acc.length < sizeLine ∧ N (upd H4 p (.lst (acc ++ [y]))) else N H3))
    (hR : ∀ (p C : Addr) (s' : Shared) (H' : Hp), (∃ m, s'.heap.Ns C m) → FpOk X pins H' C → Inv X pins σ H' s' → Q (.ref p) H' → R (.ref p) C (.ok .next) s') :
    wpAny (model X.prog X.w) X.A (newList []) (fun acc s₃ => wpAny (model X.prog X.w) X.A (newFunctionEnv scope X.env.globals (clOf X.env scope.names []) [] X.env.qual none .none (some X.env)) (fun cenv s₄ =>
      codeAny (model X.prog X.w) X.A (.compStart (.ListComp elt [⟨tg, iter, ifs, 0⟩] scope pos) 0 (.ref it) acc { cenv with scope := relabel scope X.env }) (R acc cenv.locals) s₄) X.xe s₃) X.xe s2 := by
  refine wpAny_newObj_type ?_ (by show 0 ≤ sizeLine; exact Nat.zero_le _)
  have hn0 : H1 s2.heap.objs.size = none := I.hok.fresh (Nat.le_refl _)
  have I3 : Inv X pins σ (upd H1 s2.heap.objs.size (.lst [])) { s2 with heap := s2.heap.push { cls := .type "list", data := .seq ([] : List Value).toArray } } := I.laid (t' := s2.toks) (fun b u e => Heap.get?_push_of_some _ e) (Nat.le_refl _) ⟨Nat.zero_le _, [], 0, .nil, Heap.get?_push_size _ rfl⟩
  obtain ⟨W, ⟨m0, w0⟩, turn⟩ := hq _ hn0
  have hob : ∀ b ∈ fp, ∃ o, s2.heap.get? b = some o := fun b hb => let ⟨o, e, _⟩ := T.obj _ _ st b hb; ⟨o, e⟩
  have hfp3 : ∀ b ∈ fp, FpOk X pins (upd H1 s2.heap.objs.size (.lst [])) b := fun b hb => by
    obtain ⟨f0, f⟩ := hfp b hb
    obtain ⟨o, e⟩ := hob b hb
    exact ⟨by rw [upd_ne (Nat.ne_of_lt (Heap.lt_size e))]; exact f0, f⟩
  have hob3 : ∀ b ∈ fp, ∃ o, (s2.heap.push { cls := .type "list", data := .seq ([] : List Value).toArray }).get? b = some o := fun b hb => let ⟨o, e⟩ := hob b hb; ⟨o, Heap.get?_push_of_some _ e⟩
  have st3 : tn 0 (s2.heap.push { cls := .type "list", data := .seq ([] : List Value).toArray }) := T.keep _ _ _ st fun b _ o e => Heap.get?_push_of_some _ e
  generalize hs3 : ({ s2 with heap := s2.heap.push { cls := .type "list", data := .seq ([] : List Value).toArray } } : Shared) = s3 at I3 ⊢
  have st3' : tn 0 s3.heap := by rw [← hs3]; exact st3
  have hob3' : ∀ b ∈ fp, ∃ o, s3.heap.get? b = some o := by rw [← hs3]; exact hob3
  generalize hH3 : upd H1 s2.heap.objs.size (.lst []) = H3 at I3 hfp3 w0
  generalize hp0 : s2.heap.objs.size = p0 at turn ⊢
  refine new_block fun h₁ hns₁ hkp₁ hco₁ => ?_
  have I4 := block_in (t' := s3.toks) S hjs I3 hfp3 hob3' hns₁ hkp₁ hco₁
  have st4 : tn 0 h₁ := T.keep _ _ _ st3' fun b hb o e => hkp₁ b o e
  have loop : ∀ s₄ : Shared, Inv (cxC X scope xs fr s3.heap.objs.size fp s3 H3) [] (List.replicate xs.length none ++ pick σ js) H3 s₄ → tn 0 s₄.heap →
      codeAny (model X.prog X.w) X.A (.compLoop (.ListComp elt [⟨tg, iter, ifs, 0⟩] scope pos) 0 (.ref it) (.ref p0) (compEnvC scope (cellsFrom (s3.heap.objs.size + 1) scope.names (clOf X.env scope.names [])) s3.heap.objs.size X.env)) (R (.ref p0) s3.heap.objs.size) s₄ := by
    intro s₄ I4 st4
    have stat : ∀ {H' : Hp}, (∀ b ∈ fp, H' b = none) → ∀ b ∈ fp, FpOk (cxC X scope xs fr s3.heap.objs.size fp s3 H3) [] H' b := fun {H'} hn b hb => by
      obtain ⟨f0, f1, f2, f3, f4, f5⟩ := hfp3 b hb
      obtain ⟨o, e⟩ := hob3' b hb
      refine ⟨hn b hb, Nat.ne_of_lt (Heap.lt_size e), I4.ok.exfs b hb, .inl hb, fun x c h => (I4.ok.exf b hb).2 x c h, fun p hp => absurd (show p ∈ ([] : List (Addr × Obj)) from hp) (by simp)⟩
    refine comp_loop (fun n s' => ∃ i H', Inv (cxC X scope xs fr s3.heap.objs.size fp s3 H3) [] (List.replicate xs.length none ++ pick σ js) H' s' ∧ tn i s'.heap ∧ (∀ b ∈ fp, H' b = none) ∧ W i n H') ?_ m0 ⟨0, H3, I4, st4, fun b hb => (hfp3 b hb).1, w0⟩
    rintro n s5 ⟨i, H5, I5, st5, fr5, w5⟩
    rcases turn i n H5 w5 with ⟨stop, qn⟩ | ⟨go, N, hN, step⟩
    · refine thn (T.done (cxC X scope xs fr s3.heap.objs.size fp s3 H3) rfl rfl rfl hc i [] s5 _ H5 (fun _ _ => False) I5 (stat fr5) st5 stop) fun r s6 ⟨hr, I6⟩ => ?_
      subst hr
      obtain ⟨m6, n6, _⟩ := id I6.loc
      exact hR p0 s3.heap.objs.size s6 H5 ⟨m6, n6⟩ (I3.fpOk (Nat.le_refl _) I6.free) (block_out I3 hfp3 I6 (Heap.SameBut.refl ..)) qn
    · refine thn (T.item (cxC X scope xs fr s3.heap.objs.size fp s3 H3) rfl rfl rfl hc i [] s5 _ H5 (fun _ _ => False) I5 (stat fr5) st5 go) fun r s6 ⟨u, hr, h6⟩ => ?_
      subst hr
      refine thn h6 fun _ s7 ⟨x, H7, I7, r7, y7, st7, fr7⟩ => ?_
      have I7' := I7.pinned (stat fr7) (T.obj _ _ st7)
      refine thn (hg _ _ _ _ _ s7 _ H7 x u _ I7' r7 (hk _ _ _ _ (step x H7 y7))) fun _ s8 ⟨σ8, H8, I8, kp8, q8⟩ => ?_
      have again : ∀ {s9 : Shared} {H9 : Hp}, Inv (cxC X scope xs fr s3.heap.objs.size fp s3 H3) ([] ++ pinsAt fp s7.heap) σ8 H9 s9 → N H9 →
          ∃ m, m < n ∧ ∃ i H', Inv (cxC X scope xs fr s3.heap.objs.size fp s3 H3) [] (List.replicate xs.length none ++ pick σ js) H' s9 ∧ tn i s9.heap ∧ (∀ b ∈ fp, H' b = none) ∧ W i m H' := fun {s9 H9} I9 n9 => by
        obtain ⟨m', hm, w9⟩ := hN H9 n9
        refine ⟨m', hm, i + 1, H9, I9.unpinned.weak ?_ ?_, T.keep _ _ _ st7 fun b hb o e => (I9.pin (b, o) (List.mem_append_right _ (List.mem_append_right _ (mem_pinsAt hb e)))).1, fun b hb => ?_, w9⟩
        · rw [I9.len, I5.len]
        · intro k v hkv
          by_cases hx : k < xs.length
          · rw [List.getElem?_append_left (by rw [List.length_replicate]; exact hx), List.getElem?_replicate, if_pos hx] at hkv
            cases hkv
          · rw [kp8 k (Nat.le_of_not_lt hx)]
            exact hkv
        · obtain ⟨o, e, d⟩ := T.obj _ _ st7 b hb
          exact (I9.pin (b, o) (List.mem_append_right _ (List.mem_append_right _ (mem_pinsAt hb e)))).2.1
      refine wpAny_mono (hi _ _ _ _ _ s8 σ8 H8 _ (fun _ _ => False) (fun _ _ z => z) I8 q8) (fun ok s9 ⟨H9, I9, q9⟩ => ?_) fun _ _ z => z
      cases ok with
      | false =>
        rw [if_neg Bool.false_ne_true]
        rw [if_neg Bool.false_ne_true] at q9
        exact again I9 q9
      | true =>
        rw [if_pos rfl]
        rw [if_pos rfl] at q9
        refine thn (he _ _ _ _ _ s9 σ8 H9 _ I9 q9) fun uy s10 ⟨y, H10, I10, r10, acc, hacc, hz, n10⟩ => ?_
        refine thn (mt_append _ s10 σ8 H10 (.ref p0) [y] (.ref p0) [uy] (fun _ H11 => N H11) I10 rfl (.cons r10 .nil) ⟨p0, acc, y, rfl, rfl, hacc, hz, n10⟩) fun _ s11 ⟨_, H11, I11, _, n11⟩ => ?_
        exact again I11 n11
  exact codeAny_compStart_list (loop _ I4 st4) (T.self _ _ _ _ _ st4 (loop _ I4 st4))
theorem Inv.letgo {C : Addr} {h'' : Heap} (I : Inv X pins σ H s) (f : FpOk X pins H C) (hs : Heap.SameBut C s.heap h'') : Inv X pins σ H { s with heap := h'' } := by
  obtain ⟨f0, f1, f2, f3, f4, f5⟩ := f
  exact I.turned (t' := s.toks) (fun b o hb e => (hs.2 b hb).trans e) f0 f1 f3 f4 f5
theorem pe_comp {tg elt iter : Expr} {ifs : List Expr} {pos : Pos} {wi : TI} {g : TG} {tt : TT} {te : TE} (xs fr : List Str) (js : List Nat) (hc : X.calm = true) (hS : compOk X.env.scope scope xs fr = true) (hjs : js.map (fun j => X.N[j]?) = fr.map some) (hw : PI X tg iter wi)
    (hg : ∀ C ex s₀ H₀, PG (cxC X scope xs fr C ex s₀ H₀) tg g) (hk : GKeep xs.length g) (hi : ∀ C ex s₀ H₀, PIf (cxC X scope xs fr C ex s₀ H₀) ifs tt) (he : ∀ C ex s₀ H₀, PE (cxC X scope xs fr C ex s₀ H₀) elt te)
    (hs : ∀ x, foldedSetIterable iter X.env x = pure x := by intro _; with_unfolding_all rfl) :
    PE X (.ListComp elt [⟨tg, iter, ifs, 0⟩] scope pos) (tComp xs.length js wi g tt te) := by
  intro pins s σ H Q I h
  have S := compS_of hS
  rw [eval_ListComp]
  refine wpAny_comprehension_free (use := none) rfl hs (closure_is (S.cells I.ok)) S.kind S.names ?_
  refine thn (hw pins s σ H _ I h) fun v s1 h1 => thn h1 fun itv s2 h2 => ?_
  obtain ⟨it, fp, tn, J, H2, e, I2, T, st2, f2, q2⟩ := h2
  subst e
  refine comp_run (Q := Q) (R := fun acc C => compPost (model X.prog X.w) X.A X.xe none (EP X pins σ Q) acc C) hc S hjs hg hk hi he I2 T st2 f2 q2 ?_
  intro p C s' H' ⟨m, hn⟩ fC hI q
  exact ⟨m, hn, fun h'' hs'' => ⟨.ref p, H', hI.letgo fC hs'', rfl, q⟩⟩
theorem ps_setcomp {tg elt iter : Expr} {ifs : List Expr} {pos spos py : Pos} {wi : TI} {g : TG} {tt : TT} {te : TE} {i : Nat} {y : Str} (xs fr : List Str) (js : List Nat) (hc : X.calm = true) (hS : compOk X.env.scope scope xs fr = true) (hjs : js.map (fun j => X.N[j]?) = fr.map some)
    (hN : X.N.Nodup) (hi' : X.N[i]? = some y) (hy : X.env.scope.names.lookup y = some .local) (hw : PI X tg iter wi)
    (hg : ∀ C ex s₀ H₀, PG (cxC X scope xs fr C ex s₀ H₀) tg g) (hk : GKeep xs.length g) (hi : ∀ C ex s₀ H₀, PIf (cxC X scope xs fr C ex s₀ H₀) ifs tt) (he : ∀ C ex s₀ H₀, PE (cxC X scope xs fr C ex s₀ H₀) elt te)
    (hsw : swapsWith (.ListComp elt [⟨tg, iter, ifs, 0⟩] scope pos) (some (.Name y py)) spos.line X.env = pure true := by with_unfolding_all rfl)
    (hs : ∀ x, foldedSetIterable iter X.env x = pure x := by intro _; with_unfolding_all rfl) :
    PS X (.Assign [.Name y py] (.ListComp elt [⟨tg, iter, ifs, 0⟩] scope pos) spos) (tAsg (tComp xs.length js wi g tt te) (gName i)) := by
  intro pins s σ H D I h
  have S := compS_of hS
  rw [exec_Assign_Name_used _ _ _ _ hsw]
  refine wpAny_bind (wpAny_standAt (wpAny_bind ?_))
  show wpAny _ X.A (do let _ ← comprehension (.ListComp elt [⟨tg, iter, ifs, 0⟩] scope pos) scope X.env _ (newList []) false (eval iter X.env) (some (assign (.Name y py) X.env))) _ _ s
  refine wpAny_bind (wpAny_mono (wpAny_comprehension_free (use := some (assign (.Name y py) X.env)) (Q := fun _ s' => SP X pins D .next s') rfl hs (closure_is (S.cells I.ok)) S.kind S.names ?_) (fun _ s' hq => wpAny_pure (wpAny_pure hq)) fun _ _ e => e)
  refine thn (hw pins s σ H _ I h) fun v s1 h1 => thn h1 fun itv s2 h2 => ?_
  obtain ⟨it, fp, tn, J, H2, e, I2, T, st2, f2, q2⟩ := h2
  subst e
  refine comp_run (Q := fun x H1 => gName i x σ H1 D.nx) (R := fun acc C => compPost (model X.prog X.w) X.A X.xe (some (assign (.Name y py) X.env)) (fun _ s' => SP X pins D .next s') acc C) hc S hjs hg hk hi he I2 T st2 f2 q2 ?_
  intro p C s' H' ⟨m, hn⟩ fC I' q
  show wpAny _ X.A (assign (.Name y py) X.env (.ref p)) _ _ s'
  refine wpAny_assign_Name (store_ok2 I' hN hi' (.inl hy) (show RelV (.ref p) (.ref p) from rfl) (fun s'' I'' ⟨a, hs1, ha⟩ => ?_) (.inr hy))
  have hne : C ≠ a := by
    rcases ha with ha | ha
    · rw [ha]; exact fC.2.1
    · exact (fC.2.2.2.2.1 y a ha).symm
  exact ⟨m, hn.sameBut hs1 hne, fun h'' hs'' => ⟨_, H', I''.letgo fC hs'', q⟩⟩
end
end L2
set_option Elab.async false
set_option linter.all false
set_option maxRecDepth 100000
set_option maxHeartbeats 4000000
namespace L2
open PySem PySem.Spec PyProof.Rows
noncomputable def Its (x : Str) : It := ⟨fun i _ => i < x.cps.size, fun i H v H' => H' = H ∧ ∃ c, x.cps[i]? = some c ∧ v = .str ⟨#[c]⟩, fun i _ => x.cps.size ≤ i⟩
section
variable {X : Cx} {tg : Expr}
theorem turn_of {P : Program} {w : World} {K : PySem.W.Frag} {tg : Expr} {it : Addr} {n : Nat} {PV : Nat → Value → Prop} {val : Nat → V → Prop} {St : Nat → Heap → Prop} (W : ∀ A : Around, A.handled = none → Walks P w A it [it] [it] n PV St)
    (hself : ∀ (A : Around) (i : Nat) (s : Shared) (Q : Value → Shared → Prop) (E : Value → Shared → Prop), St i s.heap → Q (.ref it) s → wpAny (model P w) A (pyIter (.ref it)) Q E s)
    (hv : ∀ i u, PV i u → ∃ v, RelV v u ∧ val i v) (hto : ∀ i h, St i h → ∃ o T vs, h.get? it = some o ∧ o.cls = .type T ∧ o.data = .fields vs ∧ ["enumerate", "zip", "dict_itemiterator", "dict_reverseitemiterator", "odict_iterator", "itertools.zip_longest", "itertools.pairwise"].contains T = false) :
    Turn P w K tg ⟨fun i _ => i < n, fun i H v H' => H' = H ∧ val i v, fun i _ => n ≤ i⟩ [it] it (fun i h => St i h ∧ i ≤ n) where
  mem := by simp
  obj := fun i h st b hb => by
    have e : b = it := by simpa using hb
    subst e
    obtain ⟨o, T, vs, e1, e2, e3, e4⟩ := hto i h st.1
    exact ⟨o, e1, fun v z => by rw [e3] at z; cases z⟩
  keep := fun i h h' st k => ⟨(W { handled := none } rfl).frame i h h' st.1 k, st.2⟩
  item := by
    intro X hP hw hK hc i pins s σ H E I hf st hg
    subst hP hw hK
    obtain ⟨f0, f1, f2, f3, f4, f5⟩ := hf it (by simp)
    refine (W X.A (I.ok.hd hc)).item i s _ _ hg st.1 fun u h' tk hp st' kk => ?_
    obtain ⟨v, rv, vv⟩ := hv i u hp
    have I1 : Inv X pins σ H { s with heap := h', toks := tk } := I.turned (fun b o hb e => kk b o (by simpa using hb) e) f0 f1 f3 f4 f5
    obtain ⟨o, T, vs, e1, e2, e3, e4⟩ := hto _ _ st'
    exact ⟨u, rfl, go_of (s := { s with heap := h', toks := tk }) e1 e2 e3 e4 ⟨v, H, I1, rv, ⟨rfl, vv⟩, ⟨st', hg⟩, fun b hb => (hf b hb).1⟩⟩
  done := by
    intro X hP hw hK hc i pins s σ H E I hf st hg
    subst hP hw hK
    obtain ⟨f0, f1, f2, f3, f4, f5⟩ := hf it (by simp)
    have e : i = n := Nat.le_antisymm st.2 hg
    subst e
    exact (W X.A (I.ok.hd hc)).done s _ _ st.1 fun h' tk kk => ⟨rfl, I.turned (fun b o hb e => kk b o (by simpa using hb) e) f0 f1 f3 f4 f5⟩
  self := fun A i s Q E st h => hself A i s Q E st.1 h
theorem it_str {pins : List (Addr × Obj)} {σ : St} {H1 : Hp} {s1 : Shared} {R : It → Hp → Prop} {E : Value → Shared → Prop} {z : Str} {v : Value} (I1 : Inv X pins σ H1 s1) (r1 : RelV (.str z) v) (q : R (Its z) H1) : wpAny (model X.prog X.w) X.A (pyIter v) (PIE X pins σ tg R) E s1 := by
  obtain ⟨t, rfl⟩ := r1
  have sv : ∀ i u, SignAt z i u → ∃ v, RelV v u ∧ ∃ c, z.cps[i]? = some c ∧ v = .str ⟨#[c]⟩ := fun i u ⟨c, tu, hc, hu⟩ => ⟨.str ⟨#[c]⟩, ⟨tu, hu⟩, c, hc, rfl⟩
  have fin : ∀ (o : Obj) (St : Nat → Heap → Prop) (n : Nat), St 0 (s1.heap.push o) → Turn X.prog X.w X.K tg (Its z) [s1.heap.objs.size] s1.heap.objs.size (fun i h => St i h ∧ i ≤ z.cps.size) → PIE X pins σ tg R (.ref s1.heap.objs.size) { s1 with heap := s1.heap.push o } := fun o St n h0 T => by
    refine ⟨s1.heap.objs.size, [s1.heap.objs.size], _, _, H1, rfl, I1.kept (t' := s1.toks) fun b ob e => Heap.get?_push_of_some _ e, T, ⟨h0, Nat.zero_le _⟩, fun b hb => ?_, q⟩
    have e : b = s1.heap.objs.size := by simpa using hb
    subst e
    exact I1.fpOk (Nat.le_refl _) (I1.hok.fresh (Nat.le_refl _))
  cases ha : z.cps.all (· < 128)
  · exact wpAny_pyIter_wide ha (fin _ _ 0 ⟨_, Heap.get?_push_size _ rfl, rfl, rfl⟩ (turn_of (fun A hA => Walks.strWide hA _ z t) (fun _ _ _ _ _ st hq => wpAny_pyIter_striter_wide st hq) sv fun i h ⟨o, ho, hc, hd⟩ => ⟨o, _, _, ho, hc, hd, by decide⟩))
  · exact wpAny_pyIter_ascii ha (fin _ _ 0 ⟨_, Heap.get?_push_size _ rfl, rfl, rfl⟩ (turn_of (fun A hA => Walks.strAscii hA _ z t) (fun _ _ _ _ _ st hq => wpAny_pyIter_striter_ascii st hq) sv fun i h ⟨o, ho, hc, hd⟩ => ⟨o, _, _, ho, hc, hd, by decide⟩))
end
section
variable {X : Cx}
noncomputable def rSlS : V → Option Int → Option Int → Hp → VK → Prop := fun x lo hi H Q => ∃ z, x = .str z ∧ z.length ≤ sizeLine ∧ Q (.str (Txt.slice z lo hi)) H
theorem sl_str : SlR X rSlS := by
  intro pins s σ H x v vl vu lo hi sl Q I rx hs pl pu h
  obtain ⟨z, rfl, hz, q⟩ := h
  obtain ⟨t, rfl⟩ := rx
  have fin : ∀ t' k, EP X pins σ Q (.str (Txt.slice z lo hi) t') { s with toks := k } := fun t' k => ⟨.str _, H, I.tok _, ⟨_, rfl⟩, q⟩
  have sz := Nat.le_trans (Txt.slice_le z lo hi) hz
  refine ⟨"str", _, F.slot_str_getitem.lookup, typeIs_str _ _ _, ?_⟩
  cases pl with
  | none =>
    cases pu with
    | none => exact wpAny_getItem_str_slice (l := none) (u := none) (st := none) hs rfl (post_val_or_str ⟨sz, fin⟩)
    | int j uj => exact wpAny_getItem_str_slice (l := none) (u := some (j, uj)) (st := none) hs rfl (post_val_or_str ⟨sz, fin⟩)
  | int i ui =>
    cases pu with
    | none => exact wpAny_getItem_str_slice (l := some (i, ui)) (u := none) (st := none) hs rfl (post_val_or_str ⟨sz, fin⟩)
    | int j uj => exact wpAny_getItem_str_slice (l := some (i, ui)) (u := some (j, uj)) (st := none) hs rfl (post_val_or_str ⟨sz, fin⟩)
theorem strs_of : ∀ {ys : List Str} {us : List Value}, Vals (ys.map V.str) us → StrsAre us ys
  | [], _, .nil => .nil
  | y :: ys, _, .cons r t => by
    obtain ⟨tk, rfl⟩ := r
    exact .cons y tk (strs_of t)
noncomputable def rJoin (K : PySem.W.Frag) : V → List V → Hp → VK → Prop := fun x vs H Q => ∃ (z : Str) (a : Addr) (ys : List Str), x = .str z ∧ vs = [.ref a] ∧ SqL K H a (ys.map V.str) ∧ (ys.map (·.length)).sum + ys.length * z.length ≤ 16777216 ∧ Q (.str (Txt.join z ys)) H
theorem mt_join : MtR X "str.join" (rJoin X.K) := by
  intro pins s σ H x vs v us Q I rx rv h
  obtain ⟨z, a, ys, rfl, rfl, hl, hz, q⟩ := h
  obtain ⟨t, rfl⟩ := rx
  obtain ⟨u, rfl, ru⟩ := rv.one
  cases ru
  obtain ⟨its, r, pl, _⟩ := I.list hl
  exact join_list pl.isList (by simpa using strs_of r) hz fun t' k => ⟨.str _, H, I.tok _, ⟨_, rfl⟩, q⟩
noncomputable def rFind : V → List V → Hp → VK → Prop := fun x vs H Q => ∃ z y, x = .str z ∧ vs = [.str y] ∧ Q (.int (Txt.find z y)) H
theorem mt_find : MtR X "str.find" rFind := by
  intro pins s σ H x vs v us Q I rx rv h
  obtain ⟨z, y, rfl, rfl, q⟩ := h
  obtain ⟨t, rfl⟩ := rx
  obtain ⟨u, rfl, ru⟩ := rv.one
  obtain ⟨tu, rfl⟩ := ru
  exact SC.find ⟨.int _, H, I.tok _, ⟨_, rfl⟩, q⟩
theorem call_reprS : CallR X (.builtin "repr") (fun xs H Q => (∃ b, xs = [.bl b] ∧ Q (.str (if b then "True" else "False")) H) ∨ (xs = [.non] ∧ Q (.str "None") H)) := by
  intro pins s σ H xs us Q I r h
  rcases h with ⟨b, rfl, q⟩ | ⟨rfl, q⟩
  · obtain ⟨u, rfl, ru⟩ := vals1 r
    cases ru
    exact PySem.P.repr_of_bool ⟨.str _, H, I.tok _, ⟨_, rfl⟩, q⟩
  · obtain ⟨u, rfl, ru⟩ := vals1 r
    cases ru
    exact PySem.P.repr_of_none ⟨.str _, H, I.tok _, ⟨_, rfl⟩, q⟩
theorem call_isinst : CallR X (.builtin "isinstance") (fun xs H Q => ∃ x c t b, xs = [x, .ty c] ∧ TyOf X.K H x t ∧ PySem.W.kitOne X.K t (.type c) = some b ∧ Q (.bl b) H) := by
  intro pins s σ H xs us Q I r h
  obtain ⟨x, c, t, b, rfl, ty, e, q⟩ := h
  obtain ⟨u, w', rfl, r1, r2⟩ := vals2 r
  cases r2
  exact isinst_ok I r1 ty e fun tk => ⟨.bl _, H, I.tok _, rfl, q⟩
theorem call_isinstR : CallR X (.builtin "isinstance") (fun xs H Q => ∃ x c t b, xs = [x, .ref c] ∧ TyOf X.K H x t ∧ PySem.W.kitOne X.K t (.ref c) = some b ∧ Q (.bl b) H) := by
  intro pins s σ H xs us Q I r h
  obtain ⟨x, c, t, b, rfl, ty, e, q⟩ := h
  obtain ⟨u, w', rfl, r1, r2⟩ := vals2 r
  cases r2
  exact isinst_ok I r1 ty e fun tk => ⟨.bl _, H, I.tok _, rfl, q⟩
theorem call_isinstQ : CallR X (.builtin "isinstance") (fun xs H Q => ∃ a ys c b, xs = [V.ref a, .ty c] ∧ ((SqT X.K H a ys ∧ PySem.W.kitOne X.K (.type "tuple") (.type c) = some b) ∨ (SqL X.K H a ys ∧ PySem.W.kitOne X.K (.type "list") (.type c) = some b)) ∧ Q (.bl b) H) := by
  intro pins s σ H xs us Q I r h
  obtain ⟨a, ys, c, b, rfl, ty, q⟩ := h
  obtain ⟨u, w', rfl, r1, r2⟩ := vals2 r
  cases r2
  cases r1
  rcases ty with ⟨ty, e⟩ | ⟨ty, e⟩
  · obtain ⟨its, _, p, _⟩ := I.tuple ty
    obtain ⟨o, h1, h2, _⟩ := p
    exact PySem.W.kia_one PySem.W.kitx_tuple I.kIn ⟨o, h1, h2⟩ e (fun z => nomatch z) fun tk => ⟨.bl _, H, I.tok _, rfl, q⟩
  · obtain ⟨its, _, p, _⟩ := I.list ty
    obtain ⟨o, h1, h2, _⟩ := p.isList
    exact PySem.W.kia_one PySem.W.kitx_list I.kIn ⟨o, h1, h2⟩ e (fun z => nomatch z) fun tk => ⟨.bl _, H, I.tok _, rfl, q⟩
theorem bools_at {bs : List Bool} {its : List Value} (r : Vals (bs.map V.bl) its) (i : Nat) (v : Value) (h : its[i]? = some v) : ∃ b, bs[i]? = some b ∧ v = .bool b := by
  have hl := r.length
  have hi : i < its.length := (List.getElem?_eq_some_iff.mp h).1
  have hb : i < bs.length := by rw [List.length_map] at hl; omega
  obtain ⟨u, hu, ru⟩ := r.get (i := i) (x := .bl bs[i]) (by rw [List.getElem?_map, List.getElem?_eq_getElem hb]; rfl)
  rw [h] at hu
  cases hu
  exact ⟨bs[i], List.getElem?_eq_getElem hb, ru⟩
theorem range_all (bs : List Bool) : (List.range bs.length).all (fun i => (bs[i]?).getD false) = bs.all id := by
  rw [Bool.eq_iff_iff, List.all_eq_true, List.all_eq_true]
  constructor
  · intro h b hb
    obtain ⟨i, hi, e⟩ := List.mem_iff_getElem.mp hb
    have := h i (List.mem_range.mpr hi)
    rw [List.getElem?_eq_getElem hi] at this
    rw [← e]
    exact this
  · intro h i hi
    rw [List.getElem?_eq_getElem (List.mem_range.mp hi)]
    exact h _ (List.getElem_mem _)
theorem call_all (hc : X.calm = true) : CallR X (.builtin "all") (fun xs H Q => ∃ (a : Addr) (bs : List Bool), xs = [.ref a] ∧ SqL X.K H a (bs.map V.bl) ∧ Q (.bl (bs.all id)) H) := by
  intro pins s σ H xs us Q I r h
  obtain ⟨a, bs, rfl, hl, q⟩ := h
  obtain ⟨u, rfl, ru⟩ := vals1 r
  cases ru
  obtain ⟨its, rv, pl, hz⟩ := I.list hl
  have hlen := rv.length
  have hne : a ≠ s.heap.objs.size := by obtain ⟨o, n, ho, _⟩ := pl; exact Nat.ne_of_lt (Heap.lt_size ho)
  refine call_all_walk (wpAny_pyIter_list pl.isList ?_)
  refine ⟨_, _, _, _, _, _, fun i => (bs[i]?).getD false, rfl, Walks.list (A := X.A.in1) (I.ok.hd hc) _ a hne its.toArray, ⟨⟨_, Heap.get?_push_size _ rfl, rfl, rfl⟩, pl.isList.at fun o e => Heap.get?_push_of_some _ e⟩, fun i v s' Q' E' hp hq => ?_, fun h' tk hk => ?_⟩
  · obtain ⟨b, hb, rfl⟩ := bools_at rv i v (by simpa using hp)
    dsimp only at hq; rw [hb] at hq
    exact wpAny_truthy_bool hq
  · refine ⟨.bl _, H, I.kept (t' := tk) fun b ob e => hk b ob (fun hm => absurd (Heap.lt_size e) (by rw [show b = s.heap.objs.size by simpa using hm]; exact Nat.lt_irrefl _)) (Heap.get?_push_of_some _ e), ?_, q⟩
    have e1 : its.toArray.size = bs.length := by rw [List.size_toArray, ← hlen, List.length_map]
    rw [e1, range_all]
    rfl
theorem call_minL (hc : X.calm = true) : CallR X (.builtin "min") (fun xs H Q => ∃ (a : Addr) (ns : List Int), xs = [.ref a] ∧ SqL X.K H a (ns.map V.int) ∧ ns ≠ [] ∧ ∀ M, M ∈ ns → (∀ k ∈ ns, M ≤ k) → Q (.int M) H) := by
  intro pins s σ H xs us Q I r h
  obtain ⟨a, ns, rfl, hl, hne, q⟩ := h
  obtain ⟨u, rfl, ru⟩ := vals1 r
  cases ru
  obtain ⟨its, rv, pl, hz⟩ := I.list hl
  have hi : IntsAre its ns := intsAre_of rv
  obtain ⟨xs, e⟩ := hi.allInts.items
  have hns : ns = xs.toList.map (·.1) := by
    rw [← hi.numsOf, ← nums_intItems, ← e]
  have hpos : 0 < ns.length := List.length_pos_iff.mpr hne
  have hsz : 0 < xs.size := by
    have h3 := hpos; rw [hns, List.length_map, Array.length_toList] at h3; exact h3
  have hl' := pl.isList
  rw [e] at hl'
  refine min_intList (I.ok.hd hc) hl' hsz fun v h' tk hv hk => ?_
  obtain ⟨t, rfl⟩ := intItems_at hv
  obtain ⟨h1, h2⟩ := argBest_lt (numAt xs) (xs.size - 1)
  refine ⟨.int _, H, I.kept (t' := tk) hk, ⟨_, rfl⟩, q _ ?_ fun k hk' => ?_⟩
  · rw [hns, numAt_eq]; exact getD_mem (by rw [List.length_map, Array.length_toList]; omega)
  · rw [hns] at hk'
    obtain ⟨j, hj, rfl⟩ := mem_getD hk'
    rw [List.length_map, Array.length_toList] at hj
    rw [← numAt_eq]; exact h2 j (by omega)
end
section
variable {X : Cx} {x : Str} {pos : Pos}
theorem pe_gl {v : V} (hg : Gl X x) (hm : ∃ u, X.mg x = some u ∧ RelV v u) (hd : (x == ("__debug__" : Str)) = false := by decide) : PE X (.Name x pos) (tC v) := by
  obtain ⟨u, h1, h2⟩ := hm
  exact pe_glob hg h1 h2 hd
end
section
variable {X : Cx} {K : PySem.W.Frag}
noncomputable def rCat0 (K : PySem.W.Frag) : R2 := fun x y H Q => ∃ a b ys, x = .ref a ∧ y = .ref b ∧ SqT K H a [] ∧ SqT K H b ys ∧ Q (.ref b) H
theorem op_cat0 : OpR X (binaryOp .Add) (rCat0 X.K) := by
  intro pins s σ H x y v u Q I rx ry h
  obtain ⟨a, b, ys, rfl, rfl, ha, hb, q⟩ := h
  cases rx
  cases ry
  obtain ⟨its, r1, p1, _⟩ := I.tuple ha
  obtain ⟨its2, r2, p2, _⟩ := I.tuple hb
  cases r1
  obtain ⟨⟨cls, dd, data, sl⟩, ho, hc, n, hd⟩ := id p1
  obtain ⟨⟨cls2, dd2, data2, sl2⟩, ho2, hc2, n2, hd2⟩ := id p2
  simp only at hc hd hc2 hd2
  subst hc hd hc2 hd2
  exact concat_meets ⟨_, ho, rfl⟩ ⟨_, ho2, rfl⟩ noFill_tuple_add seq_tuple_add PySem.F.slot_tuple_add PySem.F.entry_tuple_add (PySem.F.args_tuple_add_2 _ _) (tuple_addW0 a b _ _ n n2 dd dd2 sl sl2 (by simp)) ⟨ho, ho2, ⟨.ref b, H, I, rfl, q⟩⟩
noncomputable def rSlW (K : PySem.W.Frag) : V → Option Int → Option Int → Hp → VK → Prop := fun x lo hi H Q => ∃ a xs, x = .ref a ∧ SqT K H a xs ∧ (HT.sIx xs.length 0 lo = 0 ∧ HT.sIx xs.length xs.length hi = xs.length) ∧ Q (.ref a) H
theorem sl_whole : SlR X (rSlW X.K) := by
  intro pins s σ H x v vl vu lo hi sl Q I rx hs pl pu h
  obtain ⟨a, xs, rfl, hx, hw, q⟩ := h
  cases rx
  obtain ⟨its, r, ht, hz⟩ := I.tuple hx
  have hlen : its.toArray.size = xs.length := by rw [List.size_toArray]; exact r.length.symm
  refine ⟨"tuple", _, PyProof.Rows.slot_tuple_getitem.lookup, ht.typeIs, ?_⟩
  obtain ⟨os, hos, hcs, hds⟩ := id hs
  have hTs : s.TypeIs (.ref sl) "slice" := ⟨os, hos, hcs⟩
  unfold getItem
  try with_reducible refine wpAny_holding ?_
  first | refine wpAny_bind (wpAny_pure ?_) | skip
  refine wpAny_bind (wpAny_sequenceKey ht.typeIs (by decide) ?_)
  refine wpAny_bind (wpAny_callSpecial?_slot (name := Str.ofString "__getitem__") ht.typeIs PyProof.Rows.slot_tuple_getitem (wpAny_call_entry PyProof.Rows.slot_tuple_getitem ht.typeIs entry_tuple_getitem ?_ (args_tuple_getitem _ _)))
  refine wpAny_bind (m := Builtin.Tuple.tupleItemsOf (.ref a)) (tupleItemsOf_ ht ?_)
  refine wpAny_bind (wpAny_typeOf hTs ?_)
  rw [if_pos (by decide)]
  refine wpAny_bind (HT.sliceApplied_gen hs pl pu ?_)
  have yes : (((HT.sIx its.toArray.size 0 lo : Nat) : Int) == 0 && (1 : Int) == 1 && (HT.sIx its.toArray.size its.toArray.size hi - HT.sIx its.toArray.size 0 lo) == its.toArray.size) = true := by
    rw [hlen, hw.1, hw.2]
    simp
  show wpAny _ _ (if (((HT.sIx its.toArray.size 0 lo : Nat) : Int) == 0 && (1 : Int) == 1 && (HT.sIx its.toArray.size its.toArray.size hi - HT.sIx its.toArray.size 0 lo) == its.toArray.size) = true then _ else _) _ _ s
  rw [if_pos yes]
  have fin : ∀ s', s' = s → EP X pins σ Q (.ref a) s' := fun s' e => by subst e; exact ⟨.ref a, H, I, rfl, q⟩
  unfold Builtin.Tuple.tupleIsExact
  obtain ⟨hp, g, d, tk, os⟩ := s
  have hT := ht.typeIs
  repeat (any_goals (first | assumption | wp_step))
  exact ⟨_, rfl, wpAny_pure (fin _ rfl)⟩
end
theorem Inv.freeze {X : Cx} {pins : List (Addr × Obj)} {σ : St} {H : Hp} {s : Shared} {d : Addr} {kvs : List (Key × V)} {o : Obj} (I : Inv X pins σ H s) (hd : H d = some (.dK kvs)) (ho : s.heap.get? d = some o) : Inv X pins σ (upd H d (.frz o (.dK kvs))) s := by
  have nn : ∀ b, H b = none → upd H d (.frz o (.dK kvs)) b = none := fun b h => by rw [upd_ne (Ne.symm (ne_of_none hd h))]; exact h
  have other : ∀ b u, H b = some u → u ≠ .dK kvs → upd H d (.frz o (.dK kvs)) b = some u := fun b u h q => by rw [upd_ne (ne_of h hd q)]; exact h
  refine ⟨I.ok, I.os, I.bare, ⟨I.base.keep, I.base.slot, fun b ob q n hx => nn b (I.base.free b ob q n hx), I.base.there, fun b xs q => other b _ (I.base.tups b xs q) (by intro z; cases z), fun b ob u q => other b _ (I.base.frzs b ob u q) (by intro z; cases z), fun b ps q => ?_⟩, I.loc, I.cell, nn _ I.free, fun x c q => nn _ (I.freeC x c q), fun p hp => ?_, fun b u q => ?_, I.len⟩
  · obtain ⟨more, h⟩ := I.base.tbls b ps q
    exact ⟨more, other b _ h (by intro z; cases z)⟩
  · obtain ⟨a1, a2, a3⟩ := I.pin p hp
    exact ⟨a1, nn _ a2, a3⟩
  · by_cases e : b = d
    · subst e
      rw [upd_same] at q
      cases q
      exact ⟨ho, (I.hok b _ hd).stay (fun c v hc z => z) (fun c z => other c _ z (by intro w; cases w)) fun c xs z => other c _ z (by intro w; cases w)⟩
    · rw [upd_ne e] at q
      exact (I.hok b u q).stay (fun c v hc z => z) (fun c z => other c _ z (by intro w; cases w)) fun c xs z => other c _ z (by intro w; cases w)
noncomputable def Itd (a : Addr) (o : Obj) (kvs : List (Key × V)) : It :=
  ⟨fun i H => H a = some (.frz o (.dK kvs)) ∧ i < kvs.length, fun i H x H' => H' = H ∧ ∃ kv, kvs[i]? = some kv ∧ x = kV kv.1, fun i H => H a = some (.frz o (.dK kvs)) ∧ kvs.length ≤ i⟩
theorem key_rel {k : Key} {u : Value} (h : keyIs k u = true) : RelV (kV k) u := by
  rcases keyIs_shape h with ⟨i, t, rfl, rfl⟩ | ⟨x, t, rfl, rfl⟩
  · exact ⟨t, rfl⟩
  · exact ⟨t, rfl⟩
theorem dict_at {X : Cx} {pins : List (Addr × Obj)} {σ : St} {H : Hp} {s : Shared} {a : Addr} {kvs : List (Key × V)} {o : Obj} {es : Array DictEntry} {ep : Nat} (I : Inv X pins σ H s) (h : H a = some (.frz o (.dK kvs))) (ho : o.data = .dict es ep) : ∃ vs, KV kvs vs ∧ s.heap.DictAt (mixKind X.prog X.w) a vs ep := by
  obtain ⟨h1, _, _, vs, r, o', es', ep', h2, c, hd, rest⟩ := I.hok a _ h
  rw [h1] at h2
  cases h2
  rw [ho] at hd
  cases hd
  exact ⟨vs, r, o, es, h1, c, ho, rest⟩
theorem KV.get : ∀ {kvs : List (Key × V)} {vs : List (Key × Value)} {i : Nat} {kv : Key × V}, KV kvs vs → kvs[i]? = some kv → ∃ u, vs[i]? = some (kv.1, u) ∧ RelV kv.2 u
  | _, _, _, _, .nil, e => by simp at e
  | _, _, 0, kv, .cons r _, e => by
    simp at e
    subst e
    exact ⟨_, congrArg some (Prod.ext r.1.symm rfl), r.2⟩
  | _, _, i + 1, kv, .cons _ t, e => by
    obtain ⟨u, h1, h2⟩ := KV.get (i := i) t (by simpa using e)
    exact ⟨u, by simpa using h1, h2⟩
theorem turn_dict {P : Program} {w : World} {K : PySem.W.Frag} {tg : Expr} (a it : Addr) (o : Obj) (kvs : List (Key × V)) (es : Array DictEntry) (ep : Nat) (hd : o.data = .dict es ep) : Turn P w K tg (Itd a o kvs) [it] it (fun i h => h.IsKeyIter it a i kvs.length ep) where
  mem := by simp
  obj := fun i h st b hb => by
    have e : b = it := by simpa using hb
    subst e
    obtain ⟨o, e, c, d⟩ := st
    exact ⟨o, e, fun v z => by rw [d] at z; cases z⟩
  keep := fun i h h' st k => st.at fun o e => k it (by simp) o e
  item := by
    intro X hP hw hK hc i pins s σ H E I hf st hg
    subst hP hw hK
    obtain ⟨hH, hi⟩ := hg
    obtain ⟨vs, rv, hat⟩ := dict_at I hH hd
    have hl : kvs.length = vs.length := Paired.length rv
    obtain ⟨kv, hkv⟩ : ∃ kv, kvs[i]? = some kv := ⟨kvs[i], List.getElem?_eq_getElem hi⟩
    obtain ⟨u, hu, _⟩ := KV.get rv hkv
    obtain ⟨f0, f1, f2, f3, f4, f5⟩ := hf it (by simp)
    rw [hl] at st
    refine wpAny_pyNext_dict_item st hat hu fun key h' hkey hit' hs' => ?_
    have I1 : Inv X pins σ H { s with heap := h' } := I.turned (t' := s.toks) (fun b o hb e => (hs'.2 b hb).trans e) f0 f1 f3 f4 f5
    obtain ⟨o', e, c, d⟩ := id hit'
    exact ⟨key, rfl, go_of (s := { s with heap := h' }) e c d (by decide) ⟨kV kv.1, H, I1, key_rel hkey, ⟨rfl, kv, hkv, rfl⟩, by rw [hl]; exact hit', fun b hb => (hf b hb).1⟩⟩
  done := by
    intro X hP hw hK hc i pins s σ H E I hf st hg
    subst hP hw hK
    obtain ⟨hH, hi⟩ := hg
    obtain ⟨vs, rv, hat⟩ := dict_at I hH hd
    have hl : kvs.length = vs.length := Paired.length rv
    obtain ⟨f0, f1, f2, f3, f4, f5⟩ := hf it (by simp)
    rw [hl] at st
    exact wpAny_pyNext_dict_end (I.ok.hd hc) st hat (List.getElem?_eq_none (by omega)) fun h' eb => ⟨rfl, I.turned (t' := s.toks) (fun b o hb e => eb b o hb e) f0 f1 f3 f4 f5⟩
  self := fun A i s Q E st hQ => wpAny_pyIter_keyiter st hQ
theorem it_dict {X : Cx} {tg : Expr} {pins : List (Addr × Obj)} {σ : St} {H : Hp} {s : Shared} {a : Addr} {kvs : List (Key × V)} {R : It → Hp → Prop} {E : Value → Shared → Prop} (I : Inv X pins σ H s) (h : H a = some (.dK kvs)) (q : ∀ o, R (Itd a o kvs) (upd H a (.frz o (.dK kvs)))) :
    wpAny (model X.prog X.w) X.A (pyIter (.ref a)) (PIE X pins σ tg R) E s := by
  obtain ⟨_, hs, vs, rv, o, es, ep, ho, c, hd, rest⟩ := I.hok a _ h
  have I1 := I.freeze h ho
  have hl : kvs.length = vs.length := Paired.length rv
  refine wpAny_pyIter_dict (knd := mixKind X.prog X.w) hs ⟨o, es, ho, c, hd, rest⟩ ?_
  rw [← hl]
  refine ⟨s.heap.objs.size, [s.heap.objs.size], _, _, _, rfl, I1.kept (t' := s.toks) fun b o e => Heap.get?_push_of_some _ e, turn_dict a _ o kvs es ep hd, ⟨_, Heap.get?_push_size _ rfl, rfl, rfl⟩, fun b hb => ?_, q o⟩
  have e : b = s.heap.objs.size := by simpa using hb
  subst e
  exact I1.fpOk (Nat.le_refl _) (I1.hok.fresh (Nat.le_refl _))
theorem it_dictF {X : Cx} {tg : Expr} {pins : List (Addr × Obj)} {σ : St} {H : Hp} {s : Shared} {a : Addr} {kvs : List (Key × V)} {o : Obj} {R : It → Hp → Prop} {E : Value → Shared → Prop} (I : Inv X pins σ H s) (h : H a = some (.frz o (.dK kvs))) (q : R (Itd a o kvs) H) :
    wpAny (model X.prog X.w) X.A (pyIter (.ref a)) (PIE X pins σ tg R) E s := by
  obtain ⟨ho', _, hs, vs, rv, o', es, ep, ho, c, hd, rest⟩ := I.hok a _ h
  rw [ho'] at ho
  cases ho
  have hl : kvs.length = vs.length := Paired.length rv
  refine wpAny_pyIter_dict (knd := mixKind X.prog X.w) hs ⟨o, es, ho', c, hd, rest⟩ ?_
  rw [← hl]
  refine ⟨s.heap.objs.size, [s.heap.objs.size], _, _, _, rfl, I.kept (t' := s.toks) fun b o e => Heap.get?_push_of_some _ e, turn_dict a _ o kvs es ep hd, ⟨_, Heap.get?_push_size _ rfl, rfl, rfl⟩, fun b hb => ?_, q⟩
  have e : b = s.heap.objs.size := by simpa using hb
  subst e
  exact I.fpOk (Nat.le_refl _) (I.hok.fresh (Nat.le_refl _))
end L2
set_option Elab.async false
set_option linter.all false
set_option maxRecDepth 100000
set_option maxHeartbeats 4000000
namespace L2
open PySem PySem.Spec PyProof.Rows
theorem Same.seqT {K : PySem.W.Frag} {H H' : Hp} {a : Addr} {xs : List V} (e : Same H H') (h : SqT K H a xs) : SqT K H' a xs := by
  rcases h with (h | ⟨o, h⟩) | h
  · exact .inl (.inl (e _ _ h))
  · exact .inl (.inr ⟨o, e _ _ h⟩)
  · exact .inr h
mutual
def Is (K : PySem.W.Frag) (H : Hp) : PyData → V → Prop
  | .none, v => v = .non
  | .bool b, v => v = .bl b
  | .int i, v => v = .int i
  | .str x, v => v = .str x
  | .list ds, v => ∃ a xs, v = .ref a ∧ SqL K H a xs ∧ IsL K H ds xs
  | .tuple ds, v => ∃ a xs, v = .ref a ∧ SqT K H a xs ∧ IsL K H ds xs
  | .dict _, _ => False
def IsL (K : PySem.W.Frag) (H : Hp) : List PyData → List V → Prop
  | [], vs => vs = []
  | d :: ds, vs => ∃ v r, vs = v :: r ∧ Is K H d v ∧ IsL K H ds r
end
mutual
theorem Is.mono {K : PySem.W.Frag} {H H' : Hp} (e : Same H H') : ∀ (d : PyData) (v : V), Is K H d v → Is K H' d v
  | .none, _, h => by simp only [Is] at h ⊢; exact h
  | .bool _, _, h => by simp only [Is] at h ⊢; exact h
  | .int _, _, h => by simp only [Is] at h ⊢; exact h
  | .str _, _, h => by simp only [Is] at h ⊢; exact h
  | .list ds, v, h => by
    simp only [Is] at h ⊢
    obtain ⟨a, xs, e1, e2, e3⟩ := h
    exact ⟨a, xs, e1, e.seq e2, IsL.mono e ds xs e3⟩
  | .tuple ds, v, h => by
    simp only [Is] at h ⊢
    obtain ⟨a, xs, e1, e2, e3⟩ := h
    exact ⟨a, xs, e1, e.seqT e2, IsL.mono e ds xs e3⟩
  | .dict _, _, h => by simp only [Is] at h
theorem IsL.mono {K : PySem.W.Frag} {H H' : Hp} (e : Same H H') : ∀ (ds : List PyData) (vs : List V), IsL K H ds vs → IsL K H' ds vs
  | [], _, h => by simp only [IsL] at h ⊢; exact h
  | d :: ds, vs, h => by
    simp only [IsL] at h ⊢
    obtain ⟨v, r, e1, e2, e3⟩ := h
    exact ⟨v, r, e1, Is.mono e d v e2, IsL.mono e ds r e3⟩
end
section
variable {X : Cx} {pins : List (Addr × Obj)} {σ : St} {H : Hp} {s : Shared}
mutual
theorem Is.reads (I : Inv X pins σ H s) : ∀ (d : PyData) (v : V) (u : Value), Is X.K H d v → RelV v u → ∃ as, Reads s.heap u d as
  | .none, v, u, i, r => by
    simp only [Is] at i
    subst i
    cases r
    exact ⟨_, .none⟩
  | .bool b, v, u, i, r => by
    simp only [Is] at i
    subst i
    cases r
    exact ⟨_, .bool b⟩
  | .int n, v, u, i, r => by
    simp only [Is] at i
    subst i
    obtain ⟨t, rfl⟩ := r
    exact ⟨_, .int n t⟩
  | .str x, v, u, i, r => by
    simp only [Is] at i
    subst i
    obtain ⟨t, rfl⟩ := r
    exact ⟨_, .str x t⟩
  | .list ds, v, u, i, r => by
    simp only [Is] at i
    obtain ⟨a, xs, rfl, e2, e3⟩ := i
    cases r
    obtain ⟨its, rv, ⟨o, n, e, hc, hd, hs⟩, _⟩ := I.list e2
    obtain ⟨as, ra⟩ := IsL.reads I ds xs its e3 rv
    exact ⟨_, .list e hc hs (by simpa using ra)⟩
  | .tuple ds, v, u, i, r => by
    simp only [Is] at i
    obtain ⟨a, xs, rfl, e2, e3⟩ := i
    cases r
    obtain ⟨its, rv, ⟨o, e, hc, n, hd⟩, _⟩ := I.tuple e2
    obtain ⟨as, ra⟩ := IsL.reads I ds xs its e3 rv
    exact ⟨_, .tuple e hc hd (by simpa using ra)⟩
  | .dict _, _, _, i, _ => by simp only [Is] at i
theorem IsL.reads (I : Inv X pins σ H s) : ∀ (ds : List PyData) (vs : List V) (us : List Value), IsL X.K H ds vs → Vals vs us → ∃ as, ReadsAll s.heap us ds as
  | [], vs, us, i, r => by
    simp only [IsL] at i
    subst i
    cases r
    exact ⟨_, .nil⟩
  | d :: ds, vs, us, i, r => by
    simp only [IsL] at i
    obtain ⟨v, rr, rfl, e2, e3⟩ := i
    cases r with
    | cons r1 r2 =>
      obtain ⟨a1, h1⟩ := Is.reads I d v _ e2 r1
      obtain ⟨a2, h2⟩ := IsL.reads I ds rr _ e3 r2
      exact ⟨_, .cons h1 h2⟩
end
end
theorem is_ints {K : PySem.W.Frag} {H : Hp} : ∀ ns : List Int, IsL K H (ns.map PyData.int) (ns.map V.int)
  | [] => by simp only [List.map_nil, IsL]
  | n :: r => by
    simp only [List.map_cons, IsL]
    exact ⟨_, _, rfl, by simp only [Is], is_ints r⟩
theorem is_strs {K : PySem.W.Frag} {H : Hp} : ∀ ns : List Str, IsL K H (ns.map PyData.str) (ns.map V.str)
  | [] => by simp only [List.map_nil, IsL]
  | n :: r => by
    simp only [List.map_cons, IsL]
    exact ⟨_, _, rfl, by simp only [Is], is_strs r⟩
theorem is_listI {K : PySem.W.Frag} {H : Hp} {a : Addr} {ns : List Int} (h : SqL K H a (ns.map V.int)) : Is K H (.list (ns.map PyData.int)) (.ref a) := by
  simp only [Is]
  exact ⟨a, _, rfl, h, is_ints ns⟩
structure QA (A : Around) : Prop where
  un : A.units + 150 < cLine
  gd : A.guards = some []
theorem qa_of {A : Around} {k : Nat} (hr : Room k A) : QA A := ⟨by have := hr.un; omega, hr.gd⟩
section
variable {X : Cx}
noncomputable def rAddA (K : PySem.W.Frag) : R2 := fun x y H Q => (∃ i j, x = .int i ∧ y = .int j ∧ Q (.int (i + j)) H) ∨ (∃ i j, x = .str i ∧ y = .str j ∧ i.length + j.length ≤ sizeLine ∧ Q (.str (i ++ j)) H) ∨ rCat x y H Q ∨ rCatT K x y H Q ∨ rCat0 K x y H Q
theorem op_addA : OpR X (binaryOp .Add) (rAddA X.K) := op_add.or (op_add_str.or (op_cat.or (op_catT.or op_cat0)))
noncomputable def rMulA : R2 := fun x y H Q => (∃ i j, x = .int i ∧ y = .int j ∧ CMul i j ∧ Q (.int (i * j)) H) ∨ rRep x y H Q
theorem op_mulA : OpR X (binaryOp .Mult) rMulA := op_mul.or op_rep
theorem op_fdivA : OpR X (binaryOp .FloorDiv) (rI CDiv fun i j => .int (i / j)) := op_fdiv
noncomputable def rEqD (K : PySem.W.Frag) (neg : Bool) : R2 := fun x y H Q => ∃ dx dy, Is K H dx x ∧ Is K H dy y ∧ SeqAt.shaped dx = true ∧ SeqAt.shaped dy = true ∧ Q (.bl (if neg then !PyData.eqv dx dy else PyData.eqv dx dy)) H
theorem op_eqD (hq : QA X.A) : OpR X (compareOp .Eq) (rEqD X.K false) := by
  intro pins s σ H x y v u Q I rx ry h
  obtain ⟨dx, dy, ix, iy, sx, sy, q⟩ := h
  obtain ⟨as, ra⟩ := Is.reads I dx x v ix rx
  obtain ⟨bs, rb⟩ := Is.reads I dy y u iy ry
  exact eq_dataH ra rb sx sy (by have := hq.un; omega) ⟨.bl _, H, I, rfl, q⟩
theorem op_neD (hq : QA X.A) : OpR X (compareOp .NotEq) (rEqD X.K true) := by
  intro pins s σ H x y v u Q I rx ry h
  obtain ⟨dx, dy, ix, iy, sx, sy, q⟩ := h
  obtain ⟨as, ra⟩ := Is.reads I dx x v ix rx
  obtain ⟨bs, rb⟩ := Is.reads I dy y u iy ry
  exact ne_dataH ra rb sx sy (by have := hq.un; omega) ⟨.bl _, H, I, rfl, q⟩
noncomputable def rEqA (K : PySem.W.Frag) : R2 := fun x y H Q => rEq x y H Q ∨ rEqD K false x y H Q
noncomputable def rNeA (K : PySem.W.Frag) : R2 := fun x y H Q => rNe x y H Q ∨ rEqD K true x y H Q
theorem op_eqA (hq : QA X.A) : OpR X (compareOp .Eq) (rEqA X.K) := op_eq.or (op_eqD hq)
theorem op_neA (hq : QA X.A) : OpR X (compareOp .NotEq) (rNeA X.K) := op_ne.or (op_neD hq)
noncomputable def rInT (neg : Bool) : R2 := fun x y H Q => ∃ i j, x = .str i ∧ y = .str j ∧ Q (.bl (if neg then !(!(Builtin.Str.occurrences j i 0 j.length 1).isEmpty) else !(Builtin.Str.occurrences j i 0 j.length 1).isEmpty)) H
noncomputable def rInD (neg : Bool) : R2 := fun x y H Q => ∃ a o, y = .ref a ∧ DGet H a x o ∧ Q (.bl (if neg then !o.isSome else o.isSome)) H
theorem op_inD (hu : X.A.units + 1 < cLine) : OpR X (compareOp .In) (rInD false) := by
  intro pins s σ H x y v u Q I rx ry h
  obtain ⟨a, o, rfl, g, q⟩ := h
  cases ry
  exact d_in hu I g rx fun s' I' => ⟨.bl _, H, I', rfl, q⟩
theorem op_notInD (hu : X.A.units + 1 < cLine) : OpR X (compareOp .NotIn) (rInD true) := by
  intro pins s σ H x y v u Q I rx ry h
  obtain ⟨a, o, rfl, g, q⟩ := h
  cases ry
  exact d_notIn hu I g rx fun s' I' => ⟨.bl _, H, I', rfl, q⟩
noncomputable def rInX (K : PySem.W.Frag) (neg : Bool) : R2 := fun x y H Q => ∃ d ds, Is K H d x ∧ (Is K H (.list ds) y ∨ Is K H (.tuple ds) y) ∧ PyData.canLayAll0 ds = true ∧ d.canLay0 = true ∧ d.depth ≤ 100 ∧ Q (.bl (if neg then !(ds.any fun e => PyData.eqv e d) else ds.any fun e => PyData.eqv e d)) H
theorem op_inX (hq : QA X.A) : OpR X (compareOp .In) (rInX X.K false) := by
  intro pins s σ H x y v u Q I rx ry h
  obtain ⟨d, ds, ix, iy, h1, h2, h3, q⟩ := h
  obtain ⟨bs, rb⟩ := Is.reads I d x v ix rx
  rcases iy with iy | iy
  · obtain ⟨as, ra⟩ := Is.reads I _ y u iy ry
    exact SeqAt.in_list_reads ra rb h1 h2 (by have := hq.un; have := Nat.min_le_right (PyData.depthAll ds) d.depth; omega) ⟨.bl _, H, I, rfl, q⟩
  · obtain ⟨as, ra⟩ := Is.reads I _ y u iy ry
    exact SeqAt.in_tuple_reads ra rb h1 h2 (by have := hq.un; have := Nat.min_le_right (PyData.depthAll ds) d.depth; omega) ⟨.bl _, H, I, rfl, q⟩
theorem op_notInX (hq : QA X.A) : OpR X (compareOp .NotIn) (rInX X.K true) := by
  intro pins s σ H x y v u Q I rx ry h
  obtain ⟨d, ds, ix, iy, h1, h2, h3, q⟩ := h
  obtain ⟨bs, rb⟩ := Is.reads I d x v ix rx
  rcases iy with iy | iy
  · obtain ⟨as, ra⟩ := Is.reads I _ y u iy ry
    exact SeqAt.notIn_list_reads ra rb h1 h2 (by have := hq.un; have := Nat.min_le_right (PyData.depthAll ds) d.depth; omega) ⟨.bl _, H, I, rfl, q⟩
  · obtain ⟨as, ra⟩ := Is.reads I _ y u iy ry
    exact SeqAt.notIn_tuple_reads ra rb h1 h2 (by have := hq.un; have := Nat.min_le_right (PyData.depthAll ds) d.depth; omega) ⟨.bl _, H, I, rfl, q⟩
noncomputable def rInA (K : PySem.W.Frag) (neg : Bool) : R2 := fun x y H Q => rIn K neg x y H Q ∨ rInT neg x y H Q ∨ rInD neg x y H Q ∨ rInX K neg x y H Q
theorem QA.hu {A : Around} (h : QA A) : A.units + 1 < cLine := by have := h.un; omega
theorem op_inA (hq : QA X.A) : OpR X (compareOp .In) (rInA X.K false) := op_in_seq.or (op_in_str.or ((op_inD hq.hu).or (op_inX hq)))
theorem op_notInA (hq : QA X.A) : OpR X (compareOp .NotIn) (rInA X.K true) := op_notIn_seq.or (op_notIn_str.or ((op_notInD hq.hu).or (op_notInX hq)))
noncomputable def rSlA (K : PySem.W.Frag) : V → Option Int → Option Int → Hp → VK → Prop := fun x lo hi H Q => rSlL K x lo hi H Q ∨ rSlT K x lo hi H Q ∨ rSlS x lo hi H Q ∨ rSlW K x lo hi H Q
theorem sl_A : SlR X (rSlA X.K) := sl_list.or (sl_tup.or (sl_str.or sl_whole))
noncomputable def rIxD : R2 := fun x y H Q => ∃ a v, x = .ref a ∧ DGet H a y (some v) ∧ Q v H
theorem ix_dict (hu : X.A.units + 1 < cLine) : IxR X rIxD := by
  intro value slice pins s σ H x y v u Q I rx ry h hs
  obtain ⟨a, z, rfl, g, q⟩ := h
  cases rx
  exact tail_any (dict_typeIs I g) PySem.F.slot_dict_getitem.lookup (d_getItem hu I g ry fun w' s' I' rw' => ⟨z, H, I', rw', q⟩) hs
noncomputable def rIxA (K : PySem.W.Frag) : R2 := fun x y H Q => rIx K x y H Q ∨ rIxD x y H Q
theorem ix_any (hu : X.A.units + 1 < cLine) : IxR X (rIxA X.K) := ix_seq.or (ix_dict hu)
noncomputable def rLenA (K : PySem.W.Frag) : List V → Hp → VK → Prop := fun xs H Q => (∃ x n, xs = [x] ∧ LenV K x H n ∧ Q (.int n) H) ∨ ∃ a kvs, xs = [V.ref a] ∧ H a = some (.dK kvs) ∧ Q (.int kvs.length) H
theorem call_lenA : CallR X (.builtin "len") (rLenA X.K) := call_len.or call_lenD
noncomputable def rIsinst (K : PySem.W.Frag) : List V → Hp → VK → Prop := fun xs H Q => (∃ x c t b, xs = [x, .ty c] ∧ TyOf K H x t ∧ PySem.W.kitOne K t (.type c) = some b ∧ Q (.bl b) H) ∨ (∃ x c t b, xs = [x, .ref c] ∧ TyOf K H x t ∧ PySem.W.kitOne K t (.ref c) = some b ∧ Q (.bl b) H) ∨ ∃ a ys c b, xs = [V.ref a, .ty c] ∧ ((SqT K H a ys ∧ PySem.W.kitOne K (.type "tuple") (.type c) = some b) ∨ (SqL K H a ys ∧ PySem.W.kitOne K (.type "list") (.type c) = some b)) ∧ Q (.bl b) H
theorem call_isinstA : CallR X (.builtin "isinstance") (rIsinst X.K) := call_isinst.or (call_isinstR.or call_isinstQ)
noncomputable def rListA (K : PySem.W.Frag) : List V → Hp → VK → Prop := fun xs H Q => ∃ p ys, xs = [.ref p] ∧ (SqL K H p ys ∨ SqT K H p ys) ∧ ∀ l, H l = none → Q (.ref l) (upd H l (.lst ys))
theorem call_listA : CallR X (.type "list") (rListA X.K) := call_list_of
noncomputable def rTupleA (K : PySem.W.Frag) : List V → Hp → VK → Prop := fun xs H Q => ∃ p ys, xs = [.ref p] ∧ ((SqL K H p ys ∧ ∀ l, H l = none → Q (.ref l) (upd H l (.tup ys))) ∨ (SqT K H p ys ∧ Q (.ref p) H))
theorem call_tupleA : CallR X (.type "tuple") (rTupleA X.K) := call_tuple_of
noncomputable def rReprA : List V → Hp → VK → Prop := fun xs H Q => (∃ b, xs = [.bl b] ∧ Q (.str (if b then "True" else "False")) H) ∨ (xs = [.non] ∧ Q (.str "None") H)
theorem call_reprA : CallR X (.builtin "repr") rReprA := call_reprS
noncomputable def rIntA : List V → Hp → VK → Prop := fun xs H Q => (∃ i, xs = [.int i] ∧ Q (.int i) H) ∨ ∃ k, xs = [.bl k] ∧ Q (.int (if k then 1 else 0)) H
theorem call_intA : CallR X (.type "int") rIntA := call_int1
noncomputable def rAllA (K : PySem.W.Frag) : List V → Hp → VK → Prop := fun xs H Q => ∃ (a : Addr) (bs : List Bool), xs = [.ref a] ∧ SqL K H a (bs.map V.bl) ∧ Q (.bl (bs.all id)) H
theorem call_allA (hc : X.calm = true) : CallR X (.builtin "all") (rAllA X.K) := call_all hc
noncomputable def rMinA (K : PySem.W.Frag) : List V → Hp → VK → Prop := fun xs H Q => ∃ (a : Addr) (ns : List Int), xs = [.ref a] ∧ SqL K H a (ns.map V.int) ∧ ns ≠ [] ∧ ∀ M, M ∈ ns → (∀ k ∈ ns, M ≤ k) → Q (.int M) H
theorem call_minA (hc : X.calm = true) : CallR X (.builtin "min") (rMinA X.K) := call_minL hc
variable {tg : Expr}
noncomputable def rAnyIt (K : PySem.W.Frag) (x : V) (H1 : Hp) (R : It → Hp → Prop) : Prop := (∃ a, x = .ref a ∧ (∃ xs, SqL K H1 a xs) ∧ R (Itl K a) H1) ∨ (∃ a, x = .ref a ∧ (∃ xs, SqT K H1 a xs) ∧ R (Itt K a) H1) ∨ (∃ z, x = .str z ∧ R (Its z) H1) ∨ ∃ a kvs, x = .ref a ∧ ((H1 a = some (.dK kvs) ∧ ∀ o, R (Itd a o kvs) (upd H1 a (.frz o (.dK kvs)))) ∨ ∃ o, H1 a = some (.frz o (.dK kvs)) ∧ R (Itd a o kvs) H1)
noncomputable def iAny (K : PySem.W.Frag) (tl : TE) : TI := fun σ H R => tl σ H fun x H1 => rAnyIt K x H1 R
theorem pi_any (hu : X.A.units + 1 < cLine) {l : Expr} {tl : TE} (hl : PE X l tl) : PI X tg l (iAny X.K tl) := by
  intro pins s σ H R I h
  refine thn (hl pins s σ H _ I h) fun v s1 ⟨x, H1, I1, r1, q1⟩ => ?_
  rcases q1 with ⟨a, e, ⟨xs, hq⟩, q⟩ | ⟨a, e, ⟨xs, hq⟩, q⟩ | ⟨z, e, q⟩ | ⟨a, kvs, e, q⟩
  · subst e
    cases r1
    obtain ⟨its, rv, p, hz⟩ := I1.list hq
    refine wpAny_pyIter_list p.isList ?_
    refine ⟨s1.heap.objs.size, [s1.heap.objs.size], _, _, H1, rfl, I1.kept (t' := s1.toks) fun b o e => Heap.get?_push_of_some _ e, turn_list a _, ⟨_, Heap.get?_push_size _ rfl, rfl, rfl⟩, fun b hb => ?_, q⟩
    have e : b = s1.heap.objs.size := by simpa using hb
    subst e
    exact I1.fpOk (Nat.le_refl _) (I1.hok.fresh (Nat.le_refl _))
  · subst e
    cases r1
    obtain ⟨its, rv, p, hz⟩ := I1.tuple hq
    refine wpAny_pyIter_tuple (show s1.heap.IsTuple a its.toArray from p) ?_
    refine ⟨s1.heap.objs.size, [s1.heap.objs.size], _, _, H1, rfl, I1.kept (t' := s1.toks) fun b o e => Heap.get?_push_of_some _ e, turn_tuple a _, ⟨_, Heap.get?_push_size _ rfl, rfl, rfl⟩, fun b hb => ?_, q⟩
    have e : b = s1.heap.objs.size := by simpa using hb
    subst e
    exact I1.fpOk (Nat.le_refl _) (I1.hok.fresh (Nat.le_refl _))
  · subst e
    exact it_str I1 r1 q
  · subst e
    cases r1
    rcases q with ⟨hd, q⟩ | ⟨o, hd, q⟩
    · exact it_dict I1 hd q
    · exact it_dictF I1 hd q
end
noncomputable def Fnd (P : Program) (w : World) (K : PySem.W.Frag) (mg : Str → Option Value) (base : Heap) (k : Nat) (x : Str) (ps : List Str) (sp : Sp) : Prop :=
  ∃ f fd, FnOk P w K mg base CX0 k f fd ps sp ∧ mg x = some (.ref f) ∧ PySem.W.keepIn K (.ref f) = true ∧ Binds K fd ps []
section
variable {X : Cx} {k : Nat} {x : Str} {ps : List Str} {sp : Sp} {e : Expr} {es : List Expr} {t : TA} {p pos : Pos}
theorem pe_fn (F : Fnd X.prog X.w X.K X.mg X.base k x ps sp) (hr : Room k X.A) (hg : Gl X x) (ha : PA X (e :: es) t) (hdb : (x == ("__debug__" : Str)) = false := by decide)
    (he : starEach (e :: es) X.env = (false, eval e X.env) :: starEach es X.env := by with_unfolding_all rfl) (hpl : (backTo pos (starEach es X.env)).any (·.1) = false := by with_unfolding_all rfl) : PE X (.Call (.Name x p) (e :: es) [] pos) (tCall sp [] E0 t) := by
  obtain ⟨f, fd, h1, h2, h3, h4⟩ := F
  exact pe_call h1 hr hg h2 h3 h4 .nil pass0 ha hdb he hpl
end
noncomputable def ExtBut (d : Addr) (H H' : Hp) : Prop := ∀ b o, b ≠ d → H b = some o → H' b = some o
theorem Same.lk {H H' : Hp} {a : Addr} {o : HO} (e : Same H H') (h : H a = some o) : H' a = some o := e a o h
theorem ExtBut.lk {d : Addr} {H H' : Hp} {a : Addr} {o : HO} (e : ExtBut d H H') (h : H a = some o) (n : a ≠ d) : H' a = some o := e a o n h
theorem Same.upd {H : Hp} {p : Addr} {o : HO} (h : H p = none) : Same H (upd H p o) := fun b u e => by rw [upd_ne (ne_of_none e h)]; exact e
theorem ExtBut.upd {H : Hp} {p : Addr} {o : HO} : ExtBut p H (upd H p o) := fun b u n e => by rw [upd_ne n]; exact e
theorem ExtBut.trans {d : Addr} {H H1 H2 : Hp} (a : ExtBut d H H1) (b : ExtBut d H1 H2) : ExtBut d H H2 := fun c o n h => b c o n (a c o n h)
theorem ExtBut.same {d : Addr} {H H1 H2 : Hp} (a : ExtBut d H H1) (b : Same H1 H2) : ExtBut d H H2 := fun c o n h => b c o (a c o n h)
theorem ExtBut.after {d : Addr} {H H1 H2 : Hp} (a : Same H H1) (b : ExtBut d H1 H2) : ExtBut d H H2 := fun c o n h => b c o n (a c o h)
theorem ExtBut.refl {d : Addr} {H : Hp} : ExtBut d H H := fun _ _ _ h => h
noncomputable def rNewT (xs : List V) (H : Hp) (Q : VK) : Prop := xs.length ≤ sizeLine ∧ ∀ p, H p = none → Q (.ref p) (upd H p (.tup xs))
noncomputable def rNewL (xs : List V) (H : Hp) (Q : VK) : Prop := xs.length ≤ sizeLine ∧ ∀ p, H p = none → Q (.ref p) (upd H p (.lst xs))
noncomputable def rRng1 (vs : List V) (H : Hp) (R : It → Hp → Prop) : Prop := ∃ j : Int, vs = [.int j] ∧ -(2 ^ 62) ≤ j ∧ j < 2 ^ 62 ∧ R (Itr 0 j.toNat) H
noncomputable def rRng2 (vs : List V) (H : Hp) (R : It → Hp → Prop) : Prop := ∃ i j : Int, vs = [.int i, .int j] ∧ (-(2 ^ 62) ≤ i ∧ i < 2 ^ 62 ∧ -(2 ^ 62) ≤ j ∧ j < 2 ^ 62) ∧ R (Itr i (j - i).toNat) H
noncomputable def rFor (g : TG) (tb : TS) (D : Ends) (σ : St) (J : It) (H1 : Hp) : Prop := ∃ W : Nat → Nat → St → Hp → Prop, (∃ m, W 0 m σ H1) ∧ ∀ i m σ H, W i m σ H →
  (J.stop i H ∧ D.nx σ H) ∨ (J.go i H ∧ ∃ N : St → Hp → Prop, (∀ σ' H', N σ' H' → ∃ m', m' < m ∧ W (i + 1) m' σ' H') ∧ ∀ x H', J.yld i H x H' → g x σ H' fun σ2 H2 => tb { D with nx := N, ct := N, bk := D.nx } σ2 H2)
noncomputable def rComp (k : Nat) (js : List Nat) (g : TG) (tt : TT) (te : TE) (σ : St) (J : It) (H1 : Hp) (Q : VK) : Prop := ∀ p, H1 p = none →
  ∃ W : Nat → Nat → Hp → Prop, (∃ m, W 0 m (upd H1 p (.lst []))) ∧ ∀ i m H, W i m H →
    (J.stop i H ∧ Q (.ref p) H) ∨ (J.go i H ∧ ∃ N : Hp → Prop, (∀ H', N H' → ∃ m', m' < m ∧ W (i + 1) m' H') ∧
      ∀ x H', J.yld i H x H' → g x (List.replicate k none ++ pick σ js) H' fun σ2 H2 => tt σ2 H2 fun b H3 =>
        if b = true then te σ2 H3 fun y H4 => ∃ acc, H4 p = some (.lst acc) ∧ acc.length < sizeLine ∧ N (upd H4 p (.lst (acc ++ [y]))) else N H3)
noncomputable def rPairs (p : Addr) (ps : List (V × V)) (H : Hp) (Q : VK) : Prop := H p = some (.dK []) ∧ ∃ kvs : List (Key × V), ps = kvs.map (fun kv => (kV kv.1, kv.2)) ∧ kvs.length ≤ 15 ∧ Q (.ref p) (upd H p (.dK (mergeK [] kvs)))
section
variable {K : PySem.W.Frag} {σ : St} {H : Hp} {Q : VK} {D : Ends} {ta tb te : TE} {c : TT} {t u : TS} {x y v : V} {i j : Int}
theorem i_var {n : Nat} (h : σ[n]? = some (some v)) (k : Q v H) : tVar n σ H Q := ⟨v, h, k⟩
theorem i_c (k : Q v H) : tC v σ H Q := k
theorem i_next (k : D.nx σ H) : tNext D σ H := k
theorem i_ret (k : te σ H D.rt) : tRet te D σ H := k
theorem i_drop (k : te σ H fun _ H1 => D.nx σ H1) : tDrop te D σ H := k
theorem i_asg {g : TG} (k : te σ H fun x H1 => g x σ H1 D.nx) : tAsg te g D σ H := k
theorem i_gname {n : Nat} {R : St → Hp → Prop} (k : R (σ.set n (some v)) H) : gName n v σ H R := k
theorem i_if (k : c σ H fun b H1 => if b = true then t D σ H1 else u D σ H1) : tIfS c t u D σ H := k
theorem i_op {r : R2} (k : ta σ H fun x H1 => tb σ H1 fun y H2 => r x y H2 Q) : tOp r ta tb σ H Q := k
theorem i_un {r : V → Hp → VK → Prop} (k : ta σ H fun x H1 => r x H1 Q) : tUn r ta σ H Q := k
theorem i_rU {g : Int → V} (k : Q (g i) H) : rU g (.int i) H Q := ⟨i, rfl, k⟩
theorem i_rI0 {g : Int → Int → V} (k : Q (g i j) H) : rI0 g (.int i) (.int j) H Q := ⟨i, j, rfl, rfl, k⟩
theorem i_rI {C : Int → Int → Prop} {g : Int → Int → V} (h : C i j) (k : Q (g i j) H) : rI C g (.int i) (.int j) H Q := ⟨i, j, rfl, rfl, h, k⟩
theorem i_addI (k : Q (.int (i + j)) H) : rAddA K (.int i) (.int j) H Q := .inl ⟨i, j, rfl, rfl, k⟩
theorem i_addS {a b : Str} (h : a.length + b.length ≤ sizeLine) (k : Q (.str (a ++ b)) H) : rAddA K (.str a) (.str b) H Q := .inr (.inl ⟨a, b, rfl, rfl, h, k⟩)
theorem i_addL {a b : Addr} {xs ys : List V} (h1 : H a = some (.lst xs)) (h2 : H b = some (.lst ys)) (h : xs.length + ys.length ≤ sizeLine) (k : ∀ p H', H p = none → Same H H' → H' p = some (.lst (xs ++ ys)) → Q (.ref p) H') : rAddA K (.ref a) (.ref b) H Q :=
  .inr (.inr (.inl ⟨a, b, xs, ys, rfl, rfl, h1, h2, h, fun p hp => k p _ hp (Same.upd hp) upd_same⟩))
theorem i_mulI (h : CMul i j) (k : Q (.int (i * j)) H) : rMulA (.int i) (.int j) H Q := .inl ⟨i, j, rfl, rfl, h, k⟩
theorem i_mulL {a : Addr} {xs : List V} (h1 : H a = some (.lst xs)) (h2 : -(2 ^ 63) ≤ i ∧ i < 2 ^ 63) (h3 : xs.length * i.toNat ≤ sizeLine) (k : ∀ p H', H p = none → Same H H' → H' p = some (.lst (List.replicate i.toNat xs).flatten) → Q (.ref p) H') : rMulA (.ref a) (.int i) H Q :=
  .inr ⟨a, i, xs, rfl, rfl, h1, h2.1, h2.2, h3, fun p hp => k p _ hp (Same.upd hp) upd_same⟩
theorem i_eqS (h : scal x y = true) (k : Q (.bl (decide (x = y))) H) : rEqA K x y H Q := .inl ⟨h, k⟩
theorem i_neS (h : scal x y = true) (k : Q (.bl (!decide (x = y))) H) : rNeA K x y H Q := .inl ⟨h, k⟩
theorem i_eqD {dx dy : PyData} (h1 : Is K H dx x) (h2 : Is K H dy y) (h3 : SeqAt.shaped dx = true) (h4 : SeqAt.shaped dy = true) (k : Q (.bl (PyData.eqv dx dy)) H) : rEqA K x y H Q := .inr ⟨dx, dy, h1, h2, h3, h4, k⟩
theorem i_neD {dx dy : PyData} (h1 : Is K H dx x) (h2 : Is K H dy y) (h3 : SeqAt.shaped dx = true) (h4 : SeqAt.shaped dy = true) (k : Q (.bl (!PyData.eqv dx dy)) H) : rNeA K x y H Q := .inr ⟨dx, dy, h1, h2, h3, h4, k⟩
theorem i_true {R : Bool → Hp → Prop} (k : R true H) : tTrue σ H R := k
theorem i_tTest {R : Bool → Hp → Prop} (k : te σ H fun x H' => ∃ b, x = .bl b ∧ R b H') : tTest te σ H R := k
theorem i_tB {R : Bool → Hp → Prop} (k : te σ H fun x H' => ∃ b, x = .bl b ∧ R b H') : tB te σ H R := k
theorem i_bl {b : Bool} {R : Bool → Prop} (k : R b) : ∃ c, V.bl b = .bl c ∧ R c := ⟨b, rfl, k⟩
theorem i_not {R : Bool → Hp → Prop} (k : c σ H fun b H1 => R (!b) H1) : tNot c σ H R := k
theorem i_and {c' : TT} {R : Bool → Hp → Prop} (k : c σ H fun b H1 => if b = true then c' σ H1 R else R false H1) : tAnd c c' σ H R := k
theorem i_or {c' : TT} {R : Bool → Hp → Prop} (k : c σ H fun b H1 => if b = true then R true H1 else c' σ H1 R) : tOr c c' σ H R := k
theorem i_ixL {a : Addr} {xs : List V} (h : H a = some (.lst xs)) (e : atI xs i = some v) (k : Q v H) : rIxA K (.ref a) (.int i) H Q := .inl (.inl ⟨a, xs, i, v, rfl, rfl, SqL.of h, e, k⟩)
theorem i_ixS {z : Str} {s : Nat} (h : z.length ≤ sizeLine) (e : atI z.cps.toList i = some s) (k : Q (.str ⟨#[s]⟩) H) : rIxA K (.str z) (.int i) H Q := .inl (.inr (.inr ⟨z, i, s, rfl, rfl, h, e, k⟩))
theorem i_ixD {a : Addr} {kvs : List (Key × V)} {z : Str} (h : H a = some (.dK kvs)) (e : valV kvs (Sum.inr z : Key) = some v) (k : Q v H) : rIxA K (.ref a) (.str z) H Q := .inr ⟨a, v, rfl, by rw [← e]; exact DGet.k (k := Sum.inr z) h, k⟩
theorem i_lenL {a : Addr} {xs : List V} (h : H a = some (.lst xs)) (k : Q (.int xs.length) H) : rLenA K [.ref a] H Q := .inl ⟨.ref a, _, rfl, .inl ⟨xs, SqL.of h, rfl⟩, k⟩
theorem i_lenS {z : Str} (h : z.length ≤ sizeLine) (k : Q (.int z.length) H) : rLenA K [.str z] H Q := .inl ⟨.str z, _, rfl, ⟨h, rfl⟩, k⟩
theorem i_isi {c : String} {t : Value} {b : Bool} (h : TyOf K H x t) (e : PySem.W.kitOne K t (.type c) = some b) (k : Q (.bl b) H) : rIsinst K [x, .ty c] H Q := .inl ⟨x, c, t, b, rfl, h, e, k⟩
theorem i_isiT {c : String} {b : Bool} {a : Addr} {ys : List V} (h : SqT K H a ys) (e : PySem.W.kitOne K (.type "tuple") (.type c) = some b) (k : Q (.bl b) H) : rIsinst K [.ref a, .ty c] H Q := .inr (.inr ⟨a, ys, c, b, rfl, .inl ⟨h, e⟩, k⟩)
theorem i_isiL {c : String} {b : Bool} {a : Addr} {ys : List V} (h : SqL K H a ys) (e : PySem.W.kitOne K (.type "list") (.type c) = some b) (k : Q (.bl b) H) : rIsinst K [.ref a, .ty c] H Q := .inr (.inr ⟨a, ys, c, b, rfl, .inr ⟨h, e⟩, k⟩)
theorem i_listL {a : Addr} {xs : List V} (h : SqL K H a xs) (k : ∀ p H', H p = none → Same H H' → H' p = some (.lst xs) → Q (.ref p) H') : rListA K [.ref a] H Q := ⟨a, xs, rfl, .inl h, fun p hp => k p _ hp (Same.upd hp) upd_same⟩
theorem i_tupleL {a : Addr} {xs : List V} (h : SqL K H a xs) (k : ∀ p H', H p = none → Same H H' → H' p = some (.tup xs) → Q (.ref p) H') : rTupleA K [.ref a] H Q := ⟨a, xs, rfl, .inl ⟨h, fun p hp => k p _ hp (Same.upd hp) upd_same⟩⟩
theorem i_intB {b : Bool} (k : Q (.int (if b then 1 else 0)) H) : rIntA [.bl b] H Q := .inr ⟨b, rfl, k⟩
theorem i_all {a : Addr} {bs : List Bool} (h : SqL K H a (bs.map V.bl)) (k : Q (.bl (bs.all id)) H) : rAllA K [.ref a] H Q := ⟨a, bs, rfl, h, k⟩
theorem i_min {a : Addr} {ns : List Int} (h : SqL K H a (ns.map V.int)) (hn : ns ≠ []) (k : ∀ M, M ∈ ns → (∀ k ∈ ns, M ≤ k) → Q (.int M) H) : rMinA K [.ref a] H Q := ⟨a, ns, rfl, h, hn, k⟩
theorem i_sl {r : V → Option Int → Option Int → Hp → VK → Prop} {tl th : TO} (k : te σ H fun x H1 => tl σ H1 fun l H2 => th σ H2 fun u H3 => r x l u H3 Q) : tSl r te tl th σ H Q := k
theorem i_noPart {R : Option Int → Hp → Prop} (k : R none H) : tNoPart σ H R := k
theorem i_part {R : Option Int → Hp → Prop} (k : te σ H fun x H1 => ∃ i, x = .int i ∧ R (some i) H1) : tPart te σ H R := k
theorem i_int {R : Int → Prop} (k : R i) : ∃ j, V.int i = .int j ∧ R j := ⟨i, rfl, k⟩
theorem i_slS {z : Str} {lo hi : Option Int} (h : z.length ≤ sizeLine) (k : Q (.str (Txt.slice z lo hi)) H) : rSlA K (.str z) lo hi H Q := .inr (.inr (.inl ⟨z, rfl, h, k⟩))
theorem i_slL {a : Addr} {xs : List V} {lo hi : Option Int} (h : SqL K H a xs) (k : ∀ p H', H p = none → Same H H' → H' p = some (.lst (cutV xs lo hi)) → Q (.ref p) H') : rSlA K (.ref a) lo hi H Q := .inl ⟨a, xs, rfl, h, fun p hp => k p _ hp (Same.upd hp) upd_same⟩
theorem i_inS {a b : Str} (k : Q (.bl (!(Builtin.Str.occurrences b a 0 b.length 1).isEmpty)) H) : rInA K false (.str a) (.str b) H Q := .inr (.inl ⟨a, b, rfl, rfl, k⟩)
theorem i_bm {T : String} {r : V → List V → Hp → VK → Prop} {ts : TA} (k : te σ H fun x H1 => tyV K T x H1 ∧ ts σ H1 fun xs H2 => r x xs H2 Q) : tBM K T r te ts σ H Q := k
theorem i_tyS {z : Str} {B : Prop} (k : B) : tyV K "str" (.str z) H ∧ B := ⟨rfl, k⟩
theorem i_find {z y : Str} (k : Q (.int (Txt.find z y)) H) : rFind (.str z) [.str y] H Q := ⟨z, y, rfl, rfl, k⟩
theorem i_join {z : Str} {a : Addr} {ys : List Str} (h : SqL K H a (ys.map V.str)) (hz : (ys.map (·.length)).sum + ys.length * z.length ≤ 16777216) (k : Q (.str (Txt.join z ys)) H) : rJoin K (.str z) [.ref a] H Q := ⟨z, a, ys, rfl, rfl, h, hz, k⟩
theorem i_call {sp : Sp} {E : XK} {ts : TA} (k : ts σ H fun vs H1 => sp (vs ++ []) H1 Q E) : tCall sp [] E ts σ H Q := k
theorem i_cb {r : List V → Hp → VK → Prop} {ts : TA} (k : ts σ H fun vs H1 => r vs H1 Q) : tCB r ts σ H Q := k
theorem i_cons {tr : TA} {R : List V → Hp → Prop} (k : ta σ H fun x H1 => tr σ H1 fun xs H2 => R (x :: xs) H2) : tCons ta tr σ H R := k
theorem i_nil {R : List V → Hp → Prop} (k : R [] H) : tNil σ H R := k
theorem i_tup {ts : TA} (k : ts σ H fun xs H1 => rNewT xs H1 Q) : tTup ts σ H Q := k
theorem i_lst {ts : TA} (k : ts σ H fun xs H1 => rNewL xs H1 Q) : tLst ts σ H Q := k
theorem i_newT {xs : List V} (h : xs.length ≤ sizeLine) (k : ∀ p H', H p = none → Same H H' → H' p = some (.tup xs) → Q (.ref p) H') : rNewT xs H Q := ⟨h, fun p hp => k p _ hp (Same.upd hp) upd_same⟩
theorem i_newL {xs : List V} (h : xs.length ≤ sizeLine) (k : ∀ p H', H p = none → Same H H' → H' p = some (.lst xs) → Q (.ref p) H') : rNewL xs H Q := ⟨h, fun p hp => k p _ hp (Same.upd hp) upd_same⟩
theorem i_put {td ty tv : TE} (k : tv σ H fun v H1 => td σ H1 fun x H2 => ty σ H2 fun y H3 => ∃ a H4, x = .ref a ∧ DPut H3 a y v H4 ∧ D.nx σ H4) : sDPut td ty tv D σ H := k
theorem i_dput {a : Addr} {kvs : List (Key × V)} {z : Str} {R : Hp → Prop} (h : H a = some (.dK kvs)) (hl : kvs.length < 1000) (k : ∀ H', ExtBut a H H' → H' a = some (.dK (putK kvs (Sum.inr z) v)) → R H') : ∃ b H4, V.ref a = .ref b ∧ DPut H b (.str z) v H4 ∧ R H4 :=
  ⟨a, _, rfl, DPut.k (k := Sum.inr z) h (small1000 (Nat.le_of_lt hl)), k _ ExtBut.upd upd_same⟩
theorem i_for {wi : TI} {g : TG} {tb : TS} (k : wi σ H fun J H1 => rFor g tb D σ J H1) : tFor wi g tb D σ H := k
theorem i_comp {m : Nat} {js : List Nat} {wi : TI} {g : TG} {tt : TT} (k : wi σ H fun J H1 => rComp m js g tt te σ J H1 Q) : tComp m js wi g tt te σ H Q := k
theorem i_itS {z : Str} {R : It → Hp → Prop} (k : R (Its z) H) : rAnyIt K (.str z) H R := .inr (.inr (.inl ⟨z, rfl, k⟩))
theorem i_itL {a : Addr} {xs : List V} {R : It → Hp → Prop} (h : SqL K H a xs) (k : R (Itl K a) H) : rAnyIt K (.ref a) H R := .inl ⟨a, rfl, ⟨xs, h⟩, k⟩
theorem i_itT {a : Addr} {xs : List V} {R : It → Hp → Prop} (h : SqT K H a xs) (k : R (Itt K a) H) : rAnyIt K (.ref a) H R := .inr (.inl ⟨a, rfl, ⟨xs, h⟩, k⟩)
theorem i_rng1 {ts : TA} {R : It → Hp → Prop} (k : ts σ H fun vs H1 => rRng1 vs H1 R) : iRng1 ts σ H R := k
theorem i_rngv {R : It → Hp → Prop} (h : -(2 ^ 62) ≤ i ∧ i < 2 ^ 62) (k : R (Itr 0 i.toNat) H) : rRng1 [V.int i] H R := ⟨i, rfl, h.1, h.2, k⟩
theorem i_rng2 {ts : TA} {R : It → Hp → Prop} (k : ts σ H fun vs H1 => rRng2 vs H1 R) : iRng2 ts σ H R := k
theorem i_rngw {R : It → Hp → Prop} (h : (-(2 ^ 62) ≤ i ∧ i < 2 ^ 62) ∧ -(2 ^ 62) ≤ j ∧ j < 2 ^ 62) (k : R (Itr i (j - i).toNat) H) : rRng2 [V.int i, V.int j] H R := ⟨i, j, rfl, ⟨h.1.1, h.1.2, h.2.1, h.2.2⟩, k⟩
theorem i_iany {R : It → Hp → Prop} (k : te σ H fun x H1 => rAnyIt K x H1 R) : iAny K te σ H R := k
theorem i_disp {trs : List (TE × TE)} (k : ∀ p H1, H p = none → Same H H1 → H1 p = some (.dK []) → tPairs trs σ H1 fun ps H2 => rPairs p ps H2 Q) : tDisp trs σ H Q := fun p hp => k p _ hp (Same.upd hp) upd_same
theorem i_pair {tk tv : TE} {r : List (TE × TE)} {R : List (V × V) → Hp → Prop} (k : tk σ H fun x H1 => tv σ H1 fun y H2 => tPairs r σ H2 fun ps H3 => R ((x, y) :: ps) H3) : tPairs ((tk, tv) :: r) σ H R := k
theorem i_pairs {p : Addr} {ps : List (V × V)} (kvs : List (Key × V)) (h : H p = some (.dK [])) (e : ps = kvs.map (fun kv => (kV kv.1, kv.2))) (hl : kvs.length ≤ 15) (k : ∀ H', ExtBut p H H' → H' p = some (.dK (mergeK [] kvs)) → Q (.ref p) H') : rPairs p ps H Q := ⟨h, kvs, e, hl, k _ ExtBut.upd upd_same⟩
theorem i_pair0 {R : List (V × V) → Hp → Prop} (k : R [] H) : tPairs [] σ H R := k
end
end L2
set_option Elab.async false
set_option linter.all false
set_option maxRecDepth 100000
set_option maxHeartbeats 4000000
namespace L2
open PySem PySem.Spec PyProof.Rows
theorem iteD {c A B : Prop} [Decidable c] (h1 : c → A) (h2 : ¬ c → B) : if decide c = true then A else B := by
  by_cases h : c
  · rw [if_pos (decide_eq_true h)]; exact h1 h
  · rw [if_neg (by rw [decide_eq_false h]; exact Bool.false_ne_true)]; exact h2 h
theorem iteND {c A B : Prop} [Decidable c] (h1 : ¬ c → A) (h2 : c → B) : if (!decide c) = true then A else B := by
  by_cases h : c
  · rw [decide_eq_true h, if_neg (by decide)]; exact h2 h
  · rw [decide_eq_false h, if_pos (by decide)]; exact h1 h
theorem iteB {b : Bool} {A B : Prop} (h1 : b = true → A) (h2 : b = false → B) : if b = true then A else B := by
  cases b
  · rw [if_neg Bool.false_ne_true]; exact h2 rfl
  · rw [if_pos rfl]; exact h1 rfl
theorem iteNT {A B : Prop} (h : B) : if (!true) = true then A else B := h
theorem iteNF {A B : Prop} (h : A) : if (!false) = true then A else B := h
theorem line_of {n : Nat} (h : n ≤ 1000000) : n ≤ sizeLine := by rw [sizeLine_eq]; omega
noncomputable def WalkOf (J : It) (xs : List V) (G : Hp → Prop) : Prop :=
  ∀ i H, G H → (i < xs.length → J.go i H) ∧ (xs.length ≤ i → J.stop i H) ∧ ∀ x H', i < xs.length → J.yld i H x H' → H' = H ∧ xs[i]? = some x
theorem walk_str (z : Str) : WalkOf (Its z) (z.cps.toList.map fun c => .str ⟨#[c]⟩) fun _ => True := by
  intro i H _
  refine ⟨fun h => ?_, fun h => ?_, fun x H' _ h => ?_⟩
  · show i < z.cps.size
    simpa using h
  · show z.cps.size ≤ i
    simpa using h
  · obtain ⟨e, c, hc, rfl⟩ := h
    refine ⟨e, ?_⟩
    rw [List.getElem?_map, Array.getElem?_toList, hc]
    rfl
theorem walk_list {K : PySem.W.Frag} {a : Addr} {xs : List V} : WalkOf (Itl K a) xs fun H => SqL K H a xs := by
  intro i H g
  refine ⟨fun h => ⟨xs, xs[i], g, List.getElem?_eq_getElem h⟩, fun h => ⟨xs, g, h⟩, fun x H' _ h => ⟨h.1, h.2 xs g⟩⟩
theorem walk_tup {K : PySem.W.Frag} {a : Addr} {xs : List V} : WalkOf (Itt K a) xs fun H => SqT K H a xs := by
  intro i H g
  refine ⟨fun h => ⟨xs, xs[i], g, List.getElem?_eq_getElem h⟩, fun h => ⟨xs, g, h⟩, fun x H' _ h => ⟨h.1, h.2 xs g⟩⟩
theorem walk_range {lo : Int} {n : Nat} : WalkOf (Itr lo n) ((List.range n).map fun (i : Nat) => V.int (lo + (i : Int))) fun _ => True := by
  intro i H _
  refine ⟨fun h => ?_, fun h => ?_, fun x H' hi h => ?_⟩
  · show i < n
    simpa using h
  · show n ≤ i
    simpa using h
  · obtain ⟨e, hx⟩ := h
    refine ⟨e, ?_⟩
    have hi' : i < n := by simpa using hi
    rw [List.getElem?_map, List.getElem?_range hi', hx]
    rfl
theorem for_walk {J : It} {xs : List V} {G : Hp → Prop} {g : TG} {tb : TS} {D : Ends} {σ : St} {H : Hp} (hw : WalkOf J xs G) (Pv : Nat → St → Hp → Prop) (h0 : Pv 0 σ H) (hG : ∀ i σ H, Pv i σ H → G H)
    (hs : ∀ i x σ H, xs[i]? = some x → Pv i σ H → g x σ H fun σ2 H2 => tb { D with nx := Pv (i + 1), ct := Pv (i + 1), bk := D.nx } σ2 H2) (hd : ∀ σ H, Pv xs.length σ H → D.nx σ H) :
    ∃ W : Nat → Nat → St → Hp → Prop, (∃ m, W 0 m σ H) ∧ ∀ i m σ H, W i m σ H →
      (J.stop i H ∧ D.nx σ H) ∨ (J.go i H ∧ ∃ N : St → Hp → Prop, (∀ σ' H', N σ' H' → ∃ m', m' < m ∧ W (i + 1) m' σ' H') ∧ ∀ x H', J.yld i H x H' → g x σ H' fun σ2 H2 => tb { D with nx := N, ct := N, bk := D.nx } σ2 H2) := by
  refine ⟨fun i m σ H => m = xs.length - i ∧ i ≤ xs.length ∧ Pv i σ H, ⟨xs.length, by simp, Nat.zero_le _, h0⟩, ?_⟩
  rintro i m σ H ⟨rfl, hi, p⟩
  obtain ⟨w1, w2, w3⟩ := hw i H (hG i σ H p)
  by_cases hlt : i < xs.length
  · refine .inr ⟨w1 hlt, Pv (i + 1), fun σ' H' p' => ⟨xs.length - (i + 1), by omega, rfl, hlt, p'⟩, fun x H' y => ?_⟩
    obtain ⟨e, hx⟩ := w3 x H' hlt y
    subst e
    exact hs i x σ _ hx p
  · have e : i = xs.length := by omega
    subst e
    exact .inl ⟨w2 (Nat.le_refl _), hd σ H p⟩
noncomputable def CN (p : Addr) (n : Nat) (Pv : Nat → List V → Hp → Prop) (i : Nat) : Hp → Prop := fun H' => i + 1 ≤ n ∧ ∃ acc, H' p = some (.lst acc) ∧ acc.length ≤ i + 1 ∧ Pv (i + 1) acc H'
theorem cn_push {p : Addr} {n : Nat} {Pv : Nat → List V → Hp → Prop} {i : Nat} {H : Hp} {acc : List V} {y : V} (hn : n ≤ 1000000) (hi : i < n) (hl : acc.length ≤ i) (e : H p = some (.lst acc)) (k : ∀ H', ExtBut p H H' → H' p = some (.lst (acc ++ [y])) → Pv (i + 1) (acc ++ [y]) H') :
    ∃ acc, H p = some (.lst acc) ∧ acc.length < sizeLine ∧ CN p n Pv i (upd H p (.lst (acc ++ [y]))) :=
  ⟨acc, e, by rw [sizeLine_eq]; omega, hi, acc ++ [y], upd_same, by rw [List.length_append, List.length_singleton]; omega, k _ ExtBut.upd upd_same⟩
theorem cn_skip {p : Addr} {n : Nat} {Pv : Nat → List V → Hp → Prop} {i : Nat} {H : Hp} {acc : List V} (hi : i < n) (hl : acc.length ≤ i) (e : H p = some (.lst acc)) (k : Pv (i + 1) acc H) : CN p n Pv i H := ⟨hi, acc, e, by omega, k⟩
theorem comp_walk {J : It} {xs : List V} {G : Hp → Prop} {g : TG} {tt : TT} {te : TE} {σ : St} {H : Hp} {Q : VK} {p : Addr} {k : Nat} {js : List Nat} (hw : WalkOf J xs G) (hp : H p = none) (Pv : Nat → List V → Hp → Prop)
    (h0 : ∀ H', Same H H' → H' p = some (.lst []) → Pv 0 [] H') (hG : ∀ i acc H, Pv i acc H → G H)
    (hs : ∀ i x acc H, xs[i]? = some x → i < xs.length → acc.length ≤ i → H p = some (.lst acc) → Pv i acc H → g x (List.replicate k none ++ pick σ js) H fun σ2 H2 => tt σ2 H2 fun b H3 =>
      if b = true then te σ2 H3 fun y H4 => ∃ acc, H4 p = some (.lst acc) ∧ acc.length < sizeLine ∧ CN p xs.length Pv i (upd H4 p (.lst (acc ++ [y]))) else CN p xs.length Pv i H3)
    (hd : ∀ acc H, H p = some (.lst acc) → acc.length ≤ xs.length → Pv xs.length acc H → Q (.ref p) H) :
    ∃ W : Nat → Nat → Hp → Prop, (∃ m, W 0 m (upd H p (.lst []))) ∧ ∀ i m H, W i m H →
      (J.stop i H ∧ Q (.ref p) H) ∨ (J.go i H ∧ ∃ N : Hp → Prop, (∀ H', N H' → ∃ m', m' < m ∧ W (i + 1) m' H') ∧
        ∀ x H', J.yld i H x H' → g x (List.replicate k none ++ pick σ js) H' fun σ2 H2 => tt σ2 H2 fun b H3 =>
          if b = true then te σ2 H3 fun y H4 => ∃ acc, H4 p = some (.lst acc) ∧ acc.length < sizeLine ∧ N (upd H4 p (.lst (acc ++ [y]))) else N H3) := by
  refine ⟨fun i m H => m = xs.length - i ∧ i ≤ xs.length ∧ ∃ acc, H p = some (.lst acc) ∧ acc.length ≤ i ∧ Pv i acc H, ⟨xs.length, by simp, Nat.zero_le _, [], upd_same, Nat.le_refl _, h0 _ (Same.upd hp) upd_same⟩, ?_⟩
  rintro i m H ⟨rfl, hi, acc, hacc, hl, q⟩
  obtain ⟨w1, w2, w3⟩ := hw i H (hG i acc H q)
  by_cases hlt : i < xs.length
  · refine .inr ⟨w1 hlt, CN p xs.length Pv i, fun H' ⟨h1, h2⟩ => ⟨xs.length - (i + 1), by omega, rfl, h1, h2⟩, fun x H' y => ?_⟩
    obtain ⟨e, hx⟩ := w3 x H' hlt y
    subst e
    exact hs i x acc _ hx hlt hl hacc q
  · have e : i = xs.length := by omega
    subst e
    exact .inl ⟨w2 (Nat.le_refl _), hd acc H hacc hl q⟩
noncomputable def rPush (p : Addr) (N : Hp → Prop) : VK := fun y H4 => ∃ acc, H4 p = some (.lst acc) ∧ acc.length < sizeLine ∧ N (upd H4 p (.lst (acc ++ [y])))
theorem comp_by {J : It} {xs : List V} {G : Hp → Prop} {g : TG} {tt : TT} {te : TE} {σ : St} {H : Hp} {Q : VK} {k : Nat} {js : List Nat} (hw : WalkOf J xs G) (Pv : Addr → Nat → List V → Hp → Prop)
    (h0 : ∀ p H', H p = none → Same H H' → H' p = some (.lst []) → Pv p 0 [] H') (hG : ∀ p i acc H, Pv p i acc H → G H)
    (hs : ∀ p i x acc H1, H p = none → xs[i]? = some x → i < xs.length → acc.length ≤ i → H1 p = some (.lst acc) → Pv p i acc H1 → g x (List.replicate k none ++ pick σ js) H1 fun σ2 H2 => tt σ2 H2 fun b H3 =>
      if b = true then te σ2 H3 (rPush p (CN p xs.length (Pv p) i)) else CN p xs.length (Pv p) i H3)
    (hd : ∀ p acc H1, H p = none → H1 p = some (.lst acc) → acc.length ≤ xs.length → Pv p xs.length acc H1 → Q (.ref p) H1) : rComp k js g tt te σ J H Q := fun p hp =>
  comp_walk hw hp (Pv p) (fun H' e h => h0 p H' hp e h) (hG p) (fun i x acc H1 h1 h2 h3 h4 h5 => hs p i x acc H1 hp h1 h2 h3 h4 h5) fun acc H1 h1 h2 h3 => hd p acc H1 hp h1 h2 h3
theorem push_i {p : Addr} {n : Nat} {Pv : Nat → List V → Hp → Prop} {i : Nat} {H : Hp} {acc : List V} {y : V} (hn : n ≤ 1000000) (hi : i < n) (hl : acc.length ≤ i) (e : H p = some (.lst acc)) (k : ∀ H', ExtBut p H H' → H' p = some (.lst (acc ++ [y])) → Pv (i + 1) (acc ++ [y]) H') :
    rPush p (CN p n Pv i) y H := cn_push hn hi hl e k
theorem comp_pure {J : It} {xs : List V} {G : Hp → Prop} {g : TG} {tt : TT} {te : TE} {σ : St} {H : Hp} {Q : VK} {k : Nat} {js : List Nat} (hw : WalkOf J xs G) (t : V → Bool) (f : V → V) (hz : xs.length ≤ 1000000) (hG : ∀ H', Same H H' → G H')
    (hs : ∀ (i : Nat) x H1 (R : VK) (R' : Hp → Prop), xs[i]? = some x → Same H H1 → (t x = true → R (f x) H1) → (t x = false → R' H1) → g x (List.replicate k none ++ pick σ js) H1 fun σ2 H2 => tt σ2 H2 fun b H3 => if b = true then te σ2 H3 R else R' H3)
    (hd : ∀ p H', H p = none → Same H H' → H' p = some (.lst ((xs.filter t).map f)) → Q (.ref p) H') : rComp k js g tt te σ J H Q := by
  refine comp_by hw (fun p i acc H1 => Same H H1 ∧ acc = ((xs.take i).filter t).map f) (fun p H' hp e h => ⟨e, by simp⟩) (fun p i acc H1 h => hG H1 h.1) (fun p i x acc H1 hp hx hi hl ha ⟨e, hacc⟩ => ?_) fun p acc H1 hp ha hl ⟨e, hacc⟩ => ?_
  · have ht : xs.take (i + 1) = xs.take i ++ [x] := by rw [List.take_add_one, hx]; rfl
    refine hs i x H1 _ _ hx e (fun h => ?_) fun h => ?_
    · refine push_i hz hi hl ha fun H' e' h' => ⟨fun b o hb => e' b o (ne_of_none hb hp) (e b o hb), ?_⟩
      rw [ht, List.filter_append, List.map_append, hacc]
      simp [h]
    · refine cn_skip hi hl ha ⟨e, ?_⟩
      rw [ht, List.filter_append, List.map_append, hacc]
      simp [h]
  · refine hd p H1 hp e ?_
    rw [ha, hacc, List.take_length]
theorem sign_of {z : Str} {i : Nat} {v : V} (h : (z.cps.toList.map fun c => V.str ⟨#[c]⟩)[i]? = some v) : ∃ c, v = .str ⟨#[c]⟩ ∧ c ∈ z.cps.toList := by
  rw [List.getElem?_map] at h
  cases e : z.cps.toList[i]? with
  | none => rw [e] at h; cases h
  | some c => rw [e] at h; cases h; exact ⟨c, rfl, List.mem_of_getElem? e⟩
theorem filter_true {α : Type} (xs : List α) : xs.filter (fun _ => true) = xs := by simp
theorem comp_map {J : It} {xs : List V} {G : Hp → Prop} {g : TG} {te : TE} {σ : St} {H : Hp} {Q : VK} {k : Nat} {js : List Nat} (hw : WalkOf J xs G) (f : V → V) (hz : xs.length ≤ 1000000) (hG : ∀ H', Same H H' → G H')
    (hs : ∀ (i : Nat) x H1 (R : VK), xs[i]? = some x → Same H H1 → R (f x) H1 → g x (List.replicate k none ++ pick σ js) H1 fun σ2 H2 => te σ2 H2 R)
    (hd : ∀ p H', H p = none → Same H H' → H' p = some (.lst (xs.map f)) → Q (.ref p) H') : rComp k js g tTrue te σ J H Q :=
  comp_pure hw (fun _ => true) f hz hG (fun i x H1 R R' hx e h _ => by
    have := hs i x H1 R hx e (h rfl)
    show g x _ H1 fun σ2 H2 => if true = true then te σ2 H2 R else R' H2
    simpa using this) fun p H' hp e h => hd p H' hp e (by rw [h, filter_true])
theorem for_by {J : It} {xs : List V} {G : Hp → Prop} {g : TG} {tb : TS} {D : Ends} {σ : St} {H : Hp} (hw : WalkOf J xs G) (Pv : Nat → St → Hp → Prop) (h0 : Pv 0 σ H) (hG : ∀ i σ H, Pv i σ H → G H)
    (hs : ∀ i x σ H, xs[i]? = some x → i < xs.length → Pv i σ H → g x σ H fun σ2 H2 => tb { D with nx := Pv (i + 1), ct := Pv (i + 1), bk := D.nx } σ2 H2) (hd : ∀ σ H, Pv xs.length σ H → D.nx σ H) : rFor g tb D σ J H :=
  for_walk hw Pv h0 hG (fun i x σ H hx => hs i x σ H hx (List.getElem?_eq_some_iff.mp hx).1) hd
section
variable {X : Cx} {K : PySem.W.Frag}
theorem op_addK (hK : X.K = K := by with_unfolding_all rfl) : OpR X (binaryOp .Add) (rAddA K) := hK ▸ op_addA
theorem op_eqK (hq : QA X.A) (hK : X.K = K := by with_unfolding_all rfl) : OpR X (compareOp .Eq) (rEqA K) := hK ▸ op_eqA hq
theorem op_neK (hq : QA X.A) (hK : X.K = K := by with_unfolding_all rfl) : OpR X (compareOp .NotEq) (rNeA K) := hK ▸ op_neA hq
theorem op_inK (hq : QA X.A) (hK : X.K = K := by with_unfolding_all rfl) : OpR X (compareOp .In) (rInA K false) := hK ▸ op_inA hq
theorem op_notInK (hq : QA X.A) (hK : X.K = K := by with_unfolding_all rfl) : OpR X (compareOp .NotIn) (rInA K true) := hK ▸ op_notInA hq
theorem ix_anyK (hu : X.A.units + 1 < cLine) (hK : X.K = K := by with_unfolding_all rfl) : IxR X (rIxA K) := hK ▸ ix_any hu
theorem sl_K (hK : X.K = K := by with_unfolding_all rfl) : SlR X (rSlA K) := hK ▸ sl_A
theorem call_lenK (hK : X.K = K := by with_unfolding_all rfl) : CallR X (.builtin "len") (rLenA K) := hK ▸ call_lenA
theorem call_isinstK (hK : X.K = K := by with_unfolding_all rfl) : CallR X (.builtin "isinstance") (rIsinst K) := hK ▸ call_isinstA
theorem call_listK (hK : X.K = K := by with_unfolding_all rfl) : CallR X (.type "list") (rListA K) := hK ▸ call_listA
theorem call_tupleK (hK : X.K = K := by with_unfolding_all rfl) : CallR X (.type "tuple") (rTupleA K) := hK ▸ call_tupleA
theorem call_allK (hc : X.calm = true) (hK : X.K = K := by with_unfolding_all rfl) : CallR X (.builtin "all") (rAllA K) := hK ▸ call_allA hc
theorem call_minK (hc : X.calm = true) (hK : X.K = K := by with_unfolding_all rfl) : CallR X (.builtin "min") (rMinA K) := hK ▸ call_minA hc
theorem mt_joinK (hK : X.K = K := by with_unfolding_all rfl) : MtR X "str.join" (rJoin K) := hK ▸ mt_join
theorem pi_anyK {tg : Expr} (hu : X.A.units + 1 < cLine) {l : Expr} {tl : TE} (hl : PE X l tl) (hK : X.K = K := by with_unfolding_all rfl) : PI X tg l (iAny K tl) := hK ▸ pi_any hu hl
theorem pg_tupK {es : List Expr} {k : Nat} {t : TGs} {n : Nat} {pos : Pos} (hc : X.calm = true) (h : PGs X es t) (hK : X.K = K := by with_unfolding_all rfl)
    (hn : (assignEach es X.env).length = n := by with_unfolding_all rfl) (hst : (assignEach es X.env).findIdx? (·.1) = none := by with_unfolding_all rfl) : PG X (.Tuple es k pos) (gTup K n t) := hK ▸ pg_tup hc h hn hst
variable {o e : Expr} {es : List Expr} {to : TE} {t : TA} {name : Str} {apos cpos : Pos} {T id : String} {r : V → List V → Hp → VK → Prop}
theorem pe_bmK (pa : PlainAttrs T) (slot : Slot T name id) (hty : typeOf (.builtin id) = pure (.type "method_descriptor")) (hm : MtR X id r) (ho : PE X o to) (ha : PA X (e :: es) t) (hK : X.K = K := by with_unfolding_all rfl)
    (hbase : attributeBase o name X.env (eval o X.env) = eval o X.env := by with_unfolding_all rfl)
    (hfew : ((backTo cpos (starEach (e :: es) X.env)).all (fun x => !x.1) && (backToKw cpos (keywordEach [] X.env)).all (fun x => x.1.isSome)
      && decide ((e :: es).length + ([] : List Keyword).length + (if ([] : List Keyword).isEmpty then 0 else 1) < 30)) = true := by with_unfolding_all rfl)
    (hline : (apos.endLine == cpos.line) = true := by with_unfolding_all rfl) (hs : starEach (e :: es) X.env = (false, eval e X.env) :: starEach es X.env := by with_unfolding_all rfl) (hplain : (backTo cpos (starEach es X.env)).any (·.1) = false := by with_unfolding_all rfl) :
    PE X (.Call (.Attribute o name apos) (e :: es) [] cpos) (tBM K T r to t) := hK ▸ pe_bm pa slot hty hm ho ha hbase hfew hline hs hplain
end
end L2
set_option Elab.async false
set_option linter.all false
set_option maxRecDepth 100000
set_option maxHeartbeats 4000000
namespace L2
open PySem PySem.Spec PyProof.Rows
noncomputable def Fz (H H' : Hp) : Prop := ∀ a xs, Rd H a (.tup xs) → Rd H' a (.tup xs)
theorem Fz.refl (H : Hp) : Fz H H := fun _ _ h => h
theorem Fz.trans {H H1 H2 : Hp} (a : Fz H H1) (b : Fz H1 H2) : Fz H H2 := fun c xs h => b c xs (a c xs h)
theorem Same.fz {H H' : Hp} (e : Same H H') : Fz H H' := fun a xs h => by
  rcases h with h | ⟨o, h⟩
  · exact .inl (e _ _ h)
  · exact .inr ⟨o, e _ _ h⟩
theorem fz_but {p : Addr} {H H' : Hp} (e : ExtBut p H H') (hp : ∀ xs, ¬ Rd H p (.tup xs)) : Fz H H' := fun a xs h => by
  have n : a ≠ p := fun q => hp xs (q ▸ h)
  rcases h with h | ⟨o, h⟩
  · exact .inl (e _ _ n h)
  · exact .inr ⟨o, e _ _ n h⟩
theorem ExtBut.fzL {p : Addr} {H H' : Hp} {l : List V} (e : ExtBut p H H') (hp : H p = some (.lst l)) : Fz H H' := fz_but e fun xs h => by
  rcases h with h | ⟨o, h⟩
  · rw [hp] at h; cases h
  · rw [hp] at h; cases h
theorem ExtBut.fzD {p : Addr} {H H' : Hp} {l : List (Key × V)} (e : ExtBut p H H') (hp : H p = some (.dK l)) : Fz H H' := fz_but e fun xs h => by
  rcases h with h | ⟨o, h⟩
  · rw [hp] at h; cases h
  · rw [hp] at h; cases h
theorem Fz.seq {K : PySem.W.Frag} {H H' : Hp} (e : Fz H H') {a : Addr} {xs : List V} (h : SqT K H a xs) : SqT K H' a xs := by
  rcases h with h | h
  · exact .inl (e _ _ h)
  · exact .inr h
mutual
def frz : PyData → Bool
  | .tuple ds => frzL ds
  | .list _ => false
  | .dict _ => false
  | _ => true
def frzL : List PyData → Bool
  | [] => true
  | d :: ds => frz d && frzL ds
end
mutual
theorem Is.fz {K : PySem.W.Frag} {H H' : Hp} (e : Fz H H') : ∀ (d : PyData) (v : V), frz d = true → Is K H d v → Is K H' d v
  | .none, _, _, h => by simp only [Is] at h ⊢; exact h
  | .bool _, _, _, h => by simp only [Is] at h ⊢; exact h
  | .int _, _, _, h => by simp only [Is] at h ⊢; exact h
  | .str _, _, _, h => by simp only [Is] at h ⊢; exact h
  | .list ds, v, hf, _ => by simp [frz] at hf
  | .tuple ds, v, hf, h => by
    simp only [Is] at h ⊢
    obtain ⟨a, xs, e1, e2, e3⟩ := h
    exact ⟨a, xs, e1, e.seq e2, IsL.fz e ds xs (by simpa only [frz] using hf) e3⟩
  | .dict _, _, _, h => by simp only [Is] at h
theorem IsL.fz {K : PySem.W.Frag} {H H' : Hp} (e : Fz H H') : ∀ (ds : List PyData) (vs : List V), frzL ds = true → IsL K H ds vs → IsL K H' ds vs
  | [], _, _, h => by simp only [IsL] at h ⊢; exact h
  | d :: ds, vs, hf, h => by
    simp only [IsL] at h ⊢
    simp only [frzL, Bool.and_eq_true] at hf
    obtain ⟨v, r, e1, e2, e3⟩ := h
    exact ⟨v, r, e1, Is.fz e d v hf.1 e2, IsL.fz e ds r hf.2 e3⟩
end
section
variable {K : PySem.W.Frag} {H H' : Hp}
theorem IsL.length : ∀ {ds : List PyData} {vs : List V}, IsL K H ds vs → ds.length = vs.length
  | [], _, h => by simp only [IsL] at h; subst h; rfl
  | d :: ds, vs, h => by
    simp only [IsL] at h
    obtain ⟨v, r, rfl, _, e3⟩ := h
    simp only [List.length_cons, IsL.length e3]
theorem IsL.get : ∀ {ds : List PyData} {vs : List V} {i : Nat} {x : V}, IsL K H ds vs → vs[i]? = some x → ∃ d, ds[i]? = some d ∧ Is K H d x
  | [], _, _, _, h, e => by simp only [IsL] at h; subst h; simp at e
  | d :: ds, vs, i, x, h, e => by
    simp only [IsL] at h
    obtain ⟨v, r, rfl, e2, e3⟩ := h
    cases i with
    | zero => simp at e; subst e; exact ⟨d, rfl, e2⟩
    | succ i =>
      obtain ⟨d', h1, h2⟩ := IsL.get (i := i) e3 (by simpa using e)
      exact ⟨d', by simpa using h1, h2⟩
theorem IsL.append : ∀ {ds es : List PyData} {vs us : List V}, IsL K H ds vs → IsL K H es us → IsL K H (ds ++ es) (vs ++ us)
  | [], _, _, _, h, g => by simp only [IsL] at h; subst h; exact g
  | d :: ds, es, vs, us, h, g => by
    simp only [IsL] at h
    obtain ⟨v, r, rfl, e2, e3⟩ := h
    simp only [List.cons_append, IsL]
    exact ⟨v, _, rfl, e2, IsL.append e3 g⟩
theorem IsL.one {d : PyData} {v : V} (h : Is K H d v) : IsL K H [d] [v] := by simp only [IsL]; exact ⟨v, [], rfl, h, rfl⟩
theorem IsL.nil : IsL K H [] [] := by simp only [IsL]
theorem IsL.cons {d : PyData} {v : V} {ds : List PyData} {vs : List V} (h : Is K H d v) (g : IsL K H ds vs) : IsL K H (d :: ds) (v :: vs) := by simp only [IsL]; exact ⟨v, vs, rfl, h, g⟩
theorem IsL.take : ∀ {ds : List PyData} {vs : List V} (n : Nat), IsL K H ds vs → IsL K H (ds.take n) (vs.take n)
  | ds, vs, 0, h => by simp only [List.take_zero]; exact .nil
  | [], vs, n + 1, h => by simp only [IsL] at h; subst h; exact .nil
  | d :: ds, vs, n + 1, h => by
    simp only [IsL] at h
    obtain ⟨v, r, rfl, e2, e3⟩ := h
    exact .cons e2 (IsL.take n e3)
theorem IsL.drop : ∀ {ds : List PyData} {vs : List V} (n : Nat), IsL K H ds vs → IsL K H (ds.drop n) (vs.drop n)
  | ds, vs, 0, h => h
  | [], vs, n + 1, h => by simp only [IsL] at h; subst h; exact .nil
  | d :: ds, vs, n + 1, h => by
    simp only [IsL] at h
    obtain ⟨v, r, rfl, e2, e3⟩ := h
    exact IsL.drop n e3
theorem IsL.str_eq : ∀ {ns : List Str} {vs : List V}, IsL K H (ns.map PyData.str) vs → vs = ns.map V.str
  | [], vs, h => by simp only [List.map_nil, IsL] at h; exact h
  | n :: ns, vs, h => by
    simp only [List.map_cons, IsL, Is] at h
    obtain ⟨v, r, rfl, rfl, e3⟩ := h
    rw [IsL.str_eq e3]
    rfl
theorem Is.tup {ds : List PyData} {v : V} (h : Is K H (.tuple ds) v) : ∃ a xs, v = .ref a ∧ SqT K H a xs ∧ IsL K H ds xs := by simpa only [Is] using h
theorem Is.of_tup {ds : List PyData} {a : Addr} {xs : List V} (h : SqT K H a xs) (g : IsL K H ds xs) : Is K H (.tuple ds) (.ref a) := by simp only [Is]; exact ⟨a, xs, rfl, h, g⟩
theorem Is.of_lst {ds : List PyData} {a : Addr} {xs : List V} (h : SqL K H a xs) (g : IsL K H ds xs) : Is K H (.list ds) (.ref a) := by simp only [Is]; exact ⟨a, xs, rfl, h, g⟩
theorem is_str {z : Str} : Is K H (.str z) (.str z) := by simp only [Is]
theorem is_int {z : Int} : Is K H (.int z) (.int z) := by simp only [Is]
theorem is_bl {z : Bool} : Is K H (.bool z) (.bl z) := by simp only [Is]
end
noncomputable def nmD (ns : List Str) : PyData := .tuple (ns.map PyData.str)
noncomputable def prD (p : Str × Str) : PyData := .tuple [.str p.1, .str p.2]
noncomputable def psD (ps : List (Str × Str)) : PyData := .tuple (ps.map prD)
noncomputable def hfD (ns : List Str) (ps : List (Str × Str)) : PyData := .tuple [nmD ns, psD ps]
theorem frzL_strs : ∀ ns : List Str, frzL (ns.map PyData.str) = true
  | [] => rfl
  | n :: ns => by simp only [List.map_cons, frzL, frz, frzL_strs ns, Bool.and_self]
theorem frz_nm (ns : List Str) : frz (nmD ns) = true := by simp only [nmD, frz, frzL_strs]
theorem frz_pr (p : Str × Str) : frz (prD p) = true := by simp [prD, frz, frzL]
theorem frzL_prs : ∀ ps : List (Str × Str), frzL (ps.map prD) = true
  | [] => rfl
  | n :: ns => by simp only [List.map_cons, frzL, frz_pr, frzL_prs ns, Bool.and_self]
theorem frz_ps (ps : List (Str × Str)) : frz (psD ps) = true := by simp only [psD, frz, frzL_prs]
theorem frz_hf (ns : List Str) (ps : List (Str × Str)) : frz (hfD ns ps) = true := by simp only [hfD, frz, frzL, frz_nm, frz_ps, Bool.and_self]
section
variable {K : PySem.W.Frag} {H H' : Hp}
theorem Is.nm {ns : List Str} {v : V} (h : Is K H (nmD ns) v) : ∃ a, v = .ref a ∧ SqT K H a (ns.map V.str) := by
  obtain ⟨a, xs, rfl, h1, h2⟩ := Is.tup h
  exact ⟨a, rfl, by rw [← IsL.str_eq h2]; exact h1⟩
theorem is_nm {ns : List Str} {a : Addr} (h : SqT K H a (ns.map V.str)) : Is K H (nmD ns) (.ref a) := Is.of_tup h (is_strs ns)
theorem Is.pr {p : Str × Str} {v : V} (h : Is K H (prD p) v) : ∃ a, v = .ref a ∧ SqT K H a [.str p.1, .str p.2] := by
  obtain ⟨a, xs, rfl, h1, h2⟩ := Is.tup h
  simp only [IsL, Is] at h2
  obtain ⟨_, _, rfl, rfl, _, _, rfl, rfl, rfl⟩ := h2
  exact ⟨a, rfl, h1⟩
theorem is_pr {x y : Str} {a : Addr} (h : SqT K H a [.str x, .str y]) : Is K H (prD (x, y)) (.ref a) := Is.of_tup h (.cons is_str (.one is_str))
theorem Is.hf {ns : List Str} {ps : List (Str × Str)} {v : V} (h : Is K H (hfD ns ps) v) : ∃ a x y, v = .ref a ∧ SqT K H a [x, y] ∧ Is K H (nmD ns) x ∧ Is K H (psD ps) y := by
  obtain ⟨a, xs, rfl, h1, h2⟩ := Is.tup h
  simp only [IsL] at h2
  obtain ⟨x, _, rfl, hx, y, _, rfl, hy, rfl⟩ := h2
  exact ⟨a, x, y, rfl, h1, hx, hy⟩
theorem is_hf {ns : List Str} {ps : List (Str × Str)} {a : Addr} {x y : V} (h : SqT K H a [x, y]) (hx : Is K H (nmD ns) x) (hy : Is K H (psD ps) y) : Is K H (hfD ns ps) (.ref a) := Is.of_tup h (.cons hx (.one hy))
theorem Is.nm_fz {ns : List Str} {v : V} (h : Is K H (nmD ns) v) (e : Fz H H') : Is K H' (nmD ns) v := Is.fz e _ _ (frz_nm ns) h
theorem Is.pr_fz {p : Str × Str} {v : V} (h : Is K H (prD p) v) (e : Fz H H') : Is K H' (prD p) v := Is.fz e _ _ (frz_pr p) h
theorem Is.ps_fz {ps : List (Str × Str)} {v : V} (h : Is K H (psD ps) v) (e : Fz H H') : Is K H' (psD ps) v := Is.fz e _ _ (frz_ps ps) h
theorem Is.hf_fz {ns : List Str} {ps : List (Str × Str)} {v : V} (h : Is K H (hfD ns ps) v) (e : Fz H H') : Is K H' (hfD ns ps) v := Is.fz e _ _ (frz_hf ns ps) h
variable {σ : St} {Q : VK} {x v : V} {i : Int}
theorem i_ixQ {a : Addr} {xs : List V} (h : SqT K H a xs) (e : atI xs i = some v) (k : Q v H) : rIxA K (.ref a) (.int i) H Q := .inl (.inr (.inl ⟨a, xs, i, v, rfl, rfl, h, e, k⟩))
theorem i_ixN {ns : List Str} {z : Str} (h : Is K H (nmD ns) x) (e : atI ns i = some z) (k : Q (.str z) H) : rIxA K x (.int i) H Q := by
  obtain ⟨a, rfl, h1⟩ := h.nm
  refine i_ixQ h1 ?_ k
  unfold atI at e ⊢
  rw [List.length_map]
  cases hj : ixN ns.length i with
  | none => rw [hj] at e; cases e
  | some j =>
    rw [hj] at e
    show (ns.map V.str)[j]? = _
    rw [List.getElem?_map, show ns[j]? = some z from e]
    rfl
theorem i_ixH0 {ns : List Str} {ps : List (Str × Str)} (h : Is K H (hfD ns ps) x) (k : ∀ v, Is K H (nmD ns) v → Q v H) : rIxA K x (.int 0) H Q := by
  obtain ⟨a, u, w, rfl, h1, h2, h3⟩ := h.hf
  exact i_ixQ h1 rfl (k u h2)
theorem i_ixH1 {ns : List Str} {ps : List (Str × Str)} (h : Is K H (hfD ns ps) x) (k : ∀ v, Is K H (psD ps) v → Q v H) : rIxA K x (.int 1) H Q := by
  obtain ⟨a, u, w, rfl, h1, h2, h3⟩ := h.hf
  exact i_ixQ h1 rfl (k w h3)
theorem i_lenQ {ds : List PyData} (h : Is K H (.tuple ds) x) (k : Q (.int ds.length) H) : rLenA K [x] H Q := by
  obtain ⟨a, xs, rfl, h1, h2⟩ := h.tup
  rw [IsL.length h2] at k
  exact .inl ⟨.ref a, _, rfl, .inr ⟨xs, h1, rfl⟩, k⟩
theorem i_lenN {ns : List Str} (h : Is K H (nmD ns) x) (k : Q (.int ns.length) H) : rLenA K [x] H Q := i_lenQ h (by rw [List.length_map]; exact k)
theorem i_lenP {ps : List (Str × Str)} (h : Is K H (psD ps) x) (k : Q (.int ps.length) H) : rLenA K [x] H Q := i_lenQ h (by rw [List.length_map]; exact k)
theorem flat_strs (ns : List Str) : (ns.map V.str).all flatV = true := by
  rw [List.all_eq_true]
  intro v h
  obtain ⟨n, _, rfl⟩ := List.mem_map.mp h
  rfl
theorem inV_strs (z : Str) : ∀ ns : List Str, inV (.str z) (ns.map V.str) = decide (z ∈ ns)
  | [] => rfl
  | n :: ns => by
    have ih := inV_strs z ns
    unfold inV at ih ⊢
    rw [List.map_cons, List.any_cons, ih]
    have e : eqV (V.str n) (V.str z) = decide (n = z) := by
      show (n == z) = _
      by_cases h : n = z <;> simp [h]
    rw [e]
    by_cases h : n = z
    · subst h
      simp
    · have h' : ¬ z = n := fun q => h q.symm
      by_cases g : z ∈ ns <;> simp [h, h', g]
theorem i_ninN {ns : List Str} {z : Str} (h : Is K H (nmD ns) x) (k : Q (.bl (!decide (z ∈ ns))) H) : rInA K true (.str z) x H Q := by
  obtain ⟨a, rfl, h1⟩ := h.nm
  exact .inl ⟨a, _, rfl, .inr h1, rfl, flat_strs ns, by rw [inV_strs]; exact k⟩
theorem i_gpair {p : Str × Str} {n m : Nat} {R : St → Hp → Prop} (h : Is K H (prD p) x) (k : R ((σ.set n (some (.str p.1))).set m (some (.str p.2))) H) : gTup K 2 (gCons (gName n) (gCons (gName m) gNil)) x σ H R := by
  obtain ⟨a, rfl, h1⟩ := h.pr
  exact ⟨a, _, rfl, h1, rfl, .str p.1, [.str p.2], rfl, .str p.2, [], rfl, rfl, k⟩
theorem i_gtwo {a : Addr} {u w : V} {n m : Nat} {R : St → Hp → Prop} (h : SqT K H a [u, w]) (k : R ((σ.set n (some u)).set m (some w)) H) : gTup K 2 (gCons (gName n) (gCons (gName m) gNil)) (.ref a) σ H R :=
  ⟨a, _, rfl, h, rfl, u, [w], rfl, w, [], rfl, rfl, k⟩
theorem frzL_map {α : Type} (f : α → PyData) (hf : ∀ a, frz (f a) = true) : ∀ xs : List α, frzL (xs.map f) = true
  | [] => rfl
  | x :: xs => by simp only [List.map_cons, frzL, hf, frzL_map f hf xs, Bool.and_self]
theorem comp_dat {α : Type} {J : It} {xs : List V} {G : Hp → Prop} {g : TG} {tt : TT} {te : TE} {Q : VK} {k : Nat} {js : List Nat} (hw : WalkOf J xs G) (as : List α) (hl : as.length = xs.length) (t : α → Bool) (f : α → PyData) (hf : ∀ a, frz (f a) = true) (hz : xs.length ≤ 1000000) (hG : ∀ H', Same H H' → G H')
    (hs : ∀ (i : Nat) a v H1 (R : VK) (R' : Hp → Prop), as[i]? = some a → xs[i]? = some v → Same H H1 → (t a = true → ∀ y H2, Same H1 H2 → Is K H2 (f a) y → R y H2) → (t a = false → ∀ H2, Same H1 H2 → R' H2) →
      g v (List.replicate k none ++ pick σ js) H1 fun σ2 H2 => tt σ2 H2 fun b H3 => if b = true then te σ2 H3 R else R' H3)
    (hd : ∀ p ys H', H p = none → Same H H' → H' p = some (.lst ys) → IsL K H' ((as.filter t).map f) ys → Q (.ref p) H') : rComp k js g tt te σ J H Q := by
  refine comp_by hw (fun p i acc H1 => Same H H1 ∧ IsL K H1 (((as.take i).filter t).map f) acc) (fun p H' hp e h => ⟨e, by simp only [List.take_zero, List.filter_nil, List.map_nil]; exact .nil⟩) (fun p i acc H1 h => hG H1 h.1) (fun p i x acc H1 hp hx hi hl1 ha ⟨e, hacc⟩ => ?_) fun p acc H1 hp ha hl1 ⟨e, hacc⟩ => ?_
  · have hi' : i < as.length := by omega
    obtain ⟨a, hai⟩ : ∃ a, as[i]? = some a := ⟨as[i], List.getElem?_eq_getElem hi'⟩
    have ht : as.take (i + 1) = as.take i ++ [a] := by rw [List.take_add_one, hai]; rfl
    refine hs i a x H1 _ _ hai hx e (fun h y H2 e2 hy => ?_) fun h H2 e2 => ?_
    · refine push_i hz hi hl1 (e2 _ _ ha) fun H' e' h' => ⟨fun b o hb => e' b o (ne_of_none hb hp) (e2 _ _ (e b o hb)), ?_⟩
      rw [ht, List.filter_append, List.map_append]
      have fz := e'.fzL (e2 _ _ ha)
      refine IsL.append (IsL.fz (e2.fz.trans fz) _ _ (frzL_map f hf _) hacc) ?_
      simp only [List.filter_cons, h, if_true, List.filter_nil, List.map_cons, List.map_nil]
      exact .one (Is.fz fz _ _ (hf a) hy)
    · refine cn_skip hi hl1 (e2 _ _ ha) ⟨e.trans e2, ?_⟩
      rw [ht, List.filter_append, List.map_append]
      simp only [List.filter_cons, h, Bool.false_eq_true, if_false, List.filter_nil, List.map_nil, List.append_nil]
      exact IsL.mono e2 _ _ hacc
  · refine hd p acc H1 hp e ha ?_
    rw [← hl, List.take_length] at hacc
    exact hacc
end
end L2
set_option Elab.async false
set_option linter.all false
set_option maxRecDepth 100000
set_option maxHeartbeats 4000000
namespace L2
open PySem PySem.Spec PyProof.Rows
section
variable {X : Cx} {K : PySem.W.Frag}
noncomputable def isDisp : PyData → Bool
  | .list _ => true
  | .tuple _ => true
  | _ => false
mutual
theorem Is.noDict {H : Hp} : ∀ (d : PyData) (v : V), Is K H d v → d.hasDict = false
  | .none, _, h => by simp only [PyData.hasDict]
  | .bool _, _, h => by simp only [PyData.hasDict]
  | .int _, _, h => by simp only [PyData.hasDict]
  | .str _, _, h => by simp only [PyData.hasDict]
  | .list ds, v, h => by
    simp only [Is] at h
    obtain ⟨a, xs, e1, e2, e3⟩ := h
    simp only [PyData.hasDict]
    exact IsL.noDict ds xs e3
  | .tuple ds, v, h => by
    simp only [Is] at h
    obtain ⟨a, xs, e1, e2, e3⟩ := h
    simp only [PyData.hasDict]
    exact IsL.noDict ds xs e3
  | .dict _, _, h => by simp only [Is] at h
theorem IsL.noDict {H : Hp} : ∀ (ds : List PyData) (vs : List V), IsL K H ds vs → PyData.hasDictAll ds = false
  | [], _, h => by simp only [PyData.hasDictAll]
  | d :: ds, vs, h => by
    simp only [IsL] at h
    obtain ⟨v, r, e1, e2, e3⟩ := h
    simp only [PyData.hasDictAll, Is.noDict d v e2, IsL.noDict ds r e3, Bool.or_self]
end
structure Sh (d : PyData) : Prop where
  dp : isDisp d = true
  sh : d.showable = true
  fits : d.shown.length ≤ sizeLine
  deep : d.depth ≤ 100
theorem call_reprD (hq : QA X.A) : CallR X (.builtin "repr") (fun xs H Q => ∃ x d, xs = [x] ∧ Is X.K H d x ∧ Sh d ∧ Q (.str d.shown) H) := by
  intro pins s σ H xs us Q I rv h
  obtain ⟨x, d, rfl, i, S, q⟩ := h
  obtain ⟨u, rfl, ru⟩ := rv.one
  obtain ⟨as, ra⟩ := Is.reads I d x u i ru
  have href : ∃ a, u = .ref a := by
    have hd := S.dp
    cases d with
    | list ds => simp only [Is] at i; obtain ⟨a, _, rfl, _⟩ := i; exact ⟨a, ru⟩
    | tuple ds => simp only [Is] at i; obtain ⟨a, _, rfl, _⟩ := i; exact ⟨a, ru⟩
    | _ => cases hd
  obtain ⟨a, rfl⟩ := href
  refine repr_of_reads' ra S.sh (fun hx => absurd hx (by rw [Is.noDict d x i]; exact Bool.false_ne_true)) hq.gd (by have := hq.un; have := S.deep; omega) (fun _ _ e => e) (fun h' t tk hk => ?_) S.fits
  exact ⟨.str d.shown, H, I.kept hk, ⟨t, rfl⟩, q⟩
noncomputable def strRep (z : Str) (n : Nat) : Str := ⟨(List.replicate n z.cps).foldl (· ++ ·) #[]⟩
noncomputable def rMulS : R2 := fun x y H Q => ∃ z n, x = .str z ∧ y = .int n ∧ 2 ≤ n ∧ n ≤ 1000 ∧ z.length ≤ 1000 ∧ 0 < z.length ∧ Q (.str (strRep z n.toNat)) H
theorem op_mulS : OpR X (binaryOp .Mult) rMulS := by
  intro pins s σ H x y v u Q I rx ry h
  obtain ⟨z, n, rfl, rfl, h1, h2, h3, h4, q⟩ := h
  obtain ⟨t, rfl⟩ := rx
  obtain ⟨t2, rfl⟩ := ry
  have a1 : ¬ n < 1 := by omega
  have a2 : (n == 1 || z.length == 0) = false := by
    have e1 : (n == 1) = false := by simp; omega
    have e2 : (z.length == 0) = false := by simp; omega
    rw [e1, e2]; rfl
  have hz : z.length * n.toNat ≤ 1000000 := by
    have : z.length * n.toNat ≤ 1000 * 1000 := Nat.mul_le_mul h3 (by omega)
    omega
  have hlen : (strRep z n.toNat).length ≤ sizeLine := by
    have e : ∀ (m : Nat) (a : Array Nat), ((List.replicate m z.cps).foldl (· ++ ·) a).size = a.size + m * z.cps.size := by
      intro m
      induction m with
      | zero => intro a; simp
      | succ m ih => intro a; rw [List.replicate_succ, List.foldl_cons, ih, Array.size_append, Nat.succ_mul]; omega
    show ((List.replicate n.toNat z.cps).foldl (· ++ ·) #[]).size ≤ sizeLine
    rw [e]
    have e2 : z.cps.size = z.length := rfl
    rw [e2, sizeLine_eq, Nat.mul_comm]
    simp
    omega
  refine PySem.P.mul_str (by
      have b1 : ¬ n < -(2 ^ 63 : Int) := by omega
      have b2 : ¬ n ≥ 2 ^ 63 := by omega
      rw [decide_eq_false b1, decide_eq_false b2]; rfl) (fun _ _ => ?_) (fun _ _ => ?_) ?_
  · have : (2 ^ 63 - 1 : Int) / n ≥ 1000 := by
      refine Int.le_ediv_of_mul_le (by omega) ?_
      have : 1000 * n ≤ 1000 * 1000 := by omega
      omega
    omega
  · have hz2 : z.length * n.toNat ≤ sizeLine := line_of hz
    rw [sizeLine_eq] at hz2
    unfold Builtin.Str.tooLong
    simp [sizeLine_eq]
    omega
  · rw [if_neg a1, a2, if_neg Bool.false_ne_true]
    exact ⟨hlen, .str _, H, I.kept fun _ _ e => e, ⟨_, rfl⟩, q⟩
noncomputable def rMulB : R2 := fun x y H Q => rMulA x y H Q ∨ rMulS x y H Q
theorem op_mulB : OpR X (binaryOp .Mult) rMulB := op_mulA.or op_mulS
theorem i_mulBI {i j : Int} {H : Hp} {Q : VK} (h : CMul i j) (k : Q (.int (i * j)) H) : rMulB (.int i) (.int j) H Q := .inl (i_mulI h k)
theorem i_mulBS {z : Str} {n : Int} {H : Hp} {Q : VK} (h : 2 ≤ n ∧ n ≤ 1000 ∧ z.length ≤ 1000 ∧ 0 < z.length) (k : Q (.str (strRep z n.toNat)) H) : rMulB (.str z) (.int n) H Q := .inr ⟨z, n, rfl, rfl, h.1, h.2.1, h.2.2.1, h.2.2.2, k⟩
theorem i_mulBL {i : Int} {H : Hp} {Q : VK} {a : Addr} {xs : List V} (h1 : H a = some (.lst xs)) (h2 : -(2 ^ 63) ≤ i ∧ i < 2 ^ 63) (h3 : xs.length * i.toNat ≤ sizeLine) (k : ∀ p H', H p = none → Same H H' → H' p = some (.lst (List.replicate i.toNat xs).flatten) → Q (.ref p) H') : rMulB (.ref a) (.int i) H Q := .inl (i_mulL h1 h2 h3 k)
noncomputable def insL (xs : List V) (i : Nat) (y : V) : List V := xs.take i ++ y :: xs.drop i
noncomputable def rInsert : V → List V → Hp → VK → Prop := fun x vs H Q => ∃ l xs i y, x = .ref l ∧ vs = [.int i, y] ∧ H l = some (.lst xs) ∧ 0 ≤ i ∧ i ≤ xs.length ∧ xs.length < sizeLine ∧ Q .non (upd H l (.lst (insL xs i.toNat y)))
theorem mt_insert : MtM X "list.insert" rInsert := by
  intro pins s σ H x vs v us Q I rx rv h
  obtain ⟨l, xs, i, y, rfl, rfl, hH, h0, h1, hz, q⟩ := h
  cases rx
  obtain ⟨u, w, rfl, ru, rw'⟩ := Vals.two rv
  obtain ⟨t, rfl⟩ := ru
  obtain ⟨z, its, n, r, hl, e⟩ := I.lstM hH
  have hlen := r.length
  refine call_meets F.slot_list_insert ⟨_, e, rfl⟩ F.entry_list_insert (F.args_list_insert_3 _ _ _)
    (AutoSeq1.list_insert_list_int_val_1 l its.toArray n i t w (by rw [fitsIndex_both (by omega) (by rw [sizeLine_eq] at hz; omega)]; decide) (by rw [List.size_toArray]; omega)) ⟨e, ?_⟩
  refine ⟨.non, _, I.lset (its' := its.take i.toNat ++ w :: its.drop i.toNat) hH e ?_ ((r.take i.toNat).append (.cons rw' (r.drop i.toNat))) ?_, rfl, q⟩
  · have hi : i.toNat ≤ its.length := by omega
    show (have k := if i < 0 then (i + ((its.toArray.size : Nat) : Int)).toNat else min i.toNat its.toArray.size; (its.toArray.extract 0 k).push w ++ its.toArray.extract k) = _
    rw [if_neg (by omega), List.size_toArray, Nat.min_eq_left hi]
    simp [List.extract_eq_drop_take]
    exact List.take_of_length_le (by rw [List.length_drop]; omega)
  · rw [List.length_append, List.length_cons, List.length_take, List.length_drop]
    omega
section
variable {D : Ends} {σ : St} {H : Hp} {t u : TS} {te td ty tv : TE} {g : TG}
theorem i_cut (M : St → Hp → Prop) (h1 : ∀ N : St → Hp → Prop, (∀ σ' H', M σ' H' → N σ' H') → t { D with nx := N } σ H) (h2 : ∀ σ' H', M σ' H' → u D σ' H') : tSeq t u D σ H := h1 (u D) h2
end
theorem i_listA {a : Addr} {xs : List V} {H : Hp} {Q : VK} (h : SqL K H a xs ∨ SqT K H a xs) (k : ∀ p H', H p = none → Same H H' → H' p = some (.lst xs) → Q (.ref p) H') : rListA K [.ref a] H Q := ⟨a, xs, rfl, h, fun p hp => k p _ hp (Same.upd hp) upd_same⟩
theorem mm {id : String} {r : V → List V → Hp → VK → Prop} (h : MtM X id r) : MtR X id r := h
theorem i_tyLm {a : Addr} {xs : List V} {H : Hp} {B : Prop} (h : H a = some (.lst xs)) (k : B) : tyV K "list" (.ref a) H ∧ B := ⟨.inl ⟨rfl, xs, SqL.of h⟩, k⟩
theorem i_ins {l : Addr} {xs : List V} {y : V} {i : Int} {H : Hp} {Q : VK} (h : H l = some (.lst xs)) (h0 : 0 ≤ i) (h1 : i ≤ xs.length) (hz : xs.length ≤ 1000000) (k : ∀ H', ExtBut l H H' → H' l = some (.lst (insL xs i.toNat y)) → Q .non H') : rInsert (.ref l) [.int i, y] H Q :=
  ⟨l, xs, i, y, rfl, rfl, h, h0, h1, by rw [sizeLine_eq]; omega, k _ ExtBut.upd upd_same⟩
theorem i_appR {l : Addr} {xs : List V} {y : V} {H : Hp} {Q : VK} (h : H l = some (.lst xs)) (hz : xs.length ≤ 1000000) (k : ∀ H', ExtBut l H H' → H' l = some (.lst (xs ++ [y])) → Q .non H') : rAppend (.ref l) [y] H Q :=
  ⟨l, xs, y, rfl, rfl, h, by rw [sizeLine_eq]; omega, k _ ExtBut.upd upd_same⟩
theorem i_extR {l b : Addr} {xs zs : List V} {H : Hp} {Q : VK} (h : H l = some (.lst xs)) (hb : H b = some (.lst zs)) (hz : xs.length + zs.length ≤ 1000000) (k : ∀ H', ExtBut l H H' → H' l = some (.lst (xs ++ zs)) → Q .non H') : rExtend (.ref l) [.ref b] H Q :=
  ⟨l, b, xs, zs, rfl, rfl, h, hb, line_of hz, k _ ExtBut.upd upd_same⟩
theorem i_popAtR {l : Addr} {xs : List V} {y : V} {i : Int} {H : Hp} {Q : VK} (h : H l = some (.lst xs)) (h0 : 0 ≤ i) (h1 : xs[i.toNat]? = some y) (k : ∀ H', ExtBut l H H' → H' l = some (.lst (xs.eraseIdx i.toNat)) → Q y H') (hz : xs.length ≤ 1000000) : rPopAt (.ref l) [.int i] H Q := by
  have h2 := (List.getElem?_eq_some_iff.mp h1).1
  refine ⟨l, xs, i, i.toNat, y, rfl, rfl, h, by omega, by omega, ?_, h1, k _ ExtBut.upd upd_same⟩
  have e := atI_get (atI_nat (α := V) h1)
  obtain ⟨j, e1, e2, e3, _⟩ := e
  rw [Int.toNat_of_nonneg h0] at e1
  rw [e1]
  have e4 : seqIndex? i xs.length = some i.toNat := by
    unfold seqIndex? at e1 ⊢
    simp [show ¬ i < 0 by omega] at e1 ⊢
    omega
  rw [← e1, e4]
noncomputable def stepV (xs : List V) (k : Int) : List V := if k = 1 then xs else xs.reverse
noncomputable def rSlStep (K : PySem.W.Frag) : V → V → Hp → VK → Prop := fun x y H Q => ∃ a xs k, x = .ref a ∧ y = .int k ∧ (k = 1 ∨ k = -1) ∧ SqL K H a xs ∧ ∀ p, H p = none → Q (.ref p) (upd H p (.lst (stepV xs k)))
theorem pick_one (items : Array Value) : slicePick items none none (some 1) = items := by
  have e : slicePick items none none (some 1) = slicePick items none none none := rfl
  rw [e, slicePick_cut]
  simp [HT.sIx]
  rw [show items.size = items.toList.length by simp, List.take_length]
theorem pe_sliceStep {e st : Expr} {te ts : TE} {p2 pos : Pos} (he : PE X e te) (hst : PE X st ts) (hK : X.K = K := by with_unfolding_all rfl) : PE X (.Subscript e (.Slice none none (some st) p2) pos) (tOp (rSlStep K) te ts) := by
  subst hK
  intro pins s σ H Q I h
  refine Subscript_ (thn (he pins s σ H _ I h) fun v s1 ⟨x, H1, I1, r1, q1⟩ => ?_)
  refine wpAny_Slice ?_
  rw [evalPart_none]
  refine wpAny_pure (wpAny_pure ?_)
  rw [evalPart_some]
  refine thn (hst pins s1 σ H1 _ I1 q1) fun u s2 ⟨y, H2, I2, r2, q2⟩ => ?_
  obtain ⟨a, xs, k, rfl, rfl, hk, hx, q⟩ := q2
  cases r1
  obtain ⟨t, rfl⟩ := r2
  have I4 : Inv X pins σ H2 { s2 with heap := s2.heap.push { cls := .type "slice", data := .fields #[.none, .none, .int k t] } } := I2.kept (t' := s2.toks) fun b ob q => Heap.get?_push_of_some _ q
  obtain ⟨its, r, ht, hz⟩ := I4.list hx
  have hlen := r.length
  refine tail_any (ops := [.ref a, .ref s2.heap.objs.size]) ht.isList.typeIs slot_list_getitem.lookup ?_ (by with_unfolding_all rfl)
  refine wpAny_getItem_list_slice ht.isList (Heap.IsSliceOf.new ..) .none .none (.int k t) (by rcases hk with rfl | rfl <;> decide) ?_ (by rw [List.size_toArray]; omega)
  rcases hk with rfl | rfl
  · rw [pick_one]
    refine ⟨.ref _, _, I4.laid (t' := s2.toks) (o := .lst (stepV xs 1)) (fun b ob q => Heap.get?_push_of_some _ q) (Nat.le_refl _) ?_, rfl, q _ (I4.hok.fresh (Nat.le_refl _))⟩
    exact ⟨hz, _, 0, r, Heap.get?_push_size _ rfl⟩
  · rw [PySem.W.krv_pick]
    refine ⟨.ref _, _, I4.laid (t' := s2.toks) (o := .lst (stepV xs (-1))) (fun b ob q => Heap.get?_push_of_some _ q) (Nat.le_refl _) ?_, rfl, q _ (I4.hok.fresh (Nat.le_refl _))⟩
    exact ⟨by show xs.reverse.length ≤ _; rw [List.length_reverse]; exact hz, _, 0, by show Vals xs.reverse _; exact r.reverse, Heap.get?_push_size _ rfl⟩
theorem i_step {a : Addr} {xs : List V} {k : Int} {H : Hp} {Q : VK} (h : SqL K H a xs) (hk : k = 1 ∨ k = -1) (c : ∀ p H', H p = none → Same H H' → H' p = some (.lst (stepV xs k)) → Q (.ref p) H') : rSlStep K (.ref a) (.int k) H Q :=
  ⟨a, xs, k, rfl, rfl, hk, h, fun p hp => c p _ hp (Same.upd hp) upd_same⟩
end
end L2
set_option Elab.async false
set_option linter.all false
set_option maxRecDepth 100000
set_option maxHeartbeats 4000000
namespace L2
open PySem PySem.Spec PyProof.Rows
noncomputable def smallN (c : Nat) : Bool := decide (97 ≤ c) && decide (c ≤ 122)
noncomputable def isNm (x : Str) : Bool := decide (1 ≤ x.length) && decide (x.length ≤ 8) && x.cps.toList.all smallN
noncomputable def Names (ns : List Str) : Prop := ns.Nodup ∧ ∀ z ∈ ns, isNm z = true
noncomputable def LL : Str := "abcdefghijklmnopqrstuvwxyzabcdefghijklmnopqrstuvwxyz"
theorem LL_rep : strRep "abcdefghijklmnopqrstuvwxyz" (2 : Int).toNat = LL := by decide +kernel
noncomputable def LLn : List Nat := LL.cps.toList
theorem LL_len : LL.length = 52 := by decide +kernel
theorem LLn_len : LLn.length = 52 := by decide +kernel
theorem LL_small : ∀ c ∈ LLn, smallN c = true := by decide +kernel
noncomputable def txt (l : List Nat) : Str := ⟨l.toArray⟩
theorem txt_inj {a b : List Nat} (h : txt a = txt b) : a = b := by
  have : a.toArray = b.toArray := congrArg Str.cps h
  simpa using this
theorem txt_app (a b : List Nat) : txt a ++ txt b = txt (a ++ b) := by
  show (⟨a.toArray ++ b.toArray⟩ : Str) = ⟨(a ++ b).toArray⟩
  simp
theorem txt_name {l : List Nat} (h0 : 1 ≤ l.length) (h1 : l.length ≤ 8) (h2 : ∀ c ∈ l, smallN c = true) : isNm (txt l) = true := by
  unfold isNm
  have e : (txt l).length = l.length := by show l.toArray.size = _; simp
  rw [e, decide_eq_true h0, decide_eq_true h1]
  show (true && true && l.all smallN) = true
  rw [List.all_eq_true.mpr h2]
  rfl
noncomputable def cutN (a b : Nat) : List Nat := (LLn.drop a).take (b - a)
theorem cutN_len {a b : Nat} (h : a ≤ b) (h1 : b ≤ 52) : (cutN a b).length = b - a := by
  unfold cutN
  rw [List.length_take, List.length_drop, LLn_len]
  omega
theorem cutN_small {a b : Nat} : ∀ c ∈ cutN a b, smallN c = true := fun c hc => LL_small c (List.mem_of_mem_drop (List.mem_of_mem_take hc))
theorem LL_cut {i j : Int} (h0 : 0 ≤ i) (h1 : i ≤ j) (h2 : j ≤ 52) : Txt.slice LL (some i) (some j) = txt (cutN i.toNat j.toNat) := by
  have e := StrLaws.sliceText_plain (x := LL) (i := i) (j := j) ⟨h0, h1, by rw [show LL.cps.toList.length = 52 by decide +kernel]; omega⟩
  have e2 : (j - i).toNat = j.toNat - i.toNat := by omega
  rw [e2] at e
  exact e
noncomputable def sgnN (i : Nat) : List Nat := (LLn.drop i).take 1
theorem LL_at {i : Int} (h0 : 0 ≤ i) (h1 : i < 52) : ∃ c, atI LL.cps.toList i = some c ∧ (⟨#[c]⟩ : Str) = txt (sgnN i.toNat) := by
  have h2 : i.toNat < LLn.length := by rw [LLn_len]; omega
  refine ⟨LLn[i.toNat], ?_, ?_⟩
  · have := atI_nat (List.getElem?_eq_getElem h2)
    rwa [Int.toNat_of_nonneg h0] at this
  · unfold sgnN
    rw [List.drop_eq_getElem_cons h2]
    rfl
theorem sgnN_len {i : Nat} (h : i < 52) : (sgnN i).length = 1 := by
  unfold sgnN
  rw [List.length_take, List.length_drop, LLn_len]
  omega
theorem sgnN_small {i : Nat} : ∀ c ∈ sgnN i, smallN c = true := fun c hc => LL_small c (List.mem_of_mem_drop (List.mem_of_mem_take hc))
noncomputable def nm0 (s : Nat) : List (List Nat) := (List.range 8).map (fun k => cutN s (s + 1 + k)) ++ [sgnN (s + 9), sgnN (s + 10)]
noncomputable def nm1 (s z a : Nat) : List (List Nat) := (List.range 10).map fun k => cutN s (s + a) ++ sgnN (s + 5 * k % 26) ++ cutN (s + a + 1) (s + z)
noncomputable def nm2 (s : Nat) : List (List Nat) := (List.range 10).map fun k => cutN (s + k) (s + k + 1 + 3 * k % 8)
theorem nd0 : ∀ s < 26, (nm0 s).Nodup := by decide +kernel
theorem nd2 : ∀ s < 26, (nm2 s).Nodup := by decide +kernel
theorem nd1' : ∀ s < 26, ((List.range 10).map fun k => sgnN (s + 5 * k % 26)).Nodup := by decide +kernel
theorem nodup_map_on {α β : Type} {f : α → β} : ∀ {l : List α}, l.Nodup → (∀ a ∈ l, ∀ b ∈ l, f a = f b → a = b) → (l.map f).Nodup
  | [], _, _ => by simp
  | a :: l, h, hf => by
    rw [List.map_cons, List.nodup_cons]
    rw [List.nodup_cons] at h
    refine ⟨fun hm => ?_, nodup_map_on h.2 fun x hx y hy => hf x (List.mem_cons_of_mem _ hx) y (List.mem_cons_of_mem _ hy)⟩
    obtain ⟨b, hb, e⟩ := List.mem_map.mp hm
    have := hf b (List.mem_cons_of_mem _ hb) a List.mem_cons_self e
    subst this
    exact h.1 hb
theorem inj_of_nodup_map {α β : Type} {f : α → β} : ∀ {l : List α}, (l.map f).Nodup → ∀ a ∈ l, ∀ b ∈ l, f a = f b → a = b
  | [], _, a, ha, _, _, _ => by cases ha
  | c :: l, h, a, ha, b, hb, e => by
    rw [List.map_cons, List.nodup_cons] at h
    rcases List.mem_cons.mp ha with q | ha'
    · rcases List.mem_cons.mp hb with q' | hb'
      · rw [q, q']
      · exact absurd (List.mem_map.mpr ⟨b, hb', by rw [← e, q]⟩) h.1
    · rcases List.mem_cons.mp hb with q' | hb'
      · exact absurd (List.mem_map.mpr ⟨a, ha', by rw [e, q']⟩) h.1
      · exact inj_of_nodup_map h.2 a ha' b hb' e
theorem nodup_txt {l : List (List Nat)} (h : l.Nodup) : (l.map txt).Nodup := nodup_map_on h fun a _ b _ e => txt_inj e
theorem nd1 {s z a : Nat} (hs : s < 26) : (nm1 s z a).Nodup := by
  refine nodup_map_on List.nodup_range fun k hk j hj e => ?_
  have e1 : sgnN (s + 5 * k % 26) = sgnN (s + 5 * j % 26) := List.append_cancel_left (List.append_cancel_right e)
  exact inj_of_nodup_map (f := fun k => sgnN (s + 5 * k % 26)) (nd1' s hs) k hk j hj e1
theorem ok_nm0 {s : Nat} (hs : s < 26) : Names ((nm0 s).map txt) := by
  refine ⟨nodup_txt (nd0 s hs), fun z hz => ?_⟩
  obtain ⟨l, hl, rfl⟩ := List.mem_map.mp hz
  rcases List.mem_append.mp hl with h | h
  · obtain ⟨k, hk, rfl⟩ := List.mem_map.mp h
    have hk := List.mem_range.mp hk
    have e := cutN_len (a := s) (b := s + 1 + k) (by omega) (by omega)
    exact txt_name (by omega) (by omega) cutN_small
  · simp only [List.mem_cons, List.not_mem_nil, or_false] at h
    rcases h with rfl | rfl
    · have e := sgnN_len (i := s + 9) (by omega)
      exact txt_name (by omega) (by omega) sgnN_small
    · have e := sgnN_len (i := s + 10) (by omega)
      exact txt_name (by omega) (by omega) sgnN_small
theorem ok_nm1 {s z a : Nat} (hs : s < 26) (ha : a < z) (hz : z ≤ 8) : Names ((nm1 s z a).map txt) := by
  refine ⟨nodup_txt (nd1 hs), fun y hy => ?_⟩
  obtain ⟨l, hl, rfl⟩ := List.mem_map.mp hy
  obtain ⟨k, hk, rfl⟩ := List.mem_map.mp hl
  have hm : 5 * k % 26 < 26 := Nat.mod_lt _ (by decide)
  have e1 := cutN_len (a := s) (b := s + a) (by omega) (by omega)
  have e2 := sgnN_len (i := s + 5 * k % 26) (by omega)
  have e3 := cutN_len (a := s + a + 1) (b := s + z) (by omega) (by omega)
  refine txt_name (by simp only [List.length_append]; omega) (by simp only [List.length_append]; omega) fun c hc => ?_
  rcases List.mem_append.mp hc with hc | hc
  · rcases List.mem_append.mp hc with hc | hc
    · exact cutN_small c hc
    · exact sgnN_small c hc
  · exact cutN_small c hc
theorem ok_nm2 {s : Nat} (hs : s < 26) : Names ((nm2 s).map txt) := by
  refine ⟨nodup_txt (nd2 s hs), fun z hz => ?_⟩
  obtain ⟨l, hl, rfl⟩ := List.mem_map.mp hz
  obtain ⟨k, hk, rfl⟩ := List.mem_map.mp hl
  have hk := List.mem_range.mp hk
  have hm : 3 * k % 8 < 8 := Nat.mod_lt _ (by decide)
  have e := cutN_len (a := s + k) (b := s + k + 1 + 3 * k % 8) (by omega) (by omega)
  exact txt_name (by omega) (by omega) cutN_small
noncomputable def nm3 : List Str := ["names", "ahead", "name", "a", "ab", "aheads", "last", "ask", "row", "end"]
theorem ok_nm3 : Names nm3 := ⟨by decide +kernel, by decide +kernel⟩
theorem Names.perm {ns ms : List Str} (h : Names ns) (p : ms.Perm ns) : Names ms := ⟨p.nodup_iff.mpr h.1, fun z hz => h.2 z (p.mem_iff.mp hz)⟩
theorem Names.sublist {ns ms : List Str} (h : Names ns) (p : ms.Sublist ns) : Names ms := ⟨h.1.sublist p, fun z hz => h.2 z (p.subset hz)⟩
theorem Names.reverse {ns : List Str} (h : Names ns) : Names ns.reverse := h.perm (List.reverse_perm _)
theorem Names.turn {ns : List Str} (h : Names ns) (t n : Nat) : Names ((ns.drop t ++ ns.take t).take n) :=
  Names.sublist (ns := ns.drop t ++ ns.take t) (h.perm (List.perm_append_comm.trans (by rw [List.take_append_drop]))) (List.take_sublist _ _)
theorem cut_from {xs : List V} {t : Int} (h0 : 0 ≤ t) (h1 : t ≤ xs.length) : cutV xs (some t) none = xs.drop t.toNat := by
  have e : HT.sIx xs.length 0 (some t) = t.toNat := by unfold HT.sIx; simp [show ¬ t < 0 by omega]; omega
  unfold cutV
  rw [e]
  have e2 : HT.sIx xs.length xs.length none = xs.length := rfl
  rw [e2]
  exact List.take_of_length_le (by rw [List.length_drop]; omega)
theorem cut_upto {xs : List V} {t : Int} (h0 : 0 ≤ t) : cutV xs none (some t) = xs.take t.toNat := by
  have e : HT.sIx xs.length xs.length (some t) = min t.toNat xs.length := by unfold HT.sIx; simp [show ¬ t < 0 by omega]
  unfold cutV
  rw [e]
  have e2 : HT.sIx xs.length 0 none = 0 := rfl
  rw [e2, List.drop_zero, Nat.sub_zero, Nat.min_comm]
  rw [← List.take_take]
  exact List.take_of_length_le (by rw [List.length_take]; omega)
theorem rng_get {lo : Int} {n i : Nat} {x : V} (h : ((List.range n).map fun (i : Nat) => V.int (lo + (i : Int)))[i]? = some x) : x = .int (lo + (i : Int)) ∧ i < n := by
  rw [List.getElem?_map] at h
  cases e : (List.range n)[i]? with
  | none => rw [e] at h; cases h
  | some j =>
    rw [e] at h
    cases h
    have e1 := List.getElem?_eq_some_iff.mp e
    obtain ⟨h1, h2⟩ := e1
    rw [List.length_range] at h1
    rw [List.getElem_range] at h2
    subst h2
    exact ⟨rfl, h1⟩
noncomputable def fI (F : Int → V) : V → V
  | .int k => F k
  | v => v
theorem map_rng {lo : Int} {n : Nat} {F : Int → V} {G : Nat → Str} (h : ∀ k < n, F (lo + (k : Int)) = .str (G k)) : ((List.range n).map fun (i : Nat) => V.int (lo + (i : Int))).map (fI F) = ((List.range n).map G).map V.str := by
  rw [List.map_map, List.map_map]
  refine List.map_congr_left fun k hk => ?_
  exact h k (List.mem_range.mp hk)
theorem LL_line : LL.length ≤ sizeLine := by rw [LL_len, sizeLine_eq]; omega
theorem step_names {ns : List Str} (h : Names ns) {k : Int} : ∃ ms, stepV (ns.map V.str) k = ms.map V.str ∧ Names ms ∧ ms.length = ns.length := by
  unfold stepV
  split
  · exact ⟨ns, rfl, h, rfl⟩
  · exact ⟨ns.reverse, by rw [List.map_reverse], h.reverse, List.length_reverse ..⟩
theorem ExtBut.off {d q : Addr} {H H1 H2 : Hp} (e : ExtBut d H H1) (hq : H q = none) (e2 : ExtBut q H1 H2) : ExtBut d H H2 := fun b o n h => e2 b o (ne_of_none h hq) (e b o n h)
theorem Same.off {q : Addr} {H H1 H2 : Hp} (e : Same H H1) (hq : H q = none) (e2 : ExtBut q H1 H2) : Same H H2 := fun b o h => e2 b o (ne_of_none h hq) (e b o h)
noncomputable def Up (ls : List Str) (ps : List (Str × Str)) : Prop := ∀ p ∈ ps, ∃ i j : Nat, i < j ∧ ls[i]? = some p.1 ∧ ls[j]? = some p.2
theorem Up.nil {ls : List Str} : Up ls [] := fun _ h => by cases h
theorem Up.append {ls : List Str} {ps qs : List (Str × Str)} (h : Up ls ps) (g : Up ls qs) : Up ls (ps ++ qs) := fun p hp => by
  rcases List.mem_append.mp hp with hp | hp
  · exact h p hp
  · exact g p hp
theorem Up.one {ls : List Str} {x y : Str} {i j : Nat} (h : i < j) (hx : ls[i]? = some x) (hy : ls[j]? = some y) : Up ls [(x, y)] := fun p hp => by
  have : p = (x, y) := by simpa using hp
  subst this
  exact ⟨i, j, h, hx, hy⟩
theorem Up.sub {ls : List Str} {ps qs : List (Str × Str)} (h : Up ls ps) (s : ∀ p ∈ qs, p ∈ ps) : Up ls qs := fun p hp => h p (s p hp)
theorem str_at? {ls : List Str} {i : Int} (h0 : 0 ≤ i) (h1 : i < ls.length) : ∃ z, ls[i.toNat]? = some z ∧ atI (ls.map V.str) i = some (.str z) ∧ atI ls i = some z := by
  have h2 : i.toNat < ls.length := by omega
  refine ⟨ls[i.toNat], List.getElem?_eq_getElem h2, ?_, ?_⟩
  · have := atI_nat (xs := ls.map V.str) (j := i.toNat) (v := .str ls[i.toNat]) (by rw [List.getElem?_map, List.getElem?_eq_getElem h2]; rfl)
    rwa [Int.toNat_of_nonneg h0] at this
  · have := atI_nat (List.getElem?_eq_getElem h2)
    rwa [Int.toNat_of_nonneg h0] at this
theorem perm_erase {α : Type} : ∀ (us : List α) (k : Nat) (y : α), us[k]? = some y → (y :: us.eraseIdx k).Perm us
  | [], k, y, h => by simp at h
  | u :: us, 0, y, h => by
    have : u = y := by simpa using h
    subst this
    exact List.Perm.refl _
  | u :: us, k + 1, y, h => by
    have ih := perm_erase us k y (by simpa using h)
    exact (List.Perm.swap u y _).trans (ih.cons u)
theorem perm_pop {α : Type} {us : List α} {k : Nat} {y : α} (h : us[k]? = some y) (vs : List α) : (vs ++ [y] ++ us.eraseIdx k).Perm (vs ++ us) := by
  rw [List.append_assoc]
  exact List.Perm.append_left vs (perm_erase us k y h)
theorem getD_of {α : Type} {l : List α} {i : Nat} {x y : α} (h : l[i]? = some x) : l.getD i y = x := by rw [List.getD_eq_getElem?_getD, h]; rfl
theorem map_prD {α : Type} (as : List α) (f : α → Str × Str) : as.map (fun a => prD (f a)) = (as.map f).map prD := by rw [List.map_map]; rfl
theorem get_getD {α : Type} {l : List α} {i : Nat} {y : α} (h : i < l.length) : l[i]? = some (l.getD i y) := by rw [List.getD_eq_getElem?_getD, List.getElem?_eq_getElem h]; rfl
end L2
set_option Elab.async false
set_option linter.all false
set_option maxRecDepth 100000
set_option maxHeartbeats 4000000
namespace L2
open PySem PySem.Spec PyProof.Rows
inductive Way (ps : List (Str × Str)) : Str → Str → Prop
  | one {x y : Str} : (x, y) ∈ ps → Way ps x y
  | cons {x z y : Str} : (x, z) ∈ ps → Way ps z y → Way ps x y
theorem Up.mem {ls : List Str} {ps : List (Str × Str)} (h : Up ls ps) {p : Str × Str} (hp : p ∈ ps) : p.1 ∈ ls ∧ p.2 ∈ ls := by
  obtain ⟨i, j, _, h2, h3⟩ := h p hp
  exact ⟨List.mem_of_getElem? h2, List.mem_of_getElem? h3⟩
structure Half (ns : List Str) (ps : List (Str × Str)) : Prop where
  names : Names ns
  few : ns.length ≤ 10
  le : ps.length ≤ 60
  line : ∃ ls : List Str, ls.Perm ns ∧ Up ls ps
theorem Half.mem {ns : List Str} {ps : List (Str × Str)} (h : Half ns ps) {p : Str × Str} (hp : p ∈ ps) : p.1 ∈ ns ∧ p.2 ∈ ns := by
  obtain ⟨ls, h1, h2⟩ := h.line
  have := h2.mem hp
  exact ⟨h1.mem_iff.mp this.1, h1.mem_iff.mp this.2⟩
mutual
def plainD : PyData → Bool
  | .none => true
  | .bool _ => true
  | .str x => PyData.strOk x
  | .list ds => plainL ds
  | .tuple ds => plainL ds
  | _ => false
def plainL : List PyData → Bool
  | [] => true
  | d :: ds => plainD d && plainL ds
end
mutual
theorem plain_lay : ∀ d : PyData, plainD d = true → d.canLay0 = true
  | .none, _ => by simp only [PyData.canLay0]
  | .bool _, _ => by simp only [PyData.canLay0]
  | .str x, h => by simpa only [PyData.canLay0, plainD] using h
  | .list ds, h => by simp only [PyData.canLay0]; exact plain_layL ds (by simpa only [plainD] using h)
  | .tuple ds, h => by simp only [PyData.canLay0]; exact plain_layL ds (by simpa only [plainD] using h)
  | .int _, h => by simp [plainD] at h
  | .dict _, h => by simp [plainD] at h
theorem plain_layL : ∀ ds : List PyData, plainL ds = true → PyData.canLayAll0 ds = true
  | [], _ => by simp only [PyData.canLayAll0]
  | d :: ds, h => by
    simp only [plainL, Bool.and_eq_true] at h
    simp only [PyData.canLayAll0, plain_lay d h.1, plain_layL ds h.2, Bool.and_self]
end
theorem nm_ok {z : Str} (h : isNm z = true) : PyData.strOk z = true ∧ z.cps.size ≤ 8 := by
  unfold isNm at h
  simp only [Bool.and_eq_true, decide_eq_true_eq] at h
  refine ⟨?_, h.1.2⟩
  unfold PyData.strOk
  rw [← Array.all_toList, List.all_eq_true]
  intro c hc
  have := List.all_eq_true.mp h.2 c hc
  unfold smallN at this
  simp only [Bool.and_eq_true, decide_eq_true_eq] at this
  exact decide_eq_true (by omega)
theorem plainL_map {α : Type} (f : α → PyData) : ∀ xs : List α, (∀ a ∈ xs, plainD (f a) = true) → plainL (xs.map f) = true
  | [], _ => by simp only [List.map_nil, plainL]
  | x :: xs, h => by simp only [List.map_cons, plainL, h x List.mem_cons_self, plainL_map f xs fun a ha => h a (List.mem_cons_of_mem _ ha), Bool.and_self]
theorem depth_map {α : Type} (f : α → PyData) (n : Nat) : ∀ xs : List α, (∀ a ∈ xs, (f a).depth ≤ n) → PyData.depthAll (xs.map f) ≤ n
  | [], _ => by simp only [List.map_nil, PyData.depthAll]; omega
  | x :: xs, h => by
    have h1 := h x List.mem_cons_self
    have h2 := depth_map f n xs fun a ha => h a (List.mem_cons_of_mem _ ha)
    simp only [List.map_cons, PyData.depthAll]
    omega
noncomputable def NmP (ps : List (Str × Str)) : Prop := ∀ p ∈ ps, isNm p.1 = true ∧ isNm p.2 = true
theorem fine_lst {ns : List Str} (h : ∀ z ∈ ns, PyData.strOk z = true) : SeqAt.shaped (.list (ns.map PyData.str)) = true := by
  unfold SeqAt.shaped
  have e : (PyData.list (ns.map PyData.str)).canLay0 = true := plain_lay _ (by simp only [plainD]; exact plainL_map _ ns fun z hz => by simp only [plainD]; exact h z hz)
  have e2 : (PyData.list (ns.map PyData.str)).depth ≤ 64 := by
    simp only [PyData.depth]
    have := depth_map PyData.str 0 ns fun z hz => by simp only [PyData.depth]; omega
    omega
  rw [e, decide_eq_true e2]
  rfl
theorem nodup_le {α : Type} [DecidableEq α] : ∀ {xs ys : List α}, xs.Nodup → (∀ x ∈ xs, x ∈ ys) → xs.length ≤ ys.length
  | [], _, _, _ => Nat.zero_le _
  | x :: xs, ys, h, hs => by
    rw [List.nodup_cons] at h
    have hx : x ∈ ys := hs x List.mem_cons_self
    have ih := nodup_le (xs := xs) (ys := ys.erase x) h.2 fun z hz => by
      refine (List.mem_erase_of_ne ?_).mpr (hs z (List.mem_cons_of_mem _ hz))
      intro e
      subst e
      exact h.1 hz
    rw [List.length_erase_of_mem hx] at ih
    have : 0 < ys.length := List.length_pos_of_mem hx
    rw [List.length_cons]
    omega
section
variable {c : TT} {tb : TS} {D : Ends} {σ : St} {H : Hp}
end
end L2
set_option Elab.async false
set_option linter.all false
set_option maxRecDepth 100000
set_option maxHeartbeats 4000000
namespace L2
open PySem PySem.Spec PyProof.Rows
section
variable {X : Cx} {K : PySem.W.Frag}
end
end L2
set_option Elab.async false
set_option linter.all false
set_option maxRecDepth 100000
set_option maxHeartbeats 4000000
namespace L2
open PySem PySem.Spec PyProof.Rows
section
variable {prog : Program} {w : World} {κ : Type} [DecidableEq κ] {knd : KeyKind prog w κ} {A : Around} {E : Value → Shared → Prop} {s : Shared}
end
section
variable {X : Cx} {K : PySem.W.Frag}
end
end L2
set_option Elab.async false
set_option linter.all false
set_option maxRecDepth 100000
set_option maxHeartbeats 4000000
namespace L2
open PySem PySem.Spec PyProof.Rows
noncomputable def addK (ks : List Str) (y : Str) : List Str := if y ∈ ks then ks else ks ++ [y]
theorem mem_addK {ks : List Str} {y z : Str} : z ∈ addK ks y ↔ z ∈ ks ∨ z = y := by
  unfold addK
  split
  · constructor
    · exact .inl
    · rintro (h | rfl)
      · exact h
      · assumption
  · simp
theorem nodup_addK {ks : List Str} {y : Str} (h : ks.Nodup) : (addK ks y).Nodup := by
  unfold addK
  split
  · exact h
  · rename_i hy
    rw [List.nodup_append]
    refine ⟨h, by simp, fun a ha b hb e => ?_⟩
    have : b = y := by simpa using hb
    subst this
    subst e
    exact hy ha
noncomputable def addAll (ks ms : List Str) : List Str := ms.foldl addK ks
theorem mem_addAll : ∀ {ms ks : List Str} {z : Str}, z ∈ addAll ks ms ↔ z ∈ ks ∨ z ∈ ms
  | [], ks, z => by simp [addAll]
  | m :: ms, ks, z => by
    show z ∈ addAll (addK ks m) ms ↔ _
    rw [mem_addAll, mem_addK, List.mem_cons, or_assoc]
theorem nodup_addAll : ∀ {ms ks : List Str}, ks.Nodup → (addAll ks ms).Nodup
  | [], ks, h => h
  | m :: ms, ks, h => nodup_addAll (ms := ms) (nodup_addK h)
section
variable {K : PySem.W.Frag} {H : Hp} {Q : VK} {r : Addr} {ns : List Str} {as : List Addr} {R : Str → Str → Prop}
end
structure HalfW (ns : List Str) (ps : List (Str × Str)) : Prop where
  nd : ns.Nodup
  mem : ∀ p ∈ ps, p.1 ∈ ns ∧ p.2 ∈ ns
  irr : ∀ x, ¬ Way ps x x
  few : ns.length ≤ 100
  le : ps.length ≤ 1000
end L2
namespace L2
open PySem PySem.Spec PyProof.Rows
end L2
set_option Elab.async false
set_option linter.all false
set_option maxRecDepth 100000
set_option maxHeartbeats 4000000
namespace L2
open PySem PySem.Spec PyProof.Rows
open Classical in
theorem iteR {α : Type} {a : α} {A B : Prop} [Decidable (a = a)] (h : A) : if decide (a = a) = true then A else B := by rw [if_pos (by simp)]; exact h
section
variable {K : PySem.W.Frag} {H : Hp} {σ : St} {x : V} {Q : VK}
theorem comp_nm {ns : List Str} {g : TG} {tt : TT} {te : TE} {k : Nat} {js : List Nat} (h : Is K H (nmD ns) x) (t : Str → Bool) (f : Str → PyData) (hf : ∀ a, frz (f a) = true) (hz : ns.length ≤ 1000000)
    (hs : ∀ (i : Nat) a H1 (R : VK) (R' : Hp → Prop), ns[i]? = some a → Same H H1 → (t a = true → ∀ y H2, Same H1 H2 → Is K H2 (f a) y → R y H2) → (t a = false → ∀ H2, Same H1 H2 → R' H2) →
      g (.str a) (List.replicate k none ++ pick σ js) H1 fun σ2 H2 => tt σ2 H2 fun b H3 => if b = true then te σ2 H3 R else R' H3)
    (hd : ∀ p ys H', H p = none → Same H H' → H' p = some (.lst ys) → IsL K H' ((ns.filter t).map f) ys → Q (.ref p) H') : rAnyIt K x H fun J H1 => rComp k js g tt te σ J H1 Q := by
  obtain ⟨a, rfl, hS⟩ := h.nm
  refine i_itT hS (comp_dat (K := K) (walk_tup (xs := ns.map V.str)) ns (by simp) t f hf (by simpa using hz) (fun H' e => e.seqT hS) (fun i z v H1 R R' hz hv e hR hR' => ?_) hd)
  rw [List.getElem?_map, hz] at hv
  cases hv
  exact hs i z H1 R R' hz e hR hR'
theorem comp_ps {ps : List (Str × Str)} {g : TG} {tt : TT} {te : TE} {k : Nat} {js : List Nat} (h : Is K H (psD ps) x) (t : Str × Str → Bool) (f : Str × Str → PyData) (hf : ∀ a, frz (f a) = true) (hz : ps.length ≤ 1000000)
    (hs : ∀ (i : Nat) a v H1 (R : VK) (R' : Hp → Prop), ps[i]? = some a → Is K H1 (prD a) v → Same H H1 → (t a = true → ∀ y H2, Same H1 H2 → Is K H2 (f a) y → R y H2) → (t a = false → ∀ H2, Same H1 H2 → R' H2) →
      g v (List.replicate k none ++ pick σ js) H1 fun σ2 H2 => tt σ2 H2 fun b H3 => if b = true then te σ2 H3 R else R' H3)
    (hd : ∀ p ys H', H p = none → Same H H' → H' p = some (.lst ys) → IsL K H' ((ps.filter t).map f) ys → Q (.ref p) H') : rAnyIt K x H fun J H1 => rComp k js g tt te σ J H1 Q := by
  obtain ⟨a, xs, rfl, hS, hL⟩ := Is.tup h
  have hl : ps.length = xs.length := by rw [← IsL.length hL, List.length_map]
  refine i_itT hS (comp_dat (K := K) (walk_tup (xs := xs)) ps hl t f hf (by omega) (fun H' e => e.seqT hS) (fun i z v H1 R R' hz hv e hR hR' => ?_) hd)
  obtain ⟨d, e1, e2⟩ := IsL.get (IsL.mono e _ _ hL) hv
  rw [List.getElem?_map, hz] at e1
  cases e1
  exact hs i z v H1 R R' hz e2 e hR hR'
theorem i_tupNm {ns : List Str} {a : Addr} {ys : List V} (h : H a = some (.lst ys)) (g : IsL K H (ns.map PyData.str) ys) (k : ∀ v H', Same H H' → Is K H' (nmD ns) v → Q v H') : rTupleA K [.ref a] H Q := by
  have e := IsL.str_eq g
  subst e
  exact i_tupleL (SqL.of h) fun p H' hp e h' => k _ H' e (is_nm (SqT.of h'))
theorem i_tupPs {ps : List (Str × Str)} {a : Addr} {ys : List V} (h : H a = some (.lst ys)) (g : IsL K H (ps.map prD) ys) (k : ∀ v H', Same H H' → Is K H' (psD ps) v → Q v H') : rTupleA K [.ref a] H Q :=
  i_tupleL (SqL.of h) fun p H' hp e h' => k _ H' e (Is.of_tup (SqT.of h') (IsL.mono e _ _ g))
end
end L2
set_option Elab.async false
set_option linter.all false
set_option maxRecDepth 100000
set_option maxHeartbeats 4000000
namespace L2
open PySem PySem.Spec PyProof.Rows
open AutoSeq1 (wpAny_loadPart')
section
variable {prog : Program} {w : World} {A : Around} {E : Value → Shared → Prop} {s : Shared}
end
section
variable {X : Cx} {K : PySem.W.Frag}
end
section
variable {K : PySem.W.Frag} {σ : St} {H : Hp}
end
end L2
set_option Elab.async false
set_option linter.all false
set_option maxRecDepth 100000
set_option maxHeartbeats 4000000
namespace L2
open PySem PySem.Spec PyProof.Rows
section
variable {X : Cx} {K : PySem.W.Frag}
section
variable {H : Hp} {Q : VK} {lo hi : Option Int}
theorem i_addT {a b : Addr} {xs ys : List V} (h1 : SqT K H a xs) (h2 : SqT K H b ys) (h : xs.length + ys.length ≤ sizeLine) (k : ∀ p H', Same H H' → SqT K H' p (xs ++ ys) → Q (.ref p) H') : rAddA K (.ref a) (.ref b) H Q := by
  by_cases hx : xs = []
  · subst hx
    exact .inr (.inr (.inr (.inr ⟨a, b, ys, rfl, rfl, h1, h2, k b H (Same.refl _) h2⟩)))
  · refine .inr (.inr (.inr (.inl ⟨a, b, xs, ys, rfl, rfl, h1, h2, hx, h, fun e => ?_, fun _ p hp => k p _ (Same.upd hp) (SqT.of upd_same)⟩)))
    subst e
    exact k a H (Same.refl _) (by rw [List.append_nil]; exact h1)
theorem i_slT {a : Addr} {xs : List V} (h : SqT K H a xs) (k : ∀ p H', Same H H' → SqT K H' p (cutV xs lo hi) → Q (.ref p) H') : rSlA K (.ref a) lo hi H Q := by
  by_cases hw : HT.sIx xs.length 0 lo = 0 ∧ HT.sIx xs.length xs.length hi = xs.length
  · refine .inr (.inr (.inr ⟨a, xs, rfl, h, hw, k a H (Same.refl _) ?_⟩))
    have e : cutV xs lo hi = xs := by
      unfold cutV
      rw [hw.1, hw.2, List.drop_zero, Nat.sub_zero, List.take_length]
    rw [e]
    exact h
  · exact .inr (.inl ⟨a, xs, rfl, h, hw, fun p hp => k p _ (Same.upd hp) (SqT.of upd_same)⟩)
theorem i_inX {x y : V} {d : PyData} {ds : List PyData} (hx : Is K H d x) (hy : Is K H (.list ds) y ∨ Is K H (.tuple ds) y) (h1 : PyData.canLayAll0 ds = true) (h2 : d.canLay0 = true) (h3 : d.depth ≤ 100) (k : Q (.bl (ds.any fun e => PyData.eqv e d)) H) : rInA K false x y H Q := .inr (.inr (.inr ⟨d, ds, hx, hy, h1, h2, h3, k⟩))
end
theorem count_eqU {x : V} : ∀ {xs : List V} {us : List Value}, Vals xs us → xs.all flatV = true → us.countP (eqU x) = xs.countP fun y => eqV y x
  | _, _, .nil, _ => rfl
  | y :: xs, u :: us, .cons r t, f => by
    rw [List.all_cons, Bool.and_eq_true] at f
    rw [List.countP_cons, List.countP_cons, eqU_of r f.1, count_eqU t f.2]
theorem eqV_str (a b : Str) : eqV (.str a) (.str b) = decide (a = b) := by
  show (a == b) = _
  by_cases h : a = b <;> simp [h]
end
end L2
set_option Elab.async false
set_option linter.all false
set_option maxRecDepth 100000
set_option maxHeartbeats 4000000
namespace L2
open PySem PySem.Spec PyProof.Rows
section
variable {K : PySem.W.Frag} {σ : St} {H : Hp} {Q : VK} {td ty : TE}
theorem i_andV {ta tb : TE} (k : ta σ H fun x H1 => ∃ c, x = .bl c ∧ if c = true then tb σ H1 Q else Q (.bl false) H1) : tAndV ta tb σ H Q := k
theorem i_ninB {a : Addr} {bs : List Bool} (h : SqL K H a (bs.map V.bl)) (k : Q (.bl (!bs.any id)) H) : rInA K true (.bl true) (.ref a) H Q := .inl ⟨a, _, rfl, .inl h, rfl, by
    rw [List.all_eq_true]
    intro v h
    obtain ⟨n, _, rfl⟩ := List.mem_map.mp h
    rfl, by
    have e : inV (.bl true) (bs.map V.bl) = bs.any id := by
      clear h k
      unfold inV
      induction bs with
      | nil => rfl
      | cons b bs ih =>
        rw [List.map_cons, List.any_cons, List.any_cons, ih]
        cases b <;> rfl
    rw [e]
    exact k⟩
theorem i_inBF {a : Addr} {bs : List Bool} (h : SqL K H a (bs.map V.bl)) (k : Q (.bl (!bs.all id)) H) : rInA K false (.bl false) (.ref a) H Q := .inl ⟨a, _, rfl, .inl h, rfl, by
    rw [List.all_eq_true]
    intro v h
    obtain ⟨n, _, rfl⟩ := List.mem_map.mp h
    rfl, by
    have e : inV (.bl false) (bs.map V.bl) = !bs.all id := by
      clear h k
      unfold inV
      induction bs with
      | nil => rfl
      | cons b bs ih =>
        rw [List.map_cons, List.any_cons, List.all_cons, ih]
        cases b <;> simp [eqV]
    show Q (.bl (inV (.bl false) (bs.map V.bl))) H
    rw [e]
    exact k⟩
end
end L2
set_option Elab.async false
set_option linter.all false
set_option maxRecDepth 100000
set_option maxHeartbeats 4000000
namespace L2
open PySem PySem.Spec PyProof.Rows
section
variable {K : PySem.W.Frag} {σ : St} {H : Hp} {Q : VK} {r : Addr} {ns : List Str} {as : List Addr} {R : Str → Str → Prop}
end
section
variable {K : PySem.W.Frag} {H : Hp} {σ : St}
end
end L2
set_option Elab.async false
set_option linter.all false
set_option maxRecDepth 100000
set_option maxHeartbeats 4000000
namespace L2
open PySem PySem.Spec PyProof.Rows
end L2
set_option Elab.async false
set_option linter.all false
set_option maxRecDepth 100000
set_option maxHeartbeats 4000000
namespace L2
open PySem PySem.Spec PyProof.Rows
section
variable {prog : Program} {w : World} {A : Around} {E : Value → Shared → Prop} {s : Shared}
end
section
variable {X : Cx} {K : PySem.W.Frag}
end
section
variable {K : PySem.W.Frag} {σ : St} {H : Hp}
end
end L2
set_option Elab.async false
set_option linter.all false
set_option maxRecDepth 100000
set_option maxHeartbeats 4000000
namespace L2
open PySem PySem.Spec PyProof.Rows
section
variable {K : PySem.W.Frag} {H : Hp} {Q : VK}
end
theorem IsL.bl_eq {α : Type} {K : PySem.W.Frag} {H : Hp} {f : α → Bool} : ∀ {as : List α} {vs : List V}, IsL K H (as.map fun a => PyData.bool (f a)) vs → vs = (as.map f).map V.bl
  | [], vs, h => by simp only [List.map_nil, IsL] at h; exact h
  | n :: ns, vs, h => by
    simp only [List.map_cons, IsL, Is] at h
    obtain ⟨v, r, rfl, rfl, e3⟩ := h
    rw [IsL.bl_eq e3]
    rfl
theorem comp_bls {α : Type} {K : PySem.W.Frag} {H : Hp} {σ : St} {J : It} {xs : List V} {G : Hp → Prop} {g : TG} {te : TE} {Q : VK} {k : Nat} {js : List Nat} (hw : WalkOf J xs G) (as : List α) (hl : as.length = xs.length) (f : α → Bool) (hz : xs.length ≤ 1000000) (hG : ∀ H', Same H H' → G H')
    (hs : ∀ (i : Nat) a v H1 (R : VK), as[i]? = some a → xs[i]? = some v → Same H H1 → (∀ H2, Same H1 H2 → R (.bl (f a)) H2) → g v (List.replicate k none ++ pick σ js) H1 fun σ2 H2 => te σ2 H2 R)
    (hd : ∀ p H', H p = none → Same H H' → SqL K H' p ((as.map f).map V.bl) → Q (.ref p) H') : rComp k js g tTrue te σ J H Q := by
  refine comp_dat (K := K) hw as hl (fun _ => true) (fun a => PyData.bool (f a)) (fun _ => rfl) hz hG (fun i a v H1 R R' ha hv e hR hR' => ?_) (fun p ys H' hp e h hL => ?_)
  · exact hs i a v H1 R ha hv e fun H2 e2 => hR rfl _ H2 e2 is_bl
  · rw [filter_true] at hL
    have := IsL.bl_eq hL
    subst this
    exact hd p H' hp e (SqL.of h)
end L2
set_option Elab.async false
set_option linter.all false
set_option maxRecDepth 100000
set_option maxHeartbeats 4000000
namespace L2
open PySem PySem.Spec PyProof.Rows
section
variable {P : Program} {w : World} {κ : Type} [DecidableEq κ] {knd : KeyKind P w κ} {A : Around} {E : Value → Shared → Prop} {s : Shared}
end
section
variable {X : Cx} {pins : List (Addr × Obj)} {σ : St} {H : Hp} {s : Shared} {A : Around}
end
end L2
set_option Elab.async false
set_option linter.all false
set_option maxRecDepth 100000
set_option maxHeartbeats 4000000
namespace L2
open PySem PySem.Spec PyProof.Rows
section
variable {prog : Program} {w : World} {A : Around} {E : Value → Shared → Prop} {s : Shared}
end
section
variable {X : Cx} {K : PySem.W.Frag}
end
end L2
set_option Elab.async false
set_option linter.all false
set_option maxRecDepth 100000
set_option maxHeartbeats 4000000
namespace L2
open PySem PySem.Spec PyProof.Rows
end L2
set_option Elab.async false
set_option linter.all false
set_option maxRecDepth 100000
set_option maxHeartbeats 4000000
namespace L2
open PySem PySem.Spec PyProof.Rows
noncomputable def inS (ns : List Str) : Key → Bool
  | .inr z => decide (z ∈ ns)
  | .inl _ => false
theorem inS_more (ns : List Str) (z : Str) (k : Key) : inS (ns ++ [z]) k = (inS ns k || decide (k = Sum.inr z)) := by
  cases k with
  | inl i => simp [inS]
  | inr y =>
    simp only [inS, List.mem_append, List.mem_singleton, Bool.decide_or]
    congr 1
    simp
theorem addAll_more (ms : List Str) (z : Str) : (addAll [] (ms ++ [z])).length = if inS ms (Sum.inr z) = true then (addAll [] ms).length else (addAll [] ms).length + 1 := by
  unfold addAll
  rw [List.foldl_append]
  show (addK (addAll [] ms) z).length = _
  unfold addK
  have e : (z ∈ addAll [] ms) ↔ z ∈ ms := by rw [mem_addAll]; simp
  by_cases h : z ∈ ms
  · rw [if_pos (e.mpr h), if_pos (by simpa [inS] using h)]
    rfl
  · rw [if_neg (fun q => h (e.mp q)), if_neg (by simpa [inS] using h), List.length_append, List.length_singleton]
    rfl
theorem addAll_le : ∀ ms : List Str, (addAll [] ms).length ≤ ms.length := fun ms => by
  have g := nodup_le (ys := ms) (nodup_addAll (ms := ms) (ks := []) (by simp)) fun z hz => by
    rcases mem_addAll.mp hz with h | h
    · cases h
    · exact h
  exact g
section
variable {P : Program} {w : World} {A : Around} {R : Result → Shared → Prop} {it : Addr} {fp wr : List Addr} {G : Array GenState → Array GenState → Prop} {n : Nat} {PV : Nat → Value → Prop} {St : Nat → Shared → Prop}
theorem key_str (z : Str) (t : Tok) : (mixKind P w).is (Sum.inr z) (.str z t) = true := by
  show keyIs (Sum.inr z) (.str z t) = true
  simp [keyIs, Value.isStrOf]
theorem set_loop (W : WalksS P w A.in1 it fp wr G n PV St) (D : Addr) (hD : D ∉ fp) (ns : List Str) (hval : ∀ i v, PV i v → ∃ z t, ns[i]? = some z ∧ v = .str z t) (hb : n + 1 < scanBound) (hn : ns.length = n) :
    ∀ (k i : Nat) (s : Shared), n - i = k → i ≤ n → St i s → s.heap.SetOf (mixKind P w) D (inS (ns.take i)) (addAll [] (ns.take i)).length →
      (∀ s', Moved (D :: wr) G s s' → s'.heap.SetOf (mixKind P w) D (inS ns) (addAll [] ns).length → R (.ok (.ret .none)) s') →
      codeAny (model P w) A (.builtin "set.update.loop" ⟨[.ref D, .ref it], []⟩) R s := by
  have hDw : D ∉ wr := fun h => hD (W.sub _ h)
  have sub : ∀ b ∈ wr, b ∈ D :: wr := fun b h => .tail _ h
  have stays : ∀ {s s' : Shared} {f : Key → Bool} {m : Nat}, Moved wr G s s' → s.heap.SetOf (mixKind P w) D f m → s'.heap.SetOf (mixKind P w) D f m := fun hm ⟨o, es, ep, t, ho, r⟩ => ⟨o, es, ep, t, hm.heap D _ hDw ho, r⟩
  intro k
  induction k with
  | zero =>
    intro i s hk hi st hS hR
    obtain rfl : i = n := by omega
    rw [List.take_of_length_le (by omega)] at hS
    refine codeAny_builtin F.entry_set_update_loop ?_
    rw [Around.under_plainId F.plain_set_update_loop]
    refine wpAny_bind (m := pyNext (.ref it)) (W.done s _ _ st fun s' hm => ?_)
    show wpAny _ _ (ret Value.none) _ _ _
    exact wpAny_pure (hR s' (hm.mono sub) (stays hm hS))
  | succ k ih =>
    intro i s hk hi st hS hR
    have hlt : i < n := by omega
    refine codeAny_builtin F.entry_set_update_loop ?_
    rw [Around.under_plainId F.plain_set_update_loop]
    refine wpAny_bind (m := pyNext (.ref it)) (W.item i s _ _ hlt st fun v s' hv st' hm => ?_)
    obtain ⟨z, t, hz, rfl⟩ := hval i v hv
    have ht : ns.take (i + 1) = ns.take i ++ [z] := by rw [List.take_add_one, hz]; rfl
    refine wpAny_bind (m := holding _ (setAdd D (.str z t))) (wpAny_holding ?_)
    unfold setAdd
    refine wpAny_holding (wpAny_bind ((mixKind P w).pyHash (key_str z t) ?_))
    have hle := addAll_le (ns.take i)
    rw [List.length_take] at hle
    refine wpAny_setAddHashed_of (s := { s' with toks := s'.toks + 1 }) (key_str z t) rfl (show s'.heap.SetOf _ _ _ _ from stays hm hS) (by omega) fun h' hsb hS2 => ?_
    have hS3 : h'.SetOf (mixKind P w) D (inS (ns.take (i + 1))) (addAll [] (ns.take (i + 1))).length := by
      rw [ht, addAll_more, show inS (ns.take i ++ [z]) = fun k' => inS (ns.take i) k' || decide (k' = Sum.inr z) from funext (inS_more _ _)]
      exact hS2
    refine wpAny_pure ⟨plainId_quiet F.plain_set_update_loop _, ih (i + 1) _ (by omega) hlt (W.frame _ s' _ _ st' (Nat.le_succ _) fun b hb o e => ?_) hS3 fun s2 hm2 hS4 => ?_⟩
    · have hbD : b ≠ D := fun q => hD (q ▸ hb)
      exact (hsb.2 b hbD).trans e
    · refine hR s2 (Moved.trans W.gtrans ((hm.mono sub).then_heap (Nat.le_succ _) fun b o hb e => ?_) hm2) hS4
      have hbD : b ≠ D := fun q => hb (by rw [q]; exact List.mem_cons_self)
      exact (hsb.2 b hbD).trans e
end
theorem sub_tup_set : isSubtype (.type "tuple") (.type "set") = pure false := by rw [isSubtype_type]; kernel_rfl
theorem sub_tup_fset : isSubtype (.type "tuple") (.type "frozenset") = pure false := by rw [isSubtype_type]; kernel_rfl
section
variable {prog : Program} {w : World} {A : Around} {E : Value → Shared → Prop} {s : Shared}
noncomputable def freshS (led : Bool) : Obj := { cls := .type "set", dict := none, data := .set #[] 0 (.fresh 0 0 led) }
noncomputable def SetTo (prog : Program) (w : World) (s : Shared) (ns : List Str) (h' : Heap) : Prop := h'.SetOf (mixKind prog w) s.heap.objs.size (inS ns) (addAll [] ns).length ∧ ∀ b o, b < s.heap.objs.size → s.heap.get? b = some o → h'.get? b = some o
set_option maxHeartbeats 3200000 in
theorem call_setT {t : Addr} {its : List Value} {ns : List Str} {Q : Value → Shared → Prop} (hh : A.handled = none) (ht : s.heap.IsTuple t its.toArray) (hv : Vals (ns.map V.str) its) (hb : ns.length + 1 < scanBound)
    (h : ∀ (h' : Heap) (k : Nat), SetTo prog w s ns h' → Q (.ref s.heap.objs.size) { s with heap := h', toks := k }) : wpAny (model prog w) A (call (.type "set") [.ref t]) Q E s := by
  have hlen : its.length = ns.length := by rw [← hv.length, List.length_map]
  obtain ⟨c, tl, m1⟩ := F.called_set.mro
  have m2 := F.called_set.made
  have m3 := F.called_set.sub
  have m4 := F.called_set.notType
  have m5 := F.called_set.canCreate
  have m6 := F.typeCall_set_1 (.ref t)
  refine wpAny_call (codeAny_of_tree (show wpAny _ _ (callAny (.type "set") _) _ _ _ from ?_))
  refine wpAny_pure ⟨Code.quiet_builtin _ (by decide +kernel), codeAny_builtin F.entry_type_call ?_⟩
  rw [Around.under_plain (weight_type_call_type "set" [Value.ref t] []) rfl]
  repeat (any_goals (first | assumption | wp_step))
  refine codeAny_mono (code_set_new_1 (Value.ref t) (E := E) (Q₁ := fun x s₁ => ∃ led : Bool, x = .ref s.heap.objs.size ∧ s₁ = { s with heap := s.heap.push (freshS led) }) fun led => ⟨led, rfl, rfl⟩) fun r s₁ hr => ?_
  cases r with
  | error e => exact hr
  | ok fl =>
    cases fl with
    | ret x =>
      obtain ⟨led, rfl, rfl⟩ := hr
      have hN : (s.heap.push (freshS led)).get? s.heap.objs.size = some (freshS led) := Heap.get?_push_size _ rfl
      have hT : Shared.TypeIs { s with heap := s.heap.push (freshS led) } (.ref s.heap.objs.size) "set" := ⟨_, hN, rfl⟩
      have n1 := F.called_set.init.lookup
      have n2 := F.called_set.init.bind (.ref s.heap.objs.size)
      repeat (any_goals (first | assumption | wp_step))
      refine codeAny_mono (codeAny_call_builtin (R := wants (fun r s₂ => r = .none ∧ ∃ h' k, s₂ = { s with heap := h', toks := k } ∧ SetTo prog w s ns h') E) F.called_set.init.plain F.entry_set_init (check_set_init_1 hT ?_)) fun r₂ s₂ hr₂ => ?_
      · obtain ⟨⟨oc, od, odt, osl⟩, g1, g2, nl, g3⟩ := id ht
        simp only at g2 g3
        subst g2 g3
        have g4 : (s.heap.push (freshS led)).get? t = some { cls := .type "tuple", dict := od, data := .seq its.toArray nl, slots := osl } := Heap.get?_push_of_some _ g1
        have q1 := sub_tup_set
        have q2 := sub_tup_fset
        have q3 : (Value.type "tuple" == Value.type "dict") = false := by decide
        have ht1 : (s.heap.push (freshS led)).IsTuple t its.toArray := ⟨_, g4, rfl, nl, rfl⟩
        unfold Builtin.«set.__init__» noKeywords Builtin.Frozenset.updateFrom
        generalize hPI : pyIter = PI
        wp_walk
        subst hPI
        refine wpAny_pyIter_tuple ht1 (wpAny_bind (wpAny_runValue ?_))
        have htl : t < s.heap.objs.size := Heap.lt_size g1
        have hz : (s.heap.push (freshS led)).objs.size = s.heap.objs.size + 1 := Heap.size_push ..
        refine set_loop ((Walks.tuple (by simp [hh]) _ t (by rw [hz]; exact Nat.ne_of_lt (Nat.lt_succ_of_lt htl)) its.toArray).toS) s.heap.objs.size (by rw [hz]; simp only [List.mem_cons, List.not_mem_nil, or_false, not_or]; exact ⟨Nat.ne_of_lt (Nat.lt_succ_self _), Nat.ne_of_gt htl⟩) ns (fun i v hv' => ?_) (by rw [List.size_toArray]; omega) (by rw [List.size_toArray]; omega) _ 0 _ rfl (Nat.zero_le _) ⟨⟨_, Heap.get?_push_size _ rfl, rfl, rfl⟩, ht1.push _⟩ ?_ ?_
        · have hv2 : its[i]? = some v := by rw [← List.getElem?_toArray]; exact hv'
          have hi : i < ns.length := by
            have := (List.getElem?_eq_some_iff.mp hv2).1
            omega
          obtain ⟨u, hu, ru⟩ := hv.get (i := i) (x := .str ns[i]) (by rw [List.getElem?_map, List.getElem?_eq_getElem hi]; rfl)
          rw [hv2] at hu
          cases hu
          obtain ⟨k, rfl⟩ := ru
          exact ⟨_, k, List.getElem?_eq_getElem hi, rfl⟩
        · have e : inS (ns.take 0) = fun _ => false := funext fun k => by cases k <;> simp [inS]
          rw [e]
          exact ⟨freshS led, #[], 0, .fresh 0 0 led, Heap.get?_push_of_some _ hN, ⟨rfl, rfl, rfl⟩, rfl, (fun e he => by simp at he), (fun k => by simp), by simp [scanBound], rfl, rfl⟩
        · intro s' hm hS'
          obtain ⟨h', g', d', k', os'⟩ := s'
          have eg : g' = s.gens := hm.gens
          have ed : d' = s.drawn := hm.drawn
          have eo : os' = s.os := hm.os
          subst eg ed eo
          refine wpAny_pure ?_
          show wpAny _ _ (ret Value.none) _ _ _
          refine wpAny_pure ⟨rfl, h', k', rfl, hS', fun b o hb e => hm.heap b o ?_ (Heap.get?_push_of_some _ (Heap.get?_push_of_some _ e))⟩
          rw [hz]
          simp only [List.mem_cons, List.not_mem_nil, or_false, not_or]
          exact ⟨Nat.ne_of_lt hb, Nat.ne_of_lt (Nat.lt_succ_of_lt hb)⟩
      · cases r₂ with
        | error e => exact hr₂
        | ok fl₂ =>
          cases fl₂ with
          | ret r =>
            obtain ⟨rfl, h', k, rfl, hS⟩ := hr₂
            repeat (any_goals (first | assumption | wp_step))
            exact h _ _ hS
          | _ => exact hr₂.elim
    | _ => exact hr.elim
end
end L2
set_option Elab.async false
set_option linter.all false
set_option maxRecDepth 100000
set_option maxHeartbeats 4000000
namespace L2
open PySem PySem.Spec PyProof.Rows
section
variable {X : Cx} {K : PySem.W.Frag}
noncomputable def rLenSet (K : PySem.W.Frag) : List V → Hp → VK → Prop := fun vs H Q => ∃ a ns, vs = [.ref a] ∧ SqT K H a (ns.map V.str) ∧ ns.length ≤ 1000 ∧ Q (.int ((addAll [] ns).length : Nat)) H
theorem pe_lenset {e : Expr} {ta : TA} {p p2 pos pos2 : Pos} (hc : X.A.handled = none) (hg : Gl X "len") (hm : X.mg "len" = none) (hg2 : Gl X "set") (hm2 : X.mg "set" = none) (ha : PA X [e] ta) (hK : X.K = K := by with_unfolding_all rfl)
    (hs : starEach [e] X.env = [(false, eval e X.env)] := by with_unfolding_all rfl) (hs2 : starEach [.Call (.Name "set" p2) [e] [] pos2] X.env = [(false, eval (.Call (.Name "set" p2) [e] [] pos2) X.env)] := by with_unfolding_all rfl) :
    PE X (.Call (.Name "len" p) [.Call (.Name "set" p2) [e] [] pos2] [] pos) (tCB (rLenSet K) ta) := by
  subst hK
  intro pins s σ H Q I h
  refine wpAny_Call_Name_kw (ld_blt I hg hm PyProof.Rows.Boot.«len» ?_ (by decide) (by decide))
  refine PyProof.Rows.callWith_builtin1 ?_ hs2 rfl
  rw [hs2]
  show wpAny _ _ (spliced ((false, eval (.Call (.Name "set" p2) [e] [] pos2) X.env) :: backTo pos [])) _ _ s
  refine Calls.spliced_cons ?_
  refine wpAny_Call_Name_kw (ld_blt I hg2 hm2 PyProof.Rows.Boot.«set» ?_ (by decide) (by decide))
  refine PyProof.Rows.callWith_type1 (thn (ha pos2 pins s σ H _ I h) fun us s1 ⟨vs, H1, I1, r1, q1⟩ => ?_) hs rfl
  obtain ⟨a, ns, rfl, hq, hz, q⟩ := q1
  obtain ⟨u, rfl, ru⟩ := Vals.one r1
  cases ru
  obtain ⟨its, rv, ht, hz2⟩ := I1.tuple hq
  refine call_setT hc ht rv (by unfold scanBound; omega) fun h' k hS => ?_
  obtain ⟨hS1, hS2⟩ := hS
  have I2 : Inv X pins σ H1 { s1 with heap := h', toks := k } := I1.kept (t' := k) fun b o e => hS2 b o (Heap.lt_size e) e
  refine Calls.spliced_nil ?_
  obtain ⟨o, es, ep, t, ho, hex, hd, _, _, hb, hf, hn⟩ := hS1
  refine call_len_set ho hex hd hf (by unfold scanBound at hb; omega) ?_
  exact ⟨.int _, H1, I2.tok _, ⟨_, by rw [hn]⟩, q⟩
theorem i_lenset {a : Addr} {ns : List Str} {H : Hp} {Q : VK} (h : SqT K H a (ns.map V.str)) (hz : ns.length ≤ 1000) (k : Q (.int ((addAll [] ns).length : Nat)) H) : rLenSet K [.ref a] H Q := ⟨a, ns, rfl, h, hz, k⟩
noncomputable def rSplit : V → List V → Hp → VK → Prop := fun x vs H Q => ∃ z y, x = .str z ∧ vs = [.str y] ∧ (y.length == 0) = false ∧ z.length ≤ 1000000 ∧ (Txt.split z y).length ≤ 1000000 ∧ ∀ p, H p = none → Q (.ref p) (upd H p (.lst ((Txt.split z y).map V.str)))
theorem vals_strs : ∀ (k : Nat) (xs : List Str), Vals (xs.map V.str) (strsFrom k xs)
  | _, [] => .nil
  | k, x :: r => .cons ⟨k, rfl⟩ (vals_strs (k + 1) r)
theorem mt_split : MtM X "str.split" rSplit := by
  intro pins s σ H x vs v us Q I rx rv h
  obtain ⟨z, y, rfl, rfl, hy, hz, hn, q⟩ := h
  obtain ⟨t, rfl⟩ := rx
  obtain ⟨u, rfl, ru⟩ := rv.one
  obtain ⟨tu, rfl⟩ := ru
  have fin : ∀ (its : List Value) (k : Nat), s.toks ≤ k → Vals ((Txt.split z y).map V.str) its → EP X pins σ Q (.ref s.heap.objs.size) { s with heap := s.heap.push { cls := .type "list", data := .seq its.toArray }, toks := k } := fun its k _ r =>
    ⟨.ref _, _, I.laid (t' := k) (o := .lst ((Txt.split z y).map V.str)) (fun b ob e => Heap.get?_push_of_some _ e) (Nat.le_refl _) ⟨by rw [List.length_map]; exact line_of hn, its, 0, r, Heap.get?_push_size _ rfl⟩, rfl, q _ (I.hok.fresh (Nat.le_refl _))⟩
  cases h1 : (decide (z.length < y.length) || decide (Builtin.Str.strKind z < Builtin.Str.strKind y)) with
  | true =>
    have e : Txt.split z y = [z] := by unfold Txt.split; rw [if_pos h1]
    rw [e] at fin
    exact call_meets F.slot_str_split (typeIs_str _ _ _) F.entry_str_split (F.args_str_split_2 _ _) (meets_str_split_cannot_occur z y t tu h1) (fin [.str z t] s.toks (Nat.le_refl _) (.cons ⟨t, rfl⟩ .nil))
  | false =>
    cases h2 : (Builtin.Str.occurrences z y 0 z.length (z.length + 1)).isEmpty with
    | true =>
      have e : Txt.split z y = [z] := by unfold Txt.split; rw [if_neg (by rw [h1]; decide), if_pos h2]
      rw [e] at fin
      exact call_meets F.slot_str_split (typeIs_str _ _ _) F.entry_str_split (F.args_str_split_2 _ _) (meets_str_split_not_found z y t tu h1 hy h2) (fin [.str z t] s.toks (Nat.le_refl _) (.cons ⟨t, rfl⟩ .nil))
    | false =>
      have e : Txt.split z y = Builtin.Str.partsBetween z (Builtin.Str.occurrences z y 0 z.length (z.length + 1)) y.length := by unfold Txt.split; rw [if_neg (by rw [h1]; decide), if_neg (by rw [h2]; decide)]
      rw [e] at fin hn
      exact call_meets F.slot_str_split (typeIs_str _ _ _) F.entry_str_split (F.args_str_split_2 _ _) (meets_str_split_sep z y t tu h1 hy h2 (line_of hz) (line_of hn)) (fin _ _ (Nat.le_add_right _ _) (vals_strs _ _))
theorem i_split {z y : Str} {H : Hp} {Q : VK} (hy : (y.length == 0) = false) (hz : z.length ≤ 1000000) (hn : (Txt.split z y).length ≤ 1000000) (k : ∀ p H', H p = none → Same H H' → H' p = some (.lst ((Txt.split z y).map V.str)) → Q (.ref p) H') : rSplit (.str z) [.str y] H Q :=
  ⟨z, y, rfl, rfl, hy, hz, hn, fun p hp => k p _ hp (Same.upd hp) upd_same⟩
end
theorem txt_join (y : Str) (ws : List Str) : Txt.join y ws = Str.join y ws := StrLaws.glued_eq_join y ws
end L2
set_option Elab.async false
set_option linter.all false
set_option maxRecDepth 100000
set_option maxHeartbeats 4000000
namespace L2
open PySem PySem.Spec PyProof.Rows
noncomputable def bl1 : Str := " "
noncomputable def nmL (ns : List Str) : Str := Str.join bl1 ("names" :: ns)
noncomputable def ahL (p : Str × Str) : Str := Str.join bl1 ["ahead", p.1, p.2]
noncomputable def lnD (ns : List Str) (ps : List (Str × Str)) : List Str := nmL ns :: ps.map ahL
theorem app_assoc (a b c : Str) : a ++ b ++ c = a ++ (b ++ c) := by
  show (⟨a.cps ++ b.cps ++ c.cps⟩ : Str) = ⟨a.cps ++ (b.cps ++ c.cps)⟩
  rw [Array.append_assoc]
theorem ahL_is (p : Str × Str) : ("ahead " : Str) ++ p.1 ++ " " ++ p.2 = ahL p := by
  show _ = ("ahead" : Str) ++ bl1 ++ (p.1 ++ bl1 ++ p.2)
  have e : ("ahead " : Str) = "ahead" ++ bl1 := by decide +kernel
  rw [e, show (" " : Str) = bl1 from rfl]
  simp only [app_assoc]
theorem len_app (a b : Str) : (a ++ b).length = a.length + b.length := by
  show (a.cps ++ b.cps).size = _
  rw [Array.size_append]
  rfl
theorem join_len : ∀ (ws : List Str), (∀ z ∈ ws, z.length ≤ 8) → (Str.join bl1 ws).length ≤ 9 * ws.length
  | [], _ => by decide
  | [x], h => by
    have := h x (by simp)
    show x.length ≤ 9 * 1
    omega
  | x :: y :: r, h => by
    have ih := join_len (y :: r) fun z hz => h z (List.mem_cons_of_mem _ hz)
    have := h x (by simp)
    show (x ++ bl1 ++ Str.join bl1 (y :: r)).length ≤ _
    rw [len_app, len_app, show bl1.length = 1 from by decide +kernel]
    simp only [List.length_cons] at ih ⊢
    omega
theorem nm_len {z : Str} (h : isNm z = true) : z.length ≤ 8 := (nm_ok h).2
theorem words_ok {w : Str} {ns : List Str} (hw : isNm w = true) (h : ∀ z ∈ ns, isNm z = true) : ∀ z ∈ w :: ns, isNm z = true := fun z hz => by
  rcases List.mem_cons.mp hz with rfl | hz
  · exact hw
  · exact h z hz
theorem ah_ok {p : Str × Str} (h1 : isNm p.1 = true) (h2 : isNm p.2 = true) : ∀ z ∈ [("ahead" : Str), p.1, p.2], isNm z = true := words_ok (by decide +kernel) fun z hz => by
  simp only [List.mem_cons, List.not_mem_nil, or_false] at hz
  rcases hz with rfl | rfl
  · exact h1
  · exact h2
theorem sum_len : ∀ {ws : List Str}, (∀ z ∈ ws, isNm z = true) → (ws.map (·.length)).sum ≤ 8 * ws.length
  | [], _ => by simp
  | x :: r, h => by
    have := nm_len (h x (by simp))
    have := sum_len fun z hz => h z (List.mem_cons_of_mem _ hz)
    rw [List.map_cons, List.sum_cons, List.length_cons]
    omega
theorem eqv_lst (xs : List Str) : PyData.eqv (.list (xs.map PyData.str)) (.list (xs.map PyData.str)) = true := by
  simp only [PyData.eqv]
  induction xs with
  | nil => simp [PyData.eqvAll]
  | cons x xs ih => simp [PyData.eqvAll, PyData.eqv, ih]
theorem addAll_nd {ns : List Str} (h : ns.Nodup) : (addAll [] ns).length = ns.length := Nat.le_antisymm (addAll_le ns) (nodup_le h fun z hz => mem_addAll.mpr (.inr hz))
section
variable {K : PySem.W.Frag} {H : Hp} {Q : VK}
theorem i_joinB {a : Addr} {ws : List Str} (h : SqL K H a (ws.map V.str)) (hw : ∀ z ∈ ws, isNm z = true) (hl : ws.length ≤ 1000) (k : Q (.str (Str.join bl1 ws)) H) : rJoin K (.str " ") [.ref a] H Q := by
  refine i_join h ?_ (by rw [txt_join]; exact k)
  have := sum_len hw
  rw [show ((" " : Str)).length = 1 from by decide +kernel]
  omega
end
end L2
set_option Elab.async false
set_option linter.all false
set_option maxRecDepth 100000
set_option maxHeartbeats 4000000
namespace L2
open PySem PySem.Spec PyProof.Rows
section
variable {X : Cx} {K : PySem.W.Frag}
end
section
variable {prog : Program} {w : World} {A : Around} {E : Value → Shared → Prop} {s : Shared}
end
section
variable {X : Cx} {K : PySem.W.Frag}
noncomputable def tBMT (K : PySem.W.Frag) (r : V → List V → Hp → VK → Prop) (to : TE) (t : TA) : TE := fun σ H Q => to σ H fun x H1 => (∃ a xs, x = .ref a ∧ SqT K H1 a xs) ∧ t σ H1 fun vs H2 => r x vs H2 Q
theorem pe_bmT {o e : Expr} {es : List Expr} {to : TE} {t : TA} {name : Str} {apos cpos : Pos} {id : String} {r : V → List V → Hp → VK → Prop} (slot : Slot "tuple" name id) (hty : typeOf (.builtin id) = pure (.type "method_descriptor")) (hm : MtR X id r) (ho : PE X o to) (ha : PA X (e :: es) t) (hK : X.K = K := by with_unfolding_all rfl)
    (hbase : attributeBase o name X.env (eval o X.env) = eval o X.env := by with_unfolding_all rfl)
    (hfew : ((backTo cpos (starEach (e :: es) X.env)).all (fun x => !x.1) && (backToKw cpos (keywordEach [] X.env)).all (fun x => x.1.isSome) && decide ((e :: es).length + ([] : List Keyword).length + (if ([] : List Keyword).isEmpty then 0 else 1) < 30)) = true := by with_unfolding_all rfl)
    (hline : (apos.endLine == cpos.line) = true := by with_unfolding_all rfl) (hs : starEach (e :: es) X.env = (false, eval e X.env) :: starEach es X.env := by with_unfolding_all rfl) (hplain : (backTo cpos (starEach es X.env)).any (·.1) = false := by with_unfolding_all rfl) :
    PE X (.Call (.Attribute o name apos) (e :: es) [] cpos) (tBMT K r to t) := by
  subst hK
  intro pins s σ H Q I h
  refine wpAny_Call_method_late hbase hfew hline rfl (thn (ho pins s σ H _ I h) fun v s1 ⟨x, H1, I1, r1, ty, q1⟩ => ?_)
  obtain ⟨a, xs, rfl, hS⟩ := ty
  cases r1
  obtain ⟨its, _, p, _⟩ := I1.tuple hS
  refine ⟨"tuple", id, PySem.F.plainAttrs_tuple, slot, hty, p.typeIs, (fun b e => by cases e; exact I1.tupleN hS), ?_⟩
  have hA := ha cpos pins s1 σ H1 _ I1 q1
  rw [hs] at hA ⊢
  refine Calls.callWith_builtin (by show (false || (backTo cpos (starEach es X.env)).any (·.1)) = false; rw [hplain]; rfl) (Calls.evalArgs_plain ?_)
  exact thn hA fun us s2 ⟨vs, H2, I2, r2, q2⟩ => hm pins s2 σ H2 (.ref a) vs _ us Q I2 rfl r2 q2
theorem i_bmT {r : V → List V → Hp → VK → Prop} {te : TE} {ts : TA} {σ : St} {H : Hp} {Q : VK} (k : te σ H fun x H1 => (∃ a xs, x = .ref a ∧ SqT K H1 a xs) ∧ ts σ H1 fun xs H2 => r x xs H2 Q) : tBMT K r te ts σ H Q := k
theorem i_tyT {a : Addr} {xs : List V} {H : Hp} {B : Prop} (h : SqT K H a xs) (k : B) : (∃ a' xs', V.ref a = .ref a' ∧ SqT K H a' xs') ∧ B := ⟨⟨a, xs, rfl, h⟩, k⟩
end
end L2
set_option Elab.async false
set_option linter.all false
set_option maxRecDepth 100000
set_option maxHeartbeats 4000000
namespace L2
open PySem PySem.Spec PyProof.Rows
section
variable {prog : Program} {w : World} {A : Around} {E : Value → Shared → Prop} {s : Shared}
end
section
variable {X : Cx} {K : PySem.W.Frag}
end
end L2
set_option linter.all false
namespace L2
section
variable {α : Type} [DecidableEq α]
noncomputable def frF (b : α → α → Bool) (L : List α) : List α := L.filter fun x => !(L.any fun y => b y x)
noncomputable def lessF (L : List α) (x : α) : List α := L.filter fun y => !decide (y = x)
noncomputable def ext (b : α → α → Bool) : Nat → List α → List (List α)
  | 0, _ => [[]]
  | n + 1, L => (frF b L).flatMap fun x => (ext b n (lessF L x)).map (x :: ·)
end
end L2
set_option Elab.async false
set_option linter.all false
set_option maxRecDepth 100000
set_option maxHeartbeats 4000000
namespace L2
open PySem PySem.Spec PyProof.Rows
section
variable {X : Cx} {K : PySem.W.Frag} {k : Nat} {C : Addr} {f x m : Str} {ps : List Str} {sp : Sp} {e o value : Expr} {es : List Expr} {ta tv : TE} {t : TA} {p pos pos' apos : Pos}
end
section
variable {K : PySem.W.Frag} {C : Addr} {f m : Str} {sp : Sp} {ta tv : TE} {t : TA} {σ : St} {H : Hp} {Q : VK} {D : Ends}
end
section
variable {X : Cx} {K : PySem.W.Frag}
end
section
variable {X : Cx}
end
section
variable {α : Type} [DecidableEq α]
end
end L2
set_option Elab.async false
set_option linter.all false
set_option maxRecDepth 100000
set_option maxHeartbeats 4000000
namespace L2
open PySem PySem.Spec PyProof.Rows
section
variable {K : PySem.W.Frag} {C : Addr} {H H' : Hp} {p dx : Addr} {nv : V} {bd ad kd : Addr} {ns : List Str} {ps : List (Str × Str)} {kvs kvs' : List (Key × V)}
end
end L2
namespace L2
open PySem PySem.Spec PyProof.Rows
section
variable {α : Type} [DecidableEq α]
end
end L2
namespace L2
end L2
namespace L2
open PySem PySem.Spec PyProof.Rows
end L2
set_option linter.all false
namespace L2
section
variable {α : Type} [DecidableEq α]
end
end L2
namespace L2
open PySem PySem.Spec PyProof.Rows
end L2
namespace L2
open PySem PySem.Spec PyProof.Rows
section
variable {K : PySem.W.Frag} {σ : St} {H : Hp} {Q : VK} {td ty tx : TE}
end
section
variable {K : PySem.W.Frag} {C : Addr} {H H' : Hp} {p dx : Addr} {nv : V} {bd ad kd : Addr} {ns : List Str} {ps : List (Str × Str)} {kvs : List (Key × V)}
end
end L2
namespace L2
open PySem PySem.Spec PyProof.Rows
section
variable {K : PySem.W.Frag} {σ : St} {H : Hp} {Q : VK}
end
end L2
set_option Elab.async false
set_option linter.all false
set_option maxRecDepth 100000
set_option maxHeartbeats 4000000
namespace L2
open PySem PySem.Spec PyProof.Rows
section
variable {X : Cx} {K : PySem.W.Frag}
end
structure HalfC (ns : List Str) (ps : List (Str × Str)) : Prop where
  nd : ns.Nodup
  mem : ∀ p ∈ ps, p.1 ∈ ns ∧ p.2 ∈ ns
  few : ns.length ≤ 100
  le : ps.length ≤ 1100
theorem HalfW.c {ns : List Str} {ps : List (Str × Str)} (h : HalfW ns ps) : HalfC ns ps := ⟨h.nd, h.mem, h.few, Nat.le_trans h.le (by decide)⟩
instance {ns : List Str} {ps : List (Str × Str)} : Coe (HalfW ns ps) (HalfC ns ps) := ⟨HalfW.c⟩
section
variable {α : Type} [DecidableEq α]
end
end L2
namespace L2
open PySem PySem.Spec PyProof.Rows
section
variable {prog : Program} {w : World} {A : Around} {E : Value → Shared → Prop} {I : Addr} {fp wr : List Addr} {n : Nat} {P : Nat → Value → Prop} {St : Nat → Heap → Prop}
end
end L2
set_option linter.all false
set_option maxHeartbeats 4000000
namespace L2
open PySem PySem.Spec PyProof.Rows
section
variable {α : Type} [DecidableEq α]
end
theorem sum_perm {l m : List Nat} (h : l.Perm m) : l.sum = m.sum := by
  induction h with
  | nil => rfl
  | cons x _ ih => rw [List.sum_cons, List.sum_cons, ih]
  | swap x y l => rw [List.sum_cons, List.sum_cons, List.sum_cons, List.sum_cons]; omega
  | trans _ _ h1 h2 => rw [h1, h2]
end L2
set_option Elab.async false
set_option linter.all false
set_option maxRecDepth 100000
set_option maxHeartbeats 4000000
namespace L2
open PySem PySem.Spec PyProof.Rows
section
variable {prog : Program} {w : World} {A : Around} {E : Value → Shared → Prop} {s : Shared}
end
end L2
namespace L2
open PySem PySem.Spec PyProof.Rows
end L2
namespace L2
open PySem PySem.Spec PyProof.Rows
section
variable {κ : Type} [DecidableEq κ]
end
end L2
set_option linter.all false
set_option maxHeartbeats 4000000
set_option maxRecDepth 100000
namespace L2
open PySem PySem.Spec PyProof.Rows
end L2
set_option Elab.async false
set_option linter.all false
set_option maxRecDepth 100000
set_option maxHeartbeats 4000000
namespace L2
open PySem PySem.Spec PyProof.Rows
section
variable {α : Type} [DecidableEq α]
end
section
variable {X : Cx}
end
end L2
set_option Elab.async false
set_option linter.all false
set_option maxRecDepth 100000
set_option maxHeartbeats 4000000
namespace L2
open PySem PySem.Spec PyProof.Rows
section
variable {X : Cx} {K : PySem.W.Frag}
end
section
variable {K : PySem.W.Frag} {σ : St} {H : Hp}
end
end L2
set_option Elab.async false
set_option linter.all false
set_option maxRecDepth 100000
set_option maxHeartbeats 4000000
namespace L2
open PySem PySem.W PyProof.Rows
section
variable {n : Nat} {r : Nat → Nat}
end
section
variable {prog : Program} {w : World} {A : Around} {E : Value → Shared → Prop} {z : Shared}
end
section
variable {prog : Program} {w : World} {A : Around} {E : Value → Shared → Prop} {z : Shared}
end
section
variable {X : Cx} {K : PySem.W.Frag}
end
end L2
set_option Elab.async false
set_option linter.all false
set_option maxRecDepth 100000
set_option maxHeartbeats 4000000
namespace L2
open PySem PySem.Spec PyProof.Rows
end L2
set_option Elab.async false
set_option linter.all false
set_option maxRecDepth 100000
set_option maxHeartbeats 4000000
namespace L2
open PySem PySem.Spec PyProof.Rows
section
variable {κ : Type} [DecidableEq κ] {P : Program} {w : World} {kd : KeyKind P w κ} {A : Around} {E : Value → Shared → Prop} {z : Shared}
end
section
variable {X : Cx} {K : PySem.W.Frag}
end
end L2
set_option Elab.async false
set_option linter.all false
set_option maxRecDepth 100000
set_option maxHeartbeats 4000000
namespace L2
open PySem PySem.Spec PyProof.Rows
section
variable {P : Program} {w : World} {A : Around} {E : Value → Shared → Prop} {z : Shared}
end
end L2
set_option Elab.async false
set_option linter.all false
set_option maxRecDepth 100000
set_option maxHeartbeats 4000000
namespace L2
open PySem PySem.Spec PyProof.Rows
section
variable {P : Program} {w : World} {A : Around} {E : Value → Shared → Prop} {z : Shared}
end
end L2
set_option Elab.async false
set_option linter.all false
set_option maxRecDepth 100000
set_option maxHeartbeats 4000000
namespace L2
open PySem PySem.Spec PyProof.Rows
section
variable {P : Program} {w : World} {A : Around} {E : Value → Shared → Prop} {z : Shared} {c TI TO i1 i2 D : Addr} {fp1 fp2 : List Addr} {n : Nat} {P1 P2 : Nat → Value → Prop} {S1 S2 : Nat → Heap → Prop}
end
section
variable {P : Program} {w : World} {κ : Type} [DecidableEq κ] {kd : KeyKind P w κ} {A : Around} {E : Value → Shared → Prop} {c TI TO i1 i2 D : Addr} {fp1 fp2 : List Addr} {n : Nat} {P1 P2 : Nat → Value → Prop} {S1 S2 : Nat → Heap → Prop}
end
end L2
set_option Elab.async false
set_option linter.all false
set_option maxRecDepth 100000
set_option maxHeartbeats 4000000
namespace L2
open PySem PySem.Spec PyProof.Rows
section
variable {P : Program} {w : World} {A : Around} {E : Value → Shared → Prop} {z : Shared}
end
end L2
set_option Elab.async false
set_option linter.all false
set_option maxRecDepth 100000
set_option maxHeartbeats 4000000
namespace L2
open PySem PySem.Spec PyProof.Rows
section
variable {X : Cx} {K : PySem.W.Frag}
end
section
variable {K : PySem.W.Frag} {H : Hp} {Q : VK}
end
end L2
set_option Elab.async false
set_option linter.all false
set_option maxRecDepth 100000
set_option maxHeartbeats 4000000
namespace L2
open PySem PySem.Spec PyProof.Rows
section
variable {K : PySem.W.Frag} {H : Hp} {Q : VK}
end
end L2
set_option Elab.async false
set_option linter.all false
set_option maxRecDepth 100000
set_option maxHeartbeats 4000000
namespace L2
open PySem PySem.Spec PyProof.Rows
section
variable {ns ns' : List Str} {ps ps' bs : List (Str × Str)}
end
end L2
namespace L2
open PySem PySem.Spec PyProof.Rows
end L2
set_option Elab.async false
set_option linter.all false
set_option maxRecDepth 100000
set_option maxHeartbeats 4000000
namespace L2
open PySem PySem.Spec PyProof.Rows
section
variable {ns : List Str} {ps : List (Str × Str)}
end
end L2
set_option Elab.async false
set_option linter.all false
set_option maxRecDepth 100000
set_option maxHeartbeats 4000000
namespace L2
open PySem PySem.Spec PyProof.Rows
section
variable {P : Program} {w : World} {A : Around} {E : Value → Shared → Prop} {z : Shared}
end
section
variable {X : Cx} {K : PySem.W.Frag}
end
end L2
set_option Elab.async false
set_option linter.all false
set_option maxRecDepth 100000
set_option maxHeartbeats 4000000
namespace L2
open PySem PySem.Spec PyProof.Rows
section
variable {α : Type} [DecidableEq α] {b : α → α → Bool} {L : List α}
end
end L2
set_option Elab.async false
set_option linter.all false
set_option maxRecDepth 100000
set_option maxHeartbeats 4000000
namespace L2
open PySem PySem.Spec PyProof.Rows
end L2
set_option Elab.async false
set_option linter.all false
set_option maxRecDepth 100000
set_option maxHeartbeats 4000000
namespace L2
open PySem PySem.Spec PyProof.Rows
end L2
set_option Elab.async false
set_option linter.all false
set_option maxRecDepth 100000
set_option maxHeartbeats 4000000
namespace L2
open PySem PySem.Spec PyProof.Rows
noncomputable def rReprI : List V → Hp → VK → Prop := fun xs H Q => ∃ i : Int, xs = [.int i] ∧ i.natAbs.log2 < 1920 ∧ Q (.str (toString i)) H
theorem call_reprI {X : Cx} : CallR X (.builtin "repr") rReprI := by
  intro pins s σ H xs us Q I r h
  obtain ⟨i, rfl, hz, q⟩ := h
  obtain ⟨u, rfl, t, rfl⟩ := vals1 r
  exact PySem.P.repr_of_int hz ⟨.str _, H, I.tok _, ⟨_, rfl⟩, q⟩
end L2
set_option Elab.async false
set_option linter.all false
set_option maxRecDepth 100000
set_option maxHeartbeats 4000000
namespace L2
open PySem PySem.Spec PyProof.Rows
noncomputable def xB : List Value := [.type "ValueError", .type "Exception", .type "BaseException", .type "object"]
noncomputable def xcIn (K : PySem.W.Frag) (C : Addr) : Bool := match K.lookup C with
  | some ⟨.type "type", _, .cls cd, sl⟩ => (match cd.mro, sl.toList with
    | .ref D :: bm, [_, _, _, _, some (.builtin n), _] => D == C && n == "ValueError.__new__" && !cd.hasDel && cd.hasDict && PySem.W.tailIn K xB bm
    | _, _ => false)
  | _ => false
theorem xc_obj {K : PySem.W.Frag} {C : Addr} (q : xcIn K C = true) : ∃ (nm qn : Str) (N : Addr) (bs bm : List Value) (sn : List Str) (sub : List Value) (ab : Bool) (col : Option Bool) (dd : Option Addr) (k0 k1 k2 k3 k5 : Option Value),
    K.lookup C = some (excClassObj nm qn C N bs bm true sn sub ab col dd k0 k1 k2 k3 k5 "ValueError.__new__") ∧ PySem.W.tailIn K xB bm = true := by
  unfold xcIn at q
  split at q
  · rename_i dd cd sl ho
    split at q
    · rename_i D bm k0 k1 k2 k3 n k5 hm hs
      simp only [Bool.and_eq_true, beq_iff_eq, Bool.not_eq_true'] at q
      obtain ⟨⟨⟨⟨e1, e2⟩, hdel⟩, hdc⟩, ht⟩ := q
      subst e1 e2
      obtain ⟨nm, bs, mro, ns, qn, hd, sn, sub, ab, col, del⟩ := cd
      dsimp only at hm hdel hdc
      subst hm hdel hdc
      have e3 : sl = #[k0, k1, k2, k3, some (.builtin "ValueError.__new__"), k5] := by
        obtain ⟨l⟩ := sl
        simp only at hs
        rw [hs]
      subst e3
      exact ⟨nm, qn, ns, bs, bm, sn, sub, ab, col, dd, k0, k1, k2, k3, k5, ho, ht⟩
    · cases q
  · cases q
theorem xc_refuse (self : Value) {h : Heap} {l : List Value} (T : OwnTail h xB l) : refuseLoop self "__setattr__" l = pure () := by
  induction T with
  | base => exact PySem.F.store_ValueError.passes self
  | own _ _ _ _ ih => rw [refuseLoop_ref]; exact ih
theorem xc_bex {h : Heap} {l : List Value} (T : OwnTail h xB l) : l.contains (.type "BaseException") = true := T.hasType (by decide +kernel)
noncomputable abbrev tupO (rest : List Value) : Obj := { cls := .type "tuple", data := .seq rest.toArray }
noncomputable abbrev excO (C t : Addr) : Obj := { cls := .ref C, data := .fields #[.ref t, .none, .none, .none, .bool false, .none] }
section
variable {prog : Program} {w : World} {A : Around} {E : Value → Shared → Prop} {h : Heap} {g : Array GenState} {d : Drawn} {t : Nat} {os : OsState} {K : PySem.W.Frag} {C fI : Addr} {rest : List Value}
theorem xc_tcall {Q : Fin → Shared → Prop} (X : K.In h) (q : xcIn K C = true) (hi : PySem.W.findIn K (.ref C) "__init__" = some (some (.ref fI))) (ht : PySem.W.typeIn K (.ref fI) = some (.type "function")) (hr : rest.length ≤ sizeLine)
    (hq : wpAny (model prog w) A (call (.ref fI) (.ref (h.objs.size + 1) :: rest)) (fun r s' => r = .none ∧ Q (.done (.ret (.ref (h.objs.size + 1)))) s') E ⟨(h.push (tupO rest)).push (excO C h.objs.size), g, d, t, os⟩) :
    wpAny (model prog w) A (Builtin.«type.__call__» ⟨.ref C :: rest, []⟩) Q E ⟨h, g, d, t, os⟩ := by
  obtain ⟨nm, qn, N, bs, bm, sn, sub, ab, col, dd, k0, k1, k2, k3, k5, hl, htl⟩ := xc_obj q
  have F := PySem.F.excBase_ValueError
  have T : OwnTail h xB bm := PySem.W.tail_of_in X htl
  have hC := X _ _ hl
  repeat (first | (with_reducible refine wpAny_loadPart_at hC ?_) | (with_reducible refine wpAny_madeBy_exc hC ?_) | wp_step)
  refine codeAny_call_builtin_code (Code.quiet_builtin _ F.quiet) (wpAny_check_new_subT F T hC (codeAny_exc_new_subT F T hC ?_ hr))
  show wpAny _ _ _ _ _ _
  have X1 : K.In ((h.push (tupO rest)).push (excO C h.objs.size)) := X.keeps fun b o e => Heap.get?_push_of_some _ (Heap.get?_push_of_some _ e)
  have hC1 := X1 _ _ hl
  have hg1 : ((h.push (tupO rest)).push (excO C h.objs.size)).get? (h.objs.size + 1) = some (excO C h.objs.size) := by heap_get
  have hcC : (Value.ref C :: bm).contains (.ref C) = true := by simp
  unfold isInstance
  repeat (first | (with_reducible refine wpAny_loadPart_at hg1 ?_) | (with_reducible refine wpAny_isSubtype_exc hC1 ?_; rw [hcC]) | wp_step)
  show wpAny _ _ (typeLookup (.ref C) _) _ _ _
  refine (PySem.W.looks_findIn (M := model prog w) X1 hi).at ?_
  refine wpAny_holding (wpAny_bind ((PySem.W.bind_fn X1 _ ht).at ?_))
  refine wpAny_bind (wpAny_mono hq (fun r s' hr' => ?_) fun _ _ x => x)
  obtain ⟨rfl, hQ⟩ := hr'
  wp_walk
  exact hQ
theorem xc_make {Q : Value → Shared → Prop} (X : K.In h) (q : xcIn K C = true) (hi : PySem.W.findIn K (.ref C) "__init__" = some (some (.ref fI))) (ht : PySem.W.typeIn K (.ref fI) = some (.type "function")) (hr : rest.length ≤ sizeLine)
    (hq : wpAny (model prog w) (A.under (.builtin "type.__call__" ⟨.ref C :: rest, []⟩)) (call (.ref fI) (.ref (h.objs.size + 1) :: rest)) (fun r s' => r = .none ∧ Q (.ref (h.objs.size + 1)) s') E ⟨(h.push (tupO rest)).push (excO C h.objs.size), g, d, t, os⟩) :
    wpAny (model prog w) A (call (.ref C) rest) Q E ⟨h, g, d, t, os⟩ := by
  obtain ⟨nm, qn, N, bs, bm, sn, sub, ab, col, dd, k0, k1, k2, k3, k5, hl, htl⟩ := xc_obj q
  have hC := X _ _ hl
  have f1 := tc_lookup
  have f2 := tc_bind (.ref C)
  have tt : (⟨h, g, d, t, os⟩ : Shared).TypeIs (.ref C) "type" := ⟨_, hC, rfl⟩
  refine wpAny_call (codeAny_of_tree ?_)
  show wpAny _ _ (callAny (.ref C) _) _ _ _
  repeat (any_goals (first | assumption | (with_reducible refine wpAny_loadPart_at hC ?_) | wp_step))
  refine ⟨rfl, codeAny_call_builtin_at (Code.quiet_builtin _ (by decide +kernel)) entry_typeCall (wpAny_check_type_call_sub hC (xc_tcall X q hi ht hr ?_))⟩
  exact hq
end
end L2
set_option Elab.async false
set_option linter.all false
set_option maxRecDepth 100000
set_option maxHeartbeats 4000000
namespace L2
open PySem PySem.Spec PyProof.Rows Builtin Builtin.ObjectAttr
structure XC (K : PySem.W.Frag) (C : Addr) : Prop where
  ex : xcIn K C = true
  sa : PySem.W.findIn K (.ref C) "__setattr__" = some (some (.builtin "object.__setattr__"))
  ga : PySem.W.findIn K (.ref C) "__getattribute__" = some (some (.builtin "BaseException.__getattribute__"))
  gt : PySem.W.findIn K (.ref C) "__getattr__" = some none
  cl : PySem.W.findIn K (.ref C) "__class__" = some (some (.builtin "object.__class__"))
  cg : PySem.W.specialIn K (.builtin "object.__class__") "__get__" = some (some (.builtin "getset_descriptor.__get__"))
  ct : PySem.W.takesIn K (.builtin "object.__class__") = some true
section
variable {prog : Program} {w : World} {A : Around} {E : Value → Shared → Prop} {s : Shared} {K : PySem.W.Frag} {C x : Addr} {name : Str} {v : Value}
theorem XC.cls (c : XC K C) : ∃ cd, PySem.W.clsIn K C = some cd ∧ cd.hasDict = true ∧ ∃ bm, cd.mro = .ref C :: bm ∧ PySem.W.tailIn K xB bm = true := by
  obtain ⟨nm, qn, N, bs, bm, sn, sub, ab, col, dd, k0, k1, k2, k3, k5, hl, htl⟩ := xc_obj c.ex
  exact ⟨_, by unfold PySem.W.clsIn; rw [hl], rfl, bm, rfl, htl⟩
theorem XC.mro (c : XC K C) {h : Heap} (X : K.In h) {T : String} (hT : xB.contains (.type T) = true) : PySem.W.mroIn K C (.type T) = some true := by
  obtain ⟨cd, hc, _, bm, hm, ht⟩ := c.cls
  unfold PySem.W.mroIn
  rw [hc, Option.bind_some, hm, if_neg (by simp)]
  rw [List.contains_cons, (PySem.W.tail_of_in X ht).hasType hT, Bool.or_true]
theorem xc_osa {R : Result → Shared → Prop} {ox : Obj} {od : Option Obj} {tk : Tok} (c : XC K C) (X : K.In s.heap) (I : PySem.W.InstAt s.heap x ox C od) (ht : PySem.W.findIn K (.ref C) name = some none)
    (h : ∀ b, wpAny (model prog w) A.in1 (storeInOwnDict (.ref x) (.ref C) (.str name tk) name v b)
      (fun fin s' => match fin with | .done f => R (.ok f) s' | .again c' => c'.quiet = true ∧ codeAny (model prog w) A c' R s') (fun e s' => R (.error e) s') s) :
    codeAny (model prog w) A (.call (.builtin "object.__setattr__") ⟨[.ref x, .str name tk, v], []⟩) R s := by
  have SF := PySem.F.store_object
  obtain ⟨cd, hc, hd, bm, hmr, htl⟩ := c.cls
  have T := PySem.W.tail_of_in X htl
  have sub : PySem.W.Looks (model prog w) s.heap (isInstance (.ref x) (.type "object")) true := I.type.andThen (PySem.W.looks_mroIn X (c.mro X (by decide +kernel)))
  refine codeAny_call_builtin SF.slot.plain SF.entry (@PySem.W.check_slot (model prog w) _ _ s "object.__setattr__" "object" "__setattr__" (.ref x) [.str name tk, v] [] _ SF.kind SF.split sub (SF.args (.ref x) (.str name tk) v) ?_)
  have hm : PySem.W.Looks (model prog w) s.heap (mroOf (.ref C)) cd.mro := (PySem.W.looks_clsIn X hc).andThen .now
  have l3 : PySem.W.Looks (model prog w) s.heap (storeTaker? none) none := .now
  rw [PySem.W.osa_eq, refuse_eq]
  refine wpAny_bind (wpAny_bind (I.type.here (wpAny_bind (hm.here ?_))))
  rw [hmr, refuseLoop_ref, xc_refuse _ T]
  refine wpAny_pure (wpAny_bind (I.type.here (wpAny_bind ((PySem.W.looks_findIn X ht).here (wpAny_bind (l3.here ?_))))))
  exact h _
theorem xc_set0 {Q : Unit → Shared → Prop} {vs : Array Value} {sl : Array (Option Value)} (c : XC K C) (X : K.In s.heap) (hx : s.heap.get? x = some ⟨.ref C, none, .fields vs, sl⟩) (ht : PySem.W.findIn K (.ref C) name = some none)
    (hq : ∀ h', h'.Ns1 s.heap.objs.size (fun y => if y = name then some v else none) → h'.get? x = some ⟨.ref C, some s.heap.objs.size, .fields vs, sl⟩ → (∀ b o, b ≠ x → s.heap.get? b = some o → h'.get? b = some o) → Q () { s with heap := h', toks := s.toks + 2 }) :
    wpAny (model prog w) A (setAttr (.ref x) name v) Q E s := by
  have J : PySem.W.InstAt s.heap x ⟨.ref C, none, .fields vs, sl⟩ C none := ⟨hx, rfl, rfl, True.intro⟩
  obtain ⟨cd, hc, hd, bm, hmr, htl⟩ := c.cls
  refine PySem.W.set_plain X J c.sa (xc_osa (s := { s with toks := s.toks + 1 }) c X J ht fun b => ?_)
  refine wpAny_bind (wpAny_pure (wpAny_bind (wpAny_bind (wpAny_loadPart hx (wpAny_bind (PySem.W.Looks.here (s := { s with toks := s.toks + 1 }) (PySem.W.looks_clsIn X hc) ?_))))))
  rw [hd]
  have hx1 : (s.heap.push { cls := .type "dict", data := .dict #[] }).get? x = some ⟨.ref C, none, .fields vs, sl⟩ := Heap.get?_push_of_some _ hx
  have hxs : x ≠ s.heap.objs.size := Nat.ne_of_lt (Heap.lt_size hx)
  refine wpAny_bind (wpAny_alloc' ?_)
  refine wpAny_bind (wpAny_update' hx1 ?_)
  refine wpAny_pure ?_
  have hgd : ((s.heap.push { cls := .type "dict", data := .dict #[] }).update x fun o => { o with dict := some s.heap.objs.size }).get? s.heap.objs.size = some { cls := .type "dict", data := .dict #[] } :=
    (Heap.get?_update_ne _ _ _ _ hxs.symm).trans (Heap.get?_push_at rfl rfl)
  have hnd : ((s.heap.push { cls := .type "dict", data := .dict #[] }).update x fun o => { o with dict := some s.heap.objs.size }).Ns s.heap.objs.size (fun _ => none) :=
    ⟨_, #[], _, hgd, rfl, fun e he => absurd he (by simp), fun _ => rfl⟩
  show wpAny _ _ (storeInDict s.heap.objs.size (.str name _) name v) _ _ _
  unfold storeInDict newKeyGuard
  refine wpAny_bind (wpAny_pure (wpAny_bind (wpAny_nsSet1 (Heap.Ns1.of_empty hnd) fun h' hn' hs => ?_)))
  obtain ⟨oD, esD, epD, hoD, hdD, hcD⟩ := hn'.count (Within.cons name v Within.nil)
  refine wpAny_bind (wpAny_lookBehind hoD (by rw [hdD]; exact pastItsLine_dict (Nat.le_trans hcD (by rw [List.length_cons, List.length_nil, sizeLine_eq]; omega))) ?_)
  refine wpAny_pure (hq h' hn' ((hs.2 x hxs).trans (Heap.get?_update_self _ hx1 rfl)) fun b o hb hbo => ?_)
  exact (hs.2 b (Nat.ne_of_lt (Heap.lt_size hbo))).trans ((Heap.get?_update_ne _ _ _ _ hb).trans (Heap.get?_push_of_some _ hbo))
theorem xc_set1 {Q : Unit → Shared → Prop} {dx : Addr} {mA : Str → Option Value} {ns : List Str} {vs : Array Value} {sl : Array (Option Value)} (c : XC K C) (X : K.In s.heap) (hx : s.heap.get? x = some ⟨.ref C, some dx, .fields vs, sl⟩) (hn : s.heap.Ns1 dx mA)
    (hw : Within mA ns) (hz : ns.length ≤ sizeLine) (ht : PySem.W.findIn K (.ref C) name = some none)
    (hq : ∀ h', h'.Ns1 dx (fun y => if y = name then some v else mA y) → Heap.SameBut dx s.heap h' → Q () { s with heap := h', toks := s.toks + 2 }) :
    wpAny (model prog w) A (setAttr (.ref x) name v) Q E s := by
  obtain ⟨od, _, _, hod, _⟩ := id hn
  have J : PySem.W.InstAt s.heap x ⟨.ref C, some dx, .fields vs, sl⟩ C (some od) := ⟨hx, rfl, rfl, hod⟩
  obtain ⟨cd, hc, hd, bm, hmr, htl⟩ := c.cls
  refine PySem.W.set_plain X J c.sa (xc_osa (s := { s with toks := s.toks + 1 }) c X J ht fun b => ?_)
  refine wpAny_bind (wpAny_pure (wpAny_bind (wpAny_bind (wpAny_loadPart hx (wpAny_bind (PySem.W.Looks.here (s := { s with toks := s.toks + 1 }) (PySem.W.looks_clsIn X hc) ?_))))))
  rw [hd]
  refine wpAny_pure (a := some dx) (wpAny_bind (wpAny_pure (wpAny_bind ?_)))
  refine wpAny_nsSet1 (s := { s with toks := s.toks + 1 }) hn fun h' hn2 hs2 => ?_
  obtain ⟨oD, esD, epD, hoD, hdD, hcD⟩ := hn2.count (Within.cons name v hw)
  refine wpAny_bind (wpAny_lookBehind hoD (by rw [hdD]; exact pastItsLine_dict (Nat.le_trans hcD (by rw [List.length_cons]; omega))) ?_)
  exact wpAny_pure (hq _ hn2 hs2)
theorem xc_check {M : Model} {ox : Obj} {od : Option Obj} {nameV : Value} {Q : Unit → Shared → Prop} (c : XC K C) (X : K.In s.heap) (I : PySem.W.InstAt s.heap x ox C od) (hq : Q () s) :
    wpAny M A (checkBuiltinCall "BaseException.__getattribute__" ⟨[.ref x, nameV], []⟩) Q E s := by
  have sub : PySem.W.Looks M s.heap (isInstance (.ref x) (.type "BaseException")) true := I.type.andThen (PySem.W.looks_mroIn X (c.mro X (by decide +kernel)))
  exact @PySem.W.check_slot M _ _ s "BaseException.__getattribute__" "BaseException" "__getattribute__" (.ref x) [nameV] [] _ (by decide +kernel) (by decide +kernel) sub (PySem.F.args_bexc_ga (.ref x) nameV) hq
theorem xc_by {fill expr : Bool} {tk : Tok} {Q : Value → Shared → Prop} {ox : Obj} {od : Option Obj} (c : XC K C) (X : K.In s.heap) (I : PySem.W.InstAt s.heap x ox C od)
    (h : wpAny (model prog w) A.in1 (Builtin.«object.__getattribute__» ⟨[.ref x, .str name tk], []⟩)
      (fun fin s' => match fin with | .done (.ret v) => wpAny (model prog w) A (handedOut v) Q E s' | _ => False) (fun _ _ => False) s) : wpAny (model prog w) A (getAttrBy (.ref x) (.str name tk) fill expr) Q E s := by
  obtain ⟨hh, g, d, t, os⟩ := s
  have l0 := I.type (M := model prog w)
  have l1 := PySem.W.looks_findIn (M := model prog w) X c.ga
  have l2 := PySem.W.looks_findIn (M := model prog w) X c.gt
  have f3 := PySem.F.excAttr_ValueError.ga.bind (.ref x)
  have e2 : (Value.builtin "BaseException.__getattribute__" == Value.builtin "object.__getattribute__") = false := by decide +kernel
  unfold getAttrBy
  refine wpAny_holding (wpAny_bind (l0.at (wpAny_bind (l1.at ?_))))
  show wpAny _ _ (if (onTheHeap (Value.ref C) && Value.builtin "BaseException.__getattribute__" == Value.builtin "object.__getattribute__") = true then _ else _) _ _ _
  rw [e2, Bool.and_false, if_neg (by decide)]
  unfold getAttrByItsOwn hookBefore
  rw [if_pos (show onTheHeap (Value.ref C) = true from rfl)]
  refine wpAny_bind (l2.at (wpAny_bind (wpAny_attempt (wpAny_holding ?_))))
  unfold callGetattribute
  rw [if_neg (by cases expr <;> decide)]
  unfold boundAndCalled
  rw [f3]
  refine wpAny_bind (wpAny_pure (wpAny_call (codeAny_call_builtin PySem.F.excAttr_ValueError.ga.plain PySem.F.entry_bexc_ga (xc_check (s := ⟨hh, g, d, t, os⟩) c X I ?_))))
  refine wpAny_mono h (fun fin s' z => ?_) fun _ _ z => z.elim
  rcases fin with (_ | _ | _ | _) | _ <;> first | exact z | exact z.elim
theorem xc_get {expr : Bool} {Q : Value → Shared → Prop} {ox od : Obj} (c : XC K C) (X : K.In s.heap) (I : PySem.W.InstAt s.heap x ox C (some od)) (ht : PySem.W.findIn K (.ref C) name = some none) (hl : PySem.W.lookIn name od = some (some v))
    (hv : PySem.W.handedIn v = true) (h : Q v { s with toks := s.toks + 1 }) : wpAny (model prog w) A (getAttr (.ref x) name expr) Q E s := by
  obtain ⟨hh, g, d, t, os⟩ := s
  obtain ⟨cd, hc, hd, bm, hmr, htl⟩ := c.cls
  have l0 := I.type (M := model prog w)
  have hf : PySem.W.findObj K C (some od) name = some (.value v) := by
    unfold PySem.W.findObj PySem.W.ownOf
    simp only [hc, ht, hd, hl, Option.bind_some, if_true]
  have l3 := PySem.W.looks_find (M := model prog w) X I hf
  unfold getAttr
  refine wpAny_bind (wpAny_mkText (xc_by (s := ⟨hh, g, d, t + 1, os⟩) c X I ?_))
  refine wpAny_bind (wpAny_pure (wpAny_bind (wpAny_pure (wpAny_bind (l0.at (wpAny_bind (l3.at ?_)))))))
  refine wpAny_pure ?_
  show wpAny _ _ (handedOut v) _ _ _
  rw [PySem.W.handedOut_of hv]; exact wpAny_pure h
theorem xc_class {Q : Option Value → Shared → Prop} {ox : Obj} {od : Option Obj} (c : XC K C) (X : K.In s.heap) (I : PySem.W.InstAt s.heap x ox C od) (h : Q (some (.ref C)) { s with toks := s.toks + 1 }) :
    wpAny (model prog w) A (getAttr? (.ref x) "__class__") Q E s := by
  obtain ⟨hh, g, d, t, os⟩ := s
  obtain ⟨cd, hc, hd, bm, hmr, htl⟩ := c.cls
  have l0 := I.type (M := model prog w)
  have hf : PySem.W.findObj K C od "__class__" = some (.bind (.builtin "getset_descriptor.__get__") (.builtin "object.__class__")) := by
    unfold PySem.W.findObj
    simp only [hc, c.cl, c.cg, c.ct, Option.bind_some]
  have l3 := PySem.W.looks_find (M := model prog w) X I hf
  unfold getAttr? getAttrBy?
  refine wpAny_bind (wpAny_mkText (wpAny_bind (wpAny_attempt ?_)))
  refine xc_by (s := ⟨hh, g, d, t + 1, os⟩) c X I ?_
  refine wpAny_bind (wpAny_pure (wpAny_bind (wpAny_pure (wpAny_bind (l0.at (wpAny_bind (l3.at ?_)))))))
  show wpAny _ _ (holding [Value.builtin "object.__class__"] (call (.builtin "getset_descriptor.__get__") [.builtin "object.__class__", .ref x, .ref C]) >>= ret) _ _ _
  refine wpAny_bind (wpAny_holding (wpAny_call (PySem.W.class_get (s := ⟨hh, g, d, t + 1, os⟩) (ox := ox) (od := od) X I (c.mro X (by decide +kernel)) ?_)))
  refine wpAny_pure ?_
  show wpAny _ _ (handedOut (.ref C)) _ _ _
  rw [PySem.W.handedOut_of rfl]
  exact wpAny_pure (wpAny_pure h)
theorem xc_kit {od : Option Obj} {ox : Obj} (c : XC K C) : PySem.W.KitX K (.ref x) (.ref C) (fun h => PySem.W.InstAt h x ox C od) where
  ty := fun _ _ _ I => I.type
  it := fun _ _ X _ => by
    obtain ⟨nm, qn, N, bs, bm, sn, sub, ab, col, dd, k0, k1, k2, k3, k5, hl, htl⟩ := xc_obj c.ex
    intro A' Q' E' s' k q
    unfold isType loadHead
    exact wpAny_bind (wpAny_loadPart (k _ _ (X _ _ hl)) (wpAny_pure q))
  ne := fun h tp dd its n sl X htp => by
    obtain ⟨nm, qn, N, bs, bm, sn, sub, ab, col, dd, k0, k1, k2, k3, k5, hl, htl⟩ := xc_obj c.ex
    refine Bool.eq_false_iff.mpr fun q => ?_
    have e : C = tp := Value.ref.inj (beq_iff_eq.mp q)
    subst e
    have z := congrArg Obj.cls (Option.some.inj ((X _ _ hl).symm.trans htp))
    exact absurd (Value.type.inj z) (by decide)
  ca := fun X I k => xc_class c X I k
end
end L2
set_option Elab.async false
set_option linter.all false
set_option maxRecDepth 100000
set_option maxHeartbeats 4000000
namespace L2
open PySem PySem.Spec PyProof.Rows
noncomputable def exG (n : Bool) (a C : Addr) (od : Option Addr) : HO := .ext fun h => ∃ vs sl, h.get? a = some ⟨.ref C, od, .fields vs, sl⟩ ∧ (n = true → vs[1]? = some .none)
noncomputable abbrev exO (a C : Addr) (od : Option Addr) : HO := exG true a C od
noncomputable def xdO (dx : Addr) (fs : List (Str × V)) : HO := .ext fun h => ∃ mA, h.Ns1 dx mA ∧ ∀ f, RelO (fs.lookup f) (mA f)
section
variable {P : Program} {w : World} {H : Hp} {h : Heap} {a C dx : Addr} {od : Option Addr} {fs : List (Str × V)}
theorem exG_ok {n : Bool} : ObjOk P w H h a (exG n a C od) ↔ ∃ vs sl, h.get? a = some ⟨.ref C, od, .fields vs, sl⟩ ∧ (n = true → vs[1]? = some .none) :=
  ⟨fun x => x.1, fun ⟨vs, sl, e, z⟩ => ⟨⟨vs, sl, e, z⟩, ⟨_, e⟩, fun h1 h2 ⟨vs, sl, e, z⟩ k => ⟨vs, sl, k _ e, z⟩⟩⟩
theorem exO_ok : ObjOk P w H h a (exO a C od) ↔ ∃ vs sl, h.get? a = some ⟨.ref C, od, .fields vs, sl⟩ ∧ (true = true → vs[1]? = some .none) := exG_ok
theorem xdO_ok : ObjOk P w H h dx (xdO dx fs) ↔ ∃ mA, h.Ns1 dx mA ∧ ∀ f, RelO (fs.lookup f) (mA f) :=
  ⟨fun x => x.1, fun ⟨mA, n, r⟩ => ⟨⟨mA, n, r⟩, (let ⟨o, _, _, e, _⟩ := n; ⟨o, e⟩), fun h1 h2 ⟨mA, n, r⟩ k => ⟨mA, (let ⟨o, es, ep, e, z⟩ := n; ⟨o, es, ep, k _ e, z⟩), r⟩⟩⟩
end
noncomputable def xcMro (K : PySem.W.Frag) (C B : Addr) : Bool := (PySem.W.clsIn K C).any fun cd => cd.mro == .ref C :: .ref B :: xB
section
variable {K : PySem.W.Frag} {C B D : Addr}
theorem XC.ty (c : XC K C) : PySem.W.typeIn K (.ref C) = some (.type "type") := by
  obtain ⟨nm, qn, N, bs, bm, sn, sub, ab, col, dd, k0, k1, k2, k3, k5, hl, htl⟩ := xc_obj c.ex
  show Option.map (fun x => x.cls) (List.lookup C K) = _
  rw [hl]
  rfl
theorem xc_kitR (c : XC K C) (hm : xcMro K C B = true) (d : XC K D) : PySem.W.kitOne K (.ref C) (.ref D) = some (C == D || D == B) := by
  unfold PySem.W.kitOne
  by_cases e : C = D
  · subst e; simp
  · have e1 : (Value.ref C == Value.ref D) = false := beq_eq_false_iff_ne.mpr fun q => e (Value.ref.inj q)
    have e2 : (C == D) = false := beq_eq_false_iff_ne.mpr e
    rw [if_neg (by rw [e1]; decide), e2, Bool.false_or]
    unfold PySem.W.kitCls
    obtain ⟨cd, hc, _⟩ := d.cls
    dsimp only
    rw [if_pos (by rw [hc, d.ty]; rfl)]
    show PySem.W.mroIn K C (.ref D) = _
    obtain ⟨cd, hc, hx⟩ := PySem.W.any_some hm
    unfold PySem.W.mroIn
    rw [hc, Option.bind_some, beq_iff_eq.mp hx, if_neg (by simp)]
    rw [List.contains_cons, List.contains_cons, show xB.contains (Value.ref D) = false from rfl, Bool.or_false]
    congr 1
    rw [show (Value.ref D == Value.ref C) = false from beq_eq_false_iff_ne.mpr fun q => e (Value.ref.inj q).symm, Bool.false_or]
    by_cases eb : D = B
    · subst eb; simp
    · rw [show (D == B) = false from beq_eq_false_iff_ne.mpr eb, beq_eq_false_iff_ne.mpr fun q => eb (Value.ref.inj q)]
end
section
variable {X : Cx} {pins : List (Addr × Obj)} {σ : St} {H : Hp} {s : Shared} {a C dx : Addr} {fs : List (Str × V)} {f : Str} {v : V} {A : Around} {E : Value → Shared → Prop}
theorem getx_ok {n' b : Bool} {Q : Value → Shared → Prop} (I : Inv X pins σ H s) (e : H a = some (exG n' a C (some dx))) (ed : H dx = some (xdO dx fs)) (c : XC X.K C) (n : NoAttr X.K C f) (l : fs.lookup f = some v)
    (h : ∀ u s', Inv X pins σ H s' → RelV v u → Q u s') : wpAny (model X.prog X.w) A (getAttr (.ref a) f b) Q E s := by
  obtain ⟨vs, sl, e1, _⟩ := exG_ok.mp (I.hok a _ e)
  obtain ⟨mA, hn, r⟩ := xdO_ok.mp (I.hok dx _ ed)
  obtain ⟨u, hu, ru⟩ := RelO.some_of (v := v) (o := mA f) (by rw [← l]; exact r f)
  obtain ⟨od, hod, hl⟩ := lookIn_ns hn
  exact xc_get c I.kIn ⟨e1, rfl, rfl, hod⟩ n (by rw [hl, hu]) (handed_of ru) (h u _ (I.tok _) ru)
theorem within_xd {mA : Str → Option Value} (r : ∀ f, RelO (fs.lookup f) (mA f)) : PySem.Within mA (fs.map (·.1)) := fun g hg => by
  cases q : fs.lookup g with
  | none => exact absurd (RelO.none_of (by rw [← q]; exact r g)) hg
  | some v => exact List.mem_map.mpr ⟨(g, v), PySem.mem_of_lookup q, rfl⟩
theorem setx0_ok {y : V} {u : Value} {Q : Unit → Shared → Prop} (I : Inv X pins σ H s) (e : H a = some (exO a C none)) (c : XC X.K C) (n : NoAttr X.K C f) (ry : RelV y u)
    (h : ∀ dx s', H dx = none → dx ≠ a → Inv X pins σ (upd (upd H dx (xdO dx [(f, y)])) a (exO a C (some dx))) s' → Q () s') : wpAny (model X.prog X.w) A (setAttr (.ref a) f u) Q E s := by
  obtain ⟨vs, sl, e1, e1n⟩ := exO_ok.mp (I.hok a _ e)
  refine xc_set0 c I.kIn e1 n fun h' hn he hk => ?_
  have hf : H s.heap.objs.size = none := I.hok.fresh (Nat.le_refl _)
  have hne : s.heap.objs.size ≠ a := Nat.ne_of_gt (Heap.lt_size e1)
  have na : ∀ b, H b = none → b ≠ a := fun b q z => by rw [z, e] at q; cases q
  have nd : ∀ b u, H b = some u → b ≠ s.heap.objs.size := fun b u q z => by rw [z, hf] at q; cases q
  have nb : ∀ b o, s.heap.get? b = some o → b ≠ s.heap.objs.size := fun b o q => Nat.ne_of_lt (Heap.lt_size q)
  have hu : ∀ b o, H b = some o → b ≠ a → upd (upd H s.heap.objs.size (xdO s.heap.objs.size [(f, y)])) a (exO a C (some s.heap.objs.size)) b = some o := fun b o q z => by rw [upd_ne z, upd_ne (nd b o q)]; exact q
  refine h _ _ hf hne (I.un ⟨fun b o q z _ _ => hk b o (na b z) q, fun b o q z _ _ => ⟨o.slots, hk b o (na b z) q⟩, fun b o q z _ => by rw [upd_ne (na b z), upd_ne (nb b o q)]; exact z, fun b o q _ => ?_,
    fun b xs q => hu b _ q fun z => ?_, fun b o u q => hu b _ q fun z => ?_, fun b ps q => ⟨#[], ?_⟩⟩ fun b o q => ?_)
  · by_cases z : b = a
    · subst z; exact ⟨_, he⟩
    · exact ⟨o, hk b o z q⟩
  · rw [z, e] at q; cases q
  · rw [z, e] at q; cases q
  · rw [Array.append_empty]
    exact hu b _ q fun z => by rw [z, e] at q; cases q
  · by_cases z : b = a
    · subst z
      rw [upd_same] at q; cases q
      exact exO_ok.mpr ⟨_, _, he, e1n⟩
    · rw [upd_ne z] at q
      by_cases z2 : b = s.heap.objs.size
      · subst z2
        rw [upd_same] at q; cases q
        refine xdO_ok.mpr ⟨_, hn, fun g => ?_⟩
        show RelO (List.lookup g [(f, y)]) (if g = f then some u else none)
        by_cases q : g = f
        · have hb : (g == f) = true := beq_iff_eq.mpr q
          simp only [List.lookup, hb, if_pos q]; exact ry
        · have hb : (g == f) = false := beq_eq_false_iff_ne.mpr q
          simp only [List.lookup, hb, if_neg q]; exact True.intro
      · rw [upd_ne z2] at q
        refine (I.hok b o q).stay (fun c v hc r => hk c v (fun z3 => ?_) r) (fun c r => hu c _ r fun z3 => ?_) fun c xs r => hu c _ r fun z3 => ?_
        · subst z3
          rcases hc with hc | hc
          · exact z hc.symm
          · rw [e] at hc; cases hc
        · rw [z3, e] at r; cases r
        · rw [z3, e] at r; cases r
theorem setx1_ok {y : V} {u : Value} {Q : Unit → Shared → Prop} (I : Inv X pins σ H s) (e : H a = some (exO a C (some dx))) (ed : H dx = some (xdO dx fs)) (c : XC X.K C) (n : NoAttr X.K C f) (hl : fs.length < 1000) (ry : RelV y u)
    (h : ∀ s', Inv X pins σ (upd H dx (xdO dx (putF f y fs))) s' → Q () s') : wpAny (model X.prog X.w) A (setAttr (.ref a) f u) Q E s := by
  obtain ⟨vs, sl, e1, e1n⟩ := exO_ok.mp (I.hok a _ e)
  obtain ⟨mA, hn, r⟩ := xdO_ok.mp (I.hok dx _ ed)
  refine xc_set1 c I.kIn e1 hn (within_xd r) (by rw [List.length_map, sizeLine_eq]; omega) n fun h' hn' hs => h _ ?_
  have hd : ∃ o, h'.get? dx = some o := let ⟨o, _, _, e', _⟩ := hn'; ⟨o, e'⟩
  refine I.write (x := dx) (e := dx) (by rw [ed]; exact True.intro) (.inl rfl) (fun b q hb z => (hs.2 b hb).trans z) hd (xdO_ok.mpr ⟨_, hn', fun g => ?_⟩)
  rw [lookup_putF]
  by_cases q : g = f
  · rw [if_pos q]
    show RelO (some y) (if g = f then some u else mA g)
    rw [if_pos q]; exact ry
  · rw [if_neg q]
    show RelO _ (if g = f then some u else mA g)
    rw [if_neg q]; exact r g
end
noncomputable def rFldX (K : PySem.W.Frag) (f : Str) : V → Hp → VK → Prop := fun x H1 Q => ∃ n a C dx fs v, x = .ref a ∧ H1 a = some (exG n a C (some dx)) ∧ H1 dx = some (xdO dx fs) ∧ XC K C ∧ NoAttr K C f ∧ fs.lookup f = some v ∧ Q v H1
noncomputable def tFldX (K : PySem.W.Frag) (ta : TE) (f : Str) : TE := fun σ H Q => ta σ H fun x H1 => rFldX K f x H1 Q
noncomputable def rStX (K : PySem.W.Frag) (f : Str) (y : V) : V → Hp → (Hp → Prop) → Prop := fun x H2 R => ∃ a C, x = .ref a ∧ XC K C ∧ NoAttr K C f ∧
  ((H2 a = some (exO a C none) ∧ ∀ dx, H2 dx = none → dx ≠ a → R (upd (upd H2 dx (xdO dx [(f, y)])) a (exO a C (some dx)))) ∨
    ∃ dx fs, H2 a = some (exO a C (some dx)) ∧ H2 dx = some (xdO dx fs) ∧ fs.length < 1000 ∧ R (upd H2 dx (xdO dx (putF f y fs))))
noncomputable def sFldX (K : PySem.W.Frag) (ta tv : TE) (f : Str) : TS := fun D σ H => tv σ H fun y H1 => ta σ H1 fun x H2 => rStX K f y x H2 fun H3 => D.nx σ H3
section
variable {X : Cx} {o e value : Expr} {f : Str} {pos pos' tpos : Pos} {ta tv : TE}
theorem pe_fldX (he : PE X e ta) (hb : attributeBase e f X.env (eval e X.env) = eval e X.env) : PE X (.Attribute e f pos) (tFldX X.K ta f) := by
  intro pins s σ H Q I h
  refine attr_of hb (thn (he pins s σ H _ I h) fun u s1 ⟨x, H1, I1, rx, n', a, C, dx, fs, v, ex, ea, ed, c, n, l, q⟩ => ?_)
  subst ex
  obtain rfl : u = Value.ref a := rx
  exact getx_ok I1 ea ed c n l fun u' s2 I2 ru => ⟨v, H1, I2, ru, q⟩
theorem ps_fldX (ha : PE X o ta) (hv : PE X value tv) (hs : swapsWith value (some (.Attribute o f pos')) pos.line X.env = pure false) : PS X (.Assign [.Attribute o f pos'] value pos) (sFldX X.K ta tv f) := by
  intro pins s σ H D I h
  refine plainObj_wpAny_Assign_Attribute (thn (hv pins s σ H _ I h) fun u s1 ⟨y, H1, I1, ry, q⟩ => thn (ha pins s1 σ H1 _ I1 q) fun ov s2 ⟨x, H2, I2, rx, a, C, ex, c, n, q2⟩ => ?_) hs
  subst ex
  obtain rfl : ov = Value.ref a := rx
  rcases q2 with ⟨ea, q2⟩ | ⟨dx, fs, ea, ed, l, q2⟩
  · exact setx0_ok I2 ea c n ry fun dx s3 h1 h2 I3 => ⟨σ, _, I3, q2 dx h1 h2⟩
  · exact setx1_ok I2 ea ed c n l ry fun s3 I3 => ⟨σ, _, I3, q2⟩
end
end L2
set_option Elab.async false
set_option linter.all false
set_option maxRecDepth 100000
set_option maxHeartbeats 4000000
namespace L2
open PySem PySem.Spec PyProof.Rows
noncomputable def ExB (n : Bool) (H : Hp) (a C : Addr) (fs : List (Str × V)) : Prop := (fs = [] ∧ H a = some (exG n a C none)) ∨ ∃ dx, dx ≠ a ∧ H a = some (exG n a C (some dx)) ∧ H dx = some (xdO dx fs)
noncomputable abbrev ExA (H : Hp) (a C : Addr) (fs : List (Str × V)) : Prop := ExB true H a C fs
theorem ExB.inst {n : Bool} {P : Program} {w : World} {H : Hp} {h : Heap} {a C : Addr} {fs : List (Str × V)} (e : ExB n H a C fs) (x : HOk P w H h) : ∃ ox od, PySem.W.InstAt h a ox C od := by
  rcases e with ⟨_, e⟩ | ⟨dx, _, e, d⟩
  · obtain ⟨vs, sl, q, _⟩ := exG_ok.mp (x a _ e)
    exact ⟨_, none, q, rfl, rfl, True.intro⟩
  · obtain ⟨vs, sl, q, _⟩ := exG_ok.mp (x a _ e)
    obtain ⟨mA, hn, _⟩ := xdO_ok.mp (x dx _ d)
    obtain ⟨o, _, _, ho, _⟩ := hn
    exact ⟨_, some o, q, rfl, rfl, ho⟩
theorem ExB.same {n : Bool} {H H' : Hp} {a C : Addr} {fs : List (Str × V)} (e : ExB n H a C fs) (s : ∀ b o, H b = some o → H' b = some o) : ExB n H' a C fs := by
  rcases e with ⟨e1, e⟩ | ⟨dx, ne, e, d⟩
  · exact .inl ⟨e1, s _ _ e⟩
  · exact .inr ⟨dx, ne, s _ _ e, s _ _ d⟩
noncomputable def rIsX (K : PySem.W.Frag) : List V → Hp → VK → Prop := fun xs H Q => ∃ n a C fs b, ExB n H a C fs ∧ XC K C ∧
  ((∃ c, xs = [.ref a, .ref c] ∧ PySem.W.kitOne K (.ref C) (.ref c) = some b) ∨ (∃ c, xs = [.ref a, .ty c] ∧ PySem.W.kitOne K (.ref C) (.type c) = some b) ∨
    ∃ (p : Addr) (cs : List Addr), xs = [.ref a, .ref p] ∧ H p = some (.tup (cs.map V.ref)) ∧ PySem.W.kitAny K (.ref C) (cs.map Value.ref) = some b) ∧ Q (.bl b) H
theorem vals_refs : ∀ {cs : List Addr} {us : List Value}, Vals (cs.map V.ref) us → us = cs.map Value.ref
  | [], us, r => by cases us with | nil => rfl | cons _ _ => cases r
  | c :: cs, us, r => by
    cases us with
    | nil => cases r
    | cons u us =>
      cases r with
      | cons r1 r2 => rw [List.map_cons, vals_refs r2, show u = Value.ref c from r1]
theorem call_isX {X : Cx} : CallR X (.builtin "isinstance") (rIsX X.K) := by
  intro pins s σ H xs us Q I r h
  obtain ⟨n, a, C, fs, b, ea, c, hc, q⟩ := h
  obtain ⟨ox, od, J⟩ := ea.inst I.hok
  rcases hc with ⟨c', rfl, e⟩ | ⟨c', rfl, e⟩ | ⟨p, cs, rfl, hp, e⟩
  · obtain ⟨u, w', rfl, r1, r2⟩ := vals2 r
    cases r1; cases r2
    exact PySem.W.kia_one (xc_kit c) I.kIn J e (fun z => nomatch z) fun tk => ⟨.bl _, H, I.tok _, rfl, q⟩
  · obtain ⟨u, w', rfl, r1, r2⟩ := vals2 r
    cases r1; cases r2
    exact PySem.W.kia_one (xc_kit c) I.kIn J e (fun z => nomatch z) fun tk => ⟨.bl _, H, I.tok _, rfl, q⟩
  · obtain ⟨u, w', rfl, r1, r2⟩ := vals2 r
    cases r1; cases r2
    obtain ⟨_, its, ri, ob, g1, g2, ⟨n, g3⟩, g4⟩ := (show ObjOk X.prog X.w H s.heap p (.tup (cs.map V.ref)) from I.hok p _ hp)
    obtain rfl := vals_refs ri
    obtain ⟨oc, odd, oda, osl⟩ := ob
    dsimp only at g2 g3 g4
    subst g2 g3 g4
    exact PySem.W.kia_tup (xc_kit c) I.kIn J g1 e (fun z => nomatch z) fun tk => ⟨.bl _, H, I.tok _, rfl, q⟩
theorem call_isXK {X : Cx} {K : PySem.W.Frag} (hK : X.K = K := by with_unfolding_all rfl) : CallR X (.builtin "isinstance") (rIsX K) := hK ▸ call_isX
noncomputable def Mkx (P : Program) (w : World) (K : PySem.W.Frag) (mg : Str → Option Value) (base : Heap) (k : Nat) (C : Addr) (x : Str) (ps : List Str) (sp : Sp) : Prop :=
  ∃ f fd, FnOk P w K mg base CX0 k f fd ps sp ∧ XC K C ∧ PySem.W.findIn K (.ref C) "__init__" = some (some (.ref f)) ∧ PySem.W.isFn K (.ref f) = true ∧ PySem.W.keepIn K (.ref C) = true ∧ mg x = some (.ref C) ∧ Binds K fd ps []
noncomputable def xc0In (K : PySem.W.Frag) (C : Addr) : Bool := match K.lookup C with
  | some ⟨_, _, .cls cd, _⟩ => PySem.W.nsOkIn K cd.ns && PySem.W.nsIn K cd.ns "__init__" == some none
  | _ => false
structure Mkx0 (K : PySem.W.Frag) (mg : Str → Option Value) (C : Addr) (x : Str) : Prop where
  xc : XC K C
  no : xc0In K C = true
  kp : PySem.W.keepIn K (.ref C) = true
  gl : mg x = some (.ref C)
noncomputable def rMkX (C : Addr) (sp : Sp) (vs : List V) (H1 : Hp) (Q : VK) : Prop := vs.length ≤ 8 ∧ ∀ x, H1 x = none → sp (.ref x :: vs) (upd H1 x (exO x C none)) (fun v H2 => v = .non ∧ Q (.ref x) H2) E0
noncomputable def tMkX (C : Addr) (sp : Sp) (t : TA) : TE := fun σ H Q => t σ H fun vs H1 => rMkX C sp vs H1 Q
theorem hp_none {P : Program} {w : World} {H : Hp} {h : Heap} {a : Addr} (x : HOk P w H h) (n : h.get? a = none) : H a = none := by
  cases q : H a with
  | none => rfl
  | some o =>
    have t : ∀ o, ObjOk P w H h a o → ∃ u, h.get? a = some u := fun o z => by
      cases o with
      | lst xs => obtain ⟨_, _, _, _, e⟩ := z; exact ⟨_, e⟩
      | tup xs => obtain ⟨_, _, _, _, e, _⟩ := z; exact ⟨_, e⟩
      | dK kvs => obtain ⟨_, _, _, _, o, _, _, e, _⟩ := z; exact ⟨_, e⟩
      | dT kvs => obtain ⟨_, _, _, _, o, _, _, e, _⟩ := z; exact ⟨_, e⟩
      | set S n => obtain ⟨o, _, _, _, e, _⟩ := z; exact ⟨_, e⟩
      | ins C dx fs => obtain ⟨_, _, _, e, _⟩ := z; exact ⟨_, e⟩
      | own y => obtain ⟨_, e⟩ := z; exact ⟨_, e⟩
      | xd fs => obtain ⟨_, ⟨_, _, _, e, _⟩, _⟩ := z; exact ⟨_, e⟩
      | rng lo hi => obtain ⟨_, _, _, e⟩ := z; exact ⟨_, e⟩
      | frz ob u => obtain ⟨e, _⟩ := z; exact ⟨_, e⟩
      | tbl ps => exact ⟨_, z⟩
      | met f y => exact ⟨_, z⟩
      | ext φ => obtain ⟨_, e, _⟩ := z; exact e
    obtain ⟨u, e⟩ := t o (x a o q)
    rw [n] at e; cases e
section
variable {X : Cx} {k : Nat} {f C : Addr} {fd : FuncData} {ps : List Str} {sp : Sp} {x : Str} {p pos : Pos} {e : Expr} {es : List Expr} {t : TA} {pins : List (Addr × Obj)} {σ : St} {H : Hp} {s : Shared} {Q : VK} {us : List Value} {vs : List V}
theorem run_mkx (M : Mkx X.prog X.w X.K X.mg X.base k C x ps sp) (hr : Room (k + 1) X.A) (I : Inv X pins σ H s) (r : Vals vs us) (hz : vs.length ≤ 8)
    (h : ∀ x, H x = none → sp (.ref x :: vs) (upd H x (exO x C none)) (fun v H2 => v = .non ∧ Q (.ref x) H2) E0) :
    wpAny (model X.prog X.w) X.A (call (.ref C) us) (EP X pins σ Q) X.xe s := by
  obtain ⟨f, fd, F, c, hi, hf, hk, hm, hb⟩ := M
  have hq := h (s.heap.objs.size + 1) (I.hok.fresh (Nat.le_succ _))
  have r2 : Vals (V.ref (s.heap.objs.size + 1) :: vs) (Value.ref (s.heap.objs.size + 1) :: us) := .cons rfl r
  have hl : ((Value.ref (s.heap.objs.size + 1) :: us) ++ []).length = ps.length := by
    have e := r2.length
    rw [F.len _ _ _ _ hq] at e
    rw [List.append_nil]
    exact e.symm
  have hg1 : ((s.heap.push (tupO us)).push (excO C s.heap.objs.size)).get? (s.heap.objs.size + 1) = some (excO C s.heap.objs.size) := by heap_get
  have I2 : Inv X pins σ (upd H (s.heap.objs.size + 1) (exO (s.heap.objs.size + 1) C none)) { s with heap := (s.heap.push (tupO us)).push (excO C s.heap.objs.size) } :=
    I.laid (a := s.heap.objs.size + 1) (t' := s.toks) (fun b u q => Heap.get?_push_of_some _ (Heap.get?_push_of_some _ q)) (Nat.le_succ _) (exO_ok.mpr ⟨_, _, hg1, fun _ => rfl⟩)
  obtain ⟨hh, g, d, tk, os⟩ := s
  refine xc_make I.kIn c.ex hi (beq_iff_eq.mp hf) (by rw [← r.length, sizeLine_eq]; omega) (wpAny_call (codeAny_mono (F.run _ X.stack _ _ ⟨Value.ref (hh.objs.size + 1) :: us, []⟩ (Value.ref (hh.objs.size + 1) :: us) _ _ E0 (hr.make C us [])
    (I2.env0.make C us []) (by have := hb _ (Value.ref (hh.objs.size + 1) :: us) I2.kIn hl; rw [List.append_nil] at this; exact this) r2 hq) fun r s' hq' => ?_))
  cases r with
  | error e => exact False.elim hq'
  | ok fl =>
    cases fl with
    | ret u =>
      obtain ⟨v, H', I3, rv, ev, q3⟩ := I2.after hq'
      subst ev
      exact ⟨rv, ⟨V.ref (hh.objs.size + 1), H', I3, rfl, q3⟩⟩
    | next => exact False.elim hq'
    | brk => exact False.elim hq'
    | cont => exact False.elim hq'
theorem pe_xmk (M : Mkx X.prog X.w X.K X.mg X.base k C x ps sp) (hr : Room (k + 1) X.A) (hg : Gl X x) (ha : PA X (e :: es) t) (hdb : (x == ("__debug__" : Str)) = false := by decide)
    (he : starEach (e :: es) X.env = (false, eval e X.env) :: starEach es X.env := by with_unfolding_all rfl) (hpl : (backTo pos (starEach es X.env)).any (·.1) = false := by with_unfolding_all rfl) :
    PE X (.Call (.Name x p) (e :: es) [] pos) (tMkX C sp t) := by
  intro pins s σ H Q I h
  have M' := M
  obtain ⟨f, fd, F, c, hi, hf, hk, hm, hb⟩ := M'
  refine wpAny_Call_Name_kw (ld_glob I hg hm ?_ hdb)
  refine PySem.W.callWith_K (h₀ := X.base) I.ok.mod.kin hk (thn (ha pos pins s σ H _ I h) fun us s1 ⟨vs, H1, I1, r, z, q⟩ => ⟨I1.kIn, ?_⟩) he hpl
  exact run_mkx M hr I1 r z q
end
end L2
set_option Elab.async false
set_option linter.all false
set_option maxRecDepth 100000
set_option maxHeartbeats 4000000
namespace L2
open PySem PySem.Spec PyProof.Rows
noncomputable def spX (C : Addr) (fs : List Str) : Sp := fun vs H Q _ => ∃ a ws, vs = .ref a :: ws ∧ ws.length = fs.length ∧ H a = some (exO a C none) ∧
  ∀ dx H', H dx = none → dx ≠ a → (∀ b, b ≠ a → b ≠ dx → H' b = H b) → H' a = some (exO a C (some dx)) → H' dx = some (xdO dx (fs.zip ws)) → Q .non H'
section
variable {X : Cx} {K : PySem.W.Frag} {o e value : Expr} {f : Str} {pos pos' : Pos} {ta tv : TE}
theorem pe_fldXK (he : PE X e ta) (hb : attributeBase e f X.env (eval e X.env) = eval e X.env) (hK : X.K = K := by with_unfolding_all rfl) : PE X (.Attribute e f pos) (tFldX K ta f) := hK ▸ pe_fldX he hb
theorem ps_fldXK (ha : PE X o ta) (hv : PE X value tv) (hs : swapsWith value (some (.Attribute o f pos')) pos.line X.env = pure false) (hK : X.K = K := by with_unfolding_all rfl) : PS X (.Assign [.Attribute o f pos'] value pos) (sFldX K ta tv f) :=
  hK ▸ ps_fldX ha hv hs
end
section
variable {K : PySem.W.Frag} {σ : St} {H : Hp} {Q : VK} {D : Ends} {f : Str} {ta tv : TE} {t : TA} {sp : Sp} {C a dx B G : Addr} {fs : List (Str × V)} {v y : V} {R : Hp → Prop} {vs : List V}
theorem i_tFldX (k : ta σ H fun x H1 => rFldX K f x H1 Q) : tFldX K ta f σ H Q := k
theorem i_fldX {n' : Bool} (h : ExB n' H a C fs) (c : XC K C) (n : NoAttr K C f) (l : fs.lookup f = some v) (k : Q v H) : rFldX K f (.ref a) H Q := by
  rcases h with ⟨rfl, _⟩ | ⟨dx, _, h1, h2⟩
  · cases l
  · exact ⟨n', a, C, dx, fs, v, rfl, h1, h2, c, n, l, k⟩
theorem i_sFldX (k : tv σ H fun y H1 => ta σ H1 fun x H2 => rStX K f y x H2 fun H3 => D.nx σ H3) : sFldX K ta tv f D σ H := k
theorem i_stX0 (h : H a = some (exO a C none)) (c : XC K C) (n : NoAttr K C f) (k : ∀ dx H', H dx = none → dx ≠ a → (∀ b, b ≠ a → b ≠ dx → H' b = H b) → H' a = some (exO a C (some dx)) → H' dx = some (xdO dx [(f, y)]) → R H') : rStX K f y (.ref a) H R :=
  ⟨a, C, rfl, c, n, .inl ⟨h, fun dx h1 h2 => k dx _ h1 h2 (fun b hb hd => by rw [upd_ne hb, upd_ne hd]) upd_same (by rw [upd_ne h2, upd_same])⟩⟩
theorem i_tMkX (k : t σ H fun vs H1 => rMkX C sp vs H1 Q) : tMkX C sp t σ H Q := k
theorem i_mkX {gs : List Str} (hl : vs.length = gs.length) (hz : gs.length ≤ 8) (k : ∀ x H', H x = none → Same H H' → ExA H' x C (gs.zip vs) → Q (.ref x) H') : rMkX C (spX C gs) vs H Q := by
  refine ⟨by omega, fun x hx => ⟨x, vs, rfl, hl, upd_same, fun dx H' h1 h2 h3 h4 h5 => ⟨rfl, k x H' hx (fun b u q => ?_) (.inr ⟨dx, h2, h4, h5⟩)⟩⟩⟩
  have b1 : b ≠ x := ne_of_none q hx
  rw [upd_ne h2] at h1
  rw [h3 b b1 (ne_of_none q h1), upd_ne b1]
  exact q
theorem i_isX {n' b : Bool} (h : ExB n' H a C fs) (c : XC K C) (e : PySem.W.kitOne K (.ref C) (.ref G) = some b) (k : Q (.bl b) H) : rIsX K [.ref a, .ref G] H Q := ⟨n', a, C, fs, b, h, c, .inl ⟨G, rfl, e⟩, k⟩
theorem i_isXT {n' b : Bool} {T : String} (h : ExB n' H a C fs) (c : XC K C) (e : PySem.W.kitOne K (.ref C) (.type T) = some b) (k : Q (.bl b) H) : rIsX K [.ref a, .ty T] H Q := ⟨n', a, C, fs, b, h, c, .inr (.inl ⟨T, rfl, e⟩), k⟩
theorem i_isXU {n' b : Bool} {p : Addr} {cs : List Addr} (h : ExB n' H a C fs) (c : XC K C) (hp : H p = some (.tup (cs.map V.ref))) (e : PySem.W.kitAny K (.ref C) (cs.map Value.ref) = some b) (k : Q (.bl b) H) : rIsX K [.ref a, .ref p] H Q :=
  ⟨n', a, C, fs, b, h, c, .inr (.inr ⟨p, cs, rfl, hp, e⟩), k⟩
end
theorem xc_kitM {K : PySem.W.Frag} {C B : Addr} (hm : xcMro K C B = true) : PySem.W.kitOne K (.ref C) (.type "ValueError") = some true := by
  obtain ⟨cd, hc, hx⟩ := PySem.W.any_some hm
  unfold PySem.W.kitOne
  rw [if_neg (by rw [beq_eq_false_iff_ne.mpr (by intro q; cases q)]; decide)]
  unfold PySem.W.kitCls
  dsimp only
  rw [if_pos (by decide +kernel)]
  show PySem.W.mroIn K C _ = _
  unfold PySem.W.mroIn
  rw [hc, Option.bind_some, beq_iff_eq.mp hx, if_neg (by simp), List.contains_cons, List.contains_cons, show xB.contains (Value.type "ValueError") = true by decide +kernel, Bool.or_true, Bool.or_true]
end L2
set_option Elab.async false
set_option linter.all false
set_option maxRecDepth 100000
set_option maxHeartbeats 4000000
namespace L2
open PySem PySem.Spec PyProof.Rows
structure Lft (fs : List Addr) (a : Addr) (oe : Obj) (old : List Addr) (h h' : Heap) : Prop where
  keep : ∀ b o, b ∉ fs → b ≠ a → b ∉ old → h.get? b = some o → h'.get? b = some o
  slot : ∀ b o, b ∈ fs → h.get? b = some o → ∃ sl, h'.get? b = some { o with slots := sl }
  there : ∀ b o, h.get? b = some o → ∃ o', h'.get? b = some o'
  tr : ∃ oe' vs T oT ts, h'.get? a = some oe' ∧ oe'.cls = oe.cls ∧ oe'.dict = oe.dict ∧ oe'.slots = oe.slots ∧ oe'.data = .fields vs ∧ vs[1]? = some (.ref T) ∧ T ≠ a ∧ h.get? T = none ∧ h'.get? T = some oT ∧ oT.data = .fields ts ∧ ts[3]? = some .none
section
variable {M : Model} {A : Around} {E : Value → Shared → Prop} {s : Shared} {base : Heap} {env : Env} {outer : List Env} {L a : Addr} {oe : Obj} {vs : Array Value} {Q : Unit → Shared → Prop}
theorem mapF_dict (o : Obj) (g : Array Value → Array Value) : (o.mapFields g).dict = o.dict ∧ (o.mapFields g).slots = o.slots ∧ (o.mapFields g).cls = o.cls := by
  obtain ⟨c, d, dt, sl⟩ := o
  cases dt <;> exact ⟨rfl, rfl, rfl⟩
theorem lv_entry {head : Value} {hadNext : Bool} (hfr : A.frames = some (env :: outer)) (hl : s.heap.FunFrames base (env :: outer)) (hf : env.frame = some L) (he : s.heap.get? a = some oe) (hd : oe.data = .fields vs) (hsz : 1 < vs.size)
    (h : ∀ h', Lft (frs (env :: outer)) a oe [] s.heap h' → Q () { s with heap := h' }) :
    wpAny M A (do let x ← frameOf env; let pl ← entryPlaceOf L hadNext; let b ← EntryCells.newEntry head x .none (rawInt L) .none pl; setField (.ref a) 1 b) (fun _ s' => wpAny M A (setFlight (.ref a) none) Q E s') E s := by
  have ha : a ∉ frs (env :: outer) := fun hm => by
    obtain ⟨_, o, ho, hnf⟩ := hl.mem hm
    rw [he] at ho; cases ho; exact hnf vs hd
  refine wpAny_bind (wpAny_frameOf_fun hfr hl hf fun h1 k1 => ?_)
  refine wpAny_bind (wpAny_entryPlaceOf fun pl hpl => ?_)
  unfold EntryCells.newEntry newFields
  refine wpAny_bind (wpAny_newObj_type ?_ (hpl.sizeOk5 _ _ _ _ _))
  generalize hob : (Obj.mk (Value.type "traceback") none (Data.fields ([head, Value.ref L, Value.none, rawInt L, Value.none] ++ (if pl.isEmpty then List.replicate 6 Value.none else pl)).toArray) #[] : Obj) = ob
  have obd : ob.data = .fields ([head, Value.ref L, Value.none, rawInt L, Value.none] ++ (if pl.isEmpty then List.replicate 6 Value.none else pl)).toArray := by rw [← hob]
  have hob2 : ob.isFreed = false := Obj.isFreed_of_fields obd
  have he1 : h1.get? a = some oe := (k1.2.1 a ha).trans he
  have he2 := Heap.get?_push_of_some (h := h1) ob he1
  refine wpAny_setField he2 hd hsz ?_
  have hTe : h1.objs.size ≠ a := Nat.ne_of_gt (Heap.lt_size he1)
  have d3 := Obj.data_mapFields hd (·.setIfInBounds 1 (Value.ref h1.objs.size))
  have he3 := Heap.get?_update_self (Obj.mapFields (·.setIfInBounds 1 (Value.ref h1.objs.size))) he2 (Obj.isFreed_of_fields d3)
  have hT3 := (Heap.get?_update_other (h1.push ob) (Obj.mapFields (·.setIfInBounds 1 (Value.ref h1.objs.size))) (Ne.symm hTe)).trans (Heap.get?_push_size h1 hob2)
  unfold setFlight
  refine wpAny_bind (wpAny_field he3 d3 (x := .ref h1.objs.size) (by simp [hsz]) ?_)
  rw [if_pos (show (Value.ref h1.objs.size != Value.none) = true from by simp)]
  refine wpAny_setField hT3 obd (by simp only [List.size_toArray, List.length_append, List.length_cons, List.length_nil] <;> omega) (h _ ?_)
  have kp : ∀ b o, b ≠ a → h1.get? b = some o → (((h1.push ob).update a (Obj.mapFields (·.setIfInBounds 1 (Value.ref h1.objs.size)))).update h1.objs.size (Obj.mapFields (·.setIfInBounds 3 ((none : Option Addr).elim Value.none fun f => rawInt f)))).get? b = some o := fun b o hbe hb => by
    rw [Heap.get?_update_other _ _ (Nat.ne_of_gt (Heap.lt_size hb)), Heap.get?_update_other _ _ (Ne.symm hbe)]
    exact Heap.get?_push_of_some _ hb
  have hea := (Heap.get?_update_other _ (Obj.mapFields (·.setIfInBounds 3 ((none : Option Addr).elim Value.none fun f => rawInt f))) hTe).trans he3
  refine ⟨fun b o hb hba _ q => kp b o hba ((k1.2.1 b hb).trans q), fun b o hb q => ?_, fun b o q => ?_, ?_⟩
  · obtain ⟨sl, z⟩ := k1.2.2 b o q
    exact ⟨sl, kp b _ (fun w => ha (w ▸ hb)) z⟩
  · by_cases w : b = a
    · subst w; exact ⟨_, hea⟩
    · obtain ⟨sl, z⟩ := k1.2.2 b o q
      exact ⟨_, kp b _ w z⟩
  · obtain ⟨m1, m2, m3⟩ := mapF_dict oe (·.setIfInBounds 1 (Value.ref h1.objs.size))
    refine ⟨_, _, h1.objs.size, _, _, hea, m3, m1, m2, d3, by simp [hsz], hTe, Heap.get?_none_of_le (by rw [k1.1]; exact Nat.le_refl _), Heap.get?_update_self _ hT3 (Obj.isFreed_of_fields (Obj.data_mapFields obd _)), Obj.data_mapFields obd _, ?_⟩
    rcases hpl with rfl | ⟨_, _, _, _, _, _, _, rfl⟩ <;> simp
theorem lv_first (hfr : A.frames = some (env :: outer)) (hl : s.heap.FunFrames base (env :: outer)) (hf : env.frame = some L) (he : s.heap.get? a = some oe) (hd : oe.data = .fields vs) (h1 : vs[1]? = some .none)
    (h : ∀ h', Lft (frs (env :: outer)) a oe [] s.heap h' → Q () { s with heap := h' }) : wpAny M A (leaving env (.ref a)) Q E s := by
  unfold leaving noteFrame
  simp only [hf]
  refine wpAny_bind (wpAny_bind (wpAny_field he hd h1 ?_))
  rw [if_neg (by decide)]
  exact lv_entry hfr hl hf he hd (Array.getElem?_eq_some_iff.mp h1).1 h
theorem lv_nextS {T : Addr} {oT : Obj} {ts : Array Value} (hfr : A.frames = some (env :: outer)) (hl : s.heap.FunFrames base (env :: outer)) (hf : env.frame = some L) (he : s.heap.get? a = some oe) (hd : oe.data = .fields vs) (h1 : vs[1]? = some (.ref T))
    (hTe : T ≠ a) (hT : s.heap.get? T = some oT) (hdT : oT.data = .fields ts) (h3 : ts[3]? = some .none)
    (h : ∀ h', Lft (frs (env :: outer)) a oe [T] s.heap h' → Q () { s with heap := h' }) : wpAny M A (noteFrame (.ref a) env) (fun _ s' => wpAny M A (setFlight (.ref a) none) Q E s') E s := by
  unfold noteFrame
  simp only [hf]
  refine wpAny_bind (wpAny_field he hd h1 ?_)
  rw [if_pos (show (Value.ref T != Value.none) = true from by simp)]
  refine wpAny_bind (wpAny_field hT hdT h3 ?_)
  rw [if_neg (show ¬ ((Value.none == rawInt L) = true) from by simp [rawInt])]
  refine wpAny_bind (wpAny_setField hT hdT (Array.getElem?_eq_some_iff.mp h3).1 ?_)
  have ot : ∀ b, b ≠ T → (s.heap.update T (Obj.mapFields (·.setIfInBounds 3 Value.none))).get? b = s.heap.get? b := fun b hb => Heap.get?_update_other _ _ (Ne.symm hb)
  have tt := Heap.get?_update_self (Obj.mapFields (·.setIfInBounds 3 Value.none)) hT (Obj.isFreed_of_fields (Obj.data_mapFields hdT _))
  have nT : ∀ b o, s.heap.get? b = some o → (∀ us, o.data ≠ .fields us) → b ≠ T := fun b o hb hnf q => by
    rw [q, hT] at hb; cases hb; exact hnf ts hdT
  have fT : T ∉ frs (env :: outer) := fun hm => by
    obtain ⟨_, o, ho, hnf⟩ := hl.mem hm
    exact nT T o ho hnf rfl
  refine lv_entry (hl := hl.of_keeps fun b o hb hnf => ⟨o, (ot b (nT b o hb hnf)).trans hb, rfl⟩) hfr hf ((ot a (Ne.symm hTe)).trans he) hd (Array.getElem?_eq_some_iff.mp h1).1 fun h' l => h h' ?_
  obtain ⟨x1, x2, x3, oe', us, T', oT', ts', q1, q2, q3, q4, q5, q6, q7, q8, q9⟩ := l
  refine ⟨fun b o hb hba hbt q => x1 b o hb hba (by simp) ((ot b fun z => hbt (by simp [z])).trans q), fun b o hb q => x2 b o hb ((ot b fun z => fT (z ▸ hb)).trans q), fun b o q => ?_, oe', us, T', oT', ts', q1, q2, q3, q4, q5, q6, q7, ?_, q9⟩
  · by_cases z : b = T
    · subst z; exact x3 _ _ tt
    · exact x3 b o ((ot b z).trans q)
  · by_cases z : T' = T
    · rw [z, tt] at q8; cases q8
    · rw [← ot T' z]; exact q8
theorem lv_next {T : Addr} {oT : Obj} {ts : Array Value} (hfr : A.frames = some (env :: outer)) (hl : s.heap.FunFrames base (env :: outer)) (hf : env.frame = some L) (he : s.heap.get? a = some oe) (hd : oe.data = .fields vs) (h1 : vs[1]? = some (.ref T))
    (hTe : T ≠ a) (hT : s.heap.get? T = some oT) (hdT : oT.data = .fields ts) (h3 : ts[3]? = some .none)
    (h : ∀ h', Lft (frs (env :: outer)) a oe [T] s.heap h' → Q () { s with heap := h' }) : wpAny M A (leaving env (.ref a)) Q E s := by
  unfold leaving
  exact wpAny_bind (lv_nextS hfr hl hf he hd h1 hTe hT hdT h3 h)
end
end L2
set_option Elab.async false
set_option linter.all false
set_option maxRecDepth 100000
set_option maxHeartbeats 4000000
namespace L2
open PySem PySem.Spec PyProof.Rows
noncomputable def Tra (a : Addr) (H' : Hp) (h0 h : Heap) : Prop := ∃ oe vs T oT ts, h.get? a = some oe ∧ oe.data = .fields vs ∧ vs[1]? = some (.ref T) ∧ T ≠ a ∧ h.get? T = some oT ∧ oT.data = .fields ts ∧ ts[3]? = some .none ∧ H' T = none ∧ h0.get? T = none
noncomputable def CX1 (P : Program) (w : World) : CXT := fun outer H s E e s' => ∃ a C od H', e = .ref a ∧ s'.os = s.os ∧ AllBare s'.gens ∧ Un (frs outer) [] H H' s.heap s'.heap ∧ HOk P w H' s'.heap ∧ H' a = some (exG false a C od) ∧ s.heap.get? a = none ∧ Tra a H' s.heap s'.heap ∧ E (.ref a) none H'
section
variable {P : Program} {w : World} {fs : List Addr} {a C : Addr} {od : Option Addr} {oe : Obj} {old : List Addr} {h h' : Heap} {H : Hp} {n : Bool}
theorem Lft.hok (l : Lft fs a oe old h h') (ok : HOk P w H h) (he : h.get? a = some oe) (ha : H a = some (exG n a C od)) (hfs : ∀ b ∈ fs, H b = none) (hold : ∀ b ∈ old, H b = none) : HOk P w (upd H a (exG false a C od)) h' := fun b u q => by
  have hu : ∀ c z, H c = some z → c ≠ a → upd H a (exG false a C od) c = some z := fun c z r ne => by rw [upd_ne ne]; exact r
  by_cases hb : b = a
  · subst hb
    rw [upd_same] at q; cases q
    obtain ⟨vs, sl, e1, _⟩ := exG_ok.mp (ok b _ ha)
    rw [he] at e1; cases e1
    obtain ⟨oe', us, T, oT, ts, q1, q2, q3, q4, q5, _⟩ := l.tr
    obtain ⟨c, d, dt, s4⟩ := oe'
    dsimp only at q2 q3 q4 q5
    subst q2 q3 q4 q5
    exact exG_ok.mpr ⟨us, _, q1, fun z => Bool.noConfusion z⟩
  · rw [upd_ne hb] at q
    refine (ok b u q).stay (fun c v hc r => ?_) (fun c r => hu c _ r fun z => ?_) fun c xs r => hu c _ r fun z => ?_
    · have hcn : ∃ z, H c = some z := by
        rcases hc with hc | hc
        · exact ⟨u, hc ▸ q⟩
        · exact ⟨_, hc⟩
      obtain ⟨z, hz⟩ := hcn
      refine l.keep c v (fun m => by rw [hfs c m] at hz; cases hz) (fun e => ?_) (fun m => by rw [hold c m] at hz; cases hz) r
      subst e
      rcases hc with hc | hc
      · exact hb hc.symm
      · rw [ha] at hc; cases hc
    · rw [z, ha] at r; cases r
    · rw [z, ha] at r; cases r
end
section
variable {P : Program} {w : World} {K : PySem.W.Frag} {mg : Str → Option Value} {base : Heap} {N : List Str} {qual : Str} {scope : Scope} {f : Addr} {cd : Value} {A : Around} {outer : List Env} {s₀ : Shared} {H₀ : Hp} {E : XK}
theorem fun_un {h h' : Heap} : ∀ {l : List Env}, h.FunFrames base l → (∀ b ∈ frs l, ∀ o, h.get? b = some o → ∃ sl, h'.get? b = some { o with slots := sl }) → h'.FunFrames base l
  | [], _, _ => True.intro
  | env :: r, hl, k => by
    obtain ⟨hk, ⟨L, o, hf, hn, ho, hd⟩, hr⟩ := hl
    have e : frs (env :: r) = L :: frs r := by unfold frs; rw [List.filterMap_cons, hf]
    obtain ⟨sl, z⟩ := k L (by rw [e]; exact List.mem_cons_self) o ho
    exact ⟨hk, ⟨L, _, hf, hn, z, hd⟩, fun_un hr fun b hb => k b (by rw [e]; exact List.mem_cons_of_mem _ hb)⟩
theorem lv_cx {CX : CXT} {pins : List (Addr × Obj)} {σ : St} {H1 H2 : Hp} {s1 s2 : Shared} {h3 : Heap} {a C : Addr} {od : Option Addr} {oe : Obj} {old : List Addr} {n : Bool} (I : Inv (cxOf CX P w K mg base N qual scope f cd A outer s₀ H₀ E) pins σ H1 s1)
    (os : s2.os = s1.os) (bare : AllBare s2.gens) (un : Un (frs (envOfC qual scope s₀.heap.objs.size f cd :: outer)) [] H1 H2 s1.heap s2.heap) (ok : HOk P w H2 s2.heap) (ha : H2 a = some (exG n a C od)) (he : s2.heap.get? a = some oe) (hn : s₀.heap.get? a = none) (hold : ∀ b ∈ old, H2 b = none ∧ s₀.heap.get? b = none)
    (l : Lft (frs (envOfC qual scope s₀.heap.objs.size f cd :: outer)) a oe old s2.heap h3) (q : E (.ref a) none (upd H2 a (exG false a C od))) :
    CX1 P w outer H₀ s₀ E (.ref a) { s2 with heap := h3 } := by
  have stk : ∀ b ∈ frs (envOfC qual scope s₀.heap.objs.size f cd :: outer), b = s₀.heap.objs.size ∨ b ∈ frs outer := fun b hb => by
    rcases List.mem_cons.mp (I.stkSub b hb) with z | z
    · exact .inl z
    · exact .inr z
  have fr2 : ∀ b ∈ frs (envOfC qual scope s₀.heap.objs.size f cd :: outer), H2 b = none := fun b hb => by
    obtain ⟨_, o, ho, _⟩ := I.stack.mem hb
    exact un.free b o ho (I.stkFree b hb) (by simp)
  obtain ⟨oe', us, T, oT, ts, q1, q2, q3, q4, q5, q6, q7, q8, q9, q10, q11⟩ := l.tr
  have nl : ∀ b o, s₀.heap.get? b = some o → b ≠ s₀.heap.objs.size := fun b o z => Nat.ne_of_lt (Heap.lt_size z)
  have na : ∀ b o, s₀.heap.get? b = some o → b ≠ a := fun b o z e => by rw [e, hn] at z; cases z
  have no : ∀ b o, s₀.heap.get? b = some o → b ∉ old := fun b o z e => by rw [(hold b e).2] at z; cases z
  have tn : H2 T = none := hp_none ok q8
  have t0 : s₀.heap.get? T = none := by
    cases z : s₀.heap.get? T with
    | none => rfl
    | some o =>
      obtain ⟨o1, z1⟩ := I.base.there T o z (by intro m; cases m)
      obtain ⟨o2, z2⟩ := un.there T o1 z1 (by simp)
      rw [q8] at z2; cases z2
  have hu : ∀ c z, H2 c = some z → z ≠ exG n a C od → upd H2 a (exG false a C od) c = some z := fun c z r ne => by rw [upd_ne fun e => ne (by rw [e, ha] at r; exact (Option.some.inj r).symm)]; exact r
  refine ⟨a, C, od, upd H2 a (exG false a C od), rfl, os.trans I.os, bare, ⟨fun b o z nz hb _ => ?_, fun b o z nz hb _ => ?_, fun b o z nz _ => ?_, fun b o z _ => ?_, fun b xs z => ?_, fun b o u z => ?_, fun b ps z => ?_⟩, l.hok ok he ha fr2 (fun b m => (hold b m).1), upd_same, hn, ⟨oe', us, T, oT, ts, q1, q5, q6, q7, q9, q10, q11, by rw [upd_ne q7]; exact tn, t0⟩, q⟩
  · have z1 := I.base.keep b o z nz hb (by intro m; cases m)
    have n1 := I.base.free b o z nz (by intro m; cases m)
    have hb2 : b ∉ frs (envOfC qual scope s₀.heap.objs.size f cd :: outer) := fun m => (stk b m).elim (nl b o z) hb
    exact l.keep b o hb2 (na b o z) (no b o z) (un.keep b o z1 n1 hb2 (by simp))
  · obtain ⟨sl, z1⟩ := I.base.slot b o z nz hb (by intro m; cases m)
    have n1 := I.base.free b o z nz (by intro m; cases m)
    obtain ⟨sl2, z2⟩ := un.any z1 n1 (by simp)
    by_cases m : b ∈ frs (envOfC qual scope s₀.heap.objs.size f cd :: outer)
    · obtain ⟨sl3, z3⟩ := l.slot b _ m z2
      exact ⟨sl3, z3⟩
    · exact ⟨sl2, l.keep b _ m (na b o z) (no b o z) z2⟩
  · obtain ⟨o1, z1⟩ := I.base.there b o z (by intro m; cases m)
    have n1 := I.base.free b o z nz (by intro m; cases m)
    show upd H2 a _ b = none
    rw [upd_ne (na b o z)]
    exact un.free b o1 z1 n1 (by simp)
  · obtain ⟨o1, z1⟩ := I.base.there b o z (by intro m; cases m)
    obtain ⟨o2, z2⟩ := un.there b o1 z1 (by simp)
    exact l.there b o2 z2
  · exact hu b _ (un.tups b xs (I.base.tups b xs z)) (fun e => nomatch e)
  · exact hu b _ (un.frzs b o u (I.base.frzs b o u z)) (fun e => nomatch e)
  · obtain ⟨m1, z1⟩ := I.base.tbls b ps z
    obtain ⟨m2, z2⟩ := un.tbls b _ z1
    exact ⟨m1 ++ m2, by rw [← Array.append_assoc]; exact hu b _ z2 (fun e => nomatch e)⟩
theorem pass1 (hfr : scope.kind ≠ .module) (hE : ∀ a H C od, H a = some (exG false a C od) → E (.ref a) none H → E (.ref a) none (upd H a (exG false a C od))) : Passes (CX1 P w) (cxOf (CX1 P w) P w K mg base N qual scope f cd A outer s₀ H₀ E) E := by
  intro pins σ H1 s1 e s' I hq
  obtain ⟨a, C, od, H2, rfl, os, bare, un, ok, ha, hn, ⟨oe, vs, T, oT, ts, t1, t2, t3, t4, t5, t6, t7, t8, t9⟩, q⟩ := hq
  have hn0 : s₀.heap.get? a = none := by
    cases z : s₀.heap.get? a with
    | none => rfl
    | some o =>
      obtain ⟨o1, z1⟩ := I.base.there a o z (by intro m; cases m)
      rw [hn] at z1; cases z1
  have hT0 : s₀.heap.get? T = none := by
    cases z : s₀.heap.get? T with
    | none => rfl
    | some o =>
      obtain ⟨o1, z1⟩ := I.base.there T o z (by intro m; cases m)
      rw [t9] at z1; cases z1
  have fun2 : s'.heap.FunFrames base (envOfC qual scope s₀.heap.objs.size f cd :: outer) := fun_un I.stack fun b hb o ho => un.any ho (I.stkFree b hb) (by simp)
  refine lv_next (base := base) (L := s₀.heap.objs.size) (I.ok.frames) fun2 rfl t1 t2 t3 t4 t5 t6 t7 fun h3 l => ?_
  exact lv_cx I os bare un ok ha t1 hn0 (fun b hb => by simp at hb; subst hb; exact ⟨t8, hT0⟩) l (hE a H2 C od ha q)
theorem upd_self {H : Hp} {a : Addr} {o : HO} (h : H a = some o) : upd H a o = H := by
  funext b
  unfold upd
  split
  · rename_i e; rw [e, h]
  · rfl
theorem pass1' : Passes (CX1 P w) (cxOf (CX1 P w) P w K mg base N qual scope f cd A outer s₀ H₀ E) E := by
  intro pins σ H1 s1 e s' I hq
  exact pass1 (by have := I.ok.kind; show scope.kind ≠ _; rw [show scope.kind = .function from this]; decide) (fun a H C od h q => by rw [upd_self h]; exact q) pins σ H1 s1 e s' I hq
noncomputable def rRaise (K : PySem.W.Frag) (H0 : Hp) (E : XK) (x : V) (H1 : Hp) : Prop := ∃ a C od, x = .ref a ∧ H1 a = some (exO a C od) ∧ XC K C ∧ H0 a = none ∧ E (.ref a) none (upd H1 a (exG false a C od))
noncomputable def sRaise (K : PySem.W.Frag) (H0 : Hp) (E : XK) (t : TE) : TS := fun D σ H => t σ H fun x H1 => rRaise K H0 E x H1
theorem ps_raise {ex : Expr} {t : TE} {pos : Pos} {X : Cx} (hX : X = cxOf (CX1 P w) P w K mg base N qual scope f cd A outer s₀ H₀ E) (he : PE X ex t) : PS X (.Raise (some ex) none pos) (sRaise K H₀ E t) := by
  subst hX
  intro pins s σ H D I h
  rw [arm_exec_Raise]
  refine wpAny_bind (wpAny_standAt ?_)
  unfold raiseStmt
  simp only [evalOpt, Option.map]
  refine wpAny_bind (wpAny_bind (thn (he pins s σ H _ I h) fun v s1 ⟨x, H1, I1, rx, a, C, od, ex', ha, hc, h0, q⟩ => wpAny_bind (wpAny_standAt (wpAny_pure ?_))))
  subst ex'
  obtain rfl : v = Value.ref a := rx
  obtain ⟨vs, sl, hx, hv⟩ := exO_ok.mp (I1.hok a _ ha)
  have hv := hv rfl
  obtain ⟨nm, qn, N', bs, bm, sn, sub, ab, col, dd, k0, k1, k2, k3, k5, hl, htl⟩ := xc_obj hc.ex
  have hC := I1.kIn _ _ hl
  have hcB : (Value.ref C :: bm).contains (.type "BaseException") = true := by rw [List.contains_cons, xc_bex (PySem.W.tail_of_in I1.kIn htl), Bool.or_true]
  have fin : (cxOf (CX1 P w) P w K mg base N qual scope f cd A outer s₀ H₀ E).xe (.ref a) s1 := by
    refine lv_first (base := base) (L := s₀.heap.objs.size) I1.ok.frames I1.stack rfl hx rfl hv fun h3 l => ?_
    have hn0 : s₀.heap.get? a = none := by
      cases z : s₀.heap.get? a with
      | none => rfl
      | some o =>
        have := I1.base.free a o z h0 (by intro m; cases m)
        rw [ha] at this; cases this
    exact lv_cx I1 rfl I1.bare Un.refl I1.hok ha hx hn0 (by simp) l q
  obtain ⟨hh, g, d, tk, os⟩ := s1
  repeat (first | (with_reducible refine wpAny_loadPart_at hx ?_) | (with_reducible refine wpAny_loadPart_at hC ?_) | (with_reducible refine wpAny_isSubtype_exc hC ?_; rw [hcB]) | (with_reducible refine wpAny_field hx rfl hv ?_) | wp_step)
  exact wpAny_raiseNew_none (I1.ok.hd rfl) fin
end
end L2
set_option Elab.async false
set_option linter.all false
set_option maxRecDepth 100000
set_option maxHeartbeats 4000000
namespace L2
open PySem PySem.Spec PyProof.Rows
section
variable {X : Cx} {pins : List (Addr × Obj)} {σ : St} {H : Hp} {s : Shared}
theorem gone_ok {M : Model} {A : Around} {E : Value → Shared → Prop} {i : Nat} {x : Str} {pos : Pos} {Q : Unit → Shared → Prop} (I : Inv X pins σ H s) (hN : X.N.Nodup) (hi : X.N[i]? = some x) (hk : X.env.scope.names.lookup x = some .local)
    (h : ∀ s', Inv X pins (σ.set i none) H s' → Q () s') : wpAny M A (do bindName X.env x .none; unbindBehindTheSuite X.env x pos) Q E s := by
  refine wpAny_bind (wpAny_bindName (store_ok (v := .non) (u := .none) I hN hi (.inl hk) rfl (fun s1 I1 => ?_) (.inr hk)))
  unfold unbindBehindTheSuite
  refine wpAny_onRaise ?_
  obtain ⟨m, hn, hl⟩ := id I1.loc
  have hcls : (X.env.scope.kind == .class || (X.env.scope.kind == .module && X.env.locals != X.env.globals)) = false := by rw [I1.ok.kind]; rfl
  have hiσ : i < σ.length := by rw [I.len]; exact (List.getElem?_eq_some_iff.mp hi).1
  obtain ⟨u, ru, lu⟩ := hl i x .non hi (List.getElem?_set_self hiσ) (.inl hk)
  have hmx : m x = some u := by
    rcases lu with ⟨_, z⟩ | ⟨z, _⟩
    · exact z
    · have z' : X.env.scope.names.lookup x = some .cell ∨ X.env.scope.names.lookup x = some .free := z
      rw [hk] at z'
      rcases z' with z' | z' <;> cases z'
  refine wpAny_unbindName_local hk hn hmx hcls fun h' w hn' hs => h _ ?_
  obtain ⟨oL, _, _, hoL, _⟩ := id hn
  have cne := I1.cne
  refine ⟨I1.ok, I1.os, I1.bare, ⟨fun b o e n hb hx => ?_, fun b o e n hb hx => ?_, I1.base.free, fun b o e hx => ?_, I1.base.tups, I1.base.frzs, I1.base.tbls⟩, ⟨_, hn', fun j y v' e1 e2 e3 => ?_⟩, fun y c e => ?_, I1.free, I1.freeC, fun p hp => ?_, fun b ob e => ?_, by simpa using I.len⟩
  · exact (hs.2 b (Nat.ne_of_lt (Nat.lt_of_lt_of_le (Heap.lt_size e) I1.ok.above))).trans (I1.base.keep b o e n hb hx)
  · obtain ⟨sl, e1⟩ := I1.base.slot b o e n hb hx
    exact ⟨sl, (hs.2 b (Nat.ne_of_lt (Nat.lt_of_lt_of_le (Heap.lt_size e) I1.ok.above))).trans e1⟩
  · obtain ⟨o', e1⟩ := I1.base.there b o e hx
    exact ⟨o', (hs.2 b (Nat.ne_of_lt (Nat.lt_of_lt_of_le (Heap.lt_size e) I1.ok.above))).trans e1⟩
  · by_cases hj : j = i
    · subst hj
      rw [List.getElem?_set_self hiσ] at e2
      cases e2
    · rw [List.getElem?_set_ne (Ne.symm hj)] at e2
      obtain ⟨u', r', q⟩ := hl j y v' e1 (by rw [List.getElem?_set_ne (Ne.symm hj)]; exact e2) e3
      refine ⟨u', r', ?_⟩
      rcases q with ⟨k, e⟩ | ⟨k, c, e, z⟩
      · refine .inl ⟨k, ?_⟩
        have ne : y ≠ x := fun e => hj (nodup_ix hN e1 (e ▸ hi))
        simp [ne, e]
      · exact .inr ⟨k, c, e, z.sameBut hs (cne y c e)⟩
  · obtain ⟨w', z⟩ := I1.cell y c e
    exact ⟨w', z.sameBut hs (cne y c e)⟩
  · obtain ⟨e, n, ne, nf, d⟩ := I1.pin p hp
    exact ⟨(hs.2 p.1 ne).trans e, n, ne, nf, d⟩
  · refine (I1.hok b ob e).stay (fun c w' hc q => (hs.2 c ?_).trans q) (fun _ q => q) fun _ _ q => q
    rintro rfl
    rcases hc with hc | hc
    · rw [← hc] at e; rw [I1.free] at e; cases e
    · rw [I1.free] at hc; cases hc
noncomputable abbrev Cx.tri (X : Cx) (pins : List (Addr × Obj)) (E : Value → Shared → Prop) : Cx := { X with xe := E, pn := X.pn ++ pins }
noncomputable abbrev Cx.hnd (X : Cx) (a : Addr) (E : Value → Shared → Prop) : Cx := { X with A := X.A.mark (some (.ref a)), calm := false, xe := E }
theorem Inv.tri (I : Inv X pins σ H s) (E : Value → Shared → Prop) : Inv (X.tri pins E) [] σ H s :=
  ⟨⟨I.ok.mod, I.ok.kind, I.ok.glob, I.ok.blt, I.ok.above, I.ok.inj, I.ok.has, I.ok.cab, I.ok.hd, I.ok.frames, I.ok.stk, I.ok.exf, I.ok.bs, I.ok.bsz, I.ok.noex, I.ok.exfs, I.ok.funs, I.ok.frf⟩, I.os, I.bare, I.base, I.loc, I.cell, I.free, I.freeC, fun p hp => I.pin p (by simpa using hp), I.hok, I.len⟩
theorem Inv.untri {E : Value → Shared → Prop} {more : List (Addr × Obj)} (I : Inv (X.tri pins E) more σ H s) : Inv X pins σ H s :=
  ⟨⟨I.ok.mod, I.ok.kind, I.ok.glob, I.ok.blt, I.ok.above, I.ok.inj, I.ok.has, I.ok.cab, I.ok.hd, I.ok.frames, I.ok.stk, I.ok.exf, I.ok.bs, I.ok.bsz, I.ok.noex, I.ok.exfs, I.ok.funs, I.ok.frf⟩, I.os, I.bare, I.base, I.loc, I.cell, I.free, I.freeC, fun p hp => I.pin p (List.mem_append_left _ hp), I.hok, I.len⟩
theorem Inv.hnd (I : Inv X pins σ H s) (a : Addr) (E : Value → Shared → Prop) : Inv (X.hnd a E) pins σ H s :=
  ⟨⟨I.ok.mod, I.ok.kind, I.ok.glob, I.ok.blt, I.ok.above, I.ok.inj, I.ok.has, I.ok.cab, fun z => Bool.noConfusion z, I.ok.frames, I.ok.stk, I.ok.exf, I.ok.bs, I.ok.bsz, I.ok.noex, I.ok.exfs, I.ok.funs, I.ok.frf⟩, I.os, I.bare, I.base, I.loc, I.cell, I.free, I.freeC, I.pin, I.hok, I.len⟩
theorem Inv.unhnd {a : Addr} {E : Value → Shared → Prop} (hd : X.calm = true → X.A.handled = none) (I : Inv (X.hnd a E) pins σ H s) : Inv X pins σ H s :=
  ⟨⟨I.ok.mod, I.ok.kind, I.ok.glob, I.ok.blt, I.ok.above, I.ok.inj, I.ok.has, I.ok.cab, hd, I.ok.frames, I.ok.stk, I.ok.exf, I.ok.bs, I.ok.bsz, I.ok.noex, I.ok.exfs, I.ok.funs, I.ok.frf⟩, I.os, I.bare, I.base, I.loc, I.cell, I.free, I.freeC, I.pin, I.hok, I.len⟩
end
section
variable {M : Model} {A : Around} {E : Value → Shared → Prop} {s : Shared} {K : PySem.W.Frag} {C B a : Addr} {oe : Obj} {Q : Bool → Shared → Prop}
theorem xc_match (X : K.In s.heap) (c : XC K C) (b : XC K B) (hm : PySem.W.mroIn K C (.ref B) = some true) (he : s.heap.get? a = some oe) (hc : oe.cls = .ref C) (hq : Q true s) : wpAny M A (excMatches (.ref a) (.ref B)) Q E s := by
  obtain ⟨nm, qn, N, bs, bm, sn, sub, ab, col, dd, k0, k1, k2, k3, k5, hl, htl⟩ := xc_obj b.ex
  have hB := X _ _ hl
  have hcB : (Value.ref B :: bm).contains (.type "BaseException") = true := by rw [List.contains_cons, xc_bex (PySem.W.tail_of_in X htl), Bool.or_true]
  have f := tc_notTuple
  have l1 : PySem.W.Looks M s.heap (isSubtype (.ref C) (.ref B)) true := PySem.W.looks_mroIn X hm
  obtain ⟨h, g, d, t, os⟩ := s
  unfold excMatches
  repeat (first | (with_reducible refine wpAny_loadPart_at he ?_; rw [hc]) | (with_reducible refine wpAny_loadPart_at hB ?_) | (with_reducible refine wpAny_isSubtype_exc hB ?_; rw [hcB]) | (with_reducible refine l1.at ?_) | wp_step)
  exact hq
end
end L2
set_option Elab.async false
set_option linter.all false
set_option maxRecDepth 100000
set_option maxHeartbeats 4000000
namespace L2
open PySem PySem.Spec PyProof.Rows
noncomputable def tryE (G : Addr → Hp → Prop) : XK := fun v _ H' => ∃ a, v = .ref a ∧ G a H'
noncomputable def sTry (K : PySem.W.Frag) (len i : Nat) (B : Addr) (G : Addr → Hp → Prop) (tb th : TS) : TS := fun D σ H => tb D σ H ∧ ∀ (a : Addr) (H' : Hp) (σ' : St), σ'.length = len → G a H' →
  (∃ C od, H' a = some (exG false a C od) ∧ XC K C ∧ PySem.W.mroIn K C (.ref B) = some true) ∧
    th { nx := fun σ2 H2 => D.nx (σ2.set i none) H2, rt := D.rt, bk := fun σ2 H2 => D.bk (σ2.set i none) H2, ct := fun σ2 H2 => D.ct (σ2.set i none) H2 } (σ'.set i (some (.ref a))) H'
section
variable {X : Cx} {pins : List (Addr × Obj)}
theorem SP.untri {E : Value → Shared → Prop} {D : Ends} {f : Flow} {s' : Shared} (h : SP (X.tri pins E) [] D f s') : SP X pins D f s' := by
  cases f with
  | next => obtain ⟨σ', H', I, q⟩ := h; exact ⟨σ', H', I.untri, q⟩
  | brk => obtain ⟨σ', H', I, q⟩ := h; exact ⟨σ', H', I.untri, q⟩
  | cont => obtain ⟨σ', H', I, q⟩ := h; exact ⟨σ', H', I.untri, q⟩
  | ret u => obtain ⟨v, σ', H', I, r, q⟩ := h; exact ⟨v, σ', H', I.untri, r, q⟩
theorem setF_id {ts : Array Value} (h : ts[3]? = some .none) : ts.setIfInBounds 3 .none = ts := by
  obtain ⟨h1, h2⟩ := Array.getElem?_eq_some_iff.mp h
  refine Array.ext (by simp) fun j j1 j2 => ?_
  rw [Array.getElem_setIfInBounds]
  split
  · rename_i e; subst e; exact h2.symm
  · rfl
theorem ps_try {body suite : List Stmt} {b0 : Stmt} {tb th : TS} {n bx : Str} {i : Nat} {B : Addr} {p1 p2 pos : Pos} (G : Addr → Hp → Prop) (hN : X.N.Nodup) (hi : X.N[i]? = some n) (hk : X.env.scope.names.lookup n = some .local) (hg : Gl X bx) (hm : X.mg bx = some (.ref B)) (hB : XC X.K B)
    (hst : X.stack = X.env :: X.outer) (hf : X.env.frame = some X.env.locals) (hex : X.ex = [])
    (hb : ∀ ps xe, Passes (CX1 X.prog X.w) (X.tri ps xe) (tryE G) → PSs (X.tri ps xe) body tb) (hs : ∀ a xe, PSs (X.hnd a xe) (b0 :: suite) th) (hd : (bx == ("__debug__" : Str)) = false := by decide) :
    PS X (.Try body [.ExceptHandler (some (.Name bx p1)) (some n) (b0 :: suite) p2] [] [] pos) (sTry X.K X.N.length i B G tb th) := by
  intro pins s σ H D I h
  refine wpAny_Try_except ?_
  refine wpAny_mono (hb pins _ ?_ [] s σ H D (I.tri _) h.1) (fun f s1 hs1 => ?_) fun e s1 he => he
  · intro pins2 σ2 H2 s2 e s3 I2 hq
    obtain ⟨a, C', od', H3, rfl, os, bare, un, ok, ha', hn, ⟨oe, vs, T, oT, ts, t1, t2, t3, t4, t5, t6, t7, t8, t9⟩, a', ea, q⟩ := hq
    cases ea
    have J2 : Inv X pins σ2 H2 s2 := I2.untri
    obtain ⟨⟨C, od, ha, hc, hmro⟩, q3⟩ := h.2 a H3 σ2 (by rw [J2.len]) q
    have un' : Un (frs X.stack) [] H2 H3 s2.heap s3.heap := un
    have fun3 : s3.heap.FunFrames X.base (X.env :: X.outer) := by
      have := fun_un (h' := s3.heap) J2.stack fun b hb o ho => un'.any ho (J2.stkFree b hb) (by simp)
      rwa [hst] at this
    have fr3 : ∀ b ∈ frs X.stack, H3 b = none := fun b hb => by
      obtain ⟨_, o, ho, _⟩ := J2.stack.mem hb
      exact un'.free b o ho (J2.stkFree b hb) (by simp)
    refine lv_nextS (base := X.base) (L := X.env.locals) (by have := J2.ok.frames; rwa [hst] at this) fun3 hf t1 t2 t3 t4 t5 t6 t7 fun h4 l => ?_
    rw [← hst] at l
    have ok4 : HOk X.prog X.w H3 h4 := by
      have := l.hok ok t1 ha fr3 (fun b hb => by simp at hb; subst hb; exact t8)
      rwa [upd_self ha] at this
    have un4 : Un (frs X.stack) [] H2 H3 s2.heap h4 := by
      have na : ∀ b o, s2.heap.get? b = some o → b ≠ a := fun b o z e => by rw [e, hn] at z; cases z
      have nT : ∀ b o, s2.heap.get? b = some o → b ∉ [T] := fun b o z e => by simp at e; rw [e, t9] at z; cases z
      refine ⟨fun b o z nz hb hx => l.keep b o hb (na b o z) (nT b o z) (un'.keep b o z nz hb hx), fun b o z nz hb hx => ?_, un'.free, fun b o z hx => ?_, un'.tups, un'.frzs, un'.tbls⟩
      · obtain ⟨sl, z1⟩ := un'.slot b o z nz hb hx
        obtain ⟨sl2, z2⟩ := l.slot b _ hb z1
        exact ⟨sl2, z2⟩
      · obtain ⟨o1, z1⟩ := un'.there b o z hx
        exact l.there b o1 z1
    have I4 : Inv X pins σ2 H3 { s3 with heap := h4 } := J2.call' (s' := { s3 with heap := h4 }) (ch := []) os un4 ok4 bare (fun b z => absurd z (by simp))
    obtain ⟨us, sl4, he4, _⟩ := exG_ok.mp (ok4 a _ ha)
    obtain ⟨oe', vs', T', oT', ts', q1, q2, q3', q4, q5, q6, q7, q8, q9, q10, q11⟩ := l.tr
    have hd4 : X.calm = true → X.A.handled = none := I.ok.hd
    refine wpAny_handleBy_cons (codeAny_handlers_test ?_) (by intro q; cases q)
    refine ld_glob (X := X.hnd a fun _ _ => False) (I4.hnd a _) hg hm ?_ hd
    refine xc_match (s := { s3 with heap := h4 }) I4.kIn hc hB hmro he4 rfl ?_
    refine codeAny_handlers_suite_as ?_
    have hz : 3 < ts'.size := (Array.getElem?_eq_some_iff.mp q11).1
    refine wpAny_setFlight_none q1 q5 q6 q9 q10 hz ?_
    have same : ∀ b u, h4.get? b = some u → (h4.update T' (Obj.mapFields (·.setIfInBounds 3 .none))).get? b = some u := fun b u z => by
      by_cases e : b = T'
      · subst e
        rw [q9] at z; cases z
        rw [Heap.get?_update_self _ q9 (Obj.isFreed_of_fields (Obj.data_mapFields q10 _))]
        obtain ⟨c1, d1, dt1, s1'⟩ := oT'
        dsimp only at q10
        subst q10
        refine congrArg some ?_
        show Obj.mk c1 d1 (Data.fields (ts'.setIfInBounds 3 .none)) s1' = _
        rw [setF_id q11]
      · rw [Heap.get?_update_other _ _ (Ne.symm e)]; exact z
    have I5 : Inv X pins σ2 H3 { s3 with heap := h4.update T' (Obj.mapFields (·.setIfInBounds 3 .none)) } := I4.kept (t' := s3.toks) same
    refine store_ok (X := X) (v := .ref a) I5 hN hi (.inl hk) rfl (fun s6 I6 => ?_) (.inr hk)
    refine thn (hs a _ pins s6 _ H3 _ (I6.hnd a _) q3) fun f s7 h7 => ?_
    cases f with
    | next => obtain ⟨σ7, H7, I7, q7'⟩ := h7; exact gone_ok (I7.unhnd hd4) hN hi hk fun s8 I8 => ⟨_, _, I8, q7'⟩
    | brk => obtain ⟨σ7, H7, I7, q7'⟩ := h7; exact gone_ok (I7.unhnd hd4) hN hi hk fun s8 I8 => ⟨_, _, I8, q7'⟩
    | cont => obtain ⟨σ7, H7, I7, q7'⟩ := h7; exact gone_ok (I7.unhnd hd4) hN hi hk fun s8 I8 => ⟨_, _, I8, q7'⟩
    | ret u => obtain ⟨v, σ7, H7, I7, r7, q7'⟩ := h7; exact gone_ok (I7.unhnd hd4) hN hi hk fun s8 I8 => ⟨v, _, _, I8, r7, q7'⟩
  · have hs1 := hs1.untri
    cases f with
    | next => exact wpAny_pure hs1
    | brk => exact hs1
    | cont => exact hs1
    | ret u => exact hs1
end
end L2
set_option Elab.async false
set_option linter.all false
set_option maxRecDepth 100000
set_option maxHeartbeats 4000000
namespace L2
open PySem PySem.Spec PyProof.Rows
noncomputable def Fnd1 (P : Program) (w : World) (K : PySem.W.Frag) (mg : Str → Option Value) (base : Heap) (k : Nat) (x : Str) (ps : List Str) (sp : Sp) : Prop :=
  ∃ f fd, FnOk P w K mg base (CX1 P w) k f fd ps sp ∧ mg x = some (.ref f) ∧ PySem.W.keepIn K (.ref f) = true ∧ Binds K fd ps []
section
variable {X : Cx} {k : Nat} {x : Str} {ps : List Str} {sp : Sp} {e : Expr} {es : List Expr} {t : TA} {p pos : Pos} {E : XK}
theorem pe_fn1 (F : Fnd1 X.prog X.w X.K X.mg X.base k x ps sp) (hr : Room k X.A) (hg : Gl X x) (hx : Passes (CX1 X.prog X.w) X E) (ha : PA X (e :: es) t) (hdb : (x == ("__debug__" : Str)) = false := by decide)
    (he : starEach (e :: es) X.env = (false, eval e X.env) :: starEach es X.env := by with_unfolding_all rfl) (hpl : (backTo pos (starEach es X.env)).any (·.1) = false := by with_unfolding_all rfl) : PE X (.Call (.Name x p) (e :: es) [] pos) (tCall sp [] E t) := by
  obtain ⟨f, fd, h1, h2, h3, h4⟩ := F
  exact pe_call h1 hr hg h2 h3 h4 .nil hx ha hdb he hpl
end
section
variable {P : Program} {w : World} {K : PySem.W.Frag} {mg : Str → Option Value} {base : Heap}
theorem Fun.ok1 {x qual : Str} {st : Stmt} {f : Addr} {fd : FuncData} {N ps : List Str} {k : Nat} {sp : Sp} (F : Fun K x qual st f fd) (S : FnScope N ps (defScope st)) (len : ∀ vs H Q E, sp vs H Q E → vs.length = ps.length)
    (hbody : ∀ (cdv : Value) (A : Around) (outer : List Env) (s : Shared) (H : Hp) (vs : List V) (Q : VK) (E : XK), Room k (A.deeper (envOfC qual (defScope st) s.heap.objs.size f cdv)) → sp vs H Q E →
      ∃ t, PSs (cxOf (CX1 P w) P w K mg base N qual (defScope st) f cdv A outer s H E) (defBody st) t ∧ t { nx := fun _ H' => Q .non H', rt := Q } (start N vs) H) : FnOk P w K mg base (CX1 P w) (k + 1) f fd ps sp := by
  obtain ⟨oc, od, kV, doc, pm, an, cdv, ct, osl, rfl, lk, hcd⟩ := F.ex
  exact fn_of lk hcd S len fun A outer s H vs Q E hr hsp => hbody cdv A outer s H vs Q E hr hsp
end
section
variable {K : PySem.W.Frag} {σ : St} {H H0 : Hp} {D : Ends} {t : TE} {C a : Addr} {fs : List (Str × V)} {E : XK}
theorem i_sRaise (k : t σ H fun x H1 => rRaise K H0 E x H1) : sRaise K H0 E t D σ H := k
theorem i_raise (h : ExA H a C fs) (c : XC K C) (h0 : H0 a = none) (k : ∀ H2, (∀ b o, b ≠ a → H b = some o → H2 b = some o) → ExB false H2 a C fs → E (.ref a) none H2) : rRaise K H0 E (.ref a) H := by
  have kp : ∀ od b o, b ≠ a → H b = some o → upd H a (exG false a C od) b = some o := fun od b o hb q => by rw [upd_ne hb]; exact q
  rcases h with ⟨e1, h⟩ | ⟨dx, ne, h, g⟩
  · exact ⟨a, C, none, rfl, h, c, h0, k _ (kp _) (.inl ⟨e1, upd_same⟩)⟩
  · exact ⟨a, C, some dx, rfl, h, c, h0, k _ (kp _) (.inr ⟨dx, ne, upd_same, kp _ _ _ ne g⟩)⟩
end
end L2
set_option Elab.async false
set_option linter.all false
set_option maxRecDepth 100000
set_option maxHeartbeats 4000000
namespace L2
section
open Lean
def mWay (s : String) : MacroM (TSyntax `tactic) :=
  if s == "as" then `(tactic| assumption) else if s == "ar" then `(tactic| with_reducible assumption) else `(tactic| walk_at $(quote s))
def mFirst (ts : Array (TSyntax `tactic)) : MacroM (TSyntax `tactic) := do
  let ts ← ts.mapM fun t => `(Lean.Parser.Tactic.tacticSeq| $t:tactic)
  `(tactic| first $[| $ts]*)
def mId (s : String) : Ident := mkIdent ((s.splitOn ".").foldl Name.mkStr Name.anonymous)
def mIs (s : String) : MacroM Ident := do return mkIdent (← Macro.addMacroScope (.mkSimple s))
def mCases : List String → TSyntax `tactic → MacroM (TSyntax `tactic)
  | [], t => pure t
  | s :: r, t => do
    match s.splitOn "=" with
    | [x, y] => let w ← mWay y; let i ← mIs x; mCases r (← `(tactic| ($t:tactic; (case $i:ident => $w:tactic))))
    | _ => mCases r t
def mRow (s : String) : MacroM (TSyntax `tactic) := do
  match s.splitOn ": " with
  | [h, c] =>
    match h.splitOn " " with
    | f :: as =>
      let xs ← as.toArray.mapM fun a => do if a == "_" then `(?_) else `(?$(← mIs a))
      let u := Syntax.mkApp (mId f) xs
      let t ← if as.contains "_" then `(tactic| with_reducible refine' $u) else `(tactic| refine' $u)
      mCases (c.splitOn " ") t
    | _ => Macro.throwUnsupported
  | _ => do
    if s == "as" then `(tactic| assumption)
    else if s == "no" then `(tactic| fail "no")
    else `(tactic| exact $(mId s))
def mRows (s : String) : MacroM (TSyntax `tactic) := do mFirst (← (s.splitOn " | ").toArray.mapM mRow)
def mAlts (s : String) : MacroM (TSyntax `tactic) := do
  let a ← mFirst (← (s.splitOn " ").toArray.mapM fun n => `(tactic| refine $(mId n) ?_))
  `(tactic| with_reducible $a:tactic)
def mAltG (s : String) : MacroM (TSyntax `tactic) := do
  let a ← mFirst (← (s.splitOn " ").toArray.mapM fun n => `(tactic| refine $(mId n) fun N hN => ?_))
  `(tactic| with_reducible $a:tactic)
end
section
open PySem
theorem same_refl {H : Hp} : Same H H := Same.refl _
theorem ne_none2 {H : Hp} {a b : PySem.Addr} {o : HO} (h : H a = some o) (g : H b = none) : b ≠ a := Ne.symm (ne_of_none h g)
noncomputable def Cut (N M : St → Hp → Prop) : Prop := ∀ σ H, M σ H → N σ H
section
variable {t u : TS} {te td ty tv : TE} {g : TG} {D : Ends} {σ : St} {H : Hp}
theorem i_seqG (k : ∀ N : St → Hp → Prop, Cut N (u D) → t { D with nx := N } σ H) : tSeq t u D σ H := k (u D) fun _ _ h => h
theorem i_seqAG (k : ∀ N : St → Hp → Prop, Cut N (u D) → tAsg te g { D with nx := N } σ H) : tSeq (tAsg te g) u D σ H := k (u D) fun _ _ h => h
theorem i_nxS {i : Nat} {rt : VK} {bk ct : St → Hp → Prop} (k : D.nx (σ.set i none) H) : Ends.nx { nx := fun σ2 H2 => D.nx (σ2.set i none) H2, rt := rt, bk := bk, ct := ct } σ H := k
theorem i_cutN {N M : St → Hp → Prop} (h : Cut N M) (k : M σ H) : N σ H := h _ _ k
end
theorem len_n0 {α : Type} {P : List α → Prop} {us : List α} (hl : us.length = 0) (h : P []) : P us := by
  rw [List.length_eq_zero_iff.mp hl]; exact h
theorem len_n1 {α : Type} {P : List α → Prop} {us : List α} (hl : us.length = 1) (h : ∀ a0 : α, P [a0]) : P us := by
  cases us with
  | nil => cases hl
  | cons a r => exact len_n0 (P := fun r => P (a :: r)) (Nat.succ.inj hl) (h a)
theorem len_n2 {α : Type} {P : List α → Prop} {us : List α} (hl : us.length = 2) (h : ∀ a0 a1 : α, P [a0, a1]) : P us := by
  cases us with
  | nil => cases hl
  | cons a r => exact len_n1 (P := fun r => P (a :: r)) (Nat.succ.inj hl) (h a)
theorem len_n3 {α : Type} {P : List α → Prop} {us : List α} (hl : us.length = 3) (h : ∀ a0 a1 a2 : α, P [a0, a1, a2]) : P us := by
  cases us with
  | nil => cases hl
  | cons a r => exact len_n2 (P := fun r => P (a :: r)) (Nat.succ.inj hl) (h a)
end
end L2
set_option Elab.async false
set_option linter.all false
set_option maxRecDepth 100000
set_option maxHeartbeats 4000000
namespace L2
open PySem PySem.Spec PyProof.Rows
section
variable {K : PySem.W.Frag} {x qual : Str} {st : Stmt} {f : Addr} {fd : FuncData}
theorem binds1 {p0 : Str} (F : Fun K x qual st f fd) (h : ∀ (kV doc pm : Value) (an : Option Addr) (cdv ct : Value) (u0 : Value), bindArgs (PySem.W.fnOf x qual (defArgs st) (defBody st) (defScope st) .none kV doc pm an cdv ct) ⟨[u0], []⟩ = pure (([p0] : List Str).zip [u0])) : Binds K fd [p0] [] :=
  F.binds fun kV doc pm an cdv ct us hl => len_n1 (P := fun us => bindArgs (PySem.W.fnOf x qual (defArgs st) (defBody st) (defScope st) .none kV doc pm an cdv ct) ⟨us, []⟩ = pure (([p0] : List Str).zip us)) hl (h kV doc pm an cdv ct)
theorem binds2 {p0 p1 : Str} (F : Fun K x qual st f fd) (h : ∀ (kV doc pm : Value) (an : Option Addr) (cdv ct : Value) (u0 u1 : Value), bindArgs (PySem.W.fnOf x qual (defArgs st) (defBody st) (defScope st) .none kV doc pm an cdv ct) ⟨[u0, u1], []⟩ = pure (([p0, p1] : List Str).zip [u0, u1])) : Binds K fd [p0, p1] [] :=
  F.binds fun kV doc pm an cdv ct us hl => len_n2 (P := fun us => bindArgs (PySem.W.fnOf x qual (defArgs st) (defBody st) (defScope st) .none kV doc pm an cdv ct) ⟨us, []⟩ = pure (([p0, p1] : List Str).zip us)) hl (h kV doc pm an cdv ct)
theorem binds3 {p0 p1 p2 : Str} (F : Fun K x qual st f fd) (h : ∀ (kV doc pm : Value) (an : Option Addr) (cdv ct : Value) (u0 u1 u2 : Value), bindArgs (PySem.W.fnOf x qual (defArgs st) (defBody st) (defScope st) .none kV doc pm an cdv ct) ⟨[u0, u1, u2], []⟩ = pure (([p0, p1, p2] : List Str).zip [u0, u1, u2])) : Binds K fd [p0, p1, p2] [] :=
  F.binds fun kV doc pm an cdv ct us hl => len_n3 (P := fun us => bindArgs (PySem.W.fnOf x qual (defArgs st) (defBody st) (defScope st) .none kV doc pm an cdv ct) ⟨us, []⟩ = pure (([p0, p1, p2] : List Str).zip us)) hl (h kV doc pm an cdv ct)
end
end L2
set_option Elab.async false
set_option linter.all false
set_option maxRecDepth 100000
set_option maxHeartbeats 4000000
namespace L2
open PySem PySem.Spec PyProof.Rows
end L2
set_option Elab.async false
set_option linter.all false
set_option maxRecDepth 100000
set_option maxHeartbeats 4000000
namespace L2
open PySem PySem.Spec PyProof.Rows
section
open PySem.SeqAt PySem.MeetsSeq
variable {A : Around} {s : Shared}
end
end L2
set_option Elab.async false
set_option linter.all false
set_option maxRecDepth 100000
set_option maxHeartbeats 4000000
namespace L2
open PySem PySem.Spec PyProof.Rows
section
variable {prog : Program} {w : World} {A : Around} {E : Value → Shared → Prop} {s : Shared}
set_option maxRecDepth 100000 in
end
section
variable {X : Cx} {pos p2 : Pos}
end
end L2
set_option Elab.async false
set_option linter.all false
set_option maxRecDepth 100000
set_option maxHeartbeats 4000000
namespace L2
open PySem PySem.Spec PyProof.Rows
section
variable {P : Program} {w : World} {A : Around} {E : Value → Shared → Prop} {z : Shared}
end
section
variable {X : Cx} {K : PySem.W.Frag}
end
section
variable {K : PySem.W.Frag} {H : Hp} {Q : VK}
end
end L2
set_option Elab.async false
set_option linter.all false
set_option maxRecDepth 100000
set_option maxHeartbeats 4000000
namespace L2
open PySem PySem.Spec PyProof.Rows
section
variable {X : Cx} {pins : List (Addr × Obj)} {σ : St} {H : Hp} {s : Shared}
end
end L2
set_option Elab.async false
set_option linter.all false
set_option maxRecDepth 100000
set_option maxHeartbeats 4000000
namespace L2
open PySem PySem.Spec PyProof.Rows
end L2
set_option linter.all false
set_option maxRecDepth 100000
namespace L2
open PySem PySem.Spec PyProof.Rows
mutual
def ascD : PyData → Bool
  | .str z => z.cps.toList.all fun c => decide (c < 128)
  | .list ds => ascL ds
  | .tuple ds => ascL ds
  | .dict _ => false
  | _ => true
def ascL : List PyData → Bool
  | [] => true
  | d :: ds => ascD d && ascL ds
end
mutual
def widD : PyData → Nat
  | .list ds => max ds.length (widL ds)
  | .tuple ds => max ds.length (widL ds)
  | _ => 0
def widL : List PyData → Nat
  | [] => 0
  | d :: ds => max (widD d) (widL ds)
end
structure Dk (p w W : Nat) (D : PyData) : Prop where
  asc : ascD D = true
  lay : D.canLay0 = true
  sh : D.showable = true
  lv : D.leavesShort 45 = true
  dp : D.depth ≤ p
  wt : D.weight ≤ w
  wd : widD D ≤ W
structure Els (p w W : Nat) (ds : List PyData) : Prop where
  all : ∀ e ∈ ds, ∃ u, Dk p u W e
  wt : PyData.weightAll ds ≤ w
  len : ds.length ≤ W
theorem Dk.le {p w W p' w' W' : Nat} {D : PyData} (h : Dk p w W D) (h1 : p ≤ p') (h2 : w ≤ w') (h3 : W ≤ W' := by omega) : Dk p' w' W' D := ⟨h.asc, h.lay, h.sh, h.lv, Nat.le_trans h.dp h1, Nat.le_trans h.wt h2, Nat.le_trans h.wd h3⟩
theorem els_all {p W : Nat} : ∀ {ds : List PyData}, (∀ e ∈ ds, ∃ u, Dk p u W e) → ascL ds = true ∧ PyData.canLayAll0 ds = true ∧ PyData.showableAll ds = true ∧ PyData.leavesShortAll 45 ds = true ∧ PyData.depthAll ds ≤ p ∧ widL ds ≤ W
  | [], _ => ⟨by simp only [ascL], by simp only [PyData.canLayAll0], by simp only [PyData.showableAll], by simp only [PyData.leavesShortAll], by simp only [PyData.depthAll]; omega, by simp only [widL]; omega⟩
  | d :: ds, h => by
    obtain ⟨u, a⟩ := h d (by simp)
    obtain ⟨b0, b1, b2, b3, b4, b5⟩ := els_all (ds := ds) fun e he => h e (by simp [he])
    have := a.dp
    have := a.wd
    exact ⟨by simp only [ascL, a.asc, b0, Bool.and_self], by simp only [PyData.canLayAll0, a.lay, b1, Bool.and_self], by simp only [PyData.showableAll, a.sh, b2, Bool.and_self], by simp only [PyData.leavesShortAll, a.lv, b3, Bool.and_self], by simp only [PyData.depthAll]; omega, by simp only [widL]; omega⟩
theorem all_els {p W : Nat} : ∀ {ds : List PyData}, ascL ds = true → PyData.canLayAll0 ds = true → PyData.showableAll ds = true → PyData.leavesShortAll 45 ds = true → PyData.depthAll ds ≤ p → widL ds ≤ W → ∀ e ∈ ds, ∃ u, Dk p u W e
  | [], _, _, _, _, _, _ => fun e he => by cases he
  | d :: ds, h0, h1, h2, h3, h4, h5 => fun e he => by
    simp only [ascL, PyData.canLayAll0, PyData.showableAll, PyData.leavesShortAll, PyData.depthAll, widL, Bool.and_eq_true] at h0 h1 h2 h3 h4 h5
    rcases List.mem_cons.mp he with rfl | he
    · exact ⟨_, h0.1, h1.1, h2.1, h3.1, by omega, Nat.le_refl _, by omega⟩
    · exact all_els h0.2 h1.2 h2.2 h3.2 (by omega) (by omega) e he
theorem dk_tup {p w W : Nat} {ds : List PyData} (h : Els p w W ds) : Dk (p + 1) w W (.tuple ds) := by
  obtain ⟨a0, a1, a2, a3, a4, a5⟩ := els_all h.all
  have := h.len
  exact ⟨by simpa only [ascD] using a0, by simpa only [PyData.canLay0] using a1, by simpa only [PyData.showable] using a2, by simpa only [PyData.leavesShort] using a3, by simp only [PyData.depth]; omega, by simpa only [PyData.weight] using h.wt, by simp only [widD]; omega⟩
theorem Dk.els {p w W : Nat} {ds : List PyData} (h : Dk (p + 1) w W (.tuple ds)) : Els p w W ds := by
  obtain ⟨a0, a1, a2, a3, a4, a5, a6⟩ := h
  simp only [widD, ascD, PyData.canLay0, PyData.showable, PyData.leavesShort, PyData.depth, PyData.weight] at a0 a1 a2 a3 a4 a5 a6
  exact ⟨all_els a0 a1 a2 a3 (by omega) (by omega), a5, by omega⟩
noncomputable def Asc (z : Str) : Prop := ∀ c ∈ z.cps.toList, c < 128
theorem Asc.ok {z : Str} (h : Asc z) : PyData.strOk z = true := by
  unfold PyData.strOk
  rw [← Array.all_toList, List.all_eq_true]
  intro c hc
  have := h c hc
  exact decide_eq_true (by omega)
theorem dk_str {p w W : Nat} {z : Str} (h : Asc z) (hl : z.length ≤ w) : Dk p w W (.str z) := by
  refine ⟨?_, by simpa only [PyData.canLay0] using h.ok, by simp only [PyData.showable], ?_, by simp only [PyData.depth]; omega, by simp only [PyData.weight]; exact hl, by simp only [widD]; omega⟩
  · simp only [ascD]
    rw [List.all_eq_true]
    exact fun c hc => decide_eq_true (h c hc)
  · simp only [PyData.leavesShort]
    rw [List.all_eq_true]
    intro c hc
    have := h c hc
    exact decide_eq_true (by omega)
theorem Dk.str {p w W : Nat} {z : Str} (h : Dk p w W (.str z)) : Asc z ∧ z.length ≤ w := by
  obtain ⟨a0, _, _, _, _, a5, _⟩ := h
  simp only [ascD, List.all_eq_true] at a0
  simp only [PyData.weight] at a5
  exact ⟨fun c hc => of_decide_eq_true (a0 c hc), a5⟩
theorem Asc.app {a b : Str} (h : Asc a) (g : Asc b) : Asc (a ++ b) := fun c hc => by
  have hc : c ∈ (a.cps ++ b.cps).toList := hc
  rw [Array.toList_append] at hc
  exact (List.mem_append.mp hc).elim (h c) (g c)
end L2
set_option linter.all false
set_option maxRecDepth 100000
namespace L2
open PySem PySem.Spec PyProof.Rows
section
variable {X : Cx} {K : PySem.W.Frag}
noncomputable def rCountT (K : PySem.W.Frag) : V → List V → Hp → VK → Prop := fun x vs H Q => ∃ (a : Addr) (ns : List Str) (z : Str), x = .ref a ∧ vs = [.str z] ∧ SqT K H a (ns.map V.str) ∧ Q (.int ((ns.countP fun y => decide (y = z) : Nat) : Int)) H
theorem mt_countT : MtR X "tuple.count" (rCountT X.K) := by
  intro pins s σ H x vs v us Q I rx rv h
  obtain ⟨a, ns, z, rfl, rfl, hS, q⟩ := h
  cases rx
  obtain ⟨u, rfl, ru⟩ := rv.one
  obtain ⟨its, r, p, hz⟩ := I.tuple hS
  obtain ⟨o, e, hc, n, hd⟩ := p
  obtain ⟨cls, dct, dat, sl⟩ := o
  simp only at hc hd
  subst hc
  subst hd
  refine call_meets PySem.F.slot_tuple_count ⟨_, e, rfl⟩ PySem.F.entry_tuple_count (PySem.F.args_tuple_count_2 _ _) (SeqAt.tuple_countAt a its.toArray n dct sl u (eqU (.str z))) ⟨e, fun w hw => mem_eqAt ru rfl r (flat_strs ns) w (by simpa using hw), ?_⟩
  refine ⟨.int _, H, I.tok _, ⟨_, rfl⟩, ?_⟩
  show Q (.int ((List.countP (eqU (.str z)) its : Nat) : Int)) H
  rw [count_eqU r (flat_strs ns)]
  have e : (ns.map V.str).countP (fun y => eqV y (.str z)) = ns.countP fun y => decide (y = z) := by
    rw [List.countP_map]
    refine List.countP_congr fun y _ => ?_
    show eqV (V.str y) (V.str z) = true ↔ _
    rw [eqV_str]
  rw [e]
  exact q
theorem mt_countTK (hK : X.K = K := by with_unfolding_all rfl) : MtR X "tuple.count" (rCountT K) := hK ▸ mt_countT
theorem i_countT {a : Addr} {ns : List Str} {z : Str} {H : Hp} {Q : VK} (h : SqT K H a (ns.map V.str)) (k : Q (.int ((ns.countP fun y => decide (y = z) : Nat) : Int)) H) : rCountT K (.ref a) [.str z] H Q := ⟨a, ns, z, rfl, rfl, h, k⟩
end
end L2
set_option linter.all false
set_option maxRecDepth 100000
namespace L2
open PySem PySem.Spec PyProof.Rows
section
variable {X : Cx} {K : PySem.W.Frag}
noncomputable def rReprX (K : PySem.W.Frag) : List V → Hp → VK → Prop := fun xs H Q => ∃ x d, xs = [x] ∧ Is K H d x ∧ d.showable = true ∧ d.shown.length ≤ sizeLine ∧ d.depth ≤ 100 ∧ Q (.str d.shown) H
theorem call_reprX (hq : QA X.A) : CallR X (.builtin "repr") (rReprX X.K) := by
  intro pins s σ H xs us Q I rv h
  obtain ⟨x, d, rfl, i, hs, hf, hd, q⟩ := h
  cases d with
  | none =>
    simp only [Is] at i
    subst i
    exact call_reprA pins s σ H _ us Q I rv (.inr ⟨rfl, q⟩)
  | bool b =>
    simp only [Is] at i
    subst i
    refine call_reprA pins s σ H _ us Q I rv (.inl ⟨b, rfl, ?_⟩)
    cases b <;> exact q
  | int n =>
    simp only [Is] at i
    subst i
    exact call_reprI pins s σ H _ us Q I rv ⟨n, rfl, of_decide_eq_true (by simpa only [PyData.showable] using hs), q⟩
  | str z =>
    simp only [Is] at i
    subst i
    obtain ⟨u, rfl, ru⟩ := rv.one
    obtain ⟨t, rfl⟩ := ru
    exact PySem.P.repr_of_str ⟨.str _, H, I.tok _, ⟨_, rfl⟩, q⟩ hf
  | list ds => exact call_reprD hq pins s σ H _ us Q I rv ⟨x, _, rfl, i, ⟨rfl, hs, hf, hd⟩, q⟩
  | tuple ds => exact call_reprD hq pins s σ H _ us Q I rv ⟨x, _, rfl, i, ⟨rfl, hs, hf, hd⟩, q⟩
  | dict kvs => simp only [Is] at i
theorem call_reprXK (hq : QA X.A) (hK : X.K = K := by with_unfolding_all rfl) : CallR X (.builtin "repr") (rReprX K) := hK ▸ call_reprX hq
theorem i_reprX {H : Hp} {Q : VK} {d : PyData} {x : V} (h : Is K H d x) (h1 : d.showable = true) (h2 : d.shown.length ≤ sizeLine) (h3 : d.depth ≤ 100) (k : Q (.str d.shown) H) : rReprX K [x] H Q := ⟨x, d, rfl, h, h1, h2, h3, k⟩
theorem Dk.told {p w W : Nat} {D : PyData} (h : Dk p w W D) (hp : p ≤ 60) (hw : w ≤ 100000) : D.showable = true ∧ D.shown.length ≤ sizeLine ∧ D.depth ≤ 100 := by
  have h2 := PyData.shown_le 45 (by decide) D h.lv
  have h3 := h.wt
  have h4 := h.dp
  refine ⟨h.sh, ?_, by omega⟩
  rw [sizeLine_eq]
  omega
end
end L2
set_option linter.all false
set_option maxRecDepth 100000
set_option maxHeartbeats 4000000
namespace L2
open PySem PySem.Spec PyProof.Rows
section
variable {prog : Program} {w : World} {A : Around} {E : Value → Shared → Prop} {s : Shared}
end
section
variable {P : Program} {w : World} {A : Around} {R : Result → Shared → Prop} {it : Addr} {fp wr : List Addr} {G : Array GenState → Array GenState → Prop} {n : Nat} {PV : Nat → Value → Prop} {St : Nat → Shared → Prop}
end
section
variable {prog : Program} {w : World} {A : Around} {E : Value → Shared → Prop} {s : Shared}
set_option maxHeartbeats 3200000 in
end
end L2
set_option linter.all false
set_option maxRecDepth 100000
set_option maxHeartbeats 4000000
namespace L2
open PySem PySem.Spec PyProof.Rows
section
variable {prog : Program} {w : World} {A : Around} {E : Value → Shared → Prop} {s : Shared}
end
end L2
set_option linter.all false
set_option maxRecDepth 100000
set_option maxHeartbeats 4000000
namespace L2
open PySem PySem.Spec PyProof.Rows
section
variable {prog : Program} {w : World} {A : Around} {E : Value → Shared → Prop} {s : Shared}
end
end L2
set_option linter.all false
set_option maxRecDepth 100000
set_option maxHeartbeats 4000000
namespace L2
open PySem PySem.Spec PyProof.Rows
section
variable {prog : Program} {w : World} {A : Around} {E : Value → Shared → Prop} {s : Shared}
end
end L2
set_option linter.all false
set_option maxRecDepth 100000
set_option maxHeartbeats 4000000
namespace L2
open PySem PySem.Spec PyProof.Rows
section
variable {prog : Program} {w : World} {A : Around} {E : Value → Shared → Prop} {s : Shared}
end
end L2
namespace L2
open PySem PySem.Spec PyProof.Rows
section
variable {X : Cx} {K : PySem.W.Frag}
end
end L2
set_option linter.all false
set_option maxRecDepth 100000
set_option maxHeartbeats 4000000
namespace L2
open PySem PySem.Spec PyProof.Rows
open Builtin
section
variable {X : Cx} {K : PySem.W.Frag}
end
end L2
set_option linter.all false
set_option maxRecDepth 100000
set_option maxHeartbeats 4000000
namespace L2
open PySem PySem.Spec PyProof.Rows
section
variable {P : Program} {w : World} {K : PySem.W.Frag} {mg : Str → Option Value} {base : Heap} {k : Nat} {f : Addr} {fd : FuncData} {ps : List Str} {sp sp' : Sp}
end
theorem digits_core : ∀ (k fuel n : Nat) (ds : List Char), 1 ≤ k → n < 10 ^ k → (Nat.toDigitsCore 10 fuel n ds).length ≤ ds.length + k
  | _, 0, n, ds, _, _ => by simp [Nat.toDigitsCore]
  | k, fuel + 1, n, ds, hk, hn => by
    unfold Nat.toDigitsCore
    dsimp only
    split
    · simp; omega
    · rename_i h0
      cases k with
      | zero => omega
      | succ k =>
        have h1 : n / 10 < 10 ^ k := by
          rw [Nat.div_lt_iff_lt_mul (by omega)]
          rw [Nat.pow_succ] at hn
          exact hn
        have hk1 : 1 ≤ k := by
          cases k with
          | zero => simp at h1; omega
          | succ _ => omega
        have := digits_core k fuel (n / 10) (Nat.digitChar (n % 10) :: ds) hk1 h1
        rw [List.length_cons] at this
        omega
theorem str_len (s : String) : (s : Str).length = s.toList.length := by
  show (Str.ofString s).cps.size = _
  rw [Str.ofString_eq_byList]
  unfold Str.ofStringByList
  simp
theorem repr_len {n : Nat} (h : n < 10 ^ 44) : (Nat.repr n).toList.length ≤ 44 := by
  unfold Nat.repr Nat.toDigits
  have := digits_core 44 (n + 1) n [] (by omega) h
  simpa using this
theorem int_short {m : Int} (h : m.natAbs < 10 ^ 44) : (PyData.int m).shown.length ≤ 45 := by
  simp only [PyData.shown]
  rw [str_len]
  cases m with
  | ofNat n =>
    have : (toString (Int.ofNat n) : String) = Nat.repr n := rfl
    rw [this]
    exact Nat.le_trans (repr_len h) (by omega)
  | negSucc n =>
    have : (toString (Int.negSucc n) : String) = "-" ++ Nat.repr (n + 1) := rfl
    rw [this]
    have h2 := repr_len (n := n + 1) h
    rw [String.toList_append, List.length_append]
    have : ("-" : String).toList.length = 1 := by decide
    omega
theorem log_int {m : Int} (h : m.natAbs < 10 ^ 44) : m.natAbs.log2 < 147 := by
  by_cases h0 : m.natAbs = 0
  · rw [h0]; decide
  · exact (Nat.log2_lt h0).mpr (Nat.lt_trans h (by decide))
theorem dk_int {p W : Nat} {m : Int} (h : m.natAbs < 10 ^ 44) : Dk p 150 W (.int m) := by
  have hl := log_int h
  refine ⟨by simp only [ascD], by simp only [PyData.canLay0], ?_, ?_, by simp only [PyData.depth]; omega, ?_, by simp only [widD]; omega⟩
  · simp only [PyData.showable]
    exact decide_eq_true (by omega)
  · simp only [PyData.leavesShort]
    exact decide_eq_true (int_short h)
  · simp only [PyData.weight]
    split <;> omega
end L2
set_option linter.all false
set_option maxRecDepth 100000
set_option maxHeartbeats 4000000
namespace L2
open PySem PySem.Spec PyProof.Rows
section
variable {P : Program} {w : World} {A : Around} {E : Value → Shared → Prop} {z : Shared}
end
end L2
set_option linter.all false
set_option maxRecDepth 100000
set_option maxHeartbeats 4000000
namespace L2
open PySem PySem.Spec PyProof.Rows
end L2
set_option linter.all false
set_option maxRecDepth 100000
set_option maxHeartbeats 4000000
namespace L2
open PySem PySem.Spec PyProof.Rows
section
variable {X : Cx} {K : PySem.W.Frag}
end
section
variable {K : PySem.W.Frag} {σ : St} {H : Hp} {Q : VK}
end
end L2
set_option linter.all false
set_option maxRecDepth 100000
namespace L2
open PySem PySem.Spec PyProof.Rows
section
variable {X : Cx} {K : PySem.W.Frag} {H : Hp} {Q : VK}
end
end L2
set_option linter.all false
set_option maxRecDepth 100000
namespace L2
open PySem PySem.Spec PyProof.Rows
section
variable {X : Cx} {K : PySem.W.Frag}
end
end L2
set_option linter.all false
set_option maxRecDepth 100000
namespace L2
open PySem PySem.Spec PyProof.Rows
section
variable {α : Type} [DecidableEq α]
end
end L2
set_option linter.all false
set_option maxRecDepth 100000
namespace L2
open PySem PySem.Spec PyProof.Rows
section
variable {α : Type} [DecidableEq α]
end
end L2
set_option linter.all false
set_option maxRecDepth 100000
namespace L2
open PySem PySem.Spec PyProof.Rows
end L2
set_option linter.all false
set_option maxRecDepth 100000
namespace L2
open PySem PySem.Spec PyProof.Rows
section
variable {α : Type} [DecidableEq α]
end
end L2
namespace L2
end L2
set_option linter.all false
set_option maxRecDepth 100000
namespace L2
open PySem PySem.Spec PyProof.Rows
section
variable {X : Cx} {pins : List (Addr × Obj)} {σ : List (Option V)} {H : Hp} {s : Shared} {h' : Heap}
variable {K : PySem.W.Frag}
end
end L2
set_option linter.all false
set_option maxRecDepth 100000
namespace L2
open PySem PySem.Spec PyProof.Rows
section
variable {α : Type} [DecidableEq α]
end
end L2
set_option linter.all false
set_option maxRecDepth 100000
namespace L2
open PySem PySem.Spec PyProof.Rows
section
variable {α : Type} [DecidableEq α]
end
end L2
set_option linter.all false
set_option maxRecDepth 100000
namespace L2
open PySem PySem.Spec PyProof.Rows
section
variable {α : Type} [DecidableEq α]
variable {β : Type} [DecidableEq β]
end
end L2
set_option Elab.async false
set_option linter.all false
set_option maxRecDepth 100000
set_option maxHeartbeats 4000000
namespace L2
open PySem PySem.Spec PyProof.Rows
section
variable {X : Cx} {k : Nat} {x : Str} {ps : List Str} {sp : Sp} {e : Expr} {es : List Expr} {t : TA} {p pos : Pos} {E : St → XK}
end
section
variable {X : Cx} {pins : List (Addr × Obj)}
end
end L2
set_option Elab.async false
set_option linter.all false
set_option maxRecDepth 100000
set_option maxHeartbeats 4000000
namespace L2
open PySem PySem.Spec PyProof.Rows
section
variable {α : Type} [DecidableEq α]
end
section
variable {ns ns' : List Str} {ps ps' : List (Str × Str)}
variable {qs : List (Str × Str)}
end
end L2
set_option Elab.async false
set_option linter.all false
set_option maxRecDepth 100000
set_option maxHeartbeats 4000000
namespace L2
open PySem PySem.Spec PyProof.Rows
structure LftF (v : Value) (fs : List Addr) (a : Addr) (oe : Obj) (old : List Addr) (h h' : Heap) : Prop where
  keep : ∀ b o, b ∉ fs → b ≠ a → b ∉ old → h.get? b = some o → h'.get? b = some o
  slot : ∀ b o, b ∈ fs → h.get? b = some o → ∃ sl, h'.get? b = some { o with slots := sl }
  there : ∀ b o, b ∉ old → h.get? b = some o → ∃ o', h'.get? b = some o'
  tr : ∃ oe' vs T oT ts, h'.get? a = some oe' ∧ oe'.cls = oe.cls ∧ oe'.dict = oe.dict ∧ oe'.slots = oe.slots ∧ oe'.data = .fields vs ∧ vs[1]? = some (.ref T) ∧ T ≠ a ∧ h.objs.size ≤ T ∧ h'.get? T = some oT ∧ oT.data = .fields ts ∧ ts[3]? = some v
  sz : h.objs.size ≤ h'.objs.size
section
variable {M : Model} {A : Around} {E : Value → Shared → Prop} {s : Shared} {base : Heap} {env : Env} {outer : List Env} {L a : Addr} {oe : Obj} {vs : Array Value} {Q : Unit → Shared → Prop}
theorem lv_entry0 {cenv : Env} (hce : cenv.frame = env.frame) {head : Value} {hadNext : Bool} (hfr : A.frames = some (env :: outer)) (hl : s.heap.FunFrames base (env :: outer)) (hf : env.frame = some L) (he : s.heap.get? a = some oe) (hd : oe.data = .fields vs) (hsz : 1 < vs.size)
    (h : ∀ h', LftF (rawInt L) (frs (env :: outer)) a oe [] s.heap h' → Q () { s with heap := h' }) :
    wpAny M A (do let x ← PySem.frameOf cenv; let pl ← entryPlaceOf L hadNext; let b ← EntryCells.newEntry head x .none (rawInt L) .none pl; setField (.ref a) 1 b) Q E s := by
  have ha : a ∉ frs (env :: outer) := fun hm => by
    obtain ⟨_, o, ho, hnf⟩ := hl.mem hm
    rw [he] at ho; cases ho; exact hnf vs hd
  rw [show PySem.frameOf cenv = PySem.frameOf env from by unfold PySem.frameOf; rw [hce]]
  refine wpAny_bind (wpAny_frameOf_fun hfr hl hf fun h1 k1 => ?_)
  refine wpAny_bind (wpAny_entryPlaceOf fun pl hpl => ?_)
  unfold EntryCells.newEntry newFields
  refine wpAny_bind (wpAny_newObj_type ?_ (hpl.sizeOk5 _ _ _ _ _))
  generalize hob : (Obj.mk (Value.type "traceback") none (Data.fields ([head, Value.ref L, Value.none, rawInt L, Value.none] ++ (if pl.isEmpty then List.replicate 6 Value.none else pl)).toArray) #[] : Obj) = ob
  have obd : ob.data = .fields ([head, Value.ref L, Value.none, rawInt L, Value.none] ++ (if pl.isEmpty then List.replicate 6 Value.none else pl)).toArray := by rw [← hob]
  have hob2 : ob.isFreed = false := Obj.isFreed_of_fields obd
  have he1 : h1.get? a = some oe := (k1.2.1 a ha).trans he
  have he2 := Heap.get?_push_of_some (h := h1) ob he1
  have hTe : h1.objs.size ≠ a := Nat.ne_of_gt (Heap.lt_size he1)
  have d3 := Obj.data_mapFields hd (·.setIfInBounds 1 (Value.ref h1.objs.size))
  have he3 := Heap.get?_update_self (Obj.mapFields (·.setIfInBounds 1 (Value.ref h1.objs.size))) he2 (Obj.isFreed_of_fields d3)
  have hT3 := (Heap.get?_update_other (h1.push ob) (Obj.mapFields (·.setIfInBounds 1 (Value.ref h1.objs.size))) (Ne.symm hTe)).trans (Heap.get?_push_size h1 hob2)
  refine wpAny_setField he2 hd hsz (h _ ?_)
  have kp : ∀ b o, b ≠ a → h1.get? b = some o → ((h1.push ob).update a (Obj.mapFields (·.setIfInBounds 1 (Value.ref h1.objs.size)))).get? b = some o := fun b o hbe hb => by
    rw [Heap.get?_update_other _ _ (Ne.symm hbe)]
    exact Heap.get?_push_of_some _ hb
  refine ⟨fun b o hb hba _ q => kp b o hba ((k1.2.1 b hb).trans q), fun b o hb q => ?_, fun b o _ q => ?_, ?_, by rw [Heap.size_update, Heap.size_push, k1.1]; omega⟩
  · obtain ⟨sl, z⟩ := k1.2.2 b o q
    exact ⟨sl, kp b _ (fun w => ha (w ▸ hb)) z⟩
  · by_cases w : b = a
    · subst w; exact ⟨_, he3⟩
    · obtain ⟨sl, z⟩ := k1.2.2 b o q
      exact ⟨_, kp b _ w z⟩
  · obtain ⟨m1, m2, m3⟩ := mapF_dict oe (·.setIfInBounds 1 (Value.ref h1.objs.size))
    refine ⟨_, _, h1.objs.size, _, _, he3, m3, m1, m2, d3, by simp [hsz], hTe, by rw [k1.1]; exact Nat.le_refl _, hT3, obd, ?_⟩
    simp
theorem lv_noteG {cenv : Env} (hce : cenv.frame = env.frame) {v3 : Value} {T : Addr} {oT : Obj} {ts : Array Value} (hfr : A.frames = some (env :: outer)) (hl : s.heap.FunFrames base (env :: outer)) (hf : env.frame = some L) (he : s.heap.get? a = some oe) (hd : oe.data = .fields vs) (h1 : vs[1]? = some (.ref T))
    (hTe : T ≠ a) (hT : s.heap.get? T = some oT) (hdT : oT.data = .fields ts) (h3 : ts[3]? = some v3) (hv : ¬ (v3 == rawInt L) = true)
    (h : ∀ h', LftF (rawInt L) (frs (env :: outer)) a oe [T] s.heap h' → Q () { s with heap := h' }) : wpAny M A (noteFrame (.ref a) cenv) Q E s := by
  unfold noteFrame
  simp only [hce.trans hf]
  refine wpAny_bind (wpAny_field he hd h1 ?_)
  rw [if_pos (show (Value.ref T != Value.none) = true from by simp)]
  refine wpAny_bind (wpAny_field hT hdT h3 ?_)
  rw [if_neg hv]
  refine wpAny_bind (wpAny_setField hT hdT (Array.getElem?_eq_some_iff.mp h3).1 ?_)
  have ot : ∀ b, b ≠ T → (s.heap.update T (Obj.mapFields (·.setIfInBounds 3 Value.none))).get? b = s.heap.get? b := fun b hb => Heap.get?_update_other _ _ (Ne.symm hb)
  have tt := Heap.get?_update_self (Obj.mapFields (·.setIfInBounds 3 Value.none)) hT (Obj.isFreed_of_fields (Obj.data_mapFields hdT _))
  have nT : ∀ b o, s.heap.get? b = some o → (∀ us, o.data ≠ .fields us) → b ≠ T := fun b o hb hnf q => by
    rw [q, hT] at hb; cases hb; exact hnf ts hdT
  have fT : T ∉ frs (env :: outer) := fun hm => by
    obtain ⟨_, o, ho, hnf⟩ := hl.mem hm
    exact nT T o ho hnf rfl
  refine lv_entry0 hce (hl := hl.of_keeps fun b o hb hnf => ⟨o, (ot b (nT b o hb hnf)).trans hb, rfl⟩) hfr hf ((ot a (Ne.symm hTe)).trans he) hd (Array.getElem?_eq_some_iff.mp h1).1 fun h' l => h h' ?_
  obtain ⟨x1, x2, x3, ⟨oe', us, T', oT', ts', q1, q2, q3, q4, q5, q6, q7, q8, q9⟩, sz⟩ := l
  refine ⟨fun b o hb hba hbt q => x1 b o hb hba (by simp) ((ot b fun z => hbt (by simp [z])).trans q), fun b o hb q => x2 b o hb ((ot b fun z => fT (z ▸ hb)).trans q), fun b o hn q => ?_, ⟨oe', us, T', oT', ts', q1, q2, q3, q4, q5, q6, q7, ?_, q9⟩, ?_⟩
  · exact x3 b o (by simp) ((ot b fun z => hn (by simp [z])).trans q)
  · rw [Heap.size_update] at q8; exact q8
  · rw [Heap.size_update] at sz; exact sz
theorem lv_noteR {T : Addr} {oT : Obj} {ts : Array Value} {v3 : Value} (hf : env.frame = some L) (he : s.heap.get? a = some oe) (hd : oe.data = .fields vs) (h1 : vs[1]? = some (.ref T)) (hT : s.heap.get? T = some oT) (hdT : oT.data = .fields ts) (h3 : ts[3]? = some v3) (hv : (v3 == rawInt L) = true) (h : Q () s) : wpAny M A (noteFrame (.ref a) env) Q E s := by
  unfold noteFrame
  simp only [hf]
  refine wpAny_bind (wpAny_field he hd h1 ?_)
  rw [if_pos (show (Value.ref T != Value.none) = true from by simp)]
  refine wpAny_bind (wpAny_field hT hdT h3 ?_)
  rw [if_pos hv]
  exact wpAny_pure h
theorem lv_flight {T : Addr} {oT : Obj} {ts : Array Value} {v3 : Value} {fr : Option Addr} (he : s.heap.get? a = some oe) (hd : oe.data = .fields vs) (h1 : vs[1]? = some (.ref T)) (hT : s.heap.get? T = some oT) (hdT : oT.data = .fields ts) (h3 : ts[3]? = some v3) (h : Q () { s with heap := s.heap.update T (Obj.mapFields (·.setIfInBounds 3 (fr.elim Value.none fun f => rawInt f))) }) : wpAny M A (setFlight (.ref a) fr) Q E s := by
  unfold setFlight
  refine wpAny_bind (wpAny_field he hd h1 ?_)
  rw [if_pos (show (Value.ref T != Value.none) = true from by simp)]
  exact wpAny_setField hT hdT (Array.getElem?_eq_some_iff.mp h3).1 h
theorem lv_passOn {T : Addr} {oT : Obj} {ts : Array Value} {v3 : Value} {cenv : Env} {what : String} (he : s.heap.get? a = some oe) (hd : oe.data = .fields vs) (h1 : vs[1]? = some (.ref T)) (hT : s.heap.get? T = some oT) (hdT : oT.data = .fields ts) (h3 : ts[3]? = some v3)
    (h : E (.ref a) { s with heap := s.heap.update T (Obj.mapFields (·.setIfInBounds 3 (cenv.frame.elim Value.none fun f => rawInt f))) }) : wpAny M A (PySem.passOn what (.ref a) cenv : Sem Value) (fun _ _ => False) E s := by
  unfold PySem.passOn
  refine wpAny_bind (wpAny_field he hd h1 ?_)
  rw [if_neg (show ¬ (Value.ref T == Value.none) = true from by simp)]
  exact wpAny_bind (lv_flight he hd h1 hT hdT h3 (wpAny_throw h))
end
section
variable {P : Program} {w : World} {fs : List Addr} {a C : Addr} {od : Option Addr} {oe : Obj} {old : List Addr} {h h' : Heap} {H : Hp} {n : Bool}
theorem LftF.hok {v3 : Value} (l : LftF v3 fs a oe old h h') (ok : HOk P w H h) (he : h.get? a = some oe) (ha : H a = some (exG n a C od)) (hfs : ∀ b ∈ fs, H b = none) (hold : ∀ b ∈ old, H b = none) : HOk P w (upd H a (exG false a C od)) h' := fun b u q => by
  have hu : ∀ c z, H c = some z → c ≠ a → upd H a (exG false a C od) c = some z := fun c z r ne => by rw [upd_ne ne]; exact r
  by_cases hb : b = a
  · subst hb
    rw [upd_same] at q; cases q
    obtain ⟨vs, sl, e1, _⟩ := exG_ok.mp (ok b _ ha)
    rw [he] at e1; cases e1
    obtain ⟨oe', us, T, oT, ts, q1, q2, q3, q4, q5, _⟩ := l.tr
    obtain ⟨c, d, dt, s4⟩ := oe'
    dsimp only at q2 q3 q4 q5
    subst q2 q3 q4 q5
    exact exG_ok.mpr ⟨us, _, q1, fun z => Bool.noConfusion z⟩
  · rw [upd_ne hb] at q
    refine (ok b u q).stay (fun c v hc r => ?_) (fun c r => hu c _ r fun z => ?_) fun c xs r => hu c _ r fun z => ?_
    · have hcn : ∃ z, H c = some z := by
        rcases hc with hc | hc
        · exact ⟨u, hc ▸ q⟩
        · exact ⟨_, hc⟩
      obtain ⟨z, hz⟩ := hcn
      refine l.keep c v (fun m => by rw [hfs c m] at hz; cases hz) (fun e => ?_) (fun m => by rw [hold c m] at hz; cases hz) r
      subst e
      rcases hc with hc | hc
      · exact hb hc.symm
      · rw [ha] at hc; cases hc
    · rw [z, ha] at r; cases r
    · rw [z, ha] at r; cases r
end
section
variable {P : Program} {w : World} {K : PySem.W.Frag} {mg : Str → Option Value} {base : Heap} {N : List Str} {qual : Str} {scope : Scope} {f : Addr} {cd : Value} {A : Around} {outer : List Env} {s₀ : Shared} {H₀ : Hp} {E : XK}
theorem lv_cxF {CX : CXT} {pins : List (Addr × Obj)} {σ : St} {H1 H2 : Hp} {s1 s2 : Shared} {h3 : Heap} {a C : Addr} {od : Option Addr} {oe : Obj} {old : List Addr} {n : Bool} (I : Inv (cxOf CX P w K mg base N qual scope f cd A outer s₀ H₀ E) pins σ H1 s1)
    (os : s2.os = s1.os) (bare : AllBare s2.gens) (un : Un (frs (envOfC qual scope s₀.heap.objs.size f cd :: outer)) [] H1 H2 s1.heap s2.heap) (ok : HOk P w H2 s2.heap) (ha : H2 a = some (exG n a C od)) (he : s2.heap.get? a = some oe) (hn : s₀.heap.get? a = none) (hold : ∀ b ∈ old, H2 b = none ∧ s₀.heap.get? b = none)
    (l : LftF .none (frs (envOfC qual scope s₀.heap.objs.size f cd :: outer)) a oe old s2.heap h3) (q : E (.ref a) none (upd H2 a (exG false a C od))) :
    CX1 P w outer H₀ s₀ E (.ref a) { s2 with heap := h3 } := by
  have stk : ∀ b ∈ frs (envOfC qual scope s₀.heap.objs.size f cd :: outer), b = s₀.heap.objs.size ∨ b ∈ frs outer := fun b hb => by
    rcases List.mem_cons.mp (I.stkSub b hb) with z | z
    · exact .inl z
    · exact .inr z
  have fr2 : ∀ b ∈ frs (envOfC qual scope s₀.heap.objs.size f cd :: outer), H2 b = none := fun b hb => by
    obtain ⟨_, o, ho, _⟩ := I.stack.mem hb
    exact un.free b o ho (I.stkFree b hb) (by simp)
  obtain ⟨oe', us, T, oT, ts, q1, q2, q3, q4, q5, q6, q7, q8s, q9, q10, q11⟩ := l.tr
  have q8 := Heap.get?_none_of_le q8s
  have nl : ∀ b o, s₀.heap.get? b = some o → b ≠ s₀.heap.objs.size := fun b o z => Nat.ne_of_lt (Heap.lt_size z)
  have na : ∀ b o, s₀.heap.get? b = some o → b ≠ a := fun b o z e => by rw [e, hn] at z; cases z
  have no : ∀ b o, s₀.heap.get? b = some o → b ∉ old := fun b o z e => by rw [(hold b e).2] at z; cases z
  have tn : H2 T = none := hp_none ok q8
  have t0 : s₀.heap.get? T = none := by
    cases z : s₀.heap.get? T with
    | none => rfl
    | some o =>
      obtain ⟨o1, z1⟩ := I.base.there T o z (by intro m; cases m)
      obtain ⟨o2, z2⟩ := un.there T o1 z1 (by simp)
      rw [q8] at z2; cases z2
  have hu : ∀ c z, H2 c = some z → z ≠ exG n a C od → upd H2 a (exG false a C od) c = some z := fun c z r ne => by rw [upd_ne fun e => ne (by rw [e, ha] at r; exact (Option.some.inj r).symm)]; exact r
  refine ⟨a, C, od, upd H2 a (exG false a C od), rfl, os.trans I.os, bare, ⟨fun b o z nz hb _ => ?_, fun b o z nz hb _ => ?_, fun b o z nz _ => ?_, fun b o z _ => ?_, fun b xs z => ?_, fun b o u z => ?_, fun b ps z => ?_⟩, l.hok ok he ha fr2 (fun b m => (hold b m).1), upd_same, hn, ⟨oe', us, T, oT, ts, q1, q5, q6, q7, q9, q10, q11, by rw [upd_ne q7]; exact tn, t0⟩, q⟩
  · have z1 := I.base.keep b o z nz hb (by intro m; cases m)
    have n1 := I.base.free b o z nz (by intro m; cases m)
    have hb2 : b ∉ frs (envOfC qual scope s₀.heap.objs.size f cd :: outer) := fun m => (stk b m).elim (nl b o z) hb
    exact l.keep b o hb2 (na b o z) (no b o z) (un.keep b o z1 n1 hb2 (by simp))
  · obtain ⟨sl, z1⟩ := I.base.slot b o z nz hb (by intro m; cases m)
    have n1 := I.base.free b o z nz (by intro m; cases m)
    obtain ⟨sl2, z2⟩ := un.any z1 n1 (by simp)
    by_cases m : b ∈ frs (envOfC qual scope s₀.heap.objs.size f cd :: outer)
    · obtain ⟨sl3, z3⟩ := l.slot b _ m z2
      exact ⟨sl3, z3⟩
    · exact ⟨sl2, l.keep b _ m (na b o z) (no b o z) z2⟩
  · obtain ⟨o1, z1⟩ := I.base.there b o z (by intro m; cases m)
    have n1 := I.base.free b o z nz (by intro m; cases m)
    show upd H2 a _ b = none
    rw [upd_ne (na b o z)]
    exact un.free b o1 z1 n1 (by simp)
  · obtain ⟨o1, z1⟩ := I.base.there b o z (by intro m; cases m)
    obtain ⟨o2, z2⟩ := un.there b o1 z1 (by simp)
    exact l.there b o2 (no b o z) z2
  · exact hu b _ (un.tups b xs (I.base.tups b xs z)) (fun e => nomatch e)
  · exact hu b _ (un.frzs b o u (I.base.frzs b o u z)) (fun e => nomatch e)
  · obtain ⟨m1, z1⟩ := I.base.tbls b ps z
    obtain ⟨m2, z2⟩ := un.tbls b _ z1
    exact ⟨m1 ++ m2, by rw [← Array.append_assoc]; exact hu b _ z2 (fun e => nomatch e)⟩
end
structure KpF (fs : List Addr) (a : Addr) (old : List Addr) (h h' : Heap) : Prop where
  keep : ∀ b o, b ∉ fs → b ≠ a → b ∉ old → h.get? b = some o → h'.get? b = some o
  slot : ∀ b o, b ∈ fs → h.get? b = some o → ∃ sl, h'.get? b = some { o with slots := sl }
  there : ∀ b o, b ∉ old → h.get? b = some o → ∃ o', h'.get? b = some o'
theorem LftF.kp {v : Value} {fs : List Addr} {a : Addr} {oe : Obj} {old : List Addr} {h h' : Heap} (l : LftF v fs a oe old h h') : KpF fs a old h h' := ⟨l.keep, l.slot, l.there⟩
theorem KpF.trans {fs : List Addr} {a : Addr} {S T : List Addr} {h h1 h2 : Heap} (k : KpF fs a S h h1) (m : KpF fs a T h1 h2) : KpF fs a (S ++ T) h h2 := by
  refine ⟨fun b o hb ha hs q => m.keep b o hb ha (fun z => hs (List.mem_append_right _ z)) (k.keep b o hb ha (fun z => hs (List.mem_append_left _ z)) q), fun b o hb q => ?_, fun b o hs q => ?_⟩
  · obtain ⟨sl, z⟩ := k.slot b o hb q
    obtain ⟨sl2, z2⟩ := m.slot b _ hb z
    exact ⟨sl2, z2⟩
  · obtain ⟨o1, z⟩ := k.there b o (fun z => hs (List.mem_append_left _ z)) q
    exact m.there b o1 (fun z => hs (List.mem_append_right _ z)) z
theorem KpF.but {fs : List Addr} {a T : Addr} {h h' : Heap} (hT : T ∉ fs) (hs : ∀ b, b ≠ T → h'.get? b = h.get? b) : KpF fs a [T] h h' :=
  ⟨fun b o _ _ hb q => (hs b (fun z => hb (by simp [z]))).trans q, fun b o hb q => ⟨o.slots, (hs b (fun z => hT (z ▸ hb))).trans q⟩, fun b o hb q => ⟨o, (hs b (fun z => hb (by simp [z]))).trans q⟩⟩
noncomputable def CompE (X : Cx) (E : XK) : Prop := ∀ (pins : List (Addr × Obj)) (σ : St) (C : Addr) (cenv : Env) (s1 s2 : Shared) (H1 : Hp) (e : Value), cenv.frame = X.env.frame → Inv X pins σ H1 s1 → (∃ m, s1.heap.Ns C m) → FpOk X pins H1 C → CX1 X.prog X.w X.stack H1 s1 E e s2 →
  notedBy (model X.prog X.w) X.A cenv (fun e s' => ∃ m, s'.heap.Ns C m ∧ ∀ h', Heap.SameBut C s'.heap h' → ∀ cenv : Env, cenv.locals = C → wpAny (model X.prog X.w) X.A (PySem.passOn "comprehension.variables-let-go" e cenv : Sem Value) (fun _ _ => False) X.xe { s' with heap := h' }) e s2
section
variable {P : Program} {w : World} {K : PySem.W.Frag} {mg : Str → Option Value} {base : Heap} {N : List Str} {qual : Str} {scope : Scope} {f : Addr} {cd : Value} {A : Around} {outer : List Env} {s₀ : Shared} {H₀ : Hp} {E : XK}
theorem comp_e : CompE (cxOf (CX1 P w) P w K mg base N qual scope f cd A outer s₀ H₀ E) E := by
  intro pins σ C cenv s1 s2 H1 e hcf I ⟨m, oC, es, ep, hg, hC2⟩ fC hq
  obtain ⟨a, C', od, H2, rfl, os, bare, un, ok, ha, hna, ⟨oe, vs, T, oT, ts, t1, t2, t3, t4, t5, t6, t7, t8, t9⟩, q⟩ := hq
  have hCfs : C ∉ frs (envOfC qual scope s₀.heap.objs.size f cd :: outer) := fun hb => (List.mem_cons.mp (I.stkSub C hb)).elim fC.2.1 fC.2.2.1
  have un' : Un (frs (envOfC qual scope s₀.heap.objs.size f cd :: outer)) [] H1 H2 s1.heap s2.heap := un
  have fun2 : s2.heap.FunFrames base (envOfC qual scope s₀.heap.objs.size f cd :: outer) := fun_un I.stack fun b hb o ho => un'.any ho (I.stkFree b hb) (by simp)
  have gC : s2.heap.get? C = some oC := un'.keep C oC hg fC.1 hCfs (by simp)
  have nC : H2 C = none := un'.free C oC hg fC.1 (by simp)
  have zC : s₀.heap.get? C = none := by
    rcases fC.2.2.2.1 with z | z
    · exact absurd z (by intro q; cases q)
    · exact Heap.get?_none_of_le z
  have old0 : ∀ {b : Addr}, s1.heap.get? b = none → s₀.heap.get? b = none := fun {b} z => by
    cases y : s₀.heap.get? b with
    | none => rfl
    | some o =>
      obtain ⟨o1, z1⟩ := I.base.there b o y (by intro m; cases m)
      rw [z] at z1; cases z1
  have old1 : ∀ {b : Addr}, s2.heap.get? b = none → s1.heap.get? b = none := fun {b} z => by
    cases y : s1.heap.get? b with
    | none => rfl
    | some o =>
      obtain ⟨o1, z1⟩ := un'.there b o y (by simp)
      rw [z] at z1; cases z1
  have hCa : C ≠ a := fun z => by rw [z, hna] at hg; cases hg
  have hCT : C ≠ T := fun z => by rw [z, t9] at hg; cases hg
  have nofs : ∀ {h : Heap} {b : Addr} {o : Obj} {us : Array Value}, h.FunFrames base (envOfC qual scope s₀.heap.objs.size f cd :: outer) → h.get? b = some o → o.data = .fields us → b ∉ frs (envOfC qual scope s₀.heap.objs.size f cd :: outer) := fun {h b o us} hl hb hd hm => by
    obtain ⟨_, o', ho, hnf⟩ := hl.mem hm
    rw [hb] at ho; cases ho; exact hnf us hd
  refine lv_noteG (base := base) (L := s₀.heap.objs.size) hcf I.ok.frames fun2 rfl t1 t2 t3 t4 t5 t6 t7 (by simp [rawInt]) fun h1 l1 => ?_
  have gC1 : h1.get? C = some oC := l1.keep C oC hCfs hCa (by simp [hCT]) gC
  refine ⟨m, ⟨oC, es, ep, gC1, hC2⟩, fun h2 hs2 cenv' hc' => ?_⟩
  obtain ⟨oe1, vs1, T1, oT1, ts1, r1, r2, r3, r4, r5, r6, r7, r8s, r9, r10, r11⟩ := l1.tr
  have r8 : s2.heap.get? T1 = none := Heap.get?_none_of_le r8s
  have hCT1 : C ≠ T1 := fun z => by rw [z, r8] at gC; cases gC
  have a2 : h2.get? a = some oe1 := (hs2.2 a (Ne.symm hCa)).trans r1
  have T2 : h2.get? T1 = some oT1 := (hs2.2 T1 (Ne.symm hCT1)).trans r9
  refine lv_passOn (s := { s2 with heap := h2 }) a2 r5 r6 T2 r10 r11 ?_
  generalize hv' : (cenv'.frame.elim Value.none fun f => rawInt f) = v'
  have d3 := Obj.data_mapFields r10 (·.setIfInBounds 3 v')
  have z3 : 3 < ts1.size := (Array.getElem?_eq_some_iff.mp r11).1
  have k1 := l1.kp
  have fun1 := fun_un fun2 fun b hb o ho => k1.slot b o hb ho
  have nT1 := nofs fun1 r9 r10
  have k3 : KpF (frs (envOfC qual scope s₀.heap.objs.size f cd :: outer)) a ([T] ++ [C] ++ [T1]) s2.heap (h2.update T1 (Obj.mapFields (·.setIfInBounds 3 v'))) := (k1.trans (KpF.but hCfs hs2.2)).trans (KpF.but nT1 fun b hb => Heap.get?_update_other _ _ (Ne.symm hb))
  have a3 : (h2.update T1 (Obj.mapFields (·.setIfInBounds 3 v'))).get? a = some oe1 := (Heap.get?_update_other _ _ r7).trans a2
  have T3 := Heap.get?_update_self (Obj.mapFields (·.setIfInBounds 3 v')) T2 (Obj.isFreed_of_fields d3)
  have sz3 : s2.heap.objs.size ≤ (h2.update T1 (Obj.mapFields (·.setIfInBounds 3 v'))).objs.size := by rw [Heap.size_update, hs2.1]; exact l1.sz
  generalize h2.update T1 (Obj.mapFields (·.setIfInBounds 3 v')) = h3 at k3 a3 T3 sz3 ⊢
  have fun3 := fun_un fun2 fun b hb o ho => k3.slot b o hb ho
  have q3 : (ts1.setIfInBounds 3 v')[3]? = some v' := by simp [z3]
  have hn0 := old0 hna
  have nT1H : H2 T1 = none := hp_none ok r8
  have hold3 : ∀ b ∈ [T] ++ [C] ++ [T1], H2 b = none ∧ s₀.heap.get? b = none := fun b hb => by
    simp only [List.mem_append, List.mem_singleton] at hb
    rcases hb with (rfl | rfl) | rfl
    · exact ⟨t8, old0 t9⟩
    · exact ⟨nC, zC⟩
    · exact ⟨nT1H, old0 (old1 r8)⟩
  have qE : E (.ref a) none (upd H2 a (exG false a C' od)) := by rw [upd_self ha]; exact q
  show wpAny (model P w) _ (leaving (envOfC qual scope s₀.heap.objs.size f cd) (.ref a)) _ _ { s2 with heap := h3 }
  unfold leaving
  refine wpAny_bind ?_
  by_cases hv : (v' == rawInt s₀.heap.objs.size) = true
  · refine lv_noteR (s := { s2 with heap := h3 }) (L := s₀.heap.objs.size) rfl a3 r5 r6 T3 d3 q3 hv ?_
    refine lv_flight (s := { s2 with heap := h3 }) (fr := none) a3 r5 r6 T3 d3 q3 ?_
    have d4 := Obj.data_mapFields d3 (·.setIfInBounds 3 Value.none)
    have T4 := Heap.get?_update_self (Obj.mapFields (·.setIfInBounds 3 Value.none)) T3 (Obj.isFreed_of_fields d4)
    have k4 := k3.trans (KpF.but (a := a) nT1 fun b hb => Heap.get?_update_other h3 (Obj.mapFields (·.setIfInBounds 3 Value.none)) (Ne.symm hb))
    refine lv_cxF (s2 := s2) (h3 := h3.update T1 (Obj.mapFields (·.setIfInBounds 3 Value.none))) I os bare un ok ha t1 hn0 (fun b hb => ?_) ⟨k4.keep, k4.slot, k4.there, ⟨oe1, vs1, T1, _, _, (Heap.get?_update_other _ _ r7).trans a3, r2, r3, r4, r5, r6, r7, r8s, T4, d4, by simp [z3]⟩, by rw [Heap.size_update]; exact sz3⟩ qE
    rcases List.mem_append.mp hb with hb | hb
    · exact hold3 b hb
    · exact hold3 b (List.mem_append_right _ hb)
  · refine lv_noteG (s := { s2 with heap := h3 }) (base := base) (L := s₀.heap.objs.size) rfl I.ok.frames fun3 rfl a3 r5 r6 r7 T3 d3 q3 hv fun h4 l4 => ?_
    obtain ⟨oe4, vs4, T4, oT4, ts4, u1, u2, u3, u4, u5, u6, u7, u8s, u9, u10, u11⟩ := l4.tr
    have z4 : 3 < ts4.size := (Array.getElem?_eq_some_iff.mp u11).1
    refine lv_flight (s := { s2 with heap := h4 }) (fr := none) u1 u5 u6 u9 u10 u11 ?_
    have d5 := Obj.data_mapFields u10 (·.setIfInBounds 3 Value.none)
    have T5 := Heap.get?_update_self (Obj.mapFields (·.setIfInBounds 3 Value.none)) u9 (Obj.isFreed_of_fields d5)
    have k4 := k3.trans l4.kp
    have fun4 := fun_un fun2 fun b hb o ho => k4.slot b o hb ho
    have nT4 := nofs fun4 u9 u10
    have k5 := k4.trans (KpF.but (a := a) nT4 fun b hb => Heap.get?_update_other h4 (Obj.mapFields (·.setIfInBounds 3 Value.none)) (Ne.symm hb))
    have n4s : s2.heap.objs.size ≤ T4 := Nat.le_trans sz3 u8s
    have n4 : s2.heap.get? T4 = none := Heap.get?_none_of_le n4s
    refine lv_cxF (s2 := s2) (h3 := h4.update T4 (Obj.mapFields (·.setIfInBounds 3 Value.none))) I os bare un ok ha t1 hn0 (fun b hb => ?_) ⟨k5.keep, k5.slot, k5.there, ⟨oe4, vs4, T4, _, _, (Heap.get?_update_other _ _ u7).trans u1, u2.trans r2, u3.trans r3, u4.trans r4, u5, u6, u7, n4s, T5, d5, by simp [z4]⟩, by rw [Heap.size_update]; exact Nat.le_trans sz3 l4.sz⟩ qE
    rcases List.mem_append.mp hb with hb | hb
    · rcases List.mem_append.mp hb with hb | hb
      · exact hold3 b hb
      · exact hold3 b (List.mem_append_right _ hb)
    · have := List.mem_singleton.mp hb
      subst this
      exact ⟨hp_none ok n4, old0 (old1 n4)⟩
end
section
variable {X : Cx} {scope : Scope} {xs fr : List Str} {pins : List (Addr × Obj)} {σ : St} {H : Hp} {s : Shared} {js : List Nat} {fp : List Addr}
theorem comp_loopX {tg elt iter : Expr} {ifs : List Expr} {pos : Pos} {it acc : Value} {env : Env} {A : Around} {R : Result → Shared → Prop} {s : Shared} {P : Program} {w : World} (EE : Value → Shared → Prop) (hE : ∀ e s', EE e s' → notedBy (model P w) A env (fun e s'' => R (.error e) s'') e s') (I : Nat → Shared → Prop)
    (turn : ∀ n s, I n s → wpAny (model P w) A (pyNext it) (fun r s₁ => match r with
      | none => R (.ok .next) s₁
      | some v => wpAny (model P w) A (letOwnedTupleGo tg it v) (fun _ s₁' => wpAny (model P w) A (assign tg env v) (fun _ s₂ =>
          wpAny (model P w) A (forIn ifs true fun c r => if r = true then do let ok ← isTrue c env (eval c env); pure (ForInStep.yield ok) else pure (ForInStep.yield r)) (fun ok s₃ =>
            if ok = true then wpAny (model P w) A (eval elt env) (fun x s₄ =>
              wpAny (model P w) A (call (.builtin "list.append") [acc, x]) (fun _ s₅ => ∃ m, m < n ∧ I m s₅) (fun _ _ => False) s₄) EE s₃
            else ∃ m, m < n ∧ I m s₃) (fun _ _ => False) s₂) (fun _ _ => False) s₁') (fun _ _ => False) s₁) (fun _ _ => False) s)
    (n : Nat) (h : I n s) : codeAny (model P w) A (.compLoop (.ListComp elt [⟨tg, iter, ifs, 0⟩] scope pos) 0 it acc env) R s := by
  refine codeAny_loop rfl I (fun n s hI => ?_) n h
  show wpAny _ A ((compTurn (.ListComp elt [⟨tg, iter, ifs, 0⟩] scope pos) 0 it acc env).onRaise (fun x => do noteFrame x env; theTreesLotGoes x)) _ _ s
  refine wpAny_noted ?_
  rw [compTurn_list]
  refine wpAny_bind (wpAny_standAt (wpAny_bind (wpAny_mono (turn n s hI) (fun r s₁ h₁ => ?_) fun _ _ h' => h'.elim)))
  cases r with
  | none => exact wpAny_pure h₁
  | some v =>
    refine wpAny_bind (wpAny_mono h₁ (fun _ s₁' h₁' => ?_) fun _ _ h' => h'.elim)
    refine wpAny_bind (wpAny_mono h₁' (fun _ s₂ h₂ => wpAny_bind (wpAny_mono h₂ (fun ok s₃ h₃ => ?_) fun _ _ h' => h'.elim)) fun _ _ h' => h'.elim)
    cases ok with
    | false => exact wpAny_pure ⟨rfl, h₃⟩
    | true =>
      exact wpAny_bind (wpAny_bind (wpAny_mono h₃ (fun x s₄ h₄ => wpAny_bind (wpAny_mono h₄ (fun _ s₅ h₅ => wpAny_pure (wpAny_pure ⟨rfl, h₅⟩)) fun _ _ h' => h'.elim)) hE))
theorem comp_runX {E : XK} {tg elt iter : Expr} {ifs : List Expr} {pos : Pos} {g : TG} {tt : TT} {te : TE} (hc : X.calm = true) (S : CompS X scope xs fr) (hjs : js.map (fun j => X.N[j]?) = fr.map some)
    (hg : ∀ C ex s₀ H₀, PG (cxC X scope xs fr C ex s₀ H₀) tg g) (hk : GKeep xs.length g) (hi : ∀ C ex s₀ H₀, PIf (cxC X scope xs fr C ex s₀ H₀) ifs tt) (he : ∀ C ex s₀ H₀ ps xe, Passes (CX1 X.prog X.w) ((cxC X scope xs fr C ex s₀ H₀).tri ps xe) E → PE ((cxC X scope xs fr C ex s₀ H₀).tri ps xe) elt te)
    {s2 : Shared} {H1 : Hp} {R : Value → Addr → Result → Shared → Prop} {Q : VK} {it : Addr} {tn : Nat → Heap → Prop} {J : It} (I : Inv X pins σ H1 s2) (T : Turn X.prog X.w X.K tg J fp it tn) (st : tn 0 s2.heap) (hfp : ∀ b ∈ fp, FpOk X pins H1 b)
    (hq : ∀ p, H1 p = none → ∃ W : Nat → Nat → Hp → Prop, (∃ m, W 0 m (upd H1 p (.lst []))) ∧ ∀ i m H, W i m H →
      (J.stop i H ∧ Q (.ref p) H) ∨ (J.go i H ∧ ∃ N : Hp → Prop, (∀ H', N H' → ∃ m', m' < m ∧ W (i + 1) m' H') ∧
        ∀ x H', J.yld i H x H' → g x (List.replicate xs.length none ++ pick σ js) H' fun σ2 H2 => tt σ2 H2 fun b H3 =>
          if b = true then te σ2 H3 fun y H4 => ∃ acc, H4 p = some (.lst acc) ∧ acc.length < sizeLine ∧ N (upd H4 p (.lst (acc ++ [y]))) else N H3))
    (hR : ∀ (p C : Addr) (s' : Shared) (H' : Hp), (∃ m, s'.heap.Ns C m) → FpOk X pins H' C → Inv X pins σ H' s' → Q (.ref p) H' → R (.ref p) C (.ok .next) s')
    (hX : ∀ (p C : Addr) (cenv : Env) (s1 s2 : Shared) (H1 : Hp) (e : Value), cenv.frame = X.env.frame → Inv X pins σ H1 s1 → (∃ m, s1.heap.Ns C m) → FpOk X pins H1 C → CX1 X.prog X.w X.stack H1 s1 E e s2 → notedBy (model X.prog X.w) X.A cenv (fun e s'' => R (.ref p) C (.error e) s'') e s2) :
    wpAny (model X.prog X.w) X.A (newList []) (fun acc s₃ => wpAny (model X.prog X.w) X.A (newFunctionEnv scope X.env.globals (clOf X.env scope.names []) [] X.env.qual none .none (some X.env)) (fun cenv s₄ =>
      codeAny (model X.prog X.w) X.A (.compStart (.ListComp elt [⟨tg, iter, ifs, 0⟩] scope pos) 0 (.ref it) acc { cenv with scope := relabel scope X.env }) (R acc cenv.locals) s₄) X.xe s₃) X.xe s2 := by
  refine wpAny_newObj_type ?_ (by show 0 ≤ sizeLine; exact Nat.zero_le _)
  have hn0 : H1 s2.heap.objs.size = none := I.hok.fresh (Nat.le_refl _)
  have I3 : Inv X pins σ (upd H1 s2.heap.objs.size (.lst [])) { s2 with heap := s2.heap.push { cls := .type "list", data := .seq ([] : List Value).toArray } } := I.laid (t' := s2.toks) (fun b u e => Heap.get?_push_of_some _ e) (Nat.le_refl _) ⟨Nat.zero_le _, [], 0, .nil, Heap.get?_push_size _ rfl⟩
  obtain ⟨W, ⟨m0, w0⟩, turn⟩ := hq _ hn0
  have hob : ∀ b ∈ fp, ∃ o, s2.heap.get? b = some o := fun b hb => let ⟨o, e, _⟩ := T.obj _ _ st b hb; ⟨o, e⟩
  have hfp3 : ∀ b ∈ fp, FpOk X pins (upd H1 s2.heap.objs.size (.lst [])) b := fun b hb => by
    obtain ⟨f0, f⟩ := hfp b hb
    obtain ⟨o, e⟩ := hob b hb
    exact ⟨by rw [upd_ne (Nat.ne_of_lt (Heap.lt_size e))]; exact f0, f⟩
  have hob3 : ∀ b ∈ fp, ∃ o, (s2.heap.push { cls := .type "list", data := .seq ([] : List Value).toArray }).get? b = some o := fun b hb => let ⟨o, e⟩ := hob b hb; ⟨o, Heap.get?_push_of_some _ e⟩
  have st3 : tn 0 (s2.heap.push { cls := .type "list", data := .seq ([] : List Value).toArray }) := T.keep _ _ _ st fun b _ o e => Heap.get?_push_of_some _ e
  generalize hs3 : ({ s2 with heap := s2.heap.push { cls := .type "list", data := .seq ([] : List Value).toArray } } : Shared) = s3 at I3 ⊢
  have st3' : tn 0 s3.heap := by rw [← hs3]; exact st3
  have hob3' : ∀ b ∈ fp, ∃ o, s3.heap.get? b = some o := by rw [← hs3]; exact hob3
  generalize hH3 : upd H1 s2.heap.objs.size (.lst []) = H3 at I3 hfp3 w0
  generalize hp0 : s2.heap.objs.size = p0 at turn ⊢
  refine new_block fun h₁ hns₁ hkp₁ hco₁ => ?_
  have I4 := block_in (t' := s3.toks) S hjs I3 hfp3 hob3' hns₁ hkp₁ hco₁
  have st4 : tn 0 h₁ := T.keep _ _ _ st3' fun b hb o e => hkp₁ b o e
  have loop : ∀ s₄ : Shared, Inv (cxC X scope xs fr s3.heap.objs.size fp s3 H3) [] (List.replicate xs.length none ++ pick σ js) H3 s₄ → tn 0 s₄.heap →
      codeAny (model X.prog X.w) X.A (.compLoop (.ListComp elt [⟨tg, iter, ifs, 0⟩] scope pos) 0 (.ref it) (.ref p0) (compEnvC scope (cellsFrom (s3.heap.objs.size + 1) scope.names (clOf X.env scope.names [])) s3.heap.objs.size X.env)) (R (.ref p0) s3.heap.objs.size) s₄ := by
    intro s₄ I4 st4
    have stat : ∀ {H' : Hp}, (∀ b ∈ fp, H' b = none) → ∀ b ∈ fp, FpOk (cxC X scope xs fr s3.heap.objs.size fp s3 H3) [] H' b := fun {H'} hn b hb => by
      obtain ⟨f0, f1, f2, f3, f4, f5⟩ := hfp3 b hb
      obtain ⟨o, e⟩ := hob3' b hb
      refine ⟨hn b hb, Nat.ne_of_lt (Heap.lt_size e), I4.ok.exfs b hb, .inl hb, fun x c h => (I4.ok.exf b hb).2 x c h, fun p hp => absurd (show p ∈ ([] : List (Addr × Obj)) from hp) (by simp)⟩
    refine comp_loopX (fun e s' => ∃ ps2 σ2 H2 s1, Inv (cxC X scope xs fr s3.heap.objs.size fp s3 H3) ps2 σ2 H2 s1 ∧ CX1 X.prog X.w X.stack H2 s1 E e s') (fun e s' ⟨ps2, σ2, H2, s1, J2, hq⟩ => by
      obtain ⟨m2, n2, _⟩ := id J2.loc
      have J3 := block_out I3 hfp3 ((show Inv _ ([] ++ ps2) _ _ _ from J2).unpinned) (Heap.SameBut.refl ..)
      exact hX p0 _ (compEnvC scope (cellsFrom (s3.heap.objs.size + 1) scope.names (clOf X.env scope.names [])) s3.heap.objs.size X.env) s1 s' H2 e rfl J3 ⟨m2, n2⟩ (I3.fpOk (Nat.le_refl _) J2.free) hq) (fun n s' => ∃ i H', Inv (cxC X scope xs fr s3.heap.objs.size fp s3 H3) [] (List.replicate xs.length none ++ pick σ js) H' s' ∧ tn i s'.heap ∧ (∀ b ∈ fp, H' b = none) ∧ W i n H') ?_ m0 ⟨0, H3, I4, st4, fun b hb => (hfp3 b hb).1, w0⟩
    rintro n s5 ⟨i, H5, I5, st5, fr5, w5⟩
    rcases turn i n H5 w5 with ⟨stop, qn⟩ | ⟨go, N, hN, step⟩
    · refine thn (T.done (cxC X scope xs fr s3.heap.objs.size fp s3 H3) rfl rfl rfl hc i [] s5 _ H5 (fun _ _ => False) I5 (stat fr5) st5 stop) fun r s6 ⟨hr, I6⟩ => ?_
      subst hr
      obtain ⟨m6, n6, _⟩ := id I6.loc
      exact hR p0 s3.heap.objs.size s6 H5 ⟨m6, n6⟩ (I3.fpOk (Nat.le_refl _) I6.free) (block_out I3 hfp3 I6 (Heap.SameBut.refl ..)) qn
    · refine thn (T.item (cxC X scope xs fr s3.heap.objs.size fp s3 H3) rfl rfl rfl hc i [] s5 _ H5 (fun _ _ => False) I5 (stat fr5) st5 go) fun r s6 ⟨u, hr, h6⟩ => ?_
      subst hr
      refine thn h6 fun _ s7 ⟨x, H7, I7, r7, y7, st7, fr7⟩ => ?_
      have I7' := I7.pinned (stat fr7) (T.obj _ _ st7)
      refine thn (hg _ _ _ _ _ s7 _ H7 x u _ I7' r7 (hk _ _ _ _ (step x H7 y7))) fun _ s8 ⟨σ8, H8, I8, kp8, q8⟩ => ?_
      have again : ∀ {s9 : Shared} {H9 : Hp}, Inv (cxC X scope xs fr s3.heap.objs.size fp s3 H3) ([] ++ pinsAt fp s7.heap) σ8 H9 s9 → N H9 →
          ∃ m, m < n ∧ ∃ i H', Inv (cxC X scope xs fr s3.heap.objs.size fp s3 H3) [] (List.replicate xs.length none ++ pick σ js) H' s9 ∧ tn i s9.heap ∧ (∀ b ∈ fp, H' b = none) ∧ W i m H' := fun {s9 H9} I9 n9 => by
        obtain ⟨m', hm, w9⟩ := hN H9 n9
        refine ⟨m', hm, i + 1, H9, I9.unpinned.weak ?_ ?_, T.keep _ _ _ st7 fun b hb o e => (I9.pin (b, o) (List.mem_append_right _ (List.mem_append_right _ (mem_pinsAt hb e)))).1, fun b hb => ?_, w9⟩
        · rw [I9.len, I5.len]
        · intro k v hkv
          by_cases hx : k < xs.length
          · rw [List.getElem?_append_left (by rw [List.length_replicate]; exact hx), List.getElem?_replicate, if_pos hx] at hkv
            cases hkv
          · rw [kp8 k (Nat.le_of_not_lt hx)]
            exact hkv
        · obtain ⟨o, e, d⟩ := T.obj _ _ st7 b hb
          exact (I9.pin (b, o) (List.mem_append_right _ (List.mem_append_right _ (mem_pinsAt hb e)))).2.1
      refine wpAny_mono (hi _ _ _ _ _ s8 σ8 H8 _ (fun _ _ => False) (fun _ _ z => z) I8 q8) (fun ok s9 ⟨H9, I9, q9⟩ => ?_) fun _ _ z => z
      cases ok with
      | false =>
        rw [if_neg Bool.false_ne_true]
        rw [if_neg Bool.false_ne_true] at q9
        exact again I9 q9
      | true =>
        rw [if_pos rfl]
        rw [if_pos rfl] at q9
        refine thn (he _ _ _ _ _ _ (fun ps2 σ2 H2 s2 e s3 I2 hq => ⟨_, σ2, H2, s2, I2.untri, hq⟩) [] s9 σ8 H9 _ (I9.tri _) q9) fun uy s10 ⟨y, H10, I10', r10, acc, hacc, hz, n10⟩ => ?_
        have I10 := I10'.untri
        refine thn (mt_append _ s10 σ8 H10 (.ref p0) [y] (.ref p0) [uy] (fun _ H11 => N H11) I10 rfl (.cons r10 .nil) ⟨p0, acc, y, rfl, rfl, hacc, hz, n10⟩) fun _ s11 ⟨_, H11, I11, _, n11⟩ => ?_
        exact again I11 n11
  exact codeAny_compStart_list (loop _ I4 st4) (T.self _ _ _ _ _ st4 (loop _ I4 st4))
theorem ps_setcompX {E : XK} {tg elt iter : Expr} {ifs : List Expr} {pos spos py : Pos} {wi : TI} {g : TG} {tt : TT} {te : TE} {i : Nat} {y : Str} (xs fr : List Str) (js : List Nat) (hc : X.calm = true) (hS : compOk X.env.scope scope xs fr = true) (hjs : js.map (fun j => X.N[j]?) = fr.map some)
    (hN : X.N.Nodup) (hi' : X.N[i]? = some y) (hy : X.env.scope.names.lookup y = some .local) (hw : PI X tg iter wi)
    (hg : ∀ C ex s₀ H₀, PG (cxC X scope xs fr C ex s₀ H₀) tg g) (hk : GKeep xs.length g) (hi : ∀ C ex s₀ H₀, PIf (cxC X scope xs fr C ex s₀ H₀) ifs tt) (he : ∀ C ex s₀ H₀ ps xe, Passes (CX1 X.prog X.w) ((cxC X scope xs fr C ex s₀ H₀).tri ps xe) E → PE ((cxC X scope xs fr C ex s₀ H₀).tri ps xe) elt te)
    (hX : CompE X E)
    (hsw : swapsWith (.ListComp elt [⟨tg, iter, ifs, 0⟩] scope pos) (some (.Name y py)) spos.line X.env = pure true := by with_unfolding_all rfl)
    (hs : ∀ x, foldedSetIterable iter X.env x = pure x := by intro _; with_unfolding_all rfl) :
    PS X (.Assign [.Name y py] (.ListComp elt [⟨tg, iter, ifs, 0⟩] scope pos) spos) (tAsg (tComp xs.length js wi g tt te) (gName i)) := by
  intro pins s σ H D I h
  have S := compS_of hS
  rw [exec_Assign_Name_used _ _ _ _ hsw]
  refine wpAny_bind (wpAny_standAt (wpAny_bind ?_))
  show wpAny _ X.A (do let _ ← comprehension (.ListComp elt [⟨tg, iter, ifs, 0⟩] scope pos) scope X.env _ (newList []) false (eval iter X.env) (some (assign (.Name y py) X.env))) _ _ s
  refine wpAny_bind (wpAny_mono (wpAny_comprehension_free (use := some (assign (.Name y py) X.env)) (Q := fun _ s' => SP X pins D .next s') rfl hs (closure_is (S.cells I.ok)) S.kind S.names ?_) (fun _ s' hq => wpAny_pure (wpAny_pure hq)) fun _ _ e => e)
  refine thn (hw pins s σ H _ I h) fun v s1 h1 => thn h1 fun itv s2 h2 => ?_
  obtain ⟨it, fp, tn, J, H2, e, I2, T, st2, f2, q2⟩ := h2
  subst e
  refine comp_runX (Q := fun x H1 => gName i x σ H1 D.nx) (R := fun acc C => compPost (model X.prog X.w) X.A X.xe (some (assign (.Name y py) X.env)) (fun _ s' => SP X pins D .next s') acc C) hc S hjs hg hk hi he I2 T st2 f2 q2 ?_ (fun p C cenv s1 s2 H1 e hcf I1 hn fC hq => hX pins σ C cenv s1 s2 H1 e hcf I1 hn fC hq)
  intro p C s' H' ⟨m, hn⟩ fC I' q
  show wpAny _ X.A (assign (.Name y py) X.env (.ref p)) _ _ s'
  refine wpAny_assign_Name (store_ok2 I' hN hi' (.inl hy) (show RelV (.ref p) (.ref p) from rfl) (fun s'' I'' ⟨a, hs1, ha⟩ => ?_) (.inr hy))
  have hne : C ≠ a := by
    rcases ha with ha | ha
    · rw [ha]; exact fC.2.1
    · exact (fC.2.2.2.2.1 y a ha).symm
  exact ⟨m, hn.sameBut hs1 hne, fun h'' hs'' => ⟨_, H', I''.letgo fC hs'', q⟩⟩
end
end L2
set_option Elab.async false
set_option linter.all false
set_option maxRecDepth 100000
set_option maxHeartbeats 4000000
namespace L2
open PySem PySem.Spec PyProof.Rows
noncomputable def wts (ws : List Str) : Nat := (ws.map (·.length)).sum + ws.length
theorem asc_bl : Asc (" " : Str) := by unfold Asc; decide +kernel
theorem asc_join : ∀ {ws : List Str}, (∀ w ∈ ws, Asc w) → Asc (Str.join " " ws)
  | [], _ => by unfold Asc; decide +kernel
  | [x], h => h x (by simp)
  | x :: y :: r, h => by
    have ih := asc_join (ws := y :: r) fun w hw => h w (List.mem_cons_of_mem _ hw)
    exact ((h x (by simp)).app asc_bl).app ih
theorem Asc.left {a b : Str} (h : Asc (a ++ b)) : Asc a := fun c hc => h c (by
  show c ∈ (a.cps ++ b.cps).toList
  rw [Array.toList_append]
  exact List.mem_append_left _ hc)
theorem Asc.right {a b : Str} (h : Asc (a ++ b)) : Asc b := fun c hc => h c (by
  show c ∈ (a.cps ++ b.cps).toList
  rw [Array.toList_append]
  exact List.mem_append_right _ hc)
theorem asc_of_join : ∀ {ws : List Str}, Asc (Str.join " " ws) → ∀ w ∈ ws, Asc w
  | [], _, w, hw => by cases hw
  | [x], h, w, hw => by
    have := List.mem_singleton.mp hw
    subst this
    exact h
  | x :: y :: r, h, w, hw => by
    have h' : Asc ((x ++ " ") ++ Str.join " " (y :: r)) := h
    rcases List.mem_cons.mp hw with rfl | hw
    · exact h'.left.left
    · exact asc_of_join (ws := y :: r) h'.right w hw
theorem asc_split {z : Str} (h : Asc z) : ∀ w ∈ Txt.split z " ", Asc w := asc_of_join (by rw [StrLaws.join_split]; exact h)
theorem len_joined (ws : List Str) : (Str.join " " ws).length = (ws.map (·.length)).sum + (ws.length - 1) := by
  rw [← txt_join]
  have := size_glued (" " : Str) ws
  rw [show (" " : Str).length = 1 from by decide +kernel, Nat.mul_one] at this
  exact this
theorem wts_split (z : Str) : wts (Txt.split z " ") ≤ z.length + 1 := by
  have h := len_joined (Txt.split z " ")
  rw [StrLaws.join_split] at h
  unfold wts
  omega
theorem len_join (ws : List Str) : (Str.join " " ws).length ≤ wts ws := by
  rw [len_joined]
  unfold wts
  omega
theorem words_ne (z : Str) : Txt.split z " " ≠ [] := fun h => by
  have := StrLaws.join_split z " "
  rw [h] at this
  rw [← this] at h
  exact absurd h (by decide +kernel)
theorem wts_app (a b : List Str) : wts (a ++ b) = wts a + wts b := by
  unfold wts
  rw [List.map_append, List.sum_append, List.length_append]
  omega
theorem wts_cons (x : Str) (b : List Str) : wts (x :: b) = x.length + 1 + wts b := by
  unfold wts
  rw [List.map_cons, List.sum_cons, List.length_cons]
  omega
theorem wts_cut (n : Nat) (ws : List Str) : wts (ws.take n) + wts (ws.drop n) = wts ws := by rw [← wts_app, List.take_append_drop]
theorem wts_mem : ∀ {ws : List Str} {w : Str}, w ∈ ws → w.length + 1 ≤ wts ws
  | x :: b, w, h => by
    rw [wts_cons]
    rcases List.mem_cons.mp h with rfl | h
    · omega
    · have := wts_mem h
      omega
theorem wts_len (ws : List Str) : ws.length ≤ wts ws := by unfold wts; omega
theorem wts_perm {a b : List Str} (h : a.Perm b) : wts a = wts b := by
  unfold wts
  rw [h.length_eq, sum_perm (h.map _)]
theorem words_dk {p w W : Nat} {ws : List Str} (h : ∀ z ∈ ws, Asc z) (hw : wts ws ≤ w) (hW : ws.length ≤ W) : Dk (p + 1) w W (nmD ws) := by
  refine dk_tup ⟨fun e he => ?_, ?_, by simpa using hW⟩
  · obtain ⟨z, hz, rfl⟩ := List.mem_map.mp he
    exact ⟨w, dk_str (h z hz) (by have := wts_mem hz; omega)⟩
  · refine Nat.le_trans ?_ hw
    clear hw hW h
    induction ws with
    | nil => simp only [List.map_nil, PyData.weightAll]; exact Nat.zero_le _
    | cons x b ih =>
      rw [wts_cons]
      simp only [List.map_cons, PyData.weightAll, PyData.weight]
      have : x.cps.size = x.length := rfl
      omega
noncomputable def cutS (ws : List Str) (lo hi : Option Int) : List Str := (ws.drop (HT.sIx ws.length 0 lo)).take (HT.sIx ws.length ws.length hi - HT.sIx ws.length 0 lo)
theorem cut_str (ws : List Str) (lo hi : Option Int) : cutV (ws.map V.str) lo hi = (cutS ws lo hi).map V.str := by
  unfold cutV cutS
  rw [List.length_map, List.map_take, List.map_drop]
theorem cutS_sub (ws : List Str) (lo hi : Option Int) : (cutS ws lo hi).Sublist ws := (List.take_sublist _ _).trans (List.drop_sublist _ _)
theorem wts_sub {a b : List Str} (h : a.Sublist b) : wts a ≤ wts b := by
  induction h with
  | slnil => exact Nat.le_refl _
  | cons x _ ih => rw [wts_cons]; omega
  | cons_cons x _ ih => rw [wts_cons, wts_cons]; omega
theorem wts_three (ws : List Str) {i : Int} (h0 : 0 ≤ i) : wts (cutS ws none (some i)) + wts (cutS ws (some i) (some (i + 2))) + wts (cutS ws (some (i + 2)) none) ≤ wts ws := by
  have sx : ∀ (j : Int) (d : Nat), 0 ≤ j → HT.sIx ws.length d (some j) = min j.toNat ws.length := fun j d hj => by
    unfold HT.sIx
    simp [show ¬ j < 0 by omega]
  have e1 : cutS ws none (some i) = ws.take (min i.toNat ws.length) := by
    unfold cutS
    rw [sx i _ h0]
    show (ws.drop 0).take (_ - 0) = _
    rw [List.drop_zero, Nat.sub_zero]
  have e2 : cutS ws (some i) (some (i + 2)) = (ws.drop (min i.toNat ws.length)).take (min (i + 2).toNat ws.length - min i.toNat ws.length) := by
    unfold cutS
    rw [sx i _ h0, sx (i + 2) _ (by omega)]
  have e3 : cutS ws (some (i + 2)) none = ws.drop (min (i + 2).toNat ws.length) := by
    unfold cutS
    rw [sx (i + 2) _ (by omega)]
    exact List.take_of_length_le (by rw [List.length_drop]; exact Nat.le_refl _)
  rw [e1, e2, e3]
  have h1 := wts_cut (min i.toNat ws.length) ws
  have h2 := wts_cut (min (i + 2).toNat ws.length - min i.toNat ws.length) (ws.drop (min i.toNat ws.length))
  rw [List.drop_drop, show min i.toNat ws.length + (min (i + 2).toNat ws.length - min i.toNat ws.length) = min (i + 2).toNat ws.length by omega] at h2
  omega
theorem cutS_len (ws : List Str) (lo hi : Option Int) : (cutS ws lo hi).length ≤ ws.length := (cutS_sub ws lo hi).length_le
theorem wts_rev (ws : List Str) : wts ws.reverse = wts ws := wts_perm (List.reverse_perm ws)
end L2
set_option Elab.async false
set_option linter.all false
set_option maxRecDepth 100000
set_option maxHeartbeats 4000000
namespace K06
open PySem L2 PySem.Spec PyProof.Rows
noncomputable def top (i : Nat) : Stmt := PySem.Challenge.pw_halforder_k06_lines_that_write_none.main.body.getD i (.Pass ⟨0, 0, 0, 0⟩)
noncomputable abbrev s_is_name : Stmt := top 8
theorem sc_is_name : FnScope ["thing"] ["thing"] (defScope s_is_name) := ⟨rfl, rfl, rfl, by decide +kernel, rfl, by decide +kernel, by decide +kernel⟩
noncomputable abbrev s_are_unlike_names : Stmt := top 9
theorem sc_are_unlike_names : FnScope ["thing"] ["thing"] (defScope s_are_unlike_names) := ⟨rfl, rfl, rfl, by decide +kernel, rfl, by decide +kernel, by decide +kernel⟩
noncomputable abbrev s_are_tale_names : Stmt := top 13
theorem sc_are_tale_names : FnScope ["thing"] ["thing"] (defScope s_are_tale_names) := ⟨rfl, rfl, rfl, by decide +kernel, rfl, by decide +kernel, by decide +kernel⟩
noncomputable abbrev s_is_saying : Stmt := top 14
theorem sc_is_saying : FnScope ["thing", "names"] ["thing", "names"] (defScope s_is_saying) := ⟨rfl, rfl, rfl, by decide +kernel, rfl, by decide +kernel, by decide +kernel⟩
noncomputable abbrev s_read_names : Stmt := top 18
theorem sc_read_names : FnScope ["line", "words", "names"] ["line"] (defScope s_read_names) := ⟨rfl, rfl, rfl, by decide +kernel, rfl, by decide +kernel, by decide +kernel⟩
noncomputable abbrev s_read_saying : Stmt := top 19
theorem sc_read_saying : FnScope ["line", "row", "names", "words", "saying"] ["line", "row", "names"] (defScope s_read_saying) := ⟨rfl, rfl, rfl, by decide +kernel, rfl, by decide +kernel, by decide +kernel⟩
noncomputable abbrev s_read_tale : Stmt := top 20
theorem sc_read_tale : FnScope ["lines", "names", "sayings"] ["lines"] (defScope s_read_tale) := ⟨rfl, rfl, rfl, by decide +kernel, rfl, by decide +kernel, by decide +kernel⟩
noncomputable abbrev s__law_feed : Stmt := top 22
theorem sc__law_feed : FnScope ["_law_script"] ["_law_script"] (defScope s__law_feed) := ⟨rfl, rfl, rfl, by decide +kernel, rfl, by decide +kernel, by decide +kernel⟩
noncomputable abbrev s__law_draw : Stmt := top 23
theorem sc__law_draw : FnScope ["_law_feed_here", "_law_many", "_law_cell", "_law_mixed", "_law_found_here"] ["_law_feed_here", "_law_many"] (defScope s__law_draw) := ⟨rfl, rfl, rfl, by decide +kernel, rfl, by decide +kernel, by decide +kernel⟩
noncomputable abbrev s__law_names : Stmt := top 24
theorem sc__law_names : FnScope ["_law_feed_here", "_law_many", "_law_letters", "_law_start", "_law_way", "_law_size", "_law_at", "_law_names_here", "_law_head", "_law_tail", "_law_turn"] ["_law_feed_here", "_law_many"] (defScope s__law_names) := ⟨rfl, rfl, rfl, by decide +kernel, rfl, by decide +kernel, by decide +kernel⟩
noncomputable abbrev s__law_shuffled : Stmt := top 25
theorem sc__law_shuffled : FnScope ["_law_feed_here", "_law_some", "_law_left", "_law_found_here", "_law_k"] ["_law_feed_here", "_law_some"] (defScope s__law_shuffled) := ⟨rfl, rfl, rfl, by decide +kernel, rfl, by decide +kernel, by decide +kernel⟩
noncomputable abbrev s__law_pairs : Stmt := top 26
theorem sc__law_pairs : FnScope ["_law_feed_here", "_law_line", "_law_many", "_law_way", "_law_found_here", "_law_k", "_law_at", "_law_cut", "_law_one"] ["_law_feed_here", "_law_line"] (defScope s__law_pairs) := ⟨rfl, rfl, rfl, by decide +kernel, rfl, by decide +kernel, by decide +kernel⟩
noncomputable abbrev s__law_sayings : Stmt := top 27
theorem sc__law_sayings : FnScope ["_law_feed_here", "_law_line", "_law_found_here", "_law_pair", "_law_turn"] ["_law_feed_here", "_law_line"] (defScope s__law_sayings) := ⟨rfl, rfl, rfl, by decide +kernel, rfl, by decide +kernel, by decide +kernel⟩
noncomputable abbrev s__law_half : Stmt := top 28
theorem sc__law_half : FnScope ["_law_feed_here", "_law_most", "_law_names_here"] ["_law_feed_here", "_law_most"] (defScope s__law_half) := ⟨rfl, rfl, rfl, by decide +kernel, rfl, by decide +kernel, by decide +kernel⟩
noncomputable abbrev s__law_is_name : Stmt := top 29
theorem sc__law_is_name : FnScope ["_law_thing"] ["_law_thing"] (defScope s__law_is_name) := ⟨rfl, rfl, rfl, by decide +kernel, rfl, by decide +kernel, by decide +kernel⟩
noncomputable abbrev s__law_are_names : Stmt := top 30
theorem sc__law_are_names : FnScope ["_law_thing"] ["_law_thing"] (defScope s__law_are_names) := ⟨rfl, rfl, rfl, by decide +kernel, rfl, by decide +kernel, by decide +kernel⟩
noncomputable abbrev s__law_tale : Stmt := top 31
theorem sc__law_tale : FnScope ["_law_feed_here", "_law_most", "_law_names_here", "_law_sayings_here", "_law_at", "_law_one", "_law_other"] ["_law_feed_here", "_law_most"] (defScope s__law_tale) := ⟨rfl, rfl, rfl, by decide +kernel, rfl, by decide +kernel, by decide +kernel⟩
noncomputable abbrev s__law_lines : Stmt := top 32
theorem sc__law_lines : FnScope ["_law_tale_here", "_law_rows"] ["_law_tale_here"] (defScope s__law_lines) := ⟨rfl, rfl, rfl, by decide +kernel, rfl, by decide +kernel, by decide +kernel⟩
noncomputable abbrev s__law_read : Stmt := top 33
theorem sc__law_read : FnScope ["_law_lines_here", "_law_words", "_law_names_here", "_law_sayings_here", "_law_k"] ["_law_lines_here"] (defScope s__law_read) := ⟨rfl, rfl, rfl, by decide +kernel, rfl, by decide +kernel, by decide +kernel⟩
noncomputable abbrev s__law_found : Stmt := top 34
theorem sc__law_found : FnScope ["_law_lines_here", "_law_found_here", "e"] ["_law_lines_here"] (defScope s__law_found) := ⟨rfl, rfl, rfl, by decide +kernel, rfl, by decide +kernel, by decide +kernel⟩
noncomputable abbrev s__law_right : Stmt := top 35
theorem sc__law_right : FnScope ["_law_lines_here", "_law_handed"] ["_law_lines_here"] (defScope s__law_right) := ⟨rfl, rfl, rfl, by decide +kernel, rfl, by decide +kernel, by decide +kernel⟩
noncomputable abbrev s__law_bent_words : Stmt := top 36
theorem sc__law_bent_words : FnScope ["_law_feed_here", "_law_words", "_law_names_here", "_law_odd", "_law_word", "_law_at", "_law_way"] ["_law_feed_here", "_law_words", "_law_names_here"] (defScope s__law_bent_words) := ⟨rfl, rfl, rfl, by decide +kernel, rfl, by decide +kernel, by decide +kernel⟩
noncomputable abbrev s__law_bent_lines : Stmt := top 37
theorem sc__law_bent_lines : FnScope ["_law_feed_here", "_law_lines_here", "_law_names_here", "_law_at", "_law_way", "_law_row", "_law_words"] ["_law_feed_here", "_law_lines_here", "_law_names_here"] (defScope s__law_bent_lines) := ⟨rfl, rfl, rfl, by decide +kernel, rfl, by decide +kernel, by decide +kernel⟩
noncomputable abbrev s_law : Stmt := top 38
theorem sc_law : FnScope ["_law_script", "_law_feed_here", "_law_k", "_law_tale_here", "_law_lines_here", "_law_j", "_law_bent", "_law_name", "_law_many"] ["_law_script"] (defScope s_law) := ⟨rfl, rfl, rfl, by decide +kernel, rfl, by decide +kernel, by decide +kernel⟩
noncomputable abbrev s_NoText_init : Stmt := inClass (top 3) 0
theorem sc_NoText_init : FnScope ["self", "row"] ["self", "row"] (defScope s_NoText_init) := ⟨rfl, rfl, rfl, by decide +kernel, rfl, by decide +kernel, by decide +kernel⟩
structure TopF (mg : Str → Option Value) : Prop where
  g_AHEAD_WORD : ∃ u, mg "AHEAD_WORD" = some u ∧ RelV (.str "ahead") u
  g_MOST_NAMES : ∃ u, mg "MOST_NAMES" = some u ∧ RelV (.int 10) u
  g_MOST_SAYINGS : ∃ u, mg "MOST_SAYINGS" = some u ∧ RelV (.int 60) u
  g_MOST_SIGNS : ∃ u, mg "MOST_SIGNS" = some u ∧ RelV (.int 8) u
  g_NAMES_WORD : ∃ u, mg "NAMES_WORD" = some u ∧ RelV (.str "names") u
  g_SMALL_LETTERS : ∃ u, mg "SMALL_LETTERS" = some u ∧ RelV (.str "abcdefghijklmnopqrstuvwxyz") u
  b_ValueError : mg "ValueError" = none
  b_all : mg "all" = none
  b_int : mg "int" = none
  b_isinstance : mg "isinstance" = none
  b_len : mg "len" = none
  b_list : mg "list" = none
  b_min : mg "min" = none
  b_range : mg "range" = none
  b_repr : mg "repr" = none
  b_set : mg "set" = none
  b_str : mg "str" = none
  b_tuple : mg "tuple" = none
structure Xls_HalfError (K : PySem.W.Frag) (mg : Str → Option Value) (C B : Addr) : Prop where
  xc : XC K C
  gl : mg "HalfError" = some (.ref C)
  mk0 : Mkx0 K mg C "HalfError"
structure Xls_NoHalf (K : PySem.W.Frag) (mg : Str → Option Value) (C B : Addr) : Prop where
  xc : XC K C
  gl : mg "NoHalf" = some (.ref C)
  mr : xcMro K C B = true
  n_word : NoAttr K C "word"
  n_number : NoAttr K C "number"
structure Xls_NoText (K : PySem.W.Frag) (mg : Str → Option Value) (C B : Addr) : Prop where
  xc : XC K C
  gl : mg "NoText" = some (.ref C)
  mr : xcMro K C B = true
  n_row : NoAttr K C "row"
structure Xls_NoName (K : PySem.W.Frag) (mg : Str → Option Value) (C B : Addr) : Prop where
  xc : XC K C
  gl : mg "NoName" = some (.ref C)
  mr : xcMro K C B = true
  n_name : NoAttr K C "name"
section
variable {P : Program} {w : World} {K : PySem.W.Frag} {mg : Str → Option Value} {base : Heap}
local macro_rules | `(tactic| walk_at "lk") => L2.mRows "as | Same.lk e h: e=as h=lk | ExtBut.lk e h n: e=as n=ne h=lk | no"
local macro_rules | `(tactic| walk_at "ne") => L2.mRows "as | Ne.symm q: q=as | ne_of_none h g: g=as h=lk | ne_none2 h g: g=as h=lk | ne_of h g z: h=as g=as z=nc | no"
local macro_rules | `(tactic| walk_at "nc") => `(tactic| (intro z; cases z))
local macro_rules | `(tactic| walk_at "fr") => L2.mRows "ExtBut.refl | ExtBut.trans a b: b=as a=fr | ExtBut.same a b: b=as a=fr | ExtBut.off a q b: b=as q=as a=fr | no"
local macro_rules | `(tactic| walk_at "sm") => L2.mRows "same_refl | Same.trans a b: b=as a=sm | Same.off a q b: b=as q=as a=sm | no"
local macro_rules | `(tactic| walk_at "fd") => L2.mRows "as | Feed.same h e: e=as h=fd | Feed.off h e q f: e=as q=as f=as h=fd | no"
local macro_rules | `(tactic| walk_at "fz1") => L2.mRows "Same.fz b: b=as | ExtBut.fzL b l: b=as l=lk | ExtBut.fzD b l: b=as l=lk | Feed.fz f b: b=as f=fd | no"
local macro_rules | `(tactic| walk_at "fz") => L2.mRows "fz_refl | Fz.trans a x: x=fz1 a=fz | no"
local macro_rules | `(tactic| walk_at "sd") => `(tactic| first | omega | (show (0 : Int) < _; omega) | (unfold CDiv; omega) | (unfold CMul; omega) | (unfold CPow; omega) | (unfold CPow; decide) | (refine ⟨?_, ?_⟩ <;> omega) | decide)
local macro_rules | `(tactic| walk_at "sz") => `(tactic| first | decide | exact line_of (by omega) | (rw [sizeLine_eq]; omega))
local macro_rules | `(tactic| walk_at "kv") => `(tactic| rfl)
local macro_rules | `(tactic| walk_at "rq1") => do
  let a ← L2.mAlts "i_asg i_gname i_ret i_drop i_if i_op i_un i_call i_cb i_cons i_nil i_c i_put i_tTest i_tB i_not i_and i_or i_tup i_lst i_next i_sl i_noPart i_part i_int i_for i_rng1 i_rng2 i_comp i_itS i_iany i_ienum i_ienumL i_irev i_chain i_andV i_orV i_notV i_dget1 i_tAt i_sSt i_tMe i_tMk i_tTru i_dget2 i_iDT i_bmT i_rU i_rI0 i_addI i_bl i_bm i_bm0 i_reprKB i_isN i_isNotN i_isB i_isNotB i_true i_tyS i_find i_intB i_inS i_pair i_pair0 iteR iteNR iteNbb itebb iteT iteF iteNT iteNF"
  let b ← L2.mRows "i_var w _: w=kv | i_rI w _: w=sd | i_mulBI w _: w=sd | i_tyLm w _: w=lk | i_ixD w v _: w=lk v=kv | i_eqS w _: w=kv | i_neS w _: w=kv | i_slS w _: w=sz | i_addS w _: w=sz | i_lenS w _: w=sz | i_lenL w _: w=lk | i_lenT w _: w=lk | i_cutN w _: w=ar"
  let c ← L2.mAltG "i_seqAG i_seqDG i_seqPG"
  `(tactic| first | $c:tactic | $a:tactic | $b:tactic)
local macro_rules | `(tactic| walk_at "rd1") => `(tactic| first | with_reducible refine i_seqG fun N hN => ?_ | walk_at "rq1")
local macro_rules | `(tactic| walk_at "rq") => `(tactic| repeat (walk_at "rq1"))
local macro_rules | `(tactic| walk_at "rd") => `(tactic| repeat (walk_at "rd1"))
noncomputable def feedKvs (l : Addr) (a t u : Int) : List (Key × V) := [(Sum.inr "cells", .ref l), (Sum.inr "at", .int a), (Sum.inr "left", .int t), (Sum.inr "turn", .int u)]
noncomputable def Feed (H : Hp) (d l : Addr) : Prop := ∃ (a t u : Int) (ns : List Int), H d = some (.dK (feedKvs l a t u)) ∧ H l = some (.lst (ns.map V.int)) ∧ 0 < ns.length ∧ ns.length ≤ 64
noncomputable def sp__law_feed (K : PySem.W.Frag) : Sp := fun vs H Q _ => ∃ (a : Addr) (ns : List Int), vs = [.ref a] ∧ SqL K H a (ns.map V.int) ∧ ns.length ≤ 63 ∧ ∀ d l H', H d = none → H l = none → Same H H' → Feed H' d l → Q (.ref d) H'
noncomputable def sp__law_draw (K : PySem.W.Frag) : Sp := fun vs H Q _ => ∃ d l n, vs = [.ref d, .int n] ∧ Feed H d l ∧ 0 < n ∧ n < 1073741824 ∧ ∀ r H', 0 ≤ r → r < n → ExtBut d H H' → Feed H' d l → Q (.int r) H'
theorem fd_cells {l : Addr} {a t u : Int} : valV (feedKvs l a t u) (Sum.inr "cells" : Key) = some (.ref l) := by rfl
theorem fd_at {l : Addr} {a t u : Int} : valV (feedKvs l a t u) (Sum.inr "at" : Key) = some (.int a) := by rfl
theorem fd_left {l : Addr} {a t u : Int} : valV (feedKvs l a t u) (Sum.inr "left" : Key) = some (.int t) := by rfl
theorem fd_turn {l : Addr} {a t u : Int} : valV (feedKvs l a t u) (Sum.inr "turn" : Key) = some (.int u) := by rfl
local macro_rules | `(tactic| walk_at "kv") => `(tactic| first | exact fd_cells | exact fd_at | exact fd_left | exact fd_turn | rfl)
theorem put_turn {l : Addr} {a t u x : Int} : putK (feedKvs l a t u) (Sum.inr "turn" : Key) (.int x) = feedKvs l a t x := by rfl
theorem put_at {l : Addr} {a t u x : Int} : putK (feedKvs l a t u) (Sum.inr "at" : Key) (.int x) = feedKvs l x t u := by rfl
theorem put_left {l : Addr} {a t u x : Int} : putK (feedKvs l a t u) (Sum.inr "left" : Key) (.int x) = feedKvs l a x u := by rfl
theorem Feed.same {H H' : Hp} {d l : Addr} (h : Feed H d l) (e : Same H H') : Feed H' d l := let ⟨a, t, u, ns, h1, h2, h3, h4⟩ := h; ⟨a, t, u, ns, e _ _ h1, e _ _ h2, h3, h4⟩
theorem Feed.put {H H' : Hp} {d l p : Addr} (h : Feed H d l) (e : ExtBut p H H') (hd : d ≠ p) (hl : l ≠ p) : Feed H' d l := let ⟨a, t, u, ns, h1, h2, h3, h4⟩ := h; ⟨a, t, u, ns, e _ _ hd h1, e _ _ hl h2, h3, h4⟩
theorem Feed.nd {H : Hp} {d l p : Addr} (h : Feed H d l) (hp : H p = none) : d ≠ p := let ⟨_, _, _, _, h1, _⟩ := h; ne_of_none h1 hp
theorem Feed.nl {H : Hp} {d l p : Addr} (h : Feed H d l) (hp : H p = none) : l ≠ p := let ⟨_, _, _, _, _, h2, _⟩ := h; ne_of_none h2 hp
theorem Feed.lst {H : Hp} {d l b : Addr} {xs : List V} (h : Feed H d l) (hb : H b = some (.lst xs)) : b ≠ d := let ⟨_, _, _, _, h1, _⟩ := h; ne_of hb h1 (by intro z; cases z)
theorem Feed.free {H H' : Hp} {d l p : Addr} (h : Feed H' d l) (e : ExtBut d H H') (hp : H' p = none) : H p = none := by
  cases hq : H p with
  | none => rfl
  | some o =>
    obtain ⟨_, _, _, _, h1, _⟩ := h
    have n : p ≠ d := fun q => by subst q; rw [hp] at h1; cases h1
    rw [e p o n hq] at hp
    cases hp
theorem Feed.fz {H H' : Hp} {d l : Addr} (h : Feed H d l) (e : ExtBut d H H') : Fz H H' := let ⟨_, _, _, _, h1, _⟩ := h; e.fzD h1
theorem Feed.off {H H1 H2 : Hp} {d l q : Addr} (h : Feed H1 d l) (e : ExtBut q H1 H2) (hq : H q = none) (hF : Feed H d l) : Feed H2 d l := h.put e (hF.nd hq) (hF.nl hq)
theorem ok__law_draw {f : Addr} {fd : FuncData} (F : Fun K "_law_draw" "_law_draw" s__law_draw f fd) (T : TopF mg) : FnOk P w K mg base CX0 1 f fd ["_law_feed_here", "_law_many"] (sp__law_draw K) := by
  refine F.ok sc__law_draw (fun vs H Q E h => ?_) (fun cdv A outer s H vs Q E hr h => ?_)
  · obtain ⟨d, l, n, rfl, _⟩ := h
    rfl
  · obtain ⟨d, l, n, rfl, ⟨a, t, u, ns, hd, hl, h0, h64⟩, hn, hn2, k⟩ := h
    have hu := hu_of hr
    have hq := qa_of hr
    have hld : l ≠ d := ne_of hl hd (by intro z; cases z)
    with_reducible refine ⟨_, (pss_cons (ps_dput hu (pv 0) pe_str (pe_op (op_addK (K := K)) (pe_ix (ix_anyK (K := K) hu) (pv 0) pe_str (by with_unfolding_all exact fun _ _ => rfl)) pe_int) (by with_unfolding_all rfl))
      (pss_cons (ps_if (pt_cmpR (op_eqK (K := K) hq) (pe_ix (ix_anyK (K := K) hu) (pv 0) pe_str (by with_unfolding_all exact fun _ _ => rfl)) pe_int (nomark _)) (pss_cons (ps_set (i := 2) sc__law_draw.nd (by with_unfolding_all rfl) (by with_unfolding_all exact Or.inl rfl) (pe_ix (ix_anyK (K := K) hu) (pe_ix (ix_anyK (K := K) hu) (pv 0) pe_str (by with_unfolding_all exact fun _ _ => rfl)) (pe_op op_mod (pe_ix (ix_anyK (K := K) hu) (pv 0) pe_str (by with_unfolding_all exact fun _ _ => rfl)) (pe_callB (call_lenK (K := K)) (by with_unfolding_all rfl) T.b_len PyProof.Rows.Boot.«len» (pa_cons (pe_ix (ix_anyK (K := K) hu) (pv 0) pe_str (by with_unfolding_all exact fun _ _ => rfl)) pa_nil))) (by with_unfolding_all exact fun _ _ => rfl)))
      (pss_cons (ps_dput hu (pv 0) pe_str (pe_op (op_addK (K := K)) (pe_ix (ix_anyK (K := K) hu) (pv 0) pe_str (by with_unfolding_all exact fun _ _ => rfl)) pe_int) (by with_unfolding_all rfl))
      (pss_cons (ps_if (pt_cmpR op_lt (pv 2) (pe_op op_pow pe_int pe_int) (nomark _)) (pss_cons (ps_set (i := 3) sc__law_draw.nd (by with_unfolding_all rfl) (by with_unfolding_all exact Or.inl rfl) (pe_op op_mod (pe_op op_mulB (pe_op (op_addK (K := K)) (pe_op op_mod (pv 2) pe_int) (pe_op op_mulB pe_int (pe_ix (ix_anyK (K := K) hu) (pv 0) pe_str (by with_unfolding_all exact fun _ _ => rfl)))) pe_int) pe_int))
      (pss_cons (ps_set (i := 3) sc__law_draw.nd (by with_unfolding_all rfl) (by with_unfolding_all exact Or.inl rfl) (pe_op op_mod (pe_op op_mulB (pe_op (op_addK (K := K)) (pe_op op_fdivA (pv 3) pe_int) (pe_op op_mulB pe_int (pe_ix (ix_anyK (K := K) hu) (pv 0) pe_str (by with_unfolding_all exact fun _ _ => rfl)))) pe_int) pe_int))
      (pss_one (ps_ret (pe_op op_mod (pe_op op_fdivA (pv 3) pe_int) (pv 1)))))) pss_nil)
      (pss_one (ps_dput hu (pv 0) pe_str (pv 2) (by with_unfolding_all rfl)))))) pss_nil)
      (pss_cons (ps_set (i := 4) sc__law_draw.nd (by with_unfolding_all rfl) (by with_unfolding_all exact Or.inl rfl) (pe_op op_mod (pe_ix (ix_anyK (K := K) hu) (pv 0) pe_str (by with_unfolding_all exact fun _ _ => rfl)) (pv 1)))
      (pss_cons (ps_dput hu (pv 0) pe_str (pe_op op_fdivA (pe_ix (ix_anyK (K := K) hu) (pv 0) pe_str (by with_unfolding_all exact fun _ _ => rfl)) (pv 1)) (by with_unfolding_all rfl))
      (pss_one (ps_ret (pv 4))))))), ?_⟩
    walk_at "rd"
    refine i_dput hd (by show 4 < 1000; decide) fun H1 e1 hd1 => ?_
    rw [put_turn] at hd1
    have hl1 : H1 l = some (.lst (ns.map V.int)) := e1 _ _ hld hl
    walk_at "rd"
    refine ite2 (fun ht => ?_) (fun ht => ?_)
    · walk_at "rd"
      have hlen : (0 : Int) < ((ns.map V.int).length : Nat) := by rw [List.length_map]; omega
      refine i_rI hlen ?_
      have hm0 : 0 ≤ a % (((ns.map V.int).length : Nat) : Int) := Int.emod_nonneg _ (by omega)
      have hm1 := Int.emod_lt_of_pos a hlen
      obtain ⟨c, hc⟩ : ∃ c, (ns.map V.int)[(a % (((ns.map V.int).length : Nat) : Int)).toNat]? = some (V.int c) := by
        refine ⟨ns[(a % (((ns.map V.int).length : Nat) : Int)).toNat]'(by rw [List.length_map] at *; omega), ?_⟩
        rw [List.getElem?_map, List.getElem?_eq_getElem]
        rfl
      refine i_ixL hl1 (by
        have := atI_nat hc
        rwa [Int.toNat_of_nonneg hm0] at this) ?_
      walk_at "rd"
      refine i_dput hd1 (by show 4 < 1000; decide) fun H2 e2 hd2 => ?_
      rw [put_at] at hd2
      have hl2 : H2 l = some (.lst (ns.map V.int)) := e2 _ _ hld hl1
      walk_at "rd"
      refine ite2 (fun hc1 => ?_) (fun hc1 => ?_)
      · walk_at "rd"
        exact k _ H2 (Int.emod_nonneg _ (by omega)) (Int.emod_lt_of_pos _ hn) (e1.trans e2) ⟨_, _, _, ns, hd2, hl2, h0, h64⟩
      · walk_at "rd"
        refine i_dput hd2 (by show 4 < 1000; decide) fun H3 e3 hd3 => ?_
        rw [put_left] at hd3
        have hl3 : H3 l = some (.lst (ns.map V.int)) := e3 _ _ hld hl2
        walk_at "rd"
        refine i_dput hd3 (by show 4 < 1000; decide) fun H4 e4 hd4 => ?_
        rw [put_left] at hd4
        have hl4 : H4 l = some (.lst (ns.map V.int)) := e4 _ _ hld hl3
        walk_at "rd"
        exact k _ H4 (Int.emod_nonneg _ (by omega)) (Int.emod_lt_of_pos _ hn) (((e1.trans e2).trans e3).trans e4) ⟨_, _, _, ns, hd4, hl4, h0, h64⟩
    · walk_at "rd"
      refine i_dput hd1 (by show 4 < 1000; decide) fun H2 e2 hd2 => ?_
      rw [put_left] at hd2
      have hl2 : H2 l = some (.lst (ns.map V.int)) := e2 _ _ hld hl1
      walk_at "rd"
      exact k _ H2 (Int.emod_nonneg _ (by omega)) (Int.emod_lt_of_pos _ hn) (e1.trans e2) ⟨_, _, _, ns, hd2, hl2, h0, h64⟩
theorem feed_ms (ns : List Int) (h : ns.length ≤ 63) : ∃ ms : List Int, cutV (ns.map V.int) none (some 63) ++ (List.replicate (if (PyData.list (ns.map PyData.int)).eqv (PyData.list (([] : List Int).map PyData.int)) = true then (1 : Int) else 0).toNat [V.int 0]).flatten = ms.map V.int ∧ 0 < ms.length ∧ ms.length ≤ 64 := by
  have hc : cutV (ns.map V.int) none (some 63) = ns.map V.int := by
    unfold cutV
    have e : HT.sIx (ns.map V.int).length (ns.map V.int).length (some 63) = (ns.map V.int).length := by
      have := HT.sIx_nat (ns.map V.int).length (ns.map V.int).length 63
      rw [List.length_map] at *
      rw [show ((63 : Nat) : Int) = (63 : Int) from rfl] at this
      rw [this]
      omega
    rw [HT.sIx_none, e, List.drop_zero, Nat.sub_zero, List.take_length]
  rw [hc]
  cases ns with
  | nil => exact ⟨[0], by simp [PyData.eqv, PyData.eqvAll], by decide, by decide⟩
  | cons n r => exact ⟨n :: r, by simp [PyData.eqv, PyData.eqvAll], by simp, by omega⟩
theorem ok__law_feed {f : Addr} {fd : FuncData} (F : Fun K "_law_feed" "_law_feed" s__law_feed f fd) (T : TopF mg) : FnOk P w K mg base CX0 1 f fd ["_law_script"] (sp__law_feed K) := by
  refine F.ok sc__law_feed (fun vs H Q E h => ?_) (fun cdv A outer s H vs Q E hr h => ?_)
  · obtain ⟨a, ns, rfl, _⟩ := h
    rfl
  · obtain ⟨a, ns, rfl, hS, h63, k⟩ := h
    have hu := hu_of hr
    have hq := qa_of hr
    with_reducible refine ⟨_, (pss_one (ps_ret (pe_disp (pps_cons pe_str (pe_op (op_addK (K := K)) (pe_callTy (call_listK (K := K)) (by with_unfolding_all rfl) T.b_list PyProof.Rows.Boot.«list» (pa_cons (pe_slice (sl_K (K := K)) (pv 0) po_none (po_some pe_int)) pa_nil)) (pe_op op_mulB (pe_lst (pa_cons pe_int pa_nil)) (pe_callTy call_intA (by with_unfolding_all rfl) T.b_int PyProof.Rows.Boot.«int» (pa_cons (pe_cmpR (op_eqK (K := K) hq) (pv 0) (pe_lst pa_nil) (nomark _)) pa_nil)))) (pps_cons pe_str pe_int (pps_cons pe_str pe_int (pps_cons pe_str pe_int pps_nil)))) (by with_unfolding_all rfl) (by with_unfolding_all rfl) (by decide) (by decide)))), ?_⟩
    walk_at "rd"
    refine i_disp fun p H1 hp e1 hp1 => ?_
    walk_at "rd"
    have hS1 := e1.seq hS
    refine i_slL hS1 fun q H2 hq2 e2 hq2' => ?_
    walk_at "rd"
    refine i_listL (SqL.of hq2') fun r H3 hr3 e3 hr3' => ?_
    walk_at "rd"
    refine i_newL (by decide) fun z H4 hz4 e4 hz4' => ?_
    walk_at "rd"
    refine i_newL (by decide) fun y H5 hy5 e5 hy5' => ?_
    refine i_eqD (is_listI (e5.seq (e4.seq (e3.seq (e2.seq hS1))))) (is_listI (ns := []) (SqL.of hy5')) (PySem.W.ke_shaped_ints ns) (PySem.W.ke_shaped_ints []) ?_
    walk_at "rd"
    refine i_mulBL (xs := [V.int 0]) (by walk_at "lk") ?_ ?_ fun x H6 hx6 e6 hx6' => ?_
    · split <;> omega
    · split <;> decide
    refine i_addL (xs := cutV (ns.map V.int) none (some 63)) (by walk_at "lk") hx6' ?_ fun v H7 hv7 e7 hv7' => ?_
    · obtain ⟨ms, e, h1, h2⟩ := feed_ms ns h63
      rw [← List.length_append, e, List.length_map]
      exact Nat.le_trans h2 (by decide)
    walk_at "rd"
    refine i_pairs [(Sum.inr "cells", .ref v), (Sum.inr "at", .int 0), (Sum.inr "left", .int 0), (Sum.inr "turn", .int 0)] (by walk_at "lk") (by rfl) (by show 4 ≤ 15; decide) fun H8 e8 h8 => ?_
    have en : H8 p = some (.dK (feedKvs v 0 0 0)) := h8
    refine k p v H8 hp ?_ ?_ ⟨0, 0, 0, ?_⟩
    · exact e1.free (e2.free (e3.free (e4.free (e5.free (e6.free hv7)))))
    · exact fun b o hb => e8 b o (ne_of_none hb hp) (e7 _ _ (e6 _ _ (e5 _ _ (e4 _ _ (e3 _ _ (e2 _ _ (e1 _ _ hb)))))))
    · obtain ⟨ms, e, h1, h2⟩ := feed_ms ns h63
      rw [e] at hv7'
      exact ⟨ms, en, by walk_at "lk", h1, h2⟩
noncomputable def sp__law_names (K : PySem.W.Frag) : Sp := fun vs H Q _ => ∃ d l n, vs = [.ref d, .int n] ∧ Feed H d l ∧ 0 ≤ n ∧ n ≤ 10 ∧ ∀ p ns H', H p = none → ExtBut d H H' → Feed H' d l → H' p = some (.lst (ns.map V.str)) → Names ns → ns.length = n.toNat → Q (.ref p) H'
noncomputable def MN (H : Hp) (d l : Addr) (n st way sz at' : Int) : L2.St → Hp → Prop := fun σ' H' => ∃ p ns x8 x9, σ' = [some (V.ref d), some (.int n), some (.str LL), some (.int st), some (.int way), some (.int (1 + sz)), some (.int at'), some (.ref p), x8, x9, none] ∧ H p = none ∧ ExtBut d H H' ∧ Feed H' d l ∧ H' p = some (.lst (ns.map V.str)) ∧ Names ns ∧ ns.length = 10
theorem ok__law_names {f : Addr} {fd : FuncData} (F : Fun K "_law_names" "_law_names" s__law_names f fd) (T : TopF mg) (c__law_draw : Fnd P w K mg base 1 "_law_draw" ["_law_feed_here", "_law_many"] (sp__law_draw K)) : FnOk P w K mg base CX0 2 f fd ["_law_feed_here", "_law_many"] (sp__law_names K) := by
  refine F.ok sc__law_names (fun vs H Q E h => ?_) (fun cdv A outer s H vs Q E hr h => ?_)
  · obtain ⟨d, l, n, rfl, _⟩ := h
    rfl
  · obtain ⟨d, l, n, rfl, hF, hn0, hn1, k⟩ := h
    have hu := hu_of hr
    have hq := qa_of hr
    with_reducible refine ⟨_, (pss_cons (ps_set (i := 2) sc__law_names.nd (by with_unfolding_all rfl) (by with_unfolding_all exact Or.inr rfl) (pe_op op_mulB pe_str pe_int))
      (pss_cons (ps_set (i := 3) sc__law_names.nd (by with_unfolding_all rfl) (by with_unfolding_all exact Or.inr rfl) (pe_fn c__law_draw (hr.mono (by decide)) (by with_unfolding_all rfl) (pa_cons (pv 0) (pa_cons pe_int pa_nil))))
      (pss_cons (ps_set (i := 4) sc__law_names.nd (by with_unfolding_all rfl) (by with_unfolding_all exact Or.inl rfl) (pe_fn c__law_draw (hr.mono (by decide)) (by with_unfolding_all rfl) (pa_cons (pv 0) (pa_cons pe_int pa_nil))))
      (pss_cons (ps_set (i := 5) sc__law_names.nd (by with_unfolding_all rfl) (by with_unfolding_all exact Or.inl rfl) (pe_op (op_addK (K := K)) pe_int (pe_fn c__law_draw (hr.mono (by decide)) (by with_unfolding_all rfl) (pa_cons (pv 0) (pa_cons pe_int pa_nil)))))
      (pss_cons (ps_set (i := 6) sc__law_names.nd (by with_unfolding_all rfl) (by with_unfolding_all exact Or.inl rfl) (pe_fn c__law_draw (hr.mono (by decide)) (by with_unfolding_all rfl) (pa_cons (pv 0) (pa_cons (pv 5) pa_nil))))
      (pss_cons (ps_set (i := 7) sc__law_names.nd (by with_unfolding_all rfl) (by with_unfolding_all exact Or.inl rfl) (pe_lst (pa_cons pe_str (pa_cons pe_str (pa_cons pe_str (pa_cons pe_str (pa_cons pe_str (pa_cons pe_str (pa_cons pe_str (pa_cons pe_str (pa_cons pe_str (pa_cons pe_str pa_nil))))))))))))
      (pss_cons (ps_if (pt_cmpR (op_eqK (K := K) hq) (pv 4) pe_int (nomark _)) (pss_one (ps_set (i := 7) sc__law_names.nd (by with_unfolding_all rfl) (by with_unfolding_all exact Or.inl rfl) (pe_op (op_addK (K := K)) (pe_comp ["_law_k"] ["_law_letters", "_law_start"] [2, 3] (by with_unfolding_all rfl) (by with_unfolding_all rfl) (by with_unfolding_all rfl) (pi_range1 (by with_unfolding_all rfl) T.b_range (pa_cons pe_int pa_nil)) (fun _ _ _ _ => (pg_name (i := 0) (by with_unfolding_all (show (["_law_k", "_law_letters", "_law_start"] : List Str).Nodup; decide +kernel)) (by with_unfolding_all rfl) (by with_unfolding_all exact Or.inl rfl))) (gk_name (by decide)) (fun _ _ _ _ => pif_nil) (fun _ _ _ _ => (pe_slice (sl_K (K := K)) (pv 1) (po_some (pv 2)) (po_some (pe_op (op_addK (K := K)) (pe_op (op_addK (K := K)) (pv 2) pe_int) (pv 0)))))) (pe_lst (pa_cons (pe_ix (ix_anyK (K := K) hu) (pv 2) (pe_op (op_addK (K := K)) (pv 3) pe_int) (by with_unfolding_all exact fun _ _ => rfl)) (pa_cons (pe_ix (ix_anyK (K := K) hu) (pv 2) (pe_op (op_addK (K := K)) (pv 3) pe_int) (by with_unfolding_all exact fun _ _ => rfl)) pa_nil)))))) pss_nil)
      (pss_cons (ps_if (pt_cmpR (op_eqK (K := K) hq) (pv 4) pe_int (nomark _)) (pss_cons (ps_set (i := 8) sc__law_names.nd (by with_unfolding_all rfl) (by with_unfolding_all exact Or.inr rfl) (pe_slice (sl_K (K := K)) (pv 2) (po_some (pv 3)) (po_some (pe_op (op_addK (K := K)) (pv 3) (pv 6)))))
      (pss_cons (ps_set (i := 9) sc__law_names.nd (by with_unfolding_all rfl) (by with_unfolding_all exact Or.inr rfl) (pe_slice (sl_K (K := K)) (pv 2) (po_some (pe_op (op_addK (K := K)) (pe_op (op_addK (K := K)) (pv 3) (pv 6)) pe_int)) (po_some (pe_op (op_addK (K := K)) (pv 3) (pv 5)))))
      (pss_one (ps_setcomp (i := 7) ["_law_k"] ["_law_head", "_law_letters", "_law_start", "_law_tail"] [8, 2, 3, 9] (by with_unfolding_all rfl) (by with_unfolding_all rfl) (by with_unfolding_all rfl) sc__law_names.nd (by with_unfolding_all rfl) (by with_unfolding_all rfl) (pi_range1 (by with_unfolding_all rfl) T.b_range (pa_cons pe_int pa_nil)) (fun _ _ _ _ => (pg_name (i := 0) (by with_unfolding_all (show (["_law_k", "_law_head", "_law_letters", "_law_start", "_law_tail"] : List Str).Nodup; decide +kernel)) (by with_unfolding_all rfl) (by with_unfolding_all exact Or.inl rfl))) (gk_name (by decide)) (fun _ _ _ _ => pif_nil) (fun _ _ _ _ => (pe_op (op_addK (K := K)) (pe_op (op_addK (K := K)) (pv 1) (pe_ix (ix_anyK (K := K) hu) (pv 2) (pe_op (op_addK (K := K)) (pv 3) (pe_op op_mod (pe_op op_mulB pe_int (pv 0)) pe_int)) (by with_unfolding_all exact fun _ _ => rfl))) (pv 4))))))) pss_nil)
      (pss_cons (ps_if (pt_cmpR (op_eqK (K := K) hq) (pv 4) pe_int (nomark _)) (pss_one (ps_setcomp (i := 7) ["_law_k"] ["_law_letters", "_law_start"] [2, 3] (by with_unfolding_all rfl) (by with_unfolding_all rfl) (by with_unfolding_all rfl) sc__law_names.nd (by with_unfolding_all rfl) (by with_unfolding_all rfl) (pi_range1 (by with_unfolding_all rfl) T.b_range (pa_cons pe_int pa_nil)) (fun _ _ _ _ => (pg_name (i := 0) (by with_unfolding_all (show (["_law_k", "_law_letters", "_law_start"] : List Str).Nodup; decide +kernel)) (by with_unfolding_all rfl) (by with_unfolding_all exact Or.inl rfl))) (gk_name (by decide)) (fun _ _ _ _ => pif_nil) (fun _ _ _ _ => (pe_slice (sl_K (K := K)) (pv 1) (po_some (pe_op (op_addK (K := K)) (pv 2) (pv 0))) (po_some (pe_op (op_addK (K := K)) (pe_op (op_addK (K := K)) (pe_op (op_addK (K := K)) (pv 2) (pv 0)) pe_int) (pe_op op_mod (pe_op op_mulB pe_int (pv 0)) pe_int))))))) pss_nil)
      (pss_cons (ps_set (i := 10) sc__law_names.nd (by with_unfolding_all rfl) (by with_unfolding_all exact Or.inl rfl) (pe_fn c__law_draw (hr.mono (by decide)) (by with_unfolding_all rfl) (pa_cons (pv 0) (pa_cons pe_int pa_nil))))
      (pss_cons (ps_set (i := 7) sc__law_names.nd (by with_unfolding_all rfl) (by with_unfolding_all exact Or.inl rfl) (pe_op (op_addK (K := K)) (pe_slice (sl_K (K := K)) (pv 7) (po_some (pv 10)) po_none) (pe_slice (sl_K (K := K)) (pv 7) po_none (po_some (pv 10)))))
      (pss_one (ps_ret (pe_sliceStep (pe_slice (sl_K (K := K)) (pv 7) po_none (po_some (pv 1))) (pe_ix (ix_anyK (K := K) hu) (pe_lst (pa_cons pe_int (pa_cons (pe_un un_neg pe_int) pa_nil))) (pe_fn c__law_draw (hr.mono (by decide)) (by with_unfolding_all rfl) (pa_cons (pv 0) (pa_cons pe_int pa_nil))) (by with_unfolding_all exact fun _ _ => rfl)))))))))))))))), ?_⟩
    walk_at "rd"
    refine i_mulBS (by decide) ?_
    rw [LL_rep]
    walk_at "rd"
    refine ⟨d, l, _, rfl, hF, by omega, by omega, fun st H1 hs0 hs1 e1 hF1 => ?_⟩
    walk_at "rd"
    refine ⟨d, l, _, rfl, hF1, by omega, by omega, fun way H2 hw0 hw1 e2 hF2 => ?_⟩
    walk_at "rd"
    refine ⟨d, l, _, rfl, hF2, by omega, by omega, fun sz H3 hz0 hz1 e3 hF3 => ?_⟩
    walk_at "rd"
    refine ⟨d, l, _, rfl, hF3, by omega, by omega, fun at' H4 ha0 ha1 e4 hF4 => ?_⟩
    walk_at "rd"
    refine i_newL (by decide) fun p5 H5 hp5 e5 h5 => ?_
    walk_at "rq"
    have fr4 : ExtBut d H H4 := by walk_at "fr"
    have hF5 : Feed H5 d l := by walk_at "fd"
    with_reducible refine i_cut (MN H d l n st way sz at') (fun N hN => ?_) (fun σ1 H6 hM => ?_)
    · walk_at "rq"
      refine iteD (fun hw => ?_) (fun hw => ?_)
      · walk_at "rq"
        refine i_rngv (by omega) ?_
        refine comp_map walk_range (fI fun k => .str (Txt.slice LL (some st) (some (st + 1 + k)))) (by simp) (fun _ _ => trivial) (fun i x H6 R hx e6 hR => ?_) (fun p6 H6 hp6 e6 h6 => ?_)
        · obtain ⟨rfl, hi⟩ := rng_get hx
          walk_at "rq"
          exact hR
        · rw [map_rng (G := fun k => txt (cutN st.toNat (st.toNat + 1 + k))) (fun k hk => by
            have e := LL_cut (i := st) (j := st + 1 + (0 + (k : Int))) hs0 (by omega) (by have : ((8 : Int)).toNat = 8 := rfl; omega)
            have e2 : (st + 1 + (0 + (k : Int))).toNat = st.toNat + 1 + k := by omega
            rw [e2] at e
            rw [e])] at h6
          obtain ⟨c9, hc9, e9⟩ := LL_at (i := st + 9) (by omega) (by omega)
          obtain ⟨c10, hc10, e10⟩ := LL_at (i := st + 10) (by omega) (by omega)
          walk_at "rq"
          refine i_ixS LL_line hc9 ?_
          walk_at "rq"
          refine i_ixS LL_line hc10 ?_
          walk_at "rq"
          refine i_newL (line_of (by simp)) fun p7 H7 hp7 e7 h7 => ?_
          refine i_addL (by walk_at "lk") h7 (by simp [sizeLine_eq]) fun p8 H8 hp8 e8 h8 => ?_
          walk_at "rq"
          have f5 : ExtBut d H H5 := by walk_at "fr"
          refine hN _ _ ⟨p8, (nm0 st.toNat).map txt, none, none, rfl, Feed.free (l := l) (H' := H7) (by walk_at "fd") (by walk_at "fr") hp8, by walk_at "fr", by walk_at "fd", ?_, ok_nm0 (by omega), by simp [nm0]⟩
          rw [h8, e9, e10]
          have q9 : (st + 9).toNat = st.toNat + 9 := by omega
          have q10 : (st + 10).toNat = st.toNat + 10 := by omega
          rw [q9, q10]
          simp [nm0, Function.comp_def]
      · walk_at "rq"
        refine hN _ _ ⟨p5, nm3, none, none, rfl, hF4.free fr4 hp5, by walk_at "fr", hF5, h5, ok_nm3, rfl⟩
    · obtain ⟨p, ns, x8, x9, rfl, hp, e6, hF6, h6, hN6, hl6⟩ := hM
      with_reducible refine i_cut (MN H d l n st way sz at') (fun N hN => ?_) (fun σ1 H7 hM => ?_)
      · walk_at "rq"
        refine iteD (fun hw => ?_) (fun hw => ?_)
        · walk_at "rq"
          refine i_rngv (by omega) ?_
          have c1 := LL_cut (i := st) (j := st + at') hs0 (by omega) (by omega)
          have c2 := LL_cut (i := st + at' + 1) (j := st + (1 + sz)) (by omega) (by omega) (by omega)
          rw [c1, c2]
          refine comp_map walk_range (fI fun k => .str (txt (cutN st.toNat (st + at').toNat) ++ txt (sgnN (st + 5 * k % 26).toNat) ++ txt (cutN (st + at' + 1).toNat (st + (1 + sz)).toNat))) (by simp) (fun _ _ => trivial) (fun i x H8 R hx e8 hR => ?_) (fun p8 H8 hp8 e8 h8 => ?_)
          · obtain ⟨rfl, hi⟩ := rng_get hx
            have hm0 := Int.emod_nonneg (5 * (0 + (i : Int))) (show (26 : Int) ≠ 0 by decide)
            have hm1 := Int.emod_lt_of_pos (5 * (0 + (i : Int))) (show (0 : Int) < 26 by decide)
            obtain ⟨c, hc, ec⟩ := LL_at (i := st + 5 * (0 + (i : Int)) % 26) (by omega) (by omega)
            walk_at "rq"
            refine i_ixS LL_line hc ?_
            rw [ec]
            have l1 : (txt (cutN st.toNat (st + at').toNat)).length ≤ 52 := by show (cutN _ _).toArray.size ≤ _; unfold cutN; simp [LLn_len]; omega
            have l2 : (txt (cutN (st + at' + 1).toNat (st + (1 + sz)).toNat)).length ≤ 52 := by show (cutN _ _).toArray.size ≤ _; unfold cutN; simp [LLn_len]; omega
            have l3 : (txt (sgnN (st + 5 * (0 + (i : Int)) % 26).toNat)).length ≤ 52 := by show (sgnN _).toArray.size ≤ _; unfold sgnN; simp [LLn_len]; omega
            refine i_addS (line_of (by omega)) ?_
            have l4 : (txt (cutN st.toNat (st + at').toNat) ++ txt (sgnN (st + 5 * (0 + (i : Int)) % 26).toNat)).length ≤ 104 := by rw [Str.length_append]; omega
            walk_at "rq"
            exact hR
          · rw [map_rng (G := fun k => txt (cutN st.toNat (st.toNat + at'.toNat) ++ sgnN (st.toNat + 5 * k % 26) ++ cutN (st.toNat + at'.toNat + 1) (st.toNat + (1 + sz).toNat))) (fun k hk => by
              have q1 : (st + at').toNat = st.toNat + at'.toNat := by omega
              have q2 : (st + 5 * (0 + (k : Int)) % 26).toNat = st.toNat + 5 * k % 26 := by omega
              have q3 : (st + at' + 1).toNat = st.toNat + at'.toNat + 1 := by omega
              have q4 : (st + (1 + sz)).toNat = st.toNat + (1 + sz).toNat := by omega
              rw [q1, q2, q3, q4, txt_app, txt_app])] at h8
            walk_at "rq"
            refine hN _ _ ⟨p8, (nm1 st.toNat (1 + sz).toNat at'.toNat).map txt, _, _, rfl, hF6.free e6 hp8, by walk_at "fr", by walk_at "fd", ?_, ok_nm1 (by omega) (by omega) (by omega), by simp [nm1]⟩
            rw [h8]
            simp [nm1, Function.comp_def]
        · walk_at "rq"
          exact hN _ _ ⟨p, ns, x8, x9, rfl, hp, e6, hF6, h6, hN6, hl6⟩
      · obtain ⟨p', ns', x8', x9', rfl, hp', e7, hF7, h7, hN7, hl7⟩ := hM
        with_reducible refine i_cut (MN H d l n st way sz at') (fun N hN => ?_) (fun σ1 H8 hM => ?_)
        · walk_at "rq"
          refine iteD (fun hw => ?_) (fun hw => ?_)
          · walk_at "rq"
            refine i_rngv (by omega) ?_
            refine comp_map walk_range (fI fun k => .str (Txt.slice LL (some (st + k)) (some (st + k + 1 + 3 * k % 8)))) (by simp) (fun _ _ => trivial) (fun i x H8 R hx e8 hR => ?_) (fun p8 H8 hp8 e8 h8 => ?_)
            · obtain ⟨rfl, hi⟩ := rng_get hx
              walk_at "rq"
              exact hR
            · rw [map_rng (G := fun k => txt (cutN (st.toNat + k) (st.toNat + k + 1 + 3 * k % 8))) (fun k hk => by
                have h10 : ((10 : Int)).toNat = 10 := rfl
                have e := LL_cut (i := st + (0 + (k : Int))) (j := st + (0 + (k : Int)) + 1 + 3 * (0 + (k : Int)) % 8) (by omega) (by omega) (by omega)
                have q1 : (st + (0 + (k : Int))).toNat = st.toNat + k := by omega
                have q2 : (st + (0 + (k : Int)) + 1 + 3 * (0 + (k : Int)) % 8).toNat = st.toNat + k + 1 + 3 * k % 8 := by omega
                rw [q1, q2] at e
                rw [e])] at h8
              walk_at "rq"
              refine hN _ _ ⟨p8, (nm2 st.toNat).map txt, _, _, rfl, hF7.free e7 hp8, by walk_at "fr", by walk_at "fd", ?_, ok_nm2 (by omega), by simp [nm2]⟩
              rw [h8]
              simp [nm2, Function.comp_def]
          · walk_at "rq"
            exact hN _ _ ⟨p', ns', x8', x9', rfl, hp', e7, hF7, h7, hN7, hl7⟩
        · obtain ⟨p2, ms, y8, y9, rfl, hp2, e8, hF8, h8, hN8, hl8⟩ := hM
          walk_at "rd"
          refine ⟨d, l, _, rfl, hF8, by omega, by omega, fun tn H9 ht0 ht1 e9 hF9 => ?_⟩
          have nd2 : p2 ≠ d := hF8.lst h8
          walk_at "rd"
          have h9 : H9 p2 = some (.lst (ms.map V.str)) := e9 _ _ nd2 h8
          refine i_slL (SqL.of h9) fun q1 H10 hq1 e10 h10 => ?_
          walk_at "rd"
          refine i_slL (SqL.of (show H10 p2 = some (.lst (ms.map V.str)) by walk_at "lk")) fun q2 H11 hq2 e11 h11 => ?_
          walk_at "rd"
          rw [cut_from ht0 (by rw [List.length_map]; omega)] at h10
          rw [cut_upto ht0] at h11
          refine i_addL (by walk_at "lk") h11 (line_of (by simp; omega)) fun q3 H12 hq3 e12 h12 => ?_
          walk_at "rd"
          rw [← List.map_drop, ← List.map_take, ← List.map_append] at h12
          refine i_slL (SqL.of h12) fun q4 H13 hq4 e13 h13 => ?_
          walk_at "rd"
          rw [cut_upto hn0, ← List.map_take] at h13
          refine i_newL (by decide) fun q5 H14 hq5 e14 h14 => ?_
          walk_at "rd"
          refine ⟨d, l, 2, rfl, by walk_at "fd", by omega, by omega, fun r H15 hr0 hr1 e15 hF15 => ?_⟩
          have hq5d : q5 ≠ d := Ne.symm (Feed.nd (H := H13) (l := l) (by walk_at "fd") hq5)
          have hq4d : q4 ≠ d := Ne.symm (Feed.nd (H := H12) (l := l) (by walk_at "fd") hq4)
          have h15 : H15 q4 = some (.lst (((ms.drop tn.toNat ++ ms.take tn.toNat).take n.toNat).map V.str)) := e15 _ _ hq4d (by walk_at "lk")
          have g15 : H15 q5 = some (.lst [V.int 1, V.int (-1)]) := e15 _ _ hq5d h14
          have hstep : ∃ k, atI [V.int 1, V.int (-1)] r = some (V.int k) ∧ (k = 1 ∨ k = -1) := by
            rcases (by omega : r = 0 ∨ r = 1) with rfl | rfl
            · exact ⟨1, rfl, .inl rfl⟩
            · exact ⟨-1, rfl, .inr rfl⟩
          obtain ⟨kk, hk1, hk2⟩ := hstep
          refine i_ixL g15 hk1 ?_
          refine i_step (SqL.of h15) hk2 fun q6 H16 hq6 e16 h16 => ?_
          obtain ⟨os, eo, ho1, ho2⟩ := step_names (k := kk) (hN8.turn tn.toNat n.toNat)
          rw [eo] at h16
          have fr15 : ExtBut d H H15 := by walk_at "fr"
          refine k q6 os H16 (hF15.free fr15 hq6) (by walk_at "fr") (by walk_at "fd") h16 ho1 ?_
          rw [ho2, List.length_take, List.length_append, List.length_drop, List.length_take]
          omega
noncomputable def sp__law_shuffled (K : PySem.W.Frag) : Sp := fun vs H Q _ => ∃ d l a xs, vs = [.ref d, .ref a] ∧ Feed H d l ∧ (SqL K H a xs ∨ SqT K H a xs) ∧ xs.length ≤ 1000 ∧ ∀ p ys H', H p = none → ExtBut d H H' → Feed H' d l → H' p = some (.lst ys) → ys.Perm xs → Q (.ref p) H'
theorem ok__law_shuffled {f : Addr} {fd : FuncData} (F : Fun K "_law_shuffled" "_law_shuffled" s__law_shuffled f fd) (T : TopF mg) (c__law_draw : Fnd P w K mg base 1 "_law_draw" ["_law_feed_here", "_law_many"] (sp__law_draw K)) : FnOk P w K mg base CX0 2 f fd ["_law_feed_here", "_law_some"] (sp__law_shuffled K) := by
  refine F.ok sc__law_shuffled (fun vs H Q E h => ?_) (fun cdv A outer s H vs Q E hr h => ?_)
  · obtain ⟨d, l, a, xs, rfl, _⟩ := h
    rfl
  · obtain ⟨d, l, a, xs, rfl, hF, hS, hx, k⟩ := h
    have hu := hu_of hr
    have hq := qa_of hr
    with_reducible refine ⟨_, (pss_cons (ps_set (i := 2) sc__law_shuffled.nd (by with_unfolding_all rfl) (by with_unfolding_all exact Or.inl rfl) (pe_callTy (call_listK (K := K)) (by with_unfolding_all rfl) T.b_list PyProof.Rows.Boot.«list» (pa_cons (pv 1) pa_nil)))
      (pss_cons (ps_set (i := 3) sc__law_shuffled.nd (by with_unfolding_all rfl) (by with_unfolding_all exact Or.inl rfl) (pe_lst pa_nil))
      (pss_cons (ps_for PassesOwn.never (by with_unfolding_all rfl) (pi_range1 (by with_unfolding_all rfl) T.b_range (pa_cons (pe_callB (call_lenK (K := K)) (by with_unfolding_all rfl) T.b_len PyProof.Rows.Boot.«len» (pa_cons (pv 2) pa_nil)) pa_nil)) (pg_name (i := 4) sc__law_shuffled.nd (by with_unfolding_all rfl) (by with_unfolding_all exact Or.inl rfl))
      (pss_one (ps_expr (pe_bmK (K := K) PySem.F.plainAttrs_list PySem.F.slot_list_append PySem.F.type_list_append (mm mt_append) (pv 3) (pa_cons (pe_bmK (K := K) PySem.F.plainAttrs_list PySem.F.slot_list_pop PySem.F.type_list_pop (mm mt_popAt) (pv 2) (pa_cons (pe_fn c__law_draw (hr.mono (by decide)) (by with_unfolding_all rfl) (pa_cons (pv 0) (pa_cons (pe_callB (call_lenK (K := K)) (by with_unfolding_all rfl) T.b_len PyProof.Rows.Boot.«len» (pa_cons (pv 2) pa_nil)) pa_nil))) pa_nil)) pa_nil)))))
      (pss_one (ps_ret (pv 3)))))), ?_⟩
    walk_at "rd"
    refine i_listA hS fun q H1 hq1 e1 h1 => ?_
    walk_at "rd"
    refine i_newL (by decide) fun p H2 hp2 e2 h2 => ?_
    walk_at "rd"
    refine i_rngv (by omega) ?_
    have hp0 : H p = none := e1.free hp2
    have hpq : p ≠ q := fun z => by subst z; rw [h1] at hp2; cases hp2
    refine for_by walk_range (fun i σ H3 => ∃ us vs x4, σ = [some (.ref d), some (.ref a), some (.ref q), some (.ref p), x4] ∧ ExtBut d H H3 ∧ Feed H3 d l ∧ H3 q = some (.lst us) ∧ H3 p = some (.lst vs) ∧ (vs ++ us).Perm xs ∧ us.length + i = xs.length ∧ vs.length = i)
      ⟨xs, [], none, rfl, by walk_at "fr", by walk_at "fd", by walk_at "lk", h2, by simp, rfl, rfl⟩ (fun _ _ _ _ => trivial) (fun i x σ H3 hx3 hi hP => ?_) (fun σ H3 hP => ?_)
    · obtain ⟨us, vs, x4, rfl, e3, hF3, h3q, h3p, hperm, hlen, hvl⟩ := hP
      obtain ⟨rfl, hi2⟩ := rng_get hx3
      have hi3 : i < xs.length := by simpa using hi2
      walk_at "rd"
      refine ⟨d, l, _, rfl, hF3, by omega, by omega, fun r H4 hr0 hr1 e4 hF4 => ?_⟩
      have h4q : H4 q = some (.lst us) := e4 _ _ (hF3.lst h3q) h3q
      have h4p : H4 p = some (.lst vs) := e4 _ _ (hF3.lst h3p) h3p
      have hr2 : r.toNat < us.length := by omega
      walk_at "rd"
      refine i_popAtR h4q hr0 (List.getElem?_eq_getElem hr2) (fun H5 e5 h5q => ?_) (by omega)
      have h5p : H5 p = some (.lst vs) := e5 _ _ hpq h4p
      walk_at "rd"
      refine i_appR h5p (by omega) fun H6 e6 h6p => ?_
      walk_at "rd"
      refine ⟨us.eraseIdx r.toNat, vs ++ [us[r.toNat]], _, rfl, by walk_at "fr", (hF4.put e5 (hF.nd hq1) (hF.nl hq1)).put e6 (hF.nd hp0) (hF.nl hp0), e6 _ _ (Ne.symm hpq) h5q, h6p, ?_, ?_, by simp [hvl]⟩
      · exact (perm_pop (List.getElem?_eq_getElem hr2) vs).trans hperm
      · rw [List.length_eraseIdx, if_pos hr2]
        omega
    · obtain ⟨us, vs, x4, rfl, e3, hF3, h3q, h3p, hperm, hlen, hvl⟩ := hP
      walk_at "rd"
      have hu0 : us = [] := by
        rw [List.length_map, List.length_range] at hlen
        exact List.length_eq_zero_iff.mp (by omega)
      subst hu0
      rw [List.append_nil] at hperm
      exact k p vs H3 hp0 e3 hF3 h3p hperm
noncomputable def sp__law_pairs (K : PySem.W.Frag) : Sp := fun vs H Q _ => ∃ d l a ls, vs = [.ref d, .ref a] ∧ Feed H d l ∧ H a = some (.lst (ls.map V.str)) ∧ ls.length ≤ 10 ∧ ∀ p xs ps H', H p = none → ExtBut d H H' → Feed H' d l → H' p = some (.lst xs) → IsL K H' (ps.map prD) xs → Up ls ps → ps.length ≤ 100 → Q (.ref p) H'
noncomputable def MP (K : PySem.W.Frag) (H : Hp) (d l a : Addr) (ls : List Str) (way : Int) (E : Prop) : L2.St → Hp → Prop := fun σ' H' => ∃ p xs ps x5 x6 x7 x8, σ' = [some (V.ref d), some (.ref a), some (.int (ls.length : Nat)), some (.int way), some (.ref p), x5, x6, x7, x8] ∧ H p = none ∧ ExtBut d H H' ∧ Feed H' d l ∧ H' p = some (.lst xs) ∧ IsL K H' (ps.map prD) xs ∧ Up ls ps ∧ ps.length ≤ 100 ∧ (E → ps = [])
theorem len_prs {K : PySem.W.Frag} {H : Hp} {ps : List (Str × Str)} {xs : List V} (h : IsL K H (ps.map prD) xs) : xs.length = ps.length := by rw [← IsL.length h, List.length_map]
theorem ok__law_pairs {f : Addr} {fd : FuncData} (F : Fun K "_law_pairs" "_law_pairs" s__law_pairs f fd) (T : TopF mg) (c__law_draw : Fnd P w K mg base 1 "_law_draw" ["_law_feed_here", "_law_many"] (sp__law_draw K)) : FnOk P w K mg base CX0 2 f fd ["_law_feed_here", "_law_line"] (sp__law_pairs K) := by
  refine F.ok sc__law_pairs (fun vs H Q E h => ?_) (fun cdv A outer s H vs Q E hr h => ?_)
  · obtain ⟨d, l, a, xs, rfl, _⟩ := h
    rfl
  · obtain ⟨d, l, a, ls, rfl, hF, hA, hl, k⟩ := h
    have hu := hu_of hr
    have hq := qa_of hr
    with_reducible refine ⟨_, (pss_cons (ps_set (i := 2) sc__law_pairs.nd (by with_unfolding_all rfl) (by with_unfolding_all exact Or.inl rfl) (pe_callB (call_lenK (K := K)) (by with_unfolding_all rfl) T.b_len PyProof.Rows.Boot.«len» (pa_cons (pv 1) pa_nil)))
      (pss_cons (ps_set (i := 3) sc__law_pairs.nd (by with_unfolding_all rfl) (by with_unfolding_all exact Or.inl rfl) (pe_fn c__law_draw (hr.mono (by decide)) (by with_unfolding_all rfl) (pa_cons (pv 0) (pa_cons pe_int pa_nil))))
      (pss_cons (ps_set (i := 4) sc__law_pairs.nd (by with_unfolding_all rfl) (by with_unfolding_all exact Or.inl rfl) (pe_lst pa_nil))
      (pss_cons (ps_if (PW.pt (pw_and (pt_cmpR op_lt (pv 3) pe_int (nomark _)) (pw_and1 (pt_cmpR op_gt (pv 2) pe_int (nomark _))))) (pss_one (ps_for PassesOwn.never (by with_unfolding_all rfl) (pi_range1 (by with_unfolding_all rfl) T.b_range (pa_cons (pe_ix (ix_anyK (K := K) hu) (pe_lst (pa_cons (pe_op op_fdivA (pv 2) pe_int) (pa_cons (pv 2) (pa_cons (pe_op op_mulB pe_int (pv 2)) pa_nil)))) (pv 3) (by with_unfolding_all exact fun _ _ => rfl)) pa_nil)) (pg_name (i := 5) sc__law_pairs.nd (by with_unfolding_all rfl) (by with_unfolding_all exact Or.inl rfl))
      (pss_cons (ps_set (i := 6) sc__law_pairs.nd (by with_unfolding_all rfl) (by with_unfolding_all exact Or.inl rfl) (pe_fn c__law_draw (hr.mono (by decide)) (by with_unfolding_all rfl) (pa_cons (pv 0) (pa_cons (pe_op op_sub (pv 2) pe_int) pa_nil))))
      (pss_one (ps_expr (pe_bmK (K := K) PySem.F.plainAttrs_list PySem.F.slot_list_append PySem.F.type_list_append (mm mt_append) (pv 4) (pa_cons (pe_tup (pa_cons (pe_ix (ix_anyK (K := K) hu) (pv 1) (pv 6) (by with_unfolding_all exact fun _ _ => rfl)) (pa_cons (pe_ix (ix_anyK (K := K) hu) (pv 1) (pe_op (op_addK (K := K)) (pe_op (op_addK (K := K)) (pv 6) pe_int) (pe_fn c__law_draw (hr.mono (by decide)) (by with_unfolding_all rfl) (pa_cons (pv 0) (pa_cons (pe_op op_sub (pe_op op_sub (pv 2) pe_int) (pv 6)) pa_nil)))) (by with_unfolding_all exact fun _ _ => rfl)) pa_nil))) pa_nil))))))) pss_nil)
      (pss_cons (ps_if (pt_cmpR (op_eqK (K := K) hq) (pv 3) pe_int (nomark _)) (pss_cons (ps_set (i := 7) sc__law_pairs.nd (by with_unfolding_all rfl) (by with_unfolding_all exact Or.inr rfl) (pe_fn c__law_draw (hr.mono (by decide)) (by with_unfolding_all rfl) (pa_cons (pv 0) (pa_cons (pe_op (op_addK (K := K)) (pv 2) pe_int) pa_nil))))
      (pss_one (ps_setcomp (i := 4) ["_law_k"] ["_law_line", "_law_cut"] [1, 7] (by with_unfolding_all rfl) (by with_unfolding_all rfl) (by with_unfolding_all rfl) sc__law_pairs.nd (by with_unfolding_all rfl) (by with_unfolding_all rfl) (pi_range1 (by with_unfolding_all rfl) T.b_range (pa_cons (pe_op op_sub (pv 2) pe_int) pa_nil)) (fun _ _ _ _ => (pg_name (i := 0) (by with_unfolding_all (show (["_law_k", "_law_line", "_law_cut"] : List Str).Nodup; decide +kernel)) (by with_unfolding_all rfl) (by with_unfolding_all exact Or.inl rfl))) (gk_name (by decide)) (fun _ _ _ _ => (pif_one (pt_cmpR (op_neK (K := K) hq) (pe_op (op_addK (K := K)) (pv 0) pe_int) (pv 2) (nomark _)))) (fun _ _ _ _ => (pe_tup (pa_cons (pe_ix (ix_anyK (K := K) hu) (pv 1) (pv 0) (by with_unfolding_all exact fun _ _ => rfl)) (pa_cons (pe_ix (ix_anyK (K := K) hu) (pv 1) (pe_op (op_addK (K := K)) (pv 0) pe_int) (by with_unfolding_all exact fun _ _ => rfl)) pa_nil))))))) pss_nil)
      (pss_cons (ps_if (pt_cmpR (op_eqK (K := K) hq) (pv 3) pe_int (nomark _)) (pss_one (ps_setcomp (i := 4) ["_law_k"] ["_law_line", "_law_feed_here"] [1, 0] (by with_unfolding_all rfl) (by with_unfolding_all rfl) (by with_unfolding_all rfl) sc__law_pairs.nd (by with_unfolding_all rfl) (by with_unfolding_all rfl) (pi_range2 (by with_unfolding_all rfl) T.b_range (pa_cons pe_int (pa_cons (pv 2) pa_nil))) (fun _ _ _ _ => (pg_name (i := 0) (by with_unfolding_all (show (["_law_k", "_law_line", "_law_feed_here"] : List Str).Nodup; decide +kernel)) (by with_unfolding_all rfl) (by with_unfolding_all exact Or.inl rfl))) (gk_name (by decide)) (fun _ _ _ _ => (pif_one (pt_cmpR op_gt (pe_fn c__law_draw (hr.mono (by decide)) (by with_unfolding_all rfl) (pa_cons (pv 2) (pa_cons pe_int pa_nil))) pe_int (nomark _)))) (fun _ _ _ _ => (pe_tup (pa_cons (pe_ix (ix_anyK (K := K) hu) (pv 1) (pe_fn c__law_draw (hr.mono (by decide)) (by with_unfolding_all rfl) (pa_cons (pv 2) (pa_cons (pv 0) pa_nil))) (by with_unfolding_all exact fun _ _ => rfl)) (pa_cons (pe_ix (ix_anyK (K := K) hu) (pv 1) (pv 0) (by with_unfolding_all exact fun _ _ => rfl)) pa_nil)))))) pss_nil)
      (pss_cons (ps_if (pt_cmpR (op_eqK (K := K) hq) (pv 3) pe_int (nomark _)) (pss_cons (ps_set (i := 7) sc__law_pairs.nd (by with_unfolding_all rfl) (by with_unfolding_all exact Or.inr rfl) (pe_fn c__law_draw (hr.mono (by decide)) (by with_unfolding_all rfl) (pa_cons (pv 0) (pa_cons (pe_op (op_addK (K := K)) (pv 2) pe_int) pa_nil))))
      (pss_one (ps_for PassesOwn.never (by with_unfolding_all rfl) (pi_anyK (K := K) hu (pe_slice (sl_K (K := K)) (pv 1) po_none (po_some (pv 7)))) (pg_name (i := 8) sc__law_pairs.nd (by with_unfolding_all rfl) (by with_unfolding_all exact Or.inr rfl))
      (pss_one (ps_expr (pe_bmK (K := K) PySem.F.plainAttrs_list PySem.F.slot_list_extend PySem.F.type_list_extend (mm mt_extend) (pv 4) (pa_cons (pe_comp ["_law_other"] ["_law_one"] [8] (by with_unfolding_all rfl) (by with_unfolding_all rfl) (by with_unfolding_all rfl) (pi_anyK (K := K) hu (pe_slice (sl_K (K := K)) (pv 1) (po_some (pv 7)) po_none)) (fun _ _ _ _ => (pg_name (i := 0) (by with_unfolding_all (show (["_law_other", "_law_one"] : List Str).Nodup; decide +kernel)) (by with_unfolding_all rfl) (by with_unfolding_all exact Or.inl rfl))) (gk_name (by decide)) (fun _ _ _ _ => pif_nil) (fun _ _ _ _ => (pe_tup (pa_cons (pv 1) (pa_cons (pv 0) pa_nil))))) pa_nil))))))) pss_nil)
      (pss_one (ps_ret (pv 4)))))))))), ?_⟩
    walk_at "rd"
    rw [List.length_map]
    refine ⟨d, l, _, rfl, hF, by omega, by omega, fun way H1 hw0 hw1 e1 hF1 => ?_⟩
    have had : a ≠ d := hF.lst hA
    walk_at "rd"
    refine i_newL (by decide) fun p H2 hp2 e2 h2 => ?_
    walk_at "rq"
    have hp0 : H p = none := hF1.free e1 hp2
    have hF2 : Feed H2 d l := by walk_at "fd"
    have hA2 : H2 a = some (.lst (ls.map V.str)) := by walk_at "lk"
    with_reducible refine i_cut (MP K H d l a ls way (way = 5)) (fun N hN => ?_) (fun σ1 H3 hM => ?_)
    · walk_at "rq"
      have done0 : N [some (V.ref d), some (.ref a), some (.int (ls.length : Nat)), some (.int way), some (.ref p), none, none, none, none] H2 := hN _ _ ⟨p, [], [], none, none, none, none, rfl, hp0, by walk_at "fr", hF2, h2, .nil, .nil, by decide, fun _ => rfl⟩
      refine iteD (fun hw => ?_) (fun hw => ?_)
      · walk_at "rq"
        refine iteD (fun hm => ?_) (fun hm => ?_)
        · walk_at "rq"
          refine i_newL (line_of (by simp)) fun q H3 hq3 e3 h3 => ?_
          have hm3 : ∃ m, atI [V.int ((ls.length : Nat) / 2), V.int (ls.length : Nat), V.int (3 * (ls.length : Nat))] way = some (V.int m) ∧ 0 ≤ m ∧ m ≤ 30 := by
            rcases (by omega : way = 0 ∨ way = 1 ∨ way = 2) with rfl | rfl | rfl
            · exact ⟨_, rfl, by omega, by omega⟩
            · exact ⟨_, rfl, by omega, by omega⟩
            · exact ⟨_, rfl, by omega, by omega⟩
          obtain ⟨m, hm1, hm2, hm3⟩ := hm3
          walk_at "rq"
          refine i_ixL h3 hm1 ?_
          walk_at "rq"
          refine i_rngv (by omega) ?_
          refine for_by walk_range (fun i σ H4 => ∃ xs ps x5 x6, σ = [some (V.ref d), some (.ref a), some (.int (ls.length : Nat)), some (.int way), some (.ref p), x5, x6, none, none] ∧ ExtBut d H H4 ∧ Feed H4 d l ∧ H4 p = some (.lst xs) ∧ IsL K H4 (ps.map prD) xs ∧ Up ls ps ∧ ps.length = i)
            ⟨[], [], none, none, rfl, by walk_at "fr", by walk_at "fd", by walk_at "lk", .nil, .nil, rfl⟩ (fun _ _ _ _ => trivial) (fun i x σ H4 hx4 hi hP => ?_) (fun σ H4 hP => ?_)
          · obtain ⟨xs, ps, x5, x6, rfl, e4, hF4, h4, hI4, hU, hpl⟩ := hP
            obtain ⟨rfl, hi2⟩ := rng_get hx4
            have hA4 : H4 a = some (.lst (ls.map V.str)) := e4 _ _ had hA
            walk_at "rd"
            refine ⟨d, l, _, rfl, hF4, by omega, by omega, fun u H5 hu0 hu1 e5 hF5 => ?_⟩
            obtain ⟨z1, hz1, hz1', _⟩ := str_at? (ls := ls) (i := u) hu0 (by omega)
            have hA5 : H5 a = some (.lst (ls.map V.str)) := e5 _ _ had hA4
            have h5 : H5 p = some (.lst xs) := e5 _ _ (hF4.lst h4) h4
            walk_at "rd"
            refine i_ixL hA5 hz1' ?_
            walk_at "rd"
            refine ⟨d, l, _, rfl, hF5, by omega, by omega, fun u2 H6 hv0 hv1 e6 hF6 => ?_⟩
            obtain ⟨z2, hz2, hz2', _⟩ := str_at? (ls := ls) (i := u + 1 + u2) (by omega) (by omega)
            have hA6 : H6 a = some (.lst (ls.map V.str)) := e6 _ _ had hA5
            have h6 : H6 p = some (.lst xs) := e6 _ _ (hF5.lst h5) h5
            walk_at "rd"
            refine i_ixL hA6 hz2' ?_
            walk_at "rd"
            refine i_newT (line_of (by simp)) fun t H7 ht7 e7 h7 => ?_
            have h7p : H7 p = some (.lst xs) := e7 _ _ h6
            have hxl := len_prs hI4
            walk_at "rd"
            refine i_appR h7p (by omega) fun H8 e8 h8 => ?_
            walk_at "rd"
            have fz8 : Fz H7 H8 := e8.fzL h7p
            have fz7 : Fz H4 H7 := ((hF4.fz e5).trans (hF5.fz e6)).trans e7.fz
            refine ⟨xs ++ [.ref t], ps ++ [(z1, z2)], _, _, rfl, by walk_at "fr", by walk_at "fd", h8, ?_, ?_, by simp [hpl]⟩
            · rw [List.map_append]
              exact (IsL.fz (fz7.trans fz8) _ _ (frzL_prs ps) hI4).append (.one ((is_pr (SqT.of h7)).pr_fz fz8))
            · exact hU.append (.one (by omega) hz1 hz2)
          · obtain ⟨xs, ps, x5, x6, rfl, e4, hF4, h4, hI4, hU, hpl⟩ := hP
            rw [List.length_map, List.length_range] at hpl
            exact hN _ _ ⟨p, xs, ps, _, _, _, _, rfl, hp0, e4, hF4, h4, hI4, hU, by omega, fun q => by omega⟩
        · walk_at "rq"
          exact done0
      · walk_at "rq"
        exact done0
    · obtain ⟨p3, xs3, ps3, x5, x6, x7, x8, rfl, hp3, e3, hF3, h3, hI3, hU3, hl3, hE3⟩ := hM
      have hA3 : H3 a = some (.lst (ls.map V.str)) := e3 _ _ had hA
      with_reducible refine i_cut (MP K H d l a ls way (way = 5)) (fun N hN => ?_) (fun σ1 H4 hM => ?_)
      · walk_at "rq"
        refine iteD (fun hw => ?_) (fun hw => ?_)
        · walk_at "rd"
          refine ⟨d, l, _, rfl, hF3, by omega, by omega, fun cut H4 hc0 hc1 e4 hF4 => ?_⟩
          have hA4 : H4 a = some (.lst (ls.map V.str)) := e4 _ _ had hA3
          walk_at "rd"
          refine i_rngv (by omega) ?_
          refine comp_dat (K := K) walk_range (List.range ((ls.length : Nat) - 1 : Int).toNat) (by simp) (fun k => !decide (V.int ((0 : Int) + (k : Nat) + 1) = V.int cut)) (fun k => prD (ls.getD k "", ls.getD (k + 1) "")) (fun _ => frz_pr _) (by simp; omega) (fun _ _ => trivial) (fun i k v H5 R R' hk hv e5 hR hR' => ?_) (fun p5 ys H5 hp5 e5 h5 hI5 => ?_)
          · obtain ⟨rfl, hi2⟩ := rng_get hv
            have hki : i = k := by
              obtain ⟨_, h2⟩ := List.getElem?_eq_some_iff.mp hk
              rw [List.getElem_range] at h2
              exact h2
            subst hki
            have hA5 : H5 a = some (.lst (ls.map V.str)) := e5 _ _ hA4
            walk_at "rd"
            refine iteND (fun hc => ?_) (fun hc => ?_)
            · obtain ⟨z1, hz1, hz1', _⟩ := str_at? (ls := ls) (i := 0 + (i : Int)) (by omega) (by omega)
              obtain ⟨z2, hz2, hz2', _⟩ := str_at? (ls := ls) (i := 0 + (i : Int) + 1) (by omega) (by omega)
              walk_at "rd"
              refine i_ixL hA5 hz1' ?_
              walk_at "rd"
              refine i_ixL hA5 hz2' ?_
              walk_at "rd"
              refine i_newT (line_of (by simp)) fun t H6 ht6 e6 h6 => ?_
              have q1 : (0 + (i : Int)).toNat = i := by omega
              have q2 : (0 + (i : Int) + 1).toNat = i + 1 := by omega
              rw [q1] at hz1
              rw [q2] at hz2
              refine hR (by rw [decide_eq_false hc]; rfl) _ _ e6 ?_
              rw [getD_of hz1, getD_of hz2]
              exact is_pr (SqT.of h6)
            · exact hR' (by rw [decide_eq_true hc]; rfl) _ (Same.refl _)
          · walk_at "rd"
            rw [map_prD] at hI5
            have hp0' : H p5 = none := hF4.free (by walk_at "fr") hp5
            refine hN _ _ ⟨p5, ys, _, _, _, _, _, rfl, hp0', by walk_at "fr", by walk_at "fd", h5, hI5, fun pr hpr => ?_, ?_, fun q => by cases hw; cases q⟩
            · obtain ⟨j, hj, rfl⟩ := List.mem_map.mp hpr
              have hj := List.mem_range.mp (List.mem_filter.mp hj).1
              exact ⟨j, j + 1, by omega, get_getD (by omega), get_getD (by omega)⟩
            · rw [List.length_map]
              refine Nat.le_trans (List.length_filter_le _ _) ?_
              rw [List.length_range]
              omega
        · walk_at "rq"
          exact hN _ _ ⟨p3, xs3, ps3, x5, x6, x7, x8, rfl, hp3, e3, hF3, h3, hI3, hU3, hl3, hE3⟩
      · obtain ⟨p4, xs4, ps4, y5, y6, y7, y8, rfl, hp4, e4, hF4, h4, hI4, hU4, hl4, hE4⟩ := hM
        have hA4 : H4 a = some (.lst (ls.map V.str)) := e4 _ _ had hA
        with_reducible refine i_cut (MP K H d l a ls way (way = 5)) (fun N hN => ?_) (fun σ1 H5 hM => ?_)
        · walk_at "rq"
          refine iteD (fun hw => ?_) (fun hw => ?_)
          · walk_at "rd"
            refine i_rngw (by omega) ?_
            refine comp_by walk_range (fun p i acc H5 => ∃ ps, ExtBut d H H5 ∧ Feed H5 d l ∧ IsL K H5 (ps.map prD) acc ∧ Up ls ps ∧ ps.length ≤ i) (fun p H5 hp e5 h5 => ⟨[], by walk_at "fr", by walk_at "fd", .nil, .nil, Nat.le_refl _⟩) (fun _ _ _ _ _ => trivial) (fun p i x acc H5 hp hx hi hl5 ha hP => ?_) fun p acc H5 hp ha hl5 hP => ?_
            · obtain ⟨ps, e5, hF5, hI5, hU5, hpl5⟩ := hP
              obtain ⟨rfl, hi2⟩ := rng_get hx
              have hp0' : H p = none := hF4.free e4 hp
              have hpd : p ≠ d := Ne.symm (hF4.nd hp)
              walk_at "rd"
              refine ⟨d, l, _, rfl, hF5, by omega, by omega, fun u H6 hu0 hu1 e6 hF6 => ?_⟩
              walk_at "rd"
              have h6 : H6 p = some (.lst acc) := e6 _ _ hpd ha
              have hA6 : H6 a = some (.lst (ls.map V.str)) := e6 _ _ had (e5 _ _ had hA)
              refine iteD (fun hc => ?_) (fun hc => ?_)
              · walk_at "rd"
                refine ⟨d, l, _, rfl, hF6, by omega, by omega, fun u2 H7 hv0 hv1 e7 hF7 => ?_⟩
                have h7 : H7 p = some (.lst acc) := e7 _ _ hpd h6
                have hA7 : H7 a = some (.lst (ls.map V.str)) := e7 _ _ had hA6
                obtain ⟨z1, hz1, hz1', _⟩ := str_at? (ls := ls) (i := u2) hv0 (by omega)
                obtain ⟨z2, hz2, hz2', _⟩ := str_at? (ls := ls) (i := 1 + (i : Int)) (by omega) (by omega)
                walk_at "rd"
                refine i_ixL hA7 hz1' ?_
                walk_at "rd"
                refine i_ixL hA7 hz2' ?_
                walk_at "rd"
                refine i_newT (line_of (by simp)) fun t H8 ht8 e8 h8 => ?_
                have h8p : H8 p = some (.lst acc) := e8 _ _ h7
                refine push_i (by simp; omega) hi hl5 h8p fun H9 e9 h9 => ?_
                have fz9 : Fz H8 H9 := e9.fzL h8p
                have fz8 : Fz H5 H8 := ((hF5.fz e6).trans (hF6.fz e7)).trans e8.fz
                refine ⟨ps ++ [(z1, z2)], by walk_at "fr", by walk_at "fd", ?_, hU5.append (.one (by omega) hz1 hz2), by simp [hpl5]⟩
                rw [List.map_append]
                exact (IsL.fz (fz8.trans fz9) _ _ (frzL_prs ps) hI5).append (.one ((is_pr (SqT.of h8)).pr_fz fz9))
              · refine cn_skip hi hl5 h6 ⟨ps, by walk_at "fr", hF6, IsL.fz (hF5.fz e6) _ _ (frzL_prs ps) hI5, hU5, by omega⟩
            · obtain ⟨ps, e5, hF5, hI5, hU5, hpl5⟩ := hP
              rw [List.length_map, List.length_range] at hpl5
              walk_at "rd"
              exact hN _ _ ⟨p, acc, ps, _, _, _, _, rfl, hF4.free e4 hp, e5, hF5, ha, hI5, hU5, by omega, fun q => by cases hw; cases q⟩
          · walk_at "rq"
            exact hN _ _ ⟨p4, xs4, ps4, _, _, _, _, rfl, hp4, e4, hF4, h4, hI4, hU4, hl4, hE4⟩
        · obtain ⟨p5, xs5, ps5, z5, z6, z7, z8, rfl, hp5, e5, hF5, h5, hI5, hU5, hl5, hE5⟩ := hM
          have hA5 : H5 a = some (.lst (ls.map V.str)) := e5 _ _ had hA
          with_reducible refine i_cut (MP K H d l a ls way False) (fun N hN => ?_) (fun σ1 H6 hM => ?_)
          · walk_at "rq"
            refine iteD (fun hw => ?_) (fun hw => ?_)
            · walk_at "rd"
              refine ⟨d, l, _, rfl, hF5, by omega, by omega, fun cut H6 hc0 hc1 e6 hF6 => ?_⟩
              have hA6 : H6 a = some (.lst (ls.map V.str)) := e6 _ _ had hA5
              have h6 : H6 p5 = some (.lst xs5) := e6 _ _ (hF5.lst h5) h5
              walk_at "rd"
              refine i_slL (SqL.of hA6) fun q H7 hq7 e7 h7 => ?_
              rw [cut_upto hc0, ← List.map_take] at h7
              have hq0 : H q = none := hF6.free (by walk_at "fr") hq7
              have hp5n : p5 ≠ q := ne_of_none h6 hq7
              refine i_itL (SqL.of h7) ?_
              have hway : way = 5 := by
                cases hw
                rfl
              have hps : ps5 = [] := hE5 hway
              subst hps
              have hxs : xs5 = [] := by simpa only [List.map_nil, L2.IsL] using hI5
              subst hxs
              have hdrop : ∀ H8, ExtBut d H H8 → H8 a = some (.lst (ls.map V.str)) := fun H8 e8 => e8 _ _ had hA
              refine for_by (walk_list (xs := (ls.take cut.toNat).map V.str)) (fun i σ H8 => ∃ xs ps x8, σ = [some (V.ref d), some (.ref a), some (.int (ls.length : Nat)), some (.int way), some (.ref p5), z5, z6, some (.int cut), x8] ∧ ExtBut d H H8 ∧ Feed H8 d l ∧ H8 q = some (.lst ((ls.take cut.toNat).map V.str)) ∧ H8 p5 = some (.lst xs) ∧ IsL K H8 (ps.map prD) xs ∧ Up ls ps ∧ ps.length ≤ i * 10)
                ⟨[], [], _, rfl, by walk_at "fr", by walk_at "fd", h7, by walk_at "lk", .nil, .nil, by decide⟩ (fun i σ H8 hP => ?_) (fun i x σ H8 hx8 hi hP => ?_) (fun σ H8 hP => ?_)
              · obtain ⟨xs, ps, x8, rfl, e8, hF8, hq8, _⟩ := hP
                exact SqL.of hq8
              · obtain ⟨xs, ps, x8, rfl, e8, hF8, hq8, h8, hI8, hU8, hl8⟩ := hP
                rw [List.getElem?_map] at hx8
                cases hz : (ls.take cut.toNat)[i]? with
                | none => rw [hz] at hx8; cases hx8
                | some one =>
                  rw [hz] at hx8
                  cases hx8
                  have hi10 : i < 10 := by
                    have := List.getElem?_eq_some_iff.mp hz
                    obtain ⟨h1, _⟩ := this
                    rw [List.length_take] at h1
                    omega
                  have hone : ls[i]? = some one := by
                    rw [List.getElem?_take] at hz
                    split at hz
                    · exact hz
                    · cases hz
                  have hicut : i < cut.toNat := by
                    rw [List.getElem?_take] at hz
                    split at hz
                    · assumption
                    · cases hz
                  walk_at "rd"
                  refine i_slL (SqL.of (hdrop H8 e8)) fun q9 H9 hq9 e9 h9 => ?_
                  rw [cut_from hc0 (by rw [List.length_map]; omega), ← List.map_drop] at h9
                  refine i_itL (SqL.of h9) ?_
                  refine comp_dat (K := K) (walk_list (xs := (ls.drop cut.toNat).map V.str)) (ls.drop cut.toNat) (by simp) (fun _ => true) (fun o => prD (one, o)) (fun _ => frz_pr _) (by simp; omega) (fun H' e' => SqL.of (e' _ _ h9)) (fun j o v H10 R R' ho hv e10 hR hR' => ?_) (fun p10 ys H10 hp10 e10 h10 hI10 => ?_)
                  · rw [List.getElem?_map, ho] at hv
                    cases hv
                    walk_at "rd"
                    refine i_newT (line_of (by simp)) fun t H11 ht11 e11 h11 => ?_
                    exact hR rfl _ _ e11 (is_pr (SqT.of h11))
                  · walk_at "rd"
                    have h10p : H10 p5 = some (.lst xs) := e10 _ _ (e9 _ _ h8)
                    have hy : ys.length ≤ 10 := by
                      have := IsL.length hI10
                      rw [List.length_map, filter_true, List.length_drop] at this
                      omega
                    have hxl := len_prs hI8
                    refine i_extR h10p h10 (by omega) fun H11 e11 h11 => ?_
                    walk_at "rd"
                    have hq10 : H10 q = some (.lst ((ls.take cut.toNat).map V.str)) := e10 _ _ (e9 _ _ hq8)
                    have fz11 : Fz H10 H11 := e11.fzL h10p
                    rw [filter_true, map_prD] at hI10
                    refine ⟨xs ++ ys, ps ++ (ls.drop cut.toNat).map (fun o => (one, o)), _, rfl, by walk_at "fr", by walk_at "fd", e11 _ _ (Ne.symm hp5n) hq10, h11, ?_, hU8.append fun pr hpr => ?_, ?_⟩
                    · rw [List.map_append]
                      exact (IsL.fz ((e9.fz.trans e10.fz).trans fz11) _ _ (frzL_prs ps) hI8).append (IsL.fz fz11 _ _ (frzL_prs _) hI10)
                    · obtain ⟨o, ho, rfl⟩ := List.mem_map.mp hpr
                      obtain ⟨j, hj, ej⟩ := List.getElem_of_mem ho
                      refine ⟨i, cut.toNat + j, by omega, hone, ?_⟩
                      rw [← List.getElem?_drop, List.getElem?_eq_getElem hj, ej]
                    · rw [List.length_append, List.length_map, List.length_drop, Nat.add_mul]
                      omega
              · obtain ⟨xs, ps, x8, rfl, e8, hF8, hq8, h8, hI8, hU8, hl8⟩ := hP
                rw [List.length_map, List.length_take] at hl8
                exact hN _ _ ⟨p5, xs, ps, _, _, _, _, rfl, hp5, e8, hF8, h8, hI8, hU8, by omega, False.elim⟩
            · walk_at "rq"
              exact hN _ _ ⟨p5, xs5, ps5, _, _, _, _, rfl, hp5, e5, hF5, h5, hI5, hU5, hl5, False.elim⟩
          · obtain ⟨p6, xs6, ps6, w5, w6, w7, w8, rfl, hp6, e6, hF6, h6, hI6, hU6, hl6, hE6⟩ := hM
            walk_at "rd"
            exact k p6 xs6 ps6 H6 hp6 e6 hF6 h6 hI6 hU6 hl6
noncomputable def sp__law_sayings (K : PySem.W.Frag) : Sp := fun vs H Q _ => ∃ d l a ls, vs = [.ref d, .ref a] ∧ Feed H d l ∧ H a = some (.lst (ls.map V.str)) ∧ ls.length ≤ 10 ∧ ∀ v ps H', ExtBut d H H' → Feed H' d l → Is K H' (psD ps) v → Up ls ps → ps.length ≤ 60 → Q v H'
theorem isL_ins {K : PySem.W.Frag} {H : Hp} {ps : List (Str × Str)} {xs : List V} {p : Str × Str} {v : V} (n : Nat) (h : IsL K H (ps.map prD) xs) (hv : Is K H (prD p) v) : IsL K H ((ps.take n ++ p :: ps.drop n).map prD) (insL xs n v) := by
  rw [List.map_append, List.map_cons, List.map_take, List.map_drop]
  exact (IsL.take n h).append (.cons hv (IsL.drop n h))
theorem ok__law_sayings {f : Addr} {fd : FuncData} (F : Fun K "_law_sayings" "_law_sayings" s__law_sayings f fd) (T : TopF mg) (c__law_draw : Fnd P w K mg base 1 "_law_draw" ["_law_feed_here", "_law_many"] (sp__law_draw K)) (c__law_pairs : Fnd P w K mg base 2 "_law_pairs" ["_law_feed_here", "_law_line"] (sp__law_pairs K)) : FnOk P w K mg base CX0 3 f fd ["_law_feed_here", "_law_line"] (sp__law_sayings K) := by
  refine F.ok sc__law_sayings (fun vs H Q E h => ?_) (fun cdv A outer s H vs Q E hr h => ?_)
  · obtain ⟨d, l, a, xs, rfl, _⟩ := h
    rfl
  · obtain ⟨d, l, a, ls, rfl, hF, hA, hl, k⟩ := h
    have hu := hu_of hr
    have hq := qa_of hr
    with_reducible refine ⟨_, (pss_cons (ps_set (i := 2) sc__law_sayings.nd (by with_unfolding_all rfl) (by with_unfolding_all exact Or.inl rfl) (pe_lst pa_nil))
      (pss_cons (ps_for PassesOwn.never (by with_unfolding_all rfl) (pi_anyK (K := K) hu (pe_fn c__law_pairs (hr.mono (by decide)) (by with_unfolding_all rfl) (pa_cons (pv 0) (pa_cons (pv 1) pa_nil)))) (pg_name (i := 3) sc__law_sayings.nd (by with_unfolding_all rfl) (by with_unfolding_all exact Or.inl rfl))
      (pss_one (ps_for PassesOwn.never (by with_unfolding_all rfl) (pi_range1 (by with_unfolding_all rfl) T.b_range (pa_cons (pe_op (op_addK (K := K)) pe_int (pe_callTy call_intA (by with_unfolding_all rfl) T.b_int PyProof.Rows.Boot.«int» (pa_cons (pe_cmpR (op_eqK (K := K) hq) (pe_fn c__law_draw (hr.mono (by decide)) (by with_unfolding_all rfl) (pa_cons (pv 0) (pa_cons pe_int pa_nil))) pe_int (nomark _)) pa_nil))) pa_nil)) (pg_name (i := 4) sc__law_sayings.nd (by with_unfolding_all rfl) (by with_unfolding_all exact Or.inl rfl))
      (pss_one (ps_expr (pe_bmK (K := K) PySem.F.plainAttrs_list PySem.F.slot_list_insert PySem.F.type_list_insert (mm mt_insert) (pv 2) (pa_cons (pe_fn c__law_draw (hr.mono (by decide)) (by with_unfolding_all rfl) (pa_cons (pv 0) (pa_cons (pe_op (op_addK (K := K)) (pe_callB (call_lenK (K := K)) (by with_unfolding_all rfl) T.b_len PyProof.Rows.Boot.«len» (pa_cons (pv 2) pa_nil)) pe_int) pa_nil))) (pa_cons (pv 3) pa_nil))))))))
      (pss_one (ps_ret (pe_callTy (call_tupleK (K := K)) (by with_unfolding_all rfl) T.b_tuple PyProof.Rows.Boot.«tuple» (pa_cons (pe_slice (sl_K (K := K)) (pv 2) po_none (po_some pe_int)) pa_nil)))))), ?_⟩
    walk_at "rd"
    refine i_newL (by decide) fun p H1 hp1 e1 h1 => ?_
    have hA1 : H1 a = some (.lst (ls.map V.str)) := e1 _ _ hA
    have hF1 : Feed H1 d l := hF.same e1
    walk_at "rd"
    refine ⟨d, l, a, ls, rfl, hF1, hA1, hl, fun q xs ps H2 hq2 e2 hF2 h2 hI2 hU2 hl2 => ?_⟩
    have hpd : p ≠ d := Ne.symm (hF.nd hp1)
    have h2p : H2 p = some (.lst []) := e2 _ _ hpd h1
    have hpq : p ≠ q := ne_of_none h1 hq2
    have hq0 : H q = none := e1.free hq2
    have hxl := len_prs hI2
    refine i_itL (SqL.of h2) ?_
    refine for_by (walk_list (xs := xs)) (fun i σ H3 => ∃ ys qs x3 x4, σ = [some (V.ref d), some (.ref a), some (.ref p), x3, x4] ∧ ExtBut d H H3 ∧ Feed H3 d l ∧ H3 q = some (.lst xs) ∧ Fz H2 H3 ∧ H3 p = some (.lst ys) ∧ IsL K H3 (qs.map prD) ys ∧ Up ls qs ∧ qs.length ≤ i * 2)
      ⟨[], [], _, _, rfl, by walk_at "fr", hF2, h2, .refl _, h2p, .nil, .nil, by decide⟩ (fun i σ H3 hP => ?_) (fun i x σ H3 hx3 hi hP => ?_) (fun σ H3 hP => ?_)
    · obtain ⟨ys, qs, x3, x4, rfl, e3, hF3, hq3, _⟩ := hP
      exact SqL.of hq3
    · obtain ⟨ys, qs, x3, x4, rfl, e3, hF3, hq3, fz3, h3p, hI3, hU3, hl3⟩ := hP
      obtain ⟨dp, hdp, hip⟩ := IsL.get hI2 hx3
      rw [List.getElem?_map] at hdp
      cases hpr : ps[i]? with
      | none => rw [hpr] at hdp; cases hdp
      | some pr =>
        rw [hpr] at hdp
        cases hdp
        have hUp : Up ls [pr] := hU2.sub fun z hz => by
          have : z = pr := by simpa using hz
          subst this
          exact List.mem_of_getElem? hpr
        have hi100 : i < 100 := by omega
        walk_at "rd"
        refine ⟨d, l, _, rfl, hF3, by omega, by omega, fun u H4 hu0 hu1 e4 hF4 => ?_⟩
        have h4p : H4 p = some (.lst ys) := e4 _ _ hpd h3p
        have h4q : H4 q = some (.lst xs) := e4 _ _ (hF3.lst hq3) hq3
        have fz4 : Fz H2 H4 := fz3.trans (hF3.fz e4)
        have hI4 : IsL K H4 (qs.map prD) ys := IsL.fz (hF3.fz e4) _ _ (frzL_prs qs) hI3
        walk_at "rd"
        refine i_rngv (by split <;> omega) ?_
        refine for_by walk_range (fun j σ H5 => ∃ zs rs x4, σ = [some (V.ref d), some (.ref a), some (.ref p), some x, x4] ∧ ExtBut d H H5 ∧ Feed H5 d l ∧ H5 q = some (.lst xs) ∧ Fz H2 H5 ∧ H5 p = some (.lst zs) ∧ IsL K H5 (rs.map prD) zs ∧ Up ls rs ∧ rs.length = qs.length + j)
          ⟨ys, qs, _, rfl, by walk_at "fr", hF4, h4q, fz4, h4p, hI4, hU3, rfl⟩ (fun _ _ _ _ => trivial) (fun j x' σ H5 hx5 hj hP => ?_) (fun σ H5 hP => ?_)
        · obtain ⟨zs, rs, x4', rfl, e5, hF5, hq5, fz5, h5p, hI5, hU5, hl5⟩ := hP
          obtain ⟨rfl, hj2⟩ := rng_get hx5
          have hzl := len_prs hI5
          have hj3 : j < 2 := by
            have : (1 + if decide (V.int u = V.int 0) = true then (1 : Int) else 0).toNat ≤ 2 := by split <;> omega
            omega
          walk_at "rd"
          refine ⟨d, l, _, rfl, hF5, by omega, by omega, fun u2 H6 hv0 hv1 e6 hF6 => ?_⟩
          have h6p : H6 p = some (.lst zs) := e6 _ _ hpd h5p
          have h6q : H6 q = some (.lst xs) := e6 _ _ (hF5.lst hq5) hq5
          walk_at "rd"
          refine i_ins h6p hv0 (by omega) (by omega) fun H7 e7 h7p => ?_
          have fz6 : Fz H5 H6 := hF5.fz e6
          have fz7 : Fz H6 H7 := e7.fzL h6p
          walk_at "rd"
          refine ⟨_, _, _, rfl, by walk_at "fr", by walk_at "fd", e7 _ _ (Ne.symm hpq) h6q, (fz5.trans fz6).trans fz7, h7p, isL_ins u2.toNat (IsL.fz (fz6.trans fz7) _ _ (frzL_prs rs) hI5) (Is.fz ((fz5.trans fz6).trans fz7) _ _ (frz_pr pr) hip), ?_, ?_⟩
          · intro z hz
            rcases List.mem_append.mp hz with hz | hz
            · exact hU5 z (List.mem_of_mem_take hz)
            · rcases List.mem_cons.mp hz with rfl | hz
              · exact hUp _ (by simp)
              · exact hU5 z (List.mem_of_mem_drop hz)
          · rw [List.length_append, List.length_cons, List.length_take, List.length_drop]
            omega
        · obtain ⟨zs, rs, x4', rfl, e5, hF5, hq5, fz5, h5p, hI5, hU5, hl5⟩ := hP
          rw [List.length_map, List.length_range] at hl5
          have hj3 : (1 + if decide (V.int u = V.int 0) = true then (1 : Int) else 0).toNat ≤ 2 := by split <;> omega
          exact ⟨zs, rs, _, _, rfl, e5, hF5, hq5, fz5, h5p, hI5, hU5, by omega⟩
    · obtain ⟨ys, qs, x3, x4, rfl, e3, hF3, hq3, fz3, h3p, hI3, hU3, hl3⟩ := hP
      walk_at "rd"
      refine i_slL (SqL.of h3p) fun t H4 ht4 e4 h4 => ?_
      walk_at "rd"
      rw [cut_upto (by decide)] at h4
      refine i_tupleL (SqL.of h4) fun t2 H5 ht5 e5 h5 => ?_
      have hI5 : IsL K H5 (qs.map prD) ys := IsL.mono e5 _ _ (IsL.mono e4 _ _ hI3)
      refine k (.ref t2) (qs.take 60) H5 (by walk_at "fr") (by walk_at "fd") (Is.of_tup (SqT.of h5) ?_) (hU3.sub fun z hz => List.mem_of_mem_take hz) ?_
      · rw [List.map_take]
        exact IsL.take 60 hI5
      · rw [List.length_take]
        omega
noncomputable def sp__law_half (K : PySem.W.Frag) : Sp := fun vs H Q _ => ∃ d l n, vs = [.ref d, .int n] ∧ Feed H d l ∧ 0 ≤ n ∧ n ≤ 10 ∧ ∀ v ns ps H', ExtBut d H H' → Feed H' d l → Is K H' (hfD ns ps) v → Half ns ps → ns.length ≤ n.toNat → Q v H'
theorem half_of {ns ls : List Str} {ps : List (Str × Str)} (h : Names ns) (hl : ns.length ≤ 10) (p : ls.Perm ns) (u : Up ls ps) (hp : ps.length ≤ 60) : Half ns ps := ⟨h, hl, hp, ls, p, u⟩
theorem perm_strs {ns : List Str} {ys : List V} (h : ys.Perm (ns.map V.str)) : ∃ ls : List Str, ys = ls.map V.str ∧ ls.Perm ns := by
  refine ⟨ys.map fun v => match v with | .str z => z | _ => "", ?_, ?_⟩
  · rw [List.map_map]
    have : ∀ v ∈ ys, (V.str ∘ fun v => match v with | .str z => z | _ => "") v = v := fun v hv => by
      obtain ⟨z, _, rfl⟩ := List.mem_map.mp (h.mem_iff.mp hv)
      rfl
    rw [List.map_congr_left this]
    simp
  · have := h.map fun v => match v with | .str z => z | _ => ("" : Str)
    rw [List.map_map] at this
    have e : ns.map ((fun v => match v with | .str z => z | _ => ("" : Str)) ∘ V.str) = ns := by
      rw [show ((fun v => match v with | .str z => z | _ => ("" : Str)) ∘ V.str) = id from rfl, List.map_id]
    rw [e] at this
    exact this
theorem ok__law_half {f : Addr} {fd : FuncData} (F : Fun K "_law_half" "_law_half" s__law_half f fd) (T : TopF mg) (c__law_draw : Fnd P w K mg base 1 "_law_draw" ["_law_feed_here", "_law_many"] (sp__law_draw K)) (c__law_names : Fnd P w K mg base 2 "_law_names" ["_law_feed_here", "_law_many"] (sp__law_names K)) (c__law_shuffled : Fnd P w K mg base 2 "_law_shuffled" ["_law_feed_here", "_law_some"] (sp__law_shuffled K)) (c__law_sayings : Fnd P w K mg base 3 "_law_sayings" ["_law_feed_here", "_law_line"] (sp__law_sayings K)) : FnOk P w K mg base CX0 4 f fd ["_law_feed_here", "_law_most"] (sp__law_half K) := by
  refine F.ok sc__law_half (fun vs H Q E h => ?_) (fun cdv A outer s H vs Q E hr h => ?_)
  · obtain ⟨d, l, n, rfl, _⟩ := h
    rfl
  · obtain ⟨d, l, n, rfl, hF, h0, h10, k⟩ := h
    have hu := hu_of hr
    have hq := qa_of hr
    with_reducible refine ⟨_, (pss_cons (ps_set (i := 2) sc__law_half.nd (by with_unfolding_all rfl) (by with_unfolding_all exact Or.inl rfl) (pe_fn c__law_names (hr.mono (by decide)) (by with_unfolding_all rfl) (pa_cons (pv 0) (pa_cons (pe_fn c__law_draw (hr.mono (by decide)) (by with_unfolding_all rfl) (pa_cons (pv 0) (pa_cons (pe_op (op_addK (K := K)) (pv 1) pe_int) pa_nil))) pa_nil))))
      (pss_one (ps_ret (pe_tup (pa_cons (pe_callTy (call_tupleK (K := K)) (by with_unfolding_all rfl) T.b_tuple PyProof.Rows.Boot.«tuple» (pa_cons (pv 2) pa_nil)) (pa_cons (pe_fn c__law_sayings (hr.mono (by decide)) (by with_unfolding_all rfl) (pa_cons (pv 0) (pa_cons (pe_fn c__law_shuffled (hr.mono (by decide)) (by with_unfolding_all rfl) (pa_cons (pv 0) (pa_cons (pv 2) pa_nil))) pa_nil))) pa_nil)))))), ?_⟩
    walk_at "rd"
    refine ⟨d, l, _, rfl, hF, by omega, by omega, fun u H1 hu0 hu1 e1 hF1 => ?_⟩
    walk_at "rd"
    refine ⟨d, l, _, rfl, hF1, by omega, by omega, fun p2 ns H2 hp2 e2 hF2 h2 hN hl => ?_⟩
    walk_at "rd"
    refine i_tupleL (SqL.of h2) fun t3 H3 ht3 e3 h3 => ?_
    have hF3 := hF2.same e3
    have hI3 : Is K H3 (nmD ns) (.ref t3) := is_nm (SqT.of h3)
    walk_at "rd"
    refine ⟨d, l, p2, _, rfl, hF3, .inl (SqL.of (e3 _ _ h2)), by rw [List.length_map]; omega, fun p4 ys4 H4 hp4 e4 hF4 h4 hperm => ?_⟩
    obtain ⟨ls, rfl, hpm⟩ := perm_strs hperm
    have fz4 := hF3.fz e4
    walk_at "rd"
    refine ⟨d, l, p4, ls, rfl, hF4, h4, by rw [hpm.length_eq]; omega, fun v5 ps H5 e5 hF5 hI5 hU hl5 => ?_⟩
    have fz5 := hF4.fz e5
    walk_at "rd"
    refine i_newT (line_of (by simp)) fun t6 H6 ht6 e6 h6 => ?_
    exact k (.ref t6) ns ps H6 (by walk_at "fr") (by walk_at "fd") (is_hf (SqT.of h6) (hI3.nm_fz ((fz4.trans fz5).trans e6.fz)) (hI5.ps_fz e6.fz)) (half_of hN (by omega) hpm hU hl5) (by omega)
structure Tale (ns : List Str) (ps : List (Str × Str)) : Prop where
  names : Names ns
  few : ns.length ≤ 10
  le : ps.length ≤ 60
  mem : ∀ p ∈ ps, p.1 ∈ ns ∧ p.2 ∈ ns
theorem Tale.nmP {ns : List Str} {ps : List (Str × Str)} (h : Tale ns ps) : NmP ps := fun p hp => ⟨h.names.2 _ (h.mem p hp).1, h.names.2 _ (h.mem p hp).2⟩
noncomputable def sp__law_tale (K : PySem.W.Frag) : Sp := fun vs H Q _ => ∃ d l n, vs = [.ref d, .int n] ∧ Feed H d l ∧ 0 ≤ n ∧ n ≤ 10 ∧ ∀ a x y ns ps H', ExtBut d H H' → Feed H' d l → SqT K H' a [x, y] → Is K H' (nmD ns) x → Is K H' (psD ps) y → Tale ns ps → Q (.ref a) H'
noncomputable def MT (K : PySem.W.Frag) (H : Hp) (d l : Addr) (n : Int) (ns : List Str) (v1 : V) : L2.St → Hp → Prop := fun σ' H' => ∃ v2 ps x4 x5 x6, σ' = [some (V.ref d), some (.int n), some v1, some v2, x4, x5, x6] ∧ ExtBut d H H' ∧ Feed H' d l ∧ Is K H' (nmD ns) v1 ∧ Is K H' (psD ps) v2 ∧ ps.length ≤ 61 ∧ ∀ p ∈ ps, p.1 ∈ ns ∧ p.2 ∈ ns
theorem ok__law_tale {f : Addr} {fd : FuncData} (F : Fun K "_law_tale" "_law_tale" s__law_tale f fd) (T : TopF mg) (c__law_draw : Fnd P w K mg base 1 "_law_draw" ["_law_feed_here", "_law_many"] (sp__law_draw K)) (c__law_half : Fnd P w K mg base 4 "_law_half" ["_law_feed_here", "_law_most"] (sp__law_half K)) : FnOk P w K mg base CX0 5 f fd ["_law_feed_here", "_law_most"] (sp__law_tale K) := by
  refine F.ok sc__law_tale (fun vs H Q E h => ?_) (fun cdv A outer s H vs Q E hr h => ?_)
  · obtain ⟨d, l, n, rfl, _⟩ := h
    rfl
  · obtain ⟨d, l, n, rfl, hF, h0, h10, k⟩ := h
    have hu := hu_of hr
    have hq := qa_of hr
    with_reducible refine ⟨_, (pss_cons (ps_asg (pe_fn c__law_half (hr.mono (by decide)) (by with_unfolding_all rfl) (pa_cons (pv 0) (pa_cons (pv 1) pa_nil))) (pg_tupK (K := K) (n := 2) (by with_unfolding_all rfl) (pgs_cons (pg_name (i := 2) sc__law_tale.nd (by with_unfolding_all rfl) (by with_unfolding_all exact Or.inl rfl)) (pgs_cons (pg_name (i := 3) sc__law_tale.nd (by with_unfolding_all rfl) (by with_unfolding_all exact Or.inl rfl)) pgs_nil))))
      (pss_cons (ps_if (PW.pt (pw_and (pt_cmpR op_gt (pe_callB (call_lenK (K := K)) (by with_unfolding_all rfl) T.b_len PyProof.Rows.Boot.«len» (pa_cons (pv 2) pa_nil)) pe_int (nomark _)) (pw_and1 (pt_cmpR (op_eqK (K := K) hq) (pe_fn c__law_draw (hr.mono (by decide)) (by with_unfolding_all rfl) (pa_cons (pv 0) (pa_cons pe_int pa_nil))) pe_int (nomark _))))) (pss_cons (ps_set (i := 4) sc__law_tale.nd (by with_unfolding_all rfl) (by with_unfolding_all exact Or.inl rfl) (pe_fn c__law_draw (hr.mono (by decide)) (by with_unfolding_all rfl) (pa_cons (pv 0) (pa_cons (pe_op (op_addK (K := K)) (pe_callB (call_lenK (K := K)) (by with_unfolding_all rfl) T.b_len PyProof.Rows.Boot.«len» (pa_cons (pv 3) pa_nil)) pe_int) pa_nil))))
      (pss_cons (ps_set (i := 5) sc__law_tale.nd (by with_unfolding_all rfl) (by with_unfolding_all exact Or.inl rfl) (pe_ix (ix_anyK (K := K) hu) (pv 2) (pe_fn c__law_draw (hr.mono (by decide)) (by with_unfolding_all rfl) (pa_cons (pv 0) (pa_cons (pe_callB (call_lenK (K := K)) (by with_unfolding_all rfl) T.b_len PyProof.Rows.Boot.«len» (pa_cons (pv 2) pa_nil)) pa_nil))) (by with_unfolding_all exact fun _ _ => rfl)))
      (pss_cons (ps_set (i := 6) sc__law_tale.nd (by with_unfolding_all rfl) (by with_unfolding_all exact Or.inl rfl) (pe_ix (ix_anyK (K := K) hu) (pv 2) (pe_fn c__law_draw (hr.mono (by decide)) (by with_unfolding_all rfl) (pa_cons (pv 0) (pa_cons (pe_callB (call_lenK (K := K)) (by with_unfolding_all rfl) T.b_len PyProof.Rows.Boot.«len» (pa_cons (pv 2) pa_nil)) pa_nil))) (by with_unfolding_all exact fun _ _ => rfl)))
      (pss_one (ps_set (i := 3) sc__law_tale.nd (by with_unfolding_all rfl) (by with_unfolding_all exact Or.inl rfl) (pe_op (op_addK (K := K)) (pe_op (op_addK (K := K)) (pe_slice (sl_K (K := K)) (pv 3) po_none (po_some (pv 4))) (pe_tup (pa_cons (pe_tup (pa_cons (pv 5) (pa_cons (pv 6) pa_nil))) pa_nil))) (pe_slice (sl_K (K := K)) (pv 3) (po_some (pv 4)) po_none))))))) pss_nil)
      (pss_one (ps_ret (pe_tup (pa_cons (pv 2) (pa_cons (pe_slice (sl_K (K := K)) (pv 3) po_none (po_some pe_int)) pa_nil))))))), ?_⟩
    walk_at "rd"
    refine ⟨d, l, _, rfl, hF, h0, h10, fun v ns ps H1 e1 hF1 hI1 hH hl1 => ?_⟩
    obtain ⟨va, v1, v2, rfl, hS1, hN1, hP1⟩ := hI1.hf
    refine i_gtwo hS1 ?_
    have hpl := hH.le
    have hnl := hH.few
    walk_at "rq"
    with_reducible refine i_cut (MT K H d l n ns v1) (fun N hN => ?_) (fun σ1 H2 hM => ?_)
    · have skip : N [some (V.ref d), some (.int n), some v1, some v2, none, none, none] H1 := hN _ _ ⟨v2, ps, none, none, none, rfl, e1, hF1, hN1, hP1, by omega, fun p hp => hH.mem hp⟩
      walk_at "rq"
      refine i_lenN hN1 ?_
      walk_at "rq"
      refine iteD (fun hc => ?_) (fun hc => ?_)
      · walk_at "rq"
        refine ⟨d, l, _, rfl, hF1, by omega, by omega, fun u H2 hu0 hu1 e2 hF2 => ?_⟩
        have fz2 := hF1.fz e2
        have hN2 := hN1.nm_fz fz2
        have hP2 := hP1.ps_fz fz2
        walk_at "rq"
        refine iteD (fun hc2 => ?_) (fun hc2 => ?_)
        · walk_at "rd"
          refine i_lenP hP2 ?_
          walk_at "rd"
          refine ⟨d, l, _, rfl, hF2, by omega, by omega, fun at' H3 ha0 ha1 e3 hF3 => ?_⟩
          have fz3 := hF2.fz e3
          have hN3 := hN2.nm_fz fz3
          walk_at "rd"
          refine i_lenN hN3 ?_
          walk_at "rd"
          refine ⟨d, l, _, rfl, hF3, by omega, by omega, fun i4 H4 hi0 hi1 e4 hF4 => ?_⟩
          have fz4 := hF3.fz e4
          have hN4 := hN3.nm_fz fz4
          obtain ⟨o1, ho1, _, ho1'⟩ := str_at? (ls := ns) (i := i4) hi0 hi1
          refine i_ixN hN4 ho1' ?_
          walk_at "rd"
          refine i_lenN hN4 ?_
          walk_at "rd"
          refine ⟨d, l, _, rfl, hF4, by omega, by omega, fun i5 H5 hj0 hj1 e5 hF5 => ?_⟩
          have fz5 := hF4.fz e5
          have hN5 := hN4.nm_fz fz5
          obtain ⟨o2, ho2, _, ho2'⟩ := str_at? (ls := ns) (i := i5) hj0 hj1
          refine i_ixN hN5 ho2' ?_
          have hP5 := ((hP2.ps_fz fz3).ps_fz fz4).ps_fz fz5
          obtain ⟨sa, sx, hsa, hS5, hL5⟩ := Is.tup hP5
          cases hsa
          have hxl : sx.length = ps.length := by rw [← IsL.length hL5, List.length_map]
          walk_at "rd"
          refine i_slT hS5 fun p6 H6 e6 h6 => ?_
          walk_at "rd"
          refine i_newT (line_of (by simp)) fun t7 H7 ht7 e7 h7 => ?_
          walk_at "rd"
          refine i_newT (line_of (by simp)) fun t8 H8 ht8 e8 h8 => ?_
          rw [cut_upto ha0] at h6
          refine i_addT (e8.seqT (e7.seqT h6)) (SqT.of h8) (line_of (by simp; omega)) fun p9 H9 e9 h9 => ?_
          walk_at "rd"
          refine i_slT ((((e6.trans e7).trans e8).trans e9).seqT hS5) fun p10 H10 e10 h10 => ?_
          rw [cut_from ha0 (by rw [hxl]; omega)] at h10
          refine i_addT (e10.seqT h9) h10 (line_of (by simp; omega)) fun p11 H11 e11 h11 => ?_
          have e511 : Same H5 H11 := ((((e6.trans e7).trans e8).trans e9).trans e10).trans e11
          have e711 : Same H7 H11 := ((e8.trans e9).trans e10).trans e11
          walk_at "rd"
          refine hN _ _ ⟨.ref p11, ps.take at'.toNat ++ [(o1, o2)] ++ ps.drop at'.toNat, _, _, _, rfl, by walk_at "fr", by walk_at "fd", hN5.nm_fz e511.fz, Is.of_tup h11 ?_, ?_, fun p hp => ?_⟩
          · rw [List.map_append, List.map_append, List.map_take, List.map_drop]
            exact ((IsL.take _ (IsL.mono e511 _ _ hL5)).append (.one (Is.mono e711 _ _ (is_pr (SqT.of h7))))).append (IsL.drop _ (IsL.mono e511 _ _ hL5))
          · rw [List.length_append, List.length_append, List.length_take, List.length_drop, List.length_singleton]
            omega
          · rcases List.mem_append.mp hp with hp | hp
            · rcases List.mem_append.mp hp with hp | hp
              · exact hH.mem (List.mem_of_mem_take hp)
              · have : p = (o1, o2) := by simpa using hp
                subst this
                exact ⟨List.mem_of_getElem? ho1, List.mem_of_getElem? ho2⟩
            · exact hH.mem (List.mem_of_mem_drop hp)
        · walk_at "rq"
          exact hN _ _ ⟨v2, ps, none, none, none, rfl, by walk_at "fr", hF2, hN2, hP2, by omega, fun p hp => hH.mem hp⟩
      · walk_at "rq"
        exact skip
    · obtain ⟨v2', ps', x4, x5, x6, rfl, e2, hF2, hN2, hP2, hl2, hm2⟩ := hM
      obtain ⟨sa, sx, hsa, hS2, hL2⟩ := Is.tup hP2
      cases hsa
      walk_at "rd"
      refine i_slT hS2 fun p3 H3 e3 h3 => ?_
      walk_at "rd"
      refine i_newT (line_of (by simp)) fun t4 H4 ht4 e4 h4 => ?_
      rw [cut_upto (by decide)] at h3
      have e24 := e3.trans e4
      refine k t4 v1 (.ref p3) ns (ps'.take 60) H4 (by walk_at "fr") (by walk_at "fd") (SqT.of h4) (hN2.nm_fz e24.fz) (Is.of_tup (e4.seqT h3) ?_) ⟨hH.names, hH.few, by rw [List.length_take]; omega, fun p hp => hm2 p (List.mem_of_mem_take hp)⟩
      rw [List.map_take]
      exact IsL.take 60 (IsL.mono e24 _ _ hL2)
noncomputable def tupD : PyData → Bool
  | .tuple _ => true
  | _ => false
noncomputable def strD : PyData → Bool
  | .str _ => true
  | _ => false
theorem isTupD {K : PySem.W.Frag} {H : Hp} {Q : VK} {D : PyData} {v : V} (h : Is K H D v) (k : Q (.bl (tupD D)) H) : rIsinst K [v, .ty "tuple"] H Q := by
  cases D with
  | none => simp only [Is] at h; subst h; exact i_isi .non (b := false) (by rfl) k
  | bool b => simp only [Is] at h; subst h; exact i_isi (.bl b) (b := false) (by rfl) k
  | int b => simp only [Is] at h; subst h; exact i_isi (.int b) (b := false) (by rfl) k
  | str b => simp only [Is] at h; subst h; exact i_isi (.str b) (b := false) (by rfl) k
  | list ds => simp only [Is] at h; obtain ⟨a, xs, rfl, h1, _⟩ := h; exact i_isiL h1 (b := false) (by rfl) k
  | tuple ds => simp only [Is] at h; obtain ⟨a, xs, rfl, h1, _⟩ := h; exact i_isiT h1 (b := true) (by rfl) k
  | dict _ => simp only [Is] at h
theorem isStrD {K : PySem.W.Frag} {H : Hp} {Q : VK} {D : PyData} {v : V} (h : Is K H D v) (k : Q (.bl (strD D)) H) : rIsinst K [v, .ty "str"] H Q := by
  cases D with
  | none => simp only [Is] at h; subst h; exact i_isi .non (b := false) (by rfl) k
  | bool b => simp only [Is] at h; subst h; exact i_isi (.bl b) (b := false) (by rfl) k
  | int b => simp only [Is] at h; subst h; exact i_isi (.int b) (b := false) (by rfl) k
  | str b => simp only [Is] at h; subst h; exact i_isi (.str b) (b := true) (by rfl) k
  | list ds => simp only [Is] at h; obtain ⟨a, xs, rfl, h1, _⟩ := h; exact i_isiL h1 (b := false) (by rfl) k
  | tuple ds => simp only [Is] at h; obtain ⟨a, xs, rfl, h1, _⟩ := h; exact i_isiT h1 (b := false) (by rfl) k
  | dict _ => simp only [Is] at h
theorem len12 {K : PySem.W.Frag} {H : Hp} {Q : VK} {a : Addr} {xs : List V} (h : SqT K H a xs) (k : Q (.int xs.length) H) : rLenA K [.ref a] H Q := .inl ⟨.ref a, _, rfl, .inr ⟨xs, h, rfl⟩, k⟩
theorem wt_mem : ∀ {ds : List PyData} {e : PyData}, e ∈ ds → e.weight ≤ PyData.weightAll ds
  | d :: ds, e, h => by
    simp only [PyData.weightAll]
    rcases List.mem_cons.mp h with rfl | h
    · omega
    · have := wt_mem h
      omega
noncomputable def az : Str := "abcdefghijklmnopqrstuvwxyz"
noncomputable def small (c : Nat) : Bool := !(Builtin.Str.occurrences az ⟨#[c]⟩ 0 az.length 1).isEmpty
noncomputable def isName (x : Str) : Bool := decide (1 ≤ x.length) && decide (x.length ≤ 8) && x.cps.toList.all small
noncomputable def nameD : PyData → Bool
  | .str x => isName x
  | _ => false
noncomputable def sp_is_name (K : PySem.W.Frag) : Sp := fun vs H Q _ => ∃ v D n w W, vs = [v] ∧ Is K H D v ∧ Dk n w W D ∧ w ≤ 1000000 ∧ ∀ H', Same H H' → Q (.bl (nameD D)) H'
noncomputable def sp__law_is_name (K : PySem.W.Frag) : Sp := sp_is_name K
theorem nameD_no {D : PyData} (h : strD D = false) : nameD D = false := by cases D <;> first | rfl | cases h
theorem ok_is_name {f : Addr} {fd : FuncData} (F : Fun K "is_name" "is_name" s_is_name f fd) (T : TopF mg) : FnOk P w K mg base CX0 1 f fd ["thing"] (sp_is_name K) := by
  refine F.ok sc_is_name (fun vs H Q E h => ?_) (fun cdv A outer s H vs Q E hr h => ?_)
  · obtain ⟨v, D, n, w, W, rfl, _⟩ := h
    rfl
  · obtain ⟨v, D, n, w, W, rfl, hI, hD, hw, k⟩ := h
    have hu := hu_of hr
    have hq := qa_of hr
    with_reducible refine ⟨_, (pss_cons (ps_if (pt_not (pt_val (pe_callB (call_isinstK (K := K)) (by with_unfolding_all rfl) T.b_isinstance PyProof.Rows.Boot.«isinstance» (pa_cons (pv 0) (pa_cons (pe_bltn (v := .ty "str") (by with_unfolding_all rfl) T.b_str PyProof.Rows.Boot.«str» (by with_unfolding_all rfl)) pa_nil))))) (pss_one (ps_ret pe_bl)) pss_nil)
      (pss_cons (ps_if (PW.pt (pw_or (pt_cmpR op_lt (pe_callB (call_lenK (K := K)) (by with_unfolding_all rfl) T.b_len PyProof.Rows.Boot.«len» (pa_cons (pv 0) pa_nil)) pe_int (nomark _)) (pw_or1 (pt_cmpR op_gt (pe_callB (call_lenK (K := K)) (by with_unfolding_all rfl) T.b_len PyProof.Rows.Boot.«len» (pa_cons (pv 0) pa_nil)) (pe_gl (by with_unfolding_all rfl) T.g_MOST_SIGNS) (nomark _))))) (pss_one (ps_ret pe_bl)) pss_nil)
      (pss_one (ps_ret (pe_callB (call_allK (K := K) (by with_unfolding_all rfl)) (by with_unfolding_all rfl) T.b_all PyProof.Rows.Boot.«all» (pa_cons (pe_comp ["sign"] [] [] (by with_unfolding_all rfl) (by with_unfolding_all rfl) (by with_unfolding_all rfl) (pi_anyK (K := K) hu (pv 0)) (fun _ _ _ _ => (pg_name (i := 0) (by with_unfolding_all (show (["sign"] : List Str).Nodup; decide +kernel)) (by with_unfolding_all rfl) (by with_unfolding_all exact Or.inl rfl))) (gk_name (by decide)) (fun _ _ _ _ => pif_nil) (fun _ _ _ _ => (pe_cmpR (op_inK (K := K) hq) (pv 0) (pe_gl (by with_unfolding_all rfl) T.g_SMALL_LETTERS) (by with_unfolding_all rfl)))) pa_nil)))))), ?_⟩
    walk_at "rd"
    cases hT : strD D with
    | true =>
      obtain ⟨x, rfl⟩ : ∃ z, D = .str z := by cases D <;> first | exact ⟨_, rfl⟩ | cases hT
      have hv : v = .str x := by simpa only [Is] using hI
      subst hv
      have hx : x.length ≤ 1000000 := Nat.le_trans hD.str.2 hw
      have k : ∀ H', Same H H' → Q (.bl (isName x)) H' := k
      refine i_isi (TyOf.str x) (b := true) (by rfl) ?_
      walk_at "rd"
      refine iteD (fun h1 => ?_) (fun h1 => ?_)
      · walk_at "rd"
        have e : isName x = false := by
          unfold isName
          rw [decide_eq_false (by omega : ¬ 1 ≤ x.length)]
          rfl
        have := k H (Same.refl H)
        rw [e] at this
        exact this
      · walk_at "rd"
        refine iteD (fun h2 => ?_) (fun h2 => ?_)
        · walk_at "rd"
          have e : isName x = false := by
            unfold isName
            rw [decide_eq_false (by omega : ¬ x.length ≤ 8), Bool.and_false]
            rfl
          have := k H (Same.refl H)
          rw [e] at this
          exact this
        · walk_at "rd"
          refine comp_map (walk_str x) (fun v => .bl (match v with | .str z => !(Builtin.Str.occurrences az z 0 az.length 1).isEmpty | _ => false)) (by rw [List.length_map, Array.length_toList]; exact hx) (fun _ _ => trivial) (fun i v H1 R hv e hR => ?_) fun p H' hp e h => ?_
          · obtain ⟨c, rfl, _⟩ := sign_of hv
            walk_at "rd"
            exact hR
          · walk_at "rd"
            have e1 : (x.cps.toList.map fun c => V.str ⟨#[c]⟩).map (fun v => V.bl (match v with | .str z => !(Builtin.Str.occurrences az z 0 az.length 1).isEmpty | _ => false)) = (x.cps.toList.map small).map V.bl := by
              rw [List.map_map, List.map_map]
              rfl
            rw [e1] at h
            refine i_all (SqL.of h) ?_
            have e2 : isName x = (x.cps.toList.map small).all id := by
              unfold isName
              rw [decide_eq_true (by omega : 1 ≤ x.length), decide_eq_true (by omega : x.length ≤ 8), List.all_map]
              rfl
            have := k H' e
            rw [e2] at this
            exact this
    | false =>
      have k := k H (Same.refl H)
      rw [nameD_no hT] at k
      refine isStrD hI ?_
      rw [hT]
      walk_at "rd"
      exact k
theorem find_small {c : Nat} : 0 ≤ Txt.find az ⟨#[c]⟩ ↔ small c = true := by
  unfold Txt.find small
  cases e : Builtin.Str.occurrences az ⟨#[c]⟩ 0 az.length 1 with
  | nil => simp
  | cons i r => simp
theorem ok__law_is_name {f : Addr} {fd : FuncData} (F : Fun K "_law_is_name" "_law_is_name" s__law_is_name f fd) (T : TopF mg) : FnOk P w K mg base CX0 1 f fd ["_law_thing"] (sp__law_is_name K) := by
  refine F.ok sc__law_is_name (fun vs H Q E h => ?_) (fun cdv A outer s H vs Q E hr h => ?_)
  · obtain ⟨v, D, n, w, W, rfl, _⟩ := h
    rfl
  · obtain ⟨v, D, n, w, W, rfl, hI, hD, hw, k⟩ := h
    have hu := hu_of hr
    have hq := qa_of hr
    with_reducible refine ⟨_, (pss_cons (ps_if (PW.pt (pw_or (pt_not (pt_val (pe_callB (call_isinstK (K := K)) (by with_unfolding_all rfl) T.b_isinstance PyProof.Rows.Boot.«isinstance» (pa_cons (pv 0) (pa_cons (pe_bltn (v := .ty "str") (by with_unfolding_all rfl) T.b_str PyProof.Rows.Boot.«str» (by with_unfolding_all rfl)) pa_nil))))) (pw_or (pt_cmpR (op_eqK (K := K) hq) (pe_callB (call_lenK (K := K)) (by with_unfolding_all rfl) T.b_len PyProof.Rows.Boot.«len» (pa_cons (pv 0) pa_nil)) pe_int (nomark _)) (pw_or1 (pt_cmpR op_gt (pe_callB (call_lenK (K := K)) (by with_unfolding_all rfl) T.b_len PyProof.Rows.Boot.«len» (pa_cons (pv 0) pa_nil)) pe_int (nomark _)))))) (pss_one (ps_ret pe_bl)) pss_nil)
      (pss_one (ps_ret (pe_cmpR op_ge (pe_callB (call_minK (K := K) (by with_unfolding_all rfl)) (by with_unfolding_all rfl) T.b_min PyProof.Rows.Boot.«min» (pa_cons (pe_comp ["_law_sign"] [] [] (by with_unfolding_all rfl) (by with_unfolding_all rfl) (by with_unfolding_all rfl) (pi_anyK (K := K) hu (pv 0)) (fun _ _ _ _ => (pg_name (i := 0) (by with_unfolding_all (show (["_law_sign"] : List Str).Nodup; decide +kernel)) (by with_unfolding_all rfl) (by with_unfolding_all exact Or.inl rfl))) (gk_name (by decide)) (fun _ _ _ _ => pif_nil) (fun _ _ _ _ => (pe_bmK (K := K) PySem.F.plainAttrs_str PySem.F.slot_str_find PySem.F.type_str_find mt_find pe_str (pa_cons (pv 0) pa_nil)))) pa_nil)) pe_int (nomark _))))), ?_⟩
    walk_at "rd"
    cases hT : strD D with
    | true =>
      obtain ⟨x, rfl⟩ : ∃ z, D = .str z := by cases D <;> first | exact ⟨_, rfl⟩ | cases hT
      have hv : v = .str x := by simpa only [Is] using hI
      subst hv
      have hx : x.length ≤ 1000000 := Nat.le_trans hD.str.2 hw
      have k : ∀ H', Same H H' → Q (.bl (isName x)) H' := k
      refine i_isi (TyOf.str x) (b := true) (by rfl) ?_
      walk_at "rd"
      refine iteD (fun h1 => ?_) (fun h1 => ?_)
      · walk_at "rd"
        have h1' : ((x.length : Nat) : Int) = 0 := V.int.inj h1
        have e : isName x = false := by
          unfold isName
          rw [decide_eq_false (by omega : ¬ 1 ≤ x.length)]
          rfl
        have := k H (Same.refl H)
        rw [e] at this
        exact this
      · have h1' : ¬ ((x.length : Nat) : Int) = 0 := fun z => h1 (by rw [z])
        walk_at "rd"
        refine iteD (fun h2 => ?_) (fun h2 => ?_)
        · walk_at "rd"
          have e : isName x = false := by
            unfold isName
            rw [decide_eq_false (by omega : ¬ x.length ≤ 8), Bool.and_false]
            rfl
          have := k H (Same.refl H)
          rw [e] at this
          exact this
        · walk_at "rd"
          refine comp_map (walk_str x) (fun v => .int (match v with | .str z => Txt.find az z | _ => 0)) (by rw [List.length_map, Array.length_toList]; exact hx) (fun _ _ => trivial) (fun i v H1 R hv e hR => ?_) fun p H' hp e h => ?_
          · obtain ⟨c, rfl, _⟩ := sign_of hv
            walk_at "rd"
            exact hR
          · walk_at "rd"
            have e1 : (x.cps.toList.map fun c => V.str ⟨#[c]⟩).map (fun v => V.int (match v with | .str z => Txt.find az z | _ => 0)) = (x.cps.toList.map fun c => Txt.find az ⟨#[c]⟩).map V.int := by
              rw [List.map_map, List.map_map]
              rfl
            rw [e1] at h
            refine i_min (SqL.of h) ?_ fun M hM hall => ?_
            · intro z
              have := congrArg List.length z
              rw [List.length_map, Array.length_toList] at this
              have h3 : x.length = 0 := this
              omega
            · walk_at "rd"
              have e2 : isName x = decide (0 ≤ M) := by
                unfold isName
                rw [decide_eq_true (by omega : 1 ≤ x.length), decide_eq_true (by omega : x.length ≤ 8)]
                rw [Bool.and_true, Bool.true_and, Bool.eq_iff_iff, List.all_eq_true, decide_eq_true_eq]
                constructor
                · intro hs
                  obtain ⟨c, hc, rfl⟩ := List.mem_map.mp hM
                  exact find_small.mpr (hs c hc)
                · intro h0 c hc
                  exact find_small.mp (Int.le_trans h0 (hall _ (List.mem_map_of_mem hc)))
              have := k H' e
              rw [e2] at this
              exact this
    | false =>
      have k := k H (Same.refl H)
      rw [nameD_no hT] at k
      refine isStrD hI ?_
      rw [hT]
      walk_at "rd"
      exact k
theorem perm_sub {α : Type} [DecidableEq α] : ∀ {as bs : List α}, as.Nodup → (∀ z ∈ as, z ∈ bs) → bs.length ≤ as.length → as.Perm bs
  | [], bs, _, _, hl => by rw [List.length_eq_zero_iff.mp (Nat.le_zero.mp hl)]
  | a :: as, bs, hn, hs, hl => by
    have ha : a ∈ bs := hs a (by simp)
    obtain ⟨h1, h2⟩ := List.nodup_cons.mp hn
    have ih := perm_sub (as := as) (bs := bs.erase a) h2 (fun z hz => (List.mem_erase_of_ne (fun e : z = a => h1 (by rw [← e]; exact hz))).mpr (hs z (by simp [hz]))) (by rw [List.length_erase_of_mem ha]; simp at hl; omega)
    exact (List.Perm.cons a ih).trans (List.perm_cons_erase ha).symm
noncomputable def UnD (D : PyData) : Prop := ∃ ns : List Str, D = nmD ns ∧ (∀ z ∈ ns, isName z = true) ∧ ns.Nodup
theorem names_of {ds : List PyData} (h : ∀ e ∈ ds, nameD e = true) : ∃ ns : List Str, ds = ns.map PyData.str ∧ ∀ z ∈ ns, isName z = true := by
  induction ds with
  | nil => exact ⟨[], rfl, fun z hz => by cases hz⟩
  | cons d ds ih =>
    obtain ⟨ns, rfl, hn⟩ := ih fun e he => h e (List.mem_cons_of_mem _ he)
    have := h d (by simp)
    cases d with
    | str z => exact ⟨z :: ns, rfl, fun y hy => (List.mem_cons.mp hy).elim (fun e => by rw [e]; exact this) (hn y)⟩
    | _ => cases this
noncomputable def sp_are_unlike_names (K : PySem.W.Frag) : Sp := fun vs H Q _ => ∃ v D n w W, vs = [v] ∧ Is K H D v ∧ Dk n w W D ∧ w ≤ 1000000 ∧ W ≤ 1000 ∧ ∀ b H', Same H H' → (b = true ↔ UnD D) → Q (.bl b) H'
theorem ok_are_unlike_names {f : Addr} {fd : FuncData} (F : Fun K "are_unlike_names" "are_unlike_names" s_are_unlike_names f fd) (T : TopF mg) (c_is_name : Fnd P w K mg base 1 "is_name" ["thing"] (sp_is_name K)) : FnOk P w K mg base CX0 2 f fd ["thing"] (sp_are_unlike_names K) := by
  refine F.ok sc_are_unlike_names (fun vs H Q E h => ?_) (fun cdv A outer s H vs Q E hr h => ?_)
  · obtain ⟨v, D, n, w, W, rfl, _⟩ := h
    rfl
  · obtain ⟨v, D, n, w, W, rfl, hI, hD, hw, hW, k⟩ := h
    have hu := hu_of hr
    have hq := qa_of hr
    with_reducible refine ⟨_, (pss_cons (ps_if (pt_not (pt_val (pe_callB (call_isinstK (K := K)) (by with_unfolding_all rfl) T.b_isinstance PyProof.Rows.Boot.«isinstance» (pa_cons (pv 0) (pa_cons (pe_bltn (v := .ty "tuple") (by with_unfolding_all rfl) T.b_tuple PyProof.Rows.Boot.«tuple» (by with_unfolding_all rfl)) pa_nil))))) (pss_one (ps_ret pe_bl)) pss_nil)
      (pss_cons (ps_if (pt_not (pt_val (pe_callB (call_allK (K := K) (by with_unfolding_all rfl)) (by with_unfolding_all rfl) T.b_all PyProof.Rows.Boot.«all» (pa_cons (pe_comp ["name"] [] [] (by with_unfolding_all rfl) (by with_unfolding_all rfl) (by with_unfolding_all rfl) (pi_anyK (K := K) hu (pv 0)) (fun _ _ _ _ => (pg_name (i := 0) (by with_unfolding_all (show (["name"] : List Str).Nodup; decide +kernel)) (by with_unfolding_all rfl) (by with_unfolding_all exact Or.inl rfl))) (gk_name (by decide)) (fun _ _ _ _ => pif_nil) (fun _ _ _ _ => (pe_fn c_is_name (hr.mono (by decide)) (by with_unfolding_all rfl) (pa_cons (pv 0) pa_nil)))) pa_nil)))) (pss_one (ps_ret pe_bl)) pss_nil)
      (pss_one (ps_ret (pe_cmpR (op_eqK (K := K) hq) (pe_lenset (K := K) hr.hd (by with_unfolding_all rfl) T.b_len (by with_unfolding_all rfl) T.b_set (pa_cons (pv 0) pa_nil)) (pe_callB (call_lenK (K := K)) (by with_unfolding_all rfl) T.b_len PyProof.Rows.Boot.«len» (pa_cons (pv 0) pa_nil)) (nomark _)))))), ?_⟩
    walk_at "rd"
    refine isTupD hI ?_
    cases hT : tupD D with
    | false =>
      walk_at "rd"
      refine k false H (.refl H) ⟨fun h => (by cases h), fun ⟨ns, e, _⟩ => ?_⟩
      rw [e] at hT
      cases hT
    | true =>
      obtain ⟨ds, rfl⟩ : ∃ ds, D = .tuple ds := by cases D <;> first | exact ⟨_, rfl⟩ | cases hT
      obtain ⟨va, xs, rfl, hS, hX⟩ := hI.tup
      have hxl := IsL.length hX
      obtain ⟨m, rfl⟩ : ∃ m, n = m + 1 := ⟨n - 1, by have := hD.dp; simp only [PyData.depth] at this; omega⟩
      have hE := hD.els
      have hwl : ds.length ≤ W := hE.len
      walk_at "rd"
      refine i_itT hS ?_
      refine comp_bls (K := K) (walk_tup (xs := xs)) ds hxl nameD (by omega) (fun H' e => e.seqT hS) (fun i z xv H1 R hz' hxv e1 hR => ?_) (fun q H1 hq1 e1 h1 => ?_)
      · obtain ⟨d', hd', hIz⟩ := IsL.get (IsL.mono e1 _ _ hX) hxv
        rw [hz'] at hd'
        cases hd'
        have hmem := List.mem_of_getElem? hz'
        obtain ⟨uu, huu⟩ := hE.all z hmem
        walk_at "rd"
        exact ⟨xv, z, m, w, W, rfl, hIz, ⟨huu.asc, huu.lay, huu.sh, huu.lv, huu.dp, Nat.le_trans (wt_mem hmem) hE.wt, huu.wd⟩, by omega, hR⟩
      · walk_at "rd"
        refine i_all h1 ?_
        cases hA : (ds.map nameD).all id with
        | false =>
          walk_at "rd"
          refine k false H1 e1 ⟨fun h => (by cases h), fun ⟨ns, e, hn, _⟩ => ?_⟩
          injection e with e
          subst e
          rw [List.all_map, List.all_map] at hA
          have : ns.all ((id ∘ nameD) ∘ PyData.str) = true := List.all_eq_true.mpr fun z hz => hn z hz
          rw [this] at hA
          cases hA
        | true =>
          rw [List.all_map, List.all_eq_true] at hA
          obtain ⟨ns, rfl, hn⟩ := names_of hA
          have exs := IsL.str_eq hX
          subst exs
          rw [List.length_map] at hwl
          walk_at "rd"
          refine i_lenset (e1.seqT hS) (by omega) ?_
          walk_at "rd"
          refine len12 (e1.seqT hS) ?_
          walk_at "rd"
          refine k _ H1 e1 ?_
          rw [decide_eq_true_eq, List.length_map]
          constructor
          · intro h
            have h := V.int.inj h
            have hlen : (addAll [] ns).length = ns.length := by omega
            have hp := perm_sub (nodup_addAll (ms := ns) (ks := []) .nil) (fun z hz => (mem_addAll.mp hz).elim (fun h => by cases h) id) (by omega)
            exact ⟨ns, rfl, hn, hp.nodup_iff.mp (nodup_addAll .nil)⟩
          · rintro ⟨ns', e, _, hnd⟩
            have e : ns.map PyData.str = ns'.map PyData.str := by injection e
            have e2 : ns = ns' := by
              have := congrArg (List.map fun d => match d with | PyData.str z => z | _ => ("" : Str)) e
              simpa [List.map_map, Function.comp_def] using this
            rw [e2, addAll_nd hnd]
noncomputable def TnD (D : PyData) : Prop := ∃ ns : List Str, D = nmD ns ∧ (∀ z ∈ ns, isName z = true) ∧ ns.Nodup ∧ ns.length ≤ 10
noncomputable def sp_are_tale_names (K : PySem.W.Frag) : Sp := fun vs H Q _ => ∃ v D n w W, vs = [v] ∧ Is K H D v ∧ Dk n w W D ∧ w ≤ 1000000 ∧ W ≤ 1000 ∧ ∀ b H', Same H H' → (b = true ↔ TnD D) → Q (.bl b) H'
noncomputable def sp__law_are_names (K : PySem.W.Frag) : Sp := sp_are_tale_names K
theorem nmD_inj {ns ms : List Str} (h : nmD ns = nmD ms) : ns = ms := by
  have e : ns.map PyData.str = ms.map PyData.str := by injection h
  have := congrArg (List.map fun d => match d with | PyData.str z => z | _ => ("" : Str)) e
  simpa [List.map_map, Function.comp_def] using this
theorem no_twice {ns : List Str} : (!((ns.map fun z => decide (1 < ns.countP fun y => decide (y = z))).any id)) = true ↔ ns.Nodup := by
  have ec : ∀ z, (ns.countP fun y => decide (y = z)) = ns.count z := fun z => by
    unfold List.count
    exact List.countP_congr fun y _ => by simp
  rw [Bool.not_eq_true', List.any_eq_false, List.nodup_iff_count]
  constructor
  · intro h z
    by_cases hz : z ∈ ns
    · have := h _ (List.mem_map_of_mem (f := fun z => decide (1 < ns.countP fun y => decide (y = z))) hz)
      rw [ec] at this
      simp at this
      omega
    · rw [List.count_eq_zero.mpr hz]
      omega
  · intro h b hb
    obtain ⟨z, hz, rfl⟩ := List.mem_map.mp hb
    have := h z
    rw [ec]
    simp
    omega
theorem ok_are_tale_names {f : Addr} {fd : FuncData} (F : Fun K "are_tale_names" "are_tale_names" s_are_tale_names f fd) (T : TopF mg) (c_are_unlike_names : Fnd P w K mg base 2 "are_unlike_names" ["thing"] (sp_are_unlike_names K)) : FnOk P w K mg base CX0 3 f fd ["thing"] (sp_are_tale_names K) := by
  refine F.ok sc_are_tale_names (fun vs H Q E h => ?_) (fun cdv A outer s H vs Q E hr h => ?_)
  · obtain ⟨v, D, n, w, W, rfl, _⟩ := h
    rfl
  · obtain ⟨v, D, n, w, W, rfl, hI, hD, hw, hW, k⟩ := h
    have hu := hu_of hr
    have hq := qa_of hr
    with_reducible refine ⟨_, (pss_one (ps_ret (pe_and (pe_fn c_are_unlike_names (hr.mono (by decide)) (by with_unfolding_all rfl) (pa_cons (pv 0) pa_nil)) (pe_one (pe_cmpR op_le (pe_callB (call_lenK (K := K)) (by with_unfolding_all rfl) T.b_len PyProof.Rows.Boot.«len» (pa_cons (pv 0) pa_nil)) (pe_gl (by with_unfolding_all rfl) T.g_MOST_NAMES) (nomark _)))))), ?_⟩
    walk_at "rd"
    refine ⟨v, D, n, w, W, rfl, hI, hD, hw, hW, fun b H1 e1 hb => ?_⟩
    cases b with
    | false =>
      walk_at "rd"
      exact k false H1 e1 ⟨fun h => (by cases h), fun ⟨ns, e, h1, h2, _⟩ => hb.mpr ⟨ns, e, h1, h2⟩⟩
    | true =>
      obtain ⟨ns, rfl, h1, h2⟩ := hb.mp rfl
      have hI1 := hI.nm_fz e1.fz
      walk_at "rd"
      refine i_lenN hI1 ?_
      walk_at "rd"
      refine k _ H1 e1 ?_
      rw [decide_eq_true_eq]
      exact ⟨fun h => ⟨ns, rfl, h1, h2, by omega⟩, fun ⟨ms, e, _, _, h⟩ => by rw [nmD_inj e]; omega⟩
theorem ok__law_are_names {f : Addr} {fd : FuncData} (F : Fun K "_law_are_names" "_law_are_names" s__law_are_names f fd) (T : TopF mg) (c__law_is_name : Fnd P w K mg base 1 "_law_is_name" ["_law_thing"] (sp__law_is_name K)) : FnOk P w K mg base CX0 2 f fd ["_law_thing"] (sp__law_are_names K) := by
  refine F.ok sc__law_are_names (fun vs H Q E h => ?_) (fun cdv A outer s H vs Q E hr h => ?_)
  · obtain ⟨v, D, n, w, W, rfl, _⟩ := h
    rfl
  · obtain ⟨v, D, n, w, W, rfl, hI, hD, hw, hW, k⟩ := h
    have hu := hu_of hr
    have hq := qa_of hr
    with_reducible refine ⟨_, (pss_cons (ps_if (PW.pt (pw_or (pt_not (pt_val (pe_callB (call_isinstK (K := K)) (by with_unfolding_all rfl) T.b_isinstance PyProof.Rows.Boot.«isinstance» (pa_cons (pv 0) (pa_cons (pe_bltn (v := .ty "tuple") (by with_unfolding_all rfl) T.b_tuple PyProof.Rows.Boot.«tuple» (by with_unfolding_all rfl)) pa_nil))))) (pw_or (pt_cmpR op_gt (pe_callB (call_lenK (K := K)) (by with_unfolding_all rfl) T.b_len PyProof.Rows.Boot.«len» (pa_cons (pv 0) pa_nil)) pe_int (nomark _)) (pw_or1 (pt_cmpR (op_inK (K := K) hq) pe_bl (pe_comp ["_law_one"] [] [] (by with_unfolding_all rfl) (by with_unfolding_all rfl) (by with_unfolding_all rfl) (pi_anyK (K := K) hu (pv 0)) (fun _ _ _ _ => (pg_name (i := 0) (by with_unfolding_all (show (["_law_one"] : List Str).Nodup; decide +kernel)) (by with_unfolding_all rfl) (by with_unfolding_all exact Or.inl rfl))) (gk_name (by decide)) (fun _ _ _ _ => pif_nil) (fun _ _ _ _ => (pe_fn c__law_is_name (hr.mono (by decide)) (by with_unfolding_all rfl) (pa_cons (pv 0) pa_nil)))) (by with_unfolding_all rfl)))))) (pss_one (ps_ret pe_bl)) pss_nil)
      (pss_one (ps_ret (pe_cmpR (op_notInK (K := K) hq) pe_bl (pe_comp ["_law_one"] ["_law_thing"] [0] (by with_unfolding_all rfl) (by with_unfolding_all rfl) (by with_unfolding_all rfl) (pi_anyK (K := K) hu (pv 0)) (fun _ _ _ _ => (pg_name (i := 0) (by with_unfolding_all (show (["_law_one", "_law_thing"] : List Str).Nodup; decide +kernel)) (by with_unfolding_all rfl) (by with_unfolding_all exact Or.inl rfl))) (gk_name (by decide)) (fun _ _ _ _ => pif_nil) (fun _ _ _ _ => (pe_cmpR op_gt (pe_bmT (K := K) PySem.F.slot_tuple_count PySem.F.type_tuple_count (mt_countTK (K := K)) (pv 1) (pa_cons (pv 0) pa_nil)) pe_int (nomark _)))) (by with_unfolding_all rfl))))), ?_⟩
    walk_at "rd"
    refine isTupD hI ⟨_, rfl, ?_⟩
    cases hT : tupD D with
    | false =>
      walk_at "rd"
      refine k false H (.refl H) ⟨fun h => (by cases h), fun ⟨ns, e, _⟩ => ?_⟩
      rw [e] at hT
      cases hT
    | true =>
      obtain ⟨ds, rfl⟩ : ∃ ds, D = .tuple ds := by cases D <;> first | exact ⟨_, rfl⟩ | cases hT
      obtain ⟨va, xs, rfl, hS, hX⟩ := hI.tup
      have hxl := IsL.length hX
      obtain ⟨m, rfl⟩ : ∃ m, n = m + 1 := ⟨n - 1, by have := hD.dp; simp only [PyData.depth] at this; omega⟩
      have hE := hD.els
      have hwl : ds.length ≤ W := hE.len
      walk_at "rd"
      refine len12 hS ?_
      walk_at "rd"
      refine iteD (fun hc => ?_) (fun hc => ?_)
      · walk_at "rd"
        refine k false H (.refl H) ⟨fun h => (by cases h), fun ⟨ns, e, _, _, hl⟩ => ?_⟩
        injection e with e
        subst e
        rw [List.length_map] at hxl
        omega
      · walk_at "rd"
        refine i_itT hS ?_
        refine comp_bls (K := K) (walk_tup (xs := xs)) ds hxl nameD (by omega) (fun H' e => e.seqT hS) (fun i z xv H1 R hz' hxv e1 hR => ?_) (fun q H1 hq1 e1 h1 => ?_)
        · obtain ⟨d', hd', hIz⟩ := IsL.get (IsL.mono e1 _ _ hX) hxv
          rw [hz'] at hd'
          cases hd'
          have hmem := List.mem_of_getElem? hz'
          obtain ⟨uu, huu⟩ := hE.all z hmem
          walk_at "rd"
          exact ⟨xv, z, m, w, W, rfl, hIz, ⟨huu.asc, huu.lay, huu.sh, huu.lv, huu.dp, Nat.le_trans (wt_mem hmem) hE.wt, huu.wd⟩, by omega, hR⟩
        · walk_at "rd"
          refine i_inBF h1 ?_
          cases hA : (ds.map nameD).all id with
          | false =>
            walk_at "rd"
            refine k false H1 e1 ⟨fun h => (by cases h), fun ⟨ns, e, hn, _⟩ => ?_⟩
            injection e with e
            subst e
            rw [List.all_map, List.all_map] at hA
            have : ns.all ((id ∘ nameD) ∘ PyData.str) = true := List.all_eq_true.mpr fun z hz => hn z hz
            rw [this] at hA
            cases hA
          | true =>
            rw [List.all_map, List.all_eq_true] at hA
            obtain ⟨ns, rfl, hn⟩ := names_of hA
            have exs := IsL.str_eq hX
            subst exs
            rw [List.length_map] at hwl hxl hc
            walk_at "rd"
            refine i_itT (e1.seqT hS) ?_
            refine comp_bls (K := K) (walk_tup (xs := ns.map V.str)) ns (by simp) (fun z => decide (1 < ns.countP fun y => decide (y = z))) (by rw [List.length_map]; omega) (fun H' e => (e1.trans e).seqT hS) (fun i z xv H2 R hz' hxv e2 hR => ?_) (fun q2 H2 hq2 e2 h2 => ?_)
            · rw [List.getElem?_map, hz'] at hxv
              cases hxv
              have hS2 := (e1.trans e2).seqT hS
              walk_at "rd"
              refine i_tyT hS2 ?_
              walk_at "rd"
              refine i_countT hS2 ?_
              walk_at "rd"
              have e : decide ((1 : Int) < ((ns.countP fun y => decide (y = z) : Nat) : Int)) = decide (1 < ns.countP fun y => decide (y = z)) := by
                rw [decide_eq_decide]
                omega
              rw [e]
              exact hR H2 (.refl _)
            · walk_at "rd"
              refine i_ninB h2 ?_
              refine k _ H2 (e1.trans e2) ?_
              rw [no_twice]
              exact ⟨fun h => ⟨ns, rfl, hn, h, by omega⟩, fun ⟨ms, e, _, h, _⟩ => by rw [nmD_inj e]; exact h⟩
noncomputable def SayD (ns : List Str) (D : PyData) : Prop := ∃ x y, D = prD (x, y) ∧ x ∈ ns ∧ y ∈ ns
noncomputable def inD (ns : List Str) : PyData → Bool
  | .str z => decide (z ∈ ns)
  | _ => false
theorem any_eqv (ns : List Str) (d : PyData) : (ns.map PyData.str).any (fun e => PyData.eqv e d) = inD ns d := by
  cases d with
  | str z =>
    rw [List.any_map, Bool.eq_iff_iff, List.any_eq_true]
    show _ ↔ decide (z ∈ ns) = true
    rw [decide_eq_true_eq]
    constructor
    · rintro ⟨y, hy, h⟩
      have h : PyData.eqv (.str y) (.str z) = true := h
      simp only [PyData.eqv] at h
      have : y = z := by simpa using h
      rw [← this]
      exact hy
    · intro h
      refine ⟨z, h, ?_⟩
      show PyData.eqv (.str z) (.str z) = true
      simp only [PyData.eqv]
      simp
  | _ =>
    rw [List.any_map]
    refine List.any_eq_false.mpr fun y _ => ?_
    simp only [Function.comp, PyData.eqv]
    simp
theorem say_two (ns : List Str) (d0 d1 : PyData) : (inD ns d0 = true ∧ inD ns d1 = true) ↔ SayD ns (.tuple [d0, d1]) := by
  constructor
  · rintro ⟨h0, h1⟩
    cases d0 with
    | str x =>
      cases d1 with
      | str y => exact ⟨x, y, rfl, of_decide_eq_true h0, of_decide_eq_true h1⟩
      | _ => cases h1
    | _ => cases h0
  · rintro ⟨x, y, e, hx, hy⟩
    have e : d0 = .str x ∧ d1 = .str y := by simpa [prD] using e
    rw [e.1, e.2]
    exact ⟨decide_eq_true hx, decide_eq_true hy⟩
noncomputable def sp_is_saying (K : PySem.W.Frag) : Sp := fun vs H Q _ => ∃ v u D n w W ns n' w' W', vs = [v, u] ∧ Is K H D v ∧ Dk n w W D ∧ n ≤ 60 ∧ Is K H (nmD ns) u ∧ Dk n' w' W' (nmD ns) ∧ ∀ b H', Same H H' → (b = true ↔ SayD ns D) → Q (.bl b) H'
theorem ok_is_saying {f : Addr} {fd : FuncData} (F : Fun K "is_saying" "is_saying" s_is_saying f fd) (T : TopF mg) : FnOk P w K mg base CX0 1 f fd ["thing", "names"] (sp_is_saying K) := by
  refine F.ok sc_is_saying (fun vs H Q E h => ?_) (fun cdv A outer s H vs Q E hr h => ?_)
  · obtain ⟨v, u, D, n, w, W, ns, n', w', W', rfl, _⟩ := h
    rfl
  · obtain ⟨v, u, D, n, w, W, ns, n', w', W', rfl, hI, hD, hn60, hU, hN, k⟩ := h
    have hu := hu_of hr
    have hq := qa_of hr
    with_reducible refine ⟨_, (pss_one (ps_ret (pe_and (pe_callB (call_isinstK (K := K)) (by with_unfolding_all rfl) T.b_isinstance PyProof.Rows.Boot.«isinstance» (pa_cons (pv 0) (pa_cons (pe_bltn (v := .ty "tuple") (by with_unfolding_all rfl) T.b_tuple PyProof.Rows.Boot.«tuple» (by with_unfolding_all rfl)) pa_nil))) (pe_and (pe_cmpR (op_eqK (K := K) hq) (pe_callB (call_lenK (K := K)) (by with_unfolding_all rfl) T.b_len PyProof.Rows.Boot.«len» (pa_cons (pv 0) pa_nil)) pe_int (nomark _)) (pe_and (pe_cmpR (op_inK (K := K) hq) (pe_ix (ix_anyK (K := K) hu) (pv 0) pe_int (by with_unfolding_all exact fun _ _ => rfl)) (pv 1) (by with_unfolding_all rfl)) (pe_one (pe_cmpR (op_inK (K := K) hq) (pe_ix (ix_anyK (K := K) hu) (pv 0) pe_int (by with_unfolding_all exact fun _ _ => rfl)) (pv 1) (by with_unfolding_all rfl)))))))), ?_⟩
    walk_at "rd"
    refine isTupD hI ?_
    cases hT : tupD D with
    | false =>
      walk_at "rd"
      refine k false H (.refl H) ⟨fun h => (by cases h), fun ⟨x, y, e, _⟩ => ?_⟩
      rw [e] at hT
      cases hT
    | true =>
      obtain ⟨ds, rfl⟩ : ∃ ds, D = .tuple ds := by cases D <;> first | exact ⟨_, rfl⟩ | cases hT
      obtain ⟨va, xs, rfl, hS, hX⟩ := hI.tup
      have hxl := IsL.length hX
      obtain ⟨m, rfl⟩ : ∃ m, n = m + 1 := ⟨n - 1, by have := hD.dp; simp only [PyData.depth] at this; omega⟩
      have hE := hD.els
      walk_at "rd"
      refine len12 hS ?_
      walk_at "rd"
      refine iteD (fun hc => ?_) (fun hc => ?_)
      · have hc : xs.length = 2 := by have := V.int.inj hc; omega
        obtain ⟨d0, d1, rfl⟩ : ∃ d0 d1, ds = [d0, d1] := by
          match ds, hxl.trans hc with
          | [a, b], _ => exact ⟨a, b, rfl⟩
        obtain ⟨x0, x1, rfl⟩ : ∃ d0 d1, xs = [d0, d1] := by
          match xs, hc with
          | [a, b], _ => exact ⟨a, b, rfl⟩
        simp only [L2.IsL] at hX
        obtain ⟨_, _, e0, i0, _, _, e1, i1, _⟩ := hX
        cases e0
        cases e1
        obtain ⟨u0, k0⟩ := hE.all d0 (by simp)
        obtain ⟨u1, k1⟩ := hE.all d1 (by simp)
        have hNL : PyData.canLayAll0 (ns.map PyData.str) = true := by have := hN.lay; simpa only [nmD, PyData.canLay0] using this
        have iff : ∀ b : Bool, (b = true ↔ inD ns d0 = true ∧ inD ns d1 = true) → (b = true ↔ SayD ns (.tuple [d0, d1])) := fun b hb => hb.trans (say_two ns d0 d1)
        walk_at "rd"
        refine i_ixQ hS (show atI _ 0 = some x0 from rfl) ?_
        walk_at "rd"
        refine i_inX i0 (.inr hU) hNL k0.lay (Nat.le_trans k0.dp (by omega)) ?_
        rw [any_eqv]
        cases h0 : inD ns d0 with
        | false =>
          walk_at "rd"
          exact k false H (.refl H) (iff false ⟨fun h => (by cases h), fun h => (by rw [h0] at h; exact h.1)⟩)
        | true =>
          walk_at "rd"
          refine i_ixQ hS (show atI _ 1 = some x1 from rfl) ?_
          walk_at "rd"
          refine i_inX i1 (.inr hU) hNL k1.lay (Nat.le_trans k1.dp (by omega)) ?_
          rw [any_eqv]
          exact k _ H (.refl H) (iff _ ⟨fun h => ⟨h0, h⟩, fun h => h.2⟩)
      · refine k false H (.refl H) ⟨fun h => (by cases h), fun ⟨x, y, e, _⟩ => ?_⟩
        have e : ds = [.str x, .str y] := by simpa only [prD, PyData.tuple.injEq] using e
        rw [e] at hxl
        exact absurd (by rw [← hxl]; rfl) hc
local macro_rules | `(tactic| walk_at "rq1") => `(tactic| with_reducible first | refine i_tMkX ?_ | refine i_tMkX0 ?_ | refine i_tFldX ?_ | refine i_sFldX ?_)
theorem len1 {ws : List V} {a : Str} (h : ws.length = [a].length) : ∃ v, ws = [v] := by
  match ws, h with
  | [v], _ => exact ⟨v, rfl⟩
theorem ok_NoText_init {f : Addr} {fd : FuncData} (F : Fun K "__init__" "NoText.__init__" s_NoText_init f fd) (T : TopF mg) {C_HalfError : Addr} {C_NoText : Addr} (x_HalfError : Xls_HalfError K mg C_HalfError C_HalfError) (x_NoText : Xls_NoText K mg C_NoText C_HalfError) : FnOk P w K mg base CX0 1 f fd ["self", "row"] (spX C_NoText ["row"]) := by
  refine F.ok sc_NoText_init (fun vs H Q E h => ?_) (fun cdv A outer s H vs Q E hr h => ?_)
  · obtain ⟨a, ws, rfl, hl, _⟩ := h
    obtain ⟨v, rfl⟩ := len1 hl
    rfl
  · obtain ⟨a, ws, rfl, hl, ha, k⟩ := h
    obtain ⟨v, rfl⟩ := len1 hl
    with_reducible refine ⟨_, (pss_one (ps_fldXK (K := K) (pv 0) (pv 1) (by with_unfolding_all rfl))), ?_⟩
    walk_at "rd"
    refine i_stX0 ha x_NoText.xc x_NoText.n_row fun dx H1 h1 h2 h3 h4 h5 => ?_
    walk_at "rd"
    exact k dx H1 h1 h2 h3 h4 h5
theorem wt_all {k : Nat} : ∀ {ds : List PyData}, (∀ e ∈ ds, e.weight ≤ k) → PyData.weightAll ds ≤ ds.length * (k + 1)
  | [], _ => by simp only [PyData.weightAll]; omega
  | d :: ds, h => by
    have h1 := h d (by simp)
    have h2 := wt_all (ds := ds) fun e he => h e (by simp [he])
    simp only [PyData.weightAll, List.length_cons, Nat.succ_mul]
    omega
theorem nm_asc {z : Str} (h : isNm z = true) : Asc z := fun c hc => by
  unfold isNm at h
  rw [Bool.and_eq_true, List.all_eq_true] at h
  have := h.2 c hc
  unfold smallN at this
  rw [Bool.and_eq_true, decide_eq_true_eq, decide_eq_true_eq] at this
  omega
noncomputable def sp__law_lines (K : PySem.W.Frag) : Sp := fun vs H Q _ => ∃ v ns ps, vs = [v] ∧ Is K H (hfD ns ps) v ∧ Tale ns ps ∧ ∀ q H', H q = none → Same H H' → H' q = some (.lst ((lnD ns ps).map V.str)) → Q (.ref q) H'
theorem ok__law_lines {f : Addr} {fd : FuncData} (F : Fun K "_law_lines" "_law_lines" s__law_lines f fd) (T : TopF mg) : FnOk P w K mg base CX0 1 f fd ["_law_tale_here"] (sp__law_lines K) := by
  refine F.ok sc__law_lines (fun vs H Q E h => ?_) (fun cdv A outer s H vs Q E hr h => ?_)
  · obtain ⟨v, ns, ps, rfl, _⟩ := h
    rfl
  · obtain ⟨v, ns, ps, rfl, hI, hT, k⟩ := h
    have hu := hu_of hr
    have hq := qa_of hr
    have hfew := hT.few
    have hle := hT.le
    have hnP := hT.nmP
    with_reducible refine ⟨_, (pss_cons (ps_set (i := 1) sc__law_lines.nd (by with_unfolding_all rfl) (by with_unfolding_all exact Or.inl rfl) (pe_lst (pa_cons (pe_bmK (K := K) PySem.F.plainAttrs_str PySem.F.slot_str_join PySem.F.type_str_join (mt_joinK (K := K)) pe_str (pa_cons (pe_op (op_addK (K := K)) (pe_lst (pa_cons pe_str pa_nil)) (pe_callTy (call_listK (K := K)) (by with_unfolding_all rfl) T.b_list PyProof.Rows.Boot.«list» (pa_cons (pe_ix (ix_anyK (K := K) hu) (pv 0) pe_int (by with_unfolding_all exact fun _ _ => rfl)) pa_nil))) pa_nil)) pa_nil)))
      (pss_one (ps_ret (pe_op (op_addK (K := K)) (pv 1) (pe_comp ["_law_one", "_law_other"] [] [] (by with_unfolding_all rfl) (by with_unfolding_all rfl) (by with_unfolding_all rfl) (pi_anyK (K := K) hu (pe_ix (ix_anyK (K := K) hu) (pv 0) pe_int (by with_unfolding_all exact fun _ _ => rfl))) (fun _ _ _ _ => (pg_tupK (K := K) (n := 2) (by with_unfolding_all rfl) (pgs_cons (pg_name (i := 0) (by with_unfolding_all (show (["_law_one", "_law_other"] : List Str).Nodup; decide +kernel)) (by with_unfolding_all rfl) (by with_unfolding_all exact Or.inl rfl)) (pgs_cons (pg_name (i := 1) (by with_unfolding_all (show (["_law_one", "_law_other"] : List Str).Nodup; decide +kernel)) (by with_unfolding_all rfl) (by with_unfolding_all exact Or.inl rfl)) pgs_nil)))) (gk_tup (gk_cons (by decide) (gk_cons (by decide) gk_nil))) (fun _ _ _ _ => pif_nil) (fun _ _ _ _ => (pe_op (op_addK (K := K)) (pe_op (op_addK (K := K)) (pe_op (op_addK (K := K)) pe_str (pv 0)) pe_str) (pv 1)))))))), ?_⟩
    walk_at "rd"
    refine i_newL (line_of (by simp)) fun a1 H1 ha1 e1 h1 => ?_
    walk_at "rd"
    refine i_ixH0 (hI.hf_fz e1.fz) fun nv hN => ?_
    obtain ⟨na, rfl, hS⟩ := hN.nm
    walk_at "rd"
    refine i_listA (.inr hS) fun a2 H2 ha2 e2 h2 => ?_
    refine i_addL (e2 _ _ h1) h2 (line_of (by rw [List.length_map]; simp; omega)) fun a3 H3 ha3 e3 h3 => ?_
    walk_at "rd"
    refine i_joinB (ws := "names" :: ns) (SqL.of h3) (words_ok (by decide +kernel) hT.names.2) (by rw [List.length_cons]; omega) ?_
    walk_at "rd"
    refine i_newL (line_of (by simp)) fun q H4 hq4 e4 h4 => ?_
    walk_at "rd"
    have e04 : Same H H4 := by walk_at "sm"
    refine i_ixH1 (hI.hf_fz e04.fz) fun pv hP => ?_
    refine comp_ps hP (fun _ => true) (fun p => PyData.str (ahL p)) (fun _ => rfl) (by omega) (fun i p w H5 R R' hp hIp e5 hR hR' => ?_) (fun r ys H5 hr5 e5 h5 hL5 => ?_)
    · have hpn := hnP p (List.mem_of_getElem? hp)
      have l1 := nm_len hpn.1
      have l2 := nm_len hpn.2
      refine i_gpair hIp ?_
      walk_at "rd"
      refine i_addS (line_of (by rw [show ("ahead " : Str).length = 6 from by decide +kernel]; omega)) ?_
      walk_at "rd"
      refine i_addS (line_of (by rw [len_app, show ("ahead " : Str).length = 6 from by decide +kernel, show (" " : Str).length = 1 from by decide +kernel]; omega)) ?_
      walk_at "rd"
      refine i_addS (line_of (by rw [len_app, len_app, show ("ahead " : Str).length = 6 from by decide +kernel, show (" " : Str).length = 1 from by decide +kernel]; omega)) ?_
      rw [ahL_is]
      exact hR rfl _ _ (Same.refl _) is_str
    · rw [filter_true] at hL5
      have hys : ys = (ps.map ahL).map V.str := IsL.str_eq (by rw [List.map_map]; exact hL5)
      subst hys
      refine i_addL (e5 _ _ h4) h5 (line_of (by simp; omega)) fun z H6 hz6 e6 h6 => ?_
      exact k z H6 ((e04.trans e5).free hz6) ((e04.trans e5).trans e6) h6
local macro_rules | `(tactic| walk_at "rq1") => L2.mAlts "i_sRaise"
noncomputable def wds (z : Str) : List Str := Txt.split z " "
noncomputable def UnN (ns : List Str) : Prop := (∀ z ∈ ns, isName z = true) ∧ ns.Nodup ∧ ns.length ≤ 10
open Classical in
noncomputable def rdN (z : Str) : Option (List Str) := match wds z with
  | w :: ns => if w = "names" ∧ UnN ns then some ns else none
  | [] => none
noncomputable def rdS (ns : List Str) (z : Str) : Option (Str × Str) := match wds z with
  | [w, a, b] => if w = "ahead" ∧ a ∈ ns ∧ b ∈ ns then some (a, b) else none
  | _ => none
noncomputable def rdL (ns : List Str) : Nat → List Str → Sum Nat (List (Str × Str))
  | _, [] => .inr []
  | r, z :: zs => if 60 < r then .inl r else match rdS ns z with
    | none => .inl r
    | some p => match rdL ns (r + 1) zs with
      | .inl q => .inl q
      | .inr ps => .inr (p :: ps)
noncomputable def rd : List Str → Sum Nat (List Str × List (Str × Str))
  | [] => .inl 0
  | z :: zs => match rdN z with
    | none => .inl 0
    | some ns => match rdL ns 1 zs with
      | .inl r => .inl r
      | .inr ps => .inr (ns, ps)
noncomputable def preR (ps : List (Str × Str)) : Sum Nat (List (Str × Str)) → Sum Nat (List (Str × Str))
  | .inl r => .inl r
  | .inr qs => .inr (ps ++ qs)
theorem rdL_next {ns : List Str} {zs : List Str} {i : Nat} {z : Str} {p : Str × Str} {ps : List (Str × Str)} (h : rdL ns 1 zs = preR ps (rdL ns (1 + i) (zs.drop i))) (hz : zs[i]? = some z) (hi : 1 + i ≤ 60) (hp : rdS ns z = some p) : rdL ns 1 zs = preR (ps ++ [p]) (rdL ns (1 + (i + 1)) (zs.drop (i + 1))) := by
  obtain ⟨hlt, hget⟩ := List.getElem?_eq_some_iff.mp hz
  rw [h, List.drop_eq_getElem_cons hlt, hget, rdL, if_neg (by omega), hp]
  show preR ps (match rdL ns (1 + i + 1) (zs.drop (i + 1)) with | .inl q => .inl q | .inr ps => .inr (p :: ps)) = _
  rw [show 1 + i + 1 = 1 + (i + 1) by omega]
  cases rdL ns (1 + (i + 1)) (zs.drop (i + 1)) with
  | inl q => rfl
  | inr qs => show Sum.inr (ps ++ p :: qs) = Sum.inr (ps ++ [p] ++ qs); rw [List.append_assoc]; rfl
theorem rdL_bad {ns : List Str} {zs : List Str} {i : Nat} {z : Str} {ps : List (Str × Str)} (h : rdL ns 1 zs = preR ps (rdL ns (1 + i) (zs.drop i))) (hz : zs[i]? = some z) (hb : 60 < 1 + i ∨ rdS ns z = none) : rdL ns 1 zs = .inl (1 + i) := by
  obtain ⟨hlt, hget⟩ := List.getElem?_eq_some_iff.mp hz
  rw [h, List.drop_eq_getElem_cons hlt, hget, rdL]
  by_cases hc : 60 < 1 + i
  · rw [if_pos hc]; rfl
  · rw [if_neg hc, hb.resolve_left hc]; rfl
theorem rdL_end {ns : List Str} {zs : List Str} {ps : List (Str × Str)} (h : rdL ns 1 zs = preR ps (rdL ns (1 + zs.length) (zs.drop zs.length))) : rdL ns 1 zs = .inr ps := by
  rw [h, List.drop_length, rdL]
  show Sum.inr (ps ++ []) = _
  rw [List.append_nil]
theorem rdS_some {ns : List Str} {z a b : Str} (h : wds z = [("ahead" : Str), a, b]) (ha : a ∈ ns) (hb : b ∈ ns) : rdS ns z = some (a, b) := by
  unfold rdS
  rw [h]
  exact if_pos ⟨rfl, ha, hb⟩
theorem rdS_none {ns : List Str} {z : Str} (h : ∀ a b, wds z = [("ahead" : Str), a, b] → a ∈ ns → b ∈ ns → False) : rdS ns z = none := by
  unfold rdS
  split
  · rename_i w a b e
    refine if_neg fun ⟨h1, h2, h3⟩ => ?_
    subst h1
    exact h a b e h2 h3
  · rfl
theorem rdN_some {z : Str} {ns : List Str} (h : wds z = ("names" : Str) :: ns) (hn : UnN ns) : rdN z = some ns := by
  unfold rdN
  rw [h]
  exact if_pos ⟨rfl, hn⟩
theorem rdN_none {z : Str} (h : ∀ ns, wds z = ("names" : Str) :: ns → ¬ UnN ns) : rdN z = none := by
  unfold rdN
  split
  · rename_i w ns e
    refine if_neg fun ⟨h1, h2⟩ => ?_
    subst h1
    exact h ns e h2
  · rfl
theorem name_len {z : Str} (h : isName z = true) : z.length ≤ 8 := by
  unfold isName at h
  rw [Bool.and_eq_true, Bool.and_eq_true, decide_eq_true_eq, decide_eq_true_eq] at h
  exact h.1.2
theorem wts_names : ∀ {ns : List Str}, (∀ z ∈ ns, z.length ≤ 8) → wts ns ≤ 9 * ns.length
  | [], _ => Nat.le_refl _
  | x :: b, h => by
    have := wts_names (ns := b) fun z q => h z (by simp [q])
    have h8 := h x (by simp)
    rw [wts_cons, List.length_cons]
    omega
theorem un_dk {ns : List Str} (h : UnN ns) (ha : ∀ z ∈ ns, Asc z) : Dk 4 100 10 (nmD ns) :=
  words_dk ha (by have := wts_names fun z q => name_len (h.1 z q); have := h.2.2; omega) h.2.2
noncomputable def RefR (H : Hp) (C : Addr) (r : Nat) (E : XK) : Prop := ∀ a H', Same H H' → ExB false H' a C [("row", .int ((r : Nat) : Int))] → E (.ref a) none H'
theorem RefR.mono {H H' : Hp} {C : Addr} {r : Nat} {E : XK} (h : RefR H C r E) (e : Same H H') : RefR H' C r E := fun a H2 e2 hE => h a H2 (e.trans e2) hE
noncomputable def spx_read_names (C : Addr) (K : PySem.W.Frag) : Sp := fun vs H Q E => ∃ z, vs = [.str z] ∧ Asc z ∧ z.length ≤ 900 ∧ (∀ ns, rdN z = some ns → wds z = ("names" : Str) :: ns → UnN ns → ∀ u H', Same H H' → Is K H' (nmD ns) u → Q u H') ∧ (rdN z = none → RefR H C 0 E)
noncomputable def spx_read_saying (C : Addr) (K : PySem.W.Frag) : Sp := fun vs H Q E => ∃ (z : Str) (r : Nat) (u : V) (ns : List Str), vs = [.str z, .int ((r : Nat) : Int), u] ∧ Asc z ∧ z.length ≤ 900 ∧ Is K H (nmD ns) u ∧ UnN ns ∧ (∀ z ∈ ns, Asc z) ∧ (∀ p, rdS ns z = some p → r ≤ 60 → ∀ v H', Same H H' → Is K H' (prD p) v → Q v H') ∧ ((60 < r ∨ rdS ns z = none) → RefR H C r E)
noncomputable def LnS (ls : List Str) : Prop := (∀ z ∈ ls, Asc z ∧ z.length ≤ 900) ∧ ls.length ≤ 900
noncomputable def spx_read_tale (C : Addr) (K : PySem.W.Frag) : Sp := fun vs H Q E => ∃ a ls, vs = [.ref a] ∧ H a = some (.lst (ls.map V.str)) ∧ LnS ls ∧ (∀ ns ps, rd ls = .inr (ns, ps) → ∀ u H', Same H H' → Is K H' (hfD ns ps) u → Q u H') ∧ ∀ r, rd ls = .inl r → RefR H C r E
theorem okx_read_names {f : Addr} {fd : FuncData} (F : Fun K "read_names" "read_names" s_read_names f fd) (T : TopF mg) {C_HalfError : Addr} {C_NoText : Addr} {C_NoName : Addr} (x_HalfError : Xls_HalfError K mg C_HalfError C_HalfError) (x_NoText : Xls_NoText K mg C_NoText C_HalfError) (x_NoName : Xls_NoName K mg C_NoName C_HalfError) (c_are_tale_names : Fnd P w K mg base 3 "are_tale_names" ["thing"] (sp_are_tale_names K)) (c_NoText_init : Mkx P w K mg base 1 C_NoText "NoText" ["self", "row"] (spX C_NoText ["row"])) : FnOk P w K mg base (CX1 P w) 4 f fd ["line"] (spx_read_names C_NoText K) := by
  refine F.ok1 sc_read_names (fun vs H Q E h => ?_) (fun cdv A outer s H vs Q E hr h => ?_)
  · obtain ⟨z, rfl, _⟩ := h
    rfl
  · obtain ⟨z, rfl, hA, hl, k1, k2⟩ := h
    have hu := hu_of hr
    have hq := qa_of hr
    have hw := wts_split z
    have hwl := wts_len (Txt.split z " ")
    with_reducible refine ⟨_, (pss_cons (ps_set (i := 1) sc_read_names.nd (by with_unfolding_all rfl) (by with_unfolding_all exact Or.inl rfl) (pe_bmK (K := K) PySem.F.plainAttrs_str PySem.F.slot_str_split PySem.F.type_str_split (mm mt_split) (pv 0) (pa_cons pe_str pa_nil)))
      (pss_cons (ps_set (i := 2) sc_read_names.nd (by with_unfolding_all rfl) (by with_unfolding_all exact Or.inl rfl) (pe_callTy (call_tupleK (K := K)) (by with_unfolding_all rfl) T.b_tuple PyProof.Rows.Boot.«tuple» (pa_cons (pe_slice (sl_K (K := K)) (pv 1) (po_some pe_int) po_none) pa_nil)))
      (pss_cons (ps_if (PW.pt (pw_or (pt_cmpR (op_neK (K := K) hq) (pe_ix (ix_anyK (K := K) hu) (pv 1) pe_int (by with_unfolding_all exact fun _ _ => rfl)) (pe_gl (by with_unfolding_all rfl) T.g_NAMES_WORD) (nomark _)) (pw_or1 (pt_not (pt_val (pe_fn c_are_tale_names (hr.mono (by decide)) (by with_unfolding_all rfl) (pa_cons (pv 2) pa_nil))))))) (pss_one (ps_raise (by with_unfolding_all rfl) (pe_xmk c_NoText_init (hr.mono (by decide)) (by with_unfolding_all rfl) (pa_cons pe_int pa_nil)))) pss_nil)
      (pss_one (ps_ret (pv 2)))))), ?_⟩
    walk_at "rd"
    refine i_split (by decide +kernel) (by omega) (by omega) fun p H1 hp1 e1 h1 => ?_
    have hA1 := asc_split hA
    cases hsp : Txt.split z " " with
    | nil => exact absurd hsp (words_ne z)
    | cons w ns =>
      have hwds : wds z = w :: ns := hsp
      rw [hsp] at h1 hw hwl hA1
      rw [wts_cons] at hw
      walk_at "rd"
      refine i_slL (SqL.of h1) fun q H2 hq2 e2 h2 => ?_
      rw [cut_from (by omega) (by rw [List.length_map, List.length_cons]; omega)] at h2
      walk_at "rd"
      refine i_tupNm (ns := ns) h2 (is_strs ns) fun u H3 e3 hu3 => ?_
      have e13 := (e1.trans e2).trans e3
      walk_at "rd"
      refine i_ixL (e3 _ _ (e2 _ _ h1)) (v := .str w) (atI_nat (j := 0) rfl) ?_
      walk_at "rd"
      have go : rdN z = none → ∀ H4, Same H3 H4 → _ := fun hn H4 e4 => ((k2 hn).mono e13).mono e4
      refine iteND (fun hc => ?_) (fun hc => ?_)
      · have kk := go (rdN_none fun ms hm _ => hc (by rw [hwds] at hm; injection hm with hm; rw [hm])) H3 (.refl _)
        walk_at "rd"
        refine i_mkX (by rfl) (by decide) fun a H4 ha4 e4 hE => ?_
        walk_at "rd"
        exact i_raise hE x_NoText.xc (e13.free ha4) fun H5 kp hE5 => kk a H5 (fun b o q => kp b o (ne_of_none q ha4) (e4 _ _ q)) hE5
      · injection hc with hc
        subst hc
        walk_at "rd"
        refine ⟨u, nmD ns, 4, 900, 900, rfl, hu3, words_dk (fun x hx => hA1 x (by simp [hx])) (by omega) (by rw [List.length_cons] at hwl; have := wts_len ns; omega), by omega, by omega, fun b H4 e4 hb => ?_⟩
        cases b with
        | true =>
          obtain ⟨ms, hm, hun1, hun2, hun3⟩ := hb.mp rfl
          have := nmD_inj hm
          subst this
          have hun : UnN ns := ⟨hun1, hun2, hun3⟩
          walk_at "rd"
          exact k1 ns (rdN_some hwds hun) hwds hun u H4 (e13.trans e4) (Is.mono e4 _ _ hu3)
        | false =>
          have kk := go (rdN_none fun ms hm hun => by
            rw [hwds] at hm
            injection hm with _ hm
            subst hm
            exact absurd (hb.mpr ⟨ns, rfl, hun.1, hun.2.1, hun.2.2⟩) (by decide)) H4 e4
          walk_at "rd"
          refine i_mkX (by rfl) (by decide) fun a H5 ha5 e5 hE => ?_
          walk_at "rd"
          exact i_raise hE x_NoText.xc ((e13.trans e4).free ha5) fun H6 kp hE6 => kk a H6 (fun b o q => kp b o (ne_of_none q ha5) (e5 _ _ q)) hE6
theorem okx_read_saying {f : Addr} {fd : FuncData} (F : Fun K "read_saying" "read_saying" s_read_saying f fd) (T : TopF mg) {C_HalfError : Addr} {C_NoText : Addr} {C_NoName : Addr} (x_HalfError : Xls_HalfError K mg C_HalfError C_HalfError) (x_NoText : Xls_NoText K mg C_NoText C_HalfError) (x_NoName : Xls_NoName K mg C_NoName C_HalfError) (c_is_saying : Fnd P w K mg base 1 "is_saying" ["thing", "names"] (sp_is_saying K)) (c_NoText_init : Mkx P w K mg base 1 C_NoText "NoText" ["self", "row"] (spX C_NoText ["row"])) : FnOk P w K mg base (CX1 P w) 3 f fd ["line", "row", "names"] (spx_read_saying C_NoText K) := by
  refine F.ok1 sc_read_saying (fun vs H Q E h => ?_) (fun cdv A outer s H vs Q E hr h => ?_)
  · obtain ⟨z, r, u, ns, rfl, _⟩ := h
    rfl
  · obtain ⟨z, r, u, ns, rfl, hA, hl, hN, hU, hUa, k1, k2⟩ := h
    have hu := hu_of hr
    have hq := qa_of hr
    have hw := wts_split z
    have hwl := wts_len (Txt.split z " ")
    with_reducible refine ⟨_, (pss_cons (ps_set (i := 3) sc_read_saying.nd (by with_unfolding_all rfl) (by with_unfolding_all exact Or.inl rfl) (pe_bmK (K := K) PySem.F.plainAttrs_str PySem.F.slot_str_split PySem.F.type_str_split (mm mt_split) (pv 0) (pa_cons pe_str pa_nil)))
      (pss_cons (ps_set (i := 4) sc_read_saying.nd (by with_unfolding_all rfl) (by with_unfolding_all exact Or.inl rfl) (pe_callTy (call_tupleK (K := K)) (by with_unfolding_all rfl) T.b_tuple PyProof.Rows.Boot.«tuple» (pa_cons (pe_slice (sl_K (K := K)) (pv 3) (po_some pe_int) po_none) pa_nil)))
      (pss_cons (ps_if (PW.pt (pw_or (pt_cmpR op_gt (pv 1) (pe_gl (by with_unfolding_all rfl) T.g_MOST_SAYINGS) (nomark _)) (pw_or (pt_cmpR (op_neK (K := K) hq) (pe_ix (ix_anyK (K := K) hu) (pv 3) pe_int (by with_unfolding_all exact fun _ _ => rfl)) (pe_gl (by with_unfolding_all rfl) T.g_AHEAD_WORD) (nomark _)) (pw_or1 (pt_not (pt_val (pe_fn c_is_saying (hr.mono (by decide)) (by with_unfolding_all rfl) (pa_cons (pv 4) (pa_cons (pv 2) pa_nil))))))))) (pss_one (ps_raise (by with_unfolding_all rfl) (pe_xmk c_NoText_init (hr.mono (by decide)) (by with_unfolding_all rfl) (pa_cons (pv 1) pa_nil)))) pss_nil)
      (pss_one (ps_ret (pv 4)))))), ?_⟩
    walk_at "rd"
    refine i_split (by decide +kernel) (by omega) (by omega) fun p H1 hp1 e1 h1 => ?_
    have hA1 := asc_split hA
    cases hsp : Txt.split z " " with
    | nil => exact absurd hsp (words_ne z)
    | cons w ws =>
      have hwds : wds z = w :: ws := hsp
      rw [hsp] at h1 hw hwl hA1
      rw [wts_cons] at hw
      walk_at "rd"
      refine i_slL (SqL.of h1) fun q H2 hq2 e2 h2 => ?_
      rw [cut_from (by omega) (by rw [List.length_map, List.length_cons]; omega)] at h2
      walk_at "rd"
      refine i_tupNm (ns := ws) h2 (is_strs ws) fun t H3 e3 ht3 => ?_
      have e13 := (e1.trans e2).trans e3
      have go : ∀ H4, Same H3 H4 → (60 < r ∨ rdS ns z = none) → RefR H4 C_NoText r E := fun H4 e4 hn => ((k2 hn).mono e13).mono e4
      walk_at "rd"
      refine iteD (fun hc => ?_) (fun hc => ?_)
      · have kk := go H3 (.refl _) (.inl (by omega))
        walk_at "rd"
        refine i_mkX (by rfl) (by decide) fun a H4 ha4 e4 hE => ?_
        walk_at "rd"
        exact i_raise hE x_NoText.xc (e13.free ha4) fun H5 kp hE5 => kk a H5 (fun b o q => kp b o (ne_of_none q ha4) (e4 _ _ q)) hE5
      · walk_at "rd"
        refine i_ixL (e3 _ _ (e2 _ _ h1)) (v := .str w) (atI_nat (j := 0) rfl) ?_
        walk_at "rd"
        refine iteND (fun hc2 => ?_) (fun hc2 => ?_)
        · have kk := go H3 (.refl _) (.inr (rdS_none fun a b hm _ _ => hc2 (by rw [hwds] at hm; injection hm with hm; rw [hm])))
          walk_at "rd"
          refine i_mkX (by rfl) (by decide) fun a H4 ha4 e4 hE => ?_
          walk_at "rd"
          exact i_raise hE x_NoText.xc (e13.free ha4) fun H5 kp hE5 => kk a H5 (fun b o q => kp b o (ne_of_none q ha4) (e4 _ _ q)) hE5
        · injection hc2 with hc2
          subst hc2
          walk_at "rd"
          refine ⟨t, u, nmD ws, 4, 900, 900, ns, 4, 100, 10, rfl, ht3, words_dk (fun x hx => hA1 x (by simp [hx])) (by omega) (by have := wts_len ws; omega), by omega, hN.nm_fz e13.fz, un_dk hU hUa, fun b H4 e4 hb => ?_⟩
          cases b with
          | true =>
            obtain ⟨x, y, hm, hx, hy⟩ := hb.mp rfl
            have hm : ws = [x, y] := nmD_inj (ms := [x, y]) hm
            subst hm
            walk_at "rd"
            exact k1 (x, y) (rdS_some hwds hx hy) (by omega) t H4 (e13.trans e4) (Is.mono e4 _ _ ht3)
          | false =>
            have kk := go H4 e4 (.inr (rdS_none fun a b hm ha hb' => by
              rw [hwds] at hm
              injection hm with _ hm
              subst hm
              exact absurd (hb.mpr ⟨a, b, rfl, ha, hb'⟩) (by decide)))
            walk_at "rd"
            refine i_mkX (by rfl) (by decide) fun a H5 ha5 e5 hE => ?_
            walk_at "rd"
            exact i_raise hE x_NoText.xc ((e13.trans e4).free ha5) fun H6 kp hE6 => kk a H6 (fun b o q => kp b o (ne_of_none q ha5) (e5 _ _ q)) hE6
theorem okx_read_tale {f : Addr} {fd : FuncData} (F : Fun K "read_tale" "read_tale" s_read_tale f fd) (T : TopF mg) {C_HalfError : Addr} {C_NoText : Addr} {C_NoName : Addr} (x_HalfError : Xls_HalfError K mg C_HalfError C_HalfError) (x_NoText : Xls_NoText K mg C_NoText C_HalfError) (x_NoName : Xls_NoName K mg C_NoName C_HalfError) (c_NoText_init : Mkx P w K mg base 1 C_NoText "NoText" ["self", "row"] (spX C_NoText ["row"])) (d_read_names : Fnd1 P w K mg base 4 "read_names" ["line"] (spx_read_names C_NoText K)) (d_read_saying : Fnd1 P w K mg base 3 "read_saying" ["line", "row", "names"] (spx_read_saying C_NoText K)) : FnOk P w K mg base (CX1 P w) 5 f fd ["lines"] (spx_read_tale C_NoText K) := by
  refine F.ok1 sc_read_tale (fun vs H Q E h => ?_) (fun cdv A outer s H vs Q E hr h => ?_)
  · obtain ⟨a, ls, rfl, _⟩ := h
    rfl
  · obtain ⟨a, ls, rfl, hL, hS, k1, k2⟩ := h
    have hu := hu_of hr
    have hq := qa_of hr
    with_reducible refine ⟨_, (pss_cons (ps_if (pt_cmpR (op_eqK (K := K) hq) (pe_callB (call_lenK (K := K)) (by with_unfolding_all rfl) T.b_len PyProof.Rows.Boot.«len» (pa_cons (pv 0) pa_nil)) pe_int (nomark _)) (pss_one (ps_raise (by with_unfolding_all rfl) (pe_xmk c_NoText_init (hr.mono (by decide)) (by with_unfolding_all rfl) (pa_cons pe_int pa_nil)))) pss_nil)
      (pss_cons (ps_set (i := 1) sc_read_tale.nd (by with_unfolding_all rfl) (by with_unfolding_all exact Or.inr rfl) (pe_fn1 d_read_names (hr.mono (by decide)) (by with_unfolding_all rfl) pass1' (pa_cons (pe_ix (ix_anyK (K := K) hu) (pv 0) pe_int (by with_unfolding_all exact fun _ _ => rfl)) pa_nil)))
      (pss_cons (ps_setcompX (i := 2) ["row"] ["lines", "names"] [0, 1] (by with_unfolding_all rfl) (by with_unfolding_all rfl) (by with_unfolding_all rfl) sc_read_tale.nd (by with_unfolding_all rfl) (by with_unfolding_all rfl) (pi_range2 (by with_unfolding_all rfl) T.b_range (pa_cons pe_int (pa_cons (pe_callB (call_lenK (K := K)) (by with_unfolding_all rfl) T.b_len PyProof.Rows.Boot.«len» (pa_cons (pv 0) pa_nil)) pa_nil))) (fun _ _ _ _ => (pg_name (i := 0) (by with_unfolding_all (show (["row", "lines", "names"] : List Str).Nodup; decide +kernel)) (by with_unfolding_all rfl) (by with_unfolding_all exact Or.inl rfl))) (gk_name (by decide)) (fun _ _ _ _ => pif_nil) (fun _ _ _ _ _ _ hpc => (pe_fn1 d_read_saying (hr.mono (by decide)) (by with_unfolding_all rfl) hpc (pa_cons (pe_ix (ix_anyK (K := K) hu) (pv 1) (pv 0) (by with_unfolding_all exact fun _ _ => rfl)) (pa_cons (pv 0) (pa_cons (pv 2) pa_nil))))) (by exact comp_e))
      (pss_one (ps_ret (pe_tup (pa_cons (pv 1) (pa_cons (pe_callTy (call_tupleK (K := K)) (by with_unfolding_all rfl) T.b_tuple PyProof.Rows.Boot.«tuple» (pa_cons (pv 2) pa_nil)) pa_nil)))))))), ?_⟩
    cases ls with
    | nil =>
      have kk := k2 0 rfl
      walk_at "rd"
      refine i_mkX (by rfl) (by decide) fun b H4 ha4 e4 hE => ?_
      walk_at "rd"
      exact i_raise hE x_NoText.xc ha4 fun H5 kp hE5 => kk b H5 (fun b o q => kp b o (ne_of_none q ha4) (e4 _ _ q)) hE5
    | cons z zs =>
      have hz := hS.1 z (by simp)
      have hlen := hS.2
      rw [List.length_cons] at hlen
      walk_at "rd"
      refine iteD (fun hc => absurd hc (by rw [List.length_map, List.length_cons]; intro q; injection q with q; omega)) (fun _ => ?_)
      walk_at "rd"
      refine i_ixL hL (v := .str z) (atI_nat (j := 0) rfl) ?_
      walk_at "rd"
      refine ⟨z, rfl, hz.1, hz.2, fun ns hn hwd hU nv H1 e1 hN1 => ?_, fun hn => k2 0 (by show (match rdN z with | none => _ | some ns => _) = _; rw [hn])⟩
      have hUa : ∀ x ∈ ns, Asc x := fun x hx => asc_split hz.1 x (by show x ∈ wds z; rw [hwd]; exact List.mem_cons_of_mem _ hx)
      walk_at "rd"
      have hbad : ∀ r, rdL ns 1 zs = .inl r → rd (z :: zs) = .inl r := fun r hr => by
        show (match rdN z with | none => Sum.inl 0 | some ns => match rdL ns 1 zs with | .inl r => .inl r | .inr ps => .inr (ns, ps)) = _
        rw [hn]
        show (match rdL ns 1 zs with | .inl r => Sum.inl r | .inr ps => .inr (ns, ps)) = _
        rw [hr]
      have hok : ∀ ps, rdL ns 1 zs = .inr ps → rd (z :: zs) = .inr (ns, ps) := fun ps hr => by
        show (match rdN z with | none => Sum.inl 0 | some ns => match rdL ns 1 zs with | .inl r => .inl r | .inr ps => .inr (ns, ps)) = _
        rw [hn]
        show (match rdL ns 1 zs with | .inl r => Sum.inl r | .inr ps => .inr (ns, ps)) = _
        rw [hr]
      have hcnt : ((((z :: zs).map V.str).length : Int) - 1).toNat = zs.length := by rw [List.length_map, List.length_cons]; omega
      refine i_rngw (by rw [List.length_map, List.length_cons]; omega) ?_
      rw [hcnt]
      refine comp_by walk_range (fun p i acc H3 => ∃ ps, Same H1 H3 ∧ IsL K H3 (ps.map prD) acc ∧ rdL ns 1 zs = preR ps (rdL ns (1 + i) (zs.drop i))) (fun p H3 hp e3 h3 => ⟨[], e3, .nil, ?_⟩) (fun _ _ _ _ _ => trivial) (fun p i x acc H3 hp hx hi hacc h3 hP => ?_) (fun p acc H3 hp h3 hacc hP => ?_)
      · show _ = preR [] (rdL ns 1 zs)
        cases rdL ns 1 zs <;> rfl
      · obtain ⟨ps, e3, hI3, hrd⟩ := hP
        obtain ⟨rfl, hi2⟩ := rng_get hx
        have hzi := List.getElem?_eq_getElem hi2
        have hzS := hS.1 _ (List.mem_cons_of_mem z (List.getElem_mem hi2))
        generalize zs[i] = y at hzi hzS
        have e03 := e1.trans e3
        walk_at "rd"
        refine i_ixL (e03 _ _ hL) (v := .str y) (by
          rw [show (1 : Int) + (i : Int) = ((i + 1 : Nat) : Int) by omega]
          exact atI_nat (by rw [List.map_cons, List.getElem?_cons_succ, List.getElem?_map, hzi]; rfl)) ?_
        walk_at "rd"
        refine ⟨y, 1 + i, nv, ns, by rw [Int.natCast_add]; rfl, hzS.1, hzS.2, hN1.nm_fz e3.fz, hU, hUa, fun q hq60 hr60 qv H4 e4 hq4 => ?_, fun hb => ?_⟩
        · have hp4 := e4 _ _ h3
          refine push_i (by rw [List.length_map, List.length_range]; omega) (by simpa using hi2) hacc hp4 fun H5 e5 h5 => ?_
          have hl5 : Fz H4 H5 := e5.fzL hp4
          exact ⟨ps ++ [q], ((e3.trans e4).off hp e5), by rw [List.map_append]; exact (IsL.fz (e4.fz.trans hl5) _ _ (frzL_prs ps) hI3).append (.one (hq4.pr_fz hl5)), rdL_next hrd hzi hr60 hq60⟩
        · have := k2 _ (hbad _ (rdL_bad hrd hzi hb))
          exact this.mono e03
      · obtain ⟨ps, e3, hI3, hrd⟩ := hP
        rw [List.length_map, List.length_range] at hrd
        have hps := rdL_end hrd
        walk_at "rd"
        refine i_tupPs h3 hI3 fun u4 H4 e4 hu4 => ?_
        walk_at "rd"
        refine i_newT (line_of (by simp)) fun t5 H5 ht5 e5 h5 => ?_
        exact k1 ns ps (hok ps hps) _ H5 ((e1.trans e3).trans (e4.trans e5)) (is_hf (SqT.of h5) (hN1.nm_fz ((e3.trans e4).trans e5).fz) (Is.mono e5 _ _ hu4))
theorem rdL_mem {ns : List Str} : ∀ {zs : List Str} {r : Nat} {ps : List (Str × Str)}, rdL ns r zs = .inr ps → (∀ p ∈ ps, p.1 ∈ ns ∧ p.2 ∈ ns) ∧ (ps = [] ∨ r + ps.length ≤ 61)
  | [], r, ps, h => by
    rw [rdL] at h
    cases h
    exact ⟨fun p hp => (by cases hp), .inl rfl⟩
  | z :: zs, r, ps, h => by
    rw [rdL] at h
    by_cases hr : 60 < r
    · rw [if_pos hr] at h; cases h
    · rw [if_neg hr] at h
      cases hs : rdS ns z with
      | none => rw [hs] at h; cases h
      | some p =>
        rw [hs] at h
        dsimp only at h
        cases hq : rdL ns (r + 1) zs with
        | inl q => rw [hq] at h; cases h
        | inr qs =>
          rw [hq] at h
          cases h
          obtain ⟨h1, h2⟩ := rdL_mem hq
          have hp : p.1 ∈ ns ∧ p.2 ∈ ns := by
            unfold rdS at hs
            split at hs
            · split at hs
              · rename_i hc
                cases hs
                exact ⟨hc.2.1, hc.2.2⟩
              · cases hs
            · cases hs
          refine ⟨fun q hq => ?_, .inr ?_⟩
          · rcases List.mem_cons.mp hq with rfl | hq
            · exact hp
            · exact h1 q hq
          · rw [List.length_cons]
            rcases h2 with rfl | h2
            · simp; omega
            · omega
theorem rdL_le {ns : List Str} : ∀ {zs : List Str} {r q : Nat}, rdL ns r zs = .inl q → q < r + zs.length
  | [], r, q, h => by rw [rdL] at h; cases h
  | z :: zs, r, q, h => by
    rw [rdL] at h
    rw [List.length_cons]
    by_cases hr : 60 < r
    · rw [if_pos hr] at h; cases h; omega
    · rw [if_neg hr] at h
      cases hs : rdS ns z with
      | none => rw [hs] at h; cases h; omega
      | some p =>
        rw [hs] at h
        dsimp only at h
        cases hq : rdL ns (r + 1) zs with
        | inl q' =>
          rw [hq] at h
          cases h
          have := rdL_le hq
          omega
        | inr qs => rw [hq] at h; cases h
theorem rdN_inv {z : Str} {ns : List Str} (h : rdN z = some ns) : wds z = ("names" : Str) :: ns ∧ UnN ns := by
  unfold rdN at h
  split at h
  · rename_i w ms e
    split at h
    · rename_i hc
      cases h
      exact ⟨by rw [e, hc.1], hc.2⟩
    · cases h
  · cases h
noncomputable def tdD : Sum Nat (List Str × List (Str × Str)) → PyData
  | .inl r => .int ((r : Nat) : Int)
  | .inr (ns, ps) => .tuple [hfD ns ps]
noncomputable def Told (K : PySem.W.Frag) (H : Hp) (ls : List Str) (u : V) : Prop := Is K H (tdD (rd ls)) u
theorem told_bad {K : PySem.W.Frag} {H : Hp} {ls : List Str} {r : Nat} (h : rd ls = .inl r) : Told K H ls (.int ((r : Nat) : Int)) := by
  unfold Told
  rw [h]
  exact is_int
theorem told_ok {K : PySem.W.Frag} {H : Hp} {ls : List Str} {ns : List Str} {ps : List (Str × Str)} {u : V} (h : rd ls = .inr (ns, ps)) (hI : Is K H (.tuple [hfD ns ps]) u) : Told K H ls u := by
  unfold Told
  rw [h]
  exact hI
noncomputable def sp__law_read (K : PySem.W.Frag) : Sp := fun vs H Q _ => ∃ a ls, vs = [.ref a] ∧ H a = some (.lst (ls.map V.str)) ∧ LnS ls ∧ ∀ u H', Same H H' → Told K H' ls u → Q u H'
theorem i_ifE {t : TT} {ta tb : TE} {σ : L2.St} {H : Hp} {Q : VK} (k : t σ H fun c H1 => if c = true then ta σ H1 Q else tb σ H1 Q) : tIf t ta tb σ H Q := k
theorem ok__law_read {f : Addr} {fd : FuncData} (F : Fun K "_law_read" "_law_read" s__law_read f fd) (T : TopF mg) (c__law_are_names : Fnd P w K mg base 2 "_law_are_names" ["_law_thing"] (sp__law_are_names K)) : FnOk P w K mg base CX0 3 f fd ["_law_lines_here"] (sp__law_read K) := by
  refine F.ok sc__law_read (fun vs H Q E h => ?_) (fun cdv A outer s H vs Q E hr h => ?_)
  · obtain ⟨a, ls, rfl, _⟩ := h
    rfl
  · obtain ⟨a, ls, rfl, hL, hS, k⟩ := h
    have hu := hu_of hr
    have hq := qa_of hr
    have hsh : SeqAt.shaped (.list (ls.map PyData.str)) = true := fine_lst fun z hz => (hS.1 z hz).1.ok
    have hlen := hS.2
    with_reducible refine ⟨_, (pss_cons (ps_set (i := 1) sc__law_read.nd (by with_unfolding_all rfl) (by with_unfolding_all exact Or.inl rfl) (pe_ifExp (pt_cmpR (op_neK (K := K) hq) (pv 0) (pe_lst pa_nil) (nomark _)) (pe_bmK (K := K) PySem.F.plainAttrs_str PySem.F.slot_str_split PySem.F.type_str_split (mm mt_split) (pe_ix (ix_anyK (K := K) hu) (pv 0) pe_int (by with_unfolding_all exact fun _ _ => rfl)) (pa_cons pe_str pa_nil)) (pe_lst (pa_cons pe_str pa_nil))))
      (pss_cons (ps_set (i := 2) sc__law_read.nd (by with_unfolding_all rfl) (by with_unfolding_all exact Or.inl rfl) (pe_callTy (call_tupleK (K := K)) (by with_unfolding_all rfl) T.b_tuple PyProof.Rows.Boot.«tuple» (pa_cons (pe_slice (sl_K (K := K)) (pv 1) (po_some pe_int) po_none) pa_nil)))
      (pss_cons (ps_if (PW.pt (pw_or (pt_cmpR (op_neK (K := K) hq) (pe_ix (ix_anyK (K := K) hu) (pv 1) pe_int (by with_unfolding_all exact fun _ _ => rfl)) pe_str (nomark _)) (pw_or1 (pt_not (pt_val (pe_fn c__law_are_names (hr.mono (by decide)) (by with_unfolding_all rfl) (pa_cons (pv 2) pa_nil))))))) (pss_one (ps_ret pe_int)) pss_nil)
      (pss_cons (ps_set (i := 3) sc__law_read.nd (by with_unfolding_all rfl) (by with_unfolding_all exact Or.inl rfl) (pe_lst pa_nil))
      (pss_cons (ps_for PassesOwn.never (by with_unfolding_all rfl) (pi_range2 (by with_unfolding_all rfl) T.b_range (pa_cons pe_int (pa_cons (pe_callB (call_lenK (K := K)) (by with_unfolding_all rfl) T.b_len PyProof.Rows.Boot.«len» (pa_cons (pv 0) pa_nil)) pa_nil))) (pg_name (i := 4) sc__law_read.nd (by with_unfolding_all rfl) (by with_unfolding_all exact Or.inl rfl))
      (pss_cons (ps_set (i := 1) sc__law_read.nd (by with_unfolding_all rfl) (by with_unfolding_all exact Or.inl rfl) (pe_bmK (K := K) PySem.F.plainAttrs_str PySem.F.slot_str_split PySem.F.type_str_split (mm mt_split) (pe_ix (ix_anyK (K := K) hu) (pv 0) (pv 4) (by with_unfolding_all exact fun _ _ => rfl)) (pa_cons pe_str pa_nil)))
      (pss_cons (ps_if (PW.pt (pw_or (pt_cmpR (op_neK (K := K) hq) (pe_callB (call_lenK (K := K)) (by with_unfolding_all rfl) T.b_len PyProof.Rows.Boot.«len» (pa_cons (pv 1) pa_nil)) pe_int (nomark _)) (pw_or (pt_cmpR (op_neK (K := K) hq) (pe_ix (ix_anyK (K := K) hu) (pv 1) pe_int (by with_unfolding_all exact fun _ _ => rfl)) pe_str (nomark _)) (pw_or (pt_cmpR op_gt (pv 4) pe_int (nomark _)) (pw_or (pt_cmpR (op_notInK (K := K) hq) (pe_ix (ix_anyK (K := K) hu) (pv 1) pe_int (by with_unfolding_all exact fun _ _ => rfl)) (pv 2) (by with_unfolding_all rfl)) (pw_or1 (pt_cmpR (op_notInK (K := K) hq) (pe_ix (ix_anyK (K := K) hu) (pv 1) pe_int (by with_unfolding_all exact fun _ _ => rfl)) (pv 2) (by with_unfolding_all rfl)))))))) (pss_one (ps_ret (pv 4))) pss_nil)
      (pss_one (ps_expr (pe_bmK (K := K) PySem.F.plainAttrs_list PySem.F.slot_list_append PySem.F.type_list_append (mm mt_append) (pv 3) (pa_cons (pe_tup (pa_cons (pe_ix (ix_anyK (K := K) hu) (pv 1) pe_int (by with_unfolding_all exact fun _ _ => rfl)) (pa_cons (pe_ix (ix_anyK (K := K) hu) (pv 1) pe_int (by with_unfolding_all exact fun _ _ => rfl)) pa_nil))) pa_nil)))))))
      (pss_one (ps_ret (pe_tup (pa_cons (pe_tup (pa_cons (pv 2) (pa_cons (pe_callTy (call_tupleK (K := K)) (by with_unfolding_all rfl) T.b_tuple PyProof.Rows.Boot.«tuple» (pa_cons (pv 3) pa_nil)) pa_nil))) pa_nil))))))))), ?_⟩
    walk_at "rd"
    refine i_ifE ?_
    walk_at "rd"
    refine i_newL (line_of (by simp)) fun t0 H0 ht0 e0 h0 => ?_
    refine i_neD (Is.of_lst (SqL.of (e0 _ _ hL)) (is_strs ls)) (Is.of_lst (ds := []) (SqL.of h0) .nil) hsh (by rfl) ?_
    cases ls with
    | nil =>
      rw [show PyData.eqv (.list (([] : List Str).map PyData.str)) (.list []) = true from by simp [PyData.eqv, PyData.eqvAll]]
      walk_at "rd"
      refine i_newL (line_of (by simp)) fun t1 H1 ht1 e1 h1 => ?_
      walk_at "rd"
      refine i_slL (SqL.of h1) fun t2 H2 ht2 e2 h2 => ?_
      walk_at "rd"
      refine i_tupleL (SqL.of h2) fun t3 H3 ht3 e3 h3 => ?_
      walk_at "rd"
      refine i_ixL (e3 _ _ (e2 _ _ h1)) (v := .str "") (atI_nat (j := 0) rfl) ?_
      walk_at "rd"
      refine iteND (fun _ => ?_) (fun hc => absurd hc (by decide +kernel))
      walk_at "rd"
      exact k _ H3 ((e0.trans e1).trans (e2.trans e3)) (told_bad (r := 0) rfl)
    | cons z zs =>
      rw [show PyData.eqv (.list ((z :: zs).map PyData.str)) (.list []) = false from by simp [PyData.eqv, PyData.eqvAll]]
      rw [List.length_cons] at hlen
      have hz := hS.1 z (by simp)
      have hw := wts_split z
      have hwl := wts_len (Txt.split z " ")
      walk_at "rd"
      refine i_ixL (e0 _ _ hL) (v := .str z) (atI_nat (j := 0) rfl) ?_
      walk_at "rd"
      refine i_split (by decide +kernel) (by omega) (by omega) fun p H1 hp1 e1 h1 => ?_
      have hA1 := asc_split hz.1
      cases hsp : Txt.split z " " with
      | nil => exact absurd hsp (words_ne z)
      | cons w ns =>
        have hwds : wds z = w :: ns := hsp
        rw [hsp] at h1 hw hwl hA1
        rw [wts_cons] at hw
        have hUa : ∀ x ∈ ns, Asc x := fun x hx => hA1 x (by simp [hx])
        walk_at "rd"
        refine i_slL (SqL.of h1) fun q H2 hq2 e2 h2 => ?_
        rw [cut_from (by omega) (by rw [List.length_map, List.length_cons]; omega)] at h2
        walk_at "rd"
        refine i_tupNm (ns := ns) h2 (is_strs ns) fun u H3 e3 hu3 => ?_
        have e03 := (e0.trans e1).trans (e2.trans e3)
        walk_at "rd"
        refine i_ixL (e3 _ _ (e2 _ _ h1)) (v := .str w) (atI_nat (j := 0) rfl) ?_
        have hno : rdN z = none → rd (z :: zs) = .inl 0 := fun hn => by
          show (match rdN z with | none => _ | some ns => _) = _
          rw [hn]
        walk_at "rd"
        refine iteND (fun hc => ?_) (fun hc => ?_)
        · walk_at "rd"
          exact k _ H3 e03 (told_bad (r := 0) (hno (rdN_none fun ms hm _ => hc (by rw [hwds] at hm; injection hm with hm; rw [hm]))))
        · injection hc with hc
          subst hc
          walk_at "rd"
          refine ⟨u, nmD ns, 4, 900, 900, rfl, hu3, words_dk hUa (by omega) (by have := wts_len ns; omega), by omega, by omega, fun b H4 e4 hb => ?_⟩
          cases b with
          | false =>
            walk_at "rd"
            refine k _ H4 (e03.trans e4) (told_bad (r := 0) (hno (rdN_none fun ms hm hun => ?_)))
            rw [hwds] at hm
            injection hm with _ hm
            subst hm
            exact absurd (hb.mpr ⟨ns, rfl, hun.1, hun.2.1, hun.2.2⟩) (by decide)
          | true =>
            obtain ⟨ms, hm, hun1, hun2, hun3⟩ := hb.mp rfl
            have := nmD_inj hm
            subst this
            have hU : UnN ns := ⟨hun1, hun2, hun3⟩
            have hn := rdN_some hwds hU
            have hbad : ∀ r, rdL ns 1 zs = .inl r → rd (z :: zs) = .inl r := fun r hr => by
              show (match rdN z with | none => Sum.inl 0 | some ns => match rdL ns 1 zs with | .inl r => .inl r | .inr ps => .inr (ns, ps)) = _
              rw [hn]
              show (match rdL ns 1 zs with | .inl r => Sum.inl r | .inr ps => .inr (ns, ps)) = _
              rw [hr]
            have hok : ∀ ps, rdL ns 1 zs = .inr ps → rd (z :: zs) = .inr (ns, ps) := fun ps hr => by
              show (match rdN z with | none => Sum.inl 0 | some ns => match rdL ns 1 zs with | .inl r => .inl r | .inr ps => .inr (ns, ps)) = _
              rw [hn]
              show (match rdL ns 1 zs with | .inl r => Sum.inl r | .inr ps => .inr (ns, ps)) = _
              rw [hr]
            walk_at "rd"
            refine i_newL (line_of (by simp)) fun t5 H5 ht5 e5 h5 => ?_
            have e05 := (e03.trans e4).trans e5
            have hN5 := hu3.nm_fz (e4.trans e5).fz
            have ht0 : H t5 = none := (e03.trans e4).free ht5
            have hcnt : ((((z :: zs).map V.str).length : Int) - 1).toNat = zs.length := by rw [List.length_map, List.length_cons]; omega
            walk_at "rd"
            refine i_rngw (by rw [List.length_map, List.length_cons]; omega) ?_
            rw [hcnt]
            refine for_by walk_range (fun i σ H6 => ∃ x1 x4 ys ps, σ = [some (.ref a), some x1, some u, some (.ref t5), x4] ∧ Same H H6 ∧ Fz H5 H6 ∧ H6 t5 = some (.lst ys) ∧ IsL K H6 (ps.map prD) ys ∧ ps.length ≤ i ∧ rdL ns 1 zs = preR ps (rdL ns (1 + i) (zs.drop i)))
              ⟨_, _, [], [], rfl, e05, .refl _, h5, .nil, Nat.le_refl _, ?_⟩ (fun _ _ _ _ => trivial) (fun i x σ' H6 hx hi hP => ?_) (fun σ' H6 hP => ?_)
            · show _ = preR [] (rdL ns 1 zs)
              cases rdL ns 1 zs <;> rfl
            · obtain ⟨x1, x4, ys, ps, rfl, e6, fz6, h6, hI6, hpl, hrd⟩ := hP
              obtain ⟨rfl, hi2⟩ := rng_get hx
              have hzi := List.getElem?_eq_getElem hi2
              have hzS := hS.1 _ (List.mem_cons_of_mem z (List.getElem_mem hi2))
              generalize zs[i] = y at hzi hzS
              have hyl : ys.length = ps.length := by rw [← IsL.length hI6, List.length_map]
              have wy := wts_split y
              have wyl := wts_len (Txt.split y " ")
              walk_at "rd"
              refine i_ixL (e6 _ _ hL) (v := .str y) (by
                rw [show (1 : Int) + (i : Int) = ((i + 1 : Nat) : Int) by omega]
                exact atI_nat (by rw [List.map_cons, List.getElem?_cons_succ, List.getElem?_map, hzi]; rfl)) ?_
              walk_at "rd"
              refine i_split (by decide +kernel) (by omega) (by omega) fun p7 H7 hp7 e7 h7 => ?_
              have e07 := e6.trans e7
              have hN7 := hN5.nm_fz (fz6.trans e7.fz)
              have fin : (60 < 1 + i ∨ rdS ns y = none) → Q (.int (1 + (i : Int))) H7 := fun hb => k _ H7 e07 (told_bad (r := 1 + i) (hbad _ (rdL_bad hrd hzi hb)))
              walk_at "rd"
              refine iteND (fun hc => ?_) (fun hc => ?_)
              · walk_at "rd"
                exact fin (.inr (rdS_none fun c1 c2 hm _ _ => hc (by
                  rw [List.length_map, show Txt.split y " " = _ from hm]
                  rfl)))
              · obtain ⟨w1, a1, b1, hspy⟩ : ∃ w1 a1 b1, Txt.split y " " = [w1, a1, b1] := by
                  have h3 : (Txt.split y " ").length = 3 := by
                    rw [List.length_map] at hc
                    injection hc with hc
                    omega
                  match hv : Txt.split y " ", h3 with
                  | [w1, a1, b1], _ => exact ⟨w1, a1, b1, rfl⟩
                have hwy : wds y = [w1, a1, b1] := hspy
                rw [hspy] at h7
                walk_at "rd"
                refine i_ixL h7 (v := .str w1) (atI_nat (j := 0) rfl) ?_
                walk_at "rd"
                refine iteND (fun hc2 => ?_) (fun hc2 => ?_)
                · walk_at "rd"
                  exact fin (.inr (rdS_none fun c1 c2 hm _ _ => hc2 (by rw [hwy] at hm; injection hm with hm; rw [hm])))
                · injection hc2 with hc2
                  subst hc2
                  walk_at "rd"
                  refine iteD (fun hc3 => ?_) (fun hc3 => ?_)
                  · walk_at "rd"
                    exact fin (.inl (by omega))
                  · walk_at "rd"
                    refine i_ixL h7 (v := .str a1) (atI_nat (j := 1) rfl) ?_
                    walk_at "rd"
                    refine i_ninN hN7 ?_
                    walk_at "rd"
                    refine iteND (fun hc4 => ?_) (fun hc4 => ?_)
                    · walk_at "rd"
                      exact fin (.inr (rdS_none fun c1 c2 hm h1 _ => hc4 (by rw [hwy] at hm; injection hm with _ hm; injection hm with hm; rw [hm]; exact h1)))
                    · walk_at "rd"
                      refine i_ixL h7 (v := .str b1) (atI_nat (j := 2) rfl) ?_
                      walk_at "rd"
                      refine i_ninN hN7 ?_
                      walk_at "rd"
                      refine iteND (fun hc5 => ?_) (fun hc5 => ?_)
                      · walk_at "rd"
                        exact fin (.inr (rdS_none fun c1 c2 hm _ h2 => hc5 (by rw [hwy] at hm; injection hm with _ hm; injection hm with _ hm; injection hm with hm; rw [hm]; exact h2)))
                      · have h7t := e7 _ _ h6
                        walk_at "rd"
                        refine i_ixL h7 (v := .str a1) (atI_nat (j := 1) rfl) ?_
                        walk_at "rd"
                        refine i_ixL h7 (v := .str b1) (atI_nat (j := 2) rfl) ?_
                        walk_at "rd"
                        refine i_newT (line_of (by simp)) fun t8 H8 ht8 e8 h8 => ?_
                        walk_at "rd"
                        refine i_appR (e8 _ _ (e7 _ _ h6)) (by omega) fun H9 e9 h9 => ?_
                        have fz9 := e9.fzL (e8 _ _ (e7 _ _ h6))
                        have fz69 := (e7.fz.trans e8.fz).trans fz9
                        walk_at "rd"
                        exact ⟨_, _, _, ps ++ [(a1, b1)], rfl, (e07.trans e8).off ht0 e9, fz6.trans fz69, h9, by rw [List.map_append]; exact (IsL.fz fz69 _ _ (frzL_prs ps) hI6).append (.one ((show Is K H8 (prD (a1, b1)) (.ref t8) from is_pr (SqT.of h8)).pr_fz fz9)), by rw [List.length_append]; simp; omega, rdL_next hrd hzi (by omega) (rdS_some hwy hc4 hc5)⟩
            · obtain ⟨x1, x4, ys, ps, rfl, e6, fz6, h6, hI6, hpl, hrd⟩ := hP
              rw [List.length_map, List.length_range] at hrd
              have hps := rdL_end hrd
              walk_at "rd"
              refine i_tupPs h6 hI6 fun u7 H7 e7 hu7 => ?_
              walk_at "rd"
              refine i_newT (line_of (by simp)) fun t8 H8 ht8 e8 h8 => ?_
              walk_at "rd"
              refine i_newT (line_of (by simp)) fun t9 H9 ht9 e9 h9 => ?_
              have hh : Is K H9 (hfD ns ps) (.ref t8) := Is.mono e9 _ _ (is_hf (SqT.of h8) (hN5.nm_fz ((fz6.trans e7.fz).trans e8.fz)) (Is.mono e8 _ _ hu7))
              exact k _ H9 (e6.trans ((e7.trans e8).trans e9)) (told_ok (hok ps hps) (Is.of_tup (SqT.of h9) (.one hh)))
local macro_rules | `(tactic| walk_at "rq1") => L2.mAlts "i_nxS"
noncomputable def sp__law_found (K : PySem.W.Frag) : Sp := fun vs H Q _ => ∃ a ls, vs = [.ref a] ∧ H a = some (.lst (ls.map V.str)) ∧ LnS ls ∧ ∀ u H', Same H H' → Told K H' ls u → Q u H'
theorem mro_up {K : PySem.W.Frag} {C B : Addr} (hm : xcMro K C B = true) : PySem.W.mroIn K C (.ref B) = some true := by
  obtain ⟨cd, hc, hx⟩ := PySem.W.any_some hm
  unfold PySem.W.mroIn
  rw [hc, Option.bind_some, beq_iff_eq.mp hx, if_neg (by simp), List.contains_cons, List.contains_cons, beq_self_eq_true, Bool.true_or, Bool.or_true]
theorem ok__law_found {f : Addr} {fd : FuncData} (F : Fun K "_law_found" "_law_found" s__law_found f fd) (T : TopF mg) {C_HalfError : Addr} {C_NoHalf : Addr} {C_NoText : Addr} {C_NoName : Addr} (x_HalfError : Xls_HalfError K mg C_HalfError C_HalfError) (x_NoHalf : Xls_NoHalf K mg C_NoHalf C_HalfError) (x_NoText : Xls_NoText K mg C_NoText C_HalfError) (x_NoName : Xls_NoName K mg C_NoName C_HalfError) (ndX : ([C_HalfError, C_NoHalf, C_NoName, C_NoText] : List Addr).Nodup) (d_read_tale : Fnd1 P w K mg base 5 "read_tale" ["lines"] (spx_read_tale C_NoText K)) : FnOk P w K mg base CX0 6 f fd ["_law_lines_here"] (sp__law_found K) := by
  refine F.ok sc__law_found (fun vs H Q E h => ?_) (fun cdv A outer s H vs Q E hr h => ?_)
  · obtain ⟨a, ls, rfl, _⟩ := h
    rfl
  · obtain ⟨a, ls, rfl, hL, hS, k⟩ := h
    have hu := hu_of hr
    have hq := qa_of hr
    obtain ⟨xG, hG⟩ : ∃ G : Addr → Hp → Prop, G = fun b H' => ∃ r : Nat, rd ls = .inl r ∧ Same H H' ∧ ExB false H' b C_NoText [("row", .int ((r : Nat) : Int))] := ⟨_, rfl⟩
    with_reducible refine ⟨_, (pss_cons (ps_set (i := 1) sc__law_found.nd (by with_unfolding_all rfl) (by with_unfolding_all exact Or.inl rfl) pe_non)
      (pss_cons (ps_try (i := 2) xG sc__law_found.nd (by with_unfolding_all rfl) (by with_unfolding_all rfl) (by with_unfolding_all rfl) x_HalfError.gl x_HalfError.xc (by with_unfolding_all rfl) (by with_unfolding_all rfl) (by with_unfolding_all rfl) (fun _ _ hps => (pss_one (ps_set (i := 1) sc__law_found.nd (by with_unfolding_all rfl) (by with_unfolding_all exact Or.inl rfl) (pe_tup (pa_cons (pe_fn1 d_read_tale (hr.mono (by decide)) (by with_unfolding_all rfl) hps (pa_cons (pv 0) pa_nil)) pa_nil)))))
      (fun _ _ => (pss_cons (ps_set (i := 1) sc__law_found.nd (by with_unfolding_all rfl) (by with_unfolding_all exact Or.inl rfl) pe_str)
      (pss_one (ps_if (PW.pt (pw_and (pt_val (pe_callB (call_isXK (K := K)) (by with_unfolding_all rfl) T.b_isinstance PyProof.Rows.Boot.«isinstance» (pa_cons (pv 2) (pa_cons (pe_gl (v := .ref C_NoText) (by with_unfolding_all rfl) ⟨_, x_NoText.gl, (by with_unfolding_all rfl)⟩) pa_nil)))) (pw_and (pt_val (pe_callB (call_isXK (K := K)) (by with_unfolding_all rfl) T.b_isinstance PyProof.Rows.Boot.«isinstance» (pa_cons (pv 2) (pa_cons (pe_bltn (v := .ty "ValueError") (by with_unfolding_all rfl) T.b_ValueError PyProof.Rows.Boot.«ValueError» (by with_unfolding_all rfl)) pa_nil)))) (pw_and1 (pt_not (pt_val (pe_callB (call_isXK (K := K)) (by with_unfolding_all rfl) T.b_isinstance PyProof.Rows.Boot.«isinstance» (pa_cons (pv 2) (pa_cons (pe_tup (pa_cons (pe_gl (v := .ref C_NoHalf) (by with_unfolding_all rfl) ⟨_, x_NoHalf.gl, (by with_unfolding_all rfl)⟩) (pa_cons (pe_gl (v := .ref C_NoName) (by with_unfolding_all rfl) ⟨_, x_NoName.gl, (by with_unfolding_all rfl)⟩) pa_nil))) pa_nil))))))))) (pss_one (ps_set (i := 1) sc__law_found.nd (by with_unfolding_all rfl) (by with_unfolding_all exact Or.inl rfl) (pe_fldXK (K := K) (pv 2) (by with_unfolding_all rfl)))) pss_nil)))))
      (pss_one (ps_ret (pv 1))))), ?_⟩
    walk_at "rd"
    refine ⟨?_, fun b H' σ' hl hg => ?_⟩
    · walk_at "rd"
      refine ⟨a, ls, rfl, hL, hS, fun ns ps hrd u H1 e1 hu1 => ?_, fun r hrd b H' e hE => ⟨b, rfl, by rw [hG]; exact ⟨r, hrd, e, hE⟩⟩⟩
      walk_at "rd"
      refine i_newT (line_of (by simp)) fun t H2 ht2 e2 h2 => ?_
      walk_at "rd"
      exact k _ H2 (e1.trans e2) (told_ok hrd (Is.of_tup (SqT.of h2) (.one (Is.mono e2 _ _ hu1))))
    · rw [hG] at hg
      obtain ⟨r, hrd, e1, hE⟩ := hg
      obtain ⟨y0, y1, y2, rfl⟩ : ∃ y0 y1 y2, σ' = [y0, y1, y2] := by
        match σ', hl with
        | [y0, y1, y2], _ => exact ⟨y0, y1, y2, rfl⟩
      obtain ⟨dx, ha⟩ : ∃ dx, H' b = some (exG false b C_NoText (some dx)) := by
        rcases hE with ⟨e, _⟩ | ⟨dx, _, h1, _⟩
        · cases e
        · exact ⟨dx, h1⟩
      refine ⟨⟨C_NoText, some dx, ha, x_NoText.xc, mro_up x_NoText.mr⟩, ?_⟩
      walk_at "rd"
      refine i_isX hE x_NoText.xc (show _ = some true by rw [xc_kitR x_NoText.xc x_NoText.mr x_NoText.xc, beq_self_eq_true, Bool.true_or]) ?_
      walk_at "rd"
      refine i_isXT hE x_NoText.xc (xc_kitM x_NoText.mr) ?_
      walk_at "rd"
      refine i_newT (line_of (by simp)) fun t H1 ht1 e2 h1 => ?_
      have hE1 := hE.same e2
      walk_at "rd"
      have n1 : C_NoText ≠ C_NoHalf := fun e => by subst e; simp at ndX
      have n2 : C_NoText ≠ C_NoName := fun e => by subst e; simp at ndX
      have n3 : C_NoHalf ≠ C_HalfError := fun e => by subst e; simp at ndX
      have n4 : C_NoName ≠ C_HalfError := fun e => by subst e; simp at ndX
      have kt : PySem.W.kitAny K (.ref C_NoText) ([C_NoHalf, C_NoName].map Value.ref) = some false := by
        simp only [List.map_cons, List.map_nil, PySem.W.kitAny, xc_kitR x_NoText.xc x_NoText.mr x_NoHalf.xc, xc_kitR x_NoText.xc x_NoText.mr x_NoName.xc, beq_eq_false_iff_ne.mpr n1, beq_eq_false_iff_ne.mpr n2, beq_eq_false_iff_ne.mpr n3, beq_eq_false_iff_ne.mpr n4, Bool.or_self]
      refine i_isXU (cs := [C_NoHalf, C_NoName]) hE1 x_NoText.xc h1 kt ?_
      walk_at "rd"
      refine i_fldX hE1 x_NoText.xc x_NoText.n_row (show _ = some (V.int ((r : Nat) : Int)) from rfl) ?_
      walk_at "rd"
      exact k _ H1 (e1.trans e2) (told_bad hrd)
noncomputable def sp__law_right (K : PySem.W.Frag) : Sp := fun vs H Q _ => ∃ a ls, vs = [.ref a] ∧ H a = some (.lst (ls.map V.str)) ∧ LnS ls ∧ ∀ H', Same H H' → Q (.bl true) H'
theorem rd_dk {ns : List Str} {ps : List (Str × Str)} (h : UnN ns) (ha : ∀ z ∈ ns, Asc z) (hm : ∀ p ∈ ps, p.1 ∈ ns ∧ p.2 ∈ ns) (hl : ps.length ≤ 60) : Dk 6 2000 60 (.tuple [hfD ns ps]) := by
  have w1 : ∀ {x : Str}, x ∈ ns → x.length ≤ 8 := fun hx => name_len (h.1 _ hx)
  have a : Dk 4 100 60 (nmD ns) := (un_dk h ha).le (by omega) (by omega)
  have p1 : ∀ p ∈ ps, Dk 3 18 60 (prD p) := fun p hp => by
    have := words_dk (p := 2) (w := 18) (W := 60) (ws := [p.1, p.2]) (fun z hz => by
      simp only [List.mem_cons, List.not_mem_nil, or_false] at hz
      rcases hz with rfl | rfl
      · exact ha _ (hm p hp).1
      · exact ha _ (hm p hp).2) (by
      have := w1 (hm p hp).1
      have := w1 (hm p hp).2
      rw [wts_cons, wts_cons]
      unfold wts
      simp
      omega) (by simp)
    exact this
  have b : Dk 4 1200 60 (psD ps) := by
    refine dk_tup (p := 3) ⟨fun e he => ?_, ?_, by simpa using hl⟩
    · obtain ⟨q, hq, rfl⟩ := List.mem_map.mp he
      exact ⟨18, p1 q hq⟩
    · have := wt_all (k := 18) (ds := ps.map prD) fun e he => by
        obtain ⟨q, hq, rfl⟩ := List.mem_map.mp he
        exact (p1 q hq).wt
      rw [List.length_map] at this
      omega
  have c : Dk 5 1400 60 (hfD ns ps) := by
    refine dk_tup (p := 4) ⟨fun e he => ?_, ?_, by simp⟩
    · simp only [List.mem_cons, List.not_mem_nil, or_false] at he
      rcases he with rfl | rfl
      · exact ⟨_, a⟩
      · exact ⟨_, b⟩
    · have := a.wt
      have := b.wt
      simp only [PyData.weightAll]
      simp only [nmD, psD] at *
      omega
  refine dk_tup (p := 5) ⟨fun e he => ?_, ?_, by simp⟩
  · have := List.mem_singleton.mp he
    subst this
    exact ⟨_, c⟩
  · have := c.wt
    simp only [PyData.weightAll]
    omega
theorem td_dk {ls : List Str} (hS : LnS ls) : Dk 6 2000 60 (tdD (rd ls)) := by
  have hlen := hS.2
  cases ls with
  | nil => exact (dk_int (p := 6) (W := 60) (m := 0) (by decide)).le (by omega) (by omega)
  | cons z zs =>
    have int : ∀ r : Nat, r ≤ 1000 → Dk 6 2000 60 (.int ((r : Nat) : Int)) := fun r hr => (dk_int (p := 6) (W := 60) (m := ((r : Nat) : Int)) (by omega)).le (by omega) (by omega)
    rw [List.length_cons] at hlen
    show Dk 6 2000 60 (tdD (match rdN z with | none => Sum.inl 0 | some ns => match rdL ns 1 zs with | .inl r => .inl r | .inr ps => .inr (ns, ps)))
    cases hn : rdN z with
    | none => exact int 0 (by omega)
    | some ns =>
      obtain ⟨hw, hU⟩ := rdN_inv hn
      show Dk 6 2000 60 (tdD (match rdL ns 1 zs with | .inl r => .inl r | .inr ps => .inr (ns, ps)))
      cases hq : rdL ns 1 zs with
      | inl r => exact int r (by have := rdL_le hq; omega)
      | inr ps =>
        obtain ⟨m1, m2⟩ := rdL_mem hq
        exact rd_dk hU (fun x hx => asc_split (hS.1 z (by simp)).1 x (by show x ∈ wds z; rw [hw]; exact List.mem_cons_of_mem _ hx)) m1 (by rcases m2 with rfl | m2; exact Nat.zero_le _; omega)
theorem ok__law_right {f : Addr} {fd : FuncData} (F : Fun K "_law_right" "_law_right" s__law_right f fd) (T : TopF mg) (c__law_read : Fnd P w K mg base 3 "_law_read" ["_law_lines_here"] (sp__law_read K)) (c__law_found : Fnd P w K mg base 6 "_law_found" ["_law_lines_here"] (sp__law_found K)) : FnOk P w K mg base CX0 7 f fd ["_law_lines_here"] (sp__law_right K) := by
  refine F.ok sc__law_right (fun vs H Q E h => ?_) (fun cdv A outer s H vs Q E hr h => ?_)
  · obtain ⟨a, ls, rfl, _⟩ := h
    rfl
  · obtain ⟨a, ls, rfl, hL, hS, k⟩ := h
    have hu := hu_of hr
    have hq := qa_of hr
    have hlen := hS.2
    have hsh : SeqAt.shaped (.list (ls.map PyData.str)) = true := fine_lst fun z hz => (hS.1 z hz).1.ok
    with_reducible refine ⟨_, (pss_cons (ps_set (i := 1) sc__law_right.nd (by with_unfolding_all rfl) (by with_unfolding_all exact Or.inl rfl) (pe_callTy (call_listK (K := K)) (by with_unfolding_all rfl) T.b_list PyProof.Rows.Boot.«list» (pa_cons (pv 0) pa_nil)))
      (pss_one (ps_ret (pe_and (pe_cmpR (op_eqK (K := K) hq) (pe_callB (call_reprXK (K := K) hq) (by with_unfolding_all rfl) T.b_repr PyProof.Rows.Boot.«repr» (pa_cons (pe_fn c__law_found (hr.mono (by decide)) (by with_unfolding_all rfl) (pa_cons (pv 1) pa_nil)) pa_nil)) (pe_callB (call_reprXK (K := K) hq) (by with_unfolding_all rfl) T.b_repr PyProof.Rows.Boot.«repr» (pa_cons (pe_fn c__law_read (hr.mono (by decide)) (by with_unfolding_all rfl) (pa_cons (pv 0) pa_nil)) pa_nil)) (nomark _)) (pe_one (pe_cmpR (op_eqK (K := K) hq) (pv 1) (pv 0) (nomark _))))))), ?_⟩
    walk_at "rd"
    refine i_listA (.inl (SqL.of hL)) fun p H1 hp1 e1 h1 => ?_
    walk_at "rd"
    refine ⟨p, ls, rfl, h1, hS, fun u2 H2 e2 hu2 => ?_⟩
    obtain ⟨t1, t2, t3⟩ := (td_dk hS).told (by omega) (by omega)
    walk_at "rd"
    refine i_reprX hu2 t1 t2 t3 ?_
    walk_at "rd"
    refine ⟨a, ls, rfl, e2 _ _ (e1 _ _ hL), hS, fun u3 H3 e3 hu3 => ?_⟩
    walk_at "rd"
    refine i_reprX hu3 t1 t2 t3 ?_
    walk_at "rd"
    have e13 := e2.trans e3
    refine i_eqD (Is.of_lst (SqL.of (e13 _ _ h1)) (is_strs ls)) (Is.of_lst (SqL.of (e13 _ _ (e1 _ _ hL))) (is_strs ls)) hsh hsh ?_
    rw [eqv_lst]
    exact k H3 (e1.trans e13)
noncomputable def Wd (m : Nat) (ws : List Str) : Prop := (∀ z ∈ ws, Asc z) ∧ wts ws ≤ m
noncomputable def sp__law_bent_words (K : PySem.W.Frag) : Sp := fun vs H Q _ => ∃ d l w nv ws ns m, vs = [.ref d, .ref w, nv] ∧ Feed H d l ∧ H w = some (.lst (ws.map V.str)) ∧ ws ≠ [] ∧ Wd m ws ∧ m ≤ 450 ∧ Is K H (nmD ns) nv ∧ (∀ z ∈ ns, isNm z = true) ∧ ns.length ≤ 10 ∧
  ∀ p us H', H p = none → ExtBut d H H' → Feed H' d l → H' p = some (.lst (us.map V.str)) → Wd (2 * m + 12) us → Q (.ref p) H'
theorem Wd.cut {m : Nat} {ws : List Str} (h : Wd m ws) (lo hi : Option Int) : Wd m (cutS ws lo hi) := ⟨fun z hz => h.1 z ((cutS_sub ws lo hi).subset hz), Nat.le_trans (wts_sub (cutS_sub ws lo hi)) h.2⟩
theorem Wd.app {m n : Nat} {a b : List Str} (h : Wd m a) (g : Wd n b) : Wd (m + n) (a ++ b) := ⟨fun z hz => (List.mem_append.mp hz).elim (h.1 z) (g.1 z), by rw [wts_app]; have := h.2; have := g.2; omega⟩
theorem Wd.le {m n : Nat} {a : List Str} (h : Wd m a) (hl : m ≤ n) : Wd n a := ⟨h.1, Nat.le_trans h.2 hl⟩
theorem Wd.one {z : Str} (h : Asc z) (hl : z.length ≤ 10) : Wd 11 [z] := ⟨fun y hy => by rw [List.mem_singleton.mp hy]; exact h, by rw [wts_cons]; show z.length + 1 + 0 ≤ 11; omega⟩
noncomputable def menu6 : List Str := ["", "names", "ahead", "a", "A", "abcdefghi", "a1", "b", "zz", "a.b"]
theorem menu6_ok : ∀ z ∈ menu6, (∀ c ∈ z.cps.toList, c < 128) ∧ z.length ≤ 10 := by decide +kernel
theorem ok__law_bent_words {f : Addr} {fd : FuncData} (F : Fun K "_law_bent_words" "_law_bent_words" s__law_bent_words f fd) (T : TopF mg) (c__law_draw : Fnd P w K mg base 1 "_law_draw" ["_law_feed_here", "_law_many"] (sp__law_draw K)) : FnOk P w K mg base CX0 2 f fd ["_law_feed_here", "_law_words", "_law_names_here"] (sp__law_bent_words K) := by
  refine F.ok sc__law_bent_words (fun vs H Q E h => ?_) (fun cdv A outer s H vs Q E hr h => ?_)
  · obtain ⟨d, l, w, nv, ws, ns, m, rfl, _⟩ := h
    rfl
  · obtain ⟨d, l, w, nv, ws, ns, m, rfl, hF, hW, hne, hwd, hm, hN, hnm, h10, k⟩ := h
    have hu := hu_of hr
    have hq := qa_of hr
    have hlen : ws.length ≤ 450 := Nat.le_trans (wts_len ws) (Nat.le_trans hwd.2 hm)
    have hpos : 0 < ws.length := List.length_pos_iff.mpr hne
    obtain ⟨na, rfl, hS⟩ := hN.nm
    with_reducible refine ⟨_, (pss_cons (ps_set (i := 3) sc__law_bent_words.nd (by with_unfolding_all rfl) (by with_unfolding_all exact Or.inl rfl) (pe_op (op_addK (K := K)) (pe_lst (pa_cons pe_str (pa_cons pe_str (pa_cons pe_str (pa_cons pe_str (pa_cons pe_str (pa_cons pe_str (pa_cons pe_str (pa_cons pe_str (pa_cons pe_str (pa_cons pe_str pa_nil))))))))))) (pe_callTy (call_listK (K := K)) (by with_unfolding_all rfl) T.b_list PyProof.Rows.Boot.«list» (pa_cons (pv 2) pa_nil))))
      (pss_cons (ps_set (i := 3) sc__law_bent_words.nd (by with_unfolding_all rfl) (by with_unfolding_all exact Or.inl rfl) (pe_op (op_addK (K := K)) (pv 3) (pe_comp ["_law_name"] [] [] (by with_unfolding_all rfl) (by with_unfolding_all rfl) (by with_unfolding_all rfl) (pi_anyK (K := K) hu (pv 2)) (fun _ _ _ _ => (pg_name (i := 0) (by with_unfolding_all (show (["_law_name"] : List Str).Nodup; decide +kernel)) (by with_unfolding_all rfl) (by with_unfolding_all exact Or.inl rfl))) (gk_name (by decide)) (fun _ _ _ _ => pif_nil) (fun _ _ _ _ => (pe_op (op_addK (K := K)) (pv 0) pe_str)))))
      (pss_cons (ps_set (i := 4) sc__law_bent_words.nd (by with_unfolding_all rfl) (by with_unfolding_all exact Or.inl rfl) (pe_ix (ix_anyK (K := K) hu) (pv 3) (pe_fn c__law_draw (hr.mono (by decide)) (by with_unfolding_all rfl) (pa_cons (pv 0) (pa_cons (pe_callB (call_lenK (K := K)) (by with_unfolding_all rfl) T.b_len PyProof.Rows.Boot.«len» (pa_cons (pv 3) pa_nil)) pa_nil))) (by with_unfolding_all exact fun _ _ => rfl)))
      (pss_cons (ps_set (i := 5) sc__law_bent_words.nd (by with_unfolding_all rfl) (by with_unfolding_all exact Or.inl rfl) (pe_fn c__law_draw (hr.mono (by decide)) (by with_unfolding_all rfl) (pa_cons (pv 0) (pa_cons (pe_callB (call_lenK (K := K)) (by with_unfolding_all rfl) T.b_len PyProof.Rows.Boot.«len» (pa_cons (pv 1) pa_nil)) pa_nil))))
      (pss_cons (ps_set (i := 6) sc__law_bent_words.nd (by with_unfolding_all rfl) (by with_unfolding_all exact Or.inl rfl) (pe_fn c__law_draw (hr.mono (by decide)) (by with_unfolding_all rfl) (pa_cons (pv 0) (pa_cons pe_int pa_nil))))
      (pss_cons (ps_if (pt_cmpR (op_eqK (K := K) hq) (pv 6) pe_int (nomark _)) (pss_one (ps_ret (pe_op (op_addK (K := K)) (pe_slice (sl_K (K := K)) (pv 1) po_none (po_some (pv 5))) (pe_slice (sl_K (K := K)) (pv 1) (po_some (pe_op (op_addK (K := K)) (pv 5) pe_int)) po_none)))) pss_nil)
      (pss_cons (ps_if (pt_cmpR (op_eqK (K := K) hq) (pv 6) pe_int (nomark _)) (pss_one (ps_ret (pe_op (op_addK (K := K)) (pe_slice (sl_K (K := K)) (pv 1) po_none (po_some (pe_op (op_addK (K := K)) (pv 5) pe_int))) (pe_slice (sl_K (K := K)) (pv 1) (po_some (pv 5)) po_none)))) pss_nil)
      (pss_cons (ps_if (pt_cmpR (op_eqK (K := K) hq) (pv 6) pe_int (nomark _)) (pss_one (ps_ret (pe_op (op_addK (K := K)) (pe_op (op_addK (K := K)) (pe_slice (sl_K (K := K)) (pv 1) po_none (po_some (pv 5))) (pe_sliceStep (pe_slice (sl_K (K := K)) (pv 1) (po_some (pv 5)) (po_some (pe_op (op_addK (K := K)) (pv 5) pe_int))) (pe_un un_neg pe_int))) (pe_slice (sl_K (K := K)) (pv 1) (po_some (pe_op (op_addK (K := K)) (pv 5) pe_int)) po_none)))) pss_nil)
      (pss_cons (ps_if (pt_cmpR (op_eqK (K := K) hq) (pv 6) pe_int (nomark _)) (pss_one (ps_ret (pe_op (op_addK (K := K)) (pe_op (op_addK (K := K)) (pe_slice (sl_K (K := K)) (pv 1) po_none (po_some (pv 5))) (pe_lst (pa_cons (pv 4) pa_nil))) (pe_slice (sl_K (K := K)) (pv 1) (po_some (pv 5)) po_none)))) pss_nil)
      (pss_one (ps_ret (pe_ifExp (pt_cmpR (op_eqK (K := K) hq) (pv 6) pe_int (nomark _)) (pe_op (op_addK (K := K)) (pe_op (op_addK (K := K)) (pe_slice (sl_K (K := K)) (pv 1) po_none (po_some (pv 5))) (pe_lst (pa_cons (pv 4) pa_nil))) (pe_slice (sl_K (K := K)) (pv 1) (po_some (pe_op (op_addK (K := K)) (pv 5) pe_int)) po_none)) (pe_op (op_addK (K := K)) (pv 1) (pe_lst (pa_cons (pv 4) pa_nil))))))))))))))), ?_⟩
    walk_at "rd"
    refine i_newL (line_of (by simp)) fun p1 H1 hp1 e1 h1 => ?_
    walk_at "rd"
    refine i_listA (.inr (e1.seqT hS)) fun p2 H2 hp2 e2 h2 => ?_
    walk_at "rd"
    refine i_addL (e2 _ _ h1) h2 (line_of (by rw [List.length_map]; simp; omega)) fun p3 H3 hp3 e3 h3 => ?_
    have e03 := (e1.trans e2).trans e3
    walk_at "rd"
    refine comp_nm (hN.nm_fz e03.fz) (fun _ => true) (fun z => PyData.str (z ++ ("\n" : Str))) (fun _ => rfl) (by omega) (fun i z H4 R R' hz e4 hR hR' => ?_) (fun p4 ys4 H4 hp4 e4 h4 hL4 => ?_)
    · have := nm_len (hnm z (List.mem_of_getElem? hz))
      walk_at "rd"
      refine i_addS (line_of (by rw [show ("\n" : Str).length = 1 from by decide +kernel]; omega)) ?_
      exact hR rfl _ _ (.refl _) is_str
    · rw [filter_true] at hL4
      have hys : ys4 = (ns.map fun z => z ++ ("\n" : Str)).map V.str := IsL.str_eq (by rw [List.map_map]; exact hL4)
      subst hys
      walk_at "rd"
      refine i_addL (e4 _ _ h3) h4 (line_of (by simp; omega)) fun p5 H5 hp5 e5 h5 => ?_
      have e05 := (e03.trans e4).trans e5
      have hF5 := hF.same e05
      obtain ⟨odd, hodd, hoddl, hoddk⟩ : ∃ odd : List Str, H5 p5 = some (.lst (odd.map V.str)) ∧ (0 < odd.length ∧ odd.length ≤ 40) ∧ ∀ z ∈ odd, Asc z ∧ z.length ≤ 10 := by
        refine ⟨menu6 ++ ns ++ ns.map fun z => z ++ ("\n" : Str), by rw [h5, List.map_append, List.map_append]; rfl, by rw [List.length_append, List.length_append, List.length_map, show menu6.length = 10 from rfl]; omega, fun z hz => ?_⟩
        rcases List.mem_append.mp hz with hz | hz
        · rcases List.mem_append.mp hz with hz | hz
          · exact menu6_ok z hz
          · exact ⟨nm_asc (hnm z hz), by have := nm_len (hnm z hz); omega⟩
        · obtain ⟨y, hy, rfl⟩ := List.mem_map.mp hz
          refine ⟨(nm_asc (hnm y hy)).app (by unfold Asc; decide +kernel), ?_⟩
          have := nm_len (hnm y hy)
          rw [len_app, show ("\n" : Str).length = 1 from by decide +kernel]
          omega
      have hW5 := e05 _ _ hW
      clear h1 h2 h3 h4 h5 e1 e2 e3 e4 e5 e03 hL4 hp1 hp2 hp3 hp4
      walk_at "rd"
      refine ⟨d, l, _, rfl, hF5, by rw [List.length_map]; omega, by rw [List.length_map]; omega, fun c H6 hc0 hc1 e6 hF6 => ?_⟩
      rw [List.length_map] at hc1
      have hcl : c.toNat < odd.length := by omega
      have hwk := hoddk _ (List.getElem_mem hcl)
      have hcg := List.getElem?_eq_getElem hcl
      generalize odd[c.toNat] = word at hwk hcg
      have h6o := e6 _ _ (hF5.lst hodd) hodd
      have h6w := e6 _ _ (hF5.lst hW5) hW5
      walk_at "rd"
      refine i_ixL h6o (v := .str word) (by have := atI_nat (xs := odd.map V.str) (j := c.toNat) (v := V.str word) (by rw [List.getElem?_map, hcg]; rfl); rwa [Int.toNat_of_nonneg hc0] at this) ?_
      walk_at "rd"
      refine ⟨d, l, _, rfl, hF6, by rw [List.length_map]; omega, by rw [List.length_map]; omega, fun at' H7 ha0 ha1 e7 hF7 => ?_⟩
      have h7w := e7 _ _ (hF6.lst h6w) h6w
      walk_at "rd"
      refine ⟨d, l, 6, rfl, hF7, by omega, by omega, fun way H8 hy0 hy1 e8 hF8 => ?_⟩
      have h8w := e8 _ _ (hF7.lst h7w) h7w
      have e08 : ExtBut d H H8 := ((ExtBut.after e05 .refl).trans e6).trans (e7.trans e8)
      have hSw := SqL.of (K := K) h8w
      clear h6o h6w h7w hodd hW5 hoddk e6 e7 e8 hF5 hF6 hF7
      have l0 := fun lo hi => cutS_len ws lo hi
      have w0 := fun lo hi => hwd.cut lo hi
      have one := Wd.one hwk.1 hwk.2
      have hfree : ∀ {p : Addr} {H9 : Hp}, Same H8 H9 → H9 p = none → H p = none := fun e h => hF8.free e08 (e.free h)
      walk_at "rd"
      refine iteD (fun hc => ?_) (fun hc => ?_)
      · walk_at "rd"
        refine i_slL hSw fun q1 H9 hq1 e9 h9 => ?_
        walk_at "rd"
        refine i_slL (SqL.of (e9 _ _ h8w)) fun q2 H10 hq2 e10 h10' => ?_
        rw [cut_str] at h9 h10'
        refine i_addL (e10 _ _ h9) h10' (line_of (by rw [List.length_map, List.length_map]; have := l0 none (some at'); have := l0 (some (at' + 1)) none; omega)) fun q3 H11 hq3 e11 h11 => ?_
        rw [← List.map_append] at h11
        exact k q3 _ H11 (hfree (e9.trans e10) hq3) (e08.same ((e9.trans e10).trans e11)) (hF8.same ((e9.trans e10).trans e11)) h11 (((w0 _ _).app (w0 _ _)).le (by omega))
      · walk_at "rd"
        refine iteD (fun hc => ?_) (fun hc => ?_)
        · walk_at "rd"
          refine i_slL hSw fun q1 H9 hq1 e9 h9 => ?_
          walk_at "rd"
          refine i_slL (SqL.of (e9 _ _ h8w)) fun q2 H10 hq2 e10 h10' => ?_
          rw [cut_str] at h9 h10'
          refine i_addL (e10 _ _ h9) h10' (line_of (by rw [List.length_map, List.length_map]; have := l0 none (some (at' + 1)); have := l0 (some at') none; omega)) fun q3 H11 hq3 e11 h11 => ?_
          rw [← List.map_append] at h11
          exact k q3 _ H11 (hfree (e9.trans e10) hq3) (e08.same ((e9.trans e10).trans e11)) (hF8.same ((e9.trans e10).trans e11)) h11 (((w0 _ _).app (w0 _ _)).le (by omega))
        · walk_at "rd"
          refine iteD (fun hc => ?_) (fun hc => ?_)
          · walk_at "rd"
            refine i_slL hSw fun q1 H9 hq1 e9 h9 => ?_
            walk_at "rd"
            refine i_slL (SqL.of (e9 _ _ h8w)) fun q2 H10 hq2 e10 h10' => ?_
            walk_at "rd"
            refine i_step (SqL.of h10') (.inr rfl) fun q3 H11 hq3 e11 h11 => ?_
            have h11 : H11 q3 = some (.lst (cutV (ws.map V.str) (some at') (some (at' + 2))).reverse) := h11
            rw [cut_str] at h9 h11
            rw [← List.map_reverse] at h11
            refine i_addL (e11 _ _ (e10 _ _ h9)) h11 (line_of (by rw [List.length_map, List.length_map, List.length_reverse]; have := l0 none (some at'); have := l0 (some at') (some (at' + 2)); omega)) fun q4 H12 hq4 e12 h12 => ?_
            have e812 := (e9.trans e10).trans (e11.trans e12)
            rw [← List.map_append] at h12
            walk_at "rd"
            refine i_slL (SqL.of (e812 _ _ h8w)) fun q5 H13 hq5 e13 h13 => ?_
            rw [cut_str] at h13
            refine i_addL (e13 _ _ h12) h13 (line_of (by rw [List.length_map, List.length_append, List.length_map, List.length_reverse]; have := l0 none (some at'); have := l0 (some at') (some (at' + 2)); have := l0 (some (at' + 2)) none; omega)) fun q6 H14 hq6 e14 h14 => ?_
            rw [← List.map_append] at h14
            have e814 := (e812.trans e13).trans e14
            refine k q6 _ H14 (hfree (e812.trans e13) hq6) (e08.same e814) (hF8.same e814) h14 ⟨fun z hz => ?_, ?_⟩
            · simp only [List.mem_append, List.mem_reverse] at hz
              rcases hz with (hz | hz) | hz
              · exact (w0 _ _).1 z hz
              · exact (w0 _ _).1 z hz
              · exact (w0 _ _).1 z hz
            · have := wts_three ws ha0
              have := hwd.2
              rw [wts_app, wts_app, wts_rev]
              omega
          · walk_at "rd"
            refine iteD (fun hc => ?_) (fun hc => ?_)
            · walk_at "rd"
              refine i_slL hSw fun q1 H9 hq1 e9 h9 => ?_
              walk_at "rd"
              refine i_newL (line_of (by simp)) fun q2 H10 hq2 e10 h10' => ?_
              rw [cut_str] at h9
              have h10' : H10 q2 = some (.lst ([word].map V.str)) := h10'
              refine i_addL (e10 _ _ h9) h10' (line_of (by rw [List.length_map, List.length_map]; have := l0 none (some at'); simp; omega)) fun q3 H11 hq3 e11 h11 => ?_
              rw [← List.map_append] at h11
              have e811 := (e9.trans e10).trans e11
              walk_at "rd"
              refine i_slL (SqL.of (e811 _ _ h8w)) fun q4 H12 hq4 e12 h12 => ?_
              rw [cut_str] at h12
              refine i_addL (e12 _ _ h11) h12 (line_of (by rw [List.length_map, List.length_append, List.length_map]; have := l0 none (some at'); have := l0 (some at') none; simp; omega)) fun q5 H13 hq5 e13 h13 => ?_
              rw [← List.map_append] at h13
              have e813 := (e811.trans e12).trans e13
              exact k q5 _ H13 (hfree (e811.trans e12) hq5) (e08.same e813) (hF8.same e813) h13 ((((w0 _ _).app one).app (w0 _ _)).le (by omega))
            · walk_at "rd"
              refine i_ifE ?_
              walk_at "rd"
              refine iteD (fun hc => ?_) (fun hc => ?_)
              · walk_at "rd"
                refine i_slL hSw fun q1 H9 hq1 e9 h9 => ?_
                walk_at "rd"
                refine i_newL (line_of (by simp)) fun q2 H10 hq2 e10 h10' => ?_
                rw [cut_str] at h9
                have h10' : H10 q2 = some (.lst ([word].map V.str)) := h10'
                refine i_addL (e10 _ _ h9) h10' (line_of (by rw [List.length_map, List.length_map]; have := l0 none (some at'); simp; omega)) fun q3 H11 hq3 e11 h11 => ?_
                rw [← List.map_append] at h11
                have e811 := (e9.trans e10).trans e11
                walk_at "rd"
                refine i_slL (SqL.of (e811 _ _ h8w)) fun q4 H12 hq4 e12 h12 => ?_
                rw [cut_str] at h12
                refine i_addL (e12 _ _ h11) h12 (line_of (by rw [List.length_map, List.length_append, List.length_map]; have := l0 none (some at'); have := l0 (some (at' + 1)) none; simp; omega)) fun q5 H13 hq5 e13 h13 => ?_
                rw [← List.map_append] at h13
                have e813 := (e811.trans e12).trans e13
                exact k q5 _ H13 (hfree (e811.trans e12) hq5) (e08.same e813) (hF8.same e813) h13 ((((w0 _ _).app one).app (w0 _ _)).le (by omega))
              · walk_at "rd"
                refine i_newL (line_of (by simp)) fun q2 H10 hq2 e10 h10' => ?_
                have h10' : H10 q2 = some (.lst ([word].map V.str)) := h10'
                refine i_addL (e10 _ _ h8w) h10' (line_of (by rw [List.length_map, List.length_map]; simp; omega)) fun q3 H11 hq3 e11 h11 => ?_
                rw [← List.map_append] at h11
                have e811 := e10.trans e11
                exact k q3 _ H11 (hfree e10 hq3) (e08.same e811) (hF8.same e811) h11 ((hwd.app one).le (by omega))
noncomputable def Ln (m n : Nat) (ls : List Str) : Prop := (∀ z ∈ ls, Asc z ∧ z.length ≤ m) ∧ ls.length ≤ n
noncomputable def sp__law_bent_lines (K : PySem.W.Frag) : Sp := fun vs H Q _ => ∃ d l w nv ls ns m n, vs = [.ref d, .ref w, nv] ∧ Feed H d l ∧ H w = some (.lst (ls.map V.str)) ∧ ls ≠ [] ∧ Ln m n ls ∧ m ≤ 400 ∧ 10 ≤ m ∧ n ≤ 250 ∧ Is K H (nmD ns) nv ∧ (∀ z ∈ ns, isNm z = true) ∧ ns.length ≤ 10 ∧
  ∀ p us H', H p = none → ExtBut d H H' → Feed H' d l → H' p = some (.lst (us.map V.str)) → Ln (2 * m + 14) (3 * n + 1) us → Q (.ref p) H'
theorem Ln.cut {m n : Nat} {ws : List Str} (h : Ln m n ws) (lo hi : Option Int) : Ln m n (cutS ws lo hi) := ⟨fun z hz => h.1 z ((cutS_sub ws lo hi).subset hz), Nat.le_trans (cutS_len ws lo hi) h.2⟩
theorem Ln.app {m n k : Nat} {a b : List Str} (h : Ln m n a) (g : Ln m k b) : Ln m (n + k) (a ++ b) := ⟨fun z hz => (List.mem_append.mp hz).elim (h.1 z) (g.1 z), by rw [List.length_append]; have := h.2; have := g.2; omega⟩
theorem Ln.le {m n m' n' : Nat} {a : List Str} (h : Ln m n a) (hm : m ≤ m') (hl : n ≤ n') : Ln m' n' a := ⟨fun z hz => ⟨(h.1 z hz).1, Nat.le_trans (h.1 z hz).2 hm⟩, Nat.le_trans h.2 hl⟩
theorem Ln.one {m : Nat} {z : Str} (h : Asc z) (hl : z.length ≤ m) : Ln m 1 [z] := ⟨fun y hy => by rw [List.mem_singleton.mp hy]; exact ⟨h, hl⟩, Nat.le_refl _⟩
noncomputable def menu7 : List Str := ["", "names", "ahead", "names a", "ahead a b", "ahead a a", " "]
theorem menu7_ok : ∀ z ∈ menu7, (∀ c ∈ z.cps.toList, c < 128) ∧ z.length ≤ 10 := by decide +kernel
theorem ok__law_bent_lines {f : Addr} {fd : FuncData} (F : Fun K "_law_bent_lines" "_law_bent_lines" s__law_bent_lines f fd) (T : TopF mg) (c__law_draw : Fnd P w K mg base 1 "_law_draw" ["_law_feed_here", "_law_many"] (sp__law_draw K)) (c__law_bent_words : Fnd P w K mg base 2 "_law_bent_words" ["_law_feed_here", "_law_words", "_law_names_here"] (sp__law_bent_words K)) : FnOk P w K mg base CX0 3 f fd ["_law_feed_here", "_law_lines_here", "_law_names_here"] (sp__law_bent_lines K) := by
  refine F.ok sc__law_bent_lines (fun vs H Q E h => ?_) (fun cdv A outer s H vs Q E hr h => ?_)
  · obtain ⟨d, l, w, nv, ls, ns, m, n, rfl, _⟩ := h
    rfl
  · obtain ⟨d, l, w, nv, ls, ns, m, n, rfl, hF, hW, hne, hln, hm, hm10, hn, hN, hnm, h10, k⟩ := h
    have hu := hu_of hr
    have hq := qa_of hr
    have hlen : ls.length ≤ 250 := Nat.le_trans hln.2 hn
    have hpos : 0 < ls.length := List.length_pos_iff.mpr hne
    have l0 := fun lo hi => cutS_len ls lo hi
    have w0 := fun lo hi => hln.cut lo hi
    with_reducible refine ⟨_, (pss_cons (ps_set (i := 3) sc__law_bent_lines.nd (by with_unfolding_all rfl) (by with_unfolding_all exact Or.inl rfl) (pe_fn c__law_draw (hr.mono (by decide)) (by with_unfolding_all rfl) (pa_cons (pv 0) (pa_cons (pe_callB (call_lenK (K := K)) (by with_unfolding_all rfl) T.b_len PyProof.Rows.Boot.«len» (pa_cons (pv 1) pa_nil)) pa_nil))))
      (pss_cons (ps_set (i := 4) sc__law_bent_lines.nd (by with_unfolding_all rfl) (by with_unfolding_all exact Or.inl rfl) (pe_fn c__law_draw (hr.mono (by decide)) (by with_unfolding_all rfl) (pa_cons (pv 0) (pa_cons pe_int pa_nil))))
      (pss_cons (ps_if (pt_cmpR (op_eqK (K := K) hq) (pv 4) pe_int (nomark _)) (pss_one (ps_ret (pe_op (op_addK (K := K)) (pe_slice (sl_K (K := K)) (pv 1) po_none (po_some (pv 3))) (pe_slice (sl_K (K := K)) (pv 1) (po_some (pe_op (op_addK (K := K)) (pv 3) pe_int)) po_none)))) pss_nil)
      (pss_cons (ps_if (pt_cmpR (op_eqK (K := K) hq) (pv 4) pe_int (nomark _)) (pss_one (ps_ret (pe_op (op_addK (K := K)) (pe_slice (sl_K (K := K)) (pv 1) po_none (po_some (pe_op (op_addK (K := K)) (pv 3) pe_int))) (pe_slice (sl_K (K := K)) (pv 1) (po_some (pv 3)) po_none)))) pss_nil)
      (pss_cons (ps_if (pt_cmpR (op_eqK (K := K) hq) (pv 4) pe_int (nomark _)) (pss_one (ps_ret (pe_op (op_addK (K := K)) (pe_op (op_addK (K := K)) (pe_slice (sl_K (K := K)) (pv 1) po_none (po_some (pv 3))) (pe_sliceStep (pe_slice (sl_K (K := K)) (pv 1) (po_some (pv 3)) (po_some (pe_op (op_addK (K := K)) (pv 3) pe_int))) (pe_un un_neg pe_int))) (pe_slice (sl_K (K := K)) (pv 1) (po_some (pe_op (op_addK (K := K)) (pv 3) pe_int)) po_none)))) pss_nil)
      (pss_cons (ps_if (pt_cmpR (op_eqK (K := K) hq) (pv 4) pe_int (nomark _)) (pss_cons (ps_set (i := 5) sc__law_bent_lines.nd (by with_unfolding_all rfl) (by with_unfolding_all exact Or.inl rfl) (pe_ix (ix_anyK (K := K) hu) (pe_lst (pa_cons pe_str (pa_cons pe_str (pa_cons pe_str (pa_cons pe_str (pa_cons pe_str (pa_cons pe_str (pa_cons pe_str pa_nil)))))))) (pe_fn c__law_draw (hr.mono (by decide)) (by with_unfolding_all rfl) (pa_cons (pv 0) (pa_cons pe_int pa_nil))) (by with_unfolding_all exact fun _ _ => rfl)))
      (pss_one (ps_ret (pe_op (op_addK (K := K)) (pe_op (op_addK (K := K)) (pe_slice (sl_K (K := K)) (pv 1) po_none (po_some (pv 3))) (pe_lst (pa_cons (pv 5) pa_nil))) (pe_slice (sl_K (K := K)) (pv 1) (po_some (pv 3)) po_none))))) pss_nil)
      (pss_cons (ps_set (i := 6) sc__law_bent_lines.nd (by with_unfolding_all rfl) (by with_unfolding_all exact Or.inl rfl) (pe_fn c__law_bent_words (hr.mono (by decide)) (by with_unfolding_all rfl) (pa_cons (pv 0) (pa_cons (pe_bmK (K := K) PySem.F.plainAttrs_str PySem.F.slot_str_split PySem.F.type_str_split (mm mt_split) (pe_ix (ix_anyK (K := K) hu) (pv 1) (pv 3) (by with_unfolding_all exact fun _ _ => rfl)) (pa_cons pe_str pa_nil)) (pa_cons (pv 2) pa_nil)))))
      (pss_one (ps_ret (pe_op (op_addK (K := K)) (pe_op (op_addK (K := K)) (pe_slice (sl_K (K := K)) (pv 1) po_none (po_some (pv 3))) (pe_lst (pa_cons (pe_bmK (K := K) PySem.F.plainAttrs_str PySem.F.slot_str_join PySem.F.type_str_join (mt_joinK (K := K)) pe_str (pa_cons (pv 6) pa_nil)) pa_nil))) (pe_slice (sl_K (K := K)) (pv 1) (po_some (pe_op (op_addK (K := K)) (pv 3) pe_int)) po_none))))))))))), ?_⟩
    walk_at "rd"
    refine ⟨d, l, _, rfl, hF, by rw [List.length_map]; omega, by rw [List.length_map]; omega, fun at' H1 ha0 ha1 e1 hF1 => ?_⟩
    rw [List.length_map] at ha1
    have h1w := e1 _ _ (hF.lst hW) hW
    walk_at "rd"
    refine ⟨d, l, 8, rfl, hF1, by omega, by omega, fun way H8 hy0 hy1 e2 hF8 => ?_⟩
    have h8w := e2 _ _ (hF1.lst h1w) h1w
    have e08 : ExtBut d H H8 := e1.trans e2
    have hSw := SqL.of (K := K) h8w
    have hN8 := (hN.nm_fz (hF.fz e1)).nm_fz (hF1.fz e2)
    have hfree : ∀ {p : Addr} {H9 : Hp}, Same H8 H9 → H9 p = none → H p = none := fun e h => hF8.free e08 (e.free h)
    clear h1w e1 e2 hF1
    walk_at "rd"
    refine iteD (fun hc => ?_) (fun hc => ?_)
    · walk_at "rd"
      refine i_slL hSw fun q1 H9 hq1 e9 h9 => ?_
      walk_at "rd"
      refine i_slL (SqL.of (e9 _ _ h8w)) fun q2 H10 hq2 e10 h10' => ?_
      rw [cut_str] at h9 h10'
      refine i_addL (e10 _ _ h9) h10' (line_of (by rw [List.length_map, List.length_map]; have := l0 none (some at'); have := l0 (some (at' + 1)) none; omega)) fun q3 H11 hq3 e11 h11 => ?_
      rw [← List.map_append] at h11
      exact k q3 _ H11 (hfree (e9.trans e10) hq3) (e08.same ((e9.trans e10).trans e11)) (hF8.same ((e9.trans e10).trans e11)) h11 (((w0 _ _).app (w0 _ _)).le (by omega) (by omega))
    · walk_at "rd"
      refine iteD (fun hc => ?_) (fun hc => ?_)
      · walk_at "rd"
        refine i_slL hSw fun q1 H9 hq1 e9 h9 => ?_
        walk_at "rd"
        refine i_slL (SqL.of (e9 _ _ h8w)) fun q2 H10 hq2 e10 h10' => ?_
        rw [cut_str] at h9 h10'
        refine i_addL (e10 _ _ h9) h10' (line_of (by rw [List.length_map, List.length_map]; have := l0 none (some (at' + 1)); have := l0 (some at') none; omega)) fun q3 H11 hq3 e11 h11 => ?_
        rw [← List.map_append] at h11
        exact k q3 _ H11 (hfree (e9.trans e10) hq3) (e08.same ((e9.trans e10).trans e11)) (hF8.same ((e9.trans e10).trans e11)) h11 (((w0 _ _).app (w0 _ _)).le (by omega) (by omega))
      · walk_at "rd"
        refine iteD (fun hc => ?_) (fun hc => ?_)
        · walk_at "rd"
          refine i_slL hSw fun q1 H9 hq1 e9 h9 => ?_
          walk_at "rd"
          refine i_slL (SqL.of (e9 _ _ h8w)) fun q2 H10 hq2 e10 h10' => ?_
          walk_at "rd"
          refine i_step (SqL.of h10') (.inr rfl) fun q3 H11 hq3 e11 h11 => ?_
          have h11 : H11 q3 = some (.lst (cutV (ls.map V.str) (some at') (some (at' + 2))).reverse) := h11
          rw [cut_str] at h9 h11
          rw [← List.map_reverse] at h11
          refine i_addL (e11 _ _ (e10 _ _ h9)) h11 (line_of (by rw [List.length_map, List.length_map, List.length_reverse]; have := l0 none (some at'); have := l0 (some at') (some (at' + 2)); omega)) fun q4 H12 hq4 e12 h12 => ?_
          have e812 := (e9.trans e10).trans (e11.trans e12)
          rw [← List.map_append] at h12
          walk_at "rd"
          refine i_slL (SqL.of (e812 _ _ h8w)) fun q5 H13 hq5 e13 h13 => ?_
          rw [cut_str] at h13
          refine i_addL (e13 _ _ h12) h13 (line_of (by rw [List.length_map, List.length_append, List.length_map, List.length_reverse]; have := l0 none (some at'); have := l0 (some at') (some (at' + 2)); have := l0 (some (at' + 2)) none; omega)) fun q6 H14 hq6 e14 h14 => ?_
          rw [← List.map_append] at h14
          have e814 := (e812.trans e13).trans e14
          have hr : Ln m n (cutS ls (some at') (some (at' + 2))).reverse := ⟨fun z hz => (w0 _ _).1 z (List.mem_reverse.mp hz), by rw [List.length_reverse]; exact (w0 _ _).2⟩
          exact k q6 _ H14 (hfree (e812.trans e13) hq6) (e08.same e814) (hF8.same e814) h14 ((((w0 _ _).app hr).app (w0 _ _)).le (by omega) (by omega))
        · walk_at "rd"
          refine iteD (fun hc => ?_) (fun hc => ?_)
          · walk_at "rd"
            refine i_newL (line_of (by simp)) fun t9 H9 ht9 e9 h9 => ?_
            walk_at "rd"
            refine ⟨d, l, 7, rfl, hF8.same e9, by omega, by omega, fun c H10 hc0 hc1 e10 hF10 => ?_⟩
            have h10m : H10 t9 = some (.lst (menu7.map V.str)) := e10 _ _ ((hF8.same e9).lst h9) h9
            have h10w := e10 _ _ ((hF8.same e9).lst (e9 _ _ h8w)) (e9 _ _ h8w)
            have hcl : c.toNat < menu7.length := by show c.toNat < 7; omega
            have hwk := menu7_ok _ (List.getElem_mem hcl)
            have hcg := List.getElem?_eq_getElem hcl
            generalize menu7[c.toNat] = word at hwk hcg
            have e010 : ExtBut d H H10 := (e08.same e9).trans e10
            have hfree2 : ∀ {p : Addr} {H9 : Hp}, Same H10 H9 → H9 p = none → H p = none := fun e h => hF10.free e010 (e.free h)
            walk_at "rd"
            refine i_ixL h10m (v := .str word) (by have := atI_nat (xs := menu7.map V.str) (j := c.toNat) (v := V.str word) (by rw [List.getElem?_map, hcg]; rfl); rwa [Int.toNat_of_nonneg hc0] at this) ?_
            walk_at "rd"
            refine i_slL (SqL.of h10w) fun q1 H11 hq1 e11 h11 => ?_
            walk_at "rd"
            refine i_newL (line_of (by simp)) fun q2 H12 hq2 e12 h12 => ?_
            rw [cut_str] at h11
            have h12 : H12 q2 = some (.lst ([word].map V.str)) := h12
            refine i_addL (e12 _ _ h11) h12 (line_of (by rw [List.length_map, List.length_map]; have := l0 none (some at'); simp; omega)) fun q3 H13 hq3 e13 h13 => ?_
            rw [← List.map_append] at h13
            have e1013 := (e11.trans e12).trans e13
            walk_at "rd"
            refine i_slL (SqL.of (e1013 _ _ h10w)) fun q4 H14 hq4 e14 h14 => ?_
            rw [cut_str] at h14
            refine i_addL (e14 _ _ h13) h14 (line_of (by rw [List.length_map, List.length_append, List.length_map]; have := l0 none (some at'); have := l0 (some at') none; simp; omega)) fun q5 H15 hq5 e15 h15 => ?_
            rw [← List.map_append] at h15
            have e1015 := (e1013.trans e14).trans e15
            exact k q5 _ H15 (hfree2 (e1013.trans e14) hq5) (e010.same e1015) (hF10.same e1015) h15 ((((w0 _ _).app (Ln.one hwk.1 (by omega))).app (w0 _ _)).le (by omega) (by omega))
          · have hal : at'.toNat < ls.length := by omega
            have hzk := hln.1 _ (List.getElem_mem hal)
            have hzg := List.getElem?_eq_getElem hal
            generalize ls[at'.toNat] = z at hzk hzg
            have hwz := wts_split z
            have hwzl := wts_len (Txt.split z " ")
            walk_at "rd"
            refine i_ixL h8w (v := .str z) (by have := atI_nat (xs := ls.map V.str) (j := at'.toNat) (v := V.str z) (by rw [List.getElem?_map, hzg]; rfl); rwa [Int.toNat_of_nonneg ha0] at this) ?_
            walk_at "rd"
            refine i_split (by decide +kernel) (by omega) (by omega) fun p9 H9 hp9 e9 h9 => ?_
            walk_at "rd"
            refine ⟨d, l, p9, nv, Txt.split z " ", ns, m + 1, rfl, hF8.same e9, h9, words_ne z, ⟨asc_split hzk.1, by omega⟩, by omega, hN8.nm_fz e9.fz, hnm, h10, fun q us H10 hq10 e10 hF10 h10' hus => ?_⟩
            have e010 : ExtBut d H H10 := (e08.same e9).trans e10
            have h10w := e10 _ _ ((hF8.same e9).lst (e9 _ _ h8w)) (e9 _ _ h8w)
            have hfree2 : ∀ {p : Addr} {H9 : Hp}, Same H10 H9 → H9 p = none → H p = none := fun e h => hF10.free e010 (e.free h)
            have husl := hus.2
            have hjl := len_join us
            walk_at "rd"
            refine i_slL (SqL.of h10w) fun q1 H11 hq1 e11 h11 => ?_
            walk_at "rd"
            refine i_join (SqL.of (e11 _ _ h10')) (by rw [show (" " : Str).length = 1 from by decide +kernel, Nat.mul_one]; have : (us.map (·.length)).sum + us.length = wts us := rfl; omega) ?_
            rw [txt_join]
            walk_at "rd"
            refine i_newL (line_of (by simp)) fun q2 H12 hq2 e12 h12 => ?_
            rw [cut_str] at h11
            have h12 : H12 q2 = some (.lst ([Str.join " " us].map V.str)) := h12
            refine i_addL (e12 _ _ h11) h12 (line_of (by rw [List.length_map, List.length_map]; have := l0 none (some at'); simp; omega)) fun q3 H13 hq3 e13 h13 => ?_
            rw [← List.map_append] at h13
            have e1013 := (e11.trans e12).trans e13
            walk_at "rd"
            refine i_slL (SqL.of (e1013 _ _ h10w)) fun q4 H14 hq4 e14 h14 => ?_
            rw [cut_str] at h14
            refine i_addL (e14 _ _ h13) h14 (line_of (by rw [List.length_map, List.length_append, List.length_map]; have := l0 none (some at'); have := l0 (some (at' + 1)) none; simp; omega)) fun q5 H15 hq5 e15 h15 => ?_
            rw [← List.map_append] at h15
            have e1015 := (e1013.trans e14).trans e15
            have wl : ∀ lo hi, Ln (2 * m + 14) n (cutS ls lo hi) := fun lo hi => (w0 lo hi).le (by omega) (by omega)
            exact k q5 _ H15 (hfree2 (e1013.trans e14) hq5) (e010.same e1015) (hF10.same e1015) h15 ((((wl _ _).app (Ln.one (asc_join hus.1) (by omega))).app (wl _ _)).le (by omega) (by omega))
noncomputable def spLaw (K : PySem.W.Frag) : Sp := fun vs H Q _ => ∃ (a : Addr) (ns : List Int), vs = [.ref a] ∧ SqL K H a (ns.map V.int) ∧ ns.length ≤ 63 ∧ ∀ H', Q (.bl true) H'
theorem tale_ln {ns : List Str} {ps : List (Str × Str)} (h : Tale ns ps) : Ln 99 61 (lnD ns ps) := by
  have hf := h.few
  have hl := h.le
  refine ⟨fun z hz => ?_, by unfold lnD; rw [List.length_cons, List.length_map]; omega⟩
  have key : ∀ ws : List Str, (∀ w ∈ ws, isNm w = true) → ws.length ≤ 11 → Asc (Str.join bl1 ws) ∧ (Str.join bl1 ws).length ≤ 99 := fun ws hw hl => ⟨asc_join fun w hq => nm_asc (hw w hq), by have := join_len ws fun z hz => nm_len (hw z hz); omega⟩
  rcases List.mem_cons.mp hz with rfl | hz
  · exact key _ (words_ok (w := "names") (by decide +kernel) h.names.2) (by rw [List.length_cons]; omega)
  · obtain ⟨p, hp, rfl⟩ := List.mem_map.mp hz
    have := h.nmP p hp
    exact key _ (ah_ok this.1 this.2) (by simp)
theorem Ln.s {m n : Nat} {ls : List Str} (h : Ln m n ls) (hm : m ≤ 900) (hn : n ≤ 900) : LnS ls := ⟨fun z hz => ⟨(h.1 z hz).1, Nat.le_trans (h.1 z hz).2 hm⟩, Nat.le_trans h.2 hn⟩
theorem ok_law {f : Addr} {fd : FuncData} (F : Fun K "law" "law" s_law f fd) (T : TopF mg) (c__law_feed : Fnd P w K mg base 1 "_law_feed" ["_law_script"] (sp__law_feed K)) (c__law_draw : Fnd P w K mg base 1 "_law_draw" ["_law_feed_here", "_law_many"] (sp__law_draw K)) (c__law_names : Fnd P w K mg base 2 "_law_names" ["_law_feed_here", "_law_many"] (sp__law_names K)) (c__law_tale : Fnd P w K mg base 5 "_law_tale" ["_law_feed_here", "_law_most"] (sp__law_tale K)) (c__law_lines : Fnd P w K mg base 1 "_law_lines" ["_law_tale_here"] (sp__law_lines K)) (c__law_right : Fnd P w K mg base 7 "_law_right" ["_law_lines_here"] (sp__law_right K)) (c__law_bent_lines : Fnd P w K mg base 3 "_law_bent_lines" ["_law_feed_here", "_law_lines_here", "_law_names_here"] (sp__law_bent_lines K)) : FnOk P w K mg base CX0 8 f fd ["_law_script"] (spLaw K) := by
  refine F.ok sc_law (fun vs H Q E h => ?_) (fun cdv A outer s H vs Q E hr h => ?_)
  · obtain ⟨a, ns, rfl, _⟩ := h
    rfl
  · obtain ⟨a, ns, rfl, hS, h63, k⟩ := h
    have hu := hu_of hr
    have hq := qa_of hr
    with_reducible refine ⟨_, (pss_cons (ps_set (i := 1) sc_law.nd (by with_unfolding_all rfl) (by with_unfolding_all exact Or.inl rfl) (pe_fn c__law_feed (hr.mono (by decide)) (by with_unfolding_all rfl) (pa_cons (pv 0) pa_nil)))
      (pss_cons (ps_for PassesOwn.never (by with_unfolding_all rfl) (pi_range1 (by with_unfolding_all rfl) T.b_range (pa_cons pe_int pa_nil)) (pg_name (i := 2) sc_law.nd (by with_unfolding_all rfl) (by with_unfolding_all exact Or.inl rfl))
      (pss_cons (ps_set (i := 3) sc_law.nd (by with_unfolding_all rfl) (by with_unfolding_all exact Or.inl rfl) (pe_fn c__law_tale (hr.mono (by decide)) (by with_unfolding_all rfl) (pa_cons (pv 1) (pa_cons pe_int pa_nil))))
      (pss_cons (ps_set (i := 4) sc_law.nd (by with_unfolding_all rfl) (by with_unfolding_all exact Or.inl rfl) (pe_fn c__law_lines (hr.mono (by decide)) (by with_unfolding_all rfl) (pa_cons (pv 3) pa_nil)))
      (pss_cons (ps_if (pt_not (pt_val (pe_fn c__law_right (hr.mono (by decide)) (by with_unfolding_all rfl) (pa_cons (pv 4) pa_nil)))) (pss_one (ps_ret pe_bl)) pss_nil)
      (pss_one (ps_for PassesOwn.never (by with_unfolding_all rfl) (pi_range1 (by with_unfolding_all rfl) T.b_range (pa_cons pe_int pa_nil)) (pg_name (i := 5) sc_law.nd (by with_unfolding_all rfl) (by with_unfolding_all exact Or.inl rfl))
      (pss_cons (ps_set (i := 6) sc_law.nd (by with_unfolding_all rfl) (by with_unfolding_all exact Or.inl rfl) (pe_fn c__law_bent_lines (hr.mono (by decide)) (by with_unfolding_all rfl) (pa_cons (pv 1) (pa_cons (pv 4) (pa_cons (pe_ix (ix_anyK (K := K) hu) (pv 3) pe_int (by with_unfolding_all exact fun _ _ => rfl)) pa_nil)))))
      (pss_cons (ps_if (PW.pt (pw_and (pt_cmpR (op_neK (K := K) hq) (pv 6) (pe_lst pa_nil) (nomark _)) (pw_and1 (pt_cmpR (op_eqK (K := K) hq) (pe_fn c__law_draw (hr.mono (by decide)) (by with_unfolding_all rfl) (pa_cons (pv 1) (pa_cons pe_int pa_nil))) pe_int (nomark _))))) (pss_one (ps_set (i := 6) sc_law.nd (by with_unfolding_all rfl) (by with_unfolding_all exact Or.inl rfl) (pe_fn c__law_bent_lines (hr.mono (by decide)) (by with_unfolding_all rfl) (pa_cons (pv 1) (pa_cons (pv 6) (pa_cons (pe_ix (ix_anyK (K := K) hu) (pv 3) pe_int (by with_unfolding_all exact fun _ _ => rfl)) pa_nil)))))) pss_nil)
      (pss_one (ps_if (pt_not (pt_val (pe_fn c__law_right (hr.mono (by decide)) (by with_unfolding_all rfl) (pa_cons (pv 6) pa_nil)))) (pss_one (ps_ret pe_bl)) pss_nil))))))))))
      (pss_cons (ps_set (i := 7) sc_law.nd (by with_unfolding_all rfl) (by with_unfolding_all exact Or.inl rfl) (pe_ix (ix_anyK (K := K) hu) (pe_fn c__law_names (hr.mono (by decide)) (by with_unfolding_all rfl) (pa_cons (pv 1) (pa_cons pe_int pa_nil))) pe_int (by with_unfolding_all exact fun _ _ => rfl)))
      (pss_cons (ps_for PassesOwn.never (by with_unfolding_all rfl) (pi_anyK (K := K) hu (pe_tup (pa_cons pe_int (pa_cons pe_int (pa_cons pe_int (pa_cons pe_int pa_nil)))))) (pg_name (i := 8) sc_law.nd (by with_unfolding_all rfl) (by with_unfolding_all exact Or.inl rfl))
      (pss_one (ps_if (pt_not (pt_val (pe_fn c__law_right (hr.mono (by decide)) (by with_unfolding_all rfl) (pa_cons (pe_op (op_addK (K := K)) (pe_lst (pa_cons (pe_op (op_addK (K := K)) pe_str (pv 7)) pa_nil)) (pe_op op_mulB (pe_lst (pa_cons (pe_bmK (K := K) PySem.F.plainAttrs_str PySem.F.slot_str_join PySem.F.type_str_join (mt_joinK (K := K)) pe_str (pa_cons (pe_lst (pa_cons pe_str (pa_cons (pv 7) (pa_cons (pv 7) pa_nil)))) pa_nil)) pa_nil)) (pv 8))) pa_nil)))) (pss_one (ps_ret pe_bl)) pss_nil)))
      (pss_one (ps_ret (pe_and (pe_fn c__law_right (hr.mono (by decide)) (by with_unfolding_all rfl) (pa_cons (pe_lst pa_nil) pa_nil)) (pe_and (pe_fn c__law_right (hr.mono (by decide)) (by with_unfolding_all rfl) (pa_cons (pe_lst (pa_cons pe_str pa_nil)) pa_nil)) (pe_one (pe_fn c__law_right (hr.mono (by decide)) (by with_unfolding_all rfl) (pa_cons (pe_lst (pa_cons pe_str (pa_cons pe_str pa_nil))) pa_nil))))))))))), ?_⟩
    walk_at "rd"
    refine ⟨a, ns, rfl, hS, h63, fun d l H1 hd hl e1 hF => ?_⟩
    walk_at "rd"
    refine i_rngv (by omega) ?_
    refine for_by walk_range (fun i σ H2 => ∃ x2 x3 x4 x5 x6, σ = [some (.ref a), some (.ref d), x2, x3, x4, x5, x6, none, none] ∧ Feed H2 d l) ⟨_, _, _, _, _, rfl, hF⟩ (fun _ _ _ _ => trivial) (fun i x σ H2 hx hi hP => ?_) (fun σ H2 hP => ?_)
    · obtain ⟨x2, x3, x4, x5, x6, rfl, hF2⟩ := hP
      obtain ⟨rfl, hi2⟩ := rng_get hx
      walk_at "rd"
      refine ⟨d, l, 10, rfl, hF2, by omega, by omega, fun t3 vx vy n3 p3 H3 e3 hF3 ht3 hx3 hy3 hT3 => ?_⟩
      have hI3 : Is K H3 (hfD n3 p3) (.ref t3) := is_hf ht3 hx3 hy3
      have hln := tale_ln hT3
      walk_at "rd"
      refine ⟨.ref t3, n3, p3, rfl, hI3, hT3, fun q4 H4 hq4 e4 h4 => ?_⟩
      walk_at "rd"
      refine ⟨q4, lnD n3 p3, rfl, h4, hln.s (by omega) (by omega), fun H5 e5 => ?_⟩
      have hF5 := hF3.same (e4.trans e5)
      have hI5 := hI3.hf_fz (e4.trans e5).fz
      have h5 := e5 _ _ h4
      walk_at "rd"
      refine i_rngv (by omega) ?_
      refine for_by walk_range (fun j σ H6 => ∃ x5 x6, σ = [some (.ref a), some (.ref d), some (.int (0 + (i : Int))), some (.ref t3), some (.ref q4), x5, x6, none, none] ∧ ExtBut d H5 H6 ∧ Feed H6 d l) ⟨_, _, rfl, .refl, hF5⟩ (fun _ _ _ _ => trivial) (fun j x σ H6 hx hj hP => ?_) (fun σ H6 hP => ?_)
      · obtain ⟨y5, y6, rfl, e6, hF6⟩ := hP
        obtain ⟨rfl, hj2⟩ := rng_get hx
        have h6 := e6 _ _ (hF5.lst h5) h5
        have hI6 := hI5.hf_fz (hF5.fz e6)
        walk_at "rd"
        refine i_ixH0 hI6 fun nv hN => ?_
        walk_at "rd"
        refine ⟨d, l, q4, nv, lnD n3 p3, n3, 99, 61, rfl, hF6, h6, by unfold lnD; simp, hln, by omega, by omega, by omega, hN, hT3.names.2, hT3.few, fun q7 us H7 hq7 e7 hF7 h7 hus => ?_⟩
        have e57 := e6.trans e7
        have hI7 := hI6.hf_fz (hF6.fz e7)
        walk_at "rq"
        with_reducible refine i_cut (fun σ' H' => ∃ q vs, σ' = [some (.ref a), some (.ref d), some (.int (0 + (i : Int))), some (.ref t3), some (.ref q4), some (.int (0 + (j : Int))), some (.ref q), none, none] ∧ ExtBut d H5 H' ∧ Feed H' d l ∧ H' q = some (.lst (vs.map V.str)) ∧ LnS vs) (fun N hN' => ?_) (fun σ1 H9 hM => ?_)
        · walk_at "rq"
          refine i_newL (line_of (by simp)) fun t8 H8 ht8 e8 h8 => ?_
          have hF8 := hF7.same e8
          have h8q := e8 _ _ h7
          refine i_neD (Is.of_lst (SqL.of h8q) (is_strs us)) (Is.of_lst (ds := []) (SqL.of h8) .nil) (fine_lst fun z hz => (hus.1 z hz).1.ok) (by rfl) ?_
          cases us with
          | nil =>
            rw [show PyData.eqv (.list (([] : List Str).map PyData.str)) (.list []) = true from by simp [PyData.eqv, PyData.eqvAll]]
            walk_at "rq"
            exact hN' _ _ ⟨q7, [], rfl, e57.same e8, hF8, h8q, hus.s (by omega) (by omega)⟩
          | cons z zs =>
            rw [show PyData.eqv (.list ((z :: zs).map PyData.str)) (.list []) = false from by simp [PyData.eqv, PyData.eqvAll]]
            walk_at "rq"
            refine ⟨d, l, 3, rfl, hF8, by omega, by omega, fun c H9 hc0 hc1 e9 hF9 => ?_⟩
            have h9q := e9 _ _ (hF8.lst h8q) h8q
            have e59 := (e57.same e8).trans e9
            have hI9 := (hI7.hf_fz e8.fz).hf_fz (hF8.fz e9)
            walk_at "rq"
            refine iteB (fun hc => ?_) (fun hc => ?_)
            · walk_at "rq"
              refine i_ixH0 hI9 fun nv9 hN9 => ?_
              walk_at "rq"
              refine ⟨d, l, q7, nv9, z :: zs, n3, 2 * 99 + 14, 3 * 61 + 1, rfl, hF9, h9q, by simp, hus, by omega, by omega, by omega, hN9, hT3.names.2, hT3.few, fun q10 us' H10 hq10 e10 hF10 h10 hus' => ?_⟩
              walk_at "rq"
              exact hN' _ _ ⟨q10, us', rfl, e59.trans e10, hF10, h10, hus'.s (by omega) (by omega)⟩
            · walk_at "rq"
              exact hN' _ _ ⟨q7, z :: zs, rfl, e59, hF9, h9q, hus.s (by omega) (by omega)⟩
        · obtain ⟨q, vs, rfl, e9, hF9, h9, hvs⟩ := hM
          walk_at "rd"
          refine ⟨q, vs, rfl, h9, hvs, fun H10 e10 => ?_⟩
          walk_at "rd"
          exact ⟨_, _, rfl, e9.same e10, hF9.same e10⟩
      · obtain ⟨y5, y6, rfl, e6, hF6⟩ := hP
        walk_at "rd"
        exact ⟨_, _, _, _, _, rfl, hF6⟩
    · obtain ⟨x2, x3, x4, x5, x6, rfl, hF2⟩ := hP
      walk_at "rd"
      refine ⟨d, l, 1, rfl, hF2, by omega, by omega, fun p3 n3 H3 hp3 e3 hF3 h3 hN3 hl3 => ?_⟩
      obtain ⟨nm, rfl⟩ : ∃ nm, n3 = [nm] := by
        match n3, hl3 with
        | [nm], _ => exact ⟨nm, rfl⟩
      have hnm := hN3.2 nm (by simp)
      have hl8 := nm_len hnm
      walk_at "rd"
      refine i_ixL h3 (v := .str nm) (atI_nat (j := 0) rfl) ?_
      walk_at "rd"
      refine i_newT (line_of (by simp)) fun t4 H4 ht4 e4 h4 => ?_
      walk_at "rd"
      refine i_itT (SqT.of h4) ?_
      refine for_by (walk_tup (xs := [.int 59, .int 60, .int 61, .int 62])) (fun j σ H5 => ∃ x8, σ = [some (.ref a), some (.ref d), x2, x3, x4, x5, x6, some (.str nm), x8] ∧ SqT K H5 t4 [.int 59, .int 60, .int 61, .int 62]) ⟨_, rfl, SqT.of h4⟩ (fun j σ' H' hP => ?_) (fun j x σ' H5 hx hj hP => ?_) (fun σ' H5 hP => ?_)
      · obtain ⟨_, _, q⟩ := hP
        exact q
      · obtain ⟨x8, rfl, hT5⟩ := hP
        obtain ⟨mn, rfl, hmn⟩ : ∃ mn : Nat, x = .int ((mn : Nat) : Int) ∧ mn ≤ 62 := by
          match j, hx with
          | 0, hx => exact ⟨59, (Option.some.inj hx).symm, by omega⟩
          | 1, hx => exact ⟨60, (Option.some.inj hx).symm, by omega⟩
          | 2, hx => exact ⟨61, (Option.some.inj hx).symm, by omega⟩
          | 3, hx => exact ⟨62, (Option.some.inj hx).symm, by omega⟩
        walk_at "rd"
        refine i_addS (line_of (by rw [show ("names " : Str).length = 6 from by decide +kernel]; omega)) ?_
        walk_at "rd"
        refine i_newL (line_of (by simp)) fun q6 H6 hq6 e6 h6 => ?_
        walk_at "rd"
        refine i_newL (line_of (by simp)) fun q7 H7 hq7 e7 h7 => ?_
        walk_at "rd"
        refine i_joinB (ws := ["ahead", nm, nm]) (SqL.of h7) (ah_ok (p := (nm, nm)) hnm hnm) (by simp) ?_
        walk_at "rd"
        refine i_newL (line_of (by simp)) fun q8 H8 hq8 e8 h8 => ?_
        walk_at "rd"
        refine i_mulBL h8 (by omega) (by rw [sizeLine_eq]; simp; omega) fun q9 H9 hq9 e9 h9 => ?_
        have hrep : H9 q9 = some (.lst ((List.replicate mn (ahL (nm, nm))).map V.str)) := by
          rw [h9, Int.toNat_natCast]
          simp [List.map_replicate]
          exact .inr rfl
        refine i_addL (e9 _ _ (e8 _ _ (e7 _ _ h6))) hrep (line_of (by simp; omega)) fun q10 H10 hq10 e10 h10 => ?_
        have h10' : H10 q10 = some (.lst ((("names " ++ nm) :: List.replicate mn (ahL (nm, nm))).map V.str)) := h10
        have hah := tale_ln (ns := [nm]) (ps := [(nm, nm)]) ⟨hN3, by simp, by simp, fun p hp => by rw [List.mem_singleton.mp hp]; simp⟩
        walk_at "rd"
        refine ⟨q10, _, rfl, h10', ⟨fun z hz => ?_, by rw [List.length_cons, List.length_replicate]; omega⟩, fun H11 e11 => ?_⟩
        · rcases List.mem_cons.mp hz with rfl | hz
          · refine ⟨Asc.app (by unfold Asc; decide +kernel) (nm_asc hnm), ?_⟩
            rw [len_app, show ("names " : Str).length = 6 from by decide +kernel]
            omega
          · have := hah.1 (ahL (nm, nm)) (by unfold lnD; simp)
            rw [List.eq_of_mem_replicate hz]
            exact ⟨this.1, by omega⟩
        · walk_at "rd"
          exact ⟨_, rfl, (((e6.trans e7).trans (e8.trans e9)).trans (e10.trans e11)).seqT hT5⟩
      · obtain ⟨x8, rfl, hT5⟩ := hP
        walk_at "rd"
        refine i_newL (line_of (by simp)) fun q6 H6 hq6 e6 h6 => ?_
        walk_at "rd"
        refine ⟨q6, [], rfl, h6, ⟨fun z hz => (by cases hz), by simp⟩, fun H7 e7 => ?_⟩
        walk_at "rd"
        refine i_newL (line_of (by simp)) fun q8 H8 hq8 e8 h8 => ?_
        walk_at "rd"
        refine ⟨q8, [""], rfl, h8, ⟨fun z hz => ?_, by simp⟩, fun H9 e9 => ?_⟩
        · rw [List.mem_singleton.mp hz]
          exact ⟨by unfold Asc; decide +kernel, by decide +kernel⟩
        · walk_at "rd"
          refine i_newL (line_of (by simp)) fun q10 H10 hq10 e10 h10 => ?_
          walk_at "rd"
          refine ⟨q10, ["names", ""], rfl, h10, ⟨fun z hz => ?_, by simp⟩, fun H11 e11 => k H11⟩
          simp only [List.mem_cons, List.not_mem_nil, or_false] at hz
          rcases hz with rfl | rfl
          · exact ⟨by unfold Asc; decide +kernel, by decide +kernel⟩
          · exact ⟨by unfold Asc; decide +kernel, by decide +kernel⟩
end
theorem all_mk {l : PySem.W.OpenLaw} {w : World} {K : PySem.W.Frag} {h : Heap} {mg : Str → Option Value} {fa f0 f1 f2 f3 f4 f5 f6 f7 f8 f9 f10 f11 f12 f13 f14 f15 f16 f17 f18 f19 f20 f21 f22 f23 f24 C_HalfError C_NoHalf C_NoText C_NoName : Addr} (X : K.In h) (G : h.Ns mainGlobals mg) (hfa : mg "law" = some (.ref fa))
    {od0 an0 od1 an1 od2 an2 od3 an3 od4 an4 od5 an5 od6 an6 od7 an7 od8 an8 od9 an9 od10 an10 od11 an11 od12 an12 od13 an13 od14 an14 od15 an15 od16 an16 od17 an17 od18 an18 od19 an19 od20 an20 od21 an21 od22 an22 od23 an23 od24 an24 : Option Addr} {sl0 sl1 sl2 sl3 sl4 sl5 sl6 sl7 sl8 sl9 sl10 sl11 sl12 sl13 sl14 sl15 sl16 sl17 sl18 sl19 sl20 sl21 sl22 sl23 sl24 : Array (Option Value)} {oc0 kV0 dc0 pm0 cd0 ct0 oc1 kV1 dc1 pm1 cd1 ct1 oc2 kV2 dc2 pm2 cd2 ct2 oc3 kV3 dc3 pm3 cd3 ct3 oc4 kV4 dc4 pm4 cd4 ct4 oc5 kV5 dc5 pm5 cd5 ct5 oc6 kV6 dc6 pm6 cd6 ct6 oc7 kV7 dc7 pm7 cd7 ct7 oc8 kV8 dc8 pm8 cd8 ct8 oc9 kV9 dc9 pm9 cd9 ct9 oc10 kV10 dc10 pm10 cd10 ct10 oc11 kV11 dc11 pm11 cd11 ct11 oc12 kV12 dc12 pm12 cd12 ct12 oc13 kV13 dc13 pm13 cd13 ct13 oc14 kV14 dc14 pm14 cd14 ct14 oc15 kV15 dc15 pm15 cd15 ct15 oc16 kV16 dc16 pm16 cd16 ct16 oc17 kV17 dc17 pm17 cd17 ct17 oc18 kV18 dc18 pm18 cd18 ct18 oc19 kV19 dc19 pm19 cd19 ct19 oc20 kV20 dc20 pm20 cd20 ct20 oc21 kV21 dc21 pm21 cd21 ct21 oc22 kV22 dc22 pm22 cd22 ct22 oc23 kV23 dc23 pm23 cd23 ct23 oc24 kV24 dc24 pm24 cd24 ct24 : Value}
    (cg : PySem.W.specialIn K (.builtin "object.__class__") "__get__" = some (some (.builtin "getset_descriptor.__get__"))) (ct : PySem.W.takesIn K (.builtin "object.__class__") = some true)
    (aX_HalfError : PySem.W.nsIn K mainGlobals "HalfError" = some (some (.ref C_HalfError)))
    (aX_NoHalf : PySem.W.nsIn K mainGlobals "NoHalf" = some (some (.ref C_NoHalf)))
    (aX_NoText : PySem.W.nsIn K mainGlobals "NoText" = some (some (.ref C_NoText)))
    (aX_NoName : PySem.W.nsIn K mainGlobals "NoName" = some (some (.ref C_NoName)))
    (ex_HalfError : xcIn K C_HalfError = true) (sX_HalfError : PySem.W.findIn K (.ref C_HalfError) "__setattr__" = some (some (.builtin "object.__setattr__"))) (gX_HalfError : PySem.W.findIn K (.ref C_HalfError) "__getattribute__" = some (some (.builtin "BaseException.__getattribute__"))) (tX_HalfError : PySem.W.findIn K (.ref C_HalfError) "__getattr__" = some none) (lX_HalfError : PySem.W.findIn K (.ref C_HalfError) "__class__" = some (some (.builtin "object.__class__")))
    (no_HalfError : xc0In K C_HalfError = true)
    (kX_HalfError : PySem.W.keepIn K (.ref C_HalfError) = true)
    (ex_NoHalf : xcIn K C_NoHalf = true) (sX_NoHalf : PySem.W.findIn K (.ref C_NoHalf) "__setattr__" = some (some (.builtin "object.__setattr__"))) (gX_NoHalf : PySem.W.findIn K (.ref C_NoHalf) "__getattribute__" = some (some (.builtin "BaseException.__getattribute__"))) (tX_NoHalf : PySem.W.findIn K (.ref C_NoHalf) "__getattr__" = some none) (lX_NoHalf : PySem.W.findIn K (.ref C_NoHalf) "__class__" = some (some (.builtin "object.__class__")))
    (mr_NoHalf : xcMro K C_NoHalf C_HalfError = true)
    (kX_NoHalf : PySem.W.keepIn K (.ref C_NoHalf) = true)
    (nX_NoHalf_word : PySem.W.findIn K (.ref C_NoHalf) "word" = some none)
    (nX_NoHalf_number : PySem.W.findIn K (.ref C_NoHalf) "number" = some none)
    (ex_NoText : xcIn K C_NoText = true) (sX_NoText : PySem.W.findIn K (.ref C_NoText) "__setattr__" = some (some (.builtin "object.__setattr__"))) (gX_NoText : PySem.W.findIn K (.ref C_NoText) "__getattribute__" = some (some (.builtin "BaseException.__getattribute__"))) (tX_NoText : PySem.W.findIn K (.ref C_NoText) "__getattr__" = some none) (lX_NoText : PySem.W.findIn K (.ref C_NoText) "__class__" = some (some (.builtin "object.__class__")))
    (mr_NoText : xcMro K C_NoText C_HalfError = true)
    (kX_NoText : PySem.W.keepIn K (.ref C_NoText) = true)
    (nX_NoText_row : PySem.W.findIn K (.ref C_NoText) "row" = some none)
    (ex_NoName : xcIn K C_NoName = true) (sX_NoName : PySem.W.findIn K (.ref C_NoName) "__setattr__" = some (some (.builtin "object.__setattr__"))) (gX_NoName : PySem.W.findIn K (.ref C_NoName) "__getattribute__" = some (some (.builtin "BaseException.__getattribute__"))) (tX_NoName : PySem.W.findIn K (.ref C_NoName) "__getattr__" = some none) (lX_NoName : PySem.W.findIn K (.ref C_NoName) "__class__" = some (some (.builtin "object.__class__")))
    (mr_NoName : xcMro K C_NoName C_HalfError = true)
    (kX_NoName : PySem.W.keepIn K (.ref C_NoName) = true)
    (nX_NoName_name : PySem.W.findIn K (.ref C_NoName) "name" = some none)
    (ndX : ([C_HalfError, C_NoHalf, C_NoName, C_NoText] : List Addr).Nodup)
    (a0 : PySem.W.nsIn K mainGlobals "is_name" = some (some (.ref f0))) (l0 : K.lookup f0 = some ⟨oc0, od0, .func (PySem.W.fnOf "is_name" "is_name" (defArgs s_is_name) (defBody s_is_name) (defScope s_is_name) .none kV0 dc0 pm0 an0 cd0 ct0), sl0⟩) (c0 : PySem.W.codeIn K cd0 "is_name" = true) (k0 : PySem.W.keepIn K (.ref f0) = true)
    (a1 : PySem.W.nsIn K mainGlobals "are_unlike_names" = some (some (.ref f1))) (l1 : K.lookup f1 = some ⟨oc1, od1, .func (PySem.W.fnOf "are_unlike_names" "are_unlike_names" (defArgs s_are_unlike_names) (defBody s_are_unlike_names) (defScope s_are_unlike_names) .none kV1 dc1 pm1 an1 cd1 ct1), sl1⟩) (c1 : PySem.W.codeIn K cd1 "are_unlike_names" = true) (k1 : PySem.W.keepIn K (.ref f1) = true)
    (a2 : PySem.W.nsIn K mainGlobals "are_tale_names" = some (some (.ref f2))) (l2 : K.lookup f2 = some ⟨oc2, od2, .func (PySem.W.fnOf "are_tale_names" "are_tale_names" (defArgs s_are_tale_names) (defBody s_are_tale_names) (defScope s_are_tale_names) .none kV2 dc2 pm2 an2 cd2 ct2), sl2⟩) (c2 : PySem.W.codeIn K cd2 "are_tale_names" = true) (k2 : PySem.W.keepIn K (.ref f2) = true)
    (a3 : PySem.W.nsIn K mainGlobals "is_saying" = some (some (.ref f3))) (l3 : K.lookup f3 = some ⟨oc3, od3, .func (PySem.W.fnOf "is_saying" "is_saying" (defArgs s_is_saying) (defBody s_is_saying) (defScope s_is_saying) .none kV3 dc3 pm3 an3 cd3 ct3), sl3⟩) (c3 : PySem.W.codeIn K cd3 "is_saying" = true) (k3 : PySem.W.keepIn K (.ref f3) = true)
    (a4 : PySem.W.nsIn K mainGlobals "read_names" = some (some (.ref f4))) (l4 : K.lookup f4 = some ⟨oc4, od4, .func (PySem.W.fnOf "read_names" "read_names" (defArgs s_read_names) (defBody s_read_names) (defScope s_read_names) .none kV4 dc4 pm4 an4 cd4 ct4), sl4⟩) (c4 : PySem.W.codeIn K cd4 "read_names" = true) (k4 : PySem.W.keepIn K (.ref f4) = true)
    (a5 : PySem.W.nsIn K mainGlobals "read_saying" = some (some (.ref f5))) (l5 : K.lookup f5 = some ⟨oc5, od5, .func (PySem.W.fnOf "read_saying" "read_saying" (defArgs s_read_saying) (defBody s_read_saying) (defScope s_read_saying) .none kV5 dc5 pm5 an5 cd5 ct5), sl5⟩) (c5 : PySem.W.codeIn K cd5 "read_saying" = true) (k5 : PySem.W.keepIn K (.ref f5) = true)
    (a6 : PySem.W.nsIn K mainGlobals "read_tale" = some (some (.ref f6))) (l6 : K.lookup f6 = some ⟨oc6, od6, .func (PySem.W.fnOf "read_tale" "read_tale" (defArgs s_read_tale) (defBody s_read_tale) (defScope s_read_tale) .none kV6 dc6 pm6 an6 cd6 ct6), sl6⟩) (c6 : PySem.W.codeIn K cd6 "read_tale" = true) (k6 : PySem.W.keepIn K (.ref f6) = true)
    (a7 : PySem.W.nsIn K mainGlobals "_law_feed" = some (some (.ref f7))) (l7 : K.lookup f7 = some ⟨oc7, od7, .func (PySem.W.fnOf "_law_feed" "_law_feed" (defArgs s__law_feed) (defBody s__law_feed) (defScope s__law_feed) .none kV7 dc7 pm7 an7 cd7 ct7), sl7⟩) (c7 : PySem.W.codeIn K cd7 "_law_feed" = true) (k7 : PySem.W.keepIn K (.ref f7) = true)
    (a8 : PySem.W.nsIn K mainGlobals "_law_draw" = some (some (.ref f8))) (l8 : K.lookup f8 = some ⟨oc8, od8, .func (PySem.W.fnOf "_law_draw" "_law_draw" (defArgs s__law_draw) (defBody s__law_draw) (defScope s__law_draw) .none kV8 dc8 pm8 an8 cd8 ct8), sl8⟩) (c8 : PySem.W.codeIn K cd8 "_law_draw" = true) (k8 : PySem.W.keepIn K (.ref f8) = true)
    (a9 : PySem.W.nsIn K mainGlobals "_law_names" = some (some (.ref f9))) (l9 : K.lookup f9 = some ⟨oc9, od9, .func (PySem.W.fnOf "_law_names" "_law_names" (defArgs s__law_names) (defBody s__law_names) (defScope s__law_names) .none kV9 dc9 pm9 an9 cd9 ct9), sl9⟩) (c9 : PySem.W.codeIn K cd9 "_law_names" = true) (k9 : PySem.W.keepIn K (.ref f9) = true)
    (a10 : PySem.W.nsIn K mainGlobals "_law_shuffled" = some (some (.ref f10))) (l10 : K.lookup f10 = some ⟨oc10, od10, .func (PySem.W.fnOf "_law_shuffled" "_law_shuffled" (defArgs s__law_shuffled) (defBody s__law_shuffled) (defScope s__law_shuffled) .none kV10 dc10 pm10 an10 cd10 ct10), sl10⟩) (c10 : PySem.W.codeIn K cd10 "_law_shuffled" = true) (k10 : PySem.W.keepIn K (.ref f10) = true)
    (a11 : PySem.W.nsIn K mainGlobals "_law_pairs" = some (some (.ref f11))) (l11 : K.lookup f11 = some ⟨oc11, od11, .func (PySem.W.fnOf "_law_pairs" "_law_pairs" (defArgs s__law_pairs) (defBody s__law_pairs) (defScope s__law_pairs) .none kV11 dc11 pm11 an11 cd11 ct11), sl11⟩) (c11 : PySem.W.codeIn K cd11 "_law_pairs" = true) (k11 : PySem.W.keepIn K (.ref f11) = true)
    (a12 : PySem.W.nsIn K mainGlobals "_law_sayings" = some (some (.ref f12))) (l12 : K.lookup f12 = some ⟨oc12, od12, .func (PySem.W.fnOf "_law_sayings" "_law_sayings" (defArgs s__law_sayings) (defBody s__law_sayings) (defScope s__law_sayings) .none kV12 dc12 pm12 an12 cd12 ct12), sl12⟩) (c12 : PySem.W.codeIn K cd12 "_law_sayings" = true) (k12 : PySem.W.keepIn K (.ref f12) = true)
    (a13 : PySem.W.nsIn K mainGlobals "_law_half" = some (some (.ref f13))) (l13 : K.lookup f13 = some ⟨oc13, od13, .func (PySem.W.fnOf "_law_half" "_law_half" (defArgs s__law_half) (defBody s__law_half) (defScope s__law_half) .none kV13 dc13 pm13 an13 cd13 ct13), sl13⟩) (c13 : PySem.W.codeIn K cd13 "_law_half" = true) (k13 : PySem.W.keepIn K (.ref f13) = true)
    (a14 : PySem.W.nsIn K mainGlobals "_law_is_name" = some (some (.ref f14))) (l14 : K.lookup f14 = some ⟨oc14, od14, .func (PySem.W.fnOf "_law_is_name" "_law_is_name" (defArgs s__law_is_name) (defBody s__law_is_name) (defScope s__law_is_name) .none kV14 dc14 pm14 an14 cd14 ct14), sl14⟩) (c14 : PySem.W.codeIn K cd14 "_law_is_name" = true) (k14 : PySem.W.keepIn K (.ref f14) = true)
    (a15 : PySem.W.nsIn K mainGlobals "_law_are_names" = some (some (.ref f15))) (l15 : K.lookup f15 = some ⟨oc15, od15, .func (PySem.W.fnOf "_law_are_names" "_law_are_names" (defArgs s__law_are_names) (defBody s__law_are_names) (defScope s__law_are_names) .none kV15 dc15 pm15 an15 cd15 ct15), sl15⟩) (c15 : PySem.W.codeIn K cd15 "_law_are_names" = true) (k15 : PySem.W.keepIn K (.ref f15) = true)
    (a16 : PySem.W.nsIn K mainGlobals "_law_tale" = some (some (.ref f16))) (l16 : K.lookup f16 = some ⟨oc16, od16, .func (PySem.W.fnOf "_law_tale" "_law_tale" (defArgs s__law_tale) (defBody s__law_tale) (defScope s__law_tale) .none kV16 dc16 pm16 an16 cd16 ct16), sl16⟩) (c16 : PySem.W.codeIn K cd16 "_law_tale" = true) (k16 : PySem.W.keepIn K (.ref f16) = true)
    (a17 : PySem.W.nsIn K mainGlobals "_law_lines" = some (some (.ref f17))) (l17 : K.lookup f17 = some ⟨oc17, od17, .func (PySem.W.fnOf "_law_lines" "_law_lines" (defArgs s__law_lines) (defBody s__law_lines) (defScope s__law_lines) .none kV17 dc17 pm17 an17 cd17 ct17), sl17⟩) (c17 : PySem.W.codeIn K cd17 "_law_lines" = true) (k17 : PySem.W.keepIn K (.ref f17) = true)
    (a18 : PySem.W.nsIn K mainGlobals "_law_read" = some (some (.ref f18))) (l18 : K.lookup f18 = some ⟨oc18, od18, .func (PySem.W.fnOf "_law_read" "_law_read" (defArgs s__law_read) (defBody s__law_read) (defScope s__law_read) .none kV18 dc18 pm18 an18 cd18 ct18), sl18⟩) (c18 : PySem.W.codeIn K cd18 "_law_read" = true) (k18 : PySem.W.keepIn K (.ref f18) = true)
    (a19 : PySem.W.nsIn K mainGlobals "_law_found" = some (some (.ref f19))) (l19 : K.lookup f19 = some ⟨oc19, od19, .func (PySem.W.fnOf "_law_found" "_law_found" (defArgs s__law_found) (defBody s__law_found) (defScope s__law_found) .none kV19 dc19 pm19 an19 cd19 ct19), sl19⟩) (c19 : PySem.W.codeIn K cd19 "_law_found" = true) (k19 : PySem.W.keepIn K (.ref f19) = true)
    (a20 : PySem.W.nsIn K mainGlobals "_law_right" = some (some (.ref f20))) (l20 : K.lookup f20 = some ⟨oc20, od20, .func (PySem.W.fnOf "_law_right" "_law_right" (defArgs s__law_right) (defBody s__law_right) (defScope s__law_right) .none kV20 dc20 pm20 an20 cd20 ct20), sl20⟩) (c20 : PySem.W.codeIn K cd20 "_law_right" = true) (k20 : PySem.W.keepIn K (.ref f20) = true)
    (a21 : PySem.W.nsIn K mainGlobals "_law_bent_words" = some (some (.ref f21))) (l21 : K.lookup f21 = some ⟨oc21, od21, .func (PySem.W.fnOf "_law_bent_words" "_law_bent_words" (defArgs s__law_bent_words) (defBody s__law_bent_words) (defScope s__law_bent_words) .none kV21 dc21 pm21 an21 cd21 ct21), sl21⟩) (c21 : PySem.W.codeIn K cd21 "_law_bent_words" = true) (k21 : PySem.W.keepIn K (.ref f21) = true)
    (a22 : PySem.W.nsIn K mainGlobals "_law_bent_lines" = some (some (.ref f22))) (l22 : K.lookup f22 = some ⟨oc22, od22, .func (PySem.W.fnOf "_law_bent_lines" "_law_bent_lines" (defArgs s__law_bent_lines) (defBody s__law_bent_lines) (defScope s__law_bent_lines) .none kV22 dc22 pm22 an22 cd22 ct22), sl22⟩) (c22 : PySem.W.codeIn K cd22 "_law_bent_lines" = true) (k22 : PySem.W.keepIn K (.ref f22) = true)
    (a23 : PySem.W.nsIn K mainGlobals "law" = some (some (.ref f23))) (l23 : K.lookup f23 = some ⟨oc23, od23, .func (PySem.W.fnOf "law" "law" (defArgs s_law) (defBody s_law) (defScope s_law) .none kV23 dc23 pm23 an23 cd23 ct23), sl23⟩) (c23 : PySem.W.codeIn K cd23 "law" = true) (k23 : PySem.W.keepIn K (.ref f23) = true)
    (a24 : PySem.W.findIn K (.ref C_NoText) "__init__" = some (some (.ref f24))) (i24 : PySem.W.isFn K (.ref f24) = true) (l24 : K.lookup f24 = some ⟨oc24, od24, .func (PySem.W.fnOf "__init__" "NoText.__init__" (defArgs s_NoText_init) (defBody s_NoText_init) (defScope s_NoText_init) .none kV24 dc24 pm24 an24 cd24 ct24), sl24⟩) (c24 : PySem.W.codeIn K cd24 "NoText.__init__" = true) (k24 : PySem.W.keepIn K (.ref f24) = true)
    {t0 : Tok} (g0 : PySem.W.nsIn K mainGlobals "AHEAD_WORD" = some (some (.str "ahead" t0)))
    {t1 : Tok} (g1 : PySem.W.nsIn K mainGlobals "MOST_NAMES" = some (some (.int 10 t1)))
    {t2 : Tok} (g2 : PySem.W.nsIn K mainGlobals "MOST_SAYINGS" = some (some (.int 60 t2)))
    {t3 : Tok} (g3 : PySem.W.nsIn K mainGlobals "MOST_SIGNS" = some (some (.int 8 t3)))
    {t4 : Tok} (g4 : PySem.W.nsIn K mainGlobals "NAMES_WORD" = some (some (.str "names" t4)))
    {t5 : Tok} (g5 : PySem.W.nsIn K mainGlobals "SMALL_LETTERS" = some (some (.str "abcdefghijklmnopqrstuvwxyz" t5)))
    (z0 : PySem.W.nsIn K mainGlobals "ValueError" = some none)
    (z1 : PySem.W.nsIn K mainGlobals "all" = some none)
    (z2 : PySem.W.nsIn K mainGlobals "int" = some none)
    (z3 : PySem.W.nsIn K mainGlobals "isinstance" = some none)
    (z4 : PySem.W.nsIn K mainGlobals "len" = some none)
    (z5 : PySem.W.nsIn K mainGlobals "list" = some none)
    (z6 : PySem.W.nsIn K mainGlobals "min" = some none)
    (z7 : PySem.W.nsIn K mainGlobals "range" = some none)
    (z8 : PySem.W.nsIn K mainGlobals "repr" = some none)
    (z9 : PySem.W.nsIn K mainGlobals "set" = some none)
    (z10 : PySem.W.nsIn K mainGlobals "str" = some none)
    (z11 : PySem.W.nsIn K mainGlobals "tuple" = some none)
    : ∃ fd : FuncData, (∀ (s : Shared) (v : Value), BindsTo s fd ⟨[v], []⟩ [("_law_script", v)]) ∧ ∀ base : Heap, K.In base → base.Ns mainGlobals mg → FnOk l.prog w K mg base CX0 8 fa fd ["_law_script"] (spLaw K) := by
  have e := hfa.symm.trans (PySem.W.mg_of X G a23)
  cases e
  have T : TopF mg := ⟨⟨_, PySem.W.mg_of X G g0, ⟨_, rfl⟩⟩, ⟨_, PySem.W.mg_of X G g1, ⟨_, rfl⟩⟩, ⟨_, PySem.W.mg_of X G g2, ⟨_, rfl⟩⟩, ⟨_, PySem.W.mg_of X G g3, ⟨_, rfl⟩⟩, ⟨_, PySem.W.mg_of X G g4, ⟨_, rfl⟩⟩, ⟨_, PySem.W.mg_of X G g5, ⟨_, rfl⟩⟩, PySem.W.mg_none_of X G z0, PySem.W.mg_none_of X G z1, PySem.W.mg_none_of X G z2, PySem.W.mg_none_of X G z3, PySem.W.mg_none_of X G z4, PySem.W.mg_none_of X G z5, PySem.W.mg_none_of X G z6, PySem.W.mg_none_of X G z7, PySem.W.mg_none_of X G z8, PySem.W.mg_none_of X G z9, PySem.W.mg_none_of X G z10, PySem.W.mg_none_of X G z11⟩
  have F0 := fun_mk (st := s_is_name) l0 c0 k0
  have b0 : Binds K _ ["thing"] [] := binds1 F0 fun _ _ _ _ _ _ _ => rfl
  have F1 := fun_mk (st := s_are_unlike_names) l1 c1 k1
  have b1 : Binds K _ ["thing"] [] := binds1 F1 fun _ _ _ _ _ _ _ => rfl
  have F2 := fun_mk (st := s_are_tale_names) l2 c2 k2
  have b2 : Binds K _ ["thing"] [] := binds1 F2 fun _ _ _ _ _ _ _ => rfl
  have F3 := fun_mk (st := s_is_saying) l3 c3 k3
  have b3 : Binds K _ ["thing", "names"] [] := binds2 F3 fun _ _ _ _ _ _ _ _ => rfl
  have F4 := fun_mk (st := s_read_names) l4 c4 k4
  have b4 : Binds K _ ["line"] [] := binds1 F4 fun _ _ _ _ _ _ _ => rfl
  have F5 := fun_mk (st := s_read_saying) l5 c5 k5
  have b5 : Binds K _ ["line", "row", "names"] [] := binds3 F5 fun _ _ _ _ _ _ _ _ _ => rfl
  have F6 := fun_mk (st := s_read_tale) l6 c6 k6
  have b6 : Binds K _ ["lines"] [] := binds1 F6 fun _ _ _ _ _ _ _ => rfl
  have F7 := fun_mk (st := s__law_feed) l7 c7 k7
  have b7 : Binds K _ ["_law_script"] [] := binds1 F7 fun _ _ _ _ _ _ _ => rfl
  have F8 := fun_mk (st := s__law_draw) l8 c8 k8
  have b8 : Binds K _ ["_law_feed_here", "_law_many"] [] := binds2 F8 fun _ _ _ _ _ _ _ _ => rfl
  have F9 := fun_mk (st := s__law_names) l9 c9 k9
  have b9 : Binds K _ ["_law_feed_here", "_law_many"] [] := binds2 F9 fun _ _ _ _ _ _ _ _ => rfl
  have F10 := fun_mk (st := s__law_shuffled) l10 c10 k10
  have b10 : Binds K _ ["_law_feed_here", "_law_some"] [] := binds2 F10 fun _ _ _ _ _ _ _ _ => rfl
  have F11 := fun_mk (st := s__law_pairs) l11 c11 k11
  have b11 : Binds K _ ["_law_feed_here", "_law_line"] [] := binds2 F11 fun _ _ _ _ _ _ _ _ => rfl
  have F12 := fun_mk (st := s__law_sayings) l12 c12 k12
  have b12 : Binds K _ ["_law_feed_here", "_law_line"] [] := binds2 F12 fun _ _ _ _ _ _ _ _ => rfl
  have F13 := fun_mk (st := s__law_half) l13 c13 k13
  have b13 : Binds K _ ["_law_feed_here", "_law_most"] [] := binds2 F13 fun _ _ _ _ _ _ _ _ => rfl
  have F14 := fun_mk (st := s__law_is_name) l14 c14 k14
  have b14 : Binds K _ ["_law_thing"] [] := binds1 F14 fun _ _ _ _ _ _ _ => rfl
  have F15 := fun_mk (st := s__law_are_names) l15 c15 k15
  have b15 : Binds K _ ["_law_thing"] [] := binds1 F15 fun _ _ _ _ _ _ _ => rfl
  have F16 := fun_mk (st := s__law_tale) l16 c16 k16
  have b16 : Binds K _ ["_law_feed_here", "_law_most"] [] := binds2 F16 fun _ _ _ _ _ _ _ _ => rfl
  have F17 := fun_mk (st := s__law_lines) l17 c17 k17
  have b17 : Binds K _ ["_law_tale_here"] [] := binds1 F17 fun _ _ _ _ _ _ _ => rfl
  have F18 := fun_mk (st := s__law_read) l18 c18 k18
  have b18 : Binds K _ ["_law_lines_here"] [] := binds1 F18 fun _ _ _ _ _ _ _ => rfl
  have F19 := fun_mk (st := s__law_found) l19 c19 k19
  have b19 : Binds K _ ["_law_lines_here"] [] := binds1 F19 fun _ _ _ _ _ _ _ => rfl
  have F20 := fun_mk (st := s__law_right) l20 c20 k20
  have b20 : Binds K _ ["_law_lines_here"] [] := binds1 F20 fun _ _ _ _ _ _ _ => rfl
  have F21 := fun_mk (st := s__law_bent_words) l21 c21 k21
  have b21 : Binds K _ ["_law_feed_here", "_law_words", "_law_names_here"] [] := binds3 F21 fun _ _ _ _ _ _ _ _ _ => rfl
  have F22 := fun_mk (st := s__law_bent_lines) l22 c22 k22
  have b22 : Binds K _ ["_law_feed_here", "_law_lines_here", "_law_names_here"] [] := binds3 F22 fun _ _ _ _ _ _ _ _ _ => rfl
  have F23 := fun_mk (st := s_law) l23 c23 k23
  have F24 := fun_mk (st := s_NoText_init) l24 c24 k24
  have b24 : Binds K _ ["self", "row"] [] := binds2 F24 fun _ _ _ _ _ _ _ _ => rfl
  have x_HalfError : Xls_HalfError K mg C_HalfError C_HalfError := ⟨⟨ex_HalfError, sX_HalfError, gX_HalfError, tX_HalfError, lX_HalfError, cg, ct⟩, PySem.W.mg_of X G aX_HalfError, ⟨⟨ex_HalfError, sX_HalfError, gX_HalfError, tX_HalfError, lX_HalfError, cg, ct⟩, no_HalfError, kX_HalfError, PySem.W.mg_of X G aX_HalfError⟩⟩
  have x_NoHalf : Xls_NoHalf K mg C_NoHalf C_HalfError := ⟨⟨ex_NoHalf, sX_NoHalf, gX_NoHalf, tX_NoHalf, lX_NoHalf, cg, ct⟩, PySem.W.mg_of X G aX_NoHalf, mr_NoHalf, nX_NoHalf_word, nX_NoHalf_number⟩
  have x_NoText : Xls_NoText K mg C_NoText C_HalfError := ⟨⟨ex_NoText, sX_NoText, gX_NoText, tX_NoText, lX_NoText, cg, ct⟩, PySem.W.mg_of X G aX_NoText, mr_NoText, nX_NoText_row⟩
  have x_NoName : Xls_NoName K mg C_NoName C_HalfError := ⟨⟨ex_NoName, sX_NoName, gX_NoName, tX_NoName, lX_NoName, cg, ct⟩, PySem.W.mg_of X G aX_NoName, mr_NoName, nX_NoName_name⟩
  refine ⟨PySem.W.fnOf "law" "law" (defArgs s_law) (defBody s_law) (defScope s_law) .none kV23 dc23 pm23 an23 cd23 ct23, fun s v => .of_eq rfl, fun base _ _ => ?_⟩
  have c_is_name : Fnd l.prog w K mg base 1 "is_name" ["thing"] (sp_is_name K) := ⟨_, _, ok_is_name F0 T, PySem.W.mg_of X G a0, k0, b0⟩
  have c_is_saying : Fnd l.prog w K mg base 1 "is_saying" ["thing", "names"] (sp_is_saying K) := ⟨_, _, ok_is_saying F3 T, PySem.W.mg_of X G a3, k3, b3⟩
  have c__law_feed : Fnd l.prog w K mg base 1 "_law_feed" ["_law_script"] (sp__law_feed K) := ⟨_, _, ok__law_feed F7 T, PySem.W.mg_of X G a7, k7, b7⟩
  have c__law_draw : Fnd l.prog w K mg base 1 "_law_draw" ["_law_feed_here", "_law_many"] (sp__law_draw K) := ⟨_, _, ok__law_draw F8 T, PySem.W.mg_of X G a8, k8, b8⟩
  have c__law_is_name : Fnd l.prog w K mg base 1 "_law_is_name" ["_law_thing"] (sp__law_is_name K) := ⟨_, _, ok__law_is_name F14 T, PySem.W.mg_of X G a14, k14, b14⟩
  have c__law_lines : Fnd l.prog w K mg base 1 "_law_lines" ["_law_tale_here"] (sp__law_lines K) := ⟨_, _, ok__law_lines F17 T, PySem.W.mg_of X G a17, k17, b17⟩
  have c_NoText_init : Mkx l.prog w K mg base 1 C_NoText "NoText" ["self", "row"] (spX C_NoText ["row"]) := ⟨_, _, ok_NoText_init F24 T x_HalfError x_NoText, x_NoText.xc, a24, i24, kX_NoText, PySem.W.mg_of X G aX_NoText, b24⟩
  have c_are_unlike_names : Fnd l.prog w K mg base 2 "are_unlike_names" ["thing"] (sp_are_unlike_names K) := ⟨_, _, ok_are_unlike_names F1 T c_is_name, PySem.W.mg_of X G a1, k1, b1⟩
  have c__law_names : Fnd l.prog w K mg base 2 "_law_names" ["_law_feed_here", "_law_many"] (sp__law_names K) := ⟨_, _, ok__law_names F9 T c__law_draw, PySem.W.mg_of X G a9, k9, b9⟩
  have c__law_shuffled : Fnd l.prog w K mg base 2 "_law_shuffled" ["_law_feed_here", "_law_some"] (sp__law_shuffled K) := ⟨_, _, ok__law_shuffled F10 T c__law_draw, PySem.W.mg_of X G a10, k10, b10⟩
  have c__law_pairs : Fnd l.prog w K mg base 2 "_law_pairs" ["_law_feed_here", "_law_line"] (sp__law_pairs K) := ⟨_, _, ok__law_pairs F11 T c__law_draw, PySem.W.mg_of X G a11, k11, b11⟩
  have c__law_are_names : Fnd l.prog w K mg base 2 "_law_are_names" ["_law_thing"] (sp__law_are_names K) := ⟨_, _, ok__law_are_names F15 T c__law_is_name, PySem.W.mg_of X G a15, k15, b15⟩
  have c__law_bent_words : Fnd l.prog w K mg base 2 "_law_bent_words" ["_law_feed_here", "_law_words", "_law_names_here"] (sp__law_bent_words K) := ⟨_, _, ok__law_bent_words F21 T c__law_draw, PySem.W.mg_of X G a21, k21, b21⟩
  have c_are_tale_names : Fnd l.prog w K mg base 3 "are_tale_names" ["thing"] (sp_are_tale_names K) := ⟨_, _, ok_are_tale_names F2 T c_are_unlike_names, PySem.W.mg_of X G a2, k2, b2⟩
  have d_read_saying : Fnd1 l.prog w K mg base 3 "read_saying" ["line", "row", "names"] (spx_read_saying C_NoText K) := ⟨_, _, okx_read_saying F5 T x_HalfError x_NoText x_NoName c_is_saying c_NoText_init, PySem.W.mg_of X G a5, k5, b5⟩
  have c__law_sayings : Fnd l.prog w K mg base 3 "_law_sayings" ["_law_feed_here", "_law_line"] (sp__law_sayings K) := ⟨_, _, ok__law_sayings F12 T c__law_draw c__law_pairs, PySem.W.mg_of X G a12, k12, b12⟩
  have c__law_read : Fnd l.prog w K mg base 3 "_law_read" ["_law_lines_here"] (sp__law_read K) := ⟨_, _, ok__law_read F18 T c__law_are_names, PySem.W.mg_of X G a18, k18, b18⟩
  have c__law_bent_lines : Fnd l.prog w K mg base 3 "_law_bent_lines" ["_law_feed_here", "_law_lines_here", "_law_names_here"] (sp__law_bent_lines K) := ⟨_, _, ok__law_bent_lines F22 T c__law_draw c__law_bent_words, PySem.W.mg_of X G a22, k22, b22⟩
  have d_read_names : Fnd1 l.prog w K mg base 4 "read_names" ["line"] (spx_read_names C_NoText K) := ⟨_, _, okx_read_names F4 T x_HalfError x_NoText x_NoName c_are_tale_names c_NoText_init, PySem.W.mg_of X G a4, k4, b4⟩
  have c__law_half : Fnd l.prog w K mg base 4 "_law_half" ["_law_feed_here", "_law_most"] (sp__law_half K) := ⟨_, _, ok__law_half F13 T c__law_draw c__law_names c__law_shuffled c__law_sayings, PySem.W.mg_of X G a13, k13, b13⟩
  have d_read_tale : Fnd1 l.prog w K mg base 5 "read_tale" ["lines"] (spx_read_tale C_NoText K) := ⟨_, _, okx_read_tale F6 T x_HalfError x_NoText x_NoName c_NoText_init d_read_names d_read_saying, PySem.W.mg_of X G a6, k6, b6⟩
  have c__law_tale : Fnd l.prog w K mg base 5 "_law_tale" ["_law_feed_here", "_law_most"] (sp__law_tale K) := ⟨_, _, ok__law_tale F16 T c__law_draw c__law_half, PySem.W.mg_of X G a16, k16, b16⟩
  have c__law_found : Fnd l.prog w K mg base 6 "_law_found" ["_law_lines_here"] (sp__law_found K) := ⟨_, _, ok__law_found F19 T x_HalfError x_NoHalf x_NoText x_NoName ndX d_read_tale, PySem.W.mg_of X G a19, k19, b19⟩
  have c__law_right : Fnd l.prog w K mg base 7 "_law_right" ["_law_lines_here"] (sp__law_right K) := ⟨_, _, ok__law_right F20 T c__law_read c__law_found, PySem.W.mg_of X G a20, k20, b20⟩
  exact ok_law F23 T c__law_feed c__law_draw c__law_names c__law_tale c__law_lines c__law_right c__law_bent_lines
theorem walk {l : PySem.W.OpenLaw} {q : Program} {loose : List Str} {XP : (Str → Option Value) → Heap → Prop} {YP : World → Heap → Prop} {d : DefRec} {K : Params → PySem.W.Frag} (hn : l.most = some 63) (hdf : d.params.defaults = [])
    (hY : ∀ (w : World) (h : Heap), YP w h → (K w.params).In h)
    (F : ∀ (w : World) (mg : Str → Option Value) (fa : Addr) (h : Heap), (K w.params).In h → h.Ns mainGlobals mg → mg d.name = some (.ref fa) →
      ∃ fd : FuncData, (∀ (s : Shared) (u : Value), BindsTo s fd ⟨[u], []⟩ [("_law_script", u)]) ∧ ∀ base : Heap, (K w.params).In base → base.Ns mainGlobals mg → FnOk l.prog w (K w.params) mg base CX0 8 fa fd ["_law_script"] (spLaw (K w.params))) :
    PySem.W.WalkO q loose XP YP l.row.toRowW d [] (fun f vs => PySem.call f vs) :=
  L2.walk_of (n := 63) (k := 8) (x := "_law_script") (CX := fun _ => CX0) (sp := fun w => spLaw (K w.params)) hn (by decide) hdf ⟨rfl, by decide, by decide, rfl⟩ hY F (fun _ _ a ns hl _ hS => ⟨a, ns, rfl, hS, hl, fun _ => rfl⟩) fun _ _ _ _ _ z => z
end K06
theorem PySem.W.Fast.tw9923916794072943812 : True := trivial
theorem PySem.W.Fast.tw1684932817849947733 : True := trivial
theorem PySem.W.Fast.tw163483546200284521 : True := trivial
theorem PySem.W.Fast.tw16985076723873150605 : True := trivial
theorem PySem.W.Fast.tw5970151972078422343 : True := trivial
theorem PySem.W.Fast.tw5476806333229173349 : True := trivial
theorem PySem.W.Fast.tw3330854976101084289 : True := trivial
theorem PySem.W.Fast.tw121105265990734128 : True := trivial
theorem PySem.W.Fast.tw13136270511783485134 : True := trivial
theorem PySem.W.Fast.tw15423736573195810945 : True := trivial
theorem PySem.W.Fast.tw12462640904345057979 : True := trivial
theorem PySem.W.Fast.tw14545858487849628439 : True := trivial
open PySem PySem.W PyProof.Rows
set_option maxRecDepth 100000 in
set_option maxHeartbeats 0 in
theorem PySem.Challenge.cw_halforder_k06_lines_that_write_none_holds : PySem.Challenge.rw_halforder_k06_lines_that_write_none.Holds := by
  w_on; o_law; k_head; (case hw => w_witness2)
  k_fill
  refine K06.walk (l := PySem.Challenge.rw_halforder_k06_lines_that_write_none) rfl rfl (fun w h Y => PySem.W.kIn_of Y) ?F
  case F =>
    intro w mg fa h KX G hmg
    refine' K06.all_mk KX G hmg ?q_cg ?q_ct ?q_aX_HalfError ?q_aX_NoHalf ?q_aX_NoText ?q_aX_NoName ?q_ex_HalfError ?q_sX_HalfError ?q_gX_HalfError ?q_tX_HalfError ?q_lX_HalfError ?q_no_HalfError ?q_kX_HalfError ?q_ex_NoHalf ?q_sX_NoHalf ?q_gX_NoHalf ?q_tX_NoHalf ?q_lX_NoHalf ?q_mr_NoHalf ?q_kX_NoHalf ?q_nX_NoHalf_word ?q_nX_NoHalf_number ?q_ex_NoText ?q_sX_NoText ?q_gX_NoText ?q_tX_NoText ?q_lX_NoText ?q_mr_NoText ?q_kX_NoText ?q_nX_NoText_row ?q_ex_NoName ?q_sX_NoName ?q_gX_NoName ?q_tX_NoName ?q_lX_NoName ?q_mr_NoName ?q_kX_NoName ?q_nX_NoName_name ?q_ndX ?q_a0 ?q_l0 ?q_c0 ?q_k0 ?q_a1 ?q_l1 ?q_c1 ?q_k1 ?q_a2 ?q_l2 ?q_c2 ?q_k2 ?q_a3 ?q_l3 ?q_c3 ?q_k3 ?q_a4 ?q_l4 ?q_c4 ?q_k4 ?q_a5 ?q_l5 ?q_c5 ?q_k5 ?q_a6 ?q_l6 ?q_c6 ?q_k6 ?q_a7 ?q_l7 ?q_c7 ?q_k7 ?q_a8 ?q_l8 ?q_c8 ?q_k8 ?q_a9 ?q_l9 ?q_c9 ?q_k9 ?q_a10 ?q_l10 ?q_c10 ?q_k10 ?q_a11 ?q_l11 ?q_c11 ?q_k11 ?q_a12 ?q_l12 ?q_c12 ?q_k12 ?q_a13 ?q_l13 ?q_c13 ?q_k13 ?q_a14 ?q_l14 ?q_c14 ?q_k14 ?q_a15 ?q_l15 ?q_c15 ?q_k15 ?q_a16 ?q_l16 ?q_c16 ?q_k16 ?q_a17 ?q_l17 ?q_c17 ?q_k17 ?q_a18 ?q_l18 ?q_c18 ?q_k18 ?q_a19 ?q_l19 ?q_c19 ?q_k19 ?q_a20 ?q_l20 ?q_c20 ?q_k20 ?q_a21 ?q_l21 ?q_c21 ?q_k21 ?q_a22 ?q_l22 ?q_c22 ?q_k22 ?q_a23 ?q_l23 ?q_c23 ?q_k23 ?q_a24 ?q_i24 ?q_l24 ?q_c24 ?q_k24 ?q_g0 ?q_g1 ?q_g2 ?q_g3 ?q_g4 ?q_g5 ?q_z0 ?q_z1 ?q_z2 ?q_z3 ?q_z4 ?q_z5 ?q_z6 ?q_z7 ?q_z8 ?q_z9 ?q_z10 ?q_z11
    (case q_cg => k_is)
    (case q_ct => k_is)
    (case q_aX_HalfError => k_is)
    (case q_aX_NoHalf => k_is)
    (case q_aX_NoText => k_is)
    (case q_aX_NoName => k_is)
    (case q_ex_HalfError => kernel_rfl)
    (case q_sX_HalfError => k_is)
    (case q_gX_HalfError => k_is)
    (case q_tX_HalfError => k_is)
    (case q_lX_HalfError => k_is)
    (case q_no_HalfError => kernel_rfl)
    (case q_kX_HalfError => k_is)
    (case q_ex_NoHalf => kernel_rfl)
    (case q_sX_NoHalf => k_is)
    (case q_gX_NoHalf => k_is)
    (case q_tX_NoHalf => k_is)
    (case q_lX_NoHalf => k_is)
    (case q_mr_NoHalf => kernel_rfl)
    (case q_kX_NoHalf => k_is)
    (case q_nX_NoHalf_word => k_is)
    (case q_nX_NoHalf_number => k_is)
    (case q_ex_NoText => kernel_rfl)
    (case q_sX_NoText => k_is)
    (case q_gX_NoText => k_is)
    (case q_tX_NoText => k_is)
    (case q_lX_NoText => k_is)
    (case q_mr_NoText => kernel_rfl)
    (case q_kX_NoText => k_is)
    (case q_nX_NoText_row => k_is)
    (case q_ex_NoName => kernel_rfl)
    (case q_sX_NoName => k_is)
    (case q_gX_NoName => k_is)
    (case q_tX_NoName => k_is)
    (case q_lX_NoName => k_is)
    (case q_mr_NoName => kernel_rfl)
    (case q_kX_NoName => k_is)
    (case q_nX_NoName_name => k_is)
    (case q_ndX => decide)
    (case q_a0 => k_is)
    (case q_l0 => k_is)
    (case q_c0 => k_is)
    (case q_k0 => k_is)
    (case q_a1 => k_is)
    (case q_l1 => k_is)
    (case q_c1 => k_is)
    (case q_k1 => k_is)
    (case q_a2 => k_is)
    (case q_l2 => k_is)
    (case q_c2 => k_is)
    (case q_k2 => k_is)
    (case q_a3 => k_is)
    (case q_l3 => k_is)
    (case q_c3 => k_is)
    (case q_k3 => k_is)
    (case q_a4 => k_is)
    (case q_l4 => k_is)
    (case q_c4 => k_is)
    (case q_k4 => k_is)
    (case q_a5 => k_is)
    (case q_l5 => k_is)
    (case q_c5 => k_is)
    (case q_k5 => k_is)
    (case q_a6 => k_is)
    (case q_l6 => k_is)
    (case q_c6 => k_is)
    (case q_k6 => k_is)
    (case q_a7 => k_is)
    (case q_l7 => k_is)
    (case q_c7 => k_is)
    (case q_k7 => k_is)
    (case q_a8 => k_is)
    (case q_l8 => k_is)
    (case q_c8 => k_is)
    (case q_k8 => k_is)
    (case q_a9 => k_is)
    (case q_l9 => k_is)
    (case q_c9 => k_is)
    (case q_k9 => k_is)
    (case q_a10 => k_is)
    (case q_l10 => k_is)
    (case q_c10 => k_is)
    (case q_k10 => k_is)
    (case q_a11 => k_is)
    (case q_l11 => k_is)
    (case q_c11 => k_is)
    (case q_k11 => k_is)
    (case q_a12 => k_is)
    (case q_l12 => k_is)
    (case q_c12 => k_is)
    (case q_k12 => k_is)
    (case q_a13 => k_is)
    (case q_l13 => k_is)
    (case q_c13 => k_is)
    (case q_k13 => k_is)
    (case q_a14 => k_is)
    (case q_l14 => k_is)
    (case q_c14 => k_is)
    (case q_k14 => k_is)
    (case q_a15 => k_is)
    (case q_l15 => k_is)
    (case q_c15 => k_is)
    (case q_k15 => k_is)
    (case q_a16 => k_is)
    (case q_l16 => k_is)
    (case q_c16 => k_is)
    (case q_k16 => k_is)
    (case q_a17 => k_is)
    (case q_l17 => k_is)
    (case q_c17 => k_is)
    (case q_k17 => k_is)
    (case q_a18 => k_is)
    (case q_l18 => k_is)
    (case q_c18 => k_is)
    (case q_k18 => k_is)
    (case q_a19 => k_is)
    (case q_l19 => k_is)
    (case q_c19 => k_is)
    (case q_k19 => k_is)
    (case q_a20 => k_is)
    (case q_l20 => k_is)
    (case q_c20 => k_is)
    (case q_k20 => k_is)
    (case q_a21 => k_is)
    (case q_l21 => k_is)
    (case q_c21 => k_is)
    (case q_k21 => k_is)
    (case q_a22 => k_is)
    (case q_l22 => k_is)
    (case q_c22 => k_is)
    (case q_k22 => k_is)
    (case q_a23 => k_is)
    (case q_l23 => k_is)
    (case q_c23 => k_is)
    (case q_k23 => k_is)
    (case q_a24 => k_is)
    (case q_i24 => k_is)
    (case q_l24 => k_is)
    (case q_c24 => k_is)
    (case q_k24 => k_is)
    (case q_g0 => k_is)
    (case q_g1 => k_is)
    (case q_g2 => k_is)
    (case q_g3 => k_is)
    (case q_g4 => k_is)
    (case q_g5 => k_is)
    (case q_z0 => k_is)
    (case q_z1 => k_is)
    (case q_z2 => k_is)
    (case q_z3 => k_is)
    (case q_z4 => k_is)
    (case q_z5 => k_is)
    (case q_z6 => k_is)
    (case q_z7 => k_is)
    (case q_z8 => k_is)
    (case q_z9 => k_is)
    (case q_z10 => k_is)
    (case q_z11 => k_is)
