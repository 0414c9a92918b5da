import PyProof.Rows.All
import Wide.All
import OpenK.AllK
import Wide.FinOn
import PyProof.EqAt
import PyProof.EqKinds
import PyProof.TupleCall
import Lean
import PyProof.DictWalks
import PyProof.DictIter
import PyProof.P3In
import KE.KEqSeq
import PyProof.ReprLen
import PyProof.ReprRoads
import PyProof.StrOps2
import KE.KRevSl
import PyProof.IsRules
import PyProof.StrLawsIdx
import PyProof.Rows.RegRepr
import PyProof.Rows.RegFStrParts
import PyProof.DictUpdate
import PyProof.AttrMissHeap
import PyProof.Walks
import KE.KDictOf
import PyProof.EnumIter
import PyProof.EnumFor
import PyProof.LayNew
import PyProof.EnumMake
import PyProof.Draws
import PyProof.WalksT
import PyProof.TupleIter
import PyProof.WalksMore
import KE.KRevIter
import KE.KEqDict
import PyProof.Rows.SetFrom
import PyProof.StrLawsTight
import PyProof.StrLawsChain
import PyProof.SumWalk
import PyProof.Rows.SortStr
import PyProof.Rows.SortWalk
import PyProof.TupleOfSeq
import KE.KDictSum
import KE.KSortTup
import PyProof.ListRange
import PyProof.ZipIter
import PyProof.Rows.ZipGen
import KE.KItemsList
import PyProof.ExcArgsOwn
import PyProof.InstStoreFacts
import PyProof.ExcBaseAll.ValueError
import PyProof.StationsW
import PyProof.RulesAs
import PyProof.RulesDel
import PyProof.NeKinds
import PyProof.ListMulAny
import PySem.Challenge.RW_halforder_k12_bunches_and_covers_of_any
set_option compiler.extract_closed false
set_option Elab.async false
set_option linter.all false
set_option maxRecDepth 100000
namespace L2
open PySem PySem.Spec PyProof.Rows
noncomputable abbrev Key := Sum Int Str
noncomputable def keyIs : Key → Value → Bool
  | .inl k, v => Value.isInt k v
  | .inr x, v => Value.isStrOf x v
noncomputable def keyH (w : World) : Key → Int
  | .inl k => hashInt k
  | .inr x => hashStr w x
theorem keyIs_shape : ∀ {k : Key} {v : Value}, keyIs k v = true → (∃ i t, k = Sum.inl i ∧ v = Value.int i t) ∨ (∃ x t, k = Sum.inr x ∧ v = Value.str x t)
  | .inl i, v, h => by
    obtain ⟨t, e⟩ := Value.isInt_shape (k := i) (v := v) h
    exact .inl ⟨i, t, rfl, e⟩
  | .inr x, v, h => by
    obtain ⟨t, e⟩ := Value.isStrOf_shape (x := x) (v := v) h
    exact .inr ⟨x, t, rfl, e⟩
theorem keyIs_int (i : Int) (t : Tok) : keyIs (.inl i) (.int i t) = true := by simp [keyIs, Value.isInt]
theorem keyIs_str (x : Str) (t : Tok) : keyIs (.inr x) (.str x t) = true := by simp [keyIs, Value.isStrOf]
theorem key_ll (a b : Int) : decide ((Sum.inl a : Key) = Sum.inl b) = (a == b) := by
  by_cases e : a = b
  · subst e; simp
  · have h : ¬ (Sum.inl a : Key) = Sum.inl b := fun q => e (Sum.inl.inj q)
    rw [decide_eq_false h]
    exact (beq_eq_false_iff_ne.mpr e).symm
theorem key_rr (a b : Str) : decide ((Sum.inr a : Key) = Sum.inr b) = decide (a = b) := by
  by_cases e : a = b
  · subst e; simp
  · have h : ¬ (Sum.inr a : Key) = Sum.inr b := fun q => e (Sum.inr.inj q)
    rw [decide_eq_false h, decide_eq_false e]
theorem key_lr (a : Int) (b : Str) : decide ((Sum.inl a : Key) = Sum.inr b) = false := decide_eq_false (fun q => nomatch q)
theorem key_rl (a : Str) (b : Int) : decide ((Sum.inr a : Key) = Sum.inl b) = false := decide_eq_false (fun q => nomatch q)
noncomputable def mixKind (prog : Program) (w : World) : PySem.KeyKind prog w Key where
  is := keyIs
  hash := keyH w
  inj := fun v a b ha hb => by
    rcases keyIs_shape ha with ⟨i, t, rfl, rfl⟩ | ⟨x, t, rfl, rfl⟩
    · rcases keyIs_shape hb with ⟨j, u, rfl, e⟩ | ⟨y, u, rfl, e⟩
      · injection e with e1 _; rw [e1]
      · exact nomatch e
    · rcases keyIs_shape hb with ⟨j, u, rfl, e⟩ | ⟨y, u, rfl, e⟩
      · exact nomatch e
      · injection e with e1 _; rw [e1]
  byValue := fun k v h => by
    rcases keyIs_shape h with ⟨i, t, rfl, rfl⟩ | ⟨x, t, rfl, rfl⟩ <;> rfl
  pyHash := fun hv h => by
    rcases keyIs_shape hv with ⟨i, t, rfl, rfl⟩ | ⟨x, t, rfl, rfl⟩
    · exact wpAny_pyHash_int h
    · exact wpAny_pyHash_str h
  eqBool := fun hu hv h => by
    rcases keyIs_shape hu with ⟨i, t, rfl, rfl⟩ | ⟨x, t, rfl, rfl⟩
    · rcases keyIs_shape hv with ⟨j, u, rfl, rfl⟩ | ⟨y, u, rfl, rfl⟩
      · rw [key_ll] at h; exact wpAny_eqBool_int h
      · rw [key_lr] at h; exact SeqAt.EqAt.int_str i t y u _ _ _ _ h
    · rcases keyIs_shape hv with ⟨j, u, rfl, rfl⟩ | ⟨y, u, rfl, rfl⟩
      · rw [key_rl] at h; exact SeqAt.EqAt.str_int x t j u _ _ _ _ h
      · rw [key_rr] at h; exact wpAny_eqBool_str h
  «strs» := fun k x t v h => by
    rcases keyIs_shape h with ⟨i, u, rfl, e⟩ | ⟨y, u, rfl, e⟩
    · exact nomatch e
    · injection e with e1 _
      subst e1
      cases v <;> rfl
theorem mixKind_int (prog : Program) (w : World) (i : Int) (t : Tok) : (mixKind prog w).is (.inl i) (.int i t) = true := keyIs_int i t
theorem mixKind_str (prog : Program) (w : World) (x : Str) (t : Tok) : (mixKind prog w).is (.inr x) (.str x t) = true := keyIs_str x t
end L2
namespace L2
open PySem PySem.Spec PyProof.Rows
inductive V where
  | non | bl (b : Bool) | int (i : Int) | str (x : Str) | byt (b : Array UInt8) | flt (b : UInt64) | ref (a : Addr) | ty (n : String)
  deriving DecidableEq
noncomputable def RelV : V → Value → Prop
  | .non, u => u = Value.none
  | .bl b, u => u = Value.bool b
  | .int i, u => ∃ t, u = Value.int i t
  | .str x, u => ∃ t, u = Value.str x t
  | .byt b, u => ∃ t, u = Value.bytes b t
  | .flt b, u => ∃ t, u = Value.float b t
  | .ref a, u => u = Value.ref a
  | .ty n, u => u = Value.type n
noncomputable abbrev Vals : List V → List Value → Prop := Paired RelV
theorem Vals.length {xs : List V} {us : List Value} (r : Vals xs us) : xs.length = us.length := Paired.length r
theorem Vals.get : ∀ {xs : List V} {us : List Value} {i : Nat} {x : V}, Vals xs us → xs[i]? = some x → ∃ u, us[i]? = some u ∧ RelV x u
  | _, _, _, _, .nil, e => by simp at e
  | _, _, 0, _, .cons r _, e => by simp at e; subst e; exact ⟨_, rfl, r⟩
  | _, _, i + 1, x, .cons _ t, e => by
    obtain ⟨u, h1, h2⟩ := Vals.get (i := i) (x := x) t (by simpa using e)
    exact ⟨u, by simpa using h1, h2⟩
theorem Vals.set {x : V} {u : Value} (r : RelV x u) : ∀ {xs : List V} {us : List Value} (i : Nat), Vals xs us → Vals (xs.set i x) (us.set i u)
  | _, _, _, .nil => .nil
  | _, _, 0, .cons _ t => .cons r t
  | _, _, i + 1, .cons q t => .cons q (Vals.set r i t)
theorem Vals.append : ∀ {xs ys : List V} {us ws : List Value}, Vals xs us → Vals ys ws → Vals (xs ++ ys) (us ++ ws)
  | _, _, _, _, .nil, s => s
  | _, _, _, _, .cons r t, s => .cons r (Vals.append t s)
theorem Vals.take : ∀ {xs : List V} {us : List Value} (n : Nat), Vals xs us → Vals (xs.take n) (us.take n)
  | _, _, 0, _ => .nil
  | _, _, _ + 1, .nil => .nil
  | _, _, n + 1, .cons r t => .cons r (Vals.take n t)
theorem Vals.drop : ∀ {xs : List V} {us : List Value} (n : Nat), Vals xs us → Vals (xs.drop n) (us.drop n)
  | _, _, 0, r => r
  | _, _, _ + 1, .nil => .nil
  | _, _, n + 1, .cons _ t => Vals.drop n t
noncomputable def RelO : Option V → Option Value → Prop
  | some v, some u => RelV v u
  | none, none => True
  | _, _ => False
noncomputable def KV {κ : Type} : List (κ × V) → List (κ × Value) → Prop := Paired fun (p : κ × V) (q : κ × Value) => p.1 = q.1 ∧ RelV p.2 q.2
noncomputable def kV : Key → V
  | .inl i => .int i
  | .inr x => .str x
noncomputable def IsTupN (h : Heap) (a : Addr) (items : Array Value) : Prop := ∃ o, h.get? a = some o ∧ o.cls = .type "tuple" ∧ (∃ n, o.data = .seq items n) ∧ o.dict = none
theorem IsTupN.tup {h : Heap} {a : Addr} {items : Array Value} (x : IsTupN h a items) : IsTup h a items := let ⟨o, h1, h2, ⟨n, h3⟩, _⟩ := x; ⟨o, h1, h2, n, h3⟩
theorem IsTupN.new (h : Heap) (its : Array Value) : IsTupN (h.push { cls := .type "tuple", data := .seq its }) h.objs.size its := ⟨_, Heap.get?_push_size _ rfl, rfl, ⟨_, rfl⟩, rfl⟩
inductive HO where
  | lst (xs : List V)
  | tup (xs : List V)
  | dK (kvs : List (Key × V)) | dT (kvs : List (List Key × V))
  | set (S : Int → Bool) (n : Nat)
  | ins (C dx : Addr) (fs : List (Str × V))
  | own (x : Addr)
  | xd (fs : List (Str × V))
  | met (f x : Addr)
  | rng (lo hi : Int)
  | frz (o : Obj) (u : HO)
  | tbl (ps : Array Value)
  | ext (φ : Heap → Prop)
noncomputable abbrev Hp := Addr → Option HO
noncomputable def upd (H : Hp) (a : Addr) (o : HO) : Hp := fun b => if b = a then some o else H b
theorem upd_same {H : Hp} {a : Addr} {o : HO} : upd H a o a = some o := by unfold upd; rw [if_pos rfl]
theorem upd_ne {H : Hp} {a b : Addr} {o : HO} (h : b ≠ a) : upd H a o b = H b := by unfold upd; rw [if_neg h]
theorem ne_of {H : Hp} {a b : Addr} {o u : HO} (h : H a = some o) (h' : H b = some u) (d : o ≠ u) : a ≠ b := by
  intro e; subst e; rw [h] at h'; exact d (Option.some.inj h')
theorem ne_of_none {H : Hp} {a b : Addr} {o : HO} (h : H a = some o) (h' : H b = none) : a ≠ b := by
  intro e; subst e; rw [h] at h'; cases h'
section
variable (P : Program) (w : World)
noncomputable def ObjOk (H : Hp) (h : Heap) (a : Addr) : HO → Prop
  | .lst xs => xs.length ≤ sizeLine ∧ ∃ (its : List Value) (n : Nat), Vals xs its ∧ h.get? a = some { cls := .type "list", data := .seq its.toArray n }
  | .tup xs => xs.length ≤ sizeLine ∧ ∃ its : List Value, Vals xs its ∧ IsTupN h a its.toArray
  | .dK kvs => kvs.length ≤ sizeLine ∧ (a == sysModules) = false ∧ ∃ vs, KV kvs vs ∧ h.DictOf (mixKind P w) a vs
  | .dT kvs => kvs.length ≤ sizeLine ∧ (a == sysModules) = false ∧ ∃ xs : List (List Key × Addr × Value),
      Paired (fun (p : List Key × V) (q : List Key × Addr × Value) => p.1 = q.1 ∧ H q.2.1 = some (.tup (p.1.map kV)) ∧ RelV p.2 q.2.2) kvs xs ∧
      ∃ o es ep, h.get? a = some o ∧ o.ExactDict ∧ o.data = .dict es ep ∧ es.toList = xs.map (entryOfKey (tupleKind (mixKind P w))) ∧ (xs.map (·.1)).Nodup
  | .set S n => h.SetOf (intKind P w) a S n
  | .ins C dx fs => H dx = some (.own a) ∧ fs.length ≤ 1000 ∧ dx ≠ a ∧ h.get? a = some (PySem.W.instObj C dx) ∧
      ∃ mA, h.Ns1 dx mA ∧ (∀ f, RelO (fs.lookup f) (mA f)) ∧ PySem.Within mA (fs.map (·.1))
  | .own _ => ∃ o, h.get? a = some o
  | .xd fs => ∃ mA, h.Ns1 a mA ∧ ∀ f, RelO (fs.lookup f) (mA f)
  | .rng lo hi => ∃ t u v, h.get? a = some { cls := .type "range", data := .fields #[.int lo t, .int hi u, .int 1 v] }
  | .frz o u => h.get? a = some o ∧ ObjOk H h a u
  | .tbl ps => h.get? a = some { cls := .none, data := .fields ps }
  | .met f x => h.get? a = some (PySem.W.methodObj (.ref f) (.ref x))
  | .ext φ => φ h ∧ (∃ o, h.get? a = some o) ∧ ∀ h1 h2 : Heap, φ h1 → (∀ o, h1.get? a = some o → h2.get? a = some o) → φ h2
noncomputable def HOk (H : Hp) (h : Heap) : Prop := ∀ a o, H a = some o → ObjOk P w H h a o
end
section
variable {P : Program} {w : World} {H H' : Hp} {h h' : Heap} {a : Addr} {o : HO}
theorem ObjOk.lt (x : ObjOk P w H h a o) : a < h.objs.size := by
  cases o with
  | lst xs => obtain ⟨_, _, _, _, e⟩ := x; exact Heap.lt_size e
  | tup xs => obtain ⟨_, _, _, p⟩ := x; exact p.tup.lt
  | dK kvs => obtain ⟨_, _, _, _, o, _, _, e, _⟩ := x; exact Heap.lt_size e
  | dT kvs => obtain ⟨_, _, _, _, o, _, _, e, _⟩ := x; exact Heap.lt_size e
  | set S n => obtain ⟨o, _, _, _, e, _⟩ := x; exact Heap.lt_size e
  | ins C dx fs => obtain ⟨_, _, _, e, _⟩ := x; exact Heap.lt_size e
  | own y => obtain ⟨_, e⟩ := x; exact Heap.lt_size e
  | xd fs => obtain ⟨_, ⟨_, _, _, e, _⟩, _⟩ := x; exact Heap.lt_size e
  | rng lo hi => obtain ⟨_, _, _, e⟩ := x; exact Heap.lt_size e
  | frz ob u => obtain ⟨e, _⟩ := x; exact Heap.lt_size e
  | tbl ps => exact Heap.lt_size (show h.get? a = some _ from x)
  | met f y => exact Heap.lt_size (show h.get? a = some _ from x)
  | ext φ => obtain ⟨_, ⟨_, e⟩, _⟩ := x; exact Heap.lt_size e
theorem Paired.mapP {α β : Type} {F G : α → β → Prop} : ∀ {l₁ : List α} {l₂ : List β}, Paired F l₁ l₂ → (∀ a b, F a b → G a b) → Paired G l₁ l₂
  | _, _, .nil, _ => .nil
  | _, _, .cons r t, f => .cons (f _ _ r) (Paired.mapP t f)
theorem ObjOk.stay (x : ObjOk P w H h a o) (k : ∀ b u, (b = a ∨ H b = some (.own a)) → h.get? b = some u → h'.get? b = some u)
    (ho : ∀ b, H b = some (.own a) → H' b = some (.own a)) (ht : ∀ b xs, H b = some (.tup xs) → H' b = some (.tup xs)) : ObjOk P w H' h' a o := by
  induction o with
  | lst xs => obtain ⟨z, its, n, r, e⟩ := x; exact ⟨z, its, n, r, k _ _ (.inl rfl) e⟩
  | tup xs => obtain ⟨z, its, r, ob, e, c⟩ := x; exact ⟨z, its, r, ob, k _ _ (.inl rfl) e, c⟩
  | dK kvs => obtain ⟨z, y, vs, r, ob, es, ep, e, c⟩ := x; exact ⟨z, y, vs, r, ob, es, ep, k _ _ (.inl rfl) e, c⟩
  | dT kvs =>
    obtain ⟨z, y, xs, r, ob, es, ep, e, c⟩ := x
    exact ⟨z, y, xs, Paired.mapP r fun p q z => ⟨z.1, ht _ _ z.2.1, z.2.2⟩, ob, es, ep, k _ _ (.inl rfl) e, c⟩
  | set S n => obtain ⟨ob, es, ep, t, e, c⟩ := x; exact ⟨ob, es, ep, t, k _ _ (.inl rfl) e, c⟩
  | ins C dx fs =>
    obtain ⟨d, z, ne, e, mA, ⟨od, es, ep, e2, c⟩, r⟩ := x
    exact ⟨ho _ d, z, ne, k _ _ (.inl rfl) e, mA, ⟨od, es, ep, k _ _ (.inr d) e2, c⟩, r⟩
  | own y => obtain ⟨ob, e⟩ := x; exact ⟨ob, k _ _ (.inl rfl) e⟩
  | xd fs => obtain ⟨mA, ⟨od, es, ep, e, c⟩, r⟩ := x; exact ⟨mA, ⟨od, es, ep, k _ _ (.inl rfl) e, c⟩, r⟩
  | rng lo hi => obtain ⟨t, u, v, e⟩ := x; exact ⟨t, u, v, k _ _ (.inl rfl) e⟩
  | frz ob u ih => obtain ⟨e, q⟩ := x; exact ⟨k _ _ (.inl rfl) e, ih q⟩
  | tbl ps =>
    have e : h.get? a = some { cls := .none, data := .fields ps } := x
    show h'.get? a = some { cls := .none, data := .fields ps }
    exact k a _ (.inl rfl) e
  | met f y =>
    have e : h.get? a = some (PySem.W.methodObj (.ref f) (.ref y)) := x
    show h'.get? a = some (PySem.W.methodObj (.ref f) (.ref y))
    exact k a _ (.inl rfl) e
  | ext φ => obtain ⟨p, ⟨o, e⟩, st⟩ := x; exact ⟨st _ _ p fun o q => k _ _ (.inl rfl) q, ⟨o, k _ _ (.inl rfl) e⟩, st⟩
theorem HOk.lt (x : HOk P w H h) (e : H a = some o) : a < h.objs.size := (x a o e).lt
theorem HOk.fresh (x : HOk P w H h) (e : h.objs.size ≤ a) : H a = none := by
  cases q : H a with
  | none => rfl
  | some u => exact absurd (Nat.lt_of_lt_of_le (x.lt q) e) (Nat.lt_irrefl _)
theorem HOk.kept (x : HOk P w H h) (k : ∀ b u, h.get? b = some u → h'.get? b = some u) : HOk P w H h' := fun a o e =>
  (x a o e).stay (fun b u _ q => k b u q) (fun _ q => q) fun _ _ q => q
theorem HOk.laid (x : HOk P w H h) (k : ∀ b u, h.get? b = some u → h'.get? b = some u) (hp : h.objs.size ≤ a) (new : ObjOk P w (upd H a o) h' a o) : HOk P w (upd H a o) h' := fun b u e => by
  have hn := x.fresh hp
  by_cases hb : b = a
  · subst hb; rw [upd_same] at e; cases e; exact new
  · rw [upd_ne hb] at e
    exact (x b u e).stay (fun c v _ q => k c v q) (fun c q => by rw [upd_ne (ne_of_none q hn)]; exact q) fun c xs q => by rw [upd_ne (ne_of_none q hn)]; exact q
end
noncomputable def Rd (H : Hp) (a : Addr) (u : HO) : Prop := H a = some u ∨ ∃ o, H a = some (.frz o u)
theorem Rd.ok {P : Program} {w : World} {H : Hp} {h : Heap} {a : Addr} {u : HO} (r : Rd H a u) (x : HOk P w H h) : ObjOk P w H h a u := by
  rcases r with r | ⟨o, r⟩
  · exact x a u r
  · obtain ⟨_, q⟩ := x a _ r
    exact q
noncomputable def Mut : Option HO → Prop
  | some (.lst _) => True
  | some (.dK _) => True
  | some (.dT _) => True
  | some (.set _ _) => True
  | some (.ins _ _ _) => True
  | some (.ext _) => True
  | _ => False
section
variable {P : Program} {w : World} {H : Hp} {h h' : Heap} {x e : Addr} {o' : HO}
theorem HOk.write (ok : HOk P w H h) (mu : Mut (H x)) (he : e = x ∨ H e = some (.own x)) (k : ∀ b u, b ≠ e → h.get? b = some u → h'.get? b = some u) (heo : ∃ u, h'.get? e = some u)
    (new : ObjOk P w (upd H x o') h' x o') : HOk P w (upd H x o') h' := fun b u q => by
  have nown : ∀ c y, H c = some (.own y) → c ≠ x := fun c y r z => by subst z; rw [r] at mu; exact mu
  have ntup : ∀ c xs, H c = some (.tup xs) → c ≠ x := fun c xs r z => by subst z; rw [r] at mu; exact mu
  by_cases hb : b = x
  · subst hb; rw [upd_same] at q; cases q; exact new
  · rw [upd_ne hb] at q
    by_cases hbe : b = e
    · have q' : H b = some (.own x) := by
        rcases he with z | z
        · exact absurd (hbe.trans z) hb
        · rw [hbe]; exact z
      rw [q] at q'; cases q'
      obtain ⟨v, hv⟩ := heo
      exact ⟨v, by rw [hbe]; exact hv⟩
    · refine (ok b u q).stay (fun c v hc r => k c v ?_ r) (fun c r => by rw [upd_ne (nown c b r)]; exact r) fun c xs r => by rw [upd_ne (ntup c xs r)]; exact r
      rcases hc with rfl | hc
      · exact hbe
      · rintro rfl
        rcases he with z | z
        · exact nown c b hc z
        · rw [hc] at z; cases z; exact hb rfl
end
structure Un (fs ex : List Addr) (H H' : Hp) (h h' : Heap) : Prop where
  keep : ∀ b o, h.get? b = some o → H b = none → b ∉ fs → b ∉ ex → h'.get? b = some o
  slot : ∀ b o, h.get? b = some o → H b = none → b ∈ fs → b ∉ ex → ∃ sl, h'.get? b = some { o with slots := sl }
  free : ∀ b o, h.get? b = some o → H b = none → b ∉ ex → H' b = none
  there : ∀ b o, h.get? b = some o → b ∉ ex → ∃ o', h'.get? b = some o'
  tups : ∀ b xs, H b = some (.tup xs) → H' b = some (.tup xs)
  frzs : ∀ b o u, H b = some (.frz o u) → H' b = some (.frz o u)
  tbls : ∀ b ps, H b = some (.tbl ps) → ∃ more, H' b = some (.tbl (ps ++ more))
section
variable {fs fs' ex ex' : List Addr} {H H1 H2 : Hp} {h h1 h2 h' : Heap} {a x e : Addr} {o : HO}
theorem Un.any (u : Un fs ex H H1 h h1) {b : Addr} {ob : Obj} (q : h.get? b = some ob) (n : H b = none) (hx : b ∉ ex) : ∃ sl, h1.get? b = some { ob with slots := sl } := by
  by_cases hb : b ∈ fs
  · exact u.slot b ob q n hb hx
  · exact ⟨ob.slots, u.keep b ob q n hb hx⟩
theorem Un.kept (k : ∀ b u, h.get? b = some u → h'.get? b = some u) : Un fs ex H H h h' :=
  ⟨fun b ob q _ _ _ => k b ob q, fun b ob q _ _ _ => ⟨ob.slots, k b ob q⟩, fun _ _ _ n _ => n, fun b ob q _ => ⟨ob, k b ob q⟩, fun _ _ q => q, fun _ _ _ q => q, fun _ ps q => ⟨#[], by rw [q]; simp⟩⟩
theorem Un.refl : Un fs ex H H h h := Un.kept fun _ _ q => q
theorem Un.laid (k : ∀ b u, h.get? b = some u → h'.get? b = some u) (hp : h.objs.size ≤ a) (hn : H a = none) : Un fs ex H (upd H a o) h h' where
  keep := fun b u q _ _ _ => k b u q
  slot := fun b u q _ _ _ => ⟨u.slots, k b u q⟩
  free := fun b u q n _ => by rw [upd_ne (Nat.ne_of_lt (Nat.lt_of_lt_of_le (Heap.lt_size q) hp))]; exact n
  there := fun b u q _ => ⟨u, k b u q⟩
  tups := fun b xs q => by rw [upd_ne (ne_of_none q hn)]; exact q
  frzs := fun b u xs q => by rw [upd_ne (ne_of_none q hn)]; exact q
  tbls := fun b ps q => ⟨#[], by rw [upd_ne (ne_of_none q hn), q]; simp⟩
theorem Un.write (mu : Mut (H x)) (he : e = x ∨ H e = some (.own x)) (k : ∀ b u, b ≠ e → h.get? b = some u → h'.get? b = some u) (heo : ∃ u, h'.get? e = some u) : Un fs ex H (upd H x o) h h' := by
  have hx : ∀ b, H b = none → b ≠ x := fun b n z => by subst z; rw [n] at mu; exact mu
  have hb : ∀ b, H b = none → b ≠ e := fun b n z => by
    subst z
    rcases he with r | r
    · exact hx b n r
    · rw [n] at r; cases r
  have hm : ∀ b u, H b = some u → ¬ Mut (some u) → b ≠ x := fun b u q nm z => by subst z; rw [q] at mu; exact nm mu
  refine ⟨fun b u q n _ _ => k b u (hb b n) q, fun b u q n _ _ => ⟨u.slots, k b u (hb b n) q⟩, fun b u q n _ => by rw [upd_ne (hx b n)]; exact n, fun b u q _ => ?_,
    fun b xs q => by rw [upd_ne (hm b _ q fun z => z)]; exact q, fun b u xs q => by rw [upd_ne (hm b _ q fun z => z)]; exact q, fun b ps q => ⟨#[], by rw [upd_ne (hm b _ q fun z => z), q]; simp⟩⟩
  by_cases hbe : b = e
  · subst hbe; exact heo
  · exact ⟨u, k b u hbe q⟩
end
noncomputable def trk (h : Heap) (H : Hp) : List Addr := (List.range h.objs.size).filter fun a => (H a).isSome
noncomputable def hidT (h : Heap) (H : Hp) : Heap := PySem.W.hideAll h (trk h H)
theorem hidT_size (h : Heap) (H : Hp) : (hidT h H).objs.size = h.objs.size := PySem.W.hideAll_size _ _
theorem hidT_get {h : Heap} {H : Hp} {b : Addr} {o : Obj} (e : h.get? b = some o) (n : H b = none) : (hidT h H).get? b = some o :=
  PySem.W.hideAll_get _ e fun hm => by
    have q : (H b).isSome = true := (List.mem_filter.mp hm).2
    rw [n] at q; simp at q
theorem of_hidT {h : Heap} {H : Hp} {b : Addr} {o : Obj} (e : (hidT h H).get? b = some o) : h.get? b = some o ∧ H b = none := by
  have e' : h.get? b = some o := PySem.W.of_hideAll (trk h H) e
  refine ⟨e', ?_⟩
  cases q : H b with
  | none => rfl
  | some x =>
    have hm : b ∈ trk h H := List.mem_filter.mpr ⟨List.mem_range.mpr (Heap.lt_size e'), by simp [q]⟩
    have z : (hidT h H).get? b = none := PySem.W.hideAll_none (trk h H) hm
    rw [z] at e; cases e
noncomputable def allNews (g h : Heap) (L : Addr) : List (Addr × Obj) := (List.range h.objs.size).filterMap fun a => if a = L ∨ (g.get? a).isSome = true then none else (h.get? a).map fun o => (a, o)
noncomputable def rest (g h : Heap) (L d : Addr) : List (Addr × Obj) := (allNews g h L).filter fun p => decide (p.1 ≠ d)
end L2
namespace L2
open PySem PySem.Spec PyProof.Rows
structure Mod (K : PySem.W.Frag) (mg : Str → Option Value) (base : Heap) : Prop where
  kin : K.In base
  glob : base.Ns mainGlobals mg
  blt : ∃ mb, base.Ns builtinsNs mb ∧ ∀ x : Str, x ≠ "__name__" → mb x = bootBuiltins x
  nolimit : base.NoLimit
/-- the context: a def's body (or a comprehension's block) running. base: fixed through the whole law; s₀, H₀: the entry; outer: the frames whose slots others may change (a def's callers); stack: all frames that run;
   ex: iterators that were made ahead of the entry and are walked here (a comprehension's); fn: the names whose cells were made at the entry (a def: all; a comprehension's block: its own); calm: not within an except suite; pn: pins that every state bears; xe: what is wanted of an exception that leaves the code -/
structure Cx where
  prog : Program
  w : World
  K : PySem.W.Frag
  mg : Str → Option Value
  base : Heap
  A : Around
  N : List Str
  s₀ : Shared
  H₀ : Hp
  env : Env
  outer : List Env
  stack : List Env
  ex : List Addr
  fn : Str → Bool
  calm : Bool
  pn : List (Addr × Obj)
  xe : Value → Shared → Prop
noncomputable def frs (l : List Env) : List Addr := l.filterMap (·.frame)
noncomputable abbrev Cx.fs (X : Cx) : List Addr := frs X.outer
noncomputable def Vis (sc : Scope) (x : Str) : Prop := sc.names.lookup x = some .local ∨ sc.names.lookup x = some .cell ∨ sc.names.lookup x = some .free
noncomputable def Loc (sc : Scope) (x : Str) : Prop := sc.names.lookup x = some .local ∨ sc.names.lookup x = some .cell
noncomputable def Look (env : Env) (h : Heap) (m : Str → Option Value) (x : Str) (u : Value) : Prop :=
  (env.kindOf x = some .local ∧ m x = some u) ∨ ((env.kindOf x = some .cell ∨ env.kindOf x = some .free) ∧ ∃ c, env.cells.lookup x = some c ∧ h.IsCell c (some u))
structure Cx.Ok (X : Cx) : Prop where
  mod : Mod X.K X.mg X.base
  kind : X.env.scope.kind = .function
  glob : X.env.globals = mainGlobals
  blt : X.env.builtins = builtinsNs
  above : X.s₀.heap.objs.size ≤ X.env.locals
  inj : ∀ x y c, X.env.cells.lookup x = some c → X.env.cells.lookup y = some c → x = y
  has : ∀ x, (X.env.kindOf x = some .cell ∨ X.env.kindOf x = some .free) → ∃ c, X.env.cells.lookup x = some c
  cab : ∀ x c, X.fn x = true → X.env.cells.lookup x = some c → X.s₀.heap.objs.size ≤ c
  hd : X.calm = true → X.A.handled = none
  frames : X.A.frames = some X.stack
  stk : X.stack = X.outer ∨ (X.stack = X.env :: X.outer ∧ X.env.frame = some X.env.locals)
  exf : ∀ b ∈ X.ex, b ≠ X.env.locals ∧ ∀ x c, X.env.cells.lookup x = some c → c ≠ b
  bs : ∀ b o, X.base.get? b = some o → X.s₀.heap.get? b = some o ∧ X.H₀ b = none
  bsz : X.base.objs.size ≤ X.s₀.heap.objs.size
  noex : ∀ b o, X.base.get? b = some o → b ∉ X.ex
  exfs : ∀ b ∈ X.ex, b ∉ X.fs
  funs : X.s₀.heap.FunFrames X.base X.outer
  frf : ∀ b ∈ X.fs, X.H₀ b = none
structure Inv (X : Cx) (pins : List (Addr × Obj)) (σ : List (Option V)) (H : Hp) (s : Shared) : Prop where
  ok : X.Ok
  os : s.os = X.s₀.os
  bare : AllBare s.gens
  base : Un X.fs X.ex X.H₀ H X.s₀.heap s.heap
  loc : ∃ m, s.heap.Ns X.env.locals m ∧ ∀ (i : Nat) (x : Str) (v : V), X.N[i]? = some x → σ[i]? = some (some v) → Vis X.env.scope x → ∃ u, RelV v u ∧ Look X.env s.heap m x u
  cell : ∀ x c, X.env.cells.lookup x = some c → ∃ v, s.heap.IsCell c v
  free : H X.env.locals = none
  freeC : ∀ x c, X.env.cells.lookup x = some c → H c = none
  pin : ∀ p ∈ X.pn ++ pins, s.heap.get? p.1 = some p.2 ∧ H p.1 = none ∧ p.1 ≠ X.env.locals ∧ p.1 ∉ X.fs ∧ ∀ v, p.2.data ≠ .cell v
  hok : HOk X.prog X.w H s.heap
  len : σ.length = X.N.length
section
variable {X : Cx} {pins : List (Addr × Obj)} {σ : List (Option V)} {H H' : Hp} {s : Shared} {h' : Heap}
theorem Cx.Ok.nofr (ok : X.Ok) {b : Addr} {o : Obj} (e : X.base.get? b = some o) : b ∉ X.fs := fun hb => by
  have := (ok.funs.mem hb).1
  rw [e] at this; cases this
theorem Inv.bs (I : Inv X pins σ H s) : ∀ b o, X.base.get? b = some o → s.heap.get? b = some o ∧ H b = none := fun b o e =>
  ⟨I.base.keep b o (I.ok.bs b o e).1 (I.ok.bs b o e).2 (I.ok.nofr e) (I.ok.noex b o e), I.base.free b o (I.ok.bs b o e).1 (I.ok.bs b o e).2 (I.ok.noex b o e)⟩
theorem Inv.bk (I : Inv X pins σ H s) : ∀ b o, X.base.get? b = some o → s.heap.get? b = some o := fun b o e => (I.bs b o e).1
theorem Inv.mod (I : Inv X pins σ H s) : Mod X.K X.mg X.base := I.ok.mod
theorem Inv.kIn (I : Inv X pins σ H s) : X.K.In s.heap := I.ok.mod.kin.keeps I.bk
theorem Inv.lt (I : Inv X pins σ H s) : X.env.locals < s.heap.objs.size := let ⟨_, hn, _⟩ := I.loc; hn.lt
theorem Inv.sz (I : Inv X pins σ H s) : X.s₀.heap.objs.size ≤ s.heap.objs.size := Nat.le_trans I.ok.above (Nat.le_of_lt I.lt)
theorem Inv.nofs (I : Inv X pins σ H s) {a : Addr} (h : s.heap.objs.size ≤ a) : a ∉ X.fs := fun hb => by
  obtain ⟨_, o, ho, _⟩ := I.ok.funs.mem hb
  exact absurd (Nat.lt_of_lt_of_le (Heap.lt_size ho) (Nat.le_trans I.sz h)) (Nat.lt_irrefl _)
theorem Inv.cne (I : Inv X pins σ H s) : ∀ x c, X.env.cells.lookup x = some c → c ≠ X.env.locals := fun x c e z => by
  obtain ⟨v, o, ho, hd⟩ := I.cell x c e
  obtain ⟨m, ⟨o', es, ep, ho', hd', _⟩, _⟩ := I.loc
  rw [z, ho'] at ho; cases ho; rw [hd'] at hd; cases hd
theorem Inv.funs (I : Inv X pins σ H s) : s.heap.FunFrames X.base X.outer := by
  have all : ∀ (l : List Env), (∀ b ∈ frs l, b ∈ X.fs) → X.s₀.heap.FunFrames X.base l → s.heap.FunFrames X.base l := by
    intro l
    induction l with
    | nil => intro _ _; trivial
    | cons env r ih =>
      intro hs hl
      obtain ⟨hk, ⟨L, o, hf, hn, ho, hd⟩, hr⟩ := hl
      have hL : L ∈ X.fs := hs L (by unfold frs; rw [List.filterMap_cons, hf]; exact List.mem_cons_self)
      obtain ⟨sl, e⟩ := I.base.slot L o ho (I.ok.frf L hL) hL fun z => I.ok.exfs L z hL
      exact ⟨hk, ⟨L, _, hf, hn, e, hd⟩, ih (fun b hb => hs b (by unfold frs; rw [List.filterMap_cons, hf]; exact List.mem_cons_of_mem _ hb)) hr⟩
  exact all X.outer (fun _ hb => hb) I.ok.funs
theorem Inv.stack (I : Inv X pins σ H s) : s.heap.FunFrames X.base X.stack := by
  rcases I.ok.stk with e | ⟨e, hf⟩
  · rw [e]; exact I.funs
  · rw [e]
    obtain ⟨m, hn, _⟩ := I.loc
    refine .cons (by rw [I.ok.kind]; decide) hf hn ?_ I.funs
    exact Heap.get?_none_of_le (Nat.le_trans I.ok.bsz I.ok.above)
theorem Inv.stkSub (I : Inv X pins σ H s) : ∀ b ∈ frs X.stack, b ∈ X.env.locals :: X.fs := fun b hb => by
  rcases I.ok.stk with e | ⟨e, hf⟩
  · rw [e] at hb; exact List.mem_cons_of_mem _ hb
  · rw [e] at hb
    unfold frs at hb
    rw [List.filterMap_cons, hf] at hb
    exact hb
theorem Inv.stkFree (I : Inv X pins σ H s) : ∀ b ∈ frs X.stack, H b = none := fun b hb => by
  rcases List.mem_cons.mp (I.stkSub b hb) with e | hb
  · rw [e]; exact I.free
  · obtain ⟨_, o, ho, _⟩ := I.ok.funs.mem hb
    exact I.base.free b o ho (I.ok.frf b hb) fun z => I.ok.exfs b z hb
theorem Inv.step {g' : Array GenState} {t' : Nat} {d' : Drawn} {ch : List Addr} (I : Inv X pins σ H s)
    (hch : ∀ b ∈ ch, (b ∈ X.ex ∨ X.s₀.heap.objs.size ≤ b) ∧ b ≠ X.env.locals ∧ (∀ x c, X.env.cells.lookup x = some c → c ≠ b) ∧ ∀ p ∈ X.pn ++ pins, p.1 ≠ b)
    (keep : ∀ b o, b ≠ X.env.locals → b ∉ X.fs → b ∉ ch → s.heap.get? b = some o → H b = none → h'.get? b = some o)
    (slot : ∀ b o, b ≠ X.env.locals → b ∈ X.fs → b ∉ ch → s.heap.get? b = some o → H b = none → ∃ sl, h'.get? b = some { o with slots := sl }) (free : ∀ b o, b ∉ ch → s.heap.get? b = some o → H b = none → H' b = none)
    (there : ∀ b o, b ∉ ch → s.heap.get? b = some o → ∃ o', h'.get? b = some o')
    (tups : ∀ b xs, H b = some (.tup xs) → H' b = some (.tup xs)) (frzs : ∀ b o u, H b = some (.frz o u) → H' b = some (.frz o u)) (tbls : ∀ b ps, H b = some (.tbl ps) → ∃ more, H' b = some (.tbl (ps ++ more)))
    (ns : ∀ m, s.heap.Ns X.env.locals m → h'.Ns X.env.locals m) (hok : HOk X.prog X.w H' h') (hg : AllBare g') :
    Inv X pins σ H' { s with heap := h', gens := g', drawn := d', toks := t' } := by
  have neL : ∀ b o, X.s₀.heap.get? b = some o → b ≠ X.env.locals := fun b o e => Nat.ne_of_lt (Nat.lt_of_lt_of_le (Heap.lt_size e) I.ok.above)
  have neC : ∀ b o, X.s₀.heap.get? b = some o → b ∉ X.ex → b ∉ ch := fun b o e hx hb => by
    rcases (hch b hb).1 with z | z
    · exact hx z
    · exact absurd (Nat.lt_of_lt_of_le (Heap.lt_size e) z) (Nat.lt_irrefl _)
  have cellK : ∀ x c, X.env.cells.lookup x = some c → ∀ v, s.heap.IsCell c v → h'.IsCell c v := fun x c e v ⟨o, ho, hd⟩ => by
    have nch : c ∉ ch := fun z => (hch c z).2.2.1 x c e rfl
    by_cases hc : c ∈ X.fs
    · obtain ⟨sl, q⟩ := slot c o (I.cne x c e) hc nch ho (I.freeC x c e)
      exact ⟨_, q, hd⟩
    · exact ⟨o, keep c o (I.cne x c e) hc nch ho (I.freeC x c e), hd⟩
  refine ⟨I.ok, I.os, hg, ⟨fun b o e n hb hx => ?_, fun b o e n hb hx => ?_, fun b o e n hx => ?_, fun b o e hx => ?_, fun b xs e => tups b xs (I.base.tups b xs e), fun b o xs e => frzs b o xs (I.base.frzs b o xs e), fun b ps e => ?_⟩, ?_, fun x c e => ?_, ?_, fun x c e => ?_, fun p hp => ?_, hok, I.len⟩
  · exact keep b o (neL b o e) hb (neC b o e hx) (I.base.keep b o e n hb hx) (I.base.free b o e n hx)
  · obtain ⟨sl, e1⟩ := I.base.slot b o e n hb hx
    obtain ⟨sl', e2⟩ := slot b _ (neL b o e) hb (neC b o e hx) e1 (I.base.free b o e n hx)
    exact ⟨sl', e2⟩
  · obtain ⟨o', e1⟩ := I.base.there b o e hx
    exact free b o' (neC b o e hx) e1 (I.base.free b o e n hx)
  · obtain ⟨o', e1⟩ := I.base.there b o e hx
    exact there b o' (neC b o e hx) e1
  · obtain ⟨m1, e1⟩ := I.base.tbls b ps e
    obtain ⟨m2, e2⟩ := tbls b _ e1
    exact ⟨m1 ++ m2, by rw [e2, Array.append_assoc]⟩
  · obtain ⟨m, hn, hl⟩ := I.loc
    refine ⟨m, ns m hn, fun i x v e1 e2 e3 => ?_⟩
    obtain ⟨u, r, l⟩ := hl i x v e1 e2 e3
    refine ⟨u, r, ?_⟩
    rcases l with l | ⟨k, c, e, z⟩
    · exact .inl l
    · exact .inr ⟨k, c, e, cellK x c e _ z⟩
  · obtain ⟨v, z⟩ := I.cell x c e
    exact ⟨v, cellK x c e v z⟩
  · obtain ⟨m, ⟨o, _, _, ho, _⟩, _⟩ := I.loc
    exact free _ o (fun z => (hch _ z).2.1 rfl) ho I.free
  · obtain ⟨v, o, ho, hd⟩ := I.cell x c e
    exact free c o (fun z => (hch c z).2.2.1 x c e rfl) ho (I.freeC x c e)
  · obtain ⟨e, n, ne, nf, d⟩ := I.pin p hp
    have nch : p.1 ∉ ch := fun z => (hch p.1 z).2.2.2 p hp rfl
    exact ⟨keep p.1 p.2 ne nf nch e n, free p.1 p.2 nch e n, ne, nf, d⟩
theorem Inv.un {t' : Nat} (I : Inv X pins σ H s) (u : Un X.fs [] H H' s.heap h') (hok : HOk X.prog X.w H' h') : Inv X pins σ H' { s with heap := h', toks := t' } := by
  obtain ⟨m, ⟨o, es, ep, ho, r⟩, _⟩ := id I.loc
  obtain ⟨sl, hL⟩ := u.any ho I.free (by simp)
  exact I.step (g' := s.gens) (d' := s.drawn) (ch := []) (fun _ z => nomatch z) (fun b o _ hb _ e n => u.keep b o e n hb (by simp)) (fun b o _ hb _ e n => u.slot b o e n hb (by simp)) (fun b o _ e n => u.free b o e n (by simp)) (fun b o _ e => u.there b o e (by simp)) u.tups u.frzs u.tbls (fun m' hm => by
    obtain ⟨o', es', ep', ho', r'⟩ := hm
    rw [ho] at ho'; cases ho'
    exact ⟨_, es', ep', hL, r'⟩) hok I.bare
theorem Inv.call {g' : Array GenState} {t' : Nat} {d' : Drawn} {ch : List Addr} (I : Inv X pins σ H s) (u : Un (frs X.stack) ch H H' s.heap h') (hok : HOk X.prog X.w H' h') (hg : AllBare g')
    (hch : ∀ b ∈ ch, (b ∈ X.ex ∨ X.s₀.heap.objs.size ≤ b) ∧ b ≠ X.env.locals ∧ (∀ x c, X.env.cells.lookup x = some c → c ≠ b) ∧ ∀ p ∈ X.pn ++ pins, p.1 ≠ b) :
    Inv X pins σ H' { s with heap := h', gens := g', drawn := d', toks := t' } := by
  obtain ⟨m, ⟨o, es, ep, ho, r⟩, _⟩ := id I.loc
  obtain ⟨sl, hL⟩ := u.any ho I.free fun z => (hch _ z).2.1 rfl
  exact I.step (ch := ch) hch (fun b o hL hb hc e n => u.keep b o e n (fun z => (List.mem_cons.mp (I.stkSub b z)).elim hL hb) hc) (fun b o _ _ hc e n => u.any e n hc) (fun b o hc e n => u.free b o e n hc) (fun b o hc e => u.there b o e hc) u.tups u.frzs u.tbls (fun m' hm => by
    obtain ⟨o', es', ep', ho', r'⟩ := hm
    rw [ho] at ho'; cases ho'
    exact ⟨_, es', ep', hL, r'⟩) hok hg
theorem Inv.turned {t' : Nat} {it : Addr} (I : Inv X pins σ H s) (k : ∀ b o, b ≠ it → s.heap.get? b = some o → h'.get? b = some o) (hn : H it = none) (hL : it ≠ X.env.locals)
    (h1 : it ∈ X.ex ∨ X.s₀.heap.objs.size ≤ it) (h2 : ∀ x c, X.env.cells.lookup x = some c → c ≠ it) (h3 : ∀ p ∈ X.pn ++ pins, p.1 ≠ it) : Inv X pins σ H { s with heap := h', toks := t' } := by
  have nit : ∀ b u, H b = some u → b ≠ it := fun b u e z => by rw [z, hn] at e; cases e
  refine I.step (g' := s.gens) (d' := s.drawn) (ch := [it]) (fun b hb => ?_) (fun b o _ _ hc e _ => k b o (fun z => hc (by simp [z])) e) (fun b o _ _ hc e _ => ⟨o.slots, k b o (fun z => hc (by simp [z])) e⟩) (fun _ _ _ _ n => n)
    (fun b o hc e => ⟨o, k b o (fun z => hc (by simp [z])) e⟩) (fun _ _ e => e) (fun _ _ _ e => e) (fun b ps e => ⟨#[], by rw [e]; simp⟩) (fun m hm => ?_) (fun b u e => ?_) I.bare
  · have e : b = it := by simpa using hb
    subst e
    exact ⟨h1, hL, h2, h3⟩
  · obtain ⟨o, es, ep, ho, r⟩ := hm
    exact ⟨o, es, ep, k _ o (Ne.symm hL) ho, r⟩
  · refine (I.hok b u e).stay (fun c v hc q => k c v ?_ q) (fun _ q => q) fun _ _ q => q
    rcases hc with z | z
    · rw [z]; exact nit b u e
    · exact nit c _ z
theorem Inv.tok (I : Inv X pins σ H s) (t : Nat) : Inv X pins σ H { s with toks := t } := I.un (h' := s.heap) (t' := t) Un.refl I.hok
theorem Inv.kept {t' : Nat} (I : Inv X pins σ H s) (k : ∀ b u, s.heap.get? b = some u → h'.get? b = some u) : Inv X pins σ H { s with heap := h', toks := t' } := I.un (Un.kept k) (I.hok.kept k)
theorem Inv.laid {a : Addr} {o : HO} {t' : Nat} (I : Inv X pins σ H s) (k : ∀ b u, s.heap.get? b = some u → h'.get? b = some u) (hp : s.heap.objs.size ≤ a) (new : ObjOk X.prog X.w (upd H a o) h' a o) :
    Inv X pins σ (upd H a o) { s with heap := h', toks := t' } := I.un (Un.laid k hp (I.hok.fresh hp)) (I.hok.laid k hp new)
theorem Inv.write {x e : Addr} {o : HO} {t' : Nat} (I : Inv X pins σ H s) (mu : Mut (H x)) (he : e = x ∨ H e = some (.own x)) (k : ∀ b u, b ≠ e → s.heap.get? b = some u → h'.get? b = some u) (heo : ∃ u, h'.get? e = some u)
    (new : ObjOk X.prog X.w (upd H x o) h' x o) : Inv X pins σ (upd H x o) { s with heap := h', toks := t' } := I.un (Un.write mu he k heo) (I.hok.write mu he k heo new)
theorem Inv.weak {σ' : List (Option V)} (I : Inv X pins σ H s) (hl : σ'.length = σ.length) (w : ∀ (i : Nat) v, σ'[i]? = some (some v) → σ[i]? = some (some v)) : Inv X pins σ' H s :=
  ⟨I.ok, I.os, I.bare, I.base, let ⟨m, hn, hl'⟩ := I.loc; ⟨m, hn, fun i x v e1 e2 e3 => hl' i x v e1 (w i v e2) e3⟩, I.cell, I.free, I.freeC, I.pin, I.hok, hl.trans I.len⟩
theorem Inv.pins_of {pins' : List (Addr × Obj)} (I : Inv X pins σ H s) (h : ∀ p ∈ pins', s.heap.get? p.1 = some p.2 ∧ H p.1 = none ∧ p.1 ≠ X.env.locals ∧ p.1 ∉ X.fs ∧ ∀ v, p.2.data ≠ .cell v) : Inv X pins' σ H s :=
  ⟨I.ok, I.os, I.bare, I.base, I.loc, I.cell, I.free, I.freeC, fun p hp => (List.mem_append.mp hp).elim (fun z => I.pin p (List.mem_append_left _ z)) (h p), I.hok, I.len⟩
theorem nodup_ix {N : List Str} (hN : N.Nodup) {i j : Nat} {x : Str} (a : N[i]? = some x) (b : N[j]? = some x) : i = j := by
  obtain ⟨h1, e1⟩ := List.getElem?_eq_some_iff.mp a
  obtain ⟨h2, e2⟩ := List.getElem?_eq_some_iff.mp b
  exact (List.getElem_inj hN).mp (e1.trans e2.symm)
theorem store_ok2 {M : Model} {A : Around} {E : Value → Shared → Prop} {i : Nat} {x : Str} {v : V} {u : Value} {Q : Unit → Shared → Prop} (I : Inv X pins σ H s) (hN : X.N.Nodup) (hi : X.N[i]? = some x) (hx : Loc X.env.scope x) (r : RelV v u)
    (h : ∀ s', Inv X pins (σ.set i (some v)) H s' → (∃ a, Heap.SameBut a s.heap s'.heap ∧ (a = X.env.locals ∨ X.env.cells.lookup x = some a)) → Q () s') (hf : X.fn x = true ∨ X.env.scope.names.lookup x = some .local := by with_unfolding_all (first | exact .inl rfl | exact .inr rfl | assumption)) : wpAny M A (storeName X.env x u) Q E s := by
  obtain ⟨m, hn, hl⟩ := id I.loc
  have hcls : (X.env.scope.kind == .class || (X.env.scope.kind == .module && X.env.locals != X.env.globals)) = false := by rw [I.ok.kind]; rfl
  have hiσ : i < σ.length := by rw [I.len]; exact (List.getElem?_eq_some_iff.mp hi).1
  have cne := I.cne
  have tracked : ∀ {a : Addr} {h' : Heap}, (∃ o, s.heap.get? a = some o ∧ H a = none) → Heap.SameBut a s.heap h' → HOk X.prog X.w H h' := fun {a h'} ha hs b ob e => by
    obtain ⟨_, _, hfree⟩ := ha
    refine (I.hok b ob e).stay (fun c w' hc q => (hs.2 c ?_).trans q) (fun _ q => q) fun _ _ q => q
    rintro rfl
    rcases hc with rfl | hc
    · rw [hfree] at e; cases e
    · rw [hfree] at hc; cases hc
  rcases hx with hk | hk
  · refine wpAny_storeName_local hk hn (fun h' hn' hs => ?_) hcls
    obtain ⟨oL, _, _, hoL, _⟩ := id hn
    refine h _ ⟨I.ok, I.os, I.bare, ⟨fun b o e n hb hx => ?_, fun b o e n hb hx => ?_, I.base.free, fun b o e hx => ?_, I.base.tups, I.base.frzs, I.base.tbls⟩, ⟨_, hn', fun j y v' e1 e2 e3 => ?_⟩, fun y c e => ?_, I.free, I.freeC, fun p hp => ?_, tracked ⟨oL, hoL, I.free⟩ hs, by simpa using I.len⟩ ⟨_, hs, .inl rfl⟩
    · exact (hs.2 b (Nat.ne_of_lt (Nat.lt_of_lt_of_le (Heap.lt_size e) I.ok.above))).trans (I.base.keep b o e n hb hx)
    · obtain ⟨sl, e1⟩ := I.base.slot b o e n hb hx
      exact ⟨sl, (hs.2 b (Nat.ne_of_lt (Nat.lt_of_lt_of_le (Heap.lt_size e) I.ok.above))).trans e1⟩
    · obtain ⟨o', e1⟩ := I.base.there b o e hx
      exact ⟨o', (hs.2 b (Nat.ne_of_lt (Nat.lt_of_lt_of_le (Heap.lt_size e) I.ok.above))).trans e1⟩
    · by_cases hj : j = i
      · subst hj
        rw [hi] at e1; cases e1
        rw [List.getElem?_set_self hiσ] at e2
        cases e2
        exact ⟨u, r, .inl ⟨hk, by simp⟩⟩
      · rw [List.getElem?_set_ne (Ne.symm hj)] at e2
        obtain ⟨u', r', q⟩ := hl j y v' e1 e2 e3
        refine ⟨u', r', ?_⟩
        rcases q with ⟨k, e⟩ | ⟨k, c, e, z⟩
        · refine .inl ⟨k, ?_⟩
          have : y ≠ x := fun e => hj (nodup_ix hN e1 (e ▸ hi))
          simp [this, e]
        · exact .inr ⟨k, c, e, z.sameBut hs (cne y c e)⟩
    · obtain ⟨w', z⟩ := I.cell y c e
      exact ⟨w', z.sameBut hs (cne y c e)⟩
    · obtain ⟨e, n, ne, nf, d⟩ := I.pin p hp
      exact ⟨(hs.2 p.1 ne).trans e, n, ne, nf, d⟩
  · have hfn : X.fn x = true := by
      rcases hf with z | z
      · exact z
      · rw [z] at hk; cases hk
    obtain ⟨c, hc⟩ := I.ok.has x (.inl hk)
    obtain ⟨w', z⟩ := I.cell x c hc
    refine wpAny_storeName_cell I.ok.kind hk hc z (fun h' hc' hs => ?_)
    obtain ⟨oc, hoc, hocd⟩ := id z
    refine h { s with heap := h' } ⟨I.ok, I.os, I.bare, ⟨fun b o e n hb hx => ?_, fun b o e n hb hx => ?_, I.base.free, fun b o e hx => ?_, I.base.tups, I.base.frzs, I.base.tbls⟩, ⟨m, hn.sameBut hs (Ne.symm (cne x c hc)), fun j y v' e1 e2 e3 => ?_⟩, fun y c' e => ?_, I.free, I.freeC, fun p hp => ?_, tracked ⟨oc, hoc, I.freeC x c hc⟩ hs, by simpa using I.len⟩ ⟨c, hs, .inr hc⟩
    · exact (hs.2 b (Nat.ne_of_lt (Nat.lt_of_lt_of_le (Heap.lt_size e) (I.ok.cab x c hfn hc)))).trans (I.base.keep b o e n hb hx)
    · obtain ⟨sl, e1⟩ := I.base.slot b o e n hb hx
      exact ⟨sl, (hs.2 b (Nat.ne_of_lt (Nat.lt_of_lt_of_le (Heap.lt_size e) (I.ok.cab x c hfn hc)))).trans e1⟩
    · obtain ⟨o', e1⟩ := I.base.there b o e hx
      exact ⟨o', (hs.2 b (Nat.ne_of_lt (Nat.lt_of_lt_of_le (Heap.lt_size e) (I.ok.cab x c hfn hc)))).trans e1⟩
    · by_cases hj : j = i
      · subst hj
        rw [hi] at e1; cases e1
        rw [List.getElem?_set_self hiσ] at e2
        cases e2
        exact ⟨u, r, .inr ⟨.inl hk, c, hc, hc'⟩⟩
      · rw [List.getElem?_set_ne (Ne.symm hj)] at e2
        obtain ⟨u', r', q⟩ := hl j y v' e1 e2 e3
        refine ⟨u', r', ?_⟩
        rcases q with q | ⟨k, c', e, z'⟩
        · exact .inl q
        · refine .inr ⟨k, c', e, z'.sameBut hs ?_⟩
          rintro rfl
          exact hj (nodup_ix hN e1 (I.ok.inj _ _ _ e hc ▸ hi))
    · by_cases hcc : c' = c
      · subst hcc; exact ⟨_, hc'⟩
      · obtain ⟨w2, z2⟩ := I.cell y c' e
        exact ⟨w2, z2.sameBut hs hcc⟩
    · obtain ⟨e, n, ne, nf, d⟩ := I.pin p hp
      refine ⟨(hs.2 p.1 ?_).trans e, n, ne, nf, d⟩
      intro q
      rw [q, hoc] at e
      have q' : oc = p.2 := Option.some.inj e
      exact d w' (by rw [← q']; exact hocd)
theorem store_ok {M : Model} {A : Around} {E : Value → Shared → Prop} {i : Nat} {x : Str} {v : V} {u : Value} {Q : Unit → Shared → Prop} (I : Inv X pins σ H s) (hN : X.N.Nodup) (hi : X.N[i]? = some x) (hx : Loc X.env.scope x) (r : RelV v u)
    (h : ∀ s', Inv X pins (σ.set i (some v)) H s' → Q () s') (hf : X.fn x = true ∨ X.env.scope.names.lookup x = some .local := by with_unfolding_all (first | exact .inl rfl | exact .inr rfl | assumption)) : wpAny M A (storeName X.env x u) Q E s :=
  store_ok2 I hN hi hx r (fun s' I' _ => h s' I') hf
theorem Inv.call' {s' : Shared} {ch : List Addr} (I : Inv X pins σ H s) (ho : s'.os = s.os) (u : Un (frs X.stack) ch H H' s.heap s'.heap) (hok : HOk X.prog X.w H' s'.heap) (hg : AllBare s'.gens)
    (hch : ∀ b ∈ ch, (b ∈ X.ex ∨ X.s₀.heap.objs.size ≤ b) ∧ b ≠ X.env.locals ∧ (∀ x c, X.env.cells.lookup x = some c → c ≠ b) ∧ ∀ p ∈ X.pn ++ pins, p.1 ≠ b) : Inv X pins σ H' s' := by
  obtain ⟨h', g', d', t', o'⟩ := s'
  have e : o' = s.os := ho
  subst e
  exact I.call (g' := g') (t' := t') (d' := d') u hok hg hch
end
noncomputable abbrev XK := Value → Option Addr → Hp → Prop
noncomputable abbrev St := List (Option V)
noncomputable abbrev VK := V → Hp → Prop
noncomputable abbrev TE := St → Hp → VK → Prop
noncomputable abbrev TT := St → Hp → (Bool → Hp → Prop) → Prop
noncomputable abbrev TA := St → Hp → (List V → Hp → Prop) → Prop
structure Ends where
  nx : St → Hp → Prop
  rt : VK
  bk : St → Hp → Prop := fun _ _ => False
  ct : St → Hp → Prop := fun _ _ => False
noncomputable abbrev TS := Ends → St → Hp → Prop
noncomputable def EP (X : Cx) (pins : List (Addr × Obj)) (σ : St) (Q : VK) (u : Value) (s' : Shared) : Prop := ∃ v H', Inv X pins σ H' s' ∧ RelV v u ∧ Q v H'
noncomputable def TP (X : Cx) (pins : List (Addr × Obj)) (σ : St) (Q : Bool → Hp → Prop) (b : Bool) (s' : Shared) : Prop := ∃ H', Inv X pins σ H' s' ∧ Q b H'
noncomputable def AP (X : Cx) (pins : List (Addr × Obj)) (σ : St) (Q : List V → Hp → Prop) (us : List Value) (s' : Shared) : Prop := ∃ vs H', Inv X pins σ H' s' ∧ Vals vs us ∧ Q vs H'
noncomputable def SP (X : Cx) (pins : List (Addr × Obj)) (D : Ends) (f : Flow) (s' : Shared) : Prop :=
  match f with
  | .next => ∃ σ' H', Inv X pins σ' H' s' ∧ D.nx σ' H'
  | .brk => ∃ σ' H', Inv X pins σ' H' s' ∧ D.bk σ' H'
  | .cont => ∃ σ' H', Inv X pins σ' H' s' ∧ D.ct σ' H'
  | .ret u => ∃ v σ' H', Inv X pins σ' H' s' ∧ RelV v u ∧ D.rt v H'
noncomputable def PE (X : Cx) (e : Expr) (t : TE) : Prop :=
  ∀ (pins : List (Addr × Obj)) (s : Shared) (σ : St) (H : Hp) (Q : VK), Inv X pins σ H s → t σ H Q → wpAny (model X.prog X.w) X.A (eval e X.env) (EP X pins σ Q) X.xe s
noncomputable def PT (X : Cx) (e : Expr) (t : TT) : Prop :=
  ∀ (pins : List (Addr × Obj)) (s : Shared) (σ : St) (H : Hp) (Q : Bool → Hp → Prop), Inv X pins σ H s → t σ H Q → wpAny (model X.prog X.w) X.A (isTrue e X.env (eval e X.env)) (TP X pins σ Q) X.xe s
noncomputable def PW (X : Cx) (e : Expr) (t : TT) : Prop :=
  ∀ (whole : Sem Value) (pins : List (Addr × Obj)) (s : Shared) (σ : St) (H : Hp) (Q : Bool → Hp → Prop), Inv X pins σ H s → t σ H Q → wpAny (model X.prog X.w) X.A (isTrue e X.env whole) (TP X pins σ Q) X.xe s
theorem PW.pt {X : Cx} {e : Expr} {t : TT} (h : PW X e t) : PT X e t := h _
noncomputable def PA (X : Cx) (es : List Expr) (t : TA) : Prop :=
  ∀ (pos : Pos) (pins : List (Addr × Obj)) (s : Shared) (σ : St) (H : Hp) (Q : List V → Hp → Prop), Inv X pins σ H s → t σ H Q → wpAny (model X.prog X.w) X.A (spliced (backTo pos (starEach es X.env))) (AP X pins σ Q) X.xe s
noncomputable def PS (X : Cx) (st : Stmt) (t : TS) : Prop :=
  ∀ (pins : List (Addr × Obj)) (s : Shared) (σ : St) (H : Hp) (D : Ends), Inv X pins σ H s → t D σ H → wpAny (model X.prog X.w) X.A (exec st X.env) (SP X pins D) X.xe s
noncomputable def PSs (X : Cx) (st : List Stmt) (t : TS) : Prop :=
  ∀ (pins : List (Addr × Obj)) (s : Shared) (σ : St) (H : Hp) (D : Ends), Inv X pins σ H s → t D σ H → wpAny (model X.prog X.w) X.A (execs st X.env) (SP X pins D) X.xe s
theorem thn {α : Type} {t : Sem α} {Q Q' : α → Shared → Prop} {M : Model} {A : Around} {E : Value → Shared → Prop} {s : Shared} (h : wpAny M A t Q E s) (hQ : ∀ a s, Q a s → Q' a s) : wpAny M A t Q' E s := wpAny_mono h hQ fun _ _ x => x
end L2
namespace L2
open PySem PySem.Spec PyProof.Rows
section
variable {X : Cx}
noncomputable def tVar (i : Nat) : TE := fun σ H Q => ∃ v, σ[i]? = some (some v) ∧ Q v H
noncomputable def tC (v : V) : TE := fun _ H Q => Q v H
theorem pe_var {i : Nat} {x : Str} {pos : Pos} (hN : X.N[i]? = some x) (hv : Vis X.env.scope x) (hd : (x == ("__debug__" : Str)) = false := by decide) (hcd : (x == ("__classdict__" : Str)) = false := by decide) : PE X (.Name x pos) (tVar i) := by
  intro pins s σ H Q I h
  obtain ⟨v, e, h⟩ := h
  obtain ⟨m, hn, hl⟩ := I.loc
  obtain ⟨u, r, l⟩ := hl i x v hN e hv
  have fin : EP X pins σ Q u s := ⟨v, H, I, r, h⟩
  rcases l with ⟨hk, hm⟩ | ⟨hk, c, hc, hcell⟩
  · exact wpAny_Name (wpAny_loadName_local I.ok.kind hk hn hm fin) hd
  · rcases hk with hk | hk
    · exact wpAny_Name (wpAny_loadName_cell I.ok.kind hk hc hcell fin) hd
    · exact wpAny_Name (wpAny_loadName_free I.ok.kind hk hc hcell fin hcd) hd
theorem pe_int {i j pos} : PE X (.Constant (.int i) j pos) (tC (.int i)) := fun _ _ _ H _ I h => wpAny_Constant_int ⟨.int i, H, I.tok _, ⟨_, rfl⟩, h⟩
theorem pe_bl {b j pos} : PE X (.Constant (.bool b) j pos) (tC (.bl b)) := fun _ _ _ H _ I h => Constant_bool ⟨.bl b, H, I, rfl, h⟩
theorem pe_non {j pos} : PE X (.Constant .none j pos) (tC .non) := fun _ _ _ H _ I h => Constant_none ⟨.non, H, I, rfl, h⟩
theorem pe_str {x j pos} : PE X (.Constant (.str x) j pos) (tC (.str x)) := fun _ _ _ H _ I h => Calls.Constant_str ⟨.str x, H, I.tok _, ⟨_, rfl⟩, h⟩
noncomputable def Gl (X : Cx) (x : Str) : Prop := X.env.kindOf x = some .globalImplicit
theorem ld_glob {E : Value → Shared → Prop} {pins : List (Addr × Obj)} {s : Shared} {σ : St} {H : Hp} {x : Str} {u : Value} {pos : Pos} {Q : Value → Shared → Prop} (I : Inv X pins σ H s) (hg : Gl X x) (hm : X.mg x = some u) (h : Q u s)
    (hd : (x == ("__debug__" : Str)) = false := by decide) : wpAny (model X.prog X.w) X.A (eval (.Name x pos) X.env) Q E s :=
  Calls.Name_function_global I.ok.kind hg (Calls.loadGlobal_global (by rw [I.ok.glob]; exact I.mod.glob.keeps I.bk) hm h) hd
theorem ld_blt {E : Value → Shared → Prop} {pins : List (Addr × Obj)} {s : Shared} {σ : St} {H : Hp} {x : Str} {u : Value} {pos : Pos} {Q : Value → Shared → Prop} (I : Inv X pins σ H s) (hg : Gl X x) (hm : X.mg x = none) (hv : bootBuiltins x = some u) (h : Q u s)
    (hn : x ≠ "__name__" := by decide) (hd : (x == ("__debug__" : Str)) = false := by decide) : wpAny (model X.prog X.w) X.A (eval (.Name x pos) X.env) Q E s := by
  obtain ⟨mb, h1, h2⟩ := I.mod.blt
  exact Calls.Name_function_global I.ok.kind hg (Calls.loadGlobal_builtin (by rw [I.ok.glob]; exact I.mod.glob.keeps I.bk) hm (by rw [I.ok.blt]; exact h1.keeps I.bk) ((h2 x hn).trans hv) h) hd
theorem pe_bltn {x : Str} {v : V} {u : Value} {pos : Pos} (hg : Gl X x) (hm : X.mg x = none) (hv : bootBuiltins x = some u) (r : RelV v u) (hn : x ≠ "__name__" := by decide) (hd : (x == ("__debug__" : Str)) = false := by decide) : PE X (.Name x pos) (tC v) :=
  fun _ _ _ H _ I h => ld_blt I hg hm hv ⟨v, H, I, r, h⟩ hn hd
variable {a b : Expr} {ta tb : TE} {pos : Pos}
noncomputable def tB (t : TE) : TT := fun σ H Q => t σ H fun x H1 => ∃ c, x = .bl c ∧ Q c H1
theorem pt_val {e : Expr} {t : TE} (h : PE X e t) (he : ∀ whole, isTrue e X.env whole = (do let v ← whole; standAt e.pos; holding [v] (truthy v)) := by intro _; with_unfolding_all rfl) : PT X e (tB t) := by
  intro pins s σ H Q I hw
  refine isTrue_plain (thn (h pins s σ H _ I hw) fun v s1 ⟨x, H1, I1, r1, q1⟩ => ?_) (he _)
  obtain ⟨d, rfl, q⟩ := q1
  cases r1
  exact wpAny_truthy_bool ⟨H1, I1, q⟩
variable {tA tB' : TT} {rest : List Expr}
noncomputable def tAnd (t u : TT) : TT := fun σ H Q => t σ H fun c H1 => if c = true then u σ H1 Q else Q false H1
noncomputable def tOr (t u : TT) : TT := fun σ H Q => t σ H fun c H1 => if c = true then Q true H1 else u σ H1 Q
noncomputable def tNot (t : TT) : TT := fun σ H Q => t σ H fun c H1 => Q (!c) H1
theorem pw_and1 (ha : PT X a tA) : PW X (.BoolOp .And [a] pos) tA := by
  intro wh pins s σ H Q I h
  refine isTrue_and (thn (ha pins s σ H Q I h) fun c s1 e => ?_)
  cases c with
  | true => exact isTrue_and_nil e
  | false => exact e
theorem pw_or1 (ha : PT X a tA) : PW X (.BoolOp .Or [a] pos) tA := by
  intro wh pins s σ H Q I h
  refine isTrue_or (thn (ha pins s σ H Q I h) fun c s1 e => ?_)
  cases c with
  | false => exact isTrue_or_nil e
  | true => exact e
theorem pw_and (ha : PT X a tA) (hb : PW X (.BoolOp .And (b :: rest) pos) tB') : PW X (.BoolOp .And (a :: b :: rest) pos) (tAnd tA tB') := by
  intro wh pins s σ H Q I h
  refine isTrue_and (thn (ha pins s σ H _ I h) fun c s1 ⟨H1, I1, q1⟩ => ?_)
  cases c with
  | true => exact hb wh pins s1 σ H1 Q I1 q1
  | false => exact ⟨H1, I1, q1⟩
theorem pw_or (ha : PT X a tA) (hb : PW X (.BoolOp .Or (b :: rest) pos) tB') : PW X (.BoolOp .Or (a :: b :: rest) pos) (tOr tA tB') := by
  intro wh pins s σ H Q I h
  refine isTrue_or (thn (ha pins s σ H _ I h) fun c s1 ⟨H1, I1, q1⟩ => ?_)
  cases c with
  | true => exact ⟨H1, I1, q1⟩
  | false => exact hb wh pins s1 σ H1 Q I1 q1
theorem pt_not (ha : PT X a tA) : PT X (.UnaryOp .Not a pos) (tNot tA) := by
  intro pins s σ H Q I h
  exact isTrue_not (ha pins s σ H (fun c H1 => Q (!c) H1) I h)
noncomputable def tAndV (ta tb : TE) : TE := fun σ H Q => ta σ H fun x H1 => ∃ c, x = .bl c ∧ if c = true then tb σ H1 Q else Q (.bl false) H1
theorem pe_one {op} {t : TE} (h : PE X a t) : PE X (.BoolOp op [a] pos) t := fun pins s σ H Q I hw => BoolOp_one (h pins s σ H Q I hw)
theorem pe_and (ha : PE X a ta) (hb : PE X (.BoolOp .And (b :: rest) pos) tb) : PE X (.BoolOp .And (a :: b :: rest) pos) (tAndV ta tb) := by
  intro pins s σ H Q I h
  refine BoolOp_and (thn (ha pins s σ H _ I h) fun v s1 ⟨x, H1, I1, r1, q1⟩ => ?_)
  obtain ⟨c, rfl, q1⟩ := q1
  cases r1
  refine wpAny_truthy_bool ?_
  cases c with
  | true => exact hb pins s1 σ H1 Q I1 q1
  | false => exact ⟨.bl false, H1, I1, rfl, q1⟩
end
end L2
namespace L2
open PySem PySem.Spec PyProof.Rows
noncomputable def SqL (K : PySem.W.Frag) (H : Hp) (a : Addr) (xs : List V) : Prop :=
  Rd H a (.lst xs) ∨
    ∃ (o : Obj) (its : Array Value) (n : Nat), K.lookup a = some o ∧ o.cls = .type "list" ∧ o.dict = none ∧ o.data = .seq its n ∧ its.size ≤ sizeLine ∧ Vals xs its.toList
noncomputable def SqT (K : PySem.W.Frag) (H : Hp) (a : Addr) (xs : List V) : Prop :=
  Rd H a (.tup xs) ∨
    ∃ (o : Obj) (its : Array Value) (n : Nat), K.lookup a = some o ∧ o.cls = .type "tuple" ∧ o.data = .seq its n ∧ its.size ≤ sizeLine ∧ Vals xs its.toList ∧ o.dict = none
noncomputable def absV : Value → Option V
  | .none => some .non
  | .bool b => some (.bl b)
  | .int i _ => some (.int i)
  | .str x _ => some (.str x)
  | .bytes b _ => some (.byt b)
  | .float b _ => some (.flt b)
  | .ref a => some (.ref a)
  | .type n => some (.ty n)
  | _ => none
theorem RelV.abs {x : V} {u : Value} (r : RelV x u) : absV u = some x := by
  cases x with
  | non => cases r; rfl
  | bl _ => cases r; rfl
  | int _ => obtain ⟨t, rfl⟩ := r; rfl
  | str _ => obtain ⟨t, rfl⟩ := r; rfl
  | byt _ => obtain ⟨t, rfl⟩ := r; rfl
  | flt _ => obtain ⟨t, rfl⟩ := r; rfl
  | ref _ => cases r; rfl
  | ty _ => cases r; rfl
theorem RelV.inj {x y : V} {u : Value} (r : RelV x u) (q : RelV y u) : x = y := Option.some.inj (r.abs.symm.trans q.abs)
theorem Vals.inj : ∀ {xs ys : List V} {us : List Value}, Vals xs us → Vals ys us → xs = ys
  | _, _, _, .nil, .nil => rfl
  | _, _, _, .cons r t, .cons r' t' => by rw [r.inj r', Vals.inj t t']
section
variable {X : Cx} {pins : List (Addr × Obj)} {σ : St} {H : Hp} {s : Shared} {a : Addr} {xs ys : List V}
theorem SqL.of {K : PySem.W.Frag} (h : H a = some (.lst xs)) : SqL K H a xs := .inl (.inl h)
theorem SqT.of {K : PySem.W.Frag} (h : H a = some (.tup xs)) : SqT K H a xs := .inl (.inl h)
theorem Inv.list (I : Inv X pins σ H s) (h : SqL X.K H a xs) : ∃ its : List Value, Vals xs its ∧ PlainL s.heap a its.toArray ∧ xs.length ≤ sizeLine := by
  rcases h with h | ⟨o, its, n, hk, hc, hd, hs, hz, r⟩
  · obtain ⟨z, its, n, r, e⟩ := h.ok I.hok
    exact ⟨its, r, ⟨_, n, e, rfl, rfl, rfl⟩, z⟩
  · refine ⟨its.toList, r, ⟨o, n, I.kIn a o hk, hc, hd, by simpa using hs⟩, ?_⟩
    have e := r.length
    simp only [Array.length_toList] at e
    omega
theorem Inv.tuple (I : Inv X pins σ H s) (h : SqT X.K H a xs) : ∃ its : List Value, Vals xs its ∧ IsTup s.heap a its.toArray ∧ xs.length ≤ sizeLine := by
  rcases h with h | ⟨o, its, n, hk, hc, hs, hz, r, hn⟩
  · obtain ⟨z, its, r, p⟩ := h.ok I.hok
    exact ⟨its, r, p.tup, z⟩
  · refine ⟨its.toList, r, ⟨o, I.kIn a o hk, hc, n, by simpa using hs⟩, ?_⟩
    have e := r.length
    simp only [Array.length_toList] at e
    omega
theorem Inv.tupleN (I : Inv X pins σ H s) (h : SqT X.K H a xs) : ∃ ob, s.heap.get? a = some ob ∧ ob.dict = none := by
  rcases h with h | ⟨o, its, n, hk, hc, hs, hz, r, hn⟩
  · obtain ⟨z, its, r, o, h1, _, _, h2⟩ := h.ok I.hok
    exact ⟨o, h1, h2⟩
  · exact ⟨o, I.kIn a o hk, hn⟩
theorem Inv.list_inj (I : Inv X pins σ H s) (h : SqL X.K H a xs) (h' : SqL X.K H a ys) : xs = ys := by
  obtain ⟨its, r, ⟨o, n, e, _, _, d⟩, _⟩ := I.list h
  obtain ⟨its', r', ⟨o', n', e', _, _, d'⟩, _⟩ := I.list h'
  rw [e] at e'; cases e'
  rw [d] at d'
  injection d' with d1 _
  have : its = its' := by simpa using congrArg Array.toList d1
  subst this
  exact r.inj r'
theorem Inv.tuple_inj (I : Inv X pins σ H s) (h : SqT X.K H a xs) (h' : SqT X.K H a ys) : xs = ys := by
  obtain ⟨its, r, ⟨o, e, _, n, d⟩, _⟩ := I.tuple h
  obtain ⟨its', r', ⟨o', e', _, n', d'⟩, _⟩ := I.tuple h'
  rw [e] at e'; cases e'
  rw [d] at d'
  injection d' with d1 _
  have : its = its' := by simpa using congrArg Array.toList d1
  subst this
  exact r.inj r'
end
noncomputable abbrev Cx.wish (X : Cx) (E : Value → Shared → Prop) : Cx := { X with xe := E }
noncomputable abbrev Cx.nox (X : Cx) : Cx := X.wish fun _ _ => False
theorem Cx.Ok.wish {X : Cx} (ok : X.Ok) (E : Value → Shared → Prop) : (X.wish E).Ok :=
  ⟨ok.mod, ok.kind, ok.glob, ok.blt, ok.above, ok.inj, ok.has, ok.cab, ok.hd, ok.frames, ok.stk, ok.exf, ok.bs, ok.bsz, ok.noex, ok.exfs, ok.funs, ok.frf⟩
theorem Cx.Ok.unwish {X : Cx} {E : Value → Shared → Prop} (ok : (X.wish E).Ok) : X.Ok :=
  ⟨ok.mod, ok.kind, ok.glob, ok.blt, ok.above, ok.inj, ok.has, ok.cab, ok.hd, ok.frames, ok.stk, ok.exf, ok.bs, ok.bsz, ok.noex, ok.exfs, ok.funs, ok.frf⟩
section
variable {X : Cx} {pins : List (Addr × Obj)} {σ : St} {H : Hp} {s : Shared} {E : Value → Shared → Prop}
theorem Inv.wish (I : Inv X pins σ H s) (E : Value → Shared → Prop) : Inv (X.wish E) pins σ H s := ⟨I.ok.wish E, I.os, I.bare, I.base, I.loc, I.cell, I.free, I.freeC, I.pin, I.hok, I.len⟩
theorem Inv.unwish (I : Inv (X.wish E) pins σ H s) : Inv X pins σ H s := ⟨I.ok.unwish, I.os, I.bare, I.base, I.loc, I.cell, I.free, I.freeC, I.pin, I.hok, I.len⟩
theorem SP.unwish {D : Ends} {f : Flow} {s' : Shared} (h : SP (X.wish E) pins D f s') : SP X pins D f s' := by
  cases f with
  | next => obtain ⟨σ', H', I, q⟩ := h; exact ⟨σ', H', I.unwish, q⟩
  | brk => obtain ⟨σ', H', I, q⟩ := h; exact ⟨σ', H', I.unwish, q⟩
  | cont => obtain ⟨σ', H', I, q⟩ := h; exact ⟨σ', H', I.unwish, q⟩
  | ret u => obtain ⟨v, σ', H', I, r, q⟩ := h; exact ⟨v, σ', H', I.unwish, r, q⟩
theorem PSs.nox {st : List Stmt} {t : TS} (h : PSs X.nox st t) : PSs X st t := fun pins s σ H D I hw =>
  wpAny_mono (h pins s σ H D (I.wish _) hw) (fun _ _ q => q.unwish) fun _ _ z => False.elim z
end
section
variable {X : Cx} {st : Stmt} {rest : List Stmt} {t u : TS} {e : Expr} {te : TE} {pos : Pos}
noncomputable def tNext : TS := fun D σ H => D.nx σ H
noncomputable def tSeq (t u : TS) : TS := fun D σ H => t { D with nx := u D } σ H
theorem pss_nil : PSs X [] tNext := fun _ _ σ H _ I h => wpAny_execs_nil ⟨σ, H, I, h⟩
theorem pss_cons (h1 : PS X st t) (h2 : PSs X rest u) : PSs X (st :: rest) (tSeq t u) := by
  intro pins s σ H D I h
  refine wpAny_execs_cons (thn (h1 pins s σ H { D with nx := u D } I h) fun f s1 q => ?_)
  cases f with
  | next =>
    obtain ⟨σ', H', I', q⟩ := q
    exact h2 pins s1 σ' H' D I' q
  | ret v => exact q
  | brk => exact q
  | cont => exact q
theorem pss_one (h1 : PS X st t) : PSs X [st] t := by
  intro pins s σ H D I h
  refine wpAny_execs_cons (thn (h1 pins s σ H D I h) fun f s1 q => ?_)
  cases f with
  | next => exact wpAny_execs_nil q
  | ret v => exact q
  | brk => exact q
  | cont => exact q
theorem Inv.quiet {pins : List (Addr × Obj)} {σ : St} {H : Hp} {s : Shared} (I : Inv X pins σ H s) : interactive X.env = false := by simp [interactive, I.ok.kind]
noncomputable def tDrop (te : TE) : TS := fun D σ H => te σ H fun _ H1 => D.nx σ H1
theorem ps_expr (he : PE X e te) (hs : swapsWith e none pos.line X.env = pure false := by with_unfolding_all rfl) : PS X (.Expr e pos) (tDrop te) := by
  intro pins s σ H D I h
  exact wpAny_Expr_any (thn (he pins s σ H _ I h) fun v s1 ⟨x, H1, I1, r1, q1⟩ => ⟨σ, H1, I1, q1⟩) I.quiet hs
noncomputable def tRet (te : TE) : TS := fun D σ H => te σ H D.rt
theorem ps_ret (he : PE X e te) : PS X (.Return (some e) pos) (tRet te) := by
  intro pins s σ H D I h
  exact wpAny_Return_some (thn (he pins s σ H _ I h) fun v s1 ⟨x, H1, I1, r1, q1⟩ => ⟨x, σ, H1, I1, r1, q1⟩)
noncomputable def tIfS (c : TT) (t u : TS) : TS := fun D σ H => c σ H fun b H1 => if b = true then t D σ H1 else u D σ H1
theorem ps_if {c : Expr} {a b : List Stmt} {tc : TT} (hc : PT X c tc) (ha : PSs X a t) (hb : PSs X b u) : PS X (.If c a b pos) (tIfS tc t u) := by
  intro pins s σ H D I h
  refine wpAny_If (thn (hc pins s σ H _ I h) fun d s1 ⟨H1, I1, q1⟩ => ?_)
  cases d with
  | true => exact ha pins s1 σ H1 D I1 q1
  | false => exact hb pins s1 σ H1 D I1 q1
end
noncomputable abbrev TG := V → St → Hp → (St → Hp → Prop) → Prop
noncomputable abbrev TGs := List V → St → Hp → (St → Hp → Prop) → Prop
noncomputable def PG (X : Cx) (target : Expr) (t : TG) : Prop :=
  ∀ (pins : List (Addr × Obj)) (s : Shared) (σ : St) (H : Hp) (v : V) (u : Value) (Q : St → Hp → Prop), Inv X pins σ H s → RelV v u → t v σ H Q →
    wpAny (model X.prog X.w) X.A (assign target X.env u) (fun _ s' => ∃ σ' H', Inv X pins σ' H' s' ∧ Q σ' H') X.xe s
noncomputable def PGs (X : Cx) (ts : List Expr) (t : TGs) : Prop :=
  ∀ (pins : List (Addr × Obj)) (s : Shared) (σ : St) (H : Hp) (vs : List V) (us : List Value) (Q : St → Hp → Prop), Inv X pins σ H s → Vals vs us → t vs σ H Q →
    wpAny (model X.prog X.w) X.A (assignInOrder ((assignEach ts X.env).map (·.2)) us) (fun _ s' => ∃ σ' H', Inv X pins σ' H' s' ∧ Q σ' H') X.xe s
noncomputable abbrev TSet := V → V → V → Hp → (Hp → Prop) → Prop
noncomputable def PSet (X : Cx) (t : TSet) : Prop :=
  ∀ (pins : List (Addr × Obj)) (s : Shared) (σ : St) (H : Hp) (o i v : V) (ov iv u : Value) (Q : Hp → Prop), Inv X pins σ H s → RelV o ov → RelV i iv → RelV v u → t o i v H Q →
    wpAny (model X.prog X.w) X.A (setItem ov iv u) (fun _ s' => ∃ H', Inv X pins σ H' s' ∧ Q H') X.xe s
section
variable {X : Cx} {pos : Pos}
noncomputable def gName (i : Nat) : TG := fun v σ H Q => Q (σ.set i (some v)) H
theorem pg_name {i : Nat} {x : Str} (hN : X.N.Nodup) (hi : X.N[i]? = some x) (hx : Loc X.env.scope x) (hf : X.fn x = true ∨ X.env.scope.names.lookup x = some .local := by with_unfolding_all (first | exact .inl rfl | exact .inr rfl | assumption)) : PG X (.Name x pos) (gName i) := by
  intro pins s σ H v u Q I r h
  exact wpAny_assign_Name (store_ok I hN hi hx r (fun s' I' => ⟨_, H, I', h⟩) hf)
noncomputable def gNil : TGs := fun vs σ H Q => vs = [] ∧ Q σ H
noncomputable def gCons (t : TG) (u : TGs) : TGs := fun vs σ H Q => ∃ v r, vs = v :: r ∧ t v σ H fun σ' H' => u r σ' H' Q
theorem pgs_nil : PGs X [] gNil := by
  intro pins s σ H vs us Q I r h
  obtain ⟨e, h⟩ := h
  subst e
  cases r
  exact assignInOrder_nil ⟨σ, H, I, h⟩
theorem pgs_cons {e : Expr} {es : List Expr} {t : TG} {u : TGs} (h1 : PG X e t) (h2 : PGs X es u)
    (hs : (assignEach (e :: es) X.env).map (·.2) = assign e X.env :: (assignEach es X.env).map (·.2) := by with_unfolding_all rfl) : PGs X (e :: es) (gCons t u) := by
  intro pins s σ H vs us Q I r h
  obtain ⟨v, vr, e1, h⟩ := h
  subst e1
  cases r with
  | cons r rr =>
    rw [hs]
    refine assignInOrder_cons (thn (h1 pins s σ H _ _ _ I r h) fun _ s1 ⟨σ1, H1, I1, q1⟩ => ?_)
    exact h2 pins s1 σ1 H1 _ _ Q I1 rr q1
noncomputable def gTup (K : PySem.W.Frag) (n : Nat) (t : TGs) : TG := fun v σ H Q => ∃ a xs, v = .ref a ∧ SqT K H a xs ∧ xs.length = n ∧ t xs σ H Q
theorem pg_tup {es : List Expr} {k : Nat} {t : TGs} {n : Nat} (hc : X.calm = true) (h : PGs X es t)
    (hn : (assignEach es X.env).length = n := by with_unfolding_all rfl) (hst : (assignEach es X.env).findIdx? (·.1) = none := by with_unfolding_all rfl) : PG X (.Tuple es k pos) (gTup X.K n t) := by
  intro pins s σ H v u Q I r hw
  obtain ⟨a, xs, e1, hq, hl, hw⟩ := hw
  subst e1
  cases r
  obtain ⟨its, rv, ht, hz⟩ := I.tuple hq
  refine assign_Tuple_tuple (I.ok.hd hc) ht (by simp [hn, ← hl, rv.length]) hst fun h' hx => ?_
  have I1 : Inv X pins σ H { s with heap := h' } := I.kept (t' := s.toks) fun b o e => hx b o (Nat.ne_of_lt (Heap.lt_size e)) e
  exact h pins _ σ H xs _ Q I1 (by simpa using rv) hw
noncomputable def gSub (to ti : TE) (t : TSet) : TG := fun v σ H Q => to σ H fun o H1 => ti σ H1 fun i H2 => t o i v H2 fun H3 => Q σ H3
theorem pg_sub {o i : Expr} {to ti : TE} {t : TSet} (ho : PE X o to) (hi : PE X i ti) (hs : PSet X t)
    (ha : ∀ v, assign (.Subscript o i pos) X.env v = (do
      let ov ← holding [v] (eval o X.env)
      let iv ← holding [v, ov] (eval i X.env)
      standAt pos
      holding [v, ov, iv] (setItem ov iv v)
      release [v, ov, iv] []) := by intro _; with_unfolding_all rfl) : PG X (.Subscript o i pos) (gSub to ti t) := by
  intro pins s σ H v u Q I r h
  rw [ha]
  refine wpAny_bind (wpAny_holding (thn (ho pins s σ H _ I h) fun ov s1 ⟨x, H1, I1, r1, q1⟩ => ?_))
  refine wpAny_bind (wpAny_holding (thn (hi pins s1 σ H1 _ I1 q1) fun iv s2 ⟨y, H2, I2, r2, q2⟩ => ?_))
  refine wpAny_bind (wpAny_standAt (wpAny_bind (wpAny_holding (thn (hs pins s2 σ H2 x y v ov iv u _ I2 r1 r2 r q2) fun _ s3 ⟨H3, I3, q3⟩ => ?_))))
  exact wpAny_release ⟨σ, H3, I3, q3⟩
noncomputable def tAsg (te : TE) (g : TG) : TS := fun D σ H => te σ H fun x H1 => g x σ H1 D.nx
theorem ps_asg {tg e : Expr} {te : TE} {g : TG} (he : PE X e te) (hg : PG X tg g) (hs : swapsWithSole [tg] e pos.line X.env = pure false := by with_unfolding_all rfl) (hw : swappedStores [tg] e X.env = pure none := by with_unfolding_all rfl)
    (h1 : (assignEach [tg] X.env).map (·.2) = [assign tg X.env] := by with_unfolding_all rfl) : PS X (.Assign [tg] e pos) (tAsg te g) := by
  intro pins s σ H D I h
  refine wpAny_Assign_stores (thn (he pins s σ H _ I h) fun v s1 ⟨x, H1, I1, r1, q1⟩ => ?_) hs hw
  rw [h1]
  exact thn (hg pins s1 σ H1 x v _ I1 r1 q1) fun _ s2 q => q
theorem ps_set {i : Nat} {x : Str} {e : Expr} {te : TE} {pos' : Pos} (hN : X.N.Nodup) (hi : X.N[i]? = some x) (hx : Loc X.env.scope x) (he : PE X e te) (hs : swapsWith e (some (.Name x pos')) pos.line X.env = pure false := by with_unfolding_all rfl) (hf : X.fn x = true ∨ X.env.scope.names.lookup x = some .local := by with_unfolding_all (first | exact .inl rfl | exact .inr rfl | assumption)) :
    PS X (.Assign [.Name x pos'] e pos) (tAsg te (gName i)) := by
  intro pins s σ H D I h
  refine wpAny_Assign_Name (thn (he pins s σ H _ I h) fun v s1 ⟨y, H1, I1, r1, q1⟩ => ?_) hs
  exact store_ok I1 hN hi hx r1 (fun s2 I2 => ⟨_, H1, I2, q1⟩) hf
end
section
variable {X : Cx} {pos : Pos}
noncomputable def tWhile (c : TT) (tb : TS) : TS := fun D σ H => ∃ W : Nat → St → Hp → Prop, (∃ m, W m σ H) ∧ ∀ m σ H, W m σ H →
  c σ H fun b H1 => if b = true then ∃ N : St → Hp → Prop, (∀ σ' H', N σ' H' → ∃ m', m' < m ∧ W m' σ' H') ∧ tb { D with nx := N, ct := N, bk := D.nx } σ H1 else D.nx σ H1
theorem ps_while {c : Expr} {body : List Stmt} {tc : TT} {tb : TS} (hp : PassesOwn (model X.prog X.w) X.A X.env X.xe) (hc : PT X c tc) (hb : PSs X body tb) : PS X (.While c body [] pos) (tWhile tc tb) := by
  intro pins s σ H D I h
  obtain ⟨W, ⟨m0, w0⟩, turn⟩ := h
  refine wpAny_While (codeAny_whileLoop (fun n s' => ∃ σ' H', Inv X pins σ' H' s' ∧ W n σ' H') ?_ m0 ⟨σ, H, I, w0⟩)
  rintro n s1 ⟨σ1, H1, I1, w1⟩
  refine wpAny_passesOwn hp (thn (hc pins s1 σ1 H1 _ I1 (turn n σ1 H1 w1)) fun b s2 ⟨H2, I2, q2⟩ => ?_)
  cases b with
  | true =>
    obtain ⟨N, hN, q2⟩ := q2
    rw [if_pos rfl]
    refine wpAny_passesOwn hp (thn (hb pins s2 σ1 H2 _ I2 q2) fun f s3 q3 => ?_)
    cases f with
    | next =>
      obtain ⟨σ3, H3, I3, n3⟩ := q3
      obtain ⟨m', hm, w3⟩ := hN σ3 H3 n3
      exact ⟨m', hm, σ3, H3, I3, w3⟩
    | cont =>
      obtain ⟨σ3, H3, I3, n3⟩ := q3
      obtain ⟨m', hm, w3⟩ := hN σ3 H3 n3
      exact ⟨m', hm, σ3, H3, I3, w3⟩
    | brk => exact q3
    | ret v => exact q3
  | false =>
    rw [if_neg Bool.false_ne_true]
    exact wpAny_execs_nil ⟨σ1, H2, I2, q2⟩
end
structure It where
  go : Nat → Hp → Prop
  yld : Nat → Hp → V → Hp → Prop
  stop : Nat → Hp → Prop
noncomputable def FpOk (X : Cx) (pins : List (Addr × Obj)) (H : Hp) (b : Addr) : Prop :=
  H b = none ∧ b ≠ X.env.locals ∧ b ∉ X.fs ∧ (b ∈ X.ex ∨ X.s₀.heap.objs.size ≤ b) ∧ (∀ x c, X.env.cells.lookup x = some c → c ≠ b) ∧ ∀ p ∈ X.pn ++ pins, p.1 ≠ b
theorem Inv.fpOk {X : Cx} {pins : List (Addr × Obj)} {σ : St} {H H' : Hp} {s : Shared} {b : Addr} (I : Inv X pins σ H s) (hb : s.heap.objs.size ≤ b) (hn : H' b = none) : FpOk X pins H' b := by
  refine ⟨hn, Nat.ne_of_gt (Nat.lt_of_lt_of_le I.lt hb), I.nofs hb, .inr (Nat.le_trans I.sz hb), fun x c e z => ?_, fun p hp z => ?_⟩
  · obtain ⟨v, q⟩ := I.cell x c e
    exact absurd (Nat.lt_of_lt_of_le q.lt (by rw [z]; exact hb)) (Nat.lt_irrefl _)
  · exact absurd (Nat.lt_of_lt_of_le (Heap.lt_size (I.pin p hp).1) (by rw [z]; exact hb)) (Nat.lt_irrefl _)
structure Turn (P : Program) (w : World) (K : PySem.W.Frag) (tg : Expr) (J : It) (fp : List Addr) (it : Addr) (tn : Nat → Heap → Prop) : Prop where
  mem : it ∈ fp
  obj : ∀ i h, tn i h → ∀ b ∈ fp, ∃ o, h.get? b = some o ∧ ∀ v, o.data ≠ .cell v
  keep : ∀ i h h', tn i h → (∀ b ∈ fp, ∀ o, h.get? b = some o → h'.get? b = some o) → tn i h'
  item : ∀ (X : Cx), X.prog = P → X.w = w → X.K = K → X.calm = true → ∀ (i : Nat) (pins : List (Addr × Obj)) (s : Shared) (σ : St) (H : Hp) (E : Value → Shared → Prop), Inv X pins σ H s → (∀ b ∈ fp, FpOk X pins H b) → tn i s.heap → J.go i H →
    wpAny (model P w) X.A (pyNext (.ref it)) (fun r s1 => ∃ u, r = some u ∧
      wpAny (model P w) X.A (letOwnedTupleGo tg (.ref it) u) (fun _ s2 => ∃ x H', Inv X pins σ H' s2 ∧ RelV x u ∧ J.yld i H x H' ∧ tn (i + 1) s2.heap ∧ ∀ b ∈ fp, H' b = none) E s1) E s
  done : ∀ (X : Cx), X.prog = P → X.w = w → X.K = K → X.calm = true → ∀ (i : Nat) (pins : List (Addr × Obj)) (s : Shared) (σ : St) (H : Hp) (E : Value → Shared → Prop), Inv X pins σ H s → (∀ b ∈ fp, FpOk X pins H b) → tn i s.heap → J.stop i H →
    wpAny (model P w) X.A (pyNext (.ref it)) (fun r s1 => r = none ∧ Inv X pins σ H s1) E s
  self : ∀ (A : Around) (i : Nat) (s : Shared) (Q : Value → Shared → Prop) (E : Value → Shared → Prop), tn i s.heap → Q (.ref it) s → wpAny (model P w) A (pyIter (.ref it)) Q E s
noncomputable abbrev TI := St → Hp → (It → Hp → Prop) → Prop
noncomputable def PIE (X : Cx) (pins : List (Addr × Obj)) (σ : St) (tg : Expr) (R : It → Hp → Prop) (itv : Value) (s2 : Shared) : Prop :=
  ∃ (it : Addr) (fp : List Addr) (tn : Nat → Heap → Prop) (J : It) (H' : Hp), itv = .ref it ∧ Inv X pins σ H' s2 ∧ Turn X.prog X.w X.K tg J fp it tn ∧ tn 0 s2.heap ∧ (∀ b ∈ fp, FpOk X pins H' b) ∧ R J H'
noncomputable def PI (X : Cx) (tg iter : Expr) (wi : TI) : Prop :=
  ∀ (pins : List (Addr × Obj)) (s : Shared) (σ : St) (H : Hp) (R : It → Hp → Prop), Inv X pins σ H s → wi σ H R →
    wpAny (model X.prog X.w) X.A (eval iter X.env) (fun v s1 => wpAny (model X.prog X.w) X.A (pyIter v) (PIE X pins σ tg R) X.xe s1) X.xe s
theorem go_of {M : Model} {A : Around} {E : Value → Shared → Prop} {s : Shared} {tg : Expr} {it : Addr} {u : Value} {o : Obj} {n : String} {vs : Array Value} {Q : Unit → Shared → Prop} (ho : s.heap.get? it = some o) (hc : o.cls = .type n) (hd : o.data = .fields vs)
    (hn : ["enumerate", "zip", "dict_itemiterator", "dict_reverseitemiterator", "odict_iterator", "itertools.zip_longest", "itertools.pairwise"].contains n = false) (hQ : Q () s) : wpAny M A (letOwnedTupleGo tg (.ref it) u) Q E s := by
  unfold letOwnedTupleGo
  cases tg <;> first
    | exact wpAny_pure hQ
    | (cases u <;> first
        | exact wpAny_pure hQ
        | (refine wpAny_bind (wpAny_load ho ?_)
           rw [hc, hd]
           show wpAny M A (if (["enumerate", "zip", "dict_itemiterator", "dict_reverseitemiterator", "odict_iterator", "itertools.zip_longest", "itertools.pairwise"].contains n && vs[0]? == some (rawInt _)) = true then _ else _) Q E s
           rw [if_neg (by intro h; rw [hn, Bool.false_and] at h; cases h)]
           exact wpAny_pure hQ))
noncomputable def Itl (K : PySem.W.Frag) (a : Addr) : It :=
  ⟨fun i H => ∃ xs x, SqL K H a xs ∧ xs[i]? = some x, fun i H x H' => H' = H ∧ ∀ xs, SqL K H a xs → xs[i]? = some x, fun i H => ∃ xs, SqL K H a xs ∧ xs.length ≤ i⟩
noncomputable def Itt (K : PySem.W.Frag) (a : Addr) : It :=
  ⟨fun i H => ∃ xs x, SqT K H a xs ∧ xs[i]? = some x, fun i H x H' => H' = H ∧ ∀ xs, SqT K H a xs → xs[i]? = some x, fun i H => ∃ xs, SqT K H a xs ∧ xs.length ≤ i⟩
noncomputable def Itr (lo : Int) (n : Nat) : It := ⟨fun i _ => i < n, fun i H x H' => H' = H ∧ x = .int (lo + i), fun i _ => n ≤ i⟩
theorem turn_list {P : Program} {w : World} {K : PySem.W.Frag} {tg : Expr} (a it : Addr) : Turn P w K tg (Itl K a) [it] it (fun i h => h.IsListIter it a i) where
  mem := by simp
  obj := fun i h st b hb => by
    have e : b = it := by simpa using hb
    subst e
    obtain ⟨o, e, c, d⟩ := st
    exact ⟨o, e, fun v z => by rw [d] at z; cases z⟩
  keep := fun i h h' st k => st.at fun o e => k it (by simp) o e
  item := by
    intro X hP hw hK hc i pins s σ H E I hf st hg
    subst hP hw hK
    obtain ⟨xs, x, hq, hx⟩ := hg
    obtain ⟨its, rv, p, hz⟩ := I.list hq
    obtain ⟨u, hu, ru⟩ := rv.get hx
    obtain ⟨f0, f1, f2, f3, f4, f5⟩ := hf it (by simp)
    refine wpAny_pyNext_list_item st p.isList (x := u) (by simpa using hu) fun h' st' sb => ?_
    have I1 : Inv X pins σ H { s with heap := h' } := I.turned (t' := s.toks) (fun b o hb e => (sb.2 b hb).trans e) f0 f1 f3 f4 f5
    obtain ⟨o, e, c, d⟩ := id st'
    exact ⟨u, rfl, go_of (s := { s with heap := h' }) e c d (by decide) ⟨x, H, I1, ru, ⟨rfl, fun ys hy => by rw [I.list_inj hy hq]; exact hx⟩, st', fun b hb => (hf b hb).1⟩⟩
  done := by
    intro X hP hw hK hc i pins s σ H E I hf st hg
    subst hP hw hK
    obtain ⟨xs, hq, hx⟩ := hg
    obtain ⟨its, rv, p, hz⟩ := I.list hq
    obtain ⟨f0, f1, f2, f3, f4, f5⟩ := hf it (by simp)
    have hl := rv.length
    exact wpAny_pyNext_list_end (I.ok.hd hc) st p.isList (by simp; omega) fun h' eb => ⟨rfl, I.turned (t' := s.toks) (fun b o hb e => eb b o hb e) f0 f1 f3 f4 f5⟩
  self := fun _ _ _ _ _ st h => wpAny_pyIter_listiter st h
theorem turn_tuple {P : Program} {w : World} {K : PySem.W.Frag} {tg : Expr} (a it : Addr) : Turn P w K tg (Itt K a) [it] it (fun i h => h.IsTupleIter it a i) where
  mem := by simp
  obj := fun i h st b hb => by
    have e : b = it := by simpa using hb
    subst e
    obtain ⟨o, e, c, d⟩ := st
    exact ⟨o, e, fun v z => by rw [d] at z; cases z⟩
  keep := fun i h h' st k => st.at fun o e => k it (by simp) o e
  item := by
    intro X hP hw hK hc i pins s σ H E I hf st hg
    subst hP hw hK
    obtain ⟨xs, x, hq, hx⟩ := hg
    obtain ⟨its, rv, p, hz⟩ := I.tuple hq
    obtain ⟨u, hu, ru⟩ := rv.get hx
    obtain ⟨f0, f1, f2, f3, f4, f5⟩ := hf it (by simp)
    refine wpAny_pyNext_tuple_item st (show s.heap.IsTuple a its.toArray from p) (x := u) (by simpa using hu) fun h' st' sb => ?_
    have I1 : Inv X pins σ H { s with heap := h' } := I.turned (t' := s.toks) (fun b o hb e => (sb.2 b hb).trans e) f0 f1 f3 f4 f5
    obtain ⟨o, e, c, d⟩ := id st'
    exact ⟨u, rfl, go_of (s := { s with heap := h' }) e c d (by decide) ⟨x, H, I1, ru, ⟨rfl, fun ys hy => by rw [I.tuple_inj hy hq]; exact hx⟩, st', fun b hb => (hf b hb).1⟩⟩
  done := by
    intro X hP hw hK hc i pins s σ H E I hf st hg
    subst hP hw hK
    obtain ⟨xs, hq, hx⟩ := hg
    obtain ⟨its, rv, p, hz⟩ := I.tuple hq
    obtain ⟨f0, f1, f2, f3, f4, f5⟩ := hf it (by simp)
    have hl := rv.length
    exact wpAny_pyNext_tuple_end (I.ok.hd hc) st (show s.heap.IsTuple a its.toArray from p) (by simp; omega) fun h' eb => ⟨rfl, I.turned (t' := s.toks) (fun b o hb e => eb b o hb e) f0 f1 f3 f4 f5⟩
  self := fun _ _ _ _ _ st h => wpAny_pyIter_tupleiter st h
theorem turn_range {P : Program} {w : World} {K : PySem.W.Frag} {tg : Expr} (it : Addr) (lo : Int) (n : Nat) : Turn P w K tg (Itr lo n) [it] it (fun i h => IsRangeIter h it (lo + (i : Nat) * 1) ((n : Int) - (i : Nat)) 1) where
  mem := by simp
  obj := fun i h st b hb => by
    have e : b = it := by simpa using hb
    subst e
    exact ⟨_, st, fun v z => by
      have z' : Data.fields _ = Data.cell v := z
      cases z'⟩
  keep := fun i h h' st k => k it (by simp) _ st
  item := by
    intro X hP hw hK hc i pins s σ H E I hf st hg
    subst hP hw hK
    obtain ⟨f0, f1, f2, f3, f4, f5⟩ := hf it (by simp)
    have W := Walks.range (prog := X.prog) (w := X.w) (I.ok.hd hc) it lo 1 n
    refine W.item i s _ _ hg st fun v h' tk hv st' kk => ?_
    obtain ⟨t, rfl⟩ := hv
    have I1 : Inv X pins σ H { s with heap := h', toks := tk } := I.turned (fun b o hb e => kk b o (by simpa using hb) e) f0 f1 f3 f4 f5
    refine ⟨_, rfl, go_of (s := { s with heap := h', toks := tk }) (n := "range_iterator") st' rfl rfl (by decide) ⟨.int (lo + i), H, I1, ⟨t, ?_⟩, ⟨rfl, rfl⟩, st', fun b hb => (hf b hb).1⟩⟩
    rw [Int.mul_one]
  done := by
    intro X hP hw hK hc i pins s σ H E I hf st hg
    subst hP hw hK
    obtain ⟨f0, f1, f2, f3, f4, f5⟩ := hf it (by simp)
    exact wpAny_pyNext_range_end (I.ok.hd hc) st (by have : n ≤ i := hg; omega) fun h' eb => ⟨rfl, I.turned (t' := s.toks) (fun b o hb e => eb b o hb e) f0 f1 f3 f4 f5⟩
  self := fun _ _ _ _ _ st h => wpAny_pyIter_rangeiter st h
end L2
namespace L2
open PySem PySem.Spec PyProof.Rows
section
variable {X : Cx} {tg : Expr}
theorem range_it {pins : List (Addr × Obj)} {σ : St} {H : Hp} {s : Shared} {R : It → Hp → Prop} {E : Value → Shared → Prop} {lo hi : Int} {t u v : Tok} {tk : Nat} (I : Inv X pins σ H s) (h1 : -(2 ^ 62) ≤ lo) (h2 : lo < 2 ^ 62) (h3 : -(2 ^ 62) ≤ hi) (h4 : hi < 2 ^ 62)
    (q : R (Itr lo (hi - lo).toNat) H) : wpAny (model X.prog X.w) X.A (pyIter (.ref s.heap.objs.size)) (PIE X pins σ tg R) E { s with heap := s.heap.push { cls := .type "range", data := .fields #[.int lo t, .int hi u, .int 1 v] }, toks := tk } := by
  refine wpAny_pyIter_range (IsRange.new ..) (small_one h1 h2 h3 h4) ?_
  have I1 : Inv X pins σ H { s with heap := s.heap.push { cls := .type "range", data := .fields #[.int lo t, .int hi u, .int 1 v] }, toks := tk } := I.kept fun b o e => Heap.get?_push_of_some _ e
  refine ⟨(s.heap.push { cls := .type "range", data := .fields #[.int lo t, .int hi u, .int 1 v] }).objs.size, [(s.heap.push { cls := .type "range", data := .fields #[.int lo t, .int hi u, .int 1 v] }).objs.size], _, _, H, rfl,
    I1.kept (t' := tk) fun b o e => Heap.get?_push_of_some _ e, turn_range _ lo (hi - lo).toNat, ?_, fun b hb => ?_, q⟩
  · have e1 : lo + ((0 : Nat) : Int) * 1 = lo := by simp
    have e2 : (((hi - lo).toNat : Nat) : Int) - ((0 : Nat) : Int) = Builtin.Range.rangeSize lo hi 1 := by rw [rangeSize_one]; split <;> omega
    show IsRangeIter _ _ (lo + ((0 : Nat) : Int) * 1) ((((hi - lo).toNat : Nat) : Int) - ((0 : Nat) : Int)) 1
    rw [e1, e2]
    exact Heap.get?_push_size _ rfl
  · have e : b = (s.heap.push { cls := .type "range", data := .fields #[.int lo t, .int hi u, .int 1 v] }).objs.size := by simpa using hb
    subst e
    exact I1.fpOk (Nat.le_refl _) (I1.hok.fresh (Nat.le_refl _))
noncomputable def iRng1 (ta : TA) : TI := fun σ H R => ta σ H fun vs H1 => ∃ j : Int, vs = [.int j] ∧ -(2 ^ 62) ≤ j ∧ j < 2 ^ 62 ∧ R (Itr 0 j.toNat) H1
noncomputable def iRng2 (ta : TA) : TI := fun σ H R => ta σ H fun vs H1 => ∃ i j : Int, vs = [.int i, .int j] ∧ (-(2 ^ 62) ≤ i ∧ i < 2 ^ 62 ∧ -(2 ^ 62) ≤ j ∧ j < 2 ^ 62) ∧ R (Itr i (j - i).toNat) H1
theorem pi_range1 {a : Expr} {ta : TA} {p pos : Pos} (hg : Gl X "range") (hm : X.mg "range" = none) (ha : PA X [a] ta) (hs : starEach [a] X.env = [(false, eval a X.env)] := by with_unfolding_all rfl) : PI X tg (.Call (.Name "range" p) [a] [] pos) (iRng1 ta) := by
  intro pins s σ H R I h
  refine Call_ (ld_blt I hg hm boot_range (PyProof.Rows.callWith_type1 (thn (ha pos pins s σ H _ I h) fun us s1 ⟨vs, H1, I1, r1, q1⟩ => ?_) hs rfl))
  obtain ⟨j, e, q1, q2, q⟩ := q1
  subst e
  cases r1 with
  | cons r rr =>
    cases rr
    obtain ⟨t, rfl⟩ := r
    exact call_range_1 (range_it I1 (by omega) (by omega) q1 q2 (by simpa using q))
theorem pi_range2 {a b : Expr} {ta : TA} {p pos : Pos} (hg : Gl X "range") (hm : X.mg "range" = none) (ha : PA X [a, b] ta) (hs : starEach [a, b] X.env = [(false, eval a X.env), (false, eval b X.env)] := by with_unfolding_all rfl) (hs2 : starEach [b] X.env = [(false, eval b X.env)] := by with_unfolding_all rfl) :
    PI X tg (.Call (.Name "range" p) [a, b] [] pos) (iRng2 ta) := by
  intro pins s σ H R I h
  refine Call_ (ld_blt I hg hm boot_range (PyProof.Rows.callWith_type1 (thn (ha pos pins s σ H _ I h) fun us s1 ⟨vs, H1, I1, r1, q1⟩ => ?_) (by rw [hs, hs2]) (by rw [hs2]; rfl)))
  obtain ⟨i, j, e, ⟨q1, q2, q3, q4⟩, q⟩ := q1
  subst e
  cases r1 with
  | cons r rr =>
    cases rr with
    | cons r' rr =>
      cases rr
      obtain ⟨t, rfl⟩ := r
      obtain ⟨t', rfl⟩ := r'
      exact call_range_2 (range_it I1 q1 q2 q3 q4 q)
noncomputable def tFor (wi : TI) (g : TG) (tb : TS) : TS := fun D σ H => wi σ H fun J H1 => ∃ W : Nat → Nat → St → Hp → Prop, (∃ m, W 0 m σ H1) ∧ ∀ i m σ H, W i m σ H →
  (J.stop i H ∧ D.nx σ H) ∨ (J.go i H ∧ ∃ N : St → Hp → Prop, (∀ σ' H', N σ' H' → ∃ m', m' < m ∧ W (i + 1) m' σ' H') ∧ ∀ x H', J.yld i H x H' → g x σ H' fun σ2 H2 => tb { D with nx := N, ct := N, bk := D.nx } σ2 H2)
noncomputable def pinsAt (fp : List Addr) (h : Heap) : List (Addr × Obj) := fp.filterMap fun b => (h.get? b).map fun o => (b, o)
theorem mem_pinsAt {fp : List Addr} {h : Heap} {b : Addr} {o : Obj} (hb : b ∈ fp) (e : h.get? b = some o) : (b, o) ∈ pinsAt fp h := List.mem_filterMap.mpr ⟨b, hb, by rw [e]; rfl⟩
theorem of_pinsAt {fp : List Addr} {h : Heap} {p : Addr × Obj} (hp : p ∈ pinsAt fp h) : p.1 ∈ fp ∧ h.get? p.1 = some p.2 := by
  obtain ⟨b, hb, e⟩ := List.mem_filterMap.mp hp
  cases q : h.get? b with
  | none => rw [q] at e; cases e
  | some o =>
    rw [q] at e
    have e' : (b, o) = p := Option.some.inj e
    subst e'
    exact ⟨hb, q⟩
theorem Inv.pinned {pins : List (Addr × Obj)} {σ : St} {H : Hp} {s : Shared} {fp : List Addr} (I : Inv X pins σ H s) (hf : ∀ b ∈ fp, FpOk X pins H b) (ho : ∀ b ∈ fp, ∃ o, s.heap.get? b = some o ∧ ∀ v, o.data ≠ .cell v) : Inv X (pins ++ pinsAt fp s.heap) σ H s :=
  I.pins_of fun p hp => (List.mem_append.mp hp).elim (fun z => I.pin p (List.mem_append_right _ z)) fun z => by
    obtain ⟨hb, e⟩ := of_pinsAt z
    obtain ⟨f0, f1, f2, _⟩ := hf p.1 hb
    obtain ⟨o, e', d⟩ := ho p.1 hb
    rw [e] at e'; cases e'
    exact ⟨e, f0, f1, f2, d⟩
theorem Inv.unpinned {pins pl : List (Addr × Obj)} {σ : St} {H : Hp} {s : Shared} (I : Inv X (pins ++ pl) σ H s) : Inv X pins σ H s := I.pins_of fun p hp => I.pin p (List.mem_append_right _ (List.mem_append_left _ hp))
theorem ps_for {iter : Expr} {body : List Stmt} {wi : TI} {g : TG} {tb : TS} {pos : Pos} (hp : PassesOwn (model X.prog X.w) X.A X.env X.xe) (hc : X.calm = true) (hi : PI X tg iter wi) (hg : PG X tg g) (hb : PSs X body tb)
    (hs : ∀ x, foldedSetIterable iter X.env x = pure x := by intro _; with_unfolding_all rfl) : PS X (.For tg iter body [] pos) (tFor wi g tb) := by
  intro pins s σ H D I h
  refine wpAny_For (thn (hi pins s σ H _ I h) fun v s1 h1 => thn h1 fun itv s2 h2 => ?_) hs
  obtain ⟨it, fp, tn, J, H2, e, I2, T, st2, f2, W, ⟨m0, w0⟩, turn⟩ := h2
  subst e
  -- what stays true of the iterator's objects through the loop
  have stat : ∀ {H' : Hp}, (∀ b ∈ fp, H' b = none) → ∀ b ∈ fp, FpOk X pins H' b := fun hn b hb => ⟨hn b hb, (f2 b hb).2⟩
  refine codeAny_forLoop_any (fun n s' => ∃ i σ' H', Inv X pins σ' H' s' ∧ tn i s'.heap ∧ (∀ b ∈ fp, H' b = none) ∧ W i n σ' H') ?_ m0 ⟨0, σ, H2, I2, st2, fun b hb => (f2 b hb).1, w0⟩
  rintro n s3 ⟨i, σ3, H3, I3, st3, fr3, w3⟩
  rcases turn i n σ3 H3 w3 with ⟨stop, qn⟩ | ⟨go, N, hN, step⟩
  · refine wpAny_passesOwn hp (thn (T.done X rfl rfl rfl hc i pins s3 σ3 H3 X.xe I3 (stat fr3) st3 stop) fun r s4 ⟨hr, I4⟩ => ?_)
    subst hr
    exact wpAny_execs_nil ⟨σ3, H3, I4, qn⟩
  · refine wpAny_passesOwn hp (thn (T.item X rfl rfl rfl hc i pins s3 σ3 H3 X.xe I3 (stat fr3) st3 go) fun r s4 ⟨u, hr, h4⟩ => ?_)
    subst hr
    refine wpAny_passesOwn hp (thn h4 fun _ s5 ⟨x, H5, I5, r5, y5, st5, fr5⟩ => ?_)
    have I5' := I5.pinned (stat fr5) (T.obj _ _ st5)
    refine wpAny_passesOwn hp (thn (hg _ s5 σ3 H5 x u _ I5' r5 (step x H5 y5)) fun _ s6 ⟨σ6, H6, I6, q6⟩ => ?_)
    refine wpAny_passesOwn hp (thn (hb _ s6 σ6 H6 _ I6 q6) fun f s7 q7 => ?_)
    have again : ∀ {σ7 : St} {H7 : Hp}, Inv X (pins ++ pinsAt fp s5.heap) σ7 H7 s7 → N σ7 H7 → ∃ m, m < n ∧ ∃ i σ' H', Inv X pins σ' H' s7 ∧ tn i s7.heap ∧ (∀ b ∈ fp, H' b = none) ∧ W i m σ' H' := fun {σ7 H7} I7 n7 => by
      obtain ⟨m', hm, w7⟩ := hN σ7 H7 n7
      refine ⟨m', hm, i + 1, σ7, H7, I7.unpinned, T.keep _ _ _ st5 fun b hb o e => (I7.pin (b, o) (List.mem_append_right _ (List.mem_append_right _ (mem_pinsAt hb e)))).1, fun b hb => ?_, w7⟩
      obtain ⟨o, e, d⟩ := T.obj _ _ st5 b hb
      exact (I7.pin (b, o) (List.mem_append_right _ (List.mem_append_right _ (mem_pinsAt hb e)))).2.1
    cases f with
    | next => obtain ⟨σ7, H7, I7, n7⟩ := q7; exact again I7 n7
    | cont => obtain ⟨σ7, H7, I7, n7⟩ := q7; exact again I7 n7
    | brk => obtain ⟨σ7, H7, I7, q7⟩ := q7; exact ⟨σ7, H7, I7.unpinned, q7⟩
    | ret v => obtain ⟨x7, σ7, H7, I7, r7, q7⟩ := q7; exact ⟨x7, σ7, H7, I7.unpinned, r7, q7⟩
end
end L2
namespace L2
open PySem PySem.Spec PyProof.Rows
noncomputable abbrev R2 := V → V → Hp → VK → Prop
noncomputable def OpR (X : Cx) (f : Value → Value → Sem Value) (r : R2) : Prop :=
  ∀ (pins : List (Addr × Obj)) (s : Shared) (σ : St) (H : Hp) (x y : V) (v u : Value) (Q : VK), Inv X pins σ H s → RelV x v → RelV y u → r x y H Q →
    wpAny (model X.prog X.w) X.A (f v u) (EP X pins σ Q) X.xe s
noncomputable def UnR (X : Cx) (f : Value → Sem Value) (r : V → Hp → VK → Prop) : Prop :=
  ∀ (pins : List (Addr × Obj)) (s : Shared) (σ : St) (H : Hp) (x : V) (v : Value) (Q : VK), Inv X pins σ H s → RelV x v → r x H Q →
    wpAny (model X.prog X.w) X.A (f v) (EP X pins σ Q) X.xe s
noncomputable def CallR (X : Cx) (f : Value) (r : List V → Hp → VK → Prop) : Prop :=
  ∀ (pins : List (Addr × Obj)) (s : Shared) (σ : St) (H : Hp) (xs : List V) (us : List Value) (Q : VK), Inv X pins σ H s → Vals xs us → r xs H Q →
    wpAny (model X.prog X.w) X.A (call f us) (EP X pins σ Q) X.xe s
noncomputable def tOp (r : R2) (ta tb : TE) : TE := fun σ H Q => ta σ H fun x H1 => tb σ H1 fun y H2 => r x y H2 Q
noncomputable def tUn (r : V → Hp → VK → Prop) (ta : TE) : TE := fun σ H Q => ta σ H fun x H1 => r x H1 Q
noncomputable def rI (C : Int → Int → Prop) (g : Int → Int → V) : R2 := fun x y H Q => ∃ i j, x = .int i ∧ y = .int j ∧ C i j ∧ Q (g i j) H
noncomputable def rI0 (g : Int → Int → V) : R2 := fun x y H Q => ∃ i j, x = .int i ∧ y = .int j ∧ Q (g i j) H
noncomputable def rU (g : Int → V) : V → Hp → VK → Prop := fun x H Q => ∃ i, x = .int i ∧ Q (g i) H
section
variable {X : Cx} {a b c : Expr} {ta tb tc : TE} {pos : Pos}
theorem binT (ha : PE X a ta) (hb : PE X b tb) {pins : List (Addr × Obj)} {s : Shared} {σ : St} {H : Hp} {R : V → V → Hp → Prop} (I : Inv X pins σ H s)
    (h : ta σ H fun x H1 => tb σ H1 fun y H2 => R x y H2) {Q : Value → Shared → Prop} {f : Value → Value → Sem Value}
    (hf : ∀ v u s2 x y H2, Inv X pins σ H2 s2 → RelV x v → RelV y u → R x y H2 → wpAny (model X.prog X.w) X.A (f v u) Q X.xe s2) :
    wpAny (model X.prog X.w) X.A (eval a X.env) (fun v s₁ => wpAny (model X.prog X.w) X.A (eval b X.env) (fun u s₂ => wpAny (model X.prog X.w) X.A (f v u) Q X.xe s₂) X.xe s₁) X.xe s := by
  refine thn (ha pins s σ H _ I h) fun v s1 ⟨x, H1, I1, r1, q1⟩ => ?_
  refine thn (hb pins s1 σ H1 _ I1 q1) fun u s2 ⟨y, H2, I2, r2, q2⟩ => ?_
  exact hf v u s2 x y H2 I2 r1 r2 q2
theorem pe_op {op : Operator} {r : R2} (ho : OpR X (binaryOp op) r) (ha : PE X a ta) (hb : PE X b tb) : PE X (.BinOp a op b pos) (tOp r ta tb) := by
  intro pins s σ H Q I h
  exact wpAny_BinOp (binT ha hb I h fun v u s2 x y H2 I2 rx ry q => ho pins s2 σ H2 x y v u Q I2 rx ry q)
theorem pe_un {op : UnaryOp} {r : V → Hp → VK → Prop} (ho : UnR X (unaryOp op) r) (ha : PE X a ta) : PE X (.UnaryOp op a pos) (tUn r ta) := by
  intro pins s σ H Q I h
  exact UnaryOp_ (thn (ha pins s σ H _ I h) fun v s1 ⟨x, H1, I1, r1, q1⟩ => ho pins s1 σ H1 x v Q I1 r1 q1)
theorem opI {f : Value → Value → Sem Value} {C : Int → Int → Prop} {g : Int → Int → Int}
    (rule : ∀ (i j : Int) (t u : Tok) (s : Shared) (Q : Value → Shared → Prop) (E : Value → Shared → Prop), C i j → Q (.int (g i j) s.toks) { s with toks := s.toks + 1 } → wpAny (model X.prog X.w) X.A (f (.int i t) (.int j u)) Q E s) :
    OpR X f (rI C fun i j => .int (g i j)) := by
  intro pins s σ H x y v u Q I rx ry h
  obtain ⟨i, j, rfl, rfl, hc, q⟩ := h
  obtain ⟨t, rfl⟩ := rx
  obtain ⟨t', rfl⟩ := ry
  exact rule i j t t' s _ _ hc ⟨.int (g i j), H, I.tok _, ⟨_, rfl⟩, q⟩
theorem opI0 {f : Value → Value → Sem Value} {g : Int → Int → Int}
    (rule : ∀ (i j : Int) (t u : Tok) (s : Shared) (Q : Value → Shared → Prop) (E : Value → Shared → Prop), Q (.int (g i j) s.toks) { s with toks := s.toks + 1 } → wpAny (model X.prog X.w) X.A (f (.int i t) (.int j u)) Q E s) :
    OpR X f (rI0 fun i j => .int (g i j)) := by
  intro pins s σ H x y v u Q I rx ry h
  obtain ⟨i, j, rfl, rfl, q⟩ := h
  obtain ⟨t, rfl⟩ := rx
  obtain ⟨t', rfl⟩ := ry
  exact rule i j t t' s _ _ ⟨.int (g i j), H, I.tok _, ⟨_, rfl⟩, q⟩
theorem opB0 {f : Value → Value → Sem Value} {g : Int → Int → Bool}
    (rule : ∀ (i j : Int) (t u : Tok) (s : Shared) (Q : Value → Shared → Prop) (E : Value → Shared → Prop), Q (.bool (g i j)) s → wpAny (model X.prog X.w) X.A (f (.int i t) (.int j u)) Q E s) :
    OpR X f (rI0 fun i j => .bl (g i j)) := by
  intro pins s σ H x y v u Q I rx ry h
  obtain ⟨i, j, rfl, rfl, q⟩ := h
  obtain ⟨t, rfl⟩ := rx
  obtain ⟨t', rfl⟩ := ry
  exact rule i j t t' s _ _ ⟨.bl (g i j), H, I, rfl, q⟩
noncomputable def CDiv (i j : Int) : Prop := 0 < j ∧ j < 1073741824
noncomputable def CPow (i j : Int) : Prop := 0 ≤ j ∧ j ≤ 1000000 ∧ i.natAbs < 2 ^ 64
noncomputable def CMul (i j : Int) : Prop := (-(2 ^ 64) < i ∧ i < 2 ^ 64) ∨ (-(2 ^ 64) < j ∧ j < 2 ^ 64)
theorem CMul.ok {i j : Int} (h : CMul i j) : IntMulOk i j := by
  rcases h with ⟨h1, h2⟩ | ⟨h1, h2⟩
  · exact .of_left (intBits_le_64 h1 h2)
  · exact .of_right (intBits_le_64 h1 h2)
theorem op_add : OpR X (binaryOp .Add) (rI0 fun i j => .int (i + j)) := opI0 fun _ _ _ _ _ _ _ q => add_int q
theorem op_sub : OpR X (binaryOp .Sub) (rI0 fun i j => .int (i - j)) := opI0 fun _ _ _ _ _ _ _ q => sub_int q
theorem op_mul : OpR X (binaryOp .Mult) (rI CMul fun i j => .int (i * j)) := opI fun _ _ _ _ _ _ _ hc q => mul_int q hc.ok
theorem op_fdiv : OpR X (binaryOp .FloorDiv) (rI CDiv fun i j => .int (i / j)) := opI fun i j _ _ _ _ _ hc q => by
  have h1 : (0 : Int) < j := hc.1
  have h2 : j < 1073741824 := hc.2
  exact floordiv_int (by omega) (by rw [Int.fdiv_eq_ediv_of_nonneg i (by omega)]; exact q) (.inl (PyProof.noPylong_small (by omega)))
theorem op_mod : OpR X (binaryOp .Mod) (rI (fun _ j => 0 < j) fun i j => .int (i % j)) := opI fun i j _ _ _ _ _ hc q => by
  have h1 : (0 : Int) < j := hc
  exact mod_int' (by omega) (by rw [Int.fmod_eq_emod_of_nonneg i (by omega)]; exact q)
theorem op_pow : OpR X (binaryOp .Pow) (rI CPow fun i j => .int (i ^ j.toNat)) := opI fun _ _ _ _ _ _ _ hc q => pow_int_small hc.1 hc.2.1 hc.2.2 q
theorem unI {f : Value → Sem Value} {g : Int → Int}
    (rule : ∀ (i : Int) (t : Tok) (s : Shared) (Q : Value → Shared → Prop) (E : Value → Shared → Prop), Q (.int (g i) s.toks) { s with toks := s.toks + 1 } → wpAny (model X.prog X.w) X.A (f (.int i t)) Q E s) :
    UnR X f (rU fun i => .int (g i)) := by
  intro pins s σ H x v Q I rx h
  obtain ⟨i, rfl, q⟩ := h
  obtain ⟨t, rfl⟩ := rx
  exact rule i t s _ _ ⟨.int (g i), H, I.tok _, ⟨_, rfl⟩, q⟩
theorem un_neg : UnR X (unaryOp .USub) (rU fun i => .int (-i)) := unI fun _ _ _ _ _ q => neg_int q
end
noncomputable def scal : V → V → Bool
  | .non, .non => true | .non, .int _ => true | .int _, .non => true | .non, .bl _ => true | .bl _, .non => true | .non, .str _ => true | .str _, .non => true
  | .int _, .int _ => true | .bl _, .bl _ => true | .str _, .str _ => true | .byt _, .byt _ => true
  | .int _, .str _ => true | .str _, .int _ => true | .bl _, .str _ => true | .str _, .bl _ => true
  | _, _ => false
noncomputable def rEq : R2 := fun x y H Q => scal x y = true ∧ Q (.bl (decide (x = y))) H
noncomputable def rNe : R2 := fun x y H Q => scal x y = true ∧ Q (.bl (!decide (x = y))) H
theorem dec_int {i j : Int} : decide (V.int i = V.int j) = (i == j) := by
  rw [Bool.eq_iff_iff]
  simp
theorem dec_bl {i j : Bool} : decide (V.bl i = V.bl j) = (i == j) := by
  rw [Bool.eq_iff_iff]
  simp
theorem dec_str {i j : Str} : decide (V.str i = V.str j) = (i == j) := by
  rw [Bool.eq_iff_iff]
  simp
theorem dec_byt {i j : Array UInt8} : decide (V.byt i = V.byt j) = (i.toList == j.toList) := by
  rw [Bool.eq_iff_iff]
  cases i
  cases j
  simp
section
variable {X : Cx} {a b c : Expr} {ta tb tc : TE} {pos : Pos}
theorem fin_bl {pins : List (Addr × Obj)} {σ : St} {H : Hp} {s : Shared} {Q : VK} {k k' : Bool} (I : Inv X pins σ H s) (q : Q (.bl k) H) (e : k = k') : EP X pins σ Q (.bool k') s := by
  subst e
  exact ⟨.bl k, H, I, rfl, q⟩
theorem op_eq : OpR X (compareOp .Eq) rEq := by
  intro pins s σ H x y v u Q I rx ry h
  obtain ⟨hs, q⟩ := h
  cases x with
  | non =>
    cases rx
    cases y with
    | non => cases ry; exact PySem.EqNone.eq_none_none (fin_bl I q (by simp))
    | bl j => cases ry; exact PySem.EqNone.eq_none_bool (fin_bl I q (by simp))
    | int j => obtain ⟨t', rfl⟩ := ry; exact PySem.EqNone.eq_none_int (fin_bl I q (by simp))
    | str j => obtain ⟨t', rfl⟩ := ry; exact PySem.EqNone.eq_none_str (fin_bl I q (by simp))
    | _ => exact absurd (show false = true from hs) Bool.false_ne_true
  | bl i =>
    cases rx
    cases y with
    | non => cases ry; exact PySem.EqNone.eq_bool_none (fin_bl I q (by simp))
    | bl j => cases ry; exact eq_bool (fin_bl I q dec_bl)
    | str j => obtain ⟨t', rfl⟩ := ry; exact PySem.EqMixed.eq_bool_str (fin_bl I q (by simp))
    | _ => exact absurd (show false = true from hs) Bool.false_ne_true
  | int i =>
    obtain ⟨t, rfl⟩ := rx
    cases y with
    | non => cases ry; exact PySem.EqNone.eq_int_none (fin_bl I q (by simp))
    | int j => obtain ⟨t', rfl⟩ := ry; exact eq_int (fin_bl I q dec_int)
    | str j => obtain ⟨t', rfl⟩ := ry; exact PySem.EqMixed.eq_int_str (fin_bl I q (by simp))
    | _ => exact absurd (show false = true from hs) Bool.false_ne_true
  | str i =>
    obtain ⟨t, rfl⟩ := rx
    cases y with
    | non => cases ry; exact PySem.EqNone.eq_str_none (fin_bl I q (by simp))
    | bl j => cases ry; exact PySem.EqMixed.eq_str_bool (fin_bl I q (by simp))
    | int j => obtain ⟨t', rfl⟩ := ry; exact PySem.EqMixed.eq_str_int (fin_bl I q (by simp))
    | str j => obtain ⟨t', rfl⟩ := ry; exact eq_str (fin_bl I q dec_str)
    | _ => exact absurd (show false = true from hs) Bool.false_ne_true
  | byt i =>
    obtain ⟨t, rfl⟩ := rx
    cases y with
    | byt j => obtain ⟨t', rfl⟩ := ry; exact PySem.W.eq_bytes (fin_bl I q dec_byt)
    | _ => exact absurd (show false = true from hs) Bool.false_ne_true
  | _ => cases y <;> exact absurd (show false = true from hs) Bool.false_ne_true
theorem op_ne : OpR X (compareOp .NotEq) rNe := by
  intro pins s σ H x y v u Q I rx ry h
  obtain ⟨hs, q⟩ := h
  cases x with
  | non =>
    cases rx
    cases y with
    | non => cases ry; exact PySem.EqNone.ne_none_none (fin_bl I q (by simp))
    | bl j => cases ry; exact PySem.EqNone.ne_none_bool (fin_bl I q (by simp))
    | int j => obtain ⟨t', rfl⟩ := ry; exact PySem.EqNone.ne_none_int (fin_bl I q (by simp))
    | str j => obtain ⟨t', rfl⟩ := ry; exact PySem.EqNone.ne_none_str (fin_bl I q (by simp))
    | _ => exact absurd (show false = true from hs) Bool.false_ne_true
  | bl i =>
    cases rx
    cases y with
    | non => cases ry; exact PySem.EqNone.ne_bool_none (fin_bl I q (by simp))
    | bl j => cases ry; exact ne_bool (fin_bl I q (congrArg not dec_bl))
    | str j => obtain ⟨t', rfl⟩ := ry; exact PySem.EqMixed.ne_bool_str (fin_bl I q (by simp))
    | _ => exact absurd (show false = true from hs) Bool.false_ne_true
  | int i =>
    obtain ⟨t, rfl⟩ := rx
    cases y with
    | non => cases ry; exact PySem.EqNone.ne_int_none (fin_bl I q (by simp))
    | int j => obtain ⟨t', rfl⟩ := ry; exact ne_int (fin_bl I q (congrArg not dec_int))
    | str j => obtain ⟨t', rfl⟩ := ry; exact PySem.EqMixed.ne_int_str (fin_bl I q (by simp))
    | _ => exact absurd (show false = true from hs) Bool.false_ne_true
  | str i =>
    obtain ⟨t, rfl⟩ := rx
    cases y with
    | non => cases ry; exact PySem.EqNone.ne_str_none (fin_bl I q (by simp))
    | bl j => cases ry; exact PySem.EqMixed.ne_str_bool (fin_bl I q (by simp))
    | int j => obtain ⟨t', rfl⟩ := ry; exact PySem.EqMixed.ne_str_int (fin_bl I q (by simp))
    | str j => obtain ⟨t', rfl⟩ := ry; exact ne_str (fin_bl I q (congrArg not dec_str))
    | _ => exact absurd (show false = true from hs) Bool.false_ne_true
  | byt i =>
    obtain ⟨t, rfl⟩ := rx
    cases y with
    | byt j => obtain ⟨t', rfl⟩ := ry; exact PySem.W.ne_bytes (fin_bl I q (congrArg not dec_byt))
    | _ => exact absurd (show false = true from hs) Bool.false_ne_true
  | _ => cases y <;> exact absurd (show false = true from hs) Bool.false_ne_true
theorem op_lt : OpR X (compareOp .Lt) (rI0 fun i j => .bl (decide (i < j))) := opB0 fun _ _ _ _ _ _ _ q => lt_int q
theorem op_gt : OpR X (compareOp .Gt) (rI0 fun i j => .bl (decide (j < i))) := opB0 fun _ _ _ _ _ _ _ q => gt_int q
theorem op_in_str : OpR X (compareOp .In) (fun x y H Q => ∃ i j, x = .str i ∧ y = .str j ∧ Q (.bl (!(Builtin.Str.occurrences j i 0 j.length 1).isEmpty)) H) := by
  intro pins s σ H x y v u Q I rx ry h
  obtain ⟨i, j, rfl, rfl, q⟩ := h
  obtain ⟨t, rfl⟩ := rx
  obtain ⟨t', rfl⟩ := ry
  exact in_str (fin_bl I q rfl)
theorem OpR.or {f : Value → Value → Sem Value} {r r' : R2} (h : OpR X f r) (h' : OpR X f r') : OpR X f (fun x y H Q => r x y H Q ∨ r' x y H Q) := by
  intro pins s σ H x y v u Q I rx ry q
  rcases q with q | q
  · exact h pins s σ H x y v u Q I rx ry q
  · exact h' pins s σ H x y v u Q I rx ry q
theorem nomark (b : Expr) {op : CmpOp} (h : op ≠ .In := by decide) (h2 : op ≠ .NotIn := by decide) : behindInMarks op b = false := by
  have e1 : (op == CmpOp.In) = false := by cases op <;> first | rfl | exact absurd rfl h
  have e2 : (op == CmpOp.NotIn) = false := by cases op <;> first | rfl | exact absurd rfl h2
  cases b <;> simp [behindInMarks, e1, e2]
theorem pe_cmpR {op : CmpOp} {r : R2} (ho : OpR X (compareOp op) r) (ha : PE X a ta) (hb : PE X b tb) (hm : behindInMarks op b = false) : PE X (.Compare a [op] [b] pos) (tOp r ta tb) := by
  intro pins s σ H Q I h
  exact wpAny_Compare1 (binT ha hb I h fun v u s2 x y H2 I2 rx ry q => ho pins s2 σ H2 x y v u Q I2 rx ry q) hm
noncomputable def tTest (t : TE) : TT := fun σ H Q => t σ H fun x H' => ∃ k, x = .bl k ∧ Q k H'
theorem pt_cmpR {op : CmpOp} {r : R2} (ho : OpR X (compareOp op) r) (ha : PE X a ta) (hb : PE X b tb) (hm : behindInMarks op b = false) : PT X (.Compare a [op] [b] pos) (tTest (tOp r ta tb)) := by
  intro pins s σ H Q I h
  refine wpAny_isTrue_Compare1 (thn (ha pins s σ H _ I h) fun v s1 ⟨x, H1, I1, r1, q1⟩ => thn (hb pins s1 σ H1 _ I1 q1) fun u s2 ⟨y, H2, I2, r2, q2⟩ =>
    thn (ho pins s2 σ H2 x y v u _ I2 r1 r2 q2) fun c s3 ⟨z, H3, I3, r3, k, e, q3⟩ => ?_) hm
  subst e
  cases r3
  exact wpAny_truthy_bool ⟨H3, I3, q3⟩
theorem line63 : (sizeLine : Nat) < 2 ^ 63 := by rw [sizeLine_eq]; decide
theorem op_add_str : OpR X (binaryOp .Add) (fun x y H Q => ∃ i j, x = .str i ∧ y = .str j ∧ i.length + j.length ≤ sizeLine ∧ Q (.str (i ++ j)) H) := by
  intro pins s σ H x y v u Q I rx ry h
  obtain ⟨i, j, rfl, rfl, hz, q⟩ := h
  obtain ⟨t, rfl⟩ := rx
  obtain ⟨t', rfl⟩ := ry
  exact add_str (fun t' tk => ⟨.str (i ++ j), H, I.tok _, ⟨_, rfl⟩, q⟩) hz
theorem vals1 {x : V} {us : List Value} (r : Vals [x] us) : ∃ u, us = [u] ∧ RelV x u := by
  cases r with
  | cons r1 r2 => cases r2; exact ⟨_, rfl, r1⟩
theorem vals2 {x y : V} {us : List Value} (r : Vals [x, y] us) : ∃ u w', us = [u, w'] ∧ RelV x u ∧ RelV y w' := by
  cases r with
  | cons r1 r2 =>
    cases r2 with
    | cons r3 r4 => cases r4; exact ⟨_, _, rfl, r1, r3⟩
theorem call_int1 : CallR X (.type "int") (fun xs H Q => (∃ i, xs = [.int i] ∧ Q (.int i) H) ∨ ∃ k, xs = [.bl k] ∧ Q (.int (if k then 1 else 0)) H) := by
  intro pins s σ H xs us Q I r h
  rcases h with ⟨i, rfl, q⟩ | ⟨k, rfl, q⟩
  · obtain ⟨u, rfl, t, rfl⟩ := vals1 r
    exact call_int_int ⟨.int i, H, I, ⟨_, rfl⟩, q⟩
  · obtain ⟨u, rfl, r1⟩ := vals1 r
    cases r1
    exact call_int_bool ⟨.int (if k then 1 else 0), H, I.tok _, ⟨_, rfl⟩, q⟩
noncomputable def LenV (K : PySem.W.Frag) (x : V) (H : Hp) (n : Nat) : Prop :=
  match x with
  | .str y => y.length ≤ sizeLine ∧ n = y.length
  | .byt y => y.size ≤ sizeLine ∧ n = y.size
  | .ref p => (∃ xs, SqL K H p xs ∧ n = xs.length) ∨ ∃ xs, SqT K H p xs ∧ n = xs.length
  | _ => False
theorem call_len : CallR X (.builtin "len") (fun xs H Q => ∃ x n, xs = [x] ∧ LenV X.K x H n ∧ Q (.int n) H) := by
  intro pins s σ H xs us Q I r h
  obtain ⟨x, n, rfl, e, q⟩ := h
  obtain ⟨u, rfl, rx⟩ := vals1 r
  have hl := line63
  have hs : sizeLine = 16777216 := sizeLine_eq
  cases x with
  | str y =>
    obtain ⟨t, rfl⟩ := rx
    obtain ⟨hy, e'⟩ : y.length ≤ sizeLine ∧ n = y.length := e
    subst e'
    exact len_str (by omega) ⟨.int _, H, I.tok _, ⟨_, rfl⟩, q⟩
  | byt y =>
    obtain ⟨t, rfl⟩ := rx
    obtain ⟨hy, e'⟩ : y.size ≤ sizeLine ∧ n = y.size := e
    subst e'
    exact PySem.W.len_bytes (by omega) ⟨.int _, H, I.tok _, ⟨_, rfl⟩, q⟩
  | ref p =>
    cases rx
    have e' : (∃ xs, SqL X.K H p xs ∧ n = xs.length) ∨ ∃ xs, SqT X.K H p xs ∧ n = xs.length := e
    rcases e' with ⟨xs, hx, e'⟩ | ⟨xs, hx, e'⟩
    · subst e'
      obtain ⟨its, r', pl, hz⟩ := I.list hx
      have hlen := r'.length
      exact Calls.call_len_list pl.isList (by simp only [List.size_toArray]; omega) ⟨.int xs.length, H, I.tok _, ⟨_, by simp only [List.size_toArray]; rw [hlen]⟩, q⟩
    · subst e'
      obtain ⟨its, r', pl, hz⟩ := I.tuple hx
      have hlen := r'.length
      exact len_tuple pl (by simp only [List.size_toArray]; omega) ⟨.int xs.length, H, I.tok _, ⟨_, by simp only [List.size_toArray]; rw [hlen]⟩, q⟩
  | _ => exact (show False from e).elim
end
end L2
namespace L2
open PySem PySem.Spec PyProof.Rows
structure ObjM (h : Heap) (x dx C : Addr) (mA : Str → Option Value) : Prop where
  obj : h.get? x = some (PySem.W.instObj C dx)
  ns : h.Ns1 dx mA
  ne : dx ≠ x
theorem lookIn_ns {h : Heap} {dx : Addr} {mA : Str → Option Value} (n : h.Ns1 dx mA) : ∃ od, h.get? dx = some od ∧ ∀ name, PySem.W.lookIn name od = some (mA name) := by
  obtain ⟨o, es, ep, ho, hd, hk, _, hm⟩ := n
  refine ⟨o, ho, fun name => ?_⟩
  have e := hm name
  unfold nsFind findBy at e
  rw [← Array.find?_toList] at e
  unfold PySem.W.lookIn
  rw [hd]
  dsimp only
  split
  · rename_i y q
    rw [q] at e
    exact congrArg some e
  · rename_i q
    rw [q] at e
    have a : es.toList.any (·.refKey) = false := by
      rw [List.any_eq_false]
      intro y hy
      obtain ⟨z, t, hkey⟩ := hk y (Array.mem_toList_iff.mp hy)
      simp [DictEntry.refKey, hkey]
    have a' : ¬ es.toList.any (·.refKey) = true := by rw [a]; exact Bool.false_ne_true
    rw [if_neg a']
    exact congrArg some e
theorem ObjM.look {h : Heap} {x dx C : Addr} {mA : Str → Option Value} (I : ObjM h x dx C mA) : ∃ od, PySem.W.InstAt h x (PySem.W.instObj C dx) C (some od) ∧ ∀ name, PySem.W.lookIn name od = some (mA name) :=
  let ⟨od, ho, hl⟩ := lookIn_ns I.ns
  ⟨od, ⟨I.obj, rfl, rfl, ho⟩, hl⟩
section
variable {prog : Program} {w : World} {A : Around} {E : Value → Shared → Prop} {s : Shared} {K : PySem.W.Frag} {x dx C f : Addr} {mA : Str → Option Value} {name : Str} {v : Value}
end
theorem RelO.some_of {v : V} {o : Option Value} (r : RelO (some v) o) : ∃ u, o = some u ∧ RelV v u := by
  cases o with
  | none => exact (show False from r).elim
  | some u => exact ⟨u, rfl, r⟩
section
variable {P : Program} {w : World} {H H' : Hp} {h h' : Heap} {a C dx : Addr} {fs fs' : List (Str × V)}
theorem ins_get (hok : HOk P w H h) (e : H a = some (.ins C dx fs)) : ∃ mA, ObjM h a dx C mA ∧ (∀ f, RelO (fs.lookup f) (mA f)) ∧ PySem.Within mA (fs.map (·.1)) ∧ fs.length ≤ 1000 ∧ H dx = some (.own a) := by
  obtain ⟨d, z, ne, ob, mA, n, r, q⟩ := (show ObjOk P w H h a (.ins C dx fs) from hok a _ e)
  exact ⟨mA, ⟨ob, n, ne⟩, r, q, z, d⟩
end
structure Cls (K : PySem.W.Frag) (C : Addr) : Prop where
  pg : PySem.W.plainGet K C Str.empty = true
  hd : PySem.W.hasDictIn K C = true
  po : PySem.W.plainOver K C = true
  sa : PySem.W.findIn K (.ref C) "__setattr__" = some (some (.builtin "object.__setattr__"))
theorem Cls.get {K : PySem.W.Frag} {C : Addr} (c : Cls K C) (f : Str) : PySem.W.plainGet K C f = true := c.pg
section
variable {X : Cx} {pins : List (Addr × Obj)} {σ : St} {H : Hp} {s : Shared} {a C dx : Addr} {fs : List (Str × V)} {f : Str} {v : V} {A : Around} {E : Value → Shared → Prop}
end
section
variable {X : Cx} {o e value : Expr} {f : Str} {pos pos' tpos : Pos} {ta tv : TE}
end
section
variable {X : Cx} {pins : List (Addr × Obj)} {σ : St} {H : Hp} {s : Shared} {A : Around} {E : Value → Shared → Prop} {Q : Value → Shared → Prop} {c : Value} {b : Bool}
inductive TyOf (K : PySem.W.Frag) (H : Hp) : V → Value → Prop where
  | non : TyOf K H .non (.type "NoneType")
  | bl (x : Bool) : TyOf K H (.bl x) (.type "bool")
  | int (i : Int) : TyOf K H (.int i) (.type "int")
  | str (x : Str) : TyOf K H (.str x) (.type "str")
  | flt (x : UInt64) : TyOf K H (.flt x) (.type "float")
  | lst {a : Addr} {xs : List V} (e : H a = some (.lst xs)) : TyOf K H (.ref a) (.type "list")
  | frz {a : Addr} {o : Obj} {xs : List V} (e : H a = some (.frz o (.lst xs))) : TyOf K H (.ref a) (.type "list")
  | tup {a : Addr} {xs : List V} (e : H a = some (.tup xs)) : TyOf K H (.ref a) (.type "tuple")
  | dK {a : Addr} {kvs : List (Key × V)} (e : H a = some (.dK kvs)) : TyOf K H (.ref a) (.type "dict")
  | dT {a : Addr} {kvs : List (List Key × V)} (e : H a = some (.dT kvs)) : TyOf K H (.ref a) (.type "dict")
  | ins {a C dx : Addr} {fs : List (Str × V)} (e : H a = some (.ins C dx fs)) (cl : Cls K C) (ha : PySem.W.findIn K (.ref C) "__class__" = some (some (.builtin "object.__class__")))
      (hn : PySem.W.specialIn K (.builtin "object.__class__") "__get__" = some (some (.builtin "getset_descriptor.__get__"))) (htk : PySem.W.takesIn K (.builtin "object.__class__") = some true)
      (hm : PySem.W.mroIn K C (.type "object") = some true) : TyOf K H (.ref a) (.ref C)
theorem isinst_ok {x : V} {u t : Value} (I : Inv X pins σ H s) (rx : RelV x u) (ty : TyOf X.K H x t) (e : PySem.W.kitOne X.K t c = some b) (h : ∀ tk, Q (.bool b) { s with toks := tk }) :
    wpAny (model X.prog X.w) A (call (.builtin "isinstance") [u, c]) Q E s := by
  cases ty with
  | non => cases (show u = Value.none from rx); exact PySem.W.kia_one PySem.W.kitx_none I.kIn True.intro e (fun z => nomatch z) h
  | bl y => cases (show u = Value.bool y from rx); exact PySem.W.kia_one PySem.W.kitx_bool I.kIn True.intro e (fun z => nomatch z) h
  | int i => obtain ⟨t, q⟩ := (show ∃ t, u = Value.int i t from rx); cases q; exact PySem.W.kia_one PySem.W.kitx_int I.kIn True.intro e (fun z => nomatch z) h
  | str y => obtain ⟨t, q⟩ := (show ∃ t, u = Value.str y t from rx); cases q; exact PySem.W.kia_one PySem.W.kitx_str I.kIn True.intro e (fun z => nomatch z) h
  | flt y => obtain ⟨t, q⟩ := (show ∃ t, u = Value.float y t from rx); cases q; exact PySem.W.kia_one PySem.W.kitx_float I.kIn True.intro e (fun z => nomatch z) h
  | @lst a xs ea =>
    cases (show u = Value.ref a from rx)
    obtain ⟨_, _, n, _, h1⟩ := (show ObjOk X.prog X.w H s.heap a (.lst xs) from I.hok a _ ea)
    exact PySem.W.kia_one PySem.W.kitx_list I.kIn ⟨_, h1, rfl⟩ e (fun z => nomatch z) h
  | @frz a ob xs ea =>
    cases (show u = Value.ref a from rx)
    obtain ⟨_, _, _, n, _, h1⟩ := (show ObjOk X.prog X.w H s.heap a (.frz ob (.lst xs)) from I.hok a _ ea)
    exact PySem.W.kia_one PySem.W.kitx_list I.kIn ⟨_, h1, rfl⟩ e (fun z => nomatch z) h
  | @tup a xs ea =>
    cases (show u = Value.ref a from rx)
    obtain ⟨_, _, _, p⟩ := (show ObjOk X.prog X.w H s.heap a (.tup xs) from I.hok a _ ea)
    obtain ⟨o, h1, h2, _⟩ := p
    exact PySem.W.kia_one PySem.W.kitx_tuple I.kIn ⟨o, h1, h2⟩ e (fun z => nomatch z) h
  | @dK a kvs ea =>
    cases (show u = Value.ref a from rx)
    obtain ⟨_, _, vs, _, p⟩ := (show ObjOk X.prog X.w H s.heap a (.dK kvs) from I.hok a _ ea)
    obtain ⟨o, es, ep, h1, h2, _⟩ := p
    exact PySem.W.kia_one PySem.W.kitx_dict I.kIn ⟨o, h1, h2.1⟩ e (fun z => nomatch z) h
  | @dT a kvs ea =>
    cases (show u = Value.ref a from rx)
    obtain ⟨_, _, xs, _, o, es, ep, h1, h2, _⟩ := (show ObjOk X.prog X.w H s.heap a (.dT kvs) from I.hok a _ ea)
    exact PySem.W.kia_one PySem.W.kitx_dict I.kIn ⟨o, h1, h2.1⟩ e (fun z => nomatch z) h
  | @ins a C dx fs ea cl ha hn htk hm =>
    cases (show u = Value.ref a from rx)
    obtain ⟨mA, O, _⟩ := ins_get I.hok ea
    obtain ⟨od, J, _⟩ := O.look
    exact PySem.W.kia_one (PySem.W.kitx_own (cl.get _) cl.hd ha hn htk hm) I.kIn J e (fun z => nomatch z) h
end
end L2
namespace L2
open PySem PySem.Spec PyProof.Rows
structure Room (k : Nat) (A : Around) : Prop where
  hd : A.handled = none
  dp : A.depth + 3 * k + 5 < recursionLimit
  un : A.units + 16 * k + 200 < cLine
  gd : A.guards = some []
theorem Room.mono {j k : Nat} {A : Around} (r : Room k A) (h : j ≤ k) : Room j A := ⟨r.hd, by have := r.dp; omega, by have := r.un; omega, r.gd⟩
theorem Room.deeper {k : Nat} {A : Around} (r : Room (k + 1) A) (env : Env) : Room k (A.deeper env) :=
  ⟨r.hd, by have := r.dp; show A.depth + 1 + 3 * k + 5 < _; omega, by have := r.un; show A.units + 3 + 16 * k + 200 < _; omega, r.gd⟩
theorem Room.depth {k : Nat} {A : Around} (r : Room k A) : A.depth < recursionLimit := by have := r.dp; omega
theorem Room.units {k : Nat} {A : Around} (r : Room k A) : A.units + 64 < cLine := by have := r.un; omega
noncomputable def tNil : TA := fun _ H Q => Q [] H
noncomputable def tCons (ta : TE) (tr : TA) : TA := fun σ H Q => ta σ H fun x H1 => tr σ H1 fun xs H2 => Q (x :: xs) H2
section
variable {X : Cx} {e : Expr} {es : List Expr} {te : TE} {t : TA} {pos : Pos}
theorem pa_nil : PA X [] tNil := fun _ _ _ _ H Q I h => Calls.spliced_nil ⟨[], H, I, .nil, h⟩
theorem pa_cons (ha : PE X e te) (hr : PA X es t) (hs : starEach (e :: es) X.env = (false, eval e X.env) :: starEach es X.env := by with_unfolding_all rfl) : PA X (e :: es) (tCons te t) := by
  intro pos pins s σ H Q I h
  rw [hs]
  show wpAny _ _ (spliced ((false, eval e X.env) :: backTo pos (starEach es X.env))) _ _ s
  refine Calls.spliced_cons (thn (ha pins s σ H _ I h) fun u s1 ⟨x, H1, I1, r1, q1⟩ => ?_)
  exact thn (hr pos pins s1 σ H1 _ I1 q1) fun us s2 ⟨xs, H2, I2, r2, q2⟩ => ⟨x :: xs, H2, I2, .cons r1 r2, q2⟩
noncomputable def tTup (t : TA) : TE := fun σ H Q => t σ H fun xs H1 => xs.length ≤ sizeLine ∧ ∀ p, H1 p = none → Q (.ref p) (upd H1 p (.tup xs))
noncomputable def tLst (t : TA) : TE := fun σ H Q => t σ H fun xs H1 => xs.length ≤ sizeLine ∧ ∀ p, H1 p = none → Q (.ref p) (upd H1 p (.lst xs))
theorem pe_tup {x1} (h : PA X es t) : PE X (.Tuple es x1 pos) (tTup t) := by
  intro pins s σ H Q I hq
  refine wpAny_Tuple_spliced (thn (h pos pins s σ H _ I hq) fun us s1 ⟨xs, H1, I1, r, z, q⟩ => ⟨by rw [← r.length]; exact z, ?_⟩)
  have hf : H1 s1.heap.objs.size = none := I1.hok.fresh (Nat.le_refl _)
  refine ⟨.ref s1.heap.objs.size, upd H1 s1.heap.objs.size (.tup xs), I1.laid (t' := s1.toks) (fun b u e => Heap.get?_push_of_some _ e) (Nat.le_refl _) ?_, rfl, q _ hf⟩
  exact ⟨z, us, r, ⟨_, Heap.get?_push_size _ rfl, rfl, ⟨_, rfl⟩, rfl⟩⟩
theorem pe_lst (h : PA X es t) : PE X (.List es pos) (tLst t) := by
  intro pins s σ H Q I hq
  refine wpAny_List_spliced (thn (h pos pins s σ H _ I hq) fun us s1 ⟨xs, H1, I1, r, z, q⟩ => ⟨by rw [← r.length]; exact z, ?_⟩)
  have hf : H1 s1.heap.objs.size = none := I1.hok.fresh (Nat.le_refl _)
  refine ⟨.ref s1.heap.objs.size, upd H1 s1.heap.objs.size (.lst xs), I1.laid (t' := s1.toks) (fun b u e => Heap.get?_push_of_some _ e) (Nat.le_refl _) ?_, rfl, q _ hf⟩
  exact ⟨z, us, 0, r, Heap.get?_push_size _ rfl⟩
end
noncomputable abbrev Sp := List V → Hp → VK → XK → Prop
noncomputable abbrev CXT := List Env → Hp → Shared → XK → Value → Shared → Prop
structure Env0 (P : Program) (w : World) (K : PySem.W.Frag) (mg : Str → Option Value) (base : Heap) (A : Around) (outer : List Env) (s : Shared) (H : Hp) : Prop where
  frames : A.frames = some outer
  mod : Mod K mg base
  bs : ∀ b o, base.get? b = some o → s.heap.get? b = some o ∧ H b = none
  bsz : base.objs.size ≤ s.heap.objs.size
  funs : s.heap.FunFrames base outer
  frf : ∀ b ∈ frs outer, H b = none
  hok : HOk P w H s.heap
  bare : AllBare s.gens
noncomputable def CE (outer : List Env) (P : Program) (w : World) (H : Hp) (s : Shared) (Q : VK) (u : Value) (s' : Shared) : Prop :=
  ∃ v H', s'.os = s.os ∧ AllBare s'.gens ∧ Un (frs outer) [] H H' s.heap s'.heap ∧ HOk P w H' s'.heap ∧ RelV v u ∧ Q v H'
noncomputable def CR (CX : CXT) (outer : List Env) (P : Program) (w : World) (H : Hp) (s : Shared) (Q : VK) (E : XK) (r : Result) (s' : Shared) : Prop :=
  match r with
  | .ok (.ret u) => CE outer P w H s Q u s'
  | .ok _ => False
  | .error e => CX outer H s E e s'
structure FnOk (P : Program) (w : World) (K : PySem.W.Frag) (mg : Str → Option Value) (base : Heap) (CX : CXT) (k : Nat) (f : Addr) (fd : FuncData) (ps : List Str) (sp : Sp) : Prop where
  len : ∀ vs H Q E, sp vs H Q E → vs.length = ps.length
  run : ∀ (A : Around) (outer : List Env) (s : Shared) (H : Hp) (args : Args) (us : List Value) (vs : List V) (Q : VK) (E : XK), Room k A → Env0 P w K mg base A outer s H → BindsTo s fd args (ps.zip us) → Vals vs us → sp vs H Q E →
    codeAny (model P w) A (.call (.ref f) args) (CR CX outer P w H s Q E) s
section
variable {X : Cx} {pins : List (Addr × Obj)} {σ : St} {H : Hp} {s s' : Shared}
theorem Inv.env0 (I : Inv X pins σ H s) : Env0 X.prog X.w X.K X.mg X.base X.A X.stack s H :=
  ⟨I.ok.frames, I.ok.mod, I.bs, Nat.le_trans I.ok.bsz I.sz, I.stack, I.stkFree, I.hok, I.bare⟩
theorem Inv.after {Q : VK} {u : Value} (I : Inv X pins σ H s) (h : CE X.stack X.prog X.w H s Q u s') : EP X pins σ Q u s' := by
  obtain ⟨v, H', os, bare, un, hok, r, q⟩ := h
  obtain ⟨hh, g, d, t, os'⟩ := s'
  obtain rfl : os' = s.os := os
  exact ⟨v, H', I.call (h' := hh) (g' := g) (d' := d) (t' := t) (ch := []) un hok bare (fun b z => absurd z (by simp)), r, q⟩
end
noncomputable def tCall (sp : Sp) (dvs : List V) (E : XK) (t : TA) : TE := fun σ H Q => t σ H fun vs H1 => sp (vs ++ dvs) H1 Q E
noncomputable def Binds (K : PySem.W.Frag) (fd : FuncData) (ps : List Str) (ds : List Value) : Prop :=
  ∀ (s : Shared) (us : List Value), K.In s.heap → (us ++ ds).length = ps.length → BindsTo s fd ⟨us, []⟩ (ps.zip (us ++ ds))
theorem Binds.all {K : PySem.W.Frag} {fd : FuncData} {ps : List Str} (h : ∀ us : List Value, us.length = ps.length → bindArgs fd ⟨us, []⟩ = pure (ps.zip us)) : Binds K fd ps [] := fun s us _ hl => by
  rw [List.append_nil] at hl ⊢
  exact .of_eq (h us hl)
noncomputable def Passes (CX : CXT) (X : Cx) (E : XK) : Prop := ∀ (pins : List (Addr × Obj)) (σ : St) (H : Hp) (s : Shared) (e : Value) (s' : Shared), Inv X pins σ H s → CX X.stack H s E e s' → X.xe e s'
section
variable {X : Cx} {CX : CXT} {k : Nat} {f C : Addr} {fd : FuncData} {ps : List Str} {sp : Sp} {dvs : List V} {ds : List Value} {E : XK} {x m : Str} {p pos apos : Pos} {e o : Expr} {es : List Expr} {ta : TE} {t : TA}
theorem run_fn {pins : List (Addr × Obj)} {σ : St} {H : Hp} {s : Shared} {Q : VK} {us : List Value} {vs : List V} (F : FnOk X.prog X.w X.K X.mg X.base CX k f fd ps sp) (hr : Room k X.A) (hb : Binds X.K fd ps ds) (hd : Vals dvs ds) (hx : Passes CX X E)
    (I : Inv X pins σ H s) (r : Vals vs us) (h : sp (vs ++ dvs) H Q E) : wpAny (model X.prog X.w) X.A (call (.ref f) us) (EP X pins σ Q) X.xe s := by
  have r2 : Vals (vs ++ dvs) (us ++ ds) := r.append hd
  have hl : (us ++ ds).length = ps.length := by rw [← r2.length]; exact F.len _ _ _ _ h
  refine wpAny_call (codeAny_mono (F.run X.A X.stack s H ⟨us, []⟩ (us ++ ds) (vs ++ dvs) Q E hr I.env0 (hb s us I.kIn hl) r2 h) fun r s' hq => ?_)
  cases r with
  | error e => exact hx pins σ H s e s' I hq
  | ok fl =>
    cases fl with
    | ret u => exact I.after hq
    | next => exact False.elim hq
    | brk => exact False.elim hq
    | cont => exact False.elim hq
theorem pe_call (F : FnOk X.prog X.w X.K X.mg X.base CX k f fd ps sp) (hr : Room k X.A) (hg : Gl X x) (hm : X.mg x = some (.ref f)) (hk : PySem.W.keepIn X.K (.ref f) = true) (hb : Binds X.K fd ps ds) (hd : Vals dvs ds) (hx : Passes CX X E)
    (ha : PA X (e :: es) t) (hdb : (x == ("__debug__" : Str)) = false := by decide) (he : starEach (e :: es) X.env = (false, eval e X.env) :: starEach es X.env := by with_unfolding_all rfl) (hpl : (backTo pos (starEach es X.env)).any (·.1) = false := by with_unfolding_all rfl) :
    PE X (.Call (.Name x p) (e :: es) [] pos) (tCall sp dvs E t) := by
  intro pins s σ H Q I h
  refine wpAny_Call_Name_kw (ld_glob I hg hm ?_ hdb)
  refine PySem.W.callWith_K (h₀ := X.base) I.ok.mod.kin hk (thn (ha pos pins s σ H _ I h) fun us s1 ⟨vs, H1, I1, r, q⟩ => ⟨I1.kIn, ?_⟩) he hpl
  exact run_fn F hr hb hd hx I1 r q
end
section
variable {X : Cx} {CX : CXT} {k : Nat} {f C : Addr} {fd : FuncData} {ps ks : List Str} {sp : Sp} {E : XK} {x m : Str} {p pos apos kpos : Pos} {e o : Expr} {es : List Expr} {kws : List Keyword} {te ta : TE} {t tk : TA} {nm : Option Str}
variable {g : List Value → List Value → List Value} {gV : List V → List V → List V}
end
structure FnScope (N P : List Str) (sc : Scope) : Prop where
  kind : sc.kind = .function
  co : sc.isCoroutine = false
  gen : sc.isGenerator = false
  nd : N.Nodup
  pre : N.take P.length = P
  par : ∀ x ∈ P, sc.names.lookup x = some .local ∨ sc.names.lookup x = some .cell
  nofree : ∀ y ∈ sc.names, y.2 ≠ .free
theorem bindL_out {kindOf : Str → Option NameKind} {x : Str} : ∀ {binds : List (Str × Value)} {m : Str → Option Value}, (∀ v, (x, v) ∉ binds) → bindL kindOf binds m x = m x
  | [], _, _ => rfl
  | (n, v) :: r, m, h => by
    unfold bindL
    rw [bindL_out fun w hw => h w (List.mem_cons_of_mem _ hw)]
    split
    · have : x ≠ n := by rintro rfl; exact h v List.mem_cons_self
      simp [this]
    · rfl
theorem bindC_out {kindOf : Str → Option NameKind} {x : Str} : ∀ {binds : List (Str × Value)} {m : Str → Option Value}, (∀ v, (x, v) ∉ binds) → bindC kindOf binds m x = m x
  | [], _, _ => rfl
  | (n, v) :: r, m, h => by
    unfold bindC
    rw [bindC_out fun w hw => h w (List.mem_cons_of_mem _ hw)]
    split
    · rfl
    · have : x ≠ n := by rintro rfl; exact h v List.mem_cons_self
      simp [this]
theorem bindL_get {kindOf : Str → Option NameKind} {x : Str} {v : Value} : ∀ {P : List Str} {vs : List Value} {i : Nat} {m : Str → Option Value}, P.Nodup → P[i]? = some x → vs[i]? = some v → kindOf x = some .local →
    bindL kindOf (P.zip vs) m x = some v
  | [], _, _, _, _, h, _, _ => by simp at h
  | _ :: _, [], _, _, _, _, h, _ => by simp at h
  | p :: P, w :: vs, 0, m, nd, h1, h2, hk => by
    simp at h1 h2; subst h1; subst h2
    show bindL kindOf ((p, w) :: P.zip vs) m p = _
    unfold bindL
    rw [bindL_out fun v hv => (List.nodup_cons.mp nd).1 (List.of_mem_zip hv).1, if_pos hk]
    simp
  | p :: P, w :: vs, i + 1, m, nd, h1, h2, hk => by
    show bindL kindOf ((p, w) :: P.zip vs) m x = _
    unfold bindL
    exact bindL_get (i := i) (List.nodup_cons.mp nd).2 (by simpa using h1) (by simpa using h2) hk
theorem bindC_get {kindOf : Str → Option NameKind} {x : Str} {v : Value} : ∀ {P : List Str} {vs : List Value} {i : Nat} {m : Str → Option Value}, P.Nodup → P[i]? = some x → vs[i]? = some v → kindOf x ≠ some .local →
    bindC kindOf (P.zip vs) m x = some v
  | [], _, _, _, _, h, _, _ => by simp at h
  | _ :: _, [], _, _, _, _, h, _ => by simp at h
  | p :: P, w :: vs, 0, m, nd, h1, h2, hk => by
    simp at h1 h2; subst h1; subst h2
    show bindC kindOf ((p, w) :: P.zip vs) m p = _
    unfold bindC
    rw [bindC_out fun v hv => (List.nodup_cons.mp nd).1 (List.of_mem_zip hv).1, if_neg hk]
    simp
  | p :: P, w :: vs, i + 1, m, nd, h1, h2, hk => by
    show bindC kindOf ((p, w) :: P.zip vs) m x = _
    unfold bindC
    exact bindC_get (i := i) (List.nodup_cons.mp nd).2 (by simpa using h1) (by simpa using h2) hk
noncomputable def start (N : List Str) (vs : List V) : St := vs.map some ++ List.replicate (N.length - vs.length) none
noncomputable def cxOf (CX : CXT) (P : Program) (w : World) (K : PySem.W.Frag) (mg : Str → Option Value) (base : Heap) (N : List Str) (qual : Str) (scope : Scope) (f : Addr) (cd : Value) (A : Around) (outer : List Env) (s : Shared) (H : Hp) (E : XK) : Cx where
  prog := P
  w := w
  K := K
  mg := mg
  base := base
  A := A.deeper (envOfC qual scope s.heap.objs.size f cd)
  N := N
  s₀ := s
  H₀ := H
  env := envOfC qual scope s.heap.objs.size f cd
  outer := outer
  stack := envOfC qual scope s.heap.objs.size f cd :: outer
  ex := []
  calm := true
  fn := fun _ => true
  pn := []
  xe := fun e s' => wpAny (model P w) (A.deeper (envOfC qual scope s.heap.objs.size f cd)) (leaving (envOfC qual scope s.heap.objs.size f cd) e) (fun _ s'' => CX outer H s E e s'') (fun e' s'' => CX outer H s E e' s'') s'
theorem cell_has {sc : Scope} {n : Nat} {x : Str} (h : sc.names.lookup x = some .cell) : ∃ c, (cellsFrom n sc.names []).lookup x = some c := by
  have q := PySem.W.cellsFrom_some sc.names n [] (.inl h)
  exact Option.isSome_iff_exists.mp q
theorem inv_start {CX : CXT} {P : Program} {w : World} {K : PySem.W.Frag} {mg : Str → Option Value} {base : Heap} {N ps : List Str} {qual : Str} {scope : Scope} {f : Addr} {cd : Value} {A : Around} {outer : List Env} {s s1 : Shared} {H : Hp} {E : XK} {us : List Value} {vs : List V}
    (S : FnScope N ps scope) (hd : A.handled = none) (e0 : Env0 P w K mg base A outer s H) (hl : vs.length = ps.length) (r : Vals vs us)
    (x : InCallC s s.heap.objs.size (bindL (envOfC qual scope s.heap.objs.size f cd).kindOf (ps.zip us) fun _ => none) (cellsFrom (s.heap.objs.size + 1) scope.names []) (bindC (envOfC qual scope s.heap.objs.size f cd).kindOf (ps.zip us) fun _ => none) s1) :
    Inv (cxOf CX P w K mg base N qual scope f cd A outer s H E) [] (start N vs) H s1 := by
  have hpl : ps.length ≤ N.length := by have := congrArg List.length S.pre; rw [List.length_take] at this; omega
  obtain ⟨h1, tk, rfl, hk⟩ := x.done
  have noA : ∀ b : Addr, b ∉ (cxOf CX P w K mg base N qual scope f cd A outer s H E).ex := fun b z => absurd (show b ∈ ([] : List Addr) from z) (by simp)
  refine ⟨⟨e0.mod, S.kind, rfl, rfl, Nat.le_refl _, fun y z c h1 h2 => ?_, fun y hy => ?_, fun y c _ h => ?_, fun _ => hd, Around.frames_deeper e0.frames, .inr ⟨rfl, rfl⟩, fun b z => absurd z (noA b), e0.bs, e0.bsz, fun b _ _ => noA b, fun b z => absurd z (noA b), e0.funs, e0.frf⟩,
    rfl, e0.bare, Un.kept hk, ⟨_, x.toInCall.ns, fun i y v h1 h2 h3 => ?_⟩, fun y c h => ⟨_, x.cell y c h⟩, e0.hok.fresh (Nat.le_refl _), fun y c h => ?_, fun p hp => absurd (show p ∈ ([] : List (Addr × Obj)) from hp) (by simp), e0.hok.kept hk, ?_⟩
  · exact name_of_addr x.apart (PySem.mem_of_lookup h1) (PySem.mem_of_lookup h2)
  · have hy : scope.names.lookup y = some .cell ∨ scope.names.lookup y = some .free := hy
    rcases hy with hy | hy
    · exact cell_has hy
    · exact absurd rfl (S.nofree _ (PySem.mem_of_lookup hy))
  · exact Nat.le_of_lt (x.above y c (PySem.mem_of_lookup h))
  · have hi : i < vs.length := by
      unfold start at h2
      by_cases hi : i < vs.length
      · exact hi
      · rw [List.getElem?_append_right (by simpa using hi)] at h2
        rw [List.getElem?_replicate] at h2
        split at h2 <;> cases h2
    have ha : vs[i]? = some v := by
      unfold start at h2
      rw [List.getElem?_append_left (by simpa using hi), List.getElem?_map] at h2
      cases e : vs[i]? with
      | none => rw [e] at h2; cases h2
      | some a => rw [e] at h2; cases h2; rfl
    obtain ⟨u, hu, rv⟩ := r.get ha
    have hp : ps[i]? = some y := by
      rw [← S.pre, List.getElem?_take_of_lt (by omega)]; exact h1
    have ndP : ps.Nodup := by rw [← S.pre]; exact S.nd.sublist (List.take_sublist _ _)
    refine ⟨u, rv, ?_⟩
    rcases S.par y (List.mem_of_getElem? hp) with k | k
    · exact .inl ⟨k, bindL_get ndP hp hu k⟩
    · obtain ⟨c, e⟩ := cell_has (n := s.heap.objs.size + 1) k
      refine .inr ⟨.inl k, c, e, ?_⟩
      have q := x.cell y c e
      rw [bindC_get ndP hp hu (by show scope.names.lookup y ≠ _; rw [k]; decide)] at q
      exact q
  · exact e0.hok.fresh (Nat.le_of_lt (x.above y c (PySem.mem_of_lookup h)))
  · unfold start
    show _ = N.length
    rw [List.length_append, List.length_map, List.length_replicate]
    omega
theorem fn_of {CX : CXT} {P : Program} {w : World} {K : PySem.W.Frag} {mg : Str → Option Value} {base : Heap} {k : Nat} {f : Addr} {name qual : Str} {params : Arguments} {body : List Stmt} {scope : Scope} {dV kV doc pm cdv ct oc : Value} {an od : Option Addr}
    {osl : Array (Option Value)} {N ps : List Str} {sp : Sp} (lk : K.lookup f = some ⟨oc, od, .func (PySem.W.fnOf name qual params body scope dV kV doc pm an cdv ct), osl⟩) (hcd : PySem.W.codeIn K cdv qual = true) (S : FnScope N ps scope)
    (len : ∀ vs H Q E, sp vs H Q E → vs.length = ps.length)
    (hbody : ∀ (A : Around) (outer : List Env) (s : Shared) (H : Hp) (vs : List V) (Q : VK) (E : XK), Room k (A.deeper (envOfC qual scope s.heap.objs.size f cdv)) → sp vs H Q E →
      ∃ t, PSs (cxOf CX P w K mg base N qual scope f cdv A outer s H E) body t ∧ t { nx := fun _ H' => Q .non H', rt := Q } (start N vs) H) :
    FnOk P w K mg base CX (k + 1) f (PySem.W.fnOf name qual params body scope dV kV doc pm an cdv ct) ps sp := by
  refine ⟨len, fun A outer s H args us vs Q E hr e0 hb r hsp => ?_⟩
  have hl := len _ _ _ _ hsp
  have KX : K.In s.heap := e0.mod.kin.keeps fun b o e => (e0.bs b o e).1
  have lim : s.heap.NoLimit := e0.mod.nolimit.keeps fun b o e => (e0.bs b o e).1
  have hkind : ∀ y ∈ ps.zip us, scope.names.lookup y.1 = some .local ∨ (scope.names.lookup y.1 = some .cell ∧ ((cellsFrom (s.heap.objs.size + 1) scope.names []).lookup y.1).isSome = true) := fun ⟨n, v⟩ hy => by
    rcases S.par n (List.of_mem_zip hy).1 with q | q
    · exact .inl q
    · exact .inr ⟨q, PySem.W.cellsFrom_some _ _ _ (.inl q)⟩
  refine codeAny_call_function hr.depth (KX _ _ lk) rfl S.co S.gen rfl (PySem.W.codeRec_of KX hcd) (hb _ _ _ _ ?_)
  refine wpAny_newFunctionEnv_cells S.kind hkind fun env he s1 x => ?_
  subst he
  refine ⟨lim.keeps x.toInCall.keep, codeAny_func ?_⟩
  obtain ⟨t, ht, hq⟩ := hbody A outer s H vs Q E (hr.deeper _) hsp
  have I : Inv (cxOf CX P w K mg base N qual scope f cdv A outer s H E) [] (start N vs) H s1 := inv_start S hr.hd e0 hl r x
  refine wpAny_mono (ht [] s1 (start N vs) H _ I hq) (fun fl s' hs => ?_) fun e s' hs => hs
  have fin : ∀ {σ' : St} {H' : Hp} {v : V} {u : Value}, Inv (cxOf CX P w K mg base N qual scope f cdv A outer s H E) [] σ' H' s' → RelV v u → Q v H' → CE outer P w H s Q u s' :=
    fun {σ' H' v u} J rv q => ⟨v, H', J.os, J.bare, J.base, J.hok, rv, q⟩
  cases fl with
  | ret u =>
    obtain ⟨v, σ', H', J, rv, q⟩ := hs
    exact fin J rv q
  | next =>
    obtain ⟨σ', H', J, q⟩ := hs
    exact fin (v := V.non) (u := Value.none) J rfl q
  | brk =>
    obtain ⟨_, _, _, q⟩ := hs
    exact False.elim q
  | cont =>
    obtain ⟨_, _, _, q⟩ := hs
    exact False.elim q
end L2
namespace L2
open PySem PySem.Spec PyProof.Rows
section
variable {X : Cx} {x : Str} {p pos : Pos} {e : Expr} {es : List Expr} {t : TA} {id T : String} {r : List V → Hp → VK → Prop}
noncomputable def tCB (r : List V → Hp → VK → Prop) (t : TA) : TE := fun σ H Q => t σ H fun vs H1 => r vs H1 Q
theorem pe_callB (hc : CallR X (.builtin id) r) (hg : Gl X x) (hm : X.mg x = none) (hv : bootBuiltins x = some (.builtin id)) (ha : PA X (e :: es) t) (hn : x ≠ "__name__" := by decide) (hdb : (x == ("__debug__" : Str)) = false := by decide)
    (he : starEach (e :: es) X.env = (false, eval e X.env) :: starEach es X.env := by with_unfolding_all rfl) (hpl : (backTo pos (starEach es X.env)).any (·.1) = false := by with_unfolding_all rfl) : PE X (.Call (.Name x p) (e :: es) [] pos) (tCB r t) := by
  intro pins s σ H Q I h
  refine wpAny_Call_Name_kw (ld_blt I hg hm hv ?_ hn hdb)
  exact PyProof.Rows.callWith_builtin1 (thn (ha pos pins s σ H _ I h) fun us s1 ⟨vs, H1, I1, r1, q1⟩ => hc pins s1 σ H1 vs us Q I1 r1 q1) he hpl
theorem pe_callTy (hc : CallR X (.type T) r) (hg : Gl X x) (hm : X.mg x = none) (hv : bootBuiltins x = some (.type T)) (ha : PA X (e :: es) t) (hn : x ≠ "__name__" := by decide) (hdb : (x == ("__debug__" : Str)) = false := by decide)
    (he : starEach (e :: es) X.env = (false, eval e X.env) :: starEach es X.env := by with_unfolding_all rfl) (hpl : (backTo pos (starEach es X.env)).any (·.1) = false := by with_unfolding_all rfl) : PE X (.Call (.Name x p) (e :: es) [] pos) (tCB r t) := by
  intro pins s σ H Q I h
  refine wpAny_Call_Name_kw (ld_blt I hg hm hv ?_ hn hdb)
  exact PyProof.Rows.callWith_type1 (thn (ha pos pins s σ H _ I h) fun us s1 ⟨vs, H1, I1, r1, q1⟩ => hc pins s1 σ H1 vs us Q I1 r1 q1) he hpl
end
end L2
namespace HT
open PySem PyProof.Rows
section
open PySem.SeqAt
open PySem.AutoSeq1 (wpAny_loadPart')
open PySem.MeetsSeq PySem.MeetsSeq2 PySem.MeetsSeq3
end
section
variable {prog : Program} {w : World} {A : Around} {E : Value → Shared → Prop} {s : Shared}
theorem cat_tup {t b : Addr} {vs ws : List Value} {Q : Value → Shared → Prop} (ht : IsTup s.heap t vs.toArray) (hb : IsTup s.heap b ws.toArray) (hv : vs ≠ [])
    (h1 : ws = [] → Q (.ref t) s) (h2 : ws ≠ [] → Q (.ref s.heap.objs.size) { s with heap := s.heap.push { cls := .type "tuple", data := .seq (vs ++ ws).toArray } })
    (hsz : vs.length + ws.length ≤ sizeLine) : wpAny (model prog w) A (binaryOp .Add (.ref t) (.ref b)) Q E s := by
  obtain ⟨⟨cls, dd, data, sl⟩, ho, hc, n, hd⟩ := id ht
  obtain ⟨⟨cls2, dd2, data2, sl2⟩, ho2, hc2, n2, hd2⟩ := id hb
  simp only at hc hd hc2 hd2
  subst hc hd hc2 hd2
  have e : vs.toArray ++ ws.toArray = (vs ++ ws).toArray := by simp
  by_cases hw : ws = []
  · exact concat_meets ⟨_, ho, rfl⟩ ⟨_, ho2, rfl⟩ noFill_tuple_add seq_tuple_add PySem.F.slot_tuple_add PySem.F.entry_tuple_add (PySem.F.args_tuple_add_2 _ _)
      (tuple_addW1 t b vs.toArray ws.toArray n n2 dd dd2 sl sl2 (by simpa using hv) (by simp [hw])) ⟨ho, ho2, h1 hw⟩
  · refine concat_meets ⟨_, ho, rfl⟩ ⟨_, ho2, rfl⟩ noFill_tuple_add seq_tuple_add PySem.F.slot_tuple_add PySem.F.entry_tuple_add (PySem.F.args_tuple_add_2 _ _)
      (tuple_addW2 t b vs.toArray ws.toArray n n2 dd dd2 sl sl2 (by simpa using hv) (by simpa using hw) (by rw [List.size_toArray, List.size_toArray]; exact hsz)) ⟨ho, ho2, ?_⟩
    rw [e]
    exact h2 hw
noncomputable def sIx (n d : Nat) : Option Int → Nat
  | none => d
  | some v => if v < 0 then (v + (n : Int)).toNat else min v.toNat n
theorem sIx_none (n d : Nat) : sIx n d none = d := rfl
theorem sIx_nat (n d k : Nat) : sIx n d (some (k : Int)) = min k n := by
  show (if (k : Int) < 0 then ((k : Int) + (n : Int)).toNat else min (k : Int).toNat n) = min k n
  rw [if_neg (by omega), Int.toNat_natCast]
theorem sIx_le (n d : Nat) (hd : d ≤ n) (o : Option Int) : sIx n d o ≤ n := by
  cases o with
  | none => exact hd
  | some v =>
    show (if v < 0 then (v + (n : Int)).toNat else min v.toNat n) ≤ n
    by_cases hv : v < 0
    · rw [if_pos hv]; omega
    · rw [if_neg hv]; exact Nat.min_le_right _ _
theorem clip_eq (v : Int) (n d : Nat) : (if v < 0 then max (v + (n : Int)) 0 else min v (n : Int)) = ((sIx n d (some v) : Nat) : Int) := by
  show (if v < 0 then max (v + (n : Int)) 0 else min v (n : Int)) = (((if v < 0 then (v + (n : Int)).toNat else min v.toNat n) : Nat) : Int)
  by_cases hv : v < 0
  · simp only [if_pos hv]; omega
  · simp only [if_neg hv]; omega
theorem adjust_gen (lo hi : Option Int) (n : Nat) : Builtin.Slice.sliceAdjust lo hi 1 (n : Int) = (((sIx n 0 lo : Nat) : Int), ((sIx n n hi : Nat) : Int)) := by
  have h1 : ¬ ((1 : Int) < 0) := by omega
  unfold Builtin.Slice.sliceAdjust
  simp only [h1, if_false]
  refine Prod.ext ?_ ?_
  · cases lo with
    | none => rfl
    | some v => exact clip_eq v n 0
  · cases hi with
    | none => rfl
    | some v => exact clip_eq v n n
theorem places_gen (i j : Nat) : Builtin.Slice.slicePlaces (i : Int) (j : Int) 1 = j - i := by
  unfold Builtin.Slice.slicePlaces
  have h1 : (1 : Int) > 0 := by omega
  simp only [h1, if_true, Int.ediv_one]
  split <;> omega
theorem slicePart_ {v : Value} {o : Option Int} {Q : Option Int → Shared → Prop} (p : IsPart v o) (h : Q o s) : wpAny (model prog w) A (Builtin.Slice.slicePartIndex v) Q E s := by
  cases p with
  | none => exact slicePart_none h
  | int i t => exact slicePart_int h
theorem sliceApplied_gen {sl : Addr} {vl vu : Value} {lo hi : Option Int} {n : Nat} {Q : Int × Int × Nat → Shared → Prop} (hs : s.heap.IsSliceOf sl vl vu .none) (pl : IsPart vl lo) (pu : IsPart vu hi)
    (h : Q (((sIx n 0 lo : Nat) : Int), 1, sIx n n hi - sIx n 0 lo) s) : wpAny (model prog w) A (Builtin.Slice.sliceApplied (.ref sl) (pure (n : Int))) Q E s := by
  obtain ⟨os, hos, hcs, hds⟩ := id hs
  unfold Builtin.Slice.sliceApplied Builtin.Slice.sliceFields
  refine wpAny_bind (wpAny_bind (wpAny_field hos hds (x := vl) rfl (wpAny_bind (wpAny_field hos hds (x := vu) rfl (wpAny_bind (wpAny_field hos hds (x := .none) rfl (wpAny_pure ?_)))))))
  refine wpAny_bind (slicePart_none ?_)
  show wpAny _ _ (if ((1 : Int) == 0) = true then _ else _) _ _ s
  rw [if_neg (by decide)]
  refine wpAny_bind (slicePart_ pl (wpAny_bind (slicePart_ pu (wpAny_bind (wpAny_pure ?_)))))
  show wpAny _ _ (match Builtin.Slice.sliceAdjust lo hi 1 (n : Int) with | (lo, hi) => pure (lo, (1 : Int), Builtin.Slice.slicePlaces lo hi 1)) _ _ s
  rw [adjust_gen lo hi n]
  show wpAny _ _ (pure (((sIx n 0 lo : Nat) : Int), (1 : Int), Builtin.Slice.slicePlaces ((sIx n 0 lo : Nat) : Int) ((sIx n n hi : Nat) : Int) 1)) _ _ s
  rw [places_gen]
  exact wpAny_pure h
theorem pick_gen (xs : Array Value) (i k : Nat) : ((List.range k).filterMap fun (m : Nat) => xs[((i : Int) + (m : Int) * 1).toNat]?).toArray = ((xs.toList.drop i).take k).toArray := by
  have e : (fun (m : Nat) => xs[((i : Int) + (m : Int) * 1).toNat]?) = fun m => xs[i + m]? := by
    funext m
    have : ((i : Int) + (m : Int) * 1).toNat = i + m := by omega
    rw [this]
  rw [e]
  have := pick_run xs i k
  rw [List.filterMap_map] at this
  have e2 : ((fun x => xs[x]?) ∘ fun x => i + x) = fun m => xs[i + m]? := rfl
  rw [e2] at this
  rw [this]
theorem getItem_tuple_cut {t sl : Addr} {items : Array Value} {vl vu : Value} {lo hi : Option Int} {Q : Value → Shared → Prop} (ht : IsTup s.heap t items) (hs : s.heap.IsSliceOf sl vl vu .none) (pl : IsPart vl lo) (pu : IsPart vu hi)
    (hw : ¬ (sIx items.size 0 lo = 0 ∧ sIx items.size items.size hi = items.size))
    (h : Q (.ref s.heap.objs.size) { s with heap := s.heap.push { cls := .type "tuple", data := .seq ((items.toList.drop (sIx items.size 0 lo)).take (sIx items.size items.size hi - sIx items.size 0 lo)).toArray } })
    (hsz : items.size ≤ sizeLine) : wpAny (model prog w) A (getItem (.ref t) (.ref sl)) Q E s := by
  have htake : sizeOk (.seq ((items.toList.drop (sIx items.size 0 lo)).take (sIx items.size items.size hi - sIx items.size 0 lo)).toArray) := by
    show ((items.toList.drop (sIx items.size 0 lo)).take (sIx items.size items.size hi - sIx items.size 0 lo)).toArray.size ≤ sizeLine
    rw [List.size_toArray, List.length_take, List.length_drop, Array.length_toList]
    omega
  have hj : sIx items.size items.size hi ≤ items.size := sIx_le _ _ (Nat.le_refl _) hi
  obtain ⟨os, hos, hcs, hds⟩ := id hs
  have hTs : s.TypeIs (.ref sl) "slice" := ⟨os, hos, hcs⟩
  unfold getItem
  try with_reducible refine wpAny_holding ?_
  first | refine wpAny_bind (wpAny_pure ?_) | skip
  refine wpAny_bind (wpAny_sequenceKey ht.typeIs (by decide) ?_)
  refine wpAny_bind (wpAny_callSpecial?_slot (name := Str.ofString "__getitem__") ht.typeIs PyProof.Rows.slot_tuple_getitem
    (wpAny_call_entry PyProof.Rows.slot_tuple_getitem ht.typeIs entry_tuple_getitem ?_ (args_tuple_getitem _ _)))
  show wpAny _ _ (Builtin.Tuple.tupleItemsOf (.ref t) >>= _) _ _ s
  refine wpAny_bind (tupleItemsOf_ ht ?_)
  refine wpAny_bind (wpAny_typeOf hTs ?_)
  rw [if_pos (by decide)]
  refine wpAny_bind (sliceApplied_gen hs pl pu ?_)
  have hno : ¬ ((((sIx items.size 0 lo : Nat) : Int) == 0 && (1 : Int) == 1 && (sIx items.size items.size hi - sIx items.size 0 lo) == items.size) = true) := by
    intro q
    rw [Bool.and_eq_true, Bool.and_eq_true] at q
    have q1 : ((sIx items.size 0 lo : Nat) : Int) = 0 := eq_of_beq q.1.1
    have q2 : sIx items.size items.size hi - sIx items.size 0 lo = items.size := eq_of_beq q.2
    exact hw ⟨by omega, by omega⟩
  show wpAny _ _ (if (((sIx items.size 0 lo : Nat) : Int) == 0 && (1 : Int) == 1 && (sIx items.size items.size hi - sIx items.size 0 lo) == items.size) = true then _ else _) _ _ s
  rw [if_neg hno, pick_gen]
  first
    | exact wpAny_bind (m := Builtin.Tuple.tupleExact _) (wpAny_newObj_type (wpAny_pure ⟨_, rfl, wpAny_pure h⟩) htake)
    | exact wpAny_bind (m := Builtin.Tuple.tupleExact _) (wpAny_newObj_type (wpAny_bind (wpAny_pure (wpAny_pure ⟨_, rfl, wpAny_pure h⟩))) htake)
    | exact wpAny_bind (wpAny_bind (m := Builtin.Tuple.tupleExact _) (wpAny_newObj_type (wpAny_pure (wpAny_pure ⟨_, rfl, wpAny_pure h⟩)) htake))
    | exact wpAny_bind (wpAny_bind (m := Builtin.Tuple.tupleExact _) (wpAny_newObj_type (wpAny_pure ⟨_, rfl, wpAny_pure h⟩) htake))
end
end HT
namespace L2
open PySem PySem.Spec PyProof.Rows
noncomputable abbrev TO := St → Hp → (Option Int → Hp → Prop) → Prop
noncomputable def PO (X : Cx) (e : Option Expr) (t : TO) : Prop :=
  ∀ (pins : List (Addr × Obj)) (s : Shared) (σ : St) (H : Hp) (Q : Option Int → Hp → Prop), Inv X pins σ H s → t σ H Q →
    wpAny (model X.prog X.w) X.A (evalPart e X.env) (fun u s' => ∃ o H', Inv X pins σ H' s' ∧ IsPart u o ∧ Q o H') X.xe s
noncomputable def tNoPart : TO := fun _ H Q => Q none H
noncomputable def tPart (t : TE) : TO := fun σ H Q => t σ H fun x H1 => ∃ i, x = .int i ∧ Q (some i) H1
section
variable {X : Cx} {e : Expr} {te : TE} {lo hi : Option Expr} {tl th : TO} {pos p2 : Pos}
theorem po_none : PO X none tNoPart := by
  intro pins s σ H Q I h
  rw [evalPart_none]
  exact wpAny_pure ⟨none, H, I, .none, h⟩
theorem po_some (h : PE X e te) : PO X (some e) (tPart te) := by
  intro pins s σ H Q I hw
  rw [evalPart_some]
  refine thn (h pins s σ H _ I hw) fun u s1 ⟨x, H1, I1, r1, q1⟩ => ?_
  obtain ⟨i, rfl, q⟩ := q1
  obtain ⟨t, rfl⟩ := r1
  exact ⟨some i, H1, I1, .int i t, q⟩
noncomputable def SlR (X : Cx) (r : V → Option Int → Option Int → Hp → VK → Prop) : Prop :=
  ∀ (pins : List (Addr × Obj)) (s : Shared) (σ : St) (H : Hp) (x : V) (v vl vu : Value) (lo hi : Option Int) (sl : Addr) (Q : VK), Inv X pins σ H s → RelV x v → s.heap.IsSliceOf sl vl vu .none → IsPart vl lo → IsPart vu hi → r x lo hi H Q →
    ∃ T id, typeLookup (.type T) "__getitem__" = pure (some (.builtin id)) ∧ s.TypeIs v T ∧ wpAny (model X.prog X.w) X.A (getItem v (.ref sl)) (EP X pins σ Q) X.xe s
theorem SlR.or {r r' : V → Option Int → Option Int → Hp → VK → Prop} (h : SlR X r) (h' : SlR X r') : SlR X (fun x lo hi H Q => r x lo hi H Q ∨ r' x lo hi H Q) := by
  intro pins s σ H x v vl vu lo hi sl Q I rx hs pl pu q
  rcases q with q | q
  · exact h pins s σ H x v vl vu lo hi sl Q I rx hs pl pu q
  · exact h' pins s σ H x v vl vu lo hi sl Q I rx hs pl pu q
noncomputable def tSl (r : V → Option Int → Option Int → Hp → VK → Prop) (te : TE) (tl th : TO) : TE := fun σ H Q => te σ H fun x H1 => tl σ H1 fun l H2 => th σ H2 fun u H3 => r x l u H3 Q
theorem pe_slice {r : V → Option Int → Option Int → Hp → VK → Prop} (hr : SlR X r) (he : PE X e te) (hl : PO X lo tl) (hu : PO X hi th) : PE X (.Subscript e (.Slice lo hi none p2) pos) (tSl r te tl th) := by
  intro pins s σ H Q I h
  refine Subscript_ (thn (he pins s σ H _ I h) fun v s1 ⟨x, H1, I1, r1, q1⟩ => ?_)
  refine wpAny_Slice (thn (hl pins s1 σ H1 _ I1 q1) fun vl s2 ⟨l, H2, I2, pl, q2⟩ => thn (hu pins s2 σ H2 _ I2 q2) fun vu s3 ⟨u, H3, I3, pu, q3⟩ => ?_)
  rw [evalPart_none]
  refine wpAny_pure ?_
  have I4 : Inv X pins σ H3 { s3 with heap := s3.heap.push { cls := .type "slice", data := .fields #[vl, vu, .none] } } := I3.kept (t' := s3.toks) fun b ob q => Heap.get?_push_of_some _ q
  obtain ⟨T, id, hT, ht, hg⟩ := hr pins { s3 with heap := s3.heap.push { cls := .type "slice", data := .fields #[vl, vu, .none] } } σ H3 x v vl vu l u s3.heap.objs.size Q I4 r1 (Heap.IsSliceOf.new ..) pl pu q3
  show wpAny (model X.prog X.w) X.A (subscriptTail e (.Slice lo hi none p2) v (.ref s3.heap.objs.size)) (EP X pins σ Q) X.xe { s3 with heap := s3.heap.push { cls := .type "slice", data := .fields #[vl, vu, .none] } }
  exact tail_any (ops := [.ref s3.heap.objs.size, v]) ht hT hg (by with_unfolding_all rfl)
noncomputable def cutV (xs : List V) (lo hi : Option Int) : List V := (xs.drop (HT.sIx xs.length 0 lo)).take (HT.sIx xs.length xs.length hi - HT.sIx xs.length 0 lo)
theorem cutV_length (xs : List V) (lo hi : Option Int) : (cutV xs lo hi).length ≤ xs.length := by
  unfold cutV
  rw [List.length_take, List.length_drop]
  omega
noncomputable def rSlT (K : PySem.W.Frag) : V → Option Int → Option Int → Hp → VK → Prop := fun x lo hi H Q => ∃ a xs, x = .ref a ∧ SqT K H a xs ∧
  ¬ (HT.sIx xs.length 0 lo = 0 ∧ HT.sIx xs.length xs.length hi = xs.length) ∧ ∀ p, H p = none → Q (.ref p) (upd H p (.tup (cutV xs lo hi)))
theorem sl_tup : SlR X (rSlT X.K) := by
  intro pins s σ H x v vl vu lo hi sl Q I rx hs pl pu h
  obtain ⟨a, xs, rfl, hx, hw, q⟩ := h
  cases rx
  obtain ⟨its, r, ht, hz⟩ := I.tuple hx
  have hlen : its.toArray.size = xs.length := by rw [List.size_toArray]; exact r.length.symm
  refine ⟨"tuple", _, PyProof.Rows.slot_tuple_getitem.lookup, ht.typeIs, ?_⟩
  refine HT.getItem_tuple_cut ht hs pl pu (by rw [hlen]; exact hw) ?_ (by rw [hlen]; exact hz)
  rw [hlen]
  refine ⟨.ref s.heap.objs.size, _, I.laid (t' := s.toks) (o := .tup (cutV xs lo hi)) (fun b ob q => Heap.get?_push_of_some _ q) (Nat.le_refl _) ?_, rfl, q _ (I.hok.fresh (Nat.le_refl _))⟩
  exact ⟨Nat.le_trans (cutV_length xs lo hi) hz, _, (r.drop (HT.sIx xs.length 0 lo)).take (HT.sIx xs.length xs.length hi - HT.sIx xs.length 0 lo), IsTupN.new _ _⟩
noncomputable def rCatT (K : PySem.W.Frag) : R2 := fun x y H Q => ∃ a b xs ys, x = .ref a ∧ y = .ref b ∧ SqT K H a xs ∧ SqT K H b ys ∧ xs ≠ [] ∧ xs.length + ys.length ≤ sizeLine ∧
  (ys = [] → Q (.ref a) H) ∧ (ys ≠ [] → ∀ p, H p = none → Q (.ref p) (upd H p (.tup (xs ++ ys))))
theorem Vals.nil_iff {xs : List V} {us : List Value} (r : Vals xs us) : us = [] ↔ xs = [] := by
  cases r with
  | nil => simp
  | cons _ _ => simp
theorem op_catT : OpR X (binaryOp .Add) (rCatT X.K) := by
  intro pins s σ H x y v u Q I rx ry h
  obtain ⟨a, b, xs, ys, rfl, rfl, ha, hb, hx, hz, q1, q2⟩ := h
  cases rx
  cases ry
  obtain ⟨its, r1, p1, _⟩ := I.tuple ha
  obtain ⟨its2, r2, p2, _⟩ := I.tuple hb
  refine HT.cat_tup p1 p2 (fun z => hx (r1.nil_iff.mp z)) (fun z => ⟨.ref a, H, I, rfl, q1 (r2.nil_iff.mp z)⟩) (fun z => ?_) (by rw [← r1.length, ← r2.length]; exact hz)
  refine ⟨.ref s.heap.objs.size, _, I.laid (t' := s.toks) (o := .tup (xs ++ ys)) (fun b ob q => Heap.get?_push_of_some _ q) (Nat.le_refl _) ?_, rfl, q2 (fun w => z (r2.nil_iff.mpr w)) _ (I.hok.fresh (Nat.le_refl _))⟩
  exact ⟨by rw [List.length_append]; exact hz, _, r1.append r2, IsTupN.new _ _⟩
end
end L2
namespace L2
open PySem PySem.Spec PyProof.Rows
noncomputable def ixN (n : Nat) (i : Int) : Option Nat := if 0 ≤ i then (if i < n then some i.toNat else none) else if -(n : Int) ≤ i then some (i + n).toNat else none
noncomputable def atI {α : Type} (xs : List α) (i : Int) : Option α := (ixN xs.length i).bind fun j => xs[j]?
theorem ixN_seq {n : Nat} {i : Int} {j : Nat} (h : ixN n i = some j) : seqIndex? i n = some j ∧ j < n ∧ -(n : Int) ≤ i ∧ i < n := by
  unfold ixN at h
  by_cases h0 : 0 ≤ i
  · rw [if_pos h0] at h
    by_cases h1 : i < n
    · rw [if_pos h1] at h
      have e : i.toNat = j := Option.some.inj h
      exact ⟨by rw [seqIndex_of h0 h1, e], by omega, by omega, h1⟩
    · rw [if_neg h1] at h; cases h
  · rw [if_neg h0] at h
    by_cases h1 : -(n : Int) ≤ i
    · rw [if_pos h1] at h
      have e : (i + n).toNat = j := Option.some.inj h
      exact ⟨by rw [seqIndex_neg (by omega) h1, e], by omega, h1, by omega⟩
    · rw [if_neg h1] at h; cases h
theorem atI_get {α : Type} {xs : List α} {i : Int} {v : α} (h : atI xs i = some v) : ∃ j, seqIndex? i xs.length = some j ∧ xs[j]? = some v ∧ j < xs.length ∧ -(xs.length : Int) ≤ i ∧ i < xs.length := by
  unfold atI at h
  cases e : ixN xs.length i with
  | none => rw [e] at h; cases h
  | some j =>
    rw [e] at h
    obtain ⟨h1, h2, h3, h4⟩ := ixN_seq e
    exact ⟨j, h1, h, h2, h3, h4⟩
theorem atI_nat {α : Type} {xs : List α} {j : Nat} {v : α} (h : xs[j]? = some v) : atI xs (j : Int) = some v := by
  have hj : j < xs.length := (List.getElem?_eq_some_iff.mp h).1
  have e : ixN xs.length (j : Int) = some j := by
    unfold ixN
    rw [if_pos (by omega), if_pos (by omega)]; simp
  unfold atI; rw [e]; exact h
theorem atI_last {α : Type} (xs : List α) (v : α) : atI (xs ++ [v]) (-1) = some v := by
  have hl : (xs ++ [v]).length = xs.length + 1 := by simp
  have e : ixN (xs ++ [v]).length (-1) = some xs.length := by
    unfold ixN
    rw [hl, if_neg (by decide), if_pos (by omega)]
    congr 1
    omega
  unfold atI
  rw [e]
  show (xs ++ [v])[xs.length]? = some v
  simp
noncomputable def PlainIx (b : Expr) : Prop := ∀ o i, subscripted b false o i = operate [o, i] (getItem o i)
noncomputable def IxR (X : Cx) (r : R2) : Prop :=
  ∀ (value slice : Expr) (pins : List (Addr × Obj)) (s : Shared) (σ : St) (H : Hp) (x y : V) (v u : Value) (Q : VK), Inv X pins σ H s → RelV x v → RelV y u → r x y H Q →
    subscripted slice false v u = operate [v, u] (getItem v u) → wpAny (model X.prog X.w) X.A (subscriptTail value slice v u) (EP X pins σ Q) X.xe s
noncomputable def MtR (X : Cx) (id : String) (r : V → List V → Hp → VK → Prop) : Prop :=
  ∀ (pins : List (Addr × Obj)) (s : Shared) (σ : St) (H : Hp) (x : V) (xs : List V) (v : Value) (us : List Value) (Q : VK), Inv X pins σ H s → RelV x v → Vals xs us → r x xs H Q →
    wpAny (model X.prog X.w) X.A (call (.builtin id) (v :: us)) (EP X pins σ Q) X.xe s
section
variable {X : Cx} {a b : Expr} {ta tb : TE} {pos : Pos}
theorem IxR.or {r r' : R2} (h : IxR X r) (h' : IxR X r') : IxR X (fun x y H Q => r x y H Q ∨ r' x y H Q) := by
  intro value slice pins s σ H x y v u Q I rx ry q hs
  rcases q with q | q
  · exact h value slice pins s σ H x y v u Q I rx ry q hs
  · exact h' value slice pins s σ H x y v u Q I rx ry q hs
theorem pe_ix {r : R2} (hr : IxR X r) (ha : PE X a ta) (hb : PE X b tb) (hs : PlainIx b) : PE X (.Subscript a b pos) (tOp r ta tb) := by
  intro pins s σ H Q I h
  exact Subscript_ (binT ha hb I h fun v u s2 x y H2 I2 rx ry q => hr a b pins s2 σ H2 x y v u Q I2 rx ry q (hs _ _))
noncomputable def rIxL (K : PySem.W.Frag) : R2 := fun x y H Q => ∃ p xs i v, x = .ref p ∧ y = .int i ∧ SqL K H p xs ∧ atI xs i = some v ∧ Q v H
noncomputable def rIxT (K : PySem.W.Frag) : R2 := fun x y H Q => ∃ p xs i v, x = .ref p ∧ y = .int i ∧ SqT K H p xs ∧ atI xs i = some v ∧ Q v H
noncomputable def rIxS : R2 := fun x y H Q => ∃ z i c, x = .str z ∧ y = .int i ∧ z.length ≤ sizeLine ∧ atI z.cps.toList i = some c ∧ Q (.str ⟨#[c]⟩) H
theorem ix_list : IxR X (rIxL X.K) := by
  intro value slice pins s σ H x y v u Q I rx ry h hs
  obtain ⟨p, xs, i, z, rfl, rfl, hq, he, q⟩ := h
  cases rx
  obtain ⟨t, rfl⟩ := ry
  obtain ⟨its, r, pl, hz⟩ := I.list hq
  obtain ⟨j, h1, h2, h3, h4, h5⟩ := atI_get he
  obtain ⟨w, ew, rw'⟩ := r.get h2
  have hl := r.length
  have hn := line63
  have fin : EP X pins σ Q w s := ⟨z, H, I, rw', q⟩
  by_cases h0 : 0 ≤ i
  · have hj : i.toNat = j := by
      rw [seqIndex_of h0 h5] at h1
      exact Option.some.inj h1
    exact item_listR pl.isList h0 (by omega) (by rw [hj]; simpa using ew) fin hs
  · have hj : (i + (its.toArray.size : Int)).toNat = j := by
      rw [seqIndex_neg (by omega) h4] at h1
      rw [List.size_toArray, ← hl]
      exact Option.some.inj h1
    exact subscriptTail_builtinR (x := w) pl.isList.typeIs slot_list_getitem.lookup
      (wpAny_getItem_list_neg (Q := fun r s' => r = w ∧ EP X pins σ Q r s') pl.isList (by omega) (by rw [List.size_toArray] <;> omega) (by omega) (by rw [hj]; simpa using ew) ⟨rfl, fin⟩) hs
theorem ix_tup : IxR X (rIxT X.K) := by
  intro value slice pins s σ H x y v u Q I rx ry h hs
  obtain ⟨p, xs, i, z, rfl, rfl, hq, he, q⟩ := h
  cases rx
  obtain ⟨t, rfl⟩ := ry
  obtain ⟨its, r, pl, hz⟩ := I.tuple hq
  obtain ⟨j, h1, h2, h3, h4, h5⟩ := atI_get he
  obtain ⟨w, ew, rw'⟩ := r.get h2
  have hl := r.length
  have hn := line63
  have fin : EP X pins σ Q w s := ⟨z, H, I, rw', q⟩
  exact subscriptTail_builtinR (x := w) pl.typeIs slot_tuple_getitem.lookup
    (getItem_tuple (j := j) (Q := fun r s' => r = w ∧ EP X pins σ Q r s') pl (by omega) (by omega) (by rw [List.size_toArray, ← hl]; exact h1) (by simpa using ew) ⟨rfl, fin⟩) hs
theorem ix_str : IxR X rIxS := by
  intro value slice pins s σ H x y v u Q I rx ry h hs
  obtain ⟨z, i, c, rfl, rfl, hz, he, q⟩ := h
  obtain ⟨t, rfl⟩ := rx
  obtain ⟨t', rfl⟩ := ry
  obtain ⟨j, h1, h2, h3, h4, h5⟩ := atI_get he
  have hl : z.cps.toList.length = z.length := by simp [Str.length]
  rw [hl] at h1 h4 h5
  have hn := line63
  exact tail_any (typeIs_str s z t) slot_str_getitem.lookup (getItem_str (c := c) (by
    have e1 : decide (i < -(2 ^ 63 : Int)) = false := decide_eq_false (by omega)
    have e2 : decide (i ≥ 2 ^ 63) = false := decide_eq_false (by omega)
    rw [e1, e2, Bool.or_false]) (by rw [h1]; simpa using h2) ⟨.str ⟨#[c]⟩, H, I.tok _, ⟨_, rfl⟩, q⟩) hs
noncomputable def rIx (K : PySem.W.Frag) : R2 := fun x y H Q => rIxL K x y H Q ∨ rIxT K x y H Q ∨ rIxS x y H Q
theorem ix_seq : IxR X (rIx X.K) := ix_list.or (ix_tup.or ix_str)
theorem mapSeq_set (its : List Value) (n j : Nat) (u : Value) : Obj.mapSeq (·.setIfInBounds j u) { cls := .type "list", data := .seq its.toArray n } = { cls := .type "list", data := .seq (its.set j u).toArray n } := by
  simp [Obj.mapSeq]
theorem Inv.lst {pins : List (Addr × Obj)} {σ : St} {H : Hp} {s : Shared} {p : Addr} {xs : List V} (I : Inv X pins σ H s) (h : H p = some (.lst xs)) :
    ∃ (its : List Value) (n : Nat), Vals xs its ∧ s.heap.get? p = some { cls := .type "list", data := .seq its.toArray n } ∧ xs.length ≤ sizeLine := by
  obtain ⟨z, its, n, r, e⟩ := I.hok p _ h
  exact ⟨its, n, r, e, z⟩
theorem Inv.lstUpd {pins : List (Addr × Obj)} {σ : St} {H : Hp} {s : Shared} {p : Addr} {xs ys : List V} {its its' : List Value} {n n' : Nat} {f : Obj → Obj} (I : Inv X pins σ H s) (h : H p = some (.lst xs))
    (ho : s.heap.get? p = some { cls := .type "list", data := .seq its.toArray n }) (hf : f { cls := .type "list", data := .seq its.toArray n } = { cls := .type "list", data := .seq its'.toArray n' }) (r : Vals ys its') (hz : ys.length ≤ sizeLine) (t : Nat) :
    Inv X pins σ (upd H p (.lst ys)) { s with heap := s.heap.update p f, toks := t } := by
  have e : (s.heap.update p f).get? p = some { cls := .type "list", data := .seq its'.toArray n' } := by
    rw [Heap.get?_update_self f ho (by rw [hf] <;> rfl), hf]
  refine I.write (x := p) (e := p) (by rw [h]; trivial) (.inl rfl) (fun b u hb q => (Heap.get?_update_other _ _ (Ne.symm hb)).trans q) ⟨_, e⟩ ?_
  exact ⟨hz, its', n', r, e⟩
noncomputable def rSetL : V → V → V → Hp → (Hp → Prop) → Prop := fun o i v H Q => ∃ p xs k j, o = .ref p ∧ i = .int k ∧ H p = some (.lst xs) ∧ ixN xs.length k = some j ∧ Q (upd H p (.lst (xs.set j v)))
theorem set_list : PSet X rSetL := by
  intro pins s σ H o i v ov iv u Q I ro ri rv h
  obtain ⟨p, xs, k, j, rfl, rfl, hp, hj, q⟩ := h
  cases ro
  obtain ⟨t, rfl⟩ := ri
  obtain ⟨its, n, r, ho, hz⟩ := I.lst hp
  obtain ⟨h1, h2, h3, h4⟩ := ixN_seq hj
  have hl := r.length
  have hn := line63
  have I' : Inv X pins σ (upd H p (.lst (xs.set j v))) { s with heap := s.heap.update p (Obj.mapSeq (·.setIfInBounds j u)) } :=
    I.lstUpd hp ho (mapSeq_set its n j u) (r.set rv j) (by rw [List.length_set]; exact hz) s.toks
  by_cases h0 : 0 ≤ k
  · have hk : k.toNat = j := by
      rw [seqIndex_of h0 h4] at h1
      exact Option.some.inj h1
    exact PySem.W.ki_setAt ho h0 (by omega) (by rw [List.size_toArray, ← hl]; exact h4) (by rw [hk]; exact ⟨_, I', q⟩)
  · have hk : (k + (its.toArray.size : Int)).toNat = j := by
      rw [seqIndex_neg (by omega) h3] at h1
      rw [List.size_toArray, ← hl]
      exact Option.some.inj h1
    exact PySem.W.ki_setBack ho (by omega) (by rw [List.size_toArray, ← hl]; exact h3) (by omega) (by rw [hk]; exact ⟨_, I', q⟩)
theorem slice_bounds (lo hi : Option Int) (n : Nat) : (sliceBounds lo hi none n).1 = ((HT.sIx n 0 lo : Nat) : Int) ∧ (sliceBounds lo hi none n).2.1 = ((HT.sIx n n hi : Nat) : Int) ∧ (sliceBounds lo hi none n).2.2 = 1 := by
  refine ⟨?_, ?_, rfl⟩
  · cases lo with
    | none => simp [sliceBounds, HT.sIx]
    | some i =>
      simp only [sliceBounds, HT.sIx, Option.getD_none, show (1 : Int) > 0 by decide, if_true]
      by_cases h : i < 0
      · simp only [h, if_true] <;> omega
      · simp only [h, if_false] <;> omega
  · cases hi with
    | none => simp [sliceBounds, HT.sIx]
    | some i =>
      simp only [sliceBounds, HT.sIx, Option.getD_none, show (1 : Int) > 0 by decide, if_true]
      by_cases h : i < 0
      · simp only [h, if_true] <;> omega
      · simp only [h, if_false] <;> omega
theorem slicePick_cut (its : List Value) (lo hi : Option Int) : slicePick its.toArray lo hi none = ((its.drop (HT.sIx its.length 0 lo)).take (HT.sIx its.length its.length hi - HT.sIx its.length 0 lo)).toArray := by
  obtain ⟨h1, h2, h3⟩ := slice_bounds lo hi its.toArray.size
  unfold slicePick
  rw [h1, h2, h3]
  simp only [sliceRange_one, pick_run, List.size_toArray] <;> rfl
noncomputable def rSlL (K : PySem.W.Frag) : V → Option Int → Option Int → Hp → VK → Prop := fun x lo hi H Q => ∃ a xs, x = .ref a ∧ SqL K H a xs ∧ ∀ p, H p = none → Q (.ref p) (upd H p (.lst (cutV xs lo hi)))
theorem sl_list : SlR X (rSlL X.K) := by
  intro pins s σ H x v vl vu lo hi sl Q I rx hs pl pu h
  obtain ⟨a, xs, rfl, hx, q⟩ := h
  cases rx
  obtain ⟨its, r, ht, hz⟩ := I.list hx
  have hlen := r.length
  refine ⟨"list", _, slot_list_getitem.lookup, ht.isList.typeIs, ?_⟩
  refine wpAny_getItem_list_slice ht.isList hs pl pu .none (by simp) ?_ (by rw [List.size_toArray] <;> omega)
  rw [slicePick_cut, ← hlen]
  refine ⟨.ref s.heap.objs.size, _, I.laid (t' := s.toks) (o := .lst (cutV xs lo hi)) (fun b ob q => Heap.get?_push_of_some _ q) (Nat.le_refl _) ?_, rfl, q _ (I.hok.fresh (Nat.le_refl _))⟩
  exact ⟨Nat.le_trans (cutV_length xs lo hi) hz, _, 0, (r.drop (HT.sIx xs.length 0 lo)).take (HT.sIx xs.length xs.length hi - HT.sIx xs.length 0 lo), Heap.get?_push_size _ rfl⟩
noncomputable def flatV : V → Bool
  | .non => true
  | .bl _ => true
  | .int _ => true
  | .str _ => true
  | _ => false
noncomputable def eqV : V → V → Bool
  | .non, .non => true
  | .bl a, .bl b => a == b
  | .bl a, .int b => (if a then 1 else 0) == b
  | .int a, .bl b => a == (if b then 1 else 0)
  | .int a, .int b => a == b
  | .str a, .str b => a == b
  | _, _ => false
theorem eqAt_V {A : Around} {s : Shared} {y x : V} {u v : Value} (ry : RelV y u) (rx : RelV x v) (fy : flatV y = true) (fx : flatV x = true) : SeqAt.EqAt A s u v (eqV y x) := by
  cases y with
  | non =>
    cases ry
    cases x with
    | non => cases rx; exact SeqAt.EqAt.same _
    | bl b => cases rx; exact SeqAt.EqAt.none_bool b
    | int b => obtain ⟨t, rfl⟩ := rx; exact SeqAt.EqAt.none_int b t
    | str b => obtain ⟨t, rfl⟩ := rx; exact SeqAt.EqAt.none_str b t
    | _ => exact absurd (show false = true from fx) Bool.false_ne_true
  | bl a =>
    cases ry
    cases x with
    | non => cases rx; exact SeqAt.EqAt.bool_none a
    | bl b => cases rx; exact SeqAt.EqAt.bool_bool a b
    | int b => obtain ⟨t, rfl⟩ := rx; exact SeqAt.EqAt.bool_int a b t
    | str b => obtain ⟨t, rfl⟩ := rx; exact SeqAt.EqAt.bool_str a b t
    | _ => exact absurd (show false = true from fx) Bool.false_ne_true
  | int a =>
    obtain ⟨t', rfl⟩ := ry
    cases x with
    | non => cases rx; exact SeqAt.EqAt.int_none a t'
    | bl b => cases rx; exact SeqAt.EqAt.int_bool a t' b
    | int b => obtain ⟨t, rfl⟩ := rx; exact SeqAt.EqAt.int_int a t' b t
    | str b => obtain ⟨t, rfl⟩ := rx; exact SeqAt.EqAt.int_str a t' b t
    | _ => exact absurd (show false = true from fx) Bool.false_ne_true
  | str a =>
    obtain ⟨t', rfl⟩ := ry
    cases x with
    | non => cases rx; exact SeqAt.EqAt.str_none a t'
    | bl b => cases rx; exact SeqAt.EqAt.str_bool a t' b
    | int b => obtain ⟨t, rfl⟩ := rx; exact SeqAt.EqAt.str_int a t' b t
    | str b => obtain ⟨t, rfl⟩ := rx; exact SeqAt.EqAt.str_str a t' b t
    | _ => exact absurd (show false = true from fx) Bool.false_ne_true
  | _ => exact absurd (show false = true from fy) Bool.false_ne_true
noncomputable def eqU (x : V) (u : Value) : Bool := match u with
  | .none => eqV .non x
  | .bool b => eqV (.bl b) x
  | .int i _ => eqV (.int i) x
  | .str z _ => eqV (.str z) x
  | _ => false
theorem eqU_of {x y : V} {u : Value} (r : RelV y u) (f : flatV y = true) : eqU x u = eqV y x := by
  cases y with
  | non => cases r; rfl
  | bl b => cases r; rfl
  | int i => obtain ⟨t, rfl⟩ := r; rfl
  | str z => obtain ⟨t, rfl⟩ := r; rfl
  | _ => exact absurd (show false = true from f) Bool.false_ne_true
theorem any_eqU {x : V} : ∀ {xs : List V} {us : List Value}, Vals xs us → xs.all flatV = true → us.any (eqU x) = xs.any fun y => eqV y x
  | _, _, .nil, _ => rfl
  | y :: xs, u :: us, .cons r t, f => by
    rw [List.all_cons, Bool.and_eq_true] at f
    rw [List.any_cons, List.any_cons, eqU_of r f.1, any_eqU t f.2]
theorem mem_eqAt {A : Around} {s : Shared} {x : V} {v : Value} (rx : RelV x v) (fx : flatV x = true) : ∀ {xs : List V} {us : List Value}, Vals xs us → xs.all flatV = true → ∀ u ∈ us, SeqAt.EqAt A s u v (eqU x u)
  | _, _, .nil, _ => fun u hu => by cases hu
  | y :: xs, u :: us, .cons r t, f => fun u' hu => by
    rw [List.all_cons, Bool.and_eq_true] at f
    rcases List.mem_cons.mp hu with rfl | hu
    · rw [eqU_of r f.1]; exact eqAt_V r rx f.1 fx
    · exact mem_eqAt rx fx t f.2 u' hu
noncomputable def inV (x : V) (xs : List V) : Bool := xs.any fun y => eqV y x
noncomputable def rIn (K : PySem.W.Frag) (neg : Bool) : R2 := fun x y H Q => ∃ p xs, y = .ref p ∧ (SqL K H p xs ∨ SqT K H p xs) ∧ flatV x = true ∧ xs.all flatV = true ∧ Q (.bl (if neg then !inV x xs else inV x xs)) H
theorem op_in_seq : OpR X (compareOp .In) (rIn X.K false) := by
  intro pins s σ H x y v u Q I rx ry h
  obtain ⟨p, xs, rfl, hq, fx, fs, q⟩ := h
  cases ry
  rcases hq with hq | hq
  · obtain ⟨its, r, pl, hz⟩ := I.list hq
    refine SeqAt.in_listAt (eqU x) pl.isList (fun w hw => mem_eqAt rx fx r fs w (by simpa using hw)) ⟨.bl _, H, I, rfl, ?_⟩
    rw [show its.toArray.any (eqU x) = its.any (eqU x) by simp, any_eqU r fs]
    exact q
  · obtain ⟨its, r, pl, hz⟩ := I.tuple hq
    refine SeqAt.in_tupleAt (eqU x) pl (fun w hw => mem_eqAt rx fx r fs w (by simpa using hw)) ⟨.bl _, H, I, rfl, ?_⟩
    rw [show its.toArray.any (eqU x) = its.any (eqU x) by simp, any_eqU r fs]
    exact q
theorem op_notIn_seq : OpR X (compareOp .NotIn) (rIn X.K true) := by
  intro pins s σ H x y v u Q I rx ry h
  obtain ⟨p, xs, rfl, hq, fx, fs, q⟩ := h
  cases ry
  rcases hq with hq | hq
  · obtain ⟨its, r, pl, hz⟩ := I.list hq
    refine SeqAt.notIn_listAt (eqU x) pl.isList (fun w hw => mem_eqAt rx fx r fs w (by simpa using hw)) ⟨.bl _, H, I, rfl, ?_⟩
    rw [show its.toArray.any (eqU x) = its.any (eqU x) by simp, any_eqU r fs]
    exact q
  · obtain ⟨its, r, pl, hz⟩ := I.tuple hq
    refine SeqAt.notIn_tupleAt (eqU x) pl (fun w hw => mem_eqAt rx fx r fs w (by simpa using hw)) ⟨.bl _, H, I, rfl, ?_⟩
    rw [show its.toArray.any (eqU x) = its.any (eqU x) by simp, any_eqU r fs]
    exact q
theorem op_notIn_str : OpR X (compareOp .NotIn) (fun x y H Q => ∃ i j, x = .str i ∧ y = .str j ∧ Q (.bl (!(!(Builtin.Str.occurrences j i 0 j.length 1).isEmpty))) H) := by
  intro pins s σ H x y v u Q I rx ry h
  obtain ⟨i, j, rfl, rfl, q⟩ := h
  obtain ⟨t, rfl⟩ := rx
  obtain ⟨t', rfl⟩ := ry
  exact notIn_str ⟨.bl _, H, I, rfl, q⟩
theorem CallR.or {f : Value} {r r' : List V → Hp → VK → Prop} (h : CallR X f r) (h' : CallR X f r') : CallR X f (fun xs H Q => r xs H Q ∨ r' xs H Q) := by
  intro pins s σ H xs us Q I rs q
  rcases q with q | q
  · exact h pins s σ H xs us Q I rs q
  · exact h' pins s σ H xs us Q I rs q
theorem call_list_of : CallR X (.type "list") (fun xs H Q => ∃ p ys, xs = [.ref p] ∧ (SqL X.K H p ys ∨ SqT X.K H p ys) ∧ ∀ l, H l = none → Q (.ref l) (upd H l (.lst ys))) := by
  intro pins s σ H xs us Q I r h
  obtain ⟨p, ys, rfl, hq, q⟩ := h
  obtain ⟨u, rfl, rx⟩ := vals1 r
  cases rx
  have fin : ∀ (its : List Value), Vals ys its → ys.length ≤ sizeLine → ∀ (h' : Heap) (c' : Nat), (∀ b o', s.heap.get? b = some o' → h'.get? b = some o') →
      h'.get? s.heap.objs.size = some { cls := .type "list", dict := none, data := .seq its.toArray c', slots := #[] } → EP X pins σ Q (.ref s.heap.objs.size) { s with heap := h' } := fun its r' hz h' c' kp e =>
    ⟨.ref s.heap.objs.size, _, I.laid (t' := s.toks) kp (Nat.le_refl _) (show ObjOk X.prog X.w _ h' _ (.lst ys) from ⟨hz, its, c', r', e⟩), rfl, q _ (I.hok.fresh (Nat.le_refl _))⟩
  rcases hq with hq | hq
  · obtain ⟨its, r', pl, hz⟩ := I.list hq
    have hlen := r'.length
    obtain ⟨o, ho, hc, n, hd⟩ := pl.isList
    exact call_list_seq p (.inl rfl) ho hc hd (fun h' c' kp e => fin its r' hz h' c' kp e) (by simp only [List.size_toArray] <;> omega)
  · obtain ⟨its, r', pl, hz⟩ := I.tuple hq
    have hlen := r'.length
    obtain ⟨o, ho, hc, n, hd⟩ := pl
    exact call_list_seq p (.inr rfl) ho hc hd (fun h' c' kp e => fin its r' hz h' c' kp e) (by simp only [List.size_toArray] <;> omega)
theorem call_tuple_of : CallR X (.type "tuple") (fun xs H Q => ∃ p ys, xs = [.ref p] ∧ ((SqL X.K H p ys ∧ ∀ l, H l = none → Q (.ref l) (upd H l (.tup ys))) ∨ (SqT X.K H p ys ∧ Q (.ref p) H))) := by
  intro pins s σ H xs us Q I r h
  obtain ⟨p, ys, rfl, h⟩ := h
  obtain ⟨u, rfl, rx⟩ := vals1 r
  cases rx
  rcases h with ⟨hq, q⟩ | ⟨hq, q⟩
  · obtain ⟨its, r', pl, hz⟩ := I.list hq
    have hlen := r'.length
    refine call_tuple_list pl.isList (fun h' kp => ?_) (by simp only [List.size_toArray] <;> omega)
    have I1 : Inv X pins σ H { s with heap := h' } := I.kept (t' := s.toks) kp
    have I2 : Inv X pins σ (upd H h'.objs.size (.tup ys)) { s with heap := h'.push { cls := .type "tuple", data := .seq its.toArray } } :=
      I1.laid (t' := s.toks) (fun b o e => Heap.get?_push_of_some _ e) (Nat.le_refl _) (show ObjOk X.prog X.w _ _ _ (.tup ys) from ⟨hz, its, r', IsTupN.new _ _⟩)
    exact ⟨.ref h'.objs.size, _, I2, rfl, q _ (I1.hok.fresh (Nat.le_refl _))⟩
  · obtain ⟨its, r', pl, hz⟩ := I.tuple hq
    exact call_tuple_same pl ⟨.ref p, H, I, rfl, q⟩
noncomputable def tyV (K : PySem.W.Frag) (T : String) (x : V) (H : Hp) : Prop := match x with
  | .str _ => T = "str"
  | .int _ => T = "int"
  | .ref p => (T = "list" ∧ ∃ xs, SqL K H p xs) ∨ (T = "tuple" ∧ ∃ o, K.lookup p = some o ∧ o.cls = .type "tuple" ∧ o.dict = none) ∨
      (T = "dict" ∧ ((∃ kvs, H p = some (.dK kvs)) ∨ ∃ kvs, H p = some (.dT kvs))) ∨ (T = "set" ∧ ∃ S n, H p = some (.set S n))
  | _ => False
theorem tyV_is {pins : List (Addr × Obj)} {σ : St} {H : Hp} {s : Shared} {T : String} {x : V} {v : Value} (I : Inv X pins σ H s) (r : RelV x v) (ty : tyV X.K T x H) :
    s.TypeIs v T ∧ ∀ a, v = .ref a → ∃ ob, s.heap.get? a = some ob ∧ ob.dict = none := by
  cases x with
  | str z =>
    obtain ⟨t, rfl⟩ := r
    cases (show T = "str" from ty)
    exact ⟨typeIs_str s z t, fun _ e => nomatch e⟩
  | int i =>
    obtain ⟨t, rfl⟩ := r
    cases (show T = "int" from ty)
    exact ⟨typeIs_int s i t, fun _ e => nomatch e⟩
  | ref p =>
    cases r
    rcases ty with ⟨rfl, xs, hq⟩ | ⟨rfl, o, hk, hc, hd⟩ | ⟨rfl, hk⟩ | ⟨rfl, S, n, hk⟩
    · obtain ⟨its, _, pl, _⟩ := I.list hq
      refine ⟨pl.isList.typeIs, fun a e => ?_⟩
      cases e
      obtain ⟨o, n, e, c, hd, _⟩ := pl
      exact ⟨o, e, hd⟩
    · refine ⟨⟨o, I.kIn p o hk, hc⟩, fun a e => ?_⟩
      cases e
      exact ⟨o, I.kIn _ o hk, hd⟩
    · have z : ∃ o, s.heap.get? p = some o ∧ o.ExactDict := by
        rcases hk with ⟨kvs, hk⟩ | ⟨kvs, hk⟩
        · obtain ⟨_, _, _, _, o, _, _, e, ex, _⟩ := I.hok p _ hk
          exact ⟨o, e, ex⟩
        · obtain ⟨_, _, _, _, o, _, _, e, ex, _⟩ := I.hok p _ hk
          exact ⟨o, e, ex⟩
      obtain ⟨o, e, ex⟩ := z
      refine ⟨⟨o, e, ex.1⟩, fun a e2 => ?_⟩
      cases e2
      exact ⟨o, e, ex.2.1⟩
    · obtain ⟨o, _, _, _, e, ex, _⟩ := I.hok p _ hk
      refine ⟨⟨o, e, ex.1⟩, fun a e2 => ?_⟩
      cases e2
      exact ⟨o, e, ex.2.1⟩
  | _ => exact False.elim ty
noncomputable def tBM0 (K : PySem.W.Frag) (T : String) (r : V → List V → Hp → VK → Prop) (to : TE) : TE := fun σ H Q => to σ H fun x H1 => tyV K T x H1 ∧ r x [] H1 Q
noncomputable def tBM (K : PySem.W.Frag) (T : String) (r : V → List V → Hp → VK → Prop) (to : TE) (t : TA) : TE := fun σ H Q => to σ H fun x H1 => tyV K T x H1 ∧ t σ H1 fun xs H2 => r x xs H2 Q
variable {o e : Expr} {es : List Expr} {to : TE} {t : TA} {name : Str} {apos cpos : Pos} {T id : String} {r : V → List V → Hp → VK → Prop}
theorem pe_bm0 (pa : PlainAttrs T) (slot : Slot T name id) (hty : typeOf (.builtin id) = pure (.type "method_descriptor")) (hm : MtR X id r) (ho : PE X o to)
    (hbase : attributeBase o name X.env (eval o X.env) = eval o X.env := by with_unfolding_all rfl) (hline : (apos.endLine == cpos.line) = true := by with_unfolding_all rfl) : PE X (.Call (.Attribute o name apos) [] [] cpos) (tBM0 X.K T r to) := by
  intro pins s σ H Q I h
  refine wpAny_Call_method0_late hbase hline (thn (ho pins s σ H _ I h) fun v s1 ⟨x, H1, I1, r1, ty, q1⟩ => ?_)
  obtain ⟨h1, h2⟩ := tyV_is I1 r1 ty
  exact ⟨T, id, pa, slot, hty, h1, h2, Calls.callWith_builtin rfl (PySem.evalArgs_none (hm pins s1 σ H1 x [] v [] Q I1 r1 .nil q1))⟩
theorem pe_bm (pa : PlainAttrs T) (slot : Slot T name id) (hty : typeOf (.builtin id) = pure (.type "method_descriptor")) (hm : MtR X id r) (ho : PE X o to) (ha : PA X (e :: es) t)
    (hbase : attributeBase o name X.env (eval o X.env) = eval o X.env := by with_unfolding_all rfl)
    (hfew : ((backTo cpos (starEach (e :: es) X.env)).all (fun x => !x.1) && (backToKw cpos (keywordEach [] X.env)).all (fun x => x.1.isSome)
      && decide ((e :: es).length + ([] : List Keyword).length + (if ([] : List Keyword).isEmpty then 0 else 1) < 30)) = true := by with_unfolding_all rfl)
    (hline : (apos.endLine == cpos.line) = true := by with_unfolding_all rfl) (hs : starEach (e :: es) X.env = (false, eval e X.env) :: starEach es X.env := by with_unfolding_all rfl) (hplain : (backTo cpos (starEach es X.env)).any (·.1) = false := by with_unfolding_all rfl) :
    PE X (.Call (.Attribute o name apos) (e :: es) [] cpos) (tBM X.K T r to t) := by
  intro pins s σ H Q I h
  refine wpAny_Call_method_late hbase hfew hline rfl (thn (ho pins s σ H _ I h) fun v s1 ⟨x, H1, I1, r1, ty, q1⟩ => ?_)
  obtain ⟨h1, h2⟩ := tyV_is I1 r1 ty
  refine ⟨T, id, pa, slot, hty, h1, h2, ?_⟩
  have hA := ha cpos pins s1 σ H1 _ I1 q1
  rw [hs] at hA ⊢
  refine Calls.callWith_builtin (by show (false || (backTo cpos (starEach es X.env)).any (·.1)) = false; rw [hplain] <;> rfl) (Calls.evalArgs_plain ?_)
  exact thn hA fun us s2 ⟨vs, H2, I2, r2, q2⟩ => hm pins s2 σ H2 x vs v us Q I2 r1 r2 q2
/- xs.append(e), list.index on a module's tuple .. are MtR facts of 06m -/
end
end L2
namespace L2
open PySem PySem.Spec PyProof.Rows
noncomputable def MtM (X : Cx) (id : String) (r : V → List V → Hp → VK → Prop) : Prop :=
  ∀ (pins : List (Addr × Obj)) (s : Shared) (σ : St) (H : Hp) (x : V) (xs : List V) (v : Value) (us : List Value) (Q : VK), Inv X pins σ H s → RelV x v → Vals xs us → r x xs H Q →
    wpAny (model X.prog X.w) X.A (call (.builtin id) (v :: us)) (EP X pins σ Q) X.xe s
theorem Vals.one {x : V} {us : List Value} (h : Vals [x] us) : ∃ u, us = [u] ∧ RelV x u := by
  cases h with
  | cons r q => cases q; exact ⟨_, rfl, r⟩
theorem Vals.two {x y : V} {us : List Value} (h : Vals [x, y] us) : ∃ u v, us = [u, v] ∧ RelV x u ∧ RelV y v := by
  cases h with
  | cons r q => obtain ⟨u, rfl, q'⟩ := Vals.one q; exact ⟨_, _, rfl, r, q'⟩
theorem Vals.zero : ∀ {us : List Value}, Vals [] us → us = []
  | _, .nil => rfl
theorem Vals.dropLast {xs : List V} {us : List Value} (h : Vals xs us) : Vals xs.dropLast us.dropLast := by
  induction h with
  | nil => exact .nil
  | cons r t ih =>
    cases t with
    | nil => exact .nil
    | cons q t' => exact .cons r ih
theorem Vals.eraseIdx : ∀ {xs : List V} {us : List Value} (i : Nat), Vals xs us → Vals (xs.eraseIdx i) (us.eraseIdx i)
  | _, _, _, .nil => .nil
  | _, _, 0, .cons _ t => t
  | _, _, i + 1, .cons r t => .cons r (Vals.eraseIdx i t)
theorem Vals.reverse {xs : List V} {us : List Value} (h : Vals xs us) : Vals xs.reverse us.reverse := by
  induction h with
  | nil => exact .nil
  | cons r t ih => rw [List.reverse_cons, List.reverse_cons]; exact Vals.append ih (.cons r .nil)
theorem Vals.rep {xs : List V} {us : List Value} (h : Vals xs us) : ∀ k : Nat, Vals (List.replicate k xs).flatten (List.replicate k us).flatten
  | 0 => .nil
  | k + 1 => by
    rw [List.replicate_succ, List.replicate_succ, List.flatten_cons, List.flatten_cons]
    exact Vals.append h (Vals.rep h k)
theorem erase_last {α : Type} (l : List α) : l.eraseIdx (l.length - 1) = l.dropLast := by
  induction l with
  | nil => rfl
  | cons a r ih =>
    cases r with
    | nil => rfl
    | cons b r =>
      have e : (a :: b :: r).length - 1 = ((b :: r).length - 1) + 1 := by
        have h1 : (a :: b :: r).length = r.length + 2 := rfl
        have h2 : (b :: r).length = r.length + 1 := rfl
        omega
      rw [e, List.eraseIdx_cons_succ, ih]
      all_goals rfl
theorem len_erase {α : Type} : ∀ (l : List α) (i : Nat), (l.eraseIdx i).length ≤ l.length
  | [], _ => Nat.le_refl _
  | _ :: _, 0 => Nat.le_succ _
  | _ :: r, i + 1 => Nat.succ_le_succ (len_erase r i)
theorem foldl_rep (its : List Value) : ∀ (k : Nat) (acc : List Value),
    List.foldl (fun x1 x2 => x1 ++ x2) acc.toArray (List.replicate k its.toArray) = (acc ++ (List.replicate k its).flatten).toArray
  | 0, acc => by simp
  | k + 1, acc => by
    have e : acc.toArray ++ its.toArray = (acc ++ its).toArray := by simp
    have e2 : (acc ++ its) ++ (List.replicate k its).flatten = acc ++ (List.replicate (k + 1) its).flatten := by
      rw [List.replicate_succ, List.flatten_cons, List.append_assoc]
    rw [← e2, ← foldl_rep its k (acc ++ its), ← e, List.replicate_succ, List.foldl_cons]
section
variable {X : Cx} {pins : List (Addr × Obj)} {σ : St} {H : Hp} {s : Shared} {l b : Addr} {xs ys zs : List V}
theorem Inv.lset {its its' : List Value} {n : Nat} {f : Array Value → Array Value} {t' : Nat} (I : Inv X pins σ H s) (hH : H l = some (.lst xs))
    (e : s.heap.get? l = some { cls := .type "list", data := .seq its.toArray n }) (hf : f its.toArray = its'.toArray) (hv : Vals ys its') (hz : ys.length ≤ sizeLine) :
    Inv X pins σ (upd H l (.lst ys)) { s with heap := s.heap.update l (Obj.mapSeq f), toks := t' } := by
  have q := PySem.IsL.update e f
  rw [hf] at q
  refine I.write (x := l) (e := l) (by rw [hH]; exact trivial) (.inl rfl) (fun b' u hb hu => (Heap.get?_update_other s.heap (Obj.mapSeq f) (Ne.symm hb)).trans hu) ⟨_, q⟩ ?_
  exact ⟨hz, its', _, hv, q⟩
theorem Inv.lnew {its : List Value} {t' : Nat} (I : Inv X pins σ H s) (hv : Vals ys its) (hz : ys.length ≤ sizeLine) :
    Inv X pins σ (upd H s.heap.objs.size (.lst ys)) { s with heap := s.heap.push { cls := .type "list", data := .seq its.toArray }, toks := t' } :=
  I.laid (fun _ _ q => Heap.get?_push_of_some _ q) (Nat.le_refl _) ⟨hz, its, 0, hv, Heap.get?_push_size _ rfl⟩
theorem Inv.fresh (I : Inv X pins σ H s) : H s.heap.objs.size = none := I.hok.fresh (Nat.le_refl _)
theorem Inv.lstM (I : Inv X pins σ H s) (hH : H l = some (.lst xs)) : xs.length ≤ sizeLine ∧ ∃ (its : List Value) (n : Nat), Vals xs its ∧ xs.length = its.length ∧ s.heap.get? l = some { cls := .type "list", data := .seq its.toArray n } := by
  obtain ⟨z, its, n, r, e⟩ := I.hok l _ hH
  exact ⟨z, its, n, r, r.length, e⟩
theorem notLongL {n : Nat} (h : n ≤ sizeLine) : Builtin.List.listTooLong n = false := by
  unfold Builtin.List.listTooLong
  exact decide_eq_false (by omega)
end
section
variable {X : Cx}
noncomputable def rAppend : V → List V → Hp → VK → Prop := fun x vs H Q => ∃ l xs y, x = .ref l ∧ vs = [y] ∧ H l = some (.lst xs) ∧ xs.length < sizeLine ∧ Q .non (upd H l (.lst (xs ++ [y])))
theorem mt_append : MtM X "list.append" rAppend := by
  intro pins s σ H x vs v us Q I rx rv h
  obtain ⟨l, xs, y, rfl, rfl, hH, hz, q⟩ := h
  cases rx
  obtain ⟨u, rfl, ru⟩ := rv.one
  obtain ⟨z, its, n, r, hl, e⟩ := I.lstM hH
  refine call_meets F.slot_list_append ⟨_, e, rfl⟩ F.entry_list_append (F.args_list_append_2 _ _) (PySem.list_append l its.toArray n u (by rw [List.size_toArray]; omega)) ⟨e, ?_⟩
  refine ⟨.non, _, I.lset (its' := its ++ [u]) hH e (by simp) (r.append (.cons ru .nil)) ?_, rfl, q⟩
  rw [List.length_append, List.length_singleton]
  omega
noncomputable def rExtend : V → List V → Hp → VK → Prop := fun x vs H Q => ∃ l b xs zs, x = .ref l ∧ vs = [.ref b] ∧ H l = some (.lst xs) ∧ H b = some (.lst zs) ∧ xs.length + zs.length ≤ sizeLine ∧ Q .non (upd H l (.lst (xs ++ zs)))
theorem mt_extend : MtM X "list.extend" rExtend := by
  intro pins s σ H x vs v us Q I rx rv h
  obtain ⟨l, b, xs, zs, rfl, rfl, hH, hB, hz, q⟩ := h
  cases rx
  obtain ⟨u, rfl, ru⟩ := rv.one
  cases ru
  obtain ⟨z, its, n, r, hl, e⟩ := I.lstM hH
  obtain ⟨z2, its2, n2, r2, hl2, e2⟩ := I.lstM hB
  have hsz : its.toArray.size + its2.toArray.size ≤ sizeLine := by rw [List.size_toArray, List.size_toArray]; omega
  have hlong : ¬ (!its.toArray.isEmpty && Builtin.List.listTooLong (its.toArray.size + its2.toArray.size)) = true := by
    rw [notLongL hsz, Bool.and_false]
    exact Bool.false_ne_true
  refine call_meets F.slot_list_extend ⟨_, e, rfl⟩ F.entry_list_extend (F.args_list_extend_2 _ _)
    (AutoSeq1.list_extend_list_list_0 l its.toArray n b its2.toArray n2 hlong (by rw [List.size_toArray]; omega) (by omega)) ⟨e, e2, ?_⟩
  refine ⟨.non, _, I.lset (its' := its ++ its2) hH e (by simp) (r.append r2) ?_, rfl, q⟩
  rw [List.length_append]
  omega
noncomputable def rPop : V → List V → Hp → VK → Prop := fun x vs H Q => ∃ l xs y, x = .ref l ∧ vs = [] ∧ H l = some (.lst xs) ∧ xs[xs.length - 1]? = some y ∧ Q y (upd H l (.lst xs.dropLast))
theorem mt_pop : MtM X "list.pop" rPop := by
  intro pins s σ H x vs v us Q I rx rv h
  obtain ⟨l, xs, y, rfl, rfl, hH, hy, q⟩ := h
  cases rx
  have hus := rv.zero
  subst hus
  obtain ⟨z, its, n, r, hl, e⟩ := I.lstM hH
  obtain ⟨u, hu, ru⟩ := r.get hy
  have hy' : its.toArray[its.toArray.size - 1]? = some u := by
    show its.toArray[its.length - 1]? = some u
    rw [← Array.getElem?_toList, ← hl]
    exact hu
  refine call_meets F.slot_list_pop ⟨_, e, rfl⟩ F.entry_list_pop (F.args_list_pop_1 _) (MeetsSeq.list_pop_last l its.toArray n u hy' (by rw [List.size_toArray]; omega)) ⟨e, ?_⟩
  refine ⟨y, _, I.lset (its' := its.dropLast) hH e ?_ r.dropLast ?_, ru, q⟩
  · show its.toArray.eraseIdxIfInBounds (its.toArray.size - 1) = its.dropLast.toArray
    rw [List.size_toArray, List.eraseIdxIfInBounds_toArray, erase_last]
  · rw [List.length_dropLast]
    omega
noncomputable def rPopAt : V → List V → Hp → VK → Prop := fun x vs H Q => ∃ l xs i k y, x = .ref l ∧ vs = [.int i] ∧ H l = some (.lst xs) ∧ -(2 ^ 63) ≤ i ∧ i < 2 ^ 63 ∧ seqIndex? i xs.length = some k ∧ xs[k]? = some y ∧ Q y (upd H l (.lst (xs.eraseIdx k)))
theorem mt_popAt : MtM X "list.pop" rPopAt := by
  intro pins s σ H x vs v us Q I rx rv h
  obtain ⟨l, xs, i, k, y, rfl, rfl, hH, h1, h2, hk, hy, q⟩ := h
  cases rx
  obtain ⟨u, rfl, ru⟩ := rv.one
  obtain ⟨t, rfl⟩ := ru
  obtain ⟨z, its, n, r, hl, e⟩ := I.lstM hH
  obtain ⟨w, hw, rw'⟩ := r.get hy
  refine call_meets F.slot_list_pop ⟨_, e, rfl⟩ F.entry_list_pop (F.args_list_pop_2 _ _)
    (MeetsSeq.list_pop_at l its.toArray n i t k w (fitsIndex_both h1 h2) (by rw [List.size_toArray, ← hl]; exact hk) (by rw [← Array.getElem?_toList]; exact hw) (by rw [List.size_toArray]; omega)) ⟨e, ?_⟩
  refine ⟨y, _, I.lset (its' := its.eraseIdx k) hH e ?_ (r.eraseIdx k) ?_, rw', q⟩
  · show its.toArray.eraseIdxIfInBounds k = (its.eraseIdx k).toArray
    rw [List.eraseIdxIfInBounds_toArray]
  · have := len_erase xs k
    omega
noncomputable def rCat : R2 := fun x y H Q => ∃ l b xs zs, x = .ref l ∧ y = .ref b ∧ H l = some (.lst xs) ∧ H b = some (.lst zs) ∧ xs.length + zs.length ≤ sizeLine ∧ ∀ p, H p = none → Q (.ref p) (upd H p (.lst (xs ++ zs)))
theorem op_cat : OpR X (binaryOp .Add) rCat := by
  intro pins s σ H x y v u Q I rx ry h
  obtain ⟨l, b, xs, zs, rfl, rfl, hH, hB, hz, q⟩ := h
  cases rx
  cases ry
  obtain ⟨z, its, n, r, hl, e⟩ := I.lstM hH
  obtain ⟨z2, its2, n2, r2, hl2, e2⟩ := I.lstM hB
  refine PySem.P.add_list e e2 ?_ (by rw [List.size_toArray, List.size_toArray]; omega)
  have ea : its.toArray ++ its2.toArray = (its ++ its2).toArray := by simp
  rw [ea]
  exact ⟨.ref _, _, I.lnew (t' := s.toks) (r.append r2) (by rw [List.length_append]; omega), rfl, q _ I.fresh⟩
noncomputable def rRep : R2 := fun x y H Q => ∃ l k xs, x = .ref l ∧ y = .int k ∧ H l = some (.lst xs) ∧ -(2 ^ 63) ≤ k ∧ k < 2 ^ 63 ∧ xs.length * k.toNat ≤ sizeLine ∧
  ∀ p, H p = none → Q (.ref p) (upd H p (.lst (List.replicate k.toNat xs).flatten))
theorem len_rep {α : Type} (xs : List α) (k : Nat) : (List.replicate k xs).flatten.length = k * xs.length := by
  induction k with
  | zero => simp
  | succ k ih => rw [List.replicate_succ, List.flatten_cons, List.length_append, ih, Nat.succ_mul, Nat.add_comm]
theorem op_rep : OpR X (binaryOp .Mult) rRep := by
  intro pins s σ H x y v u Q I rx ry h
  obtain ⟨l, k, xs, rfl, rfl, hH, h1, h2, hz, q⟩ := h
  cases rx
  obtain ⟨t, rfl⟩ := ry
  obtain ⟨z, its, n, r, hl, e⟩ := I.lstM hH
  have hlen : its.toArray.size * k.toNat ≤ sizeLine := by rw [List.size_toArray, ← hl]; exact hz
  have hcap : ¬ its.toArray.size * k.toNat > (2 ^ 63 - 1) / 8 := by
    have : (sizeLine : Nat) ≤ (2 ^ 63 - 1) / 8 := by decide
    omega
  have hfit : ¬ (!Builtin.List.listFitsIndex k) = true := by
    rw [fitsIndex_both h1 h2]
    exact Bool.false_ne_true
  have hlong : ¬ Builtin.List.listTooLong (its.toArray.size * k.toNat) = true := by
    rw [notLongL hlen]
    exact Bool.false_ne_true
  have hnew : List.foldl (fun x1 x2 => x1 ++ x2) #[] (List.replicate (if its.toArray.isEmpty = true then 0 else k.toNat) its.toArray) = (List.replicate k.toNat its).flatten.toArray := by
    have f0 : ∀ m : Nat, List.foldl (fun x1 x2 => x1 ++ x2) #[] (List.replicate m its.toArray) = (List.replicate m its).flatten.toArray := fun m => by
      have := foldl_rep its m []
      rw [List.nil_append] at this
      exact this
    rw [f0]
    cases its with
    | nil => simp
    | cons a r' => rw [if_neg (by simp)]
  refine wpAny_binaryOp_repeat_ref (T := "list") (U := "int") (by decide) ⟨_, e, rfl⟩ (fun s' => typeIs_int s' k t) noFill_list_mul F.fills_int_mul F.slot_int_rmul repeat_list F.slot_int_index.lookup
    (call_meets F.slot_int_rmul (typeIs_int s k t) F.entry_int_rmul (F.args_int_rmul_2 _ _) (int___rmul___int_list k t l its.toArray n)
      ⟨e, rfl, ⟨_, e, rfl⟩, call_meets F.slot_list_mul ⟨_, e, rfl⟩ F.entry_list_mul (F.args_list_mul_2 _ _) (AutoListH.list___mul___list_int_3 l its.toArray n k t hfit hcap hlong) ⟨e, ?_⟩⟩)
  rw [hnew]
  exact ⟨.ref _, _, I.lnew (t' := s.toks) (r.rep k.toNat) (by rw [len_rep, Nat.mul_comm]; exact hz), rfl, q _ I.fresh⟩
end
section
variable {prog : Program} {w : World} {A : Around} {E : Value → Shared → Prop} {s : Shared}
set_option maxRecDepth 100000 in
end
section
variable {X : Cx}
end
end L2
namespace L2
open PySem PySem.Spec PyProof.Rows
section
variable {κ : Type} [DecidableEq κ]
noncomputable def valV (kvs : List (κ × V)) (k : κ) : Option V := (kvs.find? fun kv => decide (kv.1 = k)).map (·.2)
noncomputable def putK (kvs : List (κ × V)) (k : κ) (v : V) : List (κ × V) :=
  if (kvs.any fun kv => decide (kv.1 = k)) = true then kvs.map (fun kv => if kv.1 = k then (kv.1, v) else kv) else kvs ++ [(k, v)]
theorem valV_nil {k : κ} : valV ([] : List (κ × V)) k = none := rfl
theorem valV_pos {p : κ × V} {r : List (κ × V)} {k : κ} (e : p.1 = k) : valV (p :: r) k = some p.2 := by simp [valV, List.find?_cons, e]
theorem valV_neg {p : κ × V} {r : List (κ × V)} {k : κ} (e : ¬ p.1 = k) : valV (p :: r) k = valV r k := by simp [valV, List.find?_cons, e]
theorem valV_any (k : κ) : ∀ kvs : List (κ × V), (kvs.any fun kv => decide (kv.1 = k)) = (valV kvs k).isSome
  | [] => rfl
  | p :: r => by
    rw [List.any_cons]
    by_cases e : p.1 = k
    · simp only [valV_pos e, decide_eq_true e, Bool.true_or, Option.isSome_some]
    · rw [valV_neg e, decide_eq_false e, Bool.false_or]; exact valV_any k r
theorem length_putK (kvs : List (κ × V)) (k : κ) (v : V) : (putK kvs k v).length ≤ kvs.length + 1 := by
  unfold putK
  split
  · rw [List.length_map]; omega
  · rw [List.length_append, List.length_cons, List.length_nil]; omega
theorem RelO.isSome_eq {o : Option V} {u : Option Value} (r : RelO o u) : o.isSome = u.isSome := by
  cases o with
  | none => cases u with
    | none => rfl
    | some _ => exact (show False from r).elim
  | some _ => cases u with
    | none => exact (show False from r).elim
    | some _ => rfl
theorem KV.val {kvs : List (κ × V)} {vs : List (κ × Value)} (r : KV kvs vs) (k : κ) : RelO (valV kvs k) (valueAt vs k) := by
  unfold KV at r
  induction r with
  | nil => exact True.intro
  | @cons p q ps qs h t ih =>
    obtain ⟨h1, h2⟩ := h
    by_cases e : p.1 = k
    · have e' : q.1 = k := h1.symm.trans e
      have b : valueAt (q :: qs) k = some q.2 := by simp [valueAt, List.find?_cons, e']
      rw [valV_pos e, b]; exact h2
    · have e' : ¬ q.1 = k := fun z => e (h1.trans z)
      have b : valueAt (q :: qs) k = valueAt qs k := by simp [valueAt, List.find?_cons, e']
      rw [valV_neg e, b]; exact ih
theorem KV.any {kvs : List (κ × V)} {vs : List (κ × Value)} (r : KV kvs vs) (k : κ) : (kvs.any fun kv => decide (kv.1 = k)) = vs.any fun kv => decide (kv.1 = k) := by
  unfold KV at r
  induction r with
  | nil => rfl
  | cons h t ih => rw [List.any_cons, List.any_cons, ih, h.1]
theorem KV.repl {kvs : List (κ × V)} {vs : List (κ × Value)} (r : KV kvs vs) (k : κ) {y : V} {u : Value} (ry : RelV y u) :
    KV (kvs.map fun kv => if kv.1 = k then (kv.1, y) else kv) (vs.map fun kv => if kv.1 = k then (kv.1, u) else kv) := by
  unfold KV at r ⊢
  induction r with
  | nil => exact .nil
  | @cons p q ps qs h t ih =>
    rw [List.map_cons, List.map_cons]
    refine .cons ?_ ih
    obtain ⟨h1, h2⟩ := h
    by_cases e : p.1 = k
    · rw [if_pos e, if_pos (h1.symm.trans e)]; exact ⟨h1, ry⟩
    · rw [if_neg e, if_neg (fun z => e (h1.trans z))]; exact ⟨h1, h2⟩
theorem KV.put {kvs : List (κ × V)} {vs : List (κ × Value)} (r : KV kvs vs) (k : κ) {y : V} {u : Value} (ry : RelV y u) : KV (putK kvs k y) (stored vs k u) := by
  unfold putK stored
  rw [r.any k]
  by_cases e : (vs.any fun kv => decide (kv.1 = k)) = true
  · rw [if_pos e, if_pos e]; exact r.repl k ry
  · rw [if_neg e, if_neg e]; exact Paired.snoc r ⟨rfl, ry⟩
theorem KV.length {kvs : List (κ × V)} {vs : List (κ × Value)} (r : KV kvs vs) : kvs.length = vs.length := Paired.length r
end
theorem kV_is {P : Program} {w : World} {k : Key} {u : Value} (r : RelV (kV k) u) : (mixKind P w).is k u = true := by
  cases k with
  | inl i => obtain ⟨t, e⟩ := (show ∃ t, u = Value.int i t from r); subst e; exact mixKind_int P w i t
  | inr x => obtain ⟨t, e⟩ := (show ∃ t, u = Value.str x t from r); subst e; exact mixKind_str P w x t
theorem items_are {P : Program} {w : World} : ∀ {ks : List Key} {us : List Value}, Vals (ks.map kV) us → ItemsAre (mixKind P w) ks us
  | [], _, r => by rw [List.map_nil] at r; cases r; exact .nil
  | k :: ks, _, r => by
    rw [List.map_cons] at r
    cases r with
    | cons h t => exact .cons (kV_is h) (items_are t)
noncomputable abbrev KT (H : Hp) : List (List Key × V) → List (List Key × Addr × Value) → Prop := Paired fun p q => p.1 = q.1 ∧ H q.2.1 = some (.tup (p.1.map kV)) ∧ RelV p.2 q.2.2
theorem KT.val {H : Hp} {kvs : List (List Key × V)} {xs : List (List Key × Addr × Value)} (r : KT H kvs xs) (k : List Key) : RelO (valV kvs k) ((atKey xs k).map (·.2)) := by
  induction r with
  | nil => exact True.intro
  | @cons p q ps qs h t ih =>
    obtain ⟨h1, _, h2⟩ := h
    by_cases e : p.1 = k
    · have e' : q.1 = k := h1.symm.trans e
      have b : atKey (q :: qs) k = some q.2 := by simp [atKey, List.find?_cons, e']
      rw [valV_pos e, b]; exact h2
    · have e' : ¬ q.1 = k := fun z => e (h1.trans z)
      have b : atKey (q :: qs) k = atKey qs k := by simp [atKey, List.find?_cons, e']
      rw [valV_neg e, b]; exact ih
theorem KT.repl {H : Hp} {kvs : List (List Key × V)} {xs : List (List Key × Addr × Value)} (r : KT H kvs xs) (k : List Key) {y : V} {u : Value} (ry : RelV y u) :
    KT H (kvs.map fun kv => if kv.1 = k then (kv.1, y) else kv) (xs.map (putAt k u)) := by
  induction r with
  | nil => exact .nil
  | @cons p q ps qs h t ih =>
    rw [List.map_cons, List.map_cons]
    refine .cons ?_ ih
    obtain ⟨h1, h2, h3⟩ := h
    unfold putAt
    by_cases e : p.1 = k
    · rw [if_pos e, if_pos (h1.symm.trans e)]; exact ⟨h1, h2, ry⟩
    · rw [if_neg e, if_neg (fun z => e (h1.trans z))]; exact ⟨h1, h2, h3⟩
theorem KT.put {H : Hp} {kvs : List (List Key × V)} {xs : List (List Key × Addr × Value)} (r : KT H kvs xs) (k : List Key) {b : Addr} {y : V} {u : Value} (hb : H b = some (.tup (k.map kV))) (ry : RelV y u) :
    KT H (putK kvs k y) (storedH xs k b u) := by
  have e : (kvs.any fun kv => decide (kv.1 = k)) = (atKey xs k).isSome := by
    rw [valV_any, (r.val k).isSome_eq, Option.isSome_map]
  unfold putK storedH
  rw [e]
  by_cases q : (atKey xs k).isSome = true
  · rw [if_pos q, if_pos q]; exact r.repl k ry
  · rw [if_neg q, if_neg q]; exact Paired.snoc r ⟨rfl, hb, ry⟩
theorem KT.keeps {H H' : Hp} {kvs : List (List Key × V)} {xs : List (List Key × Addr × Value)} (r : KT H kvs xs) (ht : ∀ b ys, H b = some (.tup ys) → H' b = some (.tup ys)) : KT H' kvs xs :=
  Paired.mapP r fun _ _ z => ⟨z.1, ht _ _ z.2.1, z.2.2⟩
section
variable {P : Program} {w : World} {H : Hp} {h : Heap} {a : Addr}
theorem rd_of {u : HO} (ok : HOk P w H h) (e : Rd H a u) : ObjOk P w H h a u := e.ok ok
theorem dk_rd {kvs : List (Key × V)} (ok : HOk P w H h) (e : Rd H a (.dK kvs)) : kvs.length ≤ sizeLine ∧ (a == sysModules) = false ∧ ∃ vs, KV kvs vs ∧ h.DictOf (mixKind P w) a vs :=
  show ObjOk P w H h a (.dK kvs) from rd_of ok e
theorem dk_of {kvs : List (Key × V)} (ok : HOk P w H h) (e : H a = some (.dK kvs)) : kvs.length ≤ sizeLine ∧ (a == sysModules) = false ∧ ∃ vs, KV kvs vs ∧ h.DictOf (mixKind P w) a vs := dk_rd ok (.inl e)
theorem key_of {ks : List Key} (ok : HOk P w H h) (e : H a = some (.tup (ks.map kV))) : (tupleKind (mixKind P w)).is h ks a := by
  obtain ⟨_, its, r, o, h1, h2, ⟨n, h3⟩, _⟩ := (show ObjOk P w H h a (.tup (ks.map kV)) from ok a _ e)
  exact ⟨o, its.toArray, n, h1, h2, h3, by simpa using items_are r⟩
theorem dt_rd {kvs : List (List Key × V)} (ok : HOk P w H h) (e : Rd H a (.dT kvs)) : kvs.length ≤ sizeLine ∧ (a == sysModules) = false ∧
    ∃ xs, KT H kvs xs ∧ h.DictOfH (tupleKind (mixKind P w)) a xs := by
  obtain ⟨z, y, xs, r, o, es, ep, h1, h2, h3, h4, h5⟩ := (show ObjOk P w H h a (.dT kvs) from rd_of ok e)
  refine ⟨z, y, xs, r, o, es, ep, h1, h2, h3, h4, fun x hx => ?_, h5⟩
  have all : ∀ {l : List (List Key × V)} {m : List (List Key × Addr × Value)}, KT H l m → ∀ x ∈ m, (tupleKind (mixKind P w)).is h x.1 x.2.1 := by
    intro l m q
    induction q with
    | nil => intro x hx; exact nomatch hx
    | @cons p q ps qs hq t ih =>
      intro x hx
      rcases List.mem_cons.mp hx with e | hx
      · subst e
        exact key_of ok (by rw [← hq.1]; exact hq.2.1)
      · exact ih x hx
  exact all r x hx
theorem dt_of {kvs : List (List Key × V)} (ok : HOk P w H h) (e : H a = some (.dT kvs)) : kvs.length ≤ sizeLine ∧ (a == sysModules) = false ∧
    ∃ xs, KT H kvs xs ∧ h.DictOfH (tupleKind (mixKind P w)) a xs := dt_rd ok (.inl e)
end
noncomputable def DGet (H : Hp) (a : Addr) (y : V) (r : Option V) : Prop :=
  (∃ kvs k, Rd H a (.dK kvs) ∧ y = kV k ∧ r = valV kvs k) ∨ ∃ kvs k b, Rd H a (.dT kvs) ∧ y = .ref b ∧ H b = some (.tup (k.map kV)) ∧ r = valV kvs k
noncomputable def DPut (H : Hp) (a : Addr) (y v : V) (H' : Hp) : Prop :=
  (∃ kvs k, H a = some (.dK kvs) ∧ y = kV k ∧ kvs.length < sizeLine ∧ H' = upd H a (.dK (putK kvs k v))) ∨
  ∃ kvs k b, H a = some (.dT kvs) ∧ y = .ref b ∧ H b = some (.tup (k.map kV)) ∧ kvs.length < sizeLine ∧ H' = upd H a (.dT (putK kvs k v))
theorem DGet.k {H : Hp} {a : Addr} {kvs : List (Key × V)} {k : Key} (e : H a = some (.dK kvs)) : DGet H a (kV k) (valV kvs k) := .inl ⟨kvs, k, .inl e, rfl, rfl⟩
theorem DPut.k {H : Hp} {a : Addr} {kvs : List (Key × V)} {k : Key} {v : V} (e : H a = some (.dK kvs)) (hl : kvs.length < sizeLine) : DPut H a (kV k) v (upd H a (.dK (putK kvs k v))) := .inl ⟨kvs, k, e, rfl, hl, rfl⟩
section
variable {X : Cx} {pins : List (Addr × Obj)} {σ : St} {H : Hp} {s : Shared} {a : Addr} {y v : V} {u r : Value} {o : Option V} {A : Around} {E : Value → Shared → Prop}
theorem Inv.big (I : Inv X pins σ H s) : sysModules < s.heap.objs.size := by
  have h : mainGlobals < s.heap.objs.size := (I.mod.glob.keeps I.bk).lt
  exact Nat.lt_trans (by decide) h
theorem d_getItem {Q : Value → Shared → Prop} (hu : A.units + 1 < cLine) (I : Inv X pins σ H s) (g : DGet H a y (some v)) (ry : RelV y u) (h : ∀ w' s', Inv X pins σ H s' → RelV v w' → Q w' s') :
    wpAny (model X.prog X.w) A (getItem (.ref a) u) Q E s := by
  rcases g with ⟨kvs, k, e, ey, l⟩ | ⟨kvs, k, b, e, ey, eb, l⟩
  · subst ey
    obtain ⟨z, hd, vs, rel, dd⟩ := dk_rd I.hok e
    obtain ⟨w', hw, rw'⟩ := RelO.some_of (v := v) (o := valueAt vs k) (by rw [l]; exact rel.val k)
    exact wpAny_getItem_of (kV_is ry) dd.mapOf hw (h w' _ (I.tok _) rw')
  · subst ey
    cases (show u = Value.ref b from ry)
    obtain ⟨z, hd, xs, rel, dd⟩ := dt_rd I.hok e
    obtain ⟨w', hw, rw'⟩ := RelO.some_of (v := v) (o := (atKey xs k).map (·.2)) (by rw [l]; exact rel.val k)
    obtain ⟨p, hp, hp2⟩ := Option.map_eq_some_iff.mp hw
    refine wpAny_getItem_heap (tupleKind_room_in1 hu) (key_of I.hok eb) dd hp ?_
    rw [hp2]
    exact h w' _ (I.tok _) rw'
theorem d_in {Q : Value → Shared → Prop} (hu : A.units + 1 < cLine) (I : Inv X pins σ H s) (g : DGet H a y o) (ry : RelV y u) (h : ∀ s', Inv X pins σ H s' → Q (.bool o.isSome) s') :
    wpAny (model X.prog X.w) A (compareOp .In u (.ref a)) Q E s := by
  rcases g with ⟨kvs, k, e, ey, l⟩ | ⟨kvs, k, b, e, ey, eb, l⟩
  · subst ey
    obtain ⟨z, hd, vs, rel, dd⟩ := dk_rd I.hok e
    refine wpAny_in_of (kV_is ry) hd dd.mapOf ?_
    rw [← (rel.val k).isSome_eq, ← l]
    exact h _ (I.tok _)
  · subst ey
    cases (show u = Value.ref b from ry)
    obtain ⟨z, hd, xs, rel, dd⟩ := dt_rd I.hok e
    refine wpAny_in_heap (tupleKind_room_in1 hu) (key_of I.hok eb) hd dd ?_
    have q := (rel.val k).isSome_eq
    rw [Option.isSome_map] at q
    rw [← q, ← l]
    exact h _ (I.tok _)
theorem d_notIn {Q : Value → Shared → Prop} (hu : A.units + 1 < cLine) (I : Inv X pins σ H s) (g : DGet H a y o) (ry : RelV y u) (h : ∀ s', Inv X pins σ H s' → Q (.bool (!o.isSome)) s') :
    wpAny (model X.prog X.w) A (compareOp .NotIn u (.ref a)) Q E s := by
  rcases g with ⟨kvs, k, e, ey, l⟩ | ⟨kvs, k, b, e, ey, eb, l⟩
  · subst ey
    obtain ⟨z, hd, vs, rel, dd⟩ := dk_rd I.hok e
    refine wpAny_notIn_of (kV_is ry) hd dd.mapOf ?_
    rw [← (rel.val k).isSome_eq, ← l]
    exact h _ (I.tok _)
  · subst ey
    cases (show u = Value.ref b from ry)
    obtain ⟨z, hd, xs, rel, dd⟩ := dt_rd I.hok e
    refine wpAny_notIn_heap (tupleKind_room_in1 hu) (key_of I.hok eb) hd dd ?_
    have q := (rel.val k).isSome_eq
    rw [Option.isSome_map] at q
    rw [← q, ← l]
    exact h _ (I.tok _)
theorem d_write {h' : Heap} {t' : Nat} {ob : HO} (I : Inv X pins σ H s) (mu : Mut (H a)) (hs : Heap.SameBut a s.heap h') (he : ∃ q, h'.get? a = some q) (new : ObjOk X.prog X.w (upd H a ob) h' a ob) :
    Inv X pins σ (upd H a ob) { s with heap := h', toks := t' } :=
  I.write (x := a) (e := a) mu (.inl rfl) (fun b q hb z => (hs.2 b hb).trans z) he new
theorem dk_new {P : Program} {w : World} {H' : Hp} {h' : Heap} {kvs : List (Key × V)} {vs : List (Key × Value)} (z : kvs.length ≤ sizeLine) (hd : (a == sysModules) = false) (rel : KV kvs vs) (dd : h'.DictOf (mixKind P w) a vs) :
    ObjOk P w H' h' a (.dK kvs) := ⟨z, hd, vs, rel, dd⟩
theorem d_setItem {H' : Hp} {Q : Unit → Shared → Prop} (hu : A.units + 1 < cLine) (I : Inv X pins σ H s) (g : DPut H a y v H') (ry : RelV y u) (rv : RelV v r) (h : ∀ s', Inv X pins σ H' s' → Q () s') :
    wpAny (model X.prog X.w) A (setItem (.ref a) u r) Q E s := by
  rcases g with ⟨kvs, k, e, ey, l, eH⟩ | ⟨kvs, k, b, e, ey, eb, l, eH⟩
  · subst ey eH
    obtain ⟨z, hd, vs, rel, dd⟩ := dk_of I.hok e
    have hz : vs.length ≤ sizeLine := by rw [← rel.length]; exact z
    have hl : (putK kvs k v).length ≤ sizeLine := by have := length_putK kvs k v; omega
    refine wpAny_setItem_pairs (hsz := hz) (kV_is ry) dd fun h' dd' hs => h _ ?_
    have he : ∃ q, h'.get? a = some q := let ⟨q, _, _, hq, _⟩ := dd'; ⟨q, hq⟩
    exact d_write I (by rw [e]; exact True.intro) hs he (dk_new hl hd (rel.put k rv) dd')
  · subst ey eH
    cases (show u = Value.ref b from ry)
    obtain ⟨z, hd, xs, rel, dd⟩ := dt_of I.hok e
    have hz : xs.length ≤ sizeLine := by rw [← Paired.length rel]; exact z
    have hl : (putK kvs k v).length ≤ sizeLine := by have := length_putK kvs k v; omega
    refine wpAny_setItem_heap (hsz := hz) (tupleKind_room_in1 hu) (key_of I.hok eb) dd fun h' dd' hs => h _ ?_
    obtain ⟨q, es, ep, hq, h2, h3, h4, _, h5⟩ := dd'
    refine d_write I (by rw [e]; exact True.intro) hs ⟨q, hq⟩ ⟨hl, hd, _, (rel.put k eb rv).keeps fun c ys ec => ?_, q, es, ep, hq, h2, h3, h4, h5⟩
    rw [upd_ne (ne_of ec e (fun z => nomatch z))]
    exact ec
end
section
variable {X : Cx} {pins : List (Addr × Obj)} {σ : St} {H : Hp} {s : Shared} {a : Addr} {kvs : List (Key × V)} {k : Key} {u : Value} {A : Around} {E : Value → Shared → Prop}
theorem d_len {Q : Value → Shared → Prop} (I : Inv X pins σ H s) (e : Rd H a (.dK kvs)) (h : ∀ t s', Inv X pins σ H s' → Q (.int kvs.length t) s') : wpAny (model X.prog X.w) A (call (.builtin "len") [.ref a]) Q E s := by
  obtain ⟨z, hd, vs, rel, dd⟩ := dk_rd I.hok e
  refine call_len_dict hd dd (by rw [← rel.length]; rw [sizeLine_eq] at z; omega) ?_
  rw [← rel.length]
  exact h _ _ (I.tok _)
end
theorem dict_typeIs {X : Cx} {pins : List (Addr × Obj)} {σ : St} {H : Hp} {s : Shared} {a : Addr} {y : V} {o : Option V} (I : Inv X pins σ H s) (g : DGet H a y o) : s.TypeIs (.ref a) "dict" := by
  rcases g with ⟨kvs, k, e, _, _⟩ | ⟨kvs, k, b, e, _, _, _⟩
  · obtain ⟨_, _, vs, _, dd⟩ := dk_rd I.hok e
    exact dd.typeIs
  · obtain ⟨_, _, xs, _, dd⟩ := dt_rd I.hok e
    exact dd.typeIs
noncomputable def sDPut (td ty tv : TE) : TS := fun D σ H => tv σ H fun v H1 => td σ H1 fun x H2 => ty σ H2 fun y H3 => ∃ a H4, x = .ref a ∧ DPut H3 a y v H4 ∧ D.nx σ H4
section
variable {X : Cx} {o i e value : Expr} {pos pos' tpos : Pos} {td ty tv : TE}
theorem ps_dput (hu : X.A.units + 1 < cLine) (ho : PE X o td) (hi : PE X i ty) (hv : PE X value tv) (hs : swapsWith value (some (.Subscript o i pos')) pos.line X.env = pure false) :
    PS X (.Assign [.Subscript o i pos'] value pos) (sDPut td ty tv) := by
  intro pins s σ H D I h
  refine wpAny_Assign_Subscript (thn (hv pins s σ H _ I h) fun r s1 ⟨v, H1, I1, rv, q1⟩ => thn (ho pins s1 σ H1 _ I1 q1) fun u s2 ⟨x, H2, I2, rx, q2⟩ => thn (hi pins s2 σ H2 _ I2 q2) fun iv s3 ⟨y, H3, I3, ry, a, H4, ex, g, q3⟩ => ?_) hs
  subst ex
  obtain rfl : u = Value.ref a := rx
  exact d_setItem hu I3 g ry rv fun s4 I4 => ⟨σ, H4, I4, q3⟩
end
theorem dk_empty {P : Program} {w : World} {H : Hp} (h : Heap) (hb : sysModules < h.objs.size) : ObjOk P w H (h.push { cls := .type "dict", data := .dict #[] }) h.objs.size (.dK []) :=
  ⟨Nat.zero_le _, beq_eq_false_iff_ne.mpr (Ne.symm (Nat.ne_of_lt hb)), [], .nil, Heap.DictOf.new h⟩
noncomputable def tDNewK : TE := fun _ H Q => ∀ p, H p = none → Q (.ref p) (upd H p (.dK []))
section
variable {X : Cx} {pos : Pos}
theorem pe_dnewK : PE X (.Dict [] [] pos) tDNewK := fun pins s σ H Q I h =>
  wpAny_Dict_empty ⟨.ref s.heap.objs.size, _, I.laid (a := s.heap.objs.size) (o := .dK []) (t' := s.toks) (fun _ _ q => Heap.get?_push_of_some _ q) (Nat.le_refl _) (dk_empty s.heap I.big), rfl, h _ (I.hok.fresh (Nat.le_refl _))⟩
end
noncomputable def tPairs : List (TE × TE) → St → Hp → (List (V × V) → Hp → Prop) → Prop
  | [], _, H, Q => Q [] H
  | (tk, tv) :: r, σ, H, Q => tk σ H fun x H1 => tv σ H1 fun y H2 => tPairs r σ H2 fun ps H3 => Q ((x, y) :: ps) H3
noncomputable abbrev VV : List (V × V) → List (Value × Value) → Prop := Paired fun p q => RelV p.1 q.1 ∧ RelV p.2 q.2
noncomputable def PPs (X : Cx) (pos : Pos) (keys : List (Option Expr)) (values : List Expr) (trs : List (TE × TE)) : Prop :=
  ∀ (pins : List (Addr × Obj)) (s : Shared) (σ : St) (H : Hp) (Q : List (V × V) → Hp → Prop), Inv X pins σ H s → tPairs trs σ H Q →
    wpAny (model X.prog X.w) X.A (evalPairs (pairTrees keys values X.env pos)) (fun vs s' => ∃ ps H', Inv X pins σ H' s' ∧ VV ps vs ∧ Q ps H') X.xe s
theorem pps_nil {X : Cx} {pos : Pos} : PPs X pos [] [] [] := fun pins s σ H Q I h => pairTrees_nil_walk ⟨[], H, I, .nil, h⟩
theorem pps_cons {X : Cx} {pos : Pos} {k v : Expr} {ks : List (Option Expr)} {vs : List Expr} {tk tv : TE} {trs : List (TE × TE)} (hk : PE X k tk) (hv : PE X v tv) (hr : PPs X pos ks vs trs) :
    PPs X pos (some k :: ks) (v :: vs) ((tk, tv) :: trs) := fun pins s σ H Q I h =>
  pairTrees_cons_walk (thn (hk pins s σ H _ I h) fun u s1 ⟨x, H1, I1, rx, q1⟩ => thn (hv pins s1 σ H1 _ I1 q1) fun w2 s2 ⟨y, H2, I2, ry, q2⟩ =>
    thn (hr pins s2 σ H2 _ I2 q2) fun ws s3 ⟨ps, H3, I3, rel, q3⟩ => ⟨(x, y) :: ps, H3, I3, .cons ⟨rx, ry⟩ rel, q3⟩)
noncomputable def mergeK (kvs more : List (Key × V)) : List (Key × V) := more.foldl (fun acc kv => putK acc kv.1 kv.2) kvs
theorem KV.merge : ∀ {more : List (Key × V)} {rs : List (Key × Value)} {kvs : List (Key × V)} {vs : List (Key × Value)}, KV more rs → KV kvs vs → KV (mergeK kvs more) (merged vs rs) := by
  intro more rs kvs vs r
  unfold KV at r
  induction r generalizing kvs vs with
  | nil => intro q; exact q
  | @cons p q ps qs h t ih =>
    intro r0
    have e : KV (putK kvs p.1 p.2) (stored vs q.1 q.2) := by
      have := r0.put p.1 h.2
      rw [← h.1]; exact this
    exact ih e
theorem length_mergeK : ∀ (more kvs : List (Key × V)), (mergeK kvs more).length ≤ kvs.length + more.length
  | [], kvs => by show kvs.length ≤ kvs.length + 0; omega
  | p :: r, kvs => by
    have h1 := length_mergeK r (putK kvs p.1 p.2)
    have h2 := length_putK kvs p.1 p.2
    show (mergeK (putK kvs p.1 p.2) r).length ≤ _
    rw [List.length_cons]; omega
theorem carries_of {P : Program} {w : World} : ∀ {kvs : List (Key × V)} {ws : List (Value × Value)}, VV (kvs.map fun kv => (kV kv.1, kv.2)) ws → ∃ rs, Carries (mixKind P w) ws rs ∧ KV kvs rs
  | [], _, r => by rw [List.map_nil] at r; cases r; exact ⟨[], True.intro, .nil⟩
  | p :: kvs, _, r => by
    rw [List.map_cons] at r
    cases r with
    | @cons a b as bs h t =>
      obtain ⟨rs, c, q⟩ := carries_of (P := P) (w := w) t
      obtain ⟨b1, b2⟩ := b
      exact ⟨(p.1, b2) :: rs, ⟨kV_is h.1, rfl, c⟩, .cons ⟨rfl, h.2⟩ q⟩
noncomputable def tDisp (trs : List (TE × TE)) : TE := fun σ H Q => ∀ p, H p = none → tPairs trs σ (upd H p (.dK [])) fun ps H2 => H2 p = some (.dK []) ∧ ∃ kvs : List (Key × V), ps = kvs.map (fun kv => (kV kv.1, kv.2)) ∧ kvs.length ≤ 15 ∧ Q (.ref p) (upd H2 p (.dK (mergeK [] kvs)))
theorem pe_disp {X : Cx} {pos : Pos} {keys : List (Option Expr)} {values : List Expr} {trs : List (TE × TE)} (h : PPs X pos keys values trs) (hall : keys.all (·.isSome) = true) (hl : keys.length = values.length) (h0 : keys ≠ [])
    (h15 : keys.length ≤ 15) : PE X (.Dict keys values pos) (tDisp trs) := by
  intro pins s σ H Q I q
  have hn := I.hok.fresh (Nat.le_refl s.heap.objs.size)
  have I1 := I.laid (a := s.heap.objs.size) (o := .dK []) (h' := s.heap.push { cls := .type "dict", data := .dict #[] }) (t' := s.toks) (fun _ _ q => Heap.get?_push_of_some _ q) (Nat.le_refl _) (dk_empty s.heap I.big)
  refine wpAny_Dict_walk (knd := mixKind X.prog X.w) hall hl h0 h15 (thn (h pins _ σ _ _ I1 (q _ hn)) fun ws s2 ⟨ps, H2, I2, rel, e, kvs, ep, lk, q2⟩ => ?_)
  subst ep
  obtain ⟨rs, c, rk⟩ := carries_of (P := X.prog) (w := X.w) rel
  obtain ⟨z, hd, vs0, r0, dd⟩ := dk_of I2.hok e
  cases r0
  refine ⟨rs, c, dd, fun h' dd' hs => ⟨.ref s.heap.objs.size, _, ?_, rfl, q2⟩⟩
  have hz : (mergeK [] kvs).length ≤ sizeLine := by
    have h1 := length_mergeK kvs []
    rw [List.length_nil] at h1
    rw [sizeLine_eq]; omega
  have he : ∃ q, h'.get? s.heap.objs.size = some q := let ⟨q, _, _, hq, _⟩ := dd'; ⟨q, hq⟩
  exact d_write I2 (by rw [e]; exact True.intro) hs he (dk_new hz hd (rk.merge .nil) dd')
section
variable {X : Cx} {pins : List (Addr × Obj)} {σ : St} {H : Hp} {s : Shared} {a : Addr} {y d : V} {u r : Value} {o : Option V} {A : Around} {E : Value → Shared → Prop}
end
section
variable {X : Cx} {o e f : Expr} {apos cpos : Pos} {td ty tx : TE}
end
section
variable {X : Cx} {pins : List (Addr × Obj)} {σ : St} {H : Hp} {s : Shared} {a : Addr} {kvs : List (Key × V)} {A : Around} {E : Value → Shared → Prop}
end
section
variable {X : Cx} {pins : List (Addr × Obj)} {σ : St} {H : Hp} {s : Shared} {a : Addr} {y : V} {u : Value} {A : Around} {E : Value → Shared → Prop}
end
end L2
namespace Att
open PySem PySem.W PySem.Calls PyProof.Rows
theorem ints_of_wellAll {P : Params} {h : Heap} : ∀ (ns : List Int) (vs : List Value), WellAll P h vs (ns.map WData.int) → IntsAre vs ns := by
  intro ns
  induction ns with
  | nil =>
    intro vs w
    rw [List.map_nil] at w
    cases w
    exact .nil
  | cons n ns ih =>
    intro vs w
    rw [List.map_cons] at w
    cases w with
    | cons a b =>
      cases a
      exact .cons _ _ (ih _ b)
theorem script_of {l : OpenLaw} {n : Nat} (hn : l.most = some n) {P : Params} {h : Heap} {args : List WData} {vals : List Value}
    (hpre : l.row.toRowW.claim.pre args = true) (hwl : WellAll P h vals args) :
    ∃ a vs ns, vals = [Value.ref a] ∧ args = [WData.list (ns.map WData.int)] ∧ h.get? a = some { cls := .type "list", data := .seq vs.toArray } ∧ IntsAre vs ns ∧ ns.length ≤ n := by
  have hsh : WShape.hasAll [] args [.list .int] = true := (pre_splitW hpre).1
  have hc : l.pre.holds [] { args := args } = true := (pre_splitW hpre).2
  obtain ⟨d, r, rfl, h1, h2⟩ := hasAllW_cons hsh
  obtain rfl := hasAllW_nil h2
  obtain ⟨xs, rfl, h3⟩ := hasW_list h1
  obtain ⟨ns, rfl⟩ := items_int h3
  have hlen : ns.length ≤ n := by
    unfold OpenLaw.pre at hc
    have h4 : (WTm.not (.lt (.lit (.int (n : Int))) (.len (.arg 0)))).holds [] { args := [.list (ns.map .int)] } = true := by
      have h4 := (holds_andW hc).1
      rw [hn] at h4
      exact h4
    have h5 := condW_of h4 (w_not (w_lt w_lit (w_len_list (w_arg rfl))))
    rw [List.length_map] at h5
    refine Nat.le_of_not_lt fun q => ?_
    have q' : (n : Int) < ((ns.length : Nat) : Int) := by omega
    first
      | (rw [decide_eq_true q'] at h5; exact absurd h5 (by decide))
      | (simp at h5; omega)
  cases hwl with
  | cons w1 w2 =>
    cases w2
    cases w1 with
    | list ho hall => exact ⟨_, _, ns, rfl, rfl, ho, ints_of_wellAll ns _ hall, hlen⟩
theorem post_true (l : OpenLaw) (args : List WData) : l.row.toRowW.claim.post args (.bool true) args = true :=
  postW_of (r := l.row.toRowW) (X := (true == true))
    (show WShape.has [] (.bool true) .bool = true by first | rfl | decide | simp [WShape.has, WShape.arms, WShape.armsAll])
    (show (WTm.eq .res (.lit (.bool true))).value [] { args := args, res := some (.bool true), after := args } = some (.bool (true == true)) from w_eq_bool (w_res rfl) w_lit) rfl
theorem attach_call {l : OpenLaw} {n : Nat} {q : Program} {loose : List Str} {XP : (Str → Option Value) → Heap → Prop} {YP : World → Heap → Prop} {d : DefRec}
    (hn : l.most = some n) (hdf : d.params.defaults = [])
    (call : ∀ (w : World) (s₀ s₁ : Shared) (mg mb : Str → Option Value) (fa : Addr) (o : Obj) (pm cd doc : Value) (a : Addr) (vs : List Value) (ns : List Int),
      Ground q loose [] XP w s₀ mg mb s₁.heap → YP w s₁.heap →
      s₁.heap.get? fa = some o → o.data = .func (docDef d.name d.params d.body d.scope pm cd doc) → s₁.heap.CodeRec cd d.name → mg d.name = some (.ref fa) →
      s₁.heap.get? a = some { cls := .type "list", data := .seq vs.toArray } → IntsAre vs ns → ns.length ≤ n → s₁.gens = #[] →
      codeAny (model l.prog w) callerA (.call (.ref fa) ⟨[.ref a], []⟩) (fun r s' => r = .ok (.ret (.bool true)) ∧ OldK s₁.heap s'.heap ∧ s'.os = s₁.os ∧ AllBare s'.gens) s₁) :
    WalkO q loose XP YP l.row.toRowW d [] (fun f vs => PySem.call f vs) := by
  intro w s₀ s₁ mg mb G Y fa o pm cd doc dV kV ho hd hcd hD hmg hg args vals as hpre hlay hrd hwl hlo
  obtain rfl : dV = .none := Dflts.none hD hdf
  obtain rfl : kV = .none := Dflts.noKw hD
  obtain ⟨a, vs, ns, rfl, rfl, hobj, hints, hlen⟩ := script_of hn hpre hwl
  refine enter_call (codeAny_mono (call w s₀ s₁ mg mb fa o pm cd doc a vs ns G Y ho (fd_plain hd) hcd hmg hobj hints hlen hg) fun r s' hq => ?_)
  obtain ⟨rfl, h2, h3, h4⟩ := hq
  exact ⟨.inl ⟨.bool true, .bool true, [], rfl, fun _ => rfl, .bool true, post_true l _, fun _ => ⟨List.Pairwise.nil, fun _ hm => (nomatch hm)⟩⟩, h2, h3, h4⟩
section
variable {prog : Program} {w : World} {A : Around} {E : Value → Shared → Prop} {s : Shared} {K : Frag}
end
end Att
namespace L2
open PySem PySem.Spec PyProof.Rows
theorem vals_ints : ∀ {vs : List Value} {ns : List Int}, IntsAre vs ns → Vals (ns.map V.int) vs
  | _, _, .nil => .nil
  | _, _, .cons n t h => .cons ⟨t, rfl⟩ (vals_ints h)
noncomputable def Only (H : Hp) : Prop := ∀ b, H b = none ∨ ∃ o xs, H b = some (.frz o (.lst xs))
theorem law_call {P : Program} {w : World} {K : PySem.W.Frag} {mg mb : Str → Option Value} {CX : CXT} {k : Nat} {fa a : Addr} {fd : FuncData} {x : Str} {sp : Sp} {s₁ : Shared} {vs : List Value} {ns : List Int}
    (KX : K.In s₁.heap) (hns : s₁.heap.Ns mainGlobals mg) (hb : s₁.heap.Ns builtinsNs mb) (hbb : ∀ x : Str, x ≠ "__name__" → mb x = bootBuiltins x) (hlim : s₁.heap.NoLimit) (hg : s₁.gens = #[])
    (ha : s₁.heap.get? a = some { cls := .type "list", data := .seq vs.toArray }) (hi : IntsAre vs ns) (hl : ns.length ≤ sizeLine) (hr : Room k callerA)
    (F : ∀ base : Heap, K.In base → base.Ns mainGlobals mg → FnOk P w K mg base CX k fa fd [x] sp) (hbind : ∀ (s : Shared) (u : Value), BindsTo s fd ⟨[u], []⟩ [(x, u)])
    (hsp : ∀ H : Hp, Only H → SqL K H a (ns.map V.int) → sp [.ref a] H (fun v _ => v = .bl true) fun _ _ _ => False)
    (hCX : ∀ H e s', CX [] H s₁ (fun _ _ _ => False) e s' → False) :
    codeAny (model P w) callerA (.call (.ref fa) ⟨[.ref a], []⟩) (fun r s' => r = .ok (.ret (.bool true)) ∧ OldK s₁.heap s'.heap ∧ s'.os = s₁.os ∧ AllBare s'.gens) s₁ := by
  have rv := vals_ints hi
  have lenV := hi.length
  -- from an abstract heap in which nothing but the script may be tracked
  have core : ∀ H : Hp, Only H → SqL K H a (ns.map V.int) → HOk P w H s₁.heap → (∀ b, H b ≠ none → b = a) → (H a ≠ none → K.lookup a = none) →
      codeAny (model P w) callerA (.call (.ref fa) ⟨[.ref a], []⟩) (fun r s' => r = .ok (.ret (.bool true)) ∧ OldK s₁.heap s'.heap ∧ s'.os = s₁.os ∧ AllBare s'.gens) s₁ := by
    intro H hO hS hok hA hK
    have base_of : ∀ {b : Addr} {o : Obj}, s₁.heap.get? b = some o → H b = none → (hidT s₁.heap H).get? b = some o := fun e n => hidT_get e n
    have noA : ∀ {b : Addr} {o : Obj} {es : Array DictEntry} {ep : Nat}, s₁.heap.get? b = some o → o.data = .dict es ep → H b = none := fun {b o es ep} e d => by
      cases q : H b with
      | none => rfl
      | some u =>
        have e' : b = a := hA b (by rw [q]; simp)
        subst e'
        rw [ha] at e; cases e
        have d' : Data.seq vs.toArray _ = Data.dict es ep := d
        cases d'
    have nsK : ∀ {b : Addr} {m : Str → Option Value}, s₁.heap.Ns b m → (hidT s₁.heap H).Ns b m := fun {b m} ⟨o, es, ep, e, d, r⟩ => ⟨o, es, ep, base_of e (noA e d), d, r⟩
    have hKb : K.In (hidT s₁.heap H) := fun b o e => base_of (KX b o e) (by
      cases q : H b with
      | none => rfl
      | some u =>
        have e' : b = a := hA b (by rw [q]; simp)
        subst e'
        rw [hK (by rw [q]; simp)] at e; cases e)
    have hM : Mod K mg (hidT s₁.heap H) := ⟨hKb, nsK hns, ⟨mb, nsK hb, hbb⟩, let ⟨mc, h1, h2⟩ := hlim; ⟨mc, nsK h1, h2⟩⟩
    have e0 : Env0 P w K mg (hidT s₁.heap H) callerA [] s₁ H := ⟨rfl, hM, fun b o e => of_hidT e, Nat.le_of_eq (hidT_size _ _), trivial, fun b hb => absurd (show b ∈ ([] : List Addr) from hb) (by simp), hok, .of_eq hg⟩
    refine codeAny_mono ((F _ hKb (nsK hns)).run callerA [] s₁ H ⟨[.ref a], []⟩ [.ref a] [.ref a] _ _ hr e0 (hbind s₁ (.ref a)) (.cons rfl .nil) (hsp H hO hS)) fun r s' h => ?_
    cases r with
    | error e => exact (hCX H e s' h).elim
    | ok fl =>
      cases fl with
      | next => exact False.elim h
      | brk => exact False.elim h
      | cont => exact False.elim h
      | ret u =>
        obtain ⟨v, H', os, bare, un, hok', r', q⟩ := h
        have q' : v = .bl true := q
        subst q'
        obtain rfl : u = Value.bool true := r'
        refine ⟨rfl, OldK.of_keep fun b o e => ?_, os, bare⟩
        cases q : H b with
        | none => exact un.keep b o e q (by intro z; exact absurd (show b ∈ ([] : List Addr) from z) (by simp)) (by simp)
        | some u =>
          rcases hO b with z | ⟨ob, xs, z⟩
          · rw [q] at z; cases z
          · have z2 := un.frzs b ob _ z
            obtain ⟨e1, _⟩ := hok b _ z
            obtain ⟨e2, _⟩ := hok' b _ z2
            rw [e] at e1; cases e1
            exact e2
  cases hk : K.lookup a with
  | some o =>
    -- the script is one of the module's own objects
    have e := KX a o hk
    rw [ha] at e
    cases e
    refine core (fun _ => none) (fun _ => .inl rfl) (.inr ⟨_, vs.toArray, _, hk, rfl, rfl, rfl, by rw [List.size_toArray, lenV]; exact hl, by simpa using rv⟩) (fun b u z => by have z' : (none : Option HO) = some u := z; cases z') (fun b z => absurd rfl z) fun z => absurd rfl z
  | none =>
    refine core (fun b => if b = a then some (.frz { cls := .type "list", data := .seq vs.toArray } (.lst (ns.map V.int))) else none) (fun b => ?_) (.inl (.inr ⟨{ cls := .type "list", data := .seq vs.toArray }, if_pos rfl⟩)) (fun b u z => ?_) (fun b z => ?_) fun _ => hk
    · by_cases hb : b = a
      · exact .inr ⟨_, _, if_pos hb⟩
      · exact .inl (if_neg hb)
    · by_cases hb : b = a
      · have z' := (if_pos hb).symm.trans z
        cases z'
        subst hb
        exact ⟨ha, by rw [List.length_map]; exact hl, vs, _, rv, ha⟩
      · have z' := (if_neg hb).symm.trans z
        cases z'
    · by_cases hb : b = a
      · exact hb
      · exact absurd (if_neg hb) z
end L2
namespace L2
open PySem PySem.Spec PyProof.Rows
theorem walk_of {l : PySem.W.OpenLaw} {n k : Nat} {q : Program} {loose : List Str} {XP : (Str → Option Value) → Heap → Prop} {YP : World → Heap → Prop} {d : DefRec} {K : Params → PySem.W.Frag} {CX : World → CXT} {sp : World → Sp} {x : Str}
    (hn : l.most = some n) (hn2 : n ≤ sizeLine) (hdf : d.params.defaults = []) (hr : Room k callerA)
    (hY : ∀ (w : World) (h : Heap), YP w h → (K w.params).In h)
    (F : ∀ (w : World) (mg : Str → Option Value) (fa : Addr) (h : Heap), (K w.params).In h → h.Ns mainGlobals mg → mg d.name = some (.ref fa) →
      ∃ fd : FuncData, (∀ (s : Shared) (u : Value), BindsTo s fd ⟨[u], []⟩ [(x, u)]) ∧
        ∀ base : Heap, (K w.params).In base → base.Ns mainGlobals mg → FnOk l.prog w (K w.params) mg base (CX w) k fa fd [x] (sp w))
    (hsp : ∀ (w : World) (H : Hp) (a : Addr) (ns : List Int), ns.length ≤ n → Only H → SqL (K w.params) H a (ns.map V.int) → sp w [.ref a] H (fun v _ => v = .bl true) fun _ _ _ => False)
    (hCX : ∀ (w : World) (H : Hp) (s : Shared) (e : Value) (s' : Shared), CX w [] H s (fun _ _ _ => False) e s' → False) :
    PySem.W.WalkO q loose XP YP l.row.toRowW d [] (fun f vs => PySem.call f vs) := by
  refine Att.attach_call hn hdf fun w s₀ s₁ mg mb fa o pm cd doc a vs ns G Y ho hd hcd hmg hobj hints hlen hg => ?_
  have KX := hY w _ Y
  obtain ⟨fd, hb, hF⟩ := F w mg fa _ KX G.T.g hmg
  exact law_call KX G.T.g G.T.b G.T.builtins G.T.nolimit hg hobj hints (Nat.le_trans hlen hn2) hr hF hb (fun H hO hS => hsp w H a ns hlen hO hS) fun H e s' => hCX w H s₁ e s'
end L2
namespace L2
open PySem PySem.Spec PyProof.Rows
noncomputable def defArgs (s : Stmt) : Arguments := match s with
  | .FunctionDef _ a _ _ _ _ _ _ _ _ => a
  | _ => { posonlyargs := [], args := [], vararg := none, kwonlyargs := [], kw_defaults := [], kwarg := none, defaults := [] }
noncomputable def defBody (s : Stmt) : List Stmt := match s with
  | .FunctionDef _ _ b _ _ _ _ _ _ _ => b
  | _ => []
noncomputable def defScope (s : Stmt) : Scope := match s with
  | .FunctionDef _ _ _ _ _ _ sc _ _ _ => sc
  | _ => { kind := .function, names := [], isGenerator := false, isCoroutine := false }
noncomputable abbrev CX0 : CXT := fun _ _ _ _ _ _ => False
noncomputable abbrev E0 : XK := fun _ _ _ => False
theorem pass0 {X : Cx} : Passes CX0 X E0 := fun _ _ _ _ _ _ _ h => h.elim
structure Fun (K : PySem.W.Frag) (x qual : Str) (st : Stmt) (f : Addr) (fd : FuncData) : Prop where
  ex : ∃ (oc : Value) (od : Option Addr) (kV doc pm : Value) (an : Option Addr) (cdv ct : Value) (osl : Array (Option Value)),
    fd = PySem.W.fnOf x qual (defArgs st) (defBody st) (defScope st) .none kV doc pm an cdv ct ∧ K.lookup f = some ⟨oc, od, .func fd, osl⟩ ∧ PySem.W.codeIn K cdv qual = true
  kp : PySem.W.keepIn K (.ref f) = true
section
variable {P : Program} {w : World} {K : PySem.W.Frag} {mg : Str → Option Value} {base : Heap}
theorem Fun.ok {x qual : Str} {st : Stmt} {f : Addr} {fd : FuncData} {N ps : List Str} {k : Nat} {sp : Sp} (F : Fun K x qual st f fd) (S : FnScope N ps (defScope st)) (len : ∀ vs H Q E, sp vs H Q E → vs.length = ps.length)
    (hbody : ∀ (cdv : Value) (A : Around) (outer : List Env) (s : Shared) (H : Hp) (vs : List V) (Q : VK) (E : XK), Room k (A.deeper (envOfC qual (defScope st) s.heap.objs.size f cdv)) → sp vs H Q E →
      ∃ t, PSs (cxOf CX0 P w K mg base N qual (defScope st) f cdv A outer s H E).nox (defBody st) t ∧ t { nx := fun _ H' => Q .non H', rt := Q } (start N vs) H) : FnOk P w K mg base CX0 (k + 1) f fd ps sp := by
  obtain ⟨oc, od, kV, doc, pm, an, cdv, ct, osl, rfl, lk, hcd⟩ := F.ex
  refine fn_of lk hcd S len fun A outer s H vs Q E hr hsp => ?_
  obtain ⟨t, h, q⟩ := hbody cdv A outer s H vs Q E hr hsp
  exact ⟨t, h.nox, q⟩
theorem Fun.binds {x qual : Str} {st : Stmt} {f : Addr} {fd : FuncData} {ps : List Str} (F : Fun K x qual st f fd)
    (h : ∀ (kV doc pm : Value) (an : Option Addr) (cdv ct : Value) (us : List Value), us.length = ps.length → bindArgs (PySem.W.fnOf x qual (defArgs st) (defBody st) (defScope st) .none kV doc pm an cdv ct) ⟨us, []⟩ = pure (ps.zip us)) : Binds K fd ps [] := by
  obtain ⟨oc, od, kV, doc, pm, an, cdv, ct, osl, rfl, lk, hcd⟩ := F.ex
  exact .all (h kV doc pm an cdv ct)
theorem fun_mk {x qual : Str} {st : Stmt} {f : Addr} {oc : Value} {od an : Option Addr} {osl : Array (Option Value)} {kV doc pm cdv ct : Value} (l : K.lookup f = some ⟨oc, od, .func (PySem.W.fnOf x qual (defArgs st) (defBody st) (defScope st) .none kV doc pm an cdv ct), osl⟩)
    (c : PySem.W.codeIn K cdv qual = true) (k : PySem.W.keepIn K (.ref f) = true) : Fun K x qual st f (PySem.W.fnOf x qual (defArgs st) (defBody st) (defScope st) .none kV doc pm an cdv ct) := ⟨⟨oc, od, kV, doc, pm, an, cdv, ct, osl, rfl, l, c⟩, k⟩
end
theorem hu_of {A : Around} {k : Nat} (hr : Room k A) : A.units + 1 < cLine := Nat.lt_of_le_of_lt (Nat.add_le_add_left (by decide : 1 ≤ 64) _) hr.units
theorem small1000 {n : Nat} (h : n ≤ 1000) : n < sizeLine := Nat.lt_of_le_of_lt h (by decide)
section
variable {X : Cx}
theorem pv (i : Nat) {x : Str} {pos : Pos} (hN : X.N[i]? = some x := by with_unfolding_all rfl) (hv : Vis X.env.scope x := by with_unfolding_all first | exact Or.inl rfl | exact Or.inr (Or.inl rfl) | exact Or.inr (Or.inr rfl)) (hd : (x == ("__debug__" : Str)) = false := by decide)
    (hcd : (x == ("__classdict__" : Str)) = false := by decide) : PE X (.Name x pos) (tVar i) := pe_var hN hv hd hcd
end
theorem iteF {A B : Prop} (h : B) : if false = true then A else B := by
  rw [if_neg Bool.false_ne_true]
  exact h
theorem iteT {A B : Prop} (h : A) : if true = true then A else B := by
  rw [if_pos rfl]
  exact h
theorem ite2 {c A B : Prop} [Decidable c] (h1 : c → A) (h2 : ¬ c → B) : if c then A else B := by
  by_cases h : c
  · rw [if_pos h]
    exact h1 h
  · rw [if_neg h]
    exact h2 h
noncomputable def Same (H H' : Hp) : Prop := ∀ b o, H b = some o → H' b = some o
theorem Same.refl (H : Hp) : Same H H := fun _ _ h => h
theorem Same.trans {H H1 H2 : Hp} (a : Same H H1) (b : Same H1 H2) : Same H H2 := fun c o h => b c o (a c o h)
theorem Same.free {H H' : Hp} (e : Same H H') {l : Addr} (h : H' l = Option.none) : H l = Option.none := by
  cases q : H l with
  | none => rfl
  | some o =>
    rw [e l o q] at h
    cases h
theorem Same.seq {K : PySem.W.Frag} {H H' : Hp} {a : Addr} {xs : List V} (e : Same H H') (h : SqL K H a xs) : SqL K H' a xs := by
  rcases h with (h | ⟨o, h⟩) | h
  · exact .inl (.inl (e _ _ h))
  · exact .inl (.inr ⟨o, e _ _ h⟩)
  · exact .inr h
end L2
namespace L2
open PySem PySem.Spec PyProof.Rows
section
variable {X : Cx}
theorem call_lenD : CallR X (.builtin "len") (fun xs H Q => ∃ a kvs, xs = [V.ref a] ∧ H a = some (.dK kvs) ∧ Q (.int kvs.length) H) := by
  intro pins s σ H xs us Q I r h
  obtain ⟨a, kvs, rfl, ha, q⟩ := h
  obtain ⟨u, rfl, ru⟩ := vals1 r
  cases ru
  exact d_len I (.inl ha) fun t s' I' => ⟨.int kvs.length, H, I', ⟨t, rfl⟩, q⟩
end
section
variable {κ : Type} [DecidableEq κ]
end
end L2
set_option Elab.async false
set_option linter.all false
set_option maxRecDepth 100000
set_option maxHeartbeats 4000000
namespace L2
open PySem PySem.Spec PyProof.Rows
noncomputable def clOf (env : Env) (names : List (Str × NameKind)) (acc : List (Str × Addr)) : List (Str × Addr) :=
  names.foldl (fun acc y => if y.2 == NameKind.free then (y.1, (env.cells.lookup y.1).getD 0) :: acc else acc) acc
theorem closure_is {env : Env} {scope : Scope} (h : ∀ y ∈ scope.names, y.2 = NameKind.free → ∃ c, env.cells.lookup y.1 = some c) : closureFor scope env = pure (clOf env scope.names []) := by
  have all : ∀ (names : List (Str × NameKind)) (acc : List (Str × Addr)), (∀ y ∈ names, y.2 = NameKind.free → ∃ c, env.cells.lookup y.1 = some c) →
      (forIn names acc fun (y : Str × NameKind) (cs : List (Str × Addr)) => (match y with
        | (name, kind) => if (kind == NameKind.free) = true then do let c ← cellOf env name; pure (ForInStep.yield ((name, c) :: cs)) else pure (ForInStep.yield cs) : Sem (ForInStep (List (Str × Addr))))) = (pure (clOf env names acc) : Sem (List (Str × Addr))) := by
    intro names
    induction names with
    | nil => intro acc _; rfl
    | cons y r ih =>
      intro acc hy
      obtain ⟨n, k⟩ := y
      rw [List.forIn_cons]
      by_cases hk : k = NameKind.free
      · subst hk
        obtain ⟨c, hc⟩ := hy (n, .free) List.mem_cons_self rfl
        have e : cellOf env n = pure c := by unfold cellOf; rw [show env.cells.lookup n = some c from hc]
        have e2 : clOf env ((n, NameKind.free) :: r) acc = clOf env r ((n, c) :: acc) := by
          unfold clOf
          rw [List.foldl_cons]
          simp only [beq_self_eq_true, if_true]
          rw [show env.cells.lookup n = some c from hc]
          rfl
        rw [e2, ← ih ((n, c) :: acc) fun z hz => hy z (List.mem_cons_of_mem _ hz)]
        simp only [beq_self_eq_true, if_true, e]
        rfl
      · have hb : (k == NameKind.free) = false := by simpa using hk
        have e2 : clOf env ((n, k) :: r) acc = clOf env r acc := by
          unfold clOf
          rw [List.foldl_cons]
          simp only [hb, Bool.false_eq_true, if_false]
        rw [e2, ← ih acc fun z hz => hy z (List.mem_cons_of_mem _ hz)]
        simp only [hb, Bool.false_eq_true, if_false]
        rfl
  have q := all scope.names [] h
  unfold closureFor
  first
    | exact q
    | (simp only [bind_pure]; exact q)
    | (refine Eq.trans ?_ q; rfl)
theorem clOf_sub {env : Env} {x : Str} {c : Addr} : ∀ {names : List (Str × NameKind)} {acc : List (Str × Addr)}, (∀ y ∈ names, y.2 = NameKind.free → ∃ c, env.cells.lookup y.1 = some c) → (acc.lookup x = some c → env.cells.lookup x = some c) →
    (clOf env names acc).lookup x = some c → env.cells.lookup x = some c
  | [], acc, _, ha, h => ha h
  | (n, k) :: r, acc, hn, ha, h => by
    have e : clOf env ((n, k) :: r) acc = clOf env r (if k == NameKind.free then (n, (env.cells.lookup n).getD 0) :: acc else acc) := rfl
    rw [e] at h
    refine clOf_sub (fun y hy => hn y (List.mem_cons_of_mem _ hy)) (fun q => ?_) h
    by_cases hk : k = NameKind.free
    · subst hk
      simp only [beq_self_eq_true, if_true, List.lookup_cons] at q
      obtain ⟨d, hd⟩ := hn (n, .free) List.mem_cons_self rfl
      have hd' : env.cells.lookup n = some d := hd
      split at q
      · rename_i hx
        have hx' : x = n := beq_iff_eq.mp hx
        rw [hd'] at q
        rw [hx', hd']
        exact q
      · exact ha q
    · have hb : (k == NameKind.free) = false := by simpa using hk
      simp only [hb, Bool.false_eq_true, if_false] at q
      exact ha q
theorem clOf_has {env : Env} {x : Str} : ∀ {names : List (Str × NameKind)} {acc : List (Str × Addr)}, ((∃ c, acc.lookup x = some c) ∨ (x, NameKind.free) ∈ names) → ∃ c, (clOf env names acc).lookup x = some c
  | [], acc, h => by
    rcases h with h | h
    · exact h
    · cases h
  | (n, k) :: r, acc, h => by
    have e : clOf env ((n, k) :: r) acc = clOf env r (if k == NameKind.free then (n, (env.cells.lookup n).getD 0) :: acc else acc) := rfl
    rw [e]
    refine clOf_has ?_
    by_cases hk : k = NameKind.free
    · subst hk
      simp only [beq_self_eq_true, if_true, List.lookup_cons]
      by_cases hx : x = n
      · left
        have hb : (x == n) = true := beq_iff_eq.mpr hx
        rw [hb]
        exact ⟨_, rfl⟩
      · have hb : (x == n) = false := beq_eq_false_iff_ne.mpr hx
        rw [hb]
        rcases h with h | h
        · exact .inl h
        · rcases List.mem_cons.mp h with q | q
          · cases q; exact absurd rfl hx
          · exact .inr q
    · have hb : (k == NameKind.free) = false := by simpa using hk
      simp only [hb, Bool.false_eq_true, if_false]
      rcases h with h | h
      · exact .inl h
      · rcases List.mem_cons.mp h with q | q
        · cases q; exact absurd rfl hk
        · exact .inr q
theorem cells_app : ∀ (names : List (Str × NameKind)) (n : Nat) (acc : List (Str × Addr)), cellsFrom n names acc = cellsFrom n names [] ++ acc
  | [], _, _ => rfl
  | (x, k) :: r, n, acc => by
    unfold cellsFrom
    split
    · rw [cells_app r (n + 1) ((x, n) :: acc), cells_app r (n + 1) [(x, n)], List.append_assoc]
      rfl
    · exact cells_app r n acc
theorem cells_kind {x : Str} {c : Addr} : ∀ {names : List (Str × NameKind)} {n : Nat}, (x, c) ∈ cellsFrom n names [] → (x, NameKind.cell) ∈ names
  | [], _, h => by cases h
  | (y, k) :: r, n, h => by
    unfold cellsFrom at h
    split at h
    · rename_i hk
      rw [cells_app] at h
      rcases List.mem_append.mp h with h | h
      · exact List.mem_cons_of_mem _ (cells_kind h)
      · have e := List.mem_singleton.mp h
        cases e
        rw [beq_iff_eq.mp hk]
        exact List.mem_cons_self
    · exact List.mem_cons_of_mem _ (cells_kind h)
theorem lookup_ex {α : Type} {x : Str} {c : α} : ∀ {l : List (Str × α)}, (x, c) ∈ l → ∃ d, l.lookup x = some d
  | [], h => by cases h
  | (y, d) :: r, h => by
    rw [List.lookup_cons]
    cases e : x == y with
    | true => exact ⟨d, rfl⟩
    | false =>
      rcases List.mem_cons.mp h with q | q
      · cases q
        simp at e
      · exact lookup_ex q
theorem cells_has {x : Str} : ∀ {names : List (Str × NameKind)} {n : Nat}, (x, NameKind.cell) ∈ names → ∃ c, (x, c) ∈ cellsFrom n names []
  | [], _, h => by cases h
  | (y, k) :: r, n, h => by
    unfold cellsFrom
    split
    · rw [cells_app]
      rcases List.mem_cons.mp h with q | q
      · cases q
        exact ⟨n, List.mem_append_right _ (by simp)⟩
      · obtain ⟨c, hc⟩ := cells_has (n := n + 1) q
        exact ⟨c, List.mem_append_left _ hc⟩
    · rename_i hk
      rcases List.mem_cons.mp h with q | q
      · cases q
        exact absurd rfl hk
      · exact cells_has q
noncomputable def compOk (outer scope : Scope) (xs fr : List Str) : Bool :=
  (scope.kind == .function) && (outer.kind == .function) && decide (scope.names.map (·.1)).Nodup
  && (scope.names.all fun y => y.2 != .local || scope.names.lookup y.1 == some .local)
  && (scope.names.all fun y => y.2 != .free || (outer.names.lookup y.1 == some .cell || outer.names.lookup y.1 == some .free))
  && (scope.names.all fun y => y.2 != .free || scope.names.lookup y.1 == some .free)
  && (xs.all fun x => scope.names.lookup x == some .local || scope.names.lookup x == some .cell) && (fr.all fun x => scope.names.lookup x == some .free) && decide (xs ++ fr).Nodup
theorem lookup_mem {α : Type} {x : Str} {v : α} : ∀ {l : List (Str × α)}, l.lookup x = some v → (x, v) ∈ l
  | [], h => by cases h
  | (n, k) :: r, h => by
    rw [List.lookup_cons] at h
    split at h
    · rename_i hx
      have hx' : x = n := beq_iff_eq.mp hx
      cases h
      rw [hx']
      exact List.mem_cons_self
    · exact List.mem_cons_of_mem _ (lookup_mem h)
theorem lookup_relabel {scope : Scope} {env : Env} {x : Str} {k : NameKind} (hk : env.scope.kind = .function) : ∀ {names : List (Str × NameKind)}, names.lookup x = some k →
    (names.map fun (n, k) => if (k == NameKind.free && env.scope.kind == .function && env.kindOf n == some .cell) then (n, NameKind.cell) else (n, k)).lookup x = some (if (k == NameKind.free && env.kindOf x == some .cell) then .cell else k)
  | [], h => by cases h
  | (n, j) :: r, h => by
    have ih := @lookup_relabel scope env x k hk r
    rw [List.map_cons]
    rw [List.lookup_cons] at h
    dsimp only
    split at h
    · rename_i hx
      have hx' : x = n := beq_iff_eq.mp hx
      cases h
      subst hx'
      by_cases hc : (k == NameKind.free && env.scope.kind == .function && env.kindOf x == some .cell) = true
      · have hc2 : (k == NameKind.free && env.kindOf x == some .cell) = true := by
          rw [Bool.and_eq_true, Bool.and_eq_true] at hc
          rw [Bool.and_eq_true]
          exact ⟨hc.1.1, hc.2⟩
        rw [if_pos hc, if_pos hc2, List.lookup_cons, beq_self_eq_true]
      · have hc2 : ¬ (k == NameKind.free && env.kindOf x == some .cell) = true := fun q => hc (by
          rw [Bool.and_eq_true] at q
          rw [Bool.and_eq_true, Bool.and_eq_true, hk]
          exact ⟨⟨q.1, rfl⟩, q.2⟩)
        rw [if_neg hc, if_neg hc2, List.lookup_cons, beq_self_eq_true]
    · rename_i hx
      have hx' : (x == n) = false := by simpa using hx
      by_cases hc : (j == NameKind.free && env.scope.kind == .function && env.kindOf n == some .cell) = true
      · rw [if_pos hc, List.lookup_cons, hx']
        exact ih h
      · rw [if_neg hc, List.lookup_cons, hx']
        exact ih h
theorem of_lookup_relabel {env : Env} {x : Str} {k : NameKind} : ∀ {names : List (Str × NameKind)},
    (names.map fun (n, k) => if (k == NameKind.free && env.scope.kind == .function && env.kindOf n == some .cell) then (n, NameKind.cell) else (n, k)).lookup x = some k →
    ∃ j, names.lookup x = some j ∧ (k = j ∨ (j = .free ∧ k = .cell))
  | [], h => by cases h
  | (n, j) :: r, h => by
    have ih := @of_lookup_relabel env x k r
    rw [List.map_cons] at h
    dsimp only at h
    by_cases hc : (j == NameKind.free && env.scope.kind == .function && env.kindOf n == some .cell) = true
    · rw [if_pos hc, List.lookup_cons] at h
      have hj : j = .free := by
        rw [Bool.and_eq_true, Bool.and_eq_true] at hc
        exact beq_iff_eq.mp hc.1.1
      rw [List.lookup_cons]
      split at h
      · rename_i hx
        cases h
        exact ⟨j, rfl, .inr ⟨hj, rfl⟩⟩
      · rename_i hx
        have hx' : (x == n) = false := by simpa using hx
        exact ih h
    · rw [if_neg hc, List.lookup_cons] at h
      rw [List.lookup_cons]
      split at h
      · rename_i hx
        cases h
        exact ⟨_, rfl, .inl rfl⟩
      · rename_i hx
        have hx' : (x == n) = false := by simpa using hx
        exact ih h
structure CompS (X : Cx) (scope : Scope) (xs fr : List Str) : Prop where
  kind : scope.kind = .function
  okind : X.env.scope.kind = .function
  uniq : (scope.names.map (·.1)).Nodup
  names : ∀ y ∈ scope.names, y.2 = .local → scope.names.lookup y.1 = some .local
  free : ∀ y ∈ scope.names, y.2 = .free → X.env.kindOf y.1 = some .cell ∨ X.env.kindOf y.1 = some .free
  own : ∀ x ∈ xs, scope.names.lookup x = some .local ∨ scope.names.lookup x = some .cell
  fre : ∀ x ∈ fr, scope.names.lookup x = some .free
  nd : (xs ++ fr).Nodup
theorem compS_of {X : Cx} {scope : Scope} {xs fr : List Str} (h : compOk X.env.scope scope xs fr = true) : CompS X scope xs fr := by
  unfold compOk at h
  simp only [Bool.and_eq_true, List.all_eq_true, bne_iff_ne, Bool.or_eq_true, beq_iff_eq, decide_eq_true_eq] at h
  obtain ⟨⟨⟨⟨⟨⟨⟨⟨h1, h2⟩, h3⟩, h4⟩, h5⟩, h6⟩, h7⟩, h8⟩, h9⟩ := h
  exact ⟨h1, h2, h3, fun y hy e => (h4 y hy).resolve_left (fun q => q e), fun y hy e => (h5 y hy).resolve_left (fun q => q e), h7, h8, h9⟩
noncomputable def pick (σ : St) (js : List Nat) : St := js.map fun j => (σ[j]?).getD none
noncomputable abbrev cxC (X : Cx) (scope : Scope) (xs fr : List Str) (C : Addr) (ex : List Addr) (s₀ : Shared) (H₀ : Hp) : Cx :=
  { X with N := xs ++ fr, env := compEnvC scope (cellsFrom (C + 1) scope.names (clOf X.env scope.names [])) C X.env, s₀ := s₀, H₀ := H₀, outer := X.stack, ex := ex, fn := fun x => scope.names.lookup x == some .cell, pn := [], xe := fun _ _ => False }
section
variable {X : Cx} {scope : Scope} {xs fr : List Str} {pins : List (Addr × Obj)} {σ : St} {H : Hp} {s : Shared} {js : List Nat} {fp : List Addr}
theorem lookup_nd {α : Type} {x : Str} {v : α} : ∀ {l : List (Str × α)}, (l.map (·.1)).Nodup → (x, v) ∈ l → l.lookup x = some v
  | [], _, h => by cases h
  | (y, d) :: r, hn, h => by
    obtain ⟨h1, h2⟩ := List.nodup_cons.mp hn
    rw [List.lookup_cons]
    rcases List.mem_cons.mp h with q | q
    · cases q
      rw [beq_self_eq_true]
    · have hne : (x == y) = false := beq_eq_false_iff_ne.mpr fun e => h1 (e ▸ List.mem_map.mpr ⟨(x, v), q, rfl⟩)
      rw [hne]
      exact lookup_nd h2 q
theorem CompS.cells (S : CompS X scope xs fr) (ok : X.Ok) : ∀ y ∈ scope.names, y.2 = NameKind.free → ∃ c, X.env.cells.lookup y.1 = some c := fun y hy e => ok.has _ (S.free y hy e)
theorem block_in (S : CompS X scope xs fr) (hjs : js.map (fun j => X.N[j]?) = fr.map some) (I : Inv X pins σ H s) (hfp : ∀ b ∈ fp, FpOk X pins H b) (hob : ∀ b ∈ fp, ∃ o, s.heap.get? b = some o) {h' : Heap} {t' : Nat}
    (hn : h'.Ns s.heap.objs.size fun _ => none) (keep : ∀ b o, s.heap.get? b = some o → h'.get? b = some o) (hcs : CellsOk h' (s.heap.objs.size + 1) (cellsFrom (s.heap.objs.size + 1) scope.names [])) :
    Inv (cxC X scope xs fr s.heap.objs.size fp s H) [] (List.replicate xs.length none ++ pick σ js) H { s with heap := h', toks := t' } := by
  have hcl := S.cells I.ok
  have sub : ∀ x c, (clOf X.env scope.names []).lookup x = some c → X.env.cells.lookup x = some c := fun x c h => clOf_sub hcl (fun q => by cases q) h
  have hl : js.length = fr.length := by have := congrArg List.length hjs; rwa [List.length_map, List.length_map] at this
  have two : ∀ x c, (cellsFrom (s.heap.objs.size + 1) scope.names (clOf X.env scope.names [])).lookup x = some c → (x, c) ∈ cellsFrom (s.heap.objs.size + 1) scope.names [] ∨ (clOf X.env scope.names []).lookup x = some c := fun x c h => by
    rw [cells_app, List.lookup_append] at h
    cases e : (cellsFrom (s.heap.objs.size + 1) scope.names []).lookup x with
    | some d =>
      rw [e] at h
      cases h
      exact .inl (lookup_mem e)
    | none =>
      rw [e] at h
      exact .inr h
  have oldc : ∀ x c, X.env.cells.lookup x = some c → c < s.heap.objs.size := fun x c h => let ⟨_, _, ho, _⟩ := I.cell x c h; Heap.lt_size ho
  have newc : ∀ x c, (x, c) ∈ cellsFrom (s.heap.objs.size + 1) scope.names [] → s.heap.objs.size < c := fun x c h => (hcs.empty x c h).2
  refine ⟨⟨I.ok.mod, S.kind, I.ok.glob, I.ok.blt, Nat.le_refl _, fun x y c h1 h2 => ?_, fun x hx => ?_, fun x c hf h => ?_, I.ok.hd, I.ok.frames, .inl rfl, fun b hb => ?_, fun b o e => I.bs b o e, Nat.le_trans I.ok.bsz I.sz, fun b o e hb => ?_, fun b hb hb2 => ?_, I.stack, I.stkFree⟩,
    rfl, I.bare, Un.kept keep, ⟨_, hn, fun i x v e1 e2 e3 => ?_⟩, fun x c h => ?_, I.hok.fresh (Nat.le_refl _), fun x c h => ?_, fun p hp => absurd (show p ∈ ([] : List (Addr × Obj)) from hp) (by simp), I.hok.kept keep, ?_⟩
  · rcases two x c h1 with g1 | g1
    · rcases two y c h2 with g2 | g2
      · exact name_of_addr hcs.apart g1 g2
      · exact absurd (oldc y c (sub y c g2)) (Nat.not_lt.mpr (Nat.le_of_lt (newc x c g1)))
    · rcases two y c h2 with g2 | g2
      · exact absurd (oldc x c (sub x c g1)) (Nat.not_lt.mpr (Nat.le_of_lt (newc y c g2)))
      · exact I.ok.inj x y c (sub x c g1) (sub y c g2)
  · -- the names that are cells there have one
    have hx : (relabel scope X.env).names.lookup x = some .cell ∨ (relabel scope X.env).names.lookup x = some .free := hx
    have app : ∀ c, (clOf X.env scope.names []).lookup x = some c ∨ (x, c) ∈ cellsFrom (s.heap.objs.size + 1) scope.names [] → ∃ c, (cellsFrom (s.heap.objs.size + 1) scope.names (clOf X.env scope.names [])).lookup x = some c := fun c h => by
      rw [cells_app, List.lookup_append]
      rcases h with h | h
      · cases (cellsFrom (s.heap.objs.size + 1) scope.names []).lookup x with
        | some d => exact ⟨d, rfl⟩
        | none => exact ⟨c, h⟩
      · obtain ⟨d, hd⟩ := lookup_ex h
        rw [hd]
        exact ⟨d, rfl⟩
    have go : ∀ k, (relabel scope X.env).names.lookup x = some k → (k = .cell ∨ k = .free) → ∃ c, (cellsFrom (s.heap.objs.size + 1) scope.names (clOf X.env scope.names [])).lookup x = some c := fun k e hk => by
      obtain ⟨j, hj, q⟩ := of_lookup_relabel (env := X.env) (names := scope.names) e
      have hm := lookup_mem hj
      have hjf : j = .free ∨ j = .cell := by
        rcases q with q | q
        · rcases hk with hk | hk
          · exact .inr (q ▸ hk)
          · exact .inl (q ▸ hk)
        · exact .inl q.1
      rcases hjf with hjf | hjf
      · subst hjf
        obtain ⟨c, hc⟩ := clOf_has (env := X.env) (x := x) (names := scope.names) (acc := []) (.inr hm)
        exact app c (.inl hc)
      · subst hjf
        obtain ⟨c, hc⟩ := cells_has (n := s.heap.objs.size + 1) hm
        exact app c (.inr hc)
    rcases hx with hx | hx
    · exact go _ hx (.inl rfl)
    · exact go _ hx (.inr rfl)
  · rcases two x c h with g | g
    · exact Nat.le_of_lt (newc x c g)
    · have hf' : scope.names.lookup x = some .cell := by simpa using hf
      obtain ⟨d, hd⟩ := cells_has (n := s.heap.objs.size + 1) (lookup_mem hf')
      have h' := h
      obtain ⟨e, he⟩ := lookup_ex hd
      have h' : (cellsFrom (s.heap.objs.size + 1) scope.names (clOf X.env scope.names [])).lookup x = some c := h
      rw [cells_app, List.lookup_append, he] at h'
      cases h'
      exact Nat.le_of_lt (newc x _ (lookup_mem he))
  · obtain ⟨f0, f1, f2, f3, f4, f5⟩ := hfp b hb
    obtain ⟨o, ho⟩ := hob b hb
    refine ⟨Nat.ne_of_lt (Heap.lt_size ho), fun x c h z => ?_⟩
    rcases two x c h with g | g
    · have h1 := newc x c g
      have h2 := Heap.lt_size ho
      rw [← z] at h2
      exact absurd h1 (Nat.not_lt.mpr (Nat.le_of_lt h2))
    · exact f4 x c (sub x c g) z
  · obtain ⟨f0, f1, f2, f3, f4, f5⟩ := hfp b hb
    rcases f3 with f3 | f3
    · exact I.ok.noex b o e f3
    · exact absurd (Nat.lt_of_lt_of_le (Heap.lt_size (I.ok.bs b o e).1) f3) (Nat.lt_irrefl _)
  · obtain ⟨f0, f1, f2, f3, f4, f5⟩ := hfp b hb
    rcases List.mem_cons.mp (I.stkSub b hb2) with z | z
    · exact f1 z
    · exact f2 z
  · have e1 : (xs ++ fr)[i]? = some x := e1
    by_cases hi : i < xs.length
    · rw [List.getElem?_append_left (by rw [List.length_replicate]; exact hi), List.getElem?_replicate, if_pos hi] at e2
      cases e2
    · have hi' : xs.length ≤ i := Nat.le_of_not_lt hi
      rw [List.getElem?_append_right hi'] at e1
      rw [List.getElem?_append_right (by rw [List.length_replicate]; exact hi'), List.length_replicate] at e2
      unfold pick at e2
      rw [List.getElem?_map] at e2
      cases ej : js[i - xs.length]? with
      | none => rw [ej] at e2; cases e2
      | some j =>
        rw [ej] at e2
        have e2' : (σ[j]?).getD none = some v := Option.some.inj e2
        have e4 : σ[j]? = some (some v) := by
          cases q : σ[j]? with
          | none => rw [q] at e2'; cases e2'
          | some o => rw [q] at e2'; rw [show o = some v from e2']
        have e5 : X.N[j]? = some x := by
          have := congrArg (fun l => l[i - xs.length]?) hjs
          rw [List.getElem?_map, List.getElem?_map, ej, e1] at this
          exact Option.some.inj this
        have hf := S.fre x (List.mem_of_getElem? e1)
        have hk := S.free _ (lookup_mem hf) rfl
        obtain ⟨m, hm, hl'⟩ := I.loc
        obtain ⟨u, r, lk⟩ := hl' j x v e5 e4 (.inr hk)
        refine ⟨u, r, .inr ⟨?_, ?_⟩⟩
        · have q := lookup_relabel (scope := scope) (env := X.env) S.okind hf
          show (relabel scope X.env).names.lookup x = some .cell ∨ (relabel scope X.env).names.lookup x = some .free
          have q' : (relabel scope X.env).names.lookup x = some (if (NameKind.free == NameKind.free && X.env.kindOf x == some .cell) then .cell else .free) := q
          by_cases hc : (NameKind.free == NameKind.free && X.env.kindOf x == some .cell) = true
          · rw [if_pos hc] at q'; exact .inl q'
          · rw [if_neg hc] at q'; exact .inr q'
        · obtain ⟨c', hc'⟩ := clOf_has (env := X.env) (x := x) (names := scope.names) (acc := []) (.inr (lookup_mem hf))
          rcases lk with ⟨z, _⟩ | ⟨_, c, hc, ob, ho, hd⟩
          · rcases hk with hk | hk
            · rw [z] at hk; cases hk
            · rw [z] at hk; cases hk
          · have e6 : c = c' := by
              have := sub x c' hc'
              rw [hc] at this
              exact Option.some.inj this
            subst e6
            refine ⟨_, ?_, ob, keep _ _ ho, hd⟩
            show (cellsFrom (s.heap.objs.size + 1) scope.names (clOf X.env scope.names [])).lookup x = some c
            rw [cells_app, List.lookup_append]
            have none' : (cellsFrom (s.heap.objs.size + 1) scope.names []).lookup x = none := by
              cases e : (cellsFrom (s.heap.objs.size + 1) scope.names []).lookup x with
              | none => rfl
              | some d =>
                have := lookup_nd S.uniq (cells_kind (lookup_mem e))
                rw [hf] at this
                cases this
            rw [none']
            exact hc'
  · rcases two x c h with g | g
    · exact ⟨_, (hcs.empty x c g).1⟩
    · obtain ⟨v, ob, ho, hd⟩ := I.cell x c (sub x c g)
      exact ⟨v, ob, keep _ _ ho, hd⟩
  · rcases two x c h with g | g
    · exact I.hok.fresh (Nat.le_of_lt (newc x c g))
    · exact I.freeC x c (sub x c g)
  · show _ = (xs ++ fr).length
    unfold pick
    rw [List.length_append, List.length_append, List.length_replicate, List.length_map, hl]
theorem new_block {M : Model} {A : Around} {E : Value → Shared → Prop} {s : Shared} {scope : Scope} {globals : Addr} {cl : List (Str × Addr)} {qual : Str} {env : Env} {Q : Env → Shared → Prop}
    (hQ : ∀ h', h'.Ns s.heap.objs.size (fun _ => none) → (∀ b o, s.heap.get? b = some o → h'.get? b = some o) → CellsOk h' (s.heap.objs.size + 1) (cellsFrom (s.heap.objs.size + 1) scope.names []) →
      Q (newEnv scope s.heap.objs.size globals (cellsFrom (s.heap.objs.size + 1) scope.names cl) qual none .none (some env) builtinsNs) { s with heap := h' }) :
    wpAny M A (newFunctionEnv scope globals cl [] qual none .none (some env)) Q E s := by
  simp only [newFunctionEnv, Option.isSome_some, if_true]
  refine wpAny_bind (wpAny_alloc ?_)
  refine wpAny_bind (wpAny_layCells _ (fun name kind cells => by cases hkc : kind == NameKind.cell <;> simp [hkc]) _ _ _ _ ?_)
  have okc := cellsFrom_ok scope.names (s.heap.push { cls := .type "dict", data := .dict #[] }) (s.heap.objs.size + 1) [] ⟨fun _ _ hm => (nomatch hm), List.Pairwise.nil⟩ (by rw [Heap.size_push]; exact Nat.le_refl _)
  rw [Heap.size_push] at okc
  rw [show ({ s with heap := s.heap.push { cls := .type "dict", data := .dict #[] } } : Shared).heap.objs.size = s.heap.objs.size + 1 from Heap.size_push ..]
  rw [List.forIn_nil]
  exact wpAny_bind (wpAny_pure (wpAny_pure (hQ _ ((Heap.Ns.new s.heap (.type "dict")).keeps (pushCells_keeps _ _)) (fun b o e => pushCells_keeps _ _ b o (Heap.get?_push_of_some _ e)) okc)))
theorem block_out {σ' : St} {H' : Hp} {s' : Shared} {h'' : Heap} (I : Inv X pins σ H s) (hfp : ∀ b ∈ fp, FpOk X pins H b) (J : Inv (cxC X scope xs fr s.heap.objs.size fp s H) [] σ' H' s') (hs : Heap.SameBut s.heap.objs.size s'.heap h'') :
    Inv X pins σ H' { s' with heap := h'' } := by
  have old : ∀ b o, s.heap.get? b = some o → b ≠ s.heap.objs.size := fun b o e => Nat.ne_of_lt (Heap.lt_size e)
  have ub : Un (frs X.stack) fp H H' s.heap s'.heap := J.base
  refine I.call' (s' := { s' with heap := h'' }) (ch := fp) J.os ⟨fun b o e n hb hx => (hs.2 b (old b o e)).trans (ub.keep b o e n hb hx), fun b o e n hb hx => ?_, ub.free, fun b o e hx => ?_, ub.tups, ub.frzs, ub.tbls⟩ (fun b o e => ?_) J.bare fun b hb => ?_
  · obtain ⟨sl, e1⟩ := ub.slot b o e n hb hx
    exact ⟨sl, (hs.2 b (old b o e)).trans e1⟩
  · obtain ⟨o', e1⟩ := ub.there b o e hx
    exact ⟨o', (hs.2 b (old b o e)).trans e1⟩
  · have hf : H' s.heap.objs.size = none := J.free
    refine (J.hok b o e).stay (fun c v hc q => (hs.2 c ?_).trans q) (fun _ q => q) fun _ _ q => q
    intro z
    rcases hc with hc | hc
    · rw [← hc, z, hf] at e; cases e
    · rw [z, hf] at hc; cases hc
  · obtain ⟨f0, f1, f2, f3, f4, f5⟩ := hfp b hb
    exact ⟨f3, f1, f4, f5⟩
noncomputable def PIf (X : Cx) (ifs : List Expr) (t : TT) : Prop :=
  ∀ (pins : List (Addr × Obj)) (s : Shared) (σ : St) (H : Hp) (Q : Bool → Hp → Prop) (E : Value → Shared → Prop), (∀ e s', X.xe e s' → E e s') → Inv X pins σ H s → t σ H Q →
    wpAny (model X.prog X.w) X.A (forIn ifs true fun c r => if r = true then do let ok ← isTrue c X.env (eval c X.env); pure (ForInStep.yield ok) else pure (ForInStep.yield r)) (TP X pins σ Q) E s
noncomputable def tTrue : TT := fun _ H Q => Q true H
theorem pif_nil : PIf X [] tTrue := fun _ _ _ H _ _ _ I h => wpAny_tests_nil ⟨H, I, h⟩
theorem pif_one {c : Expr} {t : TT} (hc : PT X c t) : PIf X [c] t := fun pins s σ H Q _ hE I h => wpAny_tests_one (wpAny_mono (hc pins s σ H Q I h) (fun _ _ z => z) hE)
noncomputable def tComp (k : Nat) (js : List Nat) (wi : TI) (g : TG) (tt : TT) (te : TE) : TE := fun σ H Q => wi σ H fun J H1 => ∀ p, H1 p = none →
  ∃ W : Nat → Nat → Hp → Prop, (∃ m, W 0 m (upd H1 p (.lst []))) ∧ ∀ i m H, W i m H →
    (J.stop i H ∧ Q (.ref p) H) ∨ (J.go i H ∧ ∃ N : Hp → Prop, (∀ H', N H' → ∃ m', m' < m ∧ W (i + 1) m' H') ∧
      ∀ x H', J.yld i H x H' → g x (List.replicate k none ++ pick σ js) H' fun σ2 H2 => tt σ2 H2 fun b H3 =>
        if b = true then te σ2 H3 fun y H4 => ∃ acc, H4 p = some (.lst acc) ∧ acc.length < sizeLine ∧ N (upd H4 p (.lst (acc ++ [y]))) else N H3)
theorem comp_loop {tg elt iter : Expr} {ifs : List Expr} {pos : Pos} {it acc : Value} {env : Env} {A : Around} {R : Result → Shared → Prop} {s : Shared} {P : Program} {w : World} (I : Nat → Shared → Prop)
    (turn : ∀ n s, I n s → wpAny (model P w) A (pyNext it) (fun r s₁ => match r with
      | none => R (.ok .next) s₁
      | some v => wpAny (model P w) A (letOwnedTupleGo tg it v) (fun _ s₁' => wpAny (model P w) A (assign tg env v) (fun _ s₂ =>
          wpAny (model P w) A (forIn ifs true fun c r => if r = true then do let ok ← isTrue c env (eval c env); pure (ForInStep.yield ok) else pure (ForInStep.yield r)) (fun ok s₃ =>
            if ok = true then wpAny (model P w) A (eval elt env) (fun x s₄ =>
              wpAny (model P w) A (call (.builtin "list.append") [acc, x]) (fun _ s₅ => ∃ m, m < n ∧ I m s₅) (fun _ _ => False) s₄) (fun _ _ => False) s₃
            else ∃ m, m < n ∧ I m s₃) (fun _ _ => False) s₂) (fun _ _ => False) s₁') (fun _ _ => False) s₁) (fun _ _ => False) s)
    (n : Nat) (h : I n s) : codeAny (model P w) A (.compLoop (.ListComp elt [⟨tg, iter, ifs, 0⟩] scope pos) 0 it acc env) R s := by
  refine codeAny_loop rfl I (fun n s hI => ?_) n h
  show wpAny _ A ((compTurn (.ListComp elt [⟨tg, iter, ifs, 0⟩] scope pos) 0 it acc env).onRaise (fun x => do noteFrame x env; theTreesLotGoes x)) _ _ s
  refine wpAny_noted ?_
  rw [compTurn_list]
  refine wpAny_bind (wpAny_standAt (wpAny_bind (wpAny_mono (turn n s hI) (fun r s₁ h₁ => ?_) fun _ _ h' => h'.elim)))
  cases r with
  | none => exact wpAny_pure h₁
  | some v =>
    refine wpAny_bind (wpAny_mono h₁ (fun _ s₁' h₁' => ?_) fun _ _ h' => h'.elim)
    refine wpAny_bind (wpAny_mono h₁' (fun _ s₂ h₂ => wpAny_bind (wpAny_mono h₂ (fun ok s₃ h₃ => ?_) fun _ _ h' => h'.elim)) fun _ _ h' => h'.elim)
    cases ok with
    | false => exact wpAny_pure ⟨rfl, h₃⟩
    | true =>
      exact wpAny_bind (wpAny_bind (wpAny_mono h₃ (fun x s₄ h₄ => wpAny_bind (wpAny_mono h₄ (fun _ s₅ h₅ => wpAny_pure (wpAny_pure ⟨rfl, h₅⟩)) fun _ _ h' => h'.elim)) fun _ _ h' => h'.elim))
noncomputable def GKeep (n : Nat) (g : TG) : Prop := ∀ x σ H Q, g x σ H Q → g x σ H fun σ' H' => (∀ k, n ≤ k → σ'[k]? = σ[k]?) ∧ Q σ' H'
noncomputable def GsKeep (n : Nat) (g : TGs) : Prop := ∀ vs σ H Q, g vs σ H Q → g vs σ H fun σ' H' => (∀ k, n ≤ k → σ'[k]? = σ[k]?) ∧ Q σ' H'
theorem gk_name {n i : Nat} (h : i < n) : GKeep n (gName i) := fun x σ H Q q => ⟨fun k hk => List.getElem?_set_ne (by omega), q⟩
theorem gk_nil {n : Nat} : GsKeep n gNil := fun vs σ H Q ⟨e, q⟩ => ⟨e, fun _ _ => rfl, q⟩
theorem gk_cons {n i : Nat} {u : TGs} (h : i < n) (hu : GsKeep n u) : GsKeep n (gCons (gName i) u) := fun vs σ H Q ⟨v, r, e, q⟩ => by
  refine ⟨v, r, e, ?_⟩
  have q' : u r (σ.set i (some v)) H Q := q
  show u r (σ.set i (some v)) H _
  have z := hu _ _ _ _ q'
  have e2 : (fun (σ' : St) (H' : Hp) => (∀ k, n ≤ k → σ'[k]? = (σ.set i (some v))[k]?) ∧ Q σ' H') = fun σ' H' => (∀ k, n ≤ k → σ'[k]? = σ[k]?) ∧ Q σ' H' := by
    funext σ' H'
    have e3 : (∀ k, n ≤ k → σ'[k]? = (σ.set i (some v))[k]?) = ∀ k, n ≤ k → σ'[k]? = σ[k]? := by
      refine propext ⟨fun f k hk => ?_, fun f k hk => ?_⟩
      · rw [f k hk, List.getElem?_set_ne (by omega)]
      · rw [f k hk, List.getElem?_set_ne (by omega)]
    rw [e3]
  rw [e2] at z
  exact z
theorem gk_tup {K : PySem.W.Frag} {n m : Nat} {u : TGs} (hu : GsKeep n u) : GKeep n (gTup K m u) := fun x σ H Q ⟨a, xs, e, hq, hl, q⟩ => ⟨a, xs, e, hq, hl, hu _ _ _ _ q⟩
theorem comp_run {tg elt iter : Expr} {ifs : List Expr} {pos : Pos} {g : TG} {tt : TT} {te : TE} (hc : X.calm = true) (S : CompS X scope xs fr) (hjs : js.map (fun j => X.N[j]?) = fr.map some)
    (hg : ∀ C ex s₀ H₀, PG (cxC X scope xs fr C ex s₀ H₀) tg g) (hk : GKeep xs.length g) (hi : ∀ C ex s₀ H₀, PIf (cxC X scope xs fr C ex s₀ H₀) ifs tt) (he : ∀ C ex s₀ H₀, PE (cxC X scope xs fr C ex s₀ H₀) elt te)
    {s2 : Shared} {H1 : Hp} {R : Value → Addr → Result → Shared → Prop} {Q : VK} {it : Addr} {tn : Nat → Heap → Prop} {J : It} (I : Inv X pins σ H1 s2) (T : Turn X.prog X.w X.K tg J fp it tn) (st : tn 0 s2.heap) (hfp : ∀ b ∈ fp, FpOk X pins H1 b)
    (hq : ∀ p, H1 p = none → ∃ W : Nat → Nat → Hp → Prop, (∃ m, W 0 m (upd H1 p (.lst []))) ∧ ∀ i m H, W i m H →
      (J.stop i H ∧ Q (.ref p) H) ∨ (J.go i H ∧ ∃ N : Hp → Prop, (∀ H', N H' → ∃ m', m' < m ∧ W (i + 1) m' H') ∧
        ∀ x H', J.yld i H x H' → g x (List.replicate xs.length none ++ pick σ js) H' fun σ2 H2 => tt σ2 H2 fun b H3 =>
          if b = true then te σ2 H3 fun y H4 => ∃ acc, H4 p = some (.lst acc) ∧ acc.length < sizeLine ∧ N (upd H4 p (.lst (acc ++ [y]))) else N H3))
    (hR : ∀ (p C : Addr) (s' : Shared) (H' : Hp), (∃ m, s'.heap.Ns C m) → FpOk X pins H' C → Inv X pins σ H' s' → Q (.ref p) H' → R (.ref p) C (.ok .next) s') :
    wpAny (model X.prog X.w) X.A (newList []) (fun acc s₃ => wpAny (model X.prog X.w) X.A (newFunctionEnv scope X.env.globals (clOf X.env scope.names []) [] X.env.qual none .none (some X.env)) (fun cenv s₄ =>
      codeAny (model X.prog X.w) X.A (.compStart (.ListComp elt [⟨tg, iter, ifs, 0⟩] scope pos) 0 (.ref it) acc { cenv with scope := relabel scope X.env }) (R acc cenv.locals) s₄) X.xe s₃) X.xe s2 := by
  refine wpAny_newObj_type ?_ (by show 0 ≤ sizeLine; exact Nat.zero_le _)
  have hn0 : H1 s2.heap.objs.size = none := I.hok.fresh (Nat.le_refl _)
  have I3 : Inv X pins σ (upd H1 s2.heap.objs.size (.lst [])) { s2 with heap := s2.heap.push { cls := .type "list", data := .seq ([] : List Value).toArray } } := I.laid (t' := s2.toks) (fun b u e => Heap.get?_push_of_some _ e) (Nat.le_refl _) ⟨Nat.zero_le _, [], 0, .nil, Heap.get?_push_size _ rfl⟩
  obtain ⟨W, ⟨m0, w0⟩, turn⟩ := hq _ hn0
  have hob : ∀ b ∈ fp, ∃ o, s2.heap.get? b = some o := fun b hb => let ⟨o, e, _⟩ := T.obj _ _ st b hb; ⟨o, e⟩
  have hfp3 : ∀ b ∈ fp, FpOk X pins (upd H1 s2.heap.objs.size (.lst [])) b := fun b hb => by
    obtain ⟨f0, f⟩ := hfp b hb
    obtain ⟨o, e⟩ := hob b hb
    exact ⟨by rw [upd_ne (Nat.ne_of_lt (Heap.lt_size e))]; exact f0, f⟩
  have hob3 : ∀ b ∈ fp, ∃ o, (s2.heap.push { cls := .type "list", data := .seq ([] : List Value).toArray }).get? b = some o := fun b hb => let ⟨o, e⟩ := hob b hb; ⟨o, Heap.get?_push_of_some _ e⟩
  have st3 : tn 0 (s2.heap.push { cls := .type "list", data := .seq ([] : List Value).toArray }) := T.keep _ _ _ st fun b _ o e => Heap.get?_push_of_some _ e
  generalize hs3 : ({ s2 with heap := s2.heap.push { cls := .type "list", data := .seq ([] : List Value).toArray } } : Shared) = s3 at I3 ⊢
  have st3' : tn 0 s3.heap := by rw [← hs3]; exact st3
  have hob3' : ∀ b ∈ fp, ∃ o, s3.heap.get? b = some o := by rw [← hs3]; exact hob3
  generalize hH3 : upd H1 s2.heap.objs.size (.lst []) = H3 at I3 hfp3 w0
  generalize hp0 : s2.heap.objs.size = p0 at turn ⊢
  refine new_block fun h₁ hns₁ hkp₁ hco₁ => ?_
  have I4 := block_in (t' := s3.toks) S hjs I3 hfp3 hob3' hns₁ hkp₁ hco₁
  have st4 : tn 0 h₁ := T.keep _ _ _ st3' fun b hb o e => hkp₁ b o e
  have loop : ∀ s₄ : Shared, Inv (cxC X scope xs fr s3.heap.objs.size fp s3 H3) [] (List.replicate xs.length none ++ pick σ js) H3 s₄ → tn 0 s₄.heap →
      codeAny (model X.prog X.w) X.A (.compLoop (.ListComp elt [⟨tg, iter, ifs, 0⟩] scope pos) 0 (.ref it) (.ref p0) (compEnvC scope (cellsFrom (s3.heap.objs.size + 1) scope.names (clOf X.env scope.names [])) s3.heap.objs.size X.env)) (R (.ref p0) s3.heap.objs.size) s₄ := by
    intro s₄ I4 st4
    have stat : ∀ {H' : Hp}, (∀ b ∈ fp, H' b = none) → ∀ b ∈ fp, FpOk (cxC X scope xs fr s3.heap.objs.size fp s3 H3) [] H' b := fun {H'} hn b hb => by
      obtain ⟨f0, f1, f2, f3, f4, f5⟩ := hfp3 b hb
      obtain ⟨o, e⟩ := hob3' b hb
      refine ⟨hn b hb, Nat.ne_of_lt (Heap.lt_size e), I4.ok.exfs b hb, .inl hb, fun x c h => (I4.ok.exf b hb).2 x c h, fun p hp => absurd (show p ∈ ([] : List (Addr × Obj)) from hp) (by simp)⟩
    refine comp_loop (fun n s' => ∃ i H', Inv (cxC X scope xs fr s3.heap.objs.size fp s3 H3) [] (List.replicate xs.length none ++ pick σ js) H' s' ∧ tn i s'.heap ∧ (∀ b ∈ fp, H' b = none) ∧ W i n H') ?_ m0 ⟨0, H3, I4, st4, fun b hb => (hfp3 b hb).1, w0⟩
    rintro n s5 ⟨i, H5, I5, st5, fr5, w5⟩
    rcases turn i n H5 w5 with ⟨stop, qn⟩ | ⟨go, N, hN, step⟩
    · refine thn (T.done (cxC X scope xs fr s3.heap.objs.size fp s3 H3) rfl rfl rfl hc i [] s5 _ H5 (fun _ _ => False) I5 (stat fr5) st5 stop) fun r s6 ⟨hr, I6⟩ => ?_
      subst hr
      obtain ⟨m6, n6, _⟩ := id I6.loc
      exact hR p0 s3.heap.objs.size s6 H5 ⟨m6, n6⟩ (I3.fpOk (Nat.le_refl _) I6.free) (block_out I3 hfp3 I6 (Heap.SameBut.refl ..)) qn
    · refine thn (T.item (cxC X scope xs fr s3.heap.objs.size fp s3 H3) rfl rfl rfl hc i [] s5 _ H5 (fun _ _ => False) I5 (stat fr5) st5 go) fun r s6 ⟨u, hr, h6⟩ => ?_
      subst hr
      refine thn h6 fun _ s7 ⟨x, H7, I7, r7, y7, st7, fr7⟩ => ?_
      have I7' := I7.pinned (stat fr7) (T.obj _ _ st7)
      refine thn (hg _ _ _ _ _ s7 _ H7 x u _ I7' r7 (hk _ _ _ _ (step x H7 y7))) fun _ s8 ⟨σ8, H8, I8, kp8, q8⟩ => ?_
      have again : ∀ {s9 : Shared} {H9 : Hp}, Inv (cxC X scope xs fr s3.heap.objs.size fp s3 H3) ([] ++ pinsAt fp s7.heap) σ8 H9 s9 → N H9 →
          ∃ m, m < n ∧ ∃ i H', Inv (cxC X scope xs fr s3.heap.objs.size fp s3 H3) [] (List.replicate xs.length none ++ pick σ js) H' s9 ∧ tn i s9.heap ∧ (∀ b ∈ fp, H' b = none) ∧ W i m H' := fun {s9 H9} I9 n9 => by
        obtain ⟨m', hm, w9⟩ := hN H9 n9
        refine ⟨m', hm, i + 1, H9, I9.unpinned.weak ?_ ?_, T.keep _ _ _ st7 fun b hb o e => (I9.pin (b, o) (List.mem_append_right _ (List.mem_append_right _ (mem_pinsAt hb e)))).1, fun b hb => ?_, w9⟩
        · rw [I9.len, I5.len]
        · intro k v hkv
          by_cases hx : k < xs.length
          · rw [List.getElem?_append_left (by rw [List.length_replicate]; exact hx), List.getElem?_replicate, if_pos hx] at hkv
            cases hkv
          · rw [kp8 k (Nat.le_of_not_lt hx)]
            exact hkv
        · obtain ⟨o, e, d⟩ := T.obj _ _ st7 b hb
          exact (I9.pin (b, o) (List.mem_append_right _ (List.mem_append_right _ (mem_pinsAt hb e)))).2.1
      refine wpAny_mono (hi _ _ _ _ _ s8 σ8 H8 _ (fun _ _ => False) (fun _ _ z => z) I8 q8) (fun ok s9 ⟨H9, I9, q9⟩ => ?_) fun _ _ z => z
      cases ok with
      | false =>
        rw [if_neg Bool.false_ne_true]
        rw [if_neg Bool.false_ne_true] at q9
        exact again I9 q9
      | true =>
        rw [if_pos rfl]
        rw [if_pos rfl] at q9
        refine thn (he _ _ _ _ _ s9 σ8 H9 _ I9 q9) fun uy s10 ⟨y, H10, I10, r10, acc, hacc, hz, n10⟩ => ?_
        refine thn (mt_append _ s10 σ8 H10 (.ref p0) [y] (.ref p0) [uy] (fun _ H11 => N H11) I10 rfl (.cons r10 .nil) ⟨p0, acc, y, rfl, rfl, hacc, hz, n10⟩) fun _ s11 ⟨_, H11, I11, _, n11⟩ => ?_
        exact again I11 n11
  exact codeAny_compStart_list (loop _ I4 st4) (T.self _ _ _ _ _ st4 (loop _ I4 st4))
theorem Inv.letgo {C : Addr} {h'' : Heap} (I : Inv X pins σ H s) (f : FpOk X pins H C) (hs : Heap.SameBut C s.heap h'') : Inv X pins σ H { s with heap := h'' } := by
  obtain ⟨f0, f1, f2, f3, f4, f5⟩ := f
  exact I.turned (t' := s.toks) (fun b o hb e => (hs.2 b hb).trans e) f0 f1 f3 f4 f5
theorem pe_comp {tg elt iter : Expr} {ifs : List Expr} {pos : Pos} {wi : TI} {g : TG} {tt : TT} {te : TE} (xs fr : List Str) (js : List Nat) (hc : X.calm = true) (hS : compOk X.env.scope scope xs fr = true) (hjs : js.map (fun j => X.N[j]?) = fr.map some) (hw : PI X tg iter wi)
    (hg : ∀ C ex s₀ H₀, PG (cxC X scope xs fr C ex s₀ H₀) tg g) (hk : GKeep xs.length g) (hi : ∀ C ex s₀ H₀, PIf (cxC X scope xs fr C ex s₀ H₀) ifs tt) (he : ∀ C ex s₀ H₀, PE (cxC X scope xs fr C ex s₀ H₀) elt te)
    (hs : ∀ x, foldedSetIterable iter X.env x = pure x := by intro _; with_unfolding_all rfl) :
    PE X (.ListComp elt [⟨tg, iter, ifs, 0⟩] scope pos) (tComp xs.length js wi g tt te) := by
  intro pins s σ H Q I h
  have S := compS_of hS
  rw [eval_ListComp]
  refine wpAny_comprehension_free (use := none) rfl hs (closure_is (S.cells I.ok)) S.kind S.names ?_
  refine thn (hw pins s σ H _ I h) fun v s1 h1 => thn h1 fun itv s2 h2 => ?_
  obtain ⟨it, fp, tn, J, H2, e, I2, T, st2, f2, q2⟩ := h2
  subst e
  refine comp_run (Q := Q) (R := fun acc C => compPost (model X.prog X.w) X.A X.xe none (EP X pins σ Q) acc C) hc S hjs hg hk hi he I2 T st2 f2 q2 ?_
  intro p C s' H' ⟨m, hn⟩ fC hI q
  exact ⟨m, hn, fun h'' hs'' => ⟨.ref p, H', hI.letgo fC hs'', rfl, q⟩⟩
theorem ps_setcomp {tg elt iter : Expr} {ifs : List Expr} {pos spos py : Pos} {wi : TI} {g : TG} {tt : TT} {te : TE} {i : Nat} {y : Str} (xs fr : List Str) (js : List Nat) (hc : X.calm = true) (hS : compOk X.env.scope scope xs fr = true) (hjs : js.map (fun j => X.N[j]?) = fr.map some)
    (hN : X.N.Nodup) (hi' : X.N[i]? = some y) (hy : X.env.scope.names.lookup y = some .local) (hw : PI X tg iter wi)
    (hg : ∀ C ex s₀ H₀, PG (cxC X scope xs fr C ex s₀ H₀) tg g) (hk : GKeep xs.length g) (hi : ∀ C ex s₀ H₀, PIf (cxC X scope xs fr C ex s₀ H₀) ifs tt) (he : ∀ C ex s₀ H₀, PE (cxC X scope xs fr C ex s₀ H₀) elt te)
    (hsw : swapsWith (.ListComp elt [⟨tg, iter, ifs, 0⟩] scope pos) (some (.Name y py)) spos.line X.env = pure true := by with_unfolding_all rfl)
    (hs : ∀ x, foldedSetIterable iter X.env x = pure x := by intro _; with_unfolding_all rfl) :
    PS X (.Assign [.Name y py] (.ListComp elt [⟨tg, iter, ifs, 0⟩] scope pos) spos) (tAsg (tComp xs.length js wi g tt te) (gName i)) := by
  intro pins s σ H D I h
  have S := compS_of hS
  rw [exec_Assign_Name_used _ _ _ _ hsw]
  refine wpAny_bind (wpAny_standAt (wpAny_bind ?_))
  show wpAny _ X.A (do let _ ← comprehension (.ListComp elt [⟨tg, iter, ifs, 0⟩] scope pos) scope X.env _ (newList []) false (eval iter X.env) (some (assign (.Name y py) X.env))) _ _ s
  refine wpAny_bind (wpAny_mono (wpAny_comprehension_free (use := some (assign (.Name y py) X.env)) (Q := fun _ s' => SP X pins D .next s') rfl hs (closure_is (S.cells I.ok)) S.kind S.names ?_) (fun _ s' hq => wpAny_pure (wpAny_pure hq)) fun _ _ e => e)
  refine thn (hw pins s σ H _ I h) fun v s1 h1 => thn h1 fun itv s2 h2 => ?_
  obtain ⟨it, fp, tn, J, H2, e, I2, T, st2, f2, q2⟩ := h2
  subst e
  refine comp_run (Q := fun x H1 => gName i x σ H1 D.nx) (R := fun acc C => compPost (model X.prog X.w) X.A X.xe (some (assign (.Name y py) X.env)) (fun _ s' => SP X pins D .next s') acc C) hc S hjs hg hk hi he I2 T st2 f2 q2 ?_
  intro p C s' H' ⟨m, hn⟩ fC I' q
  show wpAny _ X.A (assign (.Name y py) X.env (.ref p)) _ _ s'
  refine wpAny_assign_Name (store_ok2 I' hN hi' (.inl hy) (show RelV (.ref p) (.ref p) from rfl) (fun s'' I'' ⟨a, hs1, ha⟩ => ?_) (.inr hy))
  have hne : C ≠ a := by
    rcases ha with ha | ha
    · rw [ha]; exact fC.2.1
    · exact (fC.2.2.2.2.1 y a ha).symm
  exact ⟨m, hn.sameBut hs1 hne, fun h'' hs'' => ⟨_, H', I''.letgo fC hs'', q⟩⟩
end
end L2
set_option Elab.async false
set_option linter.all false
set_option maxRecDepth 100000
set_option maxHeartbeats 4000000
namespace L2
open PySem PySem.Spec PyProof.Rows
noncomputable def Its (x : Str) : It := ⟨fun i _ => i < x.cps.size, fun i H v H' => H' = H ∧ ∃ c, x.cps[i]? = some c ∧ v = .str ⟨#[c]⟩, fun i _ => x.cps.size ≤ i⟩
section
variable {X : Cx} {tg : Expr}
theorem turn_of {P : Program} {w : World} {K : PySem.W.Frag} {tg : Expr} {it : Addr} {n : Nat} {PV : Nat → Value → Prop} {val : Nat → V → Prop} {St : Nat → Heap → Prop} (W : ∀ A : Around, A.handled = none → Walks P w A it [it] [it] n PV St)
    (hself : ∀ (A : Around) (i : Nat) (s : Shared) (Q : Value → Shared → Prop) (E : Value → Shared → Prop), St i s.heap → Q (.ref it) s → wpAny (model P w) A (pyIter (.ref it)) Q E s)
    (hv : ∀ i u, PV i u → ∃ v, RelV v u ∧ val i v) (hto : ∀ i h, St i h → ∃ o T vs, h.get? it = some o ∧ o.cls = .type T ∧ o.data = .fields vs ∧ ["enumerate", "zip", "dict_itemiterator", "dict_reverseitemiterator", "odict_iterator", "itertools.zip_longest", "itertools.pairwise"].contains T = false) :
    Turn P w K tg ⟨fun i _ => i < n, fun i H v H' => H' = H ∧ val i v, fun i _ => n ≤ i⟩ [it] it (fun i h => St i h ∧ i ≤ n) where
  mem := by simp
  obj := fun i h st b hb => by
    have e : b = it := by simpa using hb
    subst e
    obtain ⟨o, T, vs, e1, e2, e3, e4⟩ := hto i h st.1
    exact ⟨o, e1, fun v z => by rw [e3] at z; cases z⟩
  keep := fun i h h' st k => ⟨(W { handled := none } rfl).frame i h h' st.1 k, st.2⟩
  item := by
    intro X hP hw hK hc i pins s σ H E I hf st hg
    subst hP hw hK
    obtain ⟨f0, f1, f2, f3, f4, f5⟩ := hf it (by simp)
    refine (W X.A (I.ok.hd hc)).item i s _ _ hg st.1 fun u h' tk hp st' kk => ?_
    obtain ⟨v, rv, vv⟩ := hv i u hp
    have I1 : Inv X pins σ H { s with heap := h', toks := tk } := I.turned (fun b o hb e => kk b o (by simpa using hb) e) f0 f1 f3 f4 f5
    obtain ⟨o, T, vs, e1, e2, e3, e4⟩ := hto _ _ st'
    exact ⟨u, rfl, go_of (s := { s with heap := h', toks := tk }) e1 e2 e3 e4 ⟨v, H, I1, rv, ⟨rfl, vv⟩, ⟨st', hg⟩, fun b hb => (hf b hb).1⟩⟩
  done := by
    intro X hP hw hK hc i pins s σ H E I hf st hg
    subst hP hw hK
    obtain ⟨f0, f1, f2, f3, f4, f5⟩ := hf it (by simp)
    have e : i = n := Nat.le_antisymm st.2 hg
    subst e
    exact (W X.A (I.ok.hd hc)).done s _ _ st.1 fun h' tk kk => ⟨rfl, I.turned (fun b o hb e => kk b o (by simpa using hb) e) f0 f1 f3 f4 f5⟩
  self := fun A i s Q E st h => hself A i s Q E st.1 h
theorem it_str {pins : List (Addr × Obj)} {σ : St} {H1 : Hp} {s1 : Shared} {R : It → Hp → Prop} {E : Value → Shared → Prop} {z : Str} {v : Value} (I1 : Inv X pins σ H1 s1) (r1 : RelV (.str z) v) (q : R (Its z) H1) : wpAny (model X.prog X.w) X.A (pyIter v) (PIE X pins σ tg R) E s1 := by
  obtain ⟨t, rfl⟩ := r1
  have sv : ∀ i u, SignAt z i u → ∃ v, RelV v u ∧ ∃ c, z.cps[i]? = some c ∧ v = .str ⟨#[c]⟩ := fun i u ⟨c, tu, hc, hu⟩ => ⟨.str ⟨#[c]⟩, ⟨tu, hu⟩, c, hc, rfl⟩
  have fin : ∀ (o : Obj) (St : Nat → Heap → Prop) (n : Nat), St 0 (s1.heap.push o) → Turn X.prog X.w X.K tg (Its z) [s1.heap.objs.size] s1.heap.objs.size (fun i h => St i h ∧ i ≤ z.cps.size) → PIE X pins σ tg R (.ref s1.heap.objs.size) { s1 with heap := s1.heap.push o } := fun o St n h0 T => by
    refine ⟨s1.heap.objs.size, [s1.heap.objs.size], _, _, H1, rfl, I1.kept (t' := s1.toks) fun b ob e => Heap.get?_push_of_some _ e, T, ⟨h0, Nat.zero_le _⟩, fun b hb => ?_, q⟩
    have e : b = s1.heap.objs.size := by simpa using hb
    subst e
    exact I1.fpOk (Nat.le_refl _) (I1.hok.fresh (Nat.le_refl _))
  cases ha : z.cps.all (· < 128)
  · exact wpAny_pyIter_wide ha (fin _ _ 0 ⟨_, Heap.get?_push_size _ rfl, rfl, rfl⟩ (turn_of (fun A hA => Walks.strWide hA _ z t) (fun _ _ _ _ _ st hq => wpAny_pyIter_striter_wide st hq) sv fun i h ⟨o, ho, hc, hd⟩ => ⟨o, _, _, ho, hc, hd, by decide⟩))
  · exact wpAny_pyIter_ascii ha (fin _ _ 0 ⟨_, Heap.get?_push_size _ rfl, rfl, rfl⟩ (turn_of (fun A hA => Walks.strAscii hA _ z t) (fun _ _ _ _ _ st hq => wpAny_pyIter_striter_ascii st hq) sv fun i h ⟨o, ho, hc, hd⟩ => ⟨o, _, _, ho, hc, hd, by decide⟩))
end
section
variable {X : Cx}
noncomputable def rSlS : V → Option Int → Option Int → Hp → VK → Prop := fun x lo hi H Q => ∃ z, x = .str z ∧ z.length ≤ sizeLine ∧ Q (.str (Txt.slice z lo hi)) H
theorem sl_str : SlR X rSlS := by
  intro pins s σ H x v vl vu lo hi sl Q I rx hs pl pu h
  obtain ⟨z, rfl, hz, q⟩ := h
  obtain ⟨t, rfl⟩ := rx
  have fin : ∀ t' k, EP X pins σ Q (.str (Txt.slice z lo hi) t') { s with toks := k } := fun t' k => ⟨.str _, H, I.tok _, ⟨_, rfl⟩, q⟩
  have sz := Nat.le_trans (Txt.slice_le z lo hi) hz
  refine ⟨"str", _, F.slot_str_getitem.lookup, typeIs_str _ _ _, ?_⟩
  cases pl with
  | none =>
    cases pu with
    | none => exact wpAny_getItem_str_slice (l := none) (u := none) (st := none) hs rfl (post_val_or_str ⟨sz, fin⟩)
    | int j uj => exact wpAny_getItem_str_slice (l := none) (u := some (j, uj)) (st := none) hs rfl (post_val_or_str ⟨sz, fin⟩)
  | int i ui =>
    cases pu with
    | none => exact wpAny_getItem_str_slice (l := some (i, ui)) (u := none) (st := none) hs rfl (post_val_or_str ⟨sz, fin⟩)
    | int j uj => exact wpAny_getItem_str_slice (l := some (i, ui)) (u := some (j, uj)) (st := none) hs rfl (post_val_or_str ⟨sz, fin⟩)
theorem strs_of : ∀ {ys : List Str} {us : List Value}, Vals (ys.map V.str) us → StrsAre us ys
  | [], _, .nil => .nil
  | y :: ys, _, .cons r t => by
    obtain ⟨tk, rfl⟩ := r
    exact .cons y tk (strs_of t)
noncomputable def rUpper : V → List V → Hp → VK → Prop := fun x vs H Q => ∃ z, x = .str z ∧ vs = [] ∧ (Txt.upper z).length ≤ 16777216 ∧ Q (.str (Txt.upper z)) H
theorem mt_upper : MtR X "str.upper" rUpper := by
  intro pins s σ H x vs v us Q I rx rv h
  obtain ⟨z, rfl, rfl, hz, q⟩ := h
  obtain ⟨t, rfl⟩ := rx
  obtain rfl := rv.zero
  exact SC.upper (by unfold Builtin.Str.tooLong; exact decide_eq_false (by rw [sizeLine_eq]; omega)) ⟨.str _, H, I.tok _, ⟨_, rfl⟩, q⟩
theorem call_reprS : CallR X (.builtin "repr") (fun xs H Q => (∃ b, xs = [.bl b] ∧ Q (.str (if b then "True" else "False")) H) ∨ (xs = [.non] ∧ Q (.str "None") H)) := by
  intro pins s σ H xs us Q I r h
  rcases h with ⟨b, rfl, q⟩ | ⟨rfl, q⟩
  · obtain ⟨u, rfl, ru⟩ := vals1 r
    cases ru
    exact PySem.P.repr_of_bool ⟨.str _, H, I.tok _, ⟨_, rfl⟩, q⟩
  · obtain ⟨u, rfl, ru⟩ := vals1 r
    cases ru
    exact PySem.P.repr_of_none ⟨.str _, H, I.tok _, ⟨_, rfl⟩, q⟩
theorem call_isinst : CallR X (.builtin "isinstance") (fun xs H Q => ∃ x c t b, xs = [x, .ty c] ∧ TyOf X.K H x t ∧ PySem.W.kitOne X.K t (.type c) = some b ∧ Q (.bl b) H) := by
  intro pins s σ H xs us Q I r h
  obtain ⟨x, c, t, b, rfl, ty, e, q⟩ := h
  obtain ⟨u, w', rfl, r1, r2⟩ := vals2 r
  cases r2
  exact isinst_ok I r1 ty e fun tk => ⟨.bl _, H, I.tok _, rfl, q⟩
theorem call_isinstR : CallR X (.builtin "isinstance") (fun xs H Q => ∃ x c t b, xs = [x, .ref c] ∧ TyOf X.K H x t ∧ PySem.W.kitOne X.K t (.ref c) = some b ∧ Q (.bl b) H) := by
  intro pins s σ H xs us Q I r h
  obtain ⟨x, c, t, b, rfl, ty, e, q⟩ := h
  obtain ⟨u, w', rfl, r1, r2⟩ := vals2 r
  cases r2
  exact isinst_ok I r1 ty e fun tk => ⟨.bl _, H, I.tok _, rfl, q⟩
theorem call_isinstQ : CallR X (.builtin "isinstance") (fun xs H Q => ∃ a ys c b, xs = [V.ref a, .ty c] ∧ ((SqT X.K H a ys ∧ PySem.W.kitOne X.K (.type "tuple") (.type c) = some b) ∨ (SqL X.K H a ys ∧ PySem.W.kitOne X.K (.type "list") (.type c) = some b)) ∧ Q (.bl b) H) := by
  intro pins s σ H xs us Q I r h
  obtain ⟨a, ys, c, b, rfl, ty, q⟩ := h
  obtain ⟨u, w', rfl, r1, r2⟩ := vals2 r
  cases r2
  cases r1
  rcases ty with ⟨ty, e⟩ | ⟨ty, e⟩
  · obtain ⟨its, _, p, _⟩ := I.tuple ty
    obtain ⟨o, h1, h2, _⟩ := p
    exact PySem.W.kia_one PySem.W.kitx_tuple I.kIn ⟨o, h1, h2⟩ e (fun z => nomatch z) fun tk => ⟨.bl _, H, I.tok _, rfl, q⟩
  · obtain ⟨its, _, p, _⟩ := I.list ty
    obtain ⟨o, h1, h2, _⟩ := p.isList
    exact PySem.W.kia_one PySem.W.kitx_list I.kIn ⟨o, h1, h2⟩ e (fun z => nomatch z) fun tk => ⟨.bl _, H, I.tok _, rfl, q⟩
theorem bools_at {bs : List Bool} {its : List Value} (r : Vals (bs.map V.bl) its) (i : Nat) (v : Value) (h : its[i]? = some v) : ∃ b, bs[i]? = some b ∧ v = .bool b := by
  have hl := r.length
  have hi : i < its.length := (List.getElem?_eq_some_iff.mp h).1
  have hb : i < bs.length := by rw [List.length_map] at hl; omega
  obtain ⟨u, hu, ru⟩ := r.get (i := i) (x := .bl bs[i]) (by rw [List.getElem?_map, List.getElem?_eq_getElem hb]; rfl)
  rw [h] at hu
  cases hu
  exact ⟨bs[i], List.getElem?_eq_getElem hb, ru⟩
theorem range_all (bs : List Bool) : (List.range bs.length).all (fun i => (bs[i]?).getD false) = bs.all id := by
  rw [Bool.eq_iff_iff, List.all_eq_true, List.all_eq_true]
  constructor
  · intro h b hb
    obtain ⟨i, hi, e⟩ := List.mem_iff_getElem.mp hb
    have := h i (List.mem_range.mpr hi)
    rw [List.getElem?_eq_getElem hi] at this
    rw [← e]
    exact this
  · intro h i hi
    rw [List.getElem?_eq_getElem (List.mem_range.mp hi)]
    exact h _ (List.getElem_mem _)
theorem call_all (hc : X.calm = true) : CallR X (.builtin "all") (fun xs H Q => ∃ (a : Addr) (bs : List Bool), xs = [.ref a] ∧ SqL X.K H a (bs.map V.bl) ∧ Q (.bl (bs.all id)) H) := by
  intro pins s σ H xs us Q I r h
  obtain ⟨a, bs, rfl, hl, q⟩ := h
  obtain ⟨u, rfl, ru⟩ := vals1 r
  cases ru
  obtain ⟨its, rv, pl, hz⟩ := I.list hl
  have hlen := rv.length
  have hne : a ≠ s.heap.objs.size := by obtain ⟨o, n, ho, _⟩ := pl; exact Nat.ne_of_lt (Heap.lt_size ho)
  refine call_all_walk (wpAny_pyIter_list pl.isList ?_)
  refine ⟨_, _, _, _, _, _, fun i => (bs[i]?).getD false, rfl, Walks.list (A := X.A.in1) (I.ok.hd hc) _ a hne its.toArray, ⟨⟨_, Heap.get?_push_size _ rfl, rfl, rfl⟩, pl.isList.at fun o e => Heap.get?_push_of_some _ e⟩, fun i v s' Q' E' hp hq => ?_, fun h' tk hk => ?_⟩
  · obtain ⟨b, hb, rfl⟩ := bools_at rv i v (by simpa using hp)
    dsimp only at hq; rw [hb] at hq
    exact wpAny_truthy_bool hq
  · refine ⟨.bl _, H, I.kept (t' := tk) fun b ob e => hk b ob (fun hm => absurd (Heap.lt_size e) (by rw [show b = s.heap.objs.size by simpa using hm]; exact Nat.lt_irrefl _)) (Heap.get?_push_of_some _ e), ?_, q⟩
    have e1 : its.toArray.size = bs.length := by rw [List.size_toArray, ← hlen, List.length_map]
    rw [e1, range_all]
    rfl
end
section
variable {X : Cx} {x : Str} {pos : Pos}
end
section
variable {X : Cx} {K : PySem.W.Frag}
noncomputable def rCat0 (K : PySem.W.Frag) : R2 := fun x y H Q => ∃ a b ys, x = .ref a ∧ y = .ref b ∧ SqT K H a [] ∧ SqT K H b ys ∧ Q (.ref b) H
theorem op_cat0 : OpR X (binaryOp .Add) (rCat0 X.K) := by
  intro pins s σ H x y v u Q I rx ry h
  obtain ⟨a, b, ys, rfl, rfl, ha, hb, q⟩ := h
  cases rx
  cases ry
  obtain ⟨its, r1, p1, _⟩ := I.tuple ha
  obtain ⟨its2, r2, p2, _⟩ := I.tuple hb
  cases r1
  obtain ⟨⟨cls, dd, data, sl⟩, ho, hc, n, hd⟩ := id p1
  obtain ⟨⟨cls2, dd2, data2, sl2⟩, ho2, hc2, n2, hd2⟩ := id p2
  simp only at hc hd hc2 hd2
  subst hc hd hc2 hd2
  exact concat_meets ⟨_, ho, rfl⟩ ⟨_, ho2, rfl⟩ noFill_tuple_add seq_tuple_add PySem.F.slot_tuple_add PySem.F.entry_tuple_add (PySem.F.args_tuple_add_2 _ _) (tuple_addW0 a b _ _ n n2 dd dd2 sl sl2 (by simp)) ⟨ho, ho2, ⟨.ref b, H, I, rfl, q⟩⟩
noncomputable def rSlW (K : PySem.W.Frag) : V → Option Int → Option Int → Hp → VK → Prop := fun x lo hi H Q => ∃ a xs, x = .ref a ∧ SqT K H a xs ∧ (HT.sIx xs.length 0 lo = 0 ∧ HT.sIx xs.length xs.length hi = xs.length) ∧ Q (.ref a) H
theorem sl_whole : SlR X (rSlW X.K) := by
  intro pins s σ H x v vl vu lo hi sl Q I rx hs pl pu h
  obtain ⟨a, xs, rfl, hx, hw, q⟩ := h
  cases rx
  obtain ⟨its, r, ht, hz⟩ := I.tuple hx
  have hlen : its.toArray.size = xs.length := by rw [List.size_toArray]; exact r.length.symm
  refine ⟨"tuple", _, PyProof.Rows.slot_tuple_getitem.lookup, ht.typeIs, ?_⟩
  obtain ⟨os, hos, hcs, hds⟩ := id hs
  have hTs : s.TypeIs (.ref sl) "slice" := ⟨os, hos, hcs⟩
  unfold getItem
  try with_reducible refine wpAny_holding ?_
  first | refine wpAny_bind (wpAny_pure ?_) | skip
  refine wpAny_bind (wpAny_sequenceKey ht.typeIs (by decide) ?_)
  refine wpAny_bind (wpAny_callSpecial?_slot (name := Str.ofString "__getitem__") ht.typeIs PyProof.Rows.slot_tuple_getitem (wpAny_call_entry PyProof.Rows.slot_tuple_getitem ht.typeIs entry_tuple_getitem ?_ (args_tuple_getitem _ _)))
  refine wpAny_bind (m := Builtin.Tuple.tupleItemsOf (.ref a)) (tupleItemsOf_ ht ?_)
  refine wpAny_bind (wpAny_typeOf hTs ?_)
  rw [if_pos (by decide)]
  refine wpAny_bind (HT.sliceApplied_gen hs pl pu ?_)
  have yes : (((HT.sIx its.toArray.size 0 lo : Nat) : Int) == 0 && (1 : Int) == 1 && (HT.sIx its.toArray.size its.toArray.size hi - HT.sIx its.toArray.size 0 lo) == its.toArray.size) = true := by
    rw [hlen, hw.1, hw.2]
    simp
  show wpAny _ _ (if (((HT.sIx its.toArray.size 0 lo : Nat) : Int) == 0 && (1 : Int) == 1 && (HT.sIx its.toArray.size its.toArray.size hi - HT.sIx its.toArray.size 0 lo) == its.toArray.size) = true then _ else _) _ _ s
  rw [if_pos yes]
  have fin : ∀ s', s' = s → EP X pins σ Q (.ref a) s' := fun s' e => by subst e; exact ⟨.ref a, H, I, rfl, q⟩
  unfold Builtin.Tuple.tupleIsExact
  obtain ⟨hp, g, d, tk, os⟩ := s
  have hT := ht.typeIs
  repeat (any_goals (first | assumption | wp_step))
  exact ⟨_, rfl, wpAny_pure (fin _ rfl)⟩
end
theorem Inv.freeze {X : Cx} {pins : List (Addr × Obj)} {σ : St} {H : Hp} {s : Shared} {d : Addr} {kvs : List (Key × V)} {o : Obj} (I : Inv X pins σ H s) (hd : H d = some (.dK kvs)) (ho : s.heap.get? d = some o) : Inv X pins σ (upd H d (.frz o (.dK kvs))) s := by
  have nn : ∀ b, H b = none → upd H d (.frz o (.dK kvs)) b = none := fun b h => by rw [upd_ne (Ne.symm (ne_of_none hd h))]; exact h
  have other : ∀ b u, H b = some u → u ≠ .dK kvs → upd H d (.frz o (.dK kvs)) b = some u := fun b u h q => by rw [upd_ne (ne_of h hd q)]; exact h
  refine ⟨I.ok, I.os, I.bare, ⟨I.base.keep, I.base.slot, fun b ob q n hx => nn b (I.base.free b ob q n hx), I.base.there, fun b xs q => other b _ (I.base.tups b xs q) (by intro z; cases z), fun b ob u q => other b _ (I.base.frzs b ob u q) (by intro z; cases z), fun b ps q => ?_⟩, I.loc, I.cell, nn _ I.free, fun x c q => nn _ (I.freeC x c q), fun p hp => ?_, fun b u q => ?_, I.len⟩
  · obtain ⟨more, h⟩ := I.base.tbls b ps q
    exact ⟨more, other b _ h (by intro z; cases z)⟩
  · obtain ⟨a1, a2, a3⟩ := I.pin p hp
    exact ⟨a1, nn _ a2, a3⟩
  · by_cases e : b = d
    · subst e
      rw [upd_same] at q
      cases q
      exact ⟨ho, (I.hok b _ hd).stay (fun c v hc z => z) (fun c z => other c _ z (by intro w; cases w)) fun c xs z => other c _ z (by intro w; cases w)⟩
    · rw [upd_ne e] at q
      exact (I.hok b u q).stay (fun c v hc z => z) (fun c z => other c _ z (by intro w; cases w)) fun c xs z => other c _ z (by intro w; cases w)
noncomputable def Itd (a : Addr) (o : Obj) (kvs : List (Key × V)) : It :=
  ⟨fun i H => H a = some (.frz o (.dK kvs)) ∧ i < kvs.length, fun i H x H' => H' = H ∧ ∃ kv, kvs[i]? = some kv ∧ x = kV kv.1, fun i H => H a = some (.frz o (.dK kvs)) ∧ kvs.length ≤ i⟩
theorem key_rel {k : Key} {u : Value} (h : keyIs k u = true) : RelV (kV k) u := by
  rcases keyIs_shape h with ⟨i, t, rfl, rfl⟩ | ⟨x, t, rfl, rfl⟩
  · exact ⟨t, rfl⟩
  · exact ⟨t, rfl⟩
theorem dict_at {X : Cx} {pins : List (Addr × Obj)} {σ : St} {H : Hp} {s : Shared} {a : Addr} {kvs : List (Key × V)} {o : Obj} {es : Array DictEntry} {ep : Nat} (I : Inv X pins σ H s) (h : H a = some (.frz o (.dK kvs))) (ho : o.data = .dict es ep) : ∃ vs, KV kvs vs ∧ s.heap.DictAt (mixKind X.prog X.w) a vs ep := by
  obtain ⟨h1, _, _, vs, r, o', es', ep', h2, c, hd, rest⟩ := I.hok a _ h
  rw [h1] at h2
  cases h2
  rw [ho] at hd
  cases hd
  exact ⟨vs, r, o, es, h1, c, ho, rest⟩
theorem KV.get : ∀ {kvs : List (Key × V)} {vs : List (Key × Value)} {i : Nat} {kv : Key × V}, KV kvs vs → kvs[i]? = some kv → ∃ u, vs[i]? = some (kv.1, u) ∧ RelV kv.2 u
  | _, _, _, _, .nil, e => by simp at e
  | _, _, 0, kv, .cons r _, e => by
    simp at e
    subst e
    exact ⟨_, congrArg some (Prod.ext r.1.symm rfl), r.2⟩
  | _, _, i + 1, kv, .cons _ t, e => by
    obtain ⟨u, h1, h2⟩ := KV.get (i := i) t (by simpa using e)
    exact ⟨u, by simpa using h1, h2⟩
theorem turn_dict {P : Program} {w : World} {K : PySem.W.Frag} {tg : Expr} (a it : Addr) (o : Obj) (kvs : List (Key × V)) (es : Array DictEntry) (ep : Nat) (hd : o.data = .dict es ep) : Turn P w K tg (Itd a o kvs) [it] it (fun i h => h.IsKeyIter it a i kvs.length ep) where
  mem := by simp
  obj := fun i h st b hb => by
    have e : b = it := by simpa using hb
    subst e
    obtain ⟨o, e, c, d⟩ := st
    exact ⟨o, e, fun v z => by rw [d] at z; cases z⟩
  keep := fun i h h' st k => st.at fun o e => k it (by simp) o e
  item := by
    intro X hP hw hK hc i pins s σ H E I hf st hg
    subst hP hw hK
    obtain ⟨hH, hi⟩ := hg
    obtain ⟨vs, rv, hat⟩ := dict_at I hH hd
    have hl : kvs.length = vs.length := Paired.length rv
    obtain ⟨kv, hkv⟩ : ∃ kv, kvs[i]? = some kv := ⟨kvs[i], List.getElem?_eq_getElem hi⟩
    obtain ⟨u, hu, _⟩ := KV.get rv hkv
    obtain ⟨f0, f1, f2, f3, f4, f5⟩ := hf it (by simp)
    rw [hl] at st
    refine wpAny_pyNext_dict_item st hat hu fun key h' hkey hit' hs' => ?_
    have I1 : Inv X pins σ H { s with heap := h' } := I.turned (t' := s.toks) (fun b o hb e => (hs'.2 b hb).trans e) f0 f1 f3 f4 f5
    obtain ⟨o', e, c, d⟩ := id hit'
    exact ⟨key, rfl, go_of (s := { s with heap := h' }) e c d (by decide) ⟨kV kv.1, H, I1, key_rel hkey, ⟨rfl, kv, hkv, rfl⟩, by rw [hl]; exact hit', fun b hb => (hf b hb).1⟩⟩
  done := by
    intro X hP hw hK hc i pins s σ H E I hf st hg
    subst hP hw hK
    obtain ⟨hH, hi⟩ := hg
    obtain ⟨vs, rv, hat⟩ := dict_at I hH hd
    have hl : kvs.length = vs.length := Paired.length rv
    obtain ⟨f0, f1, f2, f3, f4, f5⟩ := hf it (by simp)
    rw [hl] at st
    exact wpAny_pyNext_dict_end (I.ok.hd hc) st hat (List.getElem?_eq_none (by omega)) fun h' eb => ⟨rfl, I.turned (t' := s.toks) (fun b o hb e => eb b o hb e) f0 f1 f3 f4 f5⟩
  self := fun A i s Q E st hQ => wpAny_pyIter_keyiter st hQ
theorem it_dict {X : Cx} {tg : Expr} {pins : List (Addr × Obj)} {σ : St} {H : Hp} {s : Shared} {a : Addr} {kvs : List (Key × V)} {R : It → Hp → Prop} {E : Value → Shared → Prop} (I : Inv X pins σ H s) (h : H a = some (.dK kvs)) (q : ∀ o, R (Itd a o kvs) (upd H a (.frz o (.dK kvs)))) :
    wpAny (model X.prog X.w) X.A (pyIter (.ref a)) (PIE X pins σ tg R) E s := by
  obtain ⟨_, hs, vs, rv, o, es, ep, ho, c, hd, rest⟩ := I.hok a _ h
  have I1 := I.freeze h ho
  have hl : kvs.length = vs.length := Paired.length rv
  refine wpAny_pyIter_dict (knd := mixKind X.prog X.w) hs ⟨o, es, ho, c, hd, rest⟩ ?_
  rw [← hl]
  refine ⟨s.heap.objs.size, [s.heap.objs.size], _, _, _, rfl, I1.kept (t' := s.toks) fun b o e => Heap.get?_push_of_some _ e, turn_dict a _ o kvs es ep hd, ⟨_, Heap.get?_push_size _ rfl, rfl, rfl⟩, fun b hb => ?_, q o⟩
  have e : b = s.heap.objs.size := by simpa using hb
  subst e
  exact I1.fpOk (Nat.le_refl _) (I1.hok.fresh (Nat.le_refl _))
theorem it_dictF {X : Cx} {tg : Expr} {pins : List (Addr × Obj)} {σ : St} {H : Hp} {s : Shared} {a : Addr} {kvs : List (Key × V)} {o : Obj} {R : It → Hp → Prop} {E : Value → Shared → Prop} (I : Inv X pins σ H s) (h : H a = some (.frz o (.dK kvs))) (q : R (Itd a o kvs) H) :
    wpAny (model X.prog X.w) X.A (pyIter (.ref a)) (PIE X pins σ tg R) E s := by
  obtain ⟨ho', _, hs, vs, rv, o', es, ep, ho, c, hd, rest⟩ := I.hok a _ h
  rw [ho'] at ho
  cases ho
  have hl : kvs.length = vs.length := Paired.length rv
  refine wpAny_pyIter_dict (knd := mixKind X.prog X.w) hs ⟨o, es, ho', c, hd, rest⟩ ?_
  rw [← hl]
  refine ⟨s.heap.objs.size, [s.heap.objs.size], _, _, _, rfl, I.kept (t' := s.toks) fun b o e => Heap.get?_push_of_some _ e, turn_dict a _ o kvs es ep hd, ⟨_, Heap.get?_push_size _ rfl, rfl, rfl⟩, fun b hb => ?_, q⟩
  have e : b = s.heap.objs.size := by simpa using hb
  subst e
  exact I.fpOk (Nat.le_refl _) (I.hok.fresh (Nat.le_refl _))
end L2
set_option Elab.async false
set_option linter.all false
set_option maxRecDepth 100000
set_option maxHeartbeats 4000000
namespace L2
open PySem PySem.Spec PyProof.Rows
theorem Same.seqT {K : PySem.W.Frag} {H H' : Hp} {a : Addr} {xs : List V} (e : Same H H') (h : SqT K H a xs) : SqT K H' a xs := by
  rcases h with (h | ⟨o, h⟩) | h
  · exact .inl (.inl (e _ _ h))
  · exact .inl (.inr ⟨o, e _ _ h⟩)
  · exact .inr h
mutual
def Is (K : PySem.W.Frag) (H : Hp) : PyData → V → Prop
  | .none, v => v = .non
  | .bool b, v => v = .bl b
  | .int i, v => v = .int i
  | .str x, v => v = .str x
  | .list ds, v => ∃ a xs, v = .ref a ∧ SqL K H a xs ∧ IsL K H ds xs
  | .tuple ds, v => ∃ a xs, v = .ref a ∧ SqT K H a xs ∧ IsL K H ds xs
  | .dict _, _ => False
def IsL (K : PySem.W.Frag) (H : Hp) : List PyData → List V → Prop
  | [], vs => vs = []
  | d :: ds, vs => ∃ v r, vs = v :: r ∧ Is K H d v ∧ IsL K H ds r
end
mutual
theorem Is.mono {K : PySem.W.Frag} {H H' : Hp} (e : Same H H') : ∀ (d : PyData) (v : V), Is K H d v → Is K H' d v
  | .none, _, h => by simp only [Is] at h ⊢; exact h
  | .bool _, _, h => by simp only [Is] at h ⊢; exact h
  | .int _, _, h => by simp only [Is] at h ⊢; exact h
  | .str _, _, h => by simp only [Is] at h ⊢; exact h
  | .list ds, v, h => by
    simp only [Is] at h ⊢
    obtain ⟨a, xs, e1, e2, e3⟩ := h
    exact ⟨a, xs, e1, e.seq e2, IsL.mono e ds xs e3⟩
  | .tuple ds, v, h => by
    simp only [Is] at h ⊢
    obtain ⟨a, xs, e1, e2, e3⟩ := h
    exact ⟨a, xs, e1, e.seqT e2, IsL.mono e ds xs e3⟩
  | .dict _, _, h => by simp only [Is] at h
theorem IsL.mono {K : PySem.W.Frag} {H H' : Hp} (e : Same H H') : ∀ (ds : List PyData) (vs : List V), IsL K H ds vs → IsL K H' ds vs
  | [], _, h => by simp only [IsL] at h ⊢; exact h
  | d :: ds, vs, h => by
    simp only [IsL] at h ⊢
    obtain ⟨v, r, e1, e2, e3⟩ := h
    exact ⟨v, r, e1, Is.mono e d v e2, IsL.mono e ds r e3⟩
end
section
variable {X : Cx} {pins : List (Addr × Obj)} {σ : St} {H : Hp} {s : Shared}
mutual
theorem Is.reads (I : Inv X pins σ H s) : ∀ (d : PyData) (v : V) (u : Value), Is X.K H d v → RelV v u → ∃ as, Reads s.heap u d as
  | .none, v, u, i, r => by
    simp only [Is] at i
    subst i
    cases r
    exact ⟨_, .none⟩
  | .bool b, v, u, i, r => by
    simp only [Is] at i
    subst i
    cases r
    exact ⟨_, .bool b⟩
  | .int n, v, u, i, r => by
    simp only [Is] at i
    subst i
    obtain ⟨t, rfl⟩ := r
    exact ⟨_, .int n t⟩
  | .str x, v, u, i, r => by
    simp only [Is] at i
    subst i
    obtain ⟨t, rfl⟩ := r
    exact ⟨_, .str x t⟩
  | .list ds, v, u, i, r => by
    simp only [Is] at i
    obtain ⟨a, xs, rfl, e2, e3⟩ := i
    cases r
    obtain ⟨its, rv, ⟨o, n, e, hc, hd, hs⟩, _⟩ := I.list e2
    obtain ⟨as, ra⟩ := IsL.reads I ds xs its e3 rv
    exact ⟨_, .list e hc hs (by simpa using ra)⟩
  | .tuple ds, v, u, i, r => by
    simp only [Is] at i
    obtain ⟨a, xs, rfl, e2, e3⟩ := i
    cases r
    obtain ⟨its, rv, ⟨o, e, hc, n, hd⟩, _⟩ := I.tuple e2
    obtain ⟨as, ra⟩ := IsL.reads I ds xs its e3 rv
    exact ⟨_, .tuple e hc hd (by simpa using ra)⟩
  | .dict _, _, _, i, _ => by simp only [Is] at i
theorem IsL.reads (I : Inv X pins σ H s) : ∀ (ds : List PyData) (vs : List V) (us : List Value), IsL X.K H ds vs → Vals vs us → ∃ as, ReadsAll s.heap us ds as
  | [], vs, us, i, r => by
    simp only [IsL] at i
    subst i
    cases r
    exact ⟨_, .nil⟩
  | d :: ds, vs, us, i, r => by
    simp only [IsL] at i
    obtain ⟨v, rr, rfl, e2, e3⟩ := i
    cases r with
    | cons r1 r2 =>
      obtain ⟨a1, h1⟩ := Is.reads I d v _ e2 r1
      obtain ⟨a2, h2⟩ := IsL.reads I ds rr _ e3 r2
      exact ⟨_, .cons h1 h2⟩
end
end
theorem is_ints {K : PySem.W.Frag} {H : Hp} : ∀ ns : List Int, IsL K H (ns.map PyData.int) (ns.map V.int)
  | [] => by simp only [List.map_nil, IsL]
  | n :: r => by
    simp only [List.map_cons, IsL]
    exact ⟨_, _, rfl, by simp only [Is], is_ints r⟩
theorem is_strs {K : PySem.W.Frag} {H : Hp} : ∀ ns : List Str, IsL K H (ns.map PyData.str) (ns.map V.str)
  | [] => by simp only [List.map_nil, IsL]
  | n :: r => by
    simp only [List.map_cons, IsL]
    exact ⟨_, _, rfl, by simp only [Is], is_strs r⟩
theorem is_listI {K : PySem.W.Frag} {H : Hp} {a : Addr} {ns : List Int} (h : SqL K H a (ns.map V.int)) : Is K H (.list (ns.map PyData.int)) (.ref a) := by
  simp only [Is]
  exact ⟨a, _, rfl, h, is_ints ns⟩
structure QA (A : Around) : Prop where
  un : A.units + 150 < cLine
  gd : A.guards = some []
theorem qa_of {A : Around} {k : Nat} (hr : Room k A) : QA A := ⟨by have := hr.un; omega, hr.gd⟩
section
variable {X : Cx}
noncomputable def rAddA (K : PySem.W.Frag) : R2 := fun x y H Q => (∃ i j, x = .int i ∧ y = .int j ∧ Q (.int (i + j)) H) ∨ (∃ i j, x = .str i ∧ y = .str j ∧ i.length + j.length ≤ sizeLine ∧ Q (.str (i ++ j)) H) ∨ rCat x y H Q ∨ rCatT K x y H Q ∨ rCat0 K x y H Q
theorem op_addA : OpR X (binaryOp .Add) (rAddA X.K) := op_add.or (op_add_str.or (op_cat.or (op_catT.or op_cat0)))
noncomputable def rMulA : R2 := fun x y H Q => (∃ i j, x = .int i ∧ y = .int j ∧ CMul i j ∧ Q (.int (i * j)) H) ∨ rRep x y H Q
theorem op_mulA : OpR X (binaryOp .Mult) rMulA := op_mul.or op_rep
theorem op_fdivA : OpR X (binaryOp .FloorDiv) (rI CDiv fun i j => .int (i / j)) := op_fdiv
noncomputable def rEqD (K : PySem.W.Frag) (neg : Bool) : R2 := fun x y H Q => ∃ dx dy, Is K H dx x ∧ Is K H dy y ∧ SeqAt.shaped dx = true ∧ SeqAt.shaped dy = true ∧ Q (.bl (if neg then !PyData.eqv dx dy else PyData.eqv dx dy)) H
theorem op_eqD (hq : QA X.A) : OpR X (compareOp .Eq) (rEqD X.K false) := by
  intro pins s σ H x y v u Q I rx ry h
  obtain ⟨dx, dy, ix, iy, sx, sy, q⟩ := h
  obtain ⟨as, ra⟩ := Is.reads I dx x v ix rx
  obtain ⟨bs, rb⟩ := Is.reads I dy y u iy ry
  exact eq_dataH ra rb sx sy (by have := hq.un; omega) ⟨.bl _, H, I, rfl, q⟩
theorem op_neD (hq : QA X.A) : OpR X (compareOp .NotEq) (rEqD X.K true) := by
  intro pins s σ H x y v u Q I rx ry h
  obtain ⟨dx, dy, ix, iy, sx, sy, q⟩ := h
  obtain ⟨as, ra⟩ := Is.reads I dx x v ix rx
  obtain ⟨bs, rb⟩ := Is.reads I dy y u iy ry
  exact ne_dataH ra rb sx sy (by have := hq.un; omega) ⟨.bl _, H, I, rfl, q⟩
noncomputable def rEqA (K : PySem.W.Frag) : R2 := fun x y H Q => rEq x y H Q ∨ rEqD K false x y H Q
noncomputable def rNeA (K : PySem.W.Frag) : R2 := fun x y H Q => rNe x y H Q ∨ rEqD K true x y H Q
theorem op_eqA (hq : QA X.A) : OpR X (compareOp .Eq) (rEqA X.K) := op_eq.or (op_eqD hq)
theorem op_neA (hq : QA X.A) : OpR X (compareOp .NotEq) (rNeA X.K) := op_ne.or (op_neD hq)
noncomputable def rInT (neg : Bool) : R2 := fun x y H Q => ∃ i j, x = .str i ∧ y = .str j ∧ Q (.bl (if neg then !(!(Builtin.Str.occurrences j i 0 j.length 1).isEmpty) else !(Builtin.Str.occurrences j i 0 j.length 1).isEmpty)) H
noncomputable def rInD (neg : Bool) : R2 := fun x y H Q => ∃ a o, y = .ref a ∧ DGet H a x o ∧ Q (.bl (if neg then !o.isSome else o.isSome)) H
theorem op_inD (hu : X.A.units + 1 < cLine) : OpR X (compareOp .In) (rInD false) := by
  intro pins s σ H x y v u Q I rx ry h
  obtain ⟨a, o, rfl, g, q⟩ := h
  cases ry
  exact d_in hu I g rx fun s' I' => ⟨.bl _, H, I', rfl, q⟩
theorem op_notInD (hu : X.A.units + 1 < cLine) : OpR X (compareOp .NotIn) (rInD true) := by
  intro pins s σ H x y v u Q I rx ry h
  obtain ⟨a, o, rfl, g, q⟩ := h
  cases ry
  exact d_notIn hu I g rx fun s' I' => ⟨.bl _, H, I', rfl, q⟩
noncomputable def rInX (K : PySem.W.Frag) (neg : Bool) : R2 := fun x y H Q => ∃ d ds, Is K H d x ∧ (Is K H (.list ds) y ∨ Is K H (.tuple ds) y) ∧ PyData.canLayAll0 ds = true ∧ d.canLay0 = true ∧ d.depth ≤ 100 ∧ Q (.bl (if neg then !(ds.any fun e => PyData.eqv e d) else ds.any fun e => PyData.eqv e d)) H
theorem op_inX (hq : QA X.A) : OpR X (compareOp .In) (rInX X.K false) := by
  intro pins s σ H x y v u Q I rx ry h
  obtain ⟨d, ds, ix, iy, h1, h2, h3, q⟩ := h
  obtain ⟨bs, rb⟩ := Is.reads I d x v ix rx
  rcases iy with iy | iy
  · obtain ⟨as, ra⟩ := Is.reads I _ y u iy ry
    exact SeqAt.in_list_reads ra rb h1 h2 (by have := hq.un; have := Nat.min_le_right (PyData.depthAll ds) d.depth; omega) ⟨.bl _, H, I, rfl, q⟩
  · obtain ⟨as, ra⟩ := Is.reads I _ y u iy ry
    exact SeqAt.in_tuple_reads ra rb h1 h2 (by have := hq.un; have := Nat.min_le_right (PyData.depthAll ds) d.depth; omega) ⟨.bl _, H, I, rfl, q⟩
theorem op_notInX (hq : QA X.A) : OpR X (compareOp .NotIn) (rInX X.K true) := by
  intro pins s σ H x y v u Q I rx ry h
  obtain ⟨d, ds, ix, iy, h1, h2, h3, q⟩ := h
  obtain ⟨bs, rb⟩ := Is.reads I d x v ix rx
  rcases iy with iy | iy
  · obtain ⟨as, ra⟩ := Is.reads I _ y u iy ry
    exact SeqAt.notIn_list_reads ra rb h1 h2 (by have := hq.un; have := Nat.min_le_right (PyData.depthAll ds) d.depth; omega) ⟨.bl _, H, I, rfl, q⟩
  · obtain ⟨as, ra⟩ := Is.reads I _ y u iy ry
    exact SeqAt.notIn_tuple_reads ra rb h1 h2 (by have := hq.un; have := Nat.min_le_right (PyData.depthAll ds) d.depth; omega) ⟨.bl _, H, I, rfl, q⟩
noncomputable def rInA (K : PySem.W.Frag) (neg : Bool) : R2 := fun x y H Q => rIn K neg x y H Q ∨ rInT neg x y H Q ∨ rInD neg x y H Q ∨ rInX K neg x y H Q
theorem QA.hu {A : Around} (h : QA A) : A.units + 1 < cLine := by have := h.un; omega
theorem op_inA (hq : QA X.A) : OpR X (compareOp .In) (rInA X.K false) := op_in_seq.or (op_in_str.or ((op_inD hq.hu).or (op_inX hq)))
theorem op_notInA (hq : QA X.A) : OpR X (compareOp .NotIn) (rInA X.K true) := op_notIn_seq.or (op_notIn_str.or ((op_notInD hq.hu).or (op_notInX hq)))
noncomputable def rSlA (K : PySem.W.Frag) : V → Option Int → Option Int → Hp → VK → Prop := fun x lo hi H Q => rSlL K x lo hi H Q ∨ rSlT K x lo hi H Q ∨ rSlS x lo hi H Q ∨ rSlW K x lo hi H Q
theorem sl_A : SlR X (rSlA X.K) := sl_list.or (sl_tup.or (sl_str.or sl_whole))
noncomputable def rIxD : R2 := fun x y H Q => ∃ a v, x = .ref a ∧ DGet H a y (some v) ∧ Q v H
theorem ix_dict (hu : X.A.units + 1 < cLine) : IxR X rIxD := by
  intro value slice pins s σ H x y v u Q I rx ry h hs
  obtain ⟨a, z, rfl, g, q⟩ := h
  cases rx
  exact tail_any (dict_typeIs I g) PySem.F.slot_dict_getitem.lookup (d_getItem hu I g ry fun w' s' I' rw' => ⟨z, H, I', rw', q⟩) hs
noncomputable def rIxA (K : PySem.W.Frag) : R2 := fun x y H Q => rIx K x y H Q ∨ rIxD x y H Q
theorem ix_any (hu : X.A.units + 1 < cLine) : IxR X (rIxA X.K) := ix_seq.or (ix_dict hu)
noncomputable def rLenA (K : PySem.W.Frag) : List V → Hp → VK → Prop := fun xs H Q => (∃ x n, xs = [x] ∧ LenV K x H n ∧ Q (.int n) H) ∨ ∃ a kvs, xs = [V.ref a] ∧ H a = some (.dK kvs) ∧ Q (.int kvs.length) H
theorem call_lenA : CallR X (.builtin "len") (rLenA X.K) := call_len.or call_lenD
noncomputable def rIsinst (K : PySem.W.Frag) : List V → Hp → VK → Prop := fun xs H Q => (∃ x c t b, xs = [x, .ty c] ∧ TyOf K H x t ∧ PySem.W.kitOne K t (.type c) = some b ∧ Q (.bl b) H) ∨ (∃ x c t b, xs = [x, .ref c] ∧ TyOf K H x t ∧ PySem.W.kitOne K t (.ref c) = some b ∧ Q (.bl b) H) ∨ ∃ a ys c b, xs = [V.ref a, .ty c] ∧ ((SqT K H a ys ∧ PySem.W.kitOne K (.type "tuple") (.type c) = some b) ∨ (SqL K H a ys ∧ PySem.W.kitOne K (.type "list") (.type c) = some b)) ∧ Q (.bl b) H
theorem call_isinstA : CallR X (.builtin "isinstance") (rIsinst X.K) := call_isinst.or (call_isinstR.or call_isinstQ)
noncomputable def rListA (K : PySem.W.Frag) : List V → Hp → VK → Prop := fun xs H Q => ∃ p ys, xs = [.ref p] ∧ (SqL K H p ys ∨ SqT K H p ys) ∧ ∀ l, H l = none → Q (.ref l) (upd H l (.lst ys))
theorem call_listA : CallR X (.type "list") (rListA X.K) := call_list_of
noncomputable def rTupleA (K : PySem.W.Frag) : List V → Hp → VK → Prop := fun xs H Q => ∃ p ys, xs = [.ref p] ∧ ((SqL K H p ys ∧ ∀ l, H l = none → Q (.ref l) (upd H l (.tup ys))) ∨ (SqT K H p ys ∧ Q (.ref p) H))
theorem call_tupleA : CallR X (.type "tuple") (rTupleA X.K) := call_tuple_of
noncomputable def rReprA : List V → Hp → VK → Prop := fun xs H Q => (∃ b, xs = [.bl b] ∧ Q (.str (if b then "True" else "False")) H) ∨ (xs = [.non] ∧ Q (.str "None") H)
theorem call_reprA : CallR X (.builtin "repr") rReprA := call_reprS
noncomputable def rIntA : List V → Hp → VK → Prop := fun xs H Q => (∃ i, xs = [.int i] ∧ Q (.int i) H) ∨ ∃ k, xs = [.bl k] ∧ Q (.int (if k then 1 else 0)) H
theorem call_intA : CallR X (.type "int") rIntA := call_int1
noncomputable def rAllA (K : PySem.W.Frag) : List V → Hp → VK → Prop := fun xs H Q => ∃ (a : Addr) (bs : List Bool), xs = [.ref a] ∧ SqL K H a (bs.map V.bl) ∧ Q (.bl (bs.all id)) H
theorem call_allA (hc : X.calm = true) : CallR X (.builtin "all") (rAllA X.K) := call_all hc
variable {tg : Expr}
noncomputable def rAnyIt (K : PySem.W.Frag) (x : V) (H1 : Hp) (R : It → Hp → Prop) : Prop := (∃ a, x = .ref a ∧ (∃ xs, SqL K H1 a xs) ∧ R (Itl K a) H1) ∨ (∃ a, x = .ref a ∧ (∃ xs, SqT K H1 a xs) ∧ R (Itt K a) H1) ∨ (∃ z, x = .str z ∧ R (Its z) H1) ∨ ∃ a kvs, x = .ref a ∧ ((H1 a = some (.dK kvs) ∧ ∀ o, R (Itd a o kvs) (upd H1 a (.frz o (.dK kvs)))) ∨ ∃ o, H1 a = some (.frz o (.dK kvs)) ∧ R (Itd a o kvs) H1)
noncomputable def iAny (K : PySem.W.Frag) (tl : TE) : TI := fun σ H R => tl σ H fun x H1 => rAnyIt K x H1 R
theorem pi_any (hu : X.A.units + 1 < cLine) {l : Expr} {tl : TE} (hl : PE X l tl) : PI X tg l (iAny X.K tl) := by
  intro pins s σ H R I h
  refine thn (hl pins s σ H _ I h) fun v s1 ⟨x, H1, I1, r1, q1⟩ => ?_
  rcases q1 with ⟨a, e, ⟨xs, hq⟩, q⟩ | ⟨a, e, ⟨xs, hq⟩, q⟩ | ⟨z, e, q⟩ | ⟨a, kvs, e, q⟩
  · subst e
    cases r1
    obtain ⟨its, rv, p, hz⟩ := I1.list hq
    refine wpAny_pyIter_list p.isList ?_
    refine ⟨s1.heap.objs.size, [s1.heap.objs.size], _, _, H1, rfl, I1.kept (t' := s1.toks) fun b o e => Heap.get?_push_of_some _ e, turn_list a _, ⟨_, Heap.get?_push_size _ rfl, rfl, rfl⟩, fun b hb => ?_, q⟩
    have e : b = s1.heap.objs.size := by simpa using hb
    subst e
    exact I1.fpOk (Nat.le_refl _) (I1.hok.fresh (Nat.le_refl _))
  · subst e
    cases r1
    obtain ⟨its, rv, p, hz⟩ := I1.tuple hq
    refine wpAny_pyIter_tuple (show s1.heap.IsTuple a its.toArray from p) ?_
    refine ⟨s1.heap.objs.size, [s1.heap.objs.size], _, _, H1, rfl, I1.kept (t' := s1.toks) fun b o e => Heap.get?_push_of_some _ e, turn_tuple a _, ⟨_, Heap.get?_push_size _ rfl, rfl, rfl⟩, fun b hb => ?_, q⟩
    have e : b = s1.heap.objs.size := by simpa using hb
    subst e
    exact I1.fpOk (Nat.le_refl _) (I1.hok.fresh (Nat.le_refl _))
  · subst e
    exact it_str I1 r1 q
  · subst e
    cases r1
    rcases q with ⟨hd, q⟩ | ⟨o, hd, q⟩
    · exact it_dict I1 hd q
    · exact it_dictF I1 hd q
end
noncomputable def Fnd (P : Program) (w : World) (K : PySem.W.Frag) (mg : Str → Option Value) (base : Heap) (k : Nat) (x : Str) (ps : List Str) (sp : Sp) : Prop :=
  ∃ f fd, FnOk P w K mg base CX0 k f fd ps sp ∧ mg x = some (.ref f) ∧ PySem.W.keepIn K (.ref f) = true ∧ Binds K fd ps []
section
variable {X : Cx} {k : Nat} {x : Str} {ps : List Str} {sp : Sp} {e : Expr} {es : List Expr} {t : TA} {p pos : Pos}
theorem pe_fn (F : Fnd X.prog X.w X.K X.mg X.base k x ps sp) (hr : Room k X.A) (hg : Gl X x) (ha : PA X (e :: es) t) (hdb : (x == ("__debug__" : Str)) = false := by decide)
    (he : starEach (e :: es) X.env = (false, eval e X.env) :: starEach es X.env := by with_unfolding_all rfl) (hpl : (backTo pos (starEach es X.env)).any (·.1) = false := by with_unfolding_all rfl) : PE X (.Call (.Name x p) (e :: es) [] pos) (tCall sp [] E0 t) := by
  obtain ⟨f, fd, h1, h2, h3, h4⟩ := F
  exact pe_call h1 hr hg h2 h3 h4 .nil pass0 ha hdb he hpl
end
noncomputable def ExtBut (d : Addr) (H H' : Hp) : Prop := ∀ b o, b ≠ d → H b = some o → H' b = some o
theorem Same.lk {H H' : Hp} {a : Addr} {o : HO} (e : Same H H') (h : H a = some o) : H' a = some o := e a o h
theorem ExtBut.lk {d : Addr} {H H' : Hp} {a : Addr} {o : HO} (e : ExtBut d H H') (h : H a = some o) (n : a ≠ d) : H' a = some o := e a o n h
theorem Same.upd {H : Hp} {p : Addr} {o : HO} (h : H p = none) : Same H (upd H p o) := fun b u e => by rw [upd_ne (ne_of_none e h)]; exact e
theorem ExtBut.upd {H : Hp} {p : Addr} {o : HO} : ExtBut p H (upd H p o) := fun b u n e => by rw [upd_ne n]; exact e
theorem ExtBut.trans {d : Addr} {H H1 H2 : Hp} (a : ExtBut d H H1) (b : ExtBut d H1 H2) : ExtBut d H H2 := fun c o n h => b c o n (a c o n h)
theorem ExtBut.same {d : Addr} {H H1 H2 : Hp} (a : ExtBut d H H1) (b : Same H1 H2) : ExtBut d H H2 := fun c o n h => b c o (a c o n h)
theorem ExtBut.after {d : Addr} {H H1 H2 : Hp} (a : Same H H1) (b : ExtBut d H1 H2) : ExtBut d H H2 := fun c o n h => b c o n (a c o h)
theorem ExtBut.refl {d : Addr} {H : Hp} : ExtBut d H H := fun _ _ _ h => h
theorem ExtBut.seq {K : PySem.W.Frag} {d : Addr} {H H' : Hp} {a : Addr} {xs : List V} (e : ExtBut d H H') (n : a ≠ d) (h : SqL K H a xs) : SqL K H' a xs := by
  rcases h with (h | ⟨o, h⟩) | h
  · exact .inl (.inl (e _ _ n h))
  · exact .inl (.inr ⟨o, e _ _ n h⟩)
  · exact .inr h
noncomputable def rNewT (xs : List V) (H : Hp) (Q : VK) : Prop := xs.length ≤ sizeLine ∧ ∀ p, H p = none → Q (.ref p) (upd H p (.tup xs))
noncomputable def rNewL (xs : List V) (H : Hp) (Q : VK) : Prop := xs.length ≤ sizeLine ∧ ∀ p, H p = none → Q (.ref p) (upd H p (.lst xs))
noncomputable def rRng1 (vs : List V) (H : Hp) (R : It → Hp → Prop) : Prop := ∃ j : Int, vs = [.int j] ∧ -(2 ^ 62) ≤ j ∧ j < 2 ^ 62 ∧ R (Itr 0 j.toNat) H
noncomputable def rRng2 (vs : List V) (H : Hp) (R : It → Hp → Prop) : Prop := ∃ i j : Int, vs = [.int i, .int j] ∧ (-(2 ^ 62) ≤ i ∧ i < 2 ^ 62 ∧ -(2 ^ 62) ≤ j ∧ j < 2 ^ 62) ∧ R (Itr i (j - i).toNat) H
noncomputable def rFor (g : TG) (tb : TS) (D : Ends) (σ : St) (J : It) (H1 : Hp) : Prop := ∃ W : Nat → Nat → St → Hp → Prop, (∃ m, W 0 m σ H1) ∧ ∀ i m σ H, W i m σ H →
  (J.stop i H ∧ D.nx σ H) ∨ (J.go i H ∧ ∃ N : St → Hp → Prop, (∀ σ' H', N σ' H' → ∃ m', m' < m ∧ W (i + 1) m' σ' H') ∧ ∀ x H', J.yld i H x H' → g x σ H' fun σ2 H2 => tb { D with nx := N, ct := N, bk := D.nx } σ2 H2)
noncomputable def rComp (k : Nat) (js : List Nat) (g : TG) (tt : TT) (te : TE) (σ : St) (J : It) (H1 : Hp) (Q : VK) : Prop := ∀ p, H1 p = none →
  ∃ W : Nat → Nat → Hp → Prop, (∃ m, W 0 m (upd H1 p (.lst []))) ∧ ∀ i m H, W i m H →
    (J.stop i H ∧ Q (.ref p) H) ∨ (J.go i H ∧ ∃ N : Hp → Prop, (∀ H', N H' → ∃ m', m' < m ∧ W (i + 1) m' H') ∧
      ∀ x H', J.yld i H x H' → g x (List.replicate k none ++ pick σ js) H' fun σ2 H2 => tt σ2 H2 fun b H3 =>
        if b = true then te σ2 H3 fun y H4 => ∃ acc, H4 p = some (.lst acc) ∧ acc.length < sizeLine ∧ N (upd H4 p (.lst (acc ++ [y]))) else N H3)
noncomputable def rPairs (p : Addr) (ps : List (V × V)) (H : Hp) (Q : VK) : Prop := H p = some (.dK []) ∧ ∃ kvs : List (Key × V), ps = kvs.map (fun kv => (kV kv.1, kv.2)) ∧ kvs.length ≤ 15 ∧ Q (.ref p) (upd H p (.dK (mergeK [] kvs)))
section
variable {K : PySem.W.Frag} {σ : St} {H : Hp} {Q : VK} {D : Ends} {ta tb te : TE} {c : TT} {t u : TS} {x y v : V} {i j : Int}
theorem i_var {n : Nat} (h : σ[n]? = some (some v)) (k : Q v H) : tVar n σ H Q := ⟨v, h, k⟩
theorem i_c (k : Q v H) : tC v σ H Q := k
theorem i_next (k : D.nx σ H) : tNext D σ H := k
theorem i_ret (k : te σ H D.rt) : tRet te D σ H := k
theorem i_drop (k : te σ H fun _ H1 => D.nx σ H1) : tDrop te D σ H := k
theorem i_asg {g : TG} (k : te σ H fun x H1 => g x σ H1 D.nx) : tAsg te g D σ H := k
theorem i_gname {n : Nat} {R : St → Hp → Prop} (k : R (σ.set n (some v)) H) : gName n v σ H R := k
theorem i_if (k : c σ H fun b H1 => if b = true then t D σ H1 else u D σ H1) : tIfS c t u D σ H := k
theorem i_op {r : R2} (k : ta σ H fun x H1 => tb σ H1 fun y H2 => r x y H2 Q) : tOp r ta tb σ H Q := k
theorem i_un {r : V → Hp → VK → Prop} (k : ta σ H fun x H1 => r x H1 Q) : tUn r ta σ H Q := k
theorem i_rU {g : Int → V} (k : Q (g i) H) : rU g (.int i) H Q := ⟨i, rfl, k⟩
theorem i_rI0 {g : Int → Int → V} (k : Q (g i j) H) : rI0 g (.int i) (.int j) H Q := ⟨i, j, rfl, rfl, k⟩
theorem i_rI {C : Int → Int → Prop} {g : Int → Int → V} (h : C i j) (k : Q (g i j) H) : rI C g (.int i) (.int j) H Q := ⟨i, j, rfl, rfl, h, k⟩
theorem i_addI (k : Q (.int (i + j)) H) : rAddA K (.int i) (.int j) H Q := .inl ⟨i, j, rfl, rfl, k⟩
theorem i_addS {a b : Str} (h : a.length + b.length ≤ sizeLine) (k : Q (.str (a ++ b)) H) : rAddA K (.str a) (.str b) H Q := .inr (.inl ⟨a, b, rfl, rfl, h, k⟩)
theorem i_addL {a b : Addr} {xs ys : List V} (h1 : H a = some (.lst xs)) (h2 : H b = some (.lst ys)) (h : xs.length + ys.length ≤ sizeLine) (k : ∀ p H', H p = none → Same H H' → H' p = some (.lst (xs ++ ys)) → Q (.ref p) H') : rAddA K (.ref a) (.ref b) H Q :=
  .inr (.inr (.inl ⟨a, b, xs, ys, rfl, rfl, h1, h2, h, fun p hp => k p _ hp (Same.upd hp) upd_same⟩))
theorem i_mulI (h : CMul i j) (k : Q (.int (i * j)) H) : rMulA (.int i) (.int j) H Q := .inl ⟨i, j, rfl, rfl, h, k⟩
theorem i_mulL {a : Addr} {xs : List V} (h1 : H a = some (.lst xs)) (h2 : -(2 ^ 63) ≤ i ∧ i < 2 ^ 63) (h3 : xs.length * i.toNat ≤ sizeLine) (k : ∀ p H', H p = none → Same H H' → H' p = some (.lst (List.replicate i.toNat xs).flatten) → Q (.ref p) H') : rMulA (.ref a) (.int i) H Q :=
  .inr ⟨a, i, xs, rfl, rfl, h1, h2.1, h2.2, h3, fun p hp => k p _ hp (Same.upd hp) upd_same⟩
theorem i_eqS (h : scal x y = true) (k : Q (.bl (decide (x = y))) H) : rEqA K x y H Q := .inl ⟨h, k⟩
theorem i_neS (h : scal x y = true) (k : Q (.bl (!decide (x = y))) H) : rNeA K x y H Q := .inl ⟨h, k⟩
theorem i_eqD {dx dy : PyData} (h1 : Is K H dx x) (h2 : Is K H dy y) (h3 : SeqAt.shaped dx = true) (h4 : SeqAt.shaped dy = true) (k : Q (.bl (PyData.eqv dx dy)) H) : rEqA K x y H Q := .inr ⟨dx, dy, h1, h2, h3, h4, k⟩
theorem i_neD {dx dy : PyData} (h1 : Is K H dx x) (h2 : Is K H dy y) (h3 : SeqAt.shaped dx = true) (h4 : SeqAt.shaped dy = true) (k : Q (.bl (!PyData.eqv dx dy)) H) : rNeA K x y H Q := .inr ⟨dx, dy, h1, h2, h3, h4, k⟩
theorem i_true {R : Bool → Hp → Prop} (k : R true H) : tTrue σ H R := k
theorem i_tTest {R : Bool → Hp → Prop} (k : te σ H fun x H' => ∃ b, x = .bl b ∧ R b H') : tTest te σ H R := k
theorem i_tB {R : Bool → Hp → Prop} (k : te σ H fun x H' => ∃ b, x = .bl b ∧ R b H') : tB te σ H R := k
theorem i_bl {b : Bool} {R : Bool → Prop} (k : R b) : ∃ c, V.bl b = .bl c ∧ R c := ⟨b, rfl, k⟩
theorem i_not {R : Bool → Hp → Prop} (k : c σ H fun b H1 => R (!b) H1) : tNot c σ H R := k
theorem i_and {c' : TT} {R : Bool → Hp → Prop} (k : c σ H fun b H1 => if b = true then c' σ H1 R else R false H1) : tAnd c c' σ H R := k
theorem i_or {c' : TT} {R : Bool → Hp → Prop} (k : c σ H fun b H1 => if b = true then R true H1 else c' σ H1 R) : tOr c c' σ H R := k
theorem i_ixL {a : Addr} {xs : List V} (h : H a = some (.lst xs)) (e : atI xs i = some v) (k : Q v H) : rIxA K (.ref a) (.int i) H Q := .inl (.inl ⟨a, xs, i, v, rfl, rfl, SqL.of h, e, k⟩)
theorem i_ixS {z : Str} {s : Nat} (h : z.length ≤ sizeLine) (e : atI z.cps.toList i = some s) (k : Q (.str ⟨#[s]⟩) H) : rIxA K (.str z) (.int i) H Q := .inl (.inr (.inr ⟨z, i, s, rfl, rfl, h, e, k⟩))
theorem i_ixD {a : Addr} {kvs : List (Key × V)} {z : Str} (h : H a = some (.dK kvs)) (e : valV kvs (Sum.inr z : Key) = some v) (k : Q v H) : rIxA K (.ref a) (.str z) H Q := .inr ⟨a, v, rfl, by rw [← e]; exact DGet.k (k := Sum.inr z) h, k⟩
theorem i_lenL {a : Addr} {xs : List V} (h : H a = some (.lst xs)) (k : Q (.int xs.length) H) : rLenA K [.ref a] H Q := .inl ⟨.ref a, _, rfl, .inl ⟨xs, SqL.of h, rfl⟩, k⟩
theorem i_isi {c : String} {t : Value} {b : Bool} (h : TyOf K H x t) (e : PySem.W.kitOne K t (.type c) = some b) (k : Q (.bl b) H) : rIsinst K [x, .ty c] H Q := .inl ⟨x, c, t, b, rfl, h, e, k⟩
theorem i_isiT {c : String} {b : Bool} {a : Addr} {ys : List V} (h : SqT K H a ys) (e : PySem.W.kitOne K (.type "tuple") (.type c) = some b) (k : Q (.bl b) H) : rIsinst K [.ref a, .ty c] H Q := .inr (.inr ⟨a, ys, c, b, rfl, .inl ⟨h, e⟩, k⟩)
theorem i_isiL {c : String} {b : Bool} {a : Addr} {ys : List V} (h : SqL K H a ys) (e : PySem.W.kitOne K (.type "list") (.type c) = some b) (k : Q (.bl b) H) : rIsinst K [.ref a, .ty c] H Q := .inr (.inr ⟨a, ys, c, b, rfl, .inr ⟨h, e⟩, k⟩)
theorem i_listL {a : Addr} {xs : List V} (h : SqL K H a xs) (k : ∀ p H', H p = none → Same H H' → H' p = some (.lst xs) → Q (.ref p) H') : rListA K [.ref a] H Q := ⟨a, xs, rfl, .inl h, fun p hp => k p _ hp (Same.upd hp) upd_same⟩
theorem i_tupleL {a : Addr} {xs : List V} (h : SqL K H a xs) (k : ∀ p H', H p = none → Same H H' → H' p = some (.tup xs) → Q (.ref p) H') : rTupleA K [.ref a] H Q := ⟨a, xs, rfl, .inl ⟨h, fun p hp => k p _ hp (Same.upd hp) upd_same⟩⟩
theorem i_intB {b : Bool} (k : Q (.int (if b then 1 else 0)) H) : rIntA [.bl b] H Q := .inr ⟨b, rfl, k⟩
theorem i_all {a : Addr} {bs : List Bool} (h : SqL K H a (bs.map V.bl)) (k : Q (.bl (bs.all id)) H) : rAllA K [.ref a] H Q := ⟨a, bs, rfl, h, k⟩
theorem i_sl {r : V → Option Int → Option Int → Hp → VK → Prop} {tl th : TO} (k : te σ H fun x H1 => tl σ H1 fun l H2 => th σ H2 fun u H3 => r x l u H3 Q) : tSl r te tl th σ H Q := k
theorem i_noPart {R : Option Int → Hp → Prop} (k : R none H) : tNoPart σ H R := k
theorem i_part {R : Option Int → Hp → Prop} (k : te σ H fun x H1 => ∃ i, x = .int i ∧ R (some i) H1) : tPart te σ H R := k
theorem i_int {R : Int → Prop} (k : R i) : ∃ j, V.int i = .int j ∧ R j := ⟨i, rfl, k⟩
theorem i_slS {z : Str} {lo hi : Option Int} (h : z.length ≤ sizeLine) (k : Q (.str (Txt.slice z lo hi)) H) : rSlA K (.str z) lo hi H Q := .inr (.inr (.inl ⟨z, rfl, h, k⟩))
theorem i_slL {a : Addr} {xs : List V} {lo hi : Option Int} (h : SqL K H a xs) (k : ∀ p H', H p = none → Same H H' → H' p = some (.lst (cutV xs lo hi)) → Q (.ref p) H') : rSlA K (.ref a) lo hi H Q := .inl ⟨a, xs, rfl, h, fun p hp => k p _ hp (Same.upd hp) upd_same⟩
theorem i_bm {T : String} {r : V → List V → Hp → VK → Prop} {ts : TA} (k : te σ H fun x H1 => tyV K T x H1 ∧ ts σ H1 fun xs H2 => r x xs H2 Q) : tBM K T r te ts σ H Q := k
theorem i_tyS {z : Str} {B : Prop} (k : B) : tyV K "str" (.str z) H ∧ B := ⟨rfl, k⟩
theorem i_upper {z : Str} (h : (Txt.upper z).length ≤ 16777216) (k : Q (.str (Txt.upper z)) H) : rUpper (.str z) [] H Q := ⟨z, rfl, rfl, h, k⟩
theorem i_bm0 {T : String} {r : V → List V → Hp → VK → Prop} (k : te σ H fun x H1 => tyV K T x H1 ∧ r x [] H1 Q) : tBM0 K T r te σ H Q := k
theorem i_call {sp : Sp} {E : XK} {ts : TA} (k : ts σ H fun vs H1 => sp (vs ++ []) H1 Q E) : tCall sp [] E ts σ H Q := k
theorem i_cb {r : List V → Hp → VK → Prop} {ts : TA} (k : ts σ H fun vs H1 => r vs H1 Q) : tCB r ts σ H Q := k
theorem i_cons {tr : TA} {R : List V → Hp → Prop} (k : ta σ H fun x H1 => tr σ H1 fun xs H2 => R (x :: xs) H2) : tCons ta tr σ H R := k
theorem i_nil {R : List V → Hp → Prop} (k : R [] H) : tNil σ H R := k
theorem i_tup {ts : TA} (k : ts σ H fun xs H1 => rNewT xs H1 Q) : tTup ts σ H Q := k
theorem i_lst {ts : TA} (k : ts σ H fun xs H1 => rNewL xs H1 Q) : tLst ts σ H Q := k
theorem i_newT {xs : List V} (h : xs.length ≤ sizeLine) (k : ∀ p H', H p = none → Same H H' → H' p = some (.tup xs) → Q (.ref p) H') : rNewT xs H Q := ⟨h, fun p hp => k p _ hp (Same.upd hp) upd_same⟩
theorem i_newL {xs : List V} (h : xs.length ≤ sizeLine) (k : ∀ p H', H p = none → Same H H' → H' p = some (.lst xs) → Q (.ref p) H') : rNewL xs H Q := ⟨h, fun p hp => k p _ hp (Same.upd hp) upd_same⟩
theorem i_newD (k : ∀ p H', H p = none → Same H H' → H' p = some (.dK []) → Q (.ref p) H') : tDNewK σ H Q := fun p hp => k p _ hp (Same.upd hp) upd_same
theorem i_put {td ty tv : TE} (k : tv σ H fun v H1 => td σ H1 fun x H2 => ty σ H2 fun y H3 => ∃ a H4, x = .ref a ∧ DPut H3 a y v H4 ∧ D.nx σ H4) : sDPut td ty tv D σ H := k
theorem i_dput {a : Addr} {kvs : List (Key × V)} {z : Str} {R : Hp → Prop} (h : H a = some (.dK kvs)) (hl : kvs.length < 1000) (k : ∀ H', ExtBut a H H' → H' a = some (.dK (putK kvs (Sum.inr z) v)) → R H') : ∃ b H4, V.ref a = .ref b ∧ DPut H b (.str z) v H4 ∧ R H4 :=
  ⟨a, _, rfl, DPut.k (k := Sum.inr z) h (small1000 (Nat.le_of_lt hl)), k _ ExtBut.upd upd_same⟩
theorem i_for {wi : TI} {g : TG} {tb : TS} (k : wi σ H fun J H1 => rFor g tb D σ J H1) : tFor wi g tb D σ H := k
theorem i_comp {m : Nat} {js : List Nat} {wi : TI} {g : TG} {tt : TT} (k : wi σ H fun J H1 => rComp m js g tt te σ J H1 Q) : tComp m js wi g tt te σ H Q := k
theorem i_itL {a : Addr} {xs : List V} {R : It → Hp → Prop} (h : SqL K H a xs) (k : R (Itl K a) H) : rAnyIt K (.ref a) H R := .inl ⟨a, rfl, ⟨xs, h⟩, k⟩
theorem i_itT {a : Addr} {xs : List V} {R : It → Hp → Prop} (h : SqT K H a xs) (k : R (Itt K a) H) : rAnyIt K (.ref a) H R := .inr (.inl ⟨a, rfl, ⟨xs, h⟩, k⟩)
theorem i_rng1 {ts : TA} {R : It → Hp → Prop} (k : ts σ H fun vs H1 => rRng1 vs H1 R) : iRng1 ts σ H R := k
theorem i_rngv {R : It → Hp → Prop} (h : -(2 ^ 62) ≤ i ∧ i < 2 ^ 62) (k : R (Itr 0 i.toNat) H) : rRng1 [V.int i] H R := ⟨i, rfl, h.1, h.2, k⟩
theorem i_rng2 {ts : TA} {R : It → Hp → Prop} (k : ts σ H fun vs H1 => rRng2 vs H1 R) : iRng2 ts σ H R := k
theorem i_rngw {R : It → Hp → Prop} (h : (-(2 ^ 62) ≤ i ∧ i < 2 ^ 62) ∧ -(2 ^ 62) ≤ j ∧ j < 2 ^ 62) (k : R (Itr i (j - i).toNat) H) : rRng2 [V.int i, V.int j] H R := ⟨i, j, rfl, ⟨h.1.1, h.1.2, h.2.1, h.2.2⟩, k⟩
theorem i_iany {R : It → Hp → Prop} (k : te σ H fun x H1 => rAnyIt K x H1 R) : iAny K te σ H R := k
theorem i_disp {trs : List (TE × TE)} (k : ∀ p H1, H p = none → Same H H1 → H1 p = some (.dK []) → tPairs trs σ H1 fun ps H2 => rPairs p ps H2 Q) : tDisp trs σ H Q := fun p hp => k p _ hp (Same.upd hp) upd_same
theorem i_pair {tk tv : TE} {r : List (TE × TE)} {R : List (V × V) → Hp → Prop} (k : tk σ H fun x H1 => tv σ H1 fun y H2 => tPairs r σ H2 fun ps H3 => R ((x, y) :: ps) H3) : tPairs ((tk, tv) :: r) σ H R := k
theorem i_pairs {p : Addr} {ps : List (V × V)} (kvs : List (Key × V)) (h : H p = some (.dK [])) (e : ps = kvs.map (fun kv => (kV kv.1, kv.2))) (hl : kvs.length ≤ 15) (k : ∀ H', ExtBut p H H' → H' p = some (.dK (mergeK [] kvs)) → Q (.ref p) H') : rPairs p ps H Q := ⟨h, kvs, e, hl, k _ ExtBut.upd upd_same⟩
theorem i_pair0 {R : List (V × V) → Hp → Prop} (k : R [] H) : tPairs [] σ H R := k
end
end L2
set_option Elab.async false
set_option linter.all false
set_option maxRecDepth 100000
set_option maxHeartbeats 4000000
namespace L2
open PySem PySem.Spec PyProof.Rows
theorem iteD {c A B : Prop} [Decidable c] (h1 : c → A) (h2 : ¬ c → B) : if decide c = true then A else B := by
  by_cases h : c
  · rw [if_pos (decide_eq_true h)]; exact h1 h
  · rw [if_neg (by rw [decide_eq_false h]; exact Bool.false_ne_true)]; exact h2 h
theorem iteND {c A B : Prop} [Decidable c] (h1 : ¬ c → A) (h2 : c → B) : if (!decide c) = true then A else B := by
  by_cases h : c
  · rw [decide_eq_true h, if_neg (by decide)]; exact h2 h
  · rw [decide_eq_false h, if_pos (by decide)]; exact h1 h
theorem iteB {b : Bool} {A B : Prop} (h1 : b = true → A) (h2 : b = false → B) : if b = true then A else B := by
  cases b
  · rw [if_neg Bool.false_ne_true]; exact h2 rfl
  · rw [if_pos rfl]; exact h1 rfl
theorem iteNB {b : Bool} {A B : Prop} (h1 : b = false → A) (h2 : b = true → B) : if (!b) = true then A else B := by
  cases b
  · exact h1 rfl
  · exact h2 rfl
theorem iteNT {A B : Prop} (h : B) : if (!true) = true then A else B := h
theorem iteNF {A B : Prop} (h : A) : if (!false) = true then A else B := h
theorem line_of {n : Nat} (h : n ≤ 1000000) : n ≤ sizeLine := by rw [sizeLine_eq]; omega
noncomputable def WalkOf (J : It) (xs : List V) (G : Hp → Prop) : Prop :=
  ∀ i H, G H → (i < xs.length → J.go i H) ∧ (xs.length ≤ i → J.stop i H) ∧ ∀ x H', i < xs.length → J.yld i H x H' → H' = H ∧ xs[i]? = some x
theorem walk_list {K : PySem.W.Frag} {a : Addr} {xs : List V} : WalkOf (Itl K a) xs fun H => SqL K H a xs := by
  intro i H g
  refine ⟨fun h => ⟨xs, xs[i], g, List.getElem?_eq_getElem h⟩, fun h => ⟨xs, g, h⟩, fun x H' _ h => ⟨h.1, h.2 xs g⟩⟩
theorem walk_tup {K : PySem.W.Frag} {a : Addr} {xs : List V} : WalkOf (Itt K a) xs fun H => SqT K H a xs := by
  intro i H g
  refine ⟨fun h => ⟨xs, xs[i], g, List.getElem?_eq_getElem h⟩, fun h => ⟨xs, g, h⟩, fun x H' _ h => ⟨h.1, h.2 xs g⟩⟩
theorem walk_range {lo : Int} {n : Nat} : WalkOf (Itr lo n) ((List.range n).map fun (i : Nat) => V.int (lo + (i : Int))) fun _ => True := by
  intro i H _
  refine ⟨fun h => ?_, fun h => ?_, fun x H' hi h => ?_⟩
  · show i < n
    simpa using h
  · show n ≤ i
    simpa using h
  · obtain ⟨e, hx⟩ := h
    refine ⟨e, ?_⟩
    have hi' : i < n := by simpa using hi
    rw [List.getElem?_map, List.getElem?_range hi', hx]
    rfl
theorem for_walk {J : It} {xs : List V} {G : Hp → Prop} {g : TG} {tb : TS} {D : Ends} {σ : St} {H : Hp} (hw : WalkOf J xs G) (Pv : Nat → St → Hp → Prop) (h0 : Pv 0 σ H) (hG : ∀ i σ H, Pv i σ H → G H)
    (hs : ∀ i x σ H, xs[i]? = some x → Pv i σ H → g x σ H fun σ2 H2 => tb { D with nx := Pv (i + 1), ct := Pv (i + 1), bk := D.nx } σ2 H2) (hd : ∀ σ H, Pv xs.length σ H → D.nx σ H) :
    ∃ W : Nat → Nat → St → Hp → Prop, (∃ m, W 0 m σ H) ∧ ∀ i m σ H, W i m σ H →
      (J.stop i H ∧ D.nx σ H) ∨ (J.go i H ∧ ∃ N : St → Hp → Prop, (∀ σ' H', N σ' H' → ∃ m', m' < m ∧ W (i + 1) m' σ' H') ∧ ∀ x H', J.yld i H x H' → g x σ H' fun σ2 H2 => tb { D with nx := N, ct := N, bk := D.nx } σ2 H2) := by
  refine ⟨fun i m σ H => m = xs.length - i ∧ i ≤ xs.length ∧ Pv i σ H, ⟨xs.length, by simp, Nat.zero_le _, h0⟩, ?_⟩
  rintro i m σ H ⟨rfl, hi, p⟩
  obtain ⟨w1, w2, w3⟩ := hw i H (hG i σ H p)
  by_cases hlt : i < xs.length
  · refine .inr ⟨w1 hlt, Pv (i + 1), fun σ' H' p' => ⟨xs.length - (i + 1), by omega, rfl, hlt, p'⟩, fun x H' y => ?_⟩
    obtain ⟨e, hx⟩ := w3 x H' hlt y
    subst e
    exact hs i x σ _ hx p
  · have e : i = xs.length := by omega
    subst e
    exact .inl ⟨w2 (Nat.le_refl _), hd σ H p⟩
noncomputable def CN (p : Addr) (n : Nat) (Pv : Nat → List V → Hp → Prop) (i : Nat) : Hp → Prop := fun H' => i + 1 ≤ n ∧ ∃ acc, H' p = some (.lst acc) ∧ acc.length ≤ i + 1 ∧ Pv (i + 1) acc H'
theorem cn_push {p : Addr} {n : Nat} {Pv : Nat → List V → Hp → Prop} {i : Nat} {H : Hp} {acc : List V} {y : V} (hn : n ≤ 1000000) (hi : i < n) (hl : acc.length ≤ i) (e : H p = some (.lst acc)) (k : ∀ H', ExtBut p H H' → H' p = some (.lst (acc ++ [y])) → Pv (i + 1) (acc ++ [y]) H') :
    ∃ acc, H p = some (.lst acc) ∧ acc.length < sizeLine ∧ CN p n Pv i (upd H p (.lst (acc ++ [y]))) :=
  ⟨acc, e, by rw [sizeLine_eq]; omega, hi, acc ++ [y], upd_same, by rw [List.length_append, List.length_singleton]; omega, k _ ExtBut.upd upd_same⟩
theorem cn_skip {p : Addr} {n : Nat} {Pv : Nat → List V → Hp → Prop} {i : Nat} {H : Hp} {acc : List V} (hi : i < n) (hl : acc.length ≤ i) (e : H p = some (.lst acc)) (k : Pv (i + 1) acc H) : CN p n Pv i H := ⟨hi, acc, e, by omega, k⟩
theorem comp_walk {J : It} {xs : List V} {G : Hp → Prop} {g : TG} {tt : TT} {te : TE} {σ : St} {H : Hp} {Q : VK} {p : Addr} {k : Nat} {js : List Nat} (hw : WalkOf J xs G) (hp : H p = none) (Pv : Nat → List V → Hp → Prop)
    (h0 : ∀ H', Same H H' → H' p = some (.lst []) → Pv 0 [] H') (hG : ∀ i acc H, Pv i acc H → G H)
    (hs : ∀ i x acc H, xs[i]? = some x → i < xs.length → acc.length ≤ i → H p = some (.lst acc) → Pv i acc H → g x (List.replicate k none ++ pick σ js) H fun σ2 H2 => tt σ2 H2 fun b H3 =>
      if b = true then te σ2 H3 fun y H4 => ∃ acc, H4 p = some (.lst acc) ∧ acc.length < sizeLine ∧ CN p xs.length Pv i (upd H4 p (.lst (acc ++ [y]))) else CN p xs.length Pv i H3)
    (hd : ∀ acc H, H p = some (.lst acc) → acc.length ≤ xs.length → Pv xs.length acc H → Q (.ref p) H) :
    ∃ W : Nat → Nat → Hp → Prop, (∃ m, W 0 m (upd H p (.lst []))) ∧ ∀ i m H, W i m H →
      (J.stop i H ∧ Q (.ref p) H) ∨ (J.go i H ∧ ∃ N : Hp → Prop, (∀ H', N H' → ∃ m', m' < m ∧ W (i + 1) m' H') ∧
        ∀ x H', J.yld i H x H' → g x (List.replicate k none ++ pick σ js) H' fun σ2 H2 => tt σ2 H2 fun b H3 =>
          if b = true then te σ2 H3 fun y H4 => ∃ acc, H4 p = some (.lst acc) ∧ acc.length < sizeLine ∧ N (upd H4 p (.lst (acc ++ [y]))) else N H3) := by
  refine ⟨fun i m H => m = xs.length - i ∧ i ≤ xs.length ∧ ∃ acc, H p = some (.lst acc) ∧ acc.length ≤ i ∧ Pv i acc H, ⟨xs.length, by simp, Nat.zero_le _, [], upd_same, Nat.le_refl _, h0 _ (Same.upd hp) upd_same⟩, ?_⟩
  rintro i m H ⟨rfl, hi, acc, hacc, hl, q⟩
  obtain ⟨w1, w2, w3⟩ := hw i H (hG i acc H q)
  by_cases hlt : i < xs.length
  · refine .inr ⟨w1 hlt, CN p xs.length Pv i, fun H' ⟨h1, h2⟩ => ⟨xs.length - (i + 1), by omega, rfl, h1, h2⟩, fun x H' y => ?_⟩
    obtain ⟨e, hx⟩ := w3 x H' hlt y
    subst e
    exact hs i x acc _ hx hlt hl hacc q
  · have e : i = xs.length := by omega
    subst e
    exact .inl ⟨w2 (Nat.le_refl _), hd acc H hacc hl q⟩
noncomputable def rPush (p : Addr) (N : Hp → Prop) : VK := fun y H4 => ∃ acc, H4 p = some (.lst acc) ∧ acc.length < sizeLine ∧ N (upd H4 p (.lst (acc ++ [y])))
theorem comp_by {J : It} {xs : List V} {G : Hp → Prop} {g : TG} {tt : TT} {te : TE} {σ : St} {H : Hp} {Q : VK} {k : Nat} {js : List Nat} (hw : WalkOf J xs G) (Pv : Addr → Nat → List V → Hp → Prop)
    (h0 : ∀ p H', H p = none → Same H H' → H' p = some (.lst []) → Pv p 0 [] H') (hG : ∀ p i acc H, Pv p i acc H → G H)
    (hs : ∀ p i x acc H1, H p = none → xs[i]? = some x → i < xs.length → acc.length ≤ i → H1 p = some (.lst acc) → Pv p i acc H1 → g x (List.replicate k none ++ pick σ js) H1 fun σ2 H2 => tt σ2 H2 fun b H3 =>
      if b = true then te σ2 H3 (rPush p (CN p xs.length (Pv p) i)) else CN p xs.length (Pv p) i H3)
    (hd : ∀ p acc H1, H p = none → H1 p = some (.lst acc) → acc.length ≤ xs.length → Pv p xs.length acc H1 → Q (.ref p) H1) : rComp k js g tt te σ J H Q := fun p hp =>
  comp_walk hw hp (Pv p) (fun H' e h => h0 p H' hp e h) (hG p) (fun i x acc H1 h1 h2 h3 h4 h5 => hs p i x acc H1 hp h1 h2 h3 h4 h5) fun acc H1 h1 h2 h3 => hd p acc H1 hp h1 h2 h3
theorem push_i {p : Addr} {n : Nat} {Pv : Nat → List V → Hp → Prop} {i : Nat} {H : Hp} {acc : List V} {y : V} (hn : n ≤ 1000000) (hi : i < n) (hl : acc.length ≤ i) (e : H p = some (.lst acc)) (k : ∀ H', ExtBut p H H' → H' p = some (.lst (acc ++ [y])) → Pv (i + 1) (acc ++ [y]) H') :
    rPush p (CN p n Pv i) y H := cn_push hn hi hl e k
theorem comp_pure {J : It} {xs : List V} {G : Hp → Prop} {g : TG} {tt : TT} {te : TE} {σ : St} {H : Hp} {Q : VK} {k : Nat} {js : List Nat} (hw : WalkOf J xs G) (t : V → Bool) (f : V → V) (hz : xs.length ≤ 1000000) (hG : ∀ H', Same H H' → G H')
    (hs : ∀ (i : Nat) x H1 (R : VK) (R' : Hp → Prop), xs[i]? = some x → Same H H1 → (t x = true → R (f x) H1) → (t x = false → R' H1) → g x (List.replicate k none ++ pick σ js) H1 fun σ2 H2 => tt σ2 H2 fun b H3 => if b = true then te σ2 H3 R else R' H3)
    (hd : ∀ p H', H p = none → Same H H' → H' p = some (.lst ((xs.filter t).map f)) → Q (.ref p) H') : rComp k js g tt te σ J H Q := by
  refine comp_by hw (fun p i acc H1 => Same H H1 ∧ acc = ((xs.take i).filter t).map f) (fun p H' hp e h => ⟨e, by simp⟩) (fun p i acc H1 h => hG H1 h.1) (fun p i x acc H1 hp hx hi hl ha ⟨e, hacc⟩ => ?_) fun p acc H1 hp ha hl ⟨e, hacc⟩ => ?_
  · have ht : xs.take (i + 1) = xs.take i ++ [x] := by rw [List.take_add_one, hx]; rfl
    refine hs i x H1 _ _ hx e (fun h => ?_) fun h => ?_
    · refine push_i hz hi hl ha fun H' e' h' => ⟨fun b o hb => e' b o (ne_of_none hb hp) (e b o hb), ?_⟩
      rw [ht, List.filter_append, List.map_append, hacc]
      simp [h]
    · refine cn_skip hi hl ha ⟨e, ?_⟩
      rw [ht, List.filter_append, List.map_append, hacc]
      simp [h]
  · refine hd p H1 hp e ?_
    rw [ha, hacc, List.take_length]
theorem filter_true {α : Type} (xs : List α) : xs.filter (fun _ => true) = xs := by simp
theorem comp_map {J : It} {xs : List V} {G : Hp → Prop} {g : TG} {te : TE} {σ : St} {H : Hp} {Q : VK} {k : Nat} {js : List Nat} (hw : WalkOf J xs G) (f : V → V) (hz : xs.length ≤ 1000000) (hG : ∀ H', Same H H' → G H')
    (hs : ∀ (i : Nat) x H1 (R : VK), xs[i]? = some x → Same H H1 → R (f x) H1 → g x (List.replicate k none ++ pick σ js) H1 fun σ2 H2 => te σ2 H2 R)
    (hd : ∀ p H', H p = none → Same H H' → H' p = some (.lst (xs.map f)) → Q (.ref p) H') : rComp k js g tTrue te σ J H Q :=
  comp_pure hw (fun _ => true) f hz hG (fun i x H1 R R' hx e h _ => by
    have := hs i x H1 R hx e (h rfl)
    show g x _ H1 fun σ2 H2 => if true = true then te σ2 H2 R else R' H2
    simpa using this) fun p H' hp e h => hd p H' hp e (by rw [h, filter_true])
theorem for_by {J : It} {xs : List V} {G : Hp → Prop} {g : TG} {tb : TS} {D : Ends} {σ : St} {H : Hp} (hw : WalkOf J xs G) (Pv : Nat → St → Hp → Prop) (h0 : Pv 0 σ H) (hG : ∀ i σ H, Pv i σ H → G H)
    (hs : ∀ i x σ H, xs[i]? = some x → i < xs.length → Pv i σ H → g x σ H fun σ2 H2 => tb { D with nx := Pv (i + 1), ct := Pv (i + 1), bk := D.nx } σ2 H2) (hd : ∀ σ H, Pv xs.length σ H → D.nx σ H) : rFor g tb D σ J H :=
  for_walk hw Pv h0 hG (fun i x σ H hx => hs i x σ H hx (List.getElem?_eq_some_iff.mp hx).1) hd
section
variable {X : Cx} {K : PySem.W.Frag}
theorem op_addK (hK : X.K = K := by with_unfolding_all rfl) : OpR X (binaryOp .Add) (rAddA K) := hK ▸ op_addA
theorem op_eqK (hq : QA X.A) (hK : X.K = K := by with_unfolding_all rfl) : OpR X (compareOp .Eq) (rEqA K) := hK ▸ op_eqA hq
theorem op_neK (hq : QA X.A) (hK : X.K = K := by with_unfolding_all rfl) : OpR X (compareOp .NotEq) (rNeA K) := hK ▸ op_neA hq
theorem op_inK (hq : QA X.A) (hK : X.K = K := by with_unfolding_all rfl) : OpR X (compareOp .In) (rInA K false) := hK ▸ op_inA hq
theorem op_notInK (hq : QA X.A) (hK : X.K = K := by with_unfolding_all rfl) : OpR X (compareOp .NotIn) (rInA K true) := hK ▸ op_notInA hq
theorem ix_anyK (hu : X.A.units + 1 < cLine) (hK : X.K = K := by with_unfolding_all rfl) : IxR X (rIxA K) := hK ▸ ix_any hu
theorem sl_K (hK : X.K = K := by with_unfolding_all rfl) : SlR X (rSlA K) := hK ▸ sl_A
theorem call_lenK (hK : X.K = K := by with_unfolding_all rfl) : CallR X (.builtin "len") (rLenA K) := hK ▸ call_lenA
theorem call_isinstK (hK : X.K = K := by with_unfolding_all rfl) : CallR X (.builtin "isinstance") (rIsinst K) := hK ▸ call_isinstA
theorem call_listK (hK : X.K = K := by with_unfolding_all rfl) : CallR X (.type "list") (rListA K) := hK ▸ call_listA
theorem call_tupleK (hK : X.K = K := by with_unfolding_all rfl) : CallR X (.type "tuple") (rTupleA K) := hK ▸ call_tupleA
theorem call_allK (hc : X.calm = true) (hK : X.K = K := by with_unfolding_all rfl) : CallR X (.builtin "all") (rAllA K) := hK ▸ call_allA hc
theorem pi_anyK {tg : Expr} (hu : X.A.units + 1 < cLine) {l : Expr} {tl : TE} (hl : PE X l tl) (hK : X.K = K := by with_unfolding_all rfl) : PI X tg l (iAny K tl) := hK ▸ pi_any hu hl
theorem pg_tupK {es : List Expr} {k : Nat} {t : TGs} {n : Nat} {pos : Pos} (hc : X.calm = true) (h : PGs X es t) (hK : X.K = K := by with_unfolding_all rfl)
    (hn : (assignEach es X.env).length = n := by with_unfolding_all rfl) (hst : (assignEach es X.env).findIdx? (·.1) = none := by with_unfolding_all rfl) : PG X (.Tuple es k pos) (gTup K n t) := hK ▸ pg_tup hc h hn hst
variable {o e : Expr} {es : List Expr} {to : TE} {t : TA} {name : Str} {apos cpos : Pos} {T id : String} {r : V → List V → Hp → VK → Prop}
theorem pe_bm0K (pa : PlainAttrs T) (slot : Slot T name id) (hty : typeOf (.builtin id) = pure (.type "method_descriptor")) (hm : MtR X id r) (ho : PE X o to) (hK : X.K = K := by with_unfolding_all rfl)
    (hbase : attributeBase o name X.env (eval o X.env) = eval o X.env := by with_unfolding_all rfl) (hline : (apos.endLine == cpos.line) = true := by with_unfolding_all rfl) : PE X (.Call (.Attribute o name apos) [] [] cpos) (tBM0 K T r to) := hK ▸ pe_bm0 pa slot hty hm ho hbase hline
theorem pe_bmK (pa : PlainAttrs T) (slot : Slot T name id) (hty : typeOf (.builtin id) = pure (.type "method_descriptor")) (hm : MtR X id r) (ho : PE X o to) (ha : PA X (e :: es) t) (hK : X.K = K := by with_unfolding_all rfl)
    (hbase : attributeBase o name X.env (eval o X.env) = eval o X.env := by with_unfolding_all rfl)
    (hfew : ((backTo cpos (starEach (e :: es) X.env)).all (fun x => !x.1) && (backToKw cpos (keywordEach [] X.env)).all (fun x => x.1.isSome)
      && decide ((e :: es).length + ([] : List Keyword).length + (if ([] : List Keyword).isEmpty then 0 else 1) < 30)) = true := by with_unfolding_all rfl)
    (hline : (apos.endLine == cpos.line) = true := by with_unfolding_all rfl) (hs : starEach (e :: es) X.env = (false, eval e X.env) :: starEach es X.env := by with_unfolding_all rfl) (hplain : (backTo cpos (starEach es X.env)).any (·.1) = false := by with_unfolding_all rfl) :
    PE X (.Call (.Attribute o name apos) (e :: es) [] cpos) (tBM K T r to t) := hK ▸ pe_bm pa slot hty hm ho ha hbase hfew hline hs hplain
end
end L2
set_option Elab.async false
set_option linter.all false
set_option maxRecDepth 100000
set_option maxHeartbeats 4000000
namespace L2
open PySem PySem.Spec PyProof.Rows
noncomputable def Fz (H H' : Hp) : Prop := ∀ a xs, Rd H a (.tup xs) → Rd H' a (.tup xs)
theorem Fz.refl (H : Hp) : Fz H H := fun _ _ h => h
theorem Fz.trans {H H1 H2 : Hp} (a : Fz H H1) (b : Fz H1 H2) : Fz H H2 := fun c xs h => b c xs (a c xs h)
theorem Same.fz {H H' : Hp} (e : Same H H') : Fz H H' := fun a xs h => by
  rcases h with h | ⟨o, h⟩
  · exact .inl (e _ _ h)
  · exact .inr ⟨o, e _ _ h⟩
theorem fz_but {p : Addr} {H H' : Hp} (e : ExtBut p H H') (hp : ∀ xs, ¬ Rd H p (.tup xs)) : Fz H H' := fun a xs h => by
  have n : a ≠ p := fun q => hp xs (q ▸ h)
  rcases h with h | ⟨o, h⟩
  · exact .inl (e _ _ n h)
  · exact .inr ⟨o, e _ _ n h⟩
theorem ExtBut.fzL {p : Addr} {H H' : Hp} {l : List V} (e : ExtBut p H H') (hp : H p = some (.lst l)) : Fz H H' := fz_but e fun xs h => by
  rcases h with h | ⟨o, h⟩
  · rw [hp] at h; cases h
  · rw [hp] at h; cases h
theorem ExtBut.fzD {p : Addr} {H H' : Hp} {l : List (Key × V)} (e : ExtBut p H H') (hp : H p = some (.dK l)) : Fz H H' := fz_but e fun xs h => by
  rcases h with h | ⟨o, h⟩
  · rw [hp] at h; cases h
  · rw [hp] at h; cases h
theorem Fz.seq {K : PySem.W.Frag} {H H' : Hp} (e : Fz H H') {a : Addr} {xs : List V} (h : SqT K H a xs) : SqT K H' a xs := by
  rcases h with h | h
  · exact .inl (e _ _ h)
  · exact .inr h
mutual
def frz : PyData → Bool
  | .tuple ds => frzL ds
  | .list _ => false
  | .dict _ => false
  | _ => true
def frzL : List PyData → Bool
  | [] => true
  | d :: ds => frz d && frzL ds
end
mutual
theorem Is.fz {K : PySem.W.Frag} {H H' : Hp} (e : Fz H H') : ∀ (d : PyData) (v : V), frz d = true → Is K H d v → Is K H' d v
  | .none, _, _, h => by simp only [Is] at h ⊢; exact h
  | .bool _, _, _, h => by simp only [Is] at h ⊢; exact h
  | .int _, _, _, h => by simp only [Is] at h ⊢; exact h
  | .str _, _, _, h => by simp only [Is] at h ⊢; exact h
  | .list ds, v, hf, _ => by simp [frz] at hf
  | .tuple ds, v, hf, h => by
    simp only [Is] at h ⊢
    obtain ⟨a, xs, e1, e2, e3⟩ := h
    exact ⟨a, xs, e1, e.seq e2, IsL.fz e ds xs (by simpa only [frz] using hf) e3⟩
  | .dict _, _, _, h => by simp only [Is] at h
theorem IsL.fz {K : PySem.W.Frag} {H H' : Hp} (e : Fz H H') : ∀ (ds : List PyData) (vs : List V), frzL ds = true → IsL K H ds vs → IsL K H' ds vs
  | [], _, _, h => by simp only [IsL] at h ⊢; exact h
  | d :: ds, vs, hf, h => by
    simp only [IsL] at h ⊢
    simp only [frzL, Bool.and_eq_true] at hf
    obtain ⟨v, r, e1, e2, e3⟩ := h
    exact ⟨v, r, e1, Is.fz e d v hf.1 e2, IsL.fz e ds r hf.2 e3⟩
end
section
variable {K : PySem.W.Frag} {H H' : Hp}
theorem IsL.length : ∀ {ds : List PyData} {vs : List V}, IsL K H ds vs → ds.length = vs.length
  | [], _, h => by simp only [IsL] at h; subst h; rfl
  | d :: ds, vs, h => by
    simp only [IsL] at h
    obtain ⟨v, r, rfl, _, e3⟩ := h
    simp only [List.length_cons, IsL.length e3]
theorem IsL.get : ∀ {ds : List PyData} {vs : List V} {i : Nat} {x : V}, IsL K H ds vs → vs[i]? = some x → ∃ d, ds[i]? = some d ∧ Is K H d x
  | [], _, _, _, h, e => by simp only [IsL] at h; subst h; simp at e
  | d :: ds, vs, i, x, h, e => by
    simp only [IsL] at h
    obtain ⟨v, r, rfl, e2, e3⟩ := h
    cases i with
    | zero => simp at e; subst e; exact ⟨d, rfl, e2⟩
    | succ i =>
      obtain ⟨d', h1, h2⟩ := IsL.get (i := i) e3 (by simpa using e)
      exact ⟨d', by simpa using h1, h2⟩
theorem IsL.append : ∀ {ds es : List PyData} {vs us : List V}, IsL K H ds vs → IsL K H es us → IsL K H (ds ++ es) (vs ++ us)
  | [], _, _, _, h, g => by simp only [IsL] at h; subst h; exact g
  | d :: ds, es, vs, us, h, g => by
    simp only [IsL] at h
    obtain ⟨v, r, rfl, e2, e3⟩ := h
    simp only [List.cons_append, IsL]
    exact ⟨v, _, rfl, e2, IsL.append e3 g⟩
theorem IsL.one {d : PyData} {v : V} (h : Is K H d v) : IsL K H [d] [v] := by simp only [IsL]; exact ⟨v, [], rfl, h, rfl⟩
theorem IsL.nil : IsL K H [] [] := by simp only [IsL]
theorem IsL.cons {d : PyData} {v : V} {ds : List PyData} {vs : List V} (h : Is K H d v) (g : IsL K H ds vs) : IsL K H (d :: ds) (v :: vs) := by simp only [IsL]; exact ⟨v, vs, rfl, h, g⟩
theorem IsL.take : ∀ {ds : List PyData} {vs : List V} (n : Nat), IsL K H ds vs → IsL K H (ds.take n) (vs.take n)
  | ds, vs, 0, h => by simp only [List.take_zero]; exact .nil
  | [], vs, n + 1, h => by simp only [IsL] at h; subst h; exact .nil
  | d :: ds, vs, n + 1, h => by
    simp only [IsL] at h
    obtain ⟨v, r, rfl, e2, e3⟩ := h
    exact .cons e2 (IsL.take n e3)
theorem IsL.drop : ∀ {ds : List PyData} {vs : List V} (n : Nat), IsL K H ds vs → IsL K H (ds.drop n) (vs.drop n)
  | ds, vs, 0, h => h
  | [], vs, n + 1, h => by simp only [IsL] at h; subst h; exact .nil
  | d :: ds, vs, n + 1, h => by
    simp only [IsL] at h
    obtain ⟨v, r, rfl, e2, e3⟩ := h
    exact IsL.drop n e3
theorem IsL.str_eq : ∀ {ns : List Str} {vs : List V}, IsL K H (ns.map PyData.str) vs → vs = ns.map V.str
  | [], vs, h => by simp only [List.map_nil, IsL] at h; exact h
  | n :: ns, vs, h => by
    simp only [List.map_cons, IsL, Is] at h
    obtain ⟨v, r, rfl, rfl, e3⟩ := h
    rw [IsL.str_eq e3]
    rfl
theorem Is.tup {ds : List PyData} {v : V} (h : Is K H (.tuple ds) v) : ∃ a xs, v = .ref a ∧ SqT K H a xs ∧ IsL K H ds xs := by simpa only [Is] using h
theorem Is.of_tup {ds : List PyData} {a : Addr} {xs : List V} (h : SqT K H a xs) (g : IsL K H ds xs) : Is K H (.tuple ds) (.ref a) := by simp only [Is]; exact ⟨a, xs, rfl, h, g⟩
theorem Is.of_lst {ds : List PyData} {a : Addr} {xs : List V} (h : SqL K H a xs) (g : IsL K H ds xs) : Is K H (.list ds) (.ref a) := by simp only [Is]; exact ⟨a, xs, rfl, h, g⟩
theorem Is.str {z : Str} {v : V} (h : Is K H (.str z) v) : v = .str z := by simpa only [Is] using h
theorem is_str {z : Str} : Is K H (.str z) (.str z) := by simp only [Is]
theorem is_int {z : Int} : Is K H (.int z) (.int z) := by simp only [Is]
theorem is_bl {z : Bool} : Is K H (.bool z) (.bl z) := by simp only [Is]
end
noncomputable def nmD (ns : List Str) : PyData := .tuple (ns.map PyData.str)
noncomputable def prD (p : Str × Str) : PyData := .tuple [.str p.1, .str p.2]
noncomputable def psD (ps : List (Str × Str)) : PyData := .tuple (ps.map prD)
noncomputable def hfD (ns : List Str) (ps : List (Str × Str)) : PyData := .tuple [nmD ns, psD ps]
theorem frzL_strs : ∀ ns : List Str, frzL (ns.map PyData.str) = true
  | [] => rfl
  | n :: ns => by simp only [List.map_cons, frzL, frz, frzL_strs ns, Bool.and_self]
theorem frz_nm (ns : List Str) : frz (nmD ns) = true := by simp only [nmD, frz, frzL_strs]
theorem frz_pr (p : Str × Str) : frz (prD p) = true := by simp [prD, frz, frzL]
theorem frzL_prs : ∀ ps : List (Str × Str), frzL (ps.map prD) = true
  | [] => rfl
  | n :: ns => by simp only [List.map_cons, frzL, frz_pr, frzL_prs ns, Bool.and_self]
theorem frz_ps (ps : List (Str × Str)) : frz (psD ps) = true := by simp only [psD, frz, frzL_prs]
theorem frz_hf (ns : List Str) (ps : List (Str × Str)) : frz (hfD ns ps) = true := by simp only [hfD, frz, frzL, frz_nm, frz_ps, Bool.and_self]
section
variable {K : PySem.W.Frag} {H H' : Hp}
theorem Is.nm {ns : List Str} {v : V} (h : Is K H (nmD ns) v) : ∃ a, v = .ref a ∧ SqT K H a (ns.map V.str) := by
  obtain ⟨a, xs, rfl, h1, h2⟩ := Is.tup h
  exact ⟨a, rfl, by rw [← IsL.str_eq h2]; exact h1⟩
theorem is_nm {ns : List Str} {a : Addr} (h : SqT K H a (ns.map V.str)) : Is K H (nmD ns) (.ref a) := Is.of_tup h (is_strs ns)
theorem Is.pr {p : Str × Str} {v : V} (h : Is K H (prD p) v) : ∃ a, v = .ref a ∧ SqT K H a [.str p.1, .str p.2] := by
  obtain ⟨a, xs, rfl, h1, h2⟩ := Is.tup h
  simp only [IsL, Is] at h2
  obtain ⟨_, _, rfl, rfl, _, _, rfl, rfl, rfl⟩ := h2
  exact ⟨a, rfl, h1⟩
theorem is_pr {x y : Str} {a : Addr} (h : SqT K H a [.str x, .str y]) : Is K H (prD (x, y)) (.ref a) := Is.of_tup h (.cons is_str (.one is_str))
theorem Is.hf {ns : List Str} {ps : List (Str × Str)} {v : V} (h : Is K H (hfD ns ps) v) : ∃ a x y, v = .ref a ∧ SqT K H a [x, y] ∧ Is K H (nmD ns) x ∧ Is K H (psD ps) y := by
  obtain ⟨a, xs, rfl, h1, h2⟩ := Is.tup h
  simp only [IsL] at h2
  obtain ⟨x, _, rfl, hx, y, _, rfl, hy, rfl⟩ := h2
  exact ⟨a, x, y, rfl, h1, hx, hy⟩
theorem is_hf {ns : List Str} {ps : List (Str × Str)} {a : Addr} {x y : V} (h : SqT K H a [x, y]) (hx : Is K H (nmD ns) x) (hy : Is K H (psD ps) y) : Is K H (hfD ns ps) (.ref a) := Is.of_tup h (.cons hx (.one hy))
theorem Is.nm_fz {ns : List Str} {v : V} (h : Is K H (nmD ns) v) (e : Fz H H') : Is K H' (nmD ns) v := Is.fz e _ _ (frz_nm ns) h
theorem Is.pr_fz {p : Str × Str} {v : V} (h : Is K H (prD p) v) (e : Fz H H') : Is K H' (prD p) v := Is.fz e _ _ (frz_pr p) h
theorem Is.ps_fz {ps : List (Str × Str)} {v : V} (h : Is K H (psD ps) v) (e : Fz H H') : Is K H' (psD ps) v := Is.fz e _ _ (frz_ps ps) h
theorem Is.hf_fz {ns : List Str} {ps : List (Str × Str)} {v : V} (h : Is K H (hfD ns ps) v) (e : Fz H H') : Is K H' (hfD ns ps) v := Is.fz e _ _ (frz_hf ns ps) h
variable {σ : St} {Q : VK} {x v : V} {i : Int}
theorem i_ixQ {a : Addr} {xs : List V} (h : SqT K H a xs) (e : atI xs i = some v) (k : Q v H) : rIxA K (.ref a) (.int i) H Q := .inl (.inr (.inl ⟨a, xs, i, v, rfl, rfl, h, e, k⟩))
theorem i_ixN {ns : List Str} {z : Str} (h : Is K H (nmD ns) x) (e : atI ns i = some z) (k : Q (.str z) H) : rIxA K x (.int i) H Q := by
  obtain ⟨a, rfl, h1⟩ := h.nm
  refine i_ixQ h1 ?_ k
  unfold atI at e ⊢
  rw [List.length_map]
  cases hj : ixN ns.length i with
  | none => rw [hj] at e; cases e
  | some j =>
    rw [hj] at e
    show (ns.map V.str)[j]? = _
    rw [List.getElem?_map, show ns[j]? = some z from e]
    rfl
theorem i_ixH0 {ns : List Str} {ps : List (Str × Str)} (h : Is K H (hfD ns ps) x) (k : ∀ v, Is K H (nmD ns) v → Q v H) : rIxA K x (.int 0) H Q := by
  obtain ⟨a, u, w, rfl, h1, h2, h3⟩ := h.hf
  exact i_ixQ h1 rfl (k u h2)
theorem i_ixH1 {ns : List Str} {ps : List (Str × Str)} (h : Is K H (hfD ns ps) x) (k : ∀ v, Is K H (psD ps) v → Q v H) : rIxA K x (.int 1) H Q := by
  obtain ⟨a, u, w, rfl, h1, h2, h3⟩ := h.hf
  exact i_ixQ h1 rfl (k w h3)
theorem i_ixP0 {p : Str × Str} (h : Is K H (prD p) x) (k : Q (.str p.1) H) : rIxA K x (.int 0) H Q := by
  obtain ⟨a, rfl, h1⟩ := h.pr
  exact i_ixQ h1 rfl k
theorem i_ixP1 {p : Str × Str} (h : Is K H (prD p) x) (k : Q (.str p.2) H) : rIxA K x (.int 1) H Q := by
  obtain ⟨a, rfl, h1⟩ := h.pr
  exact i_ixQ h1 rfl k
theorem i_lenQ {ds : List PyData} (h : Is K H (.tuple ds) x) (k : Q (.int ds.length) H) : rLenA K [x] H Q := by
  obtain ⟨a, xs, rfl, h1, h2⟩ := h.tup
  rw [IsL.length h2] at k
  exact .inl ⟨.ref a, _, rfl, .inr ⟨xs, h1, rfl⟩, k⟩
theorem i_lenN {ns : List Str} (h : Is K H (nmD ns) x) (k : Q (.int ns.length) H) : rLenA K [x] H Q := i_lenQ h (by rw [List.length_map]; exact k)
theorem flat_strs (ns : List Str) : (ns.map V.str).all flatV = true := by
  rw [List.all_eq_true]
  intro v h
  obtain ⟨n, _, rfl⟩ := List.mem_map.mp h
  rfl
theorem inV_strs (z : Str) : ∀ ns : List Str, inV (.str z) (ns.map V.str) = decide (z ∈ ns)
  | [] => rfl
  | n :: ns => by
    have ih := inV_strs z ns
    unfold inV at ih ⊢
    rw [List.map_cons, List.any_cons, ih]
    have e : eqV (V.str n) (V.str z) = decide (n = z) := by
      show (n == z) = _
      by_cases h : n = z <;> simp [h]
    rw [e]
    by_cases h : n = z
    · subst h
      simp
    · have h' : ¬ z = n := fun q => h q.symm
      by_cases g : z ∈ ns <;> simp [h, h', g]
theorem i_inN {ns : List Str} {z : Str} (h : Is K H (nmD ns) x) (k : Q (.bl (decide (z ∈ ns))) H) : rInA K false (.str z) x H Q := by
  obtain ⟨a, rfl, h1⟩ := h.nm
  exact .inl ⟨a, _, rfl, .inr h1, rfl, flat_strs ns, by rw [inV_strs]; exact k⟩
theorem i_inLN {ns : List Str} {z : Str} {a : Addr} (h : SqL K H a (ns.map V.str)) (k : Q (.bl (decide (z ∈ ns))) H) : rInA K false (.str z) (.ref a) H Q :=
  .inl ⟨a, _, rfl, .inl h, rfl, flat_strs ns, by rw [inV_strs]; exact k⟩
theorem i_ninLN {ns : List Str} {z : Str} {a : Addr} (h : SqL K H a (ns.map V.str)) (k : Q (.bl (!decide (z ∈ ns))) H) : rInA K true (.str z) (.ref a) H Q :=
  .inl ⟨a, _, rfl, .inl h, rfl, flat_strs ns, by rw [inV_strs]; exact k⟩
theorem i_gpair {p : Str × Str} {n m : Nat} {R : St → Hp → Prop} (h : Is K H (prD p) x) (k : R ((σ.set n (some (.str p.1))).set m (some (.str p.2))) H) : gTup K 2 (gCons (gName n) (gCons (gName m) gNil)) x σ H R := by
  obtain ⟨a, rfl, h1⟩ := h.pr
  exact ⟨a, _, rfl, h1, rfl, .str p.1, [.str p.2], rfl, .str p.2, [], rfl, rfl, k⟩
theorem for_is {ds : List PyData} {g : TG} {tb : TS} {D : Ends} (h : Is K H (.tuple ds) x) (hf : frzL ds = true) (Pv : Nat → St → Hp → Prop) (h0 : Pv 0 σ H) (hG : ∀ i σ' H', Pv i σ' H' → Fz H H')
    (hs : ∀ i d v σ' H', ds[i]? = some d → Is K H' d v → Pv i σ' H' → g v σ' H' fun σ2 H2 => tb { D with nx := Pv (i + 1), ct := Pv (i + 1), bk := D.nx } σ2 H2) (hd : ∀ σ' H', Pv ds.length σ' H' → D.nx σ' H') :
    rAnyIt K x H fun J H1 => rFor g tb D σ J H1 := by
  obtain ⟨a, xs, rfl, h1, h2⟩ := h.tup
  refine i_itT h1 (for_by walk_tup Pv h0 (fun i σ' H' p => (hG i σ' H' p).seq h1) (fun i v σ' H' hx hi p => ?_) fun σ' H' p => hd σ' H' (by rw [IsL.length h2]; exact p))
  obtain ⟨d, e1, e2⟩ := IsL.get (IsL.fz (hG i σ' H' p) ds xs hf h2) hx
  exact hs i d v σ' H' e1 e2 p
theorem for_nm {ns : List Str} {g : TG} {tb : TS} {D : Ends} (h : Is K H (nmD ns) x) (Pv : Nat → St → Hp → Prop) (h0 : Pv 0 σ H) (hG : ∀ i σ' H', Pv i σ' H' → Fz H H')
    (hs : ∀ i z σ' H', ns[i]? = some z → Pv i σ' H' → g (.str z) σ' H' fun σ2 H2 => tb { D with nx := Pv (i + 1), ct := Pv (i + 1), bk := D.nx } σ2 H2) (hd : ∀ σ' H', Pv ns.length σ' H' → D.nx σ' H') :
    rAnyIt K x H fun J H1 => rFor g tb D σ J H1 :=
  for_is h (frzL_strs ns) Pv h0 hG (fun i d v σ' H' e h p => by
    rw [List.getElem?_map] at e
    cases hn : ns[i]? with
    | none => rw [hn] at e; cases e
    | some z =>
      rw [hn] at e
      cases e
      rw [h.str]
      exact hs i z σ' H' hn p) fun σ' H' p => hd σ' H' (by rw [List.length_map] at p; exact p)
theorem for_ps {ps : List (Str × Str)} {g : TG} {tb : TS} {D : Ends} (h : Is K H (psD ps) x) (Pv : Nat → St → Hp → Prop) (h0 : Pv 0 σ H) (hG : ∀ i σ' H', Pv i σ' H' → Fz H H')
    (hs : ∀ i p v σ' H', ps[i]? = some p → Is K H' (prD p) v → Pv i σ' H' → g v σ' H' fun σ2 H2 => tb { D with nx := Pv (i + 1), ct := Pv (i + 1), bk := D.nx } σ2 H2) (hd : ∀ σ' H', Pv ps.length σ' H' → D.nx σ' H') :
    rAnyIt K x H fun J H1 => rFor g tb D σ J H1 :=
  for_is h (frzL_prs ps) Pv h0 hG (fun i d v σ' H' e h p => by
    rw [List.getElem?_map] at e
    cases hn : ps[i]? with
    | none => rw [hn] at e; cases e
    | some z =>
      rw [hn] at e
      cases e
      exact hs i z v σ' H' hn h p) fun σ' H' p => hd σ' H' (by rw [List.length_map] at p; exact p)
theorem frzL_map {α : Type} (f : α → PyData) (hf : ∀ a, frz (f a) = true) : ∀ xs : List α, frzL (xs.map f) = true
  | [] => rfl
  | x :: xs => by simp only [List.map_cons, frzL, hf, frzL_map f hf xs, Bool.and_self]
theorem comp_dat {α : Type} {J : It} {xs : List V} {G : Hp → Prop} {g : TG} {tt : TT} {te : TE} {Q : VK} {k : Nat} {js : List Nat} (hw : WalkOf J xs G) (as : List α) (hl : as.length = xs.length) (t : α → Bool) (f : α → PyData) (hf : ∀ a, frz (f a) = true) (hz : xs.length ≤ 1000000) (hG : ∀ H', Same H H' → G H')
    (hs : ∀ (i : Nat) a v H1 (R : VK) (R' : Hp → Prop), as[i]? = some a → xs[i]? = some v → Same H H1 → (t a = true → ∀ y H2, Same H1 H2 → Is K H2 (f a) y → R y H2) → (t a = false → ∀ H2, Same H1 H2 → R' H2) →
      g v (List.replicate k none ++ pick σ js) H1 fun σ2 H2 => tt σ2 H2 fun b H3 => if b = true then te σ2 H3 R else R' H3)
    (hd : ∀ p ys H', H p = none → Same H H' → H' p = some (.lst ys) → IsL K H' ((as.filter t).map f) ys → Q (.ref p) H') : rComp k js g tt te σ J H Q := by
  refine comp_by hw (fun p i acc H1 => Same H H1 ∧ IsL K H1 (((as.take i).filter t).map f) acc) (fun p H' hp e h => ⟨e, by simp only [List.take_zero, List.filter_nil, List.map_nil]; exact .nil⟩) (fun p i acc H1 h => hG H1 h.1) (fun p i x acc H1 hp hx hi hl1 ha ⟨e, hacc⟩ => ?_) fun p acc H1 hp ha hl1 ⟨e, hacc⟩ => ?_
  · have hi' : i < as.length := by omega
    obtain ⟨a, hai⟩ : ∃ a, as[i]? = some a := ⟨as[i], List.getElem?_eq_getElem hi'⟩
    have ht : as.take (i + 1) = as.take i ++ [a] := by rw [List.take_add_one, hai]; rfl
    refine hs i a x H1 _ _ hai hx e (fun h y H2 e2 hy => ?_) fun h H2 e2 => ?_
    · refine push_i hz hi hl1 (e2 _ _ ha) fun H' e' h' => ⟨fun b o hb => e' b o (ne_of_none hb hp) (e2 _ _ (e b o hb)), ?_⟩
      rw [ht, List.filter_append, List.map_append]
      have fz := e'.fzL (e2 _ _ ha)
      refine IsL.append (IsL.fz (e2.fz.trans fz) _ _ (frzL_map f hf _) hacc) ?_
      simp only [List.filter_cons, h, if_true, List.filter_nil, List.map_cons, List.map_nil]
      exact .one (Is.fz fz _ _ (hf a) hy)
    · refine cn_skip hi hl1 (e2 _ _ ha) ⟨e.trans e2, ?_⟩
      rw [ht, List.filter_append, List.map_append]
      simp only [List.filter_cons, h, Bool.false_eq_true, if_false, List.filter_nil, List.map_nil, List.append_nil]
      exact IsL.mono e2 _ _ hacc
  · refine hd p acc H1 hp e ha ?_
    rw [← hl, List.take_length] at hacc
    exact hacc
end
end L2
set_option Elab.async false
set_option linter.all false
set_option maxRecDepth 100000
set_option maxHeartbeats 4000000
namespace L2
open PySem PySem.Spec PyProof.Rows
section
variable {X : Cx} {K : PySem.W.Frag}
noncomputable def isDisp : PyData → Bool
  | .list _ => true
  | .tuple _ => true
  | _ => false
mutual
theorem Is.noDict {H : Hp} : ∀ (d : PyData) (v : V), Is K H d v → d.hasDict = false
  | .none, _, h => by simp only [PyData.hasDict]
  | .bool _, _, h => by simp only [PyData.hasDict]
  | .int _, _, h => by simp only [PyData.hasDict]
  | .str _, _, h => by simp only [PyData.hasDict]
  | .list ds, v, h => by
    simp only [Is] at h
    obtain ⟨a, xs, e1, e2, e3⟩ := h
    simp only [PyData.hasDict]
    exact IsL.noDict ds xs e3
  | .tuple ds, v, h => by
    simp only [Is] at h
    obtain ⟨a, xs, e1, e2, e3⟩ := h
    simp only [PyData.hasDict]
    exact IsL.noDict ds xs e3
  | .dict _, _, h => by simp only [Is] at h
theorem IsL.noDict {H : Hp} : ∀ (ds : List PyData) (vs : List V), IsL K H ds vs → PyData.hasDictAll ds = false
  | [], _, h => by simp only [PyData.hasDictAll]
  | d :: ds, vs, h => by
    simp only [IsL] at h
    obtain ⟨v, r, e1, e2, e3⟩ := h
    simp only [PyData.hasDictAll, Is.noDict d v e2, IsL.noDict ds r e3, Bool.or_self]
end
structure Sh (d : PyData) : Prop where
  dp : isDisp d = true
  sh : d.showable = true
  fits : d.shown.length ≤ sizeLine
  deep : d.depth ≤ 100
noncomputable def rReprK (K : PySem.W.Frag) : List V → Hp → VK → Prop := fun xs H Q => rReprA xs H Q ∨ ∃ x d, xs = [x] ∧ Is K H d x ∧ Sh d ∧ Q (.str d.shown) H
theorem call_reprD (hq : QA X.A) : CallR X (.builtin "repr") (fun xs H Q => ∃ x d, xs = [x] ∧ Is X.K H d x ∧ Sh d ∧ Q (.str d.shown) H) := by
  intro pins s σ H xs us Q I rv h
  obtain ⟨x, d, rfl, i, S, q⟩ := h
  obtain ⟨u, rfl, ru⟩ := rv.one
  obtain ⟨as, ra⟩ := Is.reads I d x u i ru
  have href : ∃ a, u = .ref a := by
    have hd := S.dp
    cases d with
    | list ds => simp only [Is] at i; obtain ⟨a, _, rfl, _⟩ := i; exact ⟨a, ru⟩
    | tuple ds => simp only [Is] at i; obtain ⟨a, _, rfl, _⟩ := i; exact ⟨a, ru⟩
    | _ => cases hd
  obtain ⟨a, rfl⟩ := href
  refine repr_of_reads' ra S.sh (fun hx => absurd hx (by rw [Is.noDict d x i]; exact Bool.false_ne_true)) hq.gd (by have := hq.un; have := S.deep; omega) (fun _ _ e => e) (fun h' t tk hk => ?_) S.fits
  exact ⟨.str d.shown, H, I.kept hk, ⟨t, rfl⟩, q⟩
theorem call_reprK (hq : QA X.A) (hK : X.K = K := by with_unfolding_all rfl) : CallR X (.builtin "repr") (rReprK K) := hK ▸ call_reprA.or (call_reprD hq)
theorem i_reprKB {b : Bool} {H : Hp} {Q : VK} (k : Q (.str (if b then "True" else "False")) H) : rReprK K [.bl b] H Q := .inl (.inl ⟨b, rfl, k⟩)
noncomputable def strRep (z : Str) (n : Nat) : Str := ⟨(List.replicate n z.cps).foldl (· ++ ·) #[]⟩
noncomputable def rMulS : R2 := fun x y H Q => ∃ z n, x = .str z ∧ y = .int n ∧ 2 ≤ n ∧ n ≤ 1000 ∧ z.length ≤ 1000 ∧ 0 < z.length ∧ Q (.str (strRep z n.toNat)) H
theorem op_mulS : OpR X (binaryOp .Mult) rMulS := by
  intro pins s σ H x y v u Q I rx ry h
  obtain ⟨z, n, rfl, rfl, h1, h2, h3, h4, q⟩ := h
  obtain ⟨t, rfl⟩ := rx
  obtain ⟨t2, rfl⟩ := ry
  have a1 : ¬ n < 1 := by omega
  have a2 : (n == 1 || z.length == 0) = false := by
    have e1 : (n == 1) = false := by simp; omega
    have e2 : (z.length == 0) = false := by simp; omega
    rw [e1, e2]; rfl
  have hz : z.length * n.toNat ≤ 1000000 := by
    have : z.length * n.toNat ≤ 1000 * 1000 := Nat.mul_le_mul h3 (by omega)
    omega
  have hlen : (strRep z n.toNat).length ≤ sizeLine := by
    have e : ∀ (m : Nat) (a : Array Nat), ((List.replicate m z.cps).foldl (· ++ ·) a).size = a.size + m * z.cps.size := by
      intro m
      induction m with
      | zero => intro a; simp
      | succ m ih => intro a; rw [List.replicate_succ, List.foldl_cons, ih, Array.size_append, Nat.succ_mul]; omega
    show ((List.replicate n.toNat z.cps).foldl (· ++ ·) #[]).size ≤ sizeLine
    rw [e]
    have e2 : z.cps.size = z.length := rfl
    rw [e2, sizeLine_eq, Nat.mul_comm]
    simp
    omega
  refine PySem.P.mul_str (by
      have b1 : ¬ n < -(2 ^ 63 : Int) := by omega
      have b2 : ¬ n ≥ 2 ^ 63 := by omega
      rw [decide_eq_false b1, decide_eq_false b2]; rfl) (fun _ _ => ?_) (fun _ _ => ?_) ?_
  · have : (2 ^ 63 - 1 : Int) / n ≥ 1000 := by
      refine Int.le_ediv_of_mul_le (by omega) ?_
      have : 1000 * n ≤ 1000 * 1000 := by omega
      omega
    omega
  · have hz2 : z.length * n.toNat ≤ sizeLine := line_of hz
    rw [sizeLine_eq] at hz2
    unfold Builtin.Str.tooLong
    simp [sizeLine_eq]
    omega
  · rw [if_neg a1, a2, if_neg Bool.false_ne_true]
    exact ⟨hlen, .str _, H, I.kept fun _ _ e => e, ⟨_, rfl⟩, q⟩
noncomputable def rMulB : R2 := fun x y H Q => rMulA x y H Q ∨ rMulS x y H Q
theorem op_mulB : OpR X (binaryOp .Mult) rMulB := op_mulA.or op_mulS
theorem i_mulBI {i j : Int} {H : Hp} {Q : VK} (h : CMul i j) (k : Q (.int (i * j)) H) : rMulB (.int i) (.int j) H Q := .inl (i_mulI h k)
theorem i_mulBS {z : Str} {n : Int} {H : Hp} {Q : VK} (h : 2 ≤ n ∧ n ≤ 1000 ∧ z.length ≤ 1000 ∧ 0 < z.length) (k : Q (.str (strRep z n.toNat)) H) : rMulB (.str z) (.int n) H Q := .inr ⟨z, n, rfl, rfl, h.1, h.2.1, h.2.2.1, h.2.2.2, k⟩
theorem i_mulBL {i : Int} {H : Hp} {Q : VK} {a : Addr} {xs : List V} (h1 : H a = some (.lst xs)) (h2 : -(2 ^ 63) ≤ i ∧ i < 2 ^ 63) (h3 : xs.length * i.toNat ≤ sizeLine) (k : ∀ p H', H p = none → Same H H' → H' p = some (.lst (List.replicate i.toNat xs).flatten) → Q (.ref p) H') : rMulB (.ref a) (.int i) H Q := .inl (i_mulL h1 h2 h3 k)
noncomputable def insL (xs : List V) (i : Nat) (y : V) : List V := xs.take i ++ y :: xs.drop i
noncomputable def rInsert : V → List V → Hp → VK → Prop := fun x vs H Q => ∃ l xs i y, x = .ref l ∧ vs = [.int i, y] ∧ H l = some (.lst xs) ∧ 0 ≤ i ∧ i ≤ xs.length ∧ xs.length < sizeLine ∧ Q .non (upd H l (.lst (insL xs i.toNat y)))
theorem mt_insert : MtM X "list.insert" rInsert := by
  intro pins s σ H x vs v us Q I rx rv h
  obtain ⟨l, xs, i, y, rfl, rfl, hH, h0, h1, hz, q⟩ := h
  cases rx
  obtain ⟨u, w, rfl, ru, rw'⟩ := Vals.two rv
  obtain ⟨t, rfl⟩ := ru
  obtain ⟨z, its, n, r, hl, e⟩ := I.lstM hH
  have hlen := r.length
  refine call_meets F.slot_list_insert ⟨_, e, rfl⟩ F.entry_list_insert (F.args_list_insert_3 _ _ _)
    (AutoSeq1.list_insert_list_int_val_1 l its.toArray n i t w (by rw [fitsIndex_both (by omega) (by rw [sizeLine_eq] at hz; omega)]; decide) (by rw [List.size_toArray]; omega)) ⟨e, ?_⟩
  refine ⟨.non, _, I.lset (its' := its.take i.toNat ++ w :: its.drop i.toNat) hH e ?_ ((r.take i.toNat).append (.cons rw' (r.drop i.toNat))) ?_, rfl, q⟩
  · have hi : i.toNat ≤ its.length := by omega
    show (have k := if i < 0 then (i + ((its.toArray.size : Nat) : Int)).toNat else min i.toNat its.toArray.size; (its.toArray.extract 0 k).push w ++ its.toArray.extract k) = _
    rw [if_neg (by omega), List.size_toArray, Nat.min_eq_left hi]
    simp [List.extract_eq_drop_take]
    exact List.take_of_length_le (by rw [List.length_drop]; omega)
  · rw [List.length_append, List.length_cons, List.length_take, List.length_drop]
    omega
section
variable {D : Ends} {σ : St} {H : Hp} {t u : TS} {te td ty tv : TE} {g : TG}
theorem i_cut (M : St → Hp → Prop) (h1 : ∀ N : St → Hp → Prop, (∀ σ' H', M σ' H' → N σ' H') → t { D with nx := N } σ H) (h2 : ∀ σ' H', M σ' H' → u D σ' H') : tSeq t u D σ H := h1 (u D) h2
end
theorem i_listA {a : Addr} {xs : List V} {H : Hp} {Q : VK} (h : SqL K H a xs ∨ SqT K H a xs) (k : ∀ p H', H p = none → Same H H' → H' p = some (.lst xs) → Q (.ref p) H') : rListA K [.ref a] H Q := ⟨a, xs, rfl, h, fun p hp => k p _ hp (Same.upd hp) upd_same⟩
theorem mm {id : String} {r : V → List V → Hp → VK → Prop} (h : MtM X id r) : MtR X id r := h
theorem i_tyLm {a : Addr} {xs : List V} {H : Hp} {B : Prop} (h : H a = some (.lst xs)) (k : B) : tyV K "list" (.ref a) H ∧ B := ⟨.inl ⟨rfl, xs, SqL.of h⟩, k⟩
theorem i_ins {l : Addr} {xs : List V} {y : V} {i : Int} {H : Hp} {Q : VK} (h : H l = some (.lst xs)) (h0 : 0 ≤ i) (h1 : i ≤ xs.length) (hz : xs.length ≤ 1000000) (k : ∀ H', ExtBut l H H' → H' l = some (.lst (insL xs i.toNat y)) → Q .non H') : rInsert (.ref l) [.int i, y] H Q :=
  ⟨l, xs, i, y, rfl, rfl, h, h0, h1, by rw [sizeLine_eq]; omega, k _ ExtBut.upd upd_same⟩
theorem i_appR {l : Addr} {xs : List V} {y : V} {H : Hp} {Q : VK} (h : H l = some (.lst xs)) (hz : xs.length ≤ 1000000) (k : ∀ H', ExtBut l H H' → H' l = some (.lst (xs ++ [y])) → Q .non H') : rAppend (.ref l) [y] H Q :=
  ⟨l, xs, y, rfl, rfl, h, by rw [sizeLine_eq]; omega, k _ ExtBut.upd upd_same⟩
theorem i_extR {l b : Addr} {xs zs : List V} {H : Hp} {Q : VK} (h : H l = some (.lst xs)) (hb : H b = some (.lst zs)) (hz : xs.length + zs.length ≤ 1000000) (k : ∀ H', ExtBut l H H' → H' l = some (.lst (xs ++ zs)) → Q .non H') : rExtend (.ref l) [.ref b] H Q :=
  ⟨l, b, xs, zs, rfl, rfl, h, hb, line_of hz, k _ ExtBut.upd upd_same⟩
theorem i_popR {l : Addr} {xs : List V} {y : V} {H : Hp} {Q : VK} (h : H l = some (.lst (xs ++ [y]))) (k : ∀ H', ExtBut l H H' → H' l = some (.lst xs) → Q y H') : rPop (.ref l) [] H Q :=
  ⟨l, xs ++ [y], y, rfl, rfl, h, by simp, by rw [List.dropLast_concat]; exact k _ ExtBut.upd upd_same⟩
theorem i_popAtR {l : Addr} {xs : List V} {y : V} {i : Int} {H : Hp} {Q : VK} (h : H l = some (.lst xs)) (h0 : 0 ≤ i) (h1 : xs[i.toNat]? = some y) (k : ∀ H', ExtBut l H H' → H' l = some (.lst (xs.eraseIdx i.toNat)) → Q y H') (hz : xs.length ≤ 1000000) : rPopAt (.ref l) [.int i] H Q := by
  have h2 := (List.getElem?_eq_some_iff.mp h1).1
  refine ⟨l, xs, i, i.toNat, y, rfl, rfl, h, by omega, by omega, ?_, h1, k _ ExtBut.upd upd_same⟩
  have e := atI_get (atI_nat (α := V) h1)
  obtain ⟨j, e1, e2, e3, _⟩ := e
  rw [Int.toNat_of_nonneg h0] at e1
  rw [e1]
  have e4 : seqIndex? i xs.length = some i.toNat := by
    unfold seqIndex? at e1 ⊢
    simp [show ¬ i < 0 by omega] at e1 ⊢
    omega
  rw [← e1, e4]
noncomputable def stepV (xs : List V) (k : Int) : List V := if k = 1 then xs else xs.reverse
noncomputable def rSlStep (K : PySem.W.Frag) : V → V → Hp → VK → Prop := fun x y H Q => ∃ a xs k, x = .ref a ∧ y = .int k ∧ (k = 1 ∨ k = -1) ∧ SqL K H a xs ∧ ∀ p, H p = none → Q (.ref p) (upd H p (.lst (stepV xs k)))
theorem pick_one (items : Array Value) : slicePick items none none (some 1) = items := by
  have e : slicePick items none none (some 1) = slicePick items none none none := rfl
  rw [e, slicePick_cut]
  simp [HT.sIx]
  rw [show items.size = items.toList.length by simp, List.take_length]
theorem pe_sliceStep {e st : Expr} {te ts : TE} {p2 pos : Pos} (he : PE X e te) (hst : PE X st ts) (hK : X.K = K := by with_unfolding_all rfl) : PE X (.Subscript e (.Slice none none (some st) p2) pos) (tOp (rSlStep K) te ts) := by
  subst hK
  intro pins s σ H Q I h
  refine Subscript_ (thn (he pins s σ H _ I h) fun v s1 ⟨x, H1, I1, r1, q1⟩ => ?_)
  refine wpAny_Slice ?_
  rw [evalPart_none]
  refine wpAny_pure (wpAny_pure ?_)
  rw [evalPart_some]
  refine thn (hst pins s1 σ H1 _ I1 q1) fun u s2 ⟨y, H2, I2, r2, q2⟩ => ?_
  obtain ⟨a, xs, k, rfl, rfl, hk, hx, q⟩ := q2
  cases r1
  obtain ⟨t, rfl⟩ := r2
  have I4 : Inv X pins σ H2 { s2 with heap := s2.heap.push { cls := .type "slice", data := .fields #[.none, .none, .int k t] } } := I2.kept (t' := s2.toks) fun b ob q => Heap.get?_push_of_some _ q
  obtain ⟨its, r, ht, hz⟩ := I4.list hx
  have hlen := r.length
  refine tail_any (ops := [.ref a, .ref s2.heap.objs.size]) ht.isList.typeIs slot_list_getitem.lookup ?_ (by with_unfolding_all rfl)
  refine wpAny_getItem_list_slice ht.isList (Heap.IsSliceOf.new ..) .none .none (.int k t) (by rcases hk with rfl | rfl <;> decide) ?_ (by rw [List.size_toArray]; omega)
  rcases hk with rfl | rfl
  · rw [pick_one]
    refine ⟨.ref _, _, I4.laid (t' := s2.toks) (o := .lst (stepV xs 1)) (fun b ob q => Heap.get?_push_of_some _ q) (Nat.le_refl _) ?_, rfl, q _ (I4.hok.fresh (Nat.le_refl _))⟩
    exact ⟨hz, _, 0, r, Heap.get?_push_size _ rfl⟩
  · rw [PySem.W.krv_pick]
    refine ⟨.ref _, _, I4.laid (t' := s2.toks) (o := .lst (stepV xs (-1))) (fun b ob q => Heap.get?_push_of_some _ q) (Nat.le_refl _) ?_, rfl, q _ (I4.hok.fresh (Nat.le_refl _))⟩
    exact ⟨by show xs.reverse.length ≤ _; rw [List.length_reverse]; exact hz, _, 0, by show Vals xs.reverse _; exact r.reverse, Heap.get?_push_size _ rfl⟩
theorem i_step {a : Addr} {xs : List V} {k : Int} {H : Hp} {Q : VK} (h : SqL K H a xs) (hk : k = 1 ∨ k = -1) (c : ∀ p H', H p = none → Same H H' → H' p = some (.lst (stepV xs k)) → Q (.ref p) H') : rSlStep K (.ref a) (.int k) H Q :=
  ⟨a, xs, k, rfl, rfl, hk, h, fun p hp => c p _ hp (Same.upd hp) upd_same⟩
end
end L2
set_option Elab.async false
set_option linter.all false
set_option maxRecDepth 100000
set_option maxHeartbeats 4000000
namespace L2
open PySem PySem.Spec PyProof.Rows
noncomputable def smallN (c : Nat) : Bool := decide (97 ≤ c) && decide (c ≤ 122)
noncomputable def isNm (x : Str) : Bool := decide (1 ≤ x.length) && decide (x.length ≤ 8) && x.cps.toList.all smallN
noncomputable def Names (ns : List Str) : Prop := ns.Nodup ∧ ∀ z ∈ ns, isNm z = true
noncomputable def LL : Str := "abcdefghijklmnopqrstuvwxyzabcdefghijklmnopqrstuvwxyz"
theorem LL_rep : strRep "abcdefghijklmnopqrstuvwxyz" (2 : Int).toNat = LL := by decide +kernel
noncomputable def LLn : List Nat := LL.cps.toList
theorem LL_len : LL.length = 52 := by decide +kernel
theorem LLn_len : LLn.length = 52 := by decide +kernel
theorem LL_small : ∀ c ∈ LLn, smallN c = true := by decide +kernel
noncomputable def txt (l : List Nat) : Str := ⟨l.toArray⟩
theorem txt_inj {a b : List Nat} (h : txt a = txt b) : a = b := by
  have : a.toArray = b.toArray := congrArg Str.cps h
  simpa using this
theorem txt_app (a b : List Nat) : txt a ++ txt b = txt (a ++ b) := by
  show (⟨a.toArray ++ b.toArray⟩ : Str) = ⟨(a ++ b).toArray⟩
  simp
theorem txt_name {l : List Nat} (h0 : 1 ≤ l.length) (h1 : l.length ≤ 8) (h2 : ∀ c ∈ l, smallN c = true) : isNm (txt l) = true := by
  unfold isNm
  have e : (txt l).length = l.length := by show l.toArray.size = _; simp
  rw [e, decide_eq_true h0, decide_eq_true h1]
  show (true && true && l.all smallN) = true
  rw [List.all_eq_true.mpr h2]
  rfl
noncomputable def cutN (a b : Nat) : List Nat := (LLn.drop a).take (b - a)
theorem cutN_len {a b : Nat} (h : a ≤ b) (h1 : b ≤ 52) : (cutN a b).length = b - a := by
  unfold cutN
  rw [List.length_take, List.length_drop, LLn_len]
  omega
theorem cutN_small {a b : Nat} : ∀ c ∈ cutN a b, smallN c = true := fun c hc => LL_small c (List.mem_of_mem_drop (List.mem_of_mem_take hc))
theorem LL_cut {i j : Int} (h0 : 0 ≤ i) (h1 : i ≤ j) (h2 : j ≤ 52) : Txt.slice LL (some i) (some j) = txt (cutN i.toNat j.toNat) := by
  have e := StrLaws.sliceText_plain (x := LL) (i := i) (j := j) ⟨h0, h1, by rw [show LL.cps.toList.length = 52 by decide +kernel]; omega⟩
  have e2 : (j - i).toNat = j.toNat - i.toNat := by omega
  rw [e2] at e
  exact e
noncomputable def sgnN (i : Nat) : List Nat := (LLn.drop i).take 1
theorem LL_at {i : Int} (h0 : 0 ≤ i) (h1 : i < 52) : ∃ c, atI LL.cps.toList i = some c ∧ (⟨#[c]⟩ : Str) = txt (sgnN i.toNat) := by
  have h2 : i.toNat < LLn.length := by rw [LLn_len]; omega
  refine ⟨LLn[i.toNat], ?_, ?_⟩
  · have := atI_nat (List.getElem?_eq_getElem h2)
    rwa [Int.toNat_of_nonneg h0] at this
  · unfold sgnN
    rw [List.drop_eq_getElem_cons h2]
    rfl
theorem sgnN_len {i : Nat} (h : i < 52) : (sgnN i).length = 1 := by
  unfold sgnN
  rw [List.length_take, List.length_drop, LLn_len]
  omega
theorem sgnN_small {i : Nat} : ∀ c ∈ sgnN i, smallN c = true := fun c hc => LL_small c (List.mem_of_mem_drop (List.mem_of_mem_take hc))
noncomputable def nm0 (s : Nat) : List (List Nat) := (List.range 8).map (fun k => cutN s (s + 1 + k)) ++ [sgnN (s + 9), sgnN (s + 10)]
noncomputable def nm1 (s z a : Nat) : List (List Nat) := (List.range 10).map fun k => cutN s (s + a) ++ sgnN (s + 5 * k % 26) ++ cutN (s + a + 1) (s + z)
noncomputable def nm2 (s : Nat) : List (List Nat) := (List.range 10).map fun k => cutN (s + k) (s + k + 1 + 3 * k % 8)
theorem nd0 : ∀ s < 26, (nm0 s).Nodup := by decide +kernel
theorem nd2 : ∀ s < 26, (nm2 s).Nodup := by decide +kernel
theorem nd1' : ∀ s < 26, ((List.range 10).map fun k => sgnN (s + 5 * k % 26)).Nodup := by decide +kernel
theorem nodup_map_on {α β : Type} {f : α → β} : ∀ {l : List α}, l.Nodup → (∀ a ∈ l, ∀ b ∈ l, f a = f b → a = b) → (l.map f).Nodup
  | [], _, _ => by simp
  | a :: l, h, hf => by
    rw [List.map_cons, List.nodup_cons]
    rw [List.nodup_cons] at h
    refine ⟨fun hm => ?_, nodup_map_on h.2 fun x hx y hy => hf x (List.mem_cons_of_mem _ hx) y (List.mem_cons_of_mem _ hy)⟩
    obtain ⟨b, hb, e⟩ := List.mem_map.mp hm
    have := hf b (List.mem_cons_of_mem _ hb) a List.mem_cons_self e
    subst this
    exact h.1 hb
theorem inj_of_nodup_map {α β : Type} {f : α → β} : ∀ {l : List α}, (l.map f).Nodup → ∀ a ∈ l, ∀ b ∈ l, f a = f b → a = b
  | [], _, a, ha, _, _, _ => by cases ha
  | c :: l, h, a, ha, b, hb, e => by
    rw [List.map_cons, List.nodup_cons] at h
    rcases List.mem_cons.mp ha with q | ha'
    · rcases List.mem_cons.mp hb with q' | hb'
      · rw [q, q']
      · exact absurd (List.mem_map.mpr ⟨b, hb', by rw [← e, q]⟩) h.1
    · rcases List.mem_cons.mp hb with q' | hb'
      · exact absurd (List.mem_map.mpr ⟨a, ha', by rw [e, q']⟩) h.1
      · exact inj_of_nodup_map h.2 a ha' b hb' e
theorem nodup_txt {l : List (List Nat)} (h : l.Nodup) : (l.map txt).Nodup := nodup_map_on h fun a _ b _ e => txt_inj e
theorem nd1 {s z a : Nat} (hs : s < 26) : (nm1 s z a).Nodup := by
  refine nodup_map_on List.nodup_range fun k hk j hj e => ?_
  have e1 : sgnN (s + 5 * k % 26) = sgnN (s + 5 * j % 26) := List.append_cancel_left (List.append_cancel_right e)
  exact inj_of_nodup_map (f := fun k => sgnN (s + 5 * k % 26)) (nd1' s hs) k hk j hj e1
theorem ok_nm0 {s : Nat} (hs : s < 26) : Names ((nm0 s).map txt) := by
  refine ⟨nodup_txt (nd0 s hs), fun z hz => ?_⟩
  obtain ⟨l, hl, rfl⟩ := List.mem_map.mp hz
  rcases List.mem_append.mp hl with h | h
  · obtain ⟨k, hk, rfl⟩ := List.mem_map.mp h
    have hk := List.mem_range.mp hk
    have e := cutN_len (a := s) (b := s + 1 + k) (by omega) (by omega)
    exact txt_name (by omega) (by omega) cutN_small
  · simp only [List.mem_cons, List.not_mem_nil, or_false] at h
    rcases h with rfl | rfl
    · have e := sgnN_len (i := s + 9) (by omega)
      exact txt_name (by omega) (by omega) sgnN_small
    · have e := sgnN_len (i := s + 10) (by omega)
      exact txt_name (by omega) (by omega) sgnN_small
theorem ok_nm1 {s z a : Nat} (hs : s < 26) (ha : a < z) (hz : z ≤ 8) : Names ((nm1 s z a).map txt) := by
  refine ⟨nodup_txt (nd1 hs), fun y hy => ?_⟩
  obtain ⟨l, hl, rfl⟩ := List.mem_map.mp hy
  obtain ⟨k, hk, rfl⟩ := List.mem_map.mp hl
  have hm : 5 * k % 26 < 26 := Nat.mod_lt _ (by decide)
  have e1 := cutN_len (a := s) (b := s + a) (by omega) (by omega)
  have e2 := sgnN_len (i := s + 5 * k % 26) (by omega)
  have e3 := cutN_len (a := s + a + 1) (b := s + z) (by omega) (by omega)
  refine txt_name (by simp only [List.length_append]; omega) (by simp only [List.length_append]; omega) fun c hc => ?_
  rcases List.mem_append.mp hc with hc | hc
  · rcases List.mem_append.mp hc with hc | hc
    · exact cutN_small c hc
    · exact sgnN_small c hc
  · exact cutN_small c hc
theorem ok_nm2 {s : Nat} (hs : s < 26) : Names ((nm2 s).map txt) := by
  refine ⟨nodup_txt (nd2 s hs), fun z hz => ?_⟩
  obtain ⟨l, hl, rfl⟩ := List.mem_map.mp hz
  obtain ⟨k, hk, rfl⟩ := List.mem_map.mp hl
  have hk := List.mem_range.mp hk
  have hm : 3 * k % 8 < 8 := Nat.mod_lt _ (by decide)
  have e := cutN_len (a := s + k) (b := s + k + 1 + 3 * k % 8) (by omega) (by omega)
  exact txt_name (by omega) (by omega) cutN_small
noncomputable def nm3 : List Str := ["names", "ahead", "name", "a", "ab", "aheads", "last", "ask", "row", "end"]
theorem ok_nm3 : Names nm3 := ⟨by decide +kernel, by decide +kernel⟩
theorem Names.perm {ns ms : List Str} (h : Names ns) (p : ms.Perm ns) : Names ms := ⟨p.nodup_iff.mpr h.1, fun z hz => h.2 z (p.mem_iff.mp hz)⟩
theorem Names.sublist {ns ms : List Str} (h : Names ns) (p : ms.Sublist ns) : Names ms := ⟨h.1.sublist p, fun z hz => h.2 z (p.subset hz)⟩
theorem Names.reverse {ns : List Str} (h : Names ns) : Names ns.reverse := h.perm (List.reverse_perm _)
theorem Names.turn {ns : List Str} (h : Names ns) (t n : Nat) : Names ((ns.drop t ++ ns.take t).take n) :=
  Names.sublist (ns := ns.drop t ++ ns.take t) (h.perm (List.perm_append_comm.trans (by rw [List.take_append_drop]))) (List.take_sublist _ _)
theorem cut_from {xs : List V} {t : Int} (h0 : 0 ≤ t) (h1 : t ≤ xs.length) : cutV xs (some t) none = xs.drop t.toNat := by
  have e : HT.sIx xs.length 0 (some t) = t.toNat := by unfold HT.sIx; simp [show ¬ t < 0 by omega]; omega
  unfold cutV
  rw [e]
  have e2 : HT.sIx xs.length xs.length none = xs.length := rfl
  rw [e2]
  exact List.take_of_length_le (by rw [List.length_drop]; omega)
theorem cut_upto {xs : List V} {t : Int} (h0 : 0 ≤ t) : cutV xs none (some t) = xs.take t.toNat := by
  have e : HT.sIx xs.length xs.length (some t) = min t.toNat xs.length := by unfold HT.sIx; simp [show ¬ t < 0 by omega]
  unfold cutV
  rw [e]
  have e2 : HT.sIx xs.length 0 none = 0 := rfl
  rw [e2, List.drop_zero, Nat.sub_zero, Nat.min_comm]
  rw [← List.take_take]
  exact List.take_of_length_le (by rw [List.length_take]; omega)
theorem rng_get {lo : Int} {n i : Nat} {x : V} (h : ((List.range n).map fun (i : Nat) => V.int (lo + (i : Int)))[i]? = some x) : x = .int (lo + (i : Int)) ∧ i < n := by
  rw [List.getElem?_map] at h
  cases e : (List.range n)[i]? with
  | none => rw [e] at h; cases h
  | some j =>
    rw [e] at h
    cases h
    have e1 := List.getElem?_eq_some_iff.mp e
    obtain ⟨h1, h2⟩ := e1
    rw [List.length_range] at h1
    rw [List.getElem_range] at h2
    subst h2
    exact ⟨rfl, h1⟩
noncomputable def fI (F : Int → V) : V → V
  | .int k => F k
  | v => v
theorem map_rng {lo : Int} {n : Nat} {F : Int → V} {G : Nat → Str} (h : ∀ k < n, F (lo + (k : Int)) = .str (G k)) : ((List.range n).map fun (i : Nat) => V.int (lo + (i : Int))).map (fI F) = ((List.range n).map G).map V.str := by
  rw [List.map_map, List.map_map]
  refine List.map_congr_left fun k hk => ?_
  exact h k (List.mem_range.mp hk)
theorem LL_line : LL.length ≤ sizeLine := by rw [LL_len, sizeLine_eq]; omega
theorem step_names {ns : List Str} (h : Names ns) {k : Int} : ∃ ms, stepV (ns.map V.str) k = ms.map V.str ∧ Names ms ∧ ms.length = ns.length := by
  unfold stepV
  split
  · exact ⟨ns, rfl, h, rfl⟩
  · exact ⟨ns.reverse, by rw [List.map_reverse], h.reverse, List.length_reverse ..⟩
theorem ExtBut.off {d q : Addr} {H H1 H2 : Hp} (e : ExtBut d H H1) (hq : H q = none) (e2 : ExtBut q H1 H2) : ExtBut d H H2 := fun b o n h => e2 b o (ne_of_none h hq) (e b o n h)
theorem Same.off {q : Addr} {H H1 H2 : Hp} (e : Same H H1) (hq : H q = none) (e2 : ExtBut q H1 H2) : Same H H2 := fun b o h => e2 b o (ne_of_none h hq) (e b o h)
noncomputable def Up (ls : List Str) (ps : List (Str × Str)) : Prop := ∀ p ∈ ps, ∃ i j : Nat, i < j ∧ ls[i]? = some p.1 ∧ ls[j]? = some p.2
theorem Up.nil {ls : List Str} : Up ls [] := fun _ h => by cases h
theorem Up.append {ls : List Str} {ps qs : List (Str × Str)} (h : Up ls ps) (g : Up ls qs) : Up ls (ps ++ qs) := fun p hp => by
  rcases List.mem_append.mp hp with hp | hp
  · exact h p hp
  · exact g p hp
theorem Up.one {ls : List Str} {x y : Str} {i j : Nat} (h : i < j) (hx : ls[i]? = some x) (hy : ls[j]? = some y) : Up ls [(x, y)] := fun p hp => by
  have : p = (x, y) := by simpa using hp
  subst this
  exact ⟨i, j, h, hx, hy⟩
theorem Up.sub {ls : List Str} {ps qs : List (Str × Str)} (h : Up ls ps) (s : ∀ p ∈ qs, p ∈ ps) : Up ls qs := fun p hp => h p (s p hp)
theorem str_at? {ls : List Str} {i : Int} (h0 : 0 ≤ i) (h1 : i < ls.length) : ∃ z, ls[i.toNat]? = some z ∧ atI (ls.map V.str) i = some (.str z) ∧ atI ls i = some z := by
  have h2 : i.toNat < ls.length := by omega
  refine ⟨ls[i.toNat], List.getElem?_eq_getElem h2, ?_, ?_⟩
  · have := atI_nat (xs := ls.map V.str) (j := i.toNat) (v := .str ls[i.toNat]) (by rw [List.getElem?_map, List.getElem?_eq_getElem h2]; rfl)
    rwa [Int.toNat_of_nonneg h0] at this
  · have := atI_nat (List.getElem?_eq_getElem h2)
    rwa [Int.toNat_of_nonneg h0] at this
theorem perm_erase {α : Type} : ∀ (us : List α) (k : Nat) (y : α), us[k]? = some y → (y :: us.eraseIdx k).Perm us
  | [], k, y, h => by simp at h
  | u :: us, 0, y, h => by
    have : u = y := by simpa using h
    subst this
    exact List.Perm.refl _
  | u :: us, k + 1, y, h => by
    have ih := perm_erase us k y (by simpa using h)
    exact (List.Perm.swap u y _).trans (ih.cons u)
theorem perm_pop {α : Type} {us : List α} {k : Nat} {y : α} (h : us[k]? = some y) (vs : List α) : (vs ++ [y] ++ us.eraseIdx k).Perm (vs ++ us) := by
  rw [List.append_assoc]
  exact List.Perm.append_left vs (perm_erase us k y h)
theorem getD_of {α : Type} {l : List α} {i : Nat} {x y : α} (h : l[i]? = some x) : l.getD i y = x := by rw [List.getD_eq_getElem?_getD, h]; rfl
theorem map_prD {α : Type} (as : List α) (f : α → Str × Str) : as.map (fun a => prD (f a)) = (as.map f).map prD := by rw [List.map_map]; rfl
theorem get_getD {α : Type} {l : List α} {i : Nat} {y : α} (h : i < l.length) : l[i]? = some (l.getD i y) := by rw [List.getD_eq_getElem?_getD, List.getElem?_eq_getElem h]; rfl
end L2
set_option Elab.async false
set_option linter.all false
set_option maxRecDepth 100000
set_option maxHeartbeats 4000000
namespace L2
open PySem PySem.Spec PyProof.Rows
inductive Way (ps : List (Str × Str)) : Str → Str → Prop
  | one {x y : Str} : (x, y) ∈ ps → Way ps x y
  | cons {x z y : Str} : (x, z) ∈ ps → Way ps z y → Way ps x y
theorem Way.trans {ps : List (Str × Str)} {x y z : Str} (h : Way ps x y) (g : Way ps y z) : Way ps x z := by
  induction h with
  | one e => exact .cons e g
  | cons e _ ih => exact .cons e (ih g)
theorem Way.snoc {ps : List (Str × Str)} {x y z : Str} (h : Way ps x y) (g : (y, z) ∈ ps) : Way ps x z := h.trans (.one g)
theorem Way.left {ps : List (Str × Str)} {x y : Str} (h : Way ps x y) : x ∈ ps.map (·.1) := by
  cases h with
  | one e => exact List.mem_map.mpr ⟨_, e, rfl⟩
  | cons e _ => exact List.mem_map.mpr ⟨_, e, rfl⟩
theorem Way.right {ps : List (Str × Str)} {x y : Str} (h : Way ps x y) : y ∈ ps.map (·.2) := by
  induction h with
  | one e => exact List.mem_map.mpr ⟨_, e, rfl⟩
  | cons _ _ ih => exact ih
theorem Way.shut {ps : List (Str × Str)} {S : Str → Prop} {x : Str} (h0 : ∀ y, (x, y) ∈ ps → S y) (h1 : ∀ z y, S z → (z, y) ∈ ps → S y) {y : Str} (g : Way ps x y) : S y := by
  induction g with
  | one e => exact h0 _ e
  | cons e _ ih => exact ih fun y hy => h1 _ _ (h0 _ e) hy
theorem Up.lt {ls : List Str} (hn : ls.Nodup) {ps : List (Str × Str)} (h : Up ls ps) {x y : Str} (g : Way ps x y) : ∃ i j : Nat, i < j ∧ ls[i]? = some x ∧ ls[j]? = some y := by
  induction g with
  | one e => exact h _ e
  | cons e _ ih =>
    obtain ⟨i, j, h1, h2, h3⟩ := h _ e
    obtain ⟨i', j', g1, g2, g3⟩ := ih
    have e : j = i' := by
      obtain ⟨a, b⟩ := List.getElem?_eq_some_iff.mp h3
      obtain ⟨c, d⟩ := List.getElem?_eq_some_iff.mp g2
      exact (List.getElem_inj hn).mp (b.trans d.symm)
    exact ⟨i, j', by omega, h2, g3⟩
theorem Up.irrefl {ls : List Str} (hn : ls.Nodup) {ps : List (Str × Str)} (h : Up ls ps) {x : Str} : ¬ Way ps x x := fun g => by
  obtain ⟨i, j, h1, h2, h3⟩ := h.lt hn g
  obtain ⟨a, b⟩ := List.getElem?_eq_some_iff.mp h2
  obtain ⟨c, d⟩ := List.getElem?_eq_some_iff.mp h3
  have := (List.getElem_inj hn).mp (b.trans d.symm)
  omega
theorem Up.mem {ls : List Str} {ps : List (Str × Str)} (h : Up ls ps) {p : Str × Str} (hp : p ∈ ps) : p.1 ∈ ls ∧ p.2 ∈ ls := by
  obtain ⟨i, j, _, h2, h3⟩ := h p hp
  exact ⟨List.mem_of_getElem? h2, List.mem_of_getElem? h3⟩
structure Half (ns : List Str) (ps : List (Str × Str)) : Prop where
  names : Names ns
  few : ns.length ≤ 10
  le : ps.length ≤ 60
  line : ∃ ls : List Str, ls.Perm ns ∧ Up ls ps
theorem Half.irrefl {ns : List Str} {ps : List (Str × Str)} (h : Half ns ps) {x : Str} : ¬ Way ps x x := by
  obtain ⟨ls, h1, h2⟩ := h.line
  exact h2.irrefl (h1.nodup_iff.mpr h.names.1)
theorem Half.mem {ns : List Str} {ps : List (Str × Str)} (h : Half ns ps) {p : Str × Str} (hp : p ∈ ps) : p.1 ∈ ns ∧ p.2 ∈ ns := by
  obtain ⟨ls, h1, h2⟩ := h.line
  have := h2.mem hp
  exact ⟨h1.mem_iff.mp this.1, h1.mem_iff.mp this.2⟩
theorem Half.way_mem {ns : List Str} {ps : List (Str × Str)} (h : Half ns ps) {x y : Str} (g : Way ps x y) : x ∈ ns ∧ y ∈ ns := by
  constructor
  · obtain ⟨p, hp, e⟩ := List.mem_map.mp g.left
    exact e ▸ (h.mem hp).1
  · obtain ⟨p, hp, e⟩ := List.mem_map.mp g.right
    exact e ▸ (h.mem hp).2
theorem eqv_nil_strs (ls : List Str) : PyData.eqv (.list (ls.map PyData.str)) (.list []) = ls.isEmpty := by
  cases ls <;> simp [PyData.eqv, PyData.eqvAll]
mutual
def plainD : PyData → Bool
  | .none => true
  | .bool _ => true
  | .str x => PyData.strOk x
  | .list ds => plainL ds
  | .tuple ds => plainL ds
  | _ => false
def plainL : List PyData → Bool
  | [] => true
  | d :: ds => plainD d && plainL ds
end
mutual
theorem plain_lay : ∀ d : PyData, plainD d = true → d.canLay0 = true
  | .none, _ => by simp only [PyData.canLay0]
  | .bool _, _ => by simp only [PyData.canLay0]
  | .str x, h => by simpa only [PyData.canLay0, plainD] using h
  | .list ds, h => by simp only [PyData.canLay0]; exact plain_layL ds (by simpa only [plainD] using h)
  | .tuple ds, h => by simp only [PyData.canLay0]; exact plain_layL ds (by simpa only [plainD] using h)
  | .int _, h => by simp [plainD] at h
  | .dict _, h => by simp [plainD] at h
theorem plain_layL : ∀ ds : List PyData, plainL ds = true → PyData.canLayAll0 ds = true
  | [], _ => by simp only [PyData.canLayAll0]
  | d :: ds, h => by
    simp only [plainL, Bool.and_eq_true] at h
    simp only [PyData.canLayAll0, plain_lay d h.1, plain_layL ds h.2, Bool.and_self]
end
theorem nm_ok {z : Str} (h : isNm z = true) : PyData.strOk z = true ∧ z.cps.size ≤ 8 := by
  unfold isNm at h
  simp only [Bool.and_eq_true, decide_eq_true_eq] at h
  refine ⟨?_, h.1.2⟩
  unfold PyData.strOk
  rw [← Array.all_toList, List.all_eq_true]
  intro c hc
  have := List.all_eq_true.mp h.2 c hc
  unfold smallN at this
  simp only [Bool.and_eq_true, decide_eq_true_eq] at this
  exact decide_eq_true (by omega)
theorem plainL_map {α : Type} (f : α → PyData) : ∀ xs : List α, (∀ a ∈ xs, plainD (f a) = true) → plainL (xs.map f) = true
  | [], _ => by simp only [List.map_nil, plainL]
  | x :: xs, h => by simp only [List.map_cons, plainL, h x List.mem_cons_self, plainL_map f xs fun a ha => h a (List.mem_cons_of_mem _ ha), Bool.and_self]
theorem depth_map {α : Type} (f : α → PyData) (n : Nat) : ∀ xs : List α, (∀ a ∈ xs, (f a).depth ≤ n) → PyData.depthAll (xs.map f) ≤ n
  | [], _ => by simp only [List.map_nil, PyData.depthAll]; omega
  | x :: xs, h => by
    have h1 := h x List.mem_cons_self
    have h2 := depth_map f n xs fun a ha => h a (List.mem_cons_of_mem _ ha)
    simp only [List.map_cons, PyData.depthAll]
    omega
theorem pr_facts {p : Str × Str} (h1 : isNm p.1 = true) (h2 : isNm p.2 = true) : plainD (prD p) = true ∧ (prD p).depth ≤ 1 ∧ (prD p).weight ≤ 18 := by
  have a := nm_ok h1
  have b := nm_ok h2
  refine ⟨by simp only [prD, plainD, plainL, a.1, b.1, Bool.and_self], by simp only [prD, PyData.depth, PyData.depthAll]; omega, ?_⟩
  simp only [prD, PyData.weight, PyData.weightAll]
  omega
noncomputable def NmP (ps : List (Str × Str)) : Prop := ∀ p ∈ ps, isNm p.1 = true ∧ isNm p.2 = true
theorem fine_lst {ns : List Str} (h : ∀ z ∈ ns, PyData.strOk z = true) : SeqAt.shaped (.list (ns.map PyData.str)) = true := by
  unfold SeqAt.shaped
  have e : (PyData.list (ns.map PyData.str)).canLay0 = true := plain_lay _ (by simp only [plainD]; exact plainL_map _ ns fun z hz => by simp only [plainD]; exact h z hz)
  have e2 : (PyData.list (ns.map PyData.str)).depth ≤ 64 := by
    simp only [PyData.depth]
    have := depth_map PyData.str 0 ns fun z hz => by simp only [PyData.depth]; omega
    omega
  rw [e, decide_eq_true e2]
  rfl
theorem Half.nmP {ns : List Str} {ps : List (Str × Str)} (h : Half ns ps) : NmP ps := fun p hp => ⟨h.names.2 _ (h.mem hp).1, h.names.2 _ (h.mem hp).2⟩
theorem nodup_le {α : Type} [DecidableEq α] : ∀ {xs ys : List α}, xs.Nodup → (∀ x ∈ xs, x ∈ ys) → xs.length ≤ ys.length
  | [], _, _, _ => Nat.zero_le _
  | x :: xs, ys, h, hs => by
    rw [List.nodup_cons] at h
    have hx : x ∈ ys := hs x List.mem_cons_self
    have ih := nodup_le (xs := xs) (ys := ys.erase x) h.2 fun z hz => by
      refine (List.mem_erase_of_ne ?_).mpr (hs z (List.mem_cons_of_mem _ hz))
      intro e
      subst e
      exact h.1 hz
    rw [List.length_erase_of_mem hx] at ih
    have : 0 < ys.length := List.length_pos_of_mem hx
    rw [List.length_cons]
    omega
section
variable {c : TT} {tb : TS} {D : Ends} {σ : St} {H : Hp}
theorem i_while (W : Nat → St → Hp → Prop) (m : Nat) (h0 : W m σ H)
    (hs : ∀ m σ H, W m σ H → c σ H fun b H1 => if b = true then ∃ N : St → Hp → Prop, (∀ σ' H', N σ' H' → ∃ m', m' < m ∧ W m' σ' H') ∧ tb { D with nx := N, ct := N, bk := D.nx } σ H1 else D.nx σ H1) : tWhile c tb D σ H := ⟨W, ⟨m, h0⟩, hs⟩
theorem i_turn {W : Nat → St → Hp → Prop} {m : Nat} (h : tb { D with nx := fun σ' H' => ∃ m', m' < m ∧ W m' σ' H', ct := fun σ' H' => ∃ m', m' < m ∧ W m' σ' H', bk := D.nx } σ H) :
    ∃ N : St → Hp → Prop, (∀ σ' H', N σ' H' → ∃ m', m' < m ∧ W m' σ' H') ∧ tb { D with nx := N, ct := N, bk := D.nx } σ H := ⟨_, fun _ _ h => h, h⟩
end
end L2
set_option Elab.async false
set_option linter.all false
set_option maxRecDepth 100000
set_option maxHeartbeats 4000000
namespace L2
open PySem PySem.Spec PyProof.Rows
section
variable {X : Cx} {K : PySem.W.Frag}
noncomputable def rUpdate : V → List V → Hp → VK → Prop := fun x vs H Q => ∃ d o kvs more, x = .ref d ∧ vs = [.ref o] ∧ d ≠ o ∧ H d = some (.dK kvs) ∧ H o = some (.dK more) ∧ kvs.length + more.length ≤ 1000000 ∧ Q .non (upd H d (.dK (mergeK kvs more)))
theorem mt_update : MtM X "dict.update" rUpdate := by
  intro pins s σ H x vs v us Q I rx rv h
  obtain ⟨d, o, kvs, more, rfl, rfl, hdo, hD, hO, hz, q⟩ := h
  cases rx
  obtain ⟨u, rfl, ru⟩ := rv.one
  cases ru
  obtain ⟨z1, hd1, vs1, rel1, dd1⟩ := dk_of I.hok hD
  obtain ⟨z2, hd2, vs2, rel2, dd2⟩ := dk_of I.hok hO
  have l1 : kvs.length = vs1.length := rel1.length
  have l2 : more.length = vs2.length := rel2.length
  refine call_meetsIn F.slot_dict_update dd1.typeIs F.entry_dict_update (F.args_dict_update_2 _ _) (meets_dict_update (mixKind X.prog X.w) d o hdo hd2) ⟨vs1, vs2, dd1, dd2, line_of (by omega), fun h' dd' _ hs => ?_⟩
  have he : ∃ q, h'.get? d = some q := let ⟨q, _, _, hq, _⟩ := dd'; ⟨q, hq⟩
  refine ⟨.non, _, d_write I (by rw [hD]; exact True.intro) hs he (dk_new ?_ hd1 (KV.merge rel2 rel1) dd'), rfl, q⟩
  have := length_mergeK more kvs
  exact line_of (by omega)
end
end L2
set_option Elab.async false
set_option linter.all false
set_option maxRecDepth 100000
set_option maxHeartbeats 4000000
namespace L2
open PySem PySem.Spec PyProof.Rows
theorem entry_dloop : entryFor table "dict.update.loop" = some Builtin.«dict.update.loop» := entryFor_of_tree (by kernel_rfl)
theorem plain_dloop : plainId "dict.update.loop" = true := by decide +kernel
theorem list_no_keys : typeLookup (.type "list") "keys" = pure none := by rw [typeLookup_type, builtinLookup_eq_fast]; kernel_rfl
section
variable {prog : Program} {w : World} {κ : Type} [DecidableEq κ] {knd : KeyKind prog w κ} {A : Around} {E : Value → Shared → Prop} {s : Shared}
theorem keys_miss {a : Addr} {xs : Array Value} {k : Nat} {Q : Option Value → Shared → Prop} (hx : s.heap.get? a = some { cls := .type "list", data := .seq xs k }) (hA : A.handled = none)
    (h : ∀ h' tk, (∀ b o, s.heap.get? b = some o → h'.get? b = some o) → Q none { s with heap := h', toks := tk }) : wpAny (model prog w) A (getAttr? (.ref a) "keys") Q E s := by
  obtain ⟨hp, g, d, tk, os⟩ := s
  have hT : ∀ tk', (⟨hp, g, d, tk', os⟩ : Shared).TypeIs (.ref a) "list" := fun _ => ⟨_, hx, rfl⟩
  have f1 := sub_AttributeError
  have f3 := F.slot_list_getattribute.lookup
  have f4 := F.slot_list_getattribute.bind (.ref a)
  have f5 := am_list_getattr_none
  unfold getAttr? getAttrBy? getAttrBy
  repeat (any_goals (first | assumption | exact hT _ | ((with_reducible show wpAny _ _ (call (Value.builtin "list.__getattribute__") _ _) _ _ _); refine call_meets F.slot_list_getattribute (hT _) am_entry_list_getattribute (F.args_list_getattribute_2 _ _) (meets_getattribute_miss_list a xs k #[] "keys" _ list_no_keys (by decide +kernel) (by rw [sizeLine_eq]; decide +kernel)) ⟨hx, hA, fun h' tk' e hx' => ?_⟩) | wp_step))
  obtain ⟨t', u', he⟩ := hx'.there
  show wpAny _ _ (getattributeRaised _ _ _ _ _ _ _) _ _ _
  unfold getattributeRaised
  repeat (any_goals (first | assumption | wp_step))
  exact h _ _ hx'.keeps
theorem pair_items {t : Addr} {k v : Value} {Q : List Value → Shared → Prop} (ht : IsTup s.heap t #[k, v]) (h : Q [k, v] s) : wpAny (model prog w) A (Builtin.Dict.pairItems (.ref t)) Q E s := by
  obtain ⟨o, ho, hc, n, hd⟩ := ht
  unfold Builtin.Dict.pairItems
  refine wpAny_bind (wpAny_typeOf ⟨o, ho, hc⟩ ?_)
  rw [if_pos (by decide)]
  refine wpAny_bind (wpAny_seqItems ho hd ?_)
  exact wpAny_pure h
theorem dict_loop {I D l : Addr} {items : Array Value} (hh : A.in1.handled = none) (hne : l ≠ I) (hDI : D ≠ I) (hDl : D ≠ l) (pk : List (κ × Value × Addr × Value)) (hlen : pk.length = items.size) (hz : items.size ≤ 1000000) :
    ∀ (j i : Nat) (s : Shared) (R : Result → Shared → Prop), items.size - i = j → i ≤ items.size → s.heap.IsListIter I l i → s.heap.IsList l items →
      s.heap.DictOf knd D (merged [] ((pk.take i).map fun p => (p.1, p.2.1))) →
      (∀ (n : Nat) (p : κ × Value × Addr × Value), pk[n]? = some p → items[n]? = some (Value.ref p.2.2.1) ∧ p.2.2.1 ≠ I ∧ p.2.2.1 ≠ D ∧ IsTup s.heap p.2.2.1 #[p.2.2.2, p.2.1] ∧ knd.is p.1 p.2.2.2 = true) →
      (∀ h' tk, h'.DictOf knd D (merged [] (pk.map fun p => (p.1, p.2.1))) → (∀ b o, b ≠ D → b ≠ I → s.heap.get? b = some o → h'.get? b = some o) → R (.ok (.ret .none)) { s with heap := h', toks := tk }) →
      codeAny (model prog w) A (.builtin "dict.update.loop" ⟨[.ref D, .ref I, .int i 0, .none], []⟩) R s := by
  have W := Walks.list (prog := prog) (w := w) hh I l hne items
  intro j
  induction j with
  | zero =>
    intro i s R hj hi hI hL hD hP hR
    have hin : i = items.size := by omega
    subst hin
    refine codeAny_builtin entry_dloop ?_
    rw [Around.under_plainId plain_dloop _]
    show wpAny _ A.in1 (pyNext (.ref I) >>= _) _ _ s
    refine wpAny_bind (W.done s _ _ ⟨hI, hL⟩ fun h' tk hm => ?_)
    show wpAny _ A.in1 (Builtin.Dict.addKeywords D [] >>= _) _ _ _
    refine wpAny_bind (wpAny_pure (wpAny_pure (hR h' tk ?_ fun b o hb hb' e => hm b o (by simpa using hb') e)))
    rw [← hlen, List.take_length] at hD
    obtain ⟨o, es, ep, ho, r⟩ := hD
    exact ⟨o, es, ep, hm D o (by simpa using hDI) ho, r⟩
  | succ j ih =>
    intro i s R hj hi hI hL hD hP hR
    have hlt : i < items.size := by omega
    obtain ⟨p, hp⟩ : ∃ p, pk[i]? = some p := ⟨pk[i]'(by omega), List.getElem?_eq_getElem _⟩
    obtain ⟨q1, q2, q3, q4, q5⟩ := hP i p hp
    refine codeAny_builtin entry_dloop ?_
    rw [Around.under_plainId plain_dloop _]
    show wpAny _ A.in1 (pyNext (.ref I) >>= _) _ _ s
    refine wpAny_bind (W.item i s _ _ hlt ⟨hI, hL⟩ fun v h' tk hv hst hm => ?_)
    have hv' : v = .ref p.2.2.1 := by
      have hv2 : items[i]? = some v := hv
      rw [q1] at hv2
      exact (Option.some.inj hv2).symm
    subst hv'
    have ht' : IsTup h' p.2.2.1 #[p.2.2.2, p.2.1] := by
      obtain ⟨o, ho, r⟩ := q4
      exact ⟨o, hm _ o (by simpa using q2) ho, r⟩
    have hD' : h'.DictOf knd D (merged [] ((pk.take i).map fun p => (p.1, p.2.1))) := by
      obtain ⟨o, es, ep, ho, r⟩ := hD
      exact ⟨o, es, ep, hm D o (by simpa using hDI) ho, r⟩
    show wpAny _ A.in1 (holding [Value.ref p.2.2.1] _ >>= _) _ _ _
    refine wpAny_bind (wpAny_holding ?_)
    refine wpAny_bind (wpAny_tryCatch (pair_items ht' ?_))
    show wpAny _ A.in1 (holding [p.2.2.2, p.2.1] (dictSet D p.2.2.2 p.2.1)) _ _ _
    refine wpAny_holding (wpAny_dictSet_pairs q5 hD' (fun h'' hD'' hs => ?_) ?_)
    · refine wpAny_pure ⟨plainId_quiet plain_dloop _, ?_⟩
      have hkeep : ∀ b o, b ≠ D → b ≠ I → s.heap.get? b = some o → h''.get? b = some o := fun b o h1 h2 e => (hs.2 b h1).trans (hm b o (by simpa using h2) e)
      refine ih (i + 1) _ R (by omega) hlt ?_ ?_ ?_ (fun n p' hp' => ?_) fun h3 tk3 hD3 hk3 => hR h3 tk3 hD3 fun b o h1 h2 e => hk3 b o h1 h2 (hkeep b o h1 h2 e)
      · exact hst.1.at fun o e => (hs.2 I (Ne.symm hDI)).trans e
      · exact hst.2.at fun o e => (hs.2 l (Ne.symm hDl)).trans e
      · have e : merged [] ((pk.take (i + 1)).map fun p => (p.1, p.2.1)) = stored (merged [] ((pk.take i).map fun p => (p.1, p.2.1))) p.1 p.2.1 := by
          rw [List.take_add_one, hp]
          unfold merged
          rw [List.map_append, List.foldl_append]
          rfl
        rw [e]
        exact hD''
      · obtain ⟨a1, a2, a3, ⟨o, ho, r⟩, a5⟩ := hP n p' hp'
        exact ⟨a1, a2, a3, ⟨o, hkeep _ o a3 a2 ho, r⟩, a5⟩
    · refine Nat.le_trans (merged_length_le _ _) (line_of ?_)
      rw [List.length_map, List.length_take]
      simp
      omega
theorem call_dict_pairs {l : Addr} {items : Array Value} {n : Nat} {Q : Value → Shared → Prop} (hl : s.heap.get? l = some { cls := .type "list", data := .seq items n }) (hA : A.handled = none) (pk : List (κ × Value × Addr × Value)) (hlen : pk.length = items.size) (hz : items.size ≤ 1000000)
    (hP : ∀ (n : Nat) (p : κ × Value × Addr × Value), pk[n]? = some p → items[n]? = some (Value.ref p.2.2.1) ∧ IsTup s.heap p.2.2.1 #[p.2.2.2, p.2.1] ∧ knd.is p.1 p.2.2.2 = true)
    (h : ∀ h' tk, h'.DictOf knd s.heap.objs.size (merged [] (pk.map fun p => (p.1, p.2.1))) → (∀ b o, s.heap.get? b = some o → h'.get? b = some o) → Q (.ref s.heap.objs.size) { s with heap := h', toks := tk }) :
    wpAny (model prog w) A (call (.type "dict") [.ref l]) Q E s := by
  refine callType_codes (Q₁ := fun obj s₁ => obj = .ref s.heap.objs.size ∧ s₁ = { s with heap := s.heap.push { cls := .type "dict", data := .dict #[] } }) F.kt_called_dict (F.kt_typeCall_dict_1 _) F.entry_dict_init (kt_code_dict_new _ ⟨rfl, rfl⟩) ?_
  rintro obj s₁ ⟨rfl, rfl⟩
  have hnew : (s.heap.push { cls := .type "dict", data := .dict #[] }).DictOf knd s.heap.objs.size [] := Heap.DictOf.new s.heap
  have hl' : (s.heap.push { cls := .type "dict", data := .dict #[] }).get? l = some { cls := .type "list", data := .seq items n } := Heap.get?_push_of_some _ hl
  have hll : l < s.heap.objs.size := Heap.lt_size hl
  refine ⟨hnew.typeIs, F.args_dict_init_2 _ _, ?_⟩
  unfold Builtin.«dict.__init__»
  refine wpAny_bind ?_
  unfold Builtin.Dict.selfAndRest
  refine wpAny_bind (wpAny_notOrdered_dict hnew.typeIs ?_)
  show wpAny _ _ (pure (s.heap.objs.size, [Value.ref l])) _ _ _
  refine wpAny_pure ?_
  show wpAny _ _ (Builtin.Dict.updateFrom "dict.__init__" s.heap.objs.size (.ref l) [] .none) _ _ _
  unfold Builtin.Dict.updateFrom
  refine wpAny_bind (wpAny_typeOf ⟨_, hl', rfl⟩ ?_)
  rw [if_pos (by decide)]
  refine wpAny_bind (keys_miss hl' (by simpa using hA) fun h1 tk1 hk1 => ?_)
  have hl1 : h1.get? l = some { cls := .type "list", data := .seq items n } := hk1 _ _ hl'
  rw [if_pos (show (none : Option Value).isNone = true from rfl)]
  have hD1 : h1.DictOf knd s.heap.objs.size [] := by
    obtain ⟨o, es, ep, ho, r⟩ := hnew
    exact ⟨o, es, ep, hk1 _ _ ho, r⟩
  have hsz : s.heap.objs.size < h1.objs.size := by
    obtain ⟨o, es, ep, ho, r⟩ := hD1
    exact Heap.lt_size ho
  refine wpAny_bind (wpAny_rule ?_)
  have hL1 : h1.IsList l items := ⟨_, hl1, rfl, n, rfl⟩
  refine wpAny_bind (wpAny_pyIter_list hL1 ?_)
  refine wpAny_pure ⟨plainId_quiet plain_dloop _, ?_⟩
  have kp : ∀ b o, s.heap.get? b = some o → (h1.push { cls := .type "list_iterator", data := .fields #[.ref l, .int 0 0] }).get? b = some o := fun b o e => Heap.get?_push_of_some _ (hk1 _ _ (Heap.get?_push_of_some _ e))
  refine dict_loop (knd := knd) (A := A.in1) (I := h1.objs.size) (D := s.heap.objs.size) (l := l) (items := items) (by simpa using hA) (Nat.ne_of_lt (Nat.lt_trans hll hsz)) (Nat.ne_of_lt hsz) (Nat.ne_of_gt hll) pk hlen hz items.size 0 _ _ (Nat.sub_zero _) (Nat.zero_le _) ⟨_, Heap.get?_push_size _ rfl, rfl, rfl⟩ (hL1.push _) ?_ (fun m p hp => ?_) fun h' tk hD hk => ?_
  · exact hD1.push _
  · obtain ⟨a1, ⟨o, ho, r⟩, a3⟩ := hP m p hp
    have hlt := Heap.lt_size ho
    exact ⟨a1, Nat.ne_of_lt (Nat.lt_trans hlt hsz), Nat.ne_of_lt hlt, ⟨o, kp _ _ ho, r⟩, a3⟩
  · refine ⟨rfl, h h' tk hD fun b o e => ?_⟩
    have hlt := Heap.lt_size e
    exact hk b o (Nat.ne_of_lt hlt) (Nat.ne_of_lt (Nat.lt_trans hlt hsz)) (kp b o e)
end
noncomputable def PrsK (K : PySem.W.Frag) (H : Hp) : List (Key × V) → List V → Prop
  | [], ys => ys = []
  | kv :: r, ys => ∃ t ys', ys = .ref t :: ys' ∧ SqT K H t [kV kv.1, kv.2] ∧ PrsK K H r ys'
theorem PrsK.pk {X : Cx} {pins : List (Addr × Obj)} {σ : St} {H : Hp} {s : Shared} (I : Inv X pins σ H s) : ∀ (kvs : List (Key × V)) (ys : List V) (its : List Value), PrsK X.K H kvs ys → Vals ys its →
    ∃ pk : List (Key × Value × Addr × Value), pk.length = its.length ∧ KV kvs (pk.map fun p => (p.1, p.2.1)) ∧ ∀ (n : Nat) (p : Key × Value × Addr × Value), pk[n]? = some p → its[n]? = some (Value.ref p.2.2.1) ∧ IsTup s.heap p.2.2.1 #[p.2.2.2, p.2.1] ∧ (mixKind X.prog X.w).is p.1 p.2.2.2 = true
  | [], ys, its, h, v => by
    have h' : ys = [] := h
    subst h'
    cases v
    exact ⟨[], rfl, .nil, fun n p hp => by simp at hp⟩
  | kv :: r, ys, its, h, v => by
    obtain ⟨t, ys', rfl, h2, h3⟩ := h
    cases v with
    | cons v1 v2 =>
      obtain ⟨pk, l1, l2, l3⟩ := PrsK.pk I r ys' _ h3 v2
      cases v1
      obtain ⟨its2, rv, ht, _⟩ := I.tuple h2
      obtain ⟨key, val, rfl, a1, a3⟩ := Vals.two rv
      refine ⟨(kv.1, val, t, key) :: pk, by simp [l1], .cons ⟨rfl, a3⟩ l2, fun n p hp => ?_⟩
      cases n with
      | zero =>
        have : p = (kv.1, val, t, key) := (Option.some.inj (by simpa using hp)).symm
        subst this
        exact ⟨rfl, ht, kV_is a1⟩
      | succ n => exact l3 n p (by simpa using hp)
section
variable {X : Cx} {K : PySem.W.Frag}
noncomputable def rDictA (K : PySem.W.Frag) : List V → Hp → VK → Prop := fun xs H Q => ∃ l ys kvs, xs = [V.ref l] ∧ H l = some (.lst ys) ∧ PrsK K H kvs ys ∧ ys.length ≤ 1000000 ∧ kvs.length ≤ 1000000 ∧ ∀ p, H p = none → Q (.ref p) (upd H p (.dK (mergeK [] kvs)))
theorem call_dictA (hr : X.A.handled = none) : CallR X (.type "dict") (rDictA X.K) := by
  intro pins s σ H xs us Q I rv h
  obtain ⟨l, ys, kvs, rfl, hl, hp, hz, hz2, q⟩ := h
  obtain ⟨u, rfl, ru⟩ := rv.one
  cases ru
  obtain ⟨z, its, n, r, hlen, e⟩ := I.lstM hl
  obtain ⟨pk, l1, l2, l3⟩ := PrsK.pk I kvs ys its hp r
  refine call_dict_pairs (knd := mixKind X.prog X.w) e hr pk (by simpa using l1) (by simp; omega) (fun n p hp => ?_) fun h' tk hD hk => ?_
  · obtain ⟨a1, a2, a3⟩ := l3 n p hp
    exact ⟨by simpa using a1, a2, a3⟩
  · refine ⟨.ref s.heap.objs.size, _, I.laid hk (Nat.le_refl _) (dk_new ?_ ?_ (KV.merge l2 .nil) hD), rfl, q _ (I.hok.fresh (Nat.le_refl _))⟩
    · have := length_mergeK kvs []
      exact line_of (by simpa using Nat.le_trans this (by simpa using hz2))
    · exact beq_eq_false_iff_ne.mpr (Nat.ne_of_gt I.big)
theorem call_dictK (hr : X.A.handled = none) (hK : X.K = K := by with_unfolding_all rfl) : CallR X (.type "dict") (rDictA K) := hK ▸ call_dictA hr
end
end L2
set_option Elab.async false
set_option linter.all false
set_option maxRecDepth 100000
set_option maxHeartbeats 4000000
namespace L2
open PySem PySem.Spec PyProof.Rows
noncomputable def tabK (ns : List Str) (as : List Addr) : List (Key × V) := (ns.zip as).map fun p => (Sum.inr p.1, V.ref p.2)
noncomputable def rowK (ks : List Str) : List (Key × V) := ks.map fun y => (Sum.inr y, V.bl true)
theorem valV_tab : ∀ {ns : List Str} {as : List Addr} {i : Nat} {z : Str} {a : Addr}, ns.Nodup → ns[i]? = some z → as[i]? = some a → valV (tabK ns as) (Sum.inr z : Key) = some (.ref a)
  | [], _, i, _, _, _, h, _ => by simp at h
  | n :: ns, [], i, _, _, _, _, h => by simp at h
  | n :: ns, b :: as, 0, z, a, _, h, g => by
    simp at h g
    subst h g
    exact valV_pos rfl
  | n :: ns, b :: as, i + 1, z, a, hn, h, g => by
    rw [List.nodup_cons] at hn
    have h' : ns[i]? = some z := by simpa using h
    have ne : ¬ (Sum.inr n : Key) = Sum.inr z := by
      intro e
      have e2 : n = z := by injection e
      subst e2
      exact hn.1 (List.mem_of_getElem? h')
    show valV ((Sum.inr n, V.ref b) :: tabK ns as) _ = _
    rw [valV_neg ne]
    exact valV_tab hn.2 h' (by simpa using g)
theorem valV_row (y : Str) : ∀ ks : List Str, valV (rowK ks) (Sum.inr y : Key) = if y ∈ ks then some (.bl true) else none
  | [] => by simp [rowK, valV_nil]
  | k :: ks => by
    show valV ((Sum.inr k, V.bl true) :: rowK ks) _ = _
    by_cases e : k = y
    · subst e
      rw [valV_pos rfl, if_pos List.mem_cons_self]
    · rw [valV_neg (by intro q; injection q with q; exact e q), valV_row y ks]
      have : (y ∈ k :: ks) ↔ y ∈ ks := by simp [Ne.symm e]
      simp only [this]
noncomputable def addK (ks : List Str) (y : Str) : List Str := if y ∈ ks then ks else ks ++ [y]
theorem mem_addK {ks : List Str} {y z : Str} : z ∈ addK ks y ↔ z ∈ ks ∨ z = y := by
  unfold addK
  split
  · constructor
    · exact .inl
    · rintro (h | rfl)
      · exact h
      · assumption
  · simp
theorem nodup_addK {ks : List Str} {y : Str} (h : ks.Nodup) : (addK ks y).Nodup := by
  unfold addK
  split
  · exact h
  · rename_i hy
    rw [List.nodup_append]
    refine ⟨h, by simp, fun a ha b hb e => ?_⟩
    have : b = y := by simpa using hb
    subst this
    subst e
    exact hy ha
theorem any_row (y : Str) (ks : List Str) : ((rowK ks).any fun kv => decide (kv.1 = (Sum.inr y : Key))) = decide (y ∈ ks) := by
  induction ks with
  | nil => simp [rowK]
  | cons k ks ih =>
    show (decide ((Sum.inr k : Key) = Sum.inr y) || (rowK ks).any _) = _
    rw [ih]
    by_cases e : k = y
    · subst e; simp
    · have e' : ¬ (Sum.inr k : Key) = Sum.inr y := by intro q; injection q with q; exact e q
      simp [e', Ne.symm e]
theorem put_row (ks : List Str) (y : Str) : putK (rowK ks) (Sum.inr y : Key) (.bl true) = rowK (addK ks y) := by
  unfold putK addK
  rw [any_row]
  by_cases h : y ∈ ks
  · rw [if_pos (decide_eq_true h), if_pos h]
    unfold rowK
    rw [List.map_map]
    refine List.map_congr_left fun k _ => ?_
    show (if (Sum.inr k : Key) = Sum.inr y then (Sum.inr k, V.bl true) else (Sum.inr k, V.bl true)) = _
    split <;> rfl
  · rw [if_neg (by simpa using h), if_neg h]
    unfold rowK
    rw [List.map_append]
    rfl
noncomputable def addAll (ks ms : List Str) : List Str := ms.foldl addK ks
theorem merge_row : ∀ (ms ks : List Str), mergeK (rowK ks) (rowK ms) = rowK (addAll ks ms)
  | [], ks => rfl
  | m :: ms, ks => by
    show mergeK (putK (rowK ks) (Sum.inr m) (.bl true)) (rowK ms) = _
    rw [put_row, merge_row ms]
    rfl
theorem mem_addAll : ∀ {ms ks : List Str} {z : Str}, z ∈ addAll ks ms ↔ z ∈ ks ∨ z ∈ ms
  | [], ks, z => by simp [addAll]
  | m :: ms, ks, z => by
    show z ∈ addAll (addK ks m) ms ↔ _
    rw [mem_addAll, mem_addK, List.mem_cons, or_assoc]
theorem nodup_addAll : ∀ {ms ks : List Str}, ks.Nodup → (addAll ks ms).Nodup
  | [], ks, h => h
  | m :: ms, ks, h => nodup_addAll (ms := ms) (nodup_addK h)
theorem len_row (ks : List Str) : (rowK ks).length = ks.length := by simp [rowK]
theorem merge_new : ∀ (kvs acc : List (Key × V)), (kvs.map (·.1)).Nodup → (∀ k ∈ kvs, ∀ q ∈ acc, q.1 ≠ k.1) → mergeK acc kvs = acc ++ kvs
  | [], acc, _, _ => by simp [mergeK]
  | k :: kvs, acc, hn, hd => by
    show mergeK (putK acc k.1 k.2) kvs = _
    have e : putK acc k.1 k.2 = acc ++ [k] := by
      unfold putK
      have : ¬ (acc.any fun kv => decide (kv.1 = k.1)) = true := by
        rw [List.any_eq_true]
        rintro ⟨q, hq, e⟩
        exact hd k List.mem_cons_self q hq (of_decide_eq_true e)
      rw [if_neg this]
    rw [List.map_cons, List.nodup_cons] at hn
    rw [e, merge_new kvs (acc ++ [k]) hn.2 fun x hx q hq => ?_, List.append_assoc]
    · rfl
    · rcases List.mem_append.mp hq with hq | hq
      · exact hd x (List.mem_cons_of_mem _ hx) q hq
      · have : q = k := by simpa using hq
        subst this
        intro e
        exact hn.1 (List.mem_map.mpr ⟨x, hx, e.symm⟩)
structure Tab (H : Hp) (r : Addr) (ns : List Str) (as : List Addr) (R : Str → Str → Prop) : Prop where
  len : as.length = ns.length
  nd : as.Nodup
  nr : r ∉ as
  top : H r = some (.dK (tabK ns as))
  row : ∀ (i : Nat) (z : Str) (a : Addr), ns[i]? = some z → as[i]? = some a → ∃ ks : List Str, H a = some (.dK (rowK ks)) ∧ ks.Nodup ∧ (∀ y ∈ ks, y ∈ ns) ∧ ∀ y, y ∈ ks ↔ R z y
theorem Tab.same {H H' : Hp} {r : Addr} {ns : List Str} {as : List Addr} {R : Str → Str → Prop} (h : Tab H r ns as R) (e : Same H H') : Tab H' r ns as R :=
  ⟨h.len, h.nd, h.nr, e _ _ h.top, fun i z a hz ha => let ⟨ks, h1, h2⟩ := h.row i z a hz ha; ⟨ks, e _ _ h1, h2⟩⟩
theorem Tab.congr {H : Hp} {r : Addr} {ns : List Str} {as : List Addr} {R R' : Str → Str → Prop} (h : Tab H r ns as R) (e : ∀ z ∈ ns, ∀ y, R z y ↔ R' z y) : Tab H r ns as R' :=
  ⟨h.len, h.nd, h.nr, h.top, fun i z a hz ha => let ⟨ks, h1, h2, h3, h4⟩ := h.row i z a hz ha; ⟨ks, h1, h2, h3, fun y => (h4 y).trans (e z (List.mem_of_getElem? hz) y)⟩⟩
theorem Tab.put {H H' : Hp} {r b : Addr} {ns : List Str} {as : List Addr} {R R' : Str → Str → Prop} (h : Tab H r ns as R) (e : ExtBut b H H') {j : Nat} {x : Str} (hn : ns.Nodup) (hj : ns[j]? = some x) (hb : as[j]? = some b) {ks : List Str}
    (hk : H' b = some (.dK (rowK ks))) (k1 : ks.Nodup) (k2 : ∀ y ∈ ks, y ∈ ns) (k3 : ∀ y, y ∈ ks ↔ R' x y) (k4 : ∀ z ∈ ns, z ≠ x → ∀ y, R z y ↔ R' z y) : Tab H' r ns as R' := by
  refine ⟨h.len, h.nd, h.nr, e _ _ (fun q => h.nr (q ▸ List.mem_of_getElem? hb)) h.top, fun i z a hz ha => ?_⟩
  by_cases hij : i = j
  · subst hij
    rw [hz] at hj
    cases hj
    rw [ha] at hb
    cases hb
    exact ⟨ks, hk, k1, k2, k3⟩
  · obtain ⟨ms, h1, h2, h3, h4⟩ := h.row i z a hz ha
    have hab : a ≠ b := by
      intro q
      subst q
      obtain ⟨p1, p2⟩ := List.getElem?_eq_some_iff.mp ha
      obtain ⟨q1, q2⟩ := List.getElem?_eq_some_iff.mp hb
      exact hij ((List.getElem_inj h.nd).mp (p2.trans q2.symm))
    have hzx : z ≠ x := by
      intro q
      subst q
      obtain ⟨p1, p2⟩ := List.getElem?_eq_some_iff.mp hz
      obtain ⟨q1, q2⟩ := List.getElem?_eq_some_iff.mp hj
      exact hij ((List.getElem_inj hn).mp (p2.trans q2.symm))
    exact ⟨ms, e _ _ hab h1, h2, h3, fun y => (h4 y).trans (k4 z (List.mem_of_getElem? hz) hzx y)⟩
theorem Tab.at {H : Hp} {r : Addr} {ns : List Str} {as : List Addr} {R : Str → Str → Prop} (h : Tab H r ns as R) {x : Str} (hx : x ∈ ns) : ∃ (i : Nat) (a : Addr), ns[i]? = some x ∧ as[i]? = some a := by
  obtain ⟨i, hi, e⟩ := List.getElem_of_mem hx
  have hi' : i < as.length := by rw [h.len]; exact hi
  exact ⟨i, as[i], by rw [List.getElem?_eq_getElem hi, e], List.getElem?_eq_getElem hi'⟩
section
variable {K : PySem.W.Frag} {H : Hp} {Q : VK} {r : Addr} {ns : List Str} {as : List Addr} {R : Str → Str → Prop}
theorem i_tab {x : Str} {i : Nat} {a : Addr} (h : Tab H r ns as R) (hn : ns.Nodup) (hx : ns[i]? = some x) (ha : as[i]? = some a) (k : Q (.ref a) H) : rIxA K (.ref r) (.str x) H Q := i_ixD h.top (valV_tab hn hx ha) k
theorem i_inRow {a : Addr} {ks : List Str} {y : Str} (h : H a = some (.dK (rowK ks))) (k : Q (.bl (decide (y ∈ ks))) H) : rInA K false (.str y) (.ref a) H Q := by
  refine .inr (.inr (.inl ⟨a, valV (rowK ks) (Sum.inr y : Key), rfl, DGet.k (k := Sum.inr y) h, ?_⟩))
  rw [valV_row]
  by_cases e : y ∈ ks
  · rw [if_pos e]; simpa [e] using k
  · rw [if_neg e]; simpa [e] using k
theorem i_tyD {a : Addr} {kvs : List (Key × V)} {B : Prop} (h : H a = some (.dK kvs)) (k : B) : tyV K "dict" (.ref a) H ∧ B := ⟨.inr (.inr (.inl ⟨rfl, .inl ⟨kvs, h⟩⟩)), k⟩
theorem i_upd {d o : Addr} {ks ms : List Str} (hd : H d = some (.dK (rowK ks))) (ho : H o = some (.dK (rowK ms))) (hne : d ≠ o) (hz : ks.length + ms.length ≤ 1000000) (k : ∀ H', ExtBut d H H' → H' d = some (.dK (rowK (addAll ks ms))) → Q .non H') : rUpdate (.ref d) [.ref o] H Q :=
  ⟨d, o, _, _, rfl, rfl, hne, hd, ho, by rw [len_row, len_row]; exact hz, k _ ExtBut.upd (by rw [upd_same, merge_row])⟩
end
structure HalfW (ns : List Str) (ps : List (Str × Str)) : Prop where
  nd : ns.Nodup
  mem : ∀ p ∈ ps, p.1 ∈ ns ∧ p.2 ∈ ns
  irr : ∀ x, ¬ Way ps x x
  few : ns.length ≤ 100
  le : ps.length ≤ 1000
theorem Half.w {ns : List Str} {ps : List (Str × Str)} (h : Half ns ps) : HalfW ns ps := ⟨h.names.1, fun p hp => h.mem hp, fun _ => h.irrefl, Nat.le_trans h.few (by decide), Nat.le_trans h.le (by decide)⟩
structure War (ns : List Str) (ps : List (Str × Str)) (ms : List Str) (R : Str → Str → Prop) : Prop where
  snd : ∀ z y, R z y → Way ps z y
  edge : ∀ z y, (z, y) ∈ ps → R z y
  shut : ∀ m ∈ ms, ∀ z y, R z m → R m y → R z y
noncomputable def warR (R : Str → Str → Prop) (mid : Str) (ms : List Str) (z y : Str) : Prop := R z y ∨ (z ∈ ms ∧ R z mid ∧ R mid y)
theorem War.step {ns : List Str} {ps : List (Str × Str)} {ms : List Str} {R : Str → Str → Prop} (h : War ns ps ms R) {mid : Str} : War ns ps (ms ++ [mid]) (fun z y => R z y ∨ (R z mid ∧ R mid y)) := by
  refine ⟨fun z y hz => ?_, fun z y hz => .inl (h.edge z y hz), fun m hm z y h1 h2 => ?_⟩
  · rcases hz with hz | ⟨h1, h2⟩
    · exact h.snd z y hz
    · exact (h.snd _ _ h1).trans (h.snd _ _ h2)
  · rcases List.mem_append.mp hm with hm | hm
    · rcases h1 with h1 | ⟨h1, h1'⟩
      · rcases h2 with h2 | ⟨h2, h2'⟩
        · exact .inl (h.shut m hm z y h1 h2)
        · exact .inr ⟨h.shut m hm z mid h1 h2, h2'⟩
      · rcases h2 with h2 | ⟨h2, h2'⟩
        · exact .inr ⟨h1, h.shut m hm mid y h1' h2⟩
        · exact .inr ⟨h1, h2'⟩
    · have e : m = mid := by simpa using hm
      subst e
      rcases h1 with h1 | ⟨h1, h1'⟩
      · rcases h2 with h2 | ⟨h2, h2'⟩
        · exact .inr ⟨h1, h2⟩
        · exact .inr ⟨h1, h2'⟩
      · rcases h2 with h2 | ⟨h2, h2'⟩
        · exact .inr ⟨h1, h2⟩
        · exact .inr ⟨h1, h2'⟩
theorem War.done {ns : List Str} {ps : List (Str × Str)} {R : Str → Str → Prop} (h : War ns ps ns R) (hm : ∀ p ∈ ps, p.1 ∈ ns ∧ p.2 ∈ ns) (z y : Str) : R z y ↔ Way ps z y := by
  refine ⟨h.snd z y, fun g => ?_⟩
  induction g with
  | one e => exact h.edge _ _ e
  | cons e _ ih => exact h.shut _ (hm _ e).2 _ _ (h.edge _ _ e) ih
end L2
namespace L2
open PySem PySem.Spec PyProof.Rows
theorem PrsK.fz {K : PySem.W.Frag} {H H' : Hp} (e : Fz H H') : ∀ {kvs : List (Key × V)} {ys : List V}, PrsK K H kvs ys → PrsK K H' kvs ys
  | [], _, h => h
  | kv :: r, ys, ⟨t, ys', h1, h2, h3⟩ => ⟨t, ys', h1, e.seq h2, PrsK.fz e h3⟩
theorem PrsK.snoc {K : PySem.W.Frag} {H : Hp} {kv : Key × V} {t : Addr} (h : SqT K H t [kV kv.1, kv.2]) : ∀ {kvs : List (Key × V)} {ys : List V}, PrsK K H kvs ys → PrsK K H (kvs ++ [kv]) (ys ++ [.ref t])
  | [], ys, g => by
    have g' : ys = [] := g
    subst g'
    exact ⟨t, [], rfl, h, rfl⟩
  | k :: r, ys, ⟨u, ys', h1, h2, h3⟩ => by
    subst h1
    exact ⟨u, ys' ++ [.ref t], rfl, h2, PrsK.snoc h h3⟩
theorem PrsK.length {K : PySem.W.Frag} {H : Hp} : ∀ {kvs : List (Key × V)} {ys : List V}, PrsK K H kvs ys → ys.length = kvs.length
  | [], ys, g => by
    have g' : ys = [] := g
    subst g'
    rfl
  | k :: r, ys, ⟨u, ys', h1, h2, h3⟩ => by
    subst h1
    simp [PrsK.length h3]
theorem i_dict {K : PySem.W.Frag} {H : Hp} {Q : VK} {l : Addr} {ys : List V} {kvs : List (Key × V)} (h : H l = some (.lst ys)) (g : PrsK K H kvs ys) (hz : kvs.length ≤ 1000000) (k : ∀ p H', H p = none → Same H H' → H' p = some (.dK (mergeK [] kvs)) → Q (.ref p) H') : rDictA K [.ref l] H Q :=
  ⟨l, ys, kvs, rfl, h, g, by rw [g.length]; exact hz, hz, fun p hp => k p _ hp (Same.upd hp) upd_same⟩
theorem keys_tab : ∀ {ns : List Str} {as : List Addr}, ns.Nodup → ((tabK ns as).map (·.1)).Nodup
  | [], as, _ => by simp [tabK]
  | n :: ns, [], _ => by simp [tabK]
  | n :: ns, a :: as, h => by
    rw [List.nodup_cons] at h
    show ((Sum.inr n : Key) :: (tabK ns as).map (·.1)).Nodup
    rw [List.nodup_cons]
    refine ⟨fun hm => ?_, keys_tab h.2⟩
    obtain ⟨kv, hkv, e⟩ := List.mem_map.mp hm
    obtain ⟨p, hp, rfl⟩ := List.mem_map.mp hkv
    have e' : p.1 = n := by injection e
    exact h.1 (e' ▸ (List.of_mem_zip hp).1)
theorem tab_snoc {ns : List Str} {as : List Addr} {z : Str} {a : Addr} (h : ns.length = as.length) : tabK (ns ++ [z]) (as ++ [a]) = tabK ns as ++ [(Sum.inr z, V.ref a)] := by
  unfold tabK
  rw [List.zip_append h, List.map_append]
  rfl
end L2
set_option Elab.async false
set_option linter.all false
set_option maxRecDepth 100000
set_option maxHeartbeats 4000000
namespace L2
open PySem PySem.Spec PyProof.Rows
open Classical in
noncomputable def wayB (ps : List (Str × Str)) (x y : Str) : Bool := decide (Way ps x y)
theorem wayB_iff {ps : List (Str × Str)} {x y : Str} : wayB ps x y = true ↔ Way ps x y := by unfold wayB; simp
theorem wayB_of {ps : List (Str × Str)} {x y : Str} {b : Bool} (h : b = true ↔ Way ps x y) : b = wayB ps x y := by
  cases hb : wayB ps x y with
  | true => exact h.mpr (wayB_iff.mp hb)
  | false =>
    cases b with
    | false => rfl
    | true =>
      have := wayB_iff.mpr (h.mp rfl)
      rw [hb] at this
      cases this
theorem wayB_dec {ps : List (Str × Str)} {x y : Str} {p : Prop} [Decidable p] (h : p ↔ Way ps x y) : decide p = wayB ps x y := wayB_of (by rw [decide_eq_true_iff]; exact h)
theorem wayB_false {ps : List (Str × Str)} {x y : Str} (h : ¬ Way ps x y) : wayB ps x y = false := by
  cases hb : wayB ps x y with
  | false => rfl
  | true => exact absurd (wayB_iff.mp hb) h
theorem iteR {α : Type} {a : α} {A B : Prop} [Decidable (a = a)] (h : A) : if decide (a = a) = true then A else B := by rw [if_pos (by simp)]; exact h
theorem iteNR {α : Type} {a : α} {A B : Prop} [Decidable (a = a)] (h : B) : if (!decide (a = a)) = true then A else B := by rw [if_neg (by simp)]; exact h
section
variable {K : PySem.W.Frag} {H : Hp} {σ : St} {x : V} {Q : VK}
theorem comp_nm {ns : List Str} {g : TG} {tt : TT} {te : TE} {k : Nat} {js : List Nat} (h : Is K H (nmD ns) x) (t : Str → Bool) (f : Str → PyData) (hf : ∀ a, frz (f a) = true) (hz : ns.length ≤ 1000000)
    (hs : ∀ (i : Nat) a H1 (R : VK) (R' : Hp → Prop), ns[i]? = some a → Same H H1 → (t a = true → ∀ y H2, Same H1 H2 → Is K H2 (f a) y → R y H2) → (t a = false → ∀ H2, Same H1 H2 → R' H2) →
      g (.str a) (List.replicate k none ++ pick σ js) H1 fun σ2 H2 => tt σ2 H2 fun b H3 => if b = true then te σ2 H3 R else R' H3)
    (hd : ∀ p ys H', H p = none → Same H H' → H' p = some (.lst ys) → IsL K H' ((ns.filter t).map f) ys → Q (.ref p) H') : rAnyIt K x H fun J H1 => rComp k js g tt te σ J H1 Q := by
  obtain ⟨a, rfl, hS⟩ := h.nm
  refine i_itT hS (comp_dat (K := K) (walk_tup (xs := ns.map V.str)) ns (by simp) t f hf (by simpa using hz) (fun H' e => e.seqT hS) (fun i z v H1 R R' hz hv e hR hR' => ?_) hd)
  rw [List.getElem?_map, hz] at hv
  cases hv
  exact hs i z H1 R R' hz e hR hR'
theorem comp_lnm {ns : List Str} {a : Addr} {g : TG} {tt : TT} {te : TE} {k : Nat} {js : List Nat} (h : SqL K H a (ns.map V.str)) (t : Str → Bool) (f : Str → PyData) (hf : ∀ a, frz (f a) = true) (hz : ns.length ≤ 1000000)
    (hs : ∀ (i : Nat) a H1 (R : VK) (R' : Hp → Prop), ns[i]? = some a → Same H H1 → (t a = true → ∀ y H2, Same H1 H2 → Is K H2 (f a) y → R y H2) → (t a = false → ∀ H2, Same H1 H2 → R' H2) →
      g (.str a) (List.replicate k none ++ pick σ js) H1 fun σ2 H2 => tt σ2 H2 fun b H3 => if b = true then te σ2 H3 R else R' H3)
    (hd : ∀ p ys H', H p = none → Same H H' → H' p = some (.lst ys) → IsL K H' ((ns.filter t).map f) ys → Q (.ref p) H') : rAnyIt K (.ref a) H fun J H1 => rComp k js g tt te σ J H1 Q := by
  refine i_itL h (comp_dat (K := K) (walk_list (xs := ns.map V.str)) ns (by simp) t f hf (by simpa using hz) (fun H' e => e.seq h) (fun i z v H1 R R' hz hv e hR hR' => ?_) hd)
  rw [List.getElem?_map, hz] at hv
  cases hv
  exact hs i z H1 R R' hz e hR hR'
theorem i_tupNm {ns : List Str} {a : Addr} {ys : List V} (h : H a = some (.lst ys)) (g : IsL K H (ns.map PyData.str) ys) (k : ∀ v H', Same H H' → Is K H' (nmD ns) v → Q v H') : rTupleA K [.ref a] H Q := by
  have e := IsL.str_eq g
  subst e
  exact i_tupleL (SqL.of h) fun p H' hp e h' => k _ H' e (is_nm (SqT.of h'))
end
end L2
set_option Elab.async false
set_option linter.all false
set_option maxRecDepth 100000
set_option maxHeartbeats 4000000
namespace L2
open PySem PySem.Spec PyProof.Rows
open AutoSeq1 (wpAny_loadPart')
section
variable {prog : Program} {w : World} {A : Around} {E : Value → Shared → Prop} {s : Shared}
theorem nx_item {it t : Addr} {i : Nat} {items : Array Value} {x : Value} {Q : Value → Shared → Prop} (hit : s.heap.IsTupleIter it t i) (ht : s.heap.IsTuple t items) (hx : items[i]? = some x)
    (hQ : ∀ h', h'.IsTupleIter it t (i + 1) → Heap.SameBut it s.heap h' → Q x { s with heap := h' }) : wpAny (model prog w) A (Builtin.SmallTypes.nextOf (.ref it)) Q E s := by
  obtain ⟨o, o1, o2, o3⟩ := id hit
  obtain ⟨u, u1, _, n, u2⟩ := ht
  unfold Builtin.SmallTypes.nextOf
  refine wpAny_bind (wpAny_callSpecial?_slot (name := Str.ofString "__next__") hit.typeIs F.slot_tuple_iterator_next (wpAny_call_entry F.slot_tuple_iterator_next hit.typeIs F.entry_tuple_iterator_next ?_ (F.args_tuple_iterator_next_1 _)))
  refine wpAny_bind (m := field (.ref it) 0) (wpAny_field o1 o3 (x := .ref t) rfl ?_)
  rw [if_neg (show ¬ ((Value.ref t == Value.none) = true) by intro h; cases h)]
  refine wpAny_bind (m := field (.ref it) 1) (wpAny_field o1 o3 (x := .int i 0) rfl ?_)
  refine wpAny_bind (m := seqItems? (.ref t)) (wpAny_seqItems u1 u2 ?_)
  simp only [Int.toNat_natCast, hx]
  refine wpAny_bind (wpAny_setField o1 o3 (by simp) (wpAny_pure ⟨x, rfl, wpAny_pure (hQ _ ⟨_, Heap.get?_update_self _ o1 (Obj.isFreed_of_fields (Obj.data_mapFields o3 _)), (Obj.cls_mapFields ..).trans o2, ?_⟩ (Heap.SameBut.update ..))⟩))
  rw [Obj.data_mapFields o3]
  simp [rawInt]
theorem nx_end {it t : Addr} {i : Nat} {items : Array Value} {Q : Value → Shared → Prop} (hh : A.handled = none) (hit : s.heap.IsTupleIter it t i) (ht : s.heap.IsTuple t items) (hx : items[i]? = none)
    (hE : ∀ h' e, Heap.ExtBut it s.heap h' → (∃ o, h'.get? e = some o ∧ o.cls = .type "StopIteration") → E (.ref e) { s with heap := h' }) : wpAny (model prog w) A (Builtin.SmallTypes.nextOf (.ref it)) Q E s := by
  obtain ⟨o, o1, o2, o3⟩ := id hit
  obtain ⟨u, u1, _, n, u2⟩ := ht
  unfold Builtin.SmallTypes.nextOf
  refine wpAny_bind (wpAny_callSpecial?_slot (name := Str.ofString "__next__") hit.typeIs F.slot_tuple_iterator_next (wpAny_call_entry F.slot_tuple_iterator_next hit.typeIs F.entry_tuple_iterator_next ?_ (F.args_tuple_iterator_next_1 _)))
  refine wpAny_bind (m := field (.ref it) 0) (wpAny_field o1 o3 (x := .ref t) rfl ?_)
  rw [if_neg (show ¬ ((Value.ref t == Value.none) = true) by intro h; cases h)]
  refine wpAny_bind (m := field (.ref it) 1) (wpAny_field o1 o3 (x := .int i 0) rfl ?_)
  refine wpAny_bind (m := seqItems? (.ref t)) (wpAny_seqItems u1 u2 ?_)
  simp only [Int.toNat_natCast, hx]
  refine wpAny_bind (wpAny_rule (wpAny_bind (wpAny_setField o1 o3 (by simp) ?_)))
  refine wpAny_bind (m := newExc (.type "StopIteration") []) ?_
  simp only [newExc, newTuple]
  refine wpAny_bind (wpAny_newObj_type ?_ (by size_fits))
  refine wpAny_bind (m := firstArgMember _ _) (wpAny_of_eq (a := Value.none) (by first | rfl | (simp only [firstArgMember]; rfl)) (wpAny_newObj_type ?_ (by size_fits)))
  simp only [raiseNew]
  refine wpAny_bind (wpAny_handled ?_)
  first | rw [show A.in1.handled = none from hh] | rw [hh]
  refine wpAny_bind (wpAny_pure (wpAny_throw (hE _ _ (((Heap.SameBut.update ..).extBut.push _).push _) ⟨_, Heap.get?_push_size _ rfl, rfl⟩)))
theorem drawsT (hh : A.handled = none) (it t : Addr) (hne : t ≠ it) (items : Array Value) : Draws prog w A it [it, t] items.size (fun i v => items[i]? = some v) (fun i h => h.IsTupleIter it t i ∧ h.IsTuple t items) where
  live := fun _ _ q => let ⟨o, ho, _⟩ := q.1; ⟨o, ho⟩
  frame := fun _ _ _ q hk => ⟨q.1.at fun o e => hk it (by simp) o e, let ⟨o, ho, r⟩ := q.2; ⟨o, hk t (by simp) o ho, r⟩⟩
  item := fun i s Q E hi q hQ => nx_item q.1 q.2 (x := items[i]) (by simp [hi]) fun h' a b => hQ _ h' s.toks (by simp [hi]) ⟨a, q.2.extBut b.extBut hne⟩ b
  done := fun s Q E q hE => nx_end hh q.1 q.2 (by simp) hE
theorem meets_enumT (l : Addr) (items : Array Value) (n : Nat) (dct : Option Addr) (sl : Array (Option Value)) :
    Meets (Builtin.«enumerate.__new__» ⟨[.type "enumerate", .ref l], []⟩) (fun _ R s => s.heap.get? l = some { cls := .type "tuple", dict := dct, data := .seq items n, slots := sl } ∧
      R (.ok (.ret (.ref (s.heap.push { cls := .type "tuple_iterator", data := .fields #[.ref l, .int 0 0] }).objs.size)))
        { s with heap := (s.heap.push { cls := .type "tuple_iterator", data := .fields #[.ref l, .int 0 0] }).push { cls := .type "enumerate", data := .fields #[.none, .bool false, .ref s.heap.objs.size, rawInt 0, .none, .none] } }) :=
  .of_wp fun prog w A R s h => by
    obtain ⟨hp, g, d, tk, os⟩ := s
    obtain ⟨hl, h⟩ := h
    have hsub := sub_enumerate
    have hT : Heap.IsTuple (Shared.heap ⟨hp, g, d, tk, os⟩) l items := ⟨_, hl, rfl, n, rfl⟩
    wp_walk using wpAny_loadPart' hl
    refine wpAny_stack_any fun st => wpAny_pure ?_
    split
    · rename_i c _ _ _ _ _
      cases (c == Value.type "enumerate") <;> (wp_walk using wpAny_loadPart' hl, wpAny_pyIter_tuple hT; exact ⟨_, rfl, h⟩)
    · wp_walk using wpAny_loadPart' hl, wpAny_pyIter_tuple hT
      exact ⟨_, rfl, h⟩
theorem call_enumT {l : Addr} {items : Array Value} {Q : Value → Shared → Prop} (hL : s.heap.IsTuple l items)
    (h : ∀ h', IsEnum h' (s.heap.objs.size + 1) s.heap.objs.size 0 .none → h'.IsTupleIter s.heap.objs.size l 0 → (∀ b o, s.heap.get? b = some o → h'.get? b = some o) → Q (.ref (s.heap.objs.size + 1)) { s with heap := h' }) :
    wpAny (model prog w) A (call (.type "enumerate") [.ref l]) Q E s := by
  obtain ⟨⟨c, dct, dt, sl⟩, hl, hc, n, hd⟩ := hL
  replace hc : c = .type "tuple" := hc
  replace hd : dt = .seq items n := hd
  subst hc hd
  refine callType_new F.called_enumerate (by decide) (F.typeCall_enumerate_1 _) (F.newCall_enumerate_1 _) (fun obj => F.args_object_init_2 obj _) F.entry_enumerate_new (meets_enumT l items n dct sl) ⟨hl, ?_⟩
  have hz : (s.heap.push { cls := .type "tuple_iterator", data := .fields #[.ref l, .int 0 0] }).objs.size = s.heap.objs.size + 1 := Heap.size_push ..
  show _ ∧ _
  have he := Heap.get?_push_size (s.heap.push { cls := .type "tuple_iterator", data := .fields #[.ref l, .int 0 0] }) (o := { cls := .type "enumerate", data := .fields #[.none, .bool false, .ref s.heap.objs.size, rawInt 0, .none, .none] }) rfl
  rw [hz] at he ⊢
  exact ⟨⟨_, he, rfl⟩, h _ he ⟨_, Heap.get?_push_of_some _ (Heap.get?_push_size _ rfl), rfl, rfl⟩ fun b o x => Heap.get?_push_of_some _ (Heap.get?_push_of_some _ x)⟩
end
theorem Inv.turnedL {X : Cx} {pins : List (Addr × Obj)} {σ : St} {H : Hp} {s : Shared} {h' : Heap} {t' : Nat} {ch : List Addr} (I : Inv X pins σ H s) (k : ∀ b o, b ∉ ch → s.heap.get? b = some o → h'.get? b = some o) (hf : ∀ b ∈ ch, FpOk X pins H b) : Inv X pins σ H { s with heap := h', toks := t' } := by
  have nit : ∀ b u, H b = some u → b ∉ ch := fun b u e z => by rw [(hf b z).1] at e; cases e
  refine I.step (g' := s.gens) (d' := s.drawn) (ch := ch) (fun b hb => ?_) (fun b o _ _ hc e _ => k b o hc e) (fun b o _ _ hc e _ => ⟨o.slots, k b o hc e⟩) (fun _ _ _ _ n => n)
    (fun b o hc e => ⟨o, k b o hc e⟩) (fun _ _ e => e) (fun _ _ _ e => e) (fun b ps e => ⟨#[], by rw [e]; simp⟩) (fun m hm => ?_) (fun b u e => ?_) I.bare
  · obtain ⟨_, h2, _, h4, h5, h6⟩ := hf b hb
    exact ⟨h4, h2, h5, h6⟩
  · obtain ⟨o, es, ep, ho, r⟩ := hm
    exact ⟨o, es, ep, k _ o (fun z => (hf _ z).2.1 rfl) ho, r⟩
  · refine (I.hok b u e).stay (fun c v hc q => k c v ?_ q) (fun _ q => q) fun _ _ q => q
    rcases hc with z | z
    · rw [z]; exact nit b u e
    · exact nit c _ z
noncomputable def Ite (K : PySem.W.Frag) (a : Addr) : It :=
  ⟨fun i H => ∃ xs x, SqT K H a xs ∧ xs[i]? = some x, fun i H v H' => ∃ t x, H t = none ∧ H' = upd H t (.tup [.int i, x]) ∧ v = .ref t ∧ ∀ xs, SqT K H a xs → xs[i]? = some x, fun i H => ∃ xs, SqT K H a xs ∧ xs.length = i⟩
theorem turn_enum {P : Program} {w : World} {K : PySem.W.Frag} {elts : List Expr} {ek : Nat} {epos : Pos} (a it e : Addr) (hei : e ≠ it) (hai : a ≠ it) (hae : a ≠ e) : Turn P w K (.Tuple elts ek epos) (Ite K a) [e, it] e (fun i h => (∃ old, IsEnum h e it i old) ∧ h.IsTupleIter it a i) where
  mem := by simp
  obj := fun i h st b hb => by
    obtain ⟨⟨old, h1⟩, o, h2, h3, h4⟩ := st
    rcases List.mem_cons.mp hb with rfl | hb
    · exact ⟨_, h1, fun v z => by cases z⟩
    · have q : b = it := by simpa using hb
      subst q
      exact ⟨o, h2, fun v z => by rw [h4] at z; cases z⟩
  keep := fun i h h' st k => by
    obtain ⟨⟨old, h1⟩, h2⟩ := st
    exact ⟨⟨old, k e (by simp) _ h1⟩, h2.at fun o q => k it (by simp) o q⟩
  item := by
    intro X hP hw hK hc i pins s σ H E I hf st hg
    subst hP hw hK
    obtain ⟨xs, x, hq, hx⟩ := hg
    obtain ⟨its, rv, p, hz⟩ := I.tuple hq
    have hil : i < its.length := by
      have := (List.getElem?_eq_some_iff.mp hx).1
      rw [← rv.length]
      exact this
    have D := drawsT (prog := X.prog) (w := X.w) (A := X.A.in1) (by simpa using I.ok.hd hc) it a hai its.toArray
    obtain ⟨⟨old, he⟩, hit⟩ := st
    have hel : e < s.heap.objs.size := Heap.lt_size he
    have hil' : it < s.heap.objs.size := let ⟨_, q, _⟩ := hit; Heap.lt_size q
    refine wpAny_pyNext_enum_itemD D he ⟨hit, p⟩ (by simpa using hil) hei (by simp [hei, Ne.symm hae]) fun v h1 tk hv ho hst hT hsz hk => ?_
    obtain ⟨u, hu, ru⟩ := rv.get hx
    have hvu : v = u := by
      have hv' : its.toArray[i]? = some v := hv
      rw [List.getElem?_toArray, hu] at hv'
      exact (Option.some.inj hv').symm
    subst hvu
    refine ⟨_, rfl, wpAny_letOwnedTupleGo_enum ho fun h2 he2 hs2 => ?_⟩
    have hTn : H s.heap.objs.size = none := I.hok.fresh (Nat.le_refl _)
    have hT2 : h2.get? s.heap.objs.size = some { cls := .type "tuple", data := .seq #[.int i tk, v] } := (hs2.2 _ (Nat.ne_of_gt hel)).trans hT
    have I1 : Inv X pins σ (upd H s.heap.objs.size (.tup [.int i, x])) { s with heap := s.heap.push { cls := .type "tuple", data := .seq #[.int i tk, v] } } :=
      I.laid (t' := s.toks) (fun b ob q => Heap.get?_push_of_some _ q) (Nat.le_refl _) ⟨by simp [sizeLine_eq], [.int i tk, v], .cons ⟨tk, rfl⟩ (.cons ru .nil), _, Heap.get?_push_size _ rfl, rfl, ⟨_, rfl⟩, rfl⟩
    have nT : ∀ b ∈ [e, it], b ≠ s.heap.objs.size := fun b hb => by
      rcases List.mem_cons.mp hb with rfl | hb
      · exact Nat.ne_of_lt hel
      · have q : b = it := by simpa using hb
        subst q
        exact Nat.ne_of_lt hil'
    have I2 : Inv X pins σ (upd H s.heap.objs.size (.tup [.int i, x])) { s with heap := h2, toks := tk + 1 } := Inv.turnedL (s := { s with heap := s.heap.push { cls := .type "tuple", data := .seq #[.int i tk, v] } }) (ch := [e, it]) I1 (fun b ob hb q => ?_) (fun b hb => ?_)
    · refine ⟨.ref s.heap.objs.size, _, I2, rfl, ⟨_, x, hTn, rfl, rfl, fun ys hy => by rw [I.tuple_inj hy hq]; exact hx⟩, ⟨⟨_, by simpa using he2⟩, hst.1.at fun o q => (hs2.2 it (Ne.symm hei)).trans q⟩, fun b hb => ?_⟩
      rw [upd_ne (nT b hb)]
      exact (hf b hb).1
    · have hbe : b ≠ e := fun z => hb (by simp [z])
      have hbi : b ≠ it := fun z => hb (by simp [z])
      rcases Heap.get?_push_cases q with ⟨rfl, rfl⟩ | q
      · exact hT2
      · exact (hs2.2 b hbe).trans (hk b ob hbe hbi q)
    · obtain ⟨f0, f1, f2, f3, f4, f5⟩ := hf b hb
      exact ⟨by rw [upd_ne (nT b hb)]; exact f0, f1, f2, f3, f4, f5⟩
  done := by
    intro X hP hw hK hc i pins s σ H E I hf st hg
    subst hP hw hK
    obtain ⟨xs, hq, hx⟩ := hg
    obtain ⟨its, rv, p, hz⟩ := I.tuple hq
    obtain ⟨⟨old, he⟩, hit⟩ := st
    have hlen : its.toArray.size = i := by rw [List.size_toArray, ← rv.length]; exact hx
    have D := drawsT (prog := X.prog) (w := X.w) (A := X.A.in1) (by simpa using I.ok.hd hc) it a hai its.toArray
    rw [hlen] at D
    refine wpAny_pyNext_enum_endD D he ⟨hit, p⟩ fun h' hk => ⟨rfl, I.turnedL (t' := s.toks) (ch := [e, it]) (fun b o hb q => hk b o (fun z => hb (by simp [z])) q) hf⟩
  self := by
    intro A i s Q E st hQ
    obtain ⟨⟨old, he⟩, _⟩ := st
    exact wpAny_pyIter_enum he hQ
section
variable {X : Cx} {K : PySem.W.Frag}
noncomputable def rEnum (K : PySem.W.Frag) (vs : List V) (H : Hp) (R : It → Hp → Prop) : Prop := ∃ a xs, vs = [.ref a] ∧ SqT K H a xs ∧ R (Ite K a) H
noncomputable def iEnum (K : PySem.W.Frag) (ta : TA) : TI := fun σ H R => ta σ H fun vs H1 => rEnum K vs H1 R
theorem boot_enumerate : bootBuiltins "enumerate" = some (.type "enumerate") := PyProof.Rows.Boot.«enumerate»
theorem pi_enum {e : Expr} {ta : TA} {p pos : Pos} {elts : List Expr} {ek : Nat} {epos : Pos} (hg : Gl X "enumerate") (hm : X.mg "enumerate" = none) (ha : PA X [e] ta) (hK : X.K = K := by with_unfolding_all rfl) (hs : starEach [e] X.env = [(false, eval e X.env)] := by with_unfolding_all rfl) :
    PI X (.Tuple elts ek epos) (.Call (.Name "enumerate" p) [e] [] pos) (iEnum K ta) := by
  subst hK
  intro pins s σ H R I h
  refine Call_ (ld_blt I hg hm boot_enumerate (PyProof.Rows.callWith_type1 (thn (ha pos pins s σ H _ I h) fun us s1 ⟨vs, H1, I1, r1, q1⟩ => ?_) hs rfl))
  obtain ⟨a, xs, rfl, hq, q⟩ := q1
  obtain ⟨u, rfl, ru⟩ := Vals.one r1
  cases ru
  obtain ⟨its, rv, ht, hz⟩ := I1.tuple hq
  have hal : a < s1.heap.objs.size := let ⟨_, q, _⟩ := ht; Heap.lt_size q
  refine call_enumT ht fun h' he hit hk => ?_
  refine wpAny_pyIter_enum he ?_
  refine ⟨s1.heap.objs.size + 1, [s1.heap.objs.size + 1, s1.heap.objs.size], _, _, H1, rfl, I1.kept (t' := s1.toks) hk, turn_enum a s1.heap.objs.size (s1.heap.objs.size + 1) (Nat.succ_ne_self _) (Nat.ne_of_lt hal) (Nat.ne_of_lt (Nat.lt_succ_of_lt hal)), ⟨⟨_, he⟩, hit⟩, fun b hb => ?_, q⟩
  rcases List.mem_cons.mp hb with rfl | hb
  · exact I1.fpOk (Nat.le_succ _) (I1.hok.fresh (Nat.le_succ _))
  · have e : b = s1.heap.objs.size := by simpa using hb
    subst e
    exact I1.fpOk (Nat.le_refl _) (I1.hok.fresh (Nat.le_refl _))
end
section
variable {K : PySem.W.Frag} {σ : St} {H : Hp}
theorem i_ienum {ts : TA} {R : It → Hp → Prop} (k : ts σ H fun vs H1 => rEnum K vs H1 R) : iEnum K ts σ H R := k
theorem for_enum {xs : List V} {a : Addr} {n m : Nat} {tb : TS} {D : Ends} (h : SqT K H a xs) (Pv : Nat → St → Hp → Prop) (h0 : Pv 0 σ H) (hG : ∀ i σ' H', Pv i σ' H' → SqT K H' a xs)
    (hs : ∀ i x σ' H' H2, xs[i]? = some x → Pv i σ' H' → Same H' H2 → tb { D with nx := Pv (i + 1), ct := Pv (i + 1), bk := D.nx } ((σ'.set n (some (.int i))).set m (some x)) H2) (hd : ∀ σ' H', Pv xs.length σ' H' → D.nx σ' H') :
    rEnum K [.ref a] H fun J H1 => rFor (gTup K 2 (gCons (gName n) (gCons (gName m) gNil))) tb D σ J H1 := by
  refine ⟨a, xs, rfl, h, fun i k σ' H' => k = xs.length - i ∧ i ≤ xs.length ∧ Pv i σ' H', ⟨xs.length, by simp, Nat.zero_le _, h0⟩, ?_⟩
  rintro i k σ' H' ⟨rfl, hi, p⟩
  have g := hG i σ' H' p
  by_cases hlt : i < xs.length
  · refine .inr ⟨⟨xs, xs[i], g, List.getElem?_eq_getElem hlt⟩, Pv (i + 1), fun σ2 H2 p2 => ⟨xs.length - (i + 1), by omega, rfl, hlt, p2⟩, fun v H2 y => ?_⟩
    obtain ⟨t, x, ht, rfl, rfl, hx⟩ := y
    exact ⟨t, _, rfl, SqT.of upd_same, rfl, .int i, [x], rfl, x, [], rfl, rfl, hs i x σ' H' _ (hx xs g) p (Same.upd ht)⟩
  · have e : i = xs.length := by omega
    subst e
    exact .inl ⟨⟨xs, g, rfl⟩, hd σ' H' p⟩
theorem enum_nm {ns : List Str} {x : V} {n m : Nat} {tb : TS} {D : Ends} (h : Is K H (nmD ns) x) (Pv : Nat → St → Hp → Prop) (h0 : Pv 0 σ H) (hG : ∀ i σ' H', Pv i σ' H' → Fz H H')
    (hs : ∀ i z σ' H' H2, ns[i]? = some z → Pv i σ' H' → Same H' H2 → tb { D with nx := Pv (i + 1), ct := Pv (i + 1), bk := D.nx } ((σ'.set n (some (.int i))).set m (some (.str z))) H2) (hd : ∀ σ' H', Pv ns.length σ' H' → D.nx σ' H') :
    rEnum K [x] H fun J H1 => rFor (gTup K 2 (gCons (gName n) (gCons (gName m) gNil))) tb D σ J H1 := by
  obtain ⟨a, rfl, hS⟩ := h.nm
  refine for_enum hS Pv h0 (fun i σ' H' p => (hG i σ' H' p).seq hS) (fun i v σ' H' H2 hv p e => ?_) fun σ' H' p => hd σ' H' (by rw [List.length_map] at p; exact p)
  rw [List.getElem?_map] at hv
  cases hn : ns[i]? with
  | none => rw [hn] at hv; cases hv
  | some z =>
    rw [hn] at hv
    cases hv
    exact hs i z σ' H' H2 hn p e
end
end L2
set_option Elab.async false
set_option linter.all false
set_option maxRecDepth 100000
set_option maxHeartbeats 4000000
namespace L2
open PySem PySem.Spec PyProof.Rows
section
variable {X : Cx} {K : PySem.W.Frag}
section
variable {H : Hp} {Q : VK} {lo hi : Option Int}
theorem i_addT {a b : Addr} {xs ys : List V} (h1 : SqT K H a xs) (h2 : SqT K H b ys) (h : xs.length + ys.length ≤ sizeLine) (k : ∀ p H', Same H H' → SqT K H' p (xs ++ ys) → Q (.ref p) H') : rAddA K (.ref a) (.ref b) H Q := by
  by_cases hx : xs = []
  · subst hx
    exact .inr (.inr (.inr (.inr ⟨a, b, ys, rfl, rfl, h1, h2, k b H (Same.refl _) h2⟩)))
  · refine .inr (.inr (.inr (.inl ⟨a, b, xs, ys, rfl, rfl, h1, h2, hx, h, fun e => ?_, fun _ p hp => k p _ (Same.upd hp) (SqT.of upd_same)⟩)))
    subst e
    exact k a H (Same.refl _) (by rw [List.append_nil]; exact h1)
theorem i_slT {a : Addr} {xs : List V} (h : SqT K H a xs) (k : ∀ p H', Same H H' → SqT K H' p (cutV xs lo hi) → Q (.ref p) H') : rSlA K (.ref a) lo hi H Q := by
  by_cases hw : HT.sIx xs.length 0 lo = 0 ∧ HT.sIx xs.length xs.length hi = xs.length
  · refine .inr (.inr (.inr ⟨a, xs, rfl, h, hw, k a H (Same.refl _) ?_⟩))
    have e : cutV xs lo hi = xs := by
      unfold cutV
      rw [hw.1, hw.2, List.drop_zero, Nat.sub_zero, List.take_length]
    rw [e]
    exact h
  · exact .inr (.inl ⟨a, xs, rfl, h, hw, fun p hp => k p _ (Same.upd hp) (SqT.of upd_same)⟩)
theorem i_inX {x y : V} {d : PyData} {ds : List PyData} (hx : Is K H d x) (hy : Is K H (.list ds) y ∨ Is K H (.tuple ds) y) (h1 : PyData.canLayAll0 ds = true) (h2 : d.canLay0 = true) (h3 : d.depth ≤ 100) (k : Q (.bl (ds.any fun e => PyData.eqv e d)) H) : rInA K false x y H Q := .inr (.inr (.inr ⟨d, ds, hx, hy, h1, h2, h3, k⟩))
end
theorem isL_cut {H : Hp} {ds : List PyData} {xs : List V} (h : IsL K H ds xs) (lo hi : Option Int) : IsL K H ((ds.drop (HT.sIx ds.length 0 lo)).take (HT.sIx ds.length ds.length hi - HT.sIx ds.length 0 lo)) (cutV xs lo hi) := by
  unfold cutV
  rw [IsL.length h]
  exact IsL.take _ (IsL.drop _ h)
end
end L2
set_option Elab.async false
set_option linter.all false
set_option maxRecDepth 100000
set_option maxHeartbeats 4000000
namespace L2
open PySem PySem.Spec PyProof.Rows
section
variable {K : PySem.W.Frag} {σ : St} {H : Hp} {Q : VK} {td ty : TE}
theorem i_andV {ta tb : TE} (k : ta σ H fun x H1 => ∃ c, x = .bl c ∧ if c = true then tb σ H1 Q else Q (.bl false) H1) : tAndV ta tb σ H Q := k
theorem i_ninBF {a : Addr} {bs : List Bool} (h : SqL K H a (bs.map V.bl)) (k : Q (.bl (bs.all id)) H) : rInA K true (.bl false) (.ref a) H Q := .inl ⟨a, _, rfl, .inl h, rfl, by
    rw [List.all_eq_true]
    intro v h
    obtain ⟨n, _, rfl⟩ := List.mem_map.mp h
    rfl, by
    have e : (!inV (.bl false) (bs.map V.bl)) = bs.all id := by
      clear h k
      unfold inV
      induction bs with
      | nil => rfl
      | cons b bs ih =>
        rw [List.map_cons, List.any_cons, List.all_cons, Bool.not_or, ih]
        cases b <;> rfl
    show Q (.bl (!inV (.bl false) (bs.map V.bl))) H
    rw [e]
    exact k⟩
theorem i_inBF {a : Addr} {bs : List Bool} (h : SqL K H a (bs.map V.bl)) (k : Q (.bl (!bs.all id)) H) : rInA K false (.bl false) (.ref a) H Q := .inl ⟨a, _, rfl, .inl h, rfl, by
    rw [List.all_eq_true]
    intro v h
    obtain ⟨n, _, rfl⟩ := List.mem_map.mp h
    rfl, by
    have e : inV (.bl false) (bs.map V.bl) = !bs.all id := by
      clear h k
      unfold inV
      induction bs with
      | nil => rfl
      | cons b bs ih =>
        rw [List.map_cons, List.any_cons, List.all_cons, ih]
        cases b <;> simp [eqV]
    show Q (.bl (inV (.bl false) (bs.map V.bl))) H
    rw [e]
    exact k⟩
end
end L2
set_option Elab.async false
set_option linter.all false
set_option maxRecDepth 100000
set_option maxHeartbeats 4000000
namespace L2
open PySem PySem.Spec PyProof.Rows
theorem Same.rd {H H' : Hp} (e : Same H H') {a : Addr} {u : HO} (h : Rd H a u) : Rd H' a u := by
  rcases h with h | ⟨o, h⟩
  · exact .inl (e _ _ h)
  · exact .inr ⟨o, e _ _ h⟩
noncomputable def Keep (as : List Addr) (H H' : Hp) : Prop := (∀ b o, b ∉ as → H b = some o → H' b = some o) ∧ ∀ a ∈ as, ∀ u, Rd H a u → Rd H' a u
theorem Same.keep {H H' : Hp} (e : Same H H') (as : List Addr) : Keep as H H' := ⟨fun b o _ h => e b o h, fun a _ u h => e.rd h⟩
theorem Keep.rd {as : List Addr} {H H' : Hp} (k : Keep as H H') {a : Addr} {u : HO} (h : Rd H a u) : Rd H' a u := by
  by_cases ha : a ∈ as
  · exact k.2 a ha u h
  · rcases h with h | ⟨o, h⟩
    · exact .inl (k.1 _ _ ha h)
    · exact .inr ⟨o, k.1 _ _ ha h⟩
structure TabR (H : Hp) (r : Addr) (ns : List Str) (as : List Addr) (R : Str → Str → Prop) : Prop where
  len : as.length = ns.length
  top : Rd H r (.dK (tabK ns as))
  row : ∀ (i : Nat) (z : Str) (a : Addr), ns[i]? = some z → as[i]? = some a → ∃ ks : List Str, Rd H a (.dK (rowK ks)) ∧ ks.Nodup ∧ (∀ y ∈ ks, y ∈ ns) ∧ ∀ y, y ∈ ks ↔ R z y
theorem Tab.toR {H : Hp} {r : Addr} {ns : List Str} {as : List Addr} {R : Str → Str → Prop} (h : Tab H r ns as R) : TabR H r ns as R :=
  ⟨h.len, .inl h.top, fun i z a hz ha => let ⟨ks, h1, h2⟩ := h.row i z a hz ha; ⟨ks, .inl h1, h2⟩⟩
theorem TabR.keep {bs : List Addr} {H H' : Hp} {r : Addr} {ns : List Str} {as : List Addr} {R : Str → Str → Prop} (h : TabR H r ns as R) (k : Keep bs H H') : TabR H' r ns as R :=
  ⟨h.len, k.rd h.top, fun i z a hz ha => let ⟨ks, h1, h2⟩ := h.row i z a hz ha; ⟨ks, k.rd h1, h2⟩⟩
theorem TabR.same {H H' : Hp} {r : Addr} {ns : List Str} {as : List Addr} {R : Str → Str → Prop} (h : TabR H r ns as R) (e : Same H H') : TabR H' r ns as R := h.keep (e.keep [])
theorem TabR.at {H : Hp} {r : Addr} {ns : List Str} {as : List Addr} {R : Str → Str → Prop} (h : TabR H r ns as R) {x : Str} (hx : x ∈ ns) : ∃ (i : Nat) (a : Addr), ns[i]? = some x ∧ as[i]? = some a := by
  obtain ⟨i, hi, e⟩ := List.getElem_of_mem hx
  have hi' : i < as.length := by rw [h.len]; exact hi
  exact ⟨i, as[i], by rw [List.getElem?_eq_getElem hi, e], List.getElem?_eq_getElem hi'⟩
structure TabL (K : PySem.W.Frag) (H : Hp) (r : Addr) (ns : List Str) (as : List Addr) (R : Str → Str → Prop) : Prop where
  len : as.length = ns.length
  top : H r = some (.dK (tabK ns as))
  row : ∀ (i : Nat) (z : Str) (a : Addr), ns[i]? = some z → as[i]? = some a → ∃ ks : List Str, H a = some (.lst (ks.map V.str)) ∧ ks.Nodup ∧ ∀ y, y ∈ ks ↔ R z y
theorem TabL.same {K : PySem.W.Frag} {H H' : Hp} {r : Addr} {ns : List Str} {as : List Addr} {R : Str → Str → Prop} (h : TabL K H r ns as R) (e : Same H H') : TabL K H' r ns as R :=
  ⟨h.len, e _ _ h.top, fun i z a hz ha => let ⟨ks, h1, h2⟩ := h.row i z a hz ha; ⟨ks, e _ _ h1, h2⟩⟩
theorem TabL.at {K : PySem.W.Frag} {H : Hp} {r : Addr} {ns : List Str} {as : List Addr} {R : Str → Str → Prop} (h : TabL K H r ns as R) {x : Str} (hx : x ∈ ns) : ∃ (i : Nat) (a : Addr), ns[i]? = some x ∧ as[i]? = some a := by
  obtain ⟨i, hi, e⟩ := List.getElem_of_mem hx
  have hi' : i < as.length := by rw [h.len]; exact hi
  exact ⟨i, as[i], by rw [List.getElem?_eq_getElem hi, e], List.getElem?_eq_getElem hi'⟩
section
variable {K : PySem.W.Frag} {σ : St} {H : Hp} {Q : VK} {r : Addr} {ns : List Str} {as : List Addr} {R : Str → Str → Prop}
theorem i_ixDR {a : Addr} {kvs : List (Key × V)} {z : Str} {v : V} (h : Rd H a (.dK kvs)) (e : valV kvs (Sum.inr z : Key) = some v) (k : Q v H) : rIxA K (.ref a) (.str z) H Q := .inr ⟨a, v, rfl, .inl ⟨kvs, Sum.inr z, h, rfl, e.symm⟩, k⟩
theorem i_tabR {x : Str} {i : Nat} {a : Addr} (h : TabR H r ns as R) (hn : ns.Nodup) (hx : ns[i]? = some x) (ha : as[i]? = some a) (k : Q (.ref a) H) : rIxA K (.ref r) (.str x) H Q := i_ixDR h.top (valV_tab hn hx ha) k
theorem i_tabL {x : Str} {i : Nat} {a : Addr} (h : TabL K H r ns as R) (hn : ns.Nodup) (hx : ns[i]? = some x) (ha : as[i]? = some a) (k : Q (.ref a) H) : rIxA K (.ref r) (.str x) H Q := i_ixD h.top (valV_tab hn hx ha) k
theorem i_inRowR {a : Addr} {ks : List Str} {y : Str} (h : Rd H a (.dK (rowK ks))) (k : Q (.bl (decide (y ∈ ks))) H) : rInA K false (.str y) (.ref a) H Q := by
  refine .inr (.inr (.inl ⟨a, valV (rowK ks) (Sum.inr y : Key), rfl, .inl ⟨_, Sum.inr y, h, rfl, rfl⟩, ?_⟩))
  rw [valV_row]
  by_cases e : y ∈ ks
  · simpa [e] using k
  · simpa [e] using k
theorem i_ninRowR {a : Addr} {ks : List Str} {y : Str} (h : Rd H a (.dK (rowK ks))) (k : Q (.bl (!decide (y ∈ ks))) H) : rInA K true (.str y) (.ref a) H Q := by
  refine .inr (.inr (.inl ⟨a, valV (rowK ks) (Sum.inr y : Key), rfl, .inl ⟨_, Sum.inr y, h, rfl, rfl⟩, ?_⟩))
  rw [valV_row]
  by_cases e : y ∈ ks
  · simpa [e] using k
  · simpa [e] using k
end
noncomputable def clR (ns : List Str) (ps : List (Str × Str)) (x : Str) : List (Str × Str) := (ns.filter fun y => wayB ps x y).map fun y => (x, y)
noncomputable def clP (ns : List Str) (ps : List (Str × Str)) : List (Str × Str) := ns.flatMap (clR ns ps)
noncomputable def unB (ps : List (Str × Str)) (x y : Str) : Bool := !wayB ps x y && !wayB ps y x
theorem mem_clR {ns : List Str} {ps : List (Str × Str)} {x : Str} {p : Str × Str} : p ∈ clR ns ps x ↔ p.1 = x ∧ p.2 ∈ ns ∧ Way ps x p.2 := by
  unfold clR
  rw [List.mem_map]
  constructor
  · rintro ⟨y, hy, rfl⟩
    rw [List.mem_filter, wayB_iff] at hy
    exact ⟨rfl, hy⟩
  · rintro ⟨h1, h2⟩
    refine ⟨p.2, ?_, by rw [← h1]⟩
    rw [List.mem_filter, wayB_iff]
    exact h2
theorem mem_clP {ns : List Str} {ps : List (Str × Str)} {p : Str × Str} : p ∈ clP ns ps ↔ p.1 ∈ ns ∧ p.2 ∈ ns ∧ Way ps p.1 p.2 := by
  unfold clP
  rw [List.mem_flatMap]
  constructor
  · rintro ⟨x, hx, hp⟩
    obtain ⟨rfl, h⟩ := mem_clR.mp hp
    exact ⟨hx, h⟩
  · rintro ⟨h1, h⟩
    exact ⟨p.1, h1, mem_clR.mpr ⟨rfl, h⟩⟩
theorem eqv_pr (p q : Str × Str) : PyData.eqv (prD p) (prD q) = decide (p = q) := by
  obtain ⟨a, b⟩ := p
  obtain ⟨c, d⟩ := q
  simp only [prD, PyData.eqv, PyData.eqvAll, Prod.mk.injEq, Bool.and_true]
  rw [Bool.eq_iff_iff]
  simp
theorem any_pr (ps : List (Str × Str)) (p : Str × Str) : ((ps.map prD).any fun e => PyData.eqv e (prD p)) = decide (p ∈ ps) := by
  induction ps with
  | nil => simp
  | cons q ps ih =>
    rw [List.map_cons, List.any_cons, ih, eqv_pr]
    by_cases h : q = p
    · subst h
      simp
    · simp [h, Ne.symm h]
theorem lay_prs {ps : List (Str × Str)} (h : NmP ps) : PyData.canLayAll0 (ps.map prD) = true := plain_layL _ (plainL_map _ _ fun p hp => (pr_facts (h p hp).1 (h p hp).2).1)
theorem nmP_clP {ns : List Str} {ps : List (Str × Str)} (h : Names ns) : NmP (clP ns ps) := fun p hp => let ⟨a, b, _⟩ := mem_clP.mp hp; ⟨h.2 _ a, h.2 _ b⟩
section
variable {K : PySem.W.Frag} {H : Hp} {σ : St}
end
end L2
set_option Elab.async false
set_option linter.all false
set_option maxRecDepth 100000
set_option maxHeartbeats 4000000
namespace L2
open PySem PySem.Spec PyProof.Rows
end L2
set_option Elab.async false
set_option linter.all false
set_option maxRecDepth 100000
set_option maxHeartbeats 4000000
namespace L2
open PySem PySem.Spec PyProof.Rows
section
variable {prog : Program} {w : World} {A : Around} {E : Value → Shared → Prop} {s : Shared}
end
section
variable {X : Cx} {K : PySem.W.Frag}
end
section
variable {K : PySem.W.Frag} {σ : St} {H : Hp}
end
end L2
set_option Elab.async false
set_option linter.all false
set_option maxRecDepth 100000
set_option maxHeartbeats 4000000
namespace L2
open PySem PySem.Spec PyProof.Rows
noncomputable def layF (ps : List (Str × Str)) (l : List Str) : List Str := l.filter fun x => !l.any fun y => wayB ps y x
noncomputable def resF (ps : List (Str × Str)) (l : List Str) : List Str := l.filter fun x => l.any fun y => wayB ps y x
inductive Lays (ps : List (Str × Str)) : List Str → List (List Str) → Prop
  | nil : Lays ps [] []
  | cons {l : List Str} {Ls : List (List Str)} : l ≠ [] → Lays ps (resF ps l) Ls → Lays ps l (layF ps l :: Ls)
theorem any_way {ps : List (Str × Str)} {l : List Str} {x : Str} : (l.any fun y => wayB ps y x) = true ↔ ∃ y ∈ l, Way ps y x := by
  rw [List.any_eq_true]
  exact ⟨fun ⟨y, h, e⟩ => ⟨y, h, wayB_iff.mp e⟩, fun ⟨y, h, e⟩ => ⟨y, h, wayB_iff.mpr e⟩⟩
theorem mem_resF {ps : List (Str × Str)} {l : List Str} {x : Str} : x ∈ resF ps l ↔ x ∈ l ∧ ∃ y ∈ l, Way ps y x := by
  unfold resF
  rw [List.mem_filter, any_way]
theorem mem_layF {ps : List (Str × Str)} {l : List Str} {x : Str} : x ∈ layF ps l ↔ x ∈ l ∧ ¬ ∃ y ∈ l, Way ps y x := by
  unfold layF
  rw [List.mem_filter, Bool.not_eq_true', ← Bool.not_eq_true, any_way]
theorem min_way {ps : List (Str × Str)} (irr : ∀ x, ¬ Way ps x x) : ∀ l : List Str, l ≠ [] → ∃ x ∈ l, ∀ y ∈ l, ¬ Way ps y x
  | [], h => absurd rfl h
  | [a], _ => ⟨a, by simp, fun y hy => by
      have : y = a := by simpa using hy
      subst this
      exact irr y⟩
  | a :: b :: t, _ => by
    obtain ⟨x, hx, h⟩ := min_way irr (b :: t) (by simp)
    by_cases e : Way ps a x
    · refine ⟨a, by simp, fun y hy => ?_⟩
      rcases List.mem_cons.mp hy with rfl | hy
      · exact irr y
      · exact fun g => h y hy (g.trans e)
    · refine ⟨x, List.mem_cons_of_mem _ hx, fun y hy => ?_⟩
      rcases List.mem_cons.mp hy with rfl | hy
      · exact e
      · exact h y hy
theorem filter_lt {α : Type} {p : α → Bool} : ∀ {l : List α} {x : α}, x ∈ l → p x = false → (l.filter p).length < l.length
  | a :: l, x, hx, h => by
    rcases List.mem_cons.mp hx with rfl | hx
    · rw [List.filter_cons, h]
      exact Nat.lt_succ_of_le (List.length_filter_le _ _)
    · rw [List.filter_cons]
      have := filter_lt hx h
      split
      · rw [List.length_cons, List.length_cons]; omega
      · rw [List.length_cons]; omega
theorem res_lt {ps : List (Str × Str)} (irr : ∀ x, ¬ Way ps x x) {l : List Str} (h : l ≠ []) : (resF ps l).length < l.length := by
  obtain ⟨x, hx, g⟩ := min_way irr l h
  refine filter_lt hx ?_
  rw [← Bool.not_eq_true, any_way]
  exact fun ⟨y, hy, e⟩ => g y hy e
theorem Lays.len {ps : List (Str × Str)} (irr : ∀ x, ¬ Way ps x x) {l : List Str} {Ls : List (List Str)} (h : Lays ps l Ls) : Ls.length ≤ l.length := by
  induction h with
  | nil => simp
  | cons n _ ih =>
    have := res_lt irr n
    rw [List.length_cons]
    omega
theorem Lays.mem {ps : List (Str × Str)} {l : List Str} {Ls : List (List Str)} (h : Lays ps l Ls) : ∀ L ∈ Ls, L.length ≤ l.length ∧ ∀ x ∈ L, x ∈ l := by
  induction h with
  | nil => exact fun _ h => by cases h
  | @cons l Ls n _ ih =>
    intro L hL
    rcases List.mem_cons.mp hL with rfl | hL
    · exact ⟨List.length_filter_le _ _, fun x hx => (mem_layF.mp hx).1⟩
    · obtain ⟨h1, h2⟩ := ih L hL
      exact ⟨Nat.le_trans h1 (List.length_filter_le _ _), fun x hx => (mem_resF.mp (h2 x hx)).1⟩
theorem lay_ahead {ps : List (Str × Str)} {l ah : List Str} (h : ∀ y, y ∈ ah ↔ ∃ z ∈ l, Way ps z y) : (l.filter fun x => !decide (x ∈ ah)) = layF ps l ∧ (l.filter fun x => decide (x ∈ ah)) = resF ps l := by
  have e : ∀ x, decide (x ∈ ah) = l.any fun y => wayB ps y x := fun x => by rw [Bool.eq_iff_iff, any_way, decide_eq_true_iff, h]
  unfold layF resF
  constructor
  · exact List.filter_congr fun x _ => by rw [e]
  · exact List.filter_congr fun x _ => by rw [e]
noncomputable def lsD (Ls : List (List Str)) : PyData := .tuple (Ls.map nmD)
theorem frzL_nms (Ls : List (List Str)) : frzL (Ls.map nmD) = true := frzL_map _ frz_nm Ls
theorem frz_ls (Ls : List (List Str)) : frz (lsD Ls) = true := by
  unfold lsD
  simp only [frz]
  exact frzL_nms Ls
section
variable {K : PySem.W.Frag} {H : Hp} {Q : VK}
theorem i_tupLs {Ls : List (List Str)} {a : Addr} {ys : List V} (h : H a = some (.lst ys)) (g : IsL K H (Ls.map nmD) ys) (k : ∀ v H', Same H H' → Is K H' (lsD Ls) v → Q v H') : rTupleA K [.ref a] H Q :=
  i_tupleL (SqL.of h) fun p H' hp e h' => k _ H' e (Is.of_tup (SqT.of h') (IsL.mono e _ _ g))
end
theorem IsL.bl_eq {α : Type} {K : PySem.W.Frag} {H : Hp} {f : α → Bool} : ∀ {as : List α} {vs : List V}, IsL K H (as.map fun a => PyData.bool (f a)) vs → vs = (as.map f).map V.bl
  | [], vs, h => by simp only [List.map_nil, IsL] at h; exact h
  | n :: ns, vs, h => by
    simp only [List.map_cons, IsL, Is] at h
    obtain ⟨v, r, rfl, rfl, e3⟩ := h
    rw [IsL.bl_eq e3]
    rfl
theorem comp_bls {α : Type} {K : PySem.W.Frag} {H : Hp} {σ : St} {J : It} {xs : List V} {G : Hp → Prop} {g : TG} {te : TE} {Q : VK} {k : Nat} {js : List Nat} (hw : WalkOf J xs G) (as : List α) (hl : as.length = xs.length) (f : α → Bool) (hz : xs.length ≤ 1000000) (hG : ∀ H', Same H H' → G H')
    (hs : ∀ (i : Nat) a v H1 (R : VK), as[i]? = some a → xs[i]? = some v → Same H H1 → (∀ H2, Same H1 H2 → R (.bl (f a)) H2) → g v (List.replicate k none ++ pick σ js) H1 fun σ2 H2 => te σ2 H2 R)
    (hd : ∀ p H', H p = none → Same H H' → SqL K H' p ((as.map f).map V.bl) → Q (.ref p) H') : rComp k js g tTrue te σ J H Q := by
  refine comp_dat (K := K) hw as hl (fun _ => true) (fun a => PyData.bool (f a)) (fun _ => rfl) hz hG (fun i a v H1 R R' ha hv e hR hR' => ?_) (fun p ys H' hp e h hL => ?_)
  · exact hs i a v H1 R ha hv e fun H2 e2 => hR rfl _ H2 e2 is_bl
  · rw [filter_true] at hL
    have := IsL.bl_eq hL
    subst this
    exact hd p H' hp e (SqL.of h)
end L2
set_option Elab.async false
set_option linter.all false
set_option maxRecDepth 100000
set_option maxHeartbeats 4000000
namespace L2
open PySem PySem.Spec PyProof.Rows
section
variable {P : Program} {w : World} {κ : Type} [DecidableEq κ] {knd : KeyKind P w κ} {A : Around} {E : Value → Shared → Prop} {s : Shared}
end
section
variable {X : Cx} {pins : List (Addr × Obj)} {σ : St} {H : Hp} {s : Shared} {A : Around}
end
end L2
set_option Elab.async false
set_option linter.all false
set_option maxRecDepth 100000
set_option maxHeartbeats 4000000
namespace L2
open PySem PySem.Spec PyProof.Rows
section
variable {prog : Program} {w : World} {A : Around} {E : Value → Shared → Prop} {s : Shared}
theorem pick_back (xs : Array Value) : ((List.range xs.size).filterMap fun (m : Nat) => xs[(((xs.size : Int) - 1) + (m : Int) * (-1)).toNat]?).toArray = xs.toList.reverse.toArray := by
  congr 1
  simp only [← Array.getElem?_toList, ← Array.length_toList]
  generalize xs.toList = l
  have e : ∀ k ≤ l.length, (List.range k).filterMap (fun (m : Nat) => l[(((l.length : Nat) : Int) - 1 + (m : Int) * (-1)).toNat]?) = l.reverse.take k := by
    intro k
    induction k with
    | zero => intro _; rfl
    | succ k ih =>
      intro hk
      rw [List.range_succ, List.filterMap_append, ih (by omega), List.take_add_one]
      congr 1
      have e2 : (((l.length : Nat) : Int) - 1 + (k : Int) * (-1)).toNat = l.length - 1 - k := by omega
      rw [List.filterMap_cons, e2, List.getElem?_reverse (by omega), List.getElem?_eq_getElem (by omega)]
      rfl
  rw [e _ (Nat.le_refl _), List.take_of_length_le (by rw [List.length_reverse]; omega)]
theorem applied_back {sl : Addr} {tk : Tok} {n : Nat} {Q : Int × Int × Nat → Shared → Prop} (hs : s.heap.IsSliceOf sl .none .none (.int (-1) tk)) (h : Q ((n : Int) - 1, -1, n) s) : wpAny (model prog w) A (Builtin.Slice.sliceApplied (.ref sl) (pure (n : Int))) Q E s := by
  obtain ⟨os, g1, _, g3⟩ := id hs
  unfold Builtin.Slice.sliceApplied Builtin.Slice.sliceFields
  refine wpAny_bind (wpAny_bind (wpAny_field g1 g3 (x := .none) rfl ?_))
  refine wpAny_bind (wpAny_field g1 g3 (x := .none) rfl ?_)
  refine wpAny_bind (wpAny_field g1 g3 (x := .int (-1) tk) rfl (wpAny_pure ?_))
  refine wpAny_bind (HT.slicePart_ (.int (-1) tk) ?_)
  show wpAny _ _ (if ((-1 : Int) == 0) = true then _ else _) _ _ s
  rw [if_neg (by decide)]
  refine wpAny_bind (HT.slicePart_ .none ?_)
  refine wpAny_bind (HT.slicePart_ .none ?_)
  refine wpAny_bind (wpAny_pure ?_)
  have e1 : Builtin.Slice.sliceAdjust none none (-1) (n : Int) = ((n : Int) - 1, -1) := by
    unfold Builtin.Slice.sliceAdjust
    simp
  have e2 : Builtin.Slice.slicePlaces ((n : Int) - 1) (-1) (-1) = n := by
    unfold Builtin.Slice.slicePlaces
    simp
    try omega
  show wpAny _ _ (match Builtin.Slice.sliceAdjust none none (-1) (n : Int) with | (lo, hi) => pure (lo, (-1 : Int), Builtin.Slice.slicePlaces lo hi (-1))) _ _ s
  rw [e1]
  show wpAny _ _ (pure ((n : Int) - 1, (-1 : Int), Builtin.Slice.slicePlaces ((n : Int) - 1) (-1) (-1))) _ _ s
  rw [e2]
  exact wpAny_pure h
theorem item_back {t sl : Addr} {items : Array Value} {tk : Tok} {Q : Value → Shared → Prop} (ht : IsTup s.heap t items) (hs : s.heap.IsSliceOf sl .none .none (.int (-1) tk))
    (h : Q (.ref s.heap.objs.size) { s with heap := s.heap.push { cls := .type "tuple", data := .seq items.toList.reverse.toArray } }) (hz : items.size ≤ sizeLine) : wpAny (model prog w) A (getItem (.ref t) (.ref sl)) Q E s := by
  obtain ⟨os, g1, g2, g3⟩ := id hs
  have hTs : s.TypeIs (.ref sl) "slice" := ⟨os, g1, g2⟩
  have hok : sizeOk (.seq items.toList.reverse.toArray) := by
    show items.toList.reverse.toArray.size ≤ sizeLine
    simpa using hz
  unfold getItem
  try with_reducible refine wpAny_holding ?_
  first | refine wpAny_bind (wpAny_pure ?_) | skip
  refine wpAny_bind (wpAny_sequenceKey ht.typeIs (by decide) ?_)
  refine wpAny_bind (wpAny_callSpecial?_slot (name := Str.ofString "__getitem__") ht.typeIs PyProof.Rows.slot_tuple_getitem (wpAny_call_entry PyProof.Rows.slot_tuple_getitem ht.typeIs entry_tuple_getitem ?_ (args_tuple_getitem _ _)))
  show wpAny _ _ (Builtin.Tuple.tupleItemsOf (.ref t) >>= _) _ _ s
  refine wpAny_bind (tupleItemsOf_ ht ?_)
  refine wpAny_bind (wpAny_typeOf hTs ?_)
  rw [if_pos (by decide)]
  refine wpAny_bind (applied_back hs ?_)
  show wpAny _ _ (if ((((items.size : Nat) : Int) - 1) == 0 && (-1 : Int) == 1 && items.size == items.size) = true then _ else _) _ _ s
  rw [if_neg (by simp), pick_back]
  first
    | exact wpAny_bind (m := Builtin.Tuple.tupleExact _) (wpAny_newObj_type (wpAny_pure ⟨_, rfl, wpAny_pure h⟩) hok)
    | exact wpAny_bind (wpAny_bind (m := Builtin.Tuple.tupleExact _) (wpAny_newObj_type (wpAny_pure (wpAny_pure ⟨_, rfl, wpAny_pure h⟩)) hok))
    | exact wpAny_bind (wpAny_bind (m := Builtin.Tuple.tupleExact _) (wpAny_newObj_type (wpAny_pure ⟨_, rfl, wpAny_pure h⟩) hok))
    | exact wpAny_bind (m := Builtin.Tuple.tupleExact _) (wpAny_newObj_type (wpAny_bind (wpAny_pure (wpAny_pure ⟨_, rfl, wpAny_pure h⟩))) hok)
end
section
variable {X : Cx} {K : PySem.W.Frag}
noncomputable def rBackT (K : PySem.W.Frag) : V → V → Hp → VK → Prop := fun x y H Q => ∃ a xs, x = .ref a ∧ y = .int (-1) ∧ SqT K H a xs ∧ ∀ p, H p = none → Q (.ref p) (upd H p (.tup xs.reverse))
theorem pe_backT {e st : Expr} {te ts : TE} {p2 pos : Pos} (he : PE X e te) (hst : PE X st ts) (hK : X.K = K := by with_unfolding_all rfl) : PE X (.Subscript e (.Slice none none (some st) p2) pos) (tOp (rBackT K) te ts) := by
  subst hK
  intro pins s σ H Q I h
  refine Subscript_ (thn (he pins s σ H _ I h) fun v s1 ⟨x, H1, I1, r1, q1⟩ => wpAny_Slice ?_)
  rw [evalPart_none]
  refine wpAny_pure (wpAny_pure ?_)
  rw [evalPart_some]
  refine thn (hst pins s1 σ H1 _ I1 q1) fun u s2 ⟨y, H2, I2, r2, q2⟩ => ?_
  obtain ⟨a, xs, rfl, rfl, hx, q⟩ := q2
  cases r1
  obtain ⟨t, rfl⟩ := r2
  have I4 : Inv X pins σ H2 { s2 with heap := s2.heap.push { cls := .type "slice", data := .fields #[.none, .none, .int (-1) t] } } := I2.kept (t' := s2.toks) fun b ob q => Heap.get?_push_of_some _ q
  obtain ⟨its, r, ht, hz⟩ := I4.tuple hx
  have hlen := r.length
  refine tail_any (ops := [.ref a, .ref s2.heap.objs.size]) ht.typeIs PyProof.Rows.slot_tuple_getitem.lookup ?_ (by with_unfolding_all rfl)
  refine item_back ht (Heap.IsSliceOf.new ..) ?_ (by rw [List.size_toArray]; omega)
  refine ⟨.ref _, _, I4.laid (t' := s2.toks) (o := .tup xs.reverse) (fun b ob q => Heap.get?_push_of_some _ q) (Nat.le_refl _) ?_, rfl, q _ (I4.hok.fresh (Nat.le_refl _))⟩
  exact ⟨by rw [List.length_reverse]; exact hz, _, r.reverse, IsTupN.new _ _⟩
theorem i_backT {a : Addr} {xs : List V} {H : Hp} {Q : VK} (h : SqT K H a xs) (c : ∀ p H', H p = none → Same H H' → H' p = some (.tup xs.reverse) → Q (.ref p) H') : rBackT K (.ref a) (.int (-1)) H Q :=
  ⟨a, xs, rfl, rfl, h, fun p hp => c p _ hp (Same.upd hp) upd_same⟩
end
end L2
set_option Elab.async false
set_option linter.all false
set_option maxRecDepth 100000
set_option maxHeartbeats 4000000
namespace L2
open PySem PySem.Spec PyProof.Rows
end L2
set_option Elab.async false
set_option linter.all false
set_option maxRecDepth 100000
set_option maxHeartbeats 4000000
namespace L2
open PySem PySem.Spec PyProof.Rows
noncomputable def inS (ns : List Str) : Key → Bool
  | .inr z => decide (z ∈ ns)
  | .inl _ => false
section
variable {P : Program} {w : World} {A : Around} {R : Result → Shared → Prop} {it : Addr} {fp wr : List Addr} {G : Array GenState → Array GenState → Prop} {n : Nat} {PV : Nat → Value → Prop} {St : Nat → Shared → Prop}
end
section
variable {prog : Program} {w : World} {A : Around} {E : Value → Shared → Prop} {s : Shared}
set_option maxHeartbeats 3200000 in
end
end L2
set_option Elab.async false
set_option linter.all false
set_option maxRecDepth 100000
set_option maxHeartbeats 4000000
namespace L2
open PySem PySem.Spec PyProof.Rows
section
variable {X : Cx} {K : PySem.W.Frag}
end
end L2
set_option Elab.async false
set_option linter.all false
set_option maxRecDepth 100000
set_option maxHeartbeats 4000000
namespace L2
open PySem PySem.Spec PyProof.Rows
theorem len_app (a b : Str) : (a ++ b).length = a.length + b.length := by
  show (a.cps ++ b.cps).size = _
  rw [Array.size_append]
  rfl
theorem nm_len {z : Str} (h : isNm z = true) : z.length ≤ 8 := (nm_ok h).2
section
variable {K : PySem.W.Frag} {H : Hp} {Q : VK}
end
end L2
set_option Elab.async false
set_option linter.all false
set_option maxRecDepth 100000
set_option maxHeartbeats 4000000
namespace L2
open PySem PySem.Spec PyProof.Rows
section
variable {X : Cx} {K : PySem.W.Frag}
end
section
variable {prog : Program} {w : World} {A : Around} {E : Value → Shared → Prop} {s : Shared}
end
section
variable {X : Cx} {K : PySem.W.Frag}
end
end L2
set_option Elab.async false
set_option linter.all false
set_option maxRecDepth 100000
set_option maxHeartbeats 4000000
namespace L2
open PySem PySem.Spec PyProof.Rows
section
variable {prog : Program} {w : World} {A : Around} {E : Value → Shared → Prop} {s : Shared}
theorem sort_strs {t : Addr} {vs : List Value} {ss : List Str} {T : String} {n : Nat} {o : Obj} {Q : Value → Shared → Prop} (hT : T = "list" ∨ T = "tuple") (ho : s.heap.get? t = some o) (hc : o.cls = .type T) (hd : o.data = .seq vs.toArray n) (hS : StrsAre vs ss) (h64 : vs.length < 64)
    (h : ∀ (h1 h' : Heap) (out : List Value) (e : Nat) (ss' : List Str), (∀ b ob, s.heap.get? b = some ob → h1.get? b = some ob) → (∀ b ob, h1.get? b = some ob → h'.get? b = some ob) → h'.get? h1.objs.size = some (seqObj "list" out.toArray e) → StrsAre out ss' → ss'.Perm ss → sortedS ss' = true → Q (.ref h1.objs.size) { s with heap := h' }) :
    wpAny (model prog w) A (call (.builtin "sorted") [.ref t]) Q E s := by
  refine Calls.call_function_entry kind_sorted plain_sorted entry_sorted (args_sorted1 _) ?_
  unfold Builtin.«sorted»
  refine wpAny_bind (m := checkCount "sorted" 1 1 _) (wpAny_pure ?_)
  refine wpAny_bind (wpAny_collect_seq t hT ho hc hd (fun h1 k1 => ?_) (by rw [List.size_toArray, sizeLine_eq]; omega))
  refine wpAny_bind (wpAny_newList ?_ (by simp only [List.size_toArray]; rw [sizeLine_eq]; omega))
  have hnew : (h1.push (seqObj "list" vs.toArray 0)).get? h1.objs.size = some (seqObj "list" vs.toArray 0) := Heap.get?_push_size _ rfl
  show wpAny _ _ _ _ _ { s with heap := h1.push (seqObj "list" vs.toArray 0) }
  refine wpAny_bind (wpAny_holding (wpAny_call_entry slot_list_sort ⟨_, hnew, rfl⟩ entry_list_sort (list_sort_treeK strKind_oneLt hnew hS.keysOf (fun v₁ v₂ r e => keyKind_strs (by rw [← e]; exact hS)) h64 fun st' hp hs => ⟨_, rfl, ?_⟩) (args_list_sort _)))
  obtain ⟨ss', q1, q2, q3⟩ := sorted_out_str hS hp hs
  obtain ⟨e, he⟩ := sortedHeap_at (out := (arrOf st').map (·.2)) hnew
  refine wpAny_pure ⟨_, rfl, h h1 _ ((arrOf st').map (·.2)).toList e ss' k1 (fun b ob hb => ?_) (by rw [Array.toArray_toList]; exact he) q1 q2 q3⟩
  have hlt := Heap.lt_size hb
  rw [sortedHeap_old (Nat.ne_of_lt hlt) (by rw [size_push']; exact Nat.lt_succ_of_lt hlt)]
  exact Heap.get?_push_of_some _ hb
end
theorem strs_vals : ∀ {us : List Value} {ys : List Str}, StrsAre us ys → Vals (ys.map V.str) us
  | _, _, .nil => .nil
  | _, _, .cons y t h => .cons ⟨t, rfl⟩ (strs_vals h)
section
variable {X : Cx} {K : PySem.W.Frag}
noncomputable def rSorted (K : PySem.W.Frag) : List V → Hp → VK → Prop := fun xs H Q => ∃ (a : Addr) (ns : List Str), xs = [.ref a] ∧ (SqL K H a (ns.map V.str) ∨ SqT K H a (ns.map V.str)) ∧ ns.length < 64 ∧ ∀ p (ms : List Str), H p = none → ms.Perm ns → sortedS ms = true → Q (.ref p) (upd H p (.lst (ms.map V.str)))
theorem call_sortedS : CallR X (.builtin "sorted") (rSorted X.K) := by
  intro pins s σ H xs us Q I r h
  obtain ⟨a, ns, rfl, hl, hz, q⟩ := h
  obtain ⟨u, rfl, ru⟩ := vals1 r
  cases ru
  have fin : ∀ (vs : List Value), Vals (ns.map V.str) vs → ∀ (h1 h' : Heap) (out : List Value) (e : Nat) (ss' : List Str), (∀ b ob, s.heap.get? b = some ob → h1.get? b = some ob) → (∀ b ob, h1.get? b = some ob → h'.get? b = some ob) → h'.get? h1.objs.size = some (seqObj "list" out.toArray e) → StrsAre out ss' → ss'.Perm ns → sortedS ss' = true → EP X pins σ Q (.ref h1.objs.size) { s with heap := h' } := fun vs rv h1 h' out e ss' k1 k2 he q1 q2 q3 => by
    have I1 : Inv X pins σ H { s with heap := h1 } := I.kept (t' := s.toks) k1
    exact ⟨.ref _, _, I1.laid (t' := s.toks) (o := .lst (ss'.map V.str)) k2 (Nat.le_refl _) ⟨by rw [List.length_map, q2.length_eq, sizeLine_eq]; omega, out, e, strs_vals q1, he⟩, rfl, q _ ss' (I1.hok.fresh (Nat.le_refl _)) q2 q3⟩
  rcases hl with hl | hl
  · obtain ⟨its, rv, ⟨o, n, h1, h2, _, h3⟩, _⟩ := I.list hl
    have hlen := rv.length
    rw [List.length_map] at hlen
    exact sort_strs (.inl rfl) h1 h2 h3 (strs_of rv) (by omega) (fin its rv)
  · obtain ⟨its, rv, ⟨o, h1, h2, n, h3⟩, _⟩ := I.tuple hl
    have hlen := rv.length
    rw [List.length_map] at hlen
    exact sort_strs (.inr rfl) h1 h2 h3 (strs_of rv) (by omega) (fin its rv)
theorem call_sortedK (hK : X.K = K := by with_unfolding_all rfl) : CallR X (.builtin "sorted") (rSorted K) := hK ▸ call_sortedS
theorem i_sorted {a : Addr} {ns : List Str} {H : Hp} {Q : VK} (h : SqL K H a (ns.map V.str) ∨ SqT K H a (ns.map V.str)) (hz : ns.length < 64) (k : ∀ p (ms : List Str) H', H p = none → Same H H' → H' p = some (.lst (ms.map V.str)) → ms.Perm ns → sortedS ms = true → Q (.ref p) H') : rSorted K [.ref a] H Q :=
  ⟨a, ns, rfl, h, hz, fun p ms hp h1 h2 => k p ms _ hp (Same.upd hp) upd_same h1 h2⟩
end
theorem rising_le : ∀ (p : Str) (l : List Str), risingS p l = true → ∀ y ∈ l, ¬ y.cps.toList < p.cps.toList
  | p, [], _, y, h => nomatch h
  | p, x :: r, h, y, hy => by
    have h' : (!ltCps x.cps.toList p.cps.toList && risingS x r) = true := h
    rw [Bool.and_eq_true, Bool.not_eq_true', ltCps_eq, decide_eq_false_iff_not] at h'
    rcases List.mem_cons.mp hy with rfl | hy
    · exact h'.1
    · have ih := rising_le x r h'.2 y hy
      exact List.not_lt.mpr (List.le_trans (List.not_lt.mp h'.1) (List.not_lt.mp ih))
theorem rising_tail {x : Str} {r : List Str} (h : sortedS (x :: r) = true) : sortedS r = true := by
  cases r with
  | nil => rfl
  | cons y r =>
    have h' : (!ltCps y.cps.toList x.cps.toList && risingS y r) = true := h
    rw [Bool.and_eq_true] at h'
    exact h'.2
theorem sorted_one : ∀ {a b : List Str}, a.Perm b → sortedS a = true → sortedS b = true → a = b
  | [], b, p, _, _ => (List.nil_perm.mp p).symm
  | x :: a, [], p, _, _ => absurd p.length_eq (by simp)
  | x :: a, y :: b, p, ha, hb => by
    have hxy : x = y := by
      have h1 : x = y ∨ x ∈ b := by simpa using p.mem_iff.mp List.mem_cons_self
      have h2 : y = x ∨ y ∈ a := by simpa using p.symm.mem_iff.mp List.mem_cons_self
      rcases h1 with e | h1
      · exact e
      rcases h2 with e | h2
      · exact e.symm
      have q1 := rising_le x a ha y h2
      have q2 := rising_le y b hb x h1
      exact Str.ext' (Array.toList_inj.mp (List.le_antisymm (List.not_lt.mp q1) (List.not_lt.mp q2)))
    subst hxy
    rw [sorted_one (List.Perm.cons_inv p) (rising_tail ha) (rising_tail hb)]
end L2
set_option linter.all false
namespace L2
section
variable {α : Type} [DecidableEq α]
noncomputable def frF (b : α → α → Bool) (L : List α) : List α := L.filter fun x => !(L.any fun y => b y x)
noncomputable def lessF (L : List α) (x : α) : List α := L.filter fun y => !decide (y = x)
noncomputable def ext (b : α → α → Bool) : Nat → List α → List (List α)
  | 0, _ => [[]]
  | n + 1, L => (frF b L).flatMap fun x => (ext b n (lessF L x)).map (x :: ·)
end
end L2
set_option Elab.async false
set_option linter.all false
set_option maxRecDepth 100000
set_option maxHeartbeats 4000000
namespace L2
open PySem PySem.Spec PyProof.Rows
theorem FnOk.void {P : Program} {w : World} {K : PySem.W.Frag} {mg : Str → Option Value} {base : Heap} {CX : CXT} {k : Nat} {f : Addr} {fd : FuncData} {ps : List Str} {sp : Sp} (h : ∀ vs H Q E, ¬ sp vs H Q E) : FnOk P w K mg base CX k f fd ps sp :=
  ⟨fun vs H Q E q => absurd q (h vs H Q E), fun A outer s H args us vs Q E _ _ _ _ hs => absurd hs (h vs H Q E)⟩
section
variable {X : Cx} {K : PySem.W.Frag} {k : Nat} {C : Addr} {f x m : Str} {ps : List Str} {sp : Sp} {e o value : Expr} {es : List Expr} {ta tv : TE} {t : TA} {p pos pos' apos : Pos}
end
section
variable {K : PySem.W.Frag} {C : Addr} {f m : Str} {sp : Sp} {ta tv : TE} {t : TA} {σ : St} {H : Hp} {Q : VK} {D : Ends}
end
section
variable {X : Cx} {K : PySem.W.Frag}
end
section
variable {X : Cx}
end
section
variable {α : Type} [DecidableEq α]
end
end L2
set_option Elab.async false
set_option linter.all false
set_option maxRecDepth 100000
set_option maxHeartbeats 4000000
namespace L2
open PySem PySem.Spec PyProof.Rows
section
variable {K : PySem.W.Frag} {C : Addr} {H H' : Hp} {p dx : Addr} {nv : V} {bd ad kd : Addr} {ns : List Str} {ps : List (Str × Str)} {kvs kvs' : List (Key × V)}
end
theorem wayB_irr {ns : List Str} {ps : List (Str × Str)} (h : HalfW ns ps) (x : Str) : wayB ps x x = false := wayB_false (h.irr x)
end L2
namespace L2
open PySem PySem.Spec PyProof.Rows
section
variable {α : Type} [DecidableEq α]
end
end L2
namespace L2
end L2
namespace L2
open PySem PySem.Spec PyProof.Rows
end L2
set_option linter.all false
namespace L2
section
variable {α : Type} [DecidableEq α]
end
end L2
namespace L2
open PySem PySem.Spec PyProof.Rows
end L2
namespace L2
open PySem PySem.Spec PyProof.Rows
section
variable {K : PySem.W.Frag} {σ : St} {H : Hp} {Q : VK} {td ty tx : TE}
end
section
variable {K : PySem.W.Frag} {C : Addr} {H H' : Hp} {p dx : Addr} {nv : V} {bd ad kd : Addr} {ns : List Str} {ps : List (Str × Str)} {kvs : List (Key × V)}
end
end L2
namespace L2
open PySem PySem.Spec PyProof.Rows
section
variable {K : PySem.W.Frag} {σ : St} {H : Hp} {Q : VK}
end
end L2
set_option Elab.async false
set_option linter.all false
set_option maxRecDepth 100000
set_option maxHeartbeats 4000000
namespace L2
open PySem PySem.Spec PyProof.Rows
theorem meets_upd_self {prog : Program} {w : World} {κ : Type} [DecidableEq κ] (knd : KeyKind prog w κ) (d : Addr) :
    MeetsIn prog w (Builtin.«dict.update» ⟨[.ref d, .ref d], []⟩) (fun _ R s => (∃ kvs, s.heap.DictOf knd d kvs) ∧ R (.ok (.ret .none)) s) :=
  .of_wp fun A R s hh => by
    obtain ⟨⟨kvs, hd⟩, h⟩ := hh
    unfold Builtin.«dict.update» Builtin.Dict.selfAndRest
    refine wpAny_bind (wpAny_bind (wpAny_notOrdered_dict hd.typeIs ?_))
    show wpAny _ _ (pure (d, [Value.ref d])) _ _ s
    refine wpAny_pure ?_
    show wpAny _ _ (Builtin.Dict.updateFrom "dict.update" d (.ref d) [] .none) _ _ s
    unfold Builtin.Dict.updateFrom Builtin.Dict.merge Builtin.Dict.readDirectly
    refine wpAny_bind (wpAny_typeOf hd.typeIs ?_)
    rw [if_neg (by decide)]
    refine wpAny_bind (wpAny_bind (wpAny_bind (wpAny_isInstance hd.typeIs isSubtype_dict_dict ?_)))
    simp only [Bool.not_true, Bool.false_eq_true, if_false]
    refine wpAny_bind (wpAny_specialOf hd.typeIs F.slot_dict_iter.lookup (wpAny_pure ?_))
    simp only [beq_self_eq_true, if_true]
    refine wpAny_bind (wpAny_pure ?_)
    unfold Builtin.Dict.mergeDict
    rw [if_pos (by simp)]
    refine wpAny_bind (wpAny_rule (wpAny_pure ?_))
    show wpAny _ _ (Builtin.Dict.addKeywords d [] >>= _) _ _ _
    exact wpAny_bind (wpAny_pure (wpAny_pure ⟨.none, rfl, h⟩))
noncomputable def rUpdateS : V → List V → Hp → VK → Prop := fun x vs H Q => ∃ d kvs, x = .ref d ∧ vs = [.ref d] ∧ H d = some (.dK kvs) ∧ Q .non H
noncomputable def rUpdateA : V → List V → Hp → VK → Prop := fun x vs H Q => rUpdate x vs H Q ∨ rUpdateS x vs H Q
section
variable {X : Cx} {K : PySem.W.Frag}
theorem mt_updateS : MtM X "dict.update" rUpdateS := by
  intro pins s σ H x vs v us Q I rx rv h
  obtain ⟨d, kvs, rfl, rfl, hD, q⟩ := h
  cases rx
  obtain ⟨u, rfl, ru⟩ := rv.one
  cases ru
  obtain ⟨z1, hd1, vs1, rel1, dd1⟩ := dk_of I.hok hD
  refine call_meetsIn F.slot_dict_update dd1.typeIs F.entry_dict_update (F.args_dict_update_2 _ _) (meets_upd_self (mixKind X.prog X.w) d) ⟨⟨vs1, dd1⟩, ?_⟩
  exact ⟨.non, H, I.tok s.toks, rfl, q⟩
theorem mt_updateA : MtM X "dict.update" rUpdateA := by
  intro pins s σ H x vs v us Q I rx rv h
  rcases h with h | h
  · exact mt_update pins s σ H x vs v us Q I rx rv h
  · exact mt_updateS pins s σ H x vs v us Q I rx rv h
end
theorem i_updA {d o : Addr} {ks ms : List Str} {H : Hp} {Q : VK} (hd : H d = some (.dK (rowK ks))) (ho : H o = some (.dK (rowK ms))) (hne : d ≠ o) (hz : ks.length + ms.length ≤ 1000000) (k : ∀ H', ExtBut d H H' → H' d = some (.dK (rowK (addAll ks ms))) → Q .non H') : rUpdateA (.ref d) [.ref o] H Q := .inl (i_upd hd ho hne hz k)
theorem i_updS {d : Addr} {kvs : List (Key × V)} {H : Hp} {Q : VK} (hd : H d = some (.dK kvs)) (k : Q .non H) : rUpdateA (.ref d) [.ref d] H Q := .inr ⟨d, kvs, rfl, rfl, hd, k⟩
structure HalfC (ns : List Str) (ps : List (Str × Str)) : Prop where
  nd : ns.Nodup
  mem : ∀ p ∈ ps, p.1 ∈ ns ∧ p.2 ∈ ns
  few : ns.length ≤ 100
  le : ps.length ≤ 1100
theorem HalfW.c {ns : List Str} {ps : List (Str × Str)} (h : HalfW ns ps) : HalfC ns ps := ⟨h.nd, h.mem, h.few, Nat.le_trans h.le (by decide)⟩
instance {ns : List Str} {ps : List (Str × Str)} : Coe (HalfW ns ps) (HalfC ns ps) := ⟨HalfW.c⟩
section
variable {α : Type} [DecidableEq α]
end
end L2
namespace L2
open PySem PySem.Spec PyProof.Rows
section
variable {prog : Program} {w : World} {A : Around} {E : Value → Shared → Prop} {I : Addr} {fp wr : List Addr} {n : Nat} {P : Nat → Value → Prop} {St : Nat → Heap → Prop}
end
end L2
set_option linter.all false
set_option maxHeartbeats 4000000
namespace L2
open PySem PySem.Spec PyProof.Rows
section
variable {α : Type} [DecidableEq α]
end
end L2
set_option Elab.async false
set_option linter.all false
set_option maxRecDepth 100000
set_option maxHeartbeats 4000000
namespace L2
open PySem PySem.Spec PyProof.Rows
section
variable {prog : Program} {w : World} {A : Around} {E : Value → Shared → Prop} {s : Shared}
end
end L2
namespace L2
open PySem PySem.Spec PyProof.Rows
end L2
namespace L2
open PySem PySem.Spec PyProof.Rows
section
variable {κ : Type} [DecidableEq κ]
end
end L2
set_option linter.all false
set_option maxHeartbeats 4000000
set_option maxRecDepth 100000
namespace L2
open PySem PySem.Spec PyProof.Rows
section
variable {α β : Type} [DecidableEq α] [DecidableEq β]
end
end L2
set_option linter.all false
set_option maxHeartbeats 4000000
set_option maxRecDepth 100000
namespace L2
open PySem PySem.Spec PyProof.Rows
end L2
set_option Elab.async false
set_option linter.all false
set_option maxRecDepth 100000
set_option maxHeartbeats 4000000
namespace L2
open PySem PySem.Spec PyProof.Rows
section
variable {α : Type} [DecidableEq α]
end
section
variable {X : Cx}
end
end L2
set_option Elab.async false
set_option linter.all false
set_option maxRecDepth 100000
set_option maxHeartbeats 4000000
namespace L2
open PySem PySem.Spec PyProof.Rows
section
variable {X : Cx} {K : PySem.W.Frag}
end
section
variable {K : PySem.W.Frag} {σ : St} {H : Hp}
end
end L2
set_option Elab.async false
set_option linter.all false
set_option maxRecDepth 100000
set_option maxHeartbeats 4000000
namespace L2
open PySem PySem.W PyProof.Rows
section
variable {n : Nat} {r : Nat → Nat}
end
section
variable {prog : Program} {w : World} {A : Around} {E : Value → Shared → Prop} {z : Shared}
end
section
variable {prog : Program} {w : World} {A : Around} {E : Value → Shared → Prop} {z : Shared}
end
section
variable {X : Cx} {K : PySem.W.Frag}
end
end L2
set_option Elab.async false
set_option linter.all false
set_option maxRecDepth 100000
set_option maxHeartbeats 4000000
namespace L2
open PySem PySem.Spec PyProof.Rows
theorem eqv_strsL (xs ys : List Str) : PyData.eqvAll (xs.map PyData.str) (ys.map PyData.str) = decide (xs = ys) := by
  induction xs generalizing ys with
  | nil => cases ys <;> simp [PyData.eqvAll]
  | cons x xs ih =>
    cases ys with
    | nil => simp [PyData.eqvAll]
    | cons y ys =>
      simp only [List.map_cons, PyData.eqvAll, ih, PyData.eqv]
      by_cases c : x = y
      · subst c; simp
      · simp [c]
theorem eqv_lsts (xs ys : List Str) : PyData.eqv (.list (xs.map PyData.str)) (.list (ys.map PyData.str)) = decide (xs = ys) := by simp only [PyData.eqv, eqv_strsL]
end L2
set_option Elab.async false
set_option linter.all false
set_option maxRecDepth 100000
set_option maxHeartbeats 4000000
namespace L2
open PySem PySem.Spec PyProof.Rows
section
variable {κ : Type} [DecidableEq κ] {P : Program} {w : World} {kd : KeyKind P w κ} {A : Around} {E : Value → Shared → Prop} {z : Shared}
end
section
variable {X : Cx} {K : PySem.W.Frag}
end
end L2
set_option Elab.async false
set_option linter.all false
set_option maxRecDepth 100000
set_option maxHeartbeats 4000000
namespace L2
open PySem PySem.Spec PyProof.Rows
section
variable {P : Program} {w : World} {A : Around} {E : Value → Shared → Prop} {z : Shared}
end
end L2
set_option Elab.async false
set_option linter.all false
set_option maxRecDepth 100000
set_option maxHeartbeats 4000000
namespace L2
open PySem PySem.Spec PyProof.Rows
noncomputable def ZipAt (h : Heap) (c TI TO : Addr) (f0 : Value) (f1 : Bool) : Prop := h.get? c = some { cls := .type "zip", dict := none, data := .fields #[f0, .bool f1, .bool false, .ref TI, .ref TO], slots := #[] }
section
variable {P : Program} {w : World} {A : Around} {E : Value → Shared → Prop} {z : Shared}
theorem zip_none {c TI TO i1 i2 : Addr} {fp1 : List Addr} {n : Nat} {P1 : Nat → Value → Prop} {S1 : Nat → Heap → Prop} {Q : PySem.Fin → Shared → Prop}
    (D1 : Draws P w A i1 fp1 n P1 S1) (hc : ZipAt z.heap c TI TO .none false) (hTI : IsPair z.heap TI (.ref i1) (.ref i2)) (h1 : S1 n z.heap) (c1 : c ∉ fp1) (y1 : i1 ≠ c)
    (stop : ∀ g e, (∀ b ob, b ≠ c → b ≠ i1 → z.heap.get? b = some ob → g.get? b = some ob) → (∃ ob, g.get? e = some ob ∧ ob.cls = .type "StopIteration") → E (.ref e) { z with heap := g }) :
    wpAny (model P w) A (Builtin.«zip.__next__» ⟨[.ref c], []⟩) Q E z := by
  show wpAny _ _ (field (.ref c) 2 >>= _) _ _ _
  refine (wpAny_bind (wpAny_field hc rfl (x := .bool false) rfl ?_))
  show wpAny _ _ (field (.ref c) 3 >>= _) _ _ _
  refine (wpAny_bind (wpAny_field hc rfl (x := .ref TI) rfl ?_))
  refine (wpAny_bind (wpAny_seqItems hTI rfl ?_))
  show wpAny _ _ (Builtin.SmallTypes.ownedTupleIsFree (.ref c) >>= _) _ _ _
  refine (wpAny_bind ?_)
  unfold Builtin.SmallTypes.ownedTupleIsFree
  refine (wpAny_bind (wpAny_field hc rfl (x := .none) rfl (wpAny_pure ?_)))
  simp only [if_true]
  refine (wpAny_bind (wpAny_rule ?_))
  refine (wpAny_bind (wpAny_field hc rfl (x := .ref TO) rfl ?_))
  refine (wpAny_bind (wpAny_setField_rec hc (by simp) fun g0 hc0 sb0 => ?_))
  refine (wpAny_bind ?_)
  simp only [List.zipIdx_cons, List.zipIdx_nil, List.forIn_cons, List.forIn_nil]
  have h1' : S1 n g0 := D1.frame n _ _ h1 fun b hb ob q => sb0.extBut b ob (fun e => c1 (e ▸ hb)) q
  refine (wpAny_bind (wpAny_bind (wpAny_onRaise ?_)))
  show wpAny _ _ (Builtin.SmallTypes.nextOf (.ref i1) >>= _) _ _ _
  refine (wpAny_bind (D1.done _ _ _ h1' fun g1 e sb1 he => ?_))
  obtain ⟨oe, hoe, hce⟩ := he
  have hc1 : ZipAt g1 c TI TO .ellipsis false := sb1 _ _ (Ne.symm y1) hc0
  have hez : e ≠ c := fun q => by subst q; rw [show g1.get? _ = _ from hc1] at hoe; cases hoe; simp at hce
  refine (wpAny_setField_rec hc1 (by simp) fun g2 _ sb2 => stop g2 e (fun b ob b1 b2 q => sb2.extBut b ob b1 (sb1 b ob b2 (sb0.extBut b ob b1 q))) ⟨oe, sb2.extBut _ _ hez hoe, hce⟩)
end
end L2
set_option Elab.async false
set_option linter.all false
set_option maxRecDepth 100000
set_option maxHeartbeats 4000000
namespace L2
open PySem PySem.Spec PyProof.Rows
section
variable {P : Program} {w : World} {A : Around} {E : Value → Shared → Prop} {z : Shared} {c TI TO i1 i2 D : Addr} {fp1 fp2 : List Addr} {n : Nat} {P1 P2 : Nat → Value → Prop} {S1 S2 : Nat → Heap → Prop}
end
section
variable {P : Program} {w : World} {κ : Type} [DecidableEq κ] {kd : KeyKind P w κ} {A : Around} {E : Value → Shared → Prop} {c TI TO i1 i2 D : Addr} {fp1 fp2 : List Addr} {n : Nat} {P1 P2 : Nat → Value → Prop} {S1 S2 : Nat → Heap → Prop}
end
end L2
set_option Elab.async false
set_option linter.all false
set_option maxRecDepth 100000
set_option maxHeartbeats 4000000
namespace L2
open PySem PySem.Spec PyProof.Rows
noncomputable abbrev tiO (l : Addr) : Obj := { cls := .type "tuple_iterator", data := .fields #[.ref l, .int 0 0] }
noncomputable abbrev zp1 (h : Heap) (p q : Obj) : Heap := (h.push p).push q
noncomputable abbrev zp2 (h : Heap) (p q : Obj) : Heap := (zp1 h p q).push { cls := .type "tuple", data := .seq #[.ref h.objs.size, .ref (h.push p).objs.size] }
noncomputable abbrev zp3 (h : Heap) (p q : Obj) : Heap := (zp2 h p q).push { cls := .type "tuple", data := .seq #[.none, .none] }
noncomputable abbrev zp4 (h : Heap) (p q : Obj) : Heap := (zp3 h p q).push { cls := .type "zip", data := .fields #[.none, .bool false, .bool false, .ref (zp1 h p q).objs.size, .ref (zp2 h p q).objs.size] }
theorem meets_zipTT (a b : Addr) (xs ys : Array Value) :
    Meets (Builtin.«zip.__new__» ⟨[.type "zip", .ref a, .ref b], []⟩) (fun _ R s => s.heap.IsTuple a xs ∧ s.heap.IsTuple b ys ∧ R (.ok (.ret (.ref (zp3 s.heap (tiO a) (tiO b)).objs.size))) { s with heap := zp4 s.heap (tiO a) (tiO b) }) :=
  .of_wp fun prog w A R s both => by
    obtain ⟨hp, g, d, tk, os⟩ := s
    obtain ⟨ha, hb, go⟩ := both
    have hsub := sub_zip
    have hA : Heap.IsTuple (Shared.heap ⟨hp, g, d, tk, os⟩) a xs := ha
    have hB : Heap.IsTuple (Shared.heap ⟨hp.push (tiO a), g, d, tk, os⟩) b ys := let ⟨o, h1, h2⟩ := hb; ⟨o, Heap.get?_push_of_some _ h1, h2⟩
    wp_walk using wpAny_pyIter_tuple hA, wpAny_pyIter_tuple hB
    exact ⟨_, rfl, go⟩
section
variable {P : Program} {w : World} {A : Around} {E : Value → Shared → Prop} {z : Shared}
theorem zp_facts {h : Heap} {p q : Obj} {Q : Value → Shared → Prop} {s : Shared} (hs : s.heap = h)
    (go : ∀ g, ZipAt g (h.objs.size + 4) (h.objs.size + 2) (h.objs.size + 3) .none false → IsPair g (h.objs.size + 2) (.ref h.objs.size) (.ref (h.objs.size + 1)) → IsPair g (h.objs.size + 3) .none .none →
      g.get? h.objs.size = some p → g.get? (h.objs.size + 1) = some q → g.objs.size = h.objs.size + 5 → (∀ b o, h.get? b = some o → g.get? b = some o) → Q (.ref (h.objs.size + 4)) { s with heap := g }) (hp : p.isFreed = false) (hq : q.isFreed = false) :
    Q (.ref (zp3 h p q).objs.size) { s with heap := zp4 h p q } := by
  have z1 : (h.push p).objs.size = h.objs.size + 1 := Heap.size_push ..
  have z2 : (zp1 h p q).objs.size = h.objs.size + 2 := by rw [Heap.size_push, z1]
  have z3 : (zp2 h p q).objs.size = h.objs.size + 3 := by rw [Heap.size_push, z2]
  have z4 : (zp3 h p q).objs.size = h.objs.size + 4 := by rw [Heap.size_push, z3]
  have z5 : (zp4 h p q).objs.size = h.objs.size + 5 := by rw [Heap.size_push, z4]
  have g5 : (zp4 h p q).get? (zp3 h p q).objs.size = some _ := Heap.get?_push_size _ rfl
  have g4 : (zp4 h p q).get? (zp2 h p q).objs.size = some _ := Heap.get?_push_of_some _ (Heap.get?_push_size _ rfl)
  have g3 : (zp4 h p q).get? (zp1 h p q).objs.size = some _ := Heap.get?_push_of_some _ (Heap.get?_push_of_some _ (Heap.get?_push_size _ rfl))
  have g2 : (zp4 h p q).get? (h.push p).objs.size = some q := Heap.get?_push_of_some _ (Heap.get?_push_of_some _ (Heap.get?_push_of_some _ (Heap.get?_push_size _ hq)))
  have g1 : (zp4 h p q).get? h.objs.size = some p := Heap.get?_push_of_some _ (Heap.get?_push_of_some _ (Heap.get?_push_of_some _ (Heap.get?_push_of_some _ (Heap.get?_push_size _ hp))))
  rw [z2, z3, z4] at g5
  rw [z1, z2] at g3
  rw [z3] at g4
  rw [z1] at g2
  rw [z4]
  exact go _ g5 g3 g4 g1 g2 z5 fun b o k => Heap.get?_push_of_some _ (Heap.get?_push_of_some _ (Heap.get?_push_of_some _ (Heap.get?_push_of_some _ (Heap.get?_push_of_some _ k))))
theorem call_zipTT {a b : Addr} {xs ys : Array Value} {Q : Value → Shared → Prop} (ha : z.heap.IsTuple a xs) (hb : z.heap.IsTuple b ys)
    (go : ∀ g, ZipAt g (z.heap.objs.size + 4) (z.heap.objs.size + 2) (z.heap.objs.size + 3) .none false → IsPair g (z.heap.objs.size + 2) (.ref z.heap.objs.size) (.ref (z.heap.objs.size + 1)) → IsPair g (z.heap.objs.size + 3) .none .none →
      g.get? z.heap.objs.size = some (tiO a) → g.get? (z.heap.objs.size + 1) = some (tiO b) → g.objs.size = z.heap.objs.size + 5 → (∀ b o, z.heap.get? b = some o → g.get? b = some o) → Q (.ref (z.heap.objs.size + 4)) { z with heap := g }) :
    wpAny (model P w) A (call (.type "zip") [.ref a, .ref b]) Q E z := by
  refine callType_new F.called_zip (by decide) (F.typeCall_zip_2 _ _) (F.newCall_zip_2 _ _) (fun obj => F.args_object_init_3 obj _ _) F.entry_zip_new (meets_zipTT a b xs ys) ⟨ha, hb, ?_⟩
  refine zp_facts (Q := fun v s' => s'.TypeIs v "zip" ∧ Q v s') rfl (fun g g5 g3 g4 g1 g2 z5 kp => ⟨⟨_, g5, rfl⟩, go g g5 g3 g4 g1 g2 z5 kp⟩) rfl rfl
end
end L2
set_option Elab.async false
set_option linter.all false
set_option maxRecDepth 100000
set_option maxHeartbeats 4000000
namespace L2
open PySem PySem.Spec PyProof.Rows
section
variable {X : Cx} {K : PySem.W.Frag}
end
section
variable {K : PySem.W.Frag} {H : Hp} {Q : VK}
end
end L2
set_option Elab.async false
set_option linter.all false
set_option maxRecDepth 100000
set_option maxHeartbeats 4000000
namespace L2
open PySem PySem.Spec PyProof.Rows
section
variable {K : PySem.W.Frag} {H : Hp} {Q : VK}
end
end L2
set_option Elab.async false
set_option linter.all false
set_option maxRecDepth 100000
set_option maxHeartbeats 4000000
namespace L2
open PySem PySem.Spec PyProof.Rows
section
variable {ns ns' : List Str} {ps ps' bs : List (Str × Str)}
end
end L2
namespace L2
open PySem PySem.Spec PyProof.Rows
end L2
set_option Elab.async false
set_option linter.all false
set_option maxRecDepth 100000
set_option maxHeartbeats 4000000
namespace L2
open PySem PySem.Spec PyProof.Rows
section
variable {ns : List Str} {ps : List (Str × Str)}
end
end L2
set_option Elab.async false
set_option linter.all false
set_option maxRecDepth 100000
set_option maxHeartbeats 4000000
namespace L2
open PySem PySem.Spec PyProof.Rows
section
variable {P : Program} {w : World} {A : Around} {E : Value → Shared → Prop} {z : Shared}
end
section
variable {X : Cx} {K : PySem.W.Frag}
end
end L2
set_option Elab.async false
set_option linter.all false
set_option maxRecDepth 100000
set_option maxHeartbeats 4000000
namespace L2
open PySem PySem.Spec PyProof.Rows
section
variable {α : Type} [DecidableEq α] {b : α → α → Bool} {L : List α}
end
end L2
set_option Elab.async false
set_option linter.all false
set_option maxRecDepth 100000
set_option maxHeartbeats 4000000
namespace L2
open PySem PySem.Spec PyProof.Rows
end L2
set_option Elab.async false
set_option linter.all false
set_option maxRecDepth 100000
set_option maxHeartbeats 4000000
namespace L2
open PySem PySem.Spec PyProof.Rows
end L2
set_option Elab.async false
set_option linter.all false
set_option maxRecDepth 100000
set_option maxHeartbeats 4000000
namespace L2
open PySem PySem.Spec PyProof.Rows
noncomputable def rReprI : List V → Hp → VK → Prop := fun xs H Q => ∃ i : Int, xs = [.int i] ∧ i.natAbs.log2 < 1920 ∧ Q (.str (toString i)) H
theorem call_reprI {X : Cx} : CallR X (.builtin "repr") rReprI := by
  intro pins s σ H xs us Q I r h
  obtain ⟨i, rfl, hz, q⟩ := h
  obtain ⟨u, rfl, t, rfl⟩ := vals1 r
  exact PySem.P.repr_of_int hz ⟨.str _, H, I.tok _, ⟨_, rfl⟩, q⟩
end L2
set_option Elab.async false
set_option linter.all false
set_option maxRecDepth 100000
set_option maxHeartbeats 4000000
namespace L2
open PySem PySem.Spec PyProof.Rows
section
variable {prog : Program} {w : World} {A : Around} {E : Value → Shared → Prop} {h : Heap} {g : Array GenState} {d : Drawn} {t : Nat} {os : OsState} {K : PySem.W.Frag} {C fI : Addr} {rest : List Value}
end
end L2
set_option Elab.async false
set_option linter.all false
set_option maxRecDepth 100000
set_option maxHeartbeats 4000000
namespace L2
open PySem PySem.Spec PyProof.Rows Builtin Builtin.ObjectAttr
section
variable {prog : Program} {w : World} {A : Around} {E : Value → Shared → Prop} {s : Shared} {K : PySem.W.Frag} {C x : Addr} {name : Str} {v : Value}
end
end L2
set_option Elab.async false
set_option linter.all false
set_option maxRecDepth 100000
set_option maxHeartbeats 4000000
namespace L2
open PySem PySem.Spec PyProof.Rows
section
variable {P : Program} {w : World} {H : Hp} {h : Heap} {a C dx : Addr} {od : Option Addr} {fs : List (Str × V)}
end
section
variable {K : PySem.W.Frag} {C B D : Addr}
end
section
variable {X : Cx} {pins : List (Addr × Obj)} {σ : St} {H : Hp} {s : Shared} {a C dx : Addr} {fs : List (Str × V)} {f : Str} {v : V} {A : Around} {E : Value → Shared → Prop}
end
section
variable {X : Cx} {o e value : Expr} {f : Str} {pos pos' tpos : Pos} {ta tv : TE}
end
end L2
set_option Elab.async false
set_option linter.all false
set_option maxRecDepth 100000
set_option maxHeartbeats 4000000
namespace L2
open PySem PySem.Spec PyProof.Rows
section
variable {X : Cx} {k : Nat} {f C : Addr} {fd : FuncData} {ps : List Str} {sp : Sp} {x : Str} {p pos : Pos} {e : Expr} {es : List Expr} {t : TA} {pins : List (Addr × Obj)} {σ : St} {H : Hp} {s : Shared} {Q : VK} {us : List Value} {vs : List V}
end
end L2
set_option Elab.async false
set_option linter.all false
set_option maxRecDepth 100000
set_option maxHeartbeats 4000000
namespace L2
open PySem PySem.Spec PyProof.Rows
section
variable {X : Cx} {K : PySem.W.Frag} {o e value : Expr} {f : Str} {pos pos' : Pos} {ta tv : TE}
end
section
variable {K : PySem.W.Frag} {σ : St} {H : Hp} {Q : VK} {D : Ends} {f : Str} {ta tv : TE} {t : TA} {sp : Sp} {C a dx B G : Addr} {fs : List (Str × V)} {v y : V} {R : Hp → Prop} {vs : List V}
end
end L2
set_option Elab.async false
set_option linter.all false
set_option maxRecDepth 100000
set_option maxHeartbeats 4000000
namespace L2
open PySem PySem.Spec PyProof.Rows
section
variable {M : Model} {A : Around} {E : Value → Shared → Prop} {s : Shared} {base : Heap} {env : Env} {outer : List Env} {L a : Addr} {oe : Obj} {vs : Array Value} {Q : Unit → Shared → Prop}
end
end L2
set_option Elab.async false
set_option linter.all false
set_option maxRecDepth 100000
set_option maxHeartbeats 4000000
namespace L2
open PySem PySem.Spec PyProof.Rows
section
variable {P : Program} {w : World} {fs : List Addr} {a C : Addr} {od : Option Addr} {oe : Obj} {old : List Addr} {h h' : Heap} {H : Hp} {n : Bool}
end
section
variable {P : Program} {w : World} {K : PySem.W.Frag} {mg : Str → Option Value} {base : Heap} {N : List Str} {qual : Str} {scope : Scope} {f : Addr} {cd : Value} {A : Around} {outer : List Env} {s₀ : Shared} {H₀ : Hp} {E : XK}
end
end L2
set_option Elab.async false
set_option linter.all false
set_option maxRecDepth 100000
set_option maxHeartbeats 4000000
namespace L2
open PySem PySem.Spec PyProof.Rows
section
variable {X : Cx} {pins : List (Addr × Obj)} {σ : St} {H : Hp} {s : Shared}
end
section
variable {M : Model} {A : Around} {E : Value → Shared → Prop} {s : Shared} {K : PySem.W.Frag} {C B a : Addr} {oe : Obj} {Q : Bool → Shared → Prop}
end
end L2
set_option Elab.async false
set_option linter.all false
set_option maxRecDepth 100000
set_option maxHeartbeats 4000000
namespace L2
open PySem PySem.Spec PyProof.Rows
section
variable {X : Cx} {pins : List (Addr × Obj)}
end
end L2
set_option Elab.async false
set_option linter.all false
set_option maxRecDepth 100000
set_option maxHeartbeats 4000000
namespace L2
open PySem PySem.Spec PyProof.Rows
section
variable {X : Cx} {k : Nat} {x : Str} {ps : List Str} {sp : Sp} {e : Expr} {es : List Expr} {t : TA} {p pos : Pos} {E : XK}
end
section
variable {P : Program} {w : World} {K : PySem.W.Frag} {mg : Str → Option Value} {base : Heap}
end
section
variable {K : PySem.W.Frag} {σ : St} {H H0 : Hp} {D : Ends} {t : TE} {C a : Addr} {fs : List (Str × V)} {E : XK}
end
end L2
set_option Elab.async false
set_option linter.all false
set_option maxRecDepth 100000
set_option maxHeartbeats 4000000
namespace L2
section
open Lean
def mWay (s : String) : MacroM (TSyntax `tactic) :=
  if s == "as" then `(tactic| assumption) else if s == "ar" then `(tactic| with_reducible assumption) else `(tactic| walk_at $(quote s))
def mFirst (ts : Array (TSyntax `tactic)) : MacroM (TSyntax `tactic) := do
  let ts ← ts.mapM fun t => `(Lean.Parser.Tactic.tacticSeq| $t:tactic)
  `(tactic| first $[| $ts]*)
def mId (s : String) : Ident := mkIdent ((s.splitOn ".").foldl Name.mkStr Name.anonymous)
def mIs (s : String) : MacroM Ident := do return mkIdent (← Macro.addMacroScope (.mkSimple s))
def mCases : List String → TSyntax `tactic → MacroM (TSyntax `tactic)
  | [], t => pure t
  | s :: r, t => do
    match s.splitOn "=" with
    | [x, y] => let w ← mWay y; let i ← mIs x; mCases r (← `(tactic| ($t:tactic; (case $i:ident => $w:tactic))))
    | _ => mCases r t
def mRow (s : String) : MacroM (TSyntax `tactic) := do
  match s.splitOn ": " with
  | [h, c] =>
    match h.splitOn " " with
    | f :: as =>
      let xs ← as.toArray.mapM fun a => do if a == "_" then `(?_) else `(?$(← mIs a))
      let u := Syntax.mkApp (mId f) xs
      let t ← if as.contains "_" then `(tactic| with_reducible refine' $u) else `(tactic| refine' $u)
      mCases (c.splitOn " ") t
    | _ => Macro.throwUnsupported
  | _ => do
    if s == "as" then `(tactic| assumption)
    else if s == "no" then `(tactic| fail "no")
    else `(tactic| exact $(mId s))
def mRows (s : String) : MacroM (TSyntax `tactic) := do mFirst (← (s.splitOn " | ").toArray.mapM mRow)
def mAlts (s : String) : MacroM (TSyntax `tactic) := do
  let a ← mFirst (← (s.splitOn " ").toArray.mapM fun n => `(tactic| refine $(mId n) ?_))
  `(tactic| with_reducible $a:tactic)
def mAltG (s : String) : MacroM (TSyntax `tactic) := do
  let a ← mFirst (← (s.splitOn " ").toArray.mapM fun n => `(tactic| refine $(mId n) fun N hN => ?_))
  `(tactic| with_reducible $a:tactic)
end
section
open PySem
theorem same_refl {H : Hp} : Same H H := Same.refl _
theorem fz_refl {H : Hp} : Fz H H := Fz.refl _
theorem ne_none2 {H : Hp} {a b : PySem.Addr} {o : HO} (h : H a = some o) (g : H b = none) : b ≠ a := Ne.symm (ne_of_none h g)
noncomputable def Cut (N M : St → Hp → Prop) : Prop := ∀ σ H, M σ H → N σ H
section
variable {t u : TS} {te td ty tv : TE} {g : TG} {D : Ends} {σ : St} {H : Hp}
theorem i_seqG (k : ∀ N : St → Hp → Prop, Cut N (u D) → t { D with nx := N } σ H) : tSeq t u D σ H := k (u D) fun _ _ h => h
theorem i_seqAG (k : ∀ N : St → Hp → Prop, Cut N (u D) → tAsg te g { D with nx := N } σ H) : tSeq (tAsg te g) u D σ H := k (u D) fun _ _ h => h
theorem i_cutN {N M : St → Hp → Prop} (h : Cut N M) (k : M σ H) : N σ H := h _ _ k
end
theorem len_n0 {α : Type} {P : List α → Prop} {us : List α} (hl : us.length = 0) (h : P []) : P us := by
  rw [List.length_eq_zero_iff.mp hl]; exact h
theorem len_n1 {α : Type} {P : List α → Prop} {us : List α} (hl : us.length = 1) (h : ∀ a0 : α, P [a0]) : P us := by
  cases us with
  | nil => cases hl
  | cons a r => exact len_n0 (P := fun r => P (a :: r)) (Nat.succ.inj hl) (h a)
theorem len_n2 {α : Type} {P : List α → Prop} {us : List α} (hl : us.length = 2) (h : ∀ a0 a1 : α, P [a0, a1]) : P us := by
  cases us with
  | nil => cases hl
  | cons a r => exact len_n1 (P := fun r => P (a :: r)) (Nat.succ.inj hl) (h a)
theorem len_n3 {α : Type} {P : List α → Prop} {us : List α} (hl : us.length = 3) (h : ∀ a0 a1 a2 : α, P [a0, a1, a2]) : P us := by
  cases us with
  | nil => cases hl
  | cons a r => exact len_n2 (P := fun r => P (a :: r)) (Nat.succ.inj hl) (h a)
end
end L2
set_option Elab.async false
set_option linter.all false
set_option maxRecDepth 100000
set_option maxHeartbeats 4000000
namespace L2
open PySem PySem.Spec PyProof.Rows
section
variable {K : PySem.W.Frag} {x qual : Str} {st : Stmt} {f : Addr} {fd : FuncData}
theorem binds1 {p0 : Str} (F : Fun K x qual st f fd) (h : ∀ (kV doc pm : Value) (an : Option Addr) (cdv ct : Value) (u0 : Value), bindArgs (PySem.W.fnOf x qual (defArgs st) (defBody st) (defScope st) .none kV doc pm an cdv ct) ⟨[u0], []⟩ = pure (([p0] : List Str).zip [u0])) : Binds K fd [p0] [] :=
  F.binds fun kV doc pm an cdv ct us hl => len_n1 (P := fun us => bindArgs (PySem.W.fnOf x qual (defArgs st) (defBody st) (defScope st) .none kV doc pm an cdv ct) ⟨us, []⟩ = pure (([p0] : List Str).zip us)) hl (h kV doc pm an cdv ct)
theorem binds2 {p0 p1 : Str} (F : Fun K x qual st f fd) (h : ∀ (kV doc pm : Value) (an : Option Addr) (cdv ct : Value) (u0 u1 : Value), bindArgs (PySem.W.fnOf x qual (defArgs st) (defBody st) (defScope st) .none kV doc pm an cdv ct) ⟨[u0, u1], []⟩ = pure (([p0, p1] : List Str).zip [u0, u1])) : Binds K fd [p0, p1] [] :=
  F.binds fun kV doc pm an cdv ct us hl => len_n2 (P := fun us => bindArgs (PySem.W.fnOf x qual (defArgs st) (defBody st) (defScope st) .none kV doc pm an cdv ct) ⟨us, []⟩ = pure (([p0, p1] : List Str).zip us)) hl (h kV doc pm an cdv ct)
theorem binds3 {p0 p1 p2 : Str} (F : Fun K x qual st f fd) (h : ∀ (kV doc pm : Value) (an : Option Addr) (cdv ct : Value) (u0 u1 u2 : Value), bindArgs (PySem.W.fnOf x qual (defArgs st) (defBody st) (defScope st) .none kV doc pm an cdv ct) ⟨[u0, u1, u2], []⟩ = pure (([p0, p1, p2] : List Str).zip [u0, u1, u2])) : Binds K fd [p0, p1, p2] [] :=
  F.binds fun kV doc pm an cdv ct us hl => len_n3 (P := fun us => bindArgs (PySem.W.fnOf x qual (defArgs st) (defBody st) (defScope st) .none kV doc pm an cdv ct) ⟨us, []⟩ = pure (([p0, p1, p2] : List Str).zip us)) hl (h kV doc pm an cdv ct)
end
end L2
set_option Elab.async false
set_option linter.all false
set_option maxRecDepth 100000
set_option maxHeartbeats 4000000
namespace L2
open PySem PySem.Spec PyProof.Rows
end L2
set_option Elab.async false
set_option linter.all false
set_option maxRecDepth 100000
set_option maxHeartbeats 4000000
namespace L2
open PySem PySem.Spec PyProof.Rows
section
open PySem.SeqAt PySem.MeetsSeq
variable {A : Around} {s : Shared}
end
end L2
set_option Elab.async false
set_option linter.all false
set_option maxRecDepth 100000
set_option maxHeartbeats 4000000
namespace L2
open PySem PySem.Spec PyProof.Rows
section
variable {prog : Program} {w : World} {A : Around} {E : Value → Shared → Prop} {s : Shared}
set_option maxRecDepth 100000 in
end
section
variable {X : Cx} {pos p2 : Pos}
theorem i_gSub {to ti : TE} {t : TSet} {v : V} {σ : St} {H : Hp} {Q : St → Hp → Prop} (k : to σ H fun o H1 => ti σ H1 fun i H2 => t o i v H2 fun H3 => Q σ H3) : gSub to ti t v σ H Q := k
theorem i_setL {p : Addr} {xs : List V} {j : Nat} {v : V} {H : Hp} {Q : Hp → Prop} (hp : H p = some (.lst xs)) (hj : j < xs.length) (hz : xs.length ≤ 1000000) (k : ∀ H', ExtBut p H H' → H' p = some (.lst (xs.set j v)) → Q H') : rSetL (.ref p) (.int (j : Int)) v H Q :=
  ⟨p, xs, j, j, rfl, rfl, hp, by
    unfold ixN
    simp
    omega, k _ ExtBut.upd upd_same⟩
end
end L2
set_option Elab.async false
set_option linter.all false
set_option maxRecDepth 100000
set_option maxHeartbeats 4000000
namespace L2
open PySem PySem.Spec PyProof.Rows
section
variable {P : Program} {w : World} {A : Around} {E : Value → Shared → Prop} {z : Shared}
end
section
variable {X : Cx} {K : PySem.W.Frag}
end
section
variable {K : PySem.W.Frag} {H : Hp} {Q : VK}
end
end L2
set_option Elab.async false
set_option linter.all false
set_option maxRecDepth 100000
set_option maxHeartbeats 4000000
namespace L2
open PySem PySem.Spec PyProof.Rows
mutual
def flatD : PyData → Bool
  | .list _ => false
  | .dict _ => false
  | .tuple ds => flatL ds
  | _ => true
def flatL : List PyData → Bool
  | [] => true
  | d :: ds => flatD d && flatL ds
end
mutual
theorem reads_flat {h : Heap} : ∀ {v : Value} {d : PyData} {as : List Addr}, Reads h v d as → flatD d = true → as = []
  | _, _, _, .none, _ => rfl
  | _, _, _, .bool _, _ => rfl
  | _, _, _, .int _ _, _ => rfl
  | _, _, _, .str _ _, _ => rfl
  | _, _, _, .list _ _ _ _, f => by simp only [flatD] at f; cases f
  | _, _, _, .tuple _ _ _ r, f => readsAll_flat r (by simpa only [flatD] using f)
  | _, _, _, .dict _ _ _ _ _, f => by simp only [flatD] at f; cases f
theorem readsAll_flat {h : Heap} : ∀ {vs : List Value} {ds : List PyData} {as : List Addr}, ReadsAll h vs ds as → flatL ds = true → as = []
  | _, _, _, .nil, _ => rfl
  | _, _, _, .cons r rs, f => by
    simp only [flatL, Bool.and_eq_true] at f
    rw [reads_flat r f.1, readsAll_flat rs f.2]
    rfl
end
noncomputable def dsD (rs : List (Str × Str)) : PyData := .dict (rs.map fun p => (.str p.1, .str p.2))
noncomputable def dsK (rs : List (Str × Str)) : List (Key × V) := rs.map fun p => (Sum.inr p.1, .str p.2)
mutual
inductive RD (K : PySem.W.Frag) (H : Hp) : PyData → V → Prop
  | is {d : PyData} {v : V} : Is K H d v → flatD d = true → RD K H d v
  | tup {a : Addr} {ds : List PyData} {xs : List V} : SqT K H a xs → RDL K H ds xs → RD K H (.tuple ds) (.ref a)
  | dct {a : Addr} (rs : List (Str × Str)) : H a = some (.dK (dsK rs)) → RD K H (dsD rs) (.ref a)
inductive RDL (K : PySem.W.Frag) (H : Hp) : List PyData → List V → Prop
  | nil : RDL K H [] []
  | cons {d : PyData} {v : V} {ds : List PyData} {vs : List V} : RD K H d v → RDL K H ds vs → RDL K H (d :: ds) (v :: vs)
end
theorem ds_reads {P : Program} {w : World} {h : Heap} : ∀ {rs : List (Str × Str)} {vs : List (Key × Value)} {es : List DictEntry}, KV (dsK rs) vs → Pairs (mixKind P w) es vs →
    ReadsAll h (es.map (·.key)) ((rs.map fun p => (PyData.str p.1, PyData.str p.2)).map (·.1)) [] ∧ ReadsAll h (es.map (·.val)) ((rs.map fun p => (PyData.str p.1, PyData.str p.2)).map (·.2)) []
  | [], _, _, .nil, .nil => ⟨.nil, .nil⟩
  | p :: rs, _, _, .cons ⟨k1, k2⟩ kr, .cons q1 q2 qr => by
    rename_i q vs e es
    obtain ⟨qk, qv⟩ := q
    dsimp only at k1 k2 q1 q2
    subst k1
    obtain ⟨t, rfl⟩ := k2
    obtain ⟨i1, i2⟩ := ds_reads (h := h) kr qr
    have hk : ∃ t', e.key = .str p.1 t' := by
      have : Value.isStrOf p.1 e.key = true := q1
      cases hkey : e.key with
      | str b t' =>
        rw [hkey] at this
        have hb : b = p.1 := by simpa [Value.isStrOf] using this
        exact ⟨t', by rw [hb]⟩
      | _ => rw [hkey] at this; simp [Value.isStrOf] at this
    obtain ⟨t', hk⟩ := hk
    refine ⟨?_, ?_⟩
    · simp only [List.map_cons]
      rw [hk]
      exact .cons (.str _ _) i1
    · simp only [List.map_cons]
      rw [q2]
      exact .cons (.str _ _) i2
section
variable {X : Cx} {pins : List (Addr × Obj)} {σ : St} {H : Hp} {s : Shared}
mutual
theorem RD.reads (I : Inv X pins σ H s) : ∀ {d : PyData} {v : V} {u : Value}, RD X.K H d v → RelV v u → ∃ as, Reads s.heap u d as ∧ sysModules ∉ as
  | d, v, u, .is h f, r => by
    obtain ⟨as, ra⟩ := Is.reads I d v u h r
    exact ⟨as, ra, by rw [reads_flat ra f]; simp⟩
  | _, _, u, .tup (a := a) (ds := ds) (xs := xs) h l, r => by
    cases r
    obtain ⟨its, rv, ⟨o, e, hc, n, hd⟩, _⟩ := I.tuple h
    obtain ⟨as, ra, hs⟩ := RDL.reads I l rv
    exact ⟨as, .tuple e hc hd (by simpa using ra), hs⟩
  | _, _, u, .dct (a := a) rs h, r => by
    cases r
    obtain ⟨_, hsm, vs, kv, o, es, ep, e1, ⟨e2, _, _⟩, e4, _, e6, _⟩ := (show ObjOk X.prog X.w H s.heap a (.dK (dsK rs)) from I.hok a _ h)
    obtain ⟨r1, r2⟩ := ds_reads (h := s.heap) kv e6
    refine ⟨_, .dict e1 e2 e4 r1 r2, ?_⟩
    simp only [List.append_nil, List.mem_singleton]
    exact Ne.symm (beq_eq_false_iff_ne.mp hsm)
theorem RDL.reads (I : Inv X pins σ H s) : ∀ {ds : List PyData} {vs : List V} {us : List Value}, RDL X.K H ds vs → Vals vs us → ∃ as, ReadsAll s.heap us ds as ∧ sysModules ∉ as
  | _, _, _, .nil, r => by cases r; exact ⟨_, .nil, by simp⟩
  | _, _, _, .cons h l, r => by
    cases r with
    | cons r1 r2 =>
      obtain ⟨a1, h1, s1⟩ := RD.reads I h r1
      obtain ⟨a2, h2, s2⟩ := RDL.reads I l r2
      exact ⟨_, .cons h1 h2, fun q => (List.mem_append.mp q).elim s1 s2⟩
end
end
noncomputable def rReprD (K : PySem.W.Frag) : List V → Hp → VK → Prop := fun xs H Q => ∃ x d a, xs = [x] ∧ x = .ref a ∧ RD K H d x ∧ d.showable = true ∧ d.shown.length ≤ sizeLine ∧ d.depth ≤ 100 ∧ Q (.str d.shown) H
theorem call_reprRD {X : Cx} {K : PySem.W.Frag} (hq : QA X.A) (hK : X.K = K := by with_unfolding_all rfl) : CallR X (.builtin "repr") (rReprD K) := by
  subst hK
  intro pins s σ H xs us Q I rv h
  obtain ⟨x, d, a, rfl, rfl, hr, hs, hf, hd, q⟩ := h
  obtain ⟨u, rfl, ru⟩ := rv.one
  obtain ⟨as, ra, hsm⟩ := RD.reads I hr ru
  cases ru
  refine repr_of_reads' ra hs (fun _ => hsm) hq.gd (by have := hq.un; omega) (fun _ _ e => e) (fun h' t tk hk => ?_) hf
  exact ⟨.str d.shown, H, I.kept hk, ⟨t, rfl⟩, q⟩
end L2
set_option Elab.async false
set_option linter.all false
set_option maxRecDepth 100000
set_option maxHeartbeats 4000000
namespace L2
open PySem PySem.Spec PyProof.Rows
end L2
set_option linter.all false
set_option maxRecDepth 100000
namespace L2
open PySem PySem.Spec PyProof.Rows
theorem sqL_off {K : PySem.W.Frag} {H H' : Hp} {d a : Addr} {kvs : List (Key × V)} {xs : List V} (hd : H d = some (.dK kvs)) (e : ExtBut d H H') (h : SqL K H a xs) : SqL K H' a xs := by
  rcases h with h | h
  · refine e.seq (fun z => ?_) (.inl h)
    subst z
    rcases h with h | ⟨o, h⟩
    · rw [hd] at h; cases h
    · rw [hd] at h; cases h
  · exact .inr h
mutual
theorem Is.off {K : PySem.W.Frag} {H H' : Hp} {d : Addr} {kvs : List (Key × V)} (hd : H d = some (.dK kvs)) (e : ExtBut d H H') : ∀ (D : PyData) (v : V), Is K H D v → Is K H' D v
  | .none, _, h => by simp only [Is] at h ⊢; exact h
  | .bool _, _, h => by simp only [Is] at h ⊢; exact h
  | .int _, _, h => by simp only [Is] at h ⊢; exact h
  | .str _, _, h => by simp only [Is] at h ⊢; exact h
  | .list ds, v, h => by
    simp only [Is] at h ⊢
    obtain ⟨a, xs, e1, e2, e3⟩ := h
    exact ⟨a, xs, e1, sqL_off hd e e2, IsL.off hd e ds xs e3⟩
  | .tuple ds, v, h => by
    simp only [Is] at h ⊢
    obtain ⟨a, xs, e1, e2, e3⟩ := h
    exact ⟨a, xs, e1, (e.fzD hd).seq e2, IsL.off hd e ds xs e3⟩
  | .dict _, _, h => by simp only [Is] at h
theorem IsL.off {K : PySem.W.Frag} {H H' : Hp} {d : Addr} {kvs : List (Key × V)} (hd : H d = some (.dK kvs)) (e : ExtBut d H H') : ∀ (ds : List PyData) (vs : List V), IsL K H ds vs → IsL K H' ds vs
  | [], _, h => by simp only [IsL] at h ⊢; exact h
  | D :: ds, vs, h => by
    simp only [IsL] at h ⊢
    obtain ⟨v, r, e1, e2, e3⟩ := h
    exact ⟨v, r, e1, Is.off hd e D v e2, IsL.off hd e ds r e3⟩
end
mutual
def ascD : PyData → Bool
  | .str z => z.cps.toList.all fun c => decide (c < 128)
  | .list ds => ascL ds
  | .tuple ds => ascL ds
  | .dict _ => false
  | _ => true
def ascL : List PyData → Bool
  | [] => true
  | d :: ds => ascD d && ascL ds
end
mutual
def widD : PyData → Nat
  | .list ds => max ds.length (widL ds)
  | .tuple ds => max ds.length (widL ds)
  | _ => 0
def widL : List PyData → Nat
  | [] => 0
  | d :: ds => max (widD d) (widL ds)
end
structure Dk (p w W : Nat) (D : PyData) : Prop where
  asc : ascD D = true
  lay : D.canLay0 = true
  sh : D.showable = true
  lv : D.leavesShort 45 = true
  dp : D.depth ≤ p
  wt : D.weight ≤ w
  wd : widD D ≤ W
structure Els (p w W : Nat) (ds : List PyData) : Prop where
  all : ∀ e ∈ ds, ∃ u, Dk p u W e
  wt : PyData.weightAll ds ≤ w
  len : ds.length ≤ W
theorem Dk.le {p w W p' w' W' : Nat} {D : PyData} (h : Dk p w W D) (h1 : p ≤ p') (h2 : w ≤ w') (h3 : W ≤ W' := by omega) : Dk p' w' W' D := ⟨h.asc, h.lay, h.sh, h.lv, Nat.le_trans h.dp h1, Nat.le_trans h.wt h2, Nat.le_trans h.wd h3⟩
theorem els_all {p W : Nat} : ∀ {ds : List PyData}, (∀ e ∈ ds, ∃ u, Dk p u W e) → ascL ds = true ∧ PyData.canLayAll0 ds = true ∧ PyData.showableAll ds = true ∧ PyData.leavesShortAll 45 ds = true ∧ PyData.depthAll ds ≤ p ∧ widL ds ≤ W
  | [], _ => ⟨by simp only [ascL], by simp only [PyData.canLayAll0], by simp only [PyData.showableAll], by simp only [PyData.leavesShortAll], by simp only [PyData.depthAll]; omega, by simp only [widL]; omega⟩
  | d :: ds, h => by
    obtain ⟨u, a⟩ := h d (by simp)
    obtain ⟨b0, b1, b2, b3, b4, b5⟩ := els_all (ds := ds) fun e he => h e (by simp [he])
    have := a.dp
    have := a.wd
    exact ⟨by simp only [ascL, a.asc, b0, Bool.and_self], by simp only [PyData.canLayAll0, a.lay, b1, Bool.and_self], by simp only [PyData.showableAll, a.sh, b2, Bool.and_self], by simp only [PyData.leavesShortAll, a.lv, b3, Bool.and_self], by simp only [PyData.depthAll]; omega, by simp only [widL]; omega⟩
theorem all_els {p W : Nat} : ∀ {ds : List PyData}, ascL ds = true → PyData.canLayAll0 ds = true → PyData.showableAll ds = true → PyData.leavesShortAll 45 ds = true → PyData.depthAll ds ≤ p → widL ds ≤ W → ∀ e ∈ ds, ∃ u, Dk p u W e
  | [], _, _, _, _, _, _ => fun e he => by cases he
  | d :: ds, h0, h1, h2, h3, h4, h5 => fun e he => by
    simp only [ascL, PyData.canLayAll0, PyData.showableAll, PyData.leavesShortAll, PyData.depthAll, widL, Bool.and_eq_true] at h0 h1 h2 h3 h4 h5
    rcases List.mem_cons.mp he with rfl | he
    · exact ⟨_, h0.1, h1.1, h2.1, h3.1, by omega, Nat.le_refl _, by omega⟩
    · exact all_els h0.2 h1.2 h2.2 h3.2 (by omega) (by omega) e he
theorem dk_tup {p w W : Nat} {ds : List PyData} (h : Els p w W ds) : Dk (p + 1) w W (.tuple ds) := by
  obtain ⟨a0, a1, a2, a3, a4, a5⟩ := els_all h.all
  have := h.len
  exact ⟨by simpa only [ascD] using a0, by simpa only [PyData.canLay0] using a1, by simpa only [PyData.showable] using a2, by simpa only [PyData.leavesShort] using a3, by simp only [PyData.depth]; omega, by simpa only [PyData.weight] using h.wt, by simp only [widD]; omega⟩
theorem dk_lst {p w W : Nat} {ds : List PyData} (h : Els p w W ds) : Dk (p + 1) w W (.list ds) := by
  obtain ⟨a0, a1, a2, a3, a4, a5⟩ := els_all h.all
  have := h.len
  exact ⟨by simpa only [ascD] using a0, by simpa only [PyData.canLay0] using a1, by simpa only [PyData.showable] using a2, by simpa only [PyData.leavesShort] using a3, by simp only [PyData.depth]; omega, by simpa only [PyData.weight] using h.wt, by simp only [widD]; omega⟩
theorem Dk.els {p w W : Nat} {ds : List PyData} (h : Dk (p + 1) w W (.tuple ds)) : Els p w W ds := by
  obtain ⟨a0, a1, a2, a3, a4, a5, a6⟩ := h
  simp only [widD, ascD, PyData.canLay0, PyData.showable, PyData.leavesShort, PyData.depth, PyData.weight] at a0 a1 a2 a3 a4 a5 a6
  exact ⟨all_els a0 a1 a2 a3 (by omega) (by omega), a5, by omega⟩
theorem wt_app : ∀ as bs : List PyData, PyData.weightAll (as ++ bs) = PyData.weightAll as + PyData.weightAll bs
  | [], bs => by simp only [List.nil_append, PyData.weightAll]; omega
  | a :: as, bs => by
    have := wt_app as bs
    simp only [List.cons_append, PyData.weightAll]
    omega
theorem wt_rev : ∀ as : List PyData, PyData.weightAll as.reverse = PyData.weightAll as
  | [] => rfl
  | a :: as => by
    have := wt_rev as
    rw [List.reverse_cons, wt_app, this]
    simp only [PyData.weightAll]
    omega
theorem Els.app {p w w' W : Nat} {as bs : List PyData} (h : Els p w W as) (g : Els p w' W bs) {W' : Nat} (hl : as.length + bs.length ≤ W') (hW : W ≤ W') : Els p (w + w') W' (as ++ bs) :=
  ⟨fun e he => let ⟨u, k⟩ := (List.mem_append.mp he).elim (h.all e) (g.all e); ⟨u, k.le (Nat.le_refl _) (Nat.le_refl _) hW⟩, by rw [wt_app]; exact Nat.add_le_add h.wt g.wt, by rw [List.length_append]; exact hl⟩
theorem Els.sub {p w W : Nat} {ds es : List PyData} (h : Els p w W ds) (hs : ∀ e ∈ es, e ∈ ds) (hw : PyData.weightAll es ≤ PyData.weightAll ds) (hl : es.length ≤ ds.length) : Els p w W es := ⟨fun e he => h.all e (hs e he), Nat.le_trans hw h.wt, Nat.le_trans hl h.len⟩
theorem wt_drop (ds : List PyData) (n : Nat) : PyData.weightAll (ds.drop n) ≤ PyData.weightAll ds := by
  have := wt_app (ds.take n) (ds.drop n)
  rw [List.take_append_drop] at this
  omega
theorem wt_take (ds : List PyData) (n : Nat) : PyData.weightAll (ds.take n) ≤ PyData.weightAll ds := by
  have := wt_app (ds.take n) (ds.drop n)
  rw [List.take_append_drop] at this
  omega
theorem Els.take {p w W : Nat} {ds : List PyData} (h : Els p w W ds) (n : Nat) : Els p w W (ds.take n) := h.sub (fun e he => List.mem_of_mem_take he) (wt_take ds n) (by rw [List.length_take]; omega)
theorem Els.drop {p w W : Nat} {ds : List PyData} (h : Els p w W ds) (n : Nat) : Els p w W (ds.drop n) := h.sub (fun e he => List.mem_of_mem_drop he) (wt_drop ds n) (by rw [List.length_drop]; omega)
theorem Els.rev {p w W : Nat} {ds : List PyData} (h : Els p w W ds) : Els p w W ds.reverse := h.sub (fun e he => List.mem_reverse.mp he) (Nat.le_of_eq (wt_rev ds)) (by rw [List.length_reverse]; omega)
theorem Els.one {p w W : Nat} {D : PyData} (h : Dk p w W D) (hW : 1 ≤ W) : Els p (w + 1) W [D] := ⟨fun e he => by rw [List.mem_singleton.mp he]; exact ⟨w, h⟩, by simp only [PyData.weightAll]; have := h.wt; omega, by simpa using hW⟩
noncomputable def Asc (z : Str) : Prop := ∀ c ∈ z.cps.toList, c < 128
theorem Asc.ok {z : Str} (h : Asc z) : PyData.strOk z = true := by
  unfold PyData.strOk
  rw [← Array.all_toList, List.all_eq_true]
  intro c hc
  have := h c hc
  exact decide_eq_true (by omega)
theorem dk_str {p w W : Nat} {z : Str} (h : Asc z) (hl : z.length ≤ w) : Dk p w W (.str z) := by
  refine ⟨?_, by simpa only [PyData.canLay0] using h.ok, by simp only [PyData.showable], ?_, by simp only [PyData.depth]; omega, by simp only [PyData.weight]; exact hl, by simp only [widD]; omega⟩
  · simp only [ascD]
    rw [List.all_eq_true]
    exact fun c hc => decide_eq_true (h c hc)
  · simp only [PyData.leavesShort]
    rw [List.all_eq_true]
    intro c hc
    have := h c hc
    exact decide_eq_true (by omega)
theorem Dk.str {p w W : Nat} {z : Str} (h : Dk p w W (.str z)) : Asc z ∧ z.length ≤ w := by
  obtain ⟨a0, _, _, _, _, a5, _⟩ := h
  simp only [ascD, List.all_eq_true] at a0
  simp only [PyData.weight] at a5
  exact ⟨fun c hc => of_decide_eq_true (a0 c hc), a5⟩
theorem Asc.app {a b : Str} (h : Asc a) (g : Asc b) : Asc (a ++ b) := fun c hc => by
  have hc : c ∈ (a.cps ++ b.cps).toList := hc
  rw [Array.toList_append] at hc
  exact (List.mem_append.mp hc).elim (h c) (g c)
theorem up_two (p q : Str) : Txt.upper (p ++ q) = Txt.upper p ++ Txt.upper q := by
  show (⟨PySem.placed (p ++ q) _⟩ : Str) = ⟨PySem.placed p _ ++ PySem.placed q _⟩
  congr 1
  unfold PySem.placed
  rw [Str.cps_append]
  rw [Array.mapIdx_append]
  rw [Array.flatten_append]
theorem up_sign : ∀ c, c < 128 → (Txt.upper ⟨#[c]⟩).cps.toList = [if 97 ≤ c ∧ c ≤ 122 then c - 32 else c] := by decide +kernel
theorem upper_list : ∀ l : List Nat, (∀ c ∈ l, c < 128) → (Txt.upper ⟨l.toArray⟩).cps.toList = l.map fun c => if 97 ≤ c ∧ c ≤ 122 then c - 32 else c
  | [], _ => by decide +kernel
  | c :: l, h => by
    have ih := upper_list l fun x hx => h x (List.mem_cons_of_mem _ hx)
    have e : (⟨(c :: l).toArray⟩ : Str) = ⟨#[c]⟩ ++ ⟨l.toArray⟩ := by
      show (⟨(c :: l).toArray⟩ : Str) = ⟨#[c] ++ l.toArray⟩
      simp
    rw [e, up_two]
    show ((Txt.upper ⟨#[c]⟩).cps ++ (Txt.upper ⟨l.toArray⟩).cps).toList = _
    rw [Array.toList_append, ih, up_sign c (h c (by simp))]
    rfl
theorem upper_asc {z : Str} (h : Asc z) : Asc (Txt.upper z) ∧ (Txt.upper z).length = z.length := by
  have e := upper_list z.cps.toList h
  rw [Array.toArray_toList] at e
  refine ⟨fun c hc => ?_, ?_⟩
  · have hc : c ∈ (Txt.upper ⟨z.cps⟩).cps.toList := hc
    rw [e] at hc
    obtain ⟨b, hb, rfl⟩ := List.mem_map.mp hc
    have := h b hb
    split <;> omega
  · show (Txt.upper ⟨z.cps⟩).cps.size = z.cps.size
    rw [← Array.length_toList, e, List.length_map, Array.length_toList]
theorem Dk.shaped {p w W : Nat} {D : PyData} (h : Dk p w W D) (hp : p ≤ 64) : SeqAt.shaped D = true := by
  have := h.dp
  unfold SeqAt.shaped
  rw [h.lay, decide_eq_true (by omega)]
  rfl
theorem cut_dropA {xs : List V} {t : Int} (h0 : 0 ≤ t) : cutV xs (some t) none = xs.drop t.toNat := by
  by_cases h : t ≤ xs.length
  · exact cut_from h0 h
  · have e : HT.sIx xs.length 0 (some t) = xs.length := by unfold HT.sIx; simp [show ¬ t < 0 by omega]; omega
    unfold cutV
    rw [e, List.drop_length, List.take_nil, List.drop_eq_nil_of_le (by omega)]
end L2
set_option linter.all false
set_option maxRecDepth 100000
namespace L2
open PySem PySem.Spec PyProof.Rows
section
variable {X : Cx} {K : PySem.W.Frag}
end
end L2
set_option linter.all false
set_option maxRecDepth 100000
namespace L2
open PySem PySem.Spec PyProof.Rows
section
variable {X : Cx} {K : PySem.W.Frag}
noncomputable def rReprX (K : PySem.W.Frag) : List V → Hp → VK → Prop := fun xs H Q => ∃ x d, xs = [x] ∧ Is K H d x ∧ d.showable = true ∧ d.shown.length ≤ sizeLine ∧ d.depth ≤ 100 ∧ Q (.str d.shown) H
theorem call_reprX (hq : QA X.A) : CallR X (.builtin "repr") (rReprX X.K) := by
  intro pins s σ H xs us Q I rv h
  obtain ⟨x, d, rfl, i, hs, hf, hd, q⟩ := h
  cases d with
  | none =>
    simp only [Is] at i
    subst i
    exact call_reprA pins s σ H _ us Q I rv (.inr ⟨rfl, q⟩)
  | bool b =>
    simp only [Is] at i
    subst i
    refine call_reprA pins s σ H _ us Q I rv (.inl ⟨b, rfl, ?_⟩)
    cases b <;> exact q
  | int n =>
    simp only [Is] at i
    subst i
    exact call_reprI pins s σ H _ us Q I rv ⟨n, rfl, of_decide_eq_true (by simpa only [PyData.showable] using hs), q⟩
  | str z =>
    simp only [Is] at i
    subst i
    obtain ⟨u, rfl, ru⟩ := rv.one
    obtain ⟨t, rfl⟩ := ru
    exact PySem.P.repr_of_str ⟨.str _, H, I.tok _, ⟨_, rfl⟩, q⟩ hf
  | list ds => exact call_reprD hq pins s σ H _ us Q I rv ⟨x, _, rfl, i, ⟨rfl, hs, hf, hd⟩, q⟩
  | tuple ds => exact call_reprD hq pins s σ H _ us Q I rv ⟨x, _, rfl, i, ⟨rfl, hs, hf, hd⟩, q⟩
  | dict kvs => simp only [Is] at i
theorem call_reprXK (hq : QA X.A) (hK : X.K = K := by with_unfolding_all rfl) : CallR X (.builtin "repr") (rReprX K) := hK ▸ call_reprX hq
theorem i_reprX {H : Hp} {Q : VK} {d : PyData} {x : V} (h : Is K H d x) (h1 : d.showable = true) (h2 : d.shown.length ≤ sizeLine) (h3 : d.depth ≤ 100) (k : Q (.str d.shown) H) : rReprX K [x] H Q := ⟨x, d, rfl, h, h1, h2, h3, k⟩
theorem Dk.told {p w W : Nat} {D : PyData} (h : Dk p w W D) (hp : p ≤ 60) (hw : w ≤ 100000) : D.showable = true ∧ D.shown.length ≤ sizeLine ∧ D.depth ≤ 100 := by
  have h2 := PyData.shown_le 45 (by decide) D h.lv
  have h3 := h.wt
  have h4 := h.dp
  refine ⟨h.sh, ?_, by omega⟩
  rw [sizeLine_eq]
  omega
end
end L2
set_option linter.all false
set_option maxRecDepth 100000
set_option maxHeartbeats 4000000
namespace L2
open PySem PySem.Spec PyProof.Rows
section
variable {prog : Program} {w : World} {A : Around} {E : Value → Shared → Prop} {s : Shared}
end
section
variable {P : Program} {w : World} {A : Around} {R : Result → Shared → Prop} {it : Addr} {fp wr : List Addr} {G : Array GenState → Array GenState → Prop} {n : Nat} {PV : Nat → Value → Prop} {St : Nat → Shared → Prop}
end
section
variable {prog : Program} {w : World} {A : Around} {E : Value → Shared → Prop} {s : Shared}
set_option maxHeartbeats 3200000 in
end
end L2
set_option linter.all false
set_option maxRecDepth 100000
set_option maxHeartbeats 4000000
namespace L2
open PySem PySem.Spec PyProof.Rows
section
variable {prog : Program} {w : World} {A : Around} {E : Value → Shared → Prop} {s : Shared}
end
end L2
set_option linter.all false
set_option maxRecDepth 100000
set_option maxHeartbeats 4000000
namespace L2
open PySem PySem.Spec PyProof.Rows
section
variable {prog : Program} {w : World} {A : Around} {E : Value → Shared → Prop} {s : Shared}
end
end L2
set_option linter.all false
set_option maxRecDepth 100000
set_option maxHeartbeats 4000000
namespace L2
open PySem PySem.Spec PyProof.Rows
section
variable {prog : Program} {w : World} {A : Around} {E : Value → Shared → Prop} {s : Shared}
end
end L2
set_option linter.all false
set_option maxRecDepth 100000
set_option maxHeartbeats 4000000
namespace L2
open PySem PySem.Spec PyProof.Rows
section
variable {prog : Program} {w : World} {A : Around} {E : Value → Shared → Prop} {s : Shared}
end
end L2
namespace L2
open PySem PySem.Spec PyProof.Rows
section
variable {X : Cx} {K : PySem.W.Frag}
end
end L2
set_option linter.all false
set_option maxRecDepth 100000
set_option maxHeartbeats 4000000
namespace L2
open PySem PySem.Spec PyProof.Rows
open Builtin
section
variable {X : Cx} {K : PySem.W.Frag}
end
end L2
set_option linter.all false
set_option maxRecDepth 100000
set_option maxHeartbeats 4000000
namespace L2
open PySem PySem.Spec PyProof.Rows
section
variable {P : Program} {w : World} {K : PySem.W.Frag} {mg : Str → Option Value} {base : Heap} {k : Nat} {f : Addr} {fd : FuncData} {ps : List Str} {sp sp' : Sp}
end
end L2
set_option linter.all false
set_option maxRecDepth 100000
set_option maxHeartbeats 4000000
namespace L2
open PySem PySem.Spec PyProof.Rows
section
variable {P : Program} {w : World} {A : Around} {E : Value → Shared → Prop} {z : Shared}
theorem zipF {c TI TO i1 i2 : Addr} {fp1 fp2 : List Addr} {n n2 i : Nat} {P1 P2 : Nat → Value → Prop} {S1 S2 : Nat → Heap → Prop} {u0 v0 : Value} {Q : Value → Shared → Prop}
    (D1 : Draws P w A i1 fp1 n P1 S1) (D2 : Draws P w A i2 fp2 n2 P2 S2) (hi : i < n) (hi2 : i < n2) (hc : ZipAt z.heap c TI TO .none false) (hTI : IsPair z.heap TI (.ref i1) (.ref i2)) (hTO : IsPair z.heap TO u0 v0)
    (h1 : S1 i z.heap) (h2 : S2 i z.heap) (c1 : c ∉ fp1) (c2 : c ∉ fp2) (o1 : TO ∉ fp1) (o2 : TO ∉ fp2) (x1 : i1 ∉ fp2) (x2 : i2 ∉ fp1) (y1 : i1 ≠ c) (y2 : i2 ≠ c) (oc : TO ≠ c) (oi1 : TO ≠ i1) (oi2 : TO ≠ i2)
    (go : ∀ g tk x y, P1 i x → P2 i y → ZipAt g c TI TO (rawInt z.heap.objs.size) false → IsPair g TO x y → IsPair g z.heap.objs.size x y → S1 (i + 1) g → S2 (i + 1) g → (∀ b ob, b ≠ c → b ≠ i1 → b ≠ i2 → b ≠ TO → z.heap.get? b = some ob → g.get? b = some ob) → Q (.ref z.heap.objs.size) { z with heap := g, toks := tk }) :
    wpAny (model P w) A (Builtin.«zip.__next__» ⟨[.ref c], []⟩) (fun fin s' => ∃ v, fin = .done (.ret v) ∧ Q v s') E z := by
  show wpAny _ _ (field (.ref c) 2 >>= _) _ _ _
  refine (wpAny_bind (wpAny_field hc rfl (x := .bool false) rfl ?_))
  show wpAny _ _ (field (.ref c) 3 >>= _) _ _ _
  refine (wpAny_bind (wpAny_field hc rfl (x := .ref TI) rfl ?_))
  refine (wpAny_bind (wpAny_seqItems hTI rfl ?_))
  show wpAny _ _ (Builtin.SmallTypes.ownedTupleIsFree (.ref c) >>= _) _ _ _
  refine (wpAny_bind ?_)
  unfold Builtin.SmallTypes.ownedTupleIsFree
  refine (wpAny_bind (wpAny_field hc rfl (x := .none) rfl (wpAny_pure ?_)))
  simp only [if_true]
  refine (wpAny_bind (wpAny_rule ?_))
  refine (wpAny_bind (wpAny_field hc rfl (x := .ref TO) rfl ?_))
  refine (wpAny_bind (wpAny_setField_rec hc (by simp) fun g0 hc0 sb0 => ?_))
  refine (wpAny_bind ?_)
  simp only [List.zipIdx_cons, List.zipIdx_nil, List.forIn_cons, List.forIn_nil]
  have h1' : S1 i g0 := D1.frame i _ _ h1 fun b hb ob q => sb0.extBut b ob (fun e => c1 (e ▸ hb)) q
  have h2' : S2 i g0 := D2.frame i _ _ h2 fun b hb ob q => sb0.extBut b ob (fun e => c2 (e ▸ hb)) q
  have hTO0 : IsPair g0 TO u0 v0 := sb0.extBut _ _ oc hTO
  refine (wpAny_bind (wpAny_bind (wpAny_onRaise ?_)))
  show wpAny _ _ (Builtin.SmallTypes.nextOf (.ref i1) >>= _) _ _ _
  refine (wpAny_bind (D1.item i _ _ _ hi h1' fun x g1 tk1 hx hS1 sb1 => wpAny_pure ?_))
  have hTO1 : IsPair g1 TO u0 v0 := sb1.extBut _ _ oi1 hTO0
  refine (wpAny_bind (wpAny_seqItems hTO1 rfl ?_))
  refine (wpAny_bind (wpAny_updateSeq_pair hTO1 fun g2 hTO2 sb2 => ?_))
  refine (wpAny_bind (wpAny_letGo (wpAny_pure ?_)))
  have h2'' : S2 i g2 := D2.frame i _ _ h2' fun b hb ob q => sb2.extBut b ob (fun e => o2 (e ▸ hb)) (sb1.extBut b ob (fun e => x1 (e ▸ hb)) q)
  have hS1' : S1 (i + 1) g2 := D1.frame _ _ _ hS1 fun b hb ob q => sb2.extBut b ob (fun e => o1 (e ▸ hb)) q
  refine (wpAny_bind (wpAny_bind (wpAny_onRaise ?_)))
  show wpAny _ _ (Builtin.SmallTypes.nextOf (.ref i2) >>= _) _ _ _
  refine (wpAny_bind (D2.item i _ _ _ hi2 h2'' fun y g3 tk3 hy hS2 sb3 => wpAny_pure ?_))
  have hTO3 : IsPair g3 TO x v0 := sb3.extBut _ _ oi2 hTO2
  refine (wpAny_bind (wpAny_seqItems hTO3 rfl ?_))
  refine (wpAny_bind (wpAny_updateSeq_pair hTO3 fun g4 hTO4 sb4 => ?_))
  refine (wpAny_bind (wpAny_letGo (wpAny_pure (wpAny_pure ?_))))
  have hTO4' : IsPair g4 TO x y := hTO4
  refine (wpAny_bind (wpAny_seqItems hTO4' rfl ?_))
  refine (wpAny_bind (wpAny_newTuple ?_))
  have hsz : g4.objs.size = z.heap.objs.size := by rw [sb4.1, sb3.1, sb2.1, sb1.1, sb0.1]
  have hc4 : ZipAt g4 c TI TO .ellipsis false := sb4.extBut _ _ (Ne.symm oc) (sb3.extBut _ _ (Ne.symm y2) (sb2.extBut _ _ (Ne.symm oc) (sb1.extBut _ _ (Ne.symm y1) hc0)))
  have hlt : c < g4.objs.size := Heap.lt_size hc4
  show wpAny _ _ (Builtin.SmallTypes.ownedTupleHandOut (.ref c) (.ref g4.objs.size) >>= _) _ _ _
  refine (wpAny_bind ?_)
  unfold Builtin.SmallTypes.ownedTupleHandOut
  have hc5 : ZipAt (g4.push { cls := .type "tuple", data := .seq #[x, y] }) c TI TO .ellipsis false := Heap.get?_push_of_some _ hc4
  refine (wpAny_bind (wpAny_setField_rec hc5 (by simp) fun g6 hc6 sb6 => ?_))
  refine (wpAny_setField_rec hc6 (by simp) fun g7 hc7 sb7 => ?_)
  have up : ∀ b ob, b ≠ c → g4.get? b = some ob → g7.get? b = some ob := fun b ob b1 q => sb7.extBut b ob b1 (sb6.extBut b ob b1 (Heap.get?_push_of_some _ q))
  refine (wpAny_pure ⟨_, rfl, ?_⟩)
  have hS2' : S2 (i + 1) g4 := D2.frame _ _ _ hS2 fun b hb ob q => sb4.extBut b ob (fun e => o2 (e ▸ hb)) q
  have hS1'' : S1 (i + 1) g4 := D1.frame _ _ _ hS1' fun b hb ob q => sb4.extBut b ob (fun e => o1 (e ▸ hb)) (sb3.extBut b ob (fun e => x2 (e ▸ hb)) q)
  rw [hsz] at hc7 ⊢
  refine go g7 tk3 x y hx hy hc7 (up _ _ oc hTO4') (by rw [← hsz]; exact sb7.extBut _ _ (Nat.ne_of_gt hlt) (sb6.extBut _ _ (Nat.ne_of_gt hlt) (Heap.get?_push_size _ rfl))) ?_ ?_ ?_
  · exact D1.frame _ _ _ hS1'' fun b hb ob q => up b ob (fun e => c1 (e ▸ hb)) q
  · exact D2.frame _ _ _ hS2' fun b hb ob q => up b ob (fun e => c2 (e ▸ hb)) q
  · exact fun b ob b1 b2 b3 b4 q => up b ob b1 (sb4.extBut b ob b4 (sb3.extBut b ob b3 (sb2.extBut b ob b4 (sb1.extBut b ob b2 (sb0.extBut b ob b1 q)))))
theorem zipN {c TI TO i1 i2 : Addr} {fp1 fp2 : List Addr} {n n2 : Nat} {P1 P2 : Nat → Value → Prop} {S1 S2 : Nat → Heap → Prop} {u0 v0 : Value} {Q : PySem.Fin → Shared → Prop}
    (D1 : Draws P w A i1 fp1 n P1 S1) (D2 : Draws P w A i2 fp2 n2 P2 S2) (hi : n2 < n) (hc : ZipAt z.heap c TI TO .none false) (hTI : IsPair z.heap TI (.ref i1) (.ref i2)) (hTO : IsPair z.heap TO u0 v0) (h1 : S1 n2 z.heap) (h2 : S2 n2 z.heap) (c1 : c ∉ fp1) (c2 : c ∉ fp2) (o2 : TO ∉ fp2) (x1 : i1 ∉ fp2) (y1 : i1 ≠ c) (y2 : i2 ≠ c) (oc : TO ≠ c) (oi1 : TO ≠ i1)
    (stop : ∀ g tk e, (∀ b ob, b ≠ c → b ≠ i1 → b ≠ i2 → b ≠ TO → z.heap.get? b = some ob → g.get? b = some ob) → (∃ ob, g.get? e = some ob ∧ ob.cls = .type "StopIteration") → E (.ref e) { z with heap := g, toks := tk }) :
    wpAny (model P w) A (Builtin.«zip.__next__» ⟨[.ref c], []⟩) Q E z := by
  show wpAny _ _ (field (.ref c) 2 >>= _) _ _ _
  refine (wpAny_bind (wpAny_field hc rfl (x := .bool false) rfl ?_))
  show wpAny _ _ (field (.ref c) 3 >>= _) _ _ _
  refine (wpAny_bind (wpAny_field hc rfl (x := .ref TI) rfl ?_))
  refine (wpAny_bind (wpAny_seqItems hTI rfl ?_))
  show wpAny _ _ (Builtin.SmallTypes.ownedTupleIsFree (.ref c) >>= _) _ _ _
  refine (wpAny_bind ?_)
  unfold Builtin.SmallTypes.ownedTupleIsFree
  refine (wpAny_bind (wpAny_field hc rfl (x := .none) rfl (wpAny_pure ?_)))
  simp only [if_true]
  refine (wpAny_bind (wpAny_rule ?_))
  refine (wpAny_bind (wpAny_field hc rfl (x := .ref TO) rfl ?_))
  refine (wpAny_bind (wpAny_setField_rec hc (by simp) fun g0 hc0 sb0 => ?_))
  refine (wpAny_bind ?_)
  simp only [List.zipIdx_cons, List.zipIdx_nil, List.forIn_cons, List.forIn_nil]
  have h1' : S1 n2 g0 := D1.frame n2 _ _ h1 fun b hb ob q => sb0.extBut b ob (fun e => c1 (e ▸ hb)) q
  have h2' : S2 n2 g0 := D2.frame n2 _ _ h2 fun b hb ob q => sb0.extBut b ob (fun e => c2 (e ▸ hb)) q
  have hTO0 : IsPair g0 TO u0 v0 := sb0.extBut _ _ oc hTO
  refine (wpAny_bind (wpAny_bind (wpAny_onRaise ?_)))
  show wpAny _ _ (Builtin.SmallTypes.nextOf (.ref i1) >>= _) _ _ _
  refine (wpAny_bind (D1.item n2 _ _ _ hi h1' fun x g1 tk1 hx hS1 sb1 => wpAny_pure ?_))
  have hTO1 : IsPair g1 TO u0 v0 := sb1.extBut _ _ oi1 hTO0
  refine (wpAny_bind (wpAny_seqItems hTO1 rfl ?_))
  refine (wpAny_bind (wpAny_updateSeq_pair hTO1 fun g2 hTO2 sb2 => ?_))
  refine (wpAny_bind (wpAny_letGo (wpAny_pure ?_)))
  have h2'' : S2 n2 g2 := D2.frame n2 _ _ h2' fun b hb ob q => sb2.extBut b ob (fun e => o2 (e ▸ hb)) (sb1.extBut b ob (fun e => x1 (e ▸ hb)) q)
  refine (wpAny_bind (wpAny_bind (wpAny_onRaise ?_)))
  show wpAny _ _ (Builtin.SmallTypes.nextOf (.ref i2) >>= _) _ _ _
  refine (wpAny_bind (D2.done _ _ _ h2'' fun g3 e sb3 he => ?_))
  obtain ⟨oe, hoe, hce⟩ := he
  have hc3 : ZipAt g3 c TI TO .ellipsis false := sb3 _ _ (Ne.symm y2) (sb2.extBut _ _ (Ne.symm oc) (sb1.extBut _ _ (Ne.symm y1) hc0))
  have hez : e ≠ c := fun q => by subst q; rw [show g3.get? _ = _ from hc3] at hoe; cases hoe; simp at hce
  refine (wpAny_setField_rec hc3 (by simp) fun g4 _ sb4 => ?_)
  exact stop g4 tk1 e (fun b ob b1 b2 b3 b4 q => sb4.extBut b ob b1 (sb3 b ob b3 (sb2.extBut b ob b4 (sb1.extBut b ob b2 (sb0.extBut b ob b1 q))))) ⟨oe, sb4.extBut _ _ hez hoe, hce⟩
end
end L2
set_option linter.all false
set_option maxRecDepth 100000
set_option maxHeartbeats 4000000
namespace L2
open PySem PySem.Spec PyProof.Rows
noncomputable def Itz (K : PySem.W.Frag) (a b : Addr) : It :=
  ⟨fun i H => ∃ xs ys x y, SqT K H a xs ∧ SqT K H b ys ∧ xs[i]? = some x ∧ ys[i]? = some y, fun i H v H' => ∃ t x y, H t = none ∧ H' = upd H t (.tup [x, y]) ∧ v = .ref t ∧ (∀ xs, SqT K H a xs → xs[i]? = some x) ∧ ∀ ys, SqT K H b ys → ys[i]? = some y, fun i H => ∃ xs ys, SqT K H a xs ∧ SqT K H b ys ∧ (xs.length = i ∨ (i < xs.length ∧ ys.length = i))⟩
noncomputable def ZTn (c TI TO i1 i2 a b : Addr) (i : Nat) (h : Heap) : Prop := ZipAt h c TI TO .none false ∧ IsPair h TI (.ref i1) (.ref i2) ∧ (∃ u v, IsPair h TO u v) ∧ h.IsTupleIter i1 a i ∧ h.IsTupleIter i2 b i
structure ZApart (c TI TO i1 i2 a b : Addr) : Prop where
  nd : [c, TI, TO, i1, i2].Nodup
  na : a ∉ [c, TI, TO, i1, i2]
  nb : b ∉ [c, TI, TO, i1, i2]
theorem turn_zip {P : Program} {w : World} {K : PySem.W.Frag} {elts : List Expr} {ek : Nat} {epos : Pos} (c TI TO i1 i2 a b : Addr) (O : ZApart c TI TO i1 i2 a b) : Turn P w K (.Tuple elts ek epos) (Itz K a b) [c, TI, TO, i1, i2] c (ZTn c TI TO i1 i2 a b) where
  mem := by simp
  obj := fun i h st x hx => by
    obtain ⟨h1, h2, ⟨u, v, h3⟩, ⟨o4, h4, _, d4⟩, ⟨o5, h5, _, d5⟩⟩ := st
    simp only [List.mem_cons, List.not_mem_nil, or_false] at hx
    rcases hx with rfl | rfl | rfl | rfl | rfl
    · exact ⟨_, h1, fun v z => by cases z⟩
    · exact ⟨_, h2, fun v z => by cases z⟩
    · exact ⟨_, h3, fun v z => by cases z⟩
    · exact ⟨o4, h4, fun v z => by rw [d4] at z; cases z⟩
    · exact ⟨o5, h5, fun v z => by rw [d5] at z; cases z⟩
  keep := fun i h h' st k => by
    obtain ⟨h1, h2, ⟨u, v, h3⟩, h4, h5⟩ := st
    exact ⟨k c (by simp) _ h1, k TI (by simp) _ h2, ⟨u, v, k TO (by simp) _ h3⟩, h4.at fun o q => k i1 (by simp) o q, h5.at fun o q => k i2 (by simp) o q⟩
  item := by
    intro X hP hw hK hc i pins s σ H E I hf st hg
    subst hP hw hK
    obtain ⟨nd, na, nb⟩ := O
    simp only [List.nodup_cons, List.mem_cons, List.not_mem_nil, or_false, not_or, List.nodup_nil, and_true, not_false_eq_true] at nd na nb
    obtain ⟨⟨n1, n2, n3, n4⟩, ⟨n5, n6, n7⟩, ⟨n8, n9⟩, n10⟩ := nd
    obtain ⟨a1, a2, a3, a4, a5⟩ := na
    obtain ⟨b1, b2, b3, b4, b5⟩ := nb
    obtain ⟨xs, ys, x, y, hqa, hqb, hx, hy⟩ := hg
    obtain ⟨its, rv, p, hz⟩ := I.tuple hqa
    obtain ⟨jts, rw', p', hz'⟩ := I.tuple hqb
    obtain ⟨u, hu, ru⟩ := rv.get hx
    obtain ⟨v, hv, rv2⟩ := rw'.get hy
    have hil : i < its.length := (List.getElem?_eq_some_iff.mp hu).1
    have hjl : i < jts.length := (List.getElem?_eq_some_iff.mp hv).1
    have hd : X.A.in1.handled = none := by simpa using I.ok.hd hc
    have D1 := drawsT (prog := X.prog) (w := X.w) hd i1 a a4 its.toArray
    have D2 := drawsT (prog := X.prog) (w := X.w) hd i2 b b5 jts.toArray
    obtain ⟨h1, h2, ⟨u0, v0, h3⟩, h4, h5⟩ := st
    have hT : s.TypeIs (.ref c) "zip" := ⟨_, h1, rfl⟩
    have hcl : c < s.heap.objs.size := Heap.lt_size h1
    have hTIl : TI < s.heap.objs.size := Heap.lt_size h2
    have hTOl : TO < s.heap.objs.size := Heap.lt_size h3
    have h1l : i1 < s.heap.objs.size := let ⟨_, q, _⟩ := h4; Heap.lt_size q
    have h2l : i2 < s.heap.objs.size := let ⟨_, q, _⟩ := h5; Heap.lt_size q
    unfold pyNext
    refine wpAny_bind (wpAny_attempt (wpAny_callSpecial?_slot (name := Str.ofString "__next__") hT F.slot_zip_next (wpAny_call_entry F.slot_zip_next hT F.entry_zip_next
      (zipF D1 D2 (by simpa using hil) (by simpa using hjl) h1 h2 h3 ⟨h4, p⟩ ⟨h5, p'⟩ (by simp [n3, Ne.symm a1]) (by simp [n4, Ne.symm b1]) (by simp [n8, Ne.symm a3]) (by simp [n9, Ne.symm b3]) (by simp [n10, Ne.symm b4]) (by simp [Ne.symm n10, Ne.symm a5]) (Ne.symm n3) (Ne.symm n4) (Ne.symm n2) n8 n9 fun g tk x' y' px py gz gTO gu g1 g2 kp => ?_) (F.args_zip_next_1 _))))
    have ex : x' = u := by
      have q : its.toArray[i]? = some x' := px
      rw [List.getElem?_toArray, hu] at q
      exact (Option.some.inj q).symm
    have ey : y' = v := by
      have q : jts.toArray[i]? = some y' := py
      rw [List.getElem?_toArray, hv] at q
      exact (Option.some.inj q).symm
    subst ex ey
    refine wpAny_pure ⟨_, rfl, wpAny_letOwnedTupleGo_zip gz fun g' gz' hs' => ?_⟩
    have hTn : H s.heap.objs.size = none := I.hok.fresh (Nat.le_refl _)
    have I1 : Inv X pins σ (upd H s.heap.objs.size (.tup [x, y])) { s with heap := s.heap.push { cls := .type "tuple", data := .seq #[x', y'] } } :=
      I.laid (t' := s.toks) (fun b ob q => Heap.get?_push_of_some _ q) (Nat.le_refl _) ⟨by simp [sizeLine_eq], [x', y'], .cons ru (.cons rv2 .nil), _, Heap.get?_push_size _ rfl, rfl, ⟨_, rfl⟩, rfl⟩
    have nT : ∀ q ∈ [c, TI, TO, i1, i2], q ≠ s.heap.objs.size := fun q hq => by
      simp only [List.mem_cons, List.not_mem_nil, or_false] at hq
      rcases hq with rfl | rfl | rfl | rfl | rfl <;> exact Nat.ne_of_lt (by assumption)
    have up : ∀ q o, q ≠ c → g.get? q = some o → g'.get? q = some o := fun q o hq e => hs'.extBut q o hq e
    have I2 : Inv X pins σ (upd H s.heap.objs.size (.tup [x, y])) { s with heap := g', toks := tk } := Inv.turnedL (s := { s with heap := s.heap.push { cls := .type "tuple", data := .seq #[x', y'] } }) (ch := [c, TI, TO, i1, i2]) I1 (fun q ob hq e => ?_) (fun q hq => ?_)
    · refine ⟨.ref s.heap.objs.size, _, I2, rfl, ⟨_, x, y, hTn, rfl, rfl, fun zs hz => by rw [I.tuple_inj hz hqa]; exact hx, fun zs hz => by rw [I.tuple_inj hz hqb]; exact hy⟩, ⟨gz', up _ _ (Ne.symm n1) (kp _ _ (Ne.symm n1) n6 n7 n5 h2), ⟨_, _, up _ _ (Ne.symm n2) gTO⟩, g1.1.at fun o q => up _ _ (Ne.symm n3) q, g2.1.at fun o q => up _ _ (Ne.symm n4) q⟩, fun q hq => ?_⟩
      rw [upd_ne (nT q hq)]
      exact (hf q hq).1
    · simp only [List.mem_cons, List.not_mem_nil, or_false, not_or] at hq
      rcases Heap.get?_push_cases e with ⟨rfl, rfl⟩ | e
      · exact up _ _ (Nat.ne_of_gt hcl) gu
      · exact up _ _ hq.1 (kp q ob hq.1 hq.2.2.2.1 hq.2.2.2.2 hq.2.2.1 e)
    · obtain ⟨f0, f1, f2, f3, f4, f5⟩ := hf q hq
      exact ⟨by rw [upd_ne (nT q hq)]; exact f0, f1, f2, f3, f4, f5⟩
  done := by
    intro X hP hw hK hc i pins s σ H E I hf st hg
    subst hP hw hK
    obtain ⟨nd, na, nb⟩ := O
    simp only [List.nodup_cons, List.mem_cons, List.not_mem_nil, or_false, not_or, List.nodup_nil, and_true, not_false_eq_true] at nd na nb
    obtain ⟨⟨n1, n2, n3, n4⟩, ⟨n5, n6, n7⟩, ⟨n8, n9⟩, n10⟩ := nd
    obtain ⟨a1, a2, a3, a4, a5⟩ := na
    obtain ⟨b1, b2, b3, b4, b5⟩ := nb
    obtain ⟨xs, ys, hqa, hqb, hst⟩ := hg
    obtain ⟨its, rv, p, hz⟩ := I.tuple hqa
    obtain ⟨jts, rw', p', hz'⟩ := I.tuple hqb
    have hd : X.A.in1.handled = none := by simpa using I.ok.hd hc
    have D1 := drawsT (prog := X.prog) (w := X.w) hd i1 a a4 its.toArray
    have D2 := drawsT (prog := X.prog) (w := X.w) hd i2 b b5 jts.toArray
    obtain ⟨h1, h2, ⟨u0, v0, h3⟩, h4, h5⟩ := st
    have hT : s.TypeIs (.ref c) "zip" := ⟨_, h1, rfl⟩
    have hxl := rv.length
    have hyl := rw'.length
    unfold pyNext
    rcases hst with hst | ⟨hlt, hst⟩
    · have hsz : its.toArray.size = i := by rw [List.size_toArray]; omega
      rw [hsz] at D1
      refine wpAny_bind (wpAny_attempt (wpAny_callSpecial?_slot (name := Str.ofString "__next__") hT F.slot_zip_next (wpAny_call_entry F.slot_zip_next hT F.entry_zip_next (zip_none D1 h1 h2 ⟨h4, p⟩ (by simp [n3, Ne.symm a1]) (Ne.symm n3) fun g e kp he => ?_) (F.args_zip_next_1 _))))
      refine wpAny_bind (wpAny_isInstance (T := "StopIteration") (b := true) he isSubtype_stop ?_)
      exact wpAny_pure ⟨rfl, I.turnedL (t' := s.toks) (ch := [c, TI, TO, i1, i2]) (fun q o hq e => kp q o (fun z => hq (by simp [z])) (fun z => hq (by simp [z])) e) hf⟩
    · have hsz : jts.toArray.size = i := by rw [List.size_toArray]; omega
      have hsx : i < its.toArray.size := by rw [List.size_toArray]; omega
      subst hsz
      refine wpAny_bind (wpAny_attempt (wpAny_callSpecial?_slot (name := Str.ofString "__next__") hT F.slot_zip_next (wpAny_call_entry F.slot_zip_next hT F.entry_zip_next (zipN D1 D2 hsx h1 h2 h3 ⟨h4, p⟩ ⟨h5, p'⟩ (by simp [n3, Ne.symm a1]) (by simp [n4, Ne.symm b1]) (by simp [n9, Ne.symm b3]) (by simp [n10, Ne.symm b4]) (Ne.symm n3) (Ne.symm n4) (Ne.symm n2) n8 fun g tk e kp he => ?_) (F.args_zip_next_1 _))))
      refine wpAny_bind (wpAny_isInstance (T := "StopIteration") (b := true) he isSubtype_stop ?_)
      exact wpAny_pure ⟨rfl, I.turnedL (t' := tk) (ch := [c, TI, TO, i1, i2]) (fun q o hq e => kp q o (fun z => hq (by simp [z])) (fun z => hq (by simp [z])) (fun z => hq (by simp [z])) (fun z => hq (by simp [z])) e) hf⟩
  self := by
    intro A i s Q E st hQ
    exact wpAny_pyIter_zip st.1 hQ
end L2
set_option linter.all false
set_option maxRecDepth 100000
set_option maxHeartbeats 4000000
namespace L2
open PySem PySem.Spec PyProof.Rows
section
variable {X : Cx} {K : PySem.W.Frag}
noncomputable def rZip (K : PySem.W.Frag) (vs : List V) (H : Hp) (R : It → Hp → Prop) : Prop := ∃ a b xs ys, vs = [.ref a, .ref b] ∧ SqT K H a xs ∧ SqT K H b ys ∧ R (Itz K a b) H
noncomputable def iZip (K : PySem.W.Frag) (ta : TA) : TI := fun σ H R => ta σ H fun vs H1 => rZip K vs H1 R
theorem zapart_new (m a b : Nat) (ha : a < m) (hb : b < m) : ZApart (m + 4) (m + 2) (m + 3) m (m + 1) a b := by
  have nn : ([m + 4, m + 2, m + 3, m, m + 1] : List Nat).Nodup := by
    simp only [List.nodup_cons, List.mem_cons, List.not_mem_nil, or_false, not_or, List.nodup_nil, and_true, not_false_eq_true]
    omega
  have out : ∀ c : Nat, c < m → c ∉ ([m + 4, m + 2, m + 3, m, m + 1] : List Nat) := fun c hc => by
    simp only [List.mem_cons, List.not_mem_nil, or_false, not_or]
    omega
  exact ⟨nn, out a ha, out b hb⟩
theorem pi_zip {ea eb : Expr} {ta : TA} {p pos : Pos} {elts : List Expr} {ek : Nat} {epos : Pos} (hg : Gl X "zip") (hm : X.mg "zip" = none) (ha : PA X [ea, eb] ta) (hK : X.K = K := by with_unfolding_all rfl)
    (hs2 : starEach [ea, eb] X.env = (false, eval ea X.env) :: starEach [eb] X.env := by with_unfolding_all rfl) (hpl : (backTo pos (starEach [eb] X.env)).any (·.1) = false := by with_unfolding_all rfl) :
    PI X (.Tuple elts ek epos) (.Call (.Name "zip" p) [ea, eb] [] pos) (iZip K ta) := by
  subst hK
  intro pins s σ H R I h
  refine Call_ (ld_blt I hg hm PyProof.Rows.Boot.«zip» (PyProof.Rows.callWith_type1 (thn (ha pos pins s σ H _ I h) fun us s1 ⟨vs, H1, I1, r1, q1⟩ => ?_) hs2 hpl))
  obtain ⟨a, b, xs, ys, rfl, hA, hB, q⟩ := q1
  obtain ⟨u1, u2, rfl, ra, rb⟩ := Vals.two r1
  cases ra
  cases rb
  obtain ⟨ks, rk, hta, _⟩ := I1.tuple hA
  obtain ⟨vs, rv, htb, _⟩ := I1.tuple hB
  have hal : a < s1.heap.objs.size := let ⟨_, q, _⟩ := hta; Heap.lt_size q
  have hbl : b < s1.heap.objs.size := let ⟨_, q, _⟩ := htb; Heap.lt_size q
  refine call_zipTT hta htb fun g g5 g3 g4 g1 g2 z5 kp => ?_
  refine wpAny_pyIter_zip g5 ?_
  refine ⟨s1.heap.objs.size + 4, _, _, _, H1, rfl, I1.kept (t' := s1.toks) kp, turn_zip (s1.heap.objs.size + 4) (s1.heap.objs.size + 2) (s1.heap.objs.size + 3) s1.heap.objs.size (s1.heap.objs.size + 1) a b (zapart_new _ _ _ hal hbl), ⟨g5, g3, ⟨_, _, g4⟩, ⟨_, g1, rfl, rfl⟩, ⟨_, g2, rfl, rfl⟩⟩, fun c hc => ?_, q⟩
  have hc' : s1.heap.objs.size ≤ c := by
    simp only [List.mem_cons, List.not_mem_nil, or_false] at hc
    rcases hc with rfl | rfl | rfl | rfl | rfl
    · exact Nat.le_add_right _ _
    · exact Nat.le_add_right _ _
    · exact Nat.le_add_right _ _
    · exact Nat.le_refl _
    · exact Nat.le_succ _
  exact I1.fpOk hc' (I1.hok.fresh hc')
end
section
variable {K : PySem.W.Frag} {σ : St} {H : Hp} {Q : VK}
theorem i_izip {ts : TA} {R : It → Hp → Prop} (k : ts σ H fun vs H1 => rZip K vs H1 R) : iZip K ts σ H R := k
theorem comp_zip {xs ys : List V} {f : Nat → Bool} {a b : Addr} {te : TE} {js : List Nat} (hA : SqT K H a xs) (hB : SqT K H b ys) (hz : xs.length ≤ 1000000)
    (hs : ∀ (i : Nat) x y H1 (R : VK), xs[i]? = some x → ys[i]? = some y → Same H H1 → (∀ H2, Same H1 H2 → R (.bl (f i)) H2) → te (((List.replicate 2 none ++ pick σ js).set 0 (some x)).set 1 (some y)) H1 R)
    (hd : ∀ p H', H p = none → Same H H' → H' p = some (.lst (((List.range (min xs.length ys.length)).map f).map V.bl)) → Q (.ref p) H') :
    rZip K [.ref a, .ref b] H fun J H1 => rComp 2 js (gTup K 2 (gCons (gName 0) (gCons (gName 1) gNil))) tTrue te σ J H1 Q := by
  refine ⟨a, b, xs, ys, rfl, hA, hB, fun p hp => ⟨fun i m H' => m = min xs.length ys.length - i ∧ i ≤ min xs.length ys.length ∧ Same H H' ∧ H' p = some (.lst (((List.range i).map f).map V.bl)), ⟨min xs.length ys.length, by simp, Nat.zero_le _, Same.upd hp, upd_same⟩, ?_⟩⟩
  rintro i m H' ⟨rfl, hi, e, hp'⟩
  have ga := e.seqT hA
  have gb := e.seqT hB
  by_cases hlt : i < min xs.length ys.length
  · have hx : xs[i]? = some xs[i] := List.getElem?_eq_getElem (by omega)
    have hy : ys[i]? = some ys[i] := List.getElem?_eq_getElem (by omega)
    refine .inr ⟨⟨_, _, _, _, ga, gb, hx, hy⟩, fun H2 => i + 1 ≤ min xs.length ys.length ∧ Same H H2 ∧ H2 p = some (.lst (((List.range (i + 1)).map f).map V.bl)), fun H2 hN => ⟨min xs.length ys.length - (i + 1), by omega, rfl, hN.1, hN.2.1, hN.2.2⟩, fun v H2 y => ?_⟩
    obtain ⟨t, x, y, ht, rfl, rfl, hx', hy'⟩ := y
    have hxx := hx' _ ga
    have hyy := hy' _ gb
    refine ⟨t, _, rfl, SqT.of upd_same, rfl, x, [y], rfl, y, [], rfl, rfl, ?_⟩
    refine hs i x y _ _ hxx hyy (e.trans (Same.upd ht)) fun H3 e3 => ?_
    have h3p : H3 p = some (.lst (((List.range i).map f).map V.bl)) := e3 _ _ (Same.upd ht _ _ hp')
    refine ⟨_, h3p, by rw [List.length_map, List.length_map, List.length_range, sizeLine_eq]; omega, hlt, ((e.trans (Same.upd ht)).trans e3).off hp ExtBut.upd, ?_⟩
    rw [upd_same, List.range_succ, List.map_append, List.map_append]
    rfl
  · have hin : i = min xs.length ys.length := by omega
    subst hin
    exact .inl ⟨⟨_, _, ga, gb, by omega⟩, hd p H' hp e hp'⟩
end
end L2
set_option linter.all false
set_option maxRecDepth 100000
namespace L2
open PySem PySem.Spec PyProof.Rows
section
variable {X : Cx} {K : PySem.W.Frag} {H : Hp} {Q : VK}
noncomputable def rReprXD (K : PySem.W.Frag) : List V → Hp → VK → Prop := fun xs H Q => rReprX K xs H Q ∨ rReprD K xs H Q
theorem call_reprXDK (hq : QA X.A) (hK : X.K = K := by with_unfolding_all rfl) : CallR X (.builtin "repr") (rReprXD K) := (call_reprXK hq hK).or (call_reprRD hq hK)
theorem i_reprXI {d : PyData} {x : V} (h : Is K H d x) (h1 : d.showable = true) (h2 : d.shown.length ≤ sizeLine) (h3 : d.depth ≤ 100) (k : Q (.str d.shown) H) : rReprXD K [x] H Q := .inl (i_reprX h h1 h2 h3 k)
theorem i_reprXD {d : PyData} {a : Addr} (h : RD K H d (.ref a)) (h1 : d.showable = true) (h2 : d.shown.length ≤ sizeLine) (h3 : d.depth ≤ 100) (k : Q (.str d.shown) H) : rReprXD K [.ref a] H Q := .inr ⟨_, d, a, rfl, rfl, h, h1, h2, h3, k⟩
end
theorem eqv_str_iff {e : PyData} {z : Str} : PyData.eqv e (.str z) = true ↔ e = .str z := by
  cases e with
  | str y => simp only [PyData.eqv, PyData.str.injEq]; simp
  | _ => simp only [PyData.eqv]; simp
noncomputable def hasS (ds : List PyData) (z : Str) : Bool := ds.any fun e => PyData.eqv e (.str z)
theorem any_str {ds : List PyData} {z : Str} : hasS ds z = true ↔ PyData.str z ∈ ds := by
  unfold hasS
  rw [List.any_eq_true]
  constructor
  · rintro ⟨e, he, h⟩
    rw [← eqv_str_iff.mp h]
    exact he
  · exact fun h => ⟨_, h, eqv_str_iff.mpr rfl⟩
theorem eqvAll_str : ∀ {ds : List PyData} {row : List Str}, PyData.eqvAll ds (row.map PyData.str) = true ↔ ds = row.map PyData.str
  | [], [] => by simp [PyData.eqvAll]
  | [], _ :: _ => by simp [PyData.eqvAll]
  | _ :: _, [] => by simp [PyData.eqvAll]
  | d :: ds, z :: row => by
    simp only [List.map_cons, PyData.eqvAll, Bool.and_eq_true, eqv_str_iff, eqvAll_str, List.cons.injEq]
theorem eqv_row {ds : List PyData} {row : List Str} : PyData.eqv (.tuple ds) (nmD row) = true ↔ ds = row.map PyData.str := by
  unfold nmD
  simp only [PyData.eqv]
  exact eqvAll_str
end L2
set_option linter.all false
set_option maxRecDepth 100000
namespace L2
open PySem PySem.Spec PyProof.Rows
theorem meets_extT (a : Addr) (its : Array Value) (n : Nat) (b : Addr) (more : Array Value) (m : Nat) (sl : Array (Option Value)) (h0 : ¬(!its.isEmpty && Builtin.List.listTooLong (its.size + more.size)) = true) (h1 : its.size ≤ sizeLine) (h2 : its.size + more.size ≤ sizeLine + 1) :
    Meets (Builtin.«list.extend» ⟨[.ref a, .ref b], []⟩) (fun _ R s => s.heap.get? a = some { cls := .type "list", data := .seq its n } ∧ s.heap.get? b = some { cls := .type "tuple", data := .seq more m, slots := sl } ∧ R (.ok (.ret Value.none)) { s with heap := s.heap.update a (Obj.mapSeq fun x => x ++ more) }) := by
  refine .of_wp fun prog w A R s h => ?_
  obtain ⟨hp, g, dd, tk, os⟩ := s
  obtain ⟨ha, hb, h⟩ := h
  have f2 := sub_tuple_tuple
  have f3 := sub_list_list
  have f4 := sub_tuple_list
  have f5 := sub_list_tuple
  have hz : (its ++ more).size ≤ sizeLine + 1 := by rw [Array.size_append]; exact h2
  wp_walk using (wpAny_updateSeq ha rfl (hz := h1) (_hz' := hz)), wpAny_loadPart' ha, wpAny_loadPart' hb
  exact ⟨_, rfl, h⟩
section
variable {X : Cx} {K : PySem.W.Frag}
noncomputable def rExtB (K : PySem.W.Frag) : V → List V → Hp → VK → Prop := fun x vs H Q => rExtend x vs H Q ∨ ∃ l b xs zs, x = .ref l ∧ vs = [.ref b] ∧ H l = some (.lst xs) ∧ SqT K H b zs ∧ xs.length + zs.length ≤ sizeLine ∧ Q .non (upd H l (.lst (xs ++ zs)))
theorem mt_extendB (hK : X.K = K := by with_unfolding_all rfl) : MtM X "list.extend" (rExtB K) := by
  subst hK
  intro pins s σ H x vs v us Q I rx rv h
  rcases h with h | h
  · exact mt_extend pins s σ H x vs v us Q I rx rv h
  obtain ⟨l, b, xs, zs, rfl, rfl, hH, hB, hz, q⟩ := h
  cases rx
  obtain ⟨u, rfl, ru⟩ := rv.one
  cases ru
  obtain ⟨z, its, n, r, hl, e⟩ := I.lstM hH
  obtain ⟨it2, r2, ⟨o, g1, g2, m, g3⟩, hl2⟩ := I.tuple hB
  obtain ⟨ob, g5, g4⟩ := I.tupleN hB
  rw [g1] at g5
  cases g5
  obtain ⟨cl, dc, da, sl⟩ := o
  cases g2
  cases g3
  cases g4
  have l1 := r.length
  have l2 := r2.length
  have hsz : its.toArray.size + it2.toArray.size ≤ sizeLine := by rw [List.size_toArray, List.size_toArray]; omega
  have hlong : ¬ (!its.toArray.isEmpty && Builtin.List.listTooLong (its.toArray.size + it2.toArray.size)) = true := by
    rw [notLongL hsz, Bool.and_false]
    exact Bool.false_ne_true
  refine call_meets F.slot_list_extend ⟨_, e, rfl⟩ F.entry_list_extend (F.args_list_extend_2 _ _) (meets_extT l its.toArray n b it2.toArray m sl hlong (by omega) (by omega)) ⟨e, g1, ?_⟩
  refine ⟨.non, _, I.lset (its' := its ++ it2) hH e (by simp) (r.append r2) ?_, rfl, q⟩
  rw [List.length_append]
  omega
theorem i_extT {l b : Addr} {xs zs : List V} {H : Hp} {Q : VK} (h : H l = some (.lst xs)) (hb : SqT K H b zs) (hz : xs.length + zs.length ≤ 1000000) (k : ∀ H', ExtBut l H H' → H' l = some (.lst (xs ++ zs)) → Q .non H') : rExtB K (.ref l) [.ref b] H Q :=
  .inr ⟨l, b, xs, zs, rfl, rfl, h, hb, line_of hz, k _ ExtBut.upd upd_same⟩
end
end L2
set_option Elab.async false
set_option linter.all false
set_option maxRecDepth 100000
set_option maxHeartbeats 4000000
namespace K12
open PySem L2 PySem.Spec PyProof.Rows
noncomputable def top (i : Nat) : Stmt := PySem.Challenge.pw_halforder_k12_bunches_and_covers_of_any.main.body.getD i (.Pass ⟨0, 0, 0, 0⟩)
noncomputable abbrev s_behind_each : Stmt := top 1
theorem sc_behind_each : FnScope ["half", "names", "reach", "saying", "middle", "name"] ["half"] (defScope s_behind_each) := ⟨rfl, rfl, rfl, by decide +kernel, rfl, by decide +kernel, by decide +kernel⟩
noncomputable abbrev s_are_untold : Stmt := top 2
theorem sc_are_untold : FnScope ["reach", "one", "other"] ["reach", "one", "other"] (defScope s_are_untold) := ⟨rfl, rfl, rfl, by decide +kernel, rfl, by decide +kernel, by decide +kernel⟩
noncomputable abbrev s_no_two_told : Stmt := top 4
theorem sc_no_two_told : FnScope ["reach", "names", "place", "one"] ["reach", "names"] (defScope s_no_two_told) := ⟨rfl, rfl, rfl, by decide +kernel, rfl, by decide +kernel, by decide +kernel⟩
noncomputable abbrev s_is_bunch : Stmt := top 5
theorem sc_is_bunch : FnScope ["half", "thing"] ["half", "thing"] (defScope s_is_bunch) := ⟨rfl, rfl, rfl, by decide +kernel, rfl, by decide +kernel, by decide +kernel⟩
noncomputable abbrev s_is_chain : Stmt := top 6
theorem sc_is_chain : FnScope ["names", "reach", "thing"] ["names", "reach", "thing"] (defScope s_is_chain) := ⟨rfl, rfl, rfl, by decide +kernel, rfl, by decide +kernel, by decide +kernel⟩
noncomputable abbrev s_is_cover : Stmt := top 7
theorem sc_is_cover : FnScope ["half", "thing", "reach", "standing", "chain"] ["half", "thing"] (defScope s_is_cover) := ⟨rfl, rfl, rfl, by decide +kernel, rfl, by decide +kernel, by decide +kernel⟩
noncomputable abbrev s__law_feed : Stmt := top 9
theorem sc__law_feed : FnScope ["_law_script"] ["_law_script"] (defScope s__law_feed) := ⟨rfl, rfl, rfl, by decide +kernel, rfl, by decide +kernel, by decide +kernel⟩
noncomputable abbrev s__law_draw : Stmt := top 10
theorem sc__law_draw : FnScope ["_law_feed_here", "_law_many", "_law_cell", "_law_mixed", "_law_found"] ["_law_feed_here", "_law_many"] (defScope s__law_draw) := ⟨rfl, rfl, rfl, by decide +kernel, rfl, by decide +kernel, by decide +kernel⟩
noncomputable abbrev s__law_names : Stmt := top 11
theorem sc__law_names : FnScope ["_law_feed_here", "_law_many", "_law_letters", "_law_start", "_law_way", "_law_size", "_law_at", "_law_names_here", "_law_head", "_law_tail", "_law_turn"] ["_law_feed_here", "_law_many"] (defScope s__law_names) := ⟨rfl, rfl, rfl, by decide +kernel, rfl, by decide +kernel, by decide +kernel⟩
noncomputable abbrev s__law_shuffled : Stmt := top 12
theorem sc__law_shuffled : FnScope ["_law_feed_here", "_law_some", "_law_left", "_law_found", "_law_k"] ["_law_feed_here", "_law_some"] (defScope s__law_shuffled) := ⟨rfl, rfl, rfl, by decide +kernel, rfl, by decide +kernel, by decide +kernel⟩
noncomputable abbrev s__law_pairs : Stmt := top 13
theorem sc__law_pairs : FnScope ["_law_feed_here", "_law_line", "_law_many", "_law_way", "_law_found", "_law_k", "_law_at", "_law_cut", "_law_one"] ["_law_feed_here", "_law_line"] (defScope s__law_pairs) := ⟨rfl, rfl, rfl, by decide +kernel, rfl, by decide +kernel, by decide +kernel⟩
noncomputable abbrev s__law_sayings : Stmt := top 14
theorem sc__law_sayings : FnScope ["_law_feed_here", "_law_line", "_law_found", "_law_pair", "_law_turn"] ["_law_feed_here", "_law_line"] (defScope s__law_sayings) := ⟨rfl, rfl, rfl, by decide +kernel, rfl, by decide +kernel, by decide +kernel⟩
noncomputable abbrev s__law_half : Stmt := top 15
theorem sc__law_half : FnScope ["_law_feed_here", "_law_most", "_law_names_here"] ["_law_feed_here", "_law_most"] (defScope s__law_half) := ⟨rfl, rfl, rfl, by decide +kernel, rfl, by decide +kernel, by decide +kernel⟩
noncomputable abbrev s__law_behind : Stmt := top 16
theorem sc__law_behind : FnScope ["_law_half_here", "_law_name", "_law_found", "_law_line", "_law_here", "_law_one", "_law_other"] ["_law_half_here", "_law_name"] (defScope s__law_behind) := ⟨rfl, rfl, rfl, by decide +kernel, rfl, by decide +kernel, by decide +kernel⟩
noncomputable abbrev s__law_table : Stmt := top 17
theorem sc__law_table : FnScope ["_law_half_here"] ["_law_half_here"] (defScope s__law_table) := ⟨rfl, rfl, rfl, by decide +kernel, rfl, by decide +kernel, by decide +kernel⟩
noncomputable abbrev s__law_closed : Stmt := top 18
theorem sc__law_closed : FnScope ["_law_half_here", "_law_table_here", "_law_found", "_law_one"] ["_law_half_here"] (defScope s__law_closed) := ⟨rfl, rfl, rfl, by decide +kernel, rfl, by decide +kernel, by decide +kernel⟩
noncomputable abbrev s__law_odd : Stmt := top 19
theorem sc__law_odd : FnScope ["_law_feed_here", "_law_part", "_law_some"] ["_law_feed_here", "_law_part"] (defScope s__law_odd) := ⟨rfl, rfl, rfl, by decide +kernel, rfl, by decide +kernel, by decide +kernel⟩
noncomputable abbrev s__law_bent : Stmt := top 20
theorem sc__law_bent : FnScope ["_law_feed_here", "_law_part", "_law_deep", "_law_at"] ["_law_feed_here", "_law_part", "_law_deep"] (defScope s__law_bent) := ⟨rfl, rfl, rfl, by decide +kernel, rfl, by decide +kernel, by decide +kernel⟩
noncomputable abbrev s__law_layers : Stmt := top 21
theorem sc__law_layers : FnScope ["_law_half_here", "_law_table_here", "_law_left", "_law_found", "_law_ahead", "_law_name"] ["_law_half_here"] (defScope s__law_layers) := ⟨rfl, rfl, rfl, by decide +kernel, rfl, by decide +kernel, by decide +kernel⟩
noncomputable abbrev s__law_is_chain : Stmt := top 22
theorem sc__law_is_chain : FnScope ["_law_half_here", "_law_thing"] ["_law_half_here", "_law_thing"] (defScope s__law_is_chain) := ⟨rfl, rfl, rfl, by decide +kernel, rfl, by decide +kernel, by decide +kernel⟩
noncomputable abbrev s__law_is_bunch : Stmt := top 23
theorem sc__law_is_bunch : FnScope ["_law_half_here", "_law_thing", "_law_told", "_law_one"] ["_law_half_here", "_law_thing"] (defScope s__law_is_bunch) := ⟨rfl, rfl, rfl, by decide +kernel, rfl, by decide +kernel, by decide +kernel⟩
noncomputable abbrev s__law_is_cover : Stmt := top 24
theorem sc__law_is_cover : FnScope ["_law_half_here", "_law_thing", "_law_met", "_law_chain"] ["_law_half_here", "_law_thing"] (defScope s__law_is_cover) := ⟨rfl, rfl, rfl, by decide +kernel, rfl, by decide +kernel, by decide +kernel⟩
noncomputable abbrev s__law_some_cover : Stmt := top 25
theorem sc__law_some_cover : FnScope ["_law_feed_here", "_law_half_here", "_law_found", "_law_layer", "_law_name", "_law_able", "_law_at"] ["_law_feed_here", "_law_half_here"] (defScope s__law_some_cover) := ⟨rfl, rfl, rfl, by decide +kernel, rfl, by decide +kernel, by decide +kernel⟩
noncomputable abbrev s__law_right : Stmt := top 26
theorem sc__law_right : FnScope ["_law_half_here", "_law_thing", "_law_kept"] ["_law_half_here", "_law_thing"] (defScope s__law_right) := ⟨rfl, rfl, rfl, by decide +kernel, rfl, by decide +kernel, by decide +kernel⟩
noncomputable abbrev s_law : Stmt := top 27
theorem sc_law : FnScope ["_law_script", "_law_feed_here", "_law_k", "_law_half_here", "_law_chains", "_law_some", "_law_j", "_law_layer", "_law_thing"] ["_law_script"] (defScope s_law) := ⟨rfl, rfl, rfl, by decide +kernel, rfl, by decide +kernel, by decide +kernel⟩
structure TopF (mg : Str → Option Value) : Prop where
  b_all : mg "all" = none
  b_dict : mg "dict" = none
  b_enumerate : mg "enumerate" = none
  b_int : mg "int" = none
  b_isinstance : mg "isinstance" = none
  b_len : mg "len" = none
  b_list : mg "list" = none
  b_range : mg "range" = none
  b_repr : mg "repr" = none
  b_sorted : mg "sorted" = none
  b_str : mg "str" = none
  b_tuple : mg "tuple" = none
  b_zip : mg "zip" = none
section
variable {P : Program} {w : World} {K : PySem.W.Frag} {mg : Str → Option Value} {base : Heap}
local macro_rules | `(tactic| walk_at "lk") => L2.mRows "as | Same.lk e h: e=as h=lk | ExtBut.lk e h n: e=as n=ne h=lk | no"
local macro_rules | `(tactic| walk_at "ne") => L2.mRows "as | Ne.symm q: q=as | ne_of_none h g: g=as h=lk | ne_none2 h g: g=as h=lk | ne_of h g z: h=as g=as z=nc | no"
local macro_rules | `(tactic| walk_at "nc") => `(tactic| (intro z; cases z))
local macro_rules | `(tactic| walk_at "fr") => L2.mRows "ExtBut.refl | ExtBut.trans a b: b=as a=fr | ExtBut.same a b: b=as a=fr | ExtBut.off a q b: b=as q=as a=fr | no"
local macro_rules | `(tactic| walk_at "sm") => L2.mRows "same_refl | Same.trans a b: b=as a=sm | Same.off a q b: b=as q=as a=sm | no"
local macro_rules | `(tactic| walk_at "fd") => L2.mRows "as | Feed.same h e: e=as h=fd | Feed.off h e q f: e=as q=as f=as h=fd | no"
local macro_rules | `(tactic| walk_at "fz1") => L2.mRows "Same.fz b: b=as | ExtBut.fzL b l: b=as l=lk | ExtBut.fzD b l: b=as l=lk | Feed.fz f b: b=as f=fd | no"
local macro_rules | `(tactic| walk_at "fz") => L2.mRows "fz_refl | Fz.trans a x: x=fz1 a=fz | no"
local macro_rules | `(tactic| walk_at "sd") => `(tactic| first | omega | (show (0 : Int) < _; omega) | (unfold CDiv; omega) | (unfold CMul; omega) | (unfold CPow; omega) | (unfold CPow; decide) | (refine ⟨?_, ?_⟩ <;> omega) | decide)
local macro_rules | `(tactic| walk_at "sz") => `(tactic| first | decide | exact line_of (by omega) | (rw [sizeLine_eq]; omega))
local macro_rules | `(tactic| walk_at "kv") => `(tactic| rfl)
local macro_rules | `(tactic| walk_at "rq1") => do
  let a ← L2.mAlts "i_asg i_gname i_ret i_drop i_if i_op i_un i_call i_cb i_cons i_nil i_c i_put i_tTest i_tB i_not i_and i_or i_tup i_lst i_next i_sl i_noPart i_part i_int i_for i_rng1 i_rng2 i_comp i_itS i_iany i_ienum i_ienumL i_irev i_chain i_andV i_orV i_notV i_dget1 i_tAt i_sSt i_tMe i_tMk i_tTru i_dget2 i_iDT i_bmT i_rU i_rI0 i_addI i_bl i_bm i_bm0 i_reprKB i_isN i_isNotN i_isB i_isNotB i_true i_tyS i_find i_intB i_inS i_pair i_pair0 iteR iteNR iteNbb itebb iteT iteF iteNT iteNF"
  let b ← L2.mRows "i_var w _: w=kv | i_rI w _: w=sd | i_mulBI w _: w=sd | i_tyLm w _: w=lk | i_ixD w v _: w=lk v=kv | i_eqS w _: w=kv | i_neS w _: w=kv | i_slS w _: w=sz | i_addS w _: w=sz | i_lenS w _: w=sz | i_lenL w _: w=lk | i_lenT w _: w=lk | i_cutN w _: w=ar"
  let c ← L2.mAltG "i_seqAG i_seqDG i_seqPG"
  `(tactic| first | $c:tactic | $a:tactic | $b:tactic)
local macro_rules | `(tactic| walk_at "rd1") => `(tactic| first | with_reducible refine i_seqG fun N hN => ?_ | walk_at "rq1")
local macro_rules | `(tactic| walk_at "rq") => `(tactic| repeat (walk_at "rq1"))
local macro_rules | `(tactic| walk_at "rd") => `(tactic| repeat (walk_at "rd1"))
noncomputable def feedKvs (l : Addr) (a t u : Int) : List (Key × V) := [(Sum.inr "cells", .ref l), (Sum.inr "at", .int a), (Sum.inr "left", .int t), (Sum.inr "turn", .int u)]
noncomputable def Feed (H : Hp) (d l : Addr) : Prop := ∃ (a t u : Int) (ns : List Int), H d = some (.dK (feedKvs l a t u)) ∧ H l = some (.lst (ns.map V.int)) ∧ 0 < ns.length ∧ ns.length ≤ 64
noncomputable def sp__law_feed (K : PySem.W.Frag) : Sp := fun vs H Q _ => ∃ (a : Addr) (ns : List Int), vs = [.ref a] ∧ SqL K H a (ns.map V.int) ∧ ns.length ≤ 63 ∧ ∀ d l H', H d = none → H l = none → Same H H' → Feed H' d l → Q (.ref d) H'
noncomputable def sp__law_draw (K : PySem.W.Frag) : Sp := fun vs H Q _ => ∃ d l n, vs = [.ref d, .int n] ∧ Feed H d l ∧ 0 < n ∧ n < 1073741824 ∧ ∀ r H', 0 ≤ r → r < n → ExtBut d H H' → Feed H' d l → Q (.int r) H'
theorem fd_cells {l : Addr} {a t u : Int} : valV (feedKvs l a t u) (Sum.inr "cells" : Key) = some (.ref l) := by rfl
theorem fd_at {l : Addr} {a t u : Int} : valV (feedKvs l a t u) (Sum.inr "at" : Key) = some (.int a) := by rfl
theorem fd_left {l : Addr} {a t u : Int} : valV (feedKvs l a t u) (Sum.inr "left" : Key) = some (.int t) := by rfl
theorem fd_turn {l : Addr} {a t u : Int} : valV (feedKvs l a t u) (Sum.inr "turn" : Key) = some (.int u) := by rfl
local macro_rules | `(tactic| walk_at "kv") => `(tactic| first | exact fd_cells | exact fd_at | exact fd_left | exact fd_turn | rfl)
theorem put_turn {l : Addr} {a t u x : Int} : putK (feedKvs l a t u) (Sum.inr "turn" : Key) (.int x) = feedKvs l a t x := by rfl
theorem put_at {l : Addr} {a t u x : Int} : putK (feedKvs l a t u) (Sum.inr "at" : Key) (.int x) = feedKvs l x t u := by rfl
theorem put_left {l : Addr} {a t u x : Int} : putK (feedKvs l a t u) (Sum.inr "left" : Key) (.int x) = feedKvs l a x u := by rfl
theorem Feed.same {H H' : Hp} {d l : Addr} (h : Feed H d l) (e : Same H H') : Feed H' d l := let ⟨a, t, u, ns, h1, h2, h3, h4⟩ := h; ⟨a, t, u, ns, e _ _ h1, e _ _ h2, h3, h4⟩
theorem Feed.put {H H' : Hp} {d l p : Addr} (h : Feed H d l) (e : ExtBut p H H') (hd : d ≠ p) (hl : l ≠ p) : Feed H' d l := let ⟨a, t, u, ns, h1, h2, h3, h4⟩ := h; ⟨a, t, u, ns, e _ _ hd h1, e _ _ hl h2, h3, h4⟩
theorem Feed.nd {H : Hp} {d l p : Addr} (h : Feed H d l) (hp : H p = none) : d ≠ p := let ⟨_, _, _, _, h1, _⟩ := h; ne_of_none h1 hp
theorem Feed.nl {H : Hp} {d l p : Addr} (h : Feed H d l) (hp : H p = none) : l ≠ p := let ⟨_, _, _, _, _, h2, _⟩ := h; ne_of_none h2 hp
theorem Feed.lst {H : Hp} {d l b : Addr} {xs : List V} (h : Feed H d l) (hb : H b = some (.lst xs)) : b ≠ d := let ⟨_, _, _, _, h1, _⟩ := h; ne_of hb h1 (by intro z; cases z)
theorem Feed.free {H H' : Hp} {d l p : Addr} (h : Feed H' d l) (e : ExtBut d H H') (hp : H' p = none) : H p = none := by
  cases hq : H p with
  | none => rfl
  | some o =>
    obtain ⟨_, _, _, _, h1, _⟩ := h
    have n : p ≠ d := fun q => by subst q; rw [hp] at h1; cases h1
    rw [e p o n hq] at hp
    cases hp
theorem Feed.fz {H H' : Hp} {d l : Addr} (h : Feed H d l) (e : ExtBut d H H') : Fz H H' := let ⟨_, _, _, _, h1, _⟩ := h; e.fzD h1
theorem Feed.off {H H1 H2 : Hp} {d l q : Addr} (h : Feed H1 d l) (e : ExtBut q H1 H2) (hq : H q = none) (hF : Feed H d l) : Feed H2 d l := h.put e (hF.nd hq) (hF.nl hq)
theorem ok__law_draw {f : Addr} {fd : FuncData} (F : Fun K "_law_draw" "_law_draw" s__law_draw f fd) (T : TopF mg) : FnOk P w K mg base CX0 1 f fd ["_law_feed_here", "_law_many"] (sp__law_draw K) := by
  refine F.ok sc__law_draw (fun vs H Q E h => ?_) (fun cdv A outer s H vs Q E hr h => ?_)
  · obtain ⟨d, l, n, rfl, _⟩ := h
    rfl
  · obtain ⟨d, l, n, rfl, ⟨a, t, u, ns, hd, hl, h0, h64⟩, hn, hn2, k⟩ := h
    have hu := hu_of hr
    have hq := qa_of hr
    have hld : l ≠ d := ne_of hl hd (by intro z; cases z)
    with_reducible refine ⟨_, (pss_cons (ps_dput hu (pv 0) pe_str (pe_op (op_addK (K := K)) (pe_ix (ix_anyK (K := K) hu) (pv 0) pe_str (by with_unfolding_all exact fun _ _ => rfl)) pe_int) (by with_unfolding_all rfl))
      (pss_cons (ps_if (pt_cmpR (op_eqK (K := K) hq) (pe_ix (ix_anyK (K := K) hu) (pv 0) pe_str (by with_unfolding_all exact fun _ _ => rfl)) pe_int (nomark _)) (pss_cons (ps_set (i := 2) sc__law_draw.nd (by with_unfolding_all rfl) (by with_unfolding_all exact Or.inl rfl) (pe_ix (ix_anyK (K := K) hu) (pe_ix (ix_anyK (K := K) hu) (pv 0) pe_str (by with_unfolding_all exact fun _ _ => rfl)) (pe_op op_mod (pe_ix (ix_anyK (K := K) hu) (pv 0) pe_str (by with_unfolding_all exact fun _ _ => rfl)) (pe_callB (call_lenK (K := K)) (by with_unfolding_all rfl) T.b_len PyProof.Rows.Boot.«len» (pa_cons (pe_ix (ix_anyK (K := K) hu) (pv 0) pe_str (by with_unfolding_all exact fun _ _ => rfl)) pa_nil))) (by with_unfolding_all exact fun _ _ => rfl)))
      (pss_cons (ps_dput hu (pv 0) pe_str (pe_op (op_addK (K := K)) (pe_ix (ix_anyK (K := K) hu) (pv 0) pe_str (by with_unfolding_all exact fun _ _ => rfl)) pe_int) (by with_unfolding_all rfl))
      (pss_cons (ps_if (pt_cmpR op_lt (pv 2) (pe_op op_pow pe_int pe_int) (nomark _)) (pss_cons (ps_set (i := 3) sc__law_draw.nd (by with_unfolding_all rfl) (by with_unfolding_all exact Or.inl rfl) (pe_op op_mod (pe_op op_mulB (pe_op (op_addK (K := K)) (pe_op op_mod (pv 2) pe_int) (pe_op op_mulB pe_int (pe_ix (ix_anyK (K := K) hu) (pv 0) pe_str (by with_unfolding_all exact fun _ _ => rfl)))) pe_int) pe_int))
      (pss_cons (ps_set (i := 3) sc__law_draw.nd (by with_unfolding_all rfl) (by with_unfolding_all exact Or.inl rfl) (pe_op op_mod (pe_op op_mulB (pe_op (op_addK (K := K)) (pe_op op_fdivA (pv 3) pe_int) (pe_op op_mulB pe_int (pe_ix (ix_anyK (K := K) hu) (pv 0) pe_str (by with_unfolding_all exact fun _ _ => rfl)))) pe_int) pe_int))
      (pss_one (ps_ret (pe_op op_mod (pe_op op_fdivA (pv 3) pe_int) (pv 1)))))) pss_nil)
      (pss_one (ps_dput hu (pv 0) pe_str (pv 2) (by with_unfolding_all rfl)))))) pss_nil)
      (pss_cons (ps_set (i := 4) sc__law_draw.nd (by with_unfolding_all rfl) (by with_unfolding_all exact Or.inl rfl) (pe_op op_mod (pe_ix (ix_anyK (K := K) hu) (pv 0) pe_str (by with_unfolding_all exact fun _ _ => rfl)) (pv 1)))
      (pss_cons (ps_dput hu (pv 0) pe_str (pe_op op_fdivA (pe_ix (ix_anyK (K := K) hu) (pv 0) pe_str (by with_unfolding_all exact fun _ _ => rfl)) (pv 1)) (by with_unfolding_all rfl))
      (pss_one (ps_ret (pv 4))))))), ?_⟩
    walk_at "rd"
    refine i_dput hd (by show 4 < 1000; decide) fun H1 e1 hd1 => ?_
    rw [put_turn] at hd1
    have hl1 : H1 l = some (.lst (ns.map V.int)) := e1 _ _ hld hl
    walk_at "rd"
    refine ite2 (fun ht => ?_) (fun ht => ?_)
    · walk_at "rd"
      have hlen : (0 : Int) < ((ns.map V.int).length : Nat) := by rw [List.length_map]; omega
      refine i_rI hlen ?_
      have hm0 : 0 ≤ a % (((ns.map V.int).length : Nat) : Int) := Int.emod_nonneg _ (by omega)
      have hm1 := Int.emod_lt_of_pos a hlen
      obtain ⟨c, hc⟩ : ∃ c, (ns.map V.int)[(a % (((ns.map V.int).length : Nat) : Int)).toNat]? = some (V.int c) := by
        refine ⟨ns[(a % (((ns.map V.int).length : Nat) : Int)).toNat]'(by rw [List.length_map] at *; omega), ?_⟩
        rw [List.getElem?_map, List.getElem?_eq_getElem]
        rfl
      refine i_ixL hl1 (by
        have := atI_nat hc
        rwa [Int.toNat_of_nonneg hm0] at this) ?_
      walk_at "rd"
      refine i_dput hd1 (by show 4 < 1000; decide) fun H2 e2 hd2 => ?_
      rw [put_at] at hd2
      have hl2 : H2 l = some (.lst (ns.map V.int)) := e2 _ _ hld hl1
      walk_at "rd"
      refine ite2 (fun hc1 => ?_) (fun hc1 => ?_)
      · walk_at "rd"
        exact k _ H2 (Int.emod_nonneg _ (by omega)) (Int.emod_lt_of_pos _ hn) (e1.trans e2) ⟨_, _, _, ns, hd2, hl2, h0, h64⟩
      · walk_at "rd"
        refine i_dput hd2 (by show 4 < 1000; decide) fun H3 e3 hd3 => ?_
        rw [put_left] at hd3
        have hl3 : H3 l = some (.lst (ns.map V.int)) := e3 _ _ hld hl2
        walk_at "rd"
        refine i_dput hd3 (by show 4 < 1000; decide) fun H4 e4 hd4 => ?_
        rw [put_left] at hd4
        have hl4 : H4 l = some (.lst (ns.map V.int)) := e4 _ _ hld hl3
        walk_at "rd"
        exact k _ H4 (Int.emod_nonneg _ (by omega)) (Int.emod_lt_of_pos _ hn) (((e1.trans e2).trans e3).trans e4) ⟨_, _, _, ns, hd4, hl4, h0, h64⟩
    · walk_at "rd"
      refine i_dput hd1 (by show 4 < 1000; decide) fun H2 e2 hd2 => ?_
      rw [put_left] at hd2
      have hl2 : H2 l = some (.lst (ns.map V.int)) := e2 _ _ hld hl1
      walk_at "rd"
      exact k _ H2 (Int.emod_nonneg _ (by omega)) (Int.emod_lt_of_pos _ hn) (e1.trans e2) ⟨_, _, _, ns, hd2, hl2, h0, h64⟩
theorem feed_ms (ns : List Int) (h : ns.length ≤ 63) : ∃ ms : List Int, cutV (ns.map V.int) none (some 63) ++ (List.replicate (if (PyData.list (ns.map PyData.int)).eqv (PyData.list (([] : List Int).map PyData.int)) = true then (1 : Int) else 0).toNat [V.int 0]).flatten = ms.map V.int ∧ 0 < ms.length ∧ ms.length ≤ 64 := by
  have hc : cutV (ns.map V.int) none (some 63) = ns.map V.int := by
    unfold cutV
    have e : HT.sIx (ns.map V.int).length (ns.map V.int).length (some 63) = (ns.map V.int).length := by
      have := HT.sIx_nat (ns.map V.int).length (ns.map V.int).length 63
      rw [List.length_map] at *
      rw [show ((63 : Nat) : Int) = (63 : Int) from rfl] at this
      rw [this]
      omega
    rw [HT.sIx_none, e, List.drop_zero, Nat.sub_zero, List.take_length]
  rw [hc]
  cases ns with
  | nil => exact ⟨[0], by simp [PyData.eqv, PyData.eqvAll], by decide, by decide⟩
  | cons n r => exact ⟨n :: r, by simp [PyData.eqv, PyData.eqvAll], by simp, by omega⟩
theorem ok__law_feed {f : Addr} {fd : FuncData} (F : Fun K "_law_feed" "_law_feed" s__law_feed f fd) (T : TopF mg) : FnOk P w K mg base CX0 1 f fd ["_law_script"] (sp__law_feed K) := by
  refine F.ok sc__law_feed (fun vs H Q E h => ?_) (fun cdv A outer s H vs Q E hr h => ?_)
  · obtain ⟨a, ns, rfl, _⟩ := h
    rfl
  · obtain ⟨a, ns, rfl, hS, h63, k⟩ := h
    have hu := hu_of hr
    have hq := qa_of hr
    with_reducible refine ⟨_, (pss_one (ps_ret (pe_disp (pps_cons pe_str (pe_op (op_addK (K := K)) (pe_callTy (call_listK (K := K)) (by with_unfolding_all rfl) T.b_list PyProof.Rows.Boot.«list» (pa_cons (pe_slice (sl_K (K := K)) (pv 0) po_none (po_some pe_int)) pa_nil)) (pe_op op_mulB (pe_lst (pa_cons pe_int pa_nil)) (pe_callTy call_intA (by with_unfolding_all rfl) T.b_int PyProof.Rows.Boot.«int» (pa_cons (pe_cmpR (op_eqK (K := K) hq) (pv 0) (pe_lst pa_nil) (nomark _)) pa_nil)))) (pps_cons pe_str pe_int (pps_cons pe_str pe_int (pps_cons pe_str pe_int pps_nil)))) (by with_unfolding_all rfl) (by with_unfolding_all rfl) (by decide) (by decide)))), ?_⟩
    walk_at "rd"
    refine i_disp fun p H1 hp e1 hp1 => ?_
    walk_at "rd"
    have hS1 := e1.seq hS
    refine i_slL hS1 fun q H2 hq2 e2 hq2' => ?_
    walk_at "rd"
    refine i_listL (SqL.of hq2') fun r H3 hr3 e3 hr3' => ?_
    walk_at "rd"
    refine i_newL (by decide) fun z H4 hz4 e4 hz4' => ?_
    walk_at "rd"
    refine i_newL (by decide) fun y H5 hy5 e5 hy5' => ?_
    refine i_eqD (is_listI (e5.seq (e4.seq (e3.seq (e2.seq hS1))))) (is_listI (ns := []) (SqL.of hy5')) (PySem.W.ke_shaped_ints ns) (PySem.W.ke_shaped_ints []) ?_
    walk_at "rd"
    refine i_mulBL (xs := [V.int 0]) (by walk_at "lk") ?_ ?_ fun x H6 hx6 e6 hx6' => ?_
    · split <;> omega
    · split <;> decide
    refine i_addL (xs := cutV (ns.map V.int) none (some 63)) (by walk_at "lk") hx6' ?_ fun v H7 hv7 e7 hv7' => ?_
    · obtain ⟨ms, e, h1, h2⟩ := feed_ms ns h63
      rw [← List.length_append, e, List.length_map]
      exact Nat.le_trans h2 (by decide)
    walk_at "rd"
    refine i_pairs [(Sum.inr "cells", .ref v), (Sum.inr "at", .int 0), (Sum.inr "left", .int 0), (Sum.inr "turn", .int 0)] (by walk_at "lk") (by rfl) (by show 4 ≤ 15; decide) fun H8 e8 h8 => ?_
    have en : H8 p = some (.dK (feedKvs v 0 0 0)) := h8
    refine k p v H8 hp ?_ ?_ ⟨0, 0, 0, ?_⟩
    · exact e1.free (e2.free (e3.free (e4.free (e5.free (e6.free hv7)))))
    · exact fun b o hb => e8 b o (ne_of_none hb hp) (e7 _ _ (e6 _ _ (e5 _ _ (e4 _ _ (e3 _ _ (e2 _ _ (e1 _ _ hb)))))))
    · obtain ⟨ms, e, h1, h2⟩ := feed_ms ns h63
      rw [e] at hv7'
      exact ⟨ms, en, by walk_at "lk", h1, h2⟩
noncomputable def sp__law_names (K : PySem.W.Frag) : Sp := fun vs H Q _ => ∃ d l n, vs = [.ref d, .int n] ∧ Feed H d l ∧ 0 ≤ n ∧ n ≤ 10 ∧ ∀ p ns H', H p = none → ExtBut d H H' → Feed H' d l → H' p = some (.lst (ns.map V.str)) → Names ns → ns.length = n.toNat → Q (.ref p) H'
noncomputable def MN (H : Hp) (d l : Addr) (n st way sz at' : Int) : L2.St → Hp → Prop := fun σ' H' => ∃ p ns x8 x9, σ' = [some (V.ref d), some (.int n), some (.str LL), some (.int st), some (.int way), some (.int (1 + sz)), some (.int at'), some (.ref p), x8, x9, none] ∧ H p = none ∧ ExtBut d H H' ∧ Feed H' d l ∧ H' p = some (.lst (ns.map V.str)) ∧ Names ns ∧ ns.length = 10
theorem ok__law_names {f : Addr} {fd : FuncData} (F : Fun K "_law_names" "_law_names" s__law_names f fd) (T : TopF mg) (c__law_draw : Fnd P w K mg base 1 "_law_draw" ["_law_feed_here", "_law_many"] (sp__law_draw K)) : FnOk P w K mg base CX0 2 f fd ["_law_feed_here", "_law_many"] (sp__law_names K) := by
  refine F.ok sc__law_names (fun vs H Q E h => ?_) (fun cdv A outer s H vs Q E hr h => ?_)
  · obtain ⟨d, l, n, rfl, _⟩ := h
    rfl
  · obtain ⟨d, l, n, rfl, hF, hn0, hn1, k⟩ := h
    have hu := hu_of hr
    have hq := qa_of hr
    with_reducible refine ⟨_, (pss_cons (ps_set (i := 2) sc__law_names.nd (by with_unfolding_all rfl) (by with_unfolding_all exact Or.inr rfl) (pe_op op_mulB pe_str pe_int))
      (pss_cons (ps_set (i := 3) sc__law_names.nd (by with_unfolding_all rfl) (by with_unfolding_all exact Or.inr rfl) (pe_fn c__law_draw (hr.mono (by decide)) (by with_unfolding_all rfl) (pa_cons (pv 0) (pa_cons pe_int pa_nil))))
      (pss_cons (ps_set (i := 4) sc__law_names.nd (by with_unfolding_all rfl) (by with_unfolding_all exact Or.inl rfl) (pe_fn c__law_draw (hr.mono (by decide)) (by with_unfolding_all rfl) (pa_cons (pv 0) (pa_cons pe_int pa_nil))))
      (pss_cons (ps_set (i := 5) sc__law_names.nd (by with_unfolding_all rfl) (by with_unfolding_all exact Or.inl rfl) (pe_op (op_addK (K := K)) pe_int (pe_fn c__law_draw (hr.mono (by decide)) (by with_unfolding_all rfl) (pa_cons (pv 0) (pa_cons pe_int pa_nil)))))
      (pss_cons (ps_set (i := 6) sc__law_names.nd (by with_unfolding_all rfl) (by with_unfolding_all exact Or.inl rfl) (pe_fn c__law_draw (hr.mono (by decide)) (by with_unfolding_all rfl) (pa_cons (pv 0) (pa_cons (pv 5) pa_nil))))
      (pss_cons (ps_set (i := 7) sc__law_names.nd (by with_unfolding_all rfl) (by with_unfolding_all exact Or.inl rfl) (pe_lst (pa_cons pe_str (pa_cons pe_str (pa_cons pe_str (pa_cons pe_str (pa_cons pe_str (pa_cons pe_str (pa_cons pe_str (pa_cons pe_str (pa_cons pe_str (pa_cons pe_str pa_nil))))))))))))
      (pss_cons (ps_if (pt_cmpR (op_eqK (K := K) hq) (pv 4) pe_int (nomark _)) (pss_one (ps_set (i := 7) sc__law_names.nd (by with_unfolding_all rfl) (by with_unfolding_all exact Or.inl rfl) (pe_op (op_addK (K := K)) (pe_comp ["_law_k"] ["_law_letters", "_law_start"] [2, 3] (by with_unfolding_all rfl) (by with_unfolding_all rfl) (by with_unfolding_all rfl) (pi_range1 (by with_unfolding_all rfl) T.b_range (pa_cons pe_int pa_nil)) (fun _ _ _ _ => (pg_name (i := 0) (by with_unfolding_all (show (["_law_k", "_law_letters", "_law_start"] : List Str).Nodup; decide +kernel)) (by with_unfolding_all rfl) (by with_unfolding_all exact Or.inl rfl))) (gk_name (by decide)) (fun _ _ _ _ => pif_nil) (fun _ _ _ _ => (pe_slice (sl_K (K := K)) (pv 1) (po_some (pv 2)) (po_some (pe_op (op_addK (K := K)) (pe_op (op_addK (K := K)) (pv 2) pe_int) (pv 0)))))) (pe_lst (pa_cons (pe_ix (ix_anyK (K := K) hu) (pv 2) (pe_op (op_addK (K := K)) (pv 3) pe_int) (by with_unfolding_all exact fun _ _ => rfl)) (pa_cons (pe_ix (ix_anyK (K := K) hu) (pv 2) (pe_op (op_addK (K := K)) (pv 3) pe_int) (by with_unfolding_all exact fun _ _ => rfl)) pa_nil)))))) pss_nil)
      (pss_cons (ps_if (pt_cmpR (op_eqK (K := K) hq) (pv 4) pe_int (nomark _)) (pss_cons (ps_set (i := 8) sc__law_names.nd (by with_unfolding_all rfl) (by with_unfolding_all exact Or.inr rfl) (pe_slice (sl_K (K := K)) (pv 2) (po_some (pv 3)) (po_some (pe_op (op_addK (K := K)) (pv 3) (pv 6)))))
      (pss_cons (ps_set (i := 9) sc__law_names.nd (by with_unfolding_all rfl) (by with_unfolding_all exact Or.inr rfl) (pe_slice (sl_K (K := K)) (pv 2) (po_some (pe_op (op_addK (K := K)) (pe_op (op_addK (K := K)) (pv 3) (pv 6)) pe_int)) (po_some (pe_op (op_addK (K := K)) (pv 3) (pv 5)))))
      (pss_one (ps_setcomp (i := 7) ["_law_k"] ["_law_head", "_law_letters", "_law_start", "_law_tail"] [8, 2, 3, 9] (by with_unfolding_all rfl) (by with_unfolding_all rfl) (by with_unfolding_all rfl) sc__law_names.nd (by with_unfolding_all rfl) (by with_unfolding_all rfl) (pi_range1 (by with_unfolding_all rfl) T.b_range (pa_cons pe_int pa_nil)) (fun _ _ _ _ => (pg_name (i := 0) (by with_unfolding_all (show (["_law_k", "_law_head", "_law_letters", "_law_start", "_law_tail"] : List Str).Nodup; decide +kernel)) (by with_unfolding_all rfl) (by with_unfolding_all exact Or.inl rfl))) (gk_name (by decide)) (fun _ _ _ _ => pif_nil) (fun _ _ _ _ => (pe_op (op_addK (K := K)) (pe_op (op_addK (K := K)) (pv 1) (pe_ix (ix_anyK (K := K) hu) (pv 2) (pe_op (op_addK (K := K)) (pv 3) (pe_op op_mod (pe_op op_mulB pe_int (pv 0)) pe_int)) (by with_unfolding_all exact fun _ _ => rfl))) (pv 4))))))) pss_nil)
      (pss_cons (ps_if (pt_cmpR (op_eqK (K := K) hq) (pv 4) pe_int (nomark _)) (pss_one (ps_setcomp (i := 7) ["_law_k"] ["_law_letters", "_law_start"] [2, 3] (by with_unfolding_all rfl) (by with_unfolding_all rfl) (by with_unfolding_all rfl) sc__law_names.nd (by with_unfolding_all rfl) (by with_unfolding_all rfl) (pi_range1 (by with_unfolding_all rfl) T.b_range (pa_cons pe_int pa_nil)) (fun _ _ _ _ => (pg_name (i := 0) (by with_unfolding_all (show (["_law_k", "_law_letters", "_law_start"] : List Str).Nodup; decide +kernel)) (by with_unfolding_all rfl) (by with_unfolding_all exact Or.inl rfl))) (gk_name (by decide)) (fun _ _ _ _ => pif_nil) (fun _ _ _ _ => (pe_slice (sl_K (K := K)) (pv 1) (po_some (pe_op (op_addK (K := K)) (pv 2) (pv 0))) (po_some (pe_op (op_addK (K := K)) (pe_op (op_addK (K := K)) (pe_op (op_addK (K := K)) (pv 2) (pv 0)) pe_int) (pe_op op_mod (pe_op op_mulB pe_int (pv 0)) pe_int))))))) pss_nil)
      (pss_cons (ps_set (i := 10) sc__law_names.nd (by with_unfolding_all rfl) (by with_unfolding_all exact Or.inl rfl) (pe_fn c__law_draw (hr.mono (by decide)) (by with_unfolding_all rfl) (pa_cons (pv 0) (pa_cons pe_int pa_nil))))
      (pss_cons (ps_set (i := 7) sc__law_names.nd (by with_unfolding_all rfl) (by with_unfolding_all exact Or.inl rfl) (pe_op (op_addK (K := K)) (pe_slice (sl_K (K := K)) (pv 7) (po_some (pv 10)) po_none) (pe_slice (sl_K (K := K)) (pv 7) po_none (po_some (pv 10)))))
      (pss_one (ps_ret (pe_sliceStep (pe_slice (sl_K (K := K)) (pv 7) po_none (po_some (pv 1))) (pe_ix (ix_anyK (K := K) hu) (pe_lst (pa_cons pe_int (pa_cons (pe_un un_neg pe_int) pa_nil))) (pe_fn c__law_draw (hr.mono (by decide)) (by with_unfolding_all rfl) (pa_cons (pv 0) (pa_cons pe_int pa_nil))) (by with_unfolding_all exact fun _ _ => rfl)))))))))))))))), ?_⟩
    walk_at "rd"
    refine i_mulBS (by decide) ?_
    rw [LL_rep]
    walk_at "rd"
    refine ⟨d, l, _, rfl, hF, by omega, by omega, fun st H1 hs0 hs1 e1 hF1 => ?_⟩
    walk_at "rd"
    refine ⟨d, l, _, rfl, hF1, by omega, by omega, fun way H2 hw0 hw1 e2 hF2 => ?_⟩
    walk_at "rd"
    refine ⟨d, l, _, rfl, hF2, by omega, by omega, fun sz H3 hz0 hz1 e3 hF3 => ?_⟩
    walk_at "rd"
    refine ⟨d, l, _, rfl, hF3, by omega, by omega, fun at' H4 ha0 ha1 e4 hF4 => ?_⟩
    walk_at "rd"
    refine i_newL (by decide) fun p5 H5 hp5 e5 h5 => ?_
    walk_at "rq"
    have fr4 : ExtBut d H H4 := by walk_at "fr"
    have hF5 : Feed H5 d l := by walk_at "fd"
    with_reducible refine i_cut (MN H d l n st way sz at') (fun N hN => ?_) (fun σ1 H6 hM => ?_)
    · walk_at "rq"
      refine iteD (fun hw => ?_) (fun hw => ?_)
      · walk_at "rq"
        refine i_rngv (by omega) ?_
        refine comp_map walk_range (fI fun k => .str (Txt.slice LL (some st) (some (st + 1 + k)))) (by simp) (fun _ _ => trivial) (fun i x H6 R hx e6 hR => ?_) (fun p6 H6 hp6 e6 h6 => ?_)
        · obtain ⟨rfl, hi⟩ := rng_get hx
          walk_at "rq"
          exact hR
        · rw [map_rng (G := fun k => txt (cutN st.toNat (st.toNat + 1 + k))) (fun k hk => by
            have e := LL_cut (i := st) (j := st + 1 + (0 + (k : Int))) hs0 (by omega) (by have : ((8 : Int)).toNat = 8 := rfl; omega)
            have e2 : (st + 1 + (0 + (k : Int))).toNat = st.toNat + 1 + k := by omega
            rw [e2] at e
            rw [e])] at h6
          obtain ⟨c9, hc9, e9⟩ := LL_at (i := st + 9) (by omega) (by omega)
          obtain ⟨c10, hc10, e10⟩ := LL_at (i := st + 10) (by omega) (by omega)
          walk_at "rq"
          refine i_ixS LL_line hc9 ?_
          walk_at "rq"
          refine i_ixS LL_line hc10 ?_
          walk_at "rq"
          refine i_newL (line_of (by simp)) fun p7 H7 hp7 e7 h7 => ?_
          refine i_addL (by walk_at "lk") h7 (by simp [sizeLine_eq]) fun p8 H8 hp8 e8 h8 => ?_
          walk_at "rq"
          have f5 : ExtBut d H H5 := by walk_at "fr"
          refine hN _ _ ⟨p8, (nm0 st.toNat).map txt, none, none, rfl, Feed.free (l := l) (H' := H7) (by walk_at "fd") (by walk_at "fr") hp8, by walk_at "fr", by walk_at "fd", ?_, ok_nm0 (by omega), by simp [nm0]⟩
          rw [h8, e9, e10]
          have q9 : (st + 9).toNat = st.toNat + 9 := by omega
          have q10 : (st + 10).toNat = st.toNat + 10 := by omega
          rw [q9, q10]
          simp [nm0, Function.comp_def]
      · walk_at "rq"
        refine hN _ _ ⟨p5, nm3, none, none, rfl, hF4.free fr4 hp5, by walk_at "fr", hF5, h5, ok_nm3, rfl⟩
    · obtain ⟨p, ns, x8, x9, rfl, hp, e6, hF6, h6, hN6, hl6⟩ := hM
      with_reducible refine i_cut (MN H d l n st way sz at') (fun N hN => ?_) (fun σ1 H7 hM => ?_)
      · walk_at "rq"
        refine iteD (fun hw => ?_) (fun hw => ?_)
        · walk_at "rq"
          refine i_rngv (by omega) ?_
          have c1 := LL_cut (i := st) (j := st + at') hs0 (by omega) (by omega)
          have c2 := LL_cut (i := st + at' + 1) (j := st + (1 + sz)) (by omega) (by omega) (by omega)
          rw [c1, c2]
          refine comp_map walk_range (fI fun k => .str (txt (cutN st.toNat (st + at').toNat) ++ txt (sgnN (st + 5 * k % 26).toNat) ++ txt (cutN (st + at' + 1).toNat (st + (1 + sz)).toNat))) (by simp) (fun _ _ => trivial) (fun i x H8 R hx e8 hR => ?_) (fun p8 H8 hp8 e8 h8 => ?_)
          · obtain ⟨rfl, hi⟩ := rng_get hx
            have hm0 := Int.emod_nonneg (5 * (0 + (i : Int))) (show (26 : Int) ≠ 0 by decide)
            have hm1 := Int.emod_lt_of_pos (5 * (0 + (i : Int))) (show (0 : Int) < 26 by decide)
            obtain ⟨c, hc, ec⟩ := LL_at (i := st + 5 * (0 + (i : Int)) % 26) (by omega) (by omega)
            walk_at "rq"
            refine i_ixS LL_line hc ?_
            rw [ec]
            have l1 : (txt (cutN st.toNat (st + at').toNat)).length ≤ 52 := by show (cutN _ _).toArray.size ≤ _; unfold cutN; simp [LLn_len]; omega
            have l2 : (txt (cutN (st + at' + 1).toNat (st + (1 + sz)).toNat)).length ≤ 52 := by show (cutN _ _).toArray.size ≤ _; unfold cutN; simp [LLn_len]; omega
            have l3 : (txt (sgnN (st + 5 * (0 + (i : Int)) % 26).toNat)).length ≤ 52 := by show (sgnN _).toArray.size ≤ _; unfold sgnN; simp [LLn_len]; omega
            refine i_addS (line_of (by omega)) ?_
            have l4 : (txt (cutN st.toNat (st + at').toNat) ++ txt (sgnN (st + 5 * (0 + (i : Int)) % 26).toNat)).length ≤ 104 := by rw [Str.length_append]; omega
            walk_at "rq"
            exact hR
          · rw [map_rng (G := fun k => txt (cutN st.toNat (st.toNat + at'.toNat) ++ sgnN (st.toNat + 5 * k % 26) ++ cutN (st.toNat + at'.toNat + 1) (st.toNat + (1 + sz).toNat))) (fun k hk => by
              have q1 : (st + at').toNat = st.toNat + at'.toNat := by omega
              have q2 : (st + 5 * (0 + (k : Int)) % 26).toNat = st.toNat + 5 * k % 26 := by omega
              have q3 : (st + at' + 1).toNat = st.toNat + at'.toNat + 1 := by omega
              have q4 : (st + (1 + sz)).toNat = st.toNat + (1 + sz).toNat := by omega
              rw [q1, q2, q3, q4, txt_app, txt_app])] at h8
            walk_at "rq"
            refine hN _ _ ⟨p8, (nm1 st.toNat (1 + sz).toNat at'.toNat).map txt, _, _, rfl, hF6.free e6 hp8, by walk_at "fr", by walk_at "fd", ?_, ok_nm1 (by omega) (by omega) (by omega), by simp [nm1]⟩
            rw [h8]
            simp [nm1, Function.comp_def]
        · walk_at "rq"
          exact hN _ _ ⟨p, ns, x8, x9, rfl, hp, e6, hF6, h6, hN6, hl6⟩
      · obtain ⟨p', ns', x8', x9', rfl, hp', e7, hF7, h7, hN7, hl7⟩ := hM
        with_reducible refine i_cut (MN H d l n st way sz at') (fun N hN => ?_) (fun σ1 H8 hM => ?_)
        · walk_at "rq"
          refine iteD (fun hw => ?_) (fun hw => ?_)
          · walk_at "rq"
            refine i_rngv (by omega) ?_
            refine comp_map walk_range (fI fun k => .str (Txt.slice LL (some (st + k)) (some (st + k + 1 + 3 * k % 8)))) (by simp) (fun _ _ => trivial) (fun i x H8 R hx e8 hR => ?_) (fun p8 H8 hp8 e8 h8 => ?_)
            · obtain ⟨rfl, hi⟩ := rng_get hx
              walk_at "rq"
              exact hR
            · rw [map_rng (G := fun k => txt (cutN (st.toNat + k) (st.toNat + k + 1 + 3 * k % 8))) (fun k hk => by
                have h10 : ((10 : Int)).toNat = 10 := rfl
                have e := LL_cut (i := st + (0 + (k : Int))) (j := st + (0 + (k : Int)) + 1 + 3 * (0 + (k : Int)) % 8) (by omega) (by omega) (by omega)
                have q1 : (st + (0 + (k : Int))).toNat = st.toNat + k := by omega
                have q2 : (st + (0 + (k : Int)) + 1 + 3 * (0 + (k : Int)) % 8).toNat = st.toNat + k + 1 + 3 * k % 8 := by omega
                rw [q1, q2] at e
                rw [e])] at h8
              walk_at "rq"
              refine hN _ _ ⟨p8, (nm2 st.toNat).map txt, _, _, rfl, hF7.free e7 hp8, by walk_at "fr", by walk_at "fd", ?_, ok_nm2 (by omega), by simp [nm2]⟩
              rw [h8]
              simp [nm2, Function.comp_def]
          · walk_at "rq"
            exact hN _ _ ⟨p', ns', x8', x9', rfl, hp', e7, hF7, h7, hN7, hl7⟩
        · obtain ⟨p2, ms, y8, y9, rfl, hp2, e8, hF8, h8, hN8, hl8⟩ := hM
          walk_at "rd"
          refine ⟨d, l, _, rfl, hF8, by omega, by omega, fun tn H9 ht0 ht1 e9 hF9 => ?_⟩
          have nd2 : p2 ≠ d := hF8.lst h8
          walk_at "rd"
          have h9 : H9 p2 = some (.lst (ms.map V.str)) := e9 _ _ nd2 h8
          refine i_slL (SqL.of h9) fun q1 H10 hq1 e10 h10 => ?_
          walk_at "rd"
          refine i_slL (SqL.of (show H10 p2 = some (.lst (ms.map V.str)) by walk_at "lk")) fun q2 H11 hq2 e11 h11 => ?_
          walk_at "rd"
          rw [cut_from ht0 (by rw [List.length_map]; omega)] at h10
          rw [cut_upto ht0] at h11
          refine i_addL (by walk_at "lk") h11 (line_of (by simp; omega)) fun q3 H12 hq3 e12 h12 => ?_
          walk_at "rd"
          rw [← List.map_drop, ← List.map_take, ← List.map_append] at h12
          refine i_slL (SqL.of h12) fun q4 H13 hq4 e13 h13 => ?_
          walk_at "rd"
          rw [cut_upto hn0, ← List.map_take] at h13
          refine i_newL (by decide) fun q5 H14 hq5 e14 h14 => ?_
          walk_at "rd"
          refine ⟨d, l, 2, rfl, by walk_at "fd", by omega, by omega, fun r H15 hr0 hr1 e15 hF15 => ?_⟩
          have hq5d : q5 ≠ d := Ne.symm (Feed.nd (H := H13) (l := l) (by walk_at "fd") hq5)
          have hq4d : q4 ≠ d := Ne.symm (Feed.nd (H := H12) (l := l) (by walk_at "fd") hq4)
          have h15 : H15 q4 = some (.lst (((ms.drop tn.toNat ++ ms.take tn.toNat).take n.toNat).map V.str)) := e15 _ _ hq4d (by walk_at "lk")
          have g15 : H15 q5 = some (.lst [V.int 1, V.int (-1)]) := e15 _ _ hq5d h14
          have hstep : ∃ k, atI [V.int 1, V.int (-1)] r = some (V.int k) ∧ (k = 1 ∨ k = -1) := by
            rcases (by omega : r = 0 ∨ r = 1) with rfl | rfl
            · exact ⟨1, rfl, .inl rfl⟩
            · exact ⟨-1, rfl, .inr rfl⟩
          obtain ⟨kk, hk1, hk2⟩ := hstep
          refine i_ixL g15 hk1 ?_
          refine i_step (SqL.of h15) hk2 fun q6 H16 hq6 e16 h16 => ?_
          obtain ⟨os, eo, ho1, ho2⟩ := step_names (k := kk) (hN8.turn tn.toNat n.toNat)
          rw [eo] at h16
          have fr15 : ExtBut d H H15 := by walk_at "fr"
          refine k q6 os H16 (hF15.free fr15 hq6) (by walk_at "fr") (by walk_at "fd") h16 ho1 ?_
          rw [ho2, List.length_take, List.length_append, List.length_drop, List.length_take]
          omega
noncomputable def sp__law_shuffled (K : PySem.W.Frag) : Sp := fun vs H Q _ => ∃ d l a xs, vs = [.ref d, .ref a] ∧ Feed H d l ∧ (SqL K H a xs ∨ SqT K H a xs) ∧ xs.length ≤ 1000 ∧ ∀ p ys H', H p = none → ExtBut d H H' → Feed H' d l → H' p = some (.lst ys) → ys.Perm xs → Q (.ref p) H'
theorem ok__law_shuffled {f : Addr} {fd : FuncData} (F : Fun K "_law_shuffled" "_law_shuffled" s__law_shuffled f fd) (T : TopF mg) (c__law_draw : Fnd P w K mg base 1 "_law_draw" ["_law_feed_here", "_law_many"] (sp__law_draw K)) : FnOk P w K mg base CX0 2 f fd ["_law_feed_here", "_law_some"] (sp__law_shuffled K) := by
  refine F.ok sc__law_shuffled (fun vs H Q E h => ?_) (fun cdv A outer s H vs Q E hr h => ?_)
  · obtain ⟨d, l, a, xs, rfl, _⟩ := h
    rfl
  · obtain ⟨d, l, a, xs, rfl, hF, hS, hx, k⟩ := h
    have hu := hu_of hr
    have hq := qa_of hr
    with_reducible refine ⟨_, (pss_cons (ps_set (i := 2) sc__law_shuffled.nd (by with_unfolding_all rfl) (by with_unfolding_all exact Or.inl rfl) (pe_callTy (call_listK (K := K)) (by with_unfolding_all rfl) T.b_list PyProof.Rows.Boot.«list» (pa_cons (pv 1) pa_nil)))
      (pss_cons (ps_set (i := 3) sc__law_shuffled.nd (by with_unfolding_all rfl) (by with_unfolding_all exact Or.inl rfl) (pe_lst pa_nil))
      (pss_cons (ps_for PassesOwn.never (by with_unfolding_all rfl) (pi_range1 (by with_unfolding_all rfl) T.b_range (pa_cons (pe_callB (call_lenK (K := K)) (by with_unfolding_all rfl) T.b_len PyProof.Rows.Boot.«len» (pa_cons (pv 2) pa_nil)) pa_nil)) (pg_name (i := 4) sc__law_shuffled.nd (by with_unfolding_all rfl) (by with_unfolding_all exact Or.inl rfl))
      (pss_one (ps_expr (pe_bmK (K := K) PySem.F.plainAttrs_list PySem.F.slot_list_append PySem.F.type_list_append (mm mt_append) (pv 3) (pa_cons (pe_bmK (K := K) PySem.F.plainAttrs_list PySem.F.slot_list_pop PySem.F.type_list_pop (mm mt_popAt) (pv 2) (pa_cons (pe_fn c__law_draw (hr.mono (by decide)) (by with_unfolding_all rfl) (pa_cons (pv 0) (pa_cons (pe_callB (call_lenK (K := K)) (by with_unfolding_all rfl) T.b_len PyProof.Rows.Boot.«len» (pa_cons (pv 2) pa_nil)) pa_nil))) pa_nil)) pa_nil)))))
      (pss_one (ps_ret (pv 3)))))), ?_⟩
    walk_at "rd"
    refine i_listA hS fun q H1 hq1 e1 h1 => ?_
    walk_at "rd"
    refine i_newL (by decide) fun p H2 hp2 e2 h2 => ?_
    walk_at "rd"
    refine i_rngv (by omega) ?_
    have hp0 : H p = none := e1.free hp2
    have hpq : p ≠ q := fun z => by subst z; rw [h1] at hp2; cases hp2
    refine for_by walk_range (fun i σ H3 => ∃ us vs x4, σ = [some (.ref d), some (.ref a), some (.ref q), some (.ref p), x4] ∧ ExtBut d H H3 ∧ Feed H3 d l ∧ H3 q = some (.lst us) ∧ H3 p = some (.lst vs) ∧ (vs ++ us).Perm xs ∧ us.length + i = xs.length ∧ vs.length = i)
      ⟨xs, [], none, rfl, by walk_at "fr", by walk_at "fd", by walk_at "lk", h2, by simp, rfl, rfl⟩ (fun _ _ _ _ => trivial) (fun i x σ H3 hx3 hi hP => ?_) (fun σ H3 hP => ?_)
    · obtain ⟨us, vs, x4, rfl, e3, hF3, h3q, h3p, hperm, hlen, hvl⟩ := hP
      obtain ⟨rfl, hi2⟩ := rng_get hx3
      have hi3 : i < xs.length := by simpa using hi2
      walk_at "rd"
      refine ⟨d, l, _, rfl, hF3, by omega, by omega, fun r H4 hr0 hr1 e4 hF4 => ?_⟩
      have h4q : H4 q = some (.lst us) := e4 _ _ (hF3.lst h3q) h3q
      have h4p : H4 p = some (.lst vs) := e4 _ _ (hF3.lst h3p) h3p
      have hr2 : r.toNat < us.length := by omega
      walk_at "rd"
      refine i_popAtR h4q hr0 (List.getElem?_eq_getElem hr2) (fun H5 e5 h5q => ?_) (by omega)
      have h5p : H5 p = some (.lst vs) := e5 _ _ hpq h4p
      walk_at "rd"
      refine i_appR h5p (by omega) fun H6 e6 h6p => ?_
      walk_at "rd"
      refine ⟨us.eraseIdx r.toNat, vs ++ [us[r.toNat]], _, rfl, by walk_at "fr", (hF4.put e5 (hF.nd hq1) (hF.nl hq1)).put e6 (hF.nd hp0) (hF.nl hp0), e6 _ _ (Ne.symm hpq) h5q, h6p, ?_, ?_, by simp [hvl]⟩
      · exact (perm_pop (List.getElem?_eq_getElem hr2) vs).trans hperm
      · rw [List.length_eraseIdx, if_pos hr2]
        omega
    · obtain ⟨us, vs, x4, rfl, e3, hF3, h3q, h3p, hperm, hlen, hvl⟩ := hP
      walk_at "rd"
      have hu0 : us = [] := by
        rw [List.length_map, List.length_range] at hlen
        exact List.length_eq_zero_iff.mp (by omega)
      subst hu0
      rw [List.append_nil] at hperm
      exact k p vs H3 hp0 e3 hF3 h3p hperm
noncomputable def sp__law_pairs (K : PySem.W.Frag) : Sp := fun vs H Q _ => ∃ d l a ls, vs = [.ref d, .ref a] ∧ Feed H d l ∧ H a = some (.lst (ls.map V.str)) ∧ ls.length ≤ 10 ∧ ∀ p xs ps H', H p = none → ExtBut d H H' → Feed H' d l → H' p = some (.lst xs) → IsL K H' (ps.map prD) xs → Up ls ps → ps.length ≤ 100 → Q (.ref p) H'
noncomputable def MP (K : PySem.W.Frag) (H : Hp) (d l a : Addr) (ls : List Str) (way : Int) (E : Prop) : L2.St → Hp → Prop := fun σ' H' => ∃ p xs ps x5 x6 x7 x8, σ' = [some (V.ref d), some (.ref a), some (.int (ls.length : Nat)), some (.int way), some (.ref p), x5, x6, x7, x8] ∧ H p = none ∧ ExtBut d H H' ∧ Feed H' d l ∧ H' p = some (.lst xs) ∧ IsL K H' (ps.map prD) xs ∧ Up ls ps ∧ ps.length ≤ 100 ∧ (E → ps = [])
theorem len_prs {K : PySem.W.Frag} {H : Hp} {ps : List (Str × Str)} {xs : List V} (h : IsL K H (ps.map prD) xs) : xs.length = ps.length := by rw [← IsL.length h, List.length_map]
theorem ok__law_pairs {f : Addr} {fd : FuncData} (F : Fun K "_law_pairs" "_law_pairs" s__law_pairs f fd) (T : TopF mg) (c__law_draw : Fnd P w K mg base 1 "_law_draw" ["_law_feed_here", "_law_many"] (sp__law_draw K)) : FnOk P w K mg base CX0 2 f fd ["_law_feed_here", "_law_line"] (sp__law_pairs K) := by
  refine F.ok sc__law_pairs (fun vs H Q E h => ?_) (fun cdv A outer s H vs Q E hr h => ?_)
  · obtain ⟨d, l, a, xs, rfl, _⟩ := h
    rfl
  · obtain ⟨d, l, a, ls, rfl, hF, hA, hl, k⟩ := h
    have hu := hu_of hr
    have hq := qa_of hr
    with_reducible refine ⟨_, (pss_cons (ps_set (i := 2) sc__law_pairs.nd (by with_unfolding_all rfl) (by with_unfolding_all exact Or.inl rfl) (pe_callB (call_lenK (K := K)) (by with_unfolding_all rfl) T.b_len PyProof.Rows.Boot.«len» (pa_cons (pv 1) pa_nil)))
      (pss_cons (ps_set (i := 3) sc__law_pairs.nd (by with_unfolding_all rfl) (by with_unfolding_all exact Or.inl rfl) (pe_fn c__law_draw (hr.mono (by decide)) (by with_unfolding_all rfl) (pa_cons (pv 0) (pa_cons pe_int pa_nil))))
      (pss_cons (ps_set (i := 4) sc__law_pairs.nd (by with_unfolding_all rfl) (by with_unfolding_all exact Or.inl rfl) (pe_lst pa_nil))
      (pss_cons (ps_if (PW.pt (pw_and (pt_cmpR op_lt (pv 3) pe_int (nomark _)) (pw_and1 (pt_cmpR op_gt (pv 2) pe_int (nomark _))))) (pss_one (ps_for PassesOwn.never (by with_unfolding_all rfl) (pi_range1 (by with_unfolding_all rfl) T.b_range (pa_cons (pe_ix (ix_anyK (K := K) hu) (pe_lst (pa_cons (pe_op op_fdivA (pv 2) pe_int) (pa_cons (pv 2) (pa_cons (pe_op op_mulB pe_int (pv 2)) pa_nil)))) (pv 3) (by with_unfolding_all exact fun _ _ => rfl)) pa_nil)) (pg_name (i := 5) sc__law_pairs.nd (by with_unfolding_all rfl) (by with_unfolding_all exact Or.inl rfl))
      (pss_cons (ps_set (i := 6) sc__law_pairs.nd (by with_unfolding_all rfl) (by with_unfolding_all exact Or.inl rfl) (pe_fn c__law_draw (hr.mono (by decide)) (by with_unfolding_all rfl) (pa_cons (pv 0) (pa_cons (pe_op op_sub (pv 2) pe_int) pa_nil))))
      (pss_one (ps_expr (pe_bmK (K := K) PySem.F.plainAttrs_list PySem.F.slot_list_append PySem.F.type_list_append (mm mt_append) (pv 4) (pa_cons (pe_tup (pa_cons (pe_ix (ix_anyK (K := K) hu) (pv 1) (pv 6) (by with_unfolding_all exact fun _ _ => rfl)) (pa_cons (pe_ix (ix_anyK (K := K) hu) (pv 1) (pe_op (op_addK (K := K)) (pe_op (op_addK (K := K)) (pv 6) pe_int) (pe_fn c__law_draw (hr.mono (by decide)) (by with_unfolding_all rfl) (pa_cons (pv 0) (pa_cons (pe_op op_sub (pe_op op_sub (pv 2) pe_int) (pv 6)) pa_nil)))) (by with_unfolding_all exact fun _ _ => rfl)) pa_nil))) pa_nil))))))) pss_nil)
      (pss_cons (ps_if (pt_cmpR (op_eqK (K := K) hq) (pv 3) pe_int (nomark _)) (pss_cons (ps_set (i := 7) sc__law_pairs.nd (by with_unfolding_all rfl) (by with_unfolding_all exact Or.inr rfl) (pe_fn c__law_draw (hr.mono (by decide)) (by with_unfolding_all rfl) (pa_cons (pv 0) (pa_cons (pe_op (op_addK (K := K)) (pv 2) pe_int) pa_nil))))
      (pss_one (ps_setcomp (i := 4) ["_law_k"] ["_law_line", "_law_cut"] [1, 7] (by with_unfolding_all rfl) (by with_unfolding_all rfl) (by with_unfolding_all rfl) sc__law_pairs.nd (by with_unfolding_all rfl) (by with_unfolding_all rfl) (pi_range1 (by with_unfolding_all rfl) T.b_range (pa_cons (pe_op op_sub (pv 2) pe_int) pa_nil)) (fun _ _ _ _ => (pg_name (i := 0) (by with_unfolding_all (show (["_law_k", "_law_line", "_law_cut"] : List Str).Nodup; decide +kernel)) (by with_unfolding_all rfl) (by with_unfolding_all exact Or.inl rfl))) (gk_name (by decide)) (fun _ _ _ _ => (pif_one (pt_cmpR (op_neK (K := K) hq) (pe_op (op_addK (K := K)) (pv 0) pe_int) (pv 2) (nomark _)))) (fun _ _ _ _ => (pe_tup (pa_cons (pe_ix (ix_anyK (K := K) hu) (pv 1) (pv 0) (by with_unfolding_all exact fun _ _ => rfl)) (pa_cons (pe_ix (ix_anyK (K := K) hu) (pv 1) (pe_op (op_addK (K := K)) (pv 0) pe_int) (by with_unfolding_all exact fun _ _ => rfl)) pa_nil))))))) pss_nil)
      (pss_cons (ps_if (pt_cmpR (op_eqK (K := K) hq) (pv 3) pe_int (nomark _)) (pss_one (ps_setcomp (i := 4) ["_law_k"] ["_law_line", "_law_feed_here"] [1, 0] (by with_unfolding_all rfl) (by with_unfolding_all rfl) (by with_unfolding_all rfl) sc__law_pairs.nd (by with_unfolding_all rfl) (by with_unfolding_all rfl) (pi_range2 (by with_unfolding_all rfl) T.b_range (pa_cons pe_int (pa_cons (pv 2) pa_nil))) (fun _ _ _ _ => (pg_name (i := 0) (by with_unfolding_all (show (["_law_k", "_law_line", "_law_feed_here"] : List Str).Nodup; decide +kernel)) (by with_unfolding_all rfl) (by with_unfolding_all exact Or.inl rfl))) (gk_name (by decide)) (fun _ _ _ _ => (pif_one (pt_cmpR op_gt (pe_fn c__law_draw (hr.mono (by decide)) (by with_unfolding_all rfl) (pa_cons (pv 2) (pa_cons pe_int pa_nil))) pe_int (nomark _)))) (fun _ _ _ _ => (pe_tup (pa_cons (pe_ix (ix_anyK (K := K) hu) (pv 1) (pe_fn c__law_draw (hr.mono (by decide)) (by with_unfolding_all rfl) (pa_cons (pv 2) (pa_cons (pv 0) pa_nil))) (by with_unfolding_all exact fun _ _ => rfl)) (pa_cons (pe_ix (ix_anyK (K := K) hu) (pv 1) (pv 0) (by with_unfolding_all exact fun _ _ => rfl)) pa_nil)))))) pss_nil)
      (pss_cons (ps_if (pt_cmpR (op_eqK (K := K) hq) (pv 3) pe_int (nomark _)) (pss_cons (ps_set (i := 7) sc__law_pairs.nd (by with_unfolding_all rfl) (by with_unfolding_all exact Or.inr rfl) (pe_fn c__law_draw (hr.mono (by decide)) (by with_unfolding_all rfl) (pa_cons (pv 0) (pa_cons (pe_op (op_addK (K := K)) (pv 2) pe_int) pa_nil))))
      (pss_one (ps_for PassesOwn.never (by with_unfolding_all rfl) (pi_anyK (K := K) hu (pe_slice (sl_K (K := K)) (pv 1) po_none (po_some (pv 7)))) (pg_name (i := 8) sc__law_pairs.nd (by with_unfolding_all rfl) (by with_unfolding_all exact Or.inr rfl))
      (pss_one (ps_expr (pe_bmK (K := K) PySem.F.plainAttrs_list PySem.F.slot_list_extend PySem.F.type_list_extend (mm mt_extend) (pv 4) (pa_cons (pe_comp ["_law_other"] ["_law_one"] [8] (by with_unfolding_all rfl) (by with_unfolding_all rfl) (by with_unfolding_all rfl) (pi_anyK (K := K) hu (pe_slice (sl_K (K := K)) (pv 1) (po_some (pv 7)) po_none)) (fun _ _ _ _ => (pg_name (i := 0) (by with_unfolding_all (show (["_law_other", "_law_one"] : List Str).Nodup; decide +kernel)) (by with_unfolding_all rfl) (by with_unfolding_all exact Or.inl rfl))) (gk_name (by decide)) (fun _ _ _ _ => pif_nil) (fun _ _ _ _ => (pe_tup (pa_cons (pv 1) (pa_cons (pv 0) pa_nil))))) pa_nil))))))) pss_nil)
      (pss_one (ps_ret (pv 4)))))))))), ?_⟩
    walk_at "rd"
    rw [List.length_map]
    refine ⟨d, l, _, rfl, hF, by omega, by omega, fun way H1 hw0 hw1 e1 hF1 => ?_⟩
    have had : a ≠ d := hF.lst hA
    walk_at "rd"
    refine i_newL (by decide) fun p H2 hp2 e2 h2 => ?_
    walk_at "rq"
    have hp0 : H p = none := hF1.free e1 hp2
    have hF2 : Feed H2 d l := by walk_at "fd"
    have hA2 : H2 a = some (.lst (ls.map V.str)) := by walk_at "lk"
    with_reducible refine i_cut (MP K H d l a ls way (way = 5)) (fun N hN => ?_) (fun σ1 H3 hM => ?_)
    · walk_at "rq"
      have done0 : N [some (V.ref d), some (.ref a), some (.int (ls.length : Nat)), some (.int way), some (.ref p), none, none, none, none] H2 := hN _ _ ⟨p, [], [], none, none, none, none, rfl, hp0, by walk_at "fr", hF2, h2, .nil, .nil, by decide, fun _ => rfl⟩
      refine iteD (fun hw => ?_) (fun hw => ?_)
      · walk_at "rq"
        refine iteD (fun hm => ?_) (fun hm => ?_)
        · walk_at "rq"
          refine i_newL (line_of (by simp)) fun q H3 hq3 e3 h3 => ?_
          have hm3 : ∃ m, atI [V.int ((ls.length : Nat) / 2), V.int (ls.length : Nat), V.int (3 * (ls.length : Nat))] way = some (V.int m) ∧ 0 ≤ m ∧ m ≤ 30 := by
            rcases (by omega : way = 0 ∨ way = 1 ∨ way = 2) with rfl | rfl | rfl
            · exact ⟨_, rfl, by omega, by omega⟩
            · exact ⟨_, rfl, by omega, by omega⟩
            · exact ⟨_, rfl, by omega, by omega⟩
          obtain ⟨m, hm1, hm2, hm3⟩ := hm3
          walk_at "rq"
          refine i_ixL h3 hm1 ?_
          walk_at "rq"
          refine i_rngv (by omega) ?_
          refine for_by walk_range (fun i σ H4 => ∃ xs ps x5 x6, σ = [some (V.ref d), some (.ref a), some (.int (ls.length : Nat)), some (.int way), some (.ref p), x5, x6, none, none] ∧ ExtBut d H H4 ∧ Feed H4 d l ∧ H4 p = some (.lst xs) ∧ IsL K H4 (ps.map prD) xs ∧ Up ls ps ∧ ps.length = i)
            ⟨[], [], none, none, rfl, by walk_at "fr", by walk_at "fd", by walk_at "lk", .nil, .nil, rfl⟩ (fun _ _ _ _ => trivial) (fun i x σ H4 hx4 hi hP => ?_) (fun σ H4 hP => ?_)
          · obtain ⟨xs, ps, x5, x6, rfl, e4, hF4, h4, hI4, hU, hpl⟩ := hP
            obtain ⟨rfl, hi2⟩ := rng_get hx4
            have hA4 : H4 a = some (.lst (ls.map V.str)) := e4 _ _ had hA
            walk_at "rd"
            refine ⟨d, l, _, rfl, hF4, by omega, by omega, fun u H5 hu0 hu1 e5 hF5 => ?_⟩
            obtain ⟨z1, hz1, hz1', _⟩ := str_at? (ls := ls) (i := u) hu0 (by omega)
            have hA5 : H5 a = some (.lst (ls.map V.str)) := e5 _ _ had hA4
            have h5 : H5 p = some (.lst xs) := e5 _ _ (hF4.lst h4) h4
            walk_at "rd"
            refine i_ixL hA5 hz1' ?_
            walk_at "rd"
            refine ⟨d, l, _, rfl, hF5, by omega, by omega, fun u2 H6 hv0 hv1 e6 hF6 => ?_⟩
            obtain ⟨z2, hz2, hz2', _⟩ := str_at? (ls := ls) (i := u + 1 + u2) (by omega) (by omega)
            have hA6 : H6 a = some (.lst (ls.map V.str)) := e6 _ _ had hA5
            have h6 : H6 p = some (.lst xs) := e6 _ _ (hF5.lst h5) h5
            walk_at "rd"
            refine i_ixL hA6 hz2' ?_
            walk_at "rd"
            refine i_newT (line_of (by simp)) fun t H7 ht7 e7 h7 => ?_
            have h7p : H7 p = some (.lst xs) := e7 _ _ h6
            have hxl := len_prs hI4
            walk_at "rd"
            refine i_appR h7p (by omega) fun H8 e8 h8 => ?_
            walk_at "rd"
            have fz8 : Fz H7 H8 := e8.fzL h7p
            have fz7 : Fz H4 H7 := ((hF4.fz e5).trans (hF5.fz e6)).trans e7.fz
            refine ⟨xs ++ [.ref t], ps ++ [(z1, z2)], _, _, rfl, by walk_at "fr", by walk_at "fd", h8, ?_, ?_, by simp [hpl]⟩
            · rw [List.map_append]
              exact (IsL.fz (fz7.trans fz8) _ _ (frzL_prs ps) hI4).append (.one ((is_pr (SqT.of h7)).pr_fz fz8))
            · exact hU.append (.one (by omega) hz1 hz2)
          · obtain ⟨xs, ps, x5, x6, rfl, e4, hF4, h4, hI4, hU, hpl⟩ := hP
            rw [List.length_map, List.length_range] at hpl
            exact hN _ _ ⟨p, xs, ps, _, _, _, _, rfl, hp0, e4, hF4, h4, hI4, hU, by omega, fun q => by omega⟩
        · walk_at "rq"
          exact done0
      · walk_at "rq"
        exact done0
    · obtain ⟨p3, xs3, ps3, x5, x6, x7, x8, rfl, hp3, e3, hF3, h3, hI3, hU3, hl3, hE3⟩ := hM
      have hA3 : H3 a = some (.lst (ls.map V.str)) := e3 _ _ had hA
      with_reducible refine i_cut (MP K H d l a ls way (way = 5)) (fun N hN => ?_) (fun σ1 H4 hM => ?_)
      · walk_at "rq"
        refine iteD (fun hw => ?_) (fun hw => ?_)
        · walk_at "rd"
          refine ⟨d, l, _, rfl, hF3, by omega, by omega, fun cut H4 hc0 hc1 e4 hF4 => ?_⟩
          have hA4 : H4 a = some (.lst (ls.map V.str)) := e4 _ _ had hA3
          walk_at "rd"
          refine i_rngv (by omega) ?_
          refine comp_dat (K := K) walk_range (List.range ((ls.length : Nat) - 1 : Int).toNat) (by simp) (fun k => !decide (V.int ((0 : Int) + (k : Nat) + 1) = V.int cut)) (fun k => prD (ls.getD k "", ls.getD (k + 1) "")) (fun _ => frz_pr _) (by simp; omega) (fun _ _ => trivial) (fun i k v H5 R R' hk hv e5 hR hR' => ?_) (fun p5 ys H5 hp5 e5 h5 hI5 => ?_)
          · obtain ⟨rfl, hi2⟩ := rng_get hv
            have hki : i = k := by
              obtain ⟨_, h2⟩ := List.getElem?_eq_some_iff.mp hk
              rw [List.getElem_range] at h2
              exact h2
            subst hki
            have hA5 : H5 a = some (.lst (ls.map V.str)) := e5 _ _ hA4
            walk_at "rd"
            refine iteND (fun hc => ?_) (fun hc => ?_)
            · obtain ⟨z1, hz1, hz1', _⟩ := str_at? (ls := ls) (i := 0 + (i : Int)) (by omega) (by omega)
              obtain ⟨z2, hz2, hz2', _⟩ := str_at? (ls := ls) (i := 0 + (i : Int) + 1) (by omega) (by omega)
              walk_at "rd"
              refine i_ixL hA5 hz1' ?_
              walk_at "rd"
              refine i_ixL hA5 hz2' ?_
              walk_at "rd"
              refine i_newT (line_of (by simp)) fun t H6 ht6 e6 h6 => ?_
              have q1 : (0 + (i : Int)).toNat = i := by omega
              have q2 : (0 + (i : Int) + 1).toNat = i + 1 := by omega
              rw [q1] at hz1
              rw [q2] at hz2
              refine hR (by rw [decide_eq_false hc]; rfl) _ _ e6 ?_
              rw [getD_of hz1, getD_of hz2]
              exact is_pr (SqT.of h6)
            · exact hR' (by rw [decide_eq_true hc]; rfl) _ (Same.refl _)
          · walk_at "rd"
            rw [map_prD] at hI5
            have hp0' : H p5 = none := hF4.free (by walk_at "fr") hp5
            refine hN _ _ ⟨p5, ys, _, _, _, _, _, rfl, hp0', by walk_at "fr", by walk_at "fd", h5, hI5, fun pr hpr => ?_, ?_, fun q => by cases hw; cases q⟩
            · obtain ⟨j, hj, rfl⟩ := List.mem_map.mp hpr
              have hj := List.mem_range.mp (List.mem_filter.mp hj).1
              exact ⟨j, j + 1, by omega, get_getD (by omega), get_getD (by omega)⟩
            · rw [List.length_map]
              refine Nat.le_trans (List.length_filter_le _ _) ?_
              rw [List.length_range]
              omega
        · walk_at "rq"
          exact hN _ _ ⟨p3, xs3, ps3, x5, x6, x7, x8, rfl, hp3, e3, hF3, h3, hI3, hU3, hl3, hE3⟩
      · obtain ⟨p4, xs4, ps4, y5, y6, y7, y8, rfl, hp4, e4, hF4, h4, hI4, hU4, hl4, hE4⟩ := hM
        have hA4 : H4 a = some (.lst (ls.map V.str)) := e4 _ _ had hA
        with_reducible refine i_cut (MP K H d l a ls way (way = 5)) (fun N hN => ?_) (fun σ1 H5 hM => ?_)
        · walk_at "rq"
          refine iteD (fun hw => ?_) (fun hw => ?_)
          · walk_at "rd"
            refine i_rngw (by omega) ?_
            refine comp_by walk_range (fun p i acc H5 => ∃ ps, ExtBut d H H5 ∧ Feed H5 d l ∧ IsL K H5 (ps.map prD) acc ∧ Up ls ps ∧ ps.length ≤ i) (fun p H5 hp e5 h5 => ⟨[], by walk_at "fr", by walk_at "fd", .nil, .nil, Nat.le_refl _⟩) (fun _ _ _ _ _ => trivial) (fun p i x acc H5 hp hx hi hl5 ha hP => ?_) fun p acc H5 hp ha hl5 hP => ?_
            · obtain ⟨ps, e5, hF5, hI5, hU5, hpl5⟩ := hP
              obtain ⟨rfl, hi2⟩ := rng_get hx
              have hp0' : H p = none := hF4.free e4 hp
              have hpd : p ≠ d := Ne.symm (hF4.nd hp)
              walk_at "rd"
              refine ⟨d, l, _, rfl, hF5, by omega, by omega, fun u H6 hu0 hu1 e6 hF6 => ?_⟩
              walk_at "rd"
              have h6 : H6 p = some (.lst acc) := e6 _ _ hpd ha
              have hA6 : H6 a = some (.lst (ls.map V.str)) := e6 _ _ had (e5 _ _ had hA)
              refine iteD (fun hc => ?_) (fun hc => ?_)
              · walk_at "rd"
                refine ⟨d, l, _, rfl, hF6, by omega, by omega, fun u2 H7 hv0 hv1 e7 hF7 => ?_⟩
                have h7 : H7 p = some (.lst acc) := e7 _ _ hpd h6
                have hA7 : H7 a = some (.lst (ls.map V.str)) := e7 _ _ had hA6
                obtain ⟨z1, hz1, hz1', _⟩ := str_at? (ls := ls) (i := u2) hv0 (by omega)
                obtain ⟨z2, hz2, hz2', _⟩ := str_at? (ls := ls) (i := 1 + (i : Int)) (by omega) (by omega)
                walk_at "rd"
                refine i_ixL hA7 hz1' ?_
                walk_at "rd"
                refine i_ixL hA7 hz2' ?_
                walk_at "rd"
                refine i_newT (line_of (by simp)) fun t H8 ht8 e8 h8 => ?_
                have h8p : H8 p = some (.lst acc) := e8 _ _ h7
                refine push_i (by simp; omega) hi hl5 h8p fun H9 e9 h9 => ?_
                have fz9 : Fz H8 H9 := e9.fzL h8p
                have fz8 : Fz H5 H8 := ((hF5.fz e6).trans (hF6.fz e7)).trans e8.fz
                refine ⟨ps ++ [(z1, z2)], by walk_at "fr", by walk_at "fd", ?_, hU5.append (.one (by omega) hz1 hz2), by simp [hpl5]⟩
                rw [List.map_append]
                exact (IsL.fz (fz8.trans fz9) _ _ (frzL_prs ps) hI5).append (.one ((is_pr (SqT.of h8)).pr_fz fz9))
              · refine cn_skip hi hl5 h6 ⟨ps, by walk_at "fr", hF6, IsL.fz (hF5.fz e6) _ _ (frzL_prs ps) hI5, hU5, by omega⟩
            · obtain ⟨ps, e5, hF5, hI5, hU5, hpl5⟩ := hP
              rw [List.length_map, List.length_range] at hpl5
              walk_at "rd"
              exact hN _ _ ⟨p, acc, ps, _, _, _, _, rfl, hF4.free e4 hp, e5, hF5, ha, hI5, hU5, by omega, fun q => by cases hw; cases q⟩
          · walk_at "rq"
            exact hN _ _ ⟨p4, xs4, ps4, _, _, _, _, rfl, hp4, e4, hF4, h4, hI4, hU4, hl4, hE4⟩
        · obtain ⟨p5, xs5, ps5, z5, z6, z7, z8, rfl, hp5, e5, hF5, h5, hI5, hU5, hl5, hE5⟩ := hM
          have hA5 : H5 a = some (.lst (ls.map V.str)) := e5 _ _ had hA
          with_reducible refine i_cut (MP K H d l a ls way False) (fun N hN => ?_) (fun σ1 H6 hM => ?_)
          · walk_at "rq"
            refine iteD (fun hw => ?_) (fun hw => ?_)
            · walk_at "rd"
              refine ⟨d, l, _, rfl, hF5, by omega, by omega, fun cut H6 hc0 hc1 e6 hF6 => ?_⟩
              have hA6 : H6 a = some (.lst (ls.map V.str)) := e6 _ _ had hA5
              have h6 : H6 p5 = some (.lst xs5) := e6 _ _ (hF5.lst h5) h5
              walk_at "rd"
              refine i_slL (SqL.of hA6) fun q H7 hq7 e7 h7 => ?_
              rw [cut_upto hc0, ← List.map_take] at h7
              have hq0 : H q = none := hF6.free (by walk_at "fr") hq7
              have hp5n : p5 ≠ q := ne_of_none h6 hq7
              refine i_itL (SqL.of h7) ?_
              have hway : way = 5 := by
                cases hw
                rfl
              have hps : ps5 = [] := hE5 hway
              subst hps
              have hxs : xs5 = [] := by simpa only [List.map_nil, L2.IsL] using hI5
              subst hxs
              have hdrop : ∀ H8, ExtBut d H H8 → H8 a = some (.lst (ls.map V.str)) := fun H8 e8 => e8 _ _ had hA
              refine for_by (walk_list (xs := (ls.take cut.toNat).map V.str)) (fun i σ H8 => ∃ xs ps x8, σ = [some (V.ref d), some (.ref a), some (.int (ls.length : Nat)), some (.int way), some (.ref p5), z5, z6, some (.int cut), x8] ∧ ExtBut d H H8 ∧ Feed H8 d l ∧ H8 q = some (.lst ((ls.take cut.toNat).map V.str)) ∧ H8 p5 = some (.lst xs) ∧ IsL K H8 (ps.map prD) xs ∧ Up ls ps ∧ ps.length ≤ i * 10)
                ⟨[], [], _, rfl, by walk_at "fr", by walk_at "fd", h7, by walk_at "lk", .nil, .nil, by decide⟩ (fun i σ H8 hP => ?_) (fun i x σ H8 hx8 hi hP => ?_) (fun σ H8 hP => ?_)
              · obtain ⟨xs, ps, x8, rfl, e8, hF8, hq8, _⟩ := hP
                exact SqL.of hq8
              · obtain ⟨xs, ps, x8, rfl, e8, hF8, hq8, h8, hI8, hU8, hl8⟩ := hP
                rw [List.getElem?_map] at hx8
                cases hz : (ls.take cut.toNat)[i]? with
                | none => rw [hz] at hx8; cases hx8
                | some one =>
                  rw [hz] at hx8
                  cases hx8
                  have hi10 : i < 10 := by
                    have := List.getElem?_eq_some_iff.mp hz
                    obtain ⟨h1, _⟩ := this
                    rw [List.length_take] at h1
                    omega
                  have hone : ls[i]? = some one := by
                    rw [List.getElem?_take] at hz
                    split at hz
                    · exact hz
                    · cases hz
                  have hicut : i < cut.toNat := by
                    rw [List.getElem?_take] at hz
                    split at hz
                    · assumption
                    · cases hz
                  walk_at "rd"
                  refine i_slL (SqL.of (hdrop H8 e8)) fun q9 H9 hq9 e9 h9 => ?_
                  rw [cut_from hc0 (by rw [List.length_map]; omega), ← List.map_drop] at h9
                  refine i_itL (SqL.of h9) ?_
                  refine comp_dat (K := K) (walk_list (xs := (ls.drop cut.toNat).map V.str)) (ls.drop cut.toNat) (by simp) (fun _ => true) (fun o => prD (one, o)) (fun _ => frz_pr _) (by simp; omega) (fun H' e' => SqL.of (e' _ _ h9)) (fun j o v H10 R R' ho hv e10 hR hR' => ?_) (fun p10 ys H10 hp10 e10 h10 hI10 => ?_)
                  · rw [List.getElem?_map, ho] at hv
                    cases hv
                    walk_at "rd"
                    refine i_newT (line_of (by simp)) fun t H11 ht11 e11 h11 => ?_
                    exact hR rfl _ _ e11 (is_pr (SqT.of h11))
                  · walk_at "rd"
                    have h10p : H10 p5 = some (.lst xs) := e10 _ _ (e9 _ _ h8)
                    have hy : ys.length ≤ 10 := by
                      have := IsL.length hI10
                      rw [List.length_map, filter_true, List.length_drop] at this
                      omega
                    have hxl := len_prs hI8
                    refine i_extR h10p h10 (by omega) fun H11 e11 h11 => ?_
                    walk_at "rd"
                    have hq10 : H10 q = some (.lst ((ls.take cut.toNat).map V.str)) := e10 _ _ (e9 _ _ hq8)
                    have fz11 : Fz H10 H11 := e11.fzL h10p
                    rw [filter_true, map_prD] at hI10
                    refine ⟨xs ++ ys, ps ++ (ls.drop cut.toNat).map (fun o => (one, o)), _, rfl, by walk_at "fr", by walk_at "fd", e11 _ _ (Ne.symm hp5n) hq10, h11, ?_, hU8.append fun pr hpr => ?_, ?_⟩
                    · rw [List.map_append]
                      exact (IsL.fz ((e9.fz.trans e10.fz).trans fz11) _ _ (frzL_prs ps) hI8).append (IsL.fz fz11 _ _ (frzL_prs _) hI10)
                    · obtain ⟨o, ho, rfl⟩ := List.mem_map.mp hpr
                      obtain ⟨j, hj, ej⟩ := List.getElem_of_mem ho
                      refine ⟨i, cut.toNat + j, by omega, hone, ?_⟩
                      rw [← List.getElem?_drop, List.getElem?_eq_getElem hj, ej]
                    · rw [List.length_append, List.length_map, List.length_drop, Nat.add_mul]
                      omega
              · obtain ⟨xs, ps, x8, rfl, e8, hF8, hq8, h8, hI8, hU8, hl8⟩ := hP
                rw [List.length_map, List.length_take] at hl8
                exact hN _ _ ⟨p5, xs, ps, _, _, _, _, rfl, hp5, e8, hF8, h8, hI8, hU8, by omega, False.elim⟩
            · walk_at "rq"
              exact hN _ _ ⟨p5, xs5, ps5, _, _, _, _, rfl, hp5, e5, hF5, h5, hI5, hU5, hl5, False.elim⟩
          · obtain ⟨p6, xs6, ps6, w5, w6, w7, w8, rfl, hp6, e6, hF6, h6, hI6, hU6, hl6, hE6⟩ := hM
            walk_at "rd"
            exact k p6 xs6 ps6 H6 hp6 e6 hF6 h6 hI6 hU6 hl6
noncomputable def sp__law_sayings (K : PySem.W.Frag) : Sp := fun vs H Q _ => ∃ d l a ls, vs = [.ref d, .ref a] ∧ Feed H d l ∧ H a = some (.lst (ls.map V.str)) ∧ ls.length ≤ 10 ∧ ∀ v ps H', ExtBut d H H' → Feed H' d l → Is K H' (psD ps) v → Up ls ps → ps.length ≤ 60 → Q v H'
theorem isL_ins {K : PySem.W.Frag} {H : Hp} {ps : List (Str × Str)} {xs : List V} {p : Str × Str} {v : V} (n : Nat) (h : IsL K H (ps.map prD) xs) (hv : Is K H (prD p) v) : IsL K H ((ps.take n ++ p :: ps.drop n).map prD) (insL xs n v) := by
  rw [List.map_append, List.map_cons, List.map_take, List.map_drop]
  exact (IsL.take n h).append (.cons hv (IsL.drop n h))
theorem ok__law_sayings {f : Addr} {fd : FuncData} (F : Fun K "_law_sayings" "_law_sayings" s__law_sayings f fd) (T : TopF mg) (c__law_draw : Fnd P w K mg base 1 "_law_draw" ["_law_feed_here", "_law_many"] (sp__law_draw K)) (c__law_pairs : Fnd P w K mg base 2 "_law_pairs" ["_law_feed_here", "_law_line"] (sp__law_pairs K)) : FnOk P w K mg base CX0 3 f fd ["_law_feed_here", "_law_line"] (sp__law_sayings K) := by
  refine F.ok sc__law_sayings (fun vs H Q E h => ?_) (fun cdv A outer s H vs Q E hr h => ?_)
  · obtain ⟨d, l, a, xs, rfl, _⟩ := h
    rfl
  · obtain ⟨d, l, a, ls, rfl, hF, hA, hl, k⟩ := h
    have hu := hu_of hr
    have hq := qa_of hr
    with_reducible refine ⟨_, (pss_cons (ps_set (i := 2) sc__law_sayings.nd (by with_unfolding_all rfl) (by with_unfolding_all exact Or.inl rfl) (pe_lst pa_nil))
      (pss_cons (ps_for PassesOwn.never (by with_unfolding_all rfl) (pi_anyK (K := K) hu (pe_fn c__law_pairs (hr.mono (by decide)) (by with_unfolding_all rfl) (pa_cons (pv 0) (pa_cons (pv 1) pa_nil)))) (pg_name (i := 3) sc__law_sayings.nd (by with_unfolding_all rfl) (by with_unfolding_all exact Or.inl rfl))
      (pss_one (ps_for PassesOwn.never (by with_unfolding_all rfl) (pi_range1 (by with_unfolding_all rfl) T.b_range (pa_cons (pe_op (op_addK (K := K)) pe_int (pe_callTy call_intA (by with_unfolding_all rfl) T.b_int PyProof.Rows.Boot.«int» (pa_cons (pe_cmpR (op_eqK (K := K) hq) (pe_fn c__law_draw (hr.mono (by decide)) (by with_unfolding_all rfl) (pa_cons (pv 0) (pa_cons pe_int pa_nil))) pe_int (nomark _)) pa_nil))) pa_nil)) (pg_name (i := 4) sc__law_sayings.nd (by with_unfolding_all rfl) (by with_unfolding_all exact Or.inl rfl))
      (pss_one (ps_expr (pe_bmK (K := K) PySem.F.plainAttrs_list PySem.F.slot_list_insert PySem.F.type_list_insert (mm mt_insert) (pv 2) (pa_cons (pe_fn c__law_draw (hr.mono (by decide)) (by with_unfolding_all rfl) (pa_cons (pv 0) (pa_cons (pe_op (op_addK (K := K)) (pe_callB (call_lenK (K := K)) (by with_unfolding_all rfl) T.b_len PyProof.Rows.Boot.«len» (pa_cons (pv 2) pa_nil)) pe_int) pa_nil))) (pa_cons (pv 3) pa_nil))))))))
      (pss_one (ps_ret (pe_callTy (call_tupleK (K := K)) (by with_unfolding_all rfl) T.b_tuple PyProof.Rows.Boot.«tuple» (pa_cons (pe_slice (sl_K (K := K)) (pv 2) po_none (po_some pe_int)) pa_nil)))))), ?_⟩
    walk_at "rd"
    refine i_newL (by decide) fun p H1 hp1 e1 h1 => ?_
    have hA1 : H1 a = some (.lst (ls.map V.str)) := e1 _ _ hA
    have hF1 : Feed H1 d l := hF.same e1
    walk_at "rd"
    refine ⟨d, l, a, ls, rfl, hF1, hA1, hl, fun q xs ps H2 hq2 e2 hF2 h2 hI2 hU2 hl2 => ?_⟩
    have hpd : p ≠ d := Ne.symm (hF.nd hp1)
    have h2p : H2 p = some (.lst []) := e2 _ _ hpd h1
    have hpq : p ≠ q := ne_of_none h1 hq2
    have hq0 : H q = none := e1.free hq2
    have hxl := len_prs hI2
    refine i_itL (SqL.of h2) ?_
    refine for_by (walk_list (xs := xs)) (fun i σ H3 => ∃ ys qs x3 x4, σ = [some (V.ref d), some (.ref a), some (.ref p), x3, x4] ∧ ExtBut d H H3 ∧ Feed H3 d l ∧ H3 q = some (.lst xs) ∧ Fz H2 H3 ∧ H3 p = some (.lst ys) ∧ IsL K H3 (qs.map prD) ys ∧ Up ls qs ∧ qs.length ≤ i * 2)
      ⟨[], [], _, _, rfl, by walk_at "fr", hF2, h2, .refl _, h2p, .nil, .nil, by decide⟩ (fun i σ H3 hP => ?_) (fun i x σ H3 hx3 hi hP => ?_) (fun σ H3 hP => ?_)
    · obtain ⟨ys, qs, x3, x4, rfl, e3, hF3, hq3, _⟩ := hP
      exact SqL.of hq3
    · obtain ⟨ys, qs, x3, x4, rfl, e3, hF3, hq3, fz3, h3p, hI3, hU3, hl3⟩ := hP
      obtain ⟨dp, hdp, hip⟩ := IsL.get hI2 hx3
      rw [List.getElem?_map] at hdp
      cases hpr : ps[i]? with
      | none => rw [hpr] at hdp; cases hdp
      | some pr =>
        rw [hpr] at hdp
        cases hdp
        have hUp : Up ls [pr] := hU2.sub fun z hz => by
          have : z = pr := by simpa using hz
          subst this
          exact List.mem_of_getElem? hpr
        have hi100 : i < 100 := by omega
        walk_at "rd"
        refine ⟨d, l, _, rfl, hF3, by omega, by omega, fun u H4 hu0 hu1 e4 hF4 => ?_⟩
        have h4p : H4 p = some (.lst ys) := e4 _ _ hpd h3p
        have h4q : H4 q = some (.lst xs) := e4 _ _ (hF3.lst hq3) hq3
        have fz4 : Fz H2 H4 := fz3.trans (hF3.fz e4)
        have hI4 : IsL K H4 (qs.map prD) ys := IsL.fz (hF3.fz e4) _ _ (frzL_prs qs) hI3
        walk_at "rd"
        refine i_rngv (by split <;> omega) ?_
        refine for_by walk_range (fun j σ H5 => ∃ zs rs x4, σ = [some (V.ref d), some (.ref a), some (.ref p), some x, x4] ∧ ExtBut d H H5 ∧ Feed H5 d l ∧ H5 q = some (.lst xs) ∧ Fz H2 H5 ∧ H5 p = some (.lst zs) ∧ IsL K H5 (rs.map prD) zs ∧ Up ls rs ∧ rs.length = qs.length + j)
          ⟨ys, qs, _, rfl, by walk_at "fr", hF4, h4q, fz4, h4p, hI4, hU3, rfl⟩ (fun _ _ _ _ => trivial) (fun j x' σ H5 hx5 hj hP => ?_) (fun σ H5 hP => ?_)
        · obtain ⟨zs, rs, x4', rfl, e5, hF5, hq5, fz5, h5p, hI5, hU5, hl5⟩ := hP
          obtain ⟨rfl, hj2⟩ := rng_get hx5
          have hzl := len_prs hI5
          have hj3 : j < 2 := by
            have : (1 + if decide (V.int u = V.int 0) = true then (1 : Int) else 0).toNat ≤ 2 := by split <;> omega
            omega
          walk_at "rd"
          refine ⟨d, l, _, rfl, hF5, by omega, by omega, fun u2 H6 hv0 hv1 e6 hF6 => ?_⟩
          have h6p : H6 p = some (.lst zs) := e6 _ _ hpd h5p
          have h6q : H6 q = some (.lst xs) := e6 _ _ (hF5.lst hq5) hq5
          walk_at "rd"
          refine i_ins h6p hv0 (by omega) (by omega) fun H7 e7 h7p => ?_
          have fz6 : Fz H5 H6 := hF5.fz e6
          have fz7 : Fz H6 H7 := e7.fzL h6p
          walk_at "rd"
          refine ⟨_, _, _, rfl, by walk_at "fr", by walk_at "fd", e7 _ _ (Ne.symm hpq) h6q, (fz5.trans fz6).trans fz7, h7p, isL_ins u2.toNat (IsL.fz (fz6.trans fz7) _ _ (frzL_prs rs) hI5) (Is.fz ((fz5.trans fz6).trans fz7) _ _ (frz_pr pr) hip), ?_, ?_⟩
          · intro z hz
            rcases List.mem_append.mp hz with hz | hz
            · exact hU5 z (List.mem_of_mem_take hz)
            · rcases List.mem_cons.mp hz with rfl | hz
              · exact hUp _ (by simp)
              · exact hU5 z (List.mem_of_mem_drop hz)
          · rw [List.length_append, List.length_cons, List.length_take, List.length_drop]
            omega
        · obtain ⟨zs, rs, x4', rfl, e5, hF5, hq5, fz5, h5p, hI5, hU5, hl5⟩ := hP
          rw [List.length_map, List.length_range] at hl5
          have hj3 : (1 + if decide (V.int u = V.int 0) = true then (1 : Int) else 0).toNat ≤ 2 := by split <;> omega
          exact ⟨zs, rs, _, _, rfl, e5, hF5, hq5, fz5, h5p, hI5, hU5, by omega⟩
    · obtain ⟨ys, qs, x3, x4, rfl, e3, hF3, hq3, fz3, h3p, hI3, hU3, hl3⟩ := hP
      walk_at "rd"
      refine i_slL (SqL.of h3p) fun t H4 ht4 e4 h4 => ?_
      walk_at "rd"
      rw [cut_upto (by decide)] at h4
      refine i_tupleL (SqL.of h4) fun t2 H5 ht5 e5 h5 => ?_
      have hI5 : IsL K H5 (qs.map prD) ys := IsL.mono e5 _ _ (IsL.mono e4 _ _ hI3)
      refine k (.ref t2) (qs.take 60) H5 (by walk_at "fr") (by walk_at "fd") (Is.of_tup (SqT.of h5) ?_) (hU3.sub fun z hz => List.mem_of_mem_take hz) ?_
      · rw [List.map_take]
        exact IsL.take 60 hI5
      · rw [List.length_take]
        omega
noncomputable def OkP (ps : List (Str × Str)) : Prop := ∀ p ∈ ps, PyData.strOk p.1 = true ∧ PyData.strOk p.2 = true
noncomputable def sp__law_behind (K : PySem.W.Frag) : Sp := fun vs H Q _ => ∃ v x ns ps, vs = [v, .str x] ∧ Is K H (hfD ns ps) v ∧ ps.length ≤ 1000 ∧ OkP ps ∧ PyData.strOk x = true ∧ ∀ p (fs : List Str) H', H p = none → Same H H' → H' p = some (.lst (fs.map V.str)) → fs.Nodup → (∀ y, y ∈ fs ↔ Way ps x y) → Q (.ref p) H'
structure BhI (ps : List (Str × Str)) (x : Str) (fs ls : List Str) : Prop where
  nd : fs.Nodup
  way : ∀ y ∈ fs, Way ps x y
  line : ∀ z ∈ ls, z = x ∨ z ∈ fs
  shut : ∀ z, z = x ∨ z ∈ fs → z ∉ ls → ∀ y, (z, y) ∈ ps → y ∈ fs
  few : ls.length ≤ fs.length + 1
theorem BhI.le {ps : List (Str × Str)} {x : Str} {fs ls : List Str} (h : BhI ps x fs ls) : fs.length ≤ ps.length := by
  have := nodup_le (ys := ps.map (·.2)) h.nd fun y hy => (h.way y hy).right
  rwa [List.length_map] at this
structure BhJ (ps : List (Str × Str)) (x here : Str) (fs ls gs ms : List Str) (i : Nat) : Prop where
  nd : gs.Nodup
  way : ∀ y ∈ gs, Way ps x y
  line : ∀ z ∈ ms, z = x ∨ z ∈ gs
  keep : ∀ z ∈ fs, z ∈ gs
  keepL : ∀ z ∈ ls, z ∈ ms
  new : ∀ z ∈ gs, z ∈ fs ∨ z ∈ ms
  seen : ∀ j < i, ∀ y, ps[j]? = some (here, y) → y ∈ gs
  len : gs.length + ls.length = fs.length + ms.length
theorem BhJ.le {ps : List (Str × Str)} {x here : Str} {fs ls gs ms : List Str} {i : Nat} (h : BhJ ps x here fs ls gs ms i) : gs.length ≤ ps.length := by
  have := nodup_le (ys := ps.map (·.2)) h.nd fun y hy => (h.way y hy).right
  rwa [List.length_map] at this
theorem BhJ.step {ps : List (Str × Str)} {x here : Str} {fs ls gs ms : List Str} {i : Nat} {p : Str × Str} (h : BhJ ps x here fs ls gs ms i) (hw : here = x ∨ Way ps x here) (hp : ps[i]? = some p) (h1 : p.1 = here) (h2 : p.2 ∉ gs) : BhJ ps x here fs ls (gs ++ [p.2]) (ms ++ [p.2]) (i + 1) := by
  have hm : (here, p.2) ∈ ps := by rw [← h1]; exact List.mem_of_getElem? hp
  refine ⟨?_, fun y hy => ?_, fun z hz => ?_, fun z hz => List.mem_append_left _ (h.keep z hz), fun z hz => List.mem_append_left _ (h.keepL z hz), fun z hz => ?_, fun j hj y e => ?_, ?_⟩
  · rw [List.nodup_append]
    refine ⟨h.nd, by simp, fun a ha b hb => ?_⟩
    have : b = p.2 := by simpa using hb
    subst this
    intro e
    subst e
    exact h2 ha
  · rcases List.mem_append.mp hy with hy | hy
    · exact h.way y hy
    · have : y = p.2 := by simpa using hy
      subst this
      rcases hw with rfl | hw
      · exact .one hm
      · exact hw.snoc hm
  · rcases List.mem_append.mp hz with hz | hz
    · rcases h.line z hz with e | e
      · exact .inl e
      · exact .inr (List.mem_append_left _ e)
    · exact .inr (List.mem_append_right _ hz)
  · rcases List.mem_append.mp hz with hz | hz
    · rcases h.new z hz with e | e
      · exact .inl e
      · exact .inr (List.mem_append_left _ e)
    · exact .inr (List.mem_append_right _ hz)
  · by_cases hji : j = i
    · subst hji
      rw [hp] at e
      cases e
      exact List.mem_append_right _ (by simp)
    · exact List.mem_append_left _ (h.seen j (by omega) y e)
  · rw [List.length_append, List.length_append, List.length_singleton]
    have := h.len
    omega
theorem BhJ.skip {ps : List (Str × Str)} {x here : Str} {fs ls gs ms : List Str} {i : Nat} {p : Str × Str} (h : BhJ ps x here fs ls gs ms i) (hp : ps[i]? = some p) (h1 : p.1 = here → p.2 ∈ gs) : BhJ ps x here fs ls gs ms (i + 1) := by
  refine ⟨h.nd, h.way, h.line, h.keep, h.keepL, h.new, fun j hj y e => ?_, h.len⟩
  by_cases hji : j = i
  · subst hji
    rw [hp] at e
    cases e
    exact h1 rfl
  · exact h.seen j (by omega) y e
theorem BhJ.done {ps : List (Str × Str)} {x here : Str} {fs ls gs ms : List Str} (I : BhI ps x fs (ls ++ [here])) (h : BhJ ps x here fs ls gs ms ps.length) : BhI ps x gs ms := by
  refine ⟨h.nd, h.way, h.line, fun z hz hm y hy => ?_, ?_⟩
  · by_cases e : z = here
    · subst e
      obtain ⟨j, hj, ej⟩ := List.getElem_of_mem hy
      exact h.seen j hj y (by rw [List.getElem?_eq_getElem hj, ej])
    · have hz' : z = x ∨ z ∈ fs := by
        rcases hz with hz | hz
        · exact .inl hz
        · rcases h.new z hz with q | q
          · exact .inr q
          · exact absurd q hm
      refine h.keep y (I.shut z hz' (fun q => ?_) y hy)
      rcases List.mem_append.mp q with q | q
      · exact hm (h.keepL z q)
      · exact e (by simpa using q)
  · have := h.len
    have := I.few
    rw [List.length_append, List.length_singleton] at this
    omega
theorem ok__law_behind {f : Addr} {fd : FuncData} (F : Fun K "_law_behind" "_law_behind" s__law_behind f fd) (T : TopF mg) : FnOk P w K mg base CX0 1 f fd ["_law_half_here", "_law_name"] (sp__law_behind K) := by
  refine F.ok sc__law_behind (fun vs H Q E h => ?_) (fun cdv A outer s H vs Q E hr h => ?_)
  · obtain ⟨v, x, ns, ps, rfl, _⟩ := h
    rfl
  · obtain ⟨v, x, ns, ps, rfl, hI, hl, hok, hx, k⟩ := h
    have hu := hu_of hr
    have hq := qa_of hr
    with_reducible refine ⟨_, (pss_cons (ps_set (i := 2) sc__law_behind.nd (by with_unfolding_all rfl) (by with_unfolding_all exact Or.inl rfl) (pe_lst pa_nil))
      (pss_cons (ps_set (i := 3) sc__law_behind.nd (by with_unfolding_all rfl) (by with_unfolding_all exact Or.inl rfl) (pe_lst (pa_cons (pv 1) pa_nil)))
      (pss_cons (ps_while PassesOwn.never (pt_cmpR (op_neK (K := K) hq) (pv 3) (pe_lst pa_nil) (nomark _))
      (pss_cons (ps_set (i := 4) sc__law_behind.nd (by with_unfolding_all rfl) (by with_unfolding_all exact Or.inl rfl) (pe_bm0K (K := K) PySem.F.plainAttrs_list PySem.F.slot_list_pop PySem.F.type_list_pop (mm mt_pop) (pv 3)))
      (pss_one (ps_for PassesOwn.never (by with_unfolding_all rfl) (pi_anyK (K := K) hu (pe_ix (ix_anyK (K := K) hu) (pv 0) pe_int (by with_unfolding_all exact fun _ _ => rfl))) (pg_tupK (K := K) (n := 2) (by with_unfolding_all rfl) (pgs_cons (pg_name (i := 5) sc__law_behind.nd (by with_unfolding_all rfl) (by with_unfolding_all exact Or.inl rfl)) (pgs_cons (pg_name (i := 6) sc__law_behind.nd (by with_unfolding_all rfl) (by with_unfolding_all exact Or.inl rfl)) pgs_nil)))
      (pss_one (ps_if (PW.pt (pw_and (pt_cmpR (op_eqK (K := K) hq) (pv 5) (pv 4) (nomark _)) (pw_and1 (pt_cmpR (op_notInK (K := K) hq) (pv 6) (pv 2) (by with_unfolding_all rfl))))) (pss_cons (ps_expr (pe_bmK (K := K) PySem.F.plainAttrs_list PySem.F.slot_list_append PySem.F.type_list_append (mm mt_append) (pv 2) (pa_cons (pv 6) pa_nil)))
      (pss_one (ps_expr (pe_bmK (K := K) PySem.F.plainAttrs_list PySem.F.slot_list_append PySem.F.type_list_append (mm mt_append) (pv 3) (pa_cons (pv 6) pa_nil))))) pss_nil))))))
      (pss_one (ps_ret (pv 2)))))), ?_⟩
    walk_at "rd"
    refine i_newL (by decide) fun p H1 hp1 e1 h1 => ?_
    walk_at "rd"
    refine i_newL (line_of (by simp)) fun q H2 hq2 e2 h2 => ?_
    walk_at "rd"
    have hpq : p ≠ q := ne_of_none h1 hq2
    have hq0 : H q = none := e1.free hq2
    have okn : ∀ y, y = x ∨ Way ps x y → PyData.strOk y = true := fun y hy => by
      rcases hy with rfl | hy
      · exact hx
      · obtain ⟨pr, hpr, e⟩ := List.mem_map.mp hy.right
        exact e ▸ (hok pr hpr).2
    refine i_while (fun m σ H3 => ∃ fs ls x4 x5 x6, σ = [some v, some (.str x), some (.ref p), some (.ref q), x4, x5, x6] ∧ Same H H3 ∧ H3 p = some (.lst (fs.map V.str)) ∧ H3 q = some (.lst (ls.map V.str)) ∧ BhI ps x fs ls ∧ m = 2 * (ps.length - fs.length) + ls.length)
      (2 * (ps.length - ([] : List Str).length) + [x].length) ⟨[], [x], _, _, _, rfl, by walk_at "sm", by walk_at "lk", h2, ⟨by simp, fun _ h => (by cases h), fun z hz => .inl (by simpa using hz), fun z hz hn => (by
        rcases hz with rfl | hz
        · exact absurd (by simp) hn
        · cases hz), by simp⟩, rfl⟩ fun m σ H3 hP => ?_
    obtain ⟨fs, ls, x4, x5, x6, rfl, e3, h3p, h3q, hB, rfl⟩ := hP
    walk_at "rd"
    refine i_newL (by decide) fun t H4 ht4 e4 h4 => ?_
    refine i_neD (dx := .list (ls.map PyData.str)) (dy := .list []) (Is.of_lst (SqL.of (e4 _ _ h3q)) (is_strs ls)) (Is.of_lst (SqL.of h4) .nil) (fine_lst fun z hz => ?_) (by rfl) ?_
    · refine okn z ?_
      rcases hB.line z hz with e | e
      · exact .inl e
      · exact .inr (hB.way z e)
    rw [eqv_nil_strs]
    walk_at "rd"
    refine iteNB (fun hE => ?_) (fun hE => ?_)
    · have hne : ls ≠ [] := by
        intro e
        subst e
        cases hE
      obtain ⟨ls', here, rfl⟩ : ∃ ls' here, ls = ls' ++ [here] := ⟨ls.dropLast, ls.getLast hne, (List.dropLast_concat_getLast hne).symm⟩
      refine i_turn ?_
      walk_at "rd"
      have h4p : H4 p = some (.lst (fs.map V.str)) := e4 _ _ h3p
      have h4q : H4 q = some (.lst (ls'.map V.str ++ [V.str here])) := by rw [e4 _ _ h3q, List.map_append]; rfl
      refine i_popR h4q fun H5 e5 h5q => ?_
      walk_at "rd"
      have h5p : H5 p = some (.lst (fs.map V.str)) := e5 _ _ hpq h4p
      have e05 : Same H H5 := by walk_at "sm"
      refine i_ixH1 (hI.hf_fz e05.fz) fun u hI5 => ?_
      have hle := hB.le
      have hfew := hB.few
      rw [List.length_append, List.length_singleton] at hfew
      refine for_ps hI5 (fun i σ H6 => ∃ gs ms x5 x6, σ = [some v, some (.str x), some (.ref p), some (.ref q), some (.str here), x5, x6] ∧ Same H H6 ∧ Fz H5 H6 ∧ H6 p = some (.lst (gs.map V.str)) ∧ H6 q = some (.lst (ms.map V.str)) ∧ BhJ ps x here fs ls' gs ms i)
        ⟨fs, ls', _, _, rfl, e05, .refl _, h5p, h5q, ⟨hB.nd, hB.way, fun z hz => hB.line z (List.mem_append_left _ hz), fun _ h => h, fun _ h => h, fun _ h => .inl h, fun j hj => absurd hj (Nat.not_lt_zero _), rfl⟩⟩ (fun i σ' H' hP => ?_) (fun i pr w σ' H6 hpr hIp hP => ?_) (fun σ' H6 hP => ?_)
      · obtain ⟨_, _, _, _, _, _, fz, _⟩ := hP
        exact fz
      · obtain ⟨gs, ms, x5', x6', rfl, e6, fz6, h6p, h6q, hJ⟩ := hP
        have hgl := hJ.le
        have hml := hJ.len
        refine i_gpair hIp ?_
        walk_at "rd"
        refine iteD (fun h1 => ?_) (fun h1 => ?_)
        · have h1' : pr.1 = here := by injection h1
          walk_at "rd"
          refine i_ninLN (SqL.of h6p) ?_
          walk_at "rd"
          refine iteND (fun h2 => ?_) (fun h2 => ?_)
          · walk_at "rd"
            refine i_appR h6p (by rw [List.length_map]; omega) fun H7 e7 h7p => ?_
            walk_at "rd"
            have h7q : H7 q = some (.lst (ms.map V.str)) := e7 _ _ (Ne.symm hpq) h6q
            refine i_appR h7q (by rw [List.length_map]; omega) fun H8 e8 h8q => ?_
            walk_at "rd"
            refine ⟨gs ++ [pr.2], ms ++ [pr.2], _, _, rfl, by walk_at "sm", (fz6.trans (e7.fzL h6p)).trans (e8.fzL h7q), ?_, ?_, hJ.step ?_ hpr h1' h2⟩
            · rw [e8 _ _ hpq h7p, List.map_append]
              rfl
            · rw [h8q, List.map_append]
              rfl
            · rcases hB.line here (List.mem_append_right _ (by simp)) with e | e
              · exact .inl e
              · exact .inr (hB.way _ e)
          · exact ⟨gs, ms, _, _, rfl, e6, fz6, h6p, h6q, hJ.skip hpr fun _ => h2⟩
        · exact ⟨gs, ms, _, _, rfl, e6, fz6, h6p, h6q, hJ.skip hpr fun e => absurd (by rw [e]) h1⟩
      · obtain ⟨gs, ms, x5', x6', rfl, e6, fz6, h6p, h6q, hJ⟩ := hP
        have hgl := hJ.le
        have hml := hJ.len
        have hge := nodup_le hB.nd hJ.keep
        refine ⟨_, ?_, gs, ms, _, _, _, rfl, e6, h6p, h6q, BhJ.done hB hJ, rfl⟩
        rw [List.length_append, List.length_singleton]
        omega
    · have hn : ls = [] := by
        cases ls with
        | nil => rfl
        | cons _ _ => cases hE
      subst hn
      walk_at "rd"
      refine k p fs H4 hp1 (by walk_at "sm") (e4 _ _ h3p) hB.nd fun y => ⟨hB.way y, fun g => ?_⟩
      exact Way.shut (S := fun y => y ∈ fs) (fun y hy => hB.shut x (.inl rfl) (by simp) y hy) (fun z y hz hy => hB.shut z (.inr hz) (by simp) y hy) g
noncomputable def sp__law_half (K : PySem.W.Frag) : Sp := fun vs H Q _ => ∃ d l n, vs = [.ref d, .int n] ∧ Feed H d l ∧ 0 ≤ n ∧ n ≤ 10 ∧ ∀ v ns ps H', ExtBut d H H' → Feed H' d l → Is K H' (hfD ns ps) v → Half ns ps → ns.length ≤ n.toNat → Q v H'
theorem half_of {ns ls : List Str} {ps : List (Str × Str)} (h : Names ns) (hl : ns.length ≤ 10) (p : ls.Perm ns) (u : Up ls ps) (hp : ps.length ≤ 60) : Half ns ps := ⟨h, hl, hp, ls, p, u⟩
theorem perm_strs {ns : List Str} {ys : List V} (h : ys.Perm (ns.map V.str)) : ∃ ls : List Str, ys = ls.map V.str ∧ ls.Perm ns := by
  refine ⟨ys.map fun v => match v with | .str z => z | _ => "", ?_, ?_⟩
  · rw [List.map_map]
    have : ∀ v ∈ ys, (V.str ∘ fun v => match v with | .str z => z | _ => "") v = v := fun v hv => by
      obtain ⟨z, _, rfl⟩ := List.mem_map.mp (h.mem_iff.mp hv)
      rfl
    rw [List.map_congr_left this]
    simp
  · have := h.map fun v => match v with | .str z => z | _ => ("" : Str)
    rw [List.map_map] at this
    have e : ns.map ((fun v => match v with | .str z => z | _ => ("" : Str)) ∘ V.str) = ns := by
      rw [show ((fun v => match v with | .str z => z | _ => ("" : Str)) ∘ V.str) = id from rfl, List.map_id]
    rw [e] at this
    exact this
theorem ok__law_half {f : Addr} {fd : FuncData} (F : Fun K "_law_half" "_law_half" s__law_half f fd) (T : TopF mg) (c__law_draw : Fnd P w K mg base 1 "_law_draw" ["_law_feed_here", "_law_many"] (sp__law_draw K)) (c__law_names : Fnd P w K mg base 2 "_law_names" ["_law_feed_here", "_law_many"] (sp__law_names K)) (c__law_shuffled : Fnd P w K mg base 2 "_law_shuffled" ["_law_feed_here", "_law_some"] (sp__law_shuffled K)) (c__law_sayings : Fnd P w K mg base 3 "_law_sayings" ["_law_feed_here", "_law_line"] (sp__law_sayings K)) : FnOk P w K mg base CX0 4 f fd ["_law_feed_here", "_law_most"] (sp__law_half K) := by
  refine F.ok sc__law_half (fun vs H Q E h => ?_) (fun cdv A outer s H vs Q E hr h => ?_)
  · obtain ⟨d, l, n, rfl, _⟩ := h
    rfl
  · obtain ⟨d, l, n, rfl, hF, h0, h10, k⟩ := h
    have hu := hu_of hr
    have hq := qa_of hr
    with_reducible refine ⟨_, (pss_cons (ps_set (i := 2) sc__law_half.nd (by with_unfolding_all rfl) (by with_unfolding_all exact Or.inl rfl) (pe_fn c__law_names (hr.mono (by decide)) (by with_unfolding_all rfl) (pa_cons (pv 0) (pa_cons (pe_fn c__law_draw (hr.mono (by decide)) (by with_unfolding_all rfl) (pa_cons (pv 0) (pa_cons (pe_op (op_addK (K := K)) (pv 1) pe_int) pa_nil))) pa_nil))))
      (pss_one (ps_ret (pe_tup (pa_cons (pe_callTy (call_tupleK (K := K)) (by with_unfolding_all rfl) T.b_tuple PyProof.Rows.Boot.«tuple» (pa_cons (pv 2) pa_nil)) (pa_cons (pe_fn c__law_sayings (hr.mono (by decide)) (by with_unfolding_all rfl) (pa_cons (pv 0) (pa_cons (pe_fn c__law_shuffled (hr.mono (by decide)) (by with_unfolding_all rfl) (pa_cons (pv 0) (pa_cons (pv 2) pa_nil))) pa_nil))) pa_nil)))))), ?_⟩
    walk_at "rd"
    refine ⟨d, l, _, rfl, hF, by omega, by omega, fun u H1 hu0 hu1 e1 hF1 => ?_⟩
    walk_at "rd"
    refine ⟨d, l, _, rfl, hF1, by omega, by omega, fun p2 ns H2 hp2 e2 hF2 h2 hN hl => ?_⟩
    walk_at "rd"
    refine i_tupleL (SqL.of h2) fun t3 H3 ht3 e3 h3 => ?_
    have hF3 := hF2.same e3
    have hI3 : Is K H3 (nmD ns) (.ref t3) := is_nm (SqT.of h3)
    walk_at "rd"
    refine ⟨d, l, p2, _, rfl, hF3, .inl (SqL.of (e3 _ _ h2)), by rw [List.length_map]; omega, fun p4 ys4 H4 hp4 e4 hF4 h4 hperm => ?_⟩
    obtain ⟨ls, rfl, hpm⟩ := perm_strs hperm
    have fz4 := hF3.fz e4
    walk_at "rd"
    refine ⟨d, l, p4, ls, rfl, hF4, h4, by rw [hpm.length_eq]; omega, fun v5 ps H5 e5 hF5 hI5 hU hl5 => ?_⟩
    have fz5 := hF4.fz e5
    walk_at "rd"
    refine i_newT (line_of (by simp)) fun t6 H6 ht6 e6 h6 => ?_
    exact k (.ref t6) ns ps H6 (by walk_at "fr") (by walk_at "fd") (is_hf (SqT.of h6) (hI3.nm_fz ((fz4.trans fz5).trans e6.fz)) (hI5.ps_fz e6.fz)) (half_of hN (by omega) hpm hU hl5) (by omega)
noncomputable def tupD : PyData → Bool
  | .tuple _ => true
  | _ => false
noncomputable def strD : PyData → Bool
  | .str _ => true
  | _ => false
theorem isTupD {K : PySem.W.Frag} {H : Hp} {Q : VK} {D : PyData} {v : V} (h : Is K H D v) (k : Q (.bl (tupD D)) H) : rIsinst K [v, .ty "tuple"] H Q := by
  cases D with
  | none => simp only [Is] at h; subst h; exact i_isi .non (b := false) (by rfl) k
  | bool b => simp only [Is] at h; subst h; exact i_isi (.bl b) (b := false) (by rfl) k
  | int b => simp only [Is] at h; subst h; exact i_isi (.int b) (b := false) (by rfl) k
  | str b => simp only [Is] at h; subst h; exact i_isi (.str b) (b := false) (by rfl) k
  | list ds => simp only [Is] at h; obtain ⟨a, xs, rfl, h1, _⟩ := h; exact i_isiL h1 (b := false) (by rfl) k
  | tuple ds => simp only [Is] at h; obtain ⟨a, xs, rfl, h1, _⟩ := h; exact i_isiT h1 (b := true) (by rfl) k
  | dict _ => simp only [Is] at h
theorem isStrD {K : PySem.W.Frag} {H : Hp} {Q : VK} {D : PyData} {v : V} (h : Is K H D v) (k : Q (.bl (strD D)) H) : rIsinst K [v, .ty "str"] H Q := by
  cases D with
  | none => simp only [Is] at h; subst h; exact i_isi .non (b := false) (by rfl) k
  | bool b => simp only [Is] at h; subst h; exact i_isi (.bl b) (b := false) (by rfl) k
  | int b => simp only [Is] at h; subst h; exact i_isi (.int b) (b := false) (by rfl) k
  | str b => simp only [Is] at h; subst h; exact i_isi (.str b) (b := true) (by rfl) k
  | list ds => simp only [Is] at h; obtain ⟨a, xs, rfl, h1, _⟩ := h; exact i_isiL h1 (b := false) (by rfl) k
  | tuple ds => simp only [Is] at h; obtain ⟨a, xs, rfl, h1, _⟩ := h; exact i_isiT h1 (b := false) (by rfl) k
  | dict _ => simp only [Is] at h
mutual
def lfs : PyData → Nat
  | .str _ => 1
  | .list ds => lfsL ds
  | .tuple ds => lfsL ds
  | _ => 0
def lfsL : List PyData → Nat
  | [] => 0
  | d :: ds => lfs d + lfsL ds
end
theorem lf_app : ∀ as bs : List PyData, lfsL (as ++ bs) = lfsL as + lfsL bs
  | [], bs => by simp only [List.nil_append, lfsL]; omega
  | a :: as, bs => by
    have := lf_app as bs
    simp only [List.cons_append, lfsL]
    omega
theorem lf_rev : ∀ as : List PyData, lfsL as.reverse = lfsL as
  | [] => rfl
  | a :: as => by
    have := lf_rev as
    rw [List.reverse_cons, lf_app, this]
    simp only [lfsL]
    omega
theorem lf_take (ds : List PyData) (n : Nat) : lfsL (ds.take n) ≤ lfsL ds := by
  have := lf_app (ds.take n) (ds.drop n)
  rw [List.take_append_drop] at this
  omega
theorem lf_drop (ds : List PyData) (n : Nat) : lfsL (ds.drop n) ≤ lfsL ds := by
  have := lf_app (ds.take n) (ds.drop n)
  rw [List.take_append_drop] at this
  omega
theorem lf_tup (ds : List PyData) : lfs (.tuple ds) = lfsL ds := by simp only [lfs]
theorem lf_lst (ds : List PyData) : lfs (.list ds) = lfsL ds := by simp only [lfs]
theorem lf_str (z : Str) : lfs (.str z) = 1 := by simp only [lfs]
noncomputable def OddL (K : PySem.W.Frag) (H : Hp) (p : Addr) (n w W M N0 : Nat) : Prop := ∃ ys es, H p = some (.lst ys) ∧ IsL K H es ys ∧ (∀ e ∈ es, Dk n w W e ∧ lfs e ≤ M) ∧ es ≠ [] ∧ es.length ≤ N0
theorem OddL.le {K : PySem.W.Frag} {H : Hp} {p : Addr} {n w W M N0 N1 : Nat} (h : OddL K H p n w W M N0) (h1 : N0 ≤ N1) : OddL K H p n w W M N1 := let ⟨ys, es, a, b, c, d, e⟩ := h; ⟨ys, es, a, b, c, d, Nat.le_trans e h1⟩
noncomputable def sp__law_odd (K : PySem.W.Frag) : Sp := fun vs H Q _ => ∃ d l v D n w W M, vs = [.ref d, v] ∧ Feed H d l ∧ Is K H D v ∧ Dk n w W D ∧ n ≤ 20 ∧ w ≤ 100000 ∧ 2 ≤ W ∧ lfs D ≤ M ∧ ∀ v' D' H', ExtBut d H H' → Feed H' d l → Is K H' D' v' → Dk (n + 2) (2 * w + 200) (W + 1) D' → lfs D' ≤ 2 * M + 2 → Q v' H'
theorem oddC_ok : ∀ e ∈ [PyData.none, .bool true, .bool false, .int (-1), .int 0, .int 1, .int (10 ^ 39), .str "", .str "a", .str "A", .str "abcdefghi", .str "a b", .str "a{", .tuple [], .list [], .tuple [.str "a"], .tuple [.str "a", .str "b"]], Dk 2 200 2 e := by
  intro e he
  simp only [List.mem_cons, List.not_mem_nil, or_false] at he
  rcases he with rfl | rfl | rfl | rfl | rfl | rfl | rfl | rfl | rfl | rfl | rfl | rfl | rfl | rfl | rfl | rfl | rfl <;> exact ⟨by decide +kernel, by decide +kernel, by decide +kernel, by decide +kernel, by decide +kernel, by decide +kernel, by decide +kernel⟩
theorem oddC_lf : ∀ e ∈ [PyData.none, .bool true, .bool false, .int (-1), .int 0, .int 1, .int (10 ^ 39), .str "", .str "a", .str "A", .str "abcdefghi", .str "a b", .str "a{", .tuple [], .list [], .tuple [.str "a"], .tuple [.str "a", .str "b"]], lfs e ≤ 2 := by
  intro e he
  simp only [List.mem_cons, List.not_mem_nil, or_false] at he
  rcases he with rfl | rfl | rfl | rfl | rfl | rfl | rfl | rfl | rfl | rfl | rfl | rfl | rfl | rfl | rfl | rfl | rfl <;> decide +kernel
theorem wt_len : ∀ ds : List PyData, ds.length ≤ PyData.weightAll ds
  | [] => by simp
  | d :: ds => by
    have := wt_len ds
    simp only [List.length_cons, PyData.weightAll]
    omega
theorem mem_rep {α : Type} {es : List α} {e : α} : ∀ {k : Nat}, e ∈ (List.replicate k es).flatten → e ∈ es
  | 0, h => by cases h
  | k + 1, h => by
    rw [List.replicate_succ, List.flatten_cons] at h
    exact (List.mem_append.mp h).elim id fun h => mem_rep h
theorem isl_rep {K : PySem.W.Frag} {H : Hp} {es : List PyData} {ys : List V} (h : IsL K H es ys) : ∀ k : Nat, IsL K H (List.replicate k es).flatten (List.replicate k ys).flatten
  | 0 => .nil
  | k + 1 => by
    rw [List.replicate_succ, List.flatten_cons, List.replicate_succ, List.flatten_cons]
    exact IsL.append h (isl_rep h k)
noncomputable def cutD (ds : List PyData) (lo hi : Option Int) : List PyData := (ds.drop (HT.sIx ds.length 0 lo)).take (HT.sIx ds.length ds.length hi - HT.sIx ds.length 0 lo)
theorem isl_rev {K : PySem.W.Frag} {H : Hp} : ∀ {es : List PyData} {ys : List V}, IsL K H es ys → IsL K H es.reverse ys.reverse
  | [], ys, h => by simp only [L2.IsL] at h; subst h; exact .nil
  | e :: es, ys, h => by
    simp only [L2.IsL] at h
    obtain ⟨v, r, rfl, h1, h2⟩ := h
    rw [List.reverse_cons, List.reverse_cons]
    exact IsL.append (isl_rev h2) (.one h1)
theorem less_asc {z : Str} (h : Asc z) : Asc (Txt.slice z none (some (-1))) ∧ (Txt.slice z none (some (-1))).length ≤ z.length := by
  refine ⟨fun c hc => ?_, Txt.slice_le ..⟩
  unfold Txt.slice at hc
  split at hc
  · exact h c hc
  · rw [List.toList_toArray] at hc
    obtain ⟨i, _, hi⟩ := List.mem_filterMap.mp hc
    exact h c (Array.mem_toList_iff.mpr (Array.mem_of_getElem? hi))
theorem ok__law_odd {f : Addr} {fd : FuncData} (F : Fun K "_law_odd" "_law_odd" s__law_odd f fd) (T : TopF mg) (c__law_draw : Fnd P w K mg base 1 "_law_draw" ["_law_feed_here", "_law_many"] (sp__law_draw K)) : FnOk P w K mg base CX0 2 f fd ["_law_feed_here", "_law_part"] (sp__law_odd K) := by
  refine F.ok sc__law_odd (fun vs H Q E h => ?_) (fun cdv A outer s H vs Q E hr h => ?_)
  · obtain ⟨d, l, v, D, n, w, W, M, rfl, _⟩ := h
    rfl
  · obtain ⟨d, l, v, D, n, w, W, M, rfl, hF, hI, hD, hn, hw, hW2, hM, k⟩ := h
    have hu := hu_of hr
    have hq := qa_of hr
    with_reducible refine ⟨_, (pss_cons (ps_set (i := 2) sc__law_odd.nd (by with_unfolding_all rfl) (by with_unfolding_all exact Or.inl rfl) (pe_lst (pa_cons pe_non (pa_cons pe_bl (pa_cons pe_bl (pa_cons (pe_un un_neg pe_int) (pa_cons pe_int (pa_cons pe_int (pa_cons (pe_op op_pow pe_int pe_int) (pa_cons pe_str (pa_cons pe_str (pa_cons pe_str (pa_cons pe_str (pa_cons pe_str (pa_cons pe_str (pa_cons (pe_tup pa_nil) (pa_cons (pe_lst pa_nil) (pa_cons (pe_tup (pa_cons pe_str pa_nil)) (pa_cons (pe_tup (pa_cons pe_str (pa_cons pe_str pa_nil))) pa_nil)))))))))))))))))))
      (pss_cons (ps_if (pt_val (pe_callB (call_isinstK (K := K)) (by with_unfolding_all rfl) T.b_isinstance PyProof.Rows.Boot.«isinstance» (pa_cons (pv 1) (pa_cons (pe_bltn (v := .ty "tuple") (by with_unfolding_all rfl) T.b_tuple PyProof.Rows.Boot.«tuple» (by with_unfolding_all rfl)) pa_nil)))) (pss_one (ps_set (i := 2) sc__law_odd.nd (by with_unfolding_all rfl) (by with_unfolding_all exact Or.inl rfl) (pe_op (op_addK (K := K)) (pv 2) (pe_op op_mulB (pe_lst (pa_cons (pe_callTy (call_listK (K := K)) (by with_unfolding_all rfl) T.b_list PyProof.Rows.Boot.«list» (pa_cons (pv 1) pa_nil)) (pa_cons (pe_op (op_addK (K := K)) (pv 1) (pe_tup (pa_cons pe_str pa_nil))) (pa_cons (pe_slice (sl_K (K := K)) (pv 1) po_none (po_some (pe_un un_neg pe_int))) (pa_cons (pe_slice (sl_K (K := K)) (pv 1) (po_some pe_int) po_none) (pa_cons (pe_op (op_addK (K := K)) (pv 1) (pe_slice (sl_K (K := K)) (pv 1) po_none (po_some pe_int))) (pa_cons (pe_tup (pa_cons (pv 1) pa_nil)) (pa_cons (pe_backT (K := K) (pv 1) (pe_un un_neg pe_int)) pa_nil)))))))) pe_int)))) pss_nil)
      (pss_cons (ps_if (pt_val (pe_callB (call_isinstK (K := K)) (by with_unfolding_all rfl) T.b_isinstance PyProof.Rows.Boot.«isinstance» (pa_cons (pv 1) (pa_cons (pe_bltn (v := .ty "str") (by with_unfolding_all rfl) T.b_str PyProof.Rows.Boot.«str» (by with_unfolding_all rfl)) pa_nil)))) (pss_one (ps_set (i := 2) sc__law_odd.nd (by with_unfolding_all rfl) (by with_unfolding_all exact Or.inl rfl) (pe_op (op_addK (K := K)) (pv 2) (pe_op op_mulB (pe_lst (pa_cons (pe_op (op_addK (K := K)) (pv 1) pe_str) (pa_cons (pe_slice (sl_K (K := K)) (pv 1) po_none (po_some (pe_un un_neg pe_int))) (pa_cons (pe_bm0K (K := K) PySem.F.plainAttrs_str PySem.F.slot_str_upper PySem.F.type_str_upper mt_upper (pv 1)) (pa_cons (pe_tup (pa_cons (pv 1) pa_nil)) (pa_cons (pe_op (op_addK (K := K)) (pv 1) pe_str) pa_nil)))))) pe_int)))) pss_nil)
      (pss_one (ps_ret (pe_ix (ix_anyK (K := K) hu) (pv 2) (pe_fn c__law_draw (hr.mono (by decide)) (by with_unfolding_all rfl) (pa_cons (pv 0) (pa_cons (pe_callB (call_lenK (K := K)) (by with_unfolding_all rfl) T.b_len PyProof.Rows.Boot.«len» (pa_cons (pv 2) pa_nil)) pa_nil))) (by with_unfolding_all exact fun _ _ => rfl))))))), ?_⟩
    walk_at "rd"
    refine i_newT (line_of (by simp)) fun t1 H1 ht1 e1 h1 => ?_
    walk_at "rd"
    refine i_newL (line_of (by simp)) fun t2 H2 ht2 e2 h2 => ?_
    walk_at "rd"
    refine i_newT (line_of (by simp)) fun t3 H3 ht3 e3 h3 => ?_
    walk_at "rd"
    refine i_newT (line_of (by simp)) fun t4 H4 ht4 e4 h4 => ?_
    walk_at "rd"
    refine i_newL (line_of (by simp)) fun p H5 hp e5 h5 => ?_
    have e15 := (((e1.trans e2).trans e3).trans e4).trans e5
    have hL5 : OddL K H5 p (n + 2) (2 * w + 200) (W + 1) (2 * M + 2) 17 := by
      refine ⟨_, _, h5, ?_, fun e he => ⟨(oddC_ok e he).le (by omega) (by omega), Nat.le_trans (oddC_lf e he) (by omega)⟩, by simp, by simp⟩
      have a1 := ((((e2.trans e3).trans e4).trans e5)) _ _ h1
      have a2 := ((e3.trans e4).trans e5) _ _ h2
      have a3 := (e4.trans e5) _ _ h3
      have a4 := e5 _ _ h4
      exact .cons (by simp only [Is]) (.cons is_bl (.cons is_bl (.cons is_int (.cons is_int (.cons is_int (.cons is_int (.cons is_str (.cons is_str (.cons is_str (.cons is_str (.cons is_str (.cons is_str (.cons (Is.of_tup (SqT.of a1) .nil) (.cons (Is.of_lst (SqL.of a2) .nil) (.cons (Is.of_tup (SqT.of a3) (.one is_str)) (.one (Is.of_tup (SqT.of a4) (.cons is_str (.one is_str)))))))))))))))))))
    have hI5 := Is.mono e15 _ _ hI
    clear h1 h2 h3 h4 h5
    walk_at "rq"
    with_reducible refine i_cut (fun σ' H' => ∃ p, σ' = [some (V.ref d), some v, some (.ref p)] ∧ Same H H' ∧ OddL K H' p (n + 2) (2 * w + 200) (W + 1) (2 * M + 2) 52) (fun N hN => ?_) (fun σ1 H6 hM => ?_)
    · walk_at "rq"
      refine isTupD hI5 ⟨_, rfl, ?_⟩
      cases hT : tupD D with
      | false =>
        walk_at "rq"
        exact hN _ _ ⟨p, rfl, e15, hL5.le (by decide)⟩
      | true =>
        obtain ⟨ds, rfl⟩ : ∃ ds, D = .tuple ds := by cases D <;> first | exact ⟨_, rfl⟩ | cases hT
        obtain ⟨va, xs, rfl, hS, hX⟩ := hI5.tup
        obtain ⟨m, rfl⟩ : ∃ m, n = m + 1 := ⟨n - 1, by have := hD.dp; simp only [PyData.depth] at this; omega⟩
        have hE := hD.els
        have hxl := IsL.length hX
        have hwl : ds.length ≤ w := Nat.le_trans (wt_len ds) hE.wt
        obtain ⟨ys, es, h5, hy, hes, hne, hel⟩ := hL5
        have hyl := IsL.length hy
        walk_at "rq"
        refine i_listA (.inr hS) fun q1 H6 hq1 f1 g1 => ?_
        walk_at "rq"
        refine i_newT (line_of (by simp)) fun q2 H7 hq2 f2 g2 => ?_
        have f12 := f1.trans f2
        refine i_addT (f12.seqT hS) (SqT.of g2) (line_of (by simp; omega)) fun q3 H8 f3 g3 => ?_
        walk_at "rq"
        have f13 := f12.trans f3
        refine i_slT (f13.seqT hS) fun q4 H9 f4 g4 => ?_
        have f14 := f13.trans f4
        walk_at "rq"
        refine i_slT (f14.seqT hS) fun q5 H10 f5 g5 => ?_
        have f15 := f14.trans f5
        walk_at "rq"
        refine i_slT (f15.seqT hS) fun q6 H11 f6 g6 => ?_
        have f16 := f15.trans f6
        rw [cut_upto (by omega)] at g6
        refine i_addT (f16.seqT hS) g6 (line_of (by simp; omega)) fun q7 H12 f7 g7 => ?_
        have f17 := f16.trans f7
        walk_at "rq"
        refine i_newT (line_of (by simp)) fun q8 H13 hq8 f8 g8 => ?_
        have f18 := f17.trans f8
        walk_at "rq"
        refine i_backT (f18.seqT hS) fun q9 H14 hq9 f9 g9 => ?_
        have f19 := f18.trans f9
        walk_at "rq"
        refine i_newL (line_of (by simp)) fun q10 H15 hq10 f10 g10 => ?_
        have f110 := f19.trans f10
        walk_at "rq"
        refine .inl (i_mulL g10 ⟨by decide, by decide⟩ (line_of (by simp)) fun q11 H16 hq11 f11 g11 => ?_)
        have f111 := f110.trans f11
        refine i_addL (f111 _ _ h5) g11 (line_of (by rw [len_rep, ← hyl]; simp; omega)) fun q12 H17 hq12 f12' g12 => ?_
        have fin := f111.trans f12'
        walk_at "rq"
        refine hN _ _ ⟨q12, rfl, e15.trans fin, _, es ++ (List.replicate 5 [.list ds, .tuple (ds ++ [.str "zz"]), .tuple (cutD ds none (some (-1))), .tuple (cutD ds (some 1) none), .tuple (ds ++ ds.take 1), .tuple [.tuple ds], .tuple ds.reverse]).flatten, g12, IsL.append (IsL.mono fin _ _ hy) (isl_rep ?_ 5), fun e he => ?_, ?_, ?_⟩
        · have hXf := IsL.mono fin _ _ hX
          have s9 := (f10.trans f11).trans f12'
          have s8 := f9.trans s9
          have s7 := f8.trans s8
          have s6 := f7.trans s7
          have s5 := f6.trans s6
          have s4 := f5.trans s5
          have s3 := f4.trans s4
          have s1 := (f2.trans f3).trans s3
          refine .cons (Is.of_lst (SqL.of (s1 _ _ g1)) hXf) (.cons (Is.of_tup (s3.seqT g3) (IsL.append hXf (.one is_str))) (.cons (Is.of_tup (s4.seqT g4) (isL_cut hXf _ _)) (.cons (Is.of_tup (s5.seqT g5) (isL_cut hXf _ _)) (.cons (Is.of_tup (s7.seqT g7) (IsL.append hXf (IsL.take 1 hXf))) (.cons (Is.of_tup (SqT.of (s8 _ _ g8)) (.one (Is.of_tup (fin.seqT hS) hXf))) (.one (Is.of_tup (SqT.of (s9 _ _ g9)) (isl_rev hXf))))))))
        · rcases List.mem_append.mp he with he | he
          · exact hes e he
          · have he := mem_rep he
            have zz : Dk m 2 W (.str "zz") := dk_str (by unfold Asc; decide +kernel) (by decide +kernel)
            have hM' : lfsL ds ≤ M := by rw [← lf_tup]; exact hM
            have ht1 := lf_take ds 1
            simp only [List.mem_cons, List.not_mem_nil, or_false] at he
            rcases he with rfl | rfl | rfl | rfl | rfl | rfl | rfl
            · exact ⟨(dk_lst hE).le (by omega) (by omega), by rw [lf_lst]; omega⟩
            · exact ⟨(dk_tup (hE.app (.one zz (by omega)) (W' := W + 1) (by have := hE.len; simp; omega) (by omega))).le (by omega) (by omega), by rw [lf_tup, lf_app]; simp only [lfsL, lfs]; omega⟩
            · exact ⟨(dk_tup ((hE.drop _).take _)).le (by omega) (by omega), by rw [lf_tup]; exact Nat.le_trans (Nat.le_trans (lf_take _ _) (lf_drop _ _)) (by omega)⟩
            · exact ⟨(dk_tup ((hE.drop _).take _)).le (by omega) (by omega), by rw [lf_tup]; exact Nat.le_trans (Nat.le_trans (lf_take _ _) (lf_drop _ _)) (by omega)⟩
            · exact ⟨(dk_tup (hE.app (hE.take 1) (W' := W + 1) (by have := hE.len; rw [List.length_take]; omega) (by omega))).le (by omega) (by omega), by rw [lf_tup, lf_app]; omega⟩
            · exact ⟨(dk_tup (.one hD (by omega))).le (by omega) (by omega), by rw [lf_tup]; simp only [lfsL, lfs]; omega⟩
            · exact ⟨(dk_tup hE.rev).le (by omega) (by omega), by rw [lf_tup, lf_rev]; omega⟩
        · simp
        · rw [List.length_append, len_rep]
          simp
          omega
    · obtain ⟨p, rfl, e6, hL6⟩ := hM
      have hI6 := Is.mono e6 _ _ hI
      walk_at "rq"
      with_reducible refine i_cut (fun σ' H' => ∃ p, σ' = [some (V.ref d), some v, some (.ref p)] ∧ Same H H' ∧ OddL K H' p (n + 2) (2 * w + 200) (W + 1) (2 * M + 2) 72) (fun N hN => ?_) (fun σ1 H7 hM => ?_)
      · walk_at "rq"
        refine isStrD hI6 ⟨_, rfl, ?_⟩
        cases hT : strD D with
        | false =>
          walk_at "rq"
          exact hN _ _ ⟨p, rfl, e6, hL6.le (by decide)⟩
        | true =>
          obtain ⟨z, rfl⟩ : ∃ z, D = .str z := by cases D <;> first | exact ⟨_, rfl⟩ | cases hT
          have hv : v = .str z := by simpa only [Is] using hI6
          subst hv
          obtain ⟨hz, hzl⟩ := hD.str
          obtain ⟨hz1, hz2⟩ := upper_asc hz
          obtain ⟨hc1, hc2⟩ := less_asc hz
          have ha : Asc "a" := by unfold Asc; decide +kernel
          have ht : Asc "~" := by unfold Asc; decide +kernel
          have hle : ∀ c : Str, c.length = 1 → (z ++ c).length ≤ w + 1 := fun c hc => by rw [len_app]; omega
          obtain ⟨ys, es, h5, hy, hes, hne, hel⟩ := hL6
          have hyl := IsL.length hy
          walk_at "rq"
          refine i_addS (line_of (by rw [show (("a" : Str)).length = 1 by decide +kernel]; omega)) ?_
          walk_at "rq"
          refine i_upper (by omega) ?_
          walk_at "rq"
          refine i_newT (line_of (by simp)) fun q1 H7 hq1 f1 g1 => ?_
          walk_at "rq"
          refine i_addS (line_of (by rw [show (("~" : Str)).length = 1 by decide +kernel]; omega)) ?_
          walk_at "rq"
          refine i_newL (line_of (by simp)) fun q2 H8 hq2 f2 g2 => ?_
          walk_at "rq"
          refine .inl (i_mulL g2 ⟨by decide, by decide⟩ (line_of (by simp)) fun q3 H9 hq3 f3 g3 => ?_)
          have f13 := (f1.trans f2).trans f3
          refine i_addL (f13 _ _ h5) g3 (line_of (by rw [len_rep, ← hyl]; simp; omega)) fun q4 H10 hq4 f4 g4 => ?_
          have fin := f13.trans f4
          walk_at "rq"
          refine hN _ _ ⟨q4, rfl, e6.trans fin, _, es ++ (List.replicate 4 [.str (z ++ "a"), .str (Txt.slice z none (some (-1))), .str (Txt.upper z), .tuple [.str z], .str (z ++ "~")]).flatten, g4, IsL.append (IsL.mono fin _ _ hy) (isl_rep (.cons is_str (.cons is_str (.cons is_str (.cons (Is.of_tup (SqT.of (((f2.trans f3).trans f4) _ _ g1)) (.one is_str)) (.one is_str))))) 4), fun e he => ?_, ?_, ?_⟩
          · rcases List.mem_append.mp he with he | he
            · exact hes e he
            · have he := mem_rep he
              simp only [List.mem_cons, List.not_mem_nil, or_false] at he
              rcases he with rfl | rfl | rfl | rfl | rfl
              · exact ⟨dk_str (hz.app ha) (Nat.le_trans (hle _ (by decide +kernel)) (by omega)), by rw [lf_str]; omega⟩
              · exact ⟨dk_str hc1 (by omega), by rw [lf_str]; omega⟩
              · exact ⟨dk_str hz1 (by omega), by rw [lf_str]; omega⟩
              · exact ⟨(dk_tup (.one (dk_str (p := n) (W := W) hz (Nat.le_refl _)) (by omega))).le (by omega) (by omega), by rw [lf_tup]; simp only [lfsL, lfs]; omega⟩
              · exact ⟨dk_str (hz.app ht) (Nat.le_trans (hle _ (by decide +kernel)) (by omega)), by rw [lf_str]; omega⟩
          · simp
          · rw [List.length_append, len_rep]
            simp
            omega
      · obtain ⟨p, rfl, e7, ys, es, h7, hy, hes, hne, hel⟩ := hM
        have hyl := IsL.length hy
        have hpos : 0 < es.length := List.length_pos_iff.mpr hne
        have hF7 := hF.same e7
        walk_at "rd"
        refine ⟨d, l, _, rfl, hF7, by omega, by omega, fun b H8 hb0 hb1 e8 hF8 => ?_⟩
        have h8 := e8 _ _ (hF7.lst h7) h7
        obtain ⟨fa, ft, fu, fns, fd, _⟩ := hF7
        have hbl : b.toNat < ys.length := by omega
        have hg := List.getElem?_eq_getElem hbl
        generalize ys[b.toNat]'hbl = x at hg
        obtain ⟨D', hD', hIx⟩ := IsL.get hy hg
        walk_at "rd"
        refine i_ixL h8 (show atI _ b = some x from by have := atI_nat hg; rwa [Int.toNat_of_nonneg hb0] at this) ?_
        walk_at "rd"
        exact k _ D' _ (ExtBut.after e7 e8) hF8 (Is.off fd e8 _ _ hIx) (hes D' (List.mem_of_getElem? hD')).1 (hes D' (List.mem_of_getElem? hD')).2
theorem cut_to (ds : List PyData) {t : Int} (h : 0 ≤ t) : cutD ds none (some t) = ds.take t.toNat := by
  have e1 : HT.sIx ds.length ds.length (some t) = min t.toNat ds.length := by unfold HT.sIx; simp [show ¬ t < 0 by omega]
  have e3 : HT.sIx ds.length 0 none = 0 := rfl
  unfold cutD
  rw [e1, e3, List.drop_zero, Nat.sub_zero]
  by_cases hl : t.toNat ≤ ds.length
  · rw [Nat.min_eq_left hl]
  · rw [Nat.min_eq_right (by omega), List.take_length, List.take_of_length_le (by omega)]
theorem cut_fr (ds : List PyData) {t : Int} (h : 0 ≤ t) : cutD ds (some t) none = ds.drop t.toNat := by
  have e2 : HT.sIx ds.length 0 (some t) = min t.toNat ds.length := by unfold HT.sIx; simp [show ¬ t < 0 by omega]
  have e4 : HT.sIx ds.length ds.length none = ds.length := rfl
  unfold cutD
  rw [e2, e4]
  by_cases hl : t.toNat ≤ ds.length
  · rw [Nat.min_eq_left hl, List.take_of_length_le (by rw [List.length_drop]; omega)]
  · rw [Nat.min_eq_right (by omega), List.drop_length, List.take_nil, List.drop_eq_nil_of_le (by omega)]
theorem lf_split {ds : List PyData} {i : Nat} {x : PyData} (h : ds[i]? = some x) : lfsL (ds.take i) + lfs x + lfsL (ds.drop (i + 1)) = lfsL ds := by
  have hl := (List.getElem?_eq_some_iff.mp h).1
  have e : ds = ds.take i ++ x :: ds.drop (i + 1) := by
    have := List.take_append_drop i ds
    rw [List.drop_eq_getElem_cons hl, (List.getElem?_eq_some_iff.mp h).2] at this
    exact this.symm
  have := congrArg lfsL e
  rw [lf_app] at this
  simp only [lfsL] at this
  omega
theorem len12 {K : PySem.W.Frag} {H : Hp} {Q : VK} {a : Addr} {xs : List V} (h : SqT K H a xs) (k : Q (.int xs.length) H) : rLenA K [.ref a] H Q := .inl ⟨.ref a, _, rfl, .inr ⟨xs, h, rfl⟩, k⟩
theorem wt_mem : ∀ {ds : List PyData} {e : PyData}, e ∈ ds → e.weight ≤ PyData.weightAll ds
  | d :: ds, e, h => by
    simp only [PyData.weightAll]
    rcases List.mem_cons.mp h with rfl | h
    · omega
    · have := wt_mem h
      omega
theorem wt_cut (ds : List PyData) {t : Int} (h : 0 ≤ t) : PyData.weightAll (cutD ds none (some t)) + PyData.weightAll (cutD ds (some (t + 1)) none) ≤ PyData.weightAll ds := by
  have e1 : HT.sIx ds.length ds.length (some t) = min t.toNat ds.length := by unfold HT.sIx; simp [show ¬ t < 0 by omega]
  have e2 : HT.sIx ds.length 0 (some (t + 1)) = min (t + 1).toNat ds.length := by unfold HT.sIx; simp [show ¬ t + 1 < 0 by omega]
  have e3 : HT.sIx ds.length 0 none = 0 := rfl
  unfold cutD
  rw [e1, e2, e3, List.drop_zero, Nat.sub_zero]
  have a := wt_app (ds.take (min t.toNat ds.length)) (ds.drop (min t.toNat ds.length))
  rw [List.take_append_drop] at a
  have b := wt_drop (ds.drop (min t.toNat ds.length)) (min (t + 1).toNat ds.length - min t.toNat ds.length)
  rw [List.drop_drop, show min t.toNat ds.length + (min (t + 1).toNat ds.length - min t.toNat ds.length) = min (t + 1).toNat ds.length by omega] at b
  have c := wt_take (ds.drop (min (t + 1).toNat ds.length)) (HT.sIx ds.length ds.length none - min (t + 1).toNat ds.length)
  omega
noncomputable def spr__law_bent (K : PySem.W.Frag) (m : Nat) : Sp := fun vs H Q _ => ∃ (d l : Addr) (v : V) (D : PyData) (n w W M j : Nat), vs = [.ref d, v, .int (j : Int)] ∧ Feed H d l ∧ Is K H D v ∧ Dk n w W D ∧ n ≤ 20 ∧ w ≤ 100000 ∧ 2 ≤ W ∧ lfs D ≤ M ∧ j < m ∧ ∀ v' D' H', ExtBut d H H' → Feed H' d l → Is K H' D' v' → Dk (n + 2) ((j + 2) * w + 200 + j) (W + 1) D' → lfs D' ≤ 2 * M + 2 → Q v' H'
theorem spr__law_bent_zero {K : PySem.W.Frag} : ∀ vs H Q E, ¬ spr__law_bent K 0 vs H Q E := fun vs H Q E h => by
  obtain ⟨d, l, v, D, n, w, W, M, j, _, _, _, _, _, _, _, _, h, _⟩ := h
  omega
noncomputable def sp__law_bent (K : PySem.W.Frag) : Sp := spr__law_bent K 11
theorem okr__law_bent {f : Addr} {fd : FuncData} (F : Fun K "_law_bent" "_law_bent" s__law_bent f fd) (T : TopF mg) (c__law_draw : Fnd P w K mg base 1 "_law_draw" ["_law_feed_here", "_law_many"] (sp__law_draw K)) (c__law_odd : Fnd P w K mg base 2 "_law_odd" ["_law_feed_here", "_law_part"] (sp__law_odd K)) (n : Nat) (c__law_bent : Fnd P w K mg base (3 + n) "_law_bent" ["_law_feed_here", "_law_part", "_law_deep"] (spr__law_bent K n)) : FnOk P w K mg base CX0 (3 + n + 1) f fd ["_law_feed_here", "_law_part", "_law_deep"] (spr__law_bent K (n + 1)) := by
  refine F.ok sc__law_bent (fun vs H Q E h => ?_) (fun cdv A outer s H vs Q E hr h => ?_)
  · obtain ⟨d, l, v, D, n', w, W, M, j, rfl, _⟩ := h
    rfl
  · obtain ⟨d, l, v, D, n', w, W, M, j, rfl, hF, hI, hD, hn, hw, hW2, hM, hj, k⟩ := h
    have hu := hu_of hr
    have hq := qa_of hr
    have hmul : 2 * w ≤ (j + 2) * w := Nat.mul_le_mul (by omega) (Nat.le_refl w)
    with_reducible refine ⟨_, (pss_cons (ps_if (PW.pt (pw_or (pt_not (pt_val (pe_callB (call_isinstK (K := K)) (by with_unfolding_all rfl) T.b_isinstance PyProof.Rows.Boot.«isinstance» (pa_cons (pv 1) (pa_cons (pe_bltn (v := .ty "tuple") (by with_unfolding_all rfl) T.b_tuple PyProof.Rows.Boot.«tuple» (by with_unfolding_all rfl)) pa_nil))))) (pw_or (pt_cmpR (op_eqK (K := K) hq) (pe_callB (call_lenK (K := K)) (by with_unfolding_all rfl) T.b_len PyProof.Rows.Boot.«len» (pa_cons (pv 1) pa_nil)) pe_int (nomark _)) (pw_or (pt_cmpR (op_eqK (K := K) hq) (pv 2) pe_int (nomark _)) (pw_or1 (pt_cmpR (op_eqK (K := K) hq) (pe_fn c__law_draw (hr.mono (by omega)) (by with_unfolding_all rfl) (pa_cons (pv 0) (pa_cons pe_int pa_nil))) pe_int (nomark _))))))) (pss_one (ps_ret (pe_fn c__law_odd (hr.mono (by omega)) (by with_unfolding_all rfl) (pa_cons (pv 0) (pa_cons (pv 1) pa_nil))))) pss_nil)
      (pss_cons (ps_set (i := 3) sc__law_bent.nd (by with_unfolding_all rfl) (by with_unfolding_all exact Or.inl rfl) (pe_fn c__law_draw (hr.mono (by omega)) (by with_unfolding_all rfl) (pa_cons (pv 0) (pa_cons (pe_callB (call_lenK (K := K)) (by with_unfolding_all rfl) T.b_len PyProof.Rows.Boot.«len» (pa_cons (pv 1) pa_nil)) pa_nil))))
      (pss_one (ps_ret (pe_op (op_addK (K := K)) (pe_op (op_addK (K := K)) (pe_slice (sl_K (K := K)) (pv 1) po_none (po_some (pv 3))) (pe_tup (pa_cons (pe_fn c__law_bent (hr.mono (by omega)) (by with_unfolding_all rfl) (pa_cons (pv 0) (pa_cons (pe_ix (ix_anyK (K := K) hu) (pv 1) (pv 3) (by with_unfolding_all exact fun _ _ => rfl)) (pa_cons (pe_op op_sub (pv 2) pe_int) pa_nil)))) pa_nil))) (pe_slice (sl_K (K := K)) (pv 1) (po_some (pe_op (op_addK (K := K)) (pv 3) pe_int)) po_none)))))), ?_⟩
    walk_at "rd"
    refine isTupD hI ⟨_, rfl, ?_⟩
    cases hT : tupD D with
    | false =>
      walk_at "rd"
      exact ⟨d, l, v, D, n', w, W, M, rfl, hF, hI, hD, hn, hw, hW2, hM, fun v' D' H' e' hF' hI' hD' hl' => k v' D' H' e' hF' hI' (hD'.le (Nat.le_refl _) (by omega)) hl'⟩
    | true =>
      obtain ⟨ds, rfl⟩ : ∃ ds, D = .tuple ds := by cases D <;> first | exact ⟨_, rfl⟩ | cases hT
      obtain ⟨va, xs, rfl, hS, hX⟩ := hI.tup
      obtain ⟨m, rfl⟩ : ∃ m, n' = m + 1 := ⟨n' - 1, by have := hD.dp; simp only [PyData.depth] at this; omega⟩
      have hE := hD.els
      have hxl := IsL.length hX
      have hwl : ds.length ≤ w := Nat.le_trans (wt_len ds) hE.wt
      walk_at "rd"
      refine len12 hS ?_
      walk_at "rd"
      refine iteD (fun hc => ?_) (fun hc => ?_)
      · walk_at "rd"
        exact ⟨d, l, _, _, m + 1, w, W, M, rfl, hF, hI, hD, hn, hw, hW2, hM, fun v' D' H' e' hF' hI' hD' hl' => k v' D' H' e' hF' hI' (hD'.le (Nat.le_refl _) (by omega)) hl'⟩
      · have hlen : 0 < xs.length := by
          rcases Nat.eq_zero_or_pos xs.length with h | h
          · exact absurd (by rw [h]; rfl) hc
          · exact h
        walk_at "rd"
        refine iteD (fun hc => ?_) (fun hc => ?_)
        · walk_at "rd"
          exact ⟨d, l, _, _, m + 1, w, W, M, rfl, hF, hI, hD, hn, hw, hW2, hM, fun v' D' H' e' hF' hI' hD' hl' => k v' D' H' e' hF' hI' (hD'.le (Nat.le_refl _) (by omega)) hl'⟩
        · have hj0 : 0 < j := by
            rcases Nat.eq_zero_or_pos j with h | h
            · exact absurd (by rw [h]; rfl) hc
            · exact h
          walk_at "rd"
          refine ⟨d, l, 6, rfl, hF, by omega, by omega, fun b H1 hb0 hb1 e1 hF1 => ?_⟩
          have hd0 : ∃ kvs, H d = some (.dK kvs) := let ⟨_, _, _, _, h1, _⟩ := hF; ⟨_, h1⟩
          obtain ⟨kvs, hd0⟩ := hd0
          have hI1 := Is.off hd0 e1 _ _ hI
          walk_at "rd"
          refine iteD (fun hc => ?_) (fun hc => ?_)
          · walk_at "rd"
            exact ⟨d, l, _, _, m + 1, w, W, M, rfl, hF1, hI1, hD, hn, hw, hW2, hM, fun v' D' H' e' hF' hI' hD' hl' => k v' D' H' (e1.trans e') hF' hI' (hD'.le (Nat.le_refl _) (by omega)) hl'⟩
          · have hS1 := (hF.fz e1).seq hS
            walk_at "rd"
            refine len12 hS1 ?_
            walk_at "rd"
            refine ⟨d, l, _, rfl, hF1, by omega, by omega, fun at' H2 ha0 ha1 e2 hF2 => ?_⟩
            have e02 := e1.trans e2
            have hS2 := (hF.fz e02).seq hS
            walk_at "rd"
            refine i_slT hS2 fun q3 H3 e3 h3 => ?_
            have hF3 := hF2.same e3
            have hX3 := IsL.mono e3 _ _ (IsL.off hd0 e02 _ _ hX)
            have hS3 := e3.seqT hS2
            have hal : at'.toNat < xs.length := by omega
            have hg := List.getElem?_eq_getElem hal
            generalize xs[at'.toNat]'hal = x at hg
            obtain ⟨Dx, hDx, hIx⟩ := IsL.get hX3 hg
            obtain ⟨ux, hux⟩ := hE.all Dx (List.mem_of_getElem? hDx)
            have hwx : Dx.weight ≤ w := Nat.le_trans (wt_mem (List.mem_of_getElem? hDx)) hE.wt
            walk_at "rd"
            refine i_ixQ hS3 (show atI _ at' = some x from by have := atI_nat hg; rwa [Int.toNat_of_nonneg ha0] at this) ?_
            walk_at "rd"
            refine ⟨d, l, x, Dx, m, w, W, lfs Dx, j - 1, by rw [show ((j - 1 : Nat) : Int) = (j : Int) - 1 by omega]; rfl, hF3, hIx, ⟨hux.asc, hux.lay, hux.sh, hux.lv, hux.dp, hwx, hux.wd⟩, by omega, hw, hW2, Nat.le_refl _, by omega, fun v' D' H4 e4 hF4 hI4 hD4 hL4 => ?_⟩
            walk_at "rd"
            refine i_newT (line_of (by simp)) fun q5 H5 hq5 e5 h5 => ?_
            have fz35 : Fz H3 H5 := (hF3.fz e4).trans e5.fz
            have c3 := cutV_length xs none (some at')
            have c6 := cutV_length xs (some (at' + 1)) none
            refine i_addT (fz35.seq h3) (SqT.of h5) (line_of (by simp; omega)) fun q6 H6 e6 h6 => ?_
            walk_at "rd"
            refine i_slT ((fz35.trans e6.fz).seq hS3) fun q7 H7 e7 h7 => ?_
            refine i_addT (e7.seqT h6) h7 (line_of (by simp; omega)) fun q8 H8 e8 h8 => ?_
            walk_at "rd"
            have e48 := ((e5.trans e6).trans e7).trans e8
            have hd3 : ∃ kvs, H3 d = some (.dK kvs) := let ⟨_, _, _, _, h1, _⟩ := hF3; ⟨_, h1⟩
            obtain ⟨kv3, hd3⟩ := hd3
            have hX8 := IsL.mono e48 _ _ (IsL.off hd3 e4 _ _ hX3)
            refine k _ (.tuple (cutD ds none (some at') ++ [D'] ++ cutD ds (some (at' + 1)) none)) _ (((e02.same e3).trans e4).same e48) (hF4.same e48) (Is.of_tup h8 (IsL.append (IsL.append (isL_cut hX8 _ _) (.one (Is.mono e48 _ _ hI4))) (isL_cut hX8 _ _))) ?_ ?_
            rotate_left
            · have hs := lf_split hDx
              have hM' : lfsL ds ≤ M := by rw [← lf_tup]; exact hM
              rw [lf_tup, lf_app, lf_app, cut_to ds ha0, cut_fr ds (show 0 ≤ at' + 1 by omega), show (at' + 1).toNat = at'.toNat + 1 by omega]
              simp only [lfsL]
              omega
            have hcut : PyData.weightAll (cutD ds none (some at')) + PyData.weightAll (cutD ds (some (at' + 1)) none) ≤ w := Nat.le_trans (wt_cut ds ha0) hE.wt
            have r1 := (hE.drop (HT.sIx ds.length 0 none)).take (HT.sIx ds.length ds.length (some at') - HT.sIx ds.length 0 none)
            have r2 := (hE.drop (HT.sIx ds.length 0 (some (at' + 1)))).take (HT.sIx ds.length ds.length none - HT.sIx ds.length 0 (some (at' + 1)))
            refine dk_tup ⟨fun e he => ?_, ?_, ?_⟩
            · rcases List.mem_append.mp he with he | he
              · rcases List.mem_append.mp he with he | he
                · obtain ⟨u, hu⟩ := r1.all e he
                  exact ⟨u, hu.le (by omega) (Nat.le_refl _)⟩
                · rw [List.mem_singleton.mp he]
                  exact ⟨_, hD4⟩
              · obtain ⟨u, hu⟩ := r2.all e he
                exact ⟨u, hu.le (by omega) (Nat.le_refl _)⟩
            · have := hD4.wt
              rw [wt_app, wt_app]
              simp only [PyData.weightAll]
              have e2 : (j - 1 + 2) * w + w = (j + 2) * w := by
                rw [← Nat.succ_mul]
                congr 1
                omega
              omega
            · have := hE.len
              have l1 := IsL.length (isL_cut hX8 none (some at'))
              have l2 := IsL.length (isL_cut hX8 (some (at' + 1)) none)
              have l1 : (cutD ds none (some at')).length = _ := l1
              have l2 : (cutD ds (some (at' + 1)) none).length = _ := l2
              rw [cut_upto ha0, List.length_take] at l1
              rw [cut_dropA (by omega), List.length_drop] at l2
              rw [List.length_append, List.length_append, l1, l2, List.length_singleton]
              omega
theorem ok__law_bent {f : Addr} {fd : FuncData} (F : Fun K "_law_bent" "_law_bent" s__law_bent f fd) (T : TopF mg) (c__law_draw : Fnd P w K mg base 1 "_law_draw" ["_law_feed_here", "_law_many"] (sp__law_draw K)) (c__law_odd : Fnd P w K mg base 2 "_law_odd" ["_law_feed_here", "_law_part"] (sp__law_odd K)) (hm : mg "_law_bent" = some (.ref f)) (hk : PySem.W.keepIn K (.ref f) = true) (hb : Binds K fd ["_law_feed_here", "_law_part", "_law_deep"] []) : FnOk P w K mg base CX0 14 f fd ["_law_feed_here", "_law_part", "_law_deep"] (sp__law_bent K) := by
  have h : ∀ n : Nat, FnOk P w K mg base CX0 (3 + n) f fd ["_law_feed_here", "_law_part", "_law_deep"] (spr__law_bent K n) := fun n => by
    induction n with
    | zero => exact FnOk.void spr__law_bent_zero
    | succ n ih => exact okr__law_bent F T c__law_draw c__law_odd n ⟨f, fd, ih, hm, hk, hb⟩
  exact h 11
noncomputable def sp_behind_each (K : PySem.W.Frag) : Sp := fun vs H Q _ => ∃ v ns ps, vs = [v] ∧ Is K H (hfD ns ps) v ∧ HalfC ns ps ∧ ∀ r as H', H r = none → (∀ a ∈ as, H a = none) → Same H H' → Tab H' r ns as (Way ps) → Q (.ref r) H'
theorem ok_behind_each {f : Addr} {fd : FuncData} (F : Fun K "behind_each" "behind_each" s_behind_each f fd) (T : TopF mg) : FnOk P w K mg base CX0 1 f fd ["half"] (sp_behind_each K) := by
  refine F.ok sc_behind_each (fun vs H Q E h => ?_) (fun cdv A outer s H vs Q E hr h => ?_)
  · obtain ⟨v, ns, ps, rfl, _⟩ := h
    rfl
  · obtain ⟨v, ns, ps, rfl, hI, hW, k⟩ := h
    have hu := hu_of hr
    have hq := qa_of hr
    have hn := hW.nd
    have hfew := hW.few
    with_reducible refine ⟨_, (pss_cons (ps_set (i := 1) sc_behind_each.nd (by with_unfolding_all rfl) (by with_unfolding_all exact Or.inl rfl) (pe_ix (ix_anyK (K := K) hu) (pv 0) pe_int (by with_unfolding_all exact fun _ _ => rfl)))
      (pss_cons (ps_set (i := 2) sc_behind_each.nd (by with_unfolding_all rfl) (by with_unfolding_all exact Or.inl rfl) (pe_callTy (call_dictK (K := K) hr.hd) (by with_unfolding_all rfl) T.b_dict PyProof.Rows.Boot.«dict» (pa_cons (pe_comp ["name"] [] [] (by with_unfolding_all rfl) (by with_unfolding_all rfl) (by with_unfolding_all rfl) (pi_anyK (K := K) hu (pv 1)) (fun _ _ _ _ => (pg_name (i := 0) (by with_unfolding_all (show (["name"] : List Str).Nodup; decide +kernel)) (by with_unfolding_all rfl) (by with_unfolding_all exact Or.inl rfl))) (gk_name (by decide)) (fun _ _ _ _ => pif_nil) (fun _ _ _ _ => (pe_tup (pa_cons (pv 0) (pa_cons pe_dnewK pa_nil))))) pa_nil)))
      (pss_cons (ps_for PassesOwn.never (by with_unfolding_all rfl) (pi_anyK (K := K) hu (pe_ix (ix_anyK (K := K) hu) (pv 0) pe_int (by with_unfolding_all exact fun _ _ => rfl))) (pg_name (i := 3) sc_behind_each.nd (by with_unfolding_all rfl) (by with_unfolding_all exact Or.inl rfl))
      (pss_one (ps_dput hu (pe_ix (ix_anyK (K := K) hu) (pv 2) (pe_ix (ix_anyK (K := K) hu) (pv 3) pe_int (by with_unfolding_all exact fun _ _ => rfl)) (by with_unfolding_all exact fun _ _ => rfl)) (pe_ix (ix_anyK (K := K) hu) (pv 3) pe_int (by with_unfolding_all exact fun _ _ => rfl)) pe_bl (by with_unfolding_all rfl))))
      (pss_cons (ps_for PassesOwn.never (by with_unfolding_all rfl) (pi_anyK (K := K) hu (pv 1)) (pg_name (i := 4) sc_behind_each.nd (by with_unfolding_all rfl) (by with_unfolding_all exact Or.inl rfl))
      (pss_one (ps_for PassesOwn.never (by with_unfolding_all rfl) (pi_anyK (K := K) hu (pv 1)) (pg_name (i := 5) sc_behind_each.nd (by with_unfolding_all rfl) (by with_unfolding_all exact Or.inl rfl))
      (pss_one (ps_if (pt_cmpR (op_inK (K := K) hq) (pv 4) (pe_ix (ix_anyK (K := K) hu) (pv 2) (pv 5) (by with_unfolding_all exact fun _ _ => rfl)) (by with_unfolding_all rfl)) (pss_one (ps_expr (pe_bmK (K := K) PySem.F.plainAttrs_dict PySem.F.slot_dict_update PySem.F.type_dict_update (mm mt_updateA) (pe_ix (ix_anyK (K := K) hu) (pv 2) (pv 5) (by with_unfolding_all exact fun _ _ => rfl)) (pa_cons (pe_ix (ix_anyK (K := K) hu) (pv 2) (pv 4) (by with_unfolding_all exact fun _ _ => rfl)) pa_nil)))) pss_nil)))))
      (pss_one (ps_ret (pv 2))))))), ?_⟩
    walk_at "rd"
    refine i_ixH0 hI fun nv hN => ?_
    walk_at "rd"
    obtain ⟨na, rfl, hS⟩ := hN.nm
    refine i_itT hS ?_
    refine comp_by (walk_tup (xs := ns.map V.str)) (fun p i acc H1 => Same H H1 ∧ ∃ as : List Addr, as.length = i ∧ as.Nodup ∧ (∀ a ∈ as, H1 a = some (.dK []) ∧ H a = none) ∧ PrsK K H1 (tabK (ns.take i) as) acc) (fun p H' hp e h => ⟨e, [], rfl, by simp, fun _ h => (by cases h), by rfl⟩) (fun p i acc H1 hP => hP.1.seqT hS) (fun p i x acc H1 hp hx hi hl ha hP => ?_) fun p acc H1 hp ha hl hP => ?_
    · obtain ⟨e1, as, hal, had, haf, hpr⟩ := hP
      rw [List.getElem?_map] at hx
      cases hz : ns[i]? with
      | none => rw [hz] at hx; cases hx
      | some z =>
        rw [hz] at hx
        cases hx
        have hin : i < ns.length := (List.getElem?_eq_some_iff.mp hz).1
        walk_at "rd"
        refine i_newD fun b H2 hb2 e2 h2 => ?_
        walk_at "rd"
        refine i_newT (line_of (by simp)) fun t H3 ht3 e3 h3 => ?_
        have h3p : H3 p = some (.lst acc) := e3 _ _ (e2 _ _ ha)
        refine push_i (by rw [List.length_map]; omega) hi hl h3p fun H4 e4 h4 => ?_
        have hbp : b ≠ p := Ne.symm (ne_of_none ha hb2)
        refine ⟨by walk_at "sm", as ++ [b], by simp [hal], ?_, fun a ha' => ?_, ?_⟩
        · rw [List.nodup_append]
          refine ⟨had, by simp, fun a ha1 c hc e => ?_⟩
          have : c = b := by simpa using hc
          subst this
          subst e
          have := (haf _ ha1).1
          rw [hb2] at this
          cases this
        · rcases List.mem_append.mp ha' with ha' | ha'
          · obtain ⟨q1, q2⟩ := haf a ha'
            exact ⟨e4 _ _ (ne_of q1 ha (by intro z; cases z)) (e3 _ _ (e2 _ _ q1)), q2⟩
          · have : a = b := by simpa using ha'
            subst this
            exact ⟨e4 _ _ hbp (e3 _ _ h2), e1.free hb2⟩
        · have ht : ns.take (i + 1) = ns.take i ++ [z] := by rw [List.take_add_one, hz]; rfl
          have hlen : (ns.take i).length = as.length := by rw [List.length_take, hal]; omega
          rw [ht, tab_snoc hlen]
          have fz4 := e4.fzL h3p
          exact PrsK.snoc (kv := (Sum.inr z, V.ref b)) (fz4.seq (SqT.of h3)) (PrsK.fz ((e2.fz.trans e3.fz).trans fz4) hpr)
    · obtain ⟨e1, as, hal, had, haf, hpr⟩ := hP
      rw [List.length_map] at hal
      rw [List.length_map, List.take_length] at hpr
      walk_at "rd"
      refine i_dict ha hpr (by unfold tabK; rw [List.length_map, List.length_zip]; omega) fun r H2 hr2 e2 h2 => ?_
      rw [merge_new _ _ (keys_tab hn) (fun _ _ _ h => by cases h), List.nil_append] at h2
      have hr0 : H r = none := e1.free hr2
      have hra : r ∉ as := fun hm => by
        have := (haf r hm).1
        rw [hr2] at this
        cases this
      have hT0 : Tab H2 r ns as (fun z y => (z, y) ∈ ps.take 0) := ⟨hal, had, hra, h2, fun i z a hz ha' => ⟨[], e2 _ _ (haf a (List.mem_of_getElem? ha')).1, by simp, fun _ h => (by cases h), fun y => by simp⟩⟩
      walk_at "rd"
      refine i_ixH1 (hI.hf_fz (by walk_at "fz")) fun pv hP2 => ?_
      refine for_ps hP2 (fun i σ H3 => ∃ x3, σ = [some v, some (.ref na), some (.ref r), x3, none, none] ∧ Same H H3 ∧ Fz H2 H3 ∧ Tab H3 r ns as (fun z y => (z, y) ∈ ps.take i))
        ⟨none, rfl, by walk_at "sm", .refl _, hT0⟩ (fun i σ' H' hP => hP.choose_spec.2.2.1) (fun i pr w σ' H3 hpr hIp hP => ?_) (fun σ' H3 hP => ?_)
      · obtain ⟨x3, rfl, e3, fz3, hT⟩ := hP
        have hpm := hW.mem pr (List.mem_of_getElem? hpr)
        obtain ⟨j, a, hj, haj⟩ := hT.at hpm.1
        obtain ⟨ks, hk1, hk2, hk3, hk4⟩ := hT.row j _ a hj haj
        have hkl : ks.length ≤ ns.length := nodup_le hk2 hk3
        walk_at "rd"
        refine i_ixP0 hIp ?_
        refine i_tab hT hn hj haj ?_
        walk_at "rd"
        refine i_ixP1 hIp ?_
        refine i_dput hk1 (by rw [len_row]; omega) fun H4 e4 h4 => ?_
        rw [put_row] at h4
        walk_at "rd"
        have ha0 : H a = none := (haf a (List.mem_of_getElem? haj)).2
        refine ⟨_, rfl, by walk_at "sm", fz3.trans (e4.fzD hk1), hT.put e4 hn hj haj h4 (nodup_addK hk2) (fun y hy => ?_) (fun y => ?_) (fun z hz hzx y => ?_)⟩
        · rcases mem_addK.mp hy with hy | rfl
          · exact hk3 y hy
          · exact hpm.2
        · rw [mem_addK, hk4, List.take_add_one, hpr, List.mem_append]
          constructor
          · rintro (h | rfl)
            · exact .inl h
            · exact .inr (by simp)
          · rintro (h | h)
            · exact .inl h
            · right
              have : (pr.1, y) = pr := by simpa using h
              rw [← this]
        · rw [List.take_add_one, hpr, List.mem_append]
          constructor
          · exact .inl
          · rintro (h | h)
            · exact h
            · have : (z, y) = pr := by simpa using h
              exact absurd (by rw [← this]) hzx
      · obtain ⟨x3, rfl, e3, fz3, hT⟩ := hP
        rw [List.take_length] at hT
        have hW0 : War ns ps [] (fun z y => (z, y) ∈ ps) := ⟨fun z y h => .one h, fun z y h => h, fun m hm => by cases hm⟩
        walk_at "rd"
        have hN3 : Is K H3 (nmD ns) (.ref na) := hN.nm_fz e3.fz
        refine for_nm hN3 (fun i σ H4 => ∃ x4 x5 R, σ = [some v, some (.ref na), some (.ref r), x3, x4, x5] ∧ Same H H4 ∧ Fz H3 H4 ∧ Tab H4 r ns as R ∧ War ns ps (ns.take i) R)
          ⟨_, _, _, rfl, e3, .refl _, hT, hW0⟩ (fun i σ' H' hP => ?_) (fun i mid σ' H4 hmid hP => ?_) (fun σ' H4 hP => ?_)
        · obtain ⟨_, _, _, _, _, fz, _⟩ := hP
          exact fz
        · obtain ⟨x4, x5, R, rfl, e4, fz4, hT4, hR⟩ := hP
          obtain ⟨jm, am, hjm, ham⟩ := hT4.at (List.mem_of_getElem? hmid)
          have hN4 : Is K H4 (nmD ns) (.ref na) := hN3.nm_fz fz4
          walk_at "rd"
          refine for_nm hN4 (fun j σ H5 => ∃ x5, σ = [some v, some (.ref na), some (.ref r), x3, some (.str mid), x5] ∧ Same H H5 ∧ Fz H4 H5 ∧ Tab H5 r ns as (warR R mid (ns.take j)))
            ⟨_, rfl, e4, .refl _, hT4.congr fun z _ y => ⟨.inl, fun h => h.elim (fun q => q) fun q => absurd q.1 (by simp)⟩⟩ (fun i σ' H' hP => hP.choose_spec.2.2.1) (fun j nm σ' H5 hnm hP => ?_) (fun σ' H5 hP => ?_)
          · obtain ⟨x5', rfl, e5, fz5, hT5⟩ := hP
            obtain ⟨jn, an, hjn, han⟩ := hT5.at (List.mem_of_getElem? hnm)
            obtain ⟨ks, hk1, hk2, hk3, hk4⟩ := hT5.row jn nm an hjn han
            obtain ⟨ms, hm1, hm2, hm3, hm4⟩ := hT5.row jm mid am hjm ham
            have hkl : ks.length ≤ ns.length := nodup_le hk2 hk3
            have hml : ms.length ≤ ns.length := nodup_le hm2 hm3
            have htj : ns.take (j + 1) = ns.take j ++ [nm] := by rw [List.take_add_one, hnm]; rfl
            have hin : mid ∈ ks ↔ R nm mid := (hk4 mid).trans ⟨fun h => h.elim (fun q => q) fun q => q.2.1, .inl⟩
            have hmid2 : ∀ y, y ∈ ms ↔ R mid y := fun y => (hm4 y).trans ⟨fun h => h.elim (fun q => q) fun q => q.2.2, .inl⟩
            have hother : ∀ z ∈ ns, z ≠ nm → ∀ y, warR R mid (ns.take j) z y ↔ warR R mid (ns.take (j + 1)) z y := fun z _ hz y => by
              unfold warR
              rw [htj, List.mem_append, List.mem_singleton]
              simp [hz]
            walk_at "rd"
            refine i_tab hT5 hn hjn han ?_
            refine i_inRow hk1 ?_
            walk_at "rd"
            refine iteD (fun hc => ?_) (fun hc => ?_)
            · have hRn := hin.mp hc
              by_cases hne : nm = mid
              · subst hne
                have hji : jn = jm := by
                  obtain ⟨p1, p2⟩ := List.getElem?_eq_some_iff.mp hjn
                  obtain ⟨q1, q2⟩ := List.getElem?_eq_some_iff.mp hjm
                  exact (List.getElem_inj hn).mp (p2.trans q2.symm)
                subst hji
                rw [han] at ham
                cases ham
                walk_at "rd"
                refine i_tab hT5 hn hjn han ?_
                refine i_tyD hk1 ?_
                walk_at "rd"
                refine i_tab hT5 hn hjn han ?_
                walk_at "rd"
                refine i_updS hk1 ?_
                walk_at "rd"
                refine ⟨_, rfl, e5, fz5, hT5.congr fun z hz y => ?_⟩
                by_cases hzn : z = nm
                · subst hzn
                  unfold warR
                  constructor
                  · exact fun h => .inl (h.elim (fun q => q) fun q => q.2.2)
                  · exact fun h => .inl (h.elim (fun q => q) fun q => q.2.2)
                · exact hother z hz hzn y
              have hane : an ≠ am := fun q => by
                subst q
                obtain ⟨p1, p2⟩ := List.getElem?_eq_some_iff.mp han
                obtain ⟨q1, q2⟩ := List.getElem?_eq_some_iff.mp ham
                have := (List.getElem_inj hT5.nd).mp (p2.trans q2.symm)
                subst this
                rw [hjn] at hjm
                exact hne (Option.some.inj hjm)
              walk_at "rd"
              refine i_tab hT5 hn hjn han ?_
              refine i_tyD hk1 ?_
              walk_at "rd"
              refine i_tab hT5 hn hjm ham ?_
              walk_at "rd"
              refine i_updA hk1 hm1 hane (by omega) fun H6 e6 h6 => ?_
              walk_at "rd"
              have ha0 : H an = none := (haf an (List.mem_of_getElem? han)).2
              refine ⟨_, rfl, by walk_at "sm", fz5.trans (e6.fzD hk1), hT5.put e6 hn hjn han h6 (nodup_addAll hk2) (fun y hy => ?_) (fun y => ?_) hother⟩
              · rcases mem_addAll.mp hy with hy | hy
                · exact hk3 y hy
                · exact hm3 y hy
              · rw [mem_addAll, hk4, hmid2]
                unfold warR
                rw [htj, List.mem_append, List.mem_singleton]
                constructor
                · rintro ((h | h) | h)
                  · exact .inl h
                  · exact .inr ⟨.inl h.1, h.2⟩
                  · exact .inr ⟨.inr rfl, hRn, h⟩
                · rintro (h | h)
                  · exact .inl (.inl h)
                  · exact .inr h.2.2
            · have hRn : ¬ R nm mid := fun q => hc (hin.mpr q)
              walk_at "rd"
              refine ⟨_, rfl, e5, fz5, hT5.congr fun z hz y => ?_⟩
              by_cases hzn : z = nm
              · subst hzn
                unfold warR
                constructor
                · exact fun h => .inl (h.elim (fun q => q) fun q => absurd q.2.1 hRn)
                · exact fun h => .inl (h.elim (fun q => q) fun q => absurd q.2.1 hRn)
              · exact hother z hz hzn y
          · obtain ⟨x5', rfl, e5, fz5, hT5⟩ := hP
            rw [List.take_length] at hT5
            refine ⟨_, _, _, rfl, e5, fz4.trans fz5, hT5.congr (R' := fun z y => R z y ∨ (R z mid ∧ R mid y)) fun z hz y => ?_, ?_⟩
            · unfold warR
              simp [hz]
            · have htj : ns.take (i + 1) = ns.take i ++ [mid] := by rw [List.take_add_one, hmid]; rfl
              rw [htj]
              exact hR.step
        · obtain ⟨x4, x5, R, rfl, e4, fz4, hT4, hR⟩ := hP
          rw [List.take_length] at hR
          walk_at "rd"
          exact k r as H4 hr0 (fun a ha' => (haf a ha').2) e4 (hT4.congr fun z _ y => hR.done hW.mem z y)
noncomputable def sp_are_untold (K : PySem.W.Frag) : Sp := fun vs H Q _ => ∃ r x y ns ps as, vs = [.ref r, .str x, .str y] ∧ TabR H r ns as (Way ps) ∧ ns.Nodup ∧ x ∈ ns ∧ y ∈ ns ∧ Q (.bl (unB ps x y)) H
theorem ok_are_untold {f : Addr} {fd : FuncData} (F : Fun K "are_untold" "are_untold" s_are_untold f fd) (T : TopF mg) : FnOk P w K mg base CX0 1 f fd ["reach", "one", "other"] (sp_are_untold K) := by
  refine F.ok sc_are_untold (fun vs H Q E h => ?_) (fun cdv A outer s H vs Q E hr h => ?_)
  · obtain ⟨r, x, y, ns, ps, as, rfl, _⟩ := h
    rfl
  · obtain ⟨r, x, y, ns, ps, as, rfl, hT, hn, hx, hy, k⟩ := h
    have hu := hu_of hr
    have hq := qa_of hr
    obtain ⟨i, a, hi, hai⟩ := hT.at hx
    obtain ⟨ks, hk1, hk2, hk3, hk4⟩ := hT.row i x a hi hai
    obtain ⟨j, b, hj, hbj⟩ := hT.at hy
    obtain ⟨ms, hm1, hm2, hm3, hm4⟩ := hT.row j y b hj hbj
    with_reducible refine ⟨_, (pss_one (ps_ret (pe_and (pe_cmpR (op_notInK (K := K) hq) (pv 2) (pe_ix (ix_anyK (K := K) hu) (pv 0) (pv 1) (by with_unfolding_all exact fun _ _ => rfl)) (by with_unfolding_all rfl)) (pe_one (pe_cmpR (op_notInK (K := K) hq) (pv 1) (pe_ix (ix_anyK (K := K) hu) (pv 0) (pv 2) (by with_unfolding_all exact fun _ _ => rfl)) (by with_unfolding_all rfl)))))), ?_⟩
    walk_at "rd"
    refine i_tabR hT hn hi hai ?_
    refine i_ninRowR hk1 ?_
    rw [wayB_dec (hk4 y)]
    walk_at "rd"
    refine iteNB (fun hc => ?_) (fun hc => ?_)
    · walk_at "rd"
      refine i_tabR hT hn hj hbj ?_
      refine i_ninRowR hm1 ?_
      rw [wayB_dec (hm4 x)]
      unfold unB at k
      rw [hc] at k
      exact k
    · unfold unB at k
      rw [hc] at k
      exact k
noncomputable def sp__law_table (K : PySem.W.Frag) : Sp := fun vs H Q _ => ∃ v ns ps, vs = [v] ∧ Is K H (hfD ns ps) v ∧ Half ns ps ∧ ∀ r as H', H r = none → Same H H' → TabL K H' r ns as (Way ps) → Q (.ref r) H'
theorem okP_of {ps : List (Str × Str)} (h : NmP ps) : OkP ps := fun p hp => ⟨(nm_ok (h p hp).1).1, (nm_ok (h p hp).2).1⟩
theorem ok__law_table {f : Addr} {fd : FuncData} (F : Fun K "_law_table" "_law_table" s__law_table f fd) (T : TopF mg) (c__law_behind : Fnd P w K mg base 1 "_law_behind" ["_law_half_here", "_law_name"] (sp__law_behind K)) : FnOk P w K mg base CX0 2 f fd ["_law_half_here"] (sp__law_table K) := by
  refine F.ok sc__law_table (fun vs H Q E h => ?_) (fun cdv A outer s H vs Q E hr h => ?_)
  · obtain ⟨v, ns, ps, rfl, _⟩ := h
    rfl
  · obtain ⟨v, ns, ps, rfl, hI, hH, k⟩ := h
    have hu := hu_of hr
    have hq := qa_of hr
    have hn := hH.names.1
    have hfew := hH.few
    have hle := hH.le
    have hok : OkP ps := okP_of hH.nmP
    have hok1 : ∀ z ∈ ns, PyData.strOk z = true := fun z hz => (nm_ok (hH.names.2 z hz)).1
    with_reducible refine ⟨_, (pss_one (ps_ret (pe_callTy (call_dictK (K := K) hr.hd) (by with_unfolding_all rfl) T.b_dict PyProof.Rows.Boot.«dict» (pa_cons (pe_comp ["_law_name"] ["_law_half_here"] [0] (by with_unfolding_all rfl) (by with_unfolding_all rfl) (by with_unfolding_all rfl) (pi_anyK (K := K) hu (pe_ix (ix_anyK (K := K) hu) (pv 0) pe_int (by with_unfolding_all exact fun _ _ => rfl))) (fun _ _ _ _ => (pg_name (i := 0) (by with_unfolding_all (show (["_law_name", "_law_half_here"] : List Str).Nodup; decide +kernel)) (by with_unfolding_all rfl) (by with_unfolding_all exact Or.inl rfl))) (gk_name (by decide)) (fun _ _ _ _ => pif_nil) (fun _ _ _ _ => (pe_tup (pa_cons (pv 0) (pa_cons (pe_fn c__law_behind (hr.mono (by decide)) (by with_unfolding_all rfl) (pa_cons (pv 1) (pa_cons (pv 0) pa_nil))) pa_nil))))) pa_nil)))), ?_⟩
    walk_at "rd"
    refine i_ixH0 hI fun nv hN => ?_
    obtain ⟨na, rfl, hS⟩ := hN.nm
    refine i_itT hS ?_
    refine comp_by (walk_tup (xs := ns.map V.str)) (fun p i acc H1 => Same H H1 ∧ ∃ as : List Addr, as.length = i ∧ (∀ (j : Nat) (z : Str) (a : Addr), ns[j]? = some z → as[j]? = some a → ∃ ks : List Str, H1 a = some (.lst (ks.map V.str)) ∧ a ≠ p ∧ ks.Nodup ∧ ∀ y, y ∈ ks ↔ Way ps z y) ∧ PrsK K H1 (tabK (ns.take i) as) acc) (fun p H' hp e h => ⟨e, [], rfl, fun j z a _ h => (by simp at h), by rfl⟩) (fun p i acc H1 hP => hP.1.seqT hS) (fun p i x acc H1 hp hx hi hl ha hP => ?_) fun p acc H1 hp ha hl hP => ?_
    · obtain ⟨e1, as, hal, hrow, hpr⟩ := hP
      rw [List.getElem?_map] at hx
      cases hz : ns[i]? with
      | none => rw [hz] at hx; cases hx
      | some z =>
        rw [hz] at hx
        cases hx
        have hin : i < ns.length := (List.getElem?_eq_some_iff.mp hz).1
        walk_at "rd"
        refine ⟨v, z, ns, ps, rfl, hI.hf_fz e1.fz, by omega, hok, hok1 z (List.mem_of_getElem? hz), fun b fs H2 hb2 e2 h2 hnd hfs => ?_⟩
        walk_at "rd"
        refine i_newT (line_of (by simp)) fun t H3 ht3 e3 h3 => ?_
        have h3p : H3 p = some (.lst acc) := e3 _ _ (e2 _ _ ha)
        refine push_i (by rw [List.length_map]; omega) hi hl h3p fun H4 e4 h4 => ?_
        have hbp : b ≠ p := Ne.symm (ne_of_none ha hb2)
        refine ⟨by walk_at "sm", as ++ [b], by simp [hal], fun j y a hj haj => ?_, ?_⟩
        · by_cases hji : j < as.length
          · rw [List.getElem?_append_left hji] at haj
            obtain ⟨ks, q1, q2, q3⟩ := hrow j y a hj haj
            exact ⟨ks, e4 _ _ q2 (e3 _ _ (e2 _ _ q1)), q2, q3⟩
          · have hj' : j = as.length := by
              have := (List.getElem?_eq_some_iff.mp haj).1
              rw [List.length_append, List.length_singleton] at this
              omega
            subst hj'
            have : a = b := by simpa using haj.symm
            subst this
            rw [hal, hz] at hj
            cases hj
            exact ⟨fs, e4 _ _ hbp (e3 _ _ h2), hbp, hnd, hfs⟩
        · have ht : ns.take (i + 1) = ns.take i ++ [z] := by rw [List.take_add_one, hz]; rfl
          have hlen : (ns.take i).length = as.length := by rw [List.length_take, hal]; omega
          rw [ht, tab_snoc hlen]
          have fz4 := e4.fzL h3p
          exact PrsK.snoc (kv := (Sum.inr z, V.ref b)) (fz4.seq (SqT.of h3)) (PrsK.fz ((e2.fz.trans e3.fz).trans fz4) hpr)
    · obtain ⟨e1, as, hal, hrow, hpr⟩ := hP
      rw [List.length_map] at hal
      rw [List.length_map, List.take_length] at hpr
      walk_at "rd"
      refine i_dict ha hpr (by unfold tabK; rw [List.length_map, List.length_zip]; omega) fun r H2 hr2 e2 h2 => ?_
      rw [merge_new _ _ (keys_tab hn) (fun _ _ _ h => by cases h), List.nil_append] at h2
      have hr0 : H r = none := e1.free hr2
      refine k r as H2 hr0 (e1.trans e2) ⟨hal, h2, fun j z a hj haj => ?_⟩
      obtain ⟨ks, q1, q2, q3, q4⟩ := hrow j z a hj haj
      exact ⟨ks, e2 _ _ q1, q3, q4⟩
noncomputable def sp__law_closed (K : PySem.W.Frag) : Sp := fun vs H Q _ => ∃ v ns ps, vs = [v] ∧ Is K H (hfD ns ps) v ∧ Half ns ps ∧ ∀ p ys H', H p = none → Same H H' → H' p = some (.lst ys) → IsL K H' ((clP ns ps).map prD) ys → Q (.ref p) H'
theorem ok__law_closed {f : Addr} {fd : FuncData} (F : Fun K "_law_closed" "_law_closed" s__law_closed f fd) (T : TopF mg) (c__law_table : Fnd P w K mg base 2 "_law_table" ["_law_half_here"] (sp__law_table K)) : FnOk P w K mg base CX0 3 f fd ["_law_half_here"] (sp__law_closed K) := by
  refine F.ok sc__law_closed (fun vs H Q E h => ?_) (fun cdv A outer s H vs Q E hr h => ?_)
  · obtain ⟨v, ns, ps, rfl, _⟩ := h
    rfl
  · obtain ⟨v, ns, ps, rfl, hI, hH, k⟩ := h
    have hu := hu_of hr
    have hq := qa_of hr
    have hfew := hH.few
    have hn := hH.names.1
    with_reducible refine ⟨_, (pss_cons (ps_set (i := 1) sc__law_closed.nd (by with_unfolding_all rfl) (by with_unfolding_all exact Or.inr rfl) (pe_fn c__law_table (hr.mono (by decide)) (by with_unfolding_all rfl) (pa_cons (pv 0) pa_nil)))
      (pss_cons (ps_set (i := 2) sc__law_closed.nd (by with_unfolding_all rfl) (by with_unfolding_all exact Or.inl rfl) (pe_lst pa_nil))
      (pss_cons (ps_for PassesOwn.never (by with_unfolding_all rfl) (pi_anyK (K := K) hu (pe_ix (ix_anyK (K := K) hu) (pv 0) pe_int (by with_unfolding_all exact fun _ _ => rfl))) (pg_name (i := 3) sc__law_closed.nd (by with_unfolding_all rfl) (by with_unfolding_all exact Or.inr rfl))
      (pss_one (ps_expr (pe_bmK (K := K) PySem.F.plainAttrs_list PySem.F.slot_list_extend PySem.F.type_list_extend (mm mt_extend) (pv 2) (pa_cons (pe_comp ["_law_other"] ["_law_one", "_law_table_here"] [3, 1] (by with_unfolding_all rfl) (by with_unfolding_all rfl) (by with_unfolding_all rfl) (pi_anyK (K := K) hu (pe_ix (ix_anyK (K := K) hu) (pv 0) pe_int (by with_unfolding_all exact fun _ _ => rfl))) (fun _ _ _ _ => (pg_name (i := 0) (by with_unfolding_all (show (["_law_other", "_law_one", "_law_table_here"] : List Str).Nodup; decide +kernel)) (by with_unfolding_all rfl) (by with_unfolding_all exact Or.inl rfl))) (gk_name (by decide)) (fun _ _ _ _ => (pif_one (pt_cmpR (op_inK (K := K) hq) (pv 0) (pe_ix (ix_anyK (K := K) hu) (pv 2) (pv 1) (by with_unfolding_all exact fun _ _ => rfl)) (by with_unfolding_all rfl)))) (fun _ _ _ _ => (pe_tup (pa_cons (pv 1) (pa_cons (pv 0) pa_nil))))) pa_nil)))))
      (pss_one (ps_ret (pv 2)))))), ?_⟩
    walk_at "rd"
    refine ⟨v, ns, ps, rfl, hI, hH, fun r as H1 hr1 e1 hT => ?_⟩
    walk_at "rd"
    refine i_newL (line_of (by simp)) fun p H2 hp2 e2 h2 => ?_
    walk_at "rd"
    refine i_ixH0 (hI.hf_fz (by walk_at "fz")) fun nv hN => ?_
    refine for_nm hN (fun i σ H3 => ∃ x3, σ = [some v, some (.ref r), some (.ref p), x3] ∧ Same H1 H3 ∧ Fz H2 H3 ∧ ∃ ys, H3 p = some (.lst ys) ∧ IsL K H3 (((ns.take i).flatMap (clR ns ps)).map prD) ys ∧ ys.length ≤ i * 100)
      ⟨none, rfl, e2, .refl _, [], h2, by simp only [List.take_zero, List.flatMap_nil, List.map_nil]; exact .nil, by simp⟩ (fun i σ' H' hP => ?_) (fun i z σ' H3 hz hP => ?_) (fun σ' H3 hP => ?_)
    · obtain ⟨_, _, _, fz, _⟩ := hP
      exact fz
    · obtain ⟨x3, rfl, e3, fz3, ys, h3, hL, hly⟩ := hP
      have hI3 : Is K H3 (hfD ns ps) v := hI.hf_fz (e1.fz.trans e3.fz)
      have hzm := List.mem_of_getElem? hz
      have hin : i < ns.length := (List.getElem?_eq_some_iff.mp hz).1
      walk_at "rd"
      refine i_ixH0 hI3 fun nv3 hN3 => ?_
      refine comp_nm hN3 (fun y => wayB ps z y) (fun y => prD (z, y)) (fun _ => frz_pr _) (by omega) (fun j y H4 R R' hy e4 hR hR' => ?_) (fun q zs H4 hq4 e4 h4 hL4 => ?_)
      · have hT4 := hT.same (e3.trans e4)
        obtain ⟨a0, b0, ha0, hb0⟩ := hT4.at hzm
        obtain ⟨ks, hk1, hk2, hk3⟩ := hT4.row a0 z b0 ha0 hb0
        walk_at "rd"
        refine i_tabL hT4 hn ha0 hb0 ?_
        refine i_inLN (SqL.of hk1) ?_
        rw [wayB_dec (hk3 y)]
        walk_at "rd"
        refine iteB (fun hc => ?_) (fun hc => ?_)
        · walk_at "rd"
          refine i_newT (line_of (by simp)) fun t H5 ht5 e5 h5 => ?_
          exact hR hc _ _ e5 (is_pr (SqT.of h5))
        · exact hR' hc _ (Same.refl _)
      · walk_at "rd"
        have h4p := e4 _ _ h3
        have hlz : zs.length ≤ ns.length := by
          rw [← IsL.length hL4, List.length_map]
          exact List.length_filter_le _ _
        refine i_extR h4p h4 (by omega) fun H5 e5 h5 => ?_
        walk_at "rd"
        have fz5 : Fz H4 H5 := e5.fzL h4p
        refine ⟨_, rfl, ?_, (fz3.trans e4.fz).trans fz5, _, h5, ?_, ?_⟩
        · exact Same.off (q := p) (H1 := H4) (e3.trans e4) hp2 e5
        · have ht : ns.take (i + 1) = ns.take i ++ [z] := by rw [List.take_add_one, hz]; rfl
          rw [ht, List.flatMap_append, List.map_append]
          refine IsL.append (IsL.fz (e4.fz.trans fz5) _ _ (frzL_prs _) hL) ?_
          have e : ([z].flatMap (clR ns ps)).map prD = (ns.filter fun y => wayB ps z y).map fun y => prD (z, y) := by
            simp [clR, Function.comp_def]
          rw [e]
          exact IsL.fz fz5 _ _ (frzL_map _ (fun _ => frz_pr _) _) hL4
        · rw [List.length_append]
          omega
    · obtain ⟨x3, rfl, e3, fz3, ys, h3, hL, hly⟩ := hP
      rw [List.take_length] at hL
      walk_at "rd"
      exact k p ys H3 (e1.free hp2) (e1.trans e3) h3 hL
theorem ninB_cl {ns : List Str} {ps : List (Str × Str)} {x y : Str} (hx : x ∈ ns) (hy : y ∈ ns) : decide ((x, y) ∈ clP ns ps) = wayB ps x y := wayB_dec ⟨fun h => (mem_clP.mp h).2.2, fun h => mem_clP.mpr ⟨hx, hy, h⟩⟩
theorem wt_all {k : Nat} : ∀ {ds : List PyData}, (∀ e ∈ ds, e.weight ≤ k) → PyData.weightAll ds ≤ ds.length * (k + 1)
  | [], _ => by simp only [PyData.weightAll]; omega
  | d :: ds, h => by
    have h1 := h d (by simp)
    have h2 := wt_all (ds := ds) fun e he => h e (by simp [he])
    simp only [PyData.weightAll, List.length_cons, Nat.succ_mul]
    omega
theorem nm_asc {z : Str} (h : isNm z = true) : Asc z := fun c hc => by
  unfold isNm at h
  rw [Bool.and_eq_true, List.all_eq_true] at h
  have := h.2 c hc
  unfold smallN at this
  rw [Bool.and_eq_true, decide_eq_true_eq, decide_eq_true_eq] at this
  omega
theorem nms_els {p W : Nat} {ns : List Str} (h : ∀ z ∈ ns, isNm z = true) (hl : ns.length ≤ W) : Els p (ns.length * 9) W (ns.map PyData.str) := by
  refine ⟨fun e he => ?_, ?_, by simpa using hl⟩
  · obtain ⟨z, hz, rfl⟩ := List.mem_map.mp he
    exact ⟨8, dk_str (nm_asc (h z hz)) (nm_len (h z hz))⟩
  · have := wt_all (k := 8) (ds := ns.map PyData.str) fun e he => by
      obtain ⟨z, hz, rfl⟩ := List.mem_map.mp he
      simp only [PyData.weight]
      exact nm_len (h z hz)
    simpa using this
theorem pr_dk {p W : Nat} {q : Str × Str} (h1 : isNm q.1 = true) (h2 : isNm q.2 = true) (hW : 2 ≤ W) : Dk (p + 1) 18 W (prD q) := by
  have := nms_els (p := p) (W := W) (ns := [q.1, q.2]) (fun z hz => by
    simp only [List.mem_cons, List.not_mem_nil, or_false] at hz
    rcases hz with rfl | rfl
    · exact h1
    · exact h2) hW
  exact dk_tup this
theorem prs_els {p W : Nat} {ps : List (Str × Str)} (h : NmP ps) (hl : ps.length ≤ W) (hW : 2 ≤ W) : Els (p + 1) (ps.length * 19) W (ps.map prD) := by
  refine ⟨fun e he => ?_, ?_, by simpa using hl⟩
  · obtain ⟨q, hq, rfl⟩ := List.mem_map.mp he
    exact ⟨18, pr_dk (h q hq).1 (h q hq).2 hW⟩
  · have := wt_all (k := 18) (ds := ps.map prD) fun e he => by
      obtain ⟨q, hq, rfl⟩ := List.mem_map.mp he
      exact (pr_dk (p := 0) (h q hq).1 (h q hq).2 hW).wt
    simpa using this
theorem tale_dk {ns : List Str} {ps : List (Str × Str)} (h : NmP ps) (h1 : ∀ z ∈ ns, isNm z = true) (h2 : ns.length ≤ 20) (h3 : ps.length ≤ 70) : Dk 3 1600 70 (hfD ns ps) := by
  have a := dk_tup (nms_els (p := 1) (W := 70) h1 (by omega))
  have b := dk_tup (prs_els (p := 0) (W := 70) h (by omega) (by omega))
  refine dk_tup (p := 2) ⟨fun e he => ?_, ?_, by simp⟩
  · simp only [List.mem_cons, List.not_mem_nil, or_false] at he
    rcases he with rfl | rfl
    · exact ⟨_, a⟩
    · exact ⟨_, b⟩
  · have := a.wt
    have := b.wt
    simp only [PyData.weightAll]
    simp only [nmD, psD] at *
    omega
noncomputable def NoTup (K : PySem.W.Frag) (H : Hp) (v : V) : Prop := ∃ t, TyOf K H v t ∧ PySem.W.kitOne K t (.type "tuple") = some false
noncomputable def ThW (K : PySem.W.Frag) (H : Hp) (v : V) (n w W M : Nat) : Option (List PyData) → Prop
  | some ds => Is K H (.tuple ds) v ∧ Dk n w W (.tuple ds) ∧ lfsL ds ≤ M
  | none => (∃ D, Is K H D v ∧ tupD D = false) ∨ NoTup K H v
theorem isTupW {K : PySem.W.Frag} {H : Hp} {Q : VK} {v : V} {n w W M : Nat} {o : Option (List PyData)} (h : ThW K H v n w W M o) (k : Q (.bl o.isSome) H) : rIsinst K [v, .ty "tuple"] H Q := by
  cases o with
  | none =>
    rcases h with ⟨D, h1, h2⟩ | ⟨t, h1, h2⟩
    · refine isTupD h1 ?_
      rw [h2]
      exact k
    · exact i_isi h1 h2 k
  | some ds => exact isTupD h.1 k
theorem pw_at {α : Type} {R : α → α → Prop} : ∀ {row : List α}, (∀ (j : Nat) x, row[j]? = some x → ∀ y ∈ row.drop (j + 1), R x y) ↔ row.Pairwise R
  | [] => ⟨fun _ => .nil, fun _ j x h => by simp at h⟩
  | a :: r => by
    rw [List.pairwise_cons]
    constructor
    · intro h
      exact ⟨fun y hy => h 0 a rfl y hy, pw_at.mp fun j x hx y hy => h (j + 1) x hx y hy⟩
    · rintro ⟨h1, h2⟩ j x hx y hy
      cases j with
      | zero =>
        have : a = x := by simpa using hx
        subst this
        exact h1 y hy
      | succ j => exact pw_at.mpr h2 j x hx y hy
noncomputable def sp_no_two_told (K : PySem.W.Frag) : Sp := fun vs H Q _ => ∃ r u ns ps as, ∃ row : List Str, vs = [.ref r, u] ∧ Tab H r ns as (Way ps) ∧ ns.Nodup ∧ Is K H (nmD row) u ∧ (∀ z ∈ row, z ∈ ns) ∧ row.length ≤ 100 ∧ ∀ b H', Same H H' → (b = true ↔ row.Pairwise fun x y => unB ps x y = true) → Q (.bl b) H'
theorem ok_no_two_told {f : Addr} {fd : FuncData} (F : Fun K "no_two_told" "no_two_told" s_no_two_told f fd) (T : TopF mg) (c_are_untold : Fnd P w K mg base 1 "are_untold" ["reach", "one", "other"] (sp_are_untold K)) : FnOk P w K mg base CX0 2 f fd ["reach", "names"] (sp_no_two_told K) := by
  refine F.ok sc_no_two_told (fun vs H Q E h => ?_) (fun cdv A outer s H vs Q E hr h => ?_)
  · obtain ⟨r, u, ns, ps, as, row, rfl, _⟩ := h
    rfl
  · obtain ⟨r, u, ns, ps, as, row, rfl, hT, hnd, hU, hin, hl, k⟩ := h
    have hu := hu_of hr
    have hq := qa_of hr
    with_reducible refine ⟨_, (pss_cons (ps_for PassesOwn.never (by with_unfolding_all rfl) (pi_enum (K := K) (by with_unfolding_all rfl) T.b_enumerate (pa_cons (pv 1) pa_nil)) (pg_tupK (K := K) (n := 2) (by with_unfolding_all rfl) (pgs_cons (pg_name (i := 2) sc_no_two_told.nd (by with_unfolding_all rfl) (by with_unfolding_all exact Or.inl rfl)) (pgs_cons (pg_name (i := 3) sc_no_two_told.nd (by with_unfolding_all rfl) (by with_unfolding_all exact Or.inr rfl)) pgs_nil)))
      (pss_one (ps_if (pt_not (pt_val (pe_callB (call_allK (K := K) (by with_unfolding_all rfl)) (by with_unfolding_all rfl) T.b_all PyProof.Rows.Boot.«all» (pa_cons (pe_comp ["other"] ["reach", "one"] [0, 3] (by with_unfolding_all rfl) (by with_unfolding_all rfl) (by with_unfolding_all rfl) (pi_anyK (K := K) hu (pe_slice (sl_K (K := K)) (pv 1) (po_some (pe_op (op_addK (K := K)) (pv 2) pe_int)) po_none)) (fun _ _ _ _ => (pg_name (i := 0) (by with_unfolding_all (show (["other", "reach", "one"] : List Str).Nodup; decide +kernel)) (by with_unfolding_all rfl) (by with_unfolding_all exact Or.inl rfl))) (gk_name (by decide)) (fun _ _ _ _ => pif_nil) (fun _ _ _ _ => (pe_fn c_are_untold (hr.mono (by decide)) (by with_unfolding_all rfl) (pa_cons (pv 1) (pa_cons (pv 2) (pa_cons (pv 0) pa_nil)))))) pa_nil)))) (pss_one (ps_ret pe_bl)) pss_nil)))
      (pss_one (ps_ret pe_bl))), ?_⟩
    walk_at "rd"
    refine enum_nm hU (fun i σ H1 => ∃ x2 x3, σ = [some (.ref r), some u, x2, x3] ∧ Same H H1 ∧ ∀ (j : Nat) x, j < i → row[j]? = some x → ∀ y ∈ row.drop (j + 1), unB ps x y = true) ⟨_, _, rfl, .refl _, fun j x hj => absurd hj (by omega)⟩ (fun i σ' H' hP => ?_) (fun i z σ' H1 H2 hz hP e2 => ?_) (fun σ' H1 hP => ?_)
    · obtain ⟨_, _, _, e, _⟩ := hP
      exact e.fz
    · obtain ⟨x2, x3, rfl, e1, hP⟩ := hP
      have e12 := e1.trans e2
      obtain ⟨ua, rfl, hSu⟩ := hU.nm
      walk_at "rd"
      refine i_slT (e12.seqT hSu) fun q3 H3 e3 h3 => ?_
      rw [cut_dropA (by omega), ← List.map_drop] at h3
      have e13 := e12.trans e3
      have hT3 := (hT.same e13).toR
      have hzi : z ∈ ns := hin z (List.mem_of_getElem? hz)
      have hln : ((row.drop ((i : Int) + 1).toNat).map V.str).length ≤ 1000 := by rw [List.length_map, List.length_drop]; omega
      walk_at "rd"
      refine i_itT h3 ?_
      refine comp_bls (K := K) (walk_tup (xs := (row.drop ((i : Int) + 1).toNat).map V.str)) (row.drop ((i : Int) + 1).toNat) (by rw [List.length_map]) (fun y => unB ps z y) (by omega) (fun H' e => e.seqT h3) (fun j y xv H4 R hy hxv e4 hR => ?_) (fun q H4 hq4 e4 h4 => ?_)
      · rw [List.getElem?_map, hy] at hxv
        cases hxv
        walk_at "rd"
        exact ⟨r, z, y, ns, ps, as, rfl, hT3.same e4, hnd, hzi, hin y (List.mem_of_mem_drop (List.mem_of_getElem? hy)), hR H4 (.refl _)⟩
      · walk_at "rd"
        refine i_all h4 ?_
        have hdr : ((i : Int) + 1).toNat = i + 1 := by omega
        rw [hdr]
        cases hA : ((row.drop (i + 1)).map fun y => unB ps z y).all id with
        | false =>
          walk_at "rd"
          refine k false H4 (e13.trans e4) ⟨fun h => (by cases h), fun h => ?_⟩
          have := pw_at.mpr h i z hz
          rw [List.all_map] at hA
          rw [← hA, List.all_eq_true]
          exact this
        | true =>
          walk_at "rd"
          refine ⟨_, _, rfl, e13.trans e4, fun j x hj hx y hy => ?_⟩
          rcases Nat.lt_succ_iff_lt_or_eq.mp hj with hj | rfl
          · exact hP j x hj hx y hy
          · rw [hz] at hx
            cases hx
            rw [List.all_map, List.all_eq_true] at hA
            exact hA y hy
    · obtain ⟨x2, x3, rfl, e1, hP⟩ := hP
      walk_at "rd"
      exact k _ H1 e1 ⟨fun _ => pw_at.mp fun j x hx => hP j x (List.getElem?_eq_some_iff.mp hx).1 hx, fun _ => rfl⟩
noncomputable def BunO (ns : List Str) (ps : List (Str × Str)) : Option (List PyData) → Prop
  | some ds => ∃ row : List Str, ds = row.map PyData.str ∧ row = ns.filter (fun z => decide (z ∈ row)) ∧ row.Pairwise fun x y => unB ps x y = true
  | none => False
theorem mem_strs {row : List Str} {z : Str} : PyData.str z ∈ row.map PyData.str ↔ z ∈ row := by
  constructor
  · intro h
    obtain ⟨y, hy, e⟩ := List.mem_map.mp h
    injection e with e
    rw [← e]
    exact hy
  · exact fun h => List.mem_map_of_mem h
theorem strs_inj {a b : List Str} (h : a.map PyData.str = b.map PyData.str) : a = b := by
  have := congrArg (List.map fun d => match d with | PyData.str z => z | _ => ("" : Str)) h
  simpa [List.map_map, Function.comp_def] using this
noncomputable def sp_is_bunch (K : PySem.W.Frag) : Sp := fun vs H Q _ => ∃ v u ns ps n w W M o, vs = [v, u] ∧ Is K H (hfD ns ps) v ∧ Half ns ps ∧ ThW K H u n w W M o ∧ n ≤ 60 ∧ ∀ b H', Same H H' → (b = true ↔ BunO ns ps o) → Q (.bl b) H'
theorem ok_is_bunch {f : Addr} {fd : FuncData} (F : Fun K "is_bunch" "is_bunch" s_is_bunch f fd) (T : TopF mg) (c_behind_each : Fnd P w K mg base 1 "behind_each" ["half"] (sp_behind_each K)) (c_no_two_told : Fnd P w K mg base 2 "no_two_told" ["reach", "names"] (sp_no_two_told K)) : FnOk P w K mg base CX0 3 f fd ["half", "thing"] (sp_is_bunch K) := by
  refine F.ok sc_is_bunch (fun vs H Q E h => ?_) (fun cdv A outer s H vs Q E hr h => ?_)
  · obtain ⟨v, u, ns, ps, n, w, W, M, o, rfl, _⟩ := h
    rfl
  · obtain ⟨v, u, ns, ps, n, w, W, M, o, rfl, hI, hH, hU, hn, k⟩ := h
    have hu := hu_of hr
    have hq := qa_of hr
    have h10 := hH.few
    with_reducible refine ⟨_, (pss_cons (ps_if (pt_not (pt_val (pe_callB (call_isinstK (K := K)) (by with_unfolding_all rfl) T.b_isinstance PyProof.Rows.Boot.«isinstance» (pa_cons (pv 1) (pa_cons (pe_bltn (v := .ty "tuple") (by with_unfolding_all rfl) T.b_tuple PyProof.Rows.Boot.«tuple» (by with_unfolding_all rfl)) pa_nil))))) (pss_one (ps_ret pe_bl)) pss_nil)
      (pss_cons (ps_if (pt_cmpR (op_neK (K := K) hq) (pv 1) (pe_callTy (call_tupleK (K := K)) (by with_unfolding_all rfl) T.b_tuple PyProof.Rows.Boot.«tuple» (pa_cons (pe_comp ["name"] ["thing"] [1] (by with_unfolding_all rfl) (by with_unfolding_all rfl) (by with_unfolding_all rfl) (pi_anyK (K := K) hu (pe_ix (ix_anyK (K := K) hu) (pv 0) pe_int (by with_unfolding_all exact fun _ _ => rfl))) (fun _ _ _ _ => (pg_name (i := 0) (by with_unfolding_all (show (["name", "thing"] : List Str).Nodup; decide +kernel)) (by with_unfolding_all rfl) (by with_unfolding_all exact Or.inl rfl))) (gk_name (by decide)) (fun _ _ _ _ => (pif_one (pt_cmpR (op_inK (K := K) hq) (pv 0) (pv 1) (by with_unfolding_all rfl)))) (fun _ _ _ _ => (pv 0))) pa_nil)) (nomark _)) (pss_one (ps_ret pe_bl)) pss_nil)
      (pss_one (ps_ret (pe_fn c_no_two_told (hr.mono (by decide)) (by with_unfolding_all rfl) (pa_cons (pe_fn c_behind_each (hr.mono (by decide)) (by with_unfolding_all rfl) (pa_cons (pv 0) pa_nil)) (pa_cons (pv 1) pa_nil))))))), ?_⟩
    walk_at "rd"
    refine isTupW hU ?_
    cases o with
    | none =>
      walk_at "rd"
      exact k false H (.refl H) ⟨fun h => (by cases h), fun h => h.elim⟩
    | some ds =>
      obtain ⟨hU, hD, _⟩ := hU
      obtain ⟨ua, xs, rfl, hS, hX⟩ := hU.tup
      have hlay : PyData.canLayAll0 ds = true := by have := hD.lay; simpa only [PyData.canLay0] using this
      rw [show (some ds).isSome = true from rfl]
      walk_at "rd"
      refine i_ixH0 hI fun nv hN => ?_
      walk_at "rd"
      refine comp_nm hN (fun z => hasS ds z) PyData.str (fun _ => rfl) (by omega) (fun i z H1 R R' hz e1 hR hR' => ?_) (fun q ys H1 hq1 e1 h1 hL1 => ?_)
      · walk_at "rd"
        refine i_inX (d := .str z) is_str (.inr (Is.mono e1 _ _ hU)) hlay (by simpa only [PyData.canLay0] using (nm_ok (hH.names.2 z (List.mem_of_getElem? hz))).1) (by simp only [PyData.depth]; omega) ?_
        rw [show (ds.any fun e => PyData.eqv e (.str z)) = hasS ds z from rfl]
        cases ht : hasS ds z with
        | true =>
          walk_at "rd"
          exact hR ht _ H1 (.refl _) is_str
        | false =>
          walk_at "rd"
          exact hR' ht H1 (.refl _)
      · have hrow : ∀ z ∈ ns.filter (fun z => hasS ds z), isNm z = true := fun z hz => hH.names.2 z (List.mem_filter.mp hz).1
        have hfl : (ns.filter (fun z => hasS ds z)).length ≤ 10 := Nat.le_trans (List.length_filter_le _ _) h10
        generalize hr0 : ns.filter (fun z => hasS ds z) = row0 at hL1 hrow hfl
        walk_at "rd"
        refine i_tupNm h1 hL1 fun t2 H2 e2 hI2 => ?_
        have e12 := e1.trans e2
        refine i_neD (Is.mono e12 _ _ hU) hI2 (hD.shaped (by omega)) ((dk_tup (nms_els (p := 1) (W := 70) hrow (by omega))).shaped (by omega)) ?_
        refine ⟨_, rfl, ?_⟩
        cases hE : PyData.eqv (.tuple ds) (nmD row0) with
        | false =>
          walk_at "rd"
          refine k false H2 e12 ⟨fun h => (by cases h), fun ⟨row, h1, h2, _⟩ => ?_⟩
          have : row0 = row := by
            rw [← hr0, h2, h1]
            refine List.filter_congr fun z _ => ?_
            rw [Bool.eq_iff_iff, any_str, decide_eq_true_eq, mem_strs]
          rw [eqv_row.mpr (by rw [this]; exact h1)] at hE
          cases hE
        | true =>
          have hds := eqv_row.mp hE
          have hI2' := hI.hf_fz e12.fz
          walk_at "rd"
          refine ⟨v, ns, ps, rfl, hI2', hH.w.c, fun r as H3 hr3 has e3 hT3 => ?_⟩
          walk_at "rd"
          have hself : row0 = ns.filter (fun z => decide (z ∈ row0)) := by
            conv => lhs; rw [← hr0]
            refine List.filter_congr fun z _ => ?_
            rw [Bool.eq_iff_iff, any_str, decide_eq_true_eq, hds, mem_strs]
          refine ⟨r, _, ns, ps, as, row0, rfl, hT3, hH.names.1, ?_, fun z hz => by rw [← hr0] at hz; exact (List.mem_filter.mp hz).1, by omega, fun b H4 e4 hb => k b H4 ((e12.trans e3).trans e4) (hb.trans ⟨fun h => ⟨row0, hds, hself, h⟩, fun ⟨row, h1, _, h3⟩ => ?_⟩)⟩
          · have hS3 := (e12.trans e3).seqT hS
            have hX3 := IsL.mono (e12.trans e3) _ _ hX
            rw [hds] at hX3
            exact Is.of_tup hS3 hX3
          · rw [strs_inj (hds.symm.trans h1)]
            exact h3
local macro_rules | `(tactic| walk_at "rq1") => L2.mAlts "i_izip"
noncomputable def ChnI (ps : List (Str × Str)) (row : List Str) : Prop := ∀ (i : Nat) x y, row[i]? = some x → row[i + 1]? = some y → Way ps x y
noncomputable def ChR (ns : List Str) (ps : List (Str × Str)) (row : List Str) : Prop := row ≠ [] ∧ (∀ z ∈ row, z ∈ ns) ∧ ChnI ps row
noncomputable def ChD (ns : List Str) (ps : List (Str × Str)) (D : PyData) : Prop := ∃ row : List Str, D = nmD row ∧ ChR ns ps row
noncomputable def inS (ns : List Str) (d : PyData) : Bool := (ns.map PyData.str).any fun e => PyData.eqv e d
theorem inS_iff {ns : List Str} {d : PyData} : inS ns d = true ↔ ∃ z ∈ ns, d = .str z := by
  unfold inS
  rw [List.any_map, List.any_eq_true]
  constructor
  · rintro ⟨z, hz, h⟩
    refine ⟨z, hz, ?_⟩
    cases d with
    | str y =>
      have h : PyData.eqv (.str z) (.str y) = true := h
      have := eqv_str_iff.mp h
      injection this with this
      rw [this]
    | _ => simp [PyData.eqv] at h
  · rintro ⟨z, hz, rfl⟩
    exact ⟨z, hz, eqv_str_iff.mpr rfl⟩
theorem all_inS {ns : List Str} : ∀ {ds : List PyData}, (∀ d ∈ ds, inS ns d = true) → ∃ row : List Str, ds = row.map PyData.str ∧ ∀ z ∈ row, z ∈ ns
  | [], _ => ⟨[], rfl, fun z h => by cases h⟩
  | d :: ds, h => by
    obtain ⟨z, hz, rfl⟩ := inS_iff.mp (h d (.head _))
    obtain ⟨row, rfl, hr⟩ := all_inS fun e he => h e (.tail _ he)
    exact ⟨z :: row, rfl, fun y hy => (List.mem_cons.mp hy).elim (fun e => e ▸ hz) (hr y)⟩
theorem ch_in {ns : List Str} {ps : List (Str × Str)} {ds : List PyData} (h : ChD ns ps (.tuple ds)) : ds ≠ [] ∧ ∀ d ∈ ds, inS ns d = true := by
  obtain ⟨row, e, h1, h2, _⟩ := h
  unfold nmD at e
  injection e with e
  subst e
  refine ⟨by simpa using h1, fun d hd => ?_⟩
  obtain ⟨z, hz, rfl⟩ := List.mem_map.mp hd
  exact inS_iff.mpr ⟨z, h2 z hz, rfl⟩
theorem lay_nms {ns : List Str} (h : ∀ z ∈ ns, isNm z = true) : PyData.canLayAll0 (ns.map PyData.str) = true := by
  induction ns with
  | nil => rfl
  | cons z ns ih =>
    rw [List.map_cons]
    simp only [PyData.canLayAll0, Bool.and_eq_true]
    exact ⟨by simpa only [PyData.canLay0] using (nm_ok (h z (.head _))).1, ih fun y hy => h y (.tail _ hy)⟩
noncomputable def sp_is_chain (K : PySem.W.Frag) : Sp := fun vs H Q _ => ∃ nv r u ns ps as D n w W, vs = [nv, .ref r, u] ∧ Is K H (nmD ns) nv ∧ TabR H r ns as (Way ps) ∧ ns.Nodup ∧ (∀ z ∈ ns, isNm z = true) ∧ Is K H D u ∧ Dk n w W D ∧ n ≤ 60 ∧ w ≤ 500000 ∧ ∀ b H', Same H H' → (b = true ↔ ChD ns ps D) → Q (.bl b) H'
theorem ok_is_chain {f : Addr} {fd : FuncData} (F : Fun K "is_chain" "is_chain" s_is_chain f fd) (T : TopF mg) : FnOk P w K mg base CX0 1 f fd ["names", "reach", "thing"] (sp_is_chain K) := by
  refine F.ok sc_is_chain (fun vs H Q E h => ?_) (fun cdv A outer s H vs Q E hr h => ?_)
  · obtain ⟨nv, r, u, ns, ps, as, D, n, w, W, rfl, _⟩ := h
    rfl
  · obtain ⟨nv, r, u, ns, ps, as, D, n, w, W, rfl, hN, hT, hnd, hnm, hU, hD, hn, hw, k⟩ := h
    have hu := hu_of hr
    have hq := qa_of hr
    with_reducible refine ⟨_, (pss_cons (ps_if (PW.pt (pw_or (pt_not (pt_val (pe_callB (call_isinstK (K := K)) (by with_unfolding_all rfl) T.b_isinstance PyProof.Rows.Boot.«isinstance» (pa_cons (pv 2) (pa_cons (pe_bltn (v := .ty "tuple") (by with_unfolding_all rfl) T.b_tuple PyProof.Rows.Boot.«tuple» (by with_unfolding_all rfl)) pa_nil))))) (pw_or1 (pt_cmpR (op_eqK (K := K) hq) (pe_callB (call_lenK (K := K)) (by with_unfolding_all rfl) T.b_len PyProof.Rows.Boot.«len» (pa_cons (pv 2) pa_nil)) pe_int (nomark _))))) (pss_one (ps_ret pe_bl)) pss_nil)
      (pss_cons (ps_if (pt_not (pt_val (pe_callB (call_allK (K := K) (by with_unfolding_all rfl)) (by with_unfolding_all rfl) T.b_all PyProof.Rows.Boot.«all» (pa_cons (pe_comp ["name"] ["names"] [0] (by with_unfolding_all rfl) (by with_unfolding_all rfl) (by with_unfolding_all rfl) (pi_anyK (K := K) hu (pv 2)) (fun _ _ _ _ => (pg_name (i := 0) (by with_unfolding_all (show (["name", "names"] : List Str).Nodup; decide +kernel)) (by with_unfolding_all rfl) (by with_unfolding_all exact Or.inl rfl))) (gk_name (by decide)) (fun _ _ _ _ => pif_nil) (fun _ _ _ _ => (pe_cmpR (op_inK (K := K) hq) (pv 0) (pv 1) (by with_unfolding_all rfl)))) pa_nil)))) (pss_one (ps_ret pe_bl)) pss_nil)
      (pss_one (ps_ret (pe_callB (call_allK (K := K) (by with_unfolding_all rfl)) (by with_unfolding_all rfl) T.b_all PyProof.Rows.Boot.«all» (pa_cons (pe_comp ["one", "other"] ["reach"] [1] (by with_unfolding_all rfl) (by with_unfolding_all rfl) (by with_unfolding_all rfl) (pi_zip (K := K) (by with_unfolding_all rfl) T.b_zip (pa_cons (pv 2) (pa_cons (pe_slice (sl_K (K := K)) (pv 2) (po_some pe_int) po_none) pa_nil))) (fun _ _ _ _ => (pg_tupK (K := K) (n := 2) (by with_unfolding_all rfl) (pgs_cons (pg_name (i := 0) (by with_unfolding_all (show (["one", "other", "reach"] : List Str).Nodup; decide +kernel)) (by with_unfolding_all rfl) (by with_unfolding_all exact Or.inl rfl)) (pgs_cons (pg_name (i := 1) (by with_unfolding_all (show (["one", "other", "reach"] : List Str).Nodup; decide +kernel)) (by with_unfolding_all rfl) (by with_unfolding_all exact Or.inl rfl)) pgs_nil)))) (gk_tup (gk_cons (by decide) (gk_cons (by decide) gk_nil))) (fun _ _ _ _ => pif_nil) (fun _ _ _ _ => (pe_cmpR (op_inK (K := K) hq) (pv 1) (pe_ix (ix_anyK (K := K) hu) (pv 2) (pv 0) (by with_unfolding_all exact fun _ _ => rfl)) (by with_unfolding_all rfl)))) pa_nil)))))), ?_⟩
    walk_at "rd"
    refine isTupD hU ⟨_, rfl, ?_⟩
    cases hTu : tupD D with
    | false =>
      walk_at "rd"
      exact k false H (.refl H) ⟨fun h => (by cases h), fun ⟨row, h, _⟩ => by rw [h] at hTu; cases hTu⟩
    | true =>
      obtain ⟨ds, rfl⟩ : ∃ ds, D = .tuple ds := by cases D <;> first | exact ⟨_, rfl⟩ | cases hTu
      obtain ⟨ua, xs, rfl, hS, hX⟩ := hU.tup
      have hxl := IsL.length hX
      have hE0 : ds.length ≤ w := by
        have := hD.wt
        simp only [PyData.weight] at this
        exact Nat.le_trans (wt_len ds) (by omega)
      walk_at "rd"
      refine len12 hS ?_
      walk_at "rd"
      refine iteD (fun hc => ?_) (fun hc => ?_)
      · walk_at "rd"
        refine k false H (.refl H) ⟨fun h => (by cases h), fun h => absurd ?_ (ch_in h).1⟩
        have : xs.length = 0 := by
          rcases Nat.eq_zero_or_pos xs.length with h | h
          · exact h
          · exact absurd hc (by simp; intro h2; rw [h2] at h; simp at h)
        exact List.eq_nil_of_length_eq_zero (by omega)
      · have hds : ds ≠ [] := by
          rintro rfl
          exact hc (by rw [← hxl]; rfl)
        walk_at "rd"
        refine i_itT hS ?_
        refine comp_bls (K := K) (walk_tup (xs := xs)) ds (by omega) (fun d => inS ns d) (by omega) (fun H' e => e.seqT hS) (fun j d xv H1 R hd hxv e1 hR => ?_) (fun q H1 hq1 e1 h1 => ?_)
        · obtain ⟨d', hd', hId⟩ := IsL.get hX hxv
          rw [hd] at hd'
          cases hd'
          walk_at "rd"
          obtain ⟨m, rfl⟩ : ∃ m, n = m + 1 := ⟨n - 1, by have := hD.dp; simp only [PyData.depth] at this; omega⟩
          obtain ⟨du, hdu⟩ := hD.els.all d (List.mem_of_getElem? hd)
          exact i_inX (Is.mono e1 _ _ hId) (.inr (Is.mono e1 _ _ hN)) (lay_nms hnm) hdu.lay (Nat.le_trans hdu.dp (by omega)) (hR H1 (.refl _))
        · walk_at "rd"
          refine i_all h1 ?_
          cases hA : (ds.map fun d => inS ns d).all id with
          | false =>
            walk_at "rd"
            refine k false H1 e1 ⟨fun h => (by cases h), fun h => ?_⟩
            rw [List.all_map] at hA
            rw [← hA, List.all_eq_true]
            exact (ch_in h).2
          | true =>
            rw [List.all_map, List.all_eq_true] at hA
            obtain ⟨row, rfl, hrow⟩ := all_inS hA
            obtain ⟨ua', eua, hS⟩ := Is.nm (ns := row) hU
            cases eua
            walk_at "rd"
            refine i_slT (e1.seqT hS) fun q2 H2 e2 h2 => ?_
            rw [cut_dropA (by omega), ← List.map_drop] at h2
            have e12 := e1.trans e2
            have hT2 := hT.same e12
            walk_at "rd"
            refine comp_zip (f := fun i => match row[i]?, row[i + 1]? with | some x, some y => wayB ps x y | _, _ => true) (e12.seqT hS) h2 (by rw [List.length_map]; simp at hxl; simp at hE0; omega) (fun i x y H3 R hx hy e3 hR => ?_) (fun p H3 hp3 e3 h3 => ?_)
            · rw [List.getElem?_map] at hx hy
              obtain ⟨x', hx', rfl⟩ := Option.map_eq_some_iff.mp hx
              obtain ⟨y', hy', rfl⟩ := Option.map_eq_some_iff.mp hy
              have hy1 : row[i + 1]? = some y' := by
                rw [List.getElem?_drop] at hy'
                rw [← hy']
                congr 1
                omega
              have hT3 := hT2.same e3
              obtain ⟨i', a, hi, hai⟩ := hT3.at (hrow x' (List.mem_of_getElem? hx'))
              obtain ⟨ks, hk1, hk2, hk3, hk4⟩ := hT3.row i' x' a hi hai
              walk_at "rd"
              refine i_tabR hT3 hnd hi hai ?_
              refine i_inRowR hk1 ?_
              rw [wayB_dec (hk4 y')]
              have := hR H3 (.refl _)
              simpa only [hx', hy1] using this
            · walk_at "rd"
              refine i_all (SqL.of h3) ?_
              walk_at "rd"
              refine k _ H3 (e12.trans e3) ?_
              rw [List.all_map, List.all_eq_true]
              constructor
              · intro h
                refine ⟨row, rfl, by simpa using hds, hrow, fun i x y hx hy => ?_⟩
                have hl1 := (List.getElem?_eq_some_iff.mp hy).1
                have := h i (by rw [List.mem_range, List.length_map, List.length_map, List.length_drop]; omega)
                simp only [Function.comp, id, hx, hy] at this
                exact wayB_iff.mp this
              · rintro ⟨row', e, _, _, h⟩ i _
                unfold nmD at e
                injection e with e
                have := strs_inj e
                subst this
                show (match row[i]?, row[i + 1]? with | some x, some y => wayB ps x y | _, _ => true) = true
                cases hx : row[i]? with
                | none => rfl
                | some x =>
                  cases hy : row[i + 1]? with
                  | none => rfl
                  | some y => exact wayB_iff.mpr (h i x y hx hy)
noncomputable def CvO (ns : List Str) (ps : List (Str × Str)) : Option (List PyData) → Prop
  | some ds => ∃ rows : List (List Str), ds = rows.map nmD ∧ (∀ row ∈ rows, ChR ns ps row) ∧ rows.flatten.Perm ns
  | none => False
theorem lf_strs : ∀ row : List Str, lfsL (row.map PyData.str) = row.length
  | [] => rfl
  | z :: row => by
    have := lf_strs row
    simp only [List.map_cons, lfsL, lfs, List.length_cons]
    omega
theorem lf_rows : ∀ rows : List (List Str), lfsL (rows.map nmD) = rows.flatten.length
  | [] => rfl
  | r :: rows => by
    have := lf_rows rows
    have h := lf_strs r
    rw [List.map_cons, List.flatten_cons, List.length_append]
    simp only [lfsL]
    unfold nmD at this ⊢
    rw [lf_tup]
    omega
theorem nmD_inj {a b : List Str} (h : nmD a = nmD b) : a = b := by
  unfold nmD at h
  injection h with h
  exact strs_inj h
theorem cv_at {ns : List Str} {ps : List (Str × Str)} {ds : List PyData} {i : Nat} {D : PyData} (h : CvO ns ps (some ds)) (hD : ds[i]? = some D) : ChD ns ps D := by
  obtain ⟨rows, rfl, h1, _⟩ := h
  rw [List.getElem?_map] at hD
  obtain ⟨row, hr, rfl⟩ := Option.map_eq_some_iff.mp hD
  exact ⟨row, rfl, h1 row (List.mem_of_getElem? hr)⟩
theorem perm_sorted {a b m1 m2 : List Str} (h1 : m1.Perm a) (s1 : sortedS m1 = true) (h2 : m2.Perm b) (s2 : sortedS m2 = true) : decide (m1 = m2) = true ↔ a.Perm b := by
  rw [decide_eq_true_eq]
  constructor
  · rintro rfl
    exact h1.symm.trans h2
  · exact fun h => sorted_one ((h1.trans h).trans h2.symm) s1 s2
noncomputable def sp_is_cover (K : PySem.W.Frag) : Sp := fun vs H Q _ => ∃ v u ns ps n w W M o, vs = [v, u] ∧ Is K H (hfD ns ps) v ∧ Half ns ps ∧ ThW K H u n w W M o ∧ n ≤ 60 ∧ w ≤ 500000 ∧ M < 64 ∧ ∀ b H', Same H H' → (b = true ↔ CvO ns ps o) → Q (.bl b) H'
theorem ok_is_cover {f : Addr} {fd : FuncData} (F : Fun K "is_cover" "is_cover" s_is_cover f fd) (T : TopF mg) (c_behind_each : Fnd P w K mg base 1 "behind_each" ["half"] (sp_behind_each K)) (c_is_chain : Fnd P w K mg base 1 "is_chain" ["names", "reach", "thing"] (sp_is_chain K)) : FnOk P w K mg base CX0 2 f fd ["half", "thing"] (sp_is_cover K) := by
  refine F.ok sc_is_cover (fun vs H Q E h => ?_) (fun cdv A outer s H vs Q E hr h => ?_)
  · obtain ⟨v, u, ns, ps, n, w, W, M, o, rfl, _⟩ := h
    rfl
  · obtain ⟨v, u, ns, ps, n, w, W, M, o, rfl, hI, hH, hU, hn, hw, hM, k⟩ := h
    have hu := hu_of hr
    have hq := qa_of hr
    have h10 := hH.few
    with_reducible refine ⟨_, (pss_cons (ps_if (pt_not (pt_val (pe_callB (call_isinstK (K := K)) (by with_unfolding_all rfl) T.b_isinstance PyProof.Rows.Boot.«isinstance» (pa_cons (pv 1) (pa_cons (pe_bltn (v := .ty "tuple") (by with_unfolding_all rfl) T.b_tuple PyProof.Rows.Boot.«tuple» (by with_unfolding_all rfl)) pa_nil))))) (pss_one (ps_ret pe_bl)) pss_nil)
      (pss_cons (ps_set (i := 2) sc_is_cover.nd (by with_unfolding_all rfl) (by with_unfolding_all exact Or.inl rfl) (pe_fn c_behind_each (hr.mono (by decide)) (by with_unfolding_all rfl) (pa_cons (pv 0) pa_nil)))
      (pss_cons (ps_set (i := 3) sc_is_cover.nd (by with_unfolding_all rfl) (by with_unfolding_all exact Or.inl rfl) (pe_lst pa_nil))
      (pss_cons (ps_for PassesOwn.never (by with_unfolding_all rfl) (pi_anyK (K := K) hu (pv 1)) (pg_name (i := 4) sc_is_cover.nd (by with_unfolding_all rfl) (by with_unfolding_all exact Or.inl rfl))
      (pss_cons (ps_if (pt_not (pt_val (pe_fn c_is_chain (hr.mono (by decide)) (by with_unfolding_all rfl) (pa_cons (pe_ix (ix_anyK (K := K) hu) (pv 0) pe_int (by with_unfolding_all exact fun _ _ => rfl)) (pa_cons (pv 2) (pa_cons (pv 4) pa_nil)))))) (pss_one (ps_ret pe_bl)) pss_nil)
      (pss_one (ps_expr (pe_bmK (K := K) PySem.F.plainAttrs_list PySem.F.slot_list_extend PySem.F.type_list_extend (mm (mt_extendB (K := K))) (pv 3) (pa_cons (pv 4) pa_nil))))))
      (pss_one (ps_ret (pe_cmpR (op_eqK (K := K) hq) (pe_callB (call_sortedK (K := K)) (by with_unfolding_all rfl) T.b_sorted PyProof.Rows.Boot.«sorted» (pa_cons (pv 3) pa_nil)) (pe_callB (call_sortedK (K := K)) (by with_unfolding_all rfl) T.b_sorted PyProof.Rows.Boot.«sorted» (pa_cons (pe_ix (ix_anyK (K := K) hu) (pv 0) pe_int (by with_unfolding_all exact fun _ _ => rfl)) pa_nil)) (nomark _)))))))), ?_⟩
    walk_at "rd"
    refine isTupW hU ?_
    cases o with
    | none =>
      walk_at "rd"
      exact k false H (.refl H) ⟨fun h => (by cases h), fun h => h.elim⟩
    | some ds =>
      obtain ⟨hU, hD, hlf⟩ := hU
      obtain ⟨ua, xs, rfl, hS, hX⟩ := hU.tup
      have hxl := IsL.length hX
      obtain ⟨m, rfl⟩ : ∃ m, n = m + 1 := ⟨n - 1, by have := hD.dp; simp only [PyData.depth] at this; omega⟩
      have hE := hD.els
      rw [show (some ds).isSome = true from rfl]
      walk_at "rd"
      refine ⟨v, ns, ps, rfl, hI, hH.w.c, fun r as H1 hr1 has e1 hT1 => ?_⟩
      walk_at "rd"
      refine i_newL (line_of (by simp)) fun p H2 hp2 e2 h2 => ?_
      walk_at "rd"
      refine i_itT ((e1.trans e2).seqT hS) ?_
      refine for_by (walk_tup (xs := xs)) (fun i σ H3 => ∃ x4 rows, σ = [some v, some (.ref ua), some (.ref r), some (.ref p), x4] ∧ Same H1 H3 ∧ H3 p = some (.lst (rows.flatten.map V.str)) ∧ ds.take i = rows.map nmD ∧ ∀ row ∈ rows, ChR ns ps row)
        ⟨none, [], rfl, e2, h2, rfl, fun row h => by cases h⟩ (fun i σ' H' hP => ?_) (fun i x σ' H3 hx hi hP => ?_) (fun σ' H3 hP => ?_)
      · obtain ⟨_, _, _, e, _⟩ := hP
        exact (e1.trans e).seqT hS
      · obtain ⟨x4, rows, rfl, e3, h3, htk, hrows⟩ := hP
        have e13 := e1.trans e3
        obtain ⟨D, hDi, hIx⟩ := IsL.get hX hx
        obtain ⟨du, hdu⟩ := hE.all D (List.mem_of_getElem? hDi)
        have hwx : D.weight ≤ w := Nat.le_trans (wt_mem (List.mem_of_getElem? hDi)) hE.wt
        walk_at "rd"
        refine i_ixH0 (hI.hf_fz e13.fz) fun nv hN => ?_
        walk_at "rd"
        refine ⟨nv, r, x, ns, ps, as, D, m, w, W, rfl, hN, (hT1.same e3).toR, hH.names.1, hH.names.2, Is.mono e13 _ _ hIx, ⟨hdu.asc, hdu.lay, hdu.sh, hdu.lv, hdu.dp, hwx, hdu.wd⟩, by omega, hw, fun b H4 e4 hb => ?_⟩
        cases b with
        | false =>
          walk_at "rd"
          refine k false H4 (e13.trans e4) ⟨fun h => (by cases h), fun h => ?_⟩
          have := hb.mpr (cv_at h hDi)
          cases this
        | true =>
          obtain ⟨row, rfl, hrow⟩ := hb.mp rfl
          obtain ⟨xa, rfl, hSx⟩ := Is.nm (Is.mono (e13.trans e4) _ _ hIx)
          walk_at "rd"
          have ht : ds.take (i + 1) = (rows ++ [row]).map nmD := by rw [List.take_add_one, hDi, htk, List.map_append]; rfl
          have hsz : (rows ++ [row]).flatten.length ≤ M := by
            rw [← lf_rows, ← ht]
            exact Nat.le_trans (lf_take _ _) hlf
          rw [List.flatten_append, List.flatten_cons, List.flatten_nil, List.append_nil, List.length_append] at hsz
          have h4 := e4 _ _ h3
          refine i_extT h4 hSx (by rw [List.length_map, List.length_map]; omega) fun H5 e5 h5 => ?_
          walk_at "rd"
          refine ⟨_, rows ++ [row], rfl, Same.off (q := p) (H1 := H4) (e3.trans e4) hp2 e5, ?_, ht, fun y hy => ?_⟩
          · rw [h5, List.flatten_append, List.flatten_cons, List.flatten_nil, List.append_nil, List.map_append]
          · rcases List.mem_append.mp hy with hy | hy
            · exact hrows y hy
            · rw [List.mem_singleton.mp hy]
              exact hrow
      · obtain ⟨x4, rows, rfl, e3, h3, htk, hrows⟩ := hP
        have e13 := e1.trans e3
        rw [hxl.symm, List.take_length] at htk
        have hsz : rows.flatten.length ≤ M := by
          rw [← lf_rows, ← htk]
          exact hlf
        have hin : ∀ z ∈ rows.flatten, z ∈ ns := fun z hz => by
          obtain ⟨row, h1, h2⟩ := List.mem_flatten.mp hz
          exact (hrows row h1).2.1 z h2
        walk_at "rd"
        refine i_sorted (.inl (SqL.of h3)) (by omega) fun p4 m4 H4 hp4 e4 h4 hm4 hs4 => ?_
        walk_at "rd"
        refine i_ixH0 (hI.hf_fz (e13.trans e4).fz) fun nv hN => ?_
        obtain ⟨na, rfl, hSn⟩ := hN.nm
        walk_at "rd"
        refine i_sorted (.inr hSn) (by omega) fun p5 m5 H5 hp5 e5 h5 hm5 hs5 => ?_
        walk_at "rd"
        refine i_eqD (Is.of_lst (SqL.of (e5 _ _ h4)) (is_strs m4)) (Is.of_lst (SqL.of h5) (is_strs m5)) (fine_lst fun z hz => (nm_ok (hH.names.2 z (hin z (hm4.mem_iff.mp hz)))).1) (fine_lst fun z hz => (nm_ok (hH.names.2 z (hm5.mem_iff.mp hz))).1) ?_
        rw [eqv_lsts]
        walk_at "rd"
        refine k _ H5 ((e13.trans e4).trans e5) ((perm_sorted hm4 hs4 hm5 hs5).trans ⟨fun h => ⟨rows, htk, hrows, h⟩, fun ⟨rows', h1, _, h3⟩ => ?_⟩)
        have : rows = rows' := by
          rw [h1] at htk
          exact ((List.map_inj_right fun _ _ => nmD_inj).mp htk).symm
        rw [this]
        exact h3
theorem i_inBT {K : PySem.W.Frag} {H : Hp} {Q : VK} {a : Addr} {bs : List Bool} (h : SqL K H a (bs.map V.bl)) (k : Q (.bl (bs.any id)) H) : rInA K false (.bl true) (.ref a) H Q := .inl ⟨a, _, rfl, .inl h, rfl, by
    rw [List.all_eq_true]
    intro v h
    obtain ⟨n, _, rfl⟩ := List.mem_map.mp h
    rfl, by
    have e : inV (.bl true) (bs.map V.bl) = bs.any id := by
      clear h k
      unfold inV
      induction bs with
      | nil => rfl
      | cons b bs ih =>
        rw [List.map_cons, List.any_cons, List.any_cons, ih]
        cases b <;> rfl
    show Q (.bl (inV (.bl true) (bs.map V.bl))) H
    rw [e]
    exact k⟩
theorem inS_not {ns : List Str} {d : PyData} (h : strD d = false) : inS ns d = false := by
  cases e : inS ns d with
  | false => rfl
  | true =>
    obtain ⟨z, _, rfl⟩ := inS_iff.mp e
    cases h
theorem each_in {K : PySem.W.Frag} {H : Hp} {R : VK} {d : PyData} {x v : V} {ns : List Str} {m w W : Nat} (hI : Is K H d x) (hd : Dk m w W d) (hm : m ≤ 100) (hnm : ∀ z ∈ ns, isNm z = true) (hN : Is K H (nmD ns) v) (hR : R (.bl (inS ns d)) H) : rInA K false x v H R := i_inX hI (.inr hN) (lay_nms hnm) hd.lay (Nat.le_trans hd.dp hm) hR
noncomputable def sp__law_is_chain (K : PySem.W.Frag) : Sp := fun vs H Q _ => ∃ v u ns ps D n w W, vs = [v, u] ∧ Is K H (hfD ns ps) v ∧ Half ns ps ∧ Is K H D u ∧ Dk n w W D ∧ n ≤ 60 ∧ w ≤ 500000 ∧ ∀ b H', Same H H' → (b = true ↔ ChD ns ps D) → Q (.bl b) H'
theorem ok__law_is_chain {f : Addr} {fd : FuncData} (F : Fun K "_law_is_chain" "_law_is_chain" s__law_is_chain f fd) (T : TopF mg) (c__law_behind : Fnd P w K mg base 1 "_law_behind" ["_law_half_here", "_law_name"] (sp__law_behind K)) : FnOk P w K mg base CX0 2 f fd ["_law_half_here", "_law_thing"] (sp__law_is_chain K) := by
  refine F.ok sc__law_is_chain (fun vs H Q E h => ?_) (fun cdv A outer s H vs Q E hr h => ?_)
  · obtain ⟨v, u, ns, ps, D, n, w, W, rfl, _⟩ := h
    rfl
  · obtain ⟨v, u, ns, ps, D, n, w, W, rfl, hI, hH, hU, hD, hn, hw, k⟩ := h
    have hu := hu_of hr
    have hq := qa_of hr
    have hle := hH.le
    have hok : OkP ps := okP_of hH.nmP
    have hok1 : ∀ z ∈ ns, PyData.strOk z = true := fun z hz => (nm_ok (hH.names.2 z hz)).1
    with_reducible refine ⟨_, (pss_cons (ps_if (PW.pt (pw_or (pt_not (pt_val (pe_callB (call_isinstK (K := K)) (by with_unfolding_all rfl) T.b_isinstance PyProof.Rows.Boot.«isinstance» (pa_cons (pv 1) (pa_cons (pe_bltn (v := .ty "tuple") (by with_unfolding_all rfl) T.b_tuple PyProof.Rows.Boot.«tuple» (by with_unfolding_all rfl)) pa_nil))))) (pw_or1 (pt_cmpR (op_eqK (K := K) hq) (pe_callB (call_lenK (K := K)) (by with_unfolding_all rfl) T.b_len PyProof.Rows.Boot.«len» (pa_cons (pv 1) pa_nil)) pe_int (nomark _))))) (pss_one (ps_ret pe_bl)) pss_nil)
      (pss_cons (ps_if (pt_cmpR (op_inK (K := K) hq) pe_bl (pe_comp ["_law_one"] ["_law_half_here"] [0] (by with_unfolding_all rfl) (by with_unfolding_all rfl) (by with_unfolding_all rfl) (pi_anyK (K := K) hu (pv 1)) (fun _ _ _ _ => (pg_name (i := 0) (by with_unfolding_all (show (["_law_one", "_law_half_here"] : List Str).Nodup; decide +kernel)) (by with_unfolding_all rfl) (by with_unfolding_all exact Or.inl rfl))) (gk_name (by decide)) (fun _ _ _ _ => pif_nil) (fun _ _ _ _ => (pe_and (pe_callB (call_isinstK (K := K)) (by with_unfolding_all rfl) T.b_isinstance PyProof.Rows.Boot.«isinstance» (pa_cons (pv 0) (pa_cons (pe_bltn (v := .ty "str") (by with_unfolding_all rfl) T.b_str PyProof.Rows.Boot.«str» (by with_unfolding_all rfl)) pa_nil))) (pe_one (pe_cmpR (op_inK (K := K) hq) (pv 0) (pe_ix (ix_anyK (K := K) hu) (pv 1) pe_int (by with_unfolding_all exact fun _ _ => rfl)) (by with_unfolding_all rfl)))))) (by with_unfolding_all rfl)) (pss_one (ps_ret pe_bl)) pss_nil)
      (pss_one (ps_ret (pe_cmpR (op_notInK (K := K) hq) pe_bl (pe_comp ["_law_k"] ["_law_thing", "_law_half_here"] [1, 0] (by with_unfolding_all rfl) (by with_unfolding_all rfl) (by with_unfolding_all rfl) (pi_range2 (by with_unfolding_all rfl) T.b_range (pa_cons pe_int (pa_cons (pe_callB (call_lenK (K := K)) (by with_unfolding_all rfl) T.b_len PyProof.Rows.Boot.«len» (pa_cons (pv 1) pa_nil)) pa_nil))) (fun _ _ _ _ => (pg_name (i := 0) (by with_unfolding_all (show (["_law_k", "_law_thing", "_law_half_here"] : List Str).Nodup; decide +kernel)) (by with_unfolding_all rfl) (by with_unfolding_all exact Or.inl rfl))) (gk_name (by decide)) (fun _ _ _ _ => pif_nil) (fun _ _ _ _ => (pe_cmpR (op_inK (K := K) hq) (pe_ix (ix_anyK (K := K) hu) (pv 1) (pv 0) (by with_unfolding_all exact fun _ _ => rfl)) (pe_fn c__law_behind (hr.mono (by decide)) (by with_unfolding_all rfl) (pa_cons (pv 2) (pa_cons (pe_ix (ix_anyK (K := K) hu) (pv 1) (pe_op op_sub (pv 0) pe_int) (by with_unfolding_all exact fun _ _ => rfl)) pa_nil))) (by with_unfolding_all rfl)))) (by with_unfolding_all rfl)))))), ?_⟩
    walk_at "rd"
    refine isTupD hU ⟨_, rfl, ?_⟩
    cases hTu : tupD D with
    | false =>
      walk_at "rd"
      exact k false H (.refl H) ⟨fun h => (by cases h), fun ⟨row, h, _⟩ => by rw [h] at hTu; cases hTu⟩
    | true =>
      obtain ⟨ds, rfl⟩ : ∃ ds, D = .tuple ds := by cases D <;> first | exact ⟨_, rfl⟩ | cases hTu
      obtain ⟨ua, xs, rfl, hS, hX⟩ := hU.tup
      have hxl := IsL.length hX
      have hE0 : ds.length ≤ w := by
        have := hD.wt
        simp only [PyData.weight] at this
        exact Nat.le_trans (wt_len ds) (by omega)
      walk_at "rd"
      refine len12 hS ?_
      walk_at "rd"
      refine iteD (fun hc => ?_) (fun hc => ?_)
      · walk_at "rd"
        refine k false H (.refl H) ⟨fun h => (by cases h), fun h => absurd ?_ (ch_in h).1⟩
        have : xs.length = 0 := by
          rcases Nat.eq_zero_or_pos xs.length with h | h
          · exact h
          · exact absurd hc (by simp; intro h2; rw [h2] at h; simp at h)
        exact List.eq_nil_of_length_eq_zero (by omega)
      · have hds : ds ≠ [] := by
          rintro rfl
          exact hc (by rw [← hxl]; rfl)
        walk_at "rd"
        refine i_itT hS ?_
        refine comp_bls (K := K) (walk_tup (xs := xs)) ds (by omega) (fun d => inS ns d) (by omega) (fun H' e => e.seqT hS) (fun j d xv H1 R hd hxv e1 hR => ?_) (fun q H1 hq1 e1 h1 => ?_)
        · obtain ⟨d', hd', hId⟩ := IsL.get hX hxv
          rw [hd] at hd'
          cases hd'
          walk_at "rd"
          obtain ⟨m, rfl⟩ : ∃ m, n = m + 1 := ⟨n - 1, by have := hD.dp; simp only [PyData.depth] at this; omega⟩
          obtain ⟨du, hdu⟩ := hD.els.all d (List.mem_of_getElem? hd)
          refine isStrD (Is.mono e1 _ _ hId) ⟨_, rfl, ?_⟩
          cases hs : strD d with
          | false =>
            walk_at "rd"
            have := hR H1 (.refl _)
            rw [inS_not hs] at this
            exact this
          | true =>
            walk_at "rd"
            refine i_ixH0 (hI.hf_fz e1.fz) fun nv hN => ?_
            exact each_in (Is.mono e1 _ _ hId) hdu (by omega) hH.names.2 hN (hR H1 (.refl _))
        · walk_at "rd"
          refine i_inBF h1 ?_
          cases hA : (ds.map fun d => inS ns d).all id with
          | false =>
            walk_at "rd"
            refine k false H1 e1 ⟨fun h => (by cases h), fun h => ?_⟩
            rw [List.all_map] at hA
            rw [← hA, List.all_eq_true]
            exact (ch_in h).2
          | true =>
            rw [List.all_map, List.all_eq_true] at hA
            obtain ⟨row, rfl, hrow⟩ := all_inS hA
            have hU1 : Is K H1 (nmD row) (.ref ua) := Is.mono e1 _ _ hU
            have hl2 : row.length ≤ 500000 := by simp at hE0; omega
            walk_at "rd"
            refine i_lenN hU1 ?_
            walk_at "rd"
            refine i_rngw (by omega) ?_
            refine comp_bls (K := K) walk_range (List.range ((row.length : Nat) - 1 : Int).toNat) (by simp) (fun i => match row[i]?, row[i + 1]? with | some x, some y => wayB ps x y | _, _ => true) (by simp; omega) (fun _ _ => trivial) (fun j j' x H2 R hj' hx e2 hR => ?_) (fun q2 H2 hq2 e2 h2 => ?_)
            · obtain ⟨rfl, hj⟩ := rng_get hx
              have hjj : j' = j := by
                obtain ⟨h2, h3⟩ := List.getElem?_eq_some_iff.mp hj'
                simp at h2 h3
                exact h3.symm
              subst hjj
              have hU2 := hU1.nm_fz e2.fz
              obtain ⟨y, hy1, _, hy3⟩ := str_at? (ls := row) (i := 1 + (j' : Int)) (by omega) (by omega)
              obtain ⟨x, hx1, _, hx3⟩ := str_at? (ls := row) (i := 1 + (j' : Int) - 1) (by omega) (by omega)
              have q1 : (1 + (j' : Int)).toNat = j' + 1 := by omega
              have q2 : (1 + (j' : Int) - 1).toNat = j' := by omega
              rw [q1] at hy1
              rw [q2] at hx1
              walk_at "rd"
              refine i_ixN hU2 hy3 ?_
              walk_at "rd"
              refine i_ixN hU2 hx3 ?_
              walk_at "rd"
              refine ⟨v, x, ns, ps, rfl, hI.hf_fz (e1.fz.trans e2.fz), by omega, hok, hok1 x (hrow x (List.mem_of_getElem? hx1)), fun b fs H3 hb3 e3' h3 hnd hfs => ?_⟩
              refine i_inLN (SqL.of h3) ?_
              rw [wayB_dec (hfs y)]
              have := hR H3 e3'
              simpa only [hx1, hy1] using this
            · walk_at "rd"
              refine i_ninBF h2 ?_
              walk_at "rd"
              refine k _ H2 (e1.trans e2) ?_
              rw [List.all_map, List.all_eq_true]
              constructor
              · intro h
                refine ⟨row, rfl, by simpa using hds, hrow, fun i x y hx hy => ?_⟩
                have hl1 := (List.getElem?_eq_some_iff.mp hy).1
                have := h i (by rw [List.mem_range]; omega)
                simp only [Function.comp, id, hx, hy] at this
                exact wayB_iff.mp this
              · rintro ⟨row', e, _, _, h⟩ i _
                have := nmD_inj (a := row) e
                subst this
                show (match row[i]?, row[i + 1]? with | some x, some y => wayB ps x y | _, _ => true) = true
                cases hx : row[i]? with
                | none => rfl
                | some x =>
                  cases hy : row[i + 1]? with
                  | none => rfl
                  | some y => exact wayB_iff.mpr (h i x y hx hy)
noncomputable def chB (ns : List Str) (ps : List (Str × Str)) (D : PyData) : Bool := @decide (ChD ns ps D) (Classical.propDecidable _)
theorem chB_iff {ns : List Str} {ps : List (Str × Str)} {D : PyData} : chB ns ps D = true ↔ ChD ns ps D := by
  unfold chB
  exact @decide_eq_true_iff (ChD ns ps D) (Classical.propDecidable _)
theorem all_ch {ns : List Str} {ps : List (Str × Str)} : ∀ {ds : List PyData}, (∀ d ∈ ds, ChD ns ps d) → ∃ rows : List (List Str), ds = rows.map nmD ∧ ∀ row ∈ rows, ChR ns ps row
  | [], _ => ⟨[], rfl, fun z h => by cases h⟩
  | d :: ds, h => by
    obtain ⟨r, rfl, hr⟩ := h d (.head _)
    obtain ⟨rows, rfl, hrs⟩ := all_ch fun e he => h e (.tail _ he)
    exact ⟨r :: rows, rfl, fun y hy => (List.mem_cons.mp hy).elim (fun e => e ▸ hr) (hrs y)⟩
noncomputable def sp__law_is_cover (K : PySem.W.Frag) : Sp := fun vs H Q _ => ∃ v u ns ps n w W M o, vs = [v, u] ∧ Is K H (hfD ns ps) v ∧ Half ns ps ∧ ThW K H u n w W M o ∧ n ≤ 60 ∧ w ≤ 500000 ∧ M < 64 ∧ ∀ b H', Same H H' → (b = true ↔ CvO ns ps o) → Q (.bl b) H'
theorem ok__law_is_cover {f : Addr} {fd : FuncData} (F : Fun K "_law_is_cover" "_law_is_cover" s__law_is_cover f fd) (T : TopF mg) (c__law_is_chain : Fnd P w K mg base 2 "_law_is_chain" ["_law_half_here", "_law_thing"] (sp__law_is_chain K)) : FnOk P w K mg base CX0 3 f fd ["_law_half_here", "_law_thing"] (sp__law_is_cover K) := by
  refine F.ok sc__law_is_cover (fun vs H Q E h => ?_) (fun cdv A outer s H vs Q E hr h => ?_)
  · obtain ⟨v, u, ns, ps, n, w, W, M, o, rfl, _⟩ := h
    rfl
  · obtain ⟨v, u, ns, ps, n, w, W, M, o, rfl, hI, hH, hU, hn, hw, hM, k⟩ := h
    have hu := hu_of hr
    have hq := qa_of hr
    have h10 := hH.few
    with_reducible refine ⟨_, (pss_cons (ps_if (PW.pt (pw_or (pt_not (pt_val (pe_callB (call_isinstK (K := K)) (by with_unfolding_all rfl) T.b_isinstance PyProof.Rows.Boot.«isinstance» (pa_cons (pv 1) (pa_cons (pe_bltn (v := .ty "tuple") (by with_unfolding_all rfl) T.b_tuple PyProof.Rows.Boot.«tuple» (by with_unfolding_all rfl)) pa_nil))))) (pw_or1 (pt_cmpR (op_inK (K := K) hq) pe_bl (pe_comp ["_law_one"] ["_law_half_here"] [0] (by with_unfolding_all rfl) (by with_unfolding_all rfl) (by with_unfolding_all rfl) (pi_anyK (K := K) hu (pv 1)) (fun _ _ _ _ => (pg_name (i := 0) (by with_unfolding_all (show (["_law_one", "_law_half_here"] : List Str).Nodup; decide +kernel)) (by with_unfolding_all rfl) (by with_unfolding_all exact Or.inl rfl))) (gk_name (by decide)) (fun _ _ _ _ => pif_nil) (fun _ _ _ _ => (pe_fn c__law_is_chain (hr.mono (by decide)) (by with_unfolding_all rfl) (pa_cons (pv 1) (pa_cons (pv 0) pa_nil))))) (by with_unfolding_all rfl))))) (pss_one (ps_ret pe_bl)) pss_nil)
      (pss_cons (ps_set (i := 2) sc__law_is_cover.nd (by with_unfolding_all rfl) (by with_unfolding_all exact Or.inl rfl) (pe_lst pa_nil))
      (pss_cons (ps_for PassesOwn.never (by with_unfolding_all rfl) (pi_anyK (K := K) hu (pv 1)) (pg_name (i := 3) sc__law_is_cover.nd (by with_unfolding_all rfl) (by with_unfolding_all exact Or.inl rfl))
      (pss_one (ps_expr (pe_bmK (K := K) PySem.F.plainAttrs_list PySem.F.slot_list_extend PySem.F.type_list_extend (mm (mt_extendB (K := K))) (pv 2) (pa_cons (pv 3) pa_nil)))))
      (pss_one (ps_ret (pe_cmpR (op_eqK (K := K) hq) (pe_callB (call_sortedK (K := K)) (by with_unfolding_all rfl) T.b_sorted PyProof.Rows.Boot.«sorted» (pa_cons (pv 2) pa_nil)) (pe_callB (call_sortedK (K := K)) (by with_unfolding_all rfl) T.b_sorted PyProof.Rows.Boot.«sorted» (pa_cons (pe_ix (ix_anyK (K := K) hu) (pv 0) pe_int (by with_unfolding_all exact fun _ _ => rfl)) pa_nil)) (nomark _))))))), ?_⟩
    walk_at "rd"
    refine isTupW hU ⟨_, rfl, ?_⟩
    cases o with
    | none =>
      walk_at "rd"
      exact k false H (.refl H) ⟨fun h => (by cases h), fun h => h.elim⟩
    | some ds =>
      obtain ⟨hU, hD, hlf⟩ := hU
      obtain ⟨ua, xs, rfl, hS, hX⟩ := hU.tup
      have hxl := IsL.length hX
      obtain ⟨m, rfl⟩ : ∃ m, n = m + 1 := ⟨n - 1, by have := hD.dp; simp only [PyData.depth] at this; omega⟩
      have hE := hD.els
      have hwl : ds.length ≤ w := Nat.le_trans (wt_len ds) hE.wt
      rw [show (some ds).isSome = true from rfl]
      walk_at "rd"
      refine i_itT hS ?_
      refine comp_bls (K := K) (walk_tup (xs := xs)) ds (by omega) (fun d => chB ns ps d) (by omega) (fun H' e => e.seqT hS) (fun j d xv H1 R hd hxv e1 hR => ?_) (fun q H1 hq1 e1 h1 => ?_)
      · obtain ⟨d', hd', hId⟩ := IsL.get hX hxv
        rw [hd] at hd'
        cases hd'
        obtain ⟨du, hdu⟩ := hE.all d (List.mem_of_getElem? hd)
        have hwx : d.weight ≤ w := Nat.le_trans (wt_mem (List.mem_of_getElem? hd)) hE.wt
        walk_at "rd"
        refine ⟨v, xv, ns, ps, d, m, w, W, rfl, hI.hf_fz e1.fz, hH, Is.mono e1 _ _ hId, ⟨hdu.asc, hdu.lay, hdu.sh, hdu.lv, hdu.dp, hwx, hdu.wd⟩, by omega, hw, fun b H2 e2 hb => ?_⟩
        have : b = chB ns ps d := Bool.eq_iff_iff.mpr (hb.trans chB_iff.symm)
        rw [this]
        exact hR H2 e2
      · walk_at "rd"
        refine i_inBF h1 ?_
        cases hA : (ds.map fun d => chB ns ps d).all id with
        | false =>
          walk_at "rd"
          refine k false H1 e1 ⟨fun h => (by cases h), fun h => ?_⟩
          rw [List.all_map] at hA
          rw [← hA, List.all_eq_true]
          intro d hd
          obtain ⟨i, hi⟩ := List.mem_iff_getElem?.mp hd
          exact chB_iff.mpr (cv_at h hi)
        | true =>
          rw [List.all_map, List.all_eq_true] at hA
          obtain ⟨rows, rfl, hrows⟩ := all_ch fun d hd => chB_iff.mp (hA d hd)
          rw [lf_rows] at hlf
          have hin : ∀ z ∈ rows.flatten, z ∈ ns := fun z hz => by
            obtain ⟨row, h1, h2⟩ := List.mem_flatten.mp hz
            exact (hrows row h1).2.1 z h2
          walk_at "rd"
          refine i_newL (line_of (by simp)) fun p H2 hp2 e2 h2 => ?_
          walk_at "rd"
          refine i_itT ((e1.trans e2).seqT hS) ?_
          refine for_by (walk_tup (xs := xs)) (fun i σ H3 => ∃ x3, σ = [some v, some (.ref ua), some (.ref p), x3] ∧ Same H1 H3 ∧ H3 p = some (.lst ((rows.take i).flatten.map V.str)))
            ⟨none, rfl, e2, h2⟩ (fun i σ' H' hP => ?_) (fun i x σ' H3 hx hi hP => ?_) (fun σ' H3 hP => ?_)
          · obtain ⟨_, _, e, _⟩ := hP
            exact (e1.trans e).seqT hS
          · obtain ⟨x3, rfl, e3, h3⟩ := hP
            have e13 := e1.trans e3
            obtain ⟨D, hDi, hIx⟩ := IsL.get hX hx
            rw [List.getElem?_map] at hDi
            obtain ⟨row, hri, rfl⟩ := Option.map_eq_some_iff.mp hDi
            obtain ⟨xa, rfl, hSx⟩ := Is.nm (Is.mono e13 _ _ hIx)
            have ht : (rows.take (i + 1)).flatten = (rows.take i).flatten ++ row := by rw [List.take_add_one, hri, List.flatten_append]; simp
            have hsz : (rows.take (i + 1)).flatten.length ≤ M := by
              have := lf_take (rows.map nmD) (i + 1)
              rw [← List.map_take, lf_rows, lf_rows] at this
              omega
            rw [ht, List.length_append] at hsz
            walk_at "rd"
            refine i_extT h3 hSx (by rw [List.length_map, List.length_map]; omega) fun H5 e5 h5 => ?_
            walk_at "rd"
            exact ⟨_, rfl, Same.off (q := p) (H1 := H3) e3 hp2 e5, by rw [h5, ht, List.map_append]⟩
          · obtain ⟨x3, rfl, e3, h3⟩ := hP
            have e13 := e1.trans e3
            rw [← hxl, List.length_map, List.take_length] at h3
            walk_at "rd"
            refine i_sorted (.inl (SqL.of h3)) (by omega) fun p4 m4 H4 hp4 e4 h4 hm4 hs4 => ?_
            walk_at "rd"
            refine i_ixH0 (hI.hf_fz (e13.trans e4).fz) fun nv hN => ?_
            obtain ⟨na, rfl, hSn⟩ := hN.nm
            walk_at "rd"
            refine i_sorted (.inr hSn) (by omega) fun p5 m5 H5 hp5 e5 h5 hm5 hs5 => ?_
            walk_at "rd"
            refine i_eqD (Is.of_lst (SqL.of (e5 _ _ h4)) (is_strs m4)) (Is.of_lst (SqL.of h5) (is_strs m5)) (fine_lst fun z hz => (nm_ok (hH.names.2 z (hin z (hm4.mem_iff.mp hz)))).1) (fine_lst fun z hz => (nm_ok (hH.names.2 z (hm5.mem_iff.mp hz))).1) ?_
            rw [eqv_lsts]
            walk_at "rd"
            refine k _ H5 ((e13.trans e4).trans e5) ((perm_sorted hm4 hs4 hm5 hs5).trans ⟨fun h => ⟨rows, rfl, hrows, h⟩, fun ⟨rows', h1, _, h3⟩ => ?_⟩)
            rw [(List.map_inj_right fun _ _ => nmD_inj).mp h1]
            exact h3
theorem pw_all {ps : List (Str × Str)} (irr : ∀ x, wayB ps x x = false) : ∀ {row : List Str}, row.Pairwise (fun x y => unB ps x y = true) ↔ ∀ x ∈ row, ∀ y ∈ row, wayB ps x y = false
  | [] => ⟨fun _ x h => (by cases h), fun _ => .nil⟩
  | a :: r => by
    rw [List.pairwise_cons, pw_all irr]
    have hun : ∀ x y, unB ps x y = true ↔ wayB ps x y = false ∧ wayB ps y x = false := fun x y => by unfold unB; simp
    constructor
    · rintro ⟨h1, h2⟩ x hx y hy
      rcases List.mem_cons.mp hx with e1 | hx1
      · rcases List.mem_cons.mp hy with e2 | hy1
        · rw [e1, e2]
          exact irr _
        · rw [e1]
          exact ((hun _ _).mp (h1 y hy1)).1
      · rcases List.mem_cons.mp hy with e2 | hy1
        · rw [e2]
          exact ((hun _ _).mp (h1 x hx1)).2
        · exact h2 x hx1 y hy1
    · intro h
      exact ⟨fun y hy => (hun _ _).mpr ⟨h a (.head _) y (.tail _ hy), h y (.tail _ hy) a (.head _)⟩, fun x hx y hy => h x (.tail _ hx) y (.tail _ hy)⟩
theorem bun_in {ns : List Str} {ps : List (Str × Str)} {ds : List PyData} (h : BunO ns ps (some ds)) : ∀ d ∈ ds, inS ns d = true := by
  obtain ⟨row, rfl, h1, _⟩ := h
  intro d hd
  obtain ⟨z, hz, rfl⟩ := List.mem_map.mp hd
  rw [h1] at hz
  exact inS_iff.mpr ⟨z, (List.mem_filter.mp hz).1, rfl⟩
noncomputable def sp__law_is_bunch (K : PySem.W.Frag) : Sp := fun vs H Q _ => ∃ v u ns ps n w W M o, vs = [v, u] ∧ Is K H (hfD ns ps) v ∧ Half ns ps ∧ ThW K H u n w W M o ∧ n ≤ 60 ∧ w ≤ 500000 ∧ ∀ b H', Same H H' → (b = true ↔ BunO ns ps o) → Q (.bl b) H'
theorem ok__law_is_bunch {f : Addr} {fd : FuncData} (F : Fun K "_law_is_bunch" "_law_is_bunch" s__law_is_bunch f fd) (T : TopF mg) (c__law_closed : Fnd P w K mg base 3 "_law_closed" ["_law_half_here"] (sp__law_closed K)) : FnOk P w K mg base CX0 4 f fd ["_law_half_here", "_law_thing"] (sp__law_is_bunch K) := by
  refine F.ok sc__law_is_bunch (fun vs H Q E h => ?_) (fun cdv A outer s H vs Q E hr h => ?_)
  · obtain ⟨v, u, ns, ps, n, w, W, M, o, rfl, _⟩ := h
    rfl
  · obtain ⟨v, u, ns, ps, n, w, W, M, o, rfl, hI, hH, hU, hn, hw, k⟩ := h
    have hu := hu_of hr
    have hq := qa_of hr
    have h10 := hH.few
    have irr : ∀ x, wayB ps x x = false := wayB_irr hH.w
    have hlay := lay_prs (nmP_clP (ps := ps) hH.names)
    with_reducible refine ⟨_, (pss_cons (ps_if (PW.pt (pw_or (pt_not (pt_val (pe_callB (call_isinstK (K := K)) (by with_unfolding_all rfl) T.b_isinstance PyProof.Rows.Boot.«isinstance» (pa_cons (pv 1) (pa_cons (pe_bltn (v := .ty "tuple") (by with_unfolding_all rfl) T.b_tuple PyProof.Rows.Boot.«tuple» (by with_unfolding_all rfl)) pa_nil))))) (pw_or1 (pt_cmpR (op_inK (K := K) hq) pe_bl (pe_comp ["_law_one"] ["_law_half_here"] [0] (by with_unfolding_all rfl) (by with_unfolding_all rfl) (by with_unfolding_all rfl) (pi_anyK (K := K) hu (pv 1)) (fun _ _ _ _ => (pg_name (i := 0) (by with_unfolding_all (show (["_law_one", "_law_half_here"] : List Str).Nodup; decide +kernel)) (by with_unfolding_all rfl) (by with_unfolding_all exact Or.inl rfl))) (gk_name (by decide)) (fun _ _ _ _ => pif_nil) (fun _ _ _ _ => (pe_and (pe_callB (call_isinstK (K := K)) (by with_unfolding_all rfl) T.b_isinstance PyProof.Rows.Boot.«isinstance» (pa_cons (pv 0) (pa_cons (pe_bltn (v := .ty "str") (by with_unfolding_all rfl) T.b_str PyProof.Rows.Boot.«str» (by with_unfolding_all rfl)) pa_nil))) (pe_one (pe_cmpR (op_inK (K := K) hq) (pv 0) (pe_ix (ix_anyK (K := K) hu) (pv 1) pe_int (by with_unfolding_all exact fun _ _ => rfl)) (by with_unfolding_all rfl)))))) (by with_unfolding_all rfl))))) (pss_one (ps_ret pe_bl)) pss_nil)
      (pss_cons (ps_if (pt_cmpR (op_neK (K := K) hq) (pe_callTy (call_listK (K := K)) (by with_unfolding_all rfl) T.b_list PyProof.Rows.Boot.«list» (pa_cons (pv 1) pa_nil)) (pe_comp ["_law_name"] ["_law_thing"] [1] (by with_unfolding_all rfl) (by with_unfolding_all rfl) (by with_unfolding_all rfl) (pi_anyK (K := K) hu (pe_ix (ix_anyK (K := K) hu) (pv 0) pe_int (by with_unfolding_all exact fun _ _ => rfl))) (fun _ _ _ _ => (pg_name (i := 0) (by with_unfolding_all (show (["_law_name", "_law_thing"] : List Str).Nodup; decide +kernel)) (by with_unfolding_all rfl) (by with_unfolding_all exact Or.inl rfl))) (gk_name (by decide)) (fun _ _ _ _ => (pif_one (pt_cmpR (op_inK (K := K) hq) (pv 0) (pv 1) (by with_unfolding_all rfl)))) (fun _ _ _ _ => (pv 0))) (nomark _)) (pss_one (ps_ret pe_bl)) pss_nil)
      (pss_cons (ps_set (i := 2) sc__law_is_bunch.nd (by with_unfolding_all rfl) (by with_unfolding_all exact Or.inr rfl) (pe_fn c__law_closed (hr.mono (by decide)) (by with_unfolding_all rfl) (pa_cons (pv 0) pa_nil)))
      (pss_cons (ps_for PassesOwn.never (by with_unfolding_all rfl) (pi_anyK (K := K) hu (pv 1)) (pg_name (i := 3) sc__law_is_bunch.nd (by with_unfolding_all rfl) (by with_unfolding_all exact Or.inr rfl))
      (pss_one (ps_if (pt_cmpR (op_inK (K := K) hq) pe_bl (pe_comp ["_law_other"] ["_law_one", "_law_told"] [3, 2] (by with_unfolding_all rfl) (by with_unfolding_all rfl) (by with_unfolding_all rfl) (pi_anyK (K := K) hu (pv 1)) (fun _ _ _ _ => (pg_name (i := 0) (by with_unfolding_all (show (["_law_other", "_law_one", "_law_told"] : List Str).Nodup; decide +kernel)) (by with_unfolding_all rfl) (by with_unfolding_all exact Or.inl rfl))) (gk_name (by decide)) (fun _ _ _ _ => pif_nil) (fun _ _ _ _ => (pe_cmpR (op_inK (K := K) hq) (pe_tup (pa_cons (pv 1) (pa_cons (pv 0) pa_nil))) (pv 2) (by with_unfolding_all rfl)))) (by with_unfolding_all rfl)) (pss_one (ps_ret pe_bl)) pss_nil)))
      (pss_one (ps_ret pe_bl)))))), ?_⟩
    walk_at "rd"
    refine isTupW hU ⟨_, rfl, ?_⟩
    cases o with
    | none =>
      walk_at "rd"
      exact k false H (.refl H) ⟨fun h => (by cases h), fun h => h.elim⟩
    | some ds =>
      obtain ⟨hU, hD, hlf⟩ := hU
      obtain ⟨ua, xs, rfl, hS, hX⟩ := hU.tup
      have hxl := IsL.length hX
      obtain ⟨m, rfl⟩ : ∃ m, n = m + 1 := ⟨n - 1, by have := hD.dp; simp only [PyData.depth] at this; omega⟩
      have hE := hD.els
      have hwl : ds.length ≤ w := Nat.le_trans (wt_len ds) hE.wt
      rw [show (some ds).isSome = true from rfl]
      walk_at "rd"
      refine i_itT hS ?_
      refine comp_bls (K := K) (walk_tup (xs := xs)) ds (by omega) (fun d => inS ns d) (by omega) (fun H' e => e.seqT hS) (fun j d xv H1 R hd hxv e1 hR => ?_) (fun q H1 hq1 e1 h1 => ?_)
      · obtain ⟨d', hd', hId⟩ := IsL.get hX hxv
        rw [hd] at hd'
        cases hd'
        walk_at "rd"
        obtain ⟨du, hdu⟩ := hE.all d (List.mem_of_getElem? hd)
        refine isStrD (Is.mono e1 _ _ hId) ⟨_, rfl, ?_⟩
        cases hs : strD d with
        | false =>
          walk_at "rd"
          have := hR H1 (.refl _)
          rw [inS_not hs] at this
          exact this
        | true =>
          walk_at "rd"
          refine i_ixH0 (hI.hf_fz e1.fz) fun nv hN => ?_
          exact each_in (Is.mono e1 _ _ hId) hdu (by omega) hH.names.2 hN (hR H1 (.refl _))
      · walk_at "rd"
        refine i_inBF h1 ?_
        cases hA : (ds.map fun d => inS ns d).all id with
        | false =>
          walk_at "rd"
          refine k false H1 e1 ⟨fun h => (by cases h), fun h => ?_⟩
          rw [List.all_map] at hA
          rw [← hA, List.all_eq_true]
          exact bun_in h
        | true =>
          rw [List.all_map, List.all_eq_true] at hA
          obtain ⟨row, rfl, hrow⟩ := all_inS hA
          have hU1 : Is K H1 (nmD row) (.ref ua) := Is.mono e1 _ _ hU
          obtain ⟨_, eua, hS1⟩ := hU1.nm
          cases eua
          have hokr : ∀ z ∈ row, PyData.strOk z = true := fun z hz => (nm_ok (hH.names.2 z (hrow z hz))).1
          have hl2 : row.length ≤ 500000 := by simp at hwl; omega
          walk_at "rd"
          refine i_listA (.inr hS1) fun q2 H2 hq2 e2 h2 => ?_
          have e12 := e1.trans e2
          walk_at "rd"
          refine i_ixH0 (hI.hf_fz e12.fz) fun nv hN => ?_
          walk_at "rd"
          refine comp_nm hN (fun z => decide (z ∈ row)) PyData.str (fun _ => rfl) (by omega) (fun i z H3 R R' hz e3 hR hR' => ?_) (fun q ys H3 hq3 e3 h3 hL3 => ?_)
          · walk_at "rd"
            refine i_inN (hU1.nm_fz (e2.trans e3).fz) ?_
            cases ht : decide (z ∈ row) with
            | true =>
              walk_at "rd"
              exact hR ht _ H3 (.refl _) is_str
            | false =>
              walk_at "rd"
              exact hR' ht H3 (.refl _)
          · have hfin : ∀ z ∈ ns.filter (fun z => decide (z ∈ row)), PyData.strOk z = true := fun z hz => (nm_ok (hH.names.2 z (List.mem_filter.mp hz).1)).1
            have e13 := e12.trans e3
            walk_at "rd"
            refine i_neD (Is.of_lst (SqL.of (e3 _ _ h2)) (is_strs row)) (Is.of_lst (SqL.of h3) hL3) (fine_lst hokr) (fine_lst hfin) ?_
            rw [eqv_lsts]
            walk_at "rd"
            refine iteND (fun hc => ?_) (fun hc => ?_)
            · walk_at "rd"
              refine k false H3 e13 ⟨fun h => (by cases h), fun ⟨row', h1, h2, _⟩ => ?_⟩
              have := strs_inj h1
              subst this
              exact absurd h2 hc
            · walk_at "rd"
              refine ⟨v, ns, ps, rfl, hI.hf_fz e13.fz, hH, fun c cs H4 hc4 e4 h4 hC => ?_⟩
              walk_at "rd"
              have e14 := e13.trans e4
              have hU4 : Is K H4 (nmD row) (.ref ua) := Is.mono e14 _ _ hU
              refine for_nm hU4 (fun i σ H5 => ∃ x3, σ = [some v, some (.ref ua), some (.ref c), x3] ∧ Same H4 H5 ∧ ∀ x ∈ row.take i, ∀ y ∈ row, wayB ps x y = false)
                ⟨none, rfl, .refl _, fun x h => by cases h⟩ (fun i σ' H' hP => ?_) (fun i z σ' H5 hz hP => ?_) (fun σ' H5 hP => ?_)
              · obtain ⟨_, _, e, _⟩ := hP
                exact e.fz
              · obtain ⟨x3, rfl, e5, hP⟩ := hP
                have hU5 := hU4.nm_fz e5.fz
                obtain ⟨_, eua, hS5⟩ := hU5.nm
                cases eua
                have hzn := hrow z (List.mem_of_getElem? hz)
                walk_at "rd"
                refine i_itT hS5 ?_
                refine comp_bls (K := K) (walk_tup (xs := row.map V.str)) row (by rw [List.length_map]) (fun y => wayB ps z y) (by rw [List.length_map]; omega) (fun H' e => e.seqT hS5) (fun j y xv H6 R hy hxv e6 hR => ?_) (fun q H6 hq6 e6 h6 => ?_)
                · rw [List.getElem?_map, hy] at hxv
                  cases hxv
                  have hyn := hrow y (List.mem_of_getElem? hy)
                  walk_at "rd"
                  refine i_newT (line_of (by simp)) fun t7 H7 ht7 e7 h7 => ?_
                  walk_at "rd"
                  have e47 := (e5.trans e6).trans e7
                  refine i_inX (d := prD (z, y)) (is_pr (SqT.of h7)) (.inl (Is.of_lst (SqL.of (e47 _ _ h4)) (IsL.mono e47 _ _ hC))) hlay (plain_lay _ (pr_facts (p := (z, y)) (hH.names.2 z hzn) (hH.names.2 y hyn)).1) (by simp only [prD, PyData.depth, PyData.depthAll]; omega) ?_
                  rw [any_pr, ninB_cl hzn hyn]
                  exact hR H7 e7
                · walk_at "rd"
                  refine i_inBT h6 ?_
                  cases hB : (row.map fun y => wayB ps z y).any id with
                  | true =>
                    walk_at "rd"
                    refine k false H6 ((e14.trans e5).trans e6) ⟨fun h => (by cases h), fun ⟨row', h1, h2, h3⟩ => ?_⟩
                    have := strs_inj h1
                    subst this
                    rw [List.any_map, List.any_eq_true] at hB
                    obtain ⟨y, hy, hyt⟩ := hB
                    have := (pw_all irr).mp h3 z (List.mem_of_getElem? hz) y hy
                    have hyt : wayB ps z y = true := hyt
                    rw [hyt] at this
                    cases this
                  | false =>
                    walk_at "rd"
                    refine ⟨_, rfl, e5.trans e6, fun x hx y hy => ?_⟩
                    rw [List.take_add_one, hz] at hx
                    rcases List.mem_append.mp hx with hx | hx
                    · exact hP x hx y hy
                    · have : x = z := by simpa using hx
                      subst this
                      rw [List.any_map, List.any_eq_false] at hB
                      simpa using hB y hy
              · obtain ⟨x3, rfl, e5, hP⟩ := hP
                rw [List.take_length] at hP
                walk_at "rd"
                exact k true H5 (e14.trans e5) ⟨fun _ => ⟨row, rfl, hc, (pw_all irr).mpr hP⟩, fun _ => rfl⟩
noncomputable def sp__law_layers (K : PySem.W.Frag) : Sp := fun vs H Q _ => ∃ v ns ps, vs = [v] ∧ Is K H (hfD ns ps) v ∧ Half ns ps ∧ ∀ u H' Ls, Same H H' → Lays ps ns Ls → Is K H' (lsD Ls) u → Q u H'
theorem ok__law_layers {f : Addr} {fd : FuncData} (F : Fun K "_law_layers" "_law_layers" s__law_layers f fd) (T : TopF mg) (c__law_table : Fnd P w K mg base 2 "_law_table" ["_law_half_here"] (sp__law_table K)) : FnOk P w K mg base CX0 3 f fd ["_law_half_here"] (sp__law_layers K) := by
  refine F.ok sc__law_layers (fun vs H Q E h => ?_) (fun cdv A outer s H vs Q E hr h => ?_)
  · obtain ⟨v, ns, ps, rfl, _⟩ := h
    rfl
  · obtain ⟨v, ns, ps, rfl, hI, hH, k⟩ := h
    have hu := hu_of hr
    have hq := qa_of hr
    have hfew := hH.few
    have hW := hH.w
    have hok1 : ∀ z ∈ ns, PyData.strOk z = true := fun z hz => (nm_ok (hH.names.2 z hz)).1
    with_reducible refine ⟨_, (pss_cons (ps_set (i := 1) sc__law_layers.nd (by with_unfolding_all rfl) (by with_unfolding_all exact Or.inl rfl) (pe_fn c__law_table (hr.mono (by decide)) (by with_unfolding_all rfl) (pa_cons (pv 0) pa_nil)))
      (pss_cons (ps_set (i := 2) sc__law_layers.nd (by with_unfolding_all rfl) (by with_unfolding_all exact Or.inl rfl) (pe_callTy (call_listK (K := K)) (by with_unfolding_all rfl) T.b_list PyProof.Rows.Boot.«list» (pa_cons (pe_ix (ix_anyK (K := K) hu) (pv 0) pe_int (by with_unfolding_all exact fun _ _ => rfl)) pa_nil)))
      (pss_cons (ps_set (i := 3) sc__law_layers.nd (by with_unfolding_all rfl) (by with_unfolding_all exact Or.inl rfl) (pe_lst pa_nil))
      (pss_cons (ps_while PassesOwn.never (pt_cmpR (op_neK (K := K) hq) (pv 2) (pe_lst pa_nil) (nomark _))
      (pss_cons (ps_set (i := 4) sc__law_layers.nd (by with_unfolding_all rfl) (by with_unfolding_all exact Or.inr rfl) (pe_lst pa_nil))
      (pss_cons (ps_for PassesOwn.never (by with_unfolding_all rfl) (pi_anyK (K := K) hu (pv 2)) (pg_name (i := 5) sc__law_layers.nd (by with_unfolding_all rfl) (by with_unfolding_all exact Or.inl rfl))
      (pss_one (ps_expr (pe_bmK (K := K) PySem.F.plainAttrs_list PySem.F.slot_list_extend PySem.F.type_list_extend (mm mt_extend) (pv 4) (pa_cons (pe_ix (ix_anyK (K := K) hu) (pv 1) (pv 5) (by with_unfolding_all exact fun _ _ => rfl)) pa_nil)))))
      (pss_cons (ps_expr (pe_bmK (K := K) PySem.F.plainAttrs_list PySem.F.slot_list_append PySem.F.type_list_append (mm mt_append) (pv 3) (pa_cons (pe_callTy (call_tupleK (K := K)) (by with_unfolding_all rfl) T.b_tuple PyProof.Rows.Boot.«tuple» (pa_cons (pe_comp ["_law_name"] ["_law_ahead"] [4] (by with_unfolding_all rfl) (by with_unfolding_all rfl) (by with_unfolding_all rfl) (pi_anyK (K := K) hu (pv 2)) (fun _ _ _ _ => (pg_name (i := 0) (by with_unfolding_all (show (["_law_name", "_law_ahead"] : List Str).Nodup; decide +kernel)) (by with_unfolding_all rfl) (by with_unfolding_all exact Or.inl rfl))) (gk_name (by decide)) (fun _ _ _ _ => (pif_one (pt_cmpR (op_notInK (K := K) hq) (pv 0) (pv 1) (by with_unfolding_all rfl)))) (fun _ _ _ _ => (pv 0))) pa_nil)) pa_nil)))
      (pss_one (ps_setcomp (i := 2) ["_law_name"] ["_law_ahead"] [4] (by with_unfolding_all rfl) (by with_unfolding_all rfl) (by with_unfolding_all rfl) sc__law_layers.nd (by with_unfolding_all rfl) (by with_unfolding_all rfl) (pi_anyK (K := K) hu (pv 2)) (fun _ _ _ _ => (pg_name (i := 0) (by with_unfolding_all (show (["_law_name", "_law_ahead"] : List Str).Nodup; decide +kernel)) (by with_unfolding_all rfl) (by with_unfolding_all exact Or.inl rfl))) (gk_name (by decide)) (fun _ _ _ _ => (pif_one (pt_cmpR (op_inK (K := K) hq) (pv 0) (pv 1) (by with_unfolding_all rfl)))) (fun _ _ _ _ => (pv 0))))))))
      (pss_one (ps_ret (pe_callTy (call_tupleK (K := K)) (by with_unfolding_all rfl) T.b_tuple PyProof.Rows.Boot.«tuple» (pa_cons (pv 3) pa_nil)))))))), ?_⟩
    walk_at "rd"
    refine ⟨v, ns, ps, rfl, hI, hH, fun r as H1 hr1 e1 hT => ?_⟩
    walk_at "rd"
    refine i_ixH0 (hI.hf_fz e1.fz) fun nv hN => ?_
    obtain ⟨na, rfl, hS⟩ := hN.nm
    walk_at "rd"
    refine i_listA (.inr hS) fun l2 H2 hl2 e2 h2 => ?_
    walk_at "rd"
    refine i_newL (by decide) fun p H3 hp3 e3 h3 => ?_
    walk_at "rd"
    have hp1 : H1 p = none := e2.free hp3
    refine i_while (fun m σ H4 => ∃ l ls x4 x5 Ls ys, σ = [some v, some (.ref r), some (.ref l), some (.ref p), x4, x5] ∧ Same H1 H4 ∧ H4 l = some (.lst (ls.map V.str)) ∧ H4 p = some (.lst ys) ∧ l ≠ p ∧ IsL K H4 (Ls.map nmD) ys ∧ Ls.length + ls.length ≤ ns.length ∧ (∀ z ∈ ls, z ∈ ns) ∧ (∀ Ms, Lays ps ls Ms → Lays ps ns (Ls ++ Ms)) ∧ m = ls.length)
      ns.length ⟨l2, ns, none, none, [], [], rfl, by walk_at "sm", by walk_at "lk", h3, ne_of_none h2 hp3, .nil, by simp, fun _ h => h, fun _ h => h, rfl⟩ fun m σ H4 hP => ?_
    obtain ⟨l, ls, x4, x5, Ls, ys, rfl, e4, h4l, h4p, hlp, hL4, hlen, hsub, hlay, rfl⟩ := hP
    walk_at "rd"
    refine i_newL (by decide) fun t5 H5 ht5 e5 h5 => ?_
    refine i_neD (dx := .list (ls.map PyData.str)) (dy := .list []) (Is.of_lst (SqL.of (e5 _ _ h4l)) (is_strs ls)) (Is.of_lst (SqL.of h5) .nil) (fine_lst fun z hz => hok1 z (hsub z hz)) (by rfl) ?_
    rw [eqv_nil_strs]
    walk_at "rd"
    have hly : ys.length = Ls.length := by rw [← IsL.length hL4, List.length_map]
    refine iteNB (fun hE => ?_) (fun hE => ?_)
    · have hne : ls ≠ [] := by
        intro e
        subst e
        cases hE
      refine i_turn ?_
      walk_at "rd"
      refine i_newL (by decide) fun b6 H6 hb6 e6 h6 => ?_
      have e46 := e5.trans e6
      have h6l := e46 _ _ h4l
      walk_at "rd"
      refine i_itL (SqL.of h6l) ?_
      have hlb : l ≠ b6 := ne_of_none (e5 _ _ h4l) hb6
      have hpb : p ≠ b6 := ne_of_none (e5 _ _ h4p) hb6
      refine for_by (walk_list (xs := ls.map V.str)) (fun i σ H7 => ∃ x5 ah, σ = [some v, some (.ref r), some (.ref l), some (.ref p), some (.ref b6), x5] ∧ Same H5 H7 ∧ H7 b6 = some (.lst (ah.map V.str)) ∧ ah.length ≤ i * 10 ∧ ∀ y, y ∈ ah ↔ ∃ z ∈ ls.take i, Way ps z y)
        ⟨_, [], rfl, e6, h6, by simp, fun y => by simp⟩ (fun i σ' H' hP => ?_) (fun i x σ' H7 hx hi hP => ?_) (fun σ' H7 hP => ?_)
      · obtain ⟨_, _, _, e, _⟩ := hP
        exact SqL.of (e _ _ (e5 _ _ h4l))
      · obtain ⟨x5', ah, rfl, e7, h7, hal, hah⟩ := hP
        rw [List.getElem?_map] at hx
        cases hz : ls[i]? with
        | none => rw [hz] at hx; cases hx
        | some z =>
          rw [hz] at hx
          cases hx
          have hil : i < ls.length := (List.getElem?_eq_some_iff.mp hz).1
          have hT7 := hT.same ((e4.trans e5).trans e7)
          obtain ⟨i2, a2, hi2, ha2⟩ := hT7.at (hsub z (List.mem_of_getElem? hz))
          obtain ⟨ms, hm1, hm2, hm3⟩ := hT7.row i2 z a2 hi2 ha2
          have hml : ms.length ≤ ns.length := nodup_le hm2 fun y hy => (hH.way_mem ((hm3 y).mp hy)).2
          walk_at "rd"
          refine i_tabL hT7 hH.names.1 hi2 ha2 ?_
          walk_at "rd"
          refine i_extR h7 hm1 (by rw [List.length_map, List.length_map]; omega) fun H8 e8 h8 => ?_
          walk_at "rd"
          refine ⟨_, ah ++ ms, rfl, ?_, by rw [h8, List.map_append], by rw [List.length_append]; omega, fun y => ?_⟩
          · exact Same.off (q := b6) (H1 := H7) e7 hb6 e8
          · rw [List.mem_append, hah, hm3, List.take_add_one, hz]
            constructor
            · rintro (⟨z', h1, h2⟩ | h)
              · exact ⟨z', List.mem_append_left _ h1, h2⟩
              · exact ⟨z, by simp, h⟩
            · rintro ⟨z', h1, h2⟩
              rcases List.mem_append.mp h1 with h1 | h1
              · exact .inl ⟨z', h1, h2⟩
              · have : z' = z := by simpa using h1
                subst this
                exact .inr h2
      · obtain ⟨x5', ah, rfl, e7, h7, hal, hah⟩ := hP
        rw [List.length_map, List.take_length] at hah
        obtain ⟨fl, fr⟩ := lay_ahead hah
        have h7l := e7 _ _ (e5 _ _ h4l)
        walk_at "rd"
        refine comp_lnm (SqL.of h7l) (fun x => !decide (x ∈ ah)) PyData.str (fun _ => rfl) (by omega) (fun i x H8 R R' hx e8 hR hR' => ?_) (fun q8 zs8 H8 hq8 e8 h8 hL8 => ?_)
        · walk_at "rd"
          refine i_ninLN (SqL.of (e8 _ _ h7)) ?_
          walk_at "rd"
          refine iteNB (fun hb => ?_) (fun hb => ?_)
          · walk_at "rd"
            exact hR (by rw [hb]; rfl) _ _ (Same.refl _) is_str
          · exact hR' (by rw [hb]; rfl) _ (Same.refl _)
        · rw [fl] at hL8
          have hzs := IsL.str_eq hL8
          subst hzs
          walk_at "rd"
          refine i_tupleL (SqL.of h8) fun t9 H9 ht9 e9 h9 => ?_
          have hN9 : Is K H9 (nmD (layF ps ls)) (.ref t9) := is_nm (SqT.of h9)
          walk_at "rd"
          have e49 : Same H4 H9 := ((e5.trans e7).trans e8).trans e9
          have h9p := e49 _ _ h4p
          refine i_appR h9p (by omega) fun H10 e10 h10 => ?_
          have fz10 := e10.fzL h9p
          have h10l : H10 l = some (.lst (ls.map V.str)) := e10 _ _ hlp (e49 _ _ h4l)
          have h10b : H10 b6 = some (.lst (ah.map V.str)) := e10 _ _ (Ne.symm hpb) (e9 _ _ (e8 _ _ h7))
          walk_at "rd"
          refine comp_lnm (SqL.of h10l) (fun x => decide (x ∈ ah)) PyData.str (fun _ => rfl) (by omega) (fun i x H11 R R' hx e11 hR hR' => ?_) (fun q11 zs11 H11 hq11 e11 h11 hL11 => ?_)
          · walk_at "rd"
            refine i_inLN (SqL.of (e11 _ _ h10b)) ?_
            walk_at "rd"
            refine iteB (fun hb => ?_) (fun hb => ?_)
            · walk_at "rd"
              exact hR hb _ _ (Same.refl _) is_str
            · exact hR' hb _ (Same.refl _)
          · rw [fr] at hL11
            have hzs := IsL.str_eq hL11
            subst hzs
            walk_at "rd"
            have hlt := res_lt hW.irr hne
            refine ⟨_, hlt, q11, resF ps ls, _, _, Ls ++ [layF ps ls], _, rfl, ?_, h11, e11 _ _ h10, ne_of_none h10 hq11 |>.symm, ?_, ?_, fun z hz => hsub z (mem_resF.mp hz).1, fun Ms hMs => ?_, rfl⟩
            · exact Same.trans (Same.off (q := p) (H1 := H9) (e4.trans e49) hp1 e10) e11
            · rw [List.map_append]
              exact IsL.mono e11 _ _ (IsL.append (IsL.fz (e49.fz.trans fz10) _ _ (frzL_nms _) hL4) (.one (hN9.nm_fz fz10)))
            · rw [List.length_append, List.length_singleton]
              omega
            · rw [List.append_assoc]
              exact hlay _ (.cons hne hMs)
    · have hne : ls = [] := by
        cases ls with
        | nil => rfl
        | cons z zs => cases hE
      subst hne
      walk_at "rd"
      have := hlay [] .nil
      rw [List.append_nil] at this
      exact i_tupLs (e5 _ _ h4p) (IsL.mono e5 _ _ hL4) fun u H6 e6 hu6 => k u H6 Ls (((e1.trans e4).trans e5).trans e6) this hu6
theorem len_two {α : Type} (p : α → Bool) : ∀ l : List α, (l.filter fun x => !p x).length + (l.filter p).length = l.length
  | [] => rfl
  | a :: l => by
    have := len_two p l
    cases h : p a <;> simp [h] <;> omega
theorem lays_flat {ps : List (Str × Str)} {l : List Str} {Ls : List (List Str)} (h : Lays ps l Ls) : Ls.flatten.length ≤ l.length := by
  induction h with
  | nil => simp
  | @cons l Ls n _ ih =>
    rw [List.flatten_cons, List.length_append]
    have : (layF ps l).length + (resF ps l).length = l.length := len_two (fun x => l.any fun y => wayB ps y x) l
    omega
structure RwO (ns : List Str) (rows : List (List Str)) (c : Nat) : Prop where
  ne : ∀ r ∈ rows, r ≠ []
  mem : ∀ r ∈ rows, ∀ z ∈ r, z ∈ ns
  few : rows.flatten.length ≤ c
  len : rows.length ≤ c
theorem flat_set {α : Type} : ∀ {rows : List (List α)} {k : Nat} {r : List α} {z : α}, rows[k]? = some r → (rows.set k (r ++ [z])).flatten.length = rows.flatten.length + 1
  | [], _, _, _, h => by simp at h
  | a :: rows, 0, r, z, h => by
    have : a = r := by simpa using h
    subst this
    simp
    omega
  | a :: rows, k + 1, r, z, h => by
    have := flat_set (rows := rows) (k := k) (r := r) (z := z) (by simpa using h)
    simp only [List.set_cons_succ, List.flatten_cons, List.length_append]
    omega
theorem RwO.put {ns : List Str} {rows : List (List Str)} {c k : Nat} {r : List Str} {z : Str} (h : RwO ns rows c) (hk : rows[k]? = some r) (hz : z ∈ ns) : RwO ns (rows.set k (r ++ [z])) (c + 1) := by
  have hr := List.mem_of_getElem? hk
  refine ⟨fun y hy => ?_, fun y hy x hx => ?_, ?_, ?_⟩
  · rcases List.mem_or_eq_of_mem_set hy with hy | rfl
    · exact h.ne y hy
    · simp
  · rcases List.mem_or_eq_of_mem_set hy with hy | rfl
    · exact h.mem y hy x hx
    · rcases List.mem_append.mp hx with hx | hx
      · exact h.mem r hr x hx
      · rw [List.mem_singleton.mp hx]
        exact hz
  · rw [flat_set hk]
    have := h.few
    omega
  · rw [List.length_set]
    have := h.len
    omega
theorem RwO.ins {ns : List Str} {rows : List (List Str)} {c k : Nat} {z : Str} (h : RwO ns rows c) (hz : z ∈ ns) : RwO ns (rows.take k ++ [z] :: rows.drop k) (c + 1) := by
  have hm : ∀ y ∈ rows.take k ++ [z] :: rows.drop k, y ∈ rows ∨ y = [z] := fun y hy => by
    rcases List.mem_append.mp hy with hy | hy
    · exact .inl (List.mem_of_mem_take hy)
    · rcases List.mem_cons.mp hy with hy | hy
      · exact .inr hy
      · exact .inl (List.mem_of_mem_drop hy)
  refine ⟨fun y hy => ?_, fun y hy x hx => ?_, ?_, ?_⟩
  · rcases hm y hy with hy | rfl
    · exact h.ne y hy
    · simp
  · rcases hm y hy with hy | rfl
    · exact h.mem y hy x hx
    · rw [List.mem_singleton.mp hx]
      exact hz
  · have e : rows.flatten.length = (rows.take k).flatten.length + (rows.drop k).flatten.length := by
      rw [← List.length_append, ← List.flatten_append, List.take_append_drop]
    have := h.few
    rw [List.flatten_append, List.length_append, List.flatten_cons, List.length_append, List.length_singleton]
    omega
  · have := h.len
    rw [List.length_append, List.length_cons, List.length_take, List.length_drop]
    omega
noncomputable def ableB (ps : List (Str × Str)) (rows : List (List Str)) (z : Str) (k : Nat) : Bool := match rows[k]? with
  | some r => match r.getLast? with
    | some y => wayB ps y z
    | none => false
  | none => false
theorem eqv_nil_l (ds : List PyData) : PyData.eqv (.list ds) (.list []) = ds.isEmpty := by
  cases ds <;> simp [PyData.eqv, PyData.eqvAll]
theorem ints_eq {K : PySem.W.Frag} {H : Hp} : ∀ {ks : List Nat} {ys : List V}, IsL K H (ks.map fun (k : Nat) => PyData.int (k : Int)) ys → ys = ks.map fun (k : Nat) => V.int (k : Int)
  | [], ys, h => by simp only [List.map_nil, L2.IsL] at h; exact h
  | k :: ks, ys, h => by
    simp only [List.map_cons, L2.IsL] at h
    obtain ⟨v, r, rfl, h1, h2⟩ := h
    simp only [L2.Is] at h1
    subst h1
    rw [ints_eq h2]
    rfl
theorem isL_insN {K : PySem.W.Frag} {H : Hp} {rows : List (List Str)} {xs : List V} {r : List Str} {v : V} (n : Nat) (h : IsL K H (rows.map nmD) xs) (hv : Is K H (nmD r) v) : IsL K H ((rows.take n ++ r :: rows.drop n).map nmD) (insL xs n v) := by
  rw [List.map_append, List.map_cons, List.map_take, List.map_drop]
  exact (IsL.take n h).append (.cons hv (IsL.drop n h))
theorem isL_set {K : PySem.W.Frag} {H : Hp} : ∀ {ds : List PyData} {xs : List V} {k : Nat} {d : PyData} {v : V}, IsL K H ds xs → Is K H d v → IsL K H (ds.set k d) (xs.set k v)
  | [], xs, k, d, v, h, _ => by simp only [L2.IsL] at h; subst h; exact .nil
  | e :: ds, xs, k, d, v, h, hv => by
    simp only [L2.IsL] at h
    obtain ⟨w, r, rfl, h1, h2⟩ := h
    cases k with
    | zero => exact .cons hv h2
    | succ k => exact .cons h1 (isL_set h2 hv)
noncomputable def sp__law_some_cover (K : PySem.W.Frag) : Sp := fun vs H Q _ => ∃ d l v ns ps, vs = [.ref d, v] ∧ Feed H d l ∧ Is K H (hfD ns ps) v ∧ Half ns ps ∧ ∀ u rows H', ExtBut d H H' → Feed H' d l → Is K H' (lsD rows) u → RwO ns rows 10 → Q u H'
theorem ok__law_some_cover {f : Addr} {fd : FuncData} (F : Fun K "_law_some_cover" "_law_some_cover" s__law_some_cover f fd) (T : TopF mg) (c__law_draw : Fnd P w K mg base 1 "_law_draw" ["_law_feed_here", "_law_many"] (sp__law_draw K)) (c__law_behind : Fnd P w K mg base 1 "_law_behind" ["_law_half_here", "_law_name"] (sp__law_behind K)) (c__law_layers : Fnd P w K mg base 3 "_law_layers" ["_law_half_here"] (sp__law_layers K)) : FnOk P w K mg base CX0 4 f fd ["_law_feed_here", "_law_half_here"] (sp__law_some_cover K) := by
  refine F.ok sc__law_some_cover (fun vs H Q E h => ?_) (fun cdv A outer s H vs Q E hr h => ?_)
  · obtain ⟨d, l, v, ns, ps, rfl, _⟩ := h
    rfl
  · obtain ⟨d, l, v, ns, ps, rfl, hF, hI, hH, k⟩ := h
    have hu := hu_of hr
    have hq := qa_of hr
    have h10 := hH.few
    have hle := hH.le
    have hok : OkP ps := okP_of hH.nmP
    with_reducible refine ⟨_, (pss_cons (ps_set (i := 2) sc__law_some_cover.nd (by with_unfolding_all rfl) (by with_unfolding_all exact Or.inr rfl) (pe_lst pa_nil))
      (pss_cons (ps_for PassesOwn.never (by with_unfolding_all rfl) (pi_anyK (K := K) hu (pe_fn c__law_layers (hr.mono (by decide)) (by with_unfolding_all rfl) (pa_cons (pv 1) pa_nil))) (pg_name (i := 3) sc__law_some_cover.nd (by with_unfolding_all rfl) (by with_unfolding_all exact Or.inl rfl))
      (pss_one (ps_for PassesOwn.never (by with_unfolding_all rfl) (pi_anyK (K := K) hu (pv 3)) (pg_name (i := 4) sc__law_some_cover.nd (by with_unfolding_all rfl) (by with_unfolding_all exact Or.inr rfl))
      (pss_cons (ps_setcomp (i := 5) ["_law_k"] ["_law_name", "_law_half_here", "_law_found"] [4, 1, 2] (by with_unfolding_all rfl) (by with_unfolding_all rfl) (by with_unfolding_all rfl) sc__law_some_cover.nd (by with_unfolding_all rfl) (by with_unfolding_all rfl) (pi_range1 (by with_unfolding_all rfl) T.b_range (pa_cons (pe_callB (call_lenK (K := K)) (by with_unfolding_all rfl) T.b_len PyProof.Rows.Boot.«len» (pa_cons (pv 2) pa_nil)) pa_nil)) (fun _ _ _ _ => (pg_name (i := 0) (by with_unfolding_all (show (["_law_k", "_law_name", "_law_half_here", "_law_found"] : List Str).Nodup; decide +kernel)) (by with_unfolding_all rfl) (by with_unfolding_all exact Or.inl rfl))) (gk_name (by decide)) (fun _ _ _ _ => (pif_one (pt_cmpR (op_inK (K := K) hq) (pv 1) (pe_fn c__law_behind (hr.mono (by decide)) (by with_unfolding_all rfl) (pa_cons (pv 2) (pa_cons (pe_ix (ix_anyK (K := K) hu) (pe_ix (ix_anyK (K := K) hu) (pv 3) (pv 0) (by with_unfolding_all exact fun _ _ => rfl)) (pe_un un_neg pe_int) (by with_unfolding_all exact fun _ _ => rfl)) pa_nil))) (by with_unfolding_all rfl)))) (fun _ _ _ _ => (pv 0)))
      (pss_one (ps_if (PW.pt (pw_and (pt_cmpR (op_neK (K := K) hq) (pv 5) (pe_lst pa_nil) (nomark _)) (pw_and1 (pt_cmpR op_gt (pe_fn c__law_draw (hr.mono (by decide)) (by with_unfolding_all rfl) (pa_cons (pv 0) (pa_cons pe_int pa_nil))) pe_int (nomark _))))) (pss_cons (ps_set (i := 6) sc__law_some_cover.nd (by with_unfolding_all rfl) (by with_unfolding_all exact Or.inl rfl) (pe_ix (ix_anyK (K := K) hu) (pv 5) (pe_fn c__law_draw (hr.mono (by decide)) (by with_unfolding_all rfl) (pa_cons (pv 0) (pa_cons (pe_callB (call_lenK (K := K)) (by with_unfolding_all rfl) T.b_len PyProof.Rows.Boot.«len» (pa_cons (pv 5) pa_nil)) pa_nil))) (by with_unfolding_all exact fun _ _ => rfl)))
      (pss_one (ps_asg (pe_op (op_addK (K := K)) (pe_ix (ix_anyK (K := K) hu) (pv 2) (pv 6) (by with_unfolding_all exact fun _ _ => rfl)) (pe_tup (pa_cons (pv 4) pa_nil))) (pg_sub (pv 2) (pv 6) set_list)))) (pss_one (ps_expr (pe_bmK (K := K) PySem.F.plainAttrs_list PySem.F.slot_list_insert PySem.F.type_list_insert (mm mt_insert) (pv 2) (pa_cons (pe_fn c__law_draw (hr.mono (by decide)) (by with_unfolding_all rfl) (pa_cons (pv 0) (pa_cons (pe_op (op_addK (K := K)) (pe_callB (call_lenK (K := K)) (by with_unfolding_all rfl) T.b_len PyProof.Rows.Boot.«len» (pa_cons (pv 2) pa_nil)) pe_int) pa_nil))) (pa_cons (pe_tup (pa_cons (pv 4) pa_nil)) pa_nil)))))))))))
      (pss_one (ps_ret (pe_callTy (call_tupleK (K := K)) (by with_unfolding_all rfl) T.b_tuple PyProof.Rows.Boot.«tuple» (pa_cons (pv 2) pa_nil)))))), ?_⟩
    walk_at "rd"
    refine i_newL (by decide) fun p H1 hp1 e1 h1 => ?_
    have hF1 : Feed H1 d l := hF.same e1
    have hpd : p ≠ d := Ne.symm (hF.nd hp1)
    walk_at "rd"
    refine ⟨v, ns, ps, rfl, hI.hf_fz e1.fz, hH, fun u H2 Ls e2 hLs hU => ?_⟩
    have hflat := lays_flat hLs
    have hLm := hLs.mem
    refine for_is hU (frzL_nms Ls) (fun i σ H3 => ∃ x3 x4 x5 x6 rows ys, σ = [some (V.ref d), some v, some (.ref p), x3, x4, x5, x6] ∧ ExtBut d H H3 ∧ Feed H3 d l ∧ Fz H2 H3 ∧ H3 p = some (.lst ys) ∧ IsL K H3 (rows.map nmD) ys ∧ RwO ns rows (Ls.take i).flatten.length)
      ⟨_, _, _, _, [], [], rfl, (ExtBut.after e1 .refl).same e2, hF1.same e2, .refl _, e2 _ _ h1, .nil, ⟨fun r h => (by cases h), fun r h => (by cases h), by simp, by simp⟩⟩ (fun i σ' H' hP => ?_) (fun i D y σ' H3 hD hy hP => ?_) (fun σ' H3 hP => ?_)
    · obtain ⟨_, _, _, _, _, _, _, _, _, fz, _⟩ := hP
      exact fz
    · obtain ⟨x3, x4, x5, x6, rows, ys, rfl, e3, hF3, fz3, h3p, hL3, hR3⟩ := hP
      rw [List.getElem?_map] at hD
      obtain ⟨L, hL, rfl⟩ := Option.map_eq_some_iff.mp hD
      have hLin := hLm L (List.mem_of_getElem? hL)
      have htk : (Ls.take (i + 1)).flatten.length = (Ls.take i).flatten.length + L.length := by
        rw [List.take_add_one, hL, List.flatten_append, List.length_append]
        simp
      have htl : (Ls.take (i + 1)).flatten.length ≤ ns.length := by
        refine Nat.le_trans ?_ hflat
        conv => rhs; rw [← List.take_append_drop (i + 1) Ls, List.flatten_append, List.length_append]
        omega
      walk_at "rd"
      refine for_nm hy (fun j σ H4 => ∃ x4 x5 x6 rows ys, σ = [some (V.ref d), some v, some (.ref p), some y, x4, x5, x6] ∧ ExtBut d H H4 ∧ Feed H4 d l ∧ Fz H3 H4 ∧ H4 p = some (.lst ys) ∧ IsL K H4 (rows.map nmD) ys ∧ RwO ns rows ((Ls.take i).flatten.length + j))
        ⟨_, _, _, rows, ys, rfl, e3, hF3, .refl _, h3p, hL3, hR3⟩ (fun j σ' H' hP => ?_) (fun j z σ' H4 hz hP => ?_) (fun σ' H4 hP => ?_)
      · obtain ⟨_, _, _, _, _, _, _, _, fz, _⟩ := hP
        exact fz
      · obtain ⟨x4, x5, x6, rows, ys, rfl, e4, hF4, fz4, h4p, hL4, hR4⟩ := hP
        have hjl : j < L.length := (List.getElem?_eq_some_iff.mp hz).1
        have hzn : z ∈ ns := hLin.2 z (List.mem_of_getElem? hz)
        have hrl := hR4.len
        have hyl : ys.length = rows.length := by rw [← IsL.length hL4, List.length_map]
        have hI4 : Is K H4 (hfD ns ps) v := hI.hf_fz (((e1.trans e2).fz.trans fz3).trans fz4)
        walk_at "rd"
        refine i_rngv (by omega) ?_
        refine comp_dat (K := K) (walk_range (lo := 0) (n := ((ys.length : Nat) : Int).toNat)) (List.range ys.length) (by simp) (ableB ps rows z) (fun k => .int (k : Int)) (fun _ => rfl) (by simp; omega) (fun _ _ => trivial) (fun m m' x H5 R R' hm' hx e5 hR hR' => ?_) (fun q zs H5 hq5 e5 h5 hL5 => ?_)
        · obtain ⟨hmm, rfl⟩ : m < ys.length ∧ m' = m := by
            obtain ⟨h2, h3⟩ := List.getElem?_eq_some_iff.mp hm'
            simp at h2 h3
            exact ⟨h2, h3.symm⟩
          obtain ⟨rfl, hm2⟩ := rng_get hx
          have hg := List.getElem?_eq_getElem hmm
          generalize ys[m']'hmm = yv at hg
          obtain ⟨Dy, hDy, hIy⟩ := IsL.get hL4 hg
          rw [List.getElem?_map] at hDy
          obtain ⟨r, hri, rfl⟩ := Option.map_eq_some_iff.mp hDy
          have hne := hR4.ne r (List.mem_of_getElem? hri)
          obtain ⟨r0, w0, rfl⟩ : ∃ r0 w0, r = r0 ++ [w0] := ⟨r.dropLast, r.getLast hne, (List.dropLast_concat_getLast hne).symm⟩
          have hw0 : w0 ∈ ns := hR4.mem _ (List.mem_of_getElem? hri) w0 (by simp)
          have hab : ableB ps rows z m' = wayB ps w0 z := by
            unfold ableB
            rw [hri]
            simp
          walk_at "rd"
          refine i_ixL (e5 _ _ h4p) (show atI ys (0 + (m' : Int)) = some yv from by have := atI_nat hg; rwa [Int.zero_add]) ?_
          walk_at "rd"
          refine i_ixN (Is.mono e5 _ _ hIy) (atI_last r0 w0) ?_
          walk_at "rd"
          refine ⟨v, w0, ns, ps, rfl, hI4.hf_fz e5.fz, by omega, hok, (nm_ok (hH.names.2 w0 hw0)).1, fun b fs H6 hb6 e6 h6 hnd hfs => ?_⟩
          walk_at "rd"
          refine i_inLN (SqL.of h6) ?_
          rw [wayB_dec (hfs z), ← hab]
          walk_at "rd"
          refine ite2 (fun hb => ?_) (fun hb => ?_)
          · walk_at "rd"
            exact hR hb _ _ e6 (by rw [Int.zero_add]; exact is_int)
          · walk_at "rd"
            exact hR' (Bool.eq_false_iff.mpr hb) _ e6
        · have hzs := ints_eq hL5
          generalize hks : (List.range ys.length).filter (ableB ps rows z) = ks at hzs hL5
          have hkm : ∀ m ∈ ks, m < rows.length := fun m hm => by
            rw [← hks] at hm
            have := List.mem_range.mp (List.mem_filter.mp hm).1
            omega
          have hkl : ks.length ≤ 10 := by
            rw [← hks]
            refine Nat.le_trans (List.length_filter_le _ _) ?_
            rw [List.length_range]
            omega
          have hzi : zs = (ks.map fun (k : Nat) => (k : Int)).map V.int := by rw [hzs, List.map_map]; rfl
          subst hzi
          clear hzs hL5
          walk_at "rd"
          refine i_newL (by decide) fun t6 H6 ht6 e6 h6 => ?_
          refine i_neD (is_listI (SqL.of (e6 _ _ h5))) (is_listI (ns := []) (SqL.of h6)) (PySem.W.ke_shaped_ints _) (PySem.W.ke_shaped_ints []) ⟨_, rfl, ?_⟩
          have e46 := e5.trans e6
          have hF6 := hF4.same e46
          have h6p := e46 _ _ h4p
          have h6q := e6 _ _ h5
          cases hkk : ks with
          | nil =>
            subst hkk
            rw [show (!PyData.eqv (.list ((([] : List Nat).map fun (k : Nat) => (k : Int)).map PyData.int)) (.list (([] : List Int).map PyData.int))) = false by rfl]
            walk_at "rd"
            refine ⟨d, l, _, rfl, hF6, by omega, by omega, fun b H7 hb0 hb1 e7 hF7 => ?_⟩
            have h7p := e7 _ _ hpd h6p
            walk_at "rd"
            refine i_newT (line_of (by simp)) fun t8 H8 ht8 e8 h8 => ?_
            walk_at "rd"
            have h8p := e8 _ _ h7p
            refine i_ins h8p (by omega) (by omega) (by omega) fun H9 e9 h9 => ?_
            walk_at "rd"
            have fz49 : Fz H4 H9 := ((e46.fz.trans (hF6.fz e7)).trans e8.fz).trans (e9.fzL h8p)
            exact ⟨_, _, _, rows.take b.toNat ++ [z] :: rows.drop b.toNat, _, rfl, ExtBut.off (((e4.same e46).trans e7).same e8) hp1 e9, (hF7.same e8).put e9 (hF.nd hp1) (hF.nl hp1), fz4.trans fz49, h9, isL_insN _ (IsL.fz fz49 _ _ (frzL_nms rows) hL4) (is_nm (ns := [z]) ((e9.fzL h8p).seq (SqT.of h8))), hR4.ins hzn⟩
          | cons k0 kr =>
            rw [show (!PyData.eqv (.list (((k0 :: kr).map fun (k : Nat) => (k : Int)).map PyData.int)) (.list (([] : List Int).map PyData.int))) = true by rw [List.map_nil, eqv_nil_l]; rfl]
            have hk0 : 0 < ks.length := by rw [hkk]; simp
            clear hkk
            walk_at "rd"
            refine ⟨d, l, _, rfl, hF6, by omega, by omega, fun b H7 hb0 hb1 e7 hF7 => ?_⟩
            have h7p := e7 _ _ hpd h6p
            have h7q := e7 _ _ (hF6.lst h6q) h6q
            walk_at "rd"
            refine iteD (fun hc => ?_) (fun hc => ?_)
            · walk_at "rd"
              refine ⟨d, l, _, rfl, hF7, by rw [List.length_map, List.length_map]; omega, by rw [List.length_map, List.length_map]; omega, fun b2 H8 hc0 hc1 e8 hF8 => ?_⟩
              rw [List.length_map, List.length_map] at hc1
              have h8p := e8 _ _ hpd h7p
              have h8q := e8 _ _ (hF7.lst h7q) h7q
              have hbl : b2.toNat < ks.length := by omega
              have hg := List.getElem?_eq_getElem hbl
              generalize ks[b2.toNat]'hbl = m at hg
              have hm := hkm m (List.mem_of_getElem? hg)
              obtain ⟨r, hri⟩ : ∃ r, rows[m]? = some r := ⟨_, List.getElem?_eq_getElem hm⟩
              walk_at "rd"
              refine i_ixL h8q (show atI _ b2 = some (.int (m : Int)) from by have := atI_nat (xs := (ks.map fun (k : Nat) => (k : Int)).map V.int) (j := b2.toNat) (v := .int (m : Int)) (by simp [hg]); rwa [Int.toNat_of_nonneg hc0] at this) ?_
              walk_at "rd"
              have hmy : m < ys.length := by omega
              have hgy := List.getElem?_eq_getElem hmy
              generalize ys[m]'hmy = yv at hgy
              have fz48 : Fz H4 H8 := (e46.fz.trans (hF6.fz e7)).trans (hF7.fz e8)
              have hL8 := IsL.fz fz48 _ _ (frzL_nms rows) hL4
              obtain ⟨Dy, hDy, hIy⟩ := IsL.get hL8 hgy
              rw [List.getElem?_map, hri] at hDy
              cases hDy
              obtain ⟨ya, rfl, hSy⟩ := hIy.nm
              refine i_ixL h8p (atI_nat hgy) ?_
              walk_at "rd"
              have hrl2 : r.length ≤ 10 := by
                have h1 := hR4.few
                have h2 : r.length ≤ rows.flatten.length := (List.sublist_flatten_of_mem (List.mem_of_getElem? hri)).length_le
                omega
              refine i_newT (line_of (by simp)) fun t9 H9 ht9 e9 h9 => ?_
              refine i_addT (e9.seqT hSy) (SqT.of h9) (line_of (by simp; omega)) fun t10 H10 e10 h10 => ?_
              walk_at "rd"
              have e810 := e9.trans e10
              have h10p := e810 _ _ h8p
              refine i_gSub ?_
              walk_at "rd"
              refine i_setL h10p hmy (by omega) fun H11 e11 h11 => ?_
              walk_at "rd"
              have fz811 : Fz H8 H11 := e810.fz.trans (e11.fzL h10p)
              refine ⟨_, _, _, rows.set m (r ++ [z]), _, rfl, ExtBut.off ((((e4.same e46).trans e7).trans e8).same e810) hp1 e11, (hF8.same e810).put e11 (hF.nd hp1) (hF.nl hp1), (fz4.trans fz48).trans fz811, h11, ?_, hR4.put hri hzn⟩
              rw [List.map_set]
              refine isL_set (IsL.fz fz811 _ _ (frzL_nms rows) hL8) (is_nm (ns := r ++ [z]) ?_)
              rw [List.map_append]
              exact (e11.fzL h10p).seq h10
            · walk_at "rd"
              refine ⟨d, l, _, rfl, hF7, by omega, by omega, fun b2 H8 hc0 hc1 e8 hF8 => ?_⟩
              have h8p := e8 _ _ hpd h7p
              walk_at "rd"
              refine i_newT (line_of (by simp)) fun t9 H9 ht9 e9 h9 => ?_
              walk_at "rd"
              have h9p := e9 _ _ h8p
              refine i_ins h9p (by omega) (by omega) (by omega) fun H10 e10 h10 => ?_
              walk_at "rd"
              have fz49 : Fz H4 H10 := (((e46.fz.trans (hF6.fz e7)).trans (hF7.fz e8)).trans e9.fz).trans (e10.fzL h9p)
              exact ⟨_, _, _, rows.take b2.toNat ++ [z] :: rows.drop b2.toNat, _, rfl, ExtBut.off ((((e4.same e46).trans e7).trans e8).same e9) hp1 e10, (hF8.same e9).put e10 (hF.nd hp1) (hF.nl hp1), fz4.trans fz49, h10, isL_insN _ (IsL.fz fz49 _ _ (frzL_nms rows) hL4) (is_nm (ns := [z]) ((e10.fzL h9p).seq (SqT.of h9))), hR4.ins hzn⟩
      · obtain ⟨x4, x5, x6, rows, ys, rfl, e4, hF4, fz4, h4p, hL4, hR4⟩ := hP
        walk_at "rd"
        exact ⟨_, _, _, _, rows, ys, rfl, e4, hF4, fz3.trans fz4, h4p, hL4, by rw [htk]; exact hR4⟩
    · obtain ⟨x3, x4, x5, x6, rows, ys, rfl, e3, hF3, fz3, h3p, hL3, hR3⟩ := hP
      rw [List.length_map, List.take_length] at hR3
      walk_at "rd"
      exact i_tupLs h3p hL3 fun w H4 e4 hw => k w rows H4 (e3.same e4) (hF3.same e4) hw ⟨hR3.ne, hR3.mem, Nat.le_trans hR3.few (by omega), Nat.le_trans hR3.len (by omega)⟩
noncomputable def thO : PyData → Option (List PyData)
  | .tuple ds => some ds
  | _ => none
noncomputable def ThK (K : PySem.W.Frag) (H : Hp) (u : V) (o : Option (List PyData)) : Prop := (∃ D, Is K H D u ∧ Dk 20 50000 100 D ∧ lfs D ≤ 60 ∧ o = thO D) ∨ (∃ a, u = .ref a ∧ H a = some (.dK []) ∧ o = none)
theorem ThK.tw {K : PySem.W.Frag} {H : Hp} {u : V} {o : Option (List PyData)} (h : ThK K H u o) : ThW K H u 20 50000 100 60 o := by
  rcases h with ⟨D, h1, h2, h3, rfl⟩ | ⟨a, rfl, h, rfl⟩
  · cases D with
    | tuple ds => exact ⟨h1, h2, by rw [← lf_tup]; exact h3⟩
    | _ => exact .inl ⟨_, h1, rfl⟩
  · exact .inr ⟨_, .dK h, by rfl⟩
theorem ThK.same {K : PySem.W.Frag} {H H' : Hp} {u : V} {o : Option (List PyData)} (h : ThK K H u o) (e : Same H H') : ThK K H' u o := by
  rcases h with ⟨D, h1, h2⟩ | ⟨a, h1, h2, h3⟩
  · exact .inl ⟨D, Is.mono e _ _ h1, h2⟩
  · exact .inr ⟨a, h1, e _ _ h2, h3⟩
theorem flat_strs12 : ∀ rs : List Str, flatL (rs.map PyData.str) = true
  | [] => rfl
  | z :: rs => by simp only [List.map_cons, flatL, flatD, flat_strs12 rs, Bool.and_self]
theorem flat_prs12 : ∀ rs : List (Str × Str), flatL (rs.map prD) = true
  | [] => rfl
  | p :: ps => by simp only [List.map_cons, flatL, prD, flatD, flat_prs12 ps, Bool.and_self]
theorem hf_dk {ns : List Str} {ps : List (Str × Str)} (hH : Half ns ps) : Dk 3 1600 70 (hfD ns ps) := tale_dk hH.nmP hH.names.2 (by have := hH.few; omega) (by have := hH.le; omega)
theorem rep12 {K : PySem.W.Frag} {H : Hp} {v u : V} {ns : List Str} {ps : List (Str × Str)} {o : Option (List PyData)} (hI : Is K H (hfD ns ps) v) (hH : Half ns ps) (h : ThK K H u o) :
    ∃ S : Str, ∀ t H' (Q : VK), Same H H' → SqT K H' t [v, u] → Q (.str S) H' → rReprXD K [.ref t] H' Q := by
  have hd := hf_dk hH
  rcases h with ⟨D, h1, h2, _⟩ | ⟨a, rfl, h, _⟩
  · have hd2 : Dk 21 51602 100 (.tuple [hfD ns ps, D]) := dk_tup (p := 20) ⟨fun e he => by
      rcases List.mem_cons.mp he with rfl | he
      · exact ⟨1600, hd.le (by omega) (by omega)⟩
      · rw [List.mem_singleton.mp he]
        exact ⟨50000, h2⟩, by
      have a := hd.wt
      have b := h2.wt
      simp only [PyData.weightAll]
      omega, by simp⟩
    obtain ⟨t1, t2, t3⟩ := hd2.told (by omega) (by omega)
    exact ⟨_, fun t H' Q e hS k => i_reprXI (Is.of_tup hS (.cons (Is.mono e _ _ hI) (.one (Is.mono e _ _ h1)))) t1 t2 t3 k⟩
  · have hf : flatD (hfD ns ps) = true := by simp only [hfD, nmD, psD, flatD, flatL, flat_strs12, flat_prs12, Bool.and_self]
    have s1 : (PyData.tuple [hfD ns ps, dsD []]).showable = true := by
      simp only [PyData.showable, PyData.showableAll, hd.sh, dsD, List.map_nil, Bool.true_and]
      rfl
    have s2 : (PyData.tuple [hfD ns ps, dsD []]).leavesShort 45 = true := by
      simp only [PyData.leavesShort, PyData.leavesShortAll, hd.lv, dsD, List.map_nil, Bool.true_and]
      rfl
    have s3 : (PyData.tuple [hfD ns ps, dsD []]).depth ≤ 100 := by
      have := hd.dp
      simp only [PyData.depth, PyData.depthAll, dsD, List.map_nil]
      simp [PyData.depthKv]
      omega
    have s4 : (PyData.tuple [hfD ns ps, dsD []]).weight ≤ 5000 := by
      have := hd.wt
      simp only [PyData.weight, PyData.weightAll, dsD, List.map_nil]
      simp [PyData.weightKv]
      omega
    have s5 := PyData.shown_le 45 (by decide) _ s2
    refine ⟨_, fun t H' Q e hS k => i_reprXD (.tup hS (.cons (.is (Is.mono e _ _ hI) hf) (.cons (.dct [] (e _ _ h)) .nil))) s1 ?_ s3 k⟩
    rw [sizeLine_eq]
    omega
theorem eq_iff {b c : Bool} {p : Prop} (h : b = true ↔ p) (g : c = true ↔ p) : b = c := Bool.eq_iff_iff.mpr (h.trans g.symm)
noncomputable def sp__law_right (K : PySem.W.Frag) : Sp := fun vs H Q _ => ∃ v u ns ps o, vs = [v, u] ∧ Is K H (hfD ns ps) v ∧ Half ns ps ∧ ThK K H u o ∧ ∀ H', Same H H' → Q (.bl true) H'
theorem ok__law_right {f : Addr} {fd : FuncData} (F : Fun K "_law_right" "_law_right" s__law_right f fd) (T : TopF mg) (c_is_bunch : Fnd P w K mg base 3 "is_bunch" ["half", "thing"] (sp_is_bunch K)) (c_is_cover : Fnd P w K mg base 2 "is_cover" ["half", "thing"] (sp_is_cover K)) (c__law_is_bunch : Fnd P w K mg base 4 "_law_is_bunch" ["_law_half_here", "_law_thing"] (sp__law_is_bunch K)) (c__law_is_cover : Fnd P w K mg base 3 "_law_is_cover" ["_law_half_here", "_law_thing"] (sp__law_is_cover K)) : FnOk P w K mg base CX0 5 f fd ["_law_half_here", "_law_thing"] (sp__law_right K) := by
  refine F.ok sc__law_right (fun vs H Q E h => ?_) (fun cdv A outer s H vs Q E hr h => ?_)
  · obtain ⟨v, u, ns, ps, o, rfl, _⟩ := h
    rfl
  · obtain ⟨v, u, ns, ps, o, rfl, hI, hH, hU, k⟩ := h
    have hu := hu_of hr
    have hq := qa_of hr
    obtain ⟨S, hS⟩ := rep12 hI hH hU
    with_reducible refine ⟨_, (pss_cons (ps_set (i := 2) sc__law_right.nd (by with_unfolding_all rfl) (by with_unfolding_all exact Or.inl rfl) (pe_callB (call_reprXDK (K := K) hq) (by with_unfolding_all rfl) T.b_repr PyProof.Rows.Boot.«repr» (pa_cons (pe_tup (pa_cons (pv 0) (pa_cons (pv 1) pa_nil))) pa_nil)))
      (pss_cons (ps_if (pt_cmpR (op_neK (K := K) hq) (pe_callB (call_reprK (K := K) hq) (by with_unfolding_all rfl) T.b_repr PyProof.Rows.Boot.«repr» (pa_cons (pe_fn c_is_bunch (hr.mono (by decide)) (by with_unfolding_all rfl) (pa_cons (pv 0) (pa_cons (pv 1) pa_nil))) pa_nil)) (pe_callB (call_reprK (K := K) hq) (by with_unfolding_all rfl) T.b_repr PyProof.Rows.Boot.«repr» (pa_cons (pe_fn c__law_is_bunch (hr.mono (by decide)) (by with_unfolding_all rfl) (pa_cons (pv 0) (pa_cons (pv 1) pa_nil))) pa_nil)) (nomark _)) (pss_one (ps_ret pe_bl)) pss_nil)
      (pss_one (ps_ret (pe_and (pe_cmpR (op_eqK (K := K) hq) (pe_callB (call_reprK (K := K) hq) (by with_unfolding_all rfl) T.b_repr PyProof.Rows.Boot.«repr» (pa_cons (pe_fn c_is_cover (hr.mono (by decide)) (by with_unfolding_all rfl) (pa_cons (pv 0) (pa_cons (pv 1) pa_nil))) pa_nil)) (pe_callB (call_reprK (K := K) hq) (by with_unfolding_all rfl) T.b_repr PyProof.Rows.Boot.«repr» (pa_cons (pe_fn c__law_is_cover (hr.mono (by decide)) (by with_unfolding_all rfl) (pa_cons (pv 0) (pa_cons (pv 1) pa_nil))) pa_nil)) (nomark _)) (pe_one (pe_cmpR (op_eqK (K := K) hq) (pe_callB (call_reprXDK (K := K) hq) (by with_unfolding_all rfl) T.b_repr PyProof.Rows.Boot.«repr» (pa_cons (pe_tup (pa_cons (pv 0) (pa_cons (pv 1) pa_nil))) pa_nil)) (pv 2) (nomark _)))))))), ?_⟩
    walk_at "rd"
    refine i_newT (line_of (by simp)) fun t1 H1 ht1 e1 h1 => ?_
    walk_at "rd"
    refine hS t1 H1 _ e1 (SqT.of h1) ?_
    walk_at "rd"
    refine ⟨v, u, ns, ps, 20, 50000, 100, 60, o, rfl, Is.mono e1 _ _ hI, hH, (hU.same e1).tw, by omega, fun b H2 e2 hb => ?_⟩
    have e12 := e1.trans e2
    walk_at "rd"
    refine ⟨v, u, ns, ps, 20, 50000, 100, 60, o, rfl, Is.mono e12 _ _ hI, hH, (hU.same e12).tw, by omega, by omega, fun b3 H3 e3 hb3 => ?_⟩
    have e13 := e12.trans e3
    have := eq_iff hb3 hb
    subst this
    walk_at "rd"
    refine ⟨v, u, ns, ps, 20, 50000, 100, 60, o, rfl, Is.mono e13 _ _ hI, hH, (hU.same e13).tw, by omega, by omega, by omega, fun b4 H4 e4 hb4 => ?_⟩
    have e14 := e13.trans e4
    walk_at "rd"
    refine ⟨v, u, ns, ps, 20, 50000, 100, 60, o, rfl, Is.mono e14 _ _ hI, hH, (hU.same e14).tw, by omega, by omega, by omega, fun b5 H5 e5 hb5 => ?_⟩
    have e15 := e14.trans e5
    have := eq_iff hb5 hb4
    subst this
    walk_at "rd"
    refine i_newT (line_of (by simp)) fun t6 H6 ht6 e6 h6 => ?_
    walk_at "rd"
    refine hS t6 H6 _ (e15.trans e6) (SqT.of h6) ?_
    walk_at "rd"
    have ed : decide (V.str S = V.str S) = true := decide_eq_true rfl
    rw [ed]
    exact k H6 (e15.trans e6)
noncomputable def spLaw (K : PySem.W.Frag) : Sp := fun vs H Q _ => ∃ (a : Addr) (ns : List Int), vs = [.ref a] ∧ SqL K H a (ns.map V.int) ∧ ns.length ≤ 63 ∧ ∀ H', Q (.bl true) H'
noncomputable def MnD (e : PyData) : Prop := (∃ row : List Str, e = nmD row ∧ (∀ z ∈ row, isNm z = true) ∧ row.length ≤ 10) ∨ ∃ rows : List (List Str), e = lsD rows ∧ (∀ r ∈ rows, ∀ z ∈ r, isNm z = true) ∧ rows.flatten.length ≤ 20 ∧ rows.length ≤ 20
theorem mn_dk {e : PyData} (h : MnD e) : Dk 3 4000 30 e ∧ lfs e ≤ 20 ∧ frz e = true := by
  rcases h with ⟨row, rfl, h1, h2⟩ | ⟨rows, rfl, h1, h2, h3⟩
  · refine ⟨(dk_tup (nms_els (p := 1) (W := 30) h1 (by omega))).le (by omega) (by omega), ?_, frz_nm row⟩
    unfold nmD
    rw [lf_tup, lf_strs]
    omega
  · refine ⟨?_, ?_, frz_ls rows⟩
    · have hr : ∀ r ∈ rows, Dk 2 180 30 (nmD r) := fun r hr => by
        have h4 : r.length ≤ rows.flatten.length := (List.sublist_flatten_of_mem hr).length_le
        exact (dk_tup (nms_els (p := 1) (W := 30) (h1 r hr) (by omega))).le (by omega) (by omega)
      refine dk_tup (p := 2) ⟨fun e he => ?_, ?_, by rw [List.length_map]; omega⟩
      · obtain ⟨r, hm, rfl⟩ := List.mem_map.mp he
        exact ⟨180, hr r hm⟩
      · have := wt_all (k := 180) (ds := rows.map nmD) fun e he => by
          obtain ⟨r, hm, rfl⟩ := List.mem_map.mp he
          exact (hr r hm).wt
        rw [List.length_map] at this
        have := Nat.mul_le_mul h3 (Nat.le_refl 181)
        omega
    · unfold lsD
      rw [lf_tup, lf_rows]
      exact h2
theorem mn_frz : ∀ {es : List PyData}, (∀ e ∈ es, MnD e) → frzL es = true
  | [], _ => rfl
  | e :: es, h => by
    simp only [frzL, Bool.and_eq_true]
    exact ⟨(mn_dk (h e (.head _))).2.2, mn_frz fun d hd => h d (.tail _ hd)⟩
noncomputable def Menu (K : PySem.W.Frag) (H : Hp) (p : Addr) (N : Nat) : Prop := ∃ ys es, H p = some (.lst ys) ∧ IsL K H es ys ∧ (∀ e ∈ es, MnD e) ∧ es.length ≤ N
theorem Menu.fz {K : PySem.W.Frag} {H H' : Hp} {p : Addr} {N : Nat} (h : Menu K H p N) (f : Fz H H') (g : ∀ ys, H p = some (.lst ys) → H' p = some (.lst ys)) : Menu K H' p N :=
  let ⟨ys, es, h1, h2, h3, h4⟩ := h
  ⟨ys, es, g ys h1, IsL.fz f _ _ (mn_frz h3) h2, h3, h4⟩
theorem Menu.same {K : PySem.W.Frag} {H H' : Hp} {p : Addr} {N : Nat} (h : Menu K H p N) (e : Same H H') : Menu K H' p N := h.fz e.fz fun _ g => e _ _ g
theorem Menu.draw {K : PySem.W.Frag} {H H' : Hp} {p d l : Addr} {N : Nat} (h : Menu K H p N) (hF : Feed H d l) (e : ExtBut d H H') : Menu K H' p N := h.fz (hF.fz e) fun _ g => e _ _ (hF.lst g) g
theorem Menu.put {K : PySem.W.Frag} {H H' : Hp} {p : Addr} {N : Nat} {e : PyData} {v : V} {ys : List V} (h : Menu K H p N) (hI : Is K H e v) (hm : MnD e) (hy : H p = some (.lst ys)) (e5 : ExtBut p H H') (h5 : H' p = some (.lst (ys ++ [v]))) : Menu K H' p (N + 1) := by
  obtain ⟨zs, es, h1, h2, h3, h4⟩ := h
  rw [h1] at hy
  cases hy
  have fz : Fz H H' := e5.fzL h1
  refine ⟨_, es ++ [e], h5, IsL.append (IsL.fz fz _ _ (mn_frz h3) h2) (.one (Is.fz fz _ _ (mn_dk hm).2.2 hI)), fun d hd => ?_, by simp; omega⟩
  rcases List.mem_append.mp hd with hd | hd
  · exact h3 d hd
  · rw [List.mem_singleton.mp hd]
    exact hm
theorem mn_nm {row : List Str} (h : ∀ z ∈ row, isNm z = true) (hl : row.length ≤ 10) : MnD (nmD row) := .inl ⟨row, rfl, h, hl⟩
theorem flat_cut {α : Type} (rows : List (List α)) (n : Nat) : (rows.take n).flatten.length + (rows.drop n).flatten.length = rows.flatten.length := by
  rw [← List.length_append, ← List.flatten_append, List.take_append_drop]
theorem flat_rev {α : Type} : ∀ rows : List (List α), (rows.map List.reverse).flatten.length = rows.flatten.length
  | [] => rfl
  | r :: rows => by
    have := flat_rev rows
    simp only [List.map_cons, List.flatten_cons, List.length_append, List.length_reverse]
    omega
theorem lits_ok : ∀ e ∈ [PyData.none, .bool true, .int 0, .str "", .str "a", .tuple [], .list [], .tuple [.tuple []], .tuple [.none]], Dk 3 100 3 e ∧ lfs e ≤ 2 := by
  intro e he
  simp only [List.mem_cons, List.not_mem_nil, or_false] at he
  rcases he with rfl | rfl | rfl | rfl | rfl | rfl | rfl | rfl | rfl <;> exact ⟨⟨by decide +kernel, by decide +kernel, by decide +kernel, by decide +kernel, by decide +kernel, by decide +kernel, by decide +kernel⟩, by decide +kernel⟩
theorem ok_law {f : Addr} {fd : FuncData} (F : Fun K "law" "law" s_law f fd) (T : TopF mg) (c__law_feed : Fnd P w K mg base 1 "_law_feed" ["_law_script"] (sp__law_feed K)) (c__law_draw : Fnd P w K mg base 1 "_law_draw" ["_law_feed_here", "_law_many"] (sp__law_draw K)) (c__law_shuffled : Fnd P w K mg base 2 "_law_shuffled" ["_law_feed_here", "_law_some"] (sp__law_shuffled K)) (c__law_half : Fnd P w K mg base 4 "_law_half" ["_law_feed_here", "_law_most"] (sp__law_half K)) (c__law_bent : Fnd P w K mg base 14 "_law_bent" ["_law_feed_here", "_law_part", "_law_deep"] (sp__law_bent K)) (c__law_layers : Fnd P w K mg base 3 "_law_layers" ["_law_half_here"] (sp__law_layers K)) (c__law_some_cover : Fnd P w K mg base 4 "_law_some_cover" ["_law_feed_here", "_law_half_here"] (sp__law_some_cover K)) (c__law_right : Fnd P w K mg base 5 "_law_right" ["_law_half_here", "_law_thing"] (sp__law_right K)) : FnOk P w K mg base CX0 15 f fd ["_law_script"] (spLaw K) := by
  refine F.ok sc_law (fun vs H Q E h => ?_) (fun cdv A outer s H vs Q E hr h => ?_)
  · obtain ⟨a, ns, rfl, _⟩ := h
    rfl
  · obtain ⟨a, ns0, rfl, hS, h63, k⟩ := h
    have hu := hu_of hr
    have hq := qa_of hr
    with_reducible refine ⟨_, (pss_cons (ps_set (i := 1) sc_law.nd (by with_unfolding_all rfl) (by with_unfolding_all exact Or.inr rfl) (pe_fn c__law_feed (hr.mono (by decide)) (by with_unfolding_all rfl) (pa_cons (pv 0) pa_nil)))
      (pss_cons (ps_for PassesOwn.never (by with_unfolding_all rfl) (pi_range1 (by with_unfolding_all rfl) T.b_range (pa_cons pe_int pa_nil)) (pg_name (i := 2) sc_law.nd (by with_unfolding_all rfl) (by with_unfolding_all exact Or.inl rfl))
      (pss_cons (ps_set (i := 3) sc_law.nd (by with_unfolding_all rfl) (by with_unfolding_all exact Or.inl rfl) (pe_fn c__law_half (hr.mono (by decide)) (by with_unfolding_all rfl) (pa_cons (pv 1) (pa_cons pe_int pa_nil))))
      (pss_cons (ps_set (i := 4) sc_law.nd (by with_unfolding_all rfl) (by with_unfolding_all exact Or.inl rfl) (pe_fn c__law_some_cover (hr.mono (by decide)) (by with_unfolding_all rfl) (pa_cons (pv 1) (pa_cons (pv 3) pa_nil))))
      (pss_cons (ps_set (i := 5) sc_law.nd (by with_unfolding_all rfl) (by with_unfolding_all exact Or.inl rfl) (pe_lst (pa_cons (pe_ix (ix_anyK (K := K) hu) (pv 3) pe_int (by with_unfolding_all exact fun _ _ => rfl)) (pa_cons (pe_backT (K := K) (pe_ix (ix_anyK (K := K) hu) (pv 3) pe_int (by with_unfolding_all exact fun _ _ => rfl)) (pe_un un_neg pe_int)) (pa_cons (pv 4) (pa_cons (pe_op (op_addK (K := K)) (pv 4) (pe_slice (sl_K (K := K)) (pv 4) po_none (po_some pe_int))) (pa_cons (pe_slice (sl_K (K := K)) (pv 4) (po_some pe_int) po_none) (pa_cons (pe_tup (pa_cons (pe_ix (ix_anyK (K := K) hu) (pv 3) pe_int (by with_unfolding_all exact fun _ _ => rfl)) pa_nil)) pa_nil))))))))
      (pss_cons (ps_set (i := 5) sc_law.nd (by with_unfolding_all rfl) (by with_unfolding_all exact Or.inl rfl) (pe_op (op_addK (K := K)) (pv 5) (pe_lst (pa_cons (pe_callTy (call_tupleK (K := K)) (by with_unfolding_all rfl) T.b_tuple PyProof.Rows.Boot.«tuple» (pa_cons (pe_fn c__law_shuffled (hr.mono (by decide)) (by with_unfolding_all rfl) (pa_cons (pv 1) (pa_cons (pe_ix (ix_anyK (K := K) hu) (pv 3) pe_int (by with_unfolding_all exact fun _ _ => rfl)) pa_nil))) pa_nil)) (pa_cons (pe_callTy (call_tupleK (K := K)) (by with_unfolding_all rfl) T.b_tuple PyProof.Rows.Boot.«tuple» (pa_cons (pe_comp ["_law_chain"] [] [] (by with_unfolding_all rfl) (by with_unfolding_all rfl) (by with_unfolding_all rfl) (pi_anyK (K := K) hu (pv 4)) (fun _ _ _ _ => (pg_name (i := 0) (by with_unfolding_all (show (["_law_chain"] : List Str).Nodup; decide +kernel)) (by with_unfolding_all rfl) (by with_unfolding_all exact Or.inl rfl))) (gk_name (by decide)) (fun _ _ _ _ => pif_nil) (fun _ _ _ _ => (pe_backT (K := K) (pv 0) (pe_un un_neg pe_int)))) pa_nil)) pa_nil)))))
      (pss_cons (ps_for PassesOwn.never (by with_unfolding_all rfl) (pi_range1 (by with_unfolding_all rfl) T.b_range (pa_cons pe_int pa_nil)) (pg_name (i := 6) sc_law.nd (by with_unfolding_all rfl) (by with_unfolding_all exact Or.inl rfl))
      (pss_one (ps_expr (pe_bmK (K := K) PySem.F.plainAttrs_list PySem.F.slot_list_append PySem.F.type_list_append (mm mt_append) (pv 5) (pa_cons (pe_callTy (call_tupleK (K := K)) (by with_unfolding_all rfl) T.b_tuple PyProof.Rows.Boot.«tuple» (pa_cons (pe_comp ["_law_name"] ["_law_feed_here"] [1] (by with_unfolding_all rfl) (by with_unfolding_all rfl) (by with_unfolding_all rfl) (pi_anyK (K := K) hu (pe_ix (ix_anyK (K := K) hu) (pv 3) pe_int (by with_unfolding_all exact fun _ _ => rfl))) (fun _ _ _ _ => (pg_name (i := 0) (by with_unfolding_all (show (["_law_name", "_law_feed_here"] : List Str).Nodup; decide +kernel)) (by with_unfolding_all rfl) (by with_unfolding_all exact Or.inl rfl))) (gk_name (by decide)) (fun _ _ _ _ => (pif_one (pt_cmpR (op_eqK (K := K) hq) (pe_fn c__law_draw (hr.mono (by decide)) (by with_unfolding_all rfl) (pa_cons (pv 1) (pa_cons pe_int pa_nil))) pe_int (nomark _)))) (fun _ _ _ _ => (pv 0))) pa_nil)) pa_nil)))))
      (pss_cons (ps_for PassesOwn.never (by with_unfolding_all rfl) (pi_anyK (K := K) hu (pe_fn c__law_layers (hr.mono (by decide)) (by with_unfolding_all rfl) (pa_cons (pv 3) pa_nil))) (pg_name (i := 7) sc_law.nd (by with_unfolding_all rfl) (by with_unfolding_all exact Or.inl rfl))
      (pss_one (ps_expr (pe_bmK (K := K) PySem.F.plainAttrs_list PySem.F.slot_list_append PySem.F.type_list_append (mm mt_append) (pv 5) (pa_cons (pe_callTy (call_tupleK (K := K)) (by with_unfolding_all rfl) T.b_tuple PyProof.Rows.Boot.«tuple» (pa_cons (pe_comp ["_law_name"] ["_law_feed_here"] [1] (by with_unfolding_all rfl) (by with_unfolding_all rfl) (by with_unfolding_all rfl) (pi_anyK (K := K) hu (pv 7)) (fun _ _ _ _ => (pg_name (i := 0) (by with_unfolding_all (show (["_law_name", "_law_feed_here"] : List Str).Nodup; decide +kernel)) (by with_unfolding_all rfl) (by with_unfolding_all exact Or.inl rfl))) (gk_name (by decide)) (fun _ _ _ _ => (pif_one (pt_cmpR op_gt (pe_fn c__law_draw (hr.mono (by decide)) (by with_unfolding_all rfl) (pa_cons (pv 1) (pa_cons pe_int pa_nil))) pe_int (nomark _)))) (fun _ _ _ _ => (pv 0))) pa_nil)) pa_nil)))))
      (pss_cons (ps_if (pt_cmpR op_gt (pe_callB (call_lenK (K := K)) (by with_unfolding_all rfl) T.b_len PyProof.Rows.Boot.«len» (pa_cons (pv 4) pa_nil)) pe_int (nomark _)) (pss_one (ps_expr (pe_bmK (K := K) PySem.F.plainAttrs_list PySem.F.slot_list_append PySem.F.type_list_append (mm mt_append) (pv 5) (pa_cons (pe_op (op_addK (K := K)) (pe_tup (pa_cons (pe_op (op_addK (K := K)) (pe_ix (ix_anyK (K := K) hu) (pv 4) pe_int (by with_unfolding_all exact fun _ _ => rfl)) (pe_ix (ix_anyK (K := K) hu) (pv 4) pe_int (by with_unfolding_all exact fun _ _ => rfl))) pa_nil)) (pe_slice (sl_K (K := K)) (pv 4) (po_some pe_int) po_none)) pa_nil)))) pss_nil)
      (pss_cons (ps_for PassesOwn.never (by with_unfolding_all rfl) (pi_anyK (K := K) hu (pv 5)) (pg_name (i := 8) sc_law.nd (by with_unfolding_all rfl) (by with_unfolding_all exact Or.inl rfl))
      (pss_one (ps_if (PW.pt (pw_or (pt_not (pt_val (pe_fn c__law_right (hr.mono (by decide)) (by with_unfolding_all rfl) (pa_cons (pv 3) (pa_cons (pv 8) pa_nil))))) (pw_or1 (pt_not (pt_val (pe_fn c__law_right (hr.mono (by decide)) (by with_unfolding_all rfl) (pa_cons (pv 3) (pa_cons (pe_fn c__law_bent (hr.mono (by decide)) (by with_unfolding_all rfl) (pa_cons (pv 1) (pa_cons (pv 8) (pa_cons pe_int pa_nil)))) pa_nil)))))))) (pss_one (ps_ret pe_bl)) pss_nil)))
      (pss_one (ps_for PassesOwn.never (by with_unfolding_all rfl) (pi_anyK (K := K) hu (pe_tup (pa_cons pe_non (pa_cons pe_bl (pa_cons pe_int (pa_cons pe_str (pa_cons pe_str (pa_cons (pe_tup pa_nil) (pa_cons (pe_lst pa_nil) (pa_cons (pe_tup (pa_cons (pe_tup pa_nil) pa_nil)) (pa_cons (pe_tup (pa_cons pe_non pa_nil)) (pa_cons pe_dnewK pa_nil)))))))))))) (pg_name (i := 8) sc_law.nd (by with_unfolding_all rfl) (by with_unfolding_all exact Or.inl rfl))
      (pss_one (ps_if (pt_not (pt_val (pe_fn c__law_right (hr.mono (by decide)) (by with_unfolding_all rfl) (pa_cons (pv 3) (pa_cons (pv 8) pa_nil))))) (pss_one (ps_ret pe_bl)) pss_nil)))))))))))))
      (pss_one (ps_ret pe_bl)))), ?_⟩
    walk_at "rd"
    refine ⟨a, ns0, rfl, hS, h63, fun d l H1 hd hl e1 hF => ?_⟩
    walk_at "rd"
    refine i_rngv (by omega) ?_
    refine for_by walk_range (fun i σ H2 => ∃ x2 x3 x4 x5 x6 x7 x8, σ = [some (.ref a), some (.ref d), x2, x3, x4, x5, x6, x7, x8] ∧ Feed H2 d l) ⟨_, _, _, _, _, _, _, rfl, hF⟩ (fun _ _ _ _ => trivial) (fun i x σ H2 hx hi hP => ?_) (fun σ H2 hP => ?_)
    · obtain ⟨x2, x3, x4, x5, x6, x7, x8, rfl, hF2⟩ := hP
      walk_at "rd"
      refine ⟨d, l, _, rfl, hF2, by omega, by omega, fun v ns ps H3 e3 hF3 hI3 hH hl3 => ?_⟩
      have h10 := hH.few
      walk_at "rd"
      refine ⟨d, l, v, ns, ps, rfl, hF3, hI3, hH, fun u rows H4 e4 hF4 hU4 hR => ?_⟩
      have hI4 := hI3.hf_fz (hF3.fz e4)
      have hrn : ∀ r ∈ rows, ∀ z ∈ r, isNm z = true := fun r hr z hz => hH.names.2 z (hR.mem r hr z hz)
      have hrf := hR.few
      have hrl := hR.len
      obtain ⟨ua, xs, rfl, hSu, hXu⟩ := hU4.tup
      have hxl : xs.length = rows.length := by rw [← IsL.length hXu, List.length_map]
      walk_at "rd"
      refine i_ixH0 hI4 fun nv hN4 => ?_
      obtain ⟨na, rfl, hSn⟩ := hN4.nm
      walk_at "rd"
      refine i_ixH0 hI4 fun nv2 hN42 => ?_
      obtain ⟨na2, rfl, hSn2⟩ := hN42.nm
      walk_at "rd"
      refine i_backT hSn2 fun q5 H5 hq5 e5 h5 => ?_
      walk_at "rd"
      refine i_slT (e5.seqT hSu) fun q6 H6 e6 h6 => ?_
      have e56 := e5.trans e6
      rw [cut_upto (by omega)] at h6
      refine i_addT (e56.seqT hSu) h6 (line_of (by rw [List.length_take]; omega)) fun q7 H7 e7 h7 => ?_
      have e57 := e56.trans e7
      walk_at "rd"
      refine i_slT (e57.seqT hSu) fun q8 H8 e8 h8 => ?_
      rw [cut_dropA (by omega)] at h8
      have e58 := e57.trans e8
      walk_at "rd"
      refine i_ixH0 (hI4.hf_fz e58.fz) fun nv9 hN9 => ?_
      walk_at "rd"
      refine i_newT (line_of (by simp)) fun q9 H9 hq9 e9 h9 => ?_
      walk_at "rd"
      refine i_newL (line_of (by simp)) fun p10 H10 hp10 e10 h10' => ?_
      have e510 := (e58.trans e9).trans e10
      have hM10 : Menu K H10 p10 6 := by
        have hX := IsL.mono e510 _ _ hXu
        refine ⟨_, [nmD ns, nmD ns.reverse, lsD rows, lsD (rows ++ rows.take 1), lsD (rows.drop 1), lsD [ns]], h10', ?_, fun e he => ?_, by simp⟩
        · refine .cons (hN4.nm_fz e510.fz) (.cons (is_nm (ns := ns.reverse) ?_) (.cons (Is.of_tup (e510.seqT hSu) hX) (.cons (Is.of_tup (((e8.trans e9).trans e10).seqT h7) ?_) (.cons (Is.of_tup ((e9.trans e10).seqT h8) ?_) (.one (Is.of_tup (SqT.of (e10 _ _ h9)) (.one (hN9.nm_fz (e9.trans e10).fz))))))))
          · rw [List.map_reverse]
            exact ((((e6.trans e7).trans e8).trans e9).trans e10).seqT (SqT.of h5)
          · rw [List.map_append, List.map_take]
            exact IsL.append hX (IsL.take 1 hX)
          · rw [List.map_drop]
            exact IsL.drop _ hX
        · have hnn := hH.names.2
          have hc := flat_cut rows 1
          simp only [List.mem_cons, List.not_mem_nil, or_false] at he
          rcases he with rfl | rfl | rfl | rfl | rfl | rfl
          · exact mn_nm hnn h10
          · exact mn_nm (fun z hz => hnn z (List.mem_reverse.mp hz)) (by rw [List.length_reverse]; exact h10)
          · exact .inr ⟨rows, rfl, hrn, by omega, by omega⟩
          · refine .inr ⟨_, rfl, fun r hr => ?_, by rw [List.flatten_append, List.length_append]; omega, by rw [List.length_append, List.length_take]; omega⟩
            exact hrn r ((List.mem_append.mp hr).elim id List.mem_of_mem_take)
          · exact .inr ⟨_, rfl, fun r hr => hrn r (List.mem_of_mem_drop hr), by omega, by rw [List.length_drop]; omega⟩
          · exact .inr ⟨[ns], rfl, fun r hr => by rw [List.mem_singleton.mp hr]; exact hnn, by simp; omega, by simp⟩
      clear h5 h6 h7 h8 h9 hN42 hSn2 hN9
      have hF10 := hF4.same e510
      have hI10 := hI4.hf_fz e510.fz
      have hU10 : Is K H10 (lsD rows) (.ref ua) := Is.mono e510 _ _ hU4
      walk_at "rd"
      refine i_ixH0 hI10 fun nv11 hN11 => ?_
      obtain ⟨na11, rfl, hSn11⟩ := hN11.nm
      walk_at "rd"
      refine ⟨d, l, na11, _, rfl, hF10, .inr hSn11, by rw [List.length_map]; omega, fun p11 ys11 H11 hp11 e11 hF11 h11 hperm => ?_⟩
      obtain ⟨ls, rfl, hpm⟩ := perm_strs hperm
      have fz11 := hF10.fz e11
      walk_at "rd"
      refine i_tupleL (SqL.of h11) fun q12 H12 hq12 e12 h12 => ?_
      have fz12 := fz11.trans e12.fz
      have hSu12 : SqT K H12 ua xs := fz12.seq (e510.seqT hSu)
      have hXu12 : IsL K H12 (rows.map nmD) xs := IsL.fz fz12 _ _ (frzL_nms rows) (IsL.mono e510 _ _ hXu)
      walk_at "rd"
      refine i_itT hSu12 ?_
      refine comp_dat (K := K) (walk_tup (xs := xs)) rows hxl.symm (fun _ => true) (fun r => nmD r.reverse) (fun r => frz_nm _) (by omega) (fun H' e => e.seqT hSu12) (fun i r xv H13 R R' hr hxv e13 hR hR' => ?_) (fun q13 ys13 H13 hq13 e13 h13 hL13 => ?_)
      · obtain ⟨D, hD, hIx⟩ := IsL.get hXu12 hxv
        rw [List.getElem?_map, hr] at hD
        cases hD
        obtain ⟨xa, rfl, hSx⟩ := Is.nm (Is.mono e13 _ _ hIx)
        walk_at "rd"
        refine i_backT hSx fun q14 H14 hq14 e14 h14 => hR rfl _ _ e14 (is_nm (ns := r.reverse) ?_)
        rw [List.map_reverse]
        exact SqT.of h14
      have hrev : (rows.filter fun _ => true).map (fun r => nmD r.reverse) = (rows.map List.reverse).map nmD := by rw [filter_true, List.map_map]; rfl
      rw [hrev] at hL13
      walk_at "rd"
      refine i_tupLs h13 hL13 fun w14 H14 e14 hw14 => ?_
      walk_at "rd"
      refine i_newL (line_of (by simp)) fun p15 H15 hp15 e15 h15 => ?_
      have e1215 := (e13.trans e14).trans e15
      have hM15 : Menu K H15 p10 6 := ((hM10.draw hF10 e11).same e12).same e1215
      obtain ⟨ysm, esm, hm1, hm2, hm3, hm4⟩ := hM15
      have hysm := IsL.length hm2
      refine i_addL hm1 h15 (line_of (by simp; omega)) fun p H16 hp16 e16 h16 => ?_
      have hM16 : Menu K H16 p 8 := by
        refine ⟨_, esm ++ [nmD ls, lsD (rows.map List.reverse)], h16, IsL.append (IsL.mono e16 _ _ hm2) (.cons (is_nm (SqT.of ((e1215.trans e16) _ _ h12))) (.one (Is.mono (e15.trans e16) _ _ hw14))), fun e he => ?_, by simp; omega⟩
        rcases List.mem_append.mp he with he | he
        · exact hm3 e he
        · simp only [List.mem_cons, List.not_mem_nil, or_false] at he
          rcases he with rfl | rfl
          · exact mn_nm (fun z hz => hH.names.2 z (hpm.mem_iff.mp hz)) (by rw [hpm.length_eq]; exact h10)
          · refine .inr ⟨_, rfl, fun r hr z hz => ?_, by rw [flat_rev]; omega, by rw [List.length_map]; omega⟩
            obtain ⟨r0, hr0, rfl⟩ := List.mem_map.mp hr
            exact hrn r0 hr0 z (List.mem_reverse.mp hz)
      have hF15 := (hF11.same e12).same e1215
      have hF16 := hF15.same e16
      have hnd := hF15.nd hp16
      have hnl := hF15.nl hp16
      have fz1016 : Fz H10 H16 := fz12.trans (e1215.trans e16).fz
      have hI16 := hI10.hf_fz fz1016
      have hS16 : SqT K H16 ua xs := (e1215.trans e16).fz.seq hSu12
      have hX16 : IsL K H16 (rows.map nmD) xs := IsL.mono (e1215.trans e16) _ _ hXu12
      clear hm1 hm2 hm3 hm4 h15 h13 hL13 hw14 h12 hXu12 hSu12 h11 hM10 h10' hSn11 hN11
      walk_at "rd"
      refine i_rngv (by omega) ?_
      refine for_by walk_range (fun j σ H17 => ∃ y6 y7 y8, σ = [some (.ref a), some (.ref d), some x, some v, some (.ref ua), some (.ref p), y6, y7, y8] ∧ Fz H16 H17 ∧ Feed H17 d l ∧ Menu K H17 p (8 + j)) ⟨_, _, _, rfl, .refl _, hF16, hM16⟩ (fun _ _ _ _ => trivial) (fun j y σ' H17 hy hj hP => ?_) (fun σ' H17 hP => ?_)
      · obtain ⟨y6, y7, y8, rfl, fz17, hF17, hM17⟩ := hP
        have hj3 : j < 3 := by simpa using hj
        have hlive : ∃ ys, H17 p = some (.lst ys) := let ⟨ys, _, h, _⟩ := hM17; ⟨ys, h⟩
        obtain ⟨ysl, hysl⟩ := hlive
        walk_at "rd"
        refine i_ixH0 (hI16.hf_fz fz17) fun nv17 hN17 => ?_
        obtain ⟨na17, rfl, hSn17⟩ := hN17.nm
        refine i_itT hSn17 ?_
        refine comp_by (walk_tup (xs := ns.map V.str)) (fun q m acc H18 => Fz H17 H18 ∧ Feed H18 d l ∧ Menu K H18 p (8 + j) ∧ ∃ zs : List Str, acc = zs.map V.str ∧ ∀ z ∈ zs, z ∈ ns) (fun q H' hq e h => ⟨e.fz, hF17.same e, hM17.same e, [], rfl, fun _ h => by cases h⟩) (fun q m acc H' hP => hP.1.seq hSn17) (fun q m xv acc H18 hq hxv hm hl18 ha hP => ?_) fun q acc H18 hq ha hl18 hP => ?_
        · obtain ⟨fz18, hF18, hM18, zs, rfl, hzs⟩ := hP
          rw [List.getElem?_map] at hxv
          obtain ⟨z, hz, rfl⟩ := Option.map_eq_some_iff.mp hxv
          have hpq : p ≠ q := ne_of_none hysl hq
          walk_at "rd"
          refine ⟨d, l, _, rfl, hF18, by omega, by omega, fun c H19 hc0 hc1 e19 hF19 => ?_⟩
          have ha19 := e19 _ _ (hF18.lst ha) ha
          have fz19 := fz18.trans (hF18.fz e19)
          have hM19 := hM18.draw hF18 e19
          walk_at "rd"
          refine iteD (fun hc => ?_) (fun hc => ?_)
          · walk_at "rd"
            refine push_i (by rw [List.length_map]; omega) hm hl18 ha19 fun H20 e20 h20 => ⟨fz19.trans (e20.fzL ha19), hF19.put e20 (hF17.nd hq) (hF17.nl hq), hM19.fz (e20.fzL ha19) (fun _ g => e20 _ _ hpq g), zs ++ [z], by rw [List.map_append]; rfl, fun y hy => ?_⟩
            rcases List.mem_append.mp hy with hy | hy
            · exact hzs y hy
            · rw [List.mem_singleton.mp hy]
              exact List.mem_of_getElem? hz
          · exact cn_skip hm hl18 ha19 ⟨fz19, hF19, hM19, zs, rfl, hzs⟩
        · obtain ⟨fz18, hF18, hM18, zs, rfl, hzs⟩ := hP
          rw [List.length_map, List.length_map] at hl18
          walk_at "rd"
          refine i_tupleL (SqL.of ha) fun t19 H19 ht19 e19 h19 => ?_
          walk_at "rd"
          have hM19 := hM18.same e19
          obtain ⟨ysm, esm, hm1, hm2, hm3, hm4⟩ := hM18.same e19
          have hysm := IsL.length hm2
          refine i_appR hm1 (by omega) fun H20 e20 h20 => ?_
          walk_at "rd"
          exact ⟨_, _, _, rfl, ((fz17.trans fz18).trans e19.fz).trans (e20.fzL hm1), (hF18.same e19).put e20 hnd hnl, hM19.put (is_nm (SqT.of h19)) (mn_nm (fun z hz => hH.names.2 z (hzs z hz)) (by omega)) hm1 e20 h20⟩
      · obtain ⟨y6, y7, y8, rfl, fz17, hF17, hM17⟩ := hP
        walk_at "rd"
        refine ⟨v, ns, ps, rfl, hI16.hf_fz fz17, hH, fun u18 H18 Ls e18 hLs hU18 => ?_⟩
        have hLm := hLs.mem
        have hLl := hLs.len hH.w.irr
        have hM18 : Menu K H18 p 11 := (hM17.same e18)
        have fz18 := fz17.trans e18.fz
        refine for_is hU18 (frzL_nms Ls) (fun j σ H19 => ∃ y7 y8, σ = [some (.ref a), some (.ref d), some x, some v, some (.ref ua), some (.ref p), y6, y7, y8] ∧ Fz H18 H19 ∧ Feed H19 d l ∧ Menu K H19 p (11 + j)) ⟨_, _, rfl, .refl _, hF17.same e18, hM18⟩ (fun j σ' H' hP => ?_) (fun j D yv σ' H19 hD hyv hP => ?_) (fun σ' H19 hP => ?_)
        · obtain ⟨_, _, _, fz, _⟩ := hP
          exact fz
        · obtain ⟨y7, y8, rfl, fz19, hF19, hM19⟩ := hP
          rw [List.getElem?_map] at hD
          obtain ⟨L, hL, rfl⟩ := Option.map_eq_some_iff.mp hD
          have hLin := hLm L (List.mem_of_getElem? hL)
          have hjl : j < Ls.length := (List.getElem?_eq_some_iff.mp hL).1
          obtain ⟨ya, rfl, hSy⟩ := hyv.nm
          have hlive : ∃ ys, H19 p = some (.lst ys) := let ⟨ys, _, h, _⟩ := hM19; ⟨ys, h⟩
          obtain ⟨ysl, hysl⟩ := hlive
          walk_at "rd"
          refine i_itT hSy ?_
          refine comp_by (walk_tup (xs := L.map V.str)) (fun q m acc H20 => Fz H19 H20 ∧ Feed H20 d l ∧ Menu K H20 p (11 + j) ∧ ∃ zs : List Str, acc = zs.map V.str ∧ ∀ z ∈ zs, z ∈ ns) (fun q H' hq e h => ⟨e.fz, hF19.same e, hM19.same e, [], rfl, fun _ h => by cases h⟩) (fun q m acc H' hP => hP.1.seq hSy) (fun q m xv acc H20 hq hxv hm hl20 ha hP => ?_) fun q acc H20 hq ha hl20 hP => ?_
          · obtain ⟨fz20, hF20, hM20, zs, rfl, hzs⟩ := hP
            rw [List.getElem?_map] at hxv
            obtain ⟨z, hz, rfl⟩ := Option.map_eq_some_iff.mp hxv
            have hpq : p ≠ q := ne_of_none hysl hq
            walk_at "rd"
            refine ⟨d, l, _, rfl, hF20, by omega, by omega, fun c H21 hc0 hc1 e21 hF21 => ?_⟩
            have ha21 := e21 _ _ (hF20.lst ha) ha
            have fz21 := fz20.trans (hF20.fz e21)
            have hM21 := hM20.draw hF20 e21
            walk_at "rd"
            refine iteD (fun hc => ?_) (fun hc => ?_)
            · walk_at "rd"
              refine push_i (by rw [List.length_map]; omega) hm hl20 ha21 fun H22 e22 h22 => ⟨fz21.trans (e22.fzL ha21), hF21.put e22 (hF19.nd hq) (hF19.nl hq), hM21.fz (e22.fzL ha21) (fun _ g => e22 _ _ hpq g), zs ++ [z], by rw [List.map_append]; rfl, fun y hy => ?_⟩
              rcases List.mem_append.mp hy with hy | hy
              · exact hzs y hy
              · rw [List.mem_singleton.mp hy]
                exact hLin.2 z (List.mem_of_getElem? hz)
            · exact cn_skip hm hl20 ha21 ⟨fz21, hF21, hM21, zs, rfl, hzs⟩
          · obtain ⟨fz20, hF20, hM20, zs, rfl, hzs⟩ := hP
            rw [List.length_map, List.length_map] at hl20
            walk_at "rd"
            refine i_tupleL (SqL.of ha) fun t21 H21 ht21 e21 h21 => ?_
            walk_at "rd"
            have hM21 := hM20.same e21
            obtain ⟨ysm, esm, hm1, hm2, hm3, hm4⟩ := hM20.same e21
            have hysm := IsL.length hm2
            refine i_appR hm1 (by omega) fun H22 e22 h22 => ?_
            walk_at "rd"
            exact ⟨_, _, rfl, ((fz19.trans fz20).trans e21.fz).trans (e22.fzL hm1), (hF20.same e21).put e22 hnd hnl, hM21.put (is_nm (SqT.of h21)) (mn_nm (fun z hz => hH.names.2 z (hzs z hz)) (by have := hLin.1; omega)) hm1 e22 h22⟩
        · obtain ⟨y7, y8, rfl, fz19, hF19, hM19⟩ := hP
          rw [List.length_map] at hM19
          have fz1619 := fz18.trans fz19
          have hS19 := fz1619.seq hS16
          have hX19 := IsL.fz fz1619 _ _ (frzL_nms rows) hX16
          walk_at "rq"
          with_reducible refine i_cut (fun σ' H' => ∃ y8, σ' = [some (.ref a), some (.ref d), some x, some v, some (.ref ua), some (.ref p), y6, y7, y8] ∧ Fz H16 H' ∧ Feed H' d l ∧ Menu K H' p 30) (fun N hN => ?_) (fun σ1 H20 hM => ?_)
          · walk_at "rq"
            refine len12 hS19 ?_
            walk_at "rq"
            refine iteD (fun hc => ?_) (fun hc => ?_)
            · have hlive : ∃ ys, H19 p = some (.lst ys) := let ⟨ys, _, h, _⟩ := hM19; ⟨ys, h⟩
              obtain ⟨ysl, hysl⟩ := hlive
              obtain ⟨r0, r1, rest, rfl⟩ : ∃ r0 r1 rest, rows = r0 :: r1 :: rest := by
                match rows, hxl with
                | [], h => simp at h; simp [h] at hc
                | [_], h => simp at h; simp [h] at hc
                | r0 :: r1 :: rest, _ => exact ⟨r0, r1, rest, rfl⟩
              simp only [List.map_cons, L2.IsL] at hX19
              obtain ⟨v0, _, rfl, hv0, v1, xr, rfl, hv1, hXr⟩ := hX19
              obtain ⟨a0, rfl, hS0⟩ := hv0.nm
              obtain ⟨a1, rfl, hS1⟩ := hv1.nm
              have hlr : r0.length + r1.length + rest.flatten.length ≤ 10 := by
                simp only [List.flatten_cons, List.length_append] at hrf
                omega
              simp only [List.length_cons] at hrl
              have hxr : xr.length = rest.length := by simpa using hxl
              walk_at "rq"
              refine i_ixQ hS19 (show atI _ 0 = some (.ref a0) from atI_nat (j := 0) rfl) ?_
              walk_at "rq"
              refine i_ixQ hS19 (show atI _ 1 = some (.ref a1) from atI_nat (j := 1) rfl) ?_
              refine i_addT hS0 hS1 (line_of (by rw [List.length_map, List.length_map]; omega)) fun q20 H20 e20 h20 => ?_
              rw [← List.map_append] at h20
              walk_at "rq"
              refine i_newT (line_of (by simp)) fun q21 H21 hq21 e21 h21 => ?_
              walk_at "rq"
              refine i_slT ((e20.trans e21).seqT hS19) fun q22 H22 e22 h22 => ?_
              rw [cut_dropA (by omega)] at h22
              refine i_addT (SqT.of (e22 _ _ h21)) h22 (line_of (by rw [List.length_drop]; simp; omega)) fun q23 H23 e23 h23 => ?_
              walk_at "rq"
              have e1923 := ((e20.trans e21).trans e22).trans e23
              have h23p := e1923 _ _ hysl
              have hM23 := hM19.same e1923
              have hyl2 : ysl.length ≤ 30 := by
                obtain ⟨ys', es', g1, g2, _, g4⟩ := hM19
                rw [hysl] at g1
                cases g1
                rw [← IsL.length g2]
                omega
              refine i_appR h23p (by omega) fun H24 e24 h24 => ?_
              walk_at "rq"
              refine hN _ _ ⟨_, rfl, (fz1619.trans e1923.fz).trans (e24.fzL h23p), (hF19.same e1923).put e24 hnd hnl, ?_⟩
              have hput := hM23.put (e := lsD ((r0 ++ r1) :: rest)) (Is.of_tup h23 (.cons (is_nm (((e21.trans e22).trans e23).seqT h20)) (IsL.mono e1923 _ _ hXr))) (.inr ⟨_, rfl, fun r hr => ?_, by rw [List.flatten_cons, List.length_append, List.length_append]; omega, by rw [List.length_cons]; omega⟩) h23p e24 h24
              · obtain ⟨g1, g2, g3, g4, g5, g6⟩ := hput
                exact ⟨g1, g2, g3, g4, g5, by omega⟩
              · rcases List.mem_cons.mp hr with rfl | hr
                · intro z hz
                  rcases List.mem_append.mp hz with hz | hz
                  · exact hrn r0 (.head _) z hz
                  · exact hrn r1 (.tail _ (.head _)) z hz
                · exact hrn r (.tail _ (.tail _ hr))
            · walk_at "rq"
              obtain ⟨g1, g2, g3, g4, g5, g6⟩ := hM19
              exact hN _ _ ⟨_, rfl, fz1619, hF19, g1, g2, g3, g4, g5, by omega⟩
          · obtain ⟨y8, rfl, fz20, hF20, ys, es, h20, hL20, hmn, hel⟩ := hM
            walk_at "rd"
            refine i_itL (SqL.of h20) ?_
            refine for_by (walk_list (xs := ys)) (fun j σ H21 => ∃ y8, σ = [some (.ref a), some (.ref d), some x, some v, some (.ref ua), some (.ref p), y6, y7, y8] ∧ Fz H20 H21 ∧ Feed H21 d l ∧ H21 p = some (.lst ys)) ⟨_, rfl, .refl _, hF20, h20⟩ (fun j σ' H' hP => ?_) (fun j y σ' H21 hy hj hP => ?_) (fun σ' H21 hP => ?_)
            · obtain ⟨_, _, _, _, h⟩ := hP
              exact SqL.of h
            · obtain ⟨y8, rfl, fz21, hF21, h21⟩ := hP
              obtain ⟨D, hD, hIy⟩ := IsL.get (IsL.fz fz21 _ _ (mn_frz hmn) hL20) hy
              obtain ⟨hDk, hlf, hfr⟩ := mn_dk (hmn D (List.mem_of_getElem? hD))
              have hI21 := (hI16.hf_fz fz20).hf_fz fz21
              walk_at "rd"
              refine ⟨v, y, ns, ps, thO D, rfl, hI21, hH, .inl ⟨D, hIy, hDk.le (by omega) (by omega), by omega, rfl⟩, fun H22 e22 => ?_⟩
              walk_at "rd"
              refine ⟨d, l, y, D, 3, 4000, 30, 20, 3, rfl, hF21.same e22, Is.mono e22 _ _ hIy, hDk, by omega, by omega, by omega, hlf, by omega, fun v' D' H23 e23 hF23 hI23 hD23 hl23 => ?_⟩
              have fz23 := e22.fz.trans ((hF21.same e22).fz e23)
              walk_at "rd"
              refine ⟨v, v', ns, ps, thO D', rfl, hI21.hf_fz fz23, hH, .inl ⟨D', hI23, hD23.le (by omega) (by omega), by omega, rfl⟩, fun H24 e24 => ?_⟩
              walk_at "rd"
              exact ⟨_, rfl, (fz21.trans fz23).trans e24.fz, hF23.same e24, e24 _ _ (e23 _ _ ((hF21.same e22).lst (e22 _ _ h21)) (e22 _ _ h21))⟩
            · obtain ⟨y8, rfl, fz21, hF21, h21⟩ := hP
              have hI21 := (hI16.hf_fz fz20).hf_fz fz21
              walk_at "rd"
              refine i_newT (line_of (by simp)) fun t1 G1 hf1 f1 g1 => ?_
              walk_at "rd"
              refine i_newL (line_of (by simp)) fun t2 G2 hf2 f2 g2 => ?_
              walk_at "rd"
              refine i_newT (line_of (by simp)) fun t3 G3 hf3 f3 g3 => ?_
              walk_at "rd"
              refine i_newT (line_of (by simp)) fun t4 G4 hf4 f4 g4 => ?_
              walk_at "rd"
              refine i_newT (line_of (by simp)) fun t5 G5 hf5 f5 g5 => ?_
              walk_at "rd"
              refine i_newD fun t6 G6 hf6 f6 g6 => ?_
              walk_at "rd"
              refine i_newT (line_of (by simp)) fun t7 G7 hf7 f7 g7 => ?_
              have s6 := f7
              have s5 := f6.trans s6
              have s4 := f5.trans s5
              have s3 := f4.trans s4
              have s2 := f3.trans s3
              have s1 := f2.trans s2
              have s0 := f1.trans s1
              have hall : IsL K G7 [PyData.none, .bool true, .int 0, .str "", .str "a", .tuple [], .list [], .tuple [.tuple []], .tuple [.none]] [.non, .bl true, .int 0, .str "", .str "a", .ref t1, .ref t2, .ref t4, .ref t5] :=
                .cons (by simp only [Is]) (.cons is_bl (.cons is_int (.cons is_str (.cons is_str (.cons (Is.of_tup (SqT.of (s1 _ _ g1)) .nil) (.cons (Is.of_lst (SqL.of (s2 _ _ g2)) .nil) (.cons (Is.of_tup (SqT.of (s4 _ _ g4)) (.one (Is.of_tup (SqT.of (s3 _ _ g3)) .nil))) (.one (Is.of_tup (SqT.of (s5 _ _ g5)) (.one (by simp only [Is])))))))))))
              have hdic := s6 _ _ g6
              walk_at "rd"
              refine i_itT (SqT.of g7) ?_
              refine for_by (walk_tup (xs := [.non, .bl true, .int 0, .str "", .str "a", .ref t1, .ref t2, .ref t4, .ref t5, .ref t6])) (fun j σ H22 => ∃ y8, σ = [some (.ref a), some (.ref d), some x, some v, some (.ref ua), some (.ref p), y6, y7, y8] ∧ Same G7 H22) ⟨_, rfl, .refl _⟩ (fun j σ' H' hP => ?_) (fun j y σ' H22 hy hj hP => ?_) (fun σ' H22 hP => ?_)
              · obtain ⟨_, _, e⟩ := hP
                exact SqT.of (e _ _ g7)
              · obtain ⟨y8, rfl, e22⟩ := hP
                have hT : ∃ o, ThK K G7 y o := by
                  by_cases h9 : j < 9
                  · have hy9 : ([.non, .bl true, .int 0, .str "", .str "a", .ref t1, .ref t2, .ref t4, .ref t5] : List V)[j]? = some y := by
                      rw [show ([.non, .bl true, .int 0, .str "", .str "a", .ref t1, .ref t2, .ref t4, .ref t5, .ref t6] : List V) = [.non, .bl true, .int 0, .str "", .str "a", .ref t1, .ref t2, .ref t4, .ref t5] ++ [.ref t6] from rfl, List.getElem?_append_left (by simpa using h9)] at hy
                      exact hy
                    obtain ⟨D, hD, hIy⟩ := IsL.get hall hy9
                    have hDk := lits_ok D (List.mem_of_getElem? hD)
                    exact ⟨_, .inl ⟨D, hIy, hDk.1.le (by omega) (by omega), by omega, rfl⟩⟩
                  · have : j = 9 := by simp at hj; omega
                    subst this
                    have : y = .ref t6 := by simpa using hy.symm
                    subst this
                    exact ⟨none, .inr ⟨t6, rfl, hdic, rfl⟩⟩
                obtain ⟨o, hT⟩ := hT
                walk_at "rd"
                refine ⟨v, y, ns, ps, o, rfl, hI21.hf_fz (s0.trans e22).fz, hH, hT.same e22, fun H23 e23 => ?_⟩
                walk_at "rd"
                exact ⟨_, rfl, e22.trans e23⟩
              · obtain ⟨y8, rfl, e22⟩ := hP
                walk_at "rd"
                exact ⟨_, _, _, _, _, _, _, rfl, hF21.same (s0.trans e22)⟩
    · obtain ⟨x2, x3, x4, x5, x6, x7, x8, rfl, hF2⟩ := hP
      walk_at "rd"
      exact k H2
end
theorem all_mk {l : PySem.W.OpenLaw} {w : World} {K : PySem.W.Frag} {h : Heap} {mg : Str → Option Value} {fa f0 f1 f2 f3 f4 f5 f6 f7 f8 f9 f10 f11 f12 f13 f14 f15 f16 f17 f18 f19 f20 f21 f22 f23 f24 : Addr} (X : K.In h) (G : h.Ns mainGlobals mg) (hfa : mg "law" = some (.ref fa))
    {od0 an0 od1 an1 od2 an2 od3 an3 od4 an4 od5 an5 od6 an6 od7 an7 od8 an8 od9 an9 od10 an10 od11 an11 od12 an12 od13 an13 od14 an14 od15 an15 od16 an16 od17 an17 od18 an18 od19 an19 od20 an20 od21 an21 od22 an22 od23 an23 od24 an24 : Option Addr} {sl0 sl1 sl2 sl3 sl4 sl5 sl6 sl7 sl8 sl9 sl10 sl11 sl12 sl13 sl14 sl15 sl16 sl17 sl18 sl19 sl20 sl21 sl22 sl23 sl24 : Array (Option Value)} {oc0 kV0 dc0 pm0 cd0 ct0 oc1 kV1 dc1 pm1 cd1 ct1 oc2 kV2 dc2 pm2 cd2 ct2 oc3 kV3 dc3 pm3 cd3 ct3 oc4 kV4 dc4 pm4 cd4 ct4 oc5 kV5 dc5 pm5 cd5 ct5 oc6 kV6 dc6 pm6 cd6 ct6 oc7 kV7 dc7 pm7 cd7 ct7 oc8 kV8 dc8 pm8 cd8 ct8 oc9 kV9 dc9 pm9 cd9 ct9 oc10 kV10 dc10 pm10 cd10 ct10 oc11 kV11 dc11 pm11 cd11 ct11 oc12 kV12 dc12 pm12 cd12 ct12 oc13 kV13 dc13 pm13 cd13 ct13 oc14 kV14 dc14 pm14 cd14 ct14 oc15 kV15 dc15 pm15 cd15 ct15 oc16 kV16 dc16 pm16 cd16 ct16 oc17 kV17 dc17 pm17 cd17 ct17 oc18 kV18 dc18 pm18 cd18 ct18 oc19 kV19 dc19 pm19 cd19 ct19 oc20 kV20 dc20 pm20 cd20 ct20 oc21 kV21 dc21 pm21 cd21 ct21 oc22 kV22 dc22 pm22 cd22 ct22 oc23 kV23 dc23 pm23 cd23 ct23 oc24 kV24 dc24 pm24 cd24 ct24 : Value}
    (a0 : PySem.W.nsIn K mainGlobals "behind_each" = some (some (.ref f0))) (l0 : K.lookup f0 = some ⟨oc0, od0, .func (PySem.W.fnOf "behind_each" "behind_each" (defArgs s_behind_each) (defBody s_behind_each) (defScope s_behind_each) .none kV0 dc0 pm0 an0 cd0 ct0), sl0⟩) (c0 : PySem.W.codeIn K cd0 "behind_each" = true) (k0 : PySem.W.keepIn K (.ref f0) = true)
    (a1 : PySem.W.nsIn K mainGlobals "are_untold" = some (some (.ref f1))) (l1 : K.lookup f1 = some ⟨oc1, od1, .func (PySem.W.fnOf "are_untold" "are_untold" (defArgs s_are_untold) (defBody s_are_untold) (defScope s_are_untold) .none kV1 dc1 pm1 an1 cd1 ct1), sl1⟩) (c1 : PySem.W.codeIn K cd1 "are_untold" = true) (k1 : PySem.W.keepIn K (.ref f1) = true)
    (a2 : PySem.W.nsIn K mainGlobals "no_two_told" = some (some (.ref f2))) (l2 : K.lookup f2 = some ⟨oc2, od2, .func (PySem.W.fnOf "no_two_told" "no_two_told" (defArgs s_no_two_told) (defBody s_no_two_told) (defScope s_no_two_told) .none kV2 dc2 pm2 an2 cd2 ct2), sl2⟩) (c2 : PySem.W.codeIn K cd2 "no_two_told" = true) (k2 : PySem.W.keepIn K (.ref f2) = true)
    (a3 : PySem.W.nsIn K mainGlobals "is_bunch" = some (some (.ref f3))) (l3 : K.lookup f3 = some ⟨oc3, od3, .func (PySem.W.fnOf "is_bunch" "is_bunch" (defArgs s_is_bunch) (defBody s_is_bunch) (defScope s_is_bunch) .none kV3 dc3 pm3 an3 cd3 ct3), sl3⟩) (c3 : PySem.W.codeIn K cd3 "is_bunch" = true) (k3 : PySem.W.keepIn K (.ref f3) = true)
    (a4 : PySem.W.nsIn K mainGlobals "is_chain" = some (some (.ref f4))) (l4 : K.lookup f4 = some ⟨oc4, od4, .func (PySem.W.fnOf "is_chain" "is_chain" (defArgs s_is_chain) (defBody s_is_chain) (defScope s_is_chain) .none kV4 dc4 pm4 an4 cd4 ct4), sl4⟩) (c4 : PySem.W.codeIn K cd4 "is_chain" = true) (k4 : PySem.W.keepIn K (.ref f4) = true)
    (a5 : PySem.W.nsIn K mainGlobals "is_cover" = some (some (.ref f5))) (l5 : K.lookup f5 = some ⟨oc5, od5, .func (PySem.W.fnOf "is_cover" "is_cover" (defArgs s_is_cover) (defBody s_is_cover) (defScope s_is_cover) .none kV5 dc5 pm5 an5 cd5 ct5), sl5⟩) (c5 : PySem.W.codeIn K cd5 "is_cover" = true) (k5 : PySem.W.keepIn K (.ref f5) = true)
    (a6 : PySem.W.nsIn K mainGlobals "_law_feed" = some (some (.ref f6))) (l6 : K.lookup f6 = some ⟨oc6, od6, .func (PySem.W.fnOf "_law_feed" "_law_feed" (defArgs s__law_feed) (defBody s__law_feed) (defScope s__law_feed) .none kV6 dc6 pm6 an6 cd6 ct6), sl6⟩) (c6 : PySem.W.codeIn K cd6 "_law_feed" = true) (k6 : PySem.W.keepIn K (.ref f6) = true)
    (a7 : PySem.W.nsIn K mainGlobals "_law_draw" = some (some (.ref f7))) (l7 : K.lookup f7 = some ⟨oc7, od7, .func (PySem.W.fnOf "_law_draw" "_law_draw" (defArgs s__law_draw) (defBody s__law_draw) (defScope s__law_draw) .none kV7 dc7 pm7 an7 cd7 ct7), sl7⟩) (c7 : PySem.W.codeIn K cd7 "_law_draw" = true) (k7 : PySem.W.keepIn K (.ref f7) = true)
    (a8 : PySem.W.nsIn K mainGlobals "_law_names" = some (some (.ref f8))) (l8 : K.lookup f8 = some ⟨oc8, od8, .func (PySem.W.fnOf "_law_names" "_law_names" (defArgs s__law_names) (defBody s__law_names) (defScope s__law_names) .none kV8 dc8 pm8 an8 cd8 ct8), sl8⟩) (c8 : PySem.W.codeIn K cd8 "_law_names" = true) (k8 : PySem.W.keepIn K (.ref f8) = true)
    (a9 : PySem.W.nsIn K mainGlobals "_law_shuffled" = some (some (.ref f9))) (l9 : K.lookup f9 = some ⟨oc9, od9, .func (PySem.W.fnOf "_law_shuffled" "_law_shuffled" (defArgs s__law_shuffled) (defBody s__law_shuffled) (defScope s__law_shuffled) .none kV9 dc9 pm9 an9 cd9 ct9), sl9⟩) (c9 : PySem.W.codeIn K cd9 "_law_shuffled" = true) (k9 : PySem.W.keepIn K (.ref f9) = true)
    (a10 : PySem.W.nsIn K mainGlobals "_law_pairs" = some (some (.ref f10))) (l10 : K.lookup f10 = some ⟨oc10, od10, .func (PySem.W.fnOf "_law_pairs" "_law_pairs" (defArgs s__law_pairs) (defBody s__law_pairs) (defScope s__law_pairs) .none kV10 dc10 pm10 an10 cd10 ct10), sl10⟩) (c10 : PySem.W.codeIn K cd10 "_law_pairs" = true) (k10 : PySem.W.keepIn K (.ref f10) = true)
    (a11 : PySem.W.nsIn K mainGlobals "_law_sayings" = some (some (.ref f11))) (l11 : K.lookup f11 = some ⟨oc11, od11, .func (PySem.W.fnOf "_law_sayings" "_law_sayings" (defArgs s__law_sayings) (defBody s__law_sayings) (defScope s__law_sayings) .none kV11 dc11 pm11 an11 cd11 ct11), sl11⟩) (c11 : PySem.W.codeIn K cd11 "_law_sayings" = true) (k11 : PySem.W.keepIn K (.ref f11) = true)
    (a12 : PySem.W.nsIn K mainGlobals "_law_half" = some (some (.ref f12))) (l12 : K.lookup f12 = some ⟨oc12, od12, .func (PySem.W.fnOf "_law_half" "_law_half" (defArgs s__law_half) (defBody s__law_half) (defScope s__law_half) .none kV12 dc12 pm12 an12 cd12 ct12), sl12⟩) (c12 : PySem.W.codeIn K cd12 "_law_half" = true) (k12 : PySem.W.keepIn K (.ref f12) = true)
    (a13 : PySem.W.nsIn K mainGlobals "_law_behind" = some (some (.ref f13))) (l13 : K.lookup f13 = some ⟨oc13, od13, .func (PySem.W.fnOf "_law_behind" "_law_behind" (defArgs s__law_behind) (defBody s__law_behind) (defScope s__law_behind) .none kV13 dc13 pm13 an13 cd13 ct13), sl13⟩) (c13 : PySem.W.codeIn K cd13 "_law_behind" = true) (k13 : PySem.W.keepIn K (.ref f13) = true)
    (a14 : PySem.W.nsIn K mainGlobals "_law_table" = some (some (.ref f14))) (l14 : K.lookup f14 = some ⟨oc14, od14, .func (PySem.W.fnOf "_law_table" "_law_table" (defArgs s__law_table) (defBody s__law_table) (defScope s__law_table) .none kV14 dc14 pm14 an14 cd14 ct14), sl14⟩) (c14 : PySem.W.codeIn K cd14 "_law_table" = true) (k14 : PySem.W.keepIn K (.ref f14) = true)
    (a15 : PySem.W.nsIn K mainGlobals "_law_closed" = some (some (.ref f15))) (l15 : K.lookup f15 = some ⟨oc15, od15, .func (PySem.W.fnOf "_law_closed" "_law_closed" (defArgs s__law_closed) (defBody s__law_closed) (defScope s__law_closed) .none kV15 dc15 pm15 an15 cd15 ct15), sl15⟩) (c15 : PySem.W.codeIn K cd15 "_law_closed" = true) (k15 : PySem.W.keepIn K (.ref f15) = true)
    (a16 : PySem.W.nsIn K mainGlobals "_law_odd" = some (some (.ref f16))) (l16 : K.lookup f16 = some ⟨oc16, od16, .func (PySem.W.fnOf "_law_odd" "_law_odd" (defArgs s__law_odd) (defBody s__law_odd) (defScope s__law_odd) .none kV16 dc16 pm16 an16 cd16 ct16), sl16⟩) (c16 : PySem.W.codeIn K cd16 "_law_odd" = true) (k16 : PySem.W.keepIn K (.ref f16) = true)
    (a17 : PySem.W.nsIn K mainGlobals "_law_bent" = some (some (.ref f17))) (l17 : K.lookup f17 = some ⟨oc17, od17, .func (PySem.W.fnOf "_law_bent" "_law_bent" (defArgs s__law_bent) (defBody s__law_bent) (defScope s__law_bent) .none kV17 dc17 pm17 an17 cd17 ct17), sl17⟩) (c17 : PySem.W.codeIn K cd17 "_law_bent" = true) (k17 : PySem.W.keepIn K (.ref f17) = true)
    (a18 : PySem.W.nsIn K mainGlobals "_law_layers" = some (some (.ref f18))) (l18 : K.lookup f18 = some ⟨oc18, od18, .func (PySem.W.fnOf "_law_layers" "_law_layers" (defArgs s__law_layers) (defBody s__law_layers) (defScope s__law_layers) .none kV18 dc18 pm18 an18 cd18 ct18), sl18⟩) (c18 : PySem.W.codeIn K cd18 "_law_layers" = true) (k18 : PySem.W.keepIn K (.ref f18) = true)
    (a19 : PySem.W.nsIn K mainGlobals "_law_is_chain" = some (some (.ref f19))) (l19 : K.lookup f19 = some ⟨oc19, od19, .func (PySem.W.fnOf "_law_is_chain" "_law_is_chain" (defArgs s__law_is_chain) (defBody s__law_is_chain) (defScope s__law_is_chain) .none kV19 dc19 pm19 an19 cd19 ct19), sl19⟩) (c19 : PySem.W.codeIn K cd19 "_law_is_chain" = true) (k19 : PySem.W.keepIn K (.ref f19) = true)
    (a20 : PySem.W.nsIn K mainGlobals "_law_is_bunch" = some (some (.ref f20))) (l20 : K.lookup f20 = some ⟨oc20, od20, .func (PySem.W.fnOf "_law_is_bunch" "_law_is_bunch" (defArgs s__law_is_bunch) (defBody s__law_is_bunch) (defScope s__law_is_bunch) .none kV20 dc20 pm20 an20 cd20 ct20), sl20⟩) (c20 : PySem.W.codeIn K cd20 "_law_is_bunch" = true) (k20 : PySem.W.keepIn K (.ref f20) = true)
    (a21 : PySem.W.nsIn K mainGlobals "_law_is_cover" = some (some (.ref f21))) (l21 : K.lookup f21 = some ⟨oc21, od21, .func (PySem.W.fnOf "_law_is_cover" "_law_is_cover" (defArgs s__law_is_cover) (defBody s__law_is_cover) (defScope s__law_is_cover) .none kV21 dc21 pm21 an21 cd21 ct21), sl21⟩) (c21 : PySem.W.codeIn K cd21 "_law_is_cover" = true) (k21 : PySem.W.keepIn K (.ref f21) = true)
    (a22 : PySem.W.nsIn K mainGlobals "_law_some_cover" = some (some (.ref f22))) (l22 : K.lookup f22 = some ⟨oc22, od22, .func (PySem.W.fnOf "_law_some_cover" "_law_some_cover" (defArgs s__law_some_cover) (defBody s__law_some_cover) (defScope s__law_some_cover) .none kV22 dc22 pm22 an22 cd22 ct22), sl22⟩) (c22 : PySem.W.codeIn K cd22 "_law_some_cover" = true) (k22 : PySem.W.keepIn K (.ref f22) = true)
    (a23 : PySem.W.nsIn K mainGlobals "_law_right" = some (some (.ref f23))) (l23 : K.lookup f23 = some ⟨oc23, od23, .func (PySem.W.fnOf "_law_right" "_law_right" (defArgs s__law_right) (defBody s__law_right) (defScope s__law_right) .none kV23 dc23 pm23 an23 cd23 ct23), sl23⟩) (c23 : PySem.W.codeIn K cd23 "_law_right" = true) (k23 : PySem.W.keepIn K (.ref f23) = true)
    (a24 : PySem.W.nsIn K mainGlobals "law" = some (some (.ref f24))) (l24 : K.lookup f24 = some ⟨oc24, od24, .func (PySem.W.fnOf "law" "law" (defArgs s_law) (defBody s_law) (defScope s_law) .none kV24 dc24 pm24 an24 cd24 ct24), sl24⟩) (c24 : PySem.W.codeIn K cd24 "law" = true) (k24 : PySem.W.keepIn K (.ref f24) = true)
    (z0 : PySem.W.nsIn K mainGlobals "all" = some none)
    (z1 : PySem.W.nsIn K mainGlobals "dict" = some none)
    (z2 : PySem.W.nsIn K mainGlobals "enumerate" = some none)
    (z3 : PySem.W.nsIn K mainGlobals "int" = some none)
    (z4 : PySem.W.nsIn K mainGlobals "isinstance" = some none)
    (z5 : PySem.W.nsIn K mainGlobals "len" = some none)
    (z6 : PySem.W.nsIn K mainGlobals "list" = some none)
    (z7 : PySem.W.nsIn K mainGlobals "range" = some none)
    (z8 : PySem.W.nsIn K mainGlobals "repr" = some none)
    (z9 : PySem.W.nsIn K mainGlobals "sorted" = some none)
    (z10 : PySem.W.nsIn K mainGlobals "str" = some none)
    (z11 : PySem.W.nsIn K mainGlobals "tuple" = some none)
    (z12 : PySem.W.nsIn K mainGlobals "zip" = some none)
    : ∃ fd : FuncData, (∀ (s : Shared) (v : Value), BindsTo s fd ⟨[v], []⟩ [("_law_script", v)]) ∧ ∀ base : Heap, K.In base → base.Ns mainGlobals mg → FnOk l.prog w K mg base CX0 15 fa fd ["_law_script"] (spLaw K) := by
  have e := hfa.symm.trans (PySem.W.mg_of X G a24)
  cases e
  have T : TopF mg := ⟨PySem.W.mg_none_of X G z0, PySem.W.mg_none_of X G z1, PySem.W.mg_none_of X G z2, PySem.W.mg_none_of X G z3, PySem.W.mg_none_of X G z4, PySem.W.mg_none_of X G z5, PySem.W.mg_none_of X G z6, PySem.W.mg_none_of X G z7, PySem.W.mg_none_of X G z8, PySem.W.mg_none_of X G z9, PySem.W.mg_none_of X G z10, PySem.W.mg_none_of X G z11, PySem.W.mg_none_of X G z12⟩
  have F0 := fun_mk (st := s_behind_each) l0 c0 k0
  have b0 : Binds K _ ["half"] [] := binds1 F0 fun _ _ _ _ _ _ _ => rfl
  have F1 := fun_mk (st := s_are_untold) l1 c1 k1
  have b1 : Binds K _ ["reach", "one", "other"] [] := binds3 F1 fun _ _ _ _ _ _ _ _ _ => rfl
  have F2 := fun_mk (st := s_no_two_told) l2 c2 k2
  have b2 : Binds K _ ["reach", "names"] [] := binds2 F2 fun _ _ _ _ _ _ _ _ => rfl
  have F3 := fun_mk (st := s_is_bunch) l3 c3 k3
  have b3 : Binds K _ ["half", "thing"] [] := binds2 F3 fun _ _ _ _ _ _ _ _ => rfl
  have F4 := fun_mk (st := s_is_chain) l4 c4 k4
  have b4 : Binds K _ ["names", "reach", "thing"] [] := binds3 F4 fun _ _ _ _ _ _ _ _ _ => rfl
  have F5 := fun_mk (st := s_is_cover) l5 c5 k5
  have b5 : Binds K _ ["half", "thing"] [] := binds2 F5 fun _ _ _ _ _ _ _ _ => rfl
  have F6 := fun_mk (st := s__law_feed) l6 c6 k6
  have b6 : Binds K _ ["_law_script"] [] := binds1 F6 fun _ _ _ _ _ _ _ => rfl
  have F7 := fun_mk (st := s__law_draw) l7 c7 k7
  have b7 : Binds K _ ["_law_feed_here", "_law_many"] [] := binds2 F7 fun _ _ _ _ _ _ _ _ => rfl
  have F8 := fun_mk (st := s__law_names) l8 c8 k8
  have b8 : Binds K _ ["_law_feed_here", "_law_many"] [] := binds2 F8 fun _ _ _ _ _ _ _ _ => rfl
  have F9 := fun_mk (st := s__law_shuffled) l9 c9 k9
  have b9 : Binds K _ ["_law_feed_here", "_law_some"] [] := binds2 F9 fun _ _ _ _ _ _ _ _ => rfl
  have F10 := fun_mk (st := s__law_pairs) l10 c10 k10
  have b10 : Binds K _ ["_law_feed_here", "_law_line"] [] := binds2 F10 fun _ _ _ _ _ _ _ _ => rfl
  have F11 := fun_mk (st := s__law_sayings) l11 c11 k11
  have b11 : Binds K _ ["_law_feed_here", "_law_line"] [] := binds2 F11 fun _ _ _ _ _ _ _ _ => rfl
  have F12 := fun_mk (st := s__law_half) l12 c12 k12
  have b12 : Binds K _ ["_law_feed_here", "_law_most"] [] := binds2 F12 fun _ _ _ _ _ _ _ _ => rfl
  have F13 := fun_mk (st := s__law_behind) l13 c13 k13
  have b13 : Binds K _ ["_law_half_here", "_law_name"] [] := binds2 F13 fun _ _ _ _ _ _ _ _ => rfl
  have F14 := fun_mk (st := s__law_table) l14 c14 k14
  have b14 : Binds K _ ["_law_half_here"] [] := binds1 F14 fun _ _ _ _ _ _ _ => rfl
  have F15 := fun_mk (st := s__law_closed) l15 c15 k15
  have b15 : Binds K _ ["_law_half_here"] [] := binds1 F15 fun _ _ _ _ _ _ _ => rfl
  have F16 := fun_mk (st := s__law_odd) l16 c16 k16
  have b16 : Binds K _ ["_law_feed_here", "_law_part"] [] := binds2 F16 fun _ _ _ _ _ _ _ _ => rfl
  have F17 := fun_mk (st := s__law_bent) l17 c17 k17
  have b17 : Binds K _ ["_law_feed_here", "_law_part", "_law_deep"] [] := binds3 F17 fun _ _ _ _ _ _ _ _ _ => rfl
  have F18 := fun_mk (st := s__law_layers) l18 c18 k18
  have b18 : Binds K _ ["_law_half_here"] [] := binds1 F18 fun _ _ _ _ _ _ _ => rfl
  have F19 := fun_mk (st := s__law_is_chain) l19 c19 k19
  have b19 : Binds K _ ["_law_half_here", "_law_thing"] [] := binds2 F19 fun _ _ _ _ _ _ _ _ => rfl
  have F20 := fun_mk (st := s__law_is_bunch) l20 c20 k20
  have b20 : Binds K _ ["_law_half_here", "_law_thing"] [] := binds2 F20 fun _ _ _ _ _ _ _ _ => rfl
  have F21 := fun_mk (st := s__law_is_cover) l21 c21 k21
  have b21 : Binds K _ ["_law_half_here", "_law_thing"] [] := binds2 F21 fun _ _ _ _ _ _ _ _ => rfl
  have F22 := fun_mk (st := s__law_some_cover) l22 c22 k22
  have b22 : Binds K _ ["_law_feed_here", "_law_half_here"] [] := binds2 F22 fun _ _ _ _ _ _ _ _ => rfl
  have F23 := fun_mk (st := s__law_right) l23 c23 k23
  have b23 : Binds K _ ["_law_half_here", "_law_thing"] [] := binds2 F23 fun _ _ _ _ _ _ _ _ => rfl
  have F24 := fun_mk (st := s_law) l24 c24 k24
  refine ⟨PySem.W.fnOf "law" "law" (defArgs s_law) (defBody s_law) (defScope s_law) .none kV24 dc24 pm24 an24 cd24 ct24, fun s v => .of_eq rfl, fun base _ _ => ?_⟩
  have c_behind_each : Fnd l.prog w K mg base 1 "behind_each" ["half"] (sp_behind_each K) := ⟨_, _, ok_behind_each F0 T, PySem.W.mg_of X G a0, k0, b0⟩
  have c_are_untold : Fnd l.prog w K mg base 1 "are_untold" ["reach", "one", "other"] (sp_are_untold K) := ⟨_, _, ok_are_untold F1 T, PySem.W.mg_of X G a1, k1, b1⟩
  have c_is_chain : Fnd l.prog w K mg base 1 "is_chain" ["names", "reach", "thing"] (sp_is_chain K) := ⟨_, _, ok_is_chain F4 T, PySem.W.mg_of X G a4, k4, b4⟩
  have c__law_feed : Fnd l.prog w K mg base 1 "_law_feed" ["_law_script"] (sp__law_feed K) := ⟨_, _, ok__law_feed F6 T, PySem.W.mg_of X G a6, k6, b6⟩
  have c__law_draw : Fnd l.prog w K mg base 1 "_law_draw" ["_law_feed_here", "_law_many"] (sp__law_draw K) := ⟨_, _, ok__law_draw F7 T, PySem.W.mg_of X G a7, k7, b7⟩
  have c__law_behind : Fnd l.prog w K mg base 1 "_law_behind" ["_law_half_here", "_law_name"] (sp__law_behind K) := ⟨_, _, ok__law_behind F13 T, PySem.W.mg_of X G a13, k13, b13⟩
  have c_no_two_told : Fnd l.prog w K mg base 2 "no_two_told" ["reach", "names"] (sp_no_two_told K) := ⟨_, _, ok_no_two_told F2 T c_are_untold, PySem.W.mg_of X G a2, k2, b2⟩
  have c_is_cover : Fnd l.prog w K mg base 2 "is_cover" ["half", "thing"] (sp_is_cover K) := ⟨_, _, ok_is_cover F5 T c_behind_each c_is_chain, PySem.W.mg_of X G a5, k5, b5⟩
  have c__law_names : Fnd l.prog w K mg base 2 "_law_names" ["_law_feed_here", "_law_many"] (sp__law_names K) := ⟨_, _, ok__law_names F8 T c__law_draw, PySem.W.mg_of X G a8, k8, b8⟩
  have c__law_shuffled : Fnd l.prog w K mg base 2 "_law_shuffled" ["_law_feed_here", "_law_some"] (sp__law_shuffled K) := ⟨_, _, ok__law_shuffled F9 T c__law_draw, PySem.W.mg_of X G a9, k9, b9⟩
  have c__law_pairs : Fnd l.prog w K mg base 2 "_law_pairs" ["_law_feed_here", "_law_line"] (sp__law_pairs K) := ⟨_, _, ok__law_pairs F10 T c__law_draw, PySem.W.mg_of X G a10, k10, b10⟩
  have c__law_table : Fnd l.prog w K mg base 2 "_law_table" ["_law_half_here"] (sp__law_table K) := ⟨_, _, ok__law_table F14 T c__law_behind, PySem.W.mg_of X G a14, k14, b14⟩
  have c__law_odd : Fnd l.prog w K mg base 2 "_law_odd" ["_law_feed_here", "_law_part"] (sp__law_odd K) := ⟨_, _, ok__law_odd F16 T c__law_draw, PySem.W.mg_of X G a16, k16, b16⟩
  have c__law_is_chain : Fnd l.prog w K mg base 2 "_law_is_chain" ["_law_half_here", "_law_thing"] (sp__law_is_chain K) := ⟨_, _, ok__law_is_chain F19 T c__law_behind, PySem.W.mg_of X G a19, k19, b19⟩
  have c_is_bunch : Fnd l.prog w K mg base 3 "is_bunch" ["half", "thing"] (sp_is_bunch K) := ⟨_, _, ok_is_bunch F3 T c_behind_each c_no_two_told, PySem.W.mg_of X G a3, k3, b3⟩
  have c__law_sayings : Fnd l.prog w K mg base 3 "_law_sayings" ["_law_feed_here", "_law_line"] (sp__law_sayings K) := ⟨_, _, ok__law_sayings F11 T c__law_draw c__law_pairs, PySem.W.mg_of X G a11, k11, b11⟩
  have c__law_closed : Fnd l.prog w K mg base 3 "_law_closed" ["_law_half_here"] (sp__law_closed K) := ⟨_, _, ok__law_closed F15 T c__law_table, PySem.W.mg_of X G a15, k15, b15⟩
  have c__law_layers : Fnd l.prog w K mg base 3 "_law_layers" ["_law_half_here"] (sp__law_layers K) := ⟨_, _, ok__law_layers F18 T c__law_table, PySem.W.mg_of X G a18, k18, b18⟩
  have c__law_is_cover : Fnd l.prog w K mg base 3 "_law_is_cover" ["_law_half_here", "_law_thing"] (sp__law_is_cover K) := ⟨_, _, ok__law_is_cover F21 T c__law_is_chain, PySem.W.mg_of X G a21, k21, b21⟩
  have c__law_half : Fnd l.prog w K mg base 4 "_law_half" ["_law_feed_here", "_law_most"] (sp__law_half K) := ⟨_, _, ok__law_half F12 T c__law_draw c__law_names c__law_shuffled c__law_sayings, PySem.W.mg_of X G a12, k12, b12⟩
  have c__law_is_bunch : Fnd l.prog w K mg base 4 "_law_is_bunch" ["_law_half_here", "_law_thing"] (sp__law_is_bunch K) := ⟨_, _, ok__law_is_bunch F20 T c__law_closed, PySem.W.mg_of X G a20, k20, b20⟩
  have c__law_some_cover : Fnd l.prog w K mg base 4 "_law_some_cover" ["_law_feed_here", "_law_half_here"] (sp__law_some_cover K) := ⟨_, _, ok__law_some_cover F22 T c__law_draw c__law_behind c__law_layers, PySem.W.mg_of X G a22, k22, b22⟩
  have c__law_right : Fnd l.prog w K mg base 5 "_law_right" ["_law_half_here", "_law_thing"] (sp__law_right K) := ⟨_, _, ok__law_right F23 T c_is_bunch c_is_cover c__law_is_bunch c__law_is_cover, PySem.W.mg_of X G a23, k23, b23⟩
  have c__law_bent : Fnd l.prog w K mg base 14 "_law_bent" ["_law_feed_here", "_law_part", "_law_deep"] (sp__law_bent K) := ⟨_, _, ok__law_bent F17 T c__law_draw c__law_odd (PySem.W.mg_of X G a17) k17 b17, PySem.W.mg_of X G a17, k17, b17⟩
  exact ok_law F24 T c__law_feed c__law_draw c__law_shuffled c__law_half c__law_bent c__law_layers c__law_some_cover c__law_right
theorem walk {l : PySem.W.OpenLaw} {q : Program} {loose : List Str} {XP : (Str → Option Value) → Heap → Prop} {YP : World → Heap → Prop} {d : DefRec} {K : Params → PySem.W.Frag} (hn : l.most = some 63) (hdf : d.params.defaults = [])
    (hY : ∀ (w : World) (h : Heap), YP w h → (K w.params).In h)
    (F : ∀ (w : World) (mg : Str → Option Value) (fa : Addr) (h : Heap), (K w.params).In h → h.Ns mainGlobals mg → mg d.name = some (.ref fa) →
      ∃ fd : FuncData, (∀ (s : Shared) (u : Value), BindsTo s fd ⟨[u], []⟩ [("_law_script", u)]) ∧ ∀ base : Heap, (K w.params).In base → base.Ns mainGlobals mg → FnOk l.prog w (K w.params) mg base CX0 15 fa fd ["_law_script"] (spLaw (K w.params))) :
    PySem.W.WalkO q loose XP YP l.row.toRowW d [] (fun f vs => PySem.call f vs) :=
  L2.walk_of (n := 63) (k := 15) (x := "_law_script") (CX := fun _ => CX0) (sp := fun w => spLaw (K w.params)) hn (by decide) hdf ⟨rfl, by decide, by decide, rfl⟩ hY F (fun _ _ a ns hl _ hS => ⟨a, ns, rfl, hS, hl, fun _ => rfl⟩) fun _ _ _ _ _ z => z
end K12
theorem PySem.W.Fast.tw7044543065849478034 : True := trivial
theorem PySem.W.Fast.tw13628197267828128791 : True := trivial
theorem PySem.W.Fast.tw3306599070568994114 : True := trivial
theorem PySem.W.Fast.tw7675339813368256796 : True := trivial
theorem PySem.W.Fast.tw16069092058122790011 : True := trivial
theorem PySem.W.Fast.tw15847802168786187277 : True := trivial
theorem PySem.W.Fast.tw17497181808784388703 : True := trivial
theorem PySem.W.Fast.tw2379009204725506746 : True := trivial
theorem PySem.W.Fast.tw9813636439878967114 : True := trivial
theorem PySem.W.Fast.tw17184240428761571065 : True := trivial
theorem PySem.W.Fast.tw17131765815303730900 : True := trivial
theorem PySem.W.Fast.tw15420967130453459260 : True := trivial
theorem PySem.W.Fast.tw12416004666121861297 : True := trivial
theorem PySem.W.Fast.tw17811408893783509250 : True := trivial
theorem PySem.W.Fast.tw1698842981626744806 : True := trivial
theorem PySem.W.Fast.tw4669917203004931387 : True := trivial
theorem PySem.W.Fast.tw3458812753548935982 : True := trivial
theorem PySem.W.Fast.tw12495183162553031615 : True := trivial
theorem PySem.W.Fast.tw11271705917754851074 : True := trivial
theorem PySem.W.Fast.tw14230518336219597697 : True := trivial
theorem PySem.W.Fast.tw11742497764864385462 : True := trivial
theorem PySem.W.Fast.tw14540812183768909161 : True := trivial
theorem PySem.W.Fast.tw16334250426680968428 : True := trivial
theorem PySem.W.Fast.tw10703530307991665428 : True := trivial
theorem PySem.W.Fast.tw6054676177928802904 : True := trivial
theorem PySem.W.Fast.tw5054698446918448560 : True := trivial
theorem PySem.W.Fast.tw11010141364544740705 : True := trivial
theorem PySem.W.Fast.tw1855895507433594287 : True := trivial
theorem PySem.W.Fast.tw6576792710068601934 : True := trivial
theorem PySem.W.Fast.tw3299433151662033478 : True := trivial
theorem PySem.W.Fast.tw11939651073695213008 : True := trivial
theorem PySem.W.Fast.tw8350725647400694142 : True := trivial
theorem PySem.W.Fast.tw4777604981864749139 : True := trivial
theorem PySem.W.Fast.tw12805199109430799857 : True := trivial
theorem PySem.W.Fast.tw16200984843606150186 : True := trivial
theorem PySem.W.Fast.tw6807020790805091824 : True := trivial
theorem PySem.W.Fast.tw12578238790549690026 : True := trivial
theorem PySem.W.Fast.tw2241323284841078026 : True := trivial
theorem PySem.W.Fast.tw14682340263776945458 : True := trivial
theorem PySem.W.Fast.tw1311835198753393094 : True := trivial
theorem PySem.W.Fast.tw4409537754069602801 : True := trivial
theorem PySem.W.Fast.tw12113386485061834567 : True := trivial
theorem PySem.W.Fast.tw13533212003848137318 : True := trivial
theorem PySem.W.Fast.tw3618228972352314467 : True := trivial
theorem PySem.W.Fast.tw9202055963307197488 : True := trivial
theorem PySem.W.Fast.tw11715289706472173109 : True := trivial
theorem PySem.W.Fast.tw15810376075843435772 : True := trivial
theorem PySem.W.Fast.tw7735994320892377479 : True := trivial
theorem PySem.W.Fast.tw12633094642897025166 : True := trivial
theorem PySem.W.Fast.tw1076451631618229642 : True := trivial
theorem PySem.W.Fast.tw7389128999303485710 : True := trivial
theorem PySem.W.Fast.tw426378145696119221 : True := trivial
open PySem PySem.W PyProof.Rows
set_option maxRecDepth 100000 in
set_option maxHeartbeats 0 in
theorem PySem.Challenge.cw_halforder_k12_bunches_and_covers_of_any_holds : PySem.Challenge.rw_halforder_k12_bunches_and_covers_of_any.Holds := by
  w_on; o_law; k_head; (case hw => w_witness2)
  k_fill
  refine K12.walk (l := PySem.Challenge.rw_halforder_k12_bunches_and_covers_of_any) rfl rfl (fun w h Y => PySem.W.kIn_of Y) ?F
  case F =>
    intro w mg fa h KX G hmg
    refine' K12.all_mk KX G hmg ?q_a0 ?q_l0 ?q_c0 ?q_k0 ?q_a1 ?q_l1 ?q_c1 ?q_k1 ?q_a2 ?q_l2 ?q_c2 ?q_k2 ?q_a3 ?q_l3 ?q_c3 ?q_k3 ?q_a4 ?q_l4 ?q_c4 ?q_k4 ?q_a5 ?q_l5 ?q_c5 ?q_k5 ?q_a6 ?q_l6 ?q_c6 ?q_k6 ?q_a7 ?q_l7 ?q_c7 ?q_k7 ?q_a8 ?q_l8 ?q_c8 ?q_k8 ?q_a9 ?q_l9 ?q_c9 ?q_k9 ?q_a10 ?q_l10 ?q_c10 ?q_k10 ?q_a11 ?q_l11 ?q_c11 ?q_k11 ?q_a12 ?q_l12 ?q_c12 ?q_k12 ?q_a13 ?q_l13 ?q_c13 ?q_k13 ?q_a14 ?q_l14 ?q_c14 ?q_k14 ?q_a15 ?q_l15 ?q_c15 ?q_k15 ?q_a16 ?q_l16 ?q_c16 ?q_k16 ?q_a17 ?q_l17 ?q_c17 ?q_k17 ?q_a18 ?q_l18 ?q_c18 ?q_k18 ?q_a19 ?q_l19 ?q_c19 ?q_k19 ?q_a20 ?q_l20 ?q_c20 ?q_k20 ?q_a21 ?q_l21 ?q_c21 ?q_k21 ?q_a22 ?q_l22 ?q_c22 ?q_k22 ?q_a23 ?q_l23 ?q_c23 ?q_k23 ?q_a24 ?q_l24 ?q_c24 ?q_k24 ?q_z0 ?q_z1 ?q_z2 ?q_z3 ?q_z4 ?q_z5 ?q_z6 ?q_z7 ?q_z8 ?q_z9 ?q_z10 ?q_z11 ?q_z12
    (case q_a0 => k_is)
    (case q_l0 => k_is)
    (case q_c0 => k_is)
    (case q_k0 => k_is)
    (case q_a1 => k_is)
    (case q_l1 => k_is)
    (case q_c1 => k_is)
    (case q_k1 => k_is)
    (case q_a2 => k_is)
    (case q_l2 => k_is)
    (case q_c2 => k_is)
    (case q_k2 => k_is)
    (case q_a3 => k_is)
    (case q_l3 => k_is)
    (case q_c3 => k_is)
    (case q_k3 => k_is)
    (case q_a4 => k_is)
    (case q_l4 => k_is)
    (case q_c4 => k_is)
    (case q_k4 => k_is)
    (case q_a5 => k_is)
    (case q_l5 => k_is)
    (case q_c5 => k_is)
    (case q_k5 => k_is)
    (case q_a6 => k_is)
    (case q_l6 => k_is)
    (case q_c6 => k_is)
    (case q_k6 => k_is)
    (case q_a7 => k_is)
    (case q_l7 => k_is)
    (case q_c7 => k_is)
    (case q_k7 => k_is)
    (case q_a8 => k_is)
    (case q_l8 => k_is)
    (case q_c8 => k_is)
    (case q_k8 => k_is)
    (case q_a9 => k_is)
    (case q_l9 => k_is)
    (case q_c9 => k_is)
    (case q_k9 => k_is)
    (case q_a10 => k_is)
    (case q_l10 => k_is)
    (case q_c10 => k_is)
    (case q_k10 => k_is)
    (case q_a11 => k_is)
    (case q_l11 => k_is)
    (case q_c11 => k_is)
    (case q_k11 => k_is)
    (case q_a12 => k_is)
    (case q_l12 => k_is)
    (case q_c12 => k_is)
    (case q_k12 => k_is)
    (case q_a13 => k_is)
    (case q_l13 => k_is)
    (case q_c13 => k_is)
    (case q_k13 => k_is)
    (case q_a14 => k_is)
    (case q_l14 => k_is)
    (case q_c14 => k_is)
    (case q_k14 => k_is)
    (case q_a15 => k_is)
    (case q_l15 => k_is)
    (case q_c15 => k_is)
    (case q_k15 => k_is)
    (case q_a16 => k_is)
    (case q_l16 => k_is)
    (case q_c16 => k_is)
    (case q_k16 => k_is)
    (case q_a17 => k_is)
    (case q_l17 => k_is)
    (case q_c17 => k_is)
    (case q_k17 => k_is)
    (case q_a18 => k_is)
    (case q_l18 => k_is)
    (case q_c18 => k_is)
    (case q_k18 => k_is)
    (case q_a19 => k_is)
    (case q_l19 => k_is)
    (case q_c19 => k_is)
    (case q_k19 => k_is)
    (case q_a20 => k_is)
    (case q_l20 => k_is)
    (case q_c20 => k_is)
    (case q_k20 => k_is)
    (case q_a21 => k_is)
    (case q_l21 => k_is)
    (case q_c21 => k_is)
    (case q_k21 => k_is)
    (case q_a22 => k_is)
    (case q_l22 => k_is)
    (case q_c22 => k_is)
    (case q_k22 => k_is)
    (case q_a23 => k_is)
    (case q_l23 => k_is)
    (case q_c23 => k_is)
    (case q_k23 => k_is)
    (case q_a24 => k_is)
    (case q_l24 => k_is)
    (case q_c24 => k_is)
    (case q_k24 => k_is)
    (case q_z0 => k_is)
    (case q_z1 => k_is)
    (case q_z2 => k_is)
    (case q_z3 => k_is)
    (case q_z4 => k_is)
    (case q_z5 => k_is)
    (case q_z6 => k_is)
    (case q_z7 => k_is)
    (case q_z8 => k_is)
    (case q_z9 => k_is)
    (case q_z10 => k_is)
    (case q_z11 => k_is)
    (case q_z12 => k_is)
