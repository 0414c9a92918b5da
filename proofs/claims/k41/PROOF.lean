import PyProof.Rows.All
import Wide.All
import OpenK.AllK
import Wide.FinOn
import PyProof.EqAt
import PyProof.EqKinds
import PyProof.TupleCall
import Lean
import PyProof.DictWalks
import PyProof.DictIter
import PyProof.P3In
import KE.KEqSeq
import PyProof.ReprLen
import PyProof.ReprRoads
import PyProof.StrOps2
import KE.KRevSl
import PyProof.IsRules
import PyProof.StrLawsIdx
import PyProof.Rows.RegRepr
import PyProof.Rows.RegFStrParts
import PyProof.DictUpdate
import PyProof.AttrMissHeap
import PyProof.Walks
import KE.KDictOf
import PyProof.EnumIter
import PyProof.EnumFor
import PyProof.LayNew
import PyProof.EnumMake
import PyProof.Draws
import PyProof.WalksT
import PyProof.TupleIter
import PyProof.WalksMore
import KE.KRevIter
import KE.KEqDict
import PyProof.Rows.SetFrom
import PyProof.StrLawsTight
import PyProof.StrLawsChain
import PyProof.SumWalk
import PyProof.Rows.SortStr
import PyProof.Rows.SortWalk
import PyProof.TupleOfSeq
import KE.KDictSum
import KE.KSortTup
import PyProof.ListRange
import PyProof.ZipIter
import PyProof.Rows.ZipGen
import KE.KItemsList
import PyProof.ExcArgsOwn
import PyProof.InstStoreFacts
import PyProof.ExcBaseAll.ValueError
import PyProof.StationsW
import PyProof.RulesAs
import PyProof.RulesDel
import PyProof.NeKinds
import PySem.Challenge.RW_halforder_k41_joins_refused
set_option compiler.extract_closed false
set_option Elab.async false
set_option linter.all false
set_option maxRecDepth 100000
namespace L2
open PySem PySem.Spec PyProof.Rows
noncomputable abbrev Key := Sum Int Str
noncomputable def keyIs : Key → Value → Bool
  | .inl k, v => Value.isInt k v
  | .inr x, v => Value.isStrOf x v
noncomputable def keyH (w : World) : Key → Int
  | .inl k => hashInt k
  | .inr x => hashStr w x
theorem keyIs_shape : ∀ {k : Key} {v : Value}, keyIs k v = true → (∃ i t, k = Sum.inl i ∧ v = Value.int i t) ∨ (∃ x t, k = Sum.inr x ∧ v = Value.str x t)
  | .inl i, v, h => by
    obtain ⟨t, e⟩ := Value.isInt_shape (k := i) (v := v) h
    exact .inl ⟨i, t, rfl, e⟩
  | .inr x, v, h => by
    obtain ⟨t, e⟩ := Value.isStrOf_shape (x := x) (v := v) h
    exact .inr ⟨x, t, rfl, e⟩
theorem keyIs_int (i : Int) (t : Tok) : keyIs (.inl i) (.int i t) = true := by simp [keyIs, Value.isInt]
theorem keyIs_str (x : Str) (t : Tok) : keyIs (.inr x) (.str x t) = true := by simp [keyIs, Value.isStrOf]
theorem key_ll (a b : Int) : decide ((Sum.inl a : Key) = Sum.inl b) = (a == b) := by
  by_cases e : a = b
  · subst e; simp
  · have h : ¬ (Sum.inl a : Key) = Sum.inl b := fun q => e (Sum.inl.inj q)
    rw [decide_eq_false h]
    exact (beq_eq_false_iff_ne.mpr e).symm
theorem key_rr (a b : Str) : decide ((Sum.inr a : Key) = Sum.inr b) = decide (a = b) := by
  by_cases e : a = b
  · subst e; simp
  · have h : ¬ (Sum.inr a : Key) = Sum.inr b := fun q => e (Sum.inr.inj q)
    rw [decide_eq_false h, decide_eq_false e]
theorem key_lr (a : Int) (b : Str) : decide ((Sum.inl a : Key) = Sum.inr b) = false := decide_eq_false (fun q => nomatch q)
theorem key_rl (a : Str) (b : Int) : decide ((Sum.inr a : Key) = Sum.inl b) = false := decide_eq_false (fun q => nomatch q)
noncomputable def mixKind (prog : Program) (w : World) : PySem.KeyKind prog w Key where
  is := keyIs
  hash := keyH w
  inj := fun v a b ha hb => by
    rcases keyIs_shape ha with ⟨i, t, rfl, rfl⟩ | ⟨x, t, rfl, rfl⟩
    · rcases keyIs_shape hb with ⟨j, u, rfl, e⟩ | ⟨y, u, rfl, e⟩
      · injection e with e1 _; rw [e1]
      · exact nomatch e
    · rcases keyIs_shape hb with ⟨j, u, rfl, e⟩ | ⟨y, u, rfl, e⟩
      · exact nomatch e
      · injection e with e1 _; rw [e1]
  byValue := fun k v h => by
    rcases keyIs_shape h with ⟨i, t, rfl, rfl⟩ | ⟨x, t, rfl, rfl⟩ <;> rfl
  pyHash := fun hv h => by
    rcases keyIs_shape hv with ⟨i, t, rfl, rfl⟩ | ⟨x, t, rfl, rfl⟩
    · exact wpAny_pyHash_int h
    · exact wpAny_pyHash_str h
  eqBool := fun hu hv h => by
    rcases keyIs_shape hu with ⟨i, t, rfl, rfl⟩ | ⟨x, t, rfl, rfl⟩
    · rcases keyIs_shape hv with ⟨j, u, rfl, rfl⟩ | ⟨y, u, rfl, rfl⟩
      · rw [key_ll] at h; exact wpAny_eqBool_int h
      · rw [key_lr] at h; exact SeqAt.EqAt.int_str i t y u _ _ _ _ h
    · rcases keyIs_shape hv with ⟨j, u, rfl, rfl⟩ | ⟨y, u, rfl, rfl⟩
      · rw [key_rl] at h; exact SeqAt.EqAt.str_int x t j u _ _ _ _ h
      · rw [key_rr] at h; exact wpAny_eqBool_str h
  «strs» := fun k x t v h => by
    rcases keyIs_shape h with ⟨i, u, rfl, e⟩ | ⟨y, u, rfl, e⟩
    · exact nomatch e
    · injection e with e1 _
      subst e1
      cases v <;> rfl
theorem mixKind_int (prog : Program) (w : World) (i : Int) (t : Tok) : (mixKind prog w).is (.inl i) (.int i t) = true := keyIs_int i t
theorem mixKind_str (prog : Program) (w : World) (x : Str) (t : Tok) : (mixKind prog w).is (.inr x) (.str x t) = true := keyIs_str x t
end L2
namespace L2
open PySem PySem.Spec PyProof.Rows
inductive V where
  | non | bl (b : Bool) | int (i : Int) | str (x : Str) | byt (b : Array UInt8) | flt (b : UInt64) | ref (a : Addr) | ty (n : String)
  deriving DecidableEq
noncomputable def RelV : V → Value → Prop
  | .non, u => u = Value.none
  | .bl b, u => u = Value.bool b
  | .int i, u => ∃ t, u = Value.int i t
  | .str x, u => ∃ t, u = Value.str x t
  | .byt b, u => ∃ t, u = Value.bytes b t
  | .flt b, u => ∃ t, u = Value.float b t
  | .ref a, u => u = Value.ref a
  | .ty n, u => u = Value.type n
noncomputable abbrev Vals : List V → List Value → Prop := Paired RelV
theorem Vals.length {xs : List V} {us : List Value} (r : Vals xs us) : xs.length = us.length := Paired.length r
theorem Vals.get : ∀ {xs : List V} {us : List Value} {i : Nat} {x : V}, Vals xs us → xs[i]? = some x → ∃ u, us[i]? = some u ∧ RelV x u
  | _, _, _, _, .nil, e => by simp at e
  | _, _, 0, _, .cons r _, e => by simp at e; subst e; exact ⟨_, rfl, r⟩
  | _, _, i + 1, x, .cons _ t, e => by
    obtain ⟨u, h1, h2⟩ := Vals.get (i := i) (x := x) t (by simpa using e)
    exact ⟨u, by simpa using h1, h2⟩
theorem Vals.append : ∀ {xs ys : List V} {us ws : List Value}, Vals xs us → Vals ys ws → Vals (xs ++ ys) (us ++ ws)
  | _, _, _, _, .nil, s => s
  | _, _, _, _, .cons r t, s => .cons r (Vals.append t s)
theorem Vals.take : ∀ {xs : List V} {us : List Value} (n : Nat), Vals xs us → Vals (xs.take n) (us.take n)
  | _, _, 0, _ => .nil
  | _, _, _ + 1, .nil => .nil
  | _, _, n + 1, .cons r t => .cons r (Vals.take n t)
theorem Vals.drop : ∀ {xs : List V} {us : List Value} (n : Nat), Vals xs us → Vals (xs.drop n) (us.drop n)
  | _, _, 0, r => r
  | _, _, _ + 1, .nil => .nil
  | _, _, n + 1, .cons _ t => Vals.drop n t
noncomputable def RelO : Option V → Option Value → Prop
  | some v, some u => RelV v u
  | none, none => True
  | _, _ => False
noncomputable def KV {κ : Type} : List (κ × V) → List (κ × Value) → Prop := Paired fun (p : κ × V) (q : κ × Value) => p.1 = q.1 ∧ RelV p.2 q.2
noncomputable def kV : Key → V
  | .inl i => .int i
  | .inr x => .str x
noncomputable def IsTupN (h : Heap) (a : Addr) (items : Array Value) : Prop := ∃ o, h.get? a = some o ∧ o.cls = .type "tuple" ∧ (∃ n, o.data = .seq items n) ∧ o.dict = none
theorem IsTupN.tup {h : Heap} {a : Addr} {items : Array Value} (x : IsTupN h a items) : IsTup h a items := let ⟨o, h1, h2, ⟨n, h3⟩, _⟩ := x; ⟨o, h1, h2, n, h3⟩
theorem IsTupN.new (h : Heap) (its : Array Value) : IsTupN (h.push { cls := .type "tuple", data := .seq its }) h.objs.size its := ⟨_, Heap.get?_push_size _ rfl, rfl, ⟨_, rfl⟩, rfl⟩
inductive HO where
  | lst (xs : List V)
  | tup (xs : List V)
  | dK (kvs : List (Key × V)) | dT (kvs : List (List Key × V))
  | set (S : Int → Bool) (n : Nat)
  | ins (C dx : Addr) (fs : List (Str × V))
  | own (x : Addr)
  | xd (fs : List (Str × V))
  | met (f x : Addr)
  | rng (lo hi : Int)
  | frz (o : Obj) (u : HO)
  | tbl (ps : Array Value)
  | ext (φ : Heap → Prop)
noncomputable abbrev Hp := Addr → Option HO
noncomputable def upd (H : Hp) (a : Addr) (o : HO) : Hp := fun b => if b = a then some o else H b
theorem upd_same {H : Hp} {a : Addr} {o : HO} : upd H a o a = some o := by unfold upd; rw [if_pos rfl]
theorem upd_ne {H : Hp} {a b : Addr} {o : HO} (h : b ≠ a) : upd H a o b = H b := by unfold upd; rw [if_neg h]
theorem ne_of {H : Hp} {a b : Addr} {o u : HO} (h : H a = some o) (h' : H b = some u) (d : o ≠ u) : a ≠ b := by
  intro e; subst e; rw [h] at h'; exact d (Option.some.inj h')
theorem ne_of_none {H : Hp} {a b : Addr} {o : HO} (h : H a = some o) (h' : H b = none) : a ≠ b := by
  intro e; subst e; rw [h] at h'; cases h'
section
variable (P : Program) (w : World)
noncomputable def ObjOk (H : Hp) (h : Heap) (a : Addr) : HO → Prop
  | .lst xs => xs.length ≤ sizeLine ∧ ∃ (its : List Value) (n : Nat), Vals xs its ∧ h.get? a = some { cls := .type "list", data := .seq its.toArray n }
  | .tup xs => xs.length ≤ sizeLine ∧ ∃ its : List Value, Vals xs its ∧ IsTupN h a its.toArray
  | .dK kvs => kvs.length ≤ sizeLine ∧ (a == sysModules) = false ∧ ∃ vs, KV kvs vs ∧ h.DictOf (mixKind P w) a vs
  | .dT kvs => kvs.length ≤ sizeLine ∧ (a == sysModules) = false ∧ ∃ xs : List (List Key × Addr × Value),
      Paired (fun (p : List Key × V) (q : List Key × Addr × Value) => p.1 = q.1 ∧ H q.2.1 = some (.tup (p.1.map kV)) ∧ RelV p.2 q.2.2) kvs xs ∧
      ∃ o es ep, h.get? a = some o ∧ o.ExactDict ∧ o.data = .dict es ep ∧ es.toList = xs.map (entryOfKey (tupleKind (mixKind P w))) ∧ (xs.map (·.1)).Nodup
  | .set S n => h.SetOf (intKind P w) a S n
  | .ins C dx fs => H dx = some (.own a) ∧ fs.length ≤ 1000 ∧ dx ≠ a ∧ h.get? a = some (PySem.W.instObj C dx) ∧
      ∃ mA, h.Ns1 dx mA ∧ (∀ f, RelO (fs.lookup f) (mA f)) ∧ PySem.Within mA (fs.map (·.1))
  | .own _ => ∃ o, h.get? a = some o
  | .xd fs => ∃ mA, h.Ns1 a mA ∧ ∀ f, RelO (fs.lookup f) (mA f)
  | .rng lo hi => ∃ t u v, h.get? a = some { cls := .type "range", data := .fields #[.int lo t, .int hi u, .int 1 v] }
  | .frz o u => h.get? a = some o ∧ ObjOk H h a u
  | .tbl ps => h.get? a = some { cls := .none, data := .fields ps }
  | .met f x => h.get? a = some (PySem.W.methodObj (.ref f) (.ref x))
  | .ext φ => φ h ∧ (∃ o, h.get? a = some o) ∧ ∀ h1 h2 : Heap, φ h1 → (∀ o, h1.get? a = some o → h2.get? a = some o) → φ h2
noncomputable def HOk (H : Hp) (h : Heap) : Prop := ∀ a o, H a = some o → ObjOk P w H h a o
end
section
variable {P : Program} {w : World} {H H' : Hp} {h h' : Heap} {a : Addr} {o : HO}
theorem ObjOk.lt (x : ObjOk P w H h a o) : a < h.objs.size := by
  cases o with
  | lst xs => obtain ⟨_, _, _, _, e⟩ := x; exact Heap.lt_size e
  | tup xs => obtain ⟨_, _, _, p⟩ := x; exact p.tup.lt
  | dK kvs => obtain ⟨_, _, _, _, o, _, _, e, _⟩ := x; exact Heap.lt_size e
  | dT kvs => obtain ⟨_, _, _, _, o, _, _, e, _⟩ := x; exact Heap.lt_size e
  | set S n => obtain ⟨o, _, _, _, e, _⟩ := x; exact Heap.lt_size e
  | ins C dx fs => obtain ⟨_, _, _, e, _⟩ := x; exact Heap.lt_size e
  | own y => obtain ⟨_, e⟩ := x; exact Heap.lt_size e
  | xd fs => obtain ⟨_, ⟨_, _, _, e, _⟩, _⟩ := x; exact Heap.lt_size e
  | rng lo hi => obtain ⟨_, _, _, e⟩ := x; exact Heap.lt_size e
  | frz ob u => obtain ⟨e, _⟩ := x; exact Heap.lt_size e
  | tbl ps => exact Heap.lt_size (show h.get? a = some _ from x)
  | met f y => exact Heap.lt_size (show h.get? a = some _ from x)
  | ext φ => obtain ⟨_, ⟨_, e⟩, _⟩ := x; exact Heap.lt_size e
theorem Paired.mapP {α β : Type} {F G : α → β → Prop} : ∀ {l₁ : List α} {l₂ : List β}, Paired F l₁ l₂ → (∀ a b, F a b → G a b) → Paired G l₁ l₂
  | _, _, .nil, _ => .nil
  | _, _, .cons r t, f => .cons (f _ _ r) (Paired.mapP t f)
theorem ObjOk.stay (x : ObjOk P w H h a o) (k : ∀ b u, (b = a ∨ H b = some (.own a)) → h.get? b = some u → h'.get? b = some u)
    (ho : ∀ b, H b = some (.own a) → H' b = some (.own a)) (ht : ∀ b xs, H b = some (.tup xs) → H' b = some (.tup xs)) : ObjOk P w H' h' a o := by
  induction o with
  | lst xs => obtain ⟨z, its, n, r, e⟩ := x; exact ⟨z, its, n, r, k _ _ (.inl rfl) e⟩
  | tup xs => obtain ⟨z, its, r, ob, e, c⟩ := x; exact ⟨z, its, r, ob, k _ _ (.inl rfl) e, c⟩
  | dK kvs => obtain ⟨z, y, vs, r, ob, es, ep, e, c⟩ := x; exact ⟨z, y, vs, r, ob, es, ep, k _ _ (.inl rfl) e, c⟩
  | dT kvs =>
    obtain ⟨z, y, xs, r, ob, es, ep, e, c⟩ := x
    exact ⟨z, y, xs, Paired.mapP r fun p q z => ⟨z.1, ht _ _ z.2.1, z.2.2⟩, ob, es, ep, k _ _ (.inl rfl) e, c⟩
  | set S n => obtain ⟨ob, es, ep, t, e, c⟩ := x; exact ⟨ob, es, ep, t, k _ _ (.inl rfl) e, c⟩
  | ins C dx fs =>
    obtain ⟨d, z, ne, e, mA, ⟨od, es, ep, e2, c⟩, r⟩ := x
    exact ⟨ho _ d, z, ne, k _ _ (.inl rfl) e, mA, ⟨od, es, ep, k _ _ (.inr d) e2, c⟩, r⟩
  | own y => obtain ⟨ob, e⟩ := x; exact ⟨ob, k _ _ (.inl rfl) e⟩
  | xd fs => obtain ⟨mA, ⟨od, es, ep, e, c⟩, r⟩ := x; exact ⟨mA, ⟨od, es, ep, k _ _ (.inl rfl) e, c⟩, r⟩
  | rng lo hi => obtain ⟨t, u, v, e⟩ := x; exact ⟨t, u, v, k _ _ (.inl rfl) e⟩
  | frz ob u ih => obtain ⟨e, q⟩ := x; exact ⟨k _ _ (.inl rfl) e, ih q⟩
  | tbl ps =>
    have e : h.get? a = some { cls := .none, data := .fields ps } := x
    show h'.get? a = some { cls := .none, data := .fields ps }
    exact k a _ (.inl rfl) e
  | met f y =>
    have e : h.get? a = some (PySem.W.methodObj (.ref f) (.ref y)) := x
    show h'.get? a = some (PySem.W.methodObj (.ref f) (.ref y))
    exact k a _ (.inl rfl) e
  | ext φ => obtain ⟨p, ⟨o, e⟩, st⟩ := x; exact ⟨st _ _ p fun o q => k _ _ (.inl rfl) q, ⟨o, k _ _ (.inl rfl) e⟩, st⟩
theorem HOk.lt (x : HOk P w H h) (e : H a = some o) : a < h.objs.size := (x a o e).lt
theorem HOk.fresh (x : HOk P w H h) (e : h.objs.size ≤ a) : H a = none := by
  cases q : H a with
  | none => rfl
  | some u => exact absurd (Nat.lt_of_lt_of_le (x.lt q) e) (Nat.lt_irrefl _)
theorem HOk.kept (x : HOk P w H h) (k : ∀ b u, h.get? b = some u → h'.get? b = some u) : HOk P w H h' := fun a o e =>
  (x a o e).stay (fun b u _ q => k b u q) (fun _ q => q) fun _ _ q => q
theorem HOk.laid (x : HOk P w H h) (k : ∀ b u, h.get? b = some u → h'.get? b = some u) (hp : h.objs.size ≤ a) (new : ObjOk P w (upd H a o) h' a o) : HOk P w (upd H a o) h' := fun b u e => by
  have hn := x.fresh hp
  by_cases hb : b = a
  · subst hb; rw [upd_same] at e; cases e; exact new
  · rw [upd_ne hb] at e
    exact (x b u e).stay (fun c v _ q => k c v q) (fun c q => by rw [upd_ne (ne_of_none q hn)]; exact q) fun c xs q => by rw [upd_ne (ne_of_none q hn)]; exact q
end
noncomputable def Rd (H : Hp) (a : Addr) (u : HO) : Prop := H a = some u ∨ ∃ o, H a = some (.frz o u)
theorem Rd.ok {P : Program} {w : World} {H : Hp} {h : Heap} {a : Addr} {u : HO} (r : Rd H a u) (x : HOk P w H h) : ObjOk P w H h a u := by
  rcases r with r | ⟨o, r⟩
  · exact x a u r
  · obtain ⟨_, q⟩ := x a _ r
    exact q
noncomputable def Mut : Option HO → Prop
  | some (.lst _) => True
  | some (.dK _) => True
  | some (.dT _) => True
  | some (.set _ _) => True
  | some (.ins _ _ _) => True
  | some (.ext _) => True
  | _ => False
section
variable {P : Program} {w : World} {H : Hp} {h h' : Heap} {x e : Addr} {o' : HO}
theorem HOk.write (ok : HOk P w H h) (mu : Mut (H x)) (he : e = x ∨ H e = some (.own x)) (k : ∀ b u, b ≠ e → h.get? b = some u → h'.get? b = some u) (heo : ∃ u, h'.get? e = some u)
    (new : ObjOk P w (upd H x o') h' x o') : HOk P w (upd H x o') h' := fun b u q => by
  have nown : ∀ c y, H c = some (.own y) → c ≠ x := fun c y r z => by subst z; rw [r] at mu; exact mu
  have ntup : ∀ c xs, H c = some (.tup xs) → c ≠ x := fun c xs r z => by subst z; rw [r] at mu; exact mu
  by_cases hb : b = x
  · subst hb; rw [upd_same] at q; cases q; exact new
  · rw [upd_ne hb] at q
    by_cases hbe : b = e
    · have q' : H b = some (.own x) := by
        rcases he with z | z
        · exact absurd (hbe.trans z) hb
        · rw [hbe]; exact z
      rw [q] at q'; cases q'
      obtain ⟨v, hv⟩ := heo
      exact ⟨v, by rw [hbe]; exact hv⟩
    · refine (ok b u q).stay (fun c v hc r => k c v ?_ r) (fun c r => by rw [upd_ne (nown c b r)]; exact r) fun c xs r => by rw [upd_ne (ntup c xs r)]; exact r
      rcases hc with rfl | hc
      · exact hbe
      · rintro rfl
        rcases he with z | z
        · exact nown c b hc z
        · rw [hc] at z; cases z; exact hb rfl
end
structure Un (fs ex : List Addr) (H H' : Hp) (h h' : Heap) : Prop where
  keep : ∀ b o, h.get? b = some o → H b = none → b ∉ fs → b ∉ ex → h'.get? b = some o
  slot : ∀ b o, h.get? b = some o → H b = none → b ∈ fs → b ∉ ex → ∃ sl, h'.get? b = some { o with slots := sl }
  free : ∀ b o, h.get? b = some o → H b = none → b ∉ ex → H' b = none
  there : ∀ b o, h.get? b = some o → b ∉ ex → ∃ o', h'.get? b = some o'
  tups : ∀ b xs, H b = some (.tup xs) → H' b = some (.tup xs)
  frzs : ∀ b o u, H b = some (.frz o u) → H' b = some (.frz o u)
  tbls : ∀ b ps, H b = some (.tbl ps) → ∃ more, H' b = some (.tbl (ps ++ more))
section
variable {fs fs' ex ex' : List Addr} {H H1 H2 : Hp} {h h1 h2 h' : Heap} {a x e : Addr} {o : HO}
theorem Un.any (u : Un fs ex H H1 h h1) {b : Addr} {ob : Obj} (q : h.get? b = some ob) (n : H b = none) (hx : b ∉ ex) : ∃ sl, h1.get? b = some { ob with slots := sl } := by
  by_cases hb : b ∈ fs
  · exact u.slot b ob q n hb hx
  · exact ⟨ob.slots, u.keep b ob q n hb hx⟩
theorem Un.kept (k : ∀ b u, h.get? b = some u → h'.get? b = some u) : Un fs ex H H h h' :=
  ⟨fun b ob q _ _ _ => k b ob q, fun b ob q _ _ _ => ⟨ob.slots, k b ob q⟩, fun _ _ _ n _ => n, fun b ob q _ => ⟨ob, k b ob q⟩, fun _ _ q => q, fun _ _ _ q => q, fun _ ps q => ⟨#[], by rw [q]; simp⟩⟩
theorem Un.refl : Un fs ex H H h h := Un.kept fun _ _ q => q
theorem Un.laid (k : ∀ b u, h.get? b = some u → h'.get? b = some u) (hp : h.objs.size ≤ a) (hn : H a = none) : Un fs ex H (upd H a o) h h' where
  keep := fun b u q _ _ _ => k b u q
  slot := fun b u q _ _ _ => ⟨u.slots, k b u q⟩
  free := fun b u q n _ => by rw [upd_ne (Nat.ne_of_lt (Nat.lt_of_lt_of_le (Heap.lt_size q) hp))]; exact n
  there := fun b u q _ => ⟨u, k b u q⟩
  tups := fun b xs q => by rw [upd_ne (ne_of_none q hn)]; exact q
  frzs := fun b u xs q => by rw [upd_ne (ne_of_none q hn)]; exact q
  tbls := fun b ps q => ⟨#[], by rw [upd_ne (ne_of_none q hn), q]; simp⟩
theorem Un.write (mu : Mut (H x)) (he : e = x ∨ H e = some (.own x)) (k : ∀ b u, b ≠ e → h.get? b = some u → h'.get? b = some u) (heo : ∃ u, h'.get? e = some u) : Un fs ex H (upd H x o) h h' := by
  have hx : ∀ b, H b = none → b ≠ x := fun b n z => by subst z; rw [n] at mu; exact mu
  have hb : ∀ b, H b = none → b ≠ e := fun b n z => by
    subst z
    rcases he with r | r
    · exact hx b n r
    · rw [n] at r; cases r
  have hm : ∀ b u, H b = some u → ¬ Mut (some u) → b ≠ x := fun b u q nm z => by subst z; rw [q] at mu; exact nm mu
  refine ⟨fun b u q n _ _ => k b u (hb b n) q, fun b u q n _ _ => ⟨u.slots, k b u (hb b n) q⟩, fun b u q n _ => by rw [upd_ne (hx b n)]; exact n, fun b u q _ => ?_,
    fun b xs q => by rw [upd_ne (hm b _ q fun z => z)]; exact q, fun b u xs q => by rw [upd_ne (hm b _ q fun z => z)]; exact q, fun b ps q => ⟨#[], by rw [upd_ne (hm b _ q fun z => z), q]; simp⟩⟩
  by_cases hbe : b = e
  · subst hbe; exact heo
  · exact ⟨u, k b u hbe q⟩
end
noncomputable def trk (h : Heap) (H : Hp) : List Addr := (List.range h.objs.size).filter fun a => (H a).isSome
noncomputable def hidT (h : Heap) (H : Hp) : Heap := PySem.W.hideAll h (trk h H)
theorem hidT_size (h : Heap) (H : Hp) : (hidT h H).objs.size = h.objs.size := PySem.W.hideAll_size _ _
theorem hidT_get {h : Heap} {H : Hp} {b : Addr} {o : Obj} (e : h.get? b = some o) (n : H b = none) : (hidT h H).get? b = some o :=
  PySem.W.hideAll_get _ e fun hm => by
    have q : (H b).isSome = true := (List.mem_filter.mp hm).2
    rw [n] at q; simp at q
theorem of_hidT {h : Heap} {H : Hp} {b : Addr} {o : Obj} (e : (hidT h H).get? b = some o) : h.get? b = some o ∧ H b = none := by
  have e' : h.get? b = some o := PySem.W.of_hideAll (trk h H) e
  refine ⟨e', ?_⟩
  cases q : H b with
  | none => rfl
  | some x =>
    have hm : b ∈ trk h H := List.mem_filter.mpr ⟨List.mem_range.mpr (Heap.lt_size e'), by simp [q]⟩
    have z : (hidT h H).get? b = none := PySem.W.hideAll_none (trk h H) hm
    rw [z] at e; cases e
noncomputable def allNews (g h : Heap) (L : Addr) : List (Addr × Obj) := (List.range h.objs.size).filterMap fun a => if a = L ∨ (g.get? a).isSome = true then none else (h.get? a).map fun o => (a, o)
noncomputable def rest (g h : Heap) (L d : Addr) : List (Addr × Obj) := (allNews g h L).filter fun p => decide (p.1 ≠ d)
end L2
namespace L2
open PySem PySem.Spec PyProof.Rows
structure Mod (K : PySem.W.Frag) (mg : Str → Option Value) (base : Heap) : Prop where
  kin : K.In base
  glob : base.Ns mainGlobals mg
  blt : ∃ mb, base.Ns builtinsNs mb ∧ ∀ x : Str, x ≠ "__name__" → mb x = bootBuiltins x
  nolimit : base.NoLimit
/-- the context: a def's body (or a comprehension's block) running. base: fixed through the whole law; s₀, H₀: the entry; outer: the frames whose slots others may change (a def's callers); stack: all frames that run;
   ex: iterators that were made ahead of the entry and are walked here (a comprehension's); fn: the names whose cells were made at the entry (a def: all; a comprehension's block: its own); calm: not within an except suite; pn: pins that every state bears; xe: what is wanted of an exception that leaves the code -/
structure Cx where
  prog : Program
  w : World
  K : PySem.W.Frag
  mg : Str → Option Value
  base : Heap
  A : Around
  N : List Str
  s₀ : Shared
  H₀ : Hp
  env : Env
  outer : List Env
  stack : List Env
  ex : List Addr
  fn : Str → Bool
  calm : Bool
  pn : List (Addr × Obj)
  xe : Value → Shared → Prop
noncomputable def frs (l : List Env) : List Addr := l.filterMap (·.frame)
noncomputable abbrev Cx.fs (X : Cx) : List Addr := frs X.outer
noncomputable def Vis (sc : Scope) (x : Str) : Prop := sc.names.lookup x = some .local ∨ sc.names.lookup x = some .cell ∨ sc.names.lookup x = some .free
noncomputable def Loc (sc : Scope) (x : Str) : Prop := sc.names.lookup x = some .local ∨ sc.names.lookup x = some .cell
noncomputable def Look (env : Env) (h : Heap) (m : Str → Option Value) (x : Str) (u : Value) : Prop :=
  (env.kindOf x = some .local ∧ m x = some u) ∨ ((env.kindOf x = some .cell ∨ env.kindOf x = some .free) ∧ ∃ c, env.cells.lookup x = some c ∧ h.IsCell c (some u))
structure Cx.Ok (X : Cx) : Prop where
  mod : Mod X.K X.mg X.base
  kind : X.env.scope.kind = .function
  glob : X.env.globals = mainGlobals
  blt : X.env.builtins = builtinsNs
  above : X.s₀.heap.objs.size ≤ X.env.locals
  inj : ∀ x y c, X.env.cells.lookup x = some c → X.env.cells.lookup y = some c → x = y
  has : ∀ x, (X.env.kindOf x = some .cell ∨ X.env.kindOf x = some .free) → ∃ c, X.env.cells.lookup x = some c
  cab : ∀ x c, X.fn x = true → X.env.cells.lookup x = some c → X.s₀.heap.objs.size ≤ c
  hd : X.calm = true → X.A.handled = none
  frames : X.A.frames = some X.stack
  stk : X.stack = X.outer ∨ (X.stack = X.env :: X.outer ∧ X.env.frame = some X.env.locals)
  exf : ∀ b ∈ X.ex, b ≠ X.env.locals ∧ ∀ x c, X.env.cells.lookup x = some c → c ≠ b
  bs : ∀ b o, X.base.get? b = some o → X.s₀.heap.get? b = some o ∧ X.H₀ b = none
  bsz : X.base.objs.size ≤ X.s₀.heap.objs.size
  noex : ∀ b o, X.base.get? b = some o → b ∉ X.ex
  exfs : ∀ b ∈ X.ex, b ∉ X.fs
  funs : X.s₀.heap.FunFrames X.base X.outer
  frf : ∀ b ∈ X.fs, X.H₀ b = none
structure Inv (X : Cx) (pins : List (Addr × Obj)) (σ : List (Option V)) (H : Hp) (s : Shared) : Prop where
  ok : X.Ok
  os : s.os = X.s₀.os
  bare : AllBare s.gens
  base : Un X.fs X.ex X.H₀ H X.s₀.heap s.heap
  loc : ∃ m, s.heap.Ns X.env.locals m ∧ ∀ (i : Nat) (x : Str) (v : V), X.N[i]? = some x → σ[i]? = some (some v) → Vis X.env.scope x → ∃ u, RelV v u ∧ Look X.env s.heap m x u
  cell : ∀ x c, X.env.cells.lookup x = some c → ∃ v, s.heap.IsCell c v
  free : H X.env.locals = none
  freeC : ∀ x c, X.env.cells.lookup x = some c → H c = none
  pin : ∀ p ∈ X.pn ++ pins, s.heap.get? p.1 = some p.2 ∧ H p.1 = none ∧ p.1 ≠ X.env.locals ∧ p.1 ∉ X.fs ∧ ∀ v, p.2.data ≠ .cell v
  hok : HOk X.prog X.w H s.heap
  len : σ.length = X.N.length
section
variable {X : Cx} {pins : List (Addr × Obj)} {σ : List (Option V)} {H H' : Hp} {s : Shared} {h' : Heap}
theorem Cx.Ok.nofr (ok : X.Ok) {b : Addr} {o : Obj} (e : X.base.get? b = some o) : b ∉ X.fs := fun hb => by
  have := (ok.funs.mem hb).1
  rw [e] at this; cases this
theorem Inv.bs (I : Inv X pins σ H s) : ∀ b o, X.base.get? b = some o → s.heap.get? b = some o ∧ H b = none := fun b o e =>
  ⟨I.base.keep b o (I.ok.bs b o e).1 (I.ok.bs b o e).2 (I.ok.nofr e) (I.ok.noex b o e), I.base.free b o (I.ok.bs b o e).1 (I.ok.bs b o e).2 (I.ok.noex b o e)⟩
theorem Inv.bk (I : Inv X pins σ H s) : ∀ b o, X.base.get? b = some o → s.heap.get? b = some o := fun b o e => (I.bs b o e).1
theorem Inv.mod (I : Inv X pins σ H s) : Mod X.K X.mg X.base := I.ok.mod
theorem Inv.kIn (I : Inv X pins σ H s) : X.K.In s.heap := I.ok.mod.kin.keeps I.bk
theorem Inv.lt (I : Inv X pins σ H s) : X.env.locals < s.heap.objs.size := let ⟨_, hn, _⟩ := I.loc; hn.lt
theorem Inv.sz (I : Inv X pins σ H s) : X.s₀.heap.objs.size ≤ s.heap.objs.size := Nat.le_trans I.ok.above (Nat.le_of_lt I.lt)
theorem Inv.nofs (I : Inv X pins σ H s) {a : Addr} (h : s.heap.objs.size ≤ a) : a ∉ X.fs := fun hb => by
  obtain ⟨_, o, ho, _⟩ := I.ok.funs.mem hb
  exact absurd (Nat.lt_of_lt_of_le (Heap.lt_size ho) (Nat.le_trans I.sz h)) (Nat.lt_irrefl _)
theorem Inv.cne (I : Inv X pins σ H s) : ∀ x c, X.env.cells.lookup x = some c → c ≠ X.env.locals := fun x c e z => by
  obtain ⟨v, o, ho, hd⟩ := I.cell x c e
  obtain ⟨m, ⟨o', es, ep, ho', hd', _⟩, _⟩ := I.loc
  rw [z, ho'] at ho; cases ho; rw [hd'] at hd; cases hd
theorem Inv.funs (I : Inv X pins σ H s) : s.heap.FunFrames X.base X.outer := by
  have all : ∀ (l : List Env), (∀ b ∈ frs l, b ∈ X.fs) → X.s₀.heap.FunFrames X.base l → s.heap.FunFrames X.base l := by
    intro l
    induction l with
    | nil => intro _ _; trivial
    | cons env r ih =>
      intro hs hl
      obtain ⟨hk, ⟨L, o, hf, hn, ho, hd⟩, hr⟩ := hl
      have hL : L ∈ X.fs := hs L (by unfold frs; rw [List.filterMap_cons, hf]; exact List.mem_cons_self)
      obtain ⟨sl, e⟩ := I.base.slot L o ho (I.ok.frf L hL) hL fun z => I.ok.exfs L z hL
      exact ⟨hk, ⟨L, _, hf, hn, e, hd⟩, ih (fun b hb => hs b (by unfold frs; rw [List.filterMap_cons, hf]; exact List.mem_cons_of_mem _ hb)) hr⟩
  exact all X.outer (fun _ hb => hb) I.ok.funs
theorem Inv.stack (I : Inv X pins σ H s) : s.heap.FunFrames X.base X.stack := by
  rcases I.ok.stk with e | ⟨e, hf⟩
  · rw [e]; exact I.funs
  · rw [e]
    obtain ⟨m, hn, _⟩ := I.loc
    refine .cons (by rw [I.ok.kind]; decide) hf hn ?_ I.funs
    exact Heap.get?_none_of_le (Nat.le_trans I.ok.bsz I.ok.above)
theorem Inv.stkSub (I : Inv X pins σ H s) : ∀ b ∈ frs X.stack, b ∈ X.env.locals :: X.fs := fun b hb => by
  rcases I.ok.stk with e | ⟨e, hf⟩
  · rw [e] at hb; exact List.mem_cons_of_mem _ hb
  · rw [e] at hb
    unfold frs at hb
    rw [List.filterMap_cons, hf] at hb
    exact hb
theorem Inv.stkFree (I : Inv X pins σ H s) : ∀ b ∈ frs X.stack, H b = none := fun b hb => by
  rcases List.mem_cons.mp (I.stkSub b hb) with e | hb
  · rw [e]; exact I.free
  · obtain ⟨_, o, ho, _⟩ := I.ok.funs.mem hb
    exact I.base.free b o ho (I.ok.frf b hb) fun z => I.ok.exfs b z hb
theorem Inv.step {g' : Array GenState} {t' : Nat} {d' : Drawn} {ch : List Addr} (I : Inv X pins σ H s)
    (hch : ∀ b ∈ ch, (b ∈ X.ex ∨ X.s₀.heap.objs.size ≤ b) ∧ b ≠ X.env.locals ∧ (∀ x c, X.env.cells.lookup x = some c → c ≠ b) ∧ ∀ p ∈ X.pn ++ pins, p.1 ≠ b)
    (keep : ∀ b o, b ≠ X.env.locals → b ∉ X.fs → b ∉ ch → s.heap.get? b = some o → H b = none → h'.get? b = some o)
    (slot : ∀ b o, b ≠ X.env.locals → b ∈ X.fs → b ∉ ch → s.heap.get? b = some o → H b = none → ∃ sl, h'.get? b = some { o with slots := sl }) (free : ∀ b o, b ∉ ch → s.heap.get? b = some o → H b = none → H' b = none)
    (there : ∀ b o, b ∉ ch → s.heap.get? b = some o → ∃ o', h'.get? b = some o')
    (tups : ∀ b xs, H b = some (.tup xs) → H' b = some (.tup xs)) (frzs : ∀ b o u, H b = some (.frz o u) → H' b = some (.frz o u)) (tbls : ∀ b ps, H b = some (.tbl ps) → ∃ more, H' b = some (.tbl (ps ++ more)))
    (ns : ∀ m, s.heap.Ns X.env.locals m → h'.Ns X.env.locals m) (hok : HOk X.prog X.w H' h') (hg : AllBare g') :
    Inv X pins σ H' { s with heap := h', gens := g', drawn := d', toks := t' } := by
  have neL : ∀ b o, X.s₀.heap.get? b = some o → b ≠ X.env.locals := fun b o e => Nat.ne_of_lt (Nat.lt_of_lt_of_le (Heap.lt_size e) I.ok.above)
  have neC : ∀ b o, X.s₀.heap.get? b = some o → b ∉ X.ex → b ∉ ch := fun b o e hx hb => by
    rcases (hch b hb).1 with z | z
    · exact hx z
    · exact absurd (Nat.lt_of_lt_of_le (Heap.lt_size e) z) (Nat.lt_irrefl _)
  have cellK : ∀ x c, X.env.cells.lookup x = some c → ∀ v, s.heap.IsCell c v → h'.IsCell c v := fun x c e v ⟨o, ho, hd⟩ => by
    have nch : c ∉ ch := fun z => (hch c z).2.2.1 x c e rfl
    by_cases hc : c ∈ X.fs
    · obtain ⟨sl, q⟩ := slot c o (I.cne x c e) hc nch ho (I.freeC x c e)
      exact ⟨_, q, hd⟩
    · exact ⟨o, keep c o (I.cne x c e) hc nch ho (I.freeC x c e), hd⟩
  refine ⟨I.ok, I.os, hg, ⟨fun b o e n hb hx => ?_, fun b o e n hb hx => ?_, fun b o e n hx => ?_, fun b o e hx => ?_, fun b xs e => tups b xs (I.base.tups b xs e), fun b o xs e => frzs b o xs (I.base.frzs b o xs e), fun b ps e => ?_⟩, ?_, fun x c e => ?_, ?_, fun x c e => ?_, fun p hp => ?_, hok, I.len⟩
  · exact keep b o (neL b o e) hb (neC b o e hx) (I.base.keep b o e n hb hx) (I.base.free b o e n hx)
  · obtain ⟨sl, e1⟩ := I.base.slot b o e n hb hx
    obtain ⟨sl', e2⟩ := slot b _ (neL b o e) hb (neC b o e hx) e1 (I.base.free b o e n hx)
    exact ⟨sl', e2⟩
  · obtain ⟨o', e1⟩ := I.base.there b o e hx
    exact free b o' (neC b o e hx) e1 (I.base.free b o e n hx)
  · obtain ⟨o', e1⟩ := I.base.there b o e hx
    exact there b o' (neC b o e hx) e1
  · obtain ⟨m1, e1⟩ := I.base.tbls b ps e
    obtain ⟨m2, e2⟩ := tbls b _ e1
    exact ⟨m1 ++ m2, by rw [e2, Array.append_assoc]⟩
  · obtain ⟨m, hn, hl⟩ := I.loc
    refine ⟨m, ns m hn, fun i x v e1 e2 e3 => ?_⟩
    obtain ⟨u, r, l⟩ := hl i x v e1 e2 e3
    refine ⟨u, r, ?_⟩
    rcases l with l | ⟨k, c, e, z⟩
    · exact .inl l
    · exact .inr ⟨k, c, e, cellK x c e _ z⟩
  · obtain ⟨v, z⟩ := I.cell x c e
    exact ⟨v, cellK x c e v z⟩
  · obtain ⟨m, ⟨o, _, _, ho, _⟩, _⟩ := I.loc
    exact free _ o (fun z => (hch _ z).2.1 rfl) ho I.free
  · obtain ⟨v, o, ho, hd⟩ := I.cell x c e
    exact free c o (fun z => (hch c z).2.2.1 x c e rfl) ho (I.freeC x c e)
  · obtain ⟨e, n, ne, nf, d⟩ := I.pin p hp
    have nch : p.1 ∉ ch := fun z => (hch p.1 z).2.2.2 p hp rfl
    exact ⟨keep p.1 p.2 ne nf nch e n, free p.1 p.2 nch e n, ne, nf, d⟩
theorem Inv.un {t' : Nat} (I : Inv X pins σ H s) (u : Un X.fs [] H H' s.heap h') (hok : HOk X.prog X.w H' h') : Inv X pins σ H' { s with heap := h', toks := t' } := by
  obtain ⟨m, ⟨o, es, ep, ho, r⟩, _⟩ := id I.loc
  obtain ⟨sl, hL⟩ := u.any ho I.free (by simp)
  exact I.step (g' := s.gens) (d' := s.drawn) (ch := []) (fun _ z => nomatch z) (fun b o _ hb _ e n => u.keep b o e n hb (by simp)) (fun b o _ hb _ e n => u.slot b o e n hb (by simp)) (fun b o _ e n => u.free b o e n (by simp)) (fun b o _ e => u.there b o e (by simp)) u.tups u.frzs u.tbls (fun m' hm => by
    obtain ⟨o', es', ep', ho', r'⟩ := hm
    rw [ho] at ho'; cases ho'
    exact ⟨_, es', ep', hL, r'⟩) hok I.bare
theorem Inv.call {g' : Array GenState} {t' : Nat} {d' : Drawn} {ch : List Addr} (I : Inv X pins σ H s) (u : Un (frs X.stack) ch H H' s.heap h') (hok : HOk X.prog X.w H' h') (hg : AllBare g')
    (hch : ∀ b ∈ ch, (b ∈ X.ex ∨ X.s₀.heap.objs.size ≤ b) ∧ b ≠ X.env.locals ∧ (∀ x c, X.env.cells.lookup x = some c → c ≠ b) ∧ ∀ p ∈ X.pn ++ pins, p.1 ≠ b) :
    Inv X pins σ H' { s with heap := h', gens := g', drawn := d', toks := t' } := by
  obtain ⟨m, ⟨o, es, ep, ho, r⟩, _⟩ := id I.loc
  obtain ⟨sl, hL⟩ := u.any ho I.free fun z => (hch _ z).2.1 rfl
  exact I.step (ch := ch) hch (fun b o hL hb hc e n => u.keep b o e n (fun z => (List.mem_cons.mp (I.stkSub b z)).elim hL hb) hc) (fun b o _ _ hc e n => u.any e n hc) (fun b o hc e n => u.free b o e n hc) (fun b o hc e => u.there b o e hc) u.tups u.frzs u.tbls (fun m' hm => by
    obtain ⟨o', es', ep', ho', r'⟩ := hm
    rw [ho] at ho'; cases ho'
    exact ⟨_, es', ep', hL, r'⟩) hok hg
theorem Inv.turned {t' : Nat} {it : Addr} (I : Inv X pins σ H s) (k : ∀ b o, b ≠ it → s.heap.get? b = some o → h'.get? b = some o) (hn : H it = none) (hL : it ≠ X.env.locals)
    (h1 : it ∈ X.ex ∨ X.s₀.heap.objs.size ≤ it) (h2 : ∀ x c, X.env.cells.lookup x = some c → c ≠ it) (h3 : ∀ p ∈ X.pn ++ pins, p.1 ≠ it) : Inv X pins σ H { s with heap := h', toks := t' } := by
  have nit : ∀ b u, H b = some u → b ≠ it := fun b u e z => by rw [z, hn] at e; cases e
  refine I.step (g' := s.gens) (d' := s.drawn) (ch := [it]) (fun b hb => ?_) (fun b o _ _ hc e _ => k b o (fun z => hc (by simp [z])) e) (fun b o _ _ hc e _ => ⟨o.slots, k b o (fun z => hc (by simp [z])) e⟩) (fun _ _ _ _ n => n)
    (fun b o hc e => ⟨o, k b o (fun z => hc (by simp [z])) e⟩) (fun _ _ e => e) (fun _ _ _ e => e) (fun b ps e => ⟨#[], by rw [e]; simp⟩) (fun m hm => ?_) (fun b u e => ?_) I.bare
  · have e : b = it := by simpa using hb
    subst e
    exact ⟨h1, hL, h2, h3⟩
  · obtain ⟨o, es, ep, ho, r⟩ := hm
    exact ⟨o, es, ep, k _ o (Ne.symm hL) ho, r⟩
  · refine (I.hok b u e).stay (fun c v hc q => k c v ?_ q) (fun _ q => q) fun _ _ q => q
    rcases hc with z | z
    · rw [z]; exact nit b u e
    · exact nit c _ z
theorem Inv.tok (I : Inv X pins σ H s) (t : Nat) : Inv X pins σ H { s with toks := t } := I.un (h' := s.heap) (t' := t) Un.refl I.hok
theorem Inv.kept {t' : Nat} (I : Inv X pins σ H s) (k : ∀ b u, s.heap.get? b = some u → h'.get? b = some u) : Inv X pins σ H { s with heap := h', toks := t' } := I.un (Un.kept k) (I.hok.kept k)
theorem Inv.laid {a : Addr} {o : HO} {t' : Nat} (I : Inv X pins σ H s) (k : ∀ b u, s.heap.get? b = some u → h'.get? b = some u) (hp : s.heap.objs.size ≤ a) (new : ObjOk X.prog X.w (upd H a o) h' a o) :
    Inv X pins σ (upd H a o) { s with heap := h', toks := t' } := I.un (Un.laid k hp (I.hok.fresh hp)) (I.hok.laid k hp new)
theorem Inv.write {x e : Addr} {o : HO} {t' : Nat} (I : Inv X pins σ H s) (mu : Mut (H x)) (he : e = x ∨ H e = some (.own x)) (k : ∀ b u, b ≠ e → s.heap.get? b = some u → h'.get? b = some u) (heo : ∃ u, h'.get? e = some u)
    (new : ObjOk X.prog X.w (upd H x o) h' x o) : Inv X pins σ (upd H x o) { s with heap := h', toks := t' } := I.un (Un.write mu he k heo) (I.hok.write mu he k heo new)
theorem Inv.weak {σ' : List (Option V)} (I : Inv X pins σ H s) (hl : σ'.length = σ.length) (w : ∀ (i : Nat) v, σ'[i]? = some (some v) → σ[i]? = some (some v)) : Inv X pins σ' H s :=
  ⟨I.ok, I.os, I.bare, I.base, let ⟨m, hn, hl'⟩ := I.loc; ⟨m, hn, fun i x v e1 e2 e3 => hl' i x v e1 (w i v e2) e3⟩, I.cell, I.free, I.freeC, I.pin, I.hok, hl.trans I.len⟩
theorem Inv.pins_of {pins' : List (Addr × Obj)} (I : Inv X pins σ H s) (h : ∀ p ∈ pins', s.heap.get? p.1 = some p.2 ∧ H p.1 = none ∧ p.1 ≠ X.env.locals ∧ p.1 ∉ X.fs ∧ ∀ v, p.2.data ≠ .cell v) : Inv X pins' σ H s :=
  ⟨I.ok, I.os, I.bare, I.base, I.loc, I.cell, I.free, I.freeC, fun p hp => (List.mem_append.mp hp).elim (fun z => I.pin p (List.mem_append_left _ z)) (h p), I.hok, I.len⟩
theorem nodup_ix {N : List Str} (hN : N.Nodup) {i j : Nat} {x : Str} (a : N[i]? = some x) (b : N[j]? = some x) : i = j := by
  obtain ⟨h1, e1⟩ := List.getElem?_eq_some_iff.mp a
  obtain ⟨h2, e2⟩ := List.getElem?_eq_some_iff.mp b
  exact (List.getElem_inj hN).mp (e1.trans e2.symm)
theorem store_ok2 {M : Model} {A : Around} {E : Value → Shared → Prop} {i : Nat} {x : Str} {v : V} {u : Value} {Q : Unit → Shared → Prop} (I : Inv X pins σ H s) (hN : X.N.Nodup) (hi : X.N[i]? = some x) (hx : Loc X.env.scope x) (r : RelV v u)
    (h : ∀ s', Inv X pins (σ.set i (some v)) H s' → (∃ a, Heap.SameBut a s.heap s'.heap ∧ (a = X.env.locals ∨ X.env.cells.lookup x = some a)) → Q () s') (hf : X.fn x = true ∨ X.env.scope.names.lookup x = some .local := by with_unfolding_all (first | exact .inl rfl | exact .inr rfl | assumption)) : wpAny M A (storeName X.env x u) Q E s := by
  obtain ⟨m, hn, hl⟩ := id I.loc
  have hcls : (X.env.scope.kind == .class || (X.env.scope.kind == .module && X.env.locals != X.env.globals)) = false := by rw [I.ok.kind]; rfl
  have hiσ : i < σ.length := by rw [I.len]; exact (List.getElem?_eq_some_iff.mp hi).1
  have cne := I.cne
  have tracked : ∀ {a : Addr} {h' : Heap}, (∃ o, s.heap.get? a = some o ∧ H a = none) → Heap.SameBut a s.heap h' → HOk X.prog X.w H h' := fun {a h'} ha hs b ob e => by
    obtain ⟨_, _, hfree⟩ := ha
    refine (I.hok b ob e).stay (fun c w' hc q => (hs.2 c ?_).trans q) (fun _ q => q) fun _ _ q => q
    rintro rfl
    rcases hc with rfl | hc
    · rw [hfree] at e; cases e
    · rw [hfree] at hc; cases hc
  rcases hx with hk | hk
  · refine wpAny_storeName_local hk hn (fun h' hn' hs => ?_) hcls
    obtain ⟨oL, _, _, hoL, _⟩ := id hn
    refine h _ ⟨I.ok, I.os, I.bare, ⟨fun b o e n hb hx => ?_, fun b o e n hb hx => ?_, I.base.free, fun b o e hx => ?_, I.base.tups, I.base.frzs, I.base.tbls⟩, ⟨_, hn', fun j y v' e1 e2 e3 => ?_⟩, fun y c e => ?_, I.free, I.freeC, fun p hp => ?_, tracked ⟨oL, hoL, I.free⟩ hs, by simpa using I.len⟩ ⟨_, hs, .inl rfl⟩
    · exact (hs.2 b (Nat.ne_of_lt (Nat.lt_of_lt_of_le (Heap.lt_size e) I.ok.above))).trans (I.base.keep b o e n hb hx)
    · obtain ⟨sl, e1⟩ := I.base.slot b o e n hb hx
      exact ⟨sl, (hs.2 b (Nat.ne_of_lt (Nat.lt_of_lt_of_le (Heap.lt_size e) I.ok.above))).trans e1⟩
    · obtain ⟨o', e1⟩ := I.base.there b o e hx
      exact ⟨o', (hs.2 b (Nat.ne_of_lt (Nat.lt_of_lt_of_le (Heap.lt_size e) I.ok.above))).trans e1⟩
    · by_cases hj : j = i
      · subst hj
        rw [hi] at e1; cases e1
        rw [List.getElem?_set_self hiσ] at e2
        cases e2
        exact ⟨u, r, .inl ⟨hk, by simp⟩⟩
      · rw [List.getElem?_set_ne (Ne.symm hj)] at e2
        obtain ⟨u', r', q⟩ := hl j y v' e1 e2 e3
        refine ⟨u', r', ?_⟩
        rcases q with ⟨k, e⟩ | ⟨k, c, e, z⟩
        · refine .inl ⟨k, ?_⟩
          have : y ≠ x := fun e => hj (nodup_ix hN e1 (e ▸ hi))
          simp [this, e]
        · exact .inr ⟨k, c, e, z.sameBut hs (cne y c e)⟩
    · obtain ⟨w', z⟩ := I.cell y c e
      exact ⟨w', z.sameBut hs (cne y c e)⟩
    · obtain ⟨e, n, ne, nf, d⟩ := I.pin p hp
      exact ⟨(hs.2 p.1 ne).trans e, n, ne, nf, d⟩
  · have hfn : X.fn x = true := by
      rcases hf with z | z
      · exact z
      · rw [z] at hk; cases hk
    obtain ⟨c, hc⟩ := I.ok.has x (.inl hk)
    obtain ⟨w', z⟩ := I.cell x c hc
    refine wpAny_storeName_cell I.ok.kind hk hc z (fun h' hc' hs => ?_)
    obtain ⟨oc, hoc, hocd⟩ := id z
    refine h { s with heap := h' } ⟨I.ok, I.os, I.bare, ⟨fun b o e n hb hx => ?_, fun b o e n hb hx => ?_, I.base.free, fun b o e hx => ?_, I.base.tups, I.base.frzs, I.base.tbls⟩, ⟨m, hn.sameBut hs (Ne.symm (cne x c hc)), fun j y v' e1 e2 e3 => ?_⟩, fun y c' e => ?_, I.free, I.freeC, fun p hp => ?_, tracked ⟨oc, hoc, I.freeC x c hc⟩ hs, by simpa using I.len⟩ ⟨c, hs, .inr hc⟩
    · exact (hs.2 b (Nat.ne_of_lt (Nat.lt_of_lt_of_le (Heap.lt_size e) (I.ok.cab x c hfn hc)))).trans (I.base.keep b o e n hb hx)
    · obtain ⟨sl, e1⟩ := I.base.slot b o e n hb hx
      exact ⟨sl, (hs.2 b (Nat.ne_of_lt (Nat.lt_of_lt_of_le (Heap.lt_size e) (I.ok.cab x c hfn hc)))).trans e1⟩
    · obtain ⟨o', e1⟩ := I.base.there b o e hx
      exact ⟨o', (hs.2 b (Nat.ne_of_lt (Nat.lt_of_lt_of_le (Heap.lt_size e) (I.ok.cab x c hfn hc)))).trans e1⟩
    · by_cases hj : j = i
      · subst hj
        rw [hi] at e1; cases e1
        rw [List.getElem?_set_self hiσ] at e2
        cases e2
        exact ⟨u, r, .inr ⟨.inl hk, c, hc, hc'⟩⟩
      · rw [List.getElem?_set_ne (Ne.symm hj)] at e2
        obtain ⟨u', r', q⟩ := hl j y v' e1 e2 e3
        refine ⟨u', r', ?_⟩
        rcases q with q | ⟨k, c', e, z'⟩
        · exact .inl q
        · refine .inr ⟨k, c', e, z'.sameBut hs ?_⟩
          rintro rfl
          exact hj (nodup_ix hN e1 (I.ok.inj _ _ _ e hc ▸ hi))
    · by_cases hcc : c' = c
      · subst hcc; exact ⟨_, hc'⟩
      · obtain ⟨w2, z2⟩ := I.cell y c' e
        exact ⟨w2, z2.sameBut hs hcc⟩
    · obtain ⟨e, n, ne, nf, d⟩ := I.pin p hp
      refine ⟨(hs.2 p.1 ?_).trans e, n, ne, nf, d⟩
      intro q
      rw [q, hoc] at e
      have q' : oc = p.2 := Option.some.inj e
      exact d w' (by rw [← q']; exact hocd)
theorem store_ok {M : Model} {A : Around} {E : Value → Shared → Prop} {i : Nat} {x : Str} {v : V} {u : Value} {Q : Unit → Shared → Prop} (I : Inv X pins σ H s) (hN : X.N.Nodup) (hi : X.N[i]? = some x) (hx : Loc X.env.scope x) (r : RelV v u)
    (h : ∀ s', Inv X pins (σ.set i (some v)) H s' → Q () s') (hf : X.fn x = true ∨ X.env.scope.names.lookup x = some .local := by with_unfolding_all (first | exact .inl rfl | exact .inr rfl | assumption)) : wpAny M A (storeName X.env x u) Q E s :=
  store_ok2 I hN hi hx r (fun s' I' _ => h s' I') hf
theorem Inv.call' {s' : Shared} {ch : List Addr} (I : Inv X pins σ H s) (ho : s'.os = s.os) (u : Un (frs X.stack) ch H H' s.heap s'.heap) (hok : HOk X.prog X.w H' s'.heap) (hg : AllBare s'.gens)
    (hch : ∀ b ∈ ch, (b ∈ X.ex ∨ X.s₀.heap.objs.size ≤ b) ∧ b ≠ X.env.locals ∧ (∀ x c, X.env.cells.lookup x = some c → c ≠ b) ∧ ∀ p ∈ X.pn ++ pins, p.1 ≠ b) : Inv X pins σ H' s' := by
  obtain ⟨h', g', d', t', o'⟩ := s'
  have e : o' = s.os := ho
  subst e
  exact I.call (g' := g') (t' := t') (d' := d') u hok hg hch
end
noncomputable abbrev XK := Value → Option Addr → Hp → Prop
noncomputable abbrev St := List (Option V)
noncomputable abbrev VK := V → Hp → Prop
noncomputable abbrev TE := St → Hp → VK → Prop
noncomputable abbrev TT := St → Hp → (Bool → Hp → Prop) → Prop
noncomputable abbrev TA := St → Hp → (List V → Hp → Prop) → Prop
structure Ends where
  nx : St → Hp → Prop
  rt : VK
  bk : St → Hp → Prop := fun _ _ => False
  ct : St → Hp → Prop := fun _ _ => False
noncomputable abbrev TS := Ends → St → Hp → Prop
noncomputable def EP (X : Cx) (pins : List (Addr × Obj)) (σ : St) (Q : VK) (u : Value) (s' : Shared) : Prop := ∃ v H', Inv X pins σ H' s' ∧ RelV v u ∧ Q v H'
noncomputable def TP (X : Cx) (pins : List (Addr × Obj)) (σ : St) (Q : Bool → Hp → Prop) (b : Bool) (s' : Shared) : Prop := ∃ H', Inv X pins σ H' s' ∧ Q b H'
noncomputable def AP (X : Cx) (pins : List (Addr × Obj)) (σ : St) (Q : List V → Hp → Prop) (us : List Value) (s' : Shared) : Prop := ∃ vs H', Inv X pins σ H' s' ∧ Vals vs us ∧ Q vs H'
noncomputable def SP (X : Cx) (pins : List (Addr × Obj)) (D : Ends) (f : Flow) (s' : Shared) : Prop :=
  match f with
  | .next => ∃ σ' H', Inv X pins σ' H' s' ∧ D.nx σ' H'
  | .brk => ∃ σ' H', Inv X pins σ' H' s' ∧ D.bk σ' H'
  | .cont => ∃ σ' H', Inv X pins σ' H' s' ∧ D.ct σ' H'
  | .ret u => ∃ v σ' H', Inv X pins σ' H' s' ∧ RelV v u ∧ D.rt v H'
noncomputable def PE (X : Cx) (e : Expr) (t : TE) : Prop :=
  ∀ (pins : List (Addr × Obj)) (s : Shared) (σ : St) (H : Hp) (Q : VK), Inv X pins σ H s → t σ H Q → wpAny (model X.prog X.w) X.A (eval e X.env) (EP X pins σ Q) X.xe s
noncomputable def PT (X : Cx) (e : Expr) (t : TT) : Prop :=
  ∀ (pins : List (Addr × Obj)) (s : Shared) (σ : St) (H : Hp) (Q : Bool → Hp → Prop), Inv X pins σ H s → t σ H Q → wpAny (model X.prog X.w) X.A (isTrue e X.env (eval e X.env)) (TP X pins σ Q) X.xe s
noncomputable def PW (X : Cx) (e : Expr) (t : TT) : Prop :=
  ∀ (whole : Sem Value) (pins : List (Addr × Obj)) (s : Shared) (σ : St) (H : Hp) (Q : Bool → Hp → Prop), Inv X pins σ H s → t σ H Q → wpAny (model X.prog X.w) X.A (isTrue e X.env whole) (TP X pins σ Q) X.xe s
theorem PW.pt {X : Cx} {e : Expr} {t : TT} (h : PW X e t) : PT X e t := h _
noncomputable def PA (X : Cx) (es : List Expr) (t : TA) : Prop :=
  ∀ (pos : Pos) (pins : List (Addr × Obj)) (s : Shared) (σ : St) (H : Hp) (Q : List V → Hp → Prop), Inv X pins σ H s → t σ H Q → wpAny (model X.prog X.w) X.A (spliced (backTo pos (starEach es X.env))) (AP X pins σ Q) X.xe s
noncomputable def PS (X : Cx) (st : Stmt) (t : TS) : Prop :=
  ∀ (pins : List (Addr × Obj)) (s : Shared) (σ : St) (H : Hp) (D : Ends), Inv X pins σ H s → t D σ H → wpAny (model X.prog X.w) X.A (exec st X.env) (SP X pins D) X.xe s
noncomputable def PSs (X : Cx) (st : List Stmt) (t : TS) : Prop :=
  ∀ (pins : List (Addr × Obj)) (s : Shared) (σ : St) (H : Hp) (D : Ends), Inv X pins σ H s → t D σ H → wpAny (model X.prog X.w) X.A (execs st X.env) (SP X pins D) X.xe s
theorem thn {α : Type} {t : Sem α} {Q Q' : α → Shared → Prop} {M : Model} {A : Around} {E : Value → Shared → Prop} {s : Shared} (h : wpAny M A t Q E s) (hQ : ∀ a s, Q a s → Q' a s) : wpAny M A t Q' E s := wpAny_mono h hQ fun _ _ x => x
end L2
namespace L2
open PySem PySem.Spec PyProof.Rows
section
variable {X : Cx}
noncomputable def tVar (i : Nat) : TE := fun σ H Q => ∃ v, σ[i]? = some (some v) ∧ Q v H
noncomputable def tC (v : V) : TE := fun _ H Q => Q v H
theorem pe_var {i : Nat} {x : Str} {pos : Pos} (hN : X.N[i]? = some x) (hv : Vis X.env.scope x) (hd : (x == ("__debug__" : Str)) = false := by decide) (hcd : (x == ("__classdict__" : Str)) = false := by decide) : PE X (.Name x pos) (tVar i) := by
  intro pins s σ H Q I h
  obtain ⟨v, e, h⟩ := h
  obtain ⟨m, hn, hl⟩ := I.loc
  obtain ⟨u, r, l⟩ := hl i x v hN e hv
  have fin : EP X pins σ Q u s := ⟨v, H, I, r, h⟩
  rcases l with ⟨hk, hm⟩ | ⟨hk, c, hc, hcell⟩
  · exact wpAny_Name (wpAny_loadName_local I.ok.kind hk hn hm fin) hd
  · rcases hk with hk | hk
    · exact wpAny_Name (wpAny_loadName_cell I.ok.kind hk hc hcell fin) hd
    · exact wpAny_Name (wpAny_loadName_free I.ok.kind hk hc hcell fin hcd) hd
theorem pe_int {i j pos} : PE X (.Constant (.int i) j pos) (tC (.int i)) := fun _ _ _ H _ I h => wpAny_Constant_int ⟨.int i, H, I.tok _, ⟨_, rfl⟩, h⟩
theorem pe_bl {b j pos} : PE X (.Constant (.bool b) j pos) (tC (.bl b)) := fun _ _ _ H _ I h => Constant_bool ⟨.bl b, H, I, rfl, h⟩
theorem pe_non {j pos} : PE X (.Constant .none j pos) (tC .non) := fun _ _ _ H _ I h => Constant_none ⟨.non, H, I, rfl, h⟩
theorem pe_str {x j pos} : PE X (.Constant (.str x) j pos) (tC (.str x)) := fun _ _ _ H _ I h => Calls.Constant_str ⟨.str x, H, I.tok _, ⟨_, rfl⟩, h⟩
noncomputable def Gl (X : Cx) (x : Str) : Prop := X.env.kindOf x = some .globalImplicit
theorem ld_glob {E : Value → Shared → Prop} {pins : List (Addr × Obj)} {s : Shared} {σ : St} {H : Hp} {x : Str} {u : Value} {pos : Pos} {Q : Value → Shared → Prop} (I : Inv X pins σ H s) (hg : Gl X x) (hm : X.mg x = some u) (h : Q u s)
    (hd : (x == ("__debug__" : Str)) = false := by decide) : wpAny (model X.prog X.w) X.A (eval (.Name x pos) X.env) Q E s :=
  Calls.Name_function_global I.ok.kind hg (Calls.loadGlobal_global (by rw [I.ok.glob]; exact I.mod.glob.keeps I.bk) hm h) hd
theorem ld_blt {E : Value → Shared → Prop} {pins : List (Addr × Obj)} {s : Shared} {σ : St} {H : Hp} {x : Str} {u : Value} {pos : Pos} {Q : Value → Shared → Prop} (I : Inv X pins σ H s) (hg : Gl X x) (hm : X.mg x = none) (hv : bootBuiltins x = some u) (h : Q u s)
    (hn : x ≠ "__name__" := by decide) (hd : (x == ("__debug__" : Str)) = false := by decide) : wpAny (model X.prog X.w) X.A (eval (.Name x pos) X.env) Q E s := by
  obtain ⟨mb, h1, h2⟩ := I.mod.blt
  exact Calls.Name_function_global I.ok.kind hg (Calls.loadGlobal_builtin (by rw [I.ok.glob]; exact I.mod.glob.keeps I.bk) hm (by rw [I.ok.blt]; exact h1.keeps I.bk) ((h2 x hn).trans hv) h) hd
theorem pe_glob {x : Str} {v : V} {u : Value} {pos : Pos} (hg : Gl X x) (hm : X.mg x = some u) (r : RelV v u) (hd : (x == ("__debug__" : Str)) = false := by decide) : PE X (.Name x pos) (tC v) :=
  fun _ _ _ H _ I h => ld_glob I hg hm ⟨v, H, I, r, h⟩ hd
theorem pe_bltn {x : Str} {v : V} {u : Value} {pos : Pos} (hg : Gl X x) (hm : X.mg x = none) (hv : bootBuiltins x = some u) (r : RelV v u) (hn : x ≠ "__name__" := by decide) (hd : (x == ("__debug__" : Str)) = false := by decide) : PE X (.Name x pos) (tC v) :=
  fun _ _ _ H _ I h => ld_blt I hg hm hv ⟨v, H, I, r, h⟩ hn hd
variable {a b : Expr} {ta tb : TE} {pos : Pos}
noncomputable def tB (t : TE) : TT := fun σ H Q => t σ H fun x H1 => ∃ c, x = .bl c ∧ Q c H1
theorem pt_val {e : Expr} {t : TE} (h : PE X e t) (he : ∀ whole, isTrue e X.env whole = (do let v ← whole; standAt e.pos; holding [v] (truthy v)) := by intro _; with_unfolding_all rfl) : PT X e (tB t) := by
  intro pins s σ H Q I hw
  refine isTrue_plain (thn (h pins s σ H _ I hw) fun v s1 ⟨x, H1, I1, r1, q1⟩ => ?_) (he _)
  obtain ⟨d, rfl, q⟩ := q1
  cases r1
  exact wpAny_truthy_bool ⟨H1, I1, q⟩
variable {tA tB' : TT} {rest : List Expr}
noncomputable def tAnd (t u : TT) : TT := fun σ H Q => t σ H fun c H1 => if c = true then u σ H1 Q else Q false H1
noncomputable def tOr (t u : TT) : TT := fun σ H Q => t σ H fun c H1 => if c = true then Q true H1 else u σ H1 Q
noncomputable def tNot (t : TT) : TT := fun σ H Q => t σ H fun c H1 => Q (!c) H1
theorem pw_and1 (ha : PT X a tA) : PW X (.BoolOp .And [a] pos) tA := by
  intro wh pins s σ H Q I h
  refine isTrue_and (thn (ha pins s σ H Q I h) fun c s1 e => ?_)
  cases c with
  | true => exact isTrue_and_nil e
  | false => exact e
theorem pw_or1 (ha : PT X a tA) : PW X (.BoolOp .Or [a] pos) tA := by
  intro wh pins s σ H Q I h
  refine isTrue_or (thn (ha pins s σ H Q I h) fun c s1 e => ?_)
  cases c with
  | false => exact isTrue_or_nil e
  | true => exact e
theorem pw_and (ha : PT X a tA) (hb : PW X (.BoolOp .And (b :: rest) pos) tB') : PW X (.BoolOp .And (a :: b :: rest) pos) (tAnd tA tB') := by
  intro wh pins s σ H Q I h
  refine isTrue_and (thn (ha pins s σ H _ I h) fun c s1 ⟨H1, I1, q1⟩ => ?_)
  cases c with
  | true => exact hb wh pins s1 σ H1 Q I1 q1
  | false => exact ⟨H1, I1, q1⟩
theorem pw_or (ha : PT X a tA) (hb : PW X (.BoolOp .Or (b :: rest) pos) tB') : PW X (.BoolOp .Or (a :: b :: rest) pos) (tOr tA tB') := by
  intro wh pins s σ H Q I h
  refine isTrue_or (thn (ha pins s σ H _ I h) fun c s1 ⟨H1, I1, q1⟩ => ?_)
  cases c with
  | true => exact ⟨H1, I1, q1⟩
  | false => exact hb wh pins s1 σ H1 Q I1 q1
theorem pt_not (ha : PT X a tA) : PT X (.UnaryOp .Not a pos) (tNot tA) := by
  intro pins s σ H Q I h
  exact isTrue_not (ha pins s σ H (fun c H1 => Q (!c) H1) I h)
noncomputable def tAndV (ta tb : TE) : TE := fun σ H Q => ta σ H fun x H1 => ∃ c, x = .bl c ∧ if c = true then tb σ H1 Q else Q (.bl false) H1
noncomputable def tOrV (ta tb : TE) : TE := fun σ H Q => ta σ H fun x H1 => ∃ c, x = .bl c ∧ if c = true then Q (.bl true) H1 else tb σ H1 Q
noncomputable def tNotV (ta : TE) : TE := fun σ H Q => ta σ H fun x H1 => ∃ c, x = .bl c ∧ Q (.bl (!c)) H1
theorem pe_one {op} {t : TE} (h : PE X a t) : PE X (.BoolOp op [a] pos) t := fun pins s σ H Q I hw => BoolOp_one (h pins s σ H Q I hw)
theorem pe_and (ha : PE X a ta) (hb : PE X (.BoolOp .And (b :: rest) pos) tb) : PE X (.BoolOp .And (a :: b :: rest) pos) (tAndV ta tb) := by
  intro pins s σ H Q I h
  refine BoolOp_and (thn (ha pins s σ H _ I h) fun v s1 ⟨x, H1, I1, r1, q1⟩ => ?_)
  obtain ⟨c, rfl, q1⟩ := q1
  cases r1
  refine wpAny_truthy_bool ?_
  cases c with
  | true => exact hb pins s1 σ H1 Q I1 q1
  | false => exact ⟨.bl false, H1, I1, rfl, q1⟩
theorem pe_or (ha : PE X a ta) (hb : PE X (.BoolOp .Or (b :: rest) pos) tb) : PE X (.BoolOp .Or (a :: b :: rest) pos) (tOrV ta tb) := by
  intro pins s σ H Q I h
  refine BoolOp_or (thn (ha pins s σ H _ I h) fun v s1 ⟨x, H1, I1, r1, q1⟩ => ?_)
  obtain ⟨c, rfl, q1⟩ := q1
  cases r1
  refine wpAny_truthy_bool ?_
  cases c with
  | false => exact hb pins s1 σ H1 Q I1 q1
  | true => exact ⟨.bl true, H1, I1, rfl, q1⟩
theorem pe_not (ha : PE X a ta) : PE X (.UnaryOp .Not a pos) (tNotV ta) := by
  intro pins s σ H Q I h
  refine UnaryOp_ (thn (ha pins s σ H _ I h) fun v s1 ⟨x, H1, I1, r1, q1⟩ => ?_)
  obtain ⟨c, rfl, q1⟩ := q1
  cases r1
  exact not_of (wpAny_truthy_bool ⟨.bl (!c), H1, I1, rfl, q1⟩)
noncomputable def tIf (t : TT) (ta tb : TE) : TE := fun σ H Q => t σ H fun c H1 => if c = true then ta σ H1 Q else tb σ H1 Q
theorem pe_ifExp {c : Expr} (hc : PT X c tA) (ha : PE X a ta) (hb : PE X b tb) : PE X (.IfExp c a b pos) (tIf tA ta tb) := by
  intro pins s σ H Q I h
  refine wpAny_IfExp (thn (hc pins s σ H _ I h) fun d s1 ⟨H1, I1, q1⟩ => ?_)
  cases d with
  | true => exact ha pins s1 σ H1 Q I1 q1
  | false => exact hb pins s1 σ H1 Q I1 q1
end
end L2
namespace L2
open PySem PySem.Spec PyProof.Rows
noncomputable def SqL (K : PySem.W.Frag) (H : Hp) (a : Addr) (xs : List V) : Prop :=
  Rd H a (.lst xs) ∨
    ∃ (o : Obj) (its : Array Value) (n : Nat), K.lookup a = some o ∧ o.cls = .type "list" ∧ o.dict = none ∧ o.data = .seq its n ∧ its.size ≤ sizeLine ∧ Vals xs its.toList
noncomputable def SqT (K : PySem.W.Frag) (H : Hp) (a : Addr) (xs : List V) : Prop :=
  Rd H a (.tup xs) ∨
    ∃ (o : Obj) (its : Array Value) (n : Nat), K.lookup a = some o ∧ o.cls = .type "tuple" ∧ o.data = .seq its n ∧ its.size ≤ sizeLine ∧ Vals xs its.toList ∧ o.dict = none
noncomputable def absV : Value → Option V
  | .none => some .non
  | .bool b => some (.bl b)
  | .int i _ => some (.int i)
  | .str x _ => some (.str x)
  | .bytes b _ => some (.byt b)
  | .float b _ => some (.flt b)
  | .ref a => some (.ref a)
  | .type n => some (.ty n)
  | _ => none
theorem RelV.abs {x : V} {u : Value} (r : RelV x u) : absV u = some x := by
  cases x with
  | non => cases r; rfl
  | bl _ => cases r; rfl
  | int _ => obtain ⟨t, rfl⟩ := r; rfl
  | str _ => obtain ⟨t, rfl⟩ := r; rfl
  | byt _ => obtain ⟨t, rfl⟩ := r; rfl
  | flt _ => obtain ⟨t, rfl⟩ := r; rfl
  | ref _ => cases r; rfl
  | ty _ => cases r; rfl
theorem RelV.inj {x y : V} {u : Value} (r : RelV x u) (q : RelV y u) : x = y := Option.some.inj (r.abs.symm.trans q.abs)
theorem Vals.inj : ∀ {xs ys : List V} {us : List Value}, Vals xs us → Vals ys us → xs = ys
  | _, _, _, .nil, .nil => rfl
  | _, _, _, .cons r t, .cons r' t' => by rw [r.inj r', Vals.inj t t']
section
variable {X : Cx} {pins : List (Addr × Obj)} {σ : St} {H : Hp} {s : Shared} {a : Addr} {xs ys : List V}
theorem SqL.of {K : PySem.W.Frag} (h : H a = some (.lst xs)) : SqL K H a xs := .inl (.inl h)
theorem SqT.of {K : PySem.W.Frag} (h : H a = some (.tup xs)) : SqT K H a xs := .inl (.inl h)
theorem Inv.list (I : Inv X pins σ H s) (h : SqL X.K H a xs) : ∃ its : List Value, Vals xs its ∧ PlainL s.heap a its.toArray ∧ xs.length ≤ sizeLine := by
  rcases h with h | ⟨o, its, n, hk, hc, hd, hs, hz, r⟩
  · obtain ⟨z, its, n, r, e⟩ := h.ok I.hok
    exact ⟨its, r, ⟨_, n, e, rfl, rfl, rfl⟩, z⟩
  · refine ⟨its.toList, r, ⟨o, n, I.kIn a o hk, hc, hd, by simpa using hs⟩, ?_⟩
    have e := r.length
    simp only [Array.length_toList] at e
    omega
theorem Inv.tuple (I : Inv X pins σ H s) (h : SqT X.K H a xs) : ∃ its : List Value, Vals xs its ∧ IsTup s.heap a its.toArray ∧ xs.length ≤ sizeLine := by
  rcases h with h | ⟨o, its, n, hk, hc, hs, hz, r, hn⟩
  · obtain ⟨z, its, r, p⟩ := h.ok I.hok
    exact ⟨its, r, p.tup, z⟩
  · refine ⟨its.toList, r, ⟨o, I.kIn a o hk, hc, n, by simpa using hs⟩, ?_⟩
    have e := r.length
    simp only [Array.length_toList] at e
    omega
theorem Inv.list_inj (I : Inv X pins σ H s) (h : SqL X.K H a xs) (h' : SqL X.K H a ys) : xs = ys := by
  obtain ⟨its, r, ⟨o, n, e, _, _, d⟩, _⟩ := I.list h
  obtain ⟨its', r', ⟨o', n', e', _, _, d'⟩, _⟩ := I.list h'
  rw [e] at e'; cases e'
  rw [d] at d'
  injection d' with d1 _
  have : its = its' := by simpa using congrArg Array.toList d1
  subst this
  exact r.inj r'
theorem Inv.tuple_inj (I : Inv X pins σ H s) (h : SqT X.K H a xs) (h' : SqT X.K H a ys) : xs = ys := by
  obtain ⟨its, r, ⟨o, e, _, n, d⟩, _⟩ := I.tuple h
  obtain ⟨its', r', ⟨o', e', _, n', d'⟩, _⟩ := I.tuple h'
  rw [e] at e'; cases e'
  rw [d] at d'
  injection d' with d1 _
  have : its = its' := by simpa using congrArg Array.toList d1
  subst this
  exact r.inj r'
end
noncomputable abbrev Cx.wish (X : Cx) (E : Value → Shared → Prop) : Cx := { X with xe := E }
noncomputable abbrev Cx.nox (X : Cx) : Cx := X.wish fun _ _ => False
theorem Cx.Ok.wish {X : Cx} (ok : X.Ok) (E : Value → Shared → Prop) : (X.wish E).Ok :=
  ⟨ok.mod, ok.kind, ok.glob, ok.blt, ok.above, ok.inj, ok.has, ok.cab, ok.hd, ok.frames, ok.stk, ok.exf, ok.bs, ok.bsz, ok.noex, ok.exfs, ok.funs, ok.frf⟩
theorem Cx.Ok.unwish {X : Cx} {E : Value → Shared → Prop} (ok : (X.wish E).Ok) : X.Ok :=
  ⟨ok.mod, ok.kind, ok.glob, ok.blt, ok.above, ok.inj, ok.has, ok.cab, ok.hd, ok.frames, ok.stk, ok.exf, ok.bs, ok.bsz, ok.noex, ok.exfs, ok.funs, ok.frf⟩
section
variable {X : Cx} {pins : List (Addr × Obj)} {σ : St} {H : Hp} {s : Shared} {E : Value → Shared → Prop}
theorem Inv.wish (I : Inv X pins σ H s) (E : Value → Shared → Prop) : Inv (X.wish E) pins σ H s := ⟨I.ok.wish E, I.os, I.bare, I.base, I.loc, I.cell, I.free, I.freeC, I.pin, I.hok, I.len⟩
theorem Inv.unwish (I : Inv (X.wish E) pins σ H s) : Inv X pins σ H s := ⟨I.ok.unwish, I.os, I.bare, I.base, I.loc, I.cell, I.free, I.freeC, I.pin, I.hok, I.len⟩
theorem SP.unwish {D : Ends} {f : Flow} {s' : Shared} (h : SP (X.wish E) pins D f s') : SP X pins D f s' := by
  cases f with
  | next => obtain ⟨σ', H', I, q⟩ := h; exact ⟨σ', H', I.unwish, q⟩
  | brk => obtain ⟨σ', H', I, q⟩ := h; exact ⟨σ', H', I.unwish, q⟩
  | cont => obtain ⟨σ', H', I, q⟩ := h; exact ⟨σ', H', I.unwish, q⟩
  | ret u => obtain ⟨v, σ', H', I, r, q⟩ := h; exact ⟨v, σ', H', I.unwish, r, q⟩
theorem PSs.nox {st : List Stmt} {t : TS} (h : PSs X.nox st t) : PSs X st t := fun pins s σ H D I hw =>
  wpAny_mono (h pins s σ H D (I.wish _) hw) (fun _ _ q => q.unwish) fun _ _ z => False.elim z
end
section
variable {X : Cx} {st : Stmt} {rest : List Stmt} {t u : TS} {e : Expr} {te : TE} {pos : Pos}
noncomputable def tNext : TS := fun D σ H => D.nx σ H
noncomputable def tSeq (t u : TS) : TS := fun D σ H => t { D with nx := u D } σ H
theorem pss_nil : PSs X [] tNext := fun _ _ σ H _ I h => wpAny_execs_nil ⟨σ, H, I, h⟩
theorem pss_cons (h1 : PS X st t) (h2 : PSs X rest u) : PSs X (st :: rest) (tSeq t u) := by
  intro pins s σ H D I h
  refine wpAny_execs_cons (thn (h1 pins s σ H { D with nx := u D } I h) fun f s1 q => ?_)
  cases f with
  | next =>
    obtain ⟨σ', H', I', q⟩ := q
    exact h2 pins s1 σ' H' D I' q
  | ret v => exact q
  | brk => exact q
  | cont => exact q
theorem pss_one (h1 : PS X st t) : PSs X [st] t := by
  intro pins s σ H D I h
  refine wpAny_execs_cons (thn (h1 pins s σ H D I h) fun f s1 q => ?_)
  cases f with
  | next => exact wpAny_execs_nil q
  | ret v => exact q
  | brk => exact q
  | cont => exact q
theorem Inv.quiet {pins : List (Addr × Obj)} {σ : St} {H : Hp} {s : Shared} (I : Inv X pins σ H s) : interactive X.env = false := by simp [interactive, I.ok.kind]
noncomputable def tDrop (te : TE) : TS := fun D σ H => te σ H fun _ H1 => D.nx σ H1
theorem ps_expr (he : PE X e te) (hs : swapsWith e none pos.line X.env = pure false := by with_unfolding_all rfl) : PS X (.Expr e pos) (tDrop te) := by
  intro pins s σ H D I h
  exact wpAny_Expr_any (thn (he pins s σ H _ I h) fun v s1 ⟨x, H1, I1, r1, q1⟩ => ⟨σ, H1, I1, q1⟩) I.quiet hs
noncomputable def tRet (te : TE) : TS := fun D σ H => te σ H D.rt
theorem ps_ret (he : PE X e te) : PS X (.Return (some e) pos) (tRet te) := by
  intro pins s σ H D I h
  exact wpAny_Return_some (thn (he pins s σ H _ I h) fun v s1 ⟨x, H1, I1, r1, q1⟩ => ⟨x, σ, H1, I1, r1, q1⟩)
noncomputable def tIfS (c : TT) (t u : TS) : TS := fun D σ H => c σ H fun b H1 => if b = true then t D σ H1 else u D σ H1
theorem ps_if {c : Expr} {a b : List Stmt} {tc : TT} (hc : PT X c tc) (ha : PSs X a t) (hb : PSs X b u) : PS X (.If c a b pos) (tIfS tc t u) := by
  intro pins s σ H D I h
  refine wpAny_If (thn (hc pins s σ H _ I h) fun d s1 ⟨H1, I1, q1⟩ => ?_)
  cases d with
  | true => exact ha pins s1 σ H1 D I1 q1
  | false => exact hb pins s1 σ H1 D I1 q1
end
noncomputable abbrev TG := V → St → Hp → (St → Hp → Prop) → Prop
noncomputable def PG (X : Cx) (target : Expr) (t : TG) : Prop :=
  ∀ (pins : List (Addr × Obj)) (s : Shared) (σ : St) (H : Hp) (v : V) (u : Value) (Q : St → Hp → Prop), Inv X pins σ H s → RelV v u → t v σ H Q →
    wpAny (model X.prog X.w) X.A (assign target X.env u) (fun _ s' => ∃ σ' H', Inv X pins σ' H' s' ∧ Q σ' H') X.xe s
section
variable {X : Cx} {pos : Pos}
noncomputable def gName (i : Nat) : TG := fun v σ H Q => Q (σ.set i (some v)) H
theorem pg_name {i : Nat} {x : Str} (hN : X.N.Nodup) (hi : X.N[i]? = some x) (hx : Loc X.env.scope x) (hf : X.fn x = true ∨ X.env.scope.names.lookup x = some .local := by with_unfolding_all (first | exact .inl rfl | exact .inr rfl | assumption)) : PG X (.Name x pos) (gName i) := by
  intro pins s σ H v u Q I r h
  exact wpAny_assign_Name (store_ok I hN hi hx r (fun s' I' => ⟨_, H, I', h⟩) hf)
noncomputable def tAsg (te : TE) (g : TG) : TS := fun D σ H => te σ H fun x H1 => g x σ H1 D.nx
theorem ps_set {i : Nat} {x : Str} {e : Expr} {te : TE} {pos' : Pos} (hN : X.N.Nodup) (hi : X.N[i]? = some x) (hx : Loc X.env.scope x) (he : PE X e te) (hs : swapsWith e (some (.Name x pos')) pos.line X.env = pure false := by with_unfolding_all rfl) (hf : X.fn x = true ∨ X.env.scope.names.lookup x = some .local := by with_unfolding_all (first | exact .inl rfl | exact .inr rfl | assumption)) :
    PS X (.Assign [.Name x pos'] e pos) (tAsg te (gName i)) := by
  intro pins s σ H D I h
  refine wpAny_Assign_Name (thn (he pins s σ H _ I h) fun v s1 ⟨y, H1, I1, r1, q1⟩ => ?_) hs
  exact store_ok I1 hN hi hx r1 (fun s2 I2 => ⟨_, H1, I2, q1⟩) hf
end
section
variable {X : Cx} {pos : Pos}
end
structure It where
  go : Nat → Hp → Prop
  yld : Nat → Hp → V → Hp → Prop
  stop : Nat → Hp → Prop
noncomputable def FpOk (X : Cx) (pins : List (Addr × Obj)) (H : Hp) (b : Addr) : Prop :=
  H b = none ∧ b ≠ X.env.locals ∧ b ∉ X.fs ∧ (b ∈ X.ex ∨ X.s₀.heap.objs.size ≤ b) ∧ (∀ x c, X.env.cells.lookup x = some c → c ≠ b) ∧ ∀ p ∈ X.pn ++ pins, p.1 ≠ b
theorem Inv.fpOk {X : Cx} {pins : List (Addr × Obj)} {σ : St} {H H' : Hp} {s : Shared} {b : Addr} (I : Inv X pins σ H s) (hb : s.heap.objs.size ≤ b) (hn : H' b = none) : FpOk X pins H' b := by
  refine ⟨hn, Nat.ne_of_gt (Nat.lt_of_lt_of_le I.lt hb), I.nofs hb, .inr (Nat.le_trans I.sz hb), fun x c e z => ?_, fun p hp z => ?_⟩
  · obtain ⟨v, q⟩ := I.cell x c e
    exact absurd (Nat.lt_of_lt_of_le q.lt (by rw [z]; exact hb)) (Nat.lt_irrefl _)
  · exact absurd (Nat.lt_of_lt_of_le (Heap.lt_size (I.pin p hp).1) (by rw [z]; exact hb)) (Nat.lt_irrefl _)
structure Turn (P : Program) (w : World) (K : PySem.W.Frag) (tg : Expr) (J : It) (fp : List Addr) (it : Addr) (tn : Nat → Heap → Prop) : Prop where
  mem : it ∈ fp
  obj : ∀ i h, tn i h → ∀ b ∈ fp, ∃ o, h.get? b = some o ∧ ∀ v, o.data ≠ .cell v
  keep : ∀ i h h', tn i h → (∀ b ∈ fp, ∀ o, h.get? b = some o → h'.get? b = some o) → tn i h'
  item : ∀ (X : Cx), X.prog = P → X.w = w → X.K = K → X.calm = true → ∀ (i : Nat) (pins : List (Addr × Obj)) (s : Shared) (σ : St) (H : Hp) (E : Value → Shared → Prop), Inv X pins σ H s → (∀ b ∈ fp, FpOk X pins H b) → tn i s.heap → J.go i H →
    wpAny (model P w) X.A (pyNext (.ref it)) (fun r s1 => ∃ u, r = some u ∧
      wpAny (model P w) X.A (letOwnedTupleGo tg (.ref it) u) (fun _ s2 => ∃ x H', Inv X pins σ H' s2 ∧ RelV x u ∧ J.yld i H x H' ∧ tn (i + 1) s2.heap ∧ ∀ b ∈ fp, H' b = none) E s1) E s
  done : ∀ (X : Cx), X.prog = P → X.w = w → X.K = K → X.calm = true → ∀ (i : Nat) (pins : List (Addr × Obj)) (s : Shared) (σ : St) (H : Hp) (E : Value → Shared → Prop), Inv X pins σ H s → (∀ b ∈ fp, FpOk X pins H b) → tn i s.heap → J.stop i H →
    wpAny (model P w) X.A (pyNext (.ref it)) (fun r s1 => r = none ∧ Inv X pins σ H s1) E s
  self : ∀ (A : Around) (i : Nat) (s : Shared) (Q : Value → Shared → Prop) (E : Value → Shared → Prop), tn i s.heap → Q (.ref it) s → wpAny (model P w) A (pyIter (.ref it)) Q E s
noncomputable abbrev TI := St → Hp → (It → Hp → Prop) → Prop
noncomputable def PIE (X : Cx) (pins : List (Addr × Obj)) (σ : St) (tg : Expr) (R : It → Hp → Prop) (itv : Value) (s2 : Shared) : Prop :=
  ∃ (it : Addr) (fp : List Addr) (tn : Nat → Heap → Prop) (J : It) (H' : Hp), itv = .ref it ∧ Inv X pins σ H' s2 ∧ Turn X.prog X.w X.K tg J fp it tn ∧ tn 0 s2.heap ∧ (∀ b ∈ fp, FpOk X pins H' b) ∧ R J H'
noncomputable def PI (X : Cx) (tg iter : Expr) (wi : TI) : Prop :=
  ∀ (pins : List (Addr × Obj)) (s : Shared) (σ : St) (H : Hp) (R : It → Hp → Prop), Inv X pins σ H s → wi σ H R →
    wpAny (model X.prog X.w) X.A (eval iter X.env) (fun v s1 => wpAny (model X.prog X.w) X.A (pyIter v) (PIE X pins σ tg R) X.xe s1) X.xe s
theorem go_of {M : Model} {A : Around} {E : Value → Shared → Prop} {s : Shared} {tg : Expr} {it : Addr} {u : Value} {o : Obj} {n : String} {vs : Array Value} {Q : Unit → Shared → Prop} (ho : s.heap.get? it = some o) (hc : o.cls = .type n) (hd : o.data = .fields vs)
    (hn : ["enumerate", "zip", "dict_itemiterator", "dict_reverseitemiterator", "odict_iterator", "itertools.zip_longest", "itertools.pairwise"].contains n = false) (hQ : Q () s) : wpAny M A (letOwnedTupleGo tg (.ref it) u) Q E s := by
  unfold letOwnedTupleGo
  cases tg <;> first
    | exact wpAny_pure hQ
    | (cases u <;> first
        | exact wpAny_pure hQ
        | (refine wpAny_bind (wpAny_load ho ?_)
           rw [hc, hd]
           show wpAny M A (if (["enumerate", "zip", "dict_itemiterator", "dict_reverseitemiterator", "odict_iterator", "itertools.zip_longest", "itertools.pairwise"].contains n && vs[0]? == some (rawInt _)) = true then _ else _) Q E s
           rw [if_neg (by intro h; rw [hn, Bool.false_and] at h; cases h)]
           exact wpAny_pure hQ))
noncomputable def Itl (K : PySem.W.Frag) (a : Addr) : It :=
  ⟨fun i H => ∃ xs x, SqL K H a xs ∧ xs[i]? = some x, fun i H x H' => H' = H ∧ ∀ xs, SqL K H a xs → xs[i]? = some x, fun i H => ∃ xs, SqL K H a xs ∧ xs.length ≤ i⟩
noncomputable def Itt (K : PySem.W.Frag) (a : Addr) : It :=
  ⟨fun i H => ∃ xs x, SqT K H a xs ∧ xs[i]? = some x, fun i H x H' => H' = H ∧ ∀ xs, SqT K H a xs → xs[i]? = some x, fun i H => ∃ xs, SqT K H a xs ∧ xs.length ≤ i⟩
noncomputable def Itr (lo : Int) (n : Nat) : It := ⟨fun i _ => i < n, fun i H x H' => H' = H ∧ x = .int (lo + i), fun i _ => n ≤ i⟩
theorem turn_list {P : Program} {w : World} {K : PySem.W.Frag} {tg : Expr} (a it : Addr) : Turn P w K tg (Itl K a) [it] it (fun i h => h.IsListIter it a i) where
  mem := by simp
  obj := fun i h st b hb => by
    have e : b = it := by simpa using hb
    subst e
    obtain ⟨o, e, c, d⟩ := st
    exact ⟨o, e, fun v z => by rw [d] at z; cases z⟩
  keep := fun i h h' st k => st.at fun o e => k it (by simp) o e
  item := by
    intro X hP hw hK hc i pins s σ H E I hf st hg
    subst hP hw hK
    obtain ⟨xs, x, hq, hx⟩ := hg
    obtain ⟨its, rv, p, hz⟩ := I.list hq
    obtain ⟨u, hu, ru⟩ := rv.get hx
    obtain ⟨f0, f1, f2, f3, f4, f5⟩ := hf it (by simp)
    refine wpAny_pyNext_list_item st p.isList (x := u) (by simpa using hu) fun h' st' sb => ?_
    have I1 : Inv X pins σ H { s with heap := h' } := I.turned (t' := s.toks) (fun b o hb e => (sb.2 b hb).trans e) f0 f1 f3 f4 f5
    obtain ⟨o, e, c, d⟩ := id st'
    exact ⟨u, rfl, go_of (s := { s with heap := h' }) e c d (by decide) ⟨x, H, I1, ru, ⟨rfl, fun ys hy => by rw [I.list_inj hy hq]; exact hx⟩, st', fun b hb => (hf b hb).1⟩⟩
  done := by
    intro X hP hw hK hc i pins s σ H E I hf st hg
    subst hP hw hK
    obtain ⟨xs, hq, hx⟩ := hg
    obtain ⟨its, rv, p, hz⟩ := I.list hq
    obtain ⟨f0, f1, f2, f3, f4, f5⟩ := hf it (by simp)
    have hl := rv.length
    exact wpAny_pyNext_list_end (I.ok.hd hc) st p.isList (by simp; omega) fun h' eb => ⟨rfl, I.turned (t' := s.toks) (fun b o hb e => eb b o hb e) f0 f1 f3 f4 f5⟩
  self := fun _ _ _ _ _ st h => wpAny_pyIter_listiter st h
theorem turn_tuple {P : Program} {w : World} {K : PySem.W.Frag} {tg : Expr} (a it : Addr) : Turn P w K tg (Itt K a) [it] it (fun i h => h.IsTupleIter it a i) where
  mem := by simp
  obj := fun i h st b hb => by
    have e : b = it := by simpa using hb
    subst e
    obtain ⟨o, e, c, d⟩ := st
    exact ⟨o, e, fun v z => by rw [d] at z; cases z⟩
  keep := fun i h h' st k => st.at fun o e => k it (by simp) o e
  item := by
    intro X hP hw hK hc i pins s σ H E I hf st hg
    subst hP hw hK
    obtain ⟨xs, x, hq, hx⟩ := hg
    obtain ⟨its, rv, p, hz⟩ := I.tuple hq
    obtain ⟨u, hu, ru⟩ := rv.get hx
    obtain ⟨f0, f1, f2, f3, f4, f5⟩ := hf it (by simp)
    refine wpAny_pyNext_tuple_item st (show s.heap.IsTuple a its.toArray from p) (x := u) (by simpa using hu) fun h' st' sb => ?_
    have I1 : Inv X pins σ H { s with heap := h' } := I.turned (t' := s.toks) (fun b o hb e => (sb.2 b hb).trans e) f0 f1 f3 f4 f5
    obtain ⟨o, e, c, d⟩ := id st'
    exact ⟨u, rfl, go_of (s := { s with heap := h' }) e c d (by decide) ⟨x, H, I1, ru, ⟨rfl, fun ys hy => by rw [I.tuple_inj hy hq]; exact hx⟩, st', fun b hb => (hf b hb).1⟩⟩
  done := by
    intro X hP hw hK hc i pins s σ H E I hf st hg
    subst hP hw hK
    obtain ⟨xs, hq, hx⟩ := hg
    obtain ⟨its, rv, p, hz⟩ := I.tuple hq
    obtain ⟨f0, f1, f2, f3, f4, f5⟩ := hf it (by simp)
    have hl := rv.length
    exact wpAny_pyNext_tuple_end (I.ok.hd hc) st (show s.heap.IsTuple a its.toArray from p) (by simp; omega) fun h' eb => ⟨rfl, I.turned (t' := s.toks) (fun b o hb e => eb b o hb e) f0 f1 f3 f4 f5⟩
  self := fun _ _ _ _ _ st h => wpAny_pyIter_tupleiter st h
theorem turn_range {P : Program} {w : World} {K : PySem.W.Frag} {tg : Expr} (it : Addr) (lo : Int) (n : Nat) : Turn P w K tg (Itr lo n) [it] it (fun i h => IsRangeIter h it (lo + (i : Nat) * 1) ((n : Int) - (i : Nat)) 1) where
  mem := by simp
  obj := fun i h st b hb => by
    have e : b = it := by simpa using hb
    subst e
    exact ⟨_, st, fun v z => by
      have z' : Data.fields _ = Data.cell v := z
      cases z'⟩
  keep := fun i h h' st k => k it (by simp) _ st
  item := by
    intro X hP hw hK hc i pins s σ H E I hf st hg
    subst hP hw hK
    obtain ⟨f0, f1, f2, f3, f4, f5⟩ := hf it (by simp)
    have W := Walks.range (prog := X.prog) (w := X.w) (I.ok.hd hc) it lo 1 n
    refine W.item i s _ _ hg st fun v h' tk hv st' kk => ?_
    obtain ⟨t, rfl⟩ := hv
    have I1 : Inv X pins σ H { s with heap := h', toks := tk } := I.turned (fun b o hb e => kk b o (by simpa using hb) e) f0 f1 f3 f4 f5
    refine ⟨_, rfl, go_of (s := { s with heap := h', toks := tk }) (n := "range_iterator") st' rfl rfl (by decide) ⟨.int (lo + i), H, I1, ⟨t, ?_⟩, ⟨rfl, rfl⟩, st', fun b hb => (hf b hb).1⟩⟩
    rw [Int.mul_one]
  done := by
    intro X hP hw hK hc i pins s σ H E I hf st hg
    subst hP hw hK
    obtain ⟨f0, f1, f2, f3, f4, f5⟩ := hf it (by simp)
    exact wpAny_pyNext_range_end (I.ok.hd hc) st (by have : n ≤ i := hg; omega) fun h' eb => ⟨rfl, I.turned (t' := s.toks) (fun b o hb e => eb b o hb e) f0 f1 f3 f4 f5⟩
  self := fun _ _ _ _ _ st h => wpAny_pyIter_rangeiter st h
end L2
namespace L2
open PySem PySem.Spec PyProof.Rows
section
variable {X : Cx} {tg : Expr}
theorem range_it {pins : List (Addr × Obj)} {σ : St} {H : Hp} {s : Shared} {R : It → Hp → Prop} {E : Value → Shared → Prop} {lo hi : Int} {t u v : Tok} {tk : Nat} (I : Inv X pins σ H s) (h1 : -(2 ^ 62) ≤ lo) (h2 : lo < 2 ^ 62) (h3 : -(2 ^ 62) ≤ hi) (h4 : hi < 2 ^ 62)
    (q : R (Itr lo (hi - lo).toNat) H) : wpAny (model X.prog X.w) X.A (pyIter (.ref s.heap.objs.size)) (PIE X pins σ tg R) E { s with heap := s.heap.push { cls := .type "range", data := .fields #[.int lo t, .int hi u, .int 1 v] }, toks := tk } := by
  refine wpAny_pyIter_range (IsRange.new ..) (small_one h1 h2 h3 h4) ?_
  have I1 : Inv X pins σ H { s with heap := s.heap.push { cls := .type "range", data := .fields #[.int lo t, .int hi u, .int 1 v] }, toks := tk } := I.kept fun b o e => Heap.get?_push_of_some _ e
  refine ⟨(s.heap.push { cls := .type "range", data := .fields #[.int lo t, .int hi u, .int 1 v] }).objs.size, [(s.heap.push { cls := .type "range", data := .fields #[.int lo t, .int hi u, .int 1 v] }).objs.size], _, _, H, rfl,
    I1.kept (t' := tk) fun b o e => Heap.get?_push_of_some _ e, turn_range _ lo (hi - lo).toNat, ?_, fun b hb => ?_, q⟩
  · have e1 : lo + ((0 : Nat) : Int) * 1 = lo := by simp
    have e2 : (((hi - lo).toNat : Nat) : Int) - ((0 : Nat) : Int) = Builtin.Range.rangeSize lo hi 1 := by rw [rangeSize_one]; split <;> omega
    show IsRangeIter _ _ (lo + ((0 : Nat) : Int) * 1) ((((hi - lo).toNat : Nat) : Int) - ((0 : Nat) : Int)) 1
    rw [e1, e2]
    exact Heap.get?_push_size _ rfl
  · have e : b = (s.heap.push { cls := .type "range", data := .fields #[.int lo t, .int hi u, .int 1 v] }).objs.size := by simpa using hb
    subst e
    exact I1.fpOk (Nat.le_refl _) (I1.hok.fresh (Nat.le_refl _))
noncomputable def iRng1 (ta : TA) : TI := fun σ H R => ta σ H fun vs H1 => ∃ j : Int, vs = [.int j] ∧ -(2 ^ 62) ≤ j ∧ j < 2 ^ 62 ∧ R (Itr 0 j.toNat) H1
noncomputable def iRng2 (ta : TA) : TI := fun σ H R => ta σ H fun vs H1 => ∃ i j : Int, vs = [.int i, .int j] ∧ (-(2 ^ 62) ≤ i ∧ i < 2 ^ 62 ∧ -(2 ^ 62) ≤ j ∧ j < 2 ^ 62) ∧ R (Itr i (j - i).toNat) H1
theorem pi_range1 {a : Expr} {ta : TA} {p pos : Pos} (hg : Gl X "range") (hm : X.mg "range" = none) (ha : PA X [a] ta) (hs : starEach [a] X.env = [(false, eval a X.env)] := by with_unfolding_all rfl) : PI X tg (.Call (.Name "range" p) [a] [] pos) (iRng1 ta) := by
  intro pins s σ H R I h
  refine Call_ (ld_blt I hg hm boot_range (PyProof.Rows.callWith_type1 (thn (ha pos pins s σ H _ I h) fun us s1 ⟨vs, H1, I1, r1, q1⟩ => ?_) hs rfl))
  obtain ⟨j, e, q1, q2, q⟩ := q1
  subst e
  cases r1 with
  | cons r rr =>
    cases rr
    obtain ⟨t, rfl⟩ := r
    exact call_range_1 (range_it I1 (by omega) (by omega) q1 q2 (by simpa using q))
theorem pi_range2 {a b : Expr} {ta : TA} {p pos : Pos} (hg : Gl X "range") (hm : X.mg "range" = none) (ha : PA X [a, b] ta) (hs : starEach [a, b] X.env = [(false, eval a X.env), (false, eval b X.env)] := by with_unfolding_all rfl) (hs2 : starEach [b] X.env = [(false, eval b X.env)] := by with_unfolding_all rfl) :
    PI X tg (.Call (.Name "range" p) [a, b] [] pos) (iRng2 ta) := by
  intro pins s σ H R I h
  refine Call_ (ld_blt I hg hm boot_range (PyProof.Rows.callWith_type1 (thn (ha pos pins s σ H _ I h) fun us s1 ⟨vs, H1, I1, r1, q1⟩ => ?_) (by rw [hs, hs2]) (by rw [hs2]; rfl)))
  obtain ⟨i, j, e, ⟨q1, q2, q3, q4⟩, q⟩ := q1
  subst e
  cases r1 with
  | cons r rr =>
    cases rr with
    | cons r' rr =>
      cases rr
      obtain ⟨t, rfl⟩ := r
      obtain ⟨t', rfl⟩ := r'
      exact call_range_2 (range_it I1 q1 q2 q3 q4 q)
noncomputable def tFor (wi : TI) (g : TG) (tb : TS) : TS := fun D σ H => wi σ H fun J H1 => ∃ W : Nat → Nat → St → Hp → Prop, (∃ m, W 0 m σ H1) ∧ ∀ i m σ H, W i m σ H →
  (J.stop i H ∧ D.nx σ H) ∨ (J.go i H ∧ ∃ N : St → Hp → Prop, (∀ σ' H', N σ' H' → ∃ m', m' < m ∧ W (i + 1) m' σ' H') ∧ ∀ x H', J.yld i H x H' → g x σ H' fun σ2 H2 => tb { D with nx := N, ct := N, bk := D.nx } σ2 H2)
noncomputable def pinsAt (fp : List Addr) (h : Heap) : List (Addr × Obj) := fp.filterMap fun b => (h.get? b).map fun o => (b, o)
theorem mem_pinsAt {fp : List Addr} {h : Heap} {b : Addr} {o : Obj} (hb : b ∈ fp) (e : h.get? b = some o) : (b, o) ∈ pinsAt fp h := List.mem_filterMap.mpr ⟨b, hb, by rw [e]; rfl⟩
theorem of_pinsAt {fp : List Addr} {h : Heap} {p : Addr × Obj} (hp : p ∈ pinsAt fp h) : p.1 ∈ fp ∧ h.get? p.1 = some p.2 := by
  obtain ⟨b, hb, e⟩ := List.mem_filterMap.mp hp
  cases q : h.get? b with
  | none => rw [q] at e; cases e
  | some o =>
    rw [q] at e
    have e' : (b, o) = p := Option.some.inj e
    subst e'
    exact ⟨hb, q⟩
theorem Inv.pinned {pins : List (Addr × Obj)} {σ : St} {H : Hp} {s : Shared} {fp : List Addr} (I : Inv X pins σ H s) (hf : ∀ b ∈ fp, FpOk X pins H b) (ho : ∀ b ∈ fp, ∃ o, s.heap.get? b = some o ∧ ∀ v, o.data ≠ .cell v) : Inv X (pins ++ pinsAt fp s.heap) σ H s :=
  I.pins_of fun p hp => (List.mem_append.mp hp).elim (fun z => I.pin p (List.mem_append_right _ z)) fun z => by
    obtain ⟨hb, e⟩ := of_pinsAt z
    obtain ⟨f0, f1, f2, _⟩ := hf p.1 hb
    obtain ⟨o, e', d⟩ := ho p.1 hb
    rw [e] at e'; cases e'
    exact ⟨e, f0, f1, f2, d⟩
theorem Inv.unpinned {pins pl : List (Addr × Obj)} {σ : St} {H : Hp} {s : Shared} (I : Inv X (pins ++ pl) σ H s) : Inv X pins σ H s := I.pins_of fun p hp => I.pin p (List.mem_append_right _ (List.mem_append_left _ hp))
theorem ps_for {iter : Expr} {body : List Stmt} {wi : TI} {g : TG} {tb : TS} {pos : Pos} (hp : PassesOwn (model X.prog X.w) X.A X.env X.xe) (hc : X.calm = true) (hi : PI X tg iter wi) (hg : PG X tg g) (hb : PSs X body tb)
    (hs : ∀ x, foldedSetIterable iter X.env x = pure x := by intro _; with_unfolding_all rfl) : PS X (.For tg iter body [] pos) (tFor wi g tb) := by
  intro pins s σ H D I h
  refine wpAny_For (thn (hi pins s σ H _ I h) fun v s1 h1 => thn h1 fun itv s2 h2 => ?_) hs
  obtain ⟨it, fp, tn, J, H2, e, I2, T, st2, f2, W, ⟨m0, w0⟩, turn⟩ := h2
  subst e
  -- what stays true of the iterator's objects through the loop
  have stat : ∀ {H' : Hp}, (∀ b ∈ fp, H' b = none) → ∀ b ∈ fp, FpOk X pins H' b := fun hn b hb => ⟨hn b hb, (f2 b hb).2⟩
  refine codeAny_forLoop_any (fun n s' => ∃ i σ' H', Inv X pins σ' H' s' ∧ tn i s'.heap ∧ (∀ b ∈ fp, H' b = none) ∧ W i n σ' H') ?_ m0 ⟨0, σ, H2, I2, st2, fun b hb => (f2 b hb).1, w0⟩
  rintro n s3 ⟨i, σ3, H3, I3, st3, fr3, w3⟩
  rcases turn i n σ3 H3 w3 with ⟨stop, qn⟩ | ⟨go, N, hN, step⟩
  · refine wpAny_passesOwn hp (thn (T.done X rfl rfl rfl hc i pins s3 σ3 H3 X.xe I3 (stat fr3) st3 stop) fun r s4 ⟨hr, I4⟩ => ?_)
    subst hr
    exact wpAny_execs_nil ⟨σ3, H3, I4, qn⟩
  · refine wpAny_passesOwn hp (thn (T.item X rfl rfl rfl hc i pins s3 σ3 H3 X.xe I3 (stat fr3) st3 go) fun r s4 ⟨u, hr, h4⟩ => ?_)
    subst hr
    refine wpAny_passesOwn hp (thn h4 fun _ s5 ⟨x, H5, I5, r5, y5, st5, fr5⟩ => ?_)
    have I5' := I5.pinned (stat fr5) (T.obj _ _ st5)
    refine wpAny_passesOwn hp (thn (hg _ s5 σ3 H5 x u _ I5' r5 (step x H5 y5)) fun _ s6 ⟨σ6, H6, I6, q6⟩ => ?_)
    refine wpAny_passesOwn hp (thn (hb _ s6 σ6 H6 _ I6 q6) fun f s7 q7 => ?_)
    have again : ∀ {σ7 : St} {H7 : Hp}, Inv X (pins ++ pinsAt fp s5.heap) σ7 H7 s7 → N σ7 H7 → ∃ m, m < n ∧ ∃ i σ' H', Inv X pins σ' H' s7 ∧ tn i s7.heap ∧ (∀ b ∈ fp, H' b = none) ∧ W i m σ' H' := fun {σ7 H7} I7 n7 => by
      obtain ⟨m', hm, w7⟩ := hN σ7 H7 n7
      refine ⟨m', hm, i + 1, σ7, H7, I7.unpinned, T.keep _ _ _ st5 fun b hb o e => (I7.pin (b, o) (List.mem_append_right _ (List.mem_append_right _ (mem_pinsAt hb e)))).1, fun b hb => ?_, w7⟩
      obtain ⟨o, e, d⟩ := T.obj _ _ st5 b hb
      exact (I7.pin (b, o) (List.mem_append_right _ (List.mem_append_right _ (mem_pinsAt hb e)))).2.1
    cases f with
    | next => obtain ⟨σ7, H7, I7, n7⟩ := q7; exact again I7 n7
    | cont => obtain ⟨σ7, H7, I7, n7⟩ := q7; exact again I7 n7
    | brk => obtain ⟨σ7, H7, I7, q7⟩ := q7; exact ⟨σ7, H7, I7.unpinned, q7⟩
    | ret v => obtain ⟨x7, σ7, H7, I7, r7, q7⟩ := q7; exact ⟨x7, σ7, H7, I7.unpinned, r7, q7⟩
end
end L2
namespace L2
open PySem PySem.Spec PyProof.Rows
noncomputable abbrev R2 := V → V → Hp → VK → Prop
noncomputable def OpR (X : Cx) (f : Value → Value → Sem Value) (r : R2) : Prop :=
  ∀ (pins : List (Addr × Obj)) (s : Shared) (σ : St) (H : Hp) (x y : V) (v u : Value) (Q : VK), Inv X pins σ H s → RelV x v → RelV y u → r x y H Q →
    wpAny (model X.prog X.w) X.A (f v u) (EP X pins σ Q) X.xe s
noncomputable def CallR (X : Cx) (f : Value) (r : List V → Hp → VK → Prop) : Prop :=
  ∀ (pins : List (Addr × Obj)) (s : Shared) (σ : St) (H : Hp) (xs : List V) (us : List Value) (Q : VK), Inv X pins σ H s → Vals xs us → r xs H Q →
    wpAny (model X.prog X.w) X.A (call f us) (EP X pins σ Q) X.xe s
noncomputable def tOp (r : R2) (ta tb : TE) : TE := fun σ H Q => ta σ H fun x H1 => tb σ H1 fun y H2 => r x y H2 Q
noncomputable def tUn (r : V → Hp → VK → Prop) (ta : TE) : TE := fun σ H Q => ta σ H fun x H1 => r x H1 Q
noncomputable def rI (C : Int → Int → Prop) (g : Int → Int → V) : R2 := fun x y H Q => ∃ i j, x = .int i ∧ y = .int j ∧ C i j ∧ Q (g i j) H
noncomputable def rI0 (g : Int → Int → V) : R2 := fun x y H Q => ∃ i j, x = .int i ∧ y = .int j ∧ Q (g i j) H
noncomputable def rU (g : Int → V) : V → Hp → VK → Prop := fun x H Q => ∃ i, x = .int i ∧ Q (g i) H
section
variable {X : Cx} {a b c : Expr} {ta tb tc : TE} {pos : Pos}
theorem binT (ha : PE X a ta) (hb : PE X b tb) {pins : List (Addr × Obj)} {s : Shared} {σ : St} {H : Hp} {R : V → V → Hp → Prop} (I : Inv X pins σ H s)
    (h : ta σ H fun x H1 => tb σ H1 fun y H2 => R x y H2) {Q : Value → Shared → Prop} {f : Value → Value → Sem Value}
    (hf : ∀ v u s2 x y H2, Inv X pins σ H2 s2 → RelV x v → RelV y u → R x y H2 → wpAny (model X.prog X.w) X.A (f v u) Q X.xe s2) :
    wpAny (model X.prog X.w) X.A (eval a X.env) (fun v s₁ => wpAny (model X.prog X.w) X.A (eval b X.env) (fun u s₂ => wpAny (model X.prog X.w) X.A (f v u) Q X.xe s₂) X.xe s₁) X.xe s := by
  refine thn (ha pins s σ H _ I h) fun v s1 ⟨x, H1, I1, r1, q1⟩ => ?_
  refine thn (hb pins s1 σ H1 _ I1 q1) fun u s2 ⟨y, H2, I2, r2, q2⟩ => ?_
  exact hf v u s2 x y H2 I2 r1 r2 q2
theorem pe_op {op : Operator} {r : R2} (ho : OpR X (binaryOp op) r) (ha : PE X a ta) (hb : PE X b tb) : PE X (.BinOp a op b pos) (tOp r ta tb) := by
  intro pins s σ H Q I h
  exact wpAny_BinOp (binT ha hb I h fun v u s2 x y H2 I2 rx ry q => ho pins s2 σ H2 x y v u Q I2 rx ry q)
theorem opI {f : Value → Value → Sem Value} {C : Int → Int → Prop} {g : Int → Int → Int}
    (rule : ∀ (i j : Int) (t u : Tok) (s : Shared) (Q : Value → Shared → Prop) (E : Value → Shared → Prop), C i j → Q (.int (g i j) s.toks) { s with toks := s.toks + 1 } → wpAny (model X.prog X.w) X.A (f (.int i t) (.int j u)) Q E s) :
    OpR X f (rI C fun i j => .int (g i j)) := by
  intro pins s σ H x y v u Q I rx ry h
  obtain ⟨i, j, rfl, rfl, hc, q⟩ := h
  obtain ⟨t, rfl⟩ := rx
  obtain ⟨t', rfl⟩ := ry
  exact rule i j t t' s _ _ hc ⟨.int (g i j), H, I.tok _, ⟨_, rfl⟩, q⟩
theorem opI0 {f : Value → Value → Sem Value} {g : Int → Int → Int}
    (rule : ∀ (i j : Int) (t u : Tok) (s : Shared) (Q : Value → Shared → Prop) (E : Value → Shared → Prop), Q (.int (g i j) s.toks) { s with toks := s.toks + 1 } → wpAny (model X.prog X.w) X.A (f (.int i t) (.int j u)) Q E s) :
    OpR X f (rI0 fun i j => .int (g i j)) := by
  intro pins s σ H x y v u Q I rx ry h
  obtain ⟨i, j, rfl, rfl, q⟩ := h
  obtain ⟨t, rfl⟩ := rx
  obtain ⟨t', rfl⟩ := ry
  exact rule i j t t' s _ _ ⟨.int (g i j), H, I.tok _, ⟨_, rfl⟩, q⟩
theorem opB0 {f : Value → Value → Sem Value} {g : Int → Int → Bool}
    (rule : ∀ (i j : Int) (t u : Tok) (s : Shared) (Q : Value → Shared → Prop) (E : Value → Shared → Prop), Q (.bool (g i j)) s → wpAny (model X.prog X.w) X.A (f (.int i t) (.int j u)) Q E s) :
    OpR X f (rI0 fun i j => .bl (g i j)) := by
  intro pins s σ H x y v u Q I rx ry h
  obtain ⟨i, j, rfl, rfl, q⟩ := h
  obtain ⟨t, rfl⟩ := rx
  obtain ⟨t', rfl⟩ := ry
  exact rule i j t t' s _ _ ⟨.bl (g i j), H, I, rfl, q⟩
noncomputable def CDiv (i j : Int) : Prop := 0 < j ∧ j < 1073741824
noncomputable def CPow (i j : Int) : Prop := 0 ≤ j ∧ j ≤ 1000000 ∧ i.natAbs < 2 ^ 64
noncomputable def CMul (i j : Int) : Prop := (-(2 ^ 64) < i ∧ i < 2 ^ 64) ∨ (-(2 ^ 64) < j ∧ j < 2 ^ 64)
theorem CMul.ok {i j : Int} (h : CMul i j) : IntMulOk i j := by
  rcases h with ⟨h1, h2⟩ | ⟨h1, h2⟩
  · exact .of_left (intBits_le_64 h1 h2)
  · exact .of_right (intBits_le_64 h1 h2)
theorem op_add : OpR X (binaryOp .Add) (rI0 fun i j => .int (i + j)) := opI0 fun _ _ _ _ _ _ _ q => add_int q
theorem op_sub : OpR X (binaryOp .Sub) (rI0 fun i j => .int (i - j)) := opI0 fun _ _ _ _ _ _ _ q => sub_int q
theorem op_mul : OpR X (binaryOp .Mult) (rI CMul fun i j => .int (i * j)) := opI fun _ _ _ _ _ _ _ hc q => mul_int q hc.ok
theorem op_fdiv : OpR X (binaryOp .FloorDiv) (rI CDiv fun i j => .int (i / j)) := opI fun i j _ _ _ _ _ hc q => by
  have h1 : (0 : Int) < j := hc.1
  have h2 : j < 1073741824 := hc.2
  exact floordiv_int (by omega) (by rw [Int.fdiv_eq_ediv_of_nonneg i (by omega)]; exact q) (.inl (PyProof.noPylong_small (by omega)))
theorem op_mod : OpR X (binaryOp .Mod) (rI (fun _ j => 0 < j) fun i j => .int (i % j)) := opI fun i j _ _ _ _ _ hc q => by
  have h1 : (0 : Int) < j := hc
  exact mod_int' (by omega) (by rw [Int.fmod_eq_emod_of_nonneg i (by omega)]; exact q)
theorem op_pow : OpR X (binaryOp .Pow) (rI CPow fun i j => .int (i ^ j.toNat)) := opI fun _ _ _ _ _ _ _ hc q => pow_int_small hc.1 hc.2.1 hc.2.2 q
end
noncomputable def scal : V → V → Bool
  | .non, .non => true | .non, .int _ => true | .int _, .non => true | .non, .bl _ => true | .bl _, .non => true | .non, .str _ => true | .str _, .non => true
  | .int _, .int _ => true | .bl _, .bl _ => true | .str _, .str _ => true | .byt _, .byt _ => true
  | .int _, .str _ => true | .str _, .int _ => true | .bl _, .str _ => true | .str _, .bl _ => true
  | _, _ => false
noncomputable def rEq : R2 := fun x y H Q => scal x y = true ∧ Q (.bl (decide (x = y))) H
noncomputable def rNe : R2 := fun x y H Q => scal x y = true ∧ Q (.bl (!decide (x = y))) H
theorem dec_int {i j : Int} : decide (V.int i = V.int j) = (i == j) := by
  rw [Bool.eq_iff_iff]
  simp
theorem dec_bl {i j : Bool} : decide (V.bl i = V.bl j) = (i == j) := by
  rw [Bool.eq_iff_iff]
  simp
theorem dec_str {i j : Str} : decide (V.str i = V.str j) = (i == j) := by
  rw [Bool.eq_iff_iff]
  simp
theorem dec_byt {i j : Array UInt8} : decide (V.byt i = V.byt j) = (i.toList == j.toList) := by
  rw [Bool.eq_iff_iff]
  cases i
  cases j
  simp
section
variable {X : Cx} {a b c : Expr} {ta tb tc : TE} {pos : Pos}
theorem fin_bl {pins : List (Addr × Obj)} {σ : St} {H : Hp} {s : Shared} {Q : VK} {k k' : Bool} (I : Inv X pins σ H s) (q : Q (.bl k) H) (e : k = k') : EP X pins σ Q (.bool k') s := by
  subst e
  exact ⟨.bl k, H, I, rfl, q⟩
theorem op_eq : OpR X (compareOp .Eq) rEq := by
  intro pins s σ H x y v u Q I rx ry h
  obtain ⟨hs, q⟩ := h
  cases x with
  | non =>
    cases rx
    cases y with
    | non => cases ry; exact PySem.EqNone.eq_none_none (fin_bl I q (by simp))
    | bl j => cases ry; exact PySem.EqNone.eq_none_bool (fin_bl I q (by simp))
    | int j => obtain ⟨t', rfl⟩ := ry; exact PySem.EqNone.eq_none_int (fin_bl I q (by simp))
    | str j => obtain ⟨t', rfl⟩ := ry; exact PySem.EqNone.eq_none_str (fin_bl I q (by simp))
    | _ => exact absurd (show false = true from hs) Bool.false_ne_true
  | bl i =>
    cases rx
    cases y with
    | non => cases ry; exact PySem.EqNone.eq_bool_none (fin_bl I q (by simp))
    | bl j => cases ry; exact eq_bool (fin_bl I q dec_bl)
    | str j => obtain ⟨t', rfl⟩ := ry; exact PySem.EqMixed.eq_bool_str (fin_bl I q (by simp))
    | _ => exact absurd (show false = true from hs) Bool.false_ne_true
  | int i =>
    obtain ⟨t, rfl⟩ := rx
    cases y with
    | non => cases ry; exact PySem.EqNone.eq_int_none (fin_bl I q (by simp))
    | int j => obtain ⟨t', rfl⟩ := ry; exact eq_int (fin_bl I q dec_int)
    | str j => obtain ⟨t', rfl⟩ := ry; exact PySem.EqMixed.eq_int_str (fin_bl I q (by simp))
    | _ => exact absurd (show false = true from hs) Bool.false_ne_true
  | str i =>
    obtain ⟨t, rfl⟩ := rx
    cases y with
    | non => cases ry; exact PySem.EqNone.eq_str_none (fin_bl I q (by simp))
    | bl j => cases ry; exact PySem.EqMixed.eq_str_bool (fin_bl I q (by simp))
    | int j => obtain ⟨t', rfl⟩ := ry; exact PySem.EqMixed.eq_str_int (fin_bl I q (by simp))
    | str j => obtain ⟨t', rfl⟩ := ry; exact eq_str (fin_bl I q dec_str)
    | _ => exact absurd (show false = true from hs) Bool.false_ne_true
  | byt i =>
    obtain ⟨t, rfl⟩ := rx
    cases y with
    | byt j => obtain ⟨t', rfl⟩ := ry; exact PySem.W.eq_bytes (fin_bl I q dec_byt)
    | _ => exact absurd (show false = true from hs) Bool.false_ne_true
  | _ => cases y <;> exact absurd (show false = true from hs) Bool.false_ne_true
theorem op_ne : OpR X (compareOp .NotEq) rNe := by
  intro pins s σ H x y v u Q I rx ry h
  obtain ⟨hs, q⟩ := h
  cases x with
  | non =>
    cases rx
    cases y with
    | non => cases ry; exact PySem.EqNone.ne_none_none (fin_bl I q (by simp))
    | bl j => cases ry; exact PySem.EqNone.ne_none_bool (fin_bl I q (by simp))
    | int j => obtain ⟨t', rfl⟩ := ry; exact PySem.EqNone.ne_none_int (fin_bl I q (by simp))
    | str j => obtain ⟨t', rfl⟩ := ry; exact PySem.EqNone.ne_none_str (fin_bl I q (by simp))
    | _ => exact absurd (show false = true from hs) Bool.false_ne_true
  | bl i =>
    cases rx
    cases y with
    | non => cases ry; exact PySem.EqNone.ne_bool_none (fin_bl I q (by simp))
    | bl j => cases ry; exact ne_bool (fin_bl I q (congrArg not dec_bl))
    | str j => obtain ⟨t', rfl⟩ := ry; exact PySem.EqMixed.ne_bool_str (fin_bl I q (by simp))
    | _ => exact absurd (show false = true from hs) Bool.false_ne_true
  | int i =>
    obtain ⟨t, rfl⟩ := rx
    cases y with
    | non => cases ry; exact PySem.EqNone.ne_int_none (fin_bl I q (by simp))
    | int j => obtain ⟨t', rfl⟩ := ry; exact ne_int (fin_bl I q (congrArg not dec_int))
    | str j => obtain ⟨t', rfl⟩ := ry; exact PySem.EqMixed.ne_int_str (fin_bl I q (by simp))
    | _ => exact absurd (show false = true from hs) Bool.false_ne_true
  | str i =>
    obtain ⟨t, rfl⟩ := rx
    cases y with
    | non => cases ry; exact PySem.EqNone.ne_str_none (fin_bl I q (by simp))
    | bl j => cases ry; exact PySem.EqMixed.ne_str_bool (fin_bl I q (by simp))
    | int j => obtain ⟨t', rfl⟩ := ry; exact PySem.EqMixed.ne_str_int (fin_bl I q (by simp))
    | str j => obtain ⟨t', rfl⟩ := ry; exact ne_str (fin_bl I q (congrArg not dec_str))
    | _ => exact absurd (show false = true from hs) Bool.false_ne_true
  | byt i =>
    obtain ⟨t, rfl⟩ := rx
    cases y with
    | byt j => obtain ⟨t', rfl⟩ := ry; exact PySem.W.ne_bytes (fin_bl I q (congrArg not dec_byt))
    | _ => exact absurd (show false = true from hs) Bool.false_ne_true
  | _ => cases y <;> exact absurd (show false = true from hs) Bool.false_ne_true
theorem op_lt : OpR X (compareOp .Lt) (rI0 fun i j => .bl (decide (i < j))) := opB0 fun _ _ _ _ _ _ _ q => lt_int q
theorem op_le : OpR X (compareOp .LtE) (rI0 fun i j => .bl (decide (i ≤ j))) := opB0 fun _ _ _ _ _ _ _ q => le_int q
theorem op_gt : OpR X (compareOp .Gt) (rI0 fun i j => .bl (decide (j < i))) := opB0 fun _ _ _ _ _ _ _ q => gt_int q
theorem op_ge : OpR X (compareOp .GtE) (rI0 fun i j => .bl (decide (j ≤ i))) := opB0 fun _ _ _ _ _ _ _ q => ge_int q
theorem op_in_str : OpR X (compareOp .In) (fun x y H Q => ∃ i j, x = .str i ∧ y = .str j ∧ Q (.bl (!(Builtin.Str.occurrences j i 0 j.length 1).isEmpty)) H) := by
  intro pins s σ H x y v u Q I rx ry h
  obtain ⟨i, j, rfl, rfl, q⟩ := h
  obtain ⟨t, rfl⟩ := rx
  obtain ⟨t', rfl⟩ := ry
  exact in_str (fin_bl I q rfl)
theorem OpR.or {f : Value → Value → Sem Value} {r r' : R2} (h : OpR X f r) (h' : OpR X f r') : OpR X f (fun x y H Q => r x y H Q ∨ r' x y H Q) := by
  intro pins s σ H x y v u Q I rx ry q
  rcases q with q | q
  · exact h pins s σ H x y v u Q I rx ry q
  · exact h' pins s σ H x y v u Q I rx ry q
theorem nomark (b : Expr) {op : CmpOp} (h : op ≠ .In := by decide) (h2 : op ≠ .NotIn := by decide) : behindInMarks op b = false := by
  have e1 : (op == CmpOp.In) = false := by cases op <;> first | rfl | exact absurd rfl h
  have e2 : (op == CmpOp.NotIn) = false := by cases op <;> first | rfl | exact absurd rfl h2
  cases b <;> simp [behindInMarks, e1, e2]
theorem pe_cmpR {op : CmpOp} {r : R2} (ho : OpR X (compareOp op) r) (ha : PE X a ta) (hb : PE X b tb) (hm : behindInMarks op b = false) : PE X (.Compare a [op] [b] pos) (tOp r ta tb) := by
  intro pins s σ H Q I h
  exact wpAny_Compare1 (binT ha hb I h fun v u s2 x y H2 I2 rx ry q => ho pins s2 σ H2 x y v u Q I2 rx ry q) hm
noncomputable def tTest (t : TE) : TT := fun σ H Q => t σ H fun x H' => ∃ k, x = .bl k ∧ Q k H'
theorem pt_cmpR {op : CmpOp} {r : R2} (ho : OpR X (compareOp op) r) (ha : PE X a ta) (hb : PE X b tb) (hm : behindInMarks op b = false) : PT X (.Compare a [op] [b] pos) (tTest (tOp r ta tb)) := by
  intro pins s σ H Q I h
  refine wpAny_isTrue_Compare1 (thn (ha pins s σ H _ I h) fun v s1 ⟨x, H1, I1, r1, q1⟩ => thn (hb pins s1 σ H1 _ I1 q1) fun u s2 ⟨y, H2, I2, r2, q2⟩ =>
    thn (ho pins s2 σ H2 x y v u _ I2 r1 r2 q2) fun c s3 ⟨z, H3, I3, r3, k, e, q3⟩ => ?_) hm
  subst e
  cases r3
  exact wpAny_truthy_bool ⟨H3, I3, q3⟩
noncomputable def tChain (r r' : R2) (ta tb tc : TE) : TE := fun σ H Q => ta σ H fun x H1 => tb σ H1 fun y H2 => r x y H2 fun z H3 => ∃ k, z = .bl k ∧
  (if k = true then tc σ H3 fun w' H4 => r' y w' H4 Q else Q (.bl false) H3)
theorem pe_chain {op op' : CmpOp} {r r' : R2} (ho : OpR X (compareOp op) r) (ho' : OpR X (compareOp op') r') (ha : PE X a ta) (hb : PE X b tb) (hc : PE X c tc)
    (hm : lastMarks [op, op'] [b, c] = false := by with_unfolding_all rfl) : PE X (.Compare a [op, op'] [b, c] pos) (tChain r r' ta tb tc) := by
  intro pins s σ H Q I h
  refine Compare_chain (thn (ha pins s σ H _ I h) fun v s1 ⟨x, H1, I1, r1, q1⟩ => chain_link (thn (hb pins s1 σ H1 _ I1 q1) fun u s2 ⟨y, H2, I2, r2, q2⟩ =>
    thn (ho pins s2 σ H2 x y v u _ I2 r1 r2 q2) fun d s3 ⟨z, H3, I3, r3, k, e, q3⟩ => ?_)) hm
  subst e
  cases r3
  refine wpAny_truthy_bool ?_
  cases k with
  | false => exact ite_ff ⟨.bl false, H3, I3, rfl, q3⟩
  | true => exact ite_tt (chain_last (thn (hc pins s3 σ H3 _ I3 q3) fun w' s4 ⟨z', H4, I4, r4, q4⟩ => ho' pins s4 σ H4 y z' u w' Q I4 r2 r4 q4))
theorem pt_chain {op op' : CmpOp} {r r' : R2} (ho : OpR X (compareOp op) r) (ho' : OpR X (compareOp op') r') (ha : PE X a ta) (hb : PE X b tb) (hc : PE X c tc)
    (hm : lastMarks [op, op'] [b, c] = false := by with_unfolding_all rfl) : PT X (.Compare a [op, op'] [b, c] pos) (tTest (tChain r r' ta tb tc)) := by
  intro pins s σ H Q I h
  refine isTrue_chain (thn (ha pins s σ H _ I h) fun v s1 ⟨x, H1, I1, r1, q1⟩ => test_link (thn (hb pins s1 σ H1 _ I1 q1) fun u s2 ⟨y, H2, I2, r2, q2⟩ =>
    thn (ho pins s2 σ H2 x y v u _ I2 r1 r2 q2) fun d s3 ⟨z, H3, I3, r3, k, e, q3⟩ => ?_)) hm
  subst e
  cases r3
  refine wpAny_truthy_bool ?_
  cases k with
  | false =>
    obtain ⟨k', e', q'⟩ := q3
    cases e'
    exact ite_ff ⟨H3, I3, q'⟩
  | true =>
    refine ite_tt (test_last (thn (hc pins s3 σ H3 _ I3 q3) fun w' s4 ⟨z', H4, I4, r4, q4⟩ => thn (ho' pins s4 σ H4 y z' u w' _ I4 r2 r4 q4) fun d' s5 ⟨z2, H5, I5, r5, k2, e2, q5⟩ => ?_))
    subst e2
    cases r5
    exact wpAny_truthy_bool ⟨H5, I5, q5⟩
theorem line63 : (sizeLine : Nat) < 2 ^ 63 := by rw [sizeLine_eq]; decide
theorem op_add_str : OpR X (binaryOp .Add) (fun x y H Q => ∃ i j, x = .str i ∧ y = .str j ∧ i.length + j.length ≤ sizeLine ∧ Q (.str (i ++ j)) H) := by
  intro pins s σ H x y v u Q I rx ry h
  obtain ⟨i, j, rfl, rfl, hz, q⟩ := h
  obtain ⟨t, rfl⟩ := rx
  obtain ⟨t', rfl⟩ := ry
  exact add_str (fun t' tk => ⟨.str (i ++ j), H, I.tok _, ⟨_, rfl⟩, q⟩) hz
theorem vals1 {x : V} {us : List Value} (r : Vals [x] us) : ∃ u, us = [u] ∧ RelV x u := by
  cases r with
  | cons r1 r2 => cases r2; exact ⟨_, rfl, r1⟩
theorem vals2 {x y : V} {us : List Value} (r : Vals [x, y] us) : ∃ u w', us = [u, w'] ∧ RelV x u ∧ RelV y w' := by
  cases r with
  | cons r1 r2 =>
    cases r2 with
    | cons r3 r4 => cases r4; exact ⟨_, _, rfl, r1, r3⟩
noncomputable def LenV (K : PySem.W.Frag) (x : V) (H : Hp) (n : Nat) : Prop :=
  match x with
  | .str y => y.length ≤ sizeLine ∧ n = y.length
  | .byt y => y.size ≤ sizeLine ∧ n = y.size
  | .ref p => (∃ xs, SqL K H p xs ∧ n = xs.length) ∨ ∃ xs, SqT K H p xs ∧ n = xs.length
  | _ => False
theorem call_len : CallR X (.builtin "len") (fun xs H Q => ∃ x n, xs = [x] ∧ LenV X.K x H n ∧ Q (.int n) H) := by
  intro pins s σ H xs us Q I r h
  obtain ⟨x, n, rfl, e, q⟩ := h
  obtain ⟨u, rfl, rx⟩ := vals1 r
  have hl := line63
  have hs : sizeLine = 16777216 := sizeLine_eq
  cases x with
  | str y =>
    obtain ⟨t, rfl⟩ := rx
    obtain ⟨hy, e'⟩ : y.length ≤ sizeLine ∧ n = y.length := e
    subst e'
    exact len_str (by omega) ⟨.int _, H, I.tok _, ⟨_, rfl⟩, q⟩
  | byt y =>
    obtain ⟨t, rfl⟩ := rx
    obtain ⟨hy, e'⟩ : y.size ≤ sizeLine ∧ n = y.size := e
    subst e'
    exact PySem.W.len_bytes (by omega) ⟨.int _, H, I.tok _, ⟨_, rfl⟩, q⟩
  | ref p =>
    cases rx
    have e' : (∃ xs, SqL X.K H p xs ∧ n = xs.length) ∨ ∃ xs, SqT X.K H p xs ∧ n = xs.length := e
    rcases e' with ⟨xs, hx, e'⟩ | ⟨xs, hx, e'⟩
    · subst e'
      obtain ⟨its, r', pl, hz⟩ := I.list hx
      have hlen := r'.length
      exact Calls.call_len_list pl.isList (by simp only [List.size_toArray]; omega) ⟨.int xs.length, H, I.tok _, ⟨_, by simp only [List.size_toArray]; rw [hlen]⟩, q⟩
    · subst e'
      obtain ⟨its, r', pl, hz⟩ := I.tuple hx
      have hlen := r'.length
      exact len_tuple pl (by simp only [List.size_toArray]; omega) ⟨.int xs.length, H, I.tok _, ⟨_, by simp only [List.size_toArray]; rw [hlen]⟩, q⟩
  | _ => exact (show False from e).elim
end
end L2
namespace L2
open PySem PySem.Spec PyProof.Rows
structure ObjM (h : Heap) (x dx C : Addr) (mA : Str → Option Value) : Prop where
  obj : h.get? x = some (PySem.W.instObj C dx)
  ns : h.Ns1 dx mA
  ne : dx ≠ x
theorem lookIn_ns {h : Heap} {dx : Addr} {mA : Str → Option Value} (n : h.Ns1 dx mA) : ∃ od, h.get? dx = some od ∧ ∀ name, PySem.W.lookIn name od = some (mA name) := by
  obtain ⟨o, es, ep, ho, hd, hk, _, hm⟩ := n
  refine ⟨o, ho, fun name => ?_⟩
  have e := hm name
  unfold nsFind findBy at e
  rw [← Array.find?_toList] at e
  unfold PySem.W.lookIn
  rw [hd]
  dsimp only
  split
  · rename_i y q
    rw [q] at e
    exact congrArg some e
  · rename_i q
    rw [q] at e
    have a : es.toList.any (·.refKey) = false := by
      rw [List.any_eq_false]
      intro y hy
      obtain ⟨z, t, hkey⟩ := hk y (Array.mem_toList_iff.mp hy)
      simp [DictEntry.refKey, hkey]
    have a' : ¬ es.toList.any (·.refKey) = true := by rw [a]; exact Bool.false_ne_true
    rw [if_neg a']
    exact congrArg some e
theorem ObjM.look {h : Heap} {x dx C : Addr} {mA : Str → Option Value} (I : ObjM h x dx C mA) : ∃ od, PySem.W.InstAt h x (PySem.W.instObj C dx) C (some od) ∧ ∀ name, PySem.W.lookIn name od = some (mA name) :=
  let ⟨od, ho, hl⟩ := lookIn_ns I.ns
  ⟨od, ⟨I.obj, rfl, rfl, ho⟩, hl⟩
section
variable {prog : Program} {w : World} {A : Around} {E : Value → Shared → Prop} {s : Shared} {K : PySem.W.Frag} {x dx C f : Addr} {mA : Str → Option Value} {name : Str} {v : Value}
end
noncomputable def putF (f : Str) (v : V) : List (Str × V) → List (Str × V)
  | [] => [(f, v)]
  | (g, x) :: r => if g = f then (g, v) :: r else (g, x) :: putF f v r
theorem lookup_putF (f g : Str) (v : V) : ∀ fs : List (Str × V), (putF f v fs).lookup g = if g = f then some v else fs.lookup g
  | [] => by
    show List.lookup g [(f, v)] = _
    by_cases h : g = f
    · have hb : (g == f) = true := beq_iff_eq.mpr h
      simp only [List.lookup, hb, if_pos h]
    · have hb : (g == f) = false := beq_eq_false_iff_ne.mpr h
      simp only [List.lookup, hb, if_neg h]
  | (k, x) :: r => by
    have ih := lookup_putF f g v r
    rw [show putF f v ((k, x) :: r) = (if k = f then (k, v) :: r else (k, x) :: putF f v r) from rfl]
    by_cases hk : k = f
    · rw [if_pos hk]
      by_cases h : g = k
      · have hb : (g == k) = true := beq_iff_eq.mpr h
        simp only [List.lookup, hb, if_pos (h.trans hk)]
      · have hb : (g == k) = false := beq_eq_false_iff_ne.mpr h
        simp only [List.lookup, hb, if_neg (fun e : g = f => h (e.trans hk.symm))]
    · rw [if_neg hk]
      by_cases h : g = k
      · have hb : (g == k) = true := beq_iff_eq.mpr h
        simp only [List.lookup, hb, if_neg (fun e : g = f => hk (h.symm.trans e))]
      · have hb : (g == k) = false := beq_eq_false_iff_ne.mpr h
        simp only [List.lookup, hb]
        exact ih
theorem RelO.some_of {v : V} {o : Option Value} (r : RelO (some v) o) : ∃ u, o = some u ∧ RelV v u := by
  cases o with
  | none => exact (show False from r).elim
  | some u => exact ⟨u, rfl, r⟩
theorem RelO.none_of {o : Option Value} (r : RelO none o) : o = none := by
  cases o with
  | none => rfl
  | some u => exact (show False from r).elim
theorem handed_of {v : V} {u : Value} (r : RelV v u) : PySem.W.handedIn u = true := by
  cases v with
  | non => cases (show u = Value.none from r); rfl
  | bl b => cases (show u = Value.bool b from r); rfl
  | int i => obtain ⟨t, e⟩ := (show ∃ t, u = Value.int i t from r); cases e; rfl
  | str x => obtain ⟨t, e⟩ := (show ∃ t, u = Value.str x t from r); cases e; rfl
  | byt b => obtain ⟨t, e⟩ := (show ∃ t, u = Value.bytes b t from r); cases e; rfl
  | flt b => obtain ⟨t, e⟩ := (show ∃ t, u = Value.float b t from r); cases e; rfl
  | ref a => cases (show u = Value.ref a from r); rfl
  | ty n => cases (show u = Value.type n from r); rfl
section
variable {P : Program} {w : World} {H H' : Hp} {h h' : Heap} {a C dx : Addr} {fs fs' : List (Str × V)}
theorem ins_get (hok : HOk P w H h) (e : H a = some (.ins C dx fs)) : ∃ mA, ObjM h a dx C mA ∧ (∀ f, RelO (fs.lookup f) (mA f)) ∧ PySem.Within mA (fs.map (·.1)) ∧ fs.length ≤ 1000 ∧ H dx = some (.own a) := by
  obtain ⟨d, z, ne, ob, mA, n, r, q⟩ := (show ObjOk P w H h a (.ins C dx fs) from hok a _ e)
  exact ⟨mA, ⟨ob, n, ne⟩, r, q, z, d⟩
end
structure Cls (K : PySem.W.Frag) (C : Addr) : Prop where
  pg : PySem.W.plainGet K C Str.empty = true
  hd : PySem.W.hasDictIn K C = true
  po : PySem.W.plainOver K C = true
  sa : PySem.W.findIn K (.ref C) "__setattr__" = some (some (.builtin "object.__setattr__"))
theorem Cls.get {K : PySem.W.Frag} {C : Addr} (c : Cls K C) (f : Str) : PySem.W.plainGet K C f = true := c.pg
noncomputable def NoAttr (K : PySem.W.Frag) (C : Addr) (f : Str) : Prop := PySem.W.findIn K (.ref C) f = some none
section
variable {X : Cx} {pins : List (Addr × Obj)} {σ : St} {H : Hp} {s : Shared} {a C dx : Addr} {fs : List (Str × V)} {f : Str} {v : V} {A : Around} {E : Value → Shared → Prop}
theorem attr_of {prog : Program} {w : World} {env : Env} {e : Expr} {f : Str} {pos : Pos} {s : Shared} {Q : Value → Shared → Prop} (hb : attributeBase e f env (eval e env) = eval e env)
    (h : wpAny (model prog w) A (eval e env) (fun o s₁ => wpAny (model prog w) A (getAttr o f true) Q E s₁) E s) : wpAny (model prog w) A (eval (.Attribute e f pos) env) Q E s :=
  Attribute_any_ h (by rw [arm_eval_Attribute, hb])
end
section
variable {X : Cx} {o e value : Expr} {f : Str} {pos pos' tpos : Pos} {ta tv : TE}
end
section
variable {X : Cx} {pins : List (Addr × Obj)} {σ : St} {H : Hp} {s : Shared} {A : Around} {E : Value → Shared → Prop} {Q : Value → Shared → Prop} {c : Value} {b : Bool}
inductive TyOf (K : PySem.W.Frag) (H : Hp) : V → Value → Prop where
  | non : TyOf K H .non (.type "NoneType")
  | bl (x : Bool) : TyOf K H (.bl x) (.type "bool")
  | int (i : Int) : TyOf K H (.int i) (.type "int")
  | str (x : Str) : TyOf K H (.str x) (.type "str")
  | flt (x : UInt64) : TyOf K H (.flt x) (.type "float")
  | lst {a : Addr} {xs : List V} (e : H a = some (.lst xs)) : TyOf K H (.ref a) (.type "list")
  | frz {a : Addr} {o : Obj} {xs : List V} (e : H a = some (.frz o (.lst xs))) : TyOf K H (.ref a) (.type "list")
  | tup {a : Addr} {xs : List V} (e : H a = some (.tup xs)) : TyOf K H (.ref a) (.type "tuple")
  | dK {a : Addr} {kvs : List (Key × V)} (e : H a = some (.dK kvs)) : TyOf K H (.ref a) (.type "dict")
  | dT {a : Addr} {kvs : List (List Key × V)} (e : H a = some (.dT kvs)) : TyOf K H (.ref a) (.type "dict")
  | ins {a C dx : Addr} {fs : List (Str × V)} (e : H a = some (.ins C dx fs)) (cl : Cls K C) (ha : PySem.W.findIn K (.ref C) "__class__" = some (some (.builtin "object.__class__")))
      (hn : PySem.W.specialIn K (.builtin "object.__class__") "__get__" = some (some (.builtin "getset_descriptor.__get__"))) (htk : PySem.W.takesIn K (.builtin "object.__class__") = some true)
      (hm : PySem.W.mroIn K C (.type "object") = some true) : TyOf K H (.ref a) (.ref C)
theorem isinst_ok {x : V} {u t : Value} (I : Inv X pins σ H s) (rx : RelV x u) (ty : TyOf X.K H x t) (e : PySem.W.kitOne X.K t c = some b) (h : ∀ tk, Q (.bool b) { s with toks := tk }) :
    wpAny (model X.prog X.w) A (call (.builtin "isinstance") [u, c]) Q E s := by
  cases ty with
  | non => cases (show u = Value.none from rx); exact PySem.W.kia_one PySem.W.kitx_none I.kIn True.intro e (fun z => nomatch z) h
  | bl y => cases (show u = Value.bool y from rx); exact PySem.W.kia_one PySem.W.kitx_bool I.kIn True.intro e (fun z => nomatch z) h
  | int i => obtain ⟨t, q⟩ := (show ∃ t, u = Value.int i t from rx); cases q; exact PySem.W.kia_one PySem.W.kitx_int I.kIn True.intro e (fun z => nomatch z) h
  | str y => obtain ⟨t, q⟩ := (show ∃ t, u = Value.str y t from rx); cases q; exact PySem.W.kia_one PySem.W.kitx_str I.kIn True.intro e (fun z => nomatch z) h
  | flt y => obtain ⟨t, q⟩ := (show ∃ t, u = Value.float y t from rx); cases q; exact PySem.W.kia_one PySem.W.kitx_float I.kIn True.intro e (fun z => nomatch z) h
  | @lst a xs ea =>
    cases (show u = Value.ref a from rx)
    obtain ⟨_, _, n, _, h1⟩ := (show ObjOk X.prog X.w H s.heap a (.lst xs) from I.hok a _ ea)
    exact PySem.W.kia_one PySem.W.kitx_list I.kIn ⟨_, h1, rfl⟩ e (fun z => nomatch z) h
  | @frz a ob xs ea =>
    cases (show u = Value.ref a from rx)
    obtain ⟨_, _, _, n, _, h1⟩ := (show ObjOk X.prog X.w H s.heap a (.frz ob (.lst xs)) from I.hok a _ ea)
    exact PySem.W.kia_one PySem.W.kitx_list I.kIn ⟨_, h1, rfl⟩ e (fun z => nomatch z) h
  | @tup a xs ea =>
    cases (show u = Value.ref a from rx)
    obtain ⟨_, _, _, p⟩ := (show ObjOk X.prog X.w H s.heap a (.tup xs) from I.hok a _ ea)
    obtain ⟨o, h1, h2, _⟩ := p
    exact PySem.W.kia_one PySem.W.kitx_tuple I.kIn ⟨o, h1, h2⟩ e (fun z => nomatch z) h
  | @dK a kvs ea =>
    cases (show u = Value.ref a from rx)
    obtain ⟨_, _, vs, _, p⟩ := (show ObjOk X.prog X.w H s.heap a (.dK kvs) from I.hok a _ ea)
    obtain ⟨o, es, ep, h1, h2, _⟩ := p
    exact PySem.W.kia_one PySem.W.kitx_dict I.kIn ⟨o, h1, h2.1⟩ e (fun z => nomatch z) h
  | @dT a kvs ea =>
    cases (show u = Value.ref a from rx)
    obtain ⟨_, _, xs, _, o, es, ep, h1, h2, _⟩ := (show ObjOk X.prog X.w H s.heap a (.dT kvs) from I.hok a _ ea)
    exact PySem.W.kia_one PySem.W.kitx_dict I.kIn ⟨o, h1, h2.1⟩ e (fun z => nomatch z) h
  | @ins a C dx fs ea cl ha hn htk hm =>
    cases (show u = Value.ref a from rx)
    obtain ⟨mA, O, _⟩ := ins_get I.hok ea
    obtain ⟨od, J, _⟩ := O.look
    exact PySem.W.kia_one (PySem.W.kitx_own (cl.get _) cl.hd ha hn htk hm) I.kIn J e (fun z => nomatch z) h
end
end L2
namespace L2
open PySem PySem.Spec PyProof.Rows
structure Room (k : Nat) (A : Around) : Prop where
  hd : A.handled = none
  dp : A.depth + 3 * k + 5 < recursionLimit
  un : A.units + 16 * k + 200 < cLine
  gd : A.guards = some []
theorem Room.mono {j k : Nat} {A : Around} (r : Room k A) (h : j ≤ k) : Room j A := ⟨r.hd, by have := r.dp; omega, by have := r.un; omega, r.gd⟩
theorem Room.deeper {k : Nat} {A : Around} (r : Room (k + 1) A) (env : Env) : Room k (A.deeper env) :=
  ⟨r.hd, by have := r.dp; show A.depth + 1 + 3 * k + 5 < _; omega, by have := r.un; show A.units + 3 + 16 * k + 200 < _; omega, r.gd⟩
theorem make_depth {A : Around} {C : Addr} {us : List Value} {kw : List (Str × Value)} : (A.under (.builtin "type.__call__" ⟨.ref C :: us, kw⟩)).depth = A.depth + 1 := by
  first | rfl | simp [Around.under, Code.weight, Code.isCreation, Code.isGuard, Code.isCaller, Code.frames, Code.isFrame, guardIds]
theorem make_units {A : Around} {C : Addr} {us : List Value} {kw : List (Str × Value)} : (A.under (.builtin "type.__call__" ⟨.ref C :: us, kw⟩)).units = A.units + 1 := by
  first | rfl | simp [Around.under, Code.cUnits, Code.frames, Code.isFrame]
theorem Room.make {k : Nat} {A : Around} (r : Room (k + 1) A) (C : Addr) (us : List Value) (kw : List (Str × Value)) : Room k (A.under (.builtin "type.__call__" ⟨.ref C :: us, kw⟩)) :=
  ⟨r.hd, by have := r.dp; rw [make_depth]; omega, by have := r.un; rw [make_units]; omega, (by first | exact r.gd | (simpa [Around.under, Code.isGuard, guardIds, pushGuards] using r.gd))⟩
theorem Room.depth {k : Nat} {A : Around} (r : Room k A) : A.depth < recursionLimit := by have := r.dp; omega
theorem Room.units {k : Nat} {A : Around} (r : Room k A) : A.units + 64 < cLine := by have := r.un; omega
noncomputable def tNil : TA := fun _ H Q => Q [] H
noncomputable def tCons (ta : TE) (tr : TA) : TA := fun σ H Q => ta σ H fun x H1 => tr σ H1 fun xs H2 => Q (x :: xs) H2
section
variable {X : Cx} {e : Expr} {es : List Expr} {te : TE} {t : TA} {pos : Pos}
theorem pa_nil : PA X [] tNil := fun _ _ _ _ H Q I h => Calls.spliced_nil ⟨[], H, I, .nil, h⟩
theorem pa_cons (ha : PE X e te) (hr : PA X es t) (hs : starEach (e :: es) X.env = (false, eval e X.env) :: starEach es X.env := by with_unfolding_all rfl) : PA X (e :: es) (tCons te t) := by
  intro pos pins s σ H Q I h
  rw [hs]
  show wpAny _ _ (spliced ((false, eval e X.env) :: backTo pos (starEach es X.env))) _ _ s
  refine Calls.spliced_cons (thn (ha pins s σ H _ I h) fun u s1 ⟨x, H1, I1, r1, q1⟩ => ?_)
  exact thn (hr pos pins s1 σ H1 _ I1 q1) fun us s2 ⟨xs, H2, I2, r2, q2⟩ => ⟨x :: xs, H2, I2, .cons r1 r2, q2⟩
noncomputable def tTup (t : TA) : TE := fun σ H Q => t σ H fun xs H1 => xs.length ≤ sizeLine ∧ ∀ p, H1 p = none → Q (.ref p) (upd H1 p (.tup xs))
noncomputable def tLst (t : TA) : TE := fun σ H Q => t σ H fun xs H1 => xs.length ≤ sizeLine ∧ ∀ p, H1 p = none → Q (.ref p) (upd H1 p (.lst xs))
theorem pe_tup {x1} (h : PA X es t) : PE X (.Tuple es x1 pos) (tTup t) := by
  intro pins s σ H Q I hq
  refine wpAny_Tuple_spliced (thn (h pos pins s σ H _ I hq) fun us s1 ⟨xs, H1, I1, r, z, q⟩ => ⟨by rw [← r.length]; exact z, ?_⟩)
  have hf : H1 s1.heap.objs.size = none := I1.hok.fresh (Nat.le_refl _)
  refine ⟨.ref s1.heap.objs.size, upd H1 s1.heap.objs.size (.tup xs), I1.laid (t' := s1.toks) (fun b u e => Heap.get?_push_of_some _ e) (Nat.le_refl _) ?_, rfl, q _ hf⟩
  exact ⟨z, us, r, ⟨_, Heap.get?_push_size _ rfl, rfl, ⟨_, rfl⟩, rfl⟩⟩
theorem pe_lst (h : PA X es t) : PE X (.List es pos) (tLst t) := by
  intro pins s σ H Q I hq
  refine wpAny_List_spliced (thn (h pos pins s σ H _ I hq) fun us s1 ⟨xs, H1, I1, r, z, q⟩ => ⟨by rw [← r.length]; exact z, ?_⟩)
  have hf : H1 s1.heap.objs.size = none := I1.hok.fresh (Nat.le_refl _)
  refine ⟨.ref s1.heap.objs.size, upd H1 s1.heap.objs.size (.lst xs), I1.laid (t' := s1.toks) (fun b u e => Heap.get?_push_of_some _ e) (Nat.le_refl _) ?_, rfl, q _ hf⟩
  exact ⟨z, us, 0, r, Heap.get?_push_size _ rfl⟩
end
noncomputable abbrev Sp := List V → Hp → VK → XK → Prop
noncomputable abbrev CXT := List Env → Hp → Shared → XK → Value → Shared → Prop
structure Env0 (P : Program) (w : World) (K : PySem.W.Frag) (mg : Str → Option Value) (base : Heap) (A : Around) (outer : List Env) (s : Shared) (H : Hp) : Prop where
  frames : A.frames = some outer
  mod : Mod K mg base
  bs : ∀ b o, base.get? b = some o → s.heap.get? b = some o ∧ H b = none
  bsz : base.objs.size ≤ s.heap.objs.size
  funs : s.heap.FunFrames base outer
  frf : ∀ b ∈ frs outer, H b = none
  hok : HOk P w H s.heap
  bare : AllBare s.gens
noncomputable def CE (outer : List Env) (P : Program) (w : World) (H : Hp) (s : Shared) (Q : VK) (u : Value) (s' : Shared) : Prop :=
  ∃ v H', s'.os = s.os ∧ AllBare s'.gens ∧ Un (frs outer) [] H H' s.heap s'.heap ∧ HOk P w H' s'.heap ∧ RelV v u ∧ Q v H'
noncomputable def CR (CX : CXT) (outer : List Env) (P : Program) (w : World) (H : Hp) (s : Shared) (Q : VK) (E : XK) (r : Result) (s' : Shared) : Prop :=
  match r with
  | .ok (.ret u) => CE outer P w H s Q u s'
  | .ok _ => False
  | .error e => CX outer H s E e s'
structure FnOk (P : Program) (w : World) (K : PySem.W.Frag) (mg : Str → Option Value) (base : Heap) (CX : CXT) (k : Nat) (f : Addr) (fd : FuncData) (ps : List Str) (sp : Sp) : Prop where
  len : ∀ vs H Q E, sp vs H Q E → vs.length = ps.length
  run : ∀ (A : Around) (outer : List Env) (s : Shared) (H : Hp) (args : Args) (us : List Value) (vs : List V) (Q : VK) (E : XK), Room k A → Env0 P w K mg base A outer s H → BindsTo s fd args (ps.zip us) → Vals vs us → sp vs H Q E →
    codeAny (model P w) A (.call (.ref f) args) (CR CX outer P w H s Q E) s
theorem Env0.make {P : Program} {w : World} {K : PySem.W.Frag} {mg : Str → Option Value} {base : Heap} {A : Around} {outer : List Env} {s : Shared} {H : Hp} (e : Env0 P w K mg base A outer s H) (C : Addr) (us : List Value) (kw : List (Str × Value)) :
    Env0 P w K mg base (A.under (.builtin "type.__call__" ⟨.ref C :: us, kw⟩)) outer s H := ⟨by first | exact e.frames | (simpa [Around.under, Code.envs, Code.isFrame, pushEnvs] using e.frames), e.mod, e.bs, e.bsz, e.funs, e.frf, e.hok, e.bare⟩
section
variable {X : Cx} {pins : List (Addr × Obj)} {σ : St} {H : Hp} {s s' : Shared}
theorem Inv.env0 (I : Inv X pins σ H s) : Env0 X.prog X.w X.K X.mg X.base X.A X.stack s H :=
  ⟨I.ok.frames, I.ok.mod, I.bs, Nat.le_trans I.ok.bsz I.sz, I.stack, I.stkFree, I.hok, I.bare⟩
theorem Inv.after {Q : VK} {u : Value} (I : Inv X pins σ H s) (h : CE X.stack X.prog X.w H s Q u s') : EP X pins σ Q u s' := by
  obtain ⟨v, H', os, bare, un, hok, r, q⟩ := h
  obtain ⟨hh, g, d, t, os'⟩ := s'
  obtain rfl : os' = s.os := os
  exact ⟨v, H', I.call (h' := hh) (g' := g) (d' := d) (t' := t) (ch := []) un hok bare (fun b z => absurd z (by simp)), r, q⟩
end
noncomputable def tCall (sp : Sp) (dvs : List V) (E : XK) (t : TA) : TE := fun σ H Q => t σ H fun vs H1 => sp (vs ++ dvs) H1 Q E
noncomputable def Binds (K : PySem.W.Frag) (fd : FuncData) (ps : List Str) (ds : List Value) : Prop :=
  ∀ (s : Shared) (us : List Value), K.In s.heap → (us ++ ds).length = ps.length → BindsTo s fd ⟨us, []⟩ (ps.zip (us ++ ds))
theorem Binds.all {K : PySem.W.Frag} {fd : FuncData} {ps : List Str} (h : ∀ us : List Value, us.length = ps.length → bindArgs fd ⟨us, []⟩ = pure (ps.zip us)) : Binds K fd ps [] := fun s us _ hl => by
  rw [List.append_nil] at hl ⊢
  exact .of_eq (h us hl)
noncomputable def Passes (CX : CXT) (X : Cx) (E : XK) : Prop := ∀ (pins : List (Addr × Obj)) (σ : St) (H : Hp) (s : Shared) (e : Value) (s' : Shared), Inv X pins σ H s → CX X.stack H s E e s' → X.xe e s'
section
variable {X : Cx} {CX : CXT} {k : Nat} {f C : Addr} {fd : FuncData} {ps : List Str} {sp : Sp} {dvs : List V} {ds : List Value} {E : XK} {x m : Str} {p pos apos : Pos} {e o : Expr} {es : List Expr} {ta : TE} {t : TA}
theorem run_fn {pins : List (Addr × Obj)} {σ : St} {H : Hp} {s : Shared} {Q : VK} {us : List Value} {vs : List V} (F : FnOk X.prog X.w X.K X.mg X.base CX k f fd ps sp) (hr : Room k X.A) (hb : Binds X.K fd ps ds) (hd : Vals dvs ds) (hx : Passes CX X E)
    (I : Inv X pins σ H s) (r : Vals vs us) (h : sp (vs ++ dvs) H Q E) : wpAny (model X.prog X.w) X.A (call (.ref f) us) (EP X pins σ Q) X.xe s := by
  have r2 : Vals (vs ++ dvs) (us ++ ds) := r.append hd
  have hl : (us ++ ds).length = ps.length := by rw [← r2.length]; exact F.len _ _ _ _ h
  refine wpAny_call (codeAny_mono (F.run X.A X.stack s H ⟨us, []⟩ (us ++ ds) (vs ++ dvs) Q E hr I.env0 (hb s us I.kIn hl) r2 h) fun r s' hq => ?_)
  cases r with
  | error e => exact hx pins σ H s e s' I hq
  | ok fl =>
    cases fl with
    | ret u => exact I.after hq
    | next => exact False.elim hq
    | brk => exact False.elim hq
    | cont => exact False.elim hq
theorem pe_call (F : FnOk X.prog X.w X.K X.mg X.base CX k f fd ps sp) (hr : Room k X.A) (hg : Gl X x) (hm : X.mg x = some (.ref f)) (hk : PySem.W.keepIn X.K (.ref f) = true) (hb : Binds X.K fd ps ds) (hd : Vals dvs ds) (hx : Passes CX X E)
    (ha : PA X (e :: es) t) (hdb : (x == ("__debug__" : Str)) = false := by decide) (he : starEach (e :: es) X.env = (false, eval e X.env) :: starEach es X.env := by with_unfolding_all rfl) (hpl : (backTo pos (starEach es X.env)).any (·.1) = false := by with_unfolding_all rfl) :
    PE X (.Call (.Name x p) (e :: es) [] pos) (tCall sp dvs E t) := by
  intro pins s σ H Q I h
  refine wpAny_Call_Name_kw (ld_glob I hg hm ?_ hdb)
  refine PySem.W.callWith_K (h₀ := X.base) I.ok.mod.kin hk (thn (ha pos pins s σ H _ I h) fun us s1 ⟨vs, H1, I1, r, q⟩ => ⟨I1.kIn, ?_⟩) he hpl
  exact run_fn F hr hb hd hx I1 r q
end
section
variable {X : Cx} {CX : CXT} {k : Nat} {f C : Addr} {fd : FuncData} {ps ks : List Str} {sp : Sp} {E : XK} {x m : Str} {p pos apos kpos : Pos} {e o : Expr} {es : List Expr} {kws : List Keyword} {te ta : TE} {t tk : TA} {nm : Option Str}
variable {g : List Value → List Value → List Value} {gV : List V → List V → List V}
end
structure FnScope (N P : List Str) (sc : Scope) : Prop where
  kind : sc.kind = .function
  co : sc.isCoroutine = false
  gen : sc.isGenerator = false
  nd : N.Nodup
  pre : N.take P.length = P
  par : ∀ x ∈ P, sc.names.lookup x = some .local ∨ sc.names.lookup x = some .cell
  nofree : ∀ y ∈ sc.names, y.2 ≠ .free
theorem bindL_out {kindOf : Str → Option NameKind} {x : Str} : ∀ {binds : List (Str × Value)} {m : Str → Option Value}, (∀ v, (x, v) ∉ binds) → bindL kindOf binds m x = m x
  | [], _, _ => rfl
  | (n, v) :: r, m, h => by
    unfold bindL
    rw [bindL_out fun w hw => h w (List.mem_cons_of_mem _ hw)]
    split
    · have : x ≠ n := by rintro rfl; exact h v List.mem_cons_self
      simp [this]
    · rfl
theorem bindC_out {kindOf : Str → Option NameKind} {x : Str} : ∀ {binds : List (Str × Value)} {m : Str → Option Value}, (∀ v, (x, v) ∉ binds) → bindC kindOf binds m x = m x
  | [], _, _ => rfl
  | (n, v) :: r, m, h => by
    unfold bindC
    rw [bindC_out fun w hw => h w (List.mem_cons_of_mem _ hw)]
    split
    · rfl
    · have : x ≠ n := by rintro rfl; exact h v List.mem_cons_self
      simp [this]
theorem bindL_get {kindOf : Str → Option NameKind} {x : Str} {v : Value} : ∀ {P : List Str} {vs : List Value} {i : Nat} {m : Str → Option Value}, P.Nodup → P[i]? = some x → vs[i]? = some v → kindOf x = some .local →
    bindL kindOf (P.zip vs) m x = some v
  | [], _, _, _, _, h, _, _ => by simp at h
  | _ :: _, [], _, _, _, _, h, _ => by simp at h
  | p :: P, w :: vs, 0, m, nd, h1, h2, hk => by
    simp at h1 h2; subst h1; subst h2
    show bindL kindOf ((p, w) :: P.zip vs) m p = _
    unfold bindL
    rw [bindL_out fun v hv => (List.nodup_cons.mp nd).1 (List.of_mem_zip hv).1, if_pos hk]
    simp
  | p :: P, w :: vs, i + 1, m, nd, h1, h2, hk => by
    show bindL kindOf ((p, w) :: P.zip vs) m x = _
    unfold bindL
    exact bindL_get (i := i) (List.nodup_cons.mp nd).2 (by simpa using h1) (by simpa using h2) hk
theorem bindC_get {kindOf : Str → Option NameKind} {x : Str} {v : Value} : ∀ {P : List Str} {vs : List Value} {i : Nat} {m : Str → Option Value}, P.Nodup → P[i]? = some x → vs[i]? = some v → kindOf x ≠ some .local →
    bindC kindOf (P.zip vs) m x = some v
  | [], _, _, _, _, h, _, _ => by simp at h
  | _ :: _, [], _, _, _, _, h, _ => by simp at h
  | p :: P, w :: vs, 0, m, nd, h1, h2, hk => by
    simp at h1 h2; subst h1; subst h2
    show bindC kindOf ((p, w) :: P.zip vs) m p = _
    unfold bindC
    rw [bindC_out fun v hv => (List.nodup_cons.mp nd).1 (List.of_mem_zip hv).1, if_neg hk]
    simp
  | p :: P, w :: vs, i + 1, m, nd, h1, h2, hk => by
    show bindC kindOf ((p, w) :: P.zip vs) m x = _
    unfold bindC
    exact bindC_get (i := i) (List.nodup_cons.mp nd).2 (by simpa using h1) (by simpa using h2) hk
noncomputable def start (N : List Str) (vs : List V) : St := vs.map some ++ List.replicate (N.length - vs.length) none
noncomputable def cxOf (CX : CXT) (P : Program) (w : World) (K : PySem.W.Frag) (mg : Str → Option Value) (base : Heap) (N : List Str) (qual : Str) (scope : Scope) (f : Addr) (cd : Value) (A : Around) (outer : List Env) (s : Shared) (H : Hp) (E : XK) : Cx where
  prog := P
  w := w
  K := K
  mg := mg
  base := base
  A := A.deeper (envOfC qual scope s.heap.objs.size f cd)
  N := N
  s₀ := s
  H₀ := H
  env := envOfC qual scope s.heap.objs.size f cd
  outer := outer
  stack := envOfC qual scope s.heap.objs.size f cd :: outer
  ex := []
  calm := true
  fn := fun _ => true
  pn := []
  xe := fun e s' => wpAny (model P w) (A.deeper (envOfC qual scope s.heap.objs.size f cd)) (leaving (envOfC qual scope s.heap.objs.size f cd) e) (fun _ s'' => CX outer H s E e s'') (fun e' s'' => CX outer H s E e' s'') s'
theorem cell_has {sc : Scope} {n : Nat} {x : Str} (h : sc.names.lookup x = some .cell) : ∃ c, (cellsFrom n sc.names []).lookup x = some c := by
  have q := PySem.W.cellsFrom_some sc.names n [] (.inl h)
  exact Option.isSome_iff_exists.mp q
theorem inv_start {CX : CXT} {P : Program} {w : World} {K : PySem.W.Frag} {mg : Str → Option Value} {base : Heap} {N ps : List Str} {qual : Str} {scope : Scope} {f : Addr} {cd : Value} {A : Around} {outer : List Env} {s s1 : Shared} {H : Hp} {E : XK} {us : List Value} {vs : List V}
    (S : FnScope N ps scope) (hd : A.handled = none) (e0 : Env0 P w K mg base A outer s H) (hl : vs.length = ps.length) (r : Vals vs us)
    (x : InCallC s s.heap.objs.size (bindL (envOfC qual scope s.heap.objs.size f cd).kindOf (ps.zip us) fun _ => none) (cellsFrom (s.heap.objs.size + 1) scope.names []) (bindC (envOfC qual scope s.heap.objs.size f cd).kindOf (ps.zip us) fun _ => none) s1) :
    Inv (cxOf CX P w K mg base N qual scope f cd A outer s H E) [] (start N vs) H s1 := by
  have hpl : ps.length ≤ N.length := by have := congrArg List.length S.pre; rw [List.length_take] at this; omega
  obtain ⟨h1, tk, rfl, hk⟩ := x.done
  have noA : ∀ b : Addr, b ∉ (cxOf CX P w K mg base N qual scope f cd A outer s H E).ex := fun b z => absurd (show b ∈ ([] : List Addr) from z) (by simp)
  refine ⟨⟨e0.mod, S.kind, rfl, rfl, Nat.le_refl _, fun y z c h1 h2 => ?_, fun y hy => ?_, fun y c _ h => ?_, fun _ => hd, Around.frames_deeper e0.frames, .inr ⟨rfl, rfl⟩, fun b z => absurd z (noA b), e0.bs, e0.bsz, fun b _ _ => noA b, fun b z => absurd z (noA b), e0.funs, e0.frf⟩,
    rfl, e0.bare, Un.kept hk, ⟨_, x.toInCall.ns, fun i y v h1 h2 h3 => ?_⟩, fun y c h => ⟨_, x.cell y c h⟩, e0.hok.fresh (Nat.le_refl _), fun y c h => ?_, fun p hp => absurd (show p ∈ ([] : List (Addr × Obj)) from hp) (by simp), e0.hok.kept hk, ?_⟩
  · exact name_of_addr x.apart (PySem.mem_of_lookup h1) (PySem.mem_of_lookup h2)
  · have hy : scope.names.lookup y = some .cell ∨ scope.names.lookup y = some .free := hy
    rcases hy with hy | hy
    · exact cell_has hy
    · exact absurd rfl (S.nofree _ (PySem.mem_of_lookup hy))
  · exact Nat.le_of_lt (x.above y c (PySem.mem_of_lookup h))
  · have hi : i < vs.length := by
      unfold start at h2
      by_cases hi : i < vs.length
      · exact hi
      · rw [List.getElem?_append_right (by simpa using hi)] at h2
        rw [List.getElem?_replicate] at h2
        split at h2 <;> cases h2
    have ha : vs[i]? = some v := by
      unfold start at h2
      rw [List.getElem?_append_left (by simpa using hi), List.getElem?_map] at h2
      cases e : vs[i]? with
      | none => rw [e] at h2; cases h2
      | some a => rw [e] at h2; cases h2; rfl
    obtain ⟨u, hu, rv⟩ := r.get ha
    have hp : ps[i]? = some y := by
      rw [← S.pre, List.getElem?_take_of_lt (by omega)]; exact h1
    have ndP : ps.Nodup := by rw [← S.pre]; exact S.nd.sublist (List.take_sublist _ _)
    refine ⟨u, rv, ?_⟩
    rcases S.par y (List.mem_of_getElem? hp) with k | k
    · exact .inl ⟨k, bindL_get ndP hp hu k⟩
    · obtain ⟨c, e⟩ := cell_has (n := s.heap.objs.size + 1) k
      refine .inr ⟨.inl k, c, e, ?_⟩
      have q := x.cell y c e
      rw [bindC_get ndP hp hu (by show scope.names.lookup y ≠ _; rw [k]; decide)] at q
      exact q
  · exact e0.hok.fresh (Nat.le_of_lt (x.above y c (PySem.mem_of_lookup h)))
  · unfold start
    show _ = N.length
    rw [List.length_append, List.length_map, List.length_replicate]
    omega
theorem fn_of {CX : CXT} {P : Program} {w : World} {K : PySem.W.Frag} {mg : Str → Option Value} {base : Heap} {k : Nat} {f : Addr} {name qual : Str} {params : Arguments} {body : List Stmt} {scope : Scope} {dV kV doc pm cdv ct oc : Value} {an od : Option Addr}
    {osl : Array (Option Value)} {N ps : List Str} {sp : Sp} (lk : K.lookup f = some ⟨oc, od, .func (PySem.W.fnOf name qual params body scope dV kV doc pm an cdv ct), osl⟩) (hcd : PySem.W.codeIn K cdv qual = true) (S : FnScope N ps scope)
    (len : ∀ vs H Q E, sp vs H Q E → vs.length = ps.length)
    (hbody : ∀ (A : Around) (outer : List Env) (s : Shared) (H : Hp) (vs : List V) (Q : VK) (E : XK), Room k (A.deeper (envOfC qual scope s.heap.objs.size f cdv)) → sp vs H Q E →
      ∃ t, PSs (cxOf CX P w K mg base N qual scope f cdv A outer s H E) body t ∧ t { nx := fun _ H' => Q .non H', rt := Q } (start N vs) H) :
    FnOk P w K mg base CX (k + 1) f (PySem.W.fnOf name qual params body scope dV kV doc pm an cdv ct) ps sp := by
  refine ⟨len, fun A outer s H args us vs Q E hr e0 hb r hsp => ?_⟩
  have hl := len _ _ _ _ hsp
  have KX : K.In s.heap := e0.mod.kin.keeps fun b o e => (e0.bs b o e).1
  have lim : s.heap.NoLimit := e0.mod.nolimit.keeps fun b o e => (e0.bs b o e).1
  have hkind : ∀ y ∈ ps.zip us, scope.names.lookup y.1 = some .local ∨ (scope.names.lookup y.1 = some .cell ∧ ((cellsFrom (s.heap.objs.size + 1) scope.names []).lookup y.1).isSome = true) := fun ⟨n, v⟩ hy => by
    rcases S.par n (List.of_mem_zip hy).1 with q | q
    · exact .inl q
    · exact .inr ⟨q, PySem.W.cellsFrom_some _ _ _ (.inl q)⟩
  refine codeAny_call_function hr.depth (KX _ _ lk) rfl S.co S.gen rfl (PySem.W.codeRec_of KX hcd) (hb _ _ _ _ ?_)
  refine wpAny_newFunctionEnv_cells S.kind hkind fun env he s1 x => ?_
  subst he
  refine ⟨lim.keeps x.toInCall.keep, codeAny_func ?_⟩
  obtain ⟨t, ht, hq⟩ := hbody A outer s H vs Q E (hr.deeper _) hsp
  have I : Inv (cxOf CX P w K mg base N qual scope f cdv A outer s H E) [] (start N vs) H s1 := inv_start S hr.hd e0 hl r x
  refine wpAny_mono (ht [] s1 (start N vs) H _ I hq) (fun fl s' hs => ?_) fun e s' hs => hs
  have fin : ∀ {σ' : St} {H' : Hp} {v : V} {u : Value}, Inv (cxOf CX P w K mg base N qual scope f cdv A outer s H E) [] σ' H' s' → RelV v u → Q v H' → CE outer P w H s Q u s' :=
    fun {σ' H' v u} J rv q => ⟨v, H', J.os, J.bare, J.base, J.hok, rv, q⟩
  cases fl with
  | ret u =>
    obtain ⟨v, σ', H', J, rv, q⟩ := hs
    exact fin J rv q
  | next =>
    obtain ⟨σ', H', J, q⟩ := hs
    exact fin (v := V.non) (u := Value.none) J rfl q
  | brk =>
    obtain ⟨_, _, _, q⟩ := hs
    exact False.elim q
  | cont =>
    obtain ⟨_, _, _, q⟩ := hs
    exact False.elim q
end L2
namespace L2
open PySem PySem.Spec PyProof.Rows
section
variable {X : Cx} {x : Str} {p pos : Pos} {e : Expr} {es : List Expr} {t : TA} {id T : String} {r : List V → Hp → VK → Prop}
noncomputable def tCB (r : List V → Hp → VK → Prop) (t : TA) : TE := fun σ H Q => t σ H fun vs H1 => r vs H1 Q
theorem pe_callB (hc : CallR X (.builtin id) r) (hg : Gl X x) (hm : X.mg x = none) (hv : bootBuiltins x = some (.builtin id)) (ha : PA X (e :: es) t) (hn : x ≠ "__name__" := by decide) (hdb : (x == ("__debug__" : Str)) = false := by decide)
    (he : starEach (e :: es) X.env = (false, eval e X.env) :: starEach es X.env := by with_unfolding_all rfl) (hpl : (backTo pos (starEach es X.env)).any (·.1) = false := by with_unfolding_all rfl) : PE X (.Call (.Name x p) (e :: es) [] pos) (tCB r t) := by
  intro pins s σ H Q I h
  refine wpAny_Call_Name_kw (ld_blt I hg hm hv ?_ hn hdb)
  exact PyProof.Rows.callWith_builtin1 (thn (ha pos pins s σ H _ I h) fun us s1 ⟨vs, H1, I1, r1, q1⟩ => hc pins s1 σ H1 vs us Q I1 r1 q1) he hpl
theorem pe_callTy (hc : CallR X (.type T) r) (hg : Gl X x) (hm : X.mg x = none) (hv : bootBuiltins x = some (.type T)) (ha : PA X (e :: es) t) (hn : x ≠ "__name__" := by decide) (hdb : (x == ("__debug__" : Str)) = false := by decide)
    (he : starEach (e :: es) X.env = (false, eval e X.env) :: starEach es X.env := by with_unfolding_all rfl) (hpl : (backTo pos (starEach es X.env)).any (·.1) = false := by with_unfolding_all rfl) : PE X (.Call (.Name x p) (e :: es) [] pos) (tCB r t) := by
  intro pins s σ H Q I h
  refine wpAny_Call_Name_kw (ld_blt I hg hm hv ?_ hn hdb)
  exact PyProof.Rows.callWith_type1 (thn (ha pos pins s σ H _ I h) fun us s1 ⟨vs, H1, I1, r1, q1⟩ => hc pins s1 σ H1 vs us Q I1 r1 q1) he hpl
end
end L2
namespace HT
open PySem PyProof.Rows
section
open PySem.SeqAt
open PySem.AutoSeq1 (wpAny_loadPart')
open PySem.MeetsSeq PySem.MeetsSeq2 PySem.MeetsSeq3
end
section
variable {prog : Program} {w : World} {A : Around} {E : Value → Shared → Prop} {s : Shared}
theorem cat_tup {t b : Addr} {vs ws : List Value} {Q : Value → Shared → Prop} (ht : IsTup s.heap t vs.toArray) (hb : IsTup s.heap b ws.toArray) (hv : vs ≠ [])
    (h1 : ws = [] → Q (.ref t) s) (h2 : ws ≠ [] → Q (.ref s.heap.objs.size) { s with heap := s.heap.push { cls := .type "tuple", data := .seq (vs ++ ws).toArray } })
    (hsz : vs.length + ws.length ≤ sizeLine) : wpAny (model prog w) A (binaryOp .Add (.ref t) (.ref b)) Q E s := by
  obtain ⟨⟨cls, dd, data, sl⟩, ho, hc, n, hd⟩ := id ht
  obtain ⟨⟨cls2, dd2, data2, sl2⟩, ho2, hc2, n2, hd2⟩ := id hb
  simp only at hc hd hc2 hd2
  subst hc hd hc2 hd2
  have e : vs.toArray ++ ws.toArray = (vs ++ ws).toArray := by simp
  by_cases hw : ws = []
  · exact concat_meets ⟨_, ho, rfl⟩ ⟨_, ho2, rfl⟩ noFill_tuple_add seq_tuple_add PySem.F.slot_tuple_add PySem.F.entry_tuple_add (PySem.F.args_tuple_add_2 _ _)
      (tuple_addW1 t b vs.toArray ws.toArray n n2 dd dd2 sl sl2 (by simpa using hv) (by simp [hw])) ⟨ho, ho2, h1 hw⟩
  · refine concat_meets ⟨_, ho, rfl⟩ ⟨_, ho2, rfl⟩ noFill_tuple_add seq_tuple_add PySem.F.slot_tuple_add PySem.F.entry_tuple_add (PySem.F.args_tuple_add_2 _ _)
      (tuple_addW2 t b vs.toArray ws.toArray n n2 dd dd2 sl sl2 (by simpa using hv) (by simpa using hw) (by rw [List.size_toArray, List.size_toArray]; exact hsz)) ⟨ho, ho2, ?_⟩
    rw [e]
    exact h2 hw
noncomputable def sIx (n d : Nat) : Option Int → Nat
  | none => d
  | some v => if v < 0 then (v + (n : Int)).toNat else min v.toNat n
theorem sIx_le (n d : Nat) (hd : d ≤ n) (o : Option Int) : sIx n d o ≤ n := by
  cases o with
  | none => exact hd
  | some v =>
    show (if v < 0 then (v + (n : Int)).toNat else min v.toNat n) ≤ n
    by_cases hv : v < 0
    · rw [if_pos hv]; omega
    · rw [if_neg hv]; exact Nat.min_le_right _ _
theorem clip_eq (v : Int) (n d : Nat) : (if v < 0 then max (v + (n : Int)) 0 else min v (n : Int)) = ((sIx n d (some v) : Nat) : Int) := by
  show (if v < 0 then max (v + (n : Int)) 0 else min v (n : Int)) = (((if v < 0 then (v + (n : Int)).toNat else min v.toNat n) : Nat) : Int)
  by_cases hv : v < 0
  · simp only [if_pos hv]; omega
  · simp only [if_neg hv]; omega
theorem adjust_gen (lo hi : Option Int) (n : Nat) : Builtin.Slice.sliceAdjust lo hi 1 (n : Int) = (((sIx n 0 lo : Nat) : Int), ((sIx n n hi : Nat) : Int)) := by
  have h1 : ¬ ((1 : Int) < 0) := by omega
  unfold Builtin.Slice.sliceAdjust
  simp only [h1, if_false]
  refine Prod.ext ?_ ?_
  · cases lo with
    | none => rfl
    | some v => exact clip_eq v n 0
  · cases hi with
    | none => rfl
    | some v => exact clip_eq v n n
theorem places_gen (i j : Nat) : Builtin.Slice.slicePlaces (i : Int) (j : Int) 1 = j - i := by
  unfold Builtin.Slice.slicePlaces
  have h1 : (1 : Int) > 0 := by omega
  simp only [h1, if_true, Int.ediv_one]
  split <;> omega
theorem slicePart_ {v : Value} {o : Option Int} {Q : Option Int → Shared → Prop} (p : IsPart v o) (h : Q o s) : wpAny (model prog w) A (Builtin.Slice.slicePartIndex v) Q E s := by
  cases p with
  | none => exact slicePart_none h
  | int i t => exact slicePart_int h
theorem sliceApplied_gen {sl : Addr} {vl vu : Value} {lo hi : Option Int} {n : Nat} {Q : Int × Int × Nat → Shared → Prop} (hs : s.heap.IsSliceOf sl vl vu .none) (pl : IsPart vl lo) (pu : IsPart vu hi)
    (h : Q (((sIx n 0 lo : Nat) : Int), 1, sIx n n hi - sIx n 0 lo) s) : wpAny (model prog w) A (Builtin.Slice.sliceApplied (.ref sl) (pure (n : Int))) Q E s := by
  obtain ⟨os, hos, hcs, hds⟩ := id hs
  unfold Builtin.Slice.sliceApplied Builtin.Slice.sliceFields
  refine wpAny_bind (wpAny_bind (wpAny_field hos hds (x := vl) rfl (wpAny_bind (wpAny_field hos hds (x := vu) rfl (wpAny_bind (wpAny_field hos hds (x := .none) rfl (wpAny_pure ?_)))))))
  refine wpAny_bind (slicePart_none ?_)
  show wpAny _ _ (if ((1 : Int) == 0) = true then _ else _) _ _ s
  rw [if_neg (by decide)]
  refine wpAny_bind (slicePart_ pl (wpAny_bind (slicePart_ pu (wpAny_bind (wpAny_pure ?_)))))
  show wpAny _ _ (match Builtin.Slice.sliceAdjust lo hi 1 (n : Int) with | (lo, hi) => pure (lo, (1 : Int), Builtin.Slice.slicePlaces lo hi 1)) _ _ s
  rw [adjust_gen lo hi n]
  show wpAny _ _ (pure (((sIx n 0 lo : Nat) : Int), (1 : Int), Builtin.Slice.slicePlaces ((sIx n 0 lo : Nat) : Int) ((sIx n n hi : Nat) : Int) 1)) _ _ s
  rw [places_gen]
  exact wpAny_pure h
theorem pick_gen (xs : Array Value) (i k : Nat) : ((List.range k).filterMap fun (m : Nat) => xs[((i : Int) + (m : Int) * 1).toNat]?).toArray = ((xs.toList.drop i).take k).toArray := by
  have e : (fun (m : Nat) => xs[((i : Int) + (m : Int) * 1).toNat]?) = fun m => xs[i + m]? := by
    funext m
    have : ((i : Int) + (m : Int) * 1).toNat = i + m := by omega
    rw [this]
  rw [e]
  have := pick_run xs i k
  rw [List.filterMap_map] at this
  have e2 : ((fun x => xs[x]?) ∘ fun x => i + x) = fun m => xs[i + m]? := rfl
  rw [e2] at this
  rw [this]
theorem getItem_tuple_cut {t sl : Addr} {items : Array Value} {vl vu : Value} {lo hi : Option Int} {Q : Value → Shared → Prop} (ht : IsTup s.heap t items) (hs : s.heap.IsSliceOf sl vl vu .none) (pl : IsPart vl lo) (pu : IsPart vu hi)
    (hw : ¬ (sIx items.size 0 lo = 0 ∧ sIx items.size items.size hi = items.size))
    (h : Q (.ref s.heap.objs.size) { s with heap := s.heap.push { cls := .type "tuple", data := .seq ((items.toList.drop (sIx items.size 0 lo)).take (sIx items.size items.size hi - sIx items.size 0 lo)).toArray } })
    (hsz : items.size ≤ sizeLine) : wpAny (model prog w) A (getItem (.ref t) (.ref sl)) Q E s := by
  have htake : sizeOk (.seq ((items.toList.drop (sIx items.size 0 lo)).take (sIx items.size items.size hi - sIx items.size 0 lo)).toArray) := by
    show ((items.toList.drop (sIx items.size 0 lo)).take (sIx items.size items.size hi - sIx items.size 0 lo)).toArray.size ≤ sizeLine
    rw [List.size_toArray, List.length_take, List.length_drop, Array.length_toList]
    omega
  have hj : sIx items.size items.size hi ≤ items.size := sIx_le _ _ (Nat.le_refl _) hi
  obtain ⟨os, hos, hcs, hds⟩ := id hs
  have hTs : s.TypeIs (.ref sl) "slice" := ⟨os, hos, hcs⟩
  unfold getItem
  try with_reducible refine wpAny_holding ?_
  first | refine wpAny_bind (wpAny_pure ?_) | skip
  refine wpAny_bind (wpAny_sequenceKey ht.typeIs (by decide) ?_)
  refine wpAny_bind (wpAny_callSpecial?_slot (name := Str.ofString "__getitem__") ht.typeIs PyProof.Rows.slot_tuple_getitem
    (wpAny_call_entry PyProof.Rows.slot_tuple_getitem ht.typeIs entry_tuple_getitem ?_ (args_tuple_getitem _ _)))
  show wpAny _ _ (Builtin.Tuple.tupleItemsOf (.ref t) >>= _) _ _ s
  refine wpAny_bind (tupleItemsOf_ ht ?_)
  refine wpAny_bind (wpAny_typeOf hTs ?_)
  rw [if_pos (by decide)]
  refine wpAny_bind (sliceApplied_gen hs pl pu ?_)
  have hno : ¬ ((((sIx items.size 0 lo : Nat) : Int) == 0 && (1 : Int) == 1 && (sIx items.size items.size hi - sIx items.size 0 lo) == items.size) = true) := by
    intro q
    rw [Bool.and_eq_true, Bool.and_eq_true] at q
    have q1 : ((sIx items.size 0 lo : Nat) : Int) = 0 := eq_of_beq q.1.1
    have q2 : sIx items.size items.size hi - sIx items.size 0 lo = items.size := eq_of_beq q.2
    exact hw ⟨by omega, by omega⟩
  show wpAny _ _ (if (((sIx items.size 0 lo : Nat) : Int) == 0 && (1 : Int) == 1 && (sIx items.size items.size hi - sIx items.size 0 lo) == items.size) = true then _ else _) _ _ s
  rw [if_neg hno, pick_gen]
  first
    | exact wpAny_bind (m := Builtin.Tuple.tupleExact _) (wpAny_newObj_type (wpAny_pure ⟨_, rfl, wpAny_pure h⟩) htake)
    | exact wpAny_bind (m := Builtin.Tuple.tupleExact _) (wpAny_newObj_type (wpAny_bind (wpAny_pure (wpAny_pure ⟨_, rfl, wpAny_pure h⟩))) htake)
    | exact wpAny_bind (wpAny_bind (m := Builtin.Tuple.tupleExact _) (wpAny_newObj_type (wpAny_pure (wpAny_pure ⟨_, rfl, wpAny_pure h⟩)) htake))
    | exact wpAny_bind (wpAny_bind (m := Builtin.Tuple.tupleExact _) (wpAny_newObj_type (wpAny_pure ⟨_, rfl, wpAny_pure h⟩) htake))
end
end HT
namespace L2
open PySem PySem.Spec PyProof.Rows
noncomputable abbrev TO := St → Hp → (Option Int → Hp → Prop) → Prop
noncomputable def PO (X : Cx) (e : Option Expr) (t : TO) : Prop :=
  ∀ (pins : List (Addr × Obj)) (s : Shared) (σ : St) (H : Hp) (Q : Option Int → Hp → Prop), Inv X pins σ H s → t σ H Q →
    wpAny (model X.prog X.w) X.A (evalPart e X.env) (fun u s' => ∃ o H', Inv X pins σ H' s' ∧ IsPart u o ∧ Q o H') X.xe s
noncomputable def tNoPart : TO := fun _ H Q => Q none H
noncomputable def tPart (t : TE) : TO := fun σ H Q => t σ H fun x H1 => ∃ i, x = .int i ∧ Q (some i) H1
section
variable {X : Cx} {e : Expr} {te : TE} {lo hi : Option Expr} {tl th : TO} {pos p2 : Pos}
theorem po_none : PO X none tNoPart := by
  intro pins s σ H Q I h
  rw [evalPart_none]
  exact wpAny_pure ⟨none, H, I, .none, h⟩
theorem po_some (h : PE X e te) : PO X (some e) (tPart te) := by
  intro pins s σ H Q I hw
  rw [evalPart_some]
  refine thn (h pins s σ H _ I hw) fun u s1 ⟨x, H1, I1, r1, q1⟩ => ?_
  obtain ⟨i, rfl, q⟩ := q1
  obtain ⟨t, rfl⟩ := r1
  exact ⟨some i, H1, I1, .int i t, q⟩
noncomputable def SlR (X : Cx) (r : V → Option Int → Option Int → Hp → VK → Prop) : Prop :=
  ∀ (pins : List (Addr × Obj)) (s : Shared) (σ : St) (H : Hp) (x : V) (v vl vu : Value) (lo hi : Option Int) (sl : Addr) (Q : VK), Inv X pins σ H s → RelV x v → s.heap.IsSliceOf sl vl vu .none → IsPart vl lo → IsPart vu hi → r x lo hi H Q →
    ∃ T id, typeLookup (.type T) "__getitem__" = pure (some (.builtin id)) ∧ s.TypeIs v T ∧ wpAny (model X.prog X.w) X.A (getItem v (.ref sl)) (EP X pins σ Q) X.xe s
theorem SlR.or {r r' : V → Option Int → Option Int → Hp → VK → Prop} (h : SlR X r) (h' : SlR X r') : SlR X (fun x lo hi H Q => r x lo hi H Q ∨ r' x lo hi H Q) := by
  intro pins s σ H x v vl vu lo hi sl Q I rx hs pl pu q
  rcases q with q | q
  · exact h pins s σ H x v vl vu lo hi sl Q I rx hs pl pu q
  · exact h' pins s σ H x v vl vu lo hi sl Q I rx hs pl pu q
noncomputable def tSl (r : V → Option Int → Option Int → Hp → VK → Prop) (te : TE) (tl th : TO) : TE := fun σ H Q => te σ H fun x H1 => tl σ H1 fun l H2 => th σ H2 fun u H3 => r x l u H3 Q
theorem pe_slice {r : V → Option Int → Option Int → Hp → VK → Prop} (hr : SlR X r) (he : PE X e te) (hl : PO X lo tl) (hu : PO X hi th) : PE X (.Subscript e (.Slice lo hi none p2) pos) (tSl r te tl th) := by
  intro pins s σ H Q I h
  refine Subscript_ (thn (he pins s σ H _ I h) fun v s1 ⟨x, H1, I1, r1, q1⟩ => ?_)
  refine wpAny_Slice (thn (hl pins s1 σ H1 _ I1 q1) fun vl s2 ⟨l, H2, I2, pl, q2⟩ => thn (hu pins s2 σ H2 _ I2 q2) fun vu s3 ⟨u, H3, I3, pu, q3⟩ => ?_)
  rw [evalPart_none]
  refine wpAny_pure ?_
  have I4 : Inv X pins σ H3 { s3 with heap := s3.heap.push { cls := .type "slice", data := .fields #[vl, vu, .none] } } := I3.kept (t' := s3.toks) fun b ob q => Heap.get?_push_of_some _ q
  obtain ⟨T, id, hT, ht, hg⟩ := hr pins { s3 with heap := s3.heap.push { cls := .type "slice", data := .fields #[vl, vu, .none] } } σ H3 x v vl vu l u s3.heap.objs.size Q I4 r1 (Heap.IsSliceOf.new ..) pl pu q3
  show wpAny (model X.prog X.w) X.A (subscriptTail e (.Slice lo hi none p2) v (.ref s3.heap.objs.size)) (EP X pins σ Q) X.xe { s3 with heap := s3.heap.push { cls := .type "slice", data := .fields #[vl, vu, .none] } }
  exact tail_any (ops := [.ref s3.heap.objs.size, v]) ht hT hg (by with_unfolding_all rfl)
noncomputable def cutV (xs : List V) (lo hi : Option Int) : List V := (xs.drop (HT.sIx xs.length 0 lo)).take (HT.sIx xs.length xs.length hi - HT.sIx xs.length 0 lo)
theorem cutV_length (xs : List V) (lo hi : Option Int) : (cutV xs lo hi).length ≤ xs.length := by
  unfold cutV
  rw [List.length_take, List.length_drop]
  omega
noncomputable def rSlT (K : PySem.W.Frag) : V → Option Int → Option Int → Hp → VK → Prop := fun x lo hi H Q => ∃ a xs, x = .ref a ∧ SqT K H a xs ∧
  ¬ (HT.sIx xs.length 0 lo = 0 ∧ HT.sIx xs.length xs.length hi = xs.length) ∧ ∀ p, H p = none → Q (.ref p) (upd H p (.tup (cutV xs lo hi)))
theorem sl_tup : SlR X (rSlT X.K) := by
  intro pins s σ H x v vl vu lo hi sl Q I rx hs pl pu h
  obtain ⟨a, xs, rfl, hx, hw, q⟩ := h
  cases rx
  obtain ⟨its, r, ht, hz⟩ := I.tuple hx
  have hlen : its.toArray.size = xs.length := by rw [List.size_toArray]; exact r.length.symm
  refine ⟨"tuple", _, PyProof.Rows.slot_tuple_getitem.lookup, ht.typeIs, ?_⟩
  refine HT.getItem_tuple_cut ht hs pl pu (by rw [hlen]; exact hw) ?_ (by rw [hlen]; exact hz)
  rw [hlen]
  refine ⟨.ref s.heap.objs.size, _, I.laid (t' := s.toks) (o := .tup (cutV xs lo hi)) (fun b ob q => Heap.get?_push_of_some _ q) (Nat.le_refl _) ?_, rfl, q _ (I.hok.fresh (Nat.le_refl _))⟩
  exact ⟨Nat.le_trans (cutV_length xs lo hi) hz, _, (r.drop (HT.sIx xs.length 0 lo)).take (HT.sIx xs.length xs.length hi - HT.sIx xs.length 0 lo), IsTupN.new _ _⟩
noncomputable def rCatT (K : PySem.W.Frag) : R2 := fun x y H Q => ∃ a b xs ys, x = .ref a ∧ y = .ref b ∧ SqT K H a xs ∧ SqT K H b ys ∧ xs ≠ [] ∧ xs.length + ys.length ≤ sizeLine ∧
  (ys = [] → Q (.ref a) H) ∧ (ys ≠ [] → ∀ p, H p = none → Q (.ref p) (upd H p (.tup (xs ++ ys))))
theorem Vals.nil_iff {xs : List V} {us : List Value} (r : Vals xs us) : us = [] ↔ xs = [] := by
  cases r with
  | nil => simp
  | cons _ _ => simp
theorem op_catT : OpR X (binaryOp .Add) (rCatT X.K) := by
  intro pins s σ H x y v u Q I rx ry h
  obtain ⟨a, b, xs, ys, rfl, rfl, ha, hb, hx, hz, q1, q2⟩ := h
  cases rx
  cases ry
  obtain ⟨its, r1, p1, _⟩ := I.tuple ha
  obtain ⟨its2, r2, p2, _⟩ := I.tuple hb
  refine HT.cat_tup p1 p2 (fun z => hx (r1.nil_iff.mp z)) (fun z => ⟨.ref a, H, I, rfl, q1 (r2.nil_iff.mp z)⟩) (fun z => ?_) (by rw [← r1.length, ← r2.length]; exact hz)
  refine ⟨.ref s.heap.objs.size, _, I.laid (t' := s.toks) (o := .tup (xs ++ ys)) (fun b ob q => Heap.get?_push_of_some _ q) (Nat.le_refl _) ?_, rfl, q2 (fun w => z (r2.nil_iff.mpr w)) _ (I.hok.fresh (Nat.le_refl _))⟩
  exact ⟨by rw [List.length_append]; exact hz, _, r1.append r2, IsTupN.new _ _⟩
end
end L2
namespace L2
open PySem PySem.Spec PyProof.Rows
noncomputable def ixN (n : Nat) (i : Int) : Option Nat := if 0 ≤ i then (if i < n then some i.toNat else none) else if -(n : Int) ≤ i then some (i + n).toNat else none
noncomputable def atI {α : Type} (xs : List α) (i : Int) : Option α := (ixN xs.length i).bind fun j => xs[j]?
theorem ixN_seq {n : Nat} {i : Int} {j : Nat} (h : ixN n i = some j) : seqIndex? i n = some j ∧ j < n ∧ -(n : Int) ≤ i ∧ i < n := by
  unfold ixN at h
  by_cases h0 : 0 ≤ i
  · rw [if_pos h0] at h
    by_cases h1 : i < n
    · rw [if_pos h1] at h
      have e : i.toNat = j := Option.some.inj h
      exact ⟨by rw [seqIndex_of h0 h1, e], by omega, by omega, h1⟩
    · rw [if_neg h1] at h; cases h
  · rw [if_neg h0] at h
    by_cases h1 : -(n : Int) ≤ i
    · rw [if_pos h1] at h
      have e : (i + n).toNat = j := Option.some.inj h
      exact ⟨by rw [seqIndex_neg (by omega) h1, e], by omega, h1, by omega⟩
    · rw [if_neg h1] at h; cases h
theorem atI_get {α : Type} {xs : List α} {i : Int} {v : α} (h : atI xs i = some v) : ∃ j, seqIndex? i xs.length = some j ∧ xs[j]? = some v ∧ j < xs.length ∧ -(xs.length : Int) ≤ i ∧ i < xs.length := by
  unfold atI at h
  cases e : ixN xs.length i with
  | none => rw [e] at h; cases h
  | some j =>
    rw [e] at h
    obtain ⟨h1, h2, h3, h4⟩ := ixN_seq e
    exact ⟨j, h1, h, h2, h3, h4⟩
theorem atI_nat {α : Type} {xs : List α} {j : Nat} {v : α} (h : xs[j]? = some v) : atI xs (j : Int) = some v := by
  have hj : j < xs.length := (List.getElem?_eq_some_iff.mp h).1
  have e : ixN xs.length (j : Int) = some j := by
    unfold ixN
    rw [if_pos (by omega), if_pos (by omega)]; simp
  unfold atI; rw [e]; exact h
noncomputable def PlainIx (b : Expr) : Prop := ∀ o i, subscripted b false o i = operate [o, i] (getItem o i)
noncomputable def IxR (X : Cx) (r : R2) : Prop :=
  ∀ (value slice : Expr) (pins : List (Addr × Obj)) (s : Shared) (σ : St) (H : Hp) (x y : V) (v u : Value) (Q : VK), Inv X pins σ H s → RelV x v → RelV y u → r x y H Q →
    subscripted slice false v u = operate [v, u] (getItem v u) → wpAny (model X.prog X.w) X.A (subscriptTail value slice v u) (EP X pins σ Q) X.xe s
noncomputable def MtR (X : Cx) (id : String) (r : V → List V → Hp → VK → Prop) : Prop :=
  ∀ (pins : List (Addr × Obj)) (s : Shared) (σ : St) (H : Hp) (x : V) (xs : List V) (v : Value) (us : List Value) (Q : VK), Inv X pins σ H s → RelV x v → Vals xs us → r x xs H Q →
    wpAny (model X.prog X.w) X.A (call (.builtin id) (v :: us)) (EP X pins σ Q) X.xe s
section
variable {X : Cx} {a b : Expr} {ta tb : TE} {pos : Pos}
theorem IxR.or {r r' : R2} (h : IxR X r) (h' : IxR X r') : IxR X (fun x y H Q => r x y H Q ∨ r' x y H Q) := by
  intro value slice pins s σ H x y v u Q I rx ry q hs
  rcases q with q | q
  · exact h value slice pins s σ H x y v u Q I rx ry q hs
  · exact h' value slice pins s σ H x y v u Q I rx ry q hs
theorem pe_ix {r : R2} (hr : IxR X r) (ha : PE X a ta) (hb : PE X b tb) (hs : PlainIx b) : PE X (.Subscript a b pos) (tOp r ta tb) := by
  intro pins s σ H Q I h
  exact Subscript_ (binT ha hb I h fun v u s2 x y H2 I2 rx ry q => hr a b pins s2 σ H2 x y v u Q I2 rx ry q (hs _ _))
noncomputable def rIxL (K : PySem.W.Frag) : R2 := fun x y H Q => ∃ p xs i v, x = .ref p ∧ y = .int i ∧ SqL K H p xs ∧ atI xs i = some v ∧ Q v H
noncomputable def rIxT (K : PySem.W.Frag) : R2 := fun x y H Q => ∃ p xs i v, x = .ref p ∧ y = .int i ∧ SqT K H p xs ∧ atI xs i = some v ∧ Q v H
noncomputable def rIxS : R2 := fun x y H Q => ∃ z i c, x = .str z ∧ y = .int i ∧ z.length ≤ sizeLine ∧ atI z.cps.toList i = some c ∧ Q (.str ⟨#[c]⟩) H
theorem ix_list : IxR X (rIxL X.K) := by
  intro value slice pins s σ H x y v u Q I rx ry h hs
  obtain ⟨p, xs, i, z, rfl, rfl, hq, he, q⟩ := h
  cases rx
  obtain ⟨t, rfl⟩ := ry
  obtain ⟨its, r, pl, hz⟩ := I.list hq
  obtain ⟨j, h1, h2, h3, h4, h5⟩ := atI_get he
  obtain ⟨w, ew, rw'⟩ := r.get h2
  have hl := r.length
  have hn := line63
  have fin : EP X pins σ Q w s := ⟨z, H, I, rw', q⟩
  by_cases h0 : 0 ≤ i
  · have hj : i.toNat = j := by
      rw [seqIndex_of h0 h5] at h1
      exact Option.some.inj h1
    exact item_listR pl.isList h0 (by omega) (by rw [hj]; simpa using ew) fin hs
  · have hj : (i + (its.toArray.size : Int)).toNat = j := by
      rw [seqIndex_neg (by omega) h4] at h1
      rw [List.size_toArray, ← hl]
      exact Option.some.inj h1
    exact subscriptTail_builtinR (x := w) pl.isList.typeIs slot_list_getitem.lookup
      (wpAny_getItem_list_neg (Q := fun r s' => r = w ∧ EP X pins σ Q r s') pl.isList (by omega) (by rw [List.size_toArray] <;> omega) (by omega) (by rw [hj]; simpa using ew) ⟨rfl, fin⟩) hs
theorem ix_tup : IxR X (rIxT X.K) := by
  intro value slice pins s σ H x y v u Q I rx ry h hs
  obtain ⟨p, xs, i, z, rfl, rfl, hq, he, q⟩ := h
  cases rx
  obtain ⟨t, rfl⟩ := ry
  obtain ⟨its, r, pl, hz⟩ := I.tuple hq
  obtain ⟨j, h1, h2, h3, h4, h5⟩ := atI_get he
  obtain ⟨w, ew, rw'⟩ := r.get h2
  have hl := r.length
  have hn := line63
  have fin : EP X pins σ Q w s := ⟨z, H, I, rw', q⟩
  exact subscriptTail_builtinR (x := w) pl.typeIs slot_tuple_getitem.lookup
    (getItem_tuple (j := j) (Q := fun r s' => r = w ∧ EP X pins σ Q r s') pl (by omega) (by omega) (by rw [List.size_toArray, ← hl]; exact h1) (by simpa using ew) ⟨rfl, fin⟩) hs
theorem ix_str : IxR X rIxS := by
  intro value slice pins s σ H x y v u Q I rx ry h hs
  obtain ⟨z, i, c, rfl, rfl, hz, he, q⟩ := h
  obtain ⟨t, rfl⟩ := rx
  obtain ⟨t', rfl⟩ := ry
  obtain ⟨j, h1, h2, h3, h4, h5⟩ := atI_get he
  have hl : z.cps.toList.length = z.length := by simp [Str.length]
  rw [hl] at h1 h4 h5
  have hn := line63
  exact tail_any (typeIs_str s z t) slot_str_getitem.lookup (getItem_str (c := c) (by
    have e1 : decide (i < -(2 ^ 63 : Int)) = false := decide_eq_false (by omega)
    have e2 : decide (i ≥ 2 ^ 63) = false := decide_eq_false (by omega)
    rw [e1, e2, Bool.or_false]) (by rw [h1]; simpa using h2) ⟨.str ⟨#[c]⟩, H, I.tok _, ⟨_, rfl⟩, q⟩) hs
noncomputable def rIx (K : PySem.W.Frag) : R2 := fun x y H Q => rIxL K x y H Q ∨ rIxT K x y H Q ∨ rIxS x y H Q
theorem ix_seq : IxR X (rIx X.K) := ix_list.or (ix_tup.or ix_str)
theorem slice_bounds (lo hi : Option Int) (n : Nat) : (sliceBounds lo hi none n).1 = ((HT.sIx n 0 lo : Nat) : Int) ∧ (sliceBounds lo hi none n).2.1 = ((HT.sIx n n hi : Nat) : Int) ∧ (sliceBounds lo hi none n).2.2 = 1 := by
  refine ⟨?_, ?_, rfl⟩
  · cases lo with
    | none => simp [sliceBounds, HT.sIx]
    | some i =>
      simp only [sliceBounds, HT.sIx, Option.getD_none, show (1 : Int) > 0 by decide, if_true]
      by_cases h : i < 0
      · simp only [h, if_true] <;> omega
      · simp only [h, if_false] <;> omega
  · cases hi with
    | none => simp [sliceBounds, HT.sIx]
    | some i =>
      simp only [sliceBounds, HT.sIx, Option.getD_none, show (1 : Int) > 0 by decide, if_true]
      by_cases h : i < 0
      · simp only [h, if_true] <;> omega
      · simp only [h, if_false] <;> omega
theorem slicePick_cut (its : List Value) (lo hi : Option Int) : slicePick its.toArray lo hi none = ((its.drop (HT.sIx its.length 0 lo)).take (HT.sIx its.length its.length hi - HT.sIx its.length 0 lo)).toArray := by
  obtain ⟨h1, h2, h3⟩ := slice_bounds lo hi its.toArray.size
  unfold slicePick
  rw [h1, h2, h3]
  simp only [sliceRange_one, pick_run, List.size_toArray] <;> rfl
noncomputable def rSlL (K : PySem.W.Frag) : V → Option Int → Option Int → Hp → VK → Prop := fun x lo hi H Q => ∃ a xs, x = .ref a ∧ SqL K H a xs ∧ ∀ p, H p = none → Q (.ref p) (upd H p (.lst (cutV xs lo hi)))
theorem sl_list : SlR X (rSlL X.K) := by
  intro pins s σ H x v vl vu lo hi sl Q I rx hs pl pu h
  obtain ⟨a, xs, rfl, hx, q⟩ := h
  cases rx
  obtain ⟨its, r, ht, hz⟩ := I.list hx
  have hlen := r.length
  refine ⟨"list", _, slot_list_getitem.lookup, ht.isList.typeIs, ?_⟩
  refine wpAny_getItem_list_slice ht.isList hs pl pu .none (by simp) ?_ (by rw [List.size_toArray] <;> omega)
  rw [slicePick_cut, ← hlen]
  refine ⟨.ref s.heap.objs.size, _, I.laid (t' := s.toks) (o := .lst (cutV xs lo hi)) (fun b ob q => Heap.get?_push_of_some _ q) (Nat.le_refl _) ?_, rfl, q _ (I.hok.fresh (Nat.le_refl _))⟩
  exact ⟨Nat.le_trans (cutV_length xs lo hi) hz, _, 0, (r.drop (HT.sIx xs.length 0 lo)).take (HT.sIx xs.length xs.length hi - HT.sIx xs.length 0 lo), Heap.get?_push_size _ rfl⟩
noncomputable def flatV : V → Bool
  | .non => true
  | .bl _ => true
  | .int _ => true
  | .str _ => true
  | _ => false
noncomputable def eqV : V → V → Bool
  | .non, .non => true
  | .bl a, .bl b => a == b
  | .bl a, .int b => (if a then 1 else 0) == b
  | .int a, .bl b => a == (if b then 1 else 0)
  | .int a, .int b => a == b
  | .str a, .str b => a == b
  | _, _ => false
theorem eqAt_V {A : Around} {s : Shared} {y x : V} {u v : Value} (ry : RelV y u) (rx : RelV x v) (fy : flatV y = true) (fx : flatV x = true) : SeqAt.EqAt A s u v (eqV y x) := by
  cases y with
  | non =>
    cases ry
    cases x with
    | non => cases rx; exact SeqAt.EqAt.same _
    | bl b => cases rx; exact SeqAt.EqAt.none_bool b
    | int b => obtain ⟨t, rfl⟩ := rx; exact SeqAt.EqAt.none_int b t
    | str b => obtain ⟨t, rfl⟩ := rx; exact SeqAt.EqAt.none_str b t
    | _ => exact absurd (show false = true from fx) Bool.false_ne_true
  | bl a =>
    cases ry
    cases x with
    | non => cases rx; exact SeqAt.EqAt.bool_none a
    | bl b => cases rx; exact SeqAt.EqAt.bool_bool a b
    | int b => obtain ⟨t, rfl⟩ := rx; exact SeqAt.EqAt.bool_int a b t
    | str b => obtain ⟨t, rfl⟩ := rx; exact SeqAt.EqAt.bool_str a b t
    | _ => exact absurd (show false = true from fx) Bool.false_ne_true
  | int a =>
    obtain ⟨t', rfl⟩ := ry
    cases x with
    | non => cases rx; exact SeqAt.EqAt.int_none a t'
    | bl b => cases rx; exact SeqAt.EqAt.int_bool a t' b
    | int b => obtain ⟨t, rfl⟩ := rx; exact SeqAt.EqAt.int_int a t' b t
    | str b => obtain ⟨t, rfl⟩ := rx; exact SeqAt.EqAt.int_str a t' b t
    | _ => exact absurd (show false = true from fx) Bool.false_ne_true
  | str a =>
    obtain ⟨t', rfl⟩ := ry
    cases x with
    | non => cases rx; exact SeqAt.EqAt.str_none a t'
    | bl b => cases rx; exact SeqAt.EqAt.str_bool a t' b
    | int b => obtain ⟨t, rfl⟩ := rx; exact SeqAt.EqAt.str_int a t' b t
    | str b => obtain ⟨t, rfl⟩ := rx; exact SeqAt.EqAt.str_str a t' b t
    | _ => exact absurd (show false = true from fx) Bool.false_ne_true
  | _ => exact absurd (show false = true from fy) Bool.false_ne_true
noncomputable def eqU (x : V) (u : Value) : Bool := match u with
  | .none => eqV .non x
  | .bool b => eqV (.bl b) x
  | .int i _ => eqV (.int i) x
  | .str z _ => eqV (.str z) x
  | _ => false
theorem eqU_of {x y : V} {u : Value} (r : RelV y u) (f : flatV y = true) : eqU x u = eqV y x := by
  cases y with
  | non => cases r; rfl
  | bl b => cases r; rfl
  | int i => obtain ⟨t, rfl⟩ := r; rfl
  | str z => obtain ⟨t, rfl⟩ := r; rfl
  | _ => exact absurd (show false = true from f) Bool.false_ne_true
theorem any_eqU {x : V} : ∀ {xs : List V} {us : List Value}, Vals xs us → xs.all flatV = true → us.any (eqU x) = xs.any fun y => eqV y x
  | _, _, .nil, _ => rfl
  | y :: xs, u :: us, .cons r t, f => by
    rw [List.all_cons, Bool.and_eq_true] at f
    rw [List.any_cons, List.any_cons, eqU_of r f.1, any_eqU t f.2]
theorem mem_eqAt {A : Around} {s : Shared} {x : V} {v : Value} (rx : RelV x v) (fx : flatV x = true) : ∀ {xs : List V} {us : List Value}, Vals xs us → xs.all flatV = true → ∀ u ∈ us, SeqAt.EqAt A s u v (eqU x u)
  | _, _, .nil, _ => fun u hu => by cases hu
  | y :: xs, u :: us, .cons r t, f => fun u' hu => by
    rw [List.all_cons, Bool.and_eq_true] at f
    rcases List.mem_cons.mp hu with rfl | hu
    · rw [eqU_of r f.1]; exact eqAt_V r rx f.1 fx
    · exact mem_eqAt rx fx t f.2 u' hu
noncomputable def inV (x : V) (xs : List V) : Bool := xs.any fun y => eqV y x
noncomputable def rIn (K : PySem.W.Frag) (neg : Bool) : R2 := fun x y H Q => ∃ p xs, y = .ref p ∧ (SqL K H p xs ∨ SqT K H p xs) ∧ flatV x = true ∧ xs.all flatV = true ∧ Q (.bl (if neg then !inV x xs else inV x xs)) H
theorem op_in_seq : OpR X (compareOp .In) (rIn X.K false) := by
  intro pins s σ H x y v u Q I rx ry h
  obtain ⟨p, xs, rfl, hq, fx, fs, q⟩ := h
  cases ry
  rcases hq with hq | hq
  · obtain ⟨its, r, pl, hz⟩ := I.list hq
    refine SeqAt.in_listAt (eqU x) pl.isList (fun w hw => mem_eqAt rx fx r fs w (by simpa using hw)) ⟨.bl _, H, I, rfl, ?_⟩
    rw [show its.toArray.any (eqU x) = its.any (eqU x) by simp, any_eqU r fs]
    exact q
  · obtain ⟨its, r, pl, hz⟩ := I.tuple hq
    refine SeqAt.in_tupleAt (eqU x) pl (fun w hw => mem_eqAt rx fx r fs w (by simpa using hw)) ⟨.bl _, H, I, rfl, ?_⟩
    rw [show its.toArray.any (eqU x) = its.any (eqU x) by simp, any_eqU r fs]
    exact q
theorem op_notIn_seq : OpR X (compareOp .NotIn) (rIn X.K true) := by
  intro pins s σ H x y v u Q I rx ry h
  obtain ⟨p, xs, rfl, hq, fx, fs, q⟩ := h
  cases ry
  rcases hq with hq | hq
  · obtain ⟨its, r, pl, hz⟩ := I.list hq
    refine SeqAt.notIn_listAt (eqU x) pl.isList (fun w hw => mem_eqAt rx fx r fs w (by simpa using hw)) ⟨.bl _, H, I, rfl, ?_⟩
    rw [show its.toArray.any (eqU x) = its.any (eqU x) by simp, any_eqU r fs]
    exact q
  · obtain ⟨its, r, pl, hz⟩ := I.tuple hq
    refine SeqAt.notIn_tupleAt (eqU x) pl (fun w hw => mem_eqAt rx fx r fs w (by simpa using hw)) ⟨.bl _, H, I, rfl, ?_⟩
    rw [show its.toArray.any (eqU x) = its.any (eqU x) by simp, any_eqU r fs]
    exact q
theorem op_notIn_str : OpR X (compareOp .NotIn) (fun x y H Q => ∃ i j, x = .str i ∧ y = .str j ∧ Q (.bl (!(!(Builtin.Str.occurrences j i 0 j.length 1).isEmpty))) H) := by
  intro pins s σ H x y v u Q I rx ry h
  obtain ⟨i, j, rfl, rfl, q⟩ := h
  obtain ⟨t, rfl⟩ := rx
  obtain ⟨t', rfl⟩ := ry
  exact notIn_str ⟨.bl _, H, I, rfl, q⟩
theorem CallR.or {f : Value} {r r' : List V → Hp → VK → Prop} (h : CallR X f r) (h' : CallR X f r') : CallR X f (fun xs H Q => r xs H Q ∨ r' xs H Q) := by
  intro pins s σ H xs us Q I rs q
  rcases q with q | q
  · exact h pins s σ H xs us Q I rs q
  · exact h' pins s σ H xs us Q I rs q
theorem call_list_of : CallR X (.type "list") (fun xs H Q => ∃ p ys, xs = [.ref p] ∧ (SqL X.K H p ys ∨ SqT X.K H p ys) ∧ ∀ l, H l = none → Q (.ref l) (upd H l (.lst ys))) := by
  intro pins s σ H xs us Q I r h
  obtain ⟨p, ys, rfl, hq, q⟩ := h
  obtain ⟨u, rfl, rx⟩ := vals1 r
  cases rx
  have fin : ∀ (its : List Value), Vals ys its → ys.length ≤ sizeLine → ∀ (h' : Heap) (c' : Nat), (∀ b o', s.heap.get? b = some o' → h'.get? b = some o') →
      h'.get? s.heap.objs.size = some { cls := .type "list", dict := none, data := .seq its.toArray c', slots := #[] } → EP X pins σ Q (.ref s.heap.objs.size) { s with heap := h' } := fun its r' hz h' c' kp e =>
    ⟨.ref s.heap.objs.size, _, I.laid (t' := s.toks) kp (Nat.le_refl _) (show ObjOk X.prog X.w _ h' _ (.lst ys) from ⟨hz, its, c', r', e⟩), rfl, q _ (I.hok.fresh (Nat.le_refl _))⟩
  rcases hq with hq | hq
  · obtain ⟨its, r', pl, hz⟩ := I.list hq
    have hlen := r'.length
    obtain ⟨o, ho, hc, n, hd⟩ := pl.isList
    exact call_list_seq p (.inl rfl) ho hc hd (fun h' c' kp e => fin its r' hz h' c' kp e) (by simp only [List.size_toArray] <;> omega)
  · obtain ⟨its, r', pl, hz⟩ := I.tuple hq
    have hlen := r'.length
    obtain ⟨o, ho, hc, n, hd⟩ := pl
    exact call_list_seq p (.inr rfl) ho hc hd (fun h' c' kp e => fin its r' hz h' c' kp e) (by simp only [List.size_toArray] <;> omega)
theorem call_tuple_of : CallR X (.type "tuple") (fun xs H Q => ∃ p ys, xs = [.ref p] ∧ ((SqL X.K H p ys ∧ ∀ l, H l = none → Q (.ref l) (upd H l (.tup ys))) ∨ (SqT X.K H p ys ∧ Q (.ref p) H))) := by
  intro pins s σ H xs us Q I r h
  obtain ⟨p, ys, rfl, h⟩ := h
  obtain ⟨u, rfl, rx⟩ := vals1 r
  cases rx
  rcases h with ⟨hq, q⟩ | ⟨hq, q⟩
  · obtain ⟨its, r', pl, hz⟩ := I.list hq
    have hlen := r'.length
    refine call_tuple_list pl.isList (fun h' kp => ?_) (by simp only [List.size_toArray] <;> omega)
    have I1 : Inv X pins σ H { s with heap := h' } := I.kept (t' := s.toks) kp
    have I2 : Inv X pins σ (upd H h'.objs.size (.tup ys)) { s with heap := h'.push { cls := .type "tuple", data := .seq its.toArray } } :=
      I1.laid (t' := s.toks) (fun b o e => Heap.get?_push_of_some _ e) (Nat.le_refl _) (show ObjOk X.prog X.w _ _ _ (.tup ys) from ⟨hz, its, r', IsTupN.new _ _⟩)
    exact ⟨.ref h'.objs.size, _, I2, rfl, q _ (I1.hok.fresh (Nat.le_refl _))⟩
  · obtain ⟨its, r', pl, hz⟩ := I.tuple hq
    exact call_tuple_same pl ⟨.ref p, H, I, rfl, q⟩
noncomputable def tyV (K : PySem.W.Frag) (T : String) (x : V) (H : Hp) : Prop := match x with
  | .str _ => T = "str"
  | .int _ => T = "int"
  | .ref p => (T = "list" ∧ ∃ xs, SqL K H p xs) ∨ (T = "tuple" ∧ ∃ o, K.lookup p = some o ∧ o.cls = .type "tuple" ∧ o.dict = none) ∨
      (T = "dict" ∧ ((∃ kvs, H p = some (.dK kvs)) ∨ ∃ kvs, H p = some (.dT kvs))) ∨ (T = "set" ∧ ∃ S n, H p = some (.set S n))
  | _ => False
theorem tyV_is {pins : List (Addr × Obj)} {σ : St} {H : Hp} {s : Shared} {T : String} {x : V} {v : Value} (I : Inv X pins σ H s) (r : RelV x v) (ty : tyV X.K T x H) :
    s.TypeIs v T ∧ ∀ a, v = .ref a → ∃ ob, s.heap.get? a = some ob ∧ ob.dict = none := by
  cases x with
  | str z =>
    obtain ⟨t, rfl⟩ := r
    cases (show T = "str" from ty)
    exact ⟨typeIs_str s z t, fun _ e => nomatch e⟩
  | int i =>
    obtain ⟨t, rfl⟩ := r
    cases (show T = "int" from ty)
    exact ⟨typeIs_int s i t, fun _ e => nomatch e⟩
  | ref p =>
    cases r
    rcases ty with ⟨rfl, xs, hq⟩ | ⟨rfl, o, hk, hc, hd⟩ | ⟨rfl, hk⟩ | ⟨rfl, S, n, hk⟩
    · obtain ⟨its, _, pl, _⟩ := I.list hq
      refine ⟨pl.isList.typeIs, fun a e => ?_⟩
      cases e
      obtain ⟨o, n, e, c, hd, _⟩ := pl
      exact ⟨o, e, hd⟩
    · refine ⟨⟨o, I.kIn p o hk, hc⟩, fun a e => ?_⟩
      cases e
      exact ⟨o, I.kIn _ o hk, hd⟩
    · have z : ∃ o, s.heap.get? p = some o ∧ o.ExactDict := by
        rcases hk with ⟨kvs, hk⟩ | ⟨kvs, hk⟩
        · obtain ⟨_, _, _, _, o, _, _, e, ex, _⟩ := I.hok p _ hk
          exact ⟨o, e, ex⟩
        · obtain ⟨_, _, _, _, o, _, _, e, ex, _⟩ := I.hok p _ hk
          exact ⟨o, e, ex⟩
      obtain ⟨o, e, ex⟩ := z
      refine ⟨⟨o, e, ex.1⟩, fun a e2 => ?_⟩
      cases e2
      exact ⟨o, e, ex.2.1⟩
    · obtain ⟨o, _, _, _, e, ex, _⟩ := I.hok p _ hk
      refine ⟨⟨o, e, ex.1⟩, fun a e2 => ?_⟩
      cases e2
      exact ⟨o, e, ex.2.1⟩
  | _ => exact False.elim ty
noncomputable def tBM0 (K : PySem.W.Frag) (T : String) (r : V → List V → Hp → VK → Prop) (to : TE) : TE := fun σ H Q => to σ H fun x H1 => tyV K T x H1 ∧ r x [] H1 Q
noncomputable def tBM (K : PySem.W.Frag) (T : String) (r : V → List V → Hp → VK → Prop) (to : TE) (t : TA) : TE := fun σ H Q => to σ H fun x H1 => tyV K T x H1 ∧ t σ H1 fun xs H2 => r x xs H2 Q
variable {o e : Expr} {es : List Expr} {to : TE} {t : TA} {name : Str} {apos cpos : Pos} {T id : String} {r : V → List V → Hp → VK → Prop}
theorem pe_bm (pa : PlainAttrs T) (slot : Slot T name id) (hty : typeOf (.builtin id) = pure (.type "method_descriptor")) (hm : MtR X id r) (ho : PE X o to) (ha : PA X (e :: es) t)
    (hbase : attributeBase o name X.env (eval o X.env) = eval o X.env := by with_unfolding_all rfl)
    (hfew : ((backTo cpos (starEach (e :: es) X.env)).all (fun x => !x.1) && (backToKw cpos (keywordEach [] X.env)).all (fun x => x.1.isSome)
      && decide ((e :: es).length + ([] : List Keyword).length + (if ([] : List Keyword).isEmpty then 0 else 1) < 30)) = true := by with_unfolding_all rfl)
    (hline : (apos.endLine == cpos.line) = true := by with_unfolding_all rfl) (hs : starEach (e :: es) X.env = (false, eval e X.env) :: starEach es X.env := by with_unfolding_all rfl) (hplain : (backTo cpos (starEach es X.env)).any (·.1) = false := by with_unfolding_all rfl) :
    PE X (.Call (.Attribute o name apos) (e :: es) [] cpos) (tBM X.K T r to t) := by
  intro pins s σ H Q I h
  refine wpAny_Call_method_late hbase hfew hline rfl (thn (ho pins s σ H _ I h) fun v s1 ⟨x, H1, I1, r1, ty, q1⟩ => ?_)
  obtain ⟨h1, h2⟩ := tyV_is I1 r1 ty
  refine ⟨T, id, pa, slot, hty, h1, h2, ?_⟩
  have hA := ha cpos pins s1 σ H1 _ I1 q1
  rw [hs] at hA ⊢
  refine Calls.callWith_builtin (by show (false || (backTo cpos (starEach es X.env)).any (·.1)) = false; rw [hplain] <;> rfl) (Calls.evalArgs_plain ?_)
  exact thn hA fun us s2 ⟨vs, H2, I2, r2, q2⟩ => hm pins s2 σ H2 x vs v us Q I2 r1 r2 q2
/- xs.append(e), list.index on a module's tuple .. are MtR facts of 06m -/
end
end L2
namespace L2
open PySem PySem.Spec PyProof.Rows
noncomputable def MtM (X : Cx) (id : String) (r : V → List V → Hp → VK → Prop) : Prop :=
  ∀ (pins : List (Addr × Obj)) (s : Shared) (σ : St) (H : Hp) (x : V) (xs : List V) (v : Value) (us : List Value) (Q : VK), Inv X pins σ H s → RelV x v → Vals xs us → r x xs H Q →
    wpAny (model X.prog X.w) X.A (call (.builtin id) (v :: us)) (EP X pins σ Q) X.xe s
theorem Vals.one {x : V} {us : List Value} (h : Vals [x] us) : ∃ u, us = [u] ∧ RelV x u := by
  cases h with
  | cons r q => cases q; exact ⟨_, rfl, r⟩
theorem Vals.two {x y : V} {us : List Value} (h : Vals [x, y] us) : ∃ u v, us = [u, v] ∧ RelV x u ∧ RelV y v := by
  cases h with
  | cons r q => obtain ⟨u, rfl, q'⟩ := Vals.one q; exact ⟨_, _, rfl, r, q'⟩
theorem Vals.eraseIdx : ∀ {xs : List V} {us : List Value} (i : Nat), Vals xs us → Vals (xs.eraseIdx i) (us.eraseIdx i)
  | _, _, _, .nil => .nil
  | _, _, 0, .cons _ t => t
  | _, _, i + 1, .cons r t => .cons r (Vals.eraseIdx i t)
theorem Vals.rep {xs : List V} {us : List Value} (h : Vals xs us) : ∀ k : Nat, Vals (List.replicate k xs).flatten (List.replicate k us).flatten
  | 0 => .nil
  | k + 1 => by
    rw [List.replicate_succ, List.replicate_succ, List.flatten_cons, List.flatten_cons]
    exact Vals.append h (Vals.rep h k)
theorem len_erase {α : Type} : ∀ (l : List α) (i : Nat), (l.eraseIdx i).length ≤ l.length
  | [], _ => Nat.le_refl _
  | _ :: _, 0 => Nat.le_succ _
  | _ :: r, i + 1 => Nat.succ_le_succ (len_erase r i)
theorem foldl_rep (its : List Value) : ∀ (k : Nat) (acc : List Value),
    List.foldl (fun x1 x2 => x1 ++ x2) acc.toArray (List.replicate k its.toArray) = (acc ++ (List.replicate k its).flatten).toArray
  | 0, acc => by simp
  | k + 1, acc => by
    have e : acc.toArray ++ its.toArray = (acc ++ its).toArray := by simp
    have e2 : (acc ++ its) ++ (List.replicate k its).flatten = acc ++ (List.replicate (k + 1) its).flatten := by
      rw [List.replicate_succ, List.flatten_cons, List.append_assoc]
    rw [← e2, ← foldl_rep its k (acc ++ its), ← e, List.replicate_succ, List.foldl_cons]
section
variable {X : Cx} {pins : List (Addr × Obj)} {σ : St} {H : Hp} {s : Shared} {l b : Addr} {xs ys zs : List V}
theorem Inv.lset {its its' : List Value} {n : Nat} {f : Array Value → Array Value} {t' : Nat} (I : Inv X pins σ H s) (hH : H l = some (.lst xs))
    (e : s.heap.get? l = some { cls := .type "list", data := .seq its.toArray n }) (hf : f its.toArray = its'.toArray) (hv : Vals ys its') (hz : ys.length ≤ sizeLine) :
    Inv X pins σ (upd H l (.lst ys)) { s with heap := s.heap.update l (Obj.mapSeq f), toks := t' } := by
  have q := PySem.IsL.update e f
  rw [hf] at q
  refine I.write (x := l) (e := l) (by rw [hH]; exact trivial) (.inl rfl) (fun b' u hb hu => (Heap.get?_update_other s.heap (Obj.mapSeq f) (Ne.symm hb)).trans hu) ⟨_, q⟩ ?_
  exact ⟨hz, its', _, hv, q⟩
theorem Inv.lnew {its : List Value} {t' : Nat} (I : Inv X pins σ H s) (hv : Vals ys its) (hz : ys.length ≤ sizeLine) :
    Inv X pins σ (upd H s.heap.objs.size (.lst ys)) { s with heap := s.heap.push { cls := .type "list", data := .seq its.toArray }, toks := t' } :=
  I.laid (fun _ _ q => Heap.get?_push_of_some _ q) (Nat.le_refl _) ⟨hz, its, 0, hv, Heap.get?_push_size _ rfl⟩
theorem Inv.fresh (I : Inv X pins σ H s) : H s.heap.objs.size = none := I.hok.fresh (Nat.le_refl _)
theorem Inv.lstM (I : Inv X pins σ H s) (hH : H l = some (.lst xs)) : xs.length ≤ sizeLine ∧ ∃ (its : List Value) (n : Nat), Vals xs its ∧ xs.length = its.length ∧ s.heap.get? l = some { cls := .type "list", data := .seq its.toArray n } := by
  obtain ⟨z, its, n, r, e⟩ := I.hok l _ hH
  exact ⟨z, its, n, r, r.length, e⟩
theorem notLongL {n : Nat} (h : n ≤ sizeLine) : Builtin.List.listTooLong n = false := by
  unfold Builtin.List.listTooLong
  exact decide_eq_false (by omega)
end
section
variable {X : Cx}
noncomputable def rAppend : V → List V → Hp → VK → Prop := fun x vs H Q => ∃ l xs y, x = .ref l ∧ vs = [y] ∧ H l = some (.lst xs) ∧ xs.length < sizeLine ∧ Q .non (upd H l (.lst (xs ++ [y])))
theorem mt_append : MtM X "list.append" rAppend := by
  intro pins s σ H x vs v us Q I rx rv h
  obtain ⟨l, xs, y, rfl, rfl, hH, hz, q⟩ := h
  cases rx
  obtain ⟨u, rfl, ru⟩ := rv.one
  obtain ⟨z, its, n, r, hl, e⟩ := I.lstM hH
  refine call_meets F.slot_list_append ⟨_, e, rfl⟩ F.entry_list_append (F.args_list_append_2 _ _) (PySem.list_append l its.toArray n u (by rw [List.size_toArray]; omega)) ⟨e, ?_⟩
  refine ⟨.non, _, I.lset (its' := its ++ [u]) hH e (by simp) (r.append (.cons ru .nil)) ?_, rfl, q⟩
  rw [List.length_append, List.length_singleton]
  omega
noncomputable def rExtend : V → List V → Hp → VK → Prop := fun x vs H Q => ∃ l b xs zs, x = .ref l ∧ vs = [.ref b] ∧ H l = some (.lst xs) ∧ H b = some (.lst zs) ∧ xs.length + zs.length ≤ sizeLine ∧ Q .non (upd H l (.lst (xs ++ zs)))
theorem mt_extend : MtM X "list.extend" rExtend := by
  intro pins s σ H x vs v us Q I rx rv h
  obtain ⟨l, b, xs, zs, rfl, rfl, hH, hB, hz, q⟩ := h
  cases rx
  obtain ⟨u, rfl, ru⟩ := rv.one
  cases ru
  obtain ⟨z, its, n, r, hl, e⟩ := I.lstM hH
  obtain ⟨z2, its2, n2, r2, hl2, e2⟩ := I.lstM hB
  have hsz : its.toArray.size + its2.toArray.size ≤ sizeLine := by rw [List.size_toArray, List.size_toArray]; omega
  have hlong : ¬ (!its.toArray.isEmpty && Builtin.List.listTooLong (its.toArray.size + its2.toArray.size)) = true := by
    rw [notLongL hsz, Bool.and_false]
    exact Bool.false_ne_true
  refine call_meets F.slot_list_extend ⟨_, e, rfl⟩ F.entry_list_extend (F.args_list_extend_2 _ _)
    (AutoSeq1.list_extend_list_list_0 l its.toArray n b its2.toArray n2 hlong (by rw [List.size_toArray]; omega) (by omega)) ⟨e, e2, ?_⟩
  refine ⟨.non, _, I.lset (its' := its ++ its2) hH e (by simp) (r.append r2) ?_, rfl, q⟩
  rw [List.length_append]
  omega
noncomputable def rPopAt : V → List V → Hp → VK → Prop := fun x vs H Q => ∃ l xs i k y, x = .ref l ∧ vs = [.int i] ∧ H l = some (.lst xs) ∧ -(2 ^ 63) ≤ i ∧ i < 2 ^ 63 ∧ seqIndex? i xs.length = some k ∧ xs[k]? = some y ∧ Q y (upd H l (.lst (xs.eraseIdx k)))
theorem mt_popAt : MtM X "list.pop" rPopAt := by
  intro pins s σ H x vs v us Q I rx rv h
  obtain ⟨l, xs, i, k, y, rfl, rfl, hH, h1, h2, hk, hy, q⟩ := h
  cases rx
  obtain ⟨u, rfl, ru⟩ := rv.one
  obtain ⟨t, rfl⟩ := ru
  obtain ⟨z, its, n, r, hl, e⟩ := I.lstM hH
  obtain ⟨w, hw, rw'⟩ := r.get hy
  refine call_meets F.slot_list_pop ⟨_, e, rfl⟩ F.entry_list_pop (F.args_list_pop_2 _ _)
    (MeetsSeq.list_pop_at l its.toArray n i t k w (fitsIndex_both h1 h2) (by rw [List.size_toArray, ← hl]; exact hk) (by rw [← Array.getElem?_toList]; exact hw) (by rw [List.size_toArray]; omega)) ⟨e, ?_⟩
  refine ⟨y, _, I.lset (its' := its.eraseIdx k) hH e ?_ (r.eraseIdx k) ?_, rw', q⟩
  · show its.toArray.eraseIdxIfInBounds k = (its.eraseIdx k).toArray
    rw [List.eraseIdxIfInBounds_toArray]
  · have := len_erase xs k
    omega
noncomputable def rCat : R2 := fun x y H Q => ∃ l b xs zs, x = .ref l ∧ y = .ref b ∧ H l = some (.lst xs) ∧ H b = some (.lst zs) ∧ xs.length + zs.length ≤ sizeLine ∧ ∀ p, H p = none → Q (.ref p) (upd H p (.lst (xs ++ zs)))
theorem op_cat : OpR X (binaryOp .Add) rCat := by
  intro pins s σ H x y v u Q I rx ry h
  obtain ⟨l, b, xs, zs, rfl, rfl, hH, hB, hz, q⟩ := h
  cases rx
  cases ry
  obtain ⟨z, its, n, r, hl, e⟩ := I.lstM hH
  obtain ⟨z2, its2, n2, r2, hl2, e2⟩ := I.lstM hB
  refine PySem.P.add_list e e2 ?_ (by rw [List.size_toArray, List.size_toArray]; omega)
  have ea : its.toArray ++ its2.toArray = (its ++ its2).toArray := by simp
  rw [ea]
  exact ⟨.ref _, _, I.lnew (t' := s.toks) (r.append r2) (by rw [List.length_append]; omega), rfl, q _ I.fresh⟩
noncomputable def rRep : R2 := fun x y H Q => ∃ l k xs, x = .ref l ∧ y = .int k ∧ H l = some (.lst xs) ∧ -(2 ^ 63) ≤ k ∧ k < 2 ^ 63 ∧ xs.length * k.toNat ≤ sizeLine ∧
  ∀ p, H p = none → Q (.ref p) (upd H p (.lst (List.replicate k.toNat xs).flatten))
theorem len_rep {α : Type} (xs : List α) (k : Nat) : (List.replicate k xs).flatten.length = k * xs.length := by
  induction k with
  | zero => simp
  | succ k ih => rw [List.replicate_succ, List.flatten_cons, List.length_append, ih, Nat.succ_mul, Nat.add_comm]
theorem op_rep : OpR X (binaryOp .Mult) rRep := by
  intro pins s σ H x y v u Q I rx ry h
  obtain ⟨l, k, xs, rfl, rfl, hH, h1, h2, hz, q⟩ := h
  cases rx
  obtain ⟨t, rfl⟩ := ry
  obtain ⟨z, its, n, r, hl, e⟩ := I.lstM hH
  have hlen : its.toArray.size * k.toNat ≤ sizeLine := by rw [List.size_toArray, ← hl]; exact hz
  have hcap : ¬ its.toArray.size * k.toNat > (2 ^ 63 - 1) / 8 := by
    have : (sizeLine : Nat) ≤ (2 ^ 63 - 1) / 8 := by decide
    omega
  have hfit : ¬ (!Builtin.List.listFitsIndex k) = true := by
    rw [fitsIndex_both h1 h2]
    exact Bool.false_ne_true
  have hlong : ¬ Builtin.List.listTooLong (its.toArray.size * k.toNat) = true := by
    rw [notLongL hlen]
    exact Bool.false_ne_true
  have hnew : List.foldl (fun x1 x2 => x1 ++ x2) #[] (List.replicate (if its.toArray.isEmpty = true then 0 else k.toNat) its.toArray) = (List.replicate k.toNat its).flatten.toArray := by
    have f0 : ∀ m : Nat, List.foldl (fun x1 x2 => x1 ++ x2) #[] (List.replicate m its.toArray) = (List.replicate m its).flatten.toArray := fun m => by
      have := foldl_rep its m []
      rw [List.nil_append] at this
      exact this
    rw [f0]
    cases its with
    | nil => simp
    | cons a r' => rw [if_neg (by simp)]
  refine wpAny_binaryOp_repeat_ref (T := "list") (U := "int") (by decide) ⟨_, e, rfl⟩ (fun s' => typeIs_int s' k t) noFill_list_mul F.fills_int_mul F.slot_int_rmul repeat_list F.slot_int_index.lookup
    (call_meets F.slot_int_rmul (typeIs_int s k t) F.entry_int_rmul (F.args_int_rmul_2 _ _) (int___rmul___int_list k t l its.toArray n)
      ⟨e, rfl, ⟨_, e, rfl⟩, call_meets F.slot_list_mul ⟨_, e, rfl⟩ F.entry_list_mul (F.args_list_mul_2 _ _) (AutoListH.list___mul___list_int_3 l its.toArray n k t hfit hcap hlong) ⟨e, ?_⟩⟩)
  rw [hnew]
  exact ⟨.ref _, _, I.lnew (t' := s.toks) (r.rep k.toNat) (by rw [len_rep, Nat.mul_comm]; exact hz), rfl, q _ I.fresh⟩
end
section
variable {prog : Program} {w : World} {A : Around} {E : Value → Shared → Prop} {s : Shared}
set_option maxRecDepth 100000 in
end
section
variable {X : Cx}
end
end L2
namespace L2
open PySem PySem.Spec PyProof.Rows
section
variable {κ : Type} [DecidableEq κ]
noncomputable def valV (kvs : List (κ × V)) (k : κ) : Option V := (kvs.find? fun kv => decide (kv.1 = k)).map (·.2)
noncomputable def putK (kvs : List (κ × V)) (k : κ) (v : V) : List (κ × V) :=
  if (kvs.any fun kv => decide (kv.1 = k)) = true then kvs.map (fun kv => if kv.1 = k then (kv.1, v) else kv) else kvs ++ [(k, v)]
noncomputable def dropK (kvs : List (κ × V)) (k : κ) : List (κ × V) := kvs.filter fun kv => decide (kv.1 ≠ k)
theorem valV_nil {k : κ} : valV ([] : List (κ × V)) k = none := rfl
theorem valV_pos {p : κ × V} {r : List (κ × V)} {k : κ} (e : p.1 = k) : valV (p :: r) k = some p.2 := by simp [valV, List.find?_cons, e]
theorem valV_neg {p : κ × V} {r : List (κ × V)} {k : κ} (e : ¬ p.1 = k) : valV (p :: r) k = valV r k := by simp [valV, List.find?_cons, e]
theorem valV_any (k : κ) : ∀ kvs : List (κ × V), (kvs.any fun kv => decide (kv.1 = k)) = (valV kvs k).isSome
  | [] => rfl
  | p :: r => by
    rw [List.any_cons]
    by_cases e : p.1 = k
    · simp only [valV_pos e, decide_eq_true e, Bool.true_or, Option.isSome_some]
    · rw [valV_neg e, decide_eq_false e, Bool.false_or]; exact valV_any k r
theorem length_putK (kvs : List (κ × V)) (k : κ) (v : V) : (putK kvs k v).length ≤ kvs.length + 1 := by
  unfold putK
  split
  · rw [List.length_map]; omega
  · rw [List.length_append, List.length_cons, List.length_nil]; omega
theorem RelO.isSome_eq {o : Option V} {u : Option Value} (r : RelO o u) : o.isSome = u.isSome := by
  cases o with
  | none => cases u with
    | none => rfl
    | some _ => exact (show False from r).elim
  | some _ => cases u with
    | none => exact (show False from r).elim
    | some _ => rfl
theorem KV.val {kvs : List (κ × V)} {vs : List (κ × Value)} (r : KV kvs vs) (k : κ) : RelO (valV kvs k) (valueAt vs k) := by
  unfold KV at r
  induction r with
  | nil => exact True.intro
  | @cons p q ps qs h t ih =>
    obtain ⟨h1, h2⟩ := h
    by_cases e : p.1 = k
    · have e' : q.1 = k := h1.symm.trans e
      have b : valueAt (q :: qs) k = some q.2 := by simp [valueAt, List.find?_cons, e']
      rw [valV_pos e, b]; exact h2
    · have e' : ¬ q.1 = k := fun z => e (h1.trans z)
      have b : valueAt (q :: qs) k = valueAt qs k := by simp [valueAt, List.find?_cons, e']
      rw [valV_neg e, b]; exact ih
theorem KV.any {kvs : List (κ × V)} {vs : List (κ × Value)} (r : KV kvs vs) (k : κ) : (kvs.any fun kv => decide (kv.1 = k)) = vs.any fun kv => decide (kv.1 = k) := by
  unfold KV at r
  induction r with
  | nil => rfl
  | cons h t ih => rw [List.any_cons, List.any_cons, ih, h.1]
theorem KV.repl {kvs : List (κ × V)} {vs : List (κ × Value)} (r : KV kvs vs) (k : κ) {y : V} {u : Value} (ry : RelV y u) :
    KV (kvs.map fun kv => if kv.1 = k then (kv.1, y) else kv) (vs.map fun kv => if kv.1 = k then (kv.1, u) else kv) := by
  unfold KV at r ⊢
  induction r with
  | nil => exact .nil
  | @cons p q ps qs h t ih =>
    rw [List.map_cons, List.map_cons]
    refine .cons ?_ ih
    obtain ⟨h1, h2⟩ := h
    by_cases e : p.1 = k
    · rw [if_pos e, if_pos (h1.symm.trans e)]; exact ⟨h1, ry⟩
    · rw [if_neg e, if_neg (fun z => e (h1.trans z))]; exact ⟨h1, h2⟩
theorem KV.put {kvs : List (κ × V)} {vs : List (κ × Value)} (r : KV kvs vs) (k : κ) {y : V} {u : Value} (ry : RelV y u) : KV (putK kvs k y) (stored vs k u) := by
  unfold putK stored
  rw [r.any k]
  by_cases e : (vs.any fun kv => decide (kv.1 = k)) = true
  · rw [if_pos e, if_pos e]; exact r.repl k ry
  · rw [if_neg e, if_neg e]; exact Paired.snoc r ⟨rfl, ry⟩
theorem KV.length {kvs : List (κ × V)} {vs : List (κ × Value)} (r : KV kvs vs) : kvs.length = vs.length := Paired.length r
end
theorem kV_is {P : Program} {w : World} {k : Key} {u : Value} (r : RelV (kV k) u) : (mixKind P w).is k u = true := by
  cases k with
  | inl i => obtain ⟨t, e⟩ := (show ∃ t, u = Value.int i t from r); subst e; exact mixKind_int P w i t
  | inr x => obtain ⟨t, e⟩ := (show ∃ t, u = Value.str x t from r); subst e; exact mixKind_str P w x t
theorem items_are {P : Program} {w : World} : ∀ {ks : List Key} {us : List Value}, Vals (ks.map kV) us → ItemsAre (mixKind P w) ks us
  | [], _, r => by rw [List.map_nil] at r; cases r; exact .nil
  | k :: ks, _, r => by
    rw [List.map_cons] at r
    cases r with
    | cons h t => exact .cons (kV_is h) (items_are t)
noncomputable abbrev KT (H : Hp) : List (List Key × V) → List (List Key × Addr × Value) → Prop := Paired fun p q => p.1 = q.1 ∧ H q.2.1 = some (.tup (p.1.map kV)) ∧ RelV p.2 q.2.2
theorem KT.val {H : Hp} {kvs : List (List Key × V)} {xs : List (List Key × Addr × Value)} (r : KT H kvs xs) (k : List Key) : RelO (valV kvs k) ((atKey xs k).map (·.2)) := by
  induction r with
  | nil => exact True.intro
  | @cons p q ps qs h t ih =>
    obtain ⟨h1, _, h2⟩ := h
    by_cases e : p.1 = k
    · have e' : q.1 = k := h1.symm.trans e
      have b : atKey (q :: qs) k = some q.2 := by simp [atKey, List.find?_cons, e']
      rw [valV_pos e, b]; exact h2
    · have e' : ¬ q.1 = k := fun z => e (h1.trans z)
      have b : atKey (q :: qs) k = atKey qs k := by simp [atKey, List.find?_cons, e']
      rw [valV_neg e, b]; exact ih
theorem KT.repl {H : Hp} {kvs : List (List Key × V)} {xs : List (List Key × Addr × Value)} (r : KT H kvs xs) (k : List Key) {y : V} {u : Value} (ry : RelV y u) :
    KT H (kvs.map fun kv => if kv.1 = k then (kv.1, y) else kv) (xs.map (putAt k u)) := by
  induction r with
  | nil => exact .nil
  | @cons p q ps qs h t ih =>
    rw [List.map_cons, List.map_cons]
    refine .cons ?_ ih
    obtain ⟨h1, h2, h3⟩ := h
    unfold putAt
    by_cases e : p.1 = k
    · rw [if_pos e, if_pos (h1.symm.trans e)]; exact ⟨h1, h2, ry⟩
    · rw [if_neg e, if_neg (fun z => e (h1.trans z))]; exact ⟨h1, h2, h3⟩
theorem KT.put {H : Hp} {kvs : List (List Key × V)} {xs : List (List Key × Addr × Value)} (r : KT H kvs xs) (k : List Key) {b : Addr} {y : V} {u : Value} (hb : H b = some (.tup (k.map kV))) (ry : RelV y u) :
    KT H (putK kvs k y) (storedH xs k b u) := by
  have e : (kvs.any fun kv => decide (kv.1 = k)) = (atKey xs k).isSome := by
    rw [valV_any, (r.val k).isSome_eq, Option.isSome_map]
  unfold putK storedH
  rw [e]
  by_cases q : (atKey xs k).isSome = true
  · rw [if_pos q, if_pos q]; exact r.repl k ry
  · rw [if_neg q, if_neg q]; exact Paired.snoc r ⟨rfl, hb, ry⟩
theorem KT.keeps {H H' : Hp} {kvs : List (List Key × V)} {xs : List (List Key × Addr × Value)} (r : KT H kvs xs) (ht : ∀ b ys, H b = some (.tup ys) → H' b = some (.tup ys)) : KT H' kvs xs :=
  Paired.mapP r fun _ _ z => ⟨z.1, ht _ _ z.2.1, z.2.2⟩
section
variable {P : Program} {w : World} {H : Hp} {h : Heap} {a : Addr}
theorem rd_of {u : HO} (ok : HOk P w H h) (e : Rd H a u) : ObjOk P w H h a u := e.ok ok
theorem dk_rd {kvs : List (Key × V)} (ok : HOk P w H h) (e : Rd H a (.dK kvs)) : kvs.length ≤ sizeLine ∧ (a == sysModules) = false ∧ ∃ vs, KV kvs vs ∧ h.DictOf (mixKind P w) a vs :=
  show ObjOk P w H h a (.dK kvs) from rd_of ok e
theorem dk_of {kvs : List (Key × V)} (ok : HOk P w H h) (e : H a = some (.dK kvs)) : kvs.length ≤ sizeLine ∧ (a == sysModules) = false ∧ ∃ vs, KV kvs vs ∧ h.DictOf (mixKind P w) a vs := dk_rd ok (.inl e)
theorem key_of {ks : List Key} (ok : HOk P w H h) (e : H a = some (.tup (ks.map kV))) : (tupleKind (mixKind P w)).is h ks a := by
  obtain ⟨_, its, r, o, h1, h2, ⟨n, h3⟩, _⟩ := (show ObjOk P w H h a (.tup (ks.map kV)) from ok a _ e)
  exact ⟨o, its.toArray, n, h1, h2, h3, by simpa using items_are r⟩
theorem dt_rd {kvs : List (List Key × V)} (ok : HOk P w H h) (e : Rd H a (.dT kvs)) : kvs.length ≤ sizeLine ∧ (a == sysModules) = false ∧
    ∃ xs, KT H kvs xs ∧ h.DictOfH (tupleKind (mixKind P w)) a xs := by
  obtain ⟨z, y, xs, r, o, es, ep, h1, h2, h3, h4, h5⟩ := (show ObjOk P w H h a (.dT kvs) from rd_of ok e)
  refine ⟨z, y, xs, r, o, es, ep, h1, h2, h3, h4, fun x hx => ?_, h5⟩
  have all : ∀ {l : List (List Key × V)} {m : List (List Key × Addr × Value)}, KT H l m → ∀ x ∈ m, (tupleKind (mixKind P w)).is h x.1 x.2.1 := by
    intro l m q
    induction q with
    | nil => intro x hx; exact nomatch hx
    | @cons p q ps qs hq t ih =>
      intro x hx
      rcases List.mem_cons.mp hx with e | hx
      · subst e
        exact key_of ok (by rw [← hq.1]; exact hq.2.1)
      · exact ih x hx
  exact all r x hx
theorem dt_of {kvs : List (List Key × V)} (ok : HOk P w H h) (e : H a = some (.dT kvs)) : kvs.length ≤ sizeLine ∧ (a == sysModules) = false ∧
    ∃ xs, KT H kvs xs ∧ h.DictOfH (tupleKind (mixKind P w)) a xs := dt_rd ok (.inl e)
end
noncomputable def DGet (H : Hp) (a : Addr) (y : V) (r : Option V) : Prop :=
  (∃ kvs k, Rd H a (.dK kvs) ∧ y = kV k ∧ r = valV kvs k) ∨ ∃ kvs k b, Rd H a (.dT kvs) ∧ y = .ref b ∧ H b = some (.tup (k.map kV)) ∧ r = valV kvs k
noncomputable def DPut (H : Hp) (a : Addr) (y v : V) (H' : Hp) : Prop :=
  (∃ kvs k, H a = some (.dK kvs) ∧ y = kV k ∧ kvs.length < sizeLine ∧ H' = upd H a (.dK (putK kvs k v))) ∨
  ∃ kvs k b, H a = some (.dT kvs) ∧ y = .ref b ∧ H b = some (.tup (k.map kV)) ∧ kvs.length < sizeLine ∧ H' = upd H a (.dT (putK kvs k v))
theorem DGet.k {H : Hp} {a : Addr} {kvs : List (Key × V)} {k : Key} (e : H a = some (.dK kvs)) : DGet H a (kV k) (valV kvs k) := .inl ⟨kvs, k, .inl e, rfl, rfl⟩
theorem DPut.k {H : Hp} {a : Addr} {kvs : List (Key × V)} {k : Key} {v : V} (e : H a = some (.dK kvs)) (hl : kvs.length < sizeLine) : DPut H a (kV k) v (upd H a (.dK (putK kvs k v))) := .inl ⟨kvs, k, e, rfl, hl, rfl⟩
section
variable {X : Cx} {pins : List (Addr × Obj)} {σ : St} {H : Hp} {s : Shared} {a : Addr} {y v : V} {u r : Value} {o : Option V} {A : Around} {E : Value → Shared → Prop}
theorem Inv.big (I : Inv X pins σ H s) : sysModules < s.heap.objs.size := by
  have h : mainGlobals < s.heap.objs.size := (I.mod.glob.keeps I.bk).lt
  exact Nat.lt_trans (by decide) h
theorem d_getItem {Q : Value → Shared → Prop} (hu : A.units + 1 < cLine) (I : Inv X pins σ H s) (g : DGet H a y (some v)) (ry : RelV y u) (h : ∀ w' s', Inv X pins σ H s' → RelV v w' → Q w' s') :
    wpAny (model X.prog X.w) A (getItem (.ref a) u) Q E s := by
  rcases g with ⟨kvs, k, e, ey, l⟩ | ⟨kvs, k, b, e, ey, eb, l⟩
  · subst ey
    obtain ⟨z, hd, vs, rel, dd⟩ := dk_rd I.hok e
    obtain ⟨w', hw, rw'⟩ := RelO.some_of (v := v) (o := valueAt vs k) (by rw [l]; exact rel.val k)
    exact wpAny_getItem_of (kV_is ry) dd.mapOf hw (h w' _ (I.tok _) rw')
  · subst ey
    cases (show u = Value.ref b from ry)
    obtain ⟨z, hd, xs, rel, dd⟩ := dt_rd I.hok e
    obtain ⟨w', hw, rw'⟩ := RelO.some_of (v := v) (o := (atKey xs k).map (·.2)) (by rw [l]; exact rel.val k)
    obtain ⟨p, hp, hp2⟩ := Option.map_eq_some_iff.mp hw
    refine wpAny_getItem_heap (tupleKind_room_in1 hu) (key_of I.hok eb) dd hp ?_
    rw [hp2]
    exact h w' _ (I.tok _) rw'
theorem d_in {Q : Value → Shared → Prop} (hu : A.units + 1 < cLine) (I : Inv X pins σ H s) (g : DGet H a y o) (ry : RelV y u) (h : ∀ s', Inv X pins σ H s' → Q (.bool o.isSome) s') :
    wpAny (model X.prog X.w) A (compareOp .In u (.ref a)) Q E s := by
  rcases g with ⟨kvs, k, e, ey, l⟩ | ⟨kvs, k, b, e, ey, eb, l⟩
  · subst ey
    obtain ⟨z, hd, vs, rel, dd⟩ := dk_rd I.hok e
    refine wpAny_in_of (kV_is ry) hd dd.mapOf ?_
    rw [← (rel.val k).isSome_eq, ← l]
    exact h _ (I.tok _)
  · subst ey
    cases (show u = Value.ref b from ry)
    obtain ⟨z, hd, xs, rel, dd⟩ := dt_rd I.hok e
    refine wpAny_in_heap (tupleKind_room_in1 hu) (key_of I.hok eb) hd dd ?_
    have q := (rel.val k).isSome_eq
    rw [Option.isSome_map] at q
    rw [← q, ← l]
    exact h _ (I.tok _)
theorem d_notIn {Q : Value → Shared → Prop} (hu : A.units + 1 < cLine) (I : Inv X pins σ H s) (g : DGet H a y o) (ry : RelV y u) (h : ∀ s', Inv X pins σ H s' → Q (.bool (!o.isSome)) s') :
    wpAny (model X.prog X.w) A (compareOp .NotIn u (.ref a)) Q E s := by
  rcases g with ⟨kvs, k, e, ey, l⟩ | ⟨kvs, k, b, e, ey, eb, l⟩
  · subst ey
    obtain ⟨z, hd, vs, rel, dd⟩ := dk_rd I.hok e
    refine wpAny_notIn_of (kV_is ry) hd dd.mapOf ?_
    rw [← (rel.val k).isSome_eq, ← l]
    exact h _ (I.tok _)
  · subst ey
    cases (show u = Value.ref b from ry)
    obtain ⟨z, hd, xs, rel, dd⟩ := dt_rd I.hok e
    refine wpAny_notIn_heap (tupleKind_room_in1 hu) (key_of I.hok eb) hd dd ?_
    have q := (rel.val k).isSome_eq
    rw [Option.isSome_map] at q
    rw [← q, ← l]
    exact h _ (I.tok _)
theorem d_write {h' : Heap} {t' : Nat} {ob : HO} (I : Inv X pins σ H s) (mu : Mut (H a)) (hs : Heap.SameBut a s.heap h') (he : ∃ q, h'.get? a = some q) (new : ObjOk X.prog X.w (upd H a ob) h' a ob) :
    Inv X pins σ (upd H a ob) { s with heap := h', toks := t' } :=
  I.write (x := a) (e := a) mu (.inl rfl) (fun b q hb z => (hs.2 b hb).trans z) he new
theorem dk_new {P : Program} {w : World} {H' : Hp} {h' : Heap} {kvs : List (Key × V)} {vs : List (Key × Value)} (z : kvs.length ≤ sizeLine) (hd : (a == sysModules) = false) (rel : KV kvs vs) (dd : h'.DictOf (mixKind P w) a vs) :
    ObjOk P w H' h' a (.dK kvs) := ⟨z, hd, vs, rel, dd⟩
theorem d_setItem {H' : Hp} {Q : Unit → Shared → Prop} (hu : A.units + 1 < cLine) (I : Inv X pins σ H s) (g : DPut H a y v H') (ry : RelV y u) (rv : RelV v r) (h : ∀ s', Inv X pins σ H' s' → Q () s') :
    wpAny (model X.prog X.w) A (setItem (.ref a) u r) Q E s := by
  rcases g with ⟨kvs, k, e, ey, l, eH⟩ | ⟨kvs, k, b, e, ey, eb, l, eH⟩
  · subst ey eH
    obtain ⟨z, hd, vs, rel, dd⟩ := dk_of I.hok e
    have hz : vs.length ≤ sizeLine := by rw [← rel.length]; exact z
    have hl : (putK kvs k v).length ≤ sizeLine := by have := length_putK kvs k v; omega
    refine wpAny_setItem_pairs (hsz := hz) (kV_is ry) dd fun h' dd' hs => h _ ?_
    have he : ∃ q, h'.get? a = some q := let ⟨q, _, _, hq, _⟩ := dd'; ⟨q, hq⟩
    exact d_write I (by rw [e]; exact True.intro) hs he (dk_new hl hd (rel.put k rv) dd')
  · subst ey eH
    cases (show u = Value.ref b from ry)
    obtain ⟨z, hd, xs, rel, dd⟩ := dt_of I.hok e
    have hz : xs.length ≤ sizeLine := by rw [← Paired.length rel]; exact z
    have hl : (putK kvs k v).length ≤ sizeLine := by have := length_putK kvs k v; omega
    refine wpAny_setItem_heap (hsz := hz) (tupleKind_room_in1 hu) (key_of I.hok eb) dd fun h' dd' hs => h _ ?_
    obtain ⟨q, es, ep, hq, h2, h3, h4, _, h5⟩ := dd'
    refine d_write I (by rw [e]; exact True.intro) hs ⟨q, hq⟩ ⟨hl, hd, _, (rel.put k eb rv).keeps fun c ys ec => ?_, q, es, ep, hq, h2, h3, h4, h5⟩
    rw [upd_ne (ne_of ec e (fun z => nomatch z))]
    exact ec
end
section
variable {X : Cx} {pins : List (Addr × Obj)} {σ : St} {H : Hp} {s : Shared} {a : Addr} {kvs : List (Key × V)} {k : Key} {u : Value} {A : Around} {E : Value → Shared → Prop}
theorem d_len {Q : Value → Shared → Prop} (I : Inv X pins σ H s) (e : Rd H a (.dK kvs)) (h : ∀ t s', Inv X pins σ H s' → Q (.int kvs.length t) s') : wpAny (model X.prog X.w) A (call (.builtin "len") [.ref a]) Q E s := by
  obtain ⟨z, hd, vs, rel, dd⟩ := dk_rd I.hok e
  refine call_len_dict hd dd (by rw [← rel.length]; rw [sizeLine_eq] at z; omega) ?_
  rw [← rel.length]
  exact h _ _ (I.tok _)
end
theorem dict_typeIs {X : Cx} {pins : List (Addr × Obj)} {σ : St} {H : Hp} {s : Shared} {a : Addr} {y : V} {o : Option V} (I : Inv X pins σ H s) (g : DGet H a y o) : s.TypeIs (.ref a) "dict" := by
  rcases g with ⟨kvs, k, e, _, _⟩ | ⟨kvs, k, b, e, _, _, _⟩
  · obtain ⟨_, _, vs, _, dd⟩ := dk_rd I.hok e
    exact dd.typeIs
  · obtain ⟨_, _, xs, _, dd⟩ := dt_rd I.hok e
    exact dd.typeIs
noncomputable def sDPut (td ty tv : TE) : TS := fun D σ H => tv σ H fun v H1 => td σ H1 fun x H2 => ty σ H2 fun y H3 => ∃ a H4, x = .ref a ∧ DPut H3 a y v H4 ∧ D.nx σ H4
section
variable {X : Cx} {o i e value : Expr} {pos pos' tpos : Pos} {td ty tv : TE}
theorem ps_dput (hu : X.A.units + 1 < cLine) (ho : PE X o td) (hi : PE X i ty) (hv : PE X value tv) (hs : swapsWith value (some (.Subscript o i pos')) pos.line X.env = pure false) :
    PS X (.Assign [.Subscript o i pos'] value pos) (sDPut td ty tv) := by
  intro pins s σ H D I h
  refine wpAny_Assign_Subscript (thn (hv pins s σ H _ I h) fun r s1 ⟨v, H1, I1, rv, q1⟩ => thn (ho pins s1 σ H1 _ I1 q1) fun u s2 ⟨x, H2, I2, rx, q2⟩ => thn (hi pins s2 σ H2 _ I2 q2) fun iv s3 ⟨y, H3, I3, ry, a, H4, ex, g, q3⟩ => ?_) hs
  subst ex
  obtain rfl : u = Value.ref a := rx
  exact d_setItem hu I3 g ry rv fun s4 I4 => ⟨σ, H4, I4, q3⟩
end
theorem dk_empty {P : Program} {w : World} {H : Hp} (h : Heap) (hb : sysModules < h.objs.size) : ObjOk P w H (h.push { cls := .type "dict", data := .dict #[] }) h.objs.size (.dK []) :=
  ⟨Nat.zero_le _, beq_eq_false_iff_ne.mpr (Ne.symm (Nat.ne_of_lt hb)), [], .nil, Heap.DictOf.new h⟩
noncomputable def tDNewK : TE := fun _ H Q => ∀ p, H p = none → Q (.ref p) (upd H p (.dK []))
section
variable {X : Cx} {pos : Pos}
theorem pe_dnewK : PE X (.Dict [] [] pos) tDNewK := fun pins s σ H Q I h =>
  wpAny_Dict_empty ⟨.ref s.heap.objs.size, _, I.laid (a := s.heap.objs.size) (o := .dK []) (t' := s.toks) (fun _ _ q => Heap.get?_push_of_some _ q) (Nat.le_refl _) (dk_empty s.heap I.big), rfl, h _ (I.hok.fresh (Nat.le_refl _))⟩
end
noncomputable def tPairs : List (TE × TE) → St → Hp → (List (V × V) → Hp → Prop) → Prop
  | [], _, H, Q => Q [] H
  | (tk, tv) :: r, σ, H, Q => tk σ H fun x H1 => tv σ H1 fun y H2 => tPairs r σ H2 fun ps H3 => Q ((x, y) :: ps) H3
noncomputable abbrev VV : List (V × V) → List (Value × Value) → Prop := Paired fun p q => RelV p.1 q.1 ∧ RelV p.2 q.2
noncomputable def PPs (X : Cx) (pos : Pos) (keys : List (Option Expr)) (values : List Expr) (trs : List (TE × TE)) : Prop :=
  ∀ (pins : List (Addr × Obj)) (s : Shared) (σ : St) (H : Hp) (Q : List (V × V) → Hp → Prop), Inv X pins σ H s → tPairs trs σ H Q →
    wpAny (model X.prog X.w) X.A (evalPairs (pairTrees keys values X.env pos)) (fun vs s' => ∃ ps H', Inv X pins σ H' s' ∧ VV ps vs ∧ Q ps H') X.xe s
theorem pps_nil {X : Cx} {pos : Pos} : PPs X pos [] [] [] := fun pins s σ H Q I h => pairTrees_nil_walk ⟨[], H, I, .nil, h⟩
theorem pps_cons {X : Cx} {pos : Pos} {k v : Expr} {ks : List (Option Expr)} {vs : List Expr} {tk tv : TE} {trs : List (TE × TE)} (hk : PE X k tk) (hv : PE X v tv) (hr : PPs X pos ks vs trs) :
    PPs X pos (some k :: ks) (v :: vs) ((tk, tv) :: trs) := fun pins s σ H Q I h =>
  pairTrees_cons_walk (thn (hk pins s σ H _ I h) fun u s1 ⟨x, H1, I1, rx, q1⟩ => thn (hv pins s1 σ H1 _ I1 q1) fun w2 s2 ⟨y, H2, I2, ry, q2⟩ =>
    thn (hr pins s2 σ H2 _ I2 q2) fun ws s3 ⟨ps, H3, I3, rel, q3⟩ => ⟨(x, y) :: ps, H3, I3, .cons ⟨rx, ry⟩ rel, q3⟩)
noncomputable def mergeK (kvs more : List (Key × V)) : List (Key × V) := more.foldl (fun acc kv => putK acc kv.1 kv.2) kvs
theorem KV.merge : ∀ {more : List (Key × V)} {rs : List (Key × Value)} {kvs : List (Key × V)} {vs : List (Key × Value)}, KV more rs → KV kvs vs → KV (mergeK kvs more) (merged vs rs) := by
  intro more rs kvs vs r
  unfold KV at r
  induction r generalizing kvs vs with
  | nil => intro q; exact q
  | @cons p q ps qs h t ih =>
    intro r0
    have e : KV (putK kvs p.1 p.2) (stored vs q.1 q.2) := by
      have := r0.put p.1 h.2
      rw [← h.1]; exact this
    exact ih e
theorem length_mergeK : ∀ (more kvs : List (Key × V)), (mergeK kvs more).length ≤ kvs.length + more.length
  | [], kvs => by show kvs.length ≤ kvs.length + 0; omega
  | p :: r, kvs => by
    have h1 := length_mergeK r (putK kvs p.1 p.2)
    have h2 := length_putK kvs p.1 p.2
    show (mergeK (putK kvs p.1 p.2) r).length ≤ _
    rw [List.length_cons]; omega
theorem carries_of {P : Program} {w : World} : ∀ {kvs : List (Key × V)} {ws : List (Value × Value)}, VV (kvs.map fun kv => (kV kv.1, kv.2)) ws → ∃ rs, Carries (mixKind P w) ws rs ∧ KV kvs rs
  | [], _, r => by rw [List.map_nil] at r; cases r; exact ⟨[], True.intro, .nil⟩
  | p :: kvs, _, r => by
    rw [List.map_cons] at r
    cases r with
    | @cons a b as bs h t =>
      obtain ⟨rs, c, q⟩ := carries_of (P := P) (w := w) t
      obtain ⟨b1, b2⟩ := b
      exact ⟨(p.1, b2) :: rs, ⟨kV_is h.1, rfl, c⟩, .cons ⟨rfl, h.2⟩ q⟩
noncomputable def tDisp (trs : List (TE × TE)) : TE := fun σ H Q => ∀ p, H p = none → tPairs trs σ (upd H p (.dK [])) fun ps H2 => H2 p = some (.dK []) ∧ ∃ kvs : List (Key × V), ps = kvs.map (fun kv => (kV kv.1, kv.2)) ∧ kvs.length ≤ 15 ∧ Q (.ref p) (upd H2 p (.dK (mergeK [] kvs)))
theorem pe_disp {X : Cx} {pos : Pos} {keys : List (Option Expr)} {values : List Expr} {trs : List (TE × TE)} (h : PPs X pos keys values trs) (hall : keys.all (·.isSome) = true) (hl : keys.length = values.length) (h0 : keys ≠ [])
    (h15 : keys.length ≤ 15) : PE X (.Dict keys values pos) (tDisp trs) := by
  intro pins s σ H Q I q
  have hn := I.hok.fresh (Nat.le_refl s.heap.objs.size)
  have I1 := I.laid (a := s.heap.objs.size) (o := .dK []) (h' := s.heap.push { cls := .type "dict", data := .dict #[] }) (t' := s.toks) (fun _ _ q => Heap.get?_push_of_some _ q) (Nat.le_refl _) (dk_empty s.heap I.big)
  refine wpAny_Dict_walk (knd := mixKind X.prog X.w) hall hl h0 h15 (thn (h pins _ σ _ _ I1 (q _ hn)) fun ws s2 ⟨ps, H2, I2, rel, e, kvs, ep, lk, q2⟩ => ?_)
  subst ep
  obtain ⟨rs, c, rk⟩ := carries_of (P := X.prog) (w := X.w) rel
  obtain ⟨z, hd, vs0, r0, dd⟩ := dk_of I2.hok e
  cases r0
  refine ⟨rs, c, dd, fun h' dd' hs => ⟨.ref s.heap.objs.size, _, ?_, rfl, q2⟩⟩
  have hz : (mergeK [] kvs).length ≤ sizeLine := by
    have h1 := length_mergeK kvs []
    rw [List.length_nil] at h1
    rw [sizeLine_eq]; omega
  have he : ∃ q, h'.get? s.heap.objs.size = some q := let ⟨q, _, _, hq, _⟩ := dd'; ⟨q, hq⟩
  exact d_write I2 (by rw [e]; exact True.intro) hs he (dk_new hz hd (rk.merge .nil) dd')
noncomputable def IsD (H : Hp) (a : Addr) : Prop := (∃ kvs, Rd H a (.dK kvs)) ∨ ∃ kvs, Rd H a (.dT kvs)
section
variable {X : Cx} {pins : List (Addr × Obj)} {σ : St} {H : Hp} {s : Shared} {a : Addr} {y d : V} {u r : Value} {o : Option V} {A : Around} {E : Value → Shared → Prop}
end
noncomputable def tDGet1 (td ty : TE) : TE := fun σ H Q => td σ H fun x H1 => ∃ a, x = .ref a ∧ IsD H1 a ∧ ty σ H1 fun y H2 => ∃ o, DGet H2 a y o ∧ Q (o.getD .non) H2
noncomputable def tDGet2 (td ty tx : TE) : TE := fun σ H Q => td σ H fun x H1 => ∃ a, x = .ref a ∧ IsD H1 a ∧ ty σ H1 fun y H2 => tx σ H2 fun z H3 => ∃ o, DGet H3 a y o ∧ Q (o.getD z) H3
section
variable {X : Cx} {o e f : Expr} {apos cpos : Pos} {td ty tx : TE}
end
section
variable {X : Cx} {pins : List (Addr × Obj)} {σ : St} {H : Hp} {s : Shared} {a : Addr} {kvs : List (Key × V)} {A : Around} {E : Value → Shared → Prop}
end
section
variable {X : Cx} {pins : List (Addr × Obj)} {σ : St} {H : Hp} {s : Shared} {a : Addr} {y : V} {u : Value} {A : Around} {E : Value → Shared → Prop}
end
end L2
namespace Att
open PySem PySem.W PySem.Calls PyProof.Rows
theorem ints_of_wellAll {P : Params} {h : Heap} : ∀ (ns : List Int) (vs : List Value), WellAll P h vs (ns.map WData.int) → IntsAre vs ns := by
  intro ns
  induction ns with
  | nil =>
    intro vs w
    rw [List.map_nil] at w
    cases w
    exact .nil
  | cons n ns ih =>
    intro vs w
    rw [List.map_cons] at w
    cases w with
    | cons a b =>
      cases a
      exact .cons _ _ (ih _ b)
theorem script_of {l : OpenLaw} {n : Nat} (hn : l.most = some n) {P : Params} {h : Heap} {args : List WData} {vals : List Value}
    (hpre : l.row.toRowW.claim.pre args = true) (hwl : WellAll P h vals args) :
    ∃ a vs ns, vals = [Value.ref a] ∧ args = [WData.list (ns.map WData.int)] ∧ h.get? a = some { cls := .type "list", data := .seq vs.toArray } ∧ IntsAre vs ns ∧ ns.length ≤ n := by
  have hsh : WShape.hasAll [] args [.list .int] = true := (pre_splitW hpre).1
  have hc : l.pre.holds [] { args := args } = true := (pre_splitW hpre).2
  obtain ⟨d, r, rfl, h1, h2⟩ := hasAllW_cons hsh
  obtain rfl := hasAllW_nil h2
  obtain ⟨xs, rfl, h3⟩ := hasW_list h1
  obtain ⟨ns, rfl⟩ := items_int h3
  have hlen : ns.length ≤ n := by
    unfold OpenLaw.pre at hc
    have h4 : (WTm.not (.lt (.lit (.int (n : Int))) (.len (.arg 0)))).holds [] { args := [.list (ns.map .int)] } = true := by
      have h4 := (holds_andW hc).1
      rw [hn] at h4
      exact h4
    have h5 := condW_of h4 (w_not (w_lt w_lit (w_len_list (w_arg rfl))))
    rw [List.length_map] at h5
    refine Nat.le_of_not_lt fun q => ?_
    have q' : (n : Int) < ((ns.length : Nat) : Int) := by omega
    first
      | (rw [decide_eq_true q'] at h5; exact absurd h5 (by decide))
      | (simp at h5; omega)
  cases hwl with
  | cons w1 w2 =>
    cases w2
    cases w1 with
    | list ho hall => exact ⟨_, _, ns, rfl, rfl, ho, ints_of_wellAll ns _ hall, hlen⟩
theorem post_true (l : OpenLaw) (args : List WData) : l.row.toRowW.claim.post args (.bool true) args = true :=
  postW_of (r := l.row.toRowW) (X := (true == true))
    (show WShape.has [] (.bool true) .bool = true by first | rfl | decide | simp [WShape.has, WShape.arms, WShape.armsAll])
    (show (WTm.eq .res (.lit (.bool true))).value [] { args := args, res := some (.bool true), after := args } = some (.bool (true == true)) from w_eq_bool (w_res rfl) w_lit) rfl
theorem attach_call {l : OpenLaw} {n : Nat} {q : Program} {loose : List Str} {XP : (Str → Option Value) → Heap → Prop} {YP : World → Heap → Prop} {d : DefRec}
    (hn : l.most = some n) (hdf : d.params.defaults = [])
    (call : ∀ (w : World) (s₀ s₁ : Shared) (mg mb : Str → Option Value) (fa : Addr) (o : Obj) (pm cd doc : Value) (a : Addr) (vs : List Value) (ns : List Int),
      Ground q loose [] XP w s₀ mg mb s₁.heap → YP w s₁.heap →
      s₁.heap.get? fa = some o → o.data = .func (docDef d.name d.params d.body d.scope pm cd doc) → s₁.heap.CodeRec cd d.name → mg d.name = some (.ref fa) →
      s₁.heap.get? a = some { cls := .type "list", data := .seq vs.toArray } → IntsAre vs ns → ns.length ≤ n → s₁.gens = #[] →
      codeAny (model l.prog w) callerA (.call (.ref fa) ⟨[.ref a], []⟩) (fun r s' => r = .ok (.ret (.bool true)) ∧ OldK s₁.heap s'.heap ∧ s'.os = s₁.os ∧ AllBare s'.gens) s₁) :
    WalkO q loose XP YP l.row.toRowW d [] (fun f vs => PySem.call f vs) := by
  intro w s₀ s₁ mg mb G Y fa o pm cd doc dV kV ho hd hcd hD hmg hg args vals as hpre hlay hrd hwl hlo
  obtain rfl : dV = .none := Dflts.none hD hdf
  obtain rfl : kV = .none := Dflts.noKw hD
  obtain ⟨a, vs, ns, rfl, rfl, hobj, hints, hlen⟩ := script_of hn hpre hwl
  refine enter_call (codeAny_mono (call w s₀ s₁ mg mb fa o pm cd doc a vs ns G Y ho (fd_plain hd) hcd hmg hobj hints hlen hg) fun r s' hq => ?_)
  obtain ⟨rfl, h2, h3, h4⟩ := hq
  exact ⟨.inl ⟨.bool true, .bool true, [], rfl, fun _ => rfl, .bool true, post_true l _, fun _ => ⟨List.Pairwise.nil, fun _ hm => (nomatch hm)⟩⟩, h2, h3, h4⟩
section
variable {prog : Program} {w : World} {A : Around} {E : Value → Shared → Prop} {s : Shared} {K : Frag}
end
end Att
namespace L2
open PySem PySem.Spec PyProof.Rows
theorem vals_ints : ∀ {vs : List Value} {ns : List Int}, IntsAre vs ns → Vals (ns.map V.int) vs
  | _, _, .nil => .nil
  | _, _, .cons n t h => .cons ⟨t, rfl⟩ (vals_ints h)
noncomputable def Only (H : Hp) : Prop := ∀ b, H b = none ∨ ∃ o xs, H b = some (.frz o (.lst xs))
theorem law_call {P : Program} {w : World} {K : PySem.W.Frag} {mg mb : Str → Option Value} {CX : CXT} {k : Nat} {fa a : Addr} {fd : FuncData} {x : Str} {sp : Sp} {s₁ : Shared} {vs : List Value} {ns : List Int}
    (KX : K.In s₁.heap) (hns : s₁.heap.Ns mainGlobals mg) (hb : s₁.heap.Ns builtinsNs mb) (hbb : ∀ x : Str, x ≠ "__name__" → mb x = bootBuiltins x) (hlim : s₁.heap.NoLimit) (hg : s₁.gens = #[])
    (ha : s₁.heap.get? a = some { cls := .type "list", data := .seq vs.toArray }) (hi : IntsAre vs ns) (hl : ns.length ≤ sizeLine) (hr : Room k callerA)
    (F : ∀ base : Heap, K.In base → base.Ns mainGlobals mg → FnOk P w K mg base CX k fa fd [x] sp) (hbind : ∀ (s : Shared) (u : Value), BindsTo s fd ⟨[u], []⟩ [(x, u)])
    (hsp : ∀ H : Hp, Only H → SqL K H a (ns.map V.int) → sp [.ref a] H (fun v _ => v = .bl true) fun _ _ _ => False)
    (hCX : ∀ H e s', CX [] H s₁ (fun _ _ _ => False) e s' → False) :
    codeAny (model P w) callerA (.call (.ref fa) ⟨[.ref a], []⟩) (fun r s' => r = .ok (.ret (.bool true)) ∧ OldK s₁.heap s'.heap ∧ s'.os = s₁.os ∧ AllBare s'.gens) s₁ := by
  have rv := vals_ints hi
  have lenV := hi.length
  -- from an abstract heap in which nothing but the script may be tracked
  have core : ∀ H : Hp, Only H → SqL K H a (ns.map V.int) → HOk P w H s₁.heap → (∀ b, H b ≠ none → b = a) → (H a ≠ none → K.lookup a = none) →
      codeAny (model P w) callerA (.call (.ref fa) ⟨[.ref a], []⟩) (fun r s' => r = .ok (.ret (.bool true)) ∧ OldK s₁.heap s'.heap ∧ s'.os = s₁.os ∧ AllBare s'.gens) s₁ := by
    intro H hO hS hok hA hK
    have base_of : ∀ {b : Addr} {o : Obj}, s₁.heap.get? b = some o → H b = none → (hidT s₁.heap H).get? b = some o := fun e n => hidT_get e n
    have noA : ∀ {b : Addr} {o : Obj} {es : Array DictEntry} {ep : Nat}, s₁.heap.get? b = some o → o.data = .dict es ep → H b = none := fun {b o es ep} e d => by
      cases q : H b with
      | none => rfl
      | some u =>
        have e' : b = a := hA b (by rw [q]; simp)
        subst e'
        rw [ha] at e; cases e
        have d' : Data.seq vs.toArray _ = Data.dict es ep := d
        cases d'
    have nsK : ∀ {b : Addr} {m : Str → Option Value}, s₁.heap.Ns b m → (hidT s₁.heap H).Ns b m := fun {b m} ⟨o, es, ep, e, d, r⟩ => ⟨o, es, ep, base_of e (noA e d), d, r⟩
    have hKb : K.In (hidT s₁.heap H) := fun b o e => base_of (KX b o e) (by
      cases q : H b with
      | none => rfl
      | some u =>
        have e' : b = a := hA b (by rw [q]; simp)
        subst e'
        rw [hK (by rw [q]; simp)] at e; cases e)
    have hM : Mod K mg (hidT s₁.heap H) := ⟨hKb, nsK hns, ⟨mb, nsK hb, hbb⟩, let ⟨mc, h1, h2⟩ := hlim; ⟨mc, nsK h1, h2⟩⟩
    have e0 : Env0 P w K mg (hidT s₁.heap H) callerA [] s₁ H := ⟨rfl, hM, fun b o e => of_hidT e, Nat.le_of_eq (hidT_size _ _), trivial, fun b hb => absurd (show b ∈ ([] : List Addr) from hb) (by simp), hok, .of_eq hg⟩
    refine codeAny_mono ((F _ hKb (nsK hns)).run callerA [] s₁ H ⟨[.ref a], []⟩ [.ref a] [.ref a] _ _ hr e0 (hbind s₁ (.ref a)) (.cons rfl .nil) (hsp H hO hS)) fun r s' h => ?_
    cases r with
    | error e => exact (hCX H e s' h).elim
    | ok fl =>
      cases fl with
      | next => exact False.elim h
      | brk => exact False.elim h
      | cont => exact False.elim h
      | ret u =>
        obtain ⟨v, H', os, bare, un, hok', r', q⟩ := h
        have q' : v = .bl true := q
        subst q'
        obtain rfl : u = Value.bool true := r'
        refine ⟨rfl, OldK.of_keep fun b o e => ?_, os, bare⟩
        cases q : H b with
        | none => exact un.keep b o e q (by intro z; exact absurd (show b ∈ ([] : List Addr) from z) (by simp)) (by simp)
        | some u =>
          rcases hO b with z | ⟨ob, xs, z⟩
          · rw [q] at z; cases z
          · have z2 := un.frzs b ob _ z
            obtain ⟨e1, _⟩ := hok b _ z
            obtain ⟨e2, _⟩ := hok' b _ z2
            rw [e] at e1; cases e1
            exact e2
  cases hk : K.lookup a with
  | some o =>
    -- the script is one of the module's own objects
    have e := KX a o hk
    rw [ha] at e
    cases e
    refine core (fun _ => none) (fun _ => .inl rfl) (.inr ⟨_, vs.toArray, _, hk, rfl, rfl, rfl, by rw [List.size_toArray, lenV]; exact hl, by simpa using rv⟩) (fun b u z => by have z' : (none : Option HO) = some u := z; cases z') (fun b z => absurd rfl z) fun z => absurd rfl z
  | none =>
    refine core (fun b => if b = a then some (.frz { cls := .type "list", data := .seq vs.toArray } (.lst (ns.map V.int))) else none) (fun b => ?_) (.inl (.inr ⟨{ cls := .type "list", data := .seq vs.toArray }, if_pos rfl⟩)) (fun b u z => ?_) (fun b z => ?_) fun _ => hk
    · by_cases hb : b = a
      · exact .inr ⟨_, _, if_pos hb⟩
      · exact .inl (if_neg hb)
    · by_cases hb : b = a
      · have z' := (if_pos hb).symm.trans z
        cases z'
        subst hb
        exact ⟨ha, by rw [List.length_map]; exact hl, vs, _, rv, ha⟩
      · have z' := (if_neg hb).symm.trans z
        cases z'
    · by_cases hb : b = a
      · exact hb
      · exact absurd (if_neg hb) z
end L2
namespace L2
open PySem PySem.Spec PyProof.Rows
theorem walk_of {l : PySem.W.OpenLaw} {n k : Nat} {q : Program} {loose : List Str} {XP : (Str → Option Value) → Heap → Prop} {YP : World → Heap → Prop} {d : DefRec} {K : Params → PySem.W.Frag} {CX : World → CXT} {sp : World → Sp} {x : Str}
    (hn : l.most = some n) (hn2 : n ≤ sizeLine) (hdf : d.params.defaults = []) (hr : Room k callerA)
    (hY : ∀ (w : World) (h : Heap), YP w h → (K w.params).In h)
    (F : ∀ (w : World) (mg : Str → Option Value) (fa : Addr) (h : Heap), (K w.params).In h → h.Ns mainGlobals mg → mg d.name = some (.ref fa) →
      ∃ fd : FuncData, (∀ (s : Shared) (u : Value), BindsTo s fd ⟨[u], []⟩ [(x, u)]) ∧
        ∀ base : Heap, (K w.params).In base → base.Ns mainGlobals mg → FnOk l.prog w (K w.params) mg base (CX w) k fa fd [x] (sp w))
    (hsp : ∀ (w : World) (H : Hp) (a : Addr) (ns : List Int), ns.length ≤ n → Only H → SqL (K w.params) H a (ns.map V.int) → sp w [.ref a] H (fun v _ => v = .bl true) fun _ _ _ => False)
    (hCX : ∀ (w : World) (H : Hp) (s : Shared) (e : Value) (s' : Shared), CX w [] H s (fun _ _ _ => False) e s' → False) :
    PySem.W.WalkO q loose XP YP l.row.toRowW d [] (fun f vs => PySem.call f vs) := by
  refine Att.attach_call hn hdf fun w s₀ s₁ mg mb fa o pm cd doc a vs ns G Y ho hd hcd hmg hobj hints hlen hg => ?_
  have KX := hY w _ Y
  obtain ⟨fd, hb, hF⟩ := F w mg fa _ KX G.T.g hmg
  exact law_call KX G.T.g G.T.b G.T.builtins G.T.nolimit hg hobj hints (Nat.le_trans hlen hn2) hr hF hb (fun H hO hS => hsp w H a ns hlen hO hS) fun H e s' => hCX w H s₁ e s'
end L2
namespace L2
open PySem PySem.Spec PyProof.Rows
noncomputable def inClass (s : Stmt) (j : Nat) : Stmt := match s with
  | .ClassDef _ _ _ body _ _ _ _ _ _ _ => body.getD j (.Pass ⟨0, 0, 0, 0⟩)
  | _ => .Pass ⟨0, 0, 0, 0⟩
noncomputable def defArgs (s : Stmt) : Arguments := match s with
  | .FunctionDef _ a _ _ _ _ _ _ _ _ => a
  | _ => { posonlyargs := [], args := [], vararg := none, kwonlyargs := [], kw_defaults := [], kwarg := none, defaults := [] }
noncomputable def defBody (s : Stmt) : List Stmt := match s with
  | .FunctionDef _ _ b _ _ _ _ _ _ _ => b
  | _ => []
noncomputable def defScope (s : Stmt) : Scope := match s with
  | .FunctionDef _ _ _ _ _ _ sc _ _ _ => sc
  | _ => { kind := .function, names := [], isGenerator := false, isCoroutine := false }
noncomputable abbrev CX0 : CXT := fun _ _ _ _ _ _ => False
noncomputable abbrev E0 : XK := fun _ _ _ => False
theorem pass0 {X : Cx} : Passes CX0 X E0 := fun _ _ _ _ _ _ _ h => h.elim
structure Fun (K : PySem.W.Frag) (x qual : Str) (st : Stmt) (f : Addr) (fd : FuncData) : Prop where
  ex : ∃ (oc : Value) (od : Option Addr) (kV doc pm : Value) (an : Option Addr) (cdv ct : Value) (osl : Array (Option Value)),
    fd = PySem.W.fnOf x qual (defArgs st) (defBody st) (defScope st) .none kV doc pm an cdv ct ∧ K.lookup f = some ⟨oc, od, .func fd, osl⟩ ∧ PySem.W.codeIn K cdv qual = true
  kp : PySem.W.keepIn K (.ref f) = true
section
variable {P : Program} {w : World} {K : PySem.W.Frag} {mg : Str → Option Value} {base : Heap}
theorem Fun.ok {x qual : Str} {st : Stmt} {f : Addr} {fd : FuncData} {N ps : List Str} {k : Nat} {sp : Sp} (F : Fun K x qual st f fd) (S : FnScope N ps (defScope st)) (len : ∀ vs H Q E, sp vs H Q E → vs.length = ps.length)
    (hbody : ∀ (cdv : Value) (A : Around) (outer : List Env) (s : Shared) (H : Hp) (vs : List V) (Q : VK) (E : XK), Room k (A.deeper (envOfC qual (defScope st) s.heap.objs.size f cdv)) → sp vs H Q E →
      ∃ t, PSs (cxOf CX0 P w K mg base N qual (defScope st) f cdv A outer s H E).nox (defBody st) t ∧ t { nx := fun _ H' => Q .non H', rt := Q } (start N vs) H) : FnOk P w K mg base CX0 (k + 1) f fd ps sp := by
  obtain ⟨oc, od, kV, doc, pm, an, cdv, ct, osl, rfl, lk, hcd⟩ := F.ex
  refine fn_of lk hcd S len fun A outer s H vs Q E hr hsp => ?_
  obtain ⟨t, h, q⟩ := hbody cdv A outer s H vs Q E hr hsp
  exact ⟨t, h.nox, q⟩
theorem Fun.binds {x qual : Str} {st : Stmt} {f : Addr} {fd : FuncData} {ps : List Str} (F : Fun K x qual st f fd)
    (h : ∀ (kV doc pm : Value) (an : Option Addr) (cdv ct : Value) (us : List Value), us.length = ps.length → bindArgs (PySem.W.fnOf x qual (defArgs st) (defBody st) (defScope st) .none kV doc pm an cdv ct) ⟨us, []⟩ = pure (ps.zip us)) : Binds K fd ps [] := by
  obtain ⟨oc, od, kV, doc, pm, an, cdv, ct, osl, rfl, lk, hcd⟩ := F.ex
  exact .all (h kV doc pm an cdv ct)
theorem fun_mk {x qual : Str} {st : Stmt} {f : Addr} {oc : Value} {od an : Option Addr} {osl : Array (Option Value)} {kV doc pm cdv ct : Value} (l : K.lookup f = some ⟨oc, od, .func (PySem.W.fnOf x qual (defArgs st) (defBody st) (defScope st) .none kV doc pm an cdv ct), osl⟩)
    (c : PySem.W.codeIn K cdv qual = true) (k : PySem.W.keepIn K (.ref f) = true) : Fun K x qual st f (PySem.W.fnOf x qual (defArgs st) (defBody st) (defScope st) .none kV doc pm an cdv ct) := ⟨⟨oc, od, kV, doc, pm, an, cdv, ct, osl, rfl, l, c⟩, k⟩
end
theorem hu_of {A : Around} {k : Nat} (hr : Room k A) : A.units + 1 < cLine := Nat.lt_of_le_of_lt (Nat.add_le_add_left (by decide : 1 ≤ 64) _) hr.units
theorem small1000 {n : Nat} (h : n ≤ 1000) : n < sizeLine := Nat.lt_of_le_of_lt h (by decide)
section
variable {X : Cx}
theorem pv (i : Nat) {x : Str} {pos : Pos} (hN : X.N[i]? = some x := by with_unfolding_all rfl) (hv : Vis X.env.scope x := by with_unfolding_all first | exact Or.inl rfl | exact Or.inr (Or.inl rfl) | exact Or.inr (Or.inr rfl)) (hd : (x == ("__debug__" : Str)) = false := by decide)
    (hcd : (x == ("__classdict__" : Str)) = false := by decide) : PE X (.Name x pos) (tVar i) := pe_var hN hv hd hcd
end
theorem iteF {A B : Prop} (h : B) : if false = true then A else B := by
  rw [if_neg Bool.false_ne_true]
  exact h
theorem iteT {A B : Prop} (h : A) : if true = true then A else B := by
  rw [if_pos rfl]
  exact h
theorem ite2 {c A B : Prop} [Decidable c] (h1 : c → A) (h2 : ¬ c → B) : if c then A else B := by
  by_cases h : c
  · rw [if_pos h]
    exact h1 h
  · rw [if_neg h]
    exact h2 h
noncomputable def Same (H H' : Hp) : Prop := ∀ b o, H b = some o → H' b = some o
theorem Same.refl (H : Hp) : Same H H := fun _ _ h => h
theorem Same.trans {H H1 H2 : Hp} (a : Same H H1) (b : Same H1 H2) : Same H H2 := fun c o h => b c o (a c o h)
theorem Same.free {H H' : Hp} (e : Same H H') {l : Addr} (h : H' l = Option.none) : H l = Option.none := by
  cases q : H l with
  | none => rfl
  | some o =>
    rw [e l o q] at h
    cases h
theorem Same.seq {K : PySem.W.Frag} {H H' : Hp} {a : Addr} {xs : List V} (e : Same H H') (h : SqL K H a xs) : SqL K H' a xs := by
  rcases h with (h | ⟨o, h⟩) | h
  · exact .inl (.inl (e _ _ h))
  · exact .inl (.inr ⟨o, e _ _ h⟩)
  · exact .inr h
end L2
namespace L2
open PySem PySem.Spec PyProof.Rows
section
variable {X : Cx}
theorem call_lenD : CallR X (.builtin "len") (fun xs H Q => ∃ a kvs, xs = [V.ref a] ∧ H a = some (.dK kvs) ∧ Q (.int kvs.length) H) := by
  intro pins s σ H xs us Q I r h
  obtain ⟨a, kvs, rfl, ha, q⟩ := h
  obtain ⟨u, rfl, ru⟩ := vals1 r
  cases ru
  exact d_len I (.inl ha) fun t s' I' => ⟨.int kvs.length, H, I', ⟨t, rfl⟩, q⟩
end
section
variable {κ : Type} [DecidableEq κ]
end
end L2
set_option Elab.async false
set_option linter.all false
set_option maxRecDepth 100000
set_option maxHeartbeats 4000000
namespace L2
open PySem PySem.Spec PyProof.Rows
noncomputable def clOf (env : Env) (names : List (Str × NameKind)) (acc : List (Str × Addr)) : List (Str × Addr) :=
  names.foldl (fun acc y => if y.2 == NameKind.free then (y.1, (env.cells.lookup y.1).getD 0) :: acc else acc) acc
theorem closure_is {env : Env} {scope : Scope} (h : ∀ y ∈ scope.names, y.2 = NameKind.free → ∃ c, env.cells.lookup y.1 = some c) : closureFor scope env = pure (clOf env scope.names []) := by
  have all : ∀ (names : List (Str × NameKind)) (acc : List (Str × Addr)), (∀ y ∈ names, y.2 = NameKind.free → ∃ c, env.cells.lookup y.1 = some c) →
      (forIn names acc fun (y : Str × NameKind) (cs : List (Str × Addr)) => (match y with
        | (name, kind) => if (kind == NameKind.free) = true then do let c ← cellOf env name; pure (ForInStep.yield ((name, c) :: cs)) else pure (ForInStep.yield cs) : Sem (ForInStep (List (Str × Addr))))) = (pure (clOf env names acc) : Sem (List (Str × Addr))) := by
    intro names
    induction names with
    | nil => intro acc _; rfl
    | cons y r ih =>
      intro acc hy
      obtain ⟨n, k⟩ := y
      rw [List.forIn_cons]
      by_cases hk : k = NameKind.free
      · subst hk
        obtain ⟨c, hc⟩ := hy (n, .free) List.mem_cons_self rfl
        have e : cellOf env n = pure c := by unfold cellOf; rw [show env.cells.lookup n = some c from hc]
        have e2 : clOf env ((n, NameKind.free) :: r) acc = clOf env r ((n, c) :: acc) := by
          unfold clOf
          rw [List.foldl_cons]
          simp only [beq_self_eq_true, if_true]
          rw [show env.cells.lookup n = some c from hc]
          rfl
        rw [e2, ← ih ((n, c) :: acc) fun z hz => hy z (List.mem_cons_of_mem _ hz)]
        simp only [beq_self_eq_true, if_true, e]
        rfl
      · have hb : (k == NameKind.free) = false := by simpa using hk
        have e2 : clOf env ((n, k) :: r) acc = clOf env r acc := by
          unfold clOf
          rw [List.foldl_cons]
          simp only [hb, Bool.false_eq_true, if_false]
        rw [e2, ← ih acc fun z hz => hy z (List.mem_cons_of_mem _ hz)]
        simp only [hb, Bool.false_eq_true, if_false]
        rfl
  have q := all scope.names [] h
  unfold closureFor
  first
    | exact q
    | (simp only [bind_pure]; exact q)
    | (refine Eq.trans ?_ q; rfl)
theorem clOf_sub {env : Env} {x : Str} {c : Addr} : ∀ {names : List (Str × NameKind)} {acc : List (Str × Addr)}, (∀ y ∈ names, y.2 = NameKind.free → ∃ c, env.cells.lookup y.1 = some c) → (acc.lookup x = some c → env.cells.lookup x = some c) →
    (clOf env names acc).lookup x = some c → env.cells.lookup x = some c
  | [], acc, _, ha, h => ha h
  | (n, k) :: r, acc, hn, ha, h => by
    have e : clOf env ((n, k) :: r) acc = clOf env r (if k == NameKind.free then (n, (env.cells.lookup n).getD 0) :: acc else acc) := rfl
    rw [e] at h
    refine clOf_sub (fun y hy => hn y (List.mem_cons_of_mem _ hy)) (fun q => ?_) h
    by_cases hk : k = NameKind.free
    · subst hk
      simp only [beq_self_eq_true, if_true, List.lookup_cons] at q
      obtain ⟨d, hd⟩ := hn (n, .free) List.mem_cons_self rfl
      have hd' : env.cells.lookup n = some d := hd
      split at q
      · rename_i hx
        have hx' : x = n := beq_iff_eq.mp hx
        rw [hd'] at q
        rw [hx', hd']
        exact q
      · exact ha q
    · have hb : (k == NameKind.free) = false := by simpa using hk
      simp only [hb, Bool.false_eq_true, if_false] at q
      exact ha q
theorem clOf_has {env : Env} {x : Str} : ∀ {names : List (Str × NameKind)} {acc : List (Str × Addr)}, ((∃ c, acc.lookup x = some c) ∨ (x, NameKind.free) ∈ names) → ∃ c, (clOf env names acc).lookup x = some c
  | [], acc, h => by
    rcases h with h | h
    · exact h
    · cases h
  | (n, k) :: r, acc, h => by
    have e : clOf env ((n, k) :: r) acc = clOf env r (if k == NameKind.free then (n, (env.cells.lookup n).getD 0) :: acc else acc) := rfl
    rw [e]
    refine clOf_has ?_
    by_cases hk : k = NameKind.free
    · subst hk
      simp only [beq_self_eq_true, if_true, List.lookup_cons]
      by_cases hx : x = n
      · left
        have hb : (x == n) = true := beq_iff_eq.mpr hx
        rw [hb]
        exact ⟨_, rfl⟩
      · have hb : (x == n) = false := beq_eq_false_iff_ne.mpr hx
        rw [hb]
        rcases h with h | h
        · exact .inl h
        · rcases List.mem_cons.mp h with q | q
          · cases q; exact absurd rfl hx
          · exact .inr q
    · have hb : (k == NameKind.free) = false := by simpa using hk
      simp only [hb, Bool.false_eq_true, if_false]
      rcases h with h | h
      · exact .inl h
      · rcases List.mem_cons.mp h with q | q
        · cases q; exact absurd rfl hk
        · exact .inr q
theorem cells_app : ∀ (names : List (Str × NameKind)) (n : Nat) (acc : List (Str × Addr)), cellsFrom n names acc = cellsFrom n names [] ++ acc
  | [], _, _ => rfl
  | (x, k) :: r, n, acc => by
    unfold cellsFrom
    split
    · rw [cells_app r (n + 1) ((x, n) :: acc), cells_app r (n + 1) [(x, n)], List.append_assoc]
      rfl
    · exact cells_app r n acc
theorem cells_kind {x : Str} {c : Addr} : ∀ {names : List (Str × NameKind)} {n : Nat}, (x, c) ∈ cellsFrom n names [] → (x, NameKind.cell) ∈ names
  | [], _, h => by cases h
  | (y, k) :: r, n, h => by
    unfold cellsFrom at h
    split at h
    · rename_i hk
      rw [cells_app] at h
      rcases List.mem_append.mp h with h | h
      · exact List.mem_cons_of_mem _ (cells_kind h)
      · have e := List.mem_singleton.mp h
        cases e
        rw [beq_iff_eq.mp hk]
        exact List.mem_cons_self
    · exact List.mem_cons_of_mem _ (cells_kind h)
theorem lookup_ex {α : Type} {x : Str} {c : α} : ∀ {l : List (Str × α)}, (x, c) ∈ l → ∃ d, l.lookup x = some d
  | [], h => by cases h
  | (y, d) :: r, h => by
    rw [List.lookup_cons]
    cases e : x == y with
    | true => exact ⟨d, rfl⟩
    | false =>
      rcases List.mem_cons.mp h with q | q
      · cases q
        simp at e
      · exact lookup_ex q
theorem cells_has {x : Str} : ∀ {names : List (Str × NameKind)} {n : Nat}, (x, NameKind.cell) ∈ names → ∃ c, (x, c) ∈ cellsFrom n names []
  | [], _, h => by cases h
  | (y, k) :: r, n, h => by
    unfold cellsFrom
    split
    · rw [cells_app]
      rcases List.mem_cons.mp h with q | q
      · cases q
        exact ⟨n, List.mem_append_right _ (by simp)⟩
      · obtain ⟨c, hc⟩ := cells_has (n := n + 1) q
        exact ⟨c, List.mem_append_left _ hc⟩
    · rename_i hk
      rcases List.mem_cons.mp h with q | q
      · cases q
        exact absurd rfl hk
      · exact cells_has q
noncomputable def compOk (outer scope : Scope) (xs fr : List Str) : Bool :=
  (scope.kind == .function) && (outer.kind == .function) && decide (scope.names.map (·.1)).Nodup
  && (scope.names.all fun y => y.2 != .local || scope.names.lookup y.1 == some .local)
  && (scope.names.all fun y => y.2 != .free || (outer.names.lookup y.1 == some .cell || outer.names.lookup y.1 == some .free))
  && (scope.names.all fun y => y.2 != .free || scope.names.lookup y.1 == some .free)
  && (xs.all fun x => scope.names.lookup x == some .local || scope.names.lookup x == some .cell) && (fr.all fun x => scope.names.lookup x == some .free) && decide (xs ++ fr).Nodup
theorem lookup_mem {α : Type} {x : Str} {v : α} : ∀ {l : List (Str × α)}, l.lookup x = some v → (x, v) ∈ l
  | [], h => by cases h
  | (n, k) :: r, h => by
    rw [List.lookup_cons] at h
    split at h
    · rename_i hx
      have hx' : x = n := beq_iff_eq.mp hx
      cases h
      rw [hx']
      exact List.mem_cons_self
    · exact List.mem_cons_of_mem _ (lookup_mem h)
theorem lookup_relabel {scope : Scope} {env : Env} {x : Str} {k : NameKind} (hk : env.scope.kind = .function) : ∀ {names : List (Str × NameKind)}, names.lookup x = some k →
    (names.map fun (n, k) => if (k == NameKind.free && env.scope.kind == .function && env.kindOf n == some .cell) then (n, NameKind.cell) else (n, k)).lookup x = some (if (k == NameKind.free && env.kindOf x == some .cell) then .cell else k)
  | [], h => by cases h
  | (n, j) :: r, h => by
    have ih := @lookup_relabel scope env x k hk r
    rw [List.map_cons]
    rw [List.lookup_cons] at h
    dsimp only
    split at h
    · rename_i hx
      have hx' : x = n := beq_iff_eq.mp hx
      cases h
      subst hx'
      by_cases hc : (k == NameKind.free && env.scope.kind == .function && env.kindOf x == some .cell) = true
      · have hc2 : (k == NameKind.free && env.kindOf x == some .cell) = true := by
          rw [Bool.and_eq_true, Bool.and_eq_true] at hc
          rw [Bool.and_eq_true]
          exact ⟨hc.1.1, hc.2⟩
        rw [if_pos hc, if_pos hc2, List.lookup_cons, beq_self_eq_true]
      · have hc2 : ¬ (k == NameKind.free && env.kindOf x == some .cell) = true := fun q => hc (by
          rw [Bool.and_eq_true] at q
          rw [Bool.and_eq_true, Bool.and_eq_true, hk]
          exact ⟨⟨q.1, rfl⟩, q.2⟩)
        rw [if_neg hc, if_neg hc2, List.lookup_cons, beq_self_eq_true]
    · rename_i hx
      have hx' : (x == n) = false := by simpa using hx
      by_cases hc : (j == NameKind.free && env.scope.kind == .function && env.kindOf n == some .cell) = true
      · rw [if_pos hc, List.lookup_cons, hx']
        exact ih h
      · rw [if_neg hc, List.lookup_cons, hx']
        exact ih h
theorem of_lookup_relabel {env : Env} {x : Str} {k : NameKind} : ∀ {names : List (Str × NameKind)},
    (names.map fun (n, k) => if (k == NameKind.free && env.scope.kind == .function && env.kindOf n == some .cell) then (n, NameKind.cell) else (n, k)).lookup x = some k →
    ∃ j, names.lookup x = some j ∧ (k = j ∨ (j = .free ∧ k = .cell))
  | [], h => by cases h
  | (n, j) :: r, h => by
    have ih := @of_lookup_relabel env x k r
    rw [List.map_cons] at h
    dsimp only at h
    by_cases hc : (j == NameKind.free && env.scope.kind == .function && env.kindOf n == some .cell) = true
    · rw [if_pos hc, List.lookup_cons] at h
      have hj : j = .free := by
        rw [Bool.and_eq_true, Bool.and_eq_true] at hc
        exact beq_iff_eq.mp hc.1.1
      rw [List.lookup_cons]
      split at h
      · rename_i hx
        cases h
        exact ⟨j, rfl, .inr ⟨hj, rfl⟩⟩
      · rename_i hx
        have hx' : (x == n) = false := by simpa using hx
        exact ih h
    · rw [if_neg hc, List.lookup_cons] at h
      rw [List.lookup_cons]
      split at h
      · rename_i hx
        cases h
        exact ⟨_, rfl, .inl rfl⟩
      · rename_i hx
        have hx' : (x == n) = false := by simpa using hx
        exact ih h
structure CompS (X : Cx) (scope : Scope) (xs fr : List Str) : Prop where
  kind : scope.kind = .function
  okind : X.env.scope.kind = .function
  uniq : (scope.names.map (·.1)).Nodup
  names : ∀ y ∈ scope.names, y.2 = .local → scope.names.lookup y.1 = some .local
  free : ∀ y ∈ scope.names, y.2 = .free → X.env.kindOf y.1 = some .cell ∨ X.env.kindOf y.1 = some .free
  own : ∀ x ∈ xs, scope.names.lookup x = some .local ∨ scope.names.lookup x = some .cell
  fre : ∀ x ∈ fr, scope.names.lookup x = some .free
  nd : (xs ++ fr).Nodup
theorem compS_of {X : Cx} {scope : Scope} {xs fr : List Str} (h : compOk X.env.scope scope xs fr = true) : CompS X scope xs fr := by
  unfold compOk at h
  simp only [Bool.and_eq_true, List.all_eq_true, bne_iff_ne, Bool.or_eq_true, beq_iff_eq, decide_eq_true_eq] at h
  obtain ⟨⟨⟨⟨⟨⟨⟨⟨h1, h2⟩, h3⟩, h4⟩, h5⟩, h6⟩, h7⟩, h8⟩, h9⟩ := h
  exact ⟨h1, h2, h3, fun y hy e => (h4 y hy).resolve_left (fun q => q e), fun y hy e => (h5 y hy).resolve_left (fun q => q e), h7, h8, h9⟩
noncomputable def pick (σ : St) (js : List Nat) : St := js.map fun j => (σ[j]?).getD none
noncomputable abbrev cxC (X : Cx) (scope : Scope) (xs fr : List Str) (C : Addr) (ex : List Addr) (s₀ : Shared) (H₀ : Hp) : Cx :=
  { X with N := xs ++ fr, env := compEnvC scope (cellsFrom (C + 1) scope.names (clOf X.env scope.names [])) C X.env, s₀ := s₀, H₀ := H₀, outer := X.stack, ex := ex, fn := fun x => scope.names.lookup x == some .cell, pn := [], xe := fun _ _ => False }
section
variable {X : Cx} {scope : Scope} {xs fr : List Str} {pins : List (Addr × Obj)} {σ : St} {H : Hp} {s : Shared} {js : List Nat} {fp : List Addr}
theorem lookup_nd {α : Type} {x : Str} {v : α} : ∀ {l : List (Str × α)}, (l.map (·.1)).Nodup → (x, v) ∈ l → l.lookup x = some v
  | [], _, h => by cases h
  | (y, d) :: r, hn, h => by
    obtain ⟨h1, h2⟩ := List.nodup_cons.mp hn
    rw [List.lookup_cons]
    rcases List.mem_cons.mp h with q | q
    · cases q
      rw [beq_self_eq_true]
    · have hne : (x == y) = false := beq_eq_false_iff_ne.mpr fun e => h1 (e ▸ List.mem_map.mpr ⟨(x, v), q, rfl⟩)
      rw [hne]
      exact lookup_nd h2 q
theorem CompS.cells (S : CompS X scope xs fr) (ok : X.Ok) : ∀ y ∈ scope.names, y.2 = NameKind.free → ∃ c, X.env.cells.lookup y.1 = some c := fun y hy e => ok.has _ (S.free y hy e)
theorem block_in (S : CompS X scope xs fr) (hjs : js.map (fun j => X.N[j]?) = fr.map some) (I : Inv X pins σ H s) (hfp : ∀ b ∈ fp, FpOk X pins H b) (hob : ∀ b ∈ fp, ∃ o, s.heap.get? b = some o) {h' : Heap} {t' : Nat}
    (hn : h'.Ns s.heap.objs.size fun _ => none) (keep : ∀ b o, s.heap.get? b = some o → h'.get? b = some o) (hcs : CellsOk h' (s.heap.objs.size + 1) (cellsFrom (s.heap.objs.size + 1) scope.names [])) :
    Inv (cxC X scope xs fr s.heap.objs.size fp s H) [] (List.replicate xs.length none ++ pick σ js) H { s with heap := h', toks := t' } := by
  have hcl := S.cells I.ok
  have sub : ∀ x c, (clOf X.env scope.names []).lookup x = some c → X.env.cells.lookup x = some c := fun x c h => clOf_sub hcl (fun q => by cases q) h
  have hl : js.length = fr.length := by have := congrArg List.length hjs; rwa [List.length_map, List.length_map] at this
  have two : ∀ x c, (cellsFrom (s.heap.objs.size + 1) scope.names (clOf X.env scope.names [])).lookup x = some c → (x, c) ∈ cellsFrom (s.heap.objs.size + 1) scope.names [] ∨ (clOf X.env scope.names []).lookup x = some c := fun x c h => by
    rw [cells_app, List.lookup_append] at h
    cases e : (cellsFrom (s.heap.objs.size + 1) scope.names []).lookup x with
    | some d =>
      rw [e] at h
      cases h
      exact .inl (lookup_mem e)
    | none =>
      rw [e] at h
      exact .inr h
  have oldc : ∀ x c, X.env.cells.lookup x = some c → c < s.heap.objs.size := fun x c h => let ⟨_, _, ho, _⟩ := I.cell x c h; Heap.lt_size ho
  have newc : ∀ x c, (x, c) ∈ cellsFrom (s.heap.objs.size + 1) scope.names [] → s.heap.objs.size < c := fun x c h => (hcs.empty x c h).2
  refine ⟨⟨I.ok.mod, S.kind, I.ok.glob, I.ok.blt, Nat.le_refl _, fun x y c h1 h2 => ?_, fun x hx => ?_, fun x c hf h => ?_, I.ok.hd, I.ok.frames, .inl rfl, fun b hb => ?_, fun b o e => I.bs b o e, Nat.le_trans I.ok.bsz I.sz, fun b o e hb => ?_, fun b hb hb2 => ?_, I.stack, I.stkFree⟩,
    rfl, I.bare, Un.kept keep, ⟨_, hn, fun i x v e1 e2 e3 => ?_⟩, fun x c h => ?_, I.hok.fresh (Nat.le_refl _), fun x c h => ?_, fun p hp => absurd (show p ∈ ([] : List (Addr × Obj)) from hp) (by simp), I.hok.kept keep, ?_⟩
  · rcases two x c h1 with g1 | g1
    · rcases two y c h2 with g2 | g2
      · exact name_of_addr hcs.apart g1 g2
      · exact absurd (oldc y c (sub y c g2)) (Nat.not_lt.mpr (Nat.le_of_lt (newc x c g1)))
    · rcases two y c h2 with g2 | g2
      · exact absurd (oldc x c (sub x c g1)) (Nat.not_lt.mpr (Nat.le_of_lt (newc y c g2)))
      · exact I.ok.inj x y c (sub x c g1) (sub y c g2)
  · -- the names that are cells there have one
    have hx : (relabel scope X.env).names.lookup x = some .cell ∨ (relabel scope X.env).names.lookup x = some .free := hx
    have app : ∀ c, (clOf X.env scope.names []).lookup x = some c ∨ (x, c) ∈ cellsFrom (s.heap.objs.size + 1) scope.names [] → ∃ c, (cellsFrom (s.heap.objs.size + 1) scope.names (clOf X.env scope.names [])).lookup x = some c := fun c h => by
      rw [cells_app, List.lookup_append]
      rcases h with h | h
      · cases (cellsFrom (s.heap.objs.size + 1) scope.names []).lookup x with
        | some d => exact ⟨d, rfl⟩
        | none => exact ⟨c, h⟩
      · obtain ⟨d, hd⟩ := lookup_ex h
        rw [hd]
        exact ⟨d, rfl⟩
    have go : ∀ k, (relabel scope X.env).names.lookup x = some k → (k = .cell ∨ k = .free) → ∃ c, (cellsFrom (s.heap.objs.size + 1) scope.names (clOf X.env scope.names [])).lookup x = some c := fun k e hk => by
      obtain ⟨j, hj, q⟩ := of_lookup_relabel (env := X.env) (names := scope.names) e
      have hm := lookup_mem hj
      have hjf : j = .free ∨ j = .cell := by
        rcases q with q | q
        · rcases hk with hk | hk
          · exact .inr (q ▸ hk)
          · exact .inl (q ▸ hk)
        · exact .inl q.1
      rcases hjf with hjf | hjf
      · subst hjf
        obtain ⟨c, hc⟩ := clOf_has (env := X.env) (x := x) (names := scope.names) (acc := []) (.inr hm)
        exact app c (.inl hc)
      · subst hjf
        obtain ⟨c, hc⟩ := cells_has (n := s.heap.objs.size + 1) hm
        exact app c (.inr hc)
    rcases hx with hx | hx
    · exact go _ hx (.inl rfl)
    · exact go _ hx (.inr rfl)
  · rcases two x c h with g | g
    · exact Nat.le_of_lt (newc x c g)
    · have hf' : scope.names.lookup x = some .cell := by simpa using hf
      obtain ⟨d, hd⟩ := cells_has (n := s.heap.objs.size + 1) (lookup_mem hf')
      have h' := h
      obtain ⟨e, he⟩ := lookup_ex hd
      have h' : (cellsFrom (s.heap.objs.size + 1) scope.names (clOf X.env scope.names [])).lookup x = some c := h
      rw [cells_app, List.lookup_append, he] at h'
      cases h'
      exact Nat.le_of_lt (newc x _ (lookup_mem he))
  · obtain ⟨f0, f1, f2, f3, f4, f5⟩ := hfp b hb
    obtain ⟨o, ho⟩ := hob b hb
    refine ⟨Nat.ne_of_lt (Heap.lt_size ho), fun x c h z => ?_⟩
    rcases two x c h with g | g
    · have h1 := newc x c g
      have h2 := Heap.lt_size ho
      rw [← z] at h2
      exact absurd h1 (Nat.not_lt.mpr (Nat.le_of_lt h2))
    · exact f4 x c (sub x c g) z
  · obtain ⟨f0, f1, f2, f3, f4, f5⟩ := hfp b hb
    rcases f3 with f3 | f3
    · exact I.ok.noex b o e f3
    · exact absurd (Nat.lt_of_lt_of_le (Heap.lt_size (I.ok.bs b o e).1) f3) (Nat.lt_irrefl _)
  · obtain ⟨f0, f1, f2, f3, f4, f5⟩ := hfp b hb
    rcases List.mem_cons.mp (I.stkSub b hb2) with z | z
    · exact f1 z
    · exact f2 z
  · have e1 : (xs ++ fr)[i]? = some x := e1
    by_cases hi : i < xs.length
    · rw [List.getElem?_append_left (by rw [List.length_replicate]; exact hi), List.getElem?_replicate, if_pos hi] at e2
      cases e2
    · have hi' : xs.length ≤ i := Nat.le_of_not_lt hi
      rw [List.getElem?_append_right hi'] at e1
      rw [List.getElem?_append_right (by rw [List.length_replicate]; exact hi'), List.length_replicate] at e2
      unfold pick at e2
      rw [List.getElem?_map] at e2
      cases ej : js[i - xs.length]? with
      | none => rw [ej] at e2; cases e2
      | some j =>
        rw [ej] at e2
        have e2' : (σ[j]?).getD none = some v := Option.some.inj e2
        have e4 : σ[j]? = some (some v) := by
          cases q : σ[j]? with
          | none => rw [q] at e2'; cases e2'
          | some o => rw [q] at e2'; rw [show o = some v from e2']
        have e5 : X.N[j]? = some x := by
          have := congrArg (fun l => l[i - xs.length]?) hjs
          rw [List.getElem?_map, List.getElem?_map, ej, e1] at this
          exact Option.some.inj this
        have hf := S.fre x (List.mem_of_getElem? e1)
        have hk := S.free _ (lookup_mem hf) rfl
        obtain ⟨m, hm, hl'⟩ := I.loc
        obtain ⟨u, r, lk⟩ := hl' j x v e5 e4 (.inr hk)
        refine ⟨u, r, .inr ⟨?_, ?_⟩⟩
        · have q := lookup_relabel (scope := scope) (env := X.env) S.okind hf
          show (relabel scope X.env).names.lookup x = some .cell ∨ (relabel scope X.env).names.lookup x = some .free
          have q' : (relabel scope X.env).names.lookup x = some (if (NameKind.free == NameKind.free && X.env.kindOf x == some .cell) then .cell else .free) := q
          by_cases hc : (NameKind.free == NameKind.free && X.env.kindOf x == some .cell) = true
          · rw [if_pos hc] at q'; exact .inl q'
          · rw [if_neg hc] at q'; exact .inr q'
        · obtain ⟨c', hc'⟩ := clOf_has (env := X.env) (x := x) (names := scope.names) (acc := []) (.inr (lookup_mem hf))
          rcases lk with ⟨z, _⟩ | ⟨_, c, hc, ob, ho, hd⟩
          · rcases hk with hk | hk
            · rw [z] at hk; cases hk
            · rw [z] at hk; cases hk
          · have e6 : c = c' := by
              have := sub x c' hc'
              rw [hc] at this
              exact Option.some.inj this
            subst e6
            refine ⟨_, ?_, ob, keep _ _ ho, hd⟩
            show (cellsFrom (s.heap.objs.size + 1) scope.names (clOf X.env scope.names [])).lookup x = some c
            rw [cells_app, List.lookup_append]
            have none' : (cellsFrom (s.heap.objs.size + 1) scope.names []).lookup x = none := by
              cases e : (cellsFrom (s.heap.objs.size + 1) scope.names []).lookup x with
              | none => rfl
              | some d =>
                have := lookup_nd S.uniq (cells_kind (lookup_mem e))
                rw [hf] at this
                cases this
            rw [none']
            exact hc'
  · rcases two x c h with g | g
    · exact ⟨_, (hcs.empty x c g).1⟩
    · obtain ⟨v, ob, ho, hd⟩ := I.cell x c (sub x c g)
      exact ⟨v, ob, keep _ _ ho, hd⟩
  · rcases two x c h with g | g
    · exact I.hok.fresh (Nat.le_of_lt (newc x c g))
    · exact I.freeC x c (sub x c g)
  · show _ = (xs ++ fr).length
    unfold pick
    rw [List.length_append, List.length_append, List.length_replicate, List.length_map, hl]
theorem new_block {M : Model} {A : Around} {E : Value → Shared → Prop} {s : Shared} {scope : Scope} {globals : Addr} {cl : List (Str × Addr)} {qual : Str} {env : Env} {Q : Env → Shared → Prop}
    (hQ : ∀ h', h'.Ns s.heap.objs.size (fun _ => none) → (∀ b o, s.heap.get? b = some o → h'.get? b = some o) → CellsOk h' (s.heap.objs.size + 1) (cellsFrom (s.heap.objs.size + 1) scope.names []) →
      Q (newEnv scope s.heap.objs.size globals (cellsFrom (s.heap.objs.size + 1) scope.names cl) qual none .none (some env) builtinsNs) { s with heap := h' }) :
    wpAny M A (newFunctionEnv scope globals cl [] qual none .none (some env)) Q E s := by
  simp only [newFunctionEnv, Option.isSome_some, if_true]
  refine wpAny_bind (wpAny_alloc ?_)
  refine wpAny_bind (wpAny_layCells _ (fun name kind cells => by cases hkc : kind == NameKind.cell <;> simp [hkc]) _ _ _ _ ?_)
  have okc := cellsFrom_ok scope.names (s.heap.push { cls := .type "dict", data := .dict #[] }) (s.heap.objs.size + 1) [] ⟨fun _ _ hm => (nomatch hm), List.Pairwise.nil⟩ (by rw [Heap.size_push]; exact Nat.le_refl _)
  rw [Heap.size_push] at okc
  rw [show ({ s with heap := s.heap.push { cls := .type "dict", data := .dict #[] } } : Shared).heap.objs.size = s.heap.objs.size + 1 from Heap.size_push ..]
  rw [List.forIn_nil]
  exact wpAny_bind (wpAny_pure (wpAny_pure (hQ _ ((Heap.Ns.new s.heap (.type "dict")).keeps (pushCells_keeps _ _)) (fun b o e => pushCells_keeps _ _ b o (Heap.get?_push_of_some _ e)) okc)))
theorem block_out {σ' : St} {H' : Hp} {s' : Shared} {h'' : Heap} (I : Inv X pins σ H s) (hfp : ∀ b ∈ fp, FpOk X pins H b) (J : Inv (cxC X scope xs fr s.heap.objs.size fp s H) [] σ' H' s') (hs : Heap.SameBut s.heap.objs.size s'.heap h'') :
    Inv X pins σ H' { s' with heap := h'' } := by
  have old : ∀ b o, s.heap.get? b = some o → b ≠ s.heap.objs.size := fun b o e => Nat.ne_of_lt (Heap.lt_size e)
  have ub : Un (frs X.stack) fp H H' s.heap s'.heap := J.base
  refine I.call' (s' := { s' with heap := h'' }) (ch := fp) J.os ⟨fun b o e n hb hx => (hs.2 b (old b o e)).trans (ub.keep b o e n hb hx), fun b o e n hb hx => ?_, ub.free, fun b o e hx => ?_, ub.tups, ub.frzs, ub.tbls⟩ (fun b o e => ?_) J.bare fun b hb => ?_
  · obtain ⟨sl, e1⟩ := ub.slot b o e n hb hx
    exact ⟨sl, (hs.2 b (old b o e)).trans e1⟩
  · obtain ⟨o', e1⟩ := ub.there b o e hx
    exact ⟨o', (hs.2 b (old b o e)).trans e1⟩
  · have hf : H' s.heap.objs.size = none := J.free
    refine (J.hok b o e).stay (fun c v hc q => (hs.2 c ?_).trans q) (fun _ q => q) fun _ _ q => q
    intro z
    rcases hc with hc | hc
    · rw [← hc, z, hf] at e; cases e
    · rw [z, hf] at hc; cases hc
  · obtain ⟨f0, f1, f2, f3, f4, f5⟩ := hfp b hb
    exact ⟨f3, f1, f4, f5⟩
noncomputable def PIf (X : Cx) (ifs : List Expr) (t : TT) : Prop :=
  ∀ (pins : List (Addr × Obj)) (s : Shared) (σ : St) (H : Hp) (Q : Bool → Hp → Prop) (E : Value → Shared → Prop), (∀ e s', X.xe e s' → E e s') → Inv X pins σ H s → t σ H Q →
    wpAny (model X.prog X.w) X.A (forIn ifs true fun c r => if r = true then do let ok ← isTrue c X.env (eval c X.env); pure (ForInStep.yield ok) else pure (ForInStep.yield r)) (TP X pins σ Q) E s
noncomputable def tTrue : TT := fun _ H Q => Q true H
theorem pif_nil : PIf X [] tTrue := fun _ _ _ H _ _ _ I h => wpAny_tests_nil ⟨H, I, h⟩
theorem pif_one {c : Expr} {t : TT} (hc : PT X c t) : PIf X [c] t := fun pins s σ H Q _ hE I h => wpAny_tests_one (wpAny_mono (hc pins s σ H Q I h) (fun _ _ z => z) hE)
noncomputable def tComp (k : Nat) (js : List Nat) (wi : TI) (g : TG) (tt : TT) (te : TE) : TE := fun σ H Q => wi σ H fun J H1 => ∀ p, H1 p = none →
  ∃ W : Nat → Nat → Hp → Prop, (∃ m, W 0 m (upd H1 p (.lst []))) ∧ ∀ i m H, W i m H →
    (J.stop i H ∧ Q (.ref p) H) ∨ (J.go i H ∧ ∃ N : Hp → Prop, (∀ H', N H' → ∃ m', m' < m ∧ W (i + 1) m' H') ∧
      ∀ x H', J.yld i H x H' → g x (List.replicate k none ++ pick σ js) H' fun σ2 H2 => tt σ2 H2 fun b H3 =>
        if b = true then te σ2 H3 fun y H4 => ∃ acc, H4 p = some (.lst acc) ∧ acc.length < sizeLine ∧ N (upd H4 p (.lst (acc ++ [y]))) else N H3)
theorem comp_loop {tg elt iter : Expr} {ifs : List Expr} {pos : Pos} {it acc : Value} {env : Env} {A : Around} {R : Result → Shared → Prop} {s : Shared} {P : Program} {w : World} (I : Nat → Shared → Prop)
    (turn : ∀ n s, I n s → wpAny (model P w) A (pyNext it) (fun r s₁ => match r with
      | none => R (.ok .next) s₁
      | some v => wpAny (model P w) A (letOwnedTupleGo tg it v) (fun _ s₁' => wpAny (model P w) A (assign tg env v) (fun _ s₂ =>
          wpAny (model P w) A (forIn ifs true fun c r => if r = true then do let ok ← isTrue c env (eval c env); pure (ForInStep.yield ok) else pure (ForInStep.yield r)) (fun ok s₃ =>
            if ok = true then wpAny (model P w) A (eval elt env) (fun x s₄ =>
              wpAny (model P w) A (call (.builtin "list.append") [acc, x]) (fun _ s₅ => ∃ m, m < n ∧ I m s₅) (fun _ _ => False) s₄) (fun _ _ => False) s₃
            else ∃ m, m < n ∧ I m s₃) (fun _ _ => False) s₂) (fun _ _ => False) s₁') (fun _ _ => False) s₁) (fun _ _ => False) s)
    (n : Nat) (h : I n s) : codeAny (model P w) A (.compLoop (.ListComp elt [⟨tg, iter, ifs, 0⟩] scope pos) 0 it acc env) R s := by
  refine codeAny_loop rfl I (fun n s hI => ?_) n h
  show wpAny _ A ((compTurn (.ListComp elt [⟨tg, iter, ifs, 0⟩] scope pos) 0 it acc env).onRaise (fun x => do noteFrame x env; theTreesLotGoes x)) _ _ s
  refine wpAny_noted ?_
  rw [compTurn_list]
  refine wpAny_bind (wpAny_standAt (wpAny_bind (wpAny_mono (turn n s hI) (fun r s₁ h₁ => ?_) fun _ _ h' => h'.elim)))
  cases r with
  | none => exact wpAny_pure h₁
  | some v =>
    refine wpAny_bind (wpAny_mono h₁ (fun _ s₁' h₁' => ?_) fun _ _ h' => h'.elim)
    refine wpAny_bind (wpAny_mono h₁' (fun _ s₂ h₂ => wpAny_bind (wpAny_mono h₂ (fun ok s₃ h₃ => ?_) fun _ _ h' => h'.elim)) fun _ _ h' => h'.elim)
    cases ok with
    | false => exact wpAny_pure ⟨rfl, h₃⟩
    | true =>
      exact wpAny_bind (wpAny_bind (wpAny_mono h₃ (fun x s₄ h₄ => wpAny_bind (wpAny_mono h₄ (fun _ s₅ h₅ => wpAny_pure (wpAny_pure ⟨rfl, h₅⟩)) fun _ _ h' => h'.elim)) fun _ _ h' => h'.elim))
noncomputable def GKeep (n : Nat) (g : TG) : Prop := ∀ x σ H Q, g x σ H Q → g x σ H fun σ' H' => (∀ k, n ≤ k → σ'[k]? = σ[k]?) ∧ Q σ' H'
theorem gk_name {n i : Nat} (h : i < n) : GKeep n (gName i) := fun x σ H Q q => ⟨fun k hk => List.getElem?_set_ne (by omega), q⟩
theorem comp_run {tg elt iter : Expr} {ifs : List Expr} {pos : Pos} {g : TG} {tt : TT} {te : TE} (hc : X.calm = true) (S : CompS X scope xs fr) (hjs : js.map (fun j => X.N[j]?) = fr.map some)
    (hg : ∀ C ex s₀ H₀, PG (cxC X scope xs fr C ex s₀ H₀) tg g) (hk : GKeep xs.length g) (hi : ∀ C ex s₀ H₀, PIf (cxC X scope xs fr C ex s₀ H₀) ifs tt) (he : ∀ C ex s₀ H₀, PE (cxC X scope xs fr C ex s₀ H₀) elt te)
    {s2 : Shared} {H1 : Hp} {R : Value → Addr → Result → Shared → Prop} {Q : VK} {it : Addr} {tn : Nat → Heap → Prop} {J : It} (I : Inv X pins σ H1 s2) (T : Turn X.prog X.w X.K tg J fp it tn) (st : tn 0 s2.heap) (hfp : ∀ b ∈ fp, FpOk X pins H1 b)
    (hq : ∀ p, H1 p = none → ∃ W : Nat → Nat → Hp → Prop, (∃ m, W 0 m (upd H1 p (.lst []))) ∧ ∀ i m H, W i m H →
      (J.stop i H ∧ Q (.ref p) H) ∨ (J.go i H ∧ ∃ N : Hp → Prop, (∀ H', N H' → ∃ m', m' < m ∧ W (i + 1) m' H') ∧
        ∀ x H', J.yld i H x H' → g x (List.replicate xs.length none ++ pick σ js) H' fun σ2 H2 => tt σ2 H2 fun b H3 =>
          if b = true then te σ2 H3 fun y H4 => ∃ acc, H4 p = some (.lst acc) ∧ acc.length < sizeLine ∧ N (upd H4 p (.lst (acc ++ [y]))) else N H3))
    (hR : ∀ (p C : Addr) (s' : Shared) (H' : Hp), (∃ m, s'.heap.Ns C m) → FpOk X pins H' C → Inv X pins σ H' s' → Q (.ref p) H' → R (.ref p) C (.ok .next) s') :
    wpAny (model X.prog X.w) X.A (newList []) (fun acc s₃ => wpAny (model X.prog X.w) X.A (newFunctionEnv scope X.env.globals (clOf X.env scope.names []) [] X.env.qual none .none (some X.env)) (fun cenv s₄ =>
      codeAny (model X.prog X.w) X.A (.compStart (.ListComp elt [⟨tg, iter, ifs, 0⟩] scope pos) 0 (.ref it) acc { cenv with scope := relabel scope X.env }) (R acc cenv.locals) s₄) X.xe s₃) X.xe s2 := by
  refine wpAny_newObj_type ?_ (by show 0 ≤ sizeLine; exact Nat.zero_le _)
  have hn0 : H1 s2.heap.objs.size = none := I.hok.fresh (Nat.le_refl _)
  have I3 : Inv X pins σ (upd H1 s2.heap.objs.size (.lst [])) { s2 with heap := s2.heap.push { cls := .type "list", data := .seq ([] : List Value).toArray } } := I.laid (t' := s2.toks) (fun b u e => Heap.get?_push_of_some _ e) (Nat.le_refl _) ⟨Nat.zero_le _, [], 0, .nil, Heap.get?_push_size _ rfl⟩
  obtain ⟨W, ⟨m0, w0⟩, turn⟩ := hq _ hn0
  have hob : ∀ b ∈ fp, ∃ o, s2.heap.get? b = some o := fun b hb => let ⟨o, e, _⟩ := T.obj _ _ st b hb; ⟨o, e⟩
  have hfp3 : ∀ b ∈ fp, FpOk X pins (upd H1 s2.heap.objs.size (.lst [])) b := fun b hb => by
    obtain ⟨f0, f⟩ := hfp b hb
    obtain ⟨o, e⟩ := hob b hb
    exact ⟨by rw [upd_ne (Nat.ne_of_lt (Heap.lt_size e))]; exact f0, f⟩
  have hob3 : ∀ b ∈ fp, ∃ o, (s2.heap.push { cls := .type "list", data := .seq ([] : List Value).toArray }).get? b = some o := fun b hb => let ⟨o, e⟩ := hob b hb; ⟨o, Heap.get?_push_of_some _ e⟩
  have st3 : tn 0 (s2.heap.push { cls := .type "list", data := .seq ([] : List Value).toArray }) := T.keep _ _ _ st fun b _ o e => Heap.get?_push_of_some _ e
  generalize hs3 : ({ s2 with heap := s2.heap.push { cls := .type "list", data := .seq ([] : List Value).toArray } } : Shared) = s3 at I3 ⊢
  have st3' : tn 0 s3.heap := by rw [← hs3]; exact st3
  have hob3' : ∀ b ∈ fp, ∃ o, s3.heap.get? b = some o := by rw [← hs3]; exact hob3
  generalize hH3 : upd H1 s2.heap.objs.size (.lst []) = H3 at I3 hfp3 w0
  generalize hp0 : s2.heap.objs.size = p0 at turn ⊢
  refine new_block fun h₁ hns₁ hkp₁ hco₁ => ?_
  have I4 := block_in (t' := s3.toks) S hjs I3 hfp3 hob3' hns₁ hkp₁ hco₁
  have st4 : tn 0 h₁ := T.keep _ _ _ st3' fun b hb o e => hkp₁ b o e
  have loop : ∀ s₄ : Shared, Inv (cxC X scope xs fr s3.heap.objs.size fp s3 H3) [] (List.replicate xs.length none ++ pick σ js) H3 s₄ → tn 0 s₄.heap →
      codeAny (model X.prog X.w) X.A (.compLoop (.ListComp elt [⟨tg, iter, ifs, 0⟩] scope pos) 0 (.ref it) (.ref p0) (compEnvC scope (cellsFrom (s3.heap.objs.size + 1) scope.names (clOf X.env scope.names [])) s3.heap.objs.size X.env)) (R (.ref p0) s3.heap.objs.size) s₄ := by
    intro s₄ I4 st4
    have stat : ∀ {H' : Hp}, (∀ b ∈ fp, H' b = none) → ∀ b ∈ fp, FpOk (cxC X scope xs fr s3.heap.objs.size fp s3 H3) [] H' b := fun {H'} hn b hb => by
      obtain ⟨f0, f1, f2, f3, f4, f5⟩ := hfp3 b hb
      obtain ⟨o, e⟩ := hob3' b hb
      refine ⟨hn b hb, Nat.ne_of_lt (Heap.lt_size e), I4.ok.exfs b hb, .inl hb, fun x c h => (I4.ok.exf b hb).2 x c h, fun p hp => absurd (show p ∈ ([] : List (Addr × Obj)) from hp) (by simp)⟩
    refine comp_loop (fun n s' => ∃ i H', Inv (cxC X scope xs fr s3.heap.objs.size fp s3 H3) [] (List.replicate xs.length none ++ pick σ js) H' s' ∧ tn i s'.heap ∧ (∀ b ∈ fp, H' b = none) ∧ W i n H') ?_ m0 ⟨0, H3, I4, st4, fun b hb => (hfp3 b hb).1, w0⟩
    rintro n s5 ⟨i, H5, I5, st5, fr5, w5⟩
    rcases turn i n H5 w5 with ⟨stop, qn⟩ | ⟨go, N, hN, step⟩
    · refine thn (T.done (cxC X scope xs fr s3.heap.objs.size fp s3 H3) rfl rfl rfl hc i [] s5 _ H5 (fun _ _ => False) I5 (stat fr5) st5 stop) fun r s6 ⟨hr, I6⟩ => ?_
      subst hr
      obtain ⟨m6, n6, _⟩ := id I6.loc
      exact hR p0 s3.heap.objs.size s6 H5 ⟨m6, n6⟩ (I3.fpOk (Nat.le_refl _) I6.free) (block_out I3 hfp3 I6 (Heap.SameBut.refl ..)) qn
    · refine thn (T.item (cxC X scope xs fr s3.heap.objs.size fp s3 H3) rfl rfl rfl hc i [] s5 _ H5 (fun _ _ => False) I5 (stat fr5) st5 go) fun r s6 ⟨u, hr, h6⟩ => ?_
      subst hr
      refine thn h6 fun _ s7 ⟨x, H7, I7, r7, y7, st7, fr7⟩ => ?_
      have I7' := I7.pinned (stat fr7) (T.obj _ _ st7)
      refine thn (hg _ _ _ _ _ s7 _ H7 x u _ I7' r7 (hk _ _ _ _ (step x H7 y7))) fun _ s8 ⟨σ8, H8, I8, kp8, q8⟩ => ?_
      have again : ∀ {s9 : Shared} {H9 : Hp}, Inv (cxC X scope xs fr s3.heap.objs.size fp s3 H3) ([] ++ pinsAt fp s7.heap) σ8 H9 s9 → N H9 →
          ∃ m, m < n ∧ ∃ i H', Inv (cxC X scope xs fr s3.heap.objs.size fp s3 H3) [] (List.replicate xs.length none ++ pick σ js) H' s9 ∧ tn i s9.heap ∧ (∀ b ∈ fp, H' b = none) ∧ W i m H' := fun {s9 H9} I9 n9 => by
        obtain ⟨m', hm, w9⟩ := hN H9 n9
        refine ⟨m', hm, i + 1, H9, I9.unpinned.weak ?_ ?_, T.keep _ _ _ st7 fun b hb o e => (I9.pin (b, o) (List.mem_append_right _ (List.mem_append_right _ (mem_pinsAt hb e)))).1, fun b hb => ?_, w9⟩
        · rw [I9.len, I5.len]
        · intro k v hkv
          by_cases hx : k < xs.length
          · rw [List.getElem?_append_left (by rw [List.length_replicate]; exact hx), List.getElem?_replicate, if_pos hx] at hkv
            cases hkv
          · rw [kp8 k (Nat.le_of_not_lt hx)]
            exact hkv
        · obtain ⟨o, e, d⟩ := T.obj _ _ st7 b hb
          exact (I9.pin (b, o) (List.mem_append_right _ (List.mem_append_right _ (mem_pinsAt hb e)))).2.1
      refine wpAny_mono (hi _ _ _ _ _ s8 σ8 H8 _ (fun _ _ => False) (fun _ _ z => z) I8 q8) (fun ok s9 ⟨H9, I9, q9⟩ => ?_) fun _ _ z => z
      cases ok with
      | false =>
        rw [if_neg Bool.false_ne_true]
        rw [if_neg Bool.false_ne_true] at q9
        exact again I9 q9
      | true =>
        rw [if_pos rfl]
        rw [if_pos rfl] at q9
        refine thn (he _ _ _ _ _ s9 σ8 H9 _ I9 q9) fun uy s10 ⟨y, H10, I10, r10, acc, hacc, hz, n10⟩ => ?_
        refine thn (mt_append _ s10 σ8 H10 (.ref p0) [y] (.ref p0) [uy] (fun _ H11 => N H11) I10 rfl (.cons r10 .nil) ⟨p0, acc, y, rfl, rfl, hacc, hz, n10⟩) fun _ s11 ⟨_, H11, I11, _, n11⟩ => ?_
        exact again I11 n11
  exact codeAny_compStart_list (loop _ I4 st4) (T.self _ _ _ _ _ st4 (loop _ I4 st4))
theorem Inv.letgo {C : Addr} {h'' : Heap} (I : Inv X pins σ H s) (f : FpOk X pins H C) (hs : Heap.SameBut C s.heap h'') : Inv X pins σ H { s with heap := h'' } := by
  obtain ⟨f0, f1, f2, f3, f4, f5⟩ := f
  exact I.turned (t' := s.toks) (fun b o hb e => (hs.2 b hb).trans e) f0 f1 f3 f4 f5
theorem pe_comp {tg elt iter : Expr} {ifs : List Expr} {pos : Pos} {wi : TI} {g : TG} {tt : TT} {te : TE} (xs fr : List Str) (js : List Nat) (hc : X.calm = true) (hS : compOk X.env.scope scope xs fr = true) (hjs : js.map (fun j => X.N[j]?) = fr.map some) (hw : PI X tg iter wi)
    (hg : ∀ C ex s₀ H₀, PG (cxC X scope xs fr C ex s₀ H₀) tg g) (hk : GKeep xs.length g) (hi : ∀ C ex s₀ H₀, PIf (cxC X scope xs fr C ex s₀ H₀) ifs tt) (he : ∀ C ex s₀ H₀, PE (cxC X scope xs fr C ex s₀ H₀) elt te)
    (hs : ∀ x, foldedSetIterable iter X.env x = pure x := by intro _; with_unfolding_all rfl) :
    PE X (.ListComp elt [⟨tg, iter, ifs, 0⟩] scope pos) (tComp xs.length js wi g tt te) := by
  intro pins s σ H Q I h
  have S := compS_of hS
  rw [eval_ListComp]
  refine wpAny_comprehension_free (use := none) rfl hs (closure_is (S.cells I.ok)) S.kind S.names ?_
  refine thn (hw pins s σ H _ I h) fun v s1 h1 => thn h1 fun itv s2 h2 => ?_
  obtain ⟨it, fp, tn, J, H2, e, I2, T, st2, f2, q2⟩ := h2
  subst e
  refine comp_run (Q := Q) (R := fun acc C => compPost (model X.prog X.w) X.A X.xe none (EP X pins σ Q) acc C) hc S hjs hg hk hi he I2 T st2 f2 q2 ?_
  intro p C s' H' ⟨m, hn⟩ fC hI q
  exact ⟨m, hn, fun h'' hs'' => ⟨.ref p, H', hI.letgo fC hs'', rfl, q⟩⟩
theorem ps_setcomp {tg elt iter : Expr} {ifs : List Expr} {pos spos py : Pos} {wi : TI} {g : TG} {tt : TT} {te : TE} {i : Nat} {y : Str} (xs fr : List Str) (js : List Nat) (hc : X.calm = true) (hS : compOk X.env.scope scope xs fr = true) (hjs : js.map (fun j => X.N[j]?) = fr.map some)
    (hN : X.N.Nodup) (hi' : X.N[i]? = some y) (hy : X.env.scope.names.lookup y = some .local) (hw : PI X tg iter wi)
    (hg : ∀ C ex s₀ H₀, PG (cxC X scope xs fr C ex s₀ H₀) tg g) (hk : GKeep xs.length g) (hi : ∀ C ex s₀ H₀, PIf (cxC X scope xs fr C ex s₀ H₀) ifs tt) (he : ∀ C ex s₀ H₀, PE (cxC X scope xs fr C ex s₀ H₀) elt te)
    (hsw : swapsWith (.ListComp elt [⟨tg, iter, ifs, 0⟩] scope pos) (some (.Name y py)) spos.line X.env = pure true := by with_unfolding_all rfl)
    (hs : ∀ x, foldedSetIterable iter X.env x = pure x := by intro _; with_unfolding_all rfl) :
    PS X (.Assign [.Name y py] (.ListComp elt [⟨tg, iter, ifs, 0⟩] scope pos) spos) (tAsg (tComp xs.length js wi g tt te) (gName i)) := by
  intro pins s σ H D I h
  have S := compS_of hS
  rw [exec_Assign_Name_used _ _ _ _ hsw]
  refine wpAny_bind (wpAny_standAt (wpAny_bind ?_))
  show wpAny _ X.A (do let _ ← comprehension (.ListComp elt [⟨tg, iter, ifs, 0⟩] scope pos) scope X.env _ (newList []) false (eval iter X.env) (some (assign (.Name y py) X.env))) _ _ s
  refine wpAny_bind (wpAny_mono (wpAny_comprehension_free (use := some (assign (.Name y py) X.env)) (Q := fun _ s' => SP X pins D .next s') rfl hs (closure_is (S.cells I.ok)) S.kind S.names ?_) (fun _ s' hq => wpAny_pure (wpAny_pure hq)) fun _ _ e => e)
  refine thn (hw pins s σ H _ I h) fun v s1 h1 => thn h1 fun itv s2 h2 => ?_
  obtain ⟨it, fp, tn, J, H2, e, I2, T, st2, f2, q2⟩ := h2
  subst e
  refine comp_run (Q := fun x H1 => gName i x σ H1 D.nx) (R := fun acc C => compPost (model X.prog X.w) X.A X.xe (some (assign (.Name y py) X.env)) (fun _ s' => SP X pins D .next s') acc C) hc S hjs hg hk hi he I2 T st2 f2 q2 ?_
  intro p C s' H' ⟨m, hn⟩ fC I' q
  show wpAny _ X.A (assign (.Name y py) X.env (.ref p)) _ _ s'
  refine wpAny_assign_Name (store_ok2 I' hN hi' (.inl hy) (show RelV (.ref p) (.ref p) from rfl) (fun s'' I'' ⟨a, hs1, ha⟩ => ?_) (.inr hy))
  have hne : C ≠ a := by
    rcases ha with ha | ha
    · rw [ha]; exact fC.2.1
    · exact (fC.2.2.2.2.1 y a ha).symm
  exact ⟨m, hn.sameBut hs1 hne, fun h'' hs'' => ⟨_, H', I''.letgo fC hs'', q⟩⟩
end
end L2
set_option Elab.async false
set_option linter.all false
set_option maxRecDepth 100000
set_option maxHeartbeats 4000000
namespace L2
open PySem PySem.Spec PyProof.Rows
noncomputable def Its (x : Str) : It := ⟨fun i _ => i < x.cps.size, fun i H v H' => H' = H ∧ ∃ c, x.cps[i]? = some c ∧ v = .str ⟨#[c]⟩, fun i _ => x.cps.size ≤ i⟩
section
variable {X : Cx} {tg : Expr}
theorem turn_of {P : Program} {w : World} {K : PySem.W.Frag} {tg : Expr} {it : Addr} {n : Nat} {PV : Nat → Value → Prop} {val : Nat → V → Prop} {St : Nat → Heap → Prop} (W : ∀ A : Around, A.handled = none → Walks P w A it [it] [it] n PV St)
    (hself : ∀ (A : Around) (i : Nat) (s : Shared) (Q : Value → Shared → Prop) (E : Value → Shared → Prop), St i s.heap → Q (.ref it) s → wpAny (model P w) A (pyIter (.ref it)) Q E s)
    (hv : ∀ i u, PV i u → ∃ v, RelV v u ∧ val i v) (hto : ∀ i h, St i h → ∃ o T vs, h.get? it = some o ∧ o.cls = .type T ∧ o.data = .fields vs ∧ ["enumerate", "zip", "dict_itemiterator", "dict_reverseitemiterator", "odict_iterator", "itertools.zip_longest", "itertools.pairwise"].contains T = false) :
    Turn P w K tg ⟨fun i _ => i < n, fun i H v H' => H' = H ∧ val i v, fun i _ => n ≤ i⟩ [it] it (fun i h => St i h ∧ i ≤ n) where
  mem := by simp
  obj := fun i h st b hb => by
    have e : b = it := by simpa using hb
    subst e
    obtain ⟨o, T, vs, e1, e2, e3, e4⟩ := hto i h st.1
    exact ⟨o, e1, fun v z => by rw [e3] at z; cases z⟩
  keep := fun i h h' st k => ⟨(W { handled := none } rfl).frame i h h' st.1 k, st.2⟩
  item := by
    intro X hP hw hK hc i pins s σ H E I hf st hg
    subst hP hw hK
    obtain ⟨f0, f1, f2, f3, f4, f5⟩ := hf it (by simp)
    refine (W X.A (I.ok.hd hc)).item i s _ _ hg st.1 fun u h' tk hp st' kk => ?_
    obtain ⟨v, rv, vv⟩ := hv i u hp
    have I1 : Inv X pins σ H { s with heap := h', toks := tk } := I.turned (fun b o hb e => kk b o (by simpa using hb) e) f0 f1 f3 f4 f5
    obtain ⟨o, T, vs, e1, e2, e3, e4⟩ := hto _ _ st'
    exact ⟨u, rfl, go_of (s := { s with heap := h', toks := tk }) e1 e2 e3 e4 ⟨v, H, I1, rv, ⟨rfl, vv⟩, ⟨st', hg⟩, fun b hb => (hf b hb).1⟩⟩
  done := by
    intro X hP hw hK hc i pins s σ H E I hf st hg
    subst hP hw hK
    obtain ⟨f0, f1, f2, f3, f4, f5⟩ := hf it (by simp)
    have e : i = n := Nat.le_antisymm st.2 hg
    subst e
    exact (W X.A (I.ok.hd hc)).done s _ _ st.1 fun h' tk kk => ⟨rfl, I.turned (fun b o hb e => kk b o (by simpa using hb) e) f0 f1 f3 f4 f5⟩
  self := fun A i s Q E st h => hself A i s Q E st.1 h
theorem it_str {pins : List (Addr × Obj)} {σ : St} {H1 : Hp} {s1 : Shared} {R : It → Hp → Prop} {E : Value → Shared → Prop} {z : Str} {v : Value} (I1 : Inv X pins σ H1 s1) (r1 : RelV (.str z) v) (q : R (Its z) H1) : wpAny (model X.prog X.w) X.A (pyIter v) (PIE X pins σ tg R) E s1 := by
  obtain ⟨t, rfl⟩ := r1
  have sv : ∀ i u, SignAt z i u → ∃ v, RelV v u ∧ ∃ c, z.cps[i]? = some c ∧ v = .str ⟨#[c]⟩ := fun i u ⟨c, tu, hc, hu⟩ => ⟨.str ⟨#[c]⟩, ⟨tu, hu⟩, c, hc, rfl⟩
  have fin : ∀ (o : Obj) (St : Nat → Heap → Prop) (n : Nat), St 0 (s1.heap.push o) → Turn X.prog X.w X.K tg (Its z) [s1.heap.objs.size] s1.heap.objs.size (fun i h => St i h ∧ i ≤ z.cps.size) → PIE X pins σ tg R (.ref s1.heap.objs.size) { s1 with heap := s1.heap.push o } := fun o St n h0 T => by
    refine ⟨s1.heap.objs.size, [s1.heap.objs.size], _, _, H1, rfl, I1.kept (t' := s1.toks) fun b ob e => Heap.get?_push_of_some _ e, T, ⟨h0, Nat.zero_le _⟩, fun b hb => ?_, q⟩
    have e : b = s1.heap.objs.size := by simpa using hb
    subst e
    exact I1.fpOk (Nat.le_refl _) (I1.hok.fresh (Nat.le_refl _))
  cases ha : z.cps.all (· < 128)
  · exact wpAny_pyIter_wide ha (fin _ _ 0 ⟨_, Heap.get?_push_size _ rfl, rfl, rfl⟩ (turn_of (fun A hA => Walks.strWide hA _ z t) (fun _ _ _ _ _ st hq => wpAny_pyIter_striter_wide st hq) sv fun i h ⟨o, ho, hc, hd⟩ => ⟨o, _, _, ho, hc, hd, by decide⟩))
  · exact wpAny_pyIter_ascii ha (fin _ _ 0 ⟨_, Heap.get?_push_size _ rfl, rfl, rfl⟩ (turn_of (fun A hA => Walks.strAscii hA _ z t) (fun _ _ _ _ _ st hq => wpAny_pyIter_striter_ascii st hq) sv fun i h ⟨o, ho, hc, hd⟩ => ⟨o, _, _, ho, hc, hd, by decide⟩))
end
section
variable {X : Cx}
noncomputable def rSlS : V → Option Int → Option Int → Hp → VK → Prop := fun x lo hi H Q => ∃ z, x = .str z ∧ z.length ≤ sizeLine ∧ Q (.str (Txt.slice z lo hi)) H
theorem sl_str : SlR X rSlS := by
  intro pins s σ H x v vl vu lo hi sl Q I rx hs pl pu h
  obtain ⟨z, rfl, hz, q⟩ := h
  obtain ⟨t, rfl⟩ := rx
  have fin : ∀ t' k, EP X pins σ Q (.str (Txt.slice z lo hi) t') { s with toks := k } := fun t' k => ⟨.str _, H, I.tok _, ⟨_, rfl⟩, q⟩
  have sz := Nat.le_trans (Txt.slice_le z lo hi) hz
  refine ⟨"str", _, F.slot_str_getitem.lookup, typeIs_str _ _ _, ?_⟩
  cases pl with
  | none =>
    cases pu with
    | none => exact wpAny_getItem_str_slice (l := none) (u := none) (st := none) hs rfl (post_val_or_str ⟨sz, fin⟩)
    | int j uj => exact wpAny_getItem_str_slice (l := none) (u := some (j, uj)) (st := none) hs rfl (post_val_or_str ⟨sz, fin⟩)
  | int i ui =>
    cases pu with
    | none => exact wpAny_getItem_str_slice (l := some (i, ui)) (u := none) (st := none) hs rfl (post_val_or_str ⟨sz, fin⟩)
    | int j uj => exact wpAny_getItem_str_slice (l := some (i, ui)) (u := some (j, uj)) (st := none) hs rfl (post_val_or_str ⟨sz, fin⟩)
theorem strs_of : ∀ {ys : List Str} {us : List Value}, Vals (ys.map V.str) us → StrsAre us ys
  | [], _, .nil => .nil
  | y :: ys, _, .cons r t => by
    obtain ⟨tk, rfl⟩ := r
    exact .cons y tk (strs_of t)
noncomputable def rFind : V → List V → Hp → VK → Prop := fun x vs H Q => ∃ z y, x = .str z ∧ vs = [.str y] ∧ Q (.int (Txt.find z y)) H
theorem call_isinst : CallR X (.builtin "isinstance") (fun xs H Q => ∃ x c t b, xs = [x, .ty c] ∧ TyOf X.K H x t ∧ PySem.W.kitOne X.K t (.type c) = some b ∧ Q (.bl b) H) := by
  intro pins s σ H xs us Q I r h
  obtain ⟨x, c, t, b, rfl, ty, e, q⟩ := h
  obtain ⟨u, w', rfl, r1, r2⟩ := vals2 r
  cases r2
  exact isinst_ok I r1 ty e fun tk => ⟨.bl _, H, I.tok _, rfl, q⟩
theorem call_isinstR : CallR X (.builtin "isinstance") (fun xs H Q => ∃ x c t b, xs = [x, .ref c] ∧ TyOf X.K H x t ∧ PySem.W.kitOne X.K t (.ref c) = some b ∧ Q (.bl b) H) := by
  intro pins s σ H xs us Q I r h
  obtain ⟨x, c, t, b, rfl, ty, e, q⟩ := h
  obtain ⟨u, w', rfl, r1, r2⟩ := vals2 r
  cases r2
  exact isinst_ok I r1 ty e fun tk => ⟨.bl _, H, I.tok _, rfl, q⟩
theorem call_isinstQ : CallR X (.builtin "isinstance") (fun xs H Q => ∃ a ys c b, xs = [V.ref a, .ty c] ∧ ((SqT X.K H a ys ∧ PySem.W.kitOne X.K (.type "tuple") (.type c) = some b) ∨ (SqL X.K H a ys ∧ PySem.W.kitOne X.K (.type "list") (.type c) = some b)) ∧ Q (.bl b) H) := by
  intro pins s σ H xs us Q I r h
  obtain ⟨a, ys, c, b, rfl, ty, q⟩ := h
  obtain ⟨u, w', rfl, r1, r2⟩ := vals2 r
  cases r2
  cases r1
  rcases ty with ⟨ty, e⟩ | ⟨ty, e⟩
  · obtain ⟨its, _, p, _⟩ := I.tuple ty
    obtain ⟨o, h1, h2, _⟩ := p
    exact PySem.W.kia_one PySem.W.kitx_tuple I.kIn ⟨o, h1, h2⟩ e (fun z => nomatch z) fun tk => ⟨.bl _, H, I.tok _, rfl, q⟩
  · obtain ⟨its, _, p, _⟩ := I.list ty
    obtain ⟨o, h1, h2, _⟩ := p.isList
    exact PySem.W.kia_one PySem.W.kitx_list I.kIn ⟨o, h1, h2⟩ e (fun z => nomatch z) fun tk => ⟨.bl _, H, I.tok _, rfl, q⟩
theorem bools_at {bs : List Bool} {its : List Value} (r : Vals (bs.map V.bl) its) (i : Nat) (v : Value) (h : its[i]? = some v) : ∃ b, bs[i]? = some b ∧ v = .bool b := by
  have hl := r.length
  have hi : i < its.length := (List.getElem?_eq_some_iff.mp h).1
  have hb : i < bs.length := by rw [List.length_map] at hl; omega
  obtain ⟨u, hu, ru⟩ := r.get (i := i) (x := .bl bs[i]) (by rw [List.getElem?_map, List.getElem?_eq_getElem hb]; rfl)
  rw [h] at hu
  cases hu
  exact ⟨bs[i], List.getElem?_eq_getElem hb, ru⟩
theorem range_all (bs : List Bool) : (List.range bs.length).all (fun i => (bs[i]?).getD false) = bs.all id := by
  rw [Bool.eq_iff_iff, List.all_eq_true, List.all_eq_true]
  constructor
  · intro h b hb
    obtain ⟨i, hi, e⟩ := List.mem_iff_getElem.mp hb
    have := h i (List.mem_range.mpr hi)
    rw [List.getElem?_eq_getElem hi] at this
    rw [← e]
    exact this
  · intro h i hi
    rw [List.getElem?_eq_getElem (List.mem_range.mp hi)]
    exact h _ (List.getElem_mem _)
theorem range_any (bs : List Bool) : (List.range bs.length).any (fun i => (bs[i]?).getD false) = bs.any id := by
  rw [Bool.eq_iff_iff, List.any_eq_true, List.any_eq_true]
  constructor
  · rintro ⟨i, hi, h⟩
    rw [List.getElem?_eq_getElem (List.mem_range.mp hi)] at h
    exact ⟨_, List.getElem_mem _, h⟩
  · rintro ⟨b, hb, h⟩
    obtain ⟨i, hi, e⟩ := List.mem_iff_getElem.mp hb
    refine ⟨i, List.mem_range.mpr hi, ?_⟩
    rw [List.getElem?_eq_getElem hi, e]
    exact h
theorem call_all (hc : X.calm = true) : CallR X (.builtin "all") (fun xs H Q => ∃ (a : Addr) (bs : List Bool), xs = [.ref a] ∧ SqL X.K H a (bs.map V.bl) ∧ Q (.bl (bs.all id)) H) := by
  intro pins s σ H xs us Q I r h
  obtain ⟨a, bs, rfl, hl, q⟩ := h
  obtain ⟨u, rfl, ru⟩ := vals1 r
  cases ru
  obtain ⟨its, rv, pl, hz⟩ := I.list hl
  have hlen := rv.length
  have hne : a ≠ s.heap.objs.size := by obtain ⟨o, n, ho, _⟩ := pl; exact Nat.ne_of_lt (Heap.lt_size ho)
  refine call_all_walk (wpAny_pyIter_list pl.isList ?_)
  refine ⟨_, _, _, _, _, _, fun i => (bs[i]?).getD false, rfl, Walks.list (A := X.A.in1) (I.ok.hd hc) _ a hne its.toArray, ⟨⟨_, Heap.get?_push_size _ rfl, rfl, rfl⟩, pl.isList.at fun o e => Heap.get?_push_of_some _ e⟩, fun i v s' Q' E' hp hq => ?_, fun h' tk hk => ?_⟩
  · obtain ⟨b, hb, rfl⟩ := bools_at rv i v (by simpa using hp)
    dsimp only at hq; rw [hb] at hq
    exact wpAny_truthy_bool hq
  · refine ⟨.bl _, H, I.kept (t' := tk) fun b ob e => hk b ob (fun hm => absurd (Heap.lt_size e) (by rw [show b = s.heap.objs.size by simpa using hm]; exact Nat.lt_irrefl _)) (Heap.get?_push_of_some _ e), ?_, q⟩
    have e1 : its.toArray.size = bs.length := by rw [List.size_toArray, ← hlen, List.length_map]
    rw [e1, range_all]
    rfl
theorem call_any (hc : X.calm = true) : CallR X (.builtin "any") (fun xs H Q => ∃ (a : Addr) (bs : List Bool), xs = [.ref a] ∧ SqL X.K H a (bs.map V.bl) ∧ Q (.bl (bs.any id)) H) := by
  intro pins s σ H xs us Q I r h
  obtain ⟨a, bs, rfl, hl, q⟩ := h
  obtain ⟨u, rfl, ru⟩ := vals1 r
  cases ru
  obtain ⟨its, rv, pl, hz⟩ := I.list hl
  have hlen := rv.length
  have hne : a ≠ s.heap.objs.size := by obtain ⟨o, n, ho, _⟩ := pl; exact Nat.ne_of_lt (Heap.lt_size ho)
  refine call_any_walk (wpAny_pyIter_list pl.isList ?_)
  refine ⟨_, _, _, _, _, _, fun i => (bs[i]?).getD false, rfl, Walks.list (A := X.A.in1) (I.ok.hd hc) _ a hne its.toArray, ⟨⟨_, Heap.get?_push_size _ rfl, rfl, rfl⟩, pl.isList.at fun o e => Heap.get?_push_of_some _ e⟩, fun i v s' Q' E' hp hq => ?_, fun h' tk hk => ?_⟩
  · obtain ⟨b, hb, rfl⟩ := bools_at rv i v (by simpa using hp)
    dsimp only at hq; rw [hb] at hq
    exact wpAny_truthy_bool hq
  · refine ⟨.bl _, H, I.kept (t' := tk) fun b ob e => hk b ob (fun hm => absurd (Heap.lt_size e) (by rw [show b = s.heap.objs.size by simpa using hm]; exact Nat.lt_irrefl _)) (Heap.get?_push_of_some _ e), ?_, q⟩
    have e1 : its.toArray.size = bs.length := by rw [List.size_toArray, ← hlen, List.length_map]
    rw [e1, range_any]
    rfl
end
section
variable {X : Cx} {x : Str} {pos : Pos}
theorem pe_gl {v : V} (hg : Gl X x) (hm : ∃ u, X.mg x = some u ∧ RelV v u) (hd : (x == ("__debug__" : Str)) = false := by decide) : PE X (.Name x pos) (tC v) := by
  obtain ⟨u, h1, h2⟩ := hm
  exact pe_glob hg h1 h2 hd
end
section
variable {X : Cx} {K : PySem.W.Frag}
noncomputable def rCat0 (K : PySem.W.Frag) : R2 := fun x y H Q => ∃ a b ys, x = .ref a ∧ y = .ref b ∧ SqT K H a [] ∧ SqT K H b ys ∧ Q (.ref b) H
theorem op_cat0 : OpR X (binaryOp .Add) (rCat0 X.K) := by
  intro pins s σ H x y v u Q I rx ry h
  obtain ⟨a, b, ys, rfl, rfl, ha, hb, q⟩ := h
  cases rx
  cases ry
  obtain ⟨its, r1, p1, _⟩ := I.tuple ha
  obtain ⟨its2, r2, p2, _⟩ := I.tuple hb
  cases r1
  obtain ⟨⟨cls, dd, data, sl⟩, ho, hc, n, hd⟩ := id p1
  obtain ⟨⟨cls2, dd2, data2, sl2⟩, ho2, hc2, n2, hd2⟩ := id p2
  simp only at hc hd hc2 hd2
  subst hc hd hc2 hd2
  exact concat_meets ⟨_, ho, rfl⟩ ⟨_, ho2, rfl⟩ noFill_tuple_add seq_tuple_add PySem.F.slot_tuple_add PySem.F.entry_tuple_add (PySem.F.args_tuple_add_2 _ _) (tuple_addW0 a b _ _ n n2 dd dd2 sl sl2 (by simp)) ⟨ho, ho2, ⟨.ref b, H, I, rfl, q⟩⟩
noncomputable def rSlW (K : PySem.W.Frag) : V → Option Int → Option Int → Hp → VK → Prop := fun x lo hi H Q => ∃ a xs, x = .ref a ∧ SqT K H a xs ∧ (HT.sIx xs.length 0 lo = 0 ∧ HT.sIx xs.length xs.length hi = xs.length) ∧ Q (.ref a) H
theorem sl_whole : SlR X (rSlW X.K) := by
  intro pins s σ H x v vl vu lo hi sl Q I rx hs pl pu h
  obtain ⟨a, xs, rfl, hx, hw, q⟩ := h
  cases rx
  obtain ⟨its, r, ht, hz⟩ := I.tuple hx
  have hlen : its.toArray.size = xs.length := by rw [List.size_toArray]; exact r.length.symm
  refine ⟨"tuple", _, PyProof.Rows.slot_tuple_getitem.lookup, ht.typeIs, ?_⟩
  obtain ⟨os, hos, hcs, hds⟩ := id hs
  have hTs : s.TypeIs (.ref sl) "slice" := ⟨os, hos, hcs⟩
  unfold getItem
  try with_reducible refine wpAny_holding ?_
  first | refine wpAny_bind (wpAny_pure ?_) | skip
  refine wpAny_bind (wpAny_sequenceKey ht.typeIs (by decide) ?_)
  refine wpAny_bind (wpAny_callSpecial?_slot (name := Str.ofString "__getitem__") ht.typeIs PyProof.Rows.slot_tuple_getitem (wpAny_call_entry PyProof.Rows.slot_tuple_getitem ht.typeIs entry_tuple_getitem ?_ (args_tuple_getitem _ _)))
  refine wpAny_bind (m := Builtin.Tuple.tupleItemsOf (.ref a)) (tupleItemsOf_ ht ?_)
  refine wpAny_bind (wpAny_typeOf hTs ?_)
  rw [if_pos (by decide)]
  refine wpAny_bind (HT.sliceApplied_gen hs pl pu ?_)
  have yes : (((HT.sIx its.toArray.size 0 lo : Nat) : Int) == 0 && (1 : Int) == 1 && (HT.sIx its.toArray.size its.toArray.size hi - HT.sIx its.toArray.size 0 lo) == its.toArray.size) = true := by
    rw [hlen, hw.1, hw.2]
    simp
  show wpAny _ _ (if (((HT.sIx its.toArray.size 0 lo : Nat) : Int) == 0 && (1 : Int) == 1 && (HT.sIx its.toArray.size its.toArray.size hi - HT.sIx its.toArray.size 0 lo) == its.toArray.size) = true then _ else _) _ _ s
  rw [if_pos yes]
  have fin : ∀ s', s' = s → EP X pins σ Q (.ref a) s' := fun s' e => by subst e; exact ⟨.ref a, H, I, rfl, q⟩
  unfold Builtin.Tuple.tupleIsExact
  obtain ⟨hp, g, d, tk, os⟩ := s
  have hT := ht.typeIs
  repeat (any_goals (first | assumption | wp_step))
  exact ⟨_, rfl, wpAny_pure (fin _ rfl)⟩
end
theorem Inv.freeze {X : Cx} {pins : List (Addr × Obj)} {σ : St} {H : Hp} {s : Shared} {d : Addr} {kvs : List (Key × V)} {o : Obj} (I : Inv X pins σ H s) (hd : H d = some (.dK kvs)) (ho : s.heap.get? d = some o) : Inv X pins σ (upd H d (.frz o (.dK kvs))) s := by
  have nn : ∀ b, H b = none → upd H d (.frz o (.dK kvs)) b = none := fun b h => by rw [upd_ne (Ne.symm (ne_of_none hd h))]; exact h
  have other : ∀ b u, H b = some u → u ≠ .dK kvs → upd H d (.frz o (.dK kvs)) b = some u := fun b u h q => by rw [upd_ne (ne_of h hd q)]; exact h
  refine ⟨I.ok, I.os, I.bare, ⟨I.base.keep, I.base.slot, fun b ob q n hx => nn b (I.base.free b ob q n hx), I.base.there, fun b xs q => other b _ (I.base.tups b xs q) (by intro z; cases z), fun b ob u q => other b _ (I.base.frzs b ob u q) (by intro z; cases z), fun b ps q => ?_⟩, I.loc, I.cell, nn _ I.free, fun x c q => nn _ (I.freeC x c q), fun p hp => ?_, fun b u q => ?_, I.len⟩
  · obtain ⟨more, h⟩ := I.base.tbls b ps q
    exact ⟨more, other b _ h (by intro z; cases z)⟩
  · obtain ⟨a1, a2, a3⟩ := I.pin p hp
    exact ⟨a1, nn _ a2, a3⟩
  · by_cases e : b = d
    · subst e
      rw [upd_same] at q
      cases q
      exact ⟨ho, (I.hok b _ hd).stay (fun c v hc z => z) (fun c z => other c _ z (by intro w; cases w)) fun c xs z => other c _ z (by intro w; cases w)⟩
    · rw [upd_ne e] at q
      exact (I.hok b u q).stay (fun c v hc z => z) (fun c z => other c _ z (by intro w; cases w)) fun c xs z => other c _ z (by intro w; cases w)
noncomputable def Itd (a : Addr) (o : Obj) (kvs : List (Key × V)) : It :=
  ⟨fun i H => H a = some (.frz o (.dK kvs)) ∧ i < kvs.length, fun i H x H' => H' = H ∧ ∃ kv, kvs[i]? = some kv ∧ x = kV kv.1, fun i H => H a = some (.frz o (.dK kvs)) ∧ kvs.length ≤ i⟩
theorem key_rel {k : Key} {u : Value} (h : keyIs k u = true) : RelV (kV k) u := by
  rcases keyIs_shape h with ⟨i, t, rfl, rfl⟩ | ⟨x, t, rfl, rfl⟩
  · exact ⟨t, rfl⟩
  · exact ⟨t, rfl⟩
theorem dict_at {X : Cx} {pins : List (Addr × Obj)} {σ : St} {H : Hp} {s : Shared} {a : Addr} {kvs : List (Key × V)} {o : Obj} {es : Array DictEntry} {ep : Nat} (I : Inv X pins σ H s) (h : H a = some (.frz o (.dK kvs))) (ho : o.data = .dict es ep) : ∃ vs, KV kvs vs ∧ s.heap.DictAt (mixKind X.prog X.w) a vs ep := by
  obtain ⟨h1, _, _, vs, r, o', es', ep', h2, c, hd, rest⟩ := I.hok a _ h
  rw [h1] at h2
  cases h2
  rw [ho] at hd
  cases hd
  exact ⟨vs, r, o, es, h1, c, ho, rest⟩
theorem KV.get : ∀ {kvs : List (Key × V)} {vs : List (Key × Value)} {i : Nat} {kv : Key × V}, KV kvs vs → kvs[i]? = some kv → ∃ u, vs[i]? = some (kv.1, u) ∧ RelV kv.2 u
  | _, _, _, _, .nil, e => by simp at e
  | _, _, 0, kv, .cons r _, e => by
    simp at e
    subst e
    exact ⟨_, congrArg some (Prod.ext r.1.symm rfl), r.2⟩
  | _, _, i + 1, kv, .cons _ t, e => by
    obtain ⟨u, h1, h2⟩ := KV.get (i := i) t (by simpa using e)
    exact ⟨u, by simpa using h1, h2⟩
theorem turn_dict {P : Program} {w : World} {K : PySem.W.Frag} {tg : Expr} (a it : Addr) (o : Obj) (kvs : List (Key × V)) (es : Array DictEntry) (ep : Nat) (hd : o.data = .dict es ep) : Turn P w K tg (Itd a o kvs) [it] it (fun i h => h.IsKeyIter it a i kvs.length ep) where
  mem := by simp
  obj := fun i h st b hb => by
    have e : b = it := by simpa using hb
    subst e
    obtain ⟨o, e, c, d⟩ := st
    exact ⟨o, e, fun v z => by rw [d] at z; cases z⟩
  keep := fun i h h' st k => st.at fun o e => k it (by simp) o e
  item := by
    intro X hP hw hK hc i pins s σ H E I hf st hg
    subst hP hw hK
    obtain ⟨hH, hi⟩ := hg
    obtain ⟨vs, rv, hat⟩ := dict_at I hH hd
    have hl : kvs.length = vs.length := Paired.length rv
    obtain ⟨kv, hkv⟩ : ∃ kv, kvs[i]? = some kv := ⟨kvs[i], List.getElem?_eq_getElem hi⟩
    obtain ⟨u, hu, _⟩ := KV.get rv hkv
    obtain ⟨f0, f1, f2, f3, f4, f5⟩ := hf it (by simp)
    rw [hl] at st
    refine wpAny_pyNext_dict_item st hat hu fun key h' hkey hit' hs' => ?_
    have I1 : Inv X pins σ H { s with heap := h' } := I.turned (t' := s.toks) (fun b o hb e => (hs'.2 b hb).trans e) f0 f1 f3 f4 f5
    obtain ⟨o', e, c, d⟩ := id hit'
    exact ⟨key, rfl, go_of (s := { s with heap := h' }) e c d (by decide) ⟨kV kv.1, H, I1, key_rel hkey, ⟨rfl, kv, hkv, rfl⟩, by rw [hl]; exact hit', fun b hb => (hf b hb).1⟩⟩
  done := by
    intro X hP hw hK hc i pins s σ H E I hf st hg
    subst hP hw hK
    obtain ⟨hH, hi⟩ := hg
    obtain ⟨vs, rv, hat⟩ := dict_at I hH hd
    have hl : kvs.length = vs.length := Paired.length rv
    obtain ⟨f0, f1, f2, f3, f4, f5⟩ := hf it (by simp)
    rw [hl] at st
    exact wpAny_pyNext_dict_end (I.ok.hd hc) st hat (List.getElem?_eq_none (by omega)) fun h' eb => ⟨rfl, I.turned (t' := s.toks) (fun b o hb e => eb b o hb e) f0 f1 f3 f4 f5⟩
  self := fun A i s Q E st hQ => wpAny_pyIter_keyiter st hQ
theorem it_dict {X : Cx} {tg : Expr} {pins : List (Addr × Obj)} {σ : St} {H : Hp} {s : Shared} {a : Addr} {kvs : List (Key × V)} {R : It → Hp → Prop} {E : Value → Shared → Prop} (I : Inv X pins σ H s) (h : H a = some (.dK kvs)) (q : ∀ o, R (Itd a o kvs) (upd H a (.frz o (.dK kvs)))) :
    wpAny (model X.prog X.w) X.A (pyIter (.ref a)) (PIE X pins σ tg R) E s := by
  obtain ⟨_, hs, vs, rv, o, es, ep, ho, c, hd, rest⟩ := I.hok a _ h
  have I1 := I.freeze h ho
  have hl : kvs.length = vs.length := Paired.length rv
  refine wpAny_pyIter_dict (knd := mixKind X.prog X.w) hs ⟨o, es, ho, c, hd, rest⟩ ?_
  rw [← hl]
  refine ⟨s.heap.objs.size, [s.heap.objs.size], _, _, _, rfl, I1.kept (t' := s.toks) fun b o e => Heap.get?_push_of_some _ e, turn_dict a _ o kvs es ep hd, ⟨_, Heap.get?_push_size _ rfl, rfl, rfl⟩, fun b hb => ?_, q o⟩
  have e : b = s.heap.objs.size := by simpa using hb
  subst e
  exact I1.fpOk (Nat.le_refl _) (I1.hok.fresh (Nat.le_refl _))
theorem it_dictF {X : Cx} {tg : Expr} {pins : List (Addr × Obj)} {σ : St} {H : Hp} {s : Shared} {a : Addr} {kvs : List (Key × V)} {o : Obj} {R : It → Hp → Prop} {E : Value → Shared → Prop} (I : Inv X pins σ H s) (h : H a = some (.frz o (.dK kvs))) (q : R (Itd a o kvs) H) :
    wpAny (model X.prog X.w) X.A (pyIter (.ref a)) (PIE X pins σ tg R) E s := by
  obtain ⟨ho', _, hs, vs, rv, o', es, ep, ho, c, hd, rest⟩ := I.hok a _ h
  rw [ho'] at ho
  cases ho
  have hl : kvs.length = vs.length := Paired.length rv
  refine wpAny_pyIter_dict (knd := mixKind X.prog X.w) hs ⟨o, es, ho', c, hd, rest⟩ ?_
  rw [← hl]
  refine ⟨s.heap.objs.size, [s.heap.objs.size], _, _, _, rfl, I.kept (t' := s.toks) fun b o e => Heap.get?_push_of_some _ e, turn_dict a _ o kvs es ep hd, ⟨_, Heap.get?_push_size _ rfl, rfl, rfl⟩, fun b hb => ?_, q⟩
  have e : b = s.heap.objs.size := by simpa using hb
  subst e
  exact I.fpOk (Nat.le_refl _) (I.hok.fresh (Nat.le_refl _))
end L2
set_option Elab.async false
set_option linter.all false
set_option maxRecDepth 100000
set_option maxHeartbeats 4000000
namespace L2
open PySem PySem.Spec PyProof.Rows
theorem Same.seqT {K : PySem.W.Frag} {H H' : Hp} {a : Addr} {xs : List V} (e : Same H H') (h : SqT K H a xs) : SqT K H' a xs := by
  rcases h with (h | ⟨o, h⟩) | h
  · exact .inl (.inl (e _ _ h))
  · exact .inl (.inr ⟨o, e _ _ h⟩)
  · exact .inr h
mutual
def Is (K : PySem.W.Frag) (H : Hp) : PyData → V → Prop
  | .none, v => v = .non
  | .bool b, v => v = .bl b
  | .int i, v => v = .int i
  | .str x, v => v = .str x
  | .list ds, v => ∃ a xs, v = .ref a ∧ SqL K H a xs ∧ IsL K H ds xs
  | .tuple ds, v => ∃ a xs, v = .ref a ∧ SqT K H a xs ∧ IsL K H ds xs
  | .dict _, _ => False
def IsL (K : PySem.W.Frag) (H : Hp) : List PyData → List V → Prop
  | [], vs => vs = []
  | d :: ds, vs => ∃ v r, vs = v :: r ∧ Is K H d v ∧ IsL K H ds r
end
mutual
theorem Is.mono {K : PySem.W.Frag} {H H' : Hp} (e : Same H H') : ∀ (d : PyData) (v : V), Is K H d v → Is K H' d v
  | .none, _, h => by simp only [Is] at h ⊢; exact h
  | .bool _, _, h => by simp only [Is] at h ⊢; exact h
  | .int _, _, h => by simp only [Is] at h ⊢; exact h
  | .str _, _, h => by simp only [Is] at h ⊢; exact h
  | .list ds, v, h => by
    simp only [Is] at h ⊢
    obtain ⟨a, xs, e1, e2, e3⟩ := h
    exact ⟨a, xs, e1, e.seq e2, IsL.mono e ds xs e3⟩
  | .tuple ds, v, h => by
    simp only [Is] at h ⊢
    obtain ⟨a, xs, e1, e2, e3⟩ := h
    exact ⟨a, xs, e1, e.seqT e2, IsL.mono e ds xs e3⟩
  | .dict _, _, h => by simp only [Is] at h
theorem IsL.mono {K : PySem.W.Frag} {H H' : Hp} (e : Same H H') : ∀ (ds : List PyData) (vs : List V), IsL K H ds vs → IsL K H' ds vs
  | [], _, h => by simp only [IsL] at h ⊢; exact h
  | d :: ds, vs, h => by
    simp only [IsL] at h ⊢
    obtain ⟨v, r, e1, e2, e3⟩ := h
    exact ⟨v, r, e1, Is.mono e d v e2, IsL.mono e ds r e3⟩
end
section
variable {X : Cx} {pins : List (Addr × Obj)} {σ : St} {H : Hp} {s : Shared}
mutual
theorem Is.reads (I : Inv X pins σ H s) : ∀ (d : PyData) (v : V) (u : Value), Is X.K H d v → RelV v u → ∃ as, Reads s.heap u d as
  | .none, v, u, i, r => by
    simp only [Is] at i
    subst i
    cases r
    exact ⟨_, .none⟩
  | .bool b, v, u, i, r => by
    simp only [Is] at i
    subst i
    cases r
    exact ⟨_, .bool b⟩
  | .int n, v, u, i, r => by
    simp only [Is] at i
    subst i
    obtain ⟨t, rfl⟩ := r
    exact ⟨_, .int n t⟩
  | .str x, v, u, i, r => by
    simp only [Is] at i
    subst i
    obtain ⟨t, rfl⟩ := r
    exact ⟨_, .str x t⟩
  | .list ds, v, u, i, r => by
    simp only [Is] at i
    obtain ⟨a, xs, rfl, e2, e3⟩ := i
    cases r
    obtain ⟨its, rv, ⟨o, n, e, hc, hd, hs⟩, _⟩ := I.list e2
    obtain ⟨as, ra⟩ := IsL.reads I ds xs its e3 rv
    exact ⟨_, .list e hc hs (by simpa using ra)⟩
  | .tuple ds, v, u, i, r => by
    simp only [Is] at i
    obtain ⟨a, xs, rfl, e2, e3⟩ := i
    cases r
    obtain ⟨its, rv, ⟨o, e, hc, n, hd⟩, _⟩ := I.tuple e2
    obtain ⟨as, ra⟩ := IsL.reads I ds xs its e3 rv
    exact ⟨_, .tuple e hc hd (by simpa using ra)⟩
  | .dict _, _, _, i, _ => by simp only [Is] at i
theorem IsL.reads (I : Inv X pins σ H s) : ∀ (ds : List PyData) (vs : List V) (us : List Value), IsL X.K H ds vs → Vals vs us → ∃ as, ReadsAll s.heap us ds as
  | [], vs, us, i, r => by
    simp only [IsL] at i
    subst i
    cases r
    exact ⟨_, .nil⟩
  | d :: ds, vs, us, i, r => by
    simp only [IsL] at i
    obtain ⟨v, rr, rfl, e2, e3⟩ := i
    cases r with
    | cons r1 r2 =>
      obtain ⟨a1, h1⟩ := Is.reads I d v _ e2 r1
      obtain ⟨a2, h2⟩ := IsL.reads I ds rr _ e3 r2
      exact ⟨_, .cons h1 h2⟩
end
end
theorem is_ints {K : PySem.W.Frag} {H : Hp} : ∀ ns : List Int, IsL K H (ns.map PyData.int) (ns.map V.int)
  | [] => by simp only [List.map_nil, IsL]
  | n :: r => by
    simp only [List.map_cons, IsL]
    exact ⟨_, _, rfl, by simp only [Is], is_ints r⟩
theorem is_strs {K : PySem.W.Frag} {H : Hp} : ∀ ns : List Str, IsL K H (ns.map PyData.str) (ns.map V.str)
  | [] => by simp only [List.map_nil, IsL]
  | n :: r => by
    simp only [List.map_cons, IsL]
    exact ⟨_, _, rfl, by simp only [Is], is_strs r⟩
theorem is_listI {K : PySem.W.Frag} {H : Hp} {a : Addr} {ns : List Int} (h : SqL K H a (ns.map V.int)) : Is K H (.list (ns.map PyData.int)) (.ref a) := by
  simp only [Is]
  exact ⟨a, _, rfl, h, is_ints ns⟩
structure QA (A : Around) : Prop where
  un : A.units + 150 < cLine
  gd : A.guards = some []
theorem qa_of {A : Around} {k : Nat} (hr : Room k A) : QA A := ⟨by have := hr.un; omega, hr.gd⟩
section
variable {X : Cx}
noncomputable def rAddA (K : PySem.W.Frag) : R2 := fun x y H Q => (∃ i j, x = .int i ∧ y = .int j ∧ Q (.int (i + j)) H) ∨ (∃ i j, x = .str i ∧ y = .str j ∧ i.length + j.length ≤ sizeLine ∧ Q (.str (i ++ j)) H) ∨ rCat x y H Q ∨ rCatT K x y H Q ∨ rCat0 K x y H Q
theorem op_addA : OpR X (binaryOp .Add) (rAddA X.K) := op_add.or (op_add_str.or (op_cat.or (op_catT.or op_cat0)))
noncomputable def rMulA : R2 := fun x y H Q => (∃ i j, x = .int i ∧ y = .int j ∧ CMul i j ∧ Q (.int (i * j)) H) ∨ rRep x y H Q
theorem op_mulA : OpR X (binaryOp .Mult) rMulA := op_mul.or op_rep
theorem op_fdivA : OpR X (binaryOp .FloorDiv) (rI CDiv fun i j => .int (i / j)) := op_fdiv
noncomputable def rEqD (K : PySem.W.Frag) (neg : Bool) : R2 := fun x y H Q => ∃ dx dy, Is K H dx x ∧ Is K H dy y ∧ SeqAt.shaped dx = true ∧ SeqAt.shaped dy = true ∧ Q (.bl (if neg then !PyData.eqv dx dy else PyData.eqv dx dy)) H
theorem op_eqD (hq : QA X.A) : OpR X (compareOp .Eq) (rEqD X.K false) := by
  intro pins s σ H x y v u Q I rx ry h
  obtain ⟨dx, dy, ix, iy, sx, sy, q⟩ := h
  obtain ⟨as, ra⟩ := Is.reads I dx x v ix rx
  obtain ⟨bs, rb⟩ := Is.reads I dy y u iy ry
  exact eq_dataH ra rb sx sy (by have := hq.un; omega) ⟨.bl _, H, I, rfl, q⟩
theorem op_neD (hq : QA X.A) : OpR X (compareOp .NotEq) (rEqD X.K true) := by
  intro pins s σ H x y v u Q I rx ry h
  obtain ⟨dx, dy, ix, iy, sx, sy, q⟩ := h
  obtain ⟨as, ra⟩ := Is.reads I dx x v ix rx
  obtain ⟨bs, rb⟩ := Is.reads I dy y u iy ry
  exact ne_dataH ra rb sx sy (by have := hq.un; omega) ⟨.bl _, H, I, rfl, q⟩
noncomputable def rEqA (K : PySem.W.Frag) : R2 := fun x y H Q => rEq x y H Q ∨ rEqD K false x y H Q
noncomputable def rNeA (K : PySem.W.Frag) : R2 := fun x y H Q => rNe x y H Q ∨ rEqD K true x y H Q
theorem op_eqA (hq : QA X.A) : OpR X (compareOp .Eq) (rEqA X.K) := op_eq.or (op_eqD hq)
theorem op_neA (hq : QA X.A) : OpR X (compareOp .NotEq) (rNeA X.K) := op_ne.or (op_neD hq)
noncomputable def rInT (neg : Bool) : R2 := fun x y H Q => ∃ i j, x = .str i ∧ y = .str j ∧ Q (.bl (if neg then !(!(Builtin.Str.occurrences j i 0 j.length 1).isEmpty) else !(Builtin.Str.occurrences j i 0 j.length 1).isEmpty)) H
noncomputable def rInD (neg : Bool) : R2 := fun x y H Q => ∃ a o, y = .ref a ∧ DGet H a x o ∧ Q (.bl (if neg then !o.isSome else o.isSome)) H
theorem op_inD (hu : X.A.units + 1 < cLine) : OpR X (compareOp .In) (rInD false) := by
  intro pins s σ H x y v u Q I rx ry h
  obtain ⟨a, o, rfl, g, q⟩ := h
  cases ry
  exact d_in hu I g rx fun s' I' => ⟨.bl _, H, I', rfl, q⟩
theorem op_notInD (hu : X.A.units + 1 < cLine) : OpR X (compareOp .NotIn) (rInD true) := by
  intro pins s σ H x y v u Q I rx ry h
  obtain ⟨a, o, rfl, g, q⟩ := h
  cases ry
  exact d_notIn hu I g rx fun s' I' => ⟨.bl _, H, I', rfl, q⟩
noncomputable def rInX (K : PySem.W.Frag) (neg : Bool) : R2 := fun x y H Q => ∃ d ds, Is K H d x ∧ (Is K H (.list ds) y ∨ Is K H (.tuple ds) y) ∧ PyData.canLayAll0 ds = true ∧ d.canLay0 = true ∧ d.depth ≤ 100 ∧ Q (.bl (if neg then !(ds.any fun e => PyData.eqv e d) else ds.any fun e => PyData.eqv e d)) H
theorem op_inX (hq : QA X.A) : OpR X (compareOp .In) (rInX X.K false) := by
  intro pins s σ H x y v u Q I rx ry h
  obtain ⟨d, ds, ix, iy, h1, h2, h3, q⟩ := h
  obtain ⟨bs, rb⟩ := Is.reads I d x v ix rx
  rcases iy with iy | iy
  · obtain ⟨as, ra⟩ := Is.reads I _ y u iy ry
    exact SeqAt.in_list_reads ra rb h1 h2 (by have := hq.un; have := Nat.min_le_right (PyData.depthAll ds) d.depth; omega) ⟨.bl _, H, I, rfl, q⟩
  · obtain ⟨as, ra⟩ := Is.reads I _ y u iy ry
    exact SeqAt.in_tuple_reads ra rb h1 h2 (by have := hq.un; have := Nat.min_le_right (PyData.depthAll ds) d.depth; omega) ⟨.bl _, H, I, rfl, q⟩
theorem op_notInX (hq : QA X.A) : OpR X (compareOp .NotIn) (rInX X.K true) := by
  intro pins s σ H x y v u Q I rx ry h
  obtain ⟨d, ds, ix, iy, h1, h2, h3, q⟩ := h
  obtain ⟨bs, rb⟩ := Is.reads I d x v ix rx
  rcases iy with iy | iy
  · obtain ⟨as, ra⟩ := Is.reads I _ y u iy ry
    exact SeqAt.notIn_list_reads ra rb h1 h2 (by have := hq.un; have := Nat.min_le_right (PyData.depthAll ds) d.depth; omega) ⟨.bl _, H, I, rfl, q⟩
  · obtain ⟨as, ra⟩ := Is.reads I _ y u iy ry
    exact SeqAt.notIn_tuple_reads ra rb h1 h2 (by have := hq.un; have := Nat.min_le_right (PyData.depthAll ds) d.depth; omega) ⟨.bl _, H, I, rfl, q⟩
noncomputable def rInA (K : PySem.W.Frag) (neg : Bool) : R2 := fun x y H Q => rIn K neg x y H Q ∨ rInT neg x y H Q ∨ rInD neg x y H Q ∨ rInX K neg x y H Q
theorem QA.hu {A : Around} (h : QA A) : A.units + 1 < cLine := by have := h.un; omega
theorem op_inA (hq : QA X.A) : OpR X (compareOp .In) (rInA X.K false) := op_in_seq.or (op_in_str.or ((op_inD hq.hu).or (op_inX hq)))
theorem op_notInA (hq : QA X.A) : OpR X (compareOp .NotIn) (rInA X.K true) := op_notIn_seq.or (op_notIn_str.or ((op_notInD hq.hu).or (op_notInX hq)))
noncomputable def rSlA (K : PySem.W.Frag) : V → Option Int → Option Int → Hp → VK → Prop := fun x lo hi H Q => rSlL K x lo hi H Q ∨ rSlT K x lo hi H Q ∨ rSlS x lo hi H Q ∨ rSlW K x lo hi H Q
theorem sl_A : SlR X (rSlA X.K) := sl_list.or (sl_tup.or (sl_str.or sl_whole))
noncomputable def rIxD : R2 := fun x y H Q => ∃ a v, x = .ref a ∧ DGet H a y (some v) ∧ Q v H
theorem ix_dict (hu : X.A.units + 1 < cLine) : IxR X rIxD := by
  intro value slice pins s σ H x y v u Q I rx ry h hs
  obtain ⟨a, z, rfl, g, q⟩ := h
  cases rx
  exact tail_any (dict_typeIs I g) PySem.F.slot_dict_getitem.lookup (d_getItem hu I g ry fun w' s' I' rw' => ⟨z, H, I', rw', q⟩) hs
noncomputable def rIxA (K : PySem.W.Frag) : R2 := fun x y H Q => rIx K x y H Q ∨ rIxD x y H Q
theorem ix_any (hu : X.A.units + 1 < cLine) : IxR X (rIxA X.K) := ix_seq.or (ix_dict hu)
noncomputable def rLenA (K : PySem.W.Frag) : List V → Hp → VK → Prop := fun xs H Q => (∃ x n, xs = [x] ∧ LenV K x H n ∧ Q (.int n) H) ∨ ∃ a kvs, xs = [V.ref a] ∧ H a = some (.dK kvs) ∧ Q (.int kvs.length) H
theorem call_lenA : CallR X (.builtin "len") (rLenA X.K) := call_len.or call_lenD
noncomputable def rIsinst (K : PySem.W.Frag) : List V → Hp → VK → Prop := fun xs H Q => (∃ x c t b, xs = [x, .ty c] ∧ TyOf K H x t ∧ PySem.W.kitOne K t (.type c) = some b ∧ Q (.bl b) H) ∨ (∃ x c t b, xs = [x, .ref c] ∧ TyOf K H x t ∧ PySem.W.kitOne K t (.ref c) = some b ∧ Q (.bl b) H) ∨ ∃ a ys c b, xs = [V.ref a, .ty c] ∧ ((SqT K H a ys ∧ PySem.W.kitOne K (.type "tuple") (.type c) = some b) ∨ (SqL K H a ys ∧ PySem.W.kitOne K (.type "list") (.type c) = some b)) ∧ Q (.bl b) H
theorem call_isinstA : CallR X (.builtin "isinstance") (rIsinst X.K) := call_isinst.or (call_isinstR.or call_isinstQ)
noncomputable def rListA (K : PySem.W.Frag) : List V → Hp → VK → Prop := fun xs H Q => ∃ p ys, xs = [.ref p] ∧ (SqL K H p ys ∨ SqT K H p ys) ∧ ∀ l, H l = none → Q (.ref l) (upd H l (.lst ys))
theorem call_listA : CallR X (.type "list") (rListA X.K) := call_list_of
noncomputable def rTupleA (K : PySem.W.Frag) : List V → Hp → VK → Prop := fun xs H Q => ∃ p ys, xs = [.ref p] ∧ ((SqL K H p ys ∧ ∀ l, H l = none → Q (.ref l) (upd H l (.tup ys))) ∨ (SqT K H p ys ∧ Q (.ref p) H))
theorem call_tupleA : CallR X (.type "tuple") (rTupleA X.K) := call_tuple_of
noncomputable def rReprA : List V → Hp → VK → Prop := fun xs H Q => (∃ b, xs = [.bl b] ∧ Q (.str (if b then "True" else "False")) H) ∨ (xs = [.non] ∧ Q (.str "None") H)
noncomputable def rIntA : List V → Hp → VK → Prop := fun xs H Q => (∃ i, xs = [.int i] ∧ Q (.int i) H) ∨ ∃ k, xs = [.bl k] ∧ Q (.int (if k then 1 else 0)) H
noncomputable def rAllA (K : PySem.W.Frag) : List V → Hp → VK → Prop := fun xs H Q => ∃ (a : Addr) (bs : List Bool), xs = [.ref a] ∧ SqL K H a (bs.map V.bl) ∧ Q (.bl (bs.all id)) H
theorem call_allA (hc : X.calm = true) : CallR X (.builtin "all") (rAllA X.K) := call_all hc
noncomputable def rAnyA (K : PySem.W.Frag) : List V → Hp → VK → Prop := fun xs H Q => ∃ (a : Addr) (bs : List Bool), xs = [.ref a] ∧ SqL K H a (bs.map V.bl) ∧ Q (.bl (bs.any id)) H
theorem call_anyA (hc : X.calm = true) : CallR X (.builtin "any") (rAnyA X.K) := call_any hc
variable {tg : Expr}
noncomputable def rAnyIt (K : PySem.W.Frag) (x : V) (H1 : Hp) (R : It → Hp → Prop) : Prop := (∃ a, x = .ref a ∧ (∃ xs, SqL K H1 a xs) ∧ R (Itl K a) H1) ∨ (∃ a, x = .ref a ∧ (∃ xs, SqT K H1 a xs) ∧ R (Itt K a) H1) ∨ (∃ z, x = .str z ∧ R (Its z) H1) ∨ ∃ a kvs, x = .ref a ∧ ((H1 a = some (.dK kvs) ∧ ∀ o, R (Itd a o kvs) (upd H1 a (.frz o (.dK kvs)))) ∨ ∃ o, H1 a = some (.frz o (.dK kvs)) ∧ R (Itd a o kvs) H1)
noncomputable def iAny (K : PySem.W.Frag) (tl : TE) : TI := fun σ H R => tl σ H fun x H1 => rAnyIt K x H1 R
theorem pi_any (hu : X.A.units + 1 < cLine) {l : Expr} {tl : TE} (hl : PE X l tl) : PI X tg l (iAny X.K tl) := by
  intro pins s σ H R I h
  refine thn (hl pins s σ H _ I h) fun v s1 ⟨x, H1, I1, r1, q1⟩ => ?_
  rcases q1 with ⟨a, e, ⟨xs, hq⟩, q⟩ | ⟨a, e, ⟨xs, hq⟩, q⟩ | ⟨z, e, q⟩ | ⟨a, kvs, e, q⟩
  · subst e
    cases r1
    obtain ⟨its, rv, p, hz⟩ := I1.list hq
    refine wpAny_pyIter_list p.isList ?_
    refine ⟨s1.heap.objs.size, [s1.heap.objs.size], _, _, H1, rfl, I1.kept (t' := s1.toks) fun b o e => Heap.get?_push_of_some _ e, turn_list a _, ⟨_, Heap.get?_push_size _ rfl, rfl, rfl⟩, fun b hb => ?_, q⟩
    have e : b = s1.heap.objs.size := by simpa using hb
    subst e
    exact I1.fpOk (Nat.le_refl _) (I1.hok.fresh (Nat.le_refl _))
  · subst e
    cases r1
    obtain ⟨its, rv, p, hz⟩ := I1.tuple hq
    refine wpAny_pyIter_tuple (show s1.heap.IsTuple a its.toArray from p) ?_
    refine ⟨s1.heap.objs.size, [s1.heap.objs.size], _, _, H1, rfl, I1.kept (t' := s1.toks) fun b o e => Heap.get?_push_of_some _ e, turn_tuple a _, ⟨_, Heap.get?_push_size _ rfl, rfl, rfl⟩, fun b hb => ?_, q⟩
    have e : b = s1.heap.objs.size := by simpa using hb
    subst e
    exact I1.fpOk (Nat.le_refl _) (I1.hok.fresh (Nat.le_refl _))
  · subst e
    exact it_str I1 r1 q
  · subst e
    cases r1
    rcases q with ⟨hd, q⟩ | ⟨o, hd, q⟩
    · exact it_dict I1 hd q
    · exact it_dictF I1 hd q
end
noncomputable def Fnd (P : Program) (w : World) (K : PySem.W.Frag) (mg : Str → Option Value) (base : Heap) (k : Nat) (x : Str) (ps : List Str) (sp : Sp) : Prop :=
  ∃ f fd, FnOk P w K mg base CX0 k f fd ps sp ∧ mg x = some (.ref f) ∧ PySem.W.keepIn K (.ref f) = true ∧ Binds K fd ps []
section
variable {X : Cx} {k : Nat} {x : Str} {ps : List Str} {sp : Sp} {e : Expr} {es : List Expr} {t : TA} {p pos : Pos}
theorem pe_fn (F : Fnd X.prog X.w X.K X.mg X.base k x ps sp) (hr : Room k X.A) (hg : Gl X x) (ha : PA X (e :: es) t) (hdb : (x == ("__debug__" : Str)) = false := by decide)
    (he : starEach (e :: es) X.env = (false, eval e X.env) :: starEach es X.env := by with_unfolding_all rfl) (hpl : (backTo pos (starEach es X.env)).any (·.1) = false := by with_unfolding_all rfl) : PE X (.Call (.Name x p) (e :: es) [] pos) (tCall sp [] E0 t) := by
  obtain ⟨f, fd, h1, h2, h3, h4⟩ := F
  exact pe_call h1 hr hg h2 h3 h4 .nil pass0 ha hdb he hpl
end
noncomputable def ExtBut (d : Addr) (H H' : Hp) : Prop := ∀ b o, b ≠ d → H b = some o → H' b = some o
theorem Same.lk {H H' : Hp} {a : Addr} {o : HO} (e : Same H H') (h : H a = some o) : H' a = some o := e a o h
theorem Same.upd {H : Hp} {p : Addr} {o : HO} (h : H p = none) : Same H (upd H p o) := fun b u e => by rw [upd_ne (ne_of_none e h)]; exact e
theorem ExtBut.upd {H : Hp} {p : Addr} {o : HO} : ExtBut p H (upd H p o) := fun b u n e => by rw [upd_ne n]; exact e
theorem ExtBut.trans {d : Addr} {H H1 H2 : Hp} (a : ExtBut d H H1) (b : ExtBut d H1 H2) : ExtBut d H H2 := fun c o n h => b c o n (a c o n h)
theorem ExtBut.same {d : Addr} {H H1 H2 : Hp} (a : ExtBut d H H1) (b : Same H1 H2) : ExtBut d H H2 := fun c o n h => b c o (a c o n h)
theorem ExtBut.after {d : Addr} {H H1 H2 : Hp} (a : Same H H1) (b : ExtBut d H1 H2) : ExtBut d H H2 := fun c o n h => b c o n (a c o h)
theorem ExtBut.refl {d : Addr} {H : Hp} : ExtBut d H H := fun _ _ _ h => h
noncomputable def rNewT (xs : List V) (H : Hp) (Q : VK) : Prop := xs.length ≤ sizeLine ∧ ∀ p, H p = none → Q (.ref p) (upd H p (.tup xs))
noncomputable def rNewL (xs : List V) (H : Hp) (Q : VK) : Prop := xs.length ≤ sizeLine ∧ ∀ p, H p = none → Q (.ref p) (upd H p (.lst xs))
noncomputable def rRng1 (vs : List V) (H : Hp) (R : It → Hp → Prop) : Prop := ∃ j : Int, vs = [.int j] ∧ -(2 ^ 62) ≤ j ∧ j < 2 ^ 62 ∧ R (Itr 0 j.toNat) H
noncomputable def rRng2 (vs : List V) (H : Hp) (R : It → Hp → Prop) : Prop := ∃ i j : Int, vs = [.int i, .int j] ∧ (-(2 ^ 62) ≤ i ∧ i < 2 ^ 62 ∧ -(2 ^ 62) ≤ j ∧ j < 2 ^ 62) ∧ R (Itr i (j - i).toNat) H
noncomputable def rFor (g : TG) (tb : TS) (D : Ends) (σ : St) (J : It) (H1 : Hp) : Prop := ∃ W : Nat → Nat → St → Hp → Prop, (∃ m, W 0 m σ H1) ∧ ∀ i m σ H, W i m σ H →
  (J.stop i H ∧ D.nx σ H) ∨ (J.go i H ∧ ∃ N : St → Hp → Prop, (∀ σ' H', N σ' H' → ∃ m', m' < m ∧ W (i + 1) m' σ' H') ∧ ∀ x H', J.yld i H x H' → g x σ H' fun σ2 H2 => tb { D with nx := N, ct := N, bk := D.nx } σ2 H2)
noncomputable def rComp (k : Nat) (js : List Nat) (g : TG) (tt : TT) (te : TE) (σ : St) (J : It) (H1 : Hp) (Q : VK) : Prop := ∀ p, H1 p = none →
  ∃ W : Nat → Nat → Hp → Prop, (∃ m, W 0 m (upd H1 p (.lst []))) ∧ ∀ i m H, W i m H →
    (J.stop i H ∧ Q (.ref p) H) ∨ (J.go i H ∧ ∃ N : Hp → Prop, (∀ H', N H' → ∃ m', m' < m ∧ W (i + 1) m' H') ∧
      ∀ x H', J.yld i H x H' → g x (List.replicate k none ++ pick σ js) H' fun σ2 H2 => tt σ2 H2 fun b H3 =>
        if b = true then te σ2 H3 fun y H4 => ∃ acc, H4 p = some (.lst acc) ∧ acc.length < sizeLine ∧ N (upd H4 p (.lst (acc ++ [y]))) else N H3)
noncomputable def rPairs (p : Addr) (ps : List (V × V)) (H : Hp) (Q : VK) : Prop := H p = some (.dK []) ∧ ∃ kvs : List (Key × V), ps = kvs.map (fun kv => (kV kv.1, kv.2)) ∧ kvs.length ≤ 15 ∧ Q (.ref p) (upd H p (.dK (mergeK [] kvs)))
section
variable {K : PySem.W.Frag} {σ : St} {H : Hp} {Q : VK} {D : Ends} {ta tb te : TE} {c : TT} {t u : TS} {x y v : V} {i j : Int}
theorem i_var {n : Nat} (h : σ[n]? = some (some v)) (k : Q v H) : tVar n σ H Q := ⟨v, h, k⟩
theorem i_c (k : Q v H) : tC v σ H Q := k
theorem i_next (k : D.nx σ H) : tNext D σ H := k
theorem i_ret (k : te σ H D.rt) : tRet te D σ H := k
theorem i_drop (k : te σ H fun _ H1 => D.nx σ H1) : tDrop te D σ H := k
theorem i_asg {g : TG} (k : te σ H fun x H1 => g x σ H1 D.nx) : tAsg te g D σ H := k
theorem i_gname {n : Nat} {R : St → Hp → Prop} (k : R (σ.set n (some v)) H) : gName n v σ H R := k
theorem i_if (k : c σ H fun b H1 => if b = true then t D σ H1 else u D σ H1) : tIfS c t u D σ H := k
theorem i_op {r : R2} (k : ta σ H fun x H1 => tb σ H1 fun y H2 => r x y H2 Q) : tOp r ta tb σ H Q := k
theorem i_rI0 {g : Int → Int → V} (k : Q (g i j) H) : rI0 g (.int i) (.int j) H Q := ⟨i, j, rfl, rfl, k⟩
theorem i_rI {C : Int → Int → Prop} {g : Int → Int → V} (h : C i j) (k : Q (g i j) H) : rI C g (.int i) (.int j) H Q := ⟨i, j, rfl, rfl, h, k⟩
theorem i_addI (k : Q (.int (i + j)) H) : rAddA K (.int i) (.int j) H Q := .inl ⟨i, j, rfl, rfl, k⟩
theorem i_addS {a b : Str} (h : a.length + b.length ≤ sizeLine) (k : Q (.str (a ++ b)) H) : rAddA K (.str a) (.str b) H Q := .inr (.inl ⟨a, b, rfl, rfl, h, k⟩)
theorem i_addL {a b : Addr} {xs ys : List V} (h1 : H a = some (.lst xs)) (h2 : H b = some (.lst ys)) (h : xs.length + ys.length ≤ sizeLine) (k : ∀ p H', H p = none → Same H H' → H' p = some (.lst (xs ++ ys)) → Q (.ref p) H') : rAddA K (.ref a) (.ref b) H Q :=
  .inr (.inr (.inl ⟨a, b, xs, ys, rfl, rfl, h1, h2, h, fun p hp => k p _ hp (Same.upd hp) upd_same⟩))
theorem i_mulI (h : CMul i j) (k : Q (.int (i * j)) H) : rMulA (.int i) (.int j) H Q := .inl ⟨i, j, rfl, rfl, h, k⟩
theorem i_eqS (h : scal x y = true) (k : Q (.bl (decide (x = y))) H) : rEqA K x y H Q := .inl ⟨h, k⟩
theorem i_neS (h : scal x y = true) (k : Q (.bl (!decide (x = y))) H) : rNeA K x y H Q := .inl ⟨h, k⟩
theorem i_eqD {dx dy : PyData} (h1 : Is K H dx x) (h2 : Is K H dy y) (h3 : SeqAt.shaped dx = true) (h4 : SeqAt.shaped dy = true) (k : Q (.bl (PyData.eqv dx dy)) H) : rEqA K x y H Q := .inr ⟨dx, dy, h1, h2, h3, h4, k⟩
theorem i_neD {dx dy : PyData} (h1 : Is K H dx x) (h2 : Is K H dy y) (h3 : SeqAt.shaped dx = true) (h4 : SeqAt.shaped dy = true) (k : Q (.bl (!PyData.eqv dx dy)) H) : rNeA K x y H Q := .inr ⟨dx, dy, h1, h2, h3, h4, k⟩
theorem i_true {R : Bool → Hp → Prop} (k : R true H) : tTrue σ H R := k
theorem i_tTest {R : Bool → Hp → Prop} (k : te σ H fun x H' => ∃ b, x = .bl b ∧ R b H') : tTest te σ H R := k
theorem i_tB {R : Bool → Hp → Prop} (k : te σ H fun x H' => ∃ b, x = .bl b ∧ R b H') : tB te σ H R := k
theorem i_bl {b : Bool} {R : Bool → Prop} (k : R b) : ∃ c, V.bl b = .bl c ∧ R c := ⟨b, rfl, k⟩
theorem i_not {R : Bool → Hp → Prop} (k : c σ H fun b H1 => R (!b) H1) : tNot c σ H R := k
theorem i_and {c' : TT} {R : Bool → Hp → Prop} (k : c σ H fun b H1 => if b = true then c' σ H1 R else R false H1) : tAnd c c' σ H R := k
theorem i_or {c' : TT} {R : Bool → Hp → Prop} (k : c σ H fun b H1 => if b = true then R true H1 else c' σ H1 R) : tOr c c' σ H R := k
theorem i_ixL {a : Addr} {xs : List V} (h : H a = some (.lst xs)) (e : atI xs i = some v) (k : Q v H) : rIxA K (.ref a) (.int i) H Q := .inl (.inl ⟨a, xs, i, v, rfl, rfl, SqL.of h, e, k⟩)
theorem i_ixS {z : Str} {s : Nat} (h : z.length ≤ sizeLine) (e : atI z.cps.toList i = some s) (k : Q (.str ⟨#[s]⟩) H) : rIxA K (.str z) (.int i) H Q := .inl (.inr (.inr ⟨z, i, s, rfl, rfl, h, e, k⟩))
theorem i_ixD {a : Addr} {kvs : List (Key × V)} {z : Str} (h : H a = some (.dK kvs)) (e : valV kvs (Sum.inr z : Key) = some v) (k : Q v H) : rIxA K (.ref a) (.str z) H Q := .inr ⟨a, v, rfl, by rw [← e]; exact DGet.k (k := Sum.inr z) h, k⟩
theorem i_lenL {a : Addr} {xs : List V} (h : H a = some (.lst xs)) (k : Q (.int xs.length) H) : rLenA K [.ref a] H Q := .inl ⟨.ref a, _, rfl, .inl ⟨xs, SqL.of h, rfl⟩, k⟩
theorem i_lenS {z : Str} (h : z.length ≤ sizeLine) (k : Q (.int z.length) H) : rLenA K [.str z] H Q := .inl ⟨.str z, _, rfl, ⟨h, rfl⟩, k⟩
theorem i_isi {c : String} {t : Value} {b : Bool} (h : TyOf K H x t) (e : PySem.W.kitOne K t (.type c) = some b) (k : Q (.bl b) H) : rIsinst K [x, .ty c] H Q := .inl ⟨x, c, t, b, rfl, h, e, k⟩
theorem i_isiT {c : String} {b : Bool} {a : Addr} {ys : List V} (h : SqT K H a ys) (e : PySem.W.kitOne K (.type "tuple") (.type c) = some b) (k : Q (.bl b) H) : rIsinst K [.ref a, .ty c] H Q := .inr (.inr ⟨a, ys, c, b, rfl, .inl ⟨h, e⟩, k⟩)
theorem i_listL {a : Addr} {xs : List V} (h : SqL K H a xs) (k : ∀ p H', H p = none → Same H H' → H' p = some (.lst xs) → Q (.ref p) H') : rListA K [.ref a] H Q := ⟨a, xs, rfl, .inl h, fun p hp => k p _ hp (Same.upd hp) upd_same⟩
theorem i_tupleL {a : Addr} {xs : List V} (h : SqL K H a xs) (k : ∀ p H', H p = none → Same H H' → H' p = some (.tup xs) → Q (.ref p) H') : rTupleA K [.ref a] H Q := ⟨a, xs, rfl, .inl ⟨h, fun p hp => k p _ hp (Same.upd hp) upd_same⟩⟩
theorem i_all {a : Addr} {bs : List Bool} (h : SqL K H a (bs.map V.bl)) (k : Q (.bl (bs.all id)) H) : rAllA K [.ref a] H Q := ⟨a, bs, rfl, h, k⟩
theorem i_any {a : Addr} {bs : List Bool} (h : SqL K H a (bs.map V.bl)) (k : Q (.bl (bs.any id)) H) : rAnyA K [.ref a] H Q := ⟨a, bs, rfl, h, k⟩
theorem i_sl {r : V → Option Int → Option Int → Hp → VK → Prop} {tl th : TO} (k : te σ H fun x H1 => tl σ H1 fun l H2 => th σ H2 fun u H3 => r x l u H3 Q) : tSl r te tl th σ H Q := k
theorem i_noPart {R : Option Int → Hp → Prop} (k : R none H) : tNoPart σ H R := k
theorem i_part {R : Option Int → Hp → Prop} (k : te σ H fun x H1 => ∃ i, x = .int i ∧ R (some i) H1) : tPart te σ H R := k
theorem i_int {R : Int → Prop} (k : R i) : ∃ j, V.int i = .int j ∧ R j := ⟨i, rfl, k⟩
theorem i_slS {z : Str} {lo hi : Option Int} (h : z.length ≤ sizeLine) (k : Q (.str (Txt.slice z lo hi)) H) : rSlA K (.str z) lo hi H Q := .inr (.inr (.inl ⟨z, rfl, h, k⟩))
theorem i_slL {a : Addr} {xs : List V} {lo hi : Option Int} (h : SqL K H a xs) (k : ∀ p H', H p = none → Same H H' → H' p = some (.lst (cutV xs lo hi)) → Q (.ref p) H') : rSlA K (.ref a) lo hi H Q := .inl ⟨a, xs, rfl, h, fun p hp => k p _ hp (Same.upd hp) upd_same⟩
theorem i_inS {a b : Str} (k : Q (.bl (!(Builtin.Str.occurrences b a 0 b.length 1).isEmpty)) H) : rInA K false (.str a) (.str b) H Q := .inr (.inl ⟨a, b, rfl, rfl, k⟩)
theorem i_bm {T : String} {r : V → List V → Hp → VK → Prop} {ts : TA} (k : te σ H fun x H1 => tyV K T x H1 ∧ ts σ H1 fun xs H2 => r x xs H2 Q) : tBM K T r te ts σ H Q := k
theorem i_call {sp : Sp} {E : XK} {ts : TA} (k : ts σ H fun vs H1 => sp (vs ++ []) H1 Q E) : tCall sp [] E ts σ H Q := k
theorem i_cb {r : List V → Hp → VK → Prop} {ts : TA} (k : ts σ H fun vs H1 => r vs H1 Q) : tCB r ts σ H Q := k
theorem i_cons {tr : TA} {R : List V → Hp → Prop} (k : ta σ H fun x H1 => tr σ H1 fun xs H2 => R (x :: xs) H2) : tCons ta tr σ H R := k
theorem i_nil {R : List V → Hp → Prop} (k : R [] H) : tNil σ H R := k
theorem i_tup {ts : TA} (k : ts σ H fun xs H1 => rNewT xs H1 Q) : tTup ts σ H Q := k
theorem i_lst {ts : TA} (k : ts σ H fun xs H1 => rNewL xs H1 Q) : tLst ts σ H Q := k
theorem i_newT {xs : List V} (h : xs.length ≤ sizeLine) (k : ∀ p H', H p = none → Same H H' → H' p = some (.tup xs) → Q (.ref p) H') : rNewT xs H Q := ⟨h, fun p hp => k p _ hp (Same.upd hp) upd_same⟩
theorem i_newL {xs : List V} (h : xs.length ≤ sizeLine) (k : ∀ p H', H p = none → Same H H' → H' p = some (.lst xs) → Q (.ref p) H') : rNewL xs H Q := ⟨h, fun p hp => k p _ hp (Same.upd hp) upd_same⟩
theorem i_newD (k : ∀ p H', H p = none → Same H H' → H' p = some (.dK []) → Q (.ref p) H') : tDNewK σ H Q := fun p hp => k p _ hp (Same.upd hp) upd_same
theorem i_put {td ty tv : TE} (k : tv σ H fun v H1 => td σ H1 fun x H2 => ty σ H2 fun y H3 => ∃ a H4, x = .ref a ∧ DPut H3 a y v H4 ∧ D.nx σ H4) : sDPut td ty tv D σ H := k
theorem i_dput {a : Addr} {kvs : List (Key × V)} {z : Str} {R : Hp → Prop} (h : H a = some (.dK kvs)) (hl : kvs.length < 1000) (k : ∀ H', ExtBut a H H' → H' a = some (.dK (putK kvs (Sum.inr z) v)) → R H') : ∃ b H4, V.ref a = .ref b ∧ DPut H b (.str z) v H4 ∧ R H4 :=
  ⟨a, _, rfl, DPut.k (k := Sum.inr z) h (small1000 (Nat.le_of_lt hl)), k _ ExtBut.upd upd_same⟩
theorem i_for {wi : TI} {g : TG} {tb : TS} (k : wi σ H fun J H1 => rFor g tb D σ J H1) : tFor wi g tb D σ H := k
theorem i_comp {m : Nat} {js : List Nat} {wi : TI} {g : TG} {tt : TT} (k : wi σ H fun J H1 => rComp m js g tt te σ J H1 Q) : tComp m js wi g tt te σ H Q := k
theorem i_itS {z : Str} {R : It → Hp → Prop} (k : R (Its z) H) : rAnyIt K (.str z) H R := .inr (.inr (.inl ⟨z, rfl, k⟩))
theorem i_itL {a : Addr} {xs : List V} {R : It → Hp → Prop} (h : SqL K H a xs) (k : R (Itl K a) H) : rAnyIt K (.ref a) H R := .inl ⟨a, rfl, ⟨xs, h⟩, k⟩
theorem i_itT {a : Addr} {xs : List V} {R : It → Hp → Prop} (h : SqT K H a xs) (k : R (Itt K a) H) : rAnyIt K (.ref a) H R := .inr (.inl ⟨a, rfl, ⟨xs, h⟩, k⟩)
theorem i_itD {a : Addr} {kvs : List (Key × V)} {R : It → Hp → Prop} (h : H a = some (.dK kvs)) (k : ∀ o, R (Itd a o kvs) (upd H a (.frz o (.dK kvs)))) : rAnyIt K (.ref a) H R := .inr (.inr (.inr ⟨a, kvs, rfl, .inl ⟨h, k⟩⟩))
theorem i_itF {a : Addr} {kvs : List (Key × V)} {o : Obj} {R : It → Hp → Prop} (h : H a = some (.frz o (.dK kvs))) (k : R (Itd a o kvs) H) : rAnyIt K (.ref a) H R := .inr (.inr (.inr ⟨a, kvs, rfl, .inr ⟨o, h, k⟩⟩))
theorem i_rng1 {ts : TA} {R : It → Hp → Prop} (k : ts σ H fun vs H1 => rRng1 vs H1 R) : iRng1 ts σ H R := k
theorem i_rngv {R : It → Hp → Prop} (h : -(2 ^ 62) ≤ i ∧ i < 2 ^ 62) (k : R (Itr 0 i.toNat) H) : rRng1 [V.int i] H R := ⟨i, rfl, h.1, h.2, k⟩
theorem i_rng2 {ts : TA} {R : It → Hp → Prop} (k : ts σ H fun vs H1 => rRng2 vs H1 R) : iRng2 ts σ H R := k
theorem i_rngw {R : It → Hp → Prop} (h : (-(2 ^ 62) ≤ i ∧ i < 2 ^ 62) ∧ -(2 ^ 62) ≤ j ∧ j < 2 ^ 62) (k : R (Itr i (j - i).toNat) H) : rRng2 [V.int i, V.int j] H R := ⟨i, j, rfl, ⟨h.1.1, h.1.2, h.2.1, h.2.2⟩, k⟩
theorem i_iany {R : It → Hp → Prop} (k : te σ H fun x H1 => rAnyIt K x H1 R) : iAny K te σ H R := k
theorem i_disp {trs : List (TE × TE)} (k : ∀ p H1, H p = none → Same H H1 → H1 p = some (.dK []) → tPairs trs σ H1 fun ps H2 => rPairs p ps H2 Q) : tDisp trs σ H Q := fun p hp => k p _ hp (Same.upd hp) upd_same
theorem i_pair {tk tv : TE} {r : List (TE × TE)} {R : List (V × V) → Hp → Prop} (k : tk σ H fun x H1 => tv σ H1 fun y H2 => tPairs r σ H2 fun ps H3 => R ((x, y) :: ps) H3) : tPairs ((tk, tv) :: r) σ H R := k
theorem i_pairs {p : Addr} {ps : List (V × V)} (kvs : List (Key × V)) (h : H p = some (.dK [])) (e : ps = kvs.map (fun kv => (kV kv.1, kv.2))) (hl : kvs.length ≤ 15) (k : ∀ H', ExtBut p H H' → H' p = some (.dK (mergeK [] kvs)) → Q (.ref p) H') : rPairs p ps H Q := ⟨h, kvs, e, hl, k _ ExtBut.upd upd_same⟩
theorem i_pair0 {R : List (V × V) → Hp → Prop} (k : R [] H) : tPairs [] σ H R := k
end
end L2
set_option Elab.async false
set_option linter.all false
set_option maxRecDepth 100000
set_option maxHeartbeats 4000000
namespace L2
open PySem PySem.Spec PyProof.Rows
theorem iteD {c A B : Prop} [Decidable c] (h1 : c → A) (h2 : ¬ c → B) : if decide c = true then A else B := by
  by_cases h : c
  · rw [if_pos (decide_eq_true h)]; exact h1 h
  · rw [if_neg (by rw [decide_eq_false h]; exact Bool.false_ne_true)]; exact h2 h
theorem iteND {c A B : Prop} [Decidable c] (h1 : ¬ c → A) (h2 : c → B) : if (!decide c) = true then A else B := by
  by_cases h : c
  · rw [decide_eq_true h, if_neg (by decide)]; exact h2 h
  · rw [decide_eq_false h, if_pos (by decide)]; exact h1 h
theorem iteB {b : Bool} {A B : Prop} (h1 : b = true → A) (h2 : b = false → B) : if b = true then A else B := by
  cases b
  · rw [if_neg Bool.false_ne_true]; exact h2 rfl
  · rw [if_pos rfl]; exact h1 rfl
theorem iteNB {b : Bool} {A B : Prop} (h1 : b = false → A) (h2 : b = true → B) : if (!b) = true then A else B := by
  cases b
  · exact h1 rfl
  · exact h2 rfl
theorem iteNT {A B : Prop} (h : B) : if (!true) = true then A else B := h
theorem iteNF {A B : Prop} (h : A) : if (!false) = true then A else B := h
theorem line_of {n : Nat} (h : n ≤ 1000000) : n ≤ sizeLine := by rw [sizeLine_eq]; omega
noncomputable def WalkOf (J : It) (xs : List V) (G : Hp → Prop) : Prop :=
  ∀ i H, G H → (i < xs.length → J.go i H) ∧ (xs.length ≤ i → J.stop i H) ∧ ∀ x H', i < xs.length → J.yld i H x H' → H' = H ∧ xs[i]? = some x
theorem walk_str (z : Str) : WalkOf (Its z) (z.cps.toList.map fun c => .str ⟨#[c]⟩) fun _ => True := by
  intro i H _
  refine ⟨fun h => ?_, fun h => ?_, fun x H' _ h => ?_⟩
  · show i < z.cps.size
    simpa using h
  · show z.cps.size ≤ i
    simpa using h
  · obtain ⟨e, c, hc, rfl⟩ := h
    refine ⟨e, ?_⟩
    rw [List.getElem?_map, Array.getElem?_toList, hc]
    rfl
theorem walk_list {K : PySem.W.Frag} {a : Addr} {xs : List V} : WalkOf (Itl K a) xs fun H => SqL K H a xs := by
  intro i H g
  refine ⟨fun h => ⟨xs, xs[i], g, List.getElem?_eq_getElem h⟩, fun h => ⟨xs, g, h⟩, fun x H' _ h => ⟨h.1, h.2 xs g⟩⟩
theorem walk_tup {K : PySem.W.Frag} {a : Addr} {xs : List V} : WalkOf (Itt K a) xs fun H => SqT K H a xs := by
  intro i H g
  refine ⟨fun h => ⟨xs, xs[i], g, List.getElem?_eq_getElem h⟩, fun h => ⟨xs, g, h⟩, fun x H' _ h => ⟨h.1, h.2 xs g⟩⟩
theorem walk_dict {a : Addr} {o : Obj} {kvs : List (Key × V)} : WalkOf (Itd a o kvs) (kvs.map fun kv => kV kv.1) fun H => H a = some (.frz o (.dK kvs)) := by
  intro i H g
  rw [List.length_map]
  refine ⟨fun h => ⟨g, h⟩, fun h => ⟨g, h⟩, fun x H' _ h => ?_⟩
  obtain ⟨e, kv, h1, h2⟩ := h
  exact ⟨e, by rw [List.getElem?_map, h1, h2]; rfl⟩
theorem walk_range {lo : Int} {n : Nat} : WalkOf (Itr lo n) ((List.range n).map fun (i : Nat) => V.int (lo + (i : Int))) fun _ => True := by
  intro i H _
  refine ⟨fun h => ?_, fun h => ?_, fun x H' hi h => ?_⟩
  · show i < n
    simpa using h
  · show n ≤ i
    simpa using h
  · obtain ⟨e, hx⟩ := h
    refine ⟨e, ?_⟩
    have hi' : i < n := by simpa using hi
    rw [List.getElem?_map, List.getElem?_range hi', hx]
    rfl
theorem for_walk {J : It} {xs : List V} {G : Hp → Prop} {g : TG} {tb : TS} {D : Ends} {σ : St} {H : Hp} (hw : WalkOf J xs G) (Pv : Nat → St → Hp → Prop) (h0 : Pv 0 σ H) (hG : ∀ i σ H, Pv i σ H → G H)
    (hs : ∀ i x σ H, xs[i]? = some x → Pv i σ H → g x σ H fun σ2 H2 => tb { D with nx := Pv (i + 1), ct := Pv (i + 1), bk := D.nx } σ2 H2) (hd : ∀ σ H, Pv xs.length σ H → D.nx σ H) :
    ∃ W : Nat → Nat → St → Hp → Prop, (∃ m, W 0 m σ H) ∧ ∀ i m σ H, W i m σ H →
      (J.stop i H ∧ D.nx σ H) ∨ (J.go i H ∧ ∃ N : St → Hp → Prop, (∀ σ' H', N σ' H' → ∃ m', m' < m ∧ W (i + 1) m' σ' H') ∧ ∀ x H', J.yld i H x H' → g x σ H' fun σ2 H2 => tb { D with nx := N, ct := N, bk := D.nx } σ2 H2) := by
  refine ⟨fun i m σ H => m = xs.length - i ∧ i ≤ xs.length ∧ Pv i σ H, ⟨xs.length, by simp, Nat.zero_le _, h0⟩, ?_⟩
  rintro i m σ H ⟨rfl, hi, p⟩
  obtain ⟨w1, w2, w3⟩ := hw i H (hG i σ H p)
  by_cases hlt : i < xs.length
  · refine .inr ⟨w1 hlt, Pv (i + 1), fun σ' H' p' => ⟨xs.length - (i + 1), by omega, rfl, hlt, p'⟩, fun x H' y => ?_⟩
    obtain ⟨e, hx⟩ := w3 x H' hlt y
    subst e
    exact hs i x σ _ hx p
  · have e : i = xs.length := by omega
    subst e
    exact .inl ⟨w2 (Nat.le_refl _), hd σ H p⟩
noncomputable def CN (p : Addr) (n : Nat) (Pv : Nat → List V → Hp → Prop) (i : Nat) : Hp → Prop := fun H' => i + 1 ≤ n ∧ ∃ acc, H' p = some (.lst acc) ∧ acc.length ≤ i + 1 ∧ Pv (i + 1) acc H'
theorem cn_push {p : Addr} {n : Nat} {Pv : Nat → List V → Hp → Prop} {i : Nat} {H : Hp} {acc : List V} {y : V} (hn : n ≤ 1000000) (hi : i < n) (hl : acc.length ≤ i) (e : H p = some (.lst acc)) (k : ∀ H', ExtBut p H H' → H' p = some (.lst (acc ++ [y])) → Pv (i + 1) (acc ++ [y]) H') :
    ∃ acc, H p = some (.lst acc) ∧ acc.length < sizeLine ∧ CN p n Pv i (upd H p (.lst (acc ++ [y]))) :=
  ⟨acc, e, by rw [sizeLine_eq]; omega, hi, acc ++ [y], upd_same, by rw [List.length_append, List.length_singleton]; omega, k _ ExtBut.upd upd_same⟩
theorem cn_skip {p : Addr} {n : Nat} {Pv : Nat → List V → Hp → Prop} {i : Nat} {H : Hp} {acc : List V} (hi : i < n) (hl : acc.length ≤ i) (e : H p = some (.lst acc)) (k : Pv (i + 1) acc H) : CN p n Pv i H := ⟨hi, acc, e, by omega, k⟩
theorem comp_walk {J : It} {xs : List V} {G : Hp → Prop} {g : TG} {tt : TT} {te : TE} {σ : St} {H : Hp} {Q : VK} {p : Addr} {k : Nat} {js : List Nat} (hw : WalkOf J xs G) (hp : H p = none) (Pv : Nat → List V → Hp → Prop)
    (h0 : ∀ H', Same H H' → H' p = some (.lst []) → Pv 0 [] H') (hG : ∀ i acc H, Pv i acc H → G H)
    (hs : ∀ i x acc H, xs[i]? = some x → i < xs.length → acc.length ≤ i → H p = some (.lst acc) → Pv i acc H → g x (List.replicate k none ++ pick σ js) H fun σ2 H2 => tt σ2 H2 fun b H3 =>
      if b = true then te σ2 H3 fun y H4 => ∃ acc, H4 p = some (.lst acc) ∧ acc.length < sizeLine ∧ CN p xs.length Pv i (upd H4 p (.lst (acc ++ [y]))) else CN p xs.length Pv i H3)
    (hd : ∀ acc H, H p = some (.lst acc) → acc.length ≤ xs.length → Pv xs.length acc H → Q (.ref p) H) :
    ∃ W : Nat → Nat → Hp → Prop, (∃ m, W 0 m (upd H p (.lst []))) ∧ ∀ i m H, W i m H →
      (J.stop i H ∧ Q (.ref p) H) ∨ (J.go i H ∧ ∃ N : Hp → Prop, (∀ H', N H' → ∃ m', m' < m ∧ W (i + 1) m' H') ∧
        ∀ x H', J.yld i H x H' → g x (List.replicate k none ++ pick σ js) H' fun σ2 H2 => tt σ2 H2 fun b H3 =>
          if b = true then te σ2 H3 fun y H4 => ∃ acc, H4 p = some (.lst acc) ∧ acc.length < sizeLine ∧ N (upd H4 p (.lst (acc ++ [y]))) else N H3) := by
  refine ⟨fun i m H => m = xs.length - i ∧ i ≤ xs.length ∧ ∃ acc, H p = some (.lst acc) ∧ acc.length ≤ i ∧ Pv i acc H, ⟨xs.length, by simp, Nat.zero_le _, [], upd_same, Nat.le_refl _, h0 _ (Same.upd hp) upd_same⟩, ?_⟩
  rintro i m H ⟨rfl, hi, acc, hacc, hl, q⟩
  obtain ⟨w1, w2, w3⟩ := hw i H (hG i acc H q)
  by_cases hlt : i < xs.length
  · refine .inr ⟨w1 hlt, CN p xs.length Pv i, fun H' ⟨h1, h2⟩ => ⟨xs.length - (i + 1), by omega, rfl, h1, h2⟩, fun x H' y => ?_⟩
    obtain ⟨e, hx⟩ := w3 x H' hlt y
    subst e
    exact hs i x acc _ hx hlt hl hacc q
  · have e : i = xs.length := by omega
    subst e
    exact .inl ⟨w2 (Nat.le_refl _), hd acc H hacc hl q⟩
noncomputable def rPush (p : Addr) (N : Hp → Prop) : VK := fun y H4 => ∃ acc, H4 p = some (.lst acc) ∧ acc.length < sizeLine ∧ N (upd H4 p (.lst (acc ++ [y])))
theorem comp_by {J : It} {xs : List V} {G : Hp → Prop} {g : TG} {tt : TT} {te : TE} {σ : St} {H : Hp} {Q : VK} {k : Nat} {js : List Nat} (hw : WalkOf J xs G) (Pv : Addr → Nat → List V → Hp → Prop)
    (h0 : ∀ p H', H p = none → Same H H' → H' p = some (.lst []) → Pv p 0 [] H') (hG : ∀ p i acc H, Pv p i acc H → G H)
    (hs : ∀ p i x acc H1, H p = none → xs[i]? = some x → i < xs.length → acc.length ≤ i → H1 p = some (.lst acc) → Pv p i acc H1 → g x (List.replicate k none ++ pick σ js) H1 fun σ2 H2 => tt σ2 H2 fun b H3 =>
      if b = true then te σ2 H3 (rPush p (CN p xs.length (Pv p) i)) else CN p xs.length (Pv p) i H3)
    (hd : ∀ p acc H1, H p = none → H1 p = some (.lst acc) → acc.length ≤ xs.length → Pv p xs.length acc H1 → Q (.ref p) H1) : rComp k js g tt te σ J H Q := fun p hp =>
  comp_walk hw hp (Pv p) (fun H' e h => h0 p H' hp e h) (hG p) (fun i x acc H1 h1 h2 h3 h4 h5 => hs p i x acc H1 hp h1 h2 h3 h4 h5) fun acc H1 h1 h2 h3 => hd p acc H1 hp h1 h2 h3
theorem push_i {p : Addr} {n : Nat} {Pv : Nat → List V → Hp → Prop} {i : Nat} {H : Hp} {acc : List V} {y : V} (hn : n ≤ 1000000) (hi : i < n) (hl : acc.length ≤ i) (e : H p = some (.lst acc)) (k : ∀ H', ExtBut p H H' → H' p = some (.lst (acc ++ [y])) → Pv (i + 1) (acc ++ [y]) H') :
    rPush p (CN p n Pv i) y H := cn_push hn hi hl e k
theorem comp_pure {J : It} {xs : List V} {G : Hp → Prop} {g : TG} {tt : TT} {te : TE} {σ : St} {H : Hp} {Q : VK} {k : Nat} {js : List Nat} (hw : WalkOf J xs G) (t : V → Bool) (f : V → V) (hz : xs.length ≤ 1000000) (hG : ∀ H', Same H H' → G H')
    (hs : ∀ (i : Nat) x H1 (R : VK) (R' : Hp → Prop), xs[i]? = some x → Same H H1 → (t x = true → R (f x) H1) → (t x = false → R' H1) → g x (List.replicate k none ++ pick σ js) H1 fun σ2 H2 => tt σ2 H2 fun b H3 => if b = true then te σ2 H3 R else R' H3)
    (hd : ∀ p H', H p = none → Same H H' → H' p = some (.lst ((xs.filter t).map f)) → Q (.ref p) H') : rComp k js g tt te σ J H Q := by
  refine comp_by hw (fun p i acc H1 => Same H H1 ∧ acc = ((xs.take i).filter t).map f) (fun p H' hp e h => ⟨e, by simp⟩) (fun p i acc H1 h => hG H1 h.1) (fun p i x acc H1 hp hx hi hl ha ⟨e, hacc⟩ => ?_) fun p acc H1 hp ha hl ⟨e, hacc⟩ => ?_
  · have ht : xs.take (i + 1) = xs.take i ++ [x] := by rw [List.take_add_one, hx]; rfl
    refine hs i x H1 _ _ hx e (fun h => ?_) fun h => ?_
    · refine push_i hz hi hl ha fun H' e' h' => ⟨fun b o hb => e' b o (ne_of_none hb hp) (e b o hb), ?_⟩
      rw [ht, List.filter_append, List.map_append, hacc]
      simp [h]
    · refine cn_skip hi hl ha ⟨e, ?_⟩
      rw [ht, List.filter_append, List.map_append, hacc]
      simp [h]
  · refine hd p H1 hp e ?_
    rw [ha, hacc, List.take_length]
theorem sign_of {z : Str} {i : Nat} {v : V} (h : (z.cps.toList.map fun c => V.str ⟨#[c]⟩)[i]? = some v) : ∃ c, v = .str ⟨#[c]⟩ ∧ c ∈ z.cps.toList := by
  rw [List.getElem?_map] at h
  cases e : z.cps.toList[i]? with
  | none => rw [e] at h; cases h
  | some c => rw [e] at h; cases h; exact ⟨c, rfl, List.mem_of_getElem? e⟩
theorem filter_true {α : Type} (xs : List α) : xs.filter (fun _ => true) = xs := by simp
theorem comp_map {J : It} {xs : List V} {G : Hp → Prop} {g : TG} {te : TE} {σ : St} {H : Hp} {Q : VK} {k : Nat} {js : List Nat} (hw : WalkOf J xs G) (f : V → V) (hz : xs.length ≤ 1000000) (hG : ∀ H', Same H H' → G H')
    (hs : ∀ (i : Nat) x H1 (R : VK), xs[i]? = some x → Same H H1 → R (f x) H1 → g x (List.replicate k none ++ pick σ js) H1 fun σ2 H2 => te σ2 H2 R)
    (hd : ∀ p H', H p = none → Same H H' → H' p = some (.lst (xs.map f)) → Q (.ref p) H') : rComp k js g tTrue te σ J H Q :=
  comp_pure hw (fun _ => true) f hz hG (fun i x H1 R R' hx e h _ => by
    have := hs i x H1 R hx e (h rfl)
    show g x _ H1 fun σ2 H2 => if true = true then te σ2 H2 R else R' H2
    simpa using this) fun p H' hp e h => hd p H' hp e (by rw [h, filter_true])
theorem for_by {J : It} {xs : List V} {G : Hp → Prop} {g : TG} {tb : TS} {D : Ends} {σ : St} {H : Hp} (hw : WalkOf J xs G) (Pv : Nat → St → Hp → Prop) (h0 : Pv 0 σ H) (hG : ∀ i σ H, Pv i σ H → G H)
    (hs : ∀ i x σ H, xs[i]? = some x → i < xs.length → Pv i σ H → g x σ H fun σ2 H2 => tb { D with nx := Pv (i + 1), ct := Pv (i + 1), bk := D.nx } σ2 H2) (hd : ∀ σ H, Pv xs.length σ H → D.nx σ H) : rFor g tb D σ J H :=
  for_walk hw Pv h0 hG (fun i x σ H hx => hs i x σ H hx (List.getElem?_eq_some_iff.mp hx).1) hd
section
variable {X : Cx} {K : PySem.W.Frag}
theorem op_addK (hK : X.K = K := by with_unfolding_all rfl) : OpR X (binaryOp .Add) (rAddA K) := hK ▸ op_addA
theorem op_eqK (hq : QA X.A) (hK : X.K = K := by with_unfolding_all rfl) : OpR X (compareOp .Eq) (rEqA K) := hK ▸ op_eqA hq
theorem op_neK (hq : QA X.A) (hK : X.K = K := by with_unfolding_all rfl) : OpR X (compareOp .NotEq) (rNeA K) := hK ▸ op_neA hq
theorem op_inK (hq : QA X.A) (hK : X.K = K := by with_unfolding_all rfl) : OpR X (compareOp .In) (rInA K false) := hK ▸ op_inA hq
theorem op_notInK (hq : QA X.A) (hK : X.K = K := by with_unfolding_all rfl) : OpR X (compareOp .NotIn) (rInA K true) := hK ▸ op_notInA hq
theorem ix_anyK (hu : X.A.units + 1 < cLine) (hK : X.K = K := by with_unfolding_all rfl) : IxR X (rIxA K) := hK ▸ ix_any hu
theorem sl_K (hK : X.K = K := by with_unfolding_all rfl) : SlR X (rSlA K) := hK ▸ sl_A
theorem call_lenK (hK : X.K = K := by with_unfolding_all rfl) : CallR X (.builtin "len") (rLenA K) := hK ▸ call_lenA
theorem call_isinstK (hK : X.K = K := by with_unfolding_all rfl) : CallR X (.builtin "isinstance") (rIsinst K) := hK ▸ call_isinstA
theorem call_listK (hK : X.K = K := by with_unfolding_all rfl) : CallR X (.type "list") (rListA K) := hK ▸ call_listA
theorem call_tupleK (hK : X.K = K := by with_unfolding_all rfl) : CallR X (.type "tuple") (rTupleA K) := hK ▸ call_tupleA
theorem call_allK (hc : X.calm = true) (hK : X.K = K := by with_unfolding_all rfl) : CallR X (.builtin "all") (rAllA K) := hK ▸ call_allA hc
theorem call_anyK (hc : X.calm = true) (hK : X.K = K := by with_unfolding_all rfl) : CallR X (.builtin "any") (rAnyA K) := hK ▸ call_anyA hc
theorem pi_anyK {tg : Expr} (hu : X.A.units + 1 < cLine) {l : Expr} {tl : TE} (hl : PE X l tl) (hK : X.K = K := by with_unfolding_all rfl) : PI X tg l (iAny K tl) := hK ▸ pi_any hu hl
variable {o e : Expr} {es : List Expr} {to : TE} {t : TA} {name : Str} {apos cpos : Pos} {T id : String} {r : V → List V → Hp → VK → Prop}
theorem pe_bmK (pa : PlainAttrs T) (slot : Slot T name id) (hty : typeOf (.builtin id) = pure (.type "method_descriptor")) (hm : MtR X id r) (ho : PE X o to) (ha : PA X (e :: es) t) (hK : X.K = K := by with_unfolding_all rfl)
    (hbase : attributeBase o name X.env (eval o X.env) = eval o X.env := by with_unfolding_all rfl)
    (hfew : ((backTo cpos (starEach (e :: es) X.env)).all (fun x => !x.1) && (backToKw cpos (keywordEach [] X.env)).all (fun x => x.1.isSome)
      && decide ((e :: es).length + ([] : List Keyword).length + (if ([] : List Keyword).isEmpty then 0 else 1) < 30)) = true := by with_unfolding_all rfl)
    (hline : (apos.endLine == cpos.line) = true := by with_unfolding_all rfl) (hs : starEach (e :: es) X.env = (false, eval e X.env) :: starEach es X.env := by with_unfolding_all rfl) (hplain : (backTo cpos (starEach es X.env)).any (·.1) = false := by with_unfolding_all rfl) :
    PE X (.Call (.Attribute o name apos) (e :: es) [] cpos) (tBM K T r to t) := hK ▸ pe_bm pa slot hty hm ho ha hbase hfew hline hs hplain
end
end L2
set_option Elab.async false
set_option linter.all false
set_option maxRecDepth 100000
set_option maxHeartbeats 4000000
namespace L2
open PySem PySem.Spec PyProof.Rows
noncomputable def Fz (H H' : Hp) : Prop := ∀ a xs, Rd H a (.tup xs) → Rd H' a (.tup xs)
theorem Fz.refl (H : Hp) : Fz H H := fun _ _ h => h
theorem Fz.trans {H H1 H2 : Hp} (a : Fz H H1) (b : Fz H1 H2) : Fz H H2 := fun c xs h => b c xs (a c xs h)
theorem Same.fz {H H' : Hp} (e : Same H H') : Fz H H' := fun a xs h => by
  rcases h with h | ⟨o, h⟩
  · exact .inl (e _ _ h)
  · exact .inr ⟨o, e _ _ h⟩
theorem fz_but {p : Addr} {H H' : Hp} (e : ExtBut p H H') (hp : ∀ xs, ¬ Rd H p (.tup xs)) : Fz H H' := fun a xs h => by
  have n : a ≠ p := fun q => hp xs (q ▸ h)
  rcases h with h | ⟨o, h⟩
  · exact .inl (e _ _ n h)
  · exact .inr ⟨o, e _ _ n h⟩
theorem ExtBut.fzL {p : Addr} {H H' : Hp} {l : List V} (e : ExtBut p H H') (hp : H p = some (.lst l)) : Fz H H' := fz_but e fun xs h => by
  rcases h with h | ⟨o, h⟩
  · rw [hp] at h; cases h
  · rw [hp] at h; cases h
theorem ExtBut.fzD {p : Addr} {H H' : Hp} {l : List (Key × V)} (e : ExtBut p H H') (hp : H p = some (.dK l)) : Fz H H' := fz_but e fun xs h => by
  rcases h with h | ⟨o, h⟩
  · rw [hp] at h; cases h
  · rw [hp] at h; cases h
theorem Fz.seq {K : PySem.W.Frag} {H H' : Hp} (e : Fz H H') {a : Addr} {xs : List V} (h : SqT K H a xs) : SqT K H' a xs := by
  rcases h with h | h
  · exact .inl (e _ _ h)
  · exact .inr h
mutual
def frz : PyData → Bool
  | .tuple ds => frzL ds
  | .list _ => false
  | .dict _ => false
  | _ => true
def frzL : List PyData → Bool
  | [] => true
  | d :: ds => frz d && frzL ds
end
mutual
theorem Is.fz {K : PySem.W.Frag} {H H' : Hp} (e : Fz H H') : ∀ (d : PyData) (v : V), frz d = true → Is K H d v → Is K H' d v
  | .none, _, _, h => by simp only [Is] at h ⊢; exact h
  | .bool _, _, _, h => by simp only [Is] at h ⊢; exact h
  | .int _, _, _, h => by simp only [Is] at h ⊢; exact h
  | .str _, _, _, h => by simp only [Is] at h ⊢; exact h
  | .list ds, v, hf, _ => by simp [frz] at hf
  | .tuple ds, v, hf, h => by
    simp only [Is] at h ⊢
    obtain ⟨a, xs, e1, e2, e3⟩ := h
    exact ⟨a, xs, e1, e.seq e2, IsL.fz e ds xs (by simpa only [frz] using hf) e3⟩
  | .dict _, _, _, h => by simp only [Is] at h
theorem IsL.fz {K : PySem.W.Frag} {H H' : Hp} (e : Fz H H') : ∀ (ds : List PyData) (vs : List V), frzL ds = true → IsL K H ds vs → IsL K H' ds vs
  | [], _, _, h => by simp only [IsL] at h ⊢; exact h
  | d :: ds, vs, hf, h => by
    simp only [IsL] at h ⊢
    simp only [frzL, Bool.and_eq_true] at hf
    obtain ⟨v, r, e1, e2, e3⟩ := h
    exact ⟨v, r, e1, Is.fz e d v hf.1 e2, IsL.fz e ds r hf.2 e3⟩
end
section
variable {K : PySem.W.Frag} {H H' : Hp}
theorem IsL.length : ∀ {ds : List PyData} {vs : List V}, IsL K H ds vs → ds.length = vs.length
  | [], _, h => by simp only [IsL] at h; subst h; rfl
  | d :: ds, vs, h => by
    simp only [IsL] at h
    obtain ⟨v, r, rfl, _, e3⟩ := h
    simp only [List.length_cons, IsL.length e3]
theorem IsL.get : ∀ {ds : List PyData} {vs : List V} {i : Nat} {x : V}, IsL K H ds vs → vs[i]? = some x → ∃ d, ds[i]? = some d ∧ Is K H d x
  | [], _, _, _, h, e => by simp only [IsL] at h; subst h; simp at e
  | d :: ds, vs, i, x, h, e => by
    simp only [IsL] at h
    obtain ⟨v, r, rfl, e2, e3⟩ := h
    cases i with
    | zero => simp at e; subst e; exact ⟨d, rfl, e2⟩
    | succ i =>
      obtain ⟨d', h1, h2⟩ := IsL.get (i := i) e3 (by simpa using e)
      exact ⟨d', by simpa using h1, h2⟩
theorem IsL.append : ∀ {ds es : List PyData} {vs us : List V}, IsL K H ds vs → IsL K H es us → IsL K H (ds ++ es) (vs ++ us)
  | [], _, _, _, h, g => by simp only [IsL] at h; subst h; exact g
  | d :: ds, es, vs, us, h, g => by
    simp only [IsL] at h
    obtain ⟨v, r, rfl, e2, e3⟩ := h
    simp only [List.cons_append, IsL]
    exact ⟨v, _, rfl, e2, IsL.append e3 g⟩
theorem IsL.one {d : PyData} {v : V} (h : Is K H d v) : IsL K H [d] [v] := by simp only [IsL]; exact ⟨v, [], rfl, h, rfl⟩
theorem IsL.nil : IsL K H [] [] := by simp only [IsL]
theorem IsL.cons {d : PyData} {v : V} {ds : List PyData} {vs : List V} (h : Is K H d v) (g : IsL K H ds vs) : IsL K H (d :: ds) (v :: vs) := by simp only [IsL]; exact ⟨v, vs, rfl, h, g⟩
theorem IsL.take : ∀ {ds : List PyData} {vs : List V} (n : Nat), IsL K H ds vs → IsL K H (ds.take n) (vs.take n)
  | ds, vs, 0, h => by simp only [List.take_zero]; exact .nil
  | [], vs, n + 1, h => by simp only [IsL] at h; subst h; exact .nil
  | d :: ds, vs, n + 1, h => by
    simp only [IsL] at h
    obtain ⟨v, r, rfl, e2, e3⟩ := h
    exact .cons e2 (IsL.take n e3)
theorem IsL.drop : ∀ {ds : List PyData} {vs : List V} (n : Nat), IsL K H ds vs → IsL K H (ds.drop n) (vs.drop n)
  | ds, vs, 0, h => h
  | [], vs, n + 1, h => by simp only [IsL] at h; subst h; exact .nil
  | d :: ds, vs, n + 1, h => by
    simp only [IsL] at h
    obtain ⟨v, r, rfl, e2, e3⟩ := h
    exact IsL.drop n e3
theorem IsL.str_eq : ∀ {ns : List Str} {vs : List V}, IsL K H (ns.map PyData.str) vs → vs = ns.map V.str
  | [], vs, h => by simp only [List.map_nil, IsL] at h; exact h
  | n :: ns, vs, h => by
    simp only [List.map_cons, IsL, Is] at h
    obtain ⟨v, r, rfl, rfl, e3⟩ := h
    rw [IsL.str_eq e3]
    rfl
theorem Is.tup {ds : List PyData} {v : V} (h : Is K H (.tuple ds) v) : ∃ a xs, v = .ref a ∧ SqT K H a xs ∧ IsL K H ds xs := by simpa only [Is] using h
theorem Is.of_tup {ds : List PyData} {a : Addr} {xs : List V} (h : SqT K H a xs) (g : IsL K H ds xs) : Is K H (.tuple ds) (.ref a) := by simp only [Is]; exact ⟨a, xs, rfl, h, g⟩
theorem Is.of_lst {ds : List PyData} {a : Addr} {xs : List V} (h : SqL K H a xs) (g : IsL K H ds xs) : Is K H (.list ds) (.ref a) := by simp only [Is]; exact ⟨a, xs, rfl, h, g⟩
theorem Is.str {z : Str} {v : V} (h : Is K H (.str z) v) : v = .str z := by simpa only [Is] using h
theorem is_str {z : Str} : Is K H (.str z) (.str z) := by simp only [Is]
theorem is_int {z : Int} : Is K H (.int z) (.int z) := by simp only [Is]
theorem is_bl {z : Bool} : Is K H (.bool z) (.bl z) := by simp only [Is]
end
noncomputable def nmD (ns : List Str) : PyData := .tuple (ns.map PyData.str)
noncomputable def prD (p : Str × Str) : PyData := .tuple [.str p.1, .str p.2]
noncomputable def psD (ps : List (Str × Str)) : PyData := .tuple (ps.map prD)
noncomputable def hfD (ns : List Str) (ps : List (Str × Str)) : PyData := .tuple [nmD ns, psD ps]
theorem frzL_strs : ∀ ns : List Str, frzL (ns.map PyData.str) = true
  | [] => rfl
  | n :: ns => by simp only [List.map_cons, frzL, frz, frzL_strs ns, Bool.and_self]
theorem frz_nm (ns : List Str) : frz (nmD ns) = true := by simp only [nmD, frz, frzL_strs]
theorem frz_pr (p : Str × Str) : frz (prD p) = true := by simp [prD, frz, frzL]
theorem frzL_prs : ∀ ps : List (Str × Str), frzL (ps.map prD) = true
  | [] => rfl
  | n :: ns => by simp only [List.map_cons, frzL, frz_pr, frzL_prs ns, Bool.and_self]
theorem frz_ps (ps : List (Str × Str)) : frz (psD ps) = true := by simp only [psD, frz, frzL_prs]
theorem frz_hf (ns : List Str) (ps : List (Str × Str)) : frz (hfD ns ps) = true := by simp only [hfD, frz, frzL, frz_nm, frz_ps, Bool.and_self]
section
variable {K : PySem.W.Frag} {H H' : Hp}
theorem Is.nm {ns : List Str} {v : V} (h : Is K H (nmD ns) v) : ∃ a, v = .ref a ∧ SqT K H a (ns.map V.str) := by
  obtain ⟨a, xs, rfl, h1, h2⟩ := Is.tup h
  exact ⟨a, rfl, by rw [← IsL.str_eq h2]; exact h1⟩
theorem is_nm {ns : List Str} {a : Addr} (h : SqT K H a (ns.map V.str)) : Is K H (nmD ns) (.ref a) := Is.of_tup h (is_strs ns)
theorem Is.pr {p : Str × Str} {v : V} (h : Is K H (prD p) v) : ∃ a, v = .ref a ∧ SqT K H a [.str p.1, .str p.2] := by
  obtain ⟨a, xs, rfl, h1, h2⟩ := Is.tup h
  simp only [IsL, Is] at h2
  obtain ⟨_, _, rfl, rfl, _, _, rfl, rfl, rfl⟩ := h2
  exact ⟨a, rfl, h1⟩
theorem is_pr {x y : Str} {a : Addr} (h : SqT K H a [.str x, .str y]) : Is K H (prD (x, y)) (.ref a) := Is.of_tup h (.cons is_str (.one is_str))
theorem Is.hf {ns : List Str} {ps : List (Str × Str)} {v : V} (h : Is K H (hfD ns ps) v) : ∃ a x y, v = .ref a ∧ SqT K H a [x, y] ∧ Is K H (nmD ns) x ∧ Is K H (psD ps) y := by
  obtain ⟨a, xs, rfl, h1, h2⟩ := Is.tup h
  simp only [IsL] at h2
  obtain ⟨x, _, rfl, hx, y, _, rfl, hy, rfl⟩ := h2
  exact ⟨a, x, y, rfl, h1, hx, hy⟩
theorem is_hf {ns : List Str} {ps : List (Str × Str)} {a : Addr} {x y : V} (h : SqT K H a [x, y]) (hx : Is K H (nmD ns) x) (hy : Is K H (psD ps) y) : Is K H (hfD ns ps) (.ref a) := Is.of_tup h (.cons hx (.one hy))
theorem Is.nm_fz {ns : List Str} {v : V} (h : Is K H (nmD ns) v) (e : Fz H H') : Is K H' (nmD ns) v := Is.fz e _ _ (frz_nm ns) h
theorem Is.pr_fz {p : Str × Str} {v : V} (h : Is K H (prD p) v) (e : Fz H H') : Is K H' (prD p) v := Is.fz e _ _ (frz_pr p) h
theorem Is.ps_fz {ps : List (Str × Str)} {v : V} (h : Is K H (psD ps) v) (e : Fz H H') : Is K H' (psD ps) v := Is.fz e _ _ (frz_ps ps) h
theorem Is.hf_fz {ns : List Str} {ps : List (Str × Str)} {v : V} (h : Is K H (hfD ns ps) v) (e : Fz H H') : Is K H' (hfD ns ps) v := Is.fz e _ _ (frz_hf ns ps) h
variable {σ : St} {Q : VK} {x v : V} {i : Int}
theorem i_ixQ {a : Addr} {xs : List V} (h : SqT K H a xs) (e : atI xs i = some v) (k : Q v H) : rIxA K (.ref a) (.int i) H Q := .inl (.inr (.inl ⟨a, xs, i, v, rfl, rfl, h, e, k⟩))
theorem i_ixN {ns : List Str} {z : Str} (h : Is K H (nmD ns) x) (e : atI ns i = some z) (k : Q (.str z) H) : rIxA K x (.int i) H Q := by
  obtain ⟨a, rfl, h1⟩ := h.nm
  refine i_ixQ h1 ?_ k
  unfold atI at e ⊢
  rw [List.length_map]
  cases hj : ixN ns.length i with
  | none => rw [hj] at e; cases e
  | some j =>
    rw [hj] at e
    show (ns.map V.str)[j]? = _
    rw [List.getElem?_map, show ns[j]? = some z from e]
    rfl
theorem i_ixH0 {ns : List Str} {ps : List (Str × Str)} (h : Is K H (hfD ns ps) x) (k : ∀ v, Is K H (nmD ns) v → Q v H) : rIxA K x (.int 0) H Q := by
  obtain ⟨a, u, w, rfl, h1, h2, h3⟩ := h.hf
  exact i_ixQ h1 rfl (k u h2)
theorem i_ixH1 {ns : List Str} {ps : List (Str × Str)} (h : Is K H (hfD ns ps) x) (k : ∀ v, Is K H (psD ps) v → Q v H) : rIxA K x (.int 1) H Q := by
  obtain ⟨a, u, w, rfl, h1, h2, h3⟩ := h.hf
  exact i_ixQ h1 rfl (k w h3)
theorem i_ixP0 {p : Str × Str} (h : Is K H (prD p) x) (k : Q (.str p.1) H) : rIxA K x (.int 0) H Q := by
  obtain ⟨a, rfl, h1⟩ := h.pr
  exact i_ixQ h1 rfl k
theorem i_ixP1 {p : Str × Str} (h : Is K H (prD p) x) (k : Q (.str p.2) H) : rIxA K x (.int 1) H Q := by
  obtain ⟨a, rfl, h1⟩ := h.pr
  exact i_ixQ h1 rfl k
theorem i_lenQ {ds : List PyData} (h : Is K H (.tuple ds) x) (k : Q (.int ds.length) H) : rLenA K [x] H Q := by
  obtain ⟨a, xs, rfl, h1, h2⟩ := h.tup
  rw [IsL.length h2] at k
  exact .inl ⟨.ref a, _, rfl, .inr ⟨xs, h1, rfl⟩, k⟩
theorem i_lenN {ns : List Str} (h : Is K H (nmD ns) x) (k : Q (.int ns.length) H) : rLenA K [x] H Q := i_lenQ h (by rw [List.length_map]; exact k)
theorem flat_strs (ns : List Str) : (ns.map V.str).all flatV = true := by
  rw [List.all_eq_true]
  intro v h
  obtain ⟨n, _, rfl⟩ := List.mem_map.mp h
  rfl
theorem inV_strs (z : Str) : ∀ ns : List Str, inV (.str z) (ns.map V.str) = decide (z ∈ ns)
  | [] => rfl
  | n :: ns => by
    have ih := inV_strs z ns
    unfold inV at ih ⊢
    rw [List.map_cons, List.any_cons, ih]
    have e : eqV (V.str n) (V.str z) = decide (n = z) := by
      show (n == z) = _
      by_cases h : n = z <;> simp [h]
    rw [e]
    by_cases h : n = z
    · subst h
      simp
    · have h' : ¬ z = n := fun q => h q.symm
      by_cases g : z ∈ ns <;> simp [h, h', g]
theorem i_inN {ns : List Str} {z : Str} (h : Is K H (nmD ns) x) (k : Q (.bl (decide (z ∈ ns))) H) : rInA K false (.str z) x H Q := by
  obtain ⟨a, rfl, h1⟩ := h.nm
  exact .inl ⟨a, _, rfl, .inr h1, rfl, flat_strs ns, by rw [inV_strs]; exact k⟩
theorem i_ninN {ns : List Str} {z : Str} (h : Is K H (nmD ns) x) (k : Q (.bl (!decide (z ∈ ns))) H) : rInA K true (.str z) x H Q := by
  obtain ⟨a, rfl, h1⟩ := h.nm
  exact .inl ⟨a, _, rfl, .inr h1, rfl, flat_strs ns, by rw [inV_strs]; exact k⟩
theorem for_is {ds : List PyData} {g : TG} {tb : TS} {D : Ends} (h : Is K H (.tuple ds) x) (hf : frzL ds = true) (Pv : Nat → St → Hp → Prop) (h0 : Pv 0 σ H) (hG : ∀ i σ' H', Pv i σ' H' → Fz H H')
    (hs : ∀ i d v σ' H', ds[i]? = some d → Is K H' d v → Pv i σ' H' → g v σ' H' fun σ2 H2 => tb { D with nx := Pv (i + 1), ct := Pv (i + 1), bk := D.nx } σ2 H2) (hd : ∀ σ' H', Pv ds.length σ' H' → D.nx σ' H') :
    rAnyIt K x H fun J H1 => rFor g tb D σ J H1 := by
  obtain ⟨a, xs, rfl, h1, h2⟩ := h.tup
  refine i_itT h1 (for_by walk_tup Pv h0 (fun i σ' H' p => (hG i σ' H' p).seq h1) (fun i v σ' H' hx hi p => ?_) fun σ' H' p => hd σ' H' (by rw [IsL.length h2]; exact p))
  obtain ⟨d, e1, e2⟩ := IsL.get (IsL.fz (hG i σ' H' p) ds xs hf h2) hx
  exact hs i d v σ' H' e1 e2 p
theorem for_nm {ns : List Str} {g : TG} {tb : TS} {D : Ends} (h : Is K H (nmD ns) x) (Pv : Nat → St → Hp → Prop) (h0 : Pv 0 σ H) (hG : ∀ i σ' H', Pv i σ' H' → Fz H H')
    (hs : ∀ i z σ' H', ns[i]? = some z → Pv i σ' H' → g (.str z) σ' H' fun σ2 H2 => tb { D with nx := Pv (i + 1), ct := Pv (i + 1), bk := D.nx } σ2 H2) (hd : ∀ σ' H', Pv ns.length σ' H' → D.nx σ' H') :
    rAnyIt K x H fun J H1 => rFor g tb D σ J H1 :=
  for_is h (frzL_strs ns) Pv h0 hG (fun i d v σ' H' e h p => by
    rw [List.getElem?_map] at e
    cases hn : ns[i]? with
    | none => rw [hn] at e; cases e
    | some z =>
      rw [hn] at e
      cases e
      rw [h.str]
      exact hs i z σ' H' hn p) fun σ' H' p => hd σ' H' (by rw [List.length_map] at p; exact p)
theorem for_ps {ps : List (Str × Str)} {g : TG} {tb : TS} {D : Ends} (h : Is K H (psD ps) x) (Pv : Nat → St → Hp → Prop) (h0 : Pv 0 σ H) (hG : ∀ i σ' H', Pv i σ' H' → Fz H H')
    (hs : ∀ i p v σ' H', ps[i]? = some p → Is K H' (prD p) v → Pv i σ' H' → g v σ' H' fun σ2 H2 => tb { D with nx := Pv (i + 1), ct := Pv (i + 1), bk := D.nx } σ2 H2) (hd : ∀ σ' H', Pv ps.length σ' H' → D.nx σ' H') :
    rAnyIt K x H fun J H1 => rFor g tb D σ J H1 :=
  for_is h (frzL_prs ps) Pv h0 hG (fun i d v σ' H' e h p => by
    rw [List.getElem?_map] at e
    cases hn : ps[i]? with
    | none => rw [hn] at e; cases e
    | some z =>
      rw [hn] at e
      cases e
      exact hs i z v σ' H' hn h p) fun σ' H' p => hd σ' H' (by rw [List.length_map] at p; exact p)
theorem frzL_map {α : Type} (f : α → PyData) (hf : ∀ a, frz (f a) = true) : ∀ xs : List α, frzL (xs.map f) = true
  | [] => rfl
  | x :: xs => by simp only [List.map_cons, frzL, hf, frzL_map f hf xs, Bool.and_self]
theorem comp_dat {α : Type} {J : It} {xs : List V} {G : Hp → Prop} {g : TG} {tt : TT} {te : TE} {Q : VK} {k : Nat} {js : List Nat} (hw : WalkOf J xs G) (as : List α) (hl : as.length = xs.length) (t : α → Bool) (f : α → PyData) (hf : ∀ a, frz (f a) = true) (hz : xs.length ≤ 1000000) (hG : ∀ H', Same H H' → G H')
    (hs : ∀ (i : Nat) a v H1 (R : VK) (R' : Hp → Prop), as[i]? = some a → xs[i]? = some v → Same H H1 → (t a = true → ∀ y H2, Same H1 H2 → Is K H2 (f a) y → R y H2) → (t a = false → ∀ H2, Same H1 H2 → R' H2) →
      g v (List.replicate k none ++ pick σ js) H1 fun σ2 H2 => tt σ2 H2 fun b H3 => if b = true then te σ2 H3 R else R' H3)
    (hd : ∀ p ys H', H p = none → Same H H' → H' p = some (.lst ys) → IsL K H' ((as.filter t).map f) ys → Q (.ref p) H') : rComp k js g tt te σ J H Q := by
  refine comp_by hw (fun p i acc H1 => Same H H1 ∧ IsL K H1 (((as.take i).filter t).map f) acc) (fun p H' hp e h => ⟨e, by simp only [List.take_zero, List.filter_nil, List.map_nil]; exact .nil⟩) (fun p i acc H1 h => hG H1 h.1) (fun p i x acc H1 hp hx hi hl1 ha ⟨e, hacc⟩ => ?_) fun p acc H1 hp ha hl1 ⟨e, hacc⟩ => ?_
  · have hi' : i < as.length := by omega
    obtain ⟨a, hai⟩ : ∃ a, as[i]? = some a := ⟨as[i], List.getElem?_eq_getElem hi'⟩
    have ht : as.take (i + 1) = as.take i ++ [a] := by rw [List.take_add_one, hai]; rfl
    refine hs i a x H1 _ _ hai hx e (fun h y H2 e2 hy => ?_) fun h H2 e2 => ?_
    · refine push_i hz hi hl1 (e2 _ _ ha) fun H' e' h' => ⟨fun b o hb => e' b o (ne_of_none hb hp) (e2 _ _ (e b o hb)), ?_⟩
      rw [ht, List.filter_append, List.map_append]
      have fz := e'.fzL (e2 _ _ ha)
      refine IsL.append (IsL.fz (e2.fz.trans fz) _ _ (frzL_map f hf _) hacc) ?_
      simp only [List.filter_cons, h, if_true, List.filter_nil, List.map_cons, List.map_nil]
      exact .one (Is.fz fz _ _ (hf a) hy)
    · refine cn_skip hi hl1 (e2 _ _ ha) ⟨e.trans e2, ?_⟩
      rw [ht, List.filter_append, List.map_append]
      simp only [List.filter_cons, h, Bool.false_eq_true, if_false, List.filter_nil, List.map_nil, List.append_nil]
      exact IsL.mono e2 _ _ hacc
  · refine hd p acc H1 hp e ha ?_
    rw [← hl, List.take_length] at hacc
    exact hacc
end
end L2
set_option Elab.async false
set_option linter.all false
set_option maxRecDepth 100000
set_option maxHeartbeats 4000000
namespace L2
open PySem PySem.Spec PyProof.Rows
section
variable {X : Cx} {K : PySem.W.Frag}
noncomputable def isDisp : PyData → Bool
  | .list _ => true
  | .tuple _ => true
  | _ => false
mutual
theorem Is.noDict {H : Hp} : ∀ (d : PyData) (v : V), Is K H d v → d.hasDict = false
  | .none, _, h => by simp only [PyData.hasDict]
  | .bool _, _, h => by simp only [PyData.hasDict]
  | .int _, _, h => by simp only [PyData.hasDict]
  | .str _, _, h => by simp only [PyData.hasDict]
  | .list ds, v, h => by
    simp only [Is] at h
    obtain ⟨a, xs, e1, e2, e3⟩ := h
    simp only [PyData.hasDict]
    exact IsL.noDict ds xs e3
  | .tuple ds, v, h => by
    simp only [Is] at h
    obtain ⟨a, xs, e1, e2, e3⟩ := h
    simp only [PyData.hasDict]
    exact IsL.noDict ds xs e3
  | .dict _, _, h => by simp only [Is] at h
theorem IsL.noDict {H : Hp} : ∀ (ds : List PyData) (vs : List V), IsL K H ds vs → PyData.hasDictAll ds = false
  | [], _, h => by simp only [PyData.hasDictAll]
  | d :: ds, vs, h => by
    simp only [IsL] at h
    obtain ⟨v, r, e1, e2, e3⟩ := h
    simp only [PyData.hasDictAll, Is.noDict d v e2, IsL.noDict ds r e3, Bool.or_self]
end
structure Sh (d : PyData) : Prop where
  dp : isDisp d = true
  sh : d.showable = true
  fits : d.shown.length ≤ sizeLine
  deep : d.depth ≤ 100
noncomputable def rReprK (K : PySem.W.Frag) : List V → Hp → VK → Prop := fun xs H Q => rReprA xs H Q ∨ ∃ x d, xs = [x] ∧ Is K H d x ∧ Sh d ∧ Q (.str d.shown) H
noncomputable def strRep (z : Str) (n : Nat) : Str := ⟨(List.replicate n z.cps).foldl (· ++ ·) #[]⟩
noncomputable def rMulS : R2 := fun x y H Q => ∃ z n, x = .str z ∧ y = .int n ∧ 2 ≤ n ∧ n ≤ 1000 ∧ z.length ≤ 1000 ∧ 0 < z.length ∧ Q (.str (strRep z n.toNat)) H
theorem op_mulS : OpR X (binaryOp .Mult) rMulS := by
  intro pins s σ H x y v u Q I rx ry h
  obtain ⟨z, n, rfl, rfl, h1, h2, h3, h4, q⟩ := h
  obtain ⟨t, rfl⟩ := rx
  obtain ⟨t2, rfl⟩ := ry
  have a1 : ¬ n < 1 := by omega
  have a2 : (n == 1 || z.length == 0) = false := by
    have e1 : (n == 1) = false := by simp; omega
    have e2 : (z.length == 0) = false := by simp; omega
    rw [e1, e2]; rfl
  have hz : z.length * n.toNat ≤ 1000000 := by
    have : z.length * n.toNat ≤ 1000 * 1000 := Nat.mul_le_mul h3 (by omega)
    omega
  have hlen : (strRep z n.toNat).length ≤ sizeLine := by
    have e : ∀ (m : Nat) (a : Array Nat), ((List.replicate m z.cps).foldl (· ++ ·) a).size = a.size + m * z.cps.size := by
      intro m
      induction m with
      | zero => intro a; simp
      | succ m ih => intro a; rw [List.replicate_succ, List.foldl_cons, ih, Array.size_append, Nat.succ_mul]; omega
    show ((List.replicate n.toNat z.cps).foldl (· ++ ·) #[]).size ≤ sizeLine
    rw [e]
    have e2 : z.cps.size = z.length := rfl
    rw [e2, sizeLine_eq, Nat.mul_comm]
    simp
    omega
  refine PySem.P.mul_str (by
      have b1 : ¬ n < -(2 ^ 63 : Int) := by omega
      have b2 : ¬ n ≥ 2 ^ 63 := by omega
      rw [decide_eq_false b1, decide_eq_false b2]; rfl) (fun _ _ => ?_) (fun _ _ => ?_) ?_
  · have : (2 ^ 63 - 1 : Int) / n ≥ 1000 := by
      refine Int.le_ediv_of_mul_le (by omega) ?_
      have : 1000 * n ≤ 1000 * 1000 := by omega
      omega
    omega
  · have hz2 : z.length * n.toNat ≤ sizeLine := line_of hz
    rw [sizeLine_eq] at hz2
    unfold Builtin.Str.tooLong
    simp [sizeLine_eq]
    omega
  · rw [if_neg a1, a2, if_neg Bool.false_ne_true]
    exact ⟨hlen, .str _, H, I.kept fun _ _ e => e, ⟨_, rfl⟩, q⟩
noncomputable def rMulB : R2 := fun x y H Q => rMulA x y H Q ∨ rMulS x y H Q
theorem op_mulB : OpR X (binaryOp .Mult) rMulB := op_mulA.or op_mulS
theorem i_mulBI {i j : Int} {H : Hp} {Q : VK} (h : CMul i j) (k : Q (.int (i * j)) H) : rMulB (.int i) (.int j) H Q := .inl (i_mulI h k)
theorem i_mulBS {z : Str} {n : Int} {H : Hp} {Q : VK} (h : 2 ≤ n ∧ n ≤ 1000 ∧ z.length ≤ 1000 ∧ 0 < z.length) (k : Q (.str (strRep z n.toNat)) H) : rMulB (.str z) (.int n) H Q := .inr ⟨z, n, rfl, rfl, h.1, h.2.1, h.2.2.1, h.2.2.2, k⟩
noncomputable def rIs (neg : Bool) : R2 := fun x y H Q => (y = .non ∧ Q (.bl (if neg then !decide (x = .non) else decide (x = .non))) H) ∨ ∃ a b, x = .bl a ∧ y = .bl b ∧ Q (.bl (if neg then !(a == b) else a == b)) H
noncomputable def insL (xs : List V) (i : Nat) (y : V) : List V := xs.take i ++ y :: xs.drop i
noncomputable def rInsert : V → List V → Hp → VK → Prop := fun x vs H Q => ∃ l xs i y, x = .ref l ∧ vs = [.int i, y] ∧ H l = some (.lst xs) ∧ 0 ≤ i ∧ i ≤ xs.length ∧ xs.length < sizeLine ∧ Q .non (upd H l (.lst (insL xs i.toNat y)))
theorem mt_insert : MtM X "list.insert" rInsert := by
  intro pins s σ H x vs v us Q I rx rv h
  obtain ⟨l, xs, i, y, rfl, rfl, hH, h0, h1, hz, q⟩ := h
  cases rx
  obtain ⟨u, w, rfl, ru, rw'⟩ := Vals.two rv
  obtain ⟨t, rfl⟩ := ru
  obtain ⟨z, its, n, r, hl, e⟩ := I.lstM hH
  have hlen := r.length
  refine call_meets F.slot_list_insert ⟨_, e, rfl⟩ F.entry_list_insert (F.args_list_insert_3 _ _ _)
    (AutoSeq1.list_insert_list_int_val_1 l its.toArray n i t w (by rw [fitsIndex_both (by omega) (by rw [sizeLine_eq] at hz; omega)]; decide) (by rw [List.size_toArray]; omega)) ⟨e, ?_⟩
  refine ⟨.non, _, I.lset (its' := its.take i.toNat ++ w :: its.drop i.toNat) hH e ?_ ((r.take i.toNat).append (.cons rw' (r.drop i.toNat))) ?_, rfl, q⟩
  · have hi : i.toNat ≤ its.length := by omega
    show (have k := if i < 0 then (i + ((its.toArray.size : Nat) : Int)).toNat else min i.toNat its.toArray.size; (its.toArray.extract 0 k).push w ++ its.toArray.extract k) = _
    rw [if_neg (by omega), List.size_toArray, Nat.min_eq_left hi]
    simp [List.extract_eq_drop_take]
    exact List.take_of_length_le (by rw [List.length_drop]; omega)
  · rw [List.length_append, List.length_cons, List.length_take, List.length_drop]
    omega
section
variable {D : Ends} {σ : St} {H : Hp} {t u : TS} {te td ty tv : TE} {g : TG}
theorem i_cut (M : St → Hp → Prop) (h1 : ∀ N : St → Hp → Prop, (∀ σ' H', M σ' H' → N σ' H') → t { D with nx := N } σ H) (h2 : ∀ σ' H', M σ' H' → u D σ' H') : tSeq t u D σ H := h1 (u D) h2
end
theorem i_listA {a : Addr} {xs : List V} {H : Hp} {Q : VK} (h : SqL K H a xs ∨ SqT K H a xs) (k : ∀ p H', H p = none → Same H H' → H' p = some (.lst xs) → Q (.ref p) H') : rListA K [.ref a] H Q := ⟨a, xs, rfl, h, fun p hp => k p _ hp (Same.upd hp) upd_same⟩
theorem mm {id : String} {r : V → List V → Hp → VK → Prop} (h : MtM X id r) : MtR X id r := h
theorem i_tyLm {a : Addr} {xs : List V} {H : Hp} {B : Prop} (h : H a = some (.lst xs)) (k : B) : tyV K "list" (.ref a) H ∧ B := ⟨.inl ⟨rfl, xs, SqL.of h⟩, k⟩
theorem i_ins {l : Addr} {xs : List V} {y : V} {i : Int} {H : Hp} {Q : VK} (h : H l = some (.lst xs)) (h0 : 0 ≤ i) (h1 : i ≤ xs.length) (hz : xs.length ≤ 1000000) (k : ∀ H', ExtBut l H H' → H' l = some (.lst (insL xs i.toNat y)) → Q .non H') : rInsert (.ref l) [.int i, y] H Q :=
  ⟨l, xs, i, y, rfl, rfl, h, h0, h1, by rw [sizeLine_eq]; omega, k _ ExtBut.upd upd_same⟩
theorem i_appR {l : Addr} {xs : List V} {y : V} {H : Hp} {Q : VK} (h : H l = some (.lst xs)) (hz : xs.length ≤ 1000000) (k : ∀ H', ExtBut l H H' → H' l = some (.lst (xs ++ [y])) → Q .non H') : rAppend (.ref l) [y] H Q :=
  ⟨l, xs, y, rfl, rfl, h, by rw [sizeLine_eq]; omega, k _ ExtBut.upd upd_same⟩
theorem i_extR {l b : Addr} {xs zs : List V} {H : Hp} {Q : VK} (h : H l = some (.lst xs)) (hb : H b = some (.lst zs)) (hz : xs.length + zs.length ≤ 1000000) (k : ∀ H', ExtBut l H H' → H' l = some (.lst (xs ++ zs)) → Q .non H') : rExtend (.ref l) [.ref b] H Q :=
  ⟨l, b, xs, zs, rfl, rfl, h, hb, line_of hz, k _ ExtBut.upd upd_same⟩
theorem i_popAtR {l : Addr} {xs : List V} {y : V} {i : Int} {H : Hp} {Q : VK} (h : H l = some (.lst xs)) (h0 : 0 ≤ i) (h1 : xs[i.toNat]? = some y) (k : ∀ H', ExtBut l H H' → H' l = some (.lst (xs.eraseIdx i.toNat)) → Q y H') (hz : xs.length ≤ 1000000) : rPopAt (.ref l) [.int i] H Q := by
  have h2 := (List.getElem?_eq_some_iff.mp h1).1
  refine ⟨l, xs, i, i.toNat, y, rfl, rfl, h, by omega, by omega, ?_, h1, k _ ExtBut.upd upd_same⟩
  have e := atI_get (atI_nat (α := V) h1)
  obtain ⟨j, e1, e2, e3, _⟩ := e
  rw [Int.toNat_of_nonneg h0] at e1
  rw [e1]
  have e4 : seqIndex? i xs.length = some i.toNat := by
    unfold seqIndex? at e1 ⊢
    simp [show ¬ i < 0 by omega] at e1 ⊢
    omega
  rw [← e1, e4]
end
end L2
set_option Elab.async false
set_option linter.all false
set_option maxRecDepth 100000
set_option maxHeartbeats 4000000
namespace L2
open PySem PySem.Spec PyProof.Rows
noncomputable def smallN (c : Nat) : Bool := decide (97 ≤ c) && decide (c ≤ 122)
noncomputable def isNm (x : Str) : Bool := decide (1 ≤ x.length) && decide (x.length ≤ 8) && x.cps.toList.all smallN
noncomputable def Names (ns : List Str) : Prop := ns.Nodup ∧ ∀ z ∈ ns, isNm z = true
noncomputable def LL : Str := "abcdefghijklmnopqrstuvwxyzabcdefghijklmnopqrstuvwxyz"
theorem LL_rep : strRep "abcdefghijklmnopqrstuvwxyz" (2 : Int).toNat = LL := by decide +kernel
noncomputable def LLn : List Nat := LL.cps.toList
theorem LL_len : LL.length = 52 := by decide +kernel
theorem LLn_len : LLn.length = 52 := by decide +kernel
theorem LL_small : ∀ c ∈ LLn, smallN c = true := by decide +kernel
noncomputable def txt (l : List Nat) : Str := ⟨l.toArray⟩
theorem txt_inj {a b : List Nat} (h : txt a = txt b) : a = b := by
  have : a.toArray = b.toArray := congrArg Str.cps h
  simpa using this
theorem txt_app (a b : List Nat) : txt a ++ txt b = txt (a ++ b) := by
  show (⟨a.toArray ++ b.toArray⟩ : Str) = ⟨(a ++ b).toArray⟩
  simp
theorem txt_name {l : List Nat} (h0 : 1 ≤ l.length) (h1 : l.length ≤ 8) (h2 : ∀ c ∈ l, smallN c = true) : isNm (txt l) = true := by
  unfold isNm
  have e : (txt l).length = l.length := by show l.toArray.size = _; simp
  rw [e, decide_eq_true h0, decide_eq_true h1]
  show (true && true && l.all smallN) = true
  rw [List.all_eq_true.mpr h2]
  rfl
noncomputable def cutN (a b : Nat) : List Nat := (LLn.drop a).take (b - a)
theorem cutN_len {a b : Nat} (h : a ≤ b) (h1 : b ≤ 52) : (cutN a b).length = b - a := by
  unfold cutN
  rw [List.length_take, List.length_drop, LLn_len]
  omega
theorem cutN_small {a b : Nat} : ∀ c ∈ cutN a b, smallN c = true := fun c hc => LL_small c (List.mem_of_mem_drop (List.mem_of_mem_take hc))
theorem LL_cut {i j : Int} (h0 : 0 ≤ i) (h1 : i ≤ j) (h2 : j ≤ 52) : Txt.slice LL (some i) (some j) = txt (cutN i.toNat j.toNat) := by
  have e := StrLaws.sliceText_plain (x := LL) (i := i) (j := j) ⟨h0, h1, by rw [show LL.cps.toList.length = 52 by decide +kernel]; omega⟩
  have e2 : (j - i).toNat = j.toNat - i.toNat := by omega
  rw [e2] at e
  exact e
noncomputable def sgnN (i : Nat) : List Nat := (LLn.drop i).take 1
theorem LL_at {i : Int} (h0 : 0 ≤ i) (h1 : i < 52) : ∃ c, atI LL.cps.toList i = some c ∧ (⟨#[c]⟩ : Str) = txt (sgnN i.toNat) := by
  have h2 : i.toNat < LLn.length := by rw [LLn_len]; omega
  refine ⟨LLn[i.toNat], ?_, ?_⟩
  · have := atI_nat (List.getElem?_eq_getElem h2)
    rwa [Int.toNat_of_nonneg h0] at this
  · unfold sgnN
    rw [List.drop_eq_getElem_cons h2]
    rfl
theorem sgnN_len {i : Nat} (h : i < 52) : (sgnN i).length = 1 := by
  unfold sgnN
  rw [List.length_take, List.length_drop, LLn_len]
  omega
theorem sgnN_small {i : Nat} : ∀ c ∈ sgnN i, smallN c = true := fun c hc => LL_small c (List.mem_of_mem_drop (List.mem_of_mem_take hc))
theorem nodup_map_on {α β : Type} {f : α → β} : ∀ {l : List α}, l.Nodup → (∀ a ∈ l, ∀ b ∈ l, f a = f b → a = b) → (l.map f).Nodup
  | [], _, _ => by simp
  | a :: l, h, hf => by
    rw [List.map_cons, List.nodup_cons]
    rw [List.nodup_cons] at h
    refine ⟨fun hm => ?_, nodup_map_on h.2 fun x hx y hy => hf x (List.mem_cons_of_mem _ hx) y (List.mem_cons_of_mem _ hy)⟩
    obtain ⟨b, hb, e⟩ := List.mem_map.mp hm
    have := hf b (List.mem_cons_of_mem _ hb) a List.mem_cons_self e
    subst this
    exact h.1 hb
theorem inj_of_nodup_map {α β : Type} {f : α → β} : ∀ {l : List α}, (l.map f).Nodup → ∀ a ∈ l, ∀ b ∈ l, f a = f b → a = b
  | [], _, a, ha, _, _, _ => by cases ha
  | c :: l, h, a, ha, b, hb, e => by
    rw [List.map_cons, List.nodup_cons] at h
    rcases List.mem_cons.mp ha with q | ha'
    · rcases List.mem_cons.mp hb with q' | hb'
      · rw [q, q']
      · exact absurd (List.mem_map.mpr ⟨b, hb', by rw [← e, q]⟩) h.1
    · rcases List.mem_cons.mp hb with q' | hb'
      · exact absurd (List.mem_map.mpr ⟨a, ha', by rw [e, q']⟩) h.1
      · exact inj_of_nodup_map h.2 a ha' b hb' e
theorem nodup_txt {l : List (List Nat)} (h : l.Nodup) : (l.map txt).Nodup := nodup_map_on h fun a _ b _ e => txt_inj e
theorem Names.perm {ns ms : List Str} (h : Names ns) (p : ms.Perm ns) : Names ms := ⟨p.nodup_iff.mpr h.1, fun z hz => h.2 z (p.mem_iff.mp hz)⟩
theorem Names.sublist {ns ms : List Str} (h : Names ns) (p : ms.Sublist ns) : Names ms := ⟨h.1.sublist p, fun z hz => h.2 z (p.subset hz)⟩
theorem cut_upto {xs : List V} {t : Int} (h0 : 0 ≤ t) : cutV xs none (some t) = xs.take t.toNat := by
  have e : HT.sIx xs.length xs.length (some t) = min t.toNat xs.length := by unfold HT.sIx; simp [show ¬ t < 0 by omega]
  unfold cutV
  rw [e]
  have e2 : HT.sIx xs.length 0 none = 0 := rfl
  rw [e2, List.drop_zero, Nat.sub_zero, Nat.min_comm]
  rw [← List.take_take]
  exact List.take_of_length_le (by rw [List.length_take]; omega)
theorem rng_get {lo : Int} {n i : Nat} {x : V} (h : ((List.range n).map fun (i : Nat) => V.int (lo + (i : Int)))[i]? = some x) : x = .int (lo + (i : Int)) ∧ i < n := by
  rw [List.getElem?_map] at h
  cases e : (List.range n)[i]? with
  | none => rw [e] at h; cases h
  | some j =>
    rw [e] at h
    cases h
    have e1 := List.getElem?_eq_some_iff.mp e
    obtain ⟨h1, h2⟩ := e1
    rw [List.length_range] at h1
    rw [List.getElem_range] at h2
    subst h2
    exact ⟨rfl, h1⟩
noncomputable def fI (F : Int → V) : V → V
  | .int k => F k
  | v => v
theorem map_rng {lo : Int} {n : Nat} {F : Int → V} {G : Nat → Str} (h : ∀ k < n, F (lo + (k : Int)) = .str (G k)) : ((List.range n).map fun (i : Nat) => V.int (lo + (i : Int))).map (fI F) = ((List.range n).map G).map V.str := by
  rw [List.map_map, List.map_map]
  refine List.map_congr_left fun k hk => ?_
  exact h k (List.mem_range.mp hk)
theorem LL_line : LL.length ≤ sizeLine := by rw [LL_len, sizeLine_eq]; omega
theorem ExtBut.off {d q : Addr} {H H1 H2 : Hp} (e : ExtBut d H H1) (hq : H q = none) (e2 : ExtBut q H1 H2) : ExtBut d H H2 := fun b o n h => e2 b o (ne_of_none h hq) (e b o n h)
theorem Same.off {q : Addr} {H H1 H2 : Hp} (e : Same H H1) (hq : H q = none) (e2 : ExtBut q H1 H2) : Same H H2 := fun b o h => e2 b o (ne_of_none h hq) (e b o h)
noncomputable def Up (ls : List Str) (ps : List (Str × Str)) : Prop := ∀ p ∈ ps, ∃ i j : Nat, i < j ∧ ls[i]? = some p.1 ∧ ls[j]? = some p.2
theorem Up.nil {ls : List Str} : Up ls [] := fun _ h => by cases h
theorem Up.sub {ls : List Str} {ps qs : List (Str × Str)} (h : Up ls ps) (s : ∀ p ∈ qs, p ∈ ps) : Up ls qs := fun p hp => h p (s p hp)
theorem str_at? {ls : List Str} {i : Int} (h0 : 0 ≤ i) (h1 : i < ls.length) : ∃ z, ls[i.toNat]? = some z ∧ atI (ls.map V.str) i = some (.str z) ∧ atI ls i = some z := by
  have h2 : i.toNat < ls.length := by omega
  refine ⟨ls[i.toNat], List.getElem?_eq_getElem h2, ?_, ?_⟩
  · have := atI_nat (xs := ls.map V.str) (j := i.toNat) (v := .str ls[i.toNat]) (by rw [List.getElem?_map, List.getElem?_eq_getElem h2]; rfl)
    rwa [Int.toNat_of_nonneg h0] at this
  · have := atI_nat (List.getElem?_eq_getElem h2)
    rwa [Int.toNat_of_nonneg h0] at this
theorem perm_erase {α : Type} : ∀ (us : List α) (k : Nat) (y : α), us[k]? = some y → (y :: us.eraseIdx k).Perm us
  | [], k, y, h => by simp at h
  | u :: us, 0, y, h => by
    have : u = y := by simpa using h
    subst this
    exact List.Perm.refl _
  | u :: us, k + 1, y, h => by
    have ih := perm_erase us k y (by simpa using h)
    exact (List.Perm.swap u y _).trans (ih.cons u)
theorem perm_pop {α : Type} {us : List α} {k : Nat} {y : α} (h : us[k]? = some y) (vs : List α) : (vs ++ [y] ++ us.eraseIdx k).Perm (vs ++ us) := by
  rw [List.append_assoc]
  exact List.Perm.append_left vs (perm_erase us k y h)
end L2
set_option Elab.async false
set_option linter.all false
set_option maxRecDepth 100000
set_option maxHeartbeats 4000000
namespace L2
open PySem PySem.Spec PyProof.Rows
inductive Way (ps : List (Str × Str)) : Str → Str → Prop
  | one {x y : Str} : (x, y) ∈ ps → Way ps x y
  | cons {x z y : Str} : (x, z) ∈ ps → Way ps z y → Way ps x y
theorem Way.trans {ps : List (Str × Str)} {x y z : Str} (h : Way ps x y) (g : Way ps y z) : Way ps x z := by
  induction h with
  | one e => exact .cons e g
  | cons e _ ih => exact .cons e (ih g)
theorem Way.left {ps : List (Str × Str)} {x y : Str} (h : Way ps x y) : x ∈ ps.map (·.1) := by
  cases h with
  | one e => exact List.mem_map.mpr ⟨_, e, rfl⟩
  | cons e _ => exact List.mem_map.mpr ⟨_, e, rfl⟩
theorem Way.right {ps : List (Str × Str)} {x y : Str} (h : Way ps x y) : y ∈ ps.map (·.2) := by
  induction h with
  | one e => exact List.mem_map.mpr ⟨_, e, rfl⟩
  | cons _ _ ih => exact ih
theorem Way.mono {ps qs : List (Str × Str)} (h : ∀ p ∈ ps, p ∈ qs) {x y : Str} (g : Way ps x y) : Way qs x y := by
  induction g with
  | one e => exact .one (h _ e)
  | cons e _ ih => exact .cons (h _ e) ih
theorem Up.lt {ls : List Str} (hn : ls.Nodup) {ps : List (Str × Str)} (h : Up ls ps) {x y : Str} (g : Way ps x y) : ∃ i j : Nat, i < j ∧ ls[i]? = some x ∧ ls[j]? = some y := by
  induction g with
  | one e => exact h _ e
  | cons e _ ih =>
    obtain ⟨i, j, h1, h2, h3⟩ := h _ e
    obtain ⟨i', j', g1, g2, g3⟩ := ih
    have e : j = i' := by
      obtain ⟨a, b⟩ := List.getElem?_eq_some_iff.mp h3
      obtain ⟨c, d⟩ := List.getElem?_eq_some_iff.mp g2
      exact (List.getElem_inj hn).mp (b.trans d.symm)
    exact ⟨i, j', by omega, h2, g3⟩
theorem Up.irrefl {ls : List Str} (hn : ls.Nodup) {ps : List (Str × Str)} (h : Up ls ps) {x : Str} : ¬ Way ps x x := fun g => by
  obtain ⟨i, j, h1, h2, h3⟩ := h.lt hn g
  obtain ⟨a, b⟩ := List.getElem?_eq_some_iff.mp h2
  obtain ⟨c, d⟩ := List.getElem?_eq_some_iff.mp h3
  have := (List.getElem_inj hn).mp (b.trans d.symm)
  omega
theorem Up.mem {ls : List Str} {ps : List (Str × Str)} (h : Up ls ps) {p : Str × Str} (hp : p ∈ ps) : p.1 ∈ ls ∧ p.2 ∈ ls := by
  obtain ⟨i, j, _, h2, h3⟩ := h p hp
  exact ⟨List.mem_of_getElem? h2, List.mem_of_getElem? h3⟩
structure Half (ns : List Str) (ps : List (Str × Str)) : Prop where
  names : Names ns
  few : ns.length ≤ 10
  le : ps.length ≤ 60
  line : ∃ ls : List Str, ls.Perm ns ∧ Up ls ps
theorem Half.irrefl {ns : List Str} {ps : List (Str × Str)} (h : Half ns ps) {x : Str} : ¬ Way ps x x := by
  obtain ⟨ls, h1, h2⟩ := h.line
  exact h2.irrefl (h1.nodup_iff.mpr h.names.1)
theorem Half.mem {ns : List Str} {ps : List (Str × Str)} (h : Half ns ps) {p : Str × Str} (hp : p ∈ ps) : p.1 ∈ ns ∧ p.2 ∈ ns := by
  obtain ⟨ls, h1, h2⟩ := h.line
  have := h2.mem hp
  exact ⟨h1.mem_iff.mp this.1, h1.mem_iff.mp this.2⟩
mutual
def plainD : PyData → Bool
  | .none => true
  | .bool _ => true
  | .str x => PyData.strOk x
  | .list ds => plainL ds
  | .tuple ds => plainL ds
  | _ => false
def plainL : List PyData → Bool
  | [] => true
  | d :: ds => plainD d && plainL ds
end
mutual
theorem plain_lay : ∀ d : PyData, plainD d = true → d.canLay0 = true
  | .none, _ => by simp only [PyData.canLay0]
  | .bool _, _ => by simp only [PyData.canLay0]
  | .str x, h => by simpa only [PyData.canLay0, plainD] using h
  | .list ds, h => by simp only [PyData.canLay0]; exact plain_layL ds (by simpa only [plainD] using h)
  | .tuple ds, h => by simp only [PyData.canLay0]; exact plain_layL ds (by simpa only [plainD] using h)
  | .int _, h => by simp [plainD] at h
  | .dict _, h => by simp [plainD] at h
theorem plain_layL : ∀ ds : List PyData, plainL ds = true → PyData.canLayAll0 ds = true
  | [], _ => by simp only [PyData.canLayAll0]
  | d :: ds, h => by
    simp only [plainL, Bool.and_eq_true] at h
    simp only [PyData.canLayAll0, plain_lay d h.1, plain_layL ds h.2, Bool.and_self]
end
mutual
theorem plain_sh : ∀ d : PyData, plainD d = true → d.showable = true
  | .none, _ => by simp only [PyData.showable]
  | .bool _, _ => by simp only [PyData.showable]
  | .str x, h => by simp only [PyData.showable]
  | .list ds, h => by simp only [PyData.showable]; exact plain_shL ds (by simpa only [plainD] using h)
  | .tuple ds, h => by simp only [PyData.showable]; exact plain_shL ds (by simpa only [plainD] using h)
  | .int _, h => by simp [plainD] at h
  | .dict _, h => by simp [plainD] at h
theorem plain_shL : ∀ ds : List PyData, plainL ds = true → PyData.showableAll ds = true
  | [], _ => by simp only [PyData.showableAll]
  | d :: ds, h => by
    simp only [plainL, Bool.and_eq_true] at h
    simp only [PyData.showableAll, plain_sh d h.1, plain_shL ds h.2, Bool.and_self]
end
mutual
theorem plain_ints : ∀ d : PyData, plainD d = true → d.intsShort 13 = true
  | .none, _ => by simp only [PyData.intsShort]
  | .bool _, _ => by simp only [PyData.intsShort]
  | .str x, h => by simp only [PyData.intsShort]
  | .list ds, h => by simp only [PyData.intsShort]; exact plain_intsL ds (by simpa only [plainD] using h)
  | .tuple ds, h => by simp only [PyData.intsShort]; exact plain_intsL ds (by simpa only [plainD] using h)
  | .int _, h => by simp [plainD] at h
  | .dict _, h => by simp [plainD] at h
theorem plain_intsL : ∀ ds : List PyData, plainL ds = true → PyData.intsShortAll 13 ds = true
  | [], _ => by simp only [PyData.intsShortAll]
  | d :: ds, h => by
    simp only [plainL, Bool.and_eq_true] at h
    simp only [PyData.intsShortAll, plain_ints d h.1, plain_intsL ds h.2, Bool.and_self]
end
structure Fine (d : PyData) : Prop where
  plain : plainD d = true
  deep : d.depth ≤ 60
  light : d.weight ≤ 1000000
theorem Fine.shaped {d : PyData} (h : Fine d) : SeqAt.shaped d = true := by
  unfold SeqAt.shaped
  rw [plain_lay d h.plain, decide_eq_true (Nat.le_trans h.deep (by decide))]
  rfl
theorem nm_ok {z : Str} (h : isNm z = true) : PyData.strOk z = true ∧ z.cps.size ≤ 8 := by
  unfold isNm at h
  simp only [Bool.and_eq_true, decide_eq_true_eq] at h
  refine ⟨?_, h.1.2⟩
  unfold PyData.strOk
  rw [← Array.all_toList, List.all_eq_true]
  intro c hc
  have := List.all_eq_true.mp h.2 c hc
  unfold smallN at this
  simp only [Bool.and_eq_true, decide_eq_true_eq] at this
  exact decide_eq_true (by omega)
theorem plainL_map {α : Type} (f : α → PyData) : ∀ xs : List α, (∀ a ∈ xs, plainD (f a) = true) → plainL (xs.map f) = true
  | [], _ => by simp only [List.map_nil, plainL]
  | x :: xs, h => by simp only [List.map_cons, plainL, h x List.mem_cons_self, plainL_map f xs fun a ha => h a (List.mem_cons_of_mem _ ha), Bool.and_self]
theorem depth_map {α : Type} (f : α → PyData) (n : Nat) : ∀ xs : List α, (∀ a ∈ xs, (f a).depth ≤ n) → PyData.depthAll (xs.map f) ≤ n
  | [], _ => by simp only [List.map_nil, PyData.depthAll]; omega
  | x :: xs, h => by
    have h1 := h x List.mem_cons_self
    have h2 := depth_map f n xs fun a ha => h a (List.mem_cons_of_mem _ ha)
    simp only [List.map_cons, PyData.depthAll]
    omega
theorem weight_map {α : Type} (f : α → PyData) (n : Nat) : ∀ xs : List α, (∀ a ∈ xs, (f a).weight ≤ n) → PyData.weightAll (xs.map f) ≤ xs.length * (n + 1)
  | [], _ => by simp only [List.map_nil, PyData.weightAll]; omega
  | x :: xs, h => by
    have h1 := h x List.mem_cons_self
    have h2 := weight_map f n xs fun a ha => h a (List.mem_cons_of_mem _ ha)
    simp only [List.map_cons, PyData.weightAll, List.length_cons, Nat.add_mul]
    omega
theorem nm_facts {ns : List Str} (h : ∀ z ∈ ns, isNm z = true) : plainD (nmD ns) = true ∧ (nmD ns).depth ≤ 1 ∧ (nmD ns).weight ≤ ns.length * 9 := by
  refine ⟨by simp only [nmD, plainD]; exact plainL_map _ ns fun z hz => by simp only [plainD]; exact (nm_ok (h z hz)).1, ?_, ?_⟩
  · simp only [nmD, PyData.depth]
    have := depth_map PyData.str 0 ns fun z hz => by simp only [PyData.depth]; omega
    omega
  · simp only [nmD, PyData.weight]
    exact weight_map PyData.str 8 ns fun z hz => by simp only [PyData.weight]; exact (nm_ok (h z hz)).2
theorem fine_nm {ns : List Str} (h : ∀ z ∈ ns, isNm z = true) (hl : ns.length ≤ 1000) : Fine (nmD ns) := let ⟨a, b, c⟩ := nm_facts h; ⟨a, by omega, by omega⟩
theorem fine_lst {ns : List Str} (h : ∀ z ∈ ns, PyData.strOk z = true) : SeqAt.shaped (.list (ns.map PyData.str)) = true := by
  unfold SeqAt.shaped
  have e : (PyData.list (ns.map PyData.str)).canLay0 = true := plain_lay _ (by simp only [plainD]; exact plainL_map _ ns fun z hz => by simp only [plainD]; exact h z hz)
  have e2 : (PyData.list (ns.map PyData.str)).depth ≤ 64 := by
    simp only [PyData.depth]
    have := depth_map PyData.str 0 ns fun z hz => by simp only [PyData.depth]; omega
    omega
  rw [e, decide_eq_true e2]
  rfl
theorem nodup_le {α : Type} [DecidableEq α] : ∀ {xs ys : List α}, xs.Nodup → (∀ x ∈ xs, x ∈ ys) → xs.length ≤ ys.length
  | [], _, _, _ => Nat.zero_le _
  | x :: xs, ys, h, hs => by
    rw [List.nodup_cons] at h
    have hx : x ∈ ys := hs x List.mem_cons_self
    have ih := nodup_le (xs := xs) (ys := ys.erase x) h.2 fun z hz => by
      refine (List.mem_erase_of_ne ?_).mpr (hs z (List.mem_cons_of_mem _ hz))
      intro e
      subst e
      exact h.1 hz
    rw [List.length_erase_of_mem hx] at ih
    have : 0 < ys.length := List.length_pos_of_mem hx
    rw [List.length_cons]
    omega
section
variable {c : TT} {tb : TS} {D : Ends} {σ : St} {H : Hp}
end
end L2
set_option Elab.async false
set_option linter.all false
set_option maxRecDepth 100000
set_option maxHeartbeats 4000000
namespace L2
open PySem PySem.Spec PyProof.Rows
section
variable {X : Cx} {K : PySem.W.Frag}
noncomputable def rUpdate : V → List V → Hp → VK → Prop := fun x vs H Q => ∃ d o kvs more, x = .ref d ∧ vs = [.ref o] ∧ d ≠ o ∧ H d = some (.dK kvs) ∧ H o = some (.dK more) ∧ kvs.length + more.length ≤ 1000000 ∧ Q .non (upd H d (.dK (mergeK kvs more)))
theorem mt_update : MtM X "dict.update" rUpdate := by
  intro pins s σ H x vs v us Q I rx rv h
  obtain ⟨d, o, kvs, more, rfl, rfl, hdo, hD, hO, hz, q⟩ := h
  cases rx
  obtain ⟨u, rfl, ru⟩ := rv.one
  cases ru
  obtain ⟨z1, hd1, vs1, rel1, dd1⟩ := dk_of I.hok hD
  obtain ⟨z2, hd2, vs2, rel2, dd2⟩ := dk_of I.hok hO
  have l1 : kvs.length = vs1.length := rel1.length
  have l2 : more.length = vs2.length := rel2.length
  refine call_meetsIn F.slot_dict_update dd1.typeIs F.entry_dict_update (F.args_dict_update_2 _ _) (meets_dict_update (mixKind X.prog X.w) d o hdo hd2) ⟨vs1, vs2, dd1, dd2, line_of (by omega), fun h' dd' _ hs => ?_⟩
  have he : ∃ q, h'.get? d = some q := let ⟨q, _, _, hq, _⟩ := dd'; ⟨q, hq⟩
  refine ⟨.non, _, d_write I (by rw [hD]; exact True.intro) hs he (dk_new ?_ hd1 (KV.merge rel2 rel1) dd'), rfl, q⟩
  have := length_mergeK more kvs
  exact line_of (by omega)
end
end L2
set_option Elab.async false
set_option linter.all false
set_option maxRecDepth 100000
set_option maxHeartbeats 4000000
namespace L2
open PySem PySem.Spec PyProof.Rows
theorem entry_dloop : entryFor table "dict.update.loop" = some Builtin.«dict.update.loop» := entryFor_of_tree (by kernel_rfl)
theorem plain_dloop : plainId "dict.update.loop" = true := by decide +kernel
theorem list_no_keys : typeLookup (.type "list") "keys" = pure none := by rw [typeLookup_type, builtinLookup_eq_fast]; kernel_rfl
section
variable {prog : Program} {w : World} {κ : Type} [DecidableEq κ] {knd : KeyKind prog w κ} {A : Around} {E : Value → Shared → Prop} {s : Shared}
theorem keys_miss {a : Addr} {xs : Array Value} {k : Nat} {Q : Option Value → Shared → Prop} (hx : s.heap.get? a = some { cls := .type "list", data := .seq xs k }) (hA : A.handled = none)
    (h : ∀ h' tk, (∀ b o, s.heap.get? b = some o → h'.get? b = some o) → Q none { s with heap := h', toks := tk }) : wpAny (model prog w) A (getAttr? (.ref a) "keys") Q E s := by
  obtain ⟨hp, g, d, tk, os⟩ := s
  have hT : ∀ tk', (⟨hp, g, d, tk', os⟩ : Shared).TypeIs (.ref a) "list" := fun _ => ⟨_, hx, rfl⟩
  have f1 := sub_AttributeError
  have f3 := F.slot_list_getattribute.lookup
  have f4 := F.slot_list_getattribute.bind (.ref a)
  have f5 := am_list_getattr_none
  unfold getAttr? getAttrBy? getAttrBy
  repeat (any_goals (first | assumption | exact hT _ | ((with_reducible show wpAny _ _ (call (Value.builtin "list.__getattribute__") _ _) _ _ _); refine call_meets F.slot_list_getattribute (hT _) am_entry_list_getattribute (F.args_list_getattribute_2 _ _) (meets_getattribute_miss_list a xs k #[] "keys" _ list_no_keys (by decide +kernel) (by rw [sizeLine_eq]; decide +kernel)) ⟨hx, hA, fun h' tk' e hx' => ?_⟩) | wp_step))
  obtain ⟨t', u', he⟩ := hx'.there
  show wpAny _ _ (getattributeRaised _ _ _ _ _ _ _) _ _ _
  unfold getattributeRaised
  repeat (any_goals (first | assumption | wp_step))
  exact h _ _ hx'.keeps
theorem pair_items {t : Addr} {k v : Value} {Q : List Value → Shared → Prop} (ht : IsTup s.heap t #[k, v]) (h : Q [k, v] s) : wpAny (model prog w) A (Builtin.Dict.pairItems (.ref t)) Q E s := by
  obtain ⟨o, ho, hc, n, hd⟩ := ht
  unfold Builtin.Dict.pairItems
  refine wpAny_bind (wpAny_typeOf ⟨o, ho, hc⟩ ?_)
  rw [if_pos (by decide)]
  refine wpAny_bind (wpAny_seqItems ho hd ?_)
  exact wpAny_pure h
theorem dict_loop {I D l : Addr} {items : Array Value} (hh : A.in1.handled = none) (hne : l ≠ I) (hDI : D ≠ I) (hDl : D ≠ l) (pk : List (κ × Value × Addr × Value)) (hlen : pk.length = items.size) (hz : items.size ≤ 1000000) :
    ∀ (j i : Nat) (s : Shared) (R : Result → Shared → Prop), items.size - i = j → i ≤ items.size → s.heap.IsListIter I l i → s.heap.IsList l items →
      s.heap.DictOf knd D (merged [] ((pk.take i).map fun p => (p.1, p.2.1))) →
      (∀ (n : Nat) (p : κ × Value × Addr × Value), pk[n]? = some p → items[n]? = some (Value.ref p.2.2.1) ∧ p.2.2.1 ≠ I ∧ p.2.2.1 ≠ D ∧ IsTup s.heap p.2.2.1 #[p.2.2.2, p.2.1] ∧ knd.is p.1 p.2.2.2 = true) →
      (∀ h' tk, h'.DictOf knd D (merged [] (pk.map fun p => (p.1, p.2.1))) → (∀ b o, b ≠ D → b ≠ I → s.heap.get? b = some o → h'.get? b = some o) → R (.ok (.ret .none)) { s with heap := h', toks := tk }) →
      codeAny (model prog w) A (.builtin "dict.update.loop" ⟨[.ref D, .ref I, .int i 0, .none], []⟩) R s := by
  have W := Walks.list (prog := prog) (w := w) hh I l hne items
  intro j
  induction j with
  | zero =>
    intro i s R hj hi hI hL hD hP hR
    have hin : i = items.size := by omega
    subst hin
    refine codeAny_builtin entry_dloop ?_
    rw [Around.under_plainId plain_dloop _]
    show wpAny _ A.in1 (pyNext (.ref I) >>= _) _ _ s
    refine wpAny_bind (W.done s _ _ ⟨hI, hL⟩ fun h' tk hm => ?_)
    show wpAny _ A.in1 (Builtin.Dict.addKeywords D [] >>= _) _ _ _
    refine wpAny_bind (wpAny_pure (wpAny_pure (hR h' tk ?_ fun b o hb hb' e => hm b o (by simpa using hb') e)))
    rw [← hlen, List.take_length] at hD
    obtain ⟨o, es, ep, ho, r⟩ := hD
    exact ⟨o, es, ep, hm D o (by simpa using hDI) ho, r⟩
  | succ j ih =>
    intro i s R hj hi hI hL hD hP hR
    have hlt : i < items.size := by omega
    obtain ⟨p, hp⟩ : ∃ p, pk[i]? = some p := ⟨pk[i]'(by omega), List.getElem?_eq_getElem _⟩
    obtain ⟨q1, q2, q3, q4, q5⟩ := hP i p hp
    refine codeAny_builtin entry_dloop ?_
    rw [Around.under_plainId plain_dloop _]
    show wpAny _ A.in1 (pyNext (.ref I) >>= _) _ _ s
    refine wpAny_bind (W.item i s _ _ hlt ⟨hI, hL⟩ fun v h' tk hv hst hm => ?_)
    have hv' : v = .ref p.2.2.1 := by
      have hv2 : items[i]? = some v := hv
      rw [q1] at hv2
      exact (Option.some.inj hv2).symm
    subst hv'
    have ht' : IsTup h' p.2.2.1 #[p.2.2.2, p.2.1] := by
      obtain ⟨o, ho, r⟩ := q4
      exact ⟨o, hm _ o (by simpa using q2) ho, r⟩
    have hD' : h'.DictOf knd D (merged [] ((pk.take i).map fun p => (p.1, p.2.1))) := by
      obtain ⟨o, es, ep, ho, r⟩ := hD
      exact ⟨o, es, ep, hm D o (by simpa using hDI) ho, r⟩
    show wpAny _ A.in1 (holding [Value.ref p.2.2.1] _ >>= _) _ _ _
    refine wpAny_bind (wpAny_holding ?_)
    refine wpAny_bind (wpAny_tryCatch (pair_items ht' ?_))
    show wpAny _ A.in1 (holding [p.2.2.2, p.2.1] (dictSet D p.2.2.2 p.2.1)) _ _ _
    refine wpAny_holding (wpAny_dictSet_pairs q5 hD' (fun h'' hD'' hs => ?_) ?_)
    · refine wpAny_pure ⟨plainId_quiet plain_dloop _, ?_⟩
      have hkeep : ∀ b o, b ≠ D → b ≠ I → s.heap.get? b = some o → h''.get? b = some o := fun b o h1 h2 e => (hs.2 b h1).trans (hm b o (by simpa using h2) e)
      refine ih (i + 1) _ R (by omega) hlt ?_ ?_ ?_ (fun n p' hp' => ?_) fun h3 tk3 hD3 hk3 => hR h3 tk3 hD3 fun b o h1 h2 e => hk3 b o h1 h2 (hkeep b o h1 h2 e)
      · exact hst.1.at fun o e => (hs.2 I (Ne.symm hDI)).trans e
      · exact hst.2.at fun o e => (hs.2 l (Ne.symm hDl)).trans e
      · have e : merged [] ((pk.take (i + 1)).map fun p => (p.1, p.2.1)) = stored (merged [] ((pk.take i).map fun p => (p.1, p.2.1))) p.1 p.2.1 := by
          rw [List.take_add_one, hp]
          unfold merged
          rw [List.map_append, List.foldl_append]
          rfl
        rw [e]
        exact hD''
      · obtain ⟨a1, a2, a3, ⟨o, ho, r⟩, a5⟩ := hP n p' hp'
        exact ⟨a1, a2, a3, ⟨o, hkeep _ o a3 a2 ho, r⟩, a5⟩
    · refine Nat.le_trans (merged_length_le _ _) (line_of ?_)
      rw [List.length_map, List.length_take]
      simp
      omega
theorem call_dict_pairs {l : Addr} {items : Array Value} {n : Nat} {Q : Value → Shared → Prop} (hl : s.heap.get? l = some { cls := .type "list", data := .seq items n }) (hA : A.handled = none) (pk : List (κ × Value × Addr × Value)) (hlen : pk.length = items.size) (hz : items.size ≤ 1000000)
    (hP : ∀ (n : Nat) (p : κ × Value × Addr × Value), pk[n]? = some p → items[n]? = some (Value.ref p.2.2.1) ∧ IsTup s.heap p.2.2.1 #[p.2.2.2, p.2.1] ∧ knd.is p.1 p.2.2.2 = true)
    (h : ∀ h' tk, h'.DictOf knd s.heap.objs.size (merged [] (pk.map fun p => (p.1, p.2.1))) → (∀ b o, s.heap.get? b = some o → h'.get? b = some o) → Q (.ref s.heap.objs.size) { s with heap := h', toks := tk }) :
    wpAny (model prog w) A (call (.type "dict") [.ref l]) Q E s := by
  refine callType_codes (Q₁ := fun obj s₁ => obj = .ref s.heap.objs.size ∧ s₁ = { s with heap := s.heap.push { cls := .type "dict", data := .dict #[] } }) F.kt_called_dict (F.kt_typeCall_dict_1 _) F.entry_dict_init (kt_code_dict_new _ ⟨rfl, rfl⟩) ?_
  rintro obj s₁ ⟨rfl, rfl⟩
  have hnew : (s.heap.push { cls := .type "dict", data := .dict #[] }).DictOf knd s.heap.objs.size [] := Heap.DictOf.new s.heap
  have hl' : (s.heap.push { cls := .type "dict", data := .dict #[] }).get? l = some { cls := .type "list", data := .seq items n } := Heap.get?_push_of_some _ hl
  have hll : l < s.heap.objs.size := Heap.lt_size hl
  refine ⟨hnew.typeIs, F.args_dict_init_2 _ _, ?_⟩
  unfold Builtin.«dict.__init__»
  refine wpAny_bind ?_
  unfold Builtin.Dict.selfAndRest
  refine wpAny_bind (wpAny_notOrdered_dict hnew.typeIs ?_)
  show wpAny _ _ (pure (s.heap.objs.size, [Value.ref l])) _ _ _
  refine wpAny_pure ?_
  show wpAny _ _ (Builtin.Dict.updateFrom "dict.__init__" s.heap.objs.size (.ref l) [] .none) _ _ _
  unfold Builtin.Dict.updateFrom
  refine wpAny_bind (wpAny_typeOf ⟨_, hl', rfl⟩ ?_)
  rw [if_pos (by decide)]
  refine wpAny_bind (keys_miss hl' (by simpa using hA) fun h1 tk1 hk1 => ?_)
  have hl1 : h1.get? l = some { cls := .type "list", data := .seq items n } := hk1 _ _ hl'
  rw [if_pos (show (none : Option Value).isNone = true from rfl)]
  have hD1 : h1.DictOf knd s.heap.objs.size [] := by
    obtain ⟨o, es, ep, ho, r⟩ := hnew
    exact ⟨o, es, ep, hk1 _ _ ho, r⟩
  have hsz : s.heap.objs.size < h1.objs.size := by
    obtain ⟨o, es, ep, ho, r⟩ := hD1
    exact Heap.lt_size ho
  refine wpAny_bind (wpAny_rule ?_)
  have hL1 : h1.IsList l items := ⟨_, hl1, rfl, n, rfl⟩
  refine wpAny_bind (wpAny_pyIter_list hL1 ?_)
  refine wpAny_pure ⟨plainId_quiet plain_dloop _, ?_⟩
  have kp : ∀ b o, s.heap.get? b = some o → (h1.push { cls := .type "list_iterator", data := .fields #[.ref l, .int 0 0] }).get? b = some o := fun b o e => Heap.get?_push_of_some _ (hk1 _ _ (Heap.get?_push_of_some _ e))
  refine dict_loop (knd := knd) (A := A.in1) (I := h1.objs.size) (D := s.heap.objs.size) (l := l) (items := items) (by simpa using hA) (Nat.ne_of_lt (Nat.lt_trans hll hsz)) (Nat.ne_of_lt hsz) (Nat.ne_of_gt hll) pk hlen hz items.size 0 _ _ (Nat.sub_zero _) (Nat.zero_le _) ⟨_, Heap.get?_push_size _ rfl, rfl, rfl⟩ (hL1.push _) ?_ (fun m p hp => ?_) fun h' tk hD hk => ?_
  · exact hD1.push _
  · obtain ⟨a1, ⟨o, ho, r⟩, a3⟩ := hP m p hp
    have hlt := Heap.lt_size ho
    exact ⟨a1, Nat.ne_of_lt (Nat.lt_trans hlt hsz), Nat.ne_of_lt hlt, ⟨o, kp _ _ ho, r⟩, a3⟩
  · refine ⟨rfl, h h' tk hD fun b o e => ?_⟩
    have hlt := Heap.lt_size e
    exact hk b o (Nat.ne_of_lt hlt) (Nat.ne_of_lt (Nat.lt_trans hlt hsz)) (kp b o e)
end
noncomputable def PrsK (K : PySem.W.Frag) (H : Hp) : List (Key × V) → List V → Prop
  | [], ys => ys = []
  | kv :: r, ys => ∃ t ys', ys = .ref t :: ys' ∧ SqT K H t [kV kv.1, kv.2] ∧ PrsK K H r ys'
theorem PrsK.pk {X : Cx} {pins : List (Addr × Obj)} {σ : St} {H : Hp} {s : Shared} (I : Inv X pins σ H s) : ∀ (kvs : List (Key × V)) (ys : List V) (its : List Value), PrsK X.K H kvs ys → Vals ys its →
    ∃ pk : List (Key × Value × Addr × Value), pk.length = its.length ∧ KV kvs (pk.map fun p => (p.1, p.2.1)) ∧ ∀ (n : Nat) (p : Key × Value × Addr × Value), pk[n]? = some p → its[n]? = some (Value.ref p.2.2.1) ∧ IsTup s.heap p.2.2.1 #[p.2.2.2, p.2.1] ∧ (mixKind X.prog X.w).is p.1 p.2.2.2 = true
  | [], ys, its, h, v => by
    have h' : ys = [] := h
    subst h'
    cases v
    exact ⟨[], rfl, .nil, fun n p hp => by simp at hp⟩
  | kv :: r, ys, its, h, v => by
    obtain ⟨t, ys', rfl, h2, h3⟩ := h
    cases v with
    | cons v1 v2 =>
      obtain ⟨pk, l1, l2, l3⟩ := PrsK.pk I r ys' _ h3 v2
      cases v1
      obtain ⟨its2, rv, ht, _⟩ := I.tuple h2
      obtain ⟨key, val, rfl, a1, a3⟩ := Vals.two rv
      refine ⟨(kv.1, val, t, key) :: pk, by simp [l1], .cons ⟨rfl, a3⟩ l2, fun n p hp => ?_⟩
      cases n with
      | zero =>
        have : p = (kv.1, val, t, key) := (Option.some.inj (by simpa using hp)).symm
        subst this
        exact ⟨rfl, ht, kV_is a1⟩
      | succ n => exact l3 n p (by simpa using hp)
section
variable {X : Cx} {K : PySem.W.Frag}
noncomputable def rDictA (K : PySem.W.Frag) : List V → Hp → VK → Prop := fun xs H Q => ∃ l ys kvs, xs = [V.ref l] ∧ H l = some (.lst ys) ∧ PrsK K H kvs ys ∧ ys.length ≤ 1000000 ∧ kvs.length ≤ 1000000 ∧ ∀ p, H p = none → Q (.ref p) (upd H p (.dK (mergeK [] kvs)))
theorem call_dictA (hr : X.A.handled = none) : CallR X (.type "dict") (rDictA X.K) := by
  intro pins s σ H xs us Q I rv h
  obtain ⟨l, ys, kvs, rfl, hl, hp, hz, hz2, q⟩ := h
  obtain ⟨u, rfl, ru⟩ := rv.one
  cases ru
  obtain ⟨z, its, n, r, hlen, e⟩ := I.lstM hl
  obtain ⟨pk, l1, l2, l3⟩ := PrsK.pk I kvs ys its hp r
  refine call_dict_pairs (knd := mixKind X.prog X.w) e hr pk (by simpa using l1) (by simp; omega) (fun n p hp => ?_) fun h' tk hD hk => ?_
  · obtain ⟨a1, a2, a3⟩ := l3 n p hp
    exact ⟨by simpa using a1, a2, a3⟩
  · refine ⟨.ref s.heap.objs.size, _, I.laid hk (Nat.le_refl _) (dk_new ?_ ?_ (KV.merge l2 .nil) hD), rfl, q _ (I.hok.fresh (Nat.le_refl _))⟩
    · have := length_mergeK kvs []
      exact line_of (by simpa using Nat.le_trans this (by simpa using hz2))
    · exact beq_eq_false_iff_ne.mpr (Nat.ne_of_gt I.big)
theorem call_dictK (hr : X.A.handled = none) (hK : X.K = K := by with_unfolding_all rfl) : CallR X (.type "dict") (rDictA K) := hK ▸ call_dictA hr
end
end L2
set_option Elab.async false
set_option linter.all false
set_option maxRecDepth 100000
set_option maxHeartbeats 4000000
namespace L2
open PySem PySem.Spec PyProof.Rows
noncomputable def tabK (ns : List Str) (as : List Addr) : List (Key × V) := (ns.zip as).map fun p => (Sum.inr p.1, V.ref p.2)
noncomputable def rowK (ks : List Str) : List (Key × V) := ks.map fun y => (Sum.inr y, V.bl true)
theorem valV_tab : ∀ {ns : List Str} {as : List Addr} {i : Nat} {z : Str} {a : Addr}, ns.Nodup → ns[i]? = some z → as[i]? = some a → valV (tabK ns as) (Sum.inr z : Key) = some (.ref a)
  | [], _, i, _, _, _, h, _ => by simp at h
  | n :: ns, [], i, _, _, _, _, h => by simp at h
  | n :: ns, b :: as, 0, z, a, _, h, g => by
    simp at h g
    subst h g
    exact valV_pos rfl
  | n :: ns, b :: as, i + 1, z, a, hn, h, g => by
    rw [List.nodup_cons] at hn
    have h' : ns[i]? = some z := by simpa using h
    have ne : ¬ (Sum.inr n : Key) = Sum.inr z := by
      intro e
      have e2 : n = z := by injection e
      subst e2
      exact hn.1 (List.mem_of_getElem? h')
    show valV ((Sum.inr n, V.ref b) :: tabK ns as) _ = _
    rw [valV_neg ne]
    exact valV_tab hn.2 h' (by simpa using g)
theorem valV_row (y : Str) : ∀ ks : List Str, valV (rowK ks) (Sum.inr y : Key) = if y ∈ ks then some (.bl true) else none
  | [] => by simp [rowK, valV_nil]
  | k :: ks => by
    show valV ((Sum.inr k, V.bl true) :: rowK ks) _ = _
    by_cases e : k = y
    · subst e
      rw [valV_pos rfl, if_pos List.mem_cons_self]
    · rw [valV_neg (by intro q; injection q with q; exact e q), valV_row y ks]
      have : (y ∈ k :: ks) ↔ y ∈ ks := by simp [Ne.symm e]
      simp only [this]
noncomputable def addK (ks : List Str) (y : Str) : List Str := if y ∈ ks then ks else ks ++ [y]
theorem mem_addK {ks : List Str} {y z : Str} : z ∈ addK ks y ↔ z ∈ ks ∨ z = y := by
  unfold addK
  split
  · constructor
    · exact .inl
    · rintro (h | rfl)
      · exact h
      · assumption
  · simp
theorem nodup_addK {ks : List Str} {y : Str} (h : ks.Nodup) : (addK ks y).Nodup := by
  unfold addK
  split
  · exact h
  · rename_i hy
    rw [List.nodup_append]
    refine ⟨h, by simp, fun a ha b hb e => ?_⟩
    have : b = y := by simpa using hb
    subst this
    subst e
    exact hy ha
theorem any_row (y : Str) (ks : List Str) : ((rowK ks).any fun kv => decide (kv.1 = (Sum.inr y : Key))) = decide (y ∈ ks) := by
  induction ks with
  | nil => simp [rowK]
  | cons k ks ih =>
    show (decide ((Sum.inr k : Key) = Sum.inr y) || (rowK ks).any _) = _
    rw [ih]
    by_cases e : k = y
    · subst e; simp
    · have e' : ¬ (Sum.inr k : Key) = Sum.inr y := by intro q; injection q with q; exact e q
      simp [e', Ne.symm e]
theorem put_row (ks : List Str) (y : Str) : putK (rowK ks) (Sum.inr y : Key) (.bl true) = rowK (addK ks y) := by
  unfold putK addK
  rw [any_row]
  by_cases h : y ∈ ks
  · rw [if_pos (decide_eq_true h), if_pos h]
    unfold rowK
    rw [List.map_map]
    refine List.map_congr_left fun k _ => ?_
    show (if (Sum.inr k : Key) = Sum.inr y then (Sum.inr k, V.bl true) else (Sum.inr k, V.bl true)) = _
    split <;> rfl
  · rw [if_neg (by simpa using h), if_neg h]
    unfold rowK
    rw [List.map_append]
    rfl
noncomputable def addAll (ks ms : List Str) : List Str := ms.foldl addK ks
theorem merge_row : ∀ (ms ks : List Str), mergeK (rowK ks) (rowK ms) = rowK (addAll ks ms)
  | [], ks => rfl
  | m :: ms, ks => by
    show mergeK (putK (rowK ks) (Sum.inr m) (.bl true)) (rowK ms) = _
    rw [put_row, merge_row ms]
    rfl
theorem mem_addAll : ∀ {ms ks : List Str} {z : Str}, z ∈ addAll ks ms ↔ z ∈ ks ∨ z ∈ ms
  | [], ks, z => by simp [addAll]
  | m :: ms, ks, z => by
    show z ∈ addAll (addK ks m) ms ↔ _
    rw [mem_addAll, mem_addK, List.mem_cons, or_assoc]
theorem nodup_addAll : ∀ {ms ks : List Str}, ks.Nodup → (addAll ks ms).Nodup
  | [], ks, h => h
  | m :: ms, ks, h => nodup_addAll (ms := ms) (nodup_addK h)
theorem len_row (ks : List Str) : (rowK ks).length = ks.length := by simp [rowK]
theorem merge_new : ∀ (kvs acc : List (Key × V)), (kvs.map (·.1)).Nodup → (∀ k ∈ kvs, ∀ q ∈ acc, q.1 ≠ k.1) → mergeK acc kvs = acc ++ kvs
  | [], acc, _, _ => by simp [mergeK]
  | k :: kvs, acc, hn, hd => by
    show mergeK (putK acc k.1 k.2) kvs = _
    have e : putK acc k.1 k.2 = acc ++ [k] := by
      unfold putK
      have : ¬ (acc.any fun kv => decide (kv.1 = k.1)) = true := by
        rw [List.any_eq_true]
        rintro ⟨q, hq, e⟩
        exact hd k List.mem_cons_self q hq (of_decide_eq_true e)
      rw [if_neg this]
    rw [List.map_cons, List.nodup_cons] at hn
    rw [e, merge_new kvs (acc ++ [k]) hn.2 fun x hx q hq => ?_, List.append_assoc]
    · rfl
    · rcases List.mem_append.mp hq with hq | hq
      · exact hd x (List.mem_cons_of_mem _ hx) q hq
      · have : q = k := by simpa using hq
        subst this
        intro e
        exact hn.1 (List.mem_map.mpr ⟨x, hx, e.symm⟩)
structure Tab (H : Hp) (r : Addr) (ns : List Str) (as : List Addr) (R : Str → Str → Prop) : Prop where
  len : as.length = ns.length
  nd : as.Nodup
  nr : r ∉ as
  top : H r = some (.dK (tabK ns as))
  row : ∀ (i : Nat) (z : Str) (a : Addr), ns[i]? = some z → as[i]? = some a → ∃ ks : List Str, H a = some (.dK (rowK ks)) ∧ ks.Nodup ∧ (∀ y ∈ ks, y ∈ ns) ∧ ∀ y, y ∈ ks ↔ R z y
theorem Tab.same {H H' : Hp} {r : Addr} {ns : List Str} {as : List Addr} {R : Str → Str → Prop} (h : Tab H r ns as R) (e : Same H H') : Tab H' r ns as R :=
  ⟨h.len, h.nd, h.nr, e _ _ h.top, fun i z a hz ha => let ⟨ks, h1, h2⟩ := h.row i z a hz ha; ⟨ks, e _ _ h1, h2⟩⟩
theorem Tab.congr {H : Hp} {r : Addr} {ns : List Str} {as : List Addr} {R R' : Str → Str → Prop} (h : Tab H r ns as R) (e : ∀ z ∈ ns, ∀ y, R z y ↔ R' z y) : Tab H r ns as R' :=
  ⟨h.len, h.nd, h.nr, h.top, fun i z a hz ha => let ⟨ks, h1, h2, h3, h4⟩ := h.row i z a hz ha; ⟨ks, h1, h2, h3, fun y => (h4 y).trans (e z (List.mem_of_getElem? hz) y)⟩⟩
theorem Tab.put {H H' : Hp} {r b : Addr} {ns : List Str} {as : List Addr} {R R' : Str → Str → Prop} (h : Tab H r ns as R) (e : ExtBut b H H') {j : Nat} {x : Str} (hn : ns.Nodup) (hj : ns[j]? = some x) (hb : as[j]? = some b) {ks : List Str}
    (hk : H' b = some (.dK (rowK ks))) (k1 : ks.Nodup) (k2 : ∀ y ∈ ks, y ∈ ns) (k3 : ∀ y, y ∈ ks ↔ R' x y) (k4 : ∀ z ∈ ns, z ≠ x → ∀ y, R z y ↔ R' z y) : Tab H' r ns as R' := by
  refine ⟨h.len, h.nd, h.nr, e _ _ (fun q => h.nr (q ▸ List.mem_of_getElem? hb)) h.top, fun i z a hz ha => ?_⟩
  by_cases hij : i = j
  · subst hij
    rw [hz] at hj
    cases hj
    rw [ha] at hb
    cases hb
    exact ⟨ks, hk, k1, k2, k3⟩
  · obtain ⟨ms, h1, h2, h3, h4⟩ := h.row i z a hz ha
    have hab : a ≠ b := by
      intro q
      subst q
      obtain ⟨p1, p2⟩ := List.getElem?_eq_some_iff.mp ha
      obtain ⟨q1, q2⟩ := List.getElem?_eq_some_iff.mp hb
      exact hij ((List.getElem_inj h.nd).mp (p2.trans q2.symm))
    have hzx : z ≠ x := by
      intro q
      subst q
      obtain ⟨p1, p2⟩ := List.getElem?_eq_some_iff.mp hz
      obtain ⟨q1, q2⟩ := List.getElem?_eq_some_iff.mp hj
      exact hij ((List.getElem_inj hn).mp (p2.trans q2.symm))
    exact ⟨ms, e _ _ hab h1, h2, h3, fun y => (h4 y).trans (k4 z (List.mem_of_getElem? hz) hzx y)⟩
theorem Tab.at {H : Hp} {r : Addr} {ns : List Str} {as : List Addr} {R : Str → Str → Prop} (h : Tab H r ns as R) {x : Str} (hx : x ∈ ns) : ∃ (i : Nat) (a : Addr), ns[i]? = some x ∧ as[i]? = some a := by
  obtain ⟨i, hi, e⟩ := List.getElem_of_mem hx
  have hi' : i < as.length := by rw [h.len]; exact hi
  exact ⟨i, as[i], by rw [List.getElem?_eq_getElem hi, e], List.getElem?_eq_getElem hi'⟩
section
variable {K : PySem.W.Frag} {H : Hp} {Q : VK} {r : Addr} {ns : List Str} {as : List Addr} {R : Str → Str → Prop}
theorem i_tab {x : Str} {i : Nat} {a : Addr} (h : Tab H r ns as R) (hn : ns.Nodup) (hx : ns[i]? = some x) (ha : as[i]? = some a) (k : Q (.ref a) H) : rIxA K (.ref r) (.str x) H Q := i_ixD h.top (valV_tab hn hx ha) k
theorem i_inRow {a : Addr} {ks : List Str} {y : Str} (h : H a = some (.dK (rowK ks))) (k : Q (.bl (decide (y ∈ ks))) H) : rInA K false (.str y) (.ref a) H Q := by
  refine .inr (.inr (.inl ⟨a, valV (rowK ks) (Sum.inr y : Key), rfl, DGet.k (k := Sum.inr y) h, ?_⟩))
  rw [valV_row]
  by_cases e : y ∈ ks
  · rw [if_pos e]; simpa [e] using k
  · rw [if_neg e]; simpa [e] using k
theorem i_tyD {a : Addr} {kvs : List (Key × V)} {B : Prop} (h : H a = some (.dK kvs)) (k : B) : tyV K "dict" (.ref a) H ∧ B := ⟨.inr (.inr (.inl ⟨rfl, .inl ⟨kvs, h⟩⟩)), k⟩
theorem i_upd {d o : Addr} {ks ms : List Str} (hd : H d = some (.dK (rowK ks))) (ho : H o = some (.dK (rowK ms))) (hne : d ≠ o) (hz : ks.length + ms.length ≤ 1000000) (k : ∀ H', ExtBut d H H' → H' d = some (.dK (rowK (addAll ks ms))) → Q .non H') : rUpdate (.ref d) [.ref o] H Q :=
  ⟨d, o, _, _, rfl, rfl, hne, hd, ho, by rw [len_row, len_row]; exact hz, k _ ExtBut.upd (by rw [upd_same, merge_row])⟩
end
structure HalfW (ns : List Str) (ps : List (Str × Str)) : Prop where
  nd : ns.Nodup
  mem : ∀ p ∈ ps, p.1 ∈ ns ∧ p.2 ∈ ns
  irr : ∀ x, ¬ Way ps x x
  few : ns.length ≤ 100
  le : ps.length ≤ 1000
theorem Half.w {ns : List Str} {ps : List (Str × Str)} (h : Half ns ps) : HalfW ns ps := ⟨h.names.1, fun p hp => h.mem hp, fun _ => h.irrefl, Nat.le_trans h.few (by decide), Nat.le_trans h.le (by decide)⟩
structure War (ns : List Str) (ps : List (Str × Str)) (ms : List Str) (R : Str → Str → Prop) : Prop where
  snd : ∀ z y, R z y → Way ps z y
  edge : ∀ z y, (z, y) ∈ ps → R z y
  shut : ∀ m ∈ ms, ∀ z y, R z m → R m y → R z y
noncomputable def warR (R : Str → Str → Prop) (mid : Str) (ms : List Str) (z y : Str) : Prop := R z y ∨ (z ∈ ms ∧ R z mid ∧ R mid y)
theorem War.step {ns : List Str} {ps : List (Str × Str)} {ms : List Str} {R : Str → Str → Prop} (h : War ns ps ms R) {mid : Str} : War ns ps (ms ++ [mid]) (fun z y => R z y ∨ (R z mid ∧ R mid y)) := by
  refine ⟨fun z y hz => ?_, fun z y hz => .inl (h.edge z y hz), fun m hm z y h1 h2 => ?_⟩
  · rcases hz with hz | ⟨h1, h2⟩
    · exact h.snd z y hz
    · exact (h.snd _ _ h1).trans (h.snd _ _ h2)
  · rcases List.mem_append.mp hm with hm | hm
    · rcases h1 with h1 | ⟨h1, h1'⟩
      · rcases h2 with h2 | ⟨h2, h2'⟩
        · exact .inl (h.shut m hm z y h1 h2)
        · exact .inr ⟨h.shut m hm z mid h1 h2, h2'⟩
      · rcases h2 with h2 | ⟨h2, h2'⟩
        · exact .inr ⟨h1, h.shut m hm mid y h1' h2⟩
        · exact .inr ⟨h1, h2'⟩
    · have e : m = mid := by simpa using hm
      subst e
      rcases h1 with h1 | ⟨h1, h1'⟩
      · rcases h2 with h2 | ⟨h2, h2'⟩
        · exact .inr ⟨h1, h2⟩
        · exact .inr ⟨h1, h2'⟩
      · rcases h2 with h2 | ⟨h2, h2'⟩
        · exact .inr ⟨h1, h2⟩
        · exact .inr ⟨h1, h2'⟩
theorem War.done {ns : List Str} {ps : List (Str × Str)} {R : Str → Str → Prop} (h : War ns ps ns R) (hm : ∀ p ∈ ps, p.1 ∈ ns ∧ p.2 ∈ ns) (z y : Str) : R z y ↔ Way ps z y := by
  refine ⟨h.snd z y, fun g => ?_⟩
  induction g with
  | one e => exact h.edge _ _ e
  | cons e _ ih => exact h.shut _ (hm _ e).2 _ _ (h.edge _ _ e) ih
end L2
namespace L2
open PySem PySem.Spec PyProof.Rows
theorem PrsK.fz {K : PySem.W.Frag} {H H' : Hp} (e : Fz H H') : ∀ {kvs : List (Key × V)} {ys : List V}, PrsK K H kvs ys → PrsK K H' kvs ys
  | [], _, h => h
  | kv :: r, ys, ⟨t, ys', h1, h2, h3⟩ => ⟨t, ys', h1, e.seq h2, PrsK.fz e h3⟩
theorem PrsK.snoc {K : PySem.W.Frag} {H : Hp} {kv : Key × V} {t : Addr} (h : SqT K H t [kV kv.1, kv.2]) : ∀ {kvs : List (Key × V)} {ys : List V}, PrsK K H kvs ys → PrsK K H (kvs ++ [kv]) (ys ++ [.ref t])
  | [], ys, g => by
    have g' : ys = [] := g
    subst g'
    exact ⟨t, [], rfl, h, rfl⟩
  | k :: r, ys, ⟨u, ys', h1, h2, h3⟩ => by
    subst h1
    exact ⟨u, ys' ++ [.ref t], rfl, h2, PrsK.snoc h h3⟩
theorem PrsK.length {K : PySem.W.Frag} {H : Hp} : ∀ {kvs : List (Key × V)} {ys : List V}, PrsK K H kvs ys → ys.length = kvs.length
  | [], ys, g => by
    have g' : ys = [] := g
    subst g'
    rfl
  | k :: r, ys, ⟨u, ys', h1, h2, h3⟩ => by
    subst h1
    simp [PrsK.length h3]
theorem i_dict {K : PySem.W.Frag} {H : Hp} {Q : VK} {l : Addr} {ys : List V} {kvs : List (Key × V)} (h : H l = some (.lst ys)) (g : PrsK K H kvs ys) (hz : kvs.length ≤ 1000000) (k : ∀ p H', H p = none → Same H H' → H' p = some (.dK (mergeK [] kvs)) → Q (.ref p) H') : rDictA K [.ref l] H Q :=
  ⟨l, ys, kvs, rfl, h, g, by rw [g.length]; exact hz, hz, fun p hp => k p _ hp (Same.upd hp) upd_same⟩
theorem keys_tab : ∀ {ns : List Str} {as : List Addr}, ns.Nodup → ((tabK ns as).map (·.1)).Nodup
  | [], as, _ => by simp [tabK]
  | n :: ns, [], _ => by simp [tabK]
  | n :: ns, a :: as, h => by
    rw [List.nodup_cons] at h
    show ((Sum.inr n : Key) :: (tabK ns as).map (·.1)).Nodup
    rw [List.nodup_cons]
    refine ⟨fun hm => ?_, keys_tab h.2⟩
    obtain ⟨kv, hkv, e⟩ := List.mem_map.mp hm
    obtain ⟨p, hp, rfl⟩ := List.mem_map.mp hkv
    have e' : p.1 = n := by injection e
    exact h.1 (e' ▸ (List.of_mem_zip hp).1)
theorem tab_snoc {ns : List Str} {as : List Addr} {z : Str} {a : Addr} (h : ns.length = as.length) : tabK (ns ++ [z]) (as ++ [a]) = tabK ns as ++ [(Sum.inr z, V.ref a)] := by
  unfold tabK
  rw [List.zip_append h, List.map_append]
  rfl
end L2
set_option Elab.async false
set_option linter.all false
set_option maxRecDepth 100000
set_option maxHeartbeats 4000000
namespace L2
open PySem PySem.Spec PyProof.Rows
open Classical in
noncomputable def wayB (ps : List (Str × Str)) (x y : Str) : Bool := decide (Way ps x y)
theorem wayB_iff {ps : List (Str × Str)} {x y : Str} : wayB ps x y = true ↔ Way ps x y := by unfold wayB; simp
theorem wayB_of {ps : List (Str × Str)} {x y : Str} {b : Bool} (h : b = true ↔ Way ps x y) : b = wayB ps x y := by
  cases hb : wayB ps x y with
  | true => exact h.mpr (wayB_iff.mp hb)
  | false =>
    cases b with
    | false => rfl
    | true =>
      have := wayB_iff.mpr (h.mp rfl)
      rw [hb] at this
      cases this
theorem wayB_dec {ps : List (Str × Str)} {x y : Str} {p : Prop} [Decidable p] (h : p ↔ Way ps x y) : decide p = wayB ps x y := wayB_of (by rw [decide_eq_true_iff]; exact h)
theorem wayB_false {ps : List (Str × Str)} {x y : Str} (h : ¬ Way ps x y) : wayB ps x y = false := by
  cases hb : wayB ps x y with
  | false => rfl
  | true => exact absurd (wayB_iff.mp hb) h
theorem iteR {α : Type} {a : α} {A B : Prop} [Decidable (a = a)] (h : A) : if decide (a = a) = true then A else B := by rw [if_pos (by simp)]; exact h
theorem iteNR {α : Type} {a : α} {A B : Prop} [Decidable (a = a)] (h : B) : if (!decide (a = a)) = true then A else B := by rw [if_neg (by simp)]; exact h
section
variable {K : PySem.W.Frag} {H : Hp} {σ : St} {x : V} {Q : VK}
theorem comp_nm {ns : List Str} {g : TG} {tt : TT} {te : TE} {k : Nat} {js : List Nat} (h : Is K H (nmD ns) x) (t : Str → Bool) (f : Str → PyData) (hf : ∀ a, frz (f a) = true) (hz : ns.length ≤ 1000000)
    (hs : ∀ (i : Nat) a H1 (R : VK) (R' : Hp → Prop), ns[i]? = some a → Same H H1 → (t a = true → ∀ y H2, Same H1 H2 → Is K H2 (f a) y → R y H2) → (t a = false → ∀ H2, Same H1 H2 → R' H2) →
      g (.str a) (List.replicate k none ++ pick σ js) H1 fun σ2 H2 => tt σ2 H2 fun b H3 => if b = true then te σ2 H3 R else R' H3)
    (hd : ∀ p ys H', H p = none → Same H H' → H' p = some (.lst ys) → IsL K H' ((ns.filter t).map f) ys → Q (.ref p) H') : rAnyIt K x H fun J H1 => rComp k js g tt te σ J H1 Q := by
  obtain ⟨a, rfl, hS⟩ := h.nm
  refine i_itT hS (comp_dat (K := K) (walk_tup (xs := ns.map V.str)) ns (by simp) t f hf (by simpa using hz) (fun H' e => e.seqT hS) (fun i z v H1 R R' hz hv e hR hR' => ?_) hd)
  rw [List.getElem?_map, hz] at hv
  cases hv
  exact hs i z H1 R R' hz e hR hR'
theorem comp_lnm {ns : List Str} {a : Addr} {g : TG} {tt : TT} {te : TE} {k : Nat} {js : List Nat} (h : SqL K H a (ns.map V.str)) (t : Str → Bool) (f : Str → PyData) (hf : ∀ a, frz (f a) = true) (hz : ns.length ≤ 1000000)
    (hs : ∀ (i : Nat) a H1 (R : VK) (R' : Hp → Prop), ns[i]? = some a → Same H H1 → (t a = true → ∀ y H2, Same H1 H2 → Is K H2 (f a) y → R y H2) → (t a = false → ∀ H2, Same H1 H2 → R' H2) →
      g (.str a) (List.replicate k none ++ pick σ js) H1 fun σ2 H2 => tt σ2 H2 fun b H3 => if b = true then te σ2 H3 R else R' H3)
    (hd : ∀ p ys H', H p = none → Same H H' → H' p = some (.lst ys) → IsL K H' ((ns.filter t).map f) ys → Q (.ref p) H') : rAnyIt K (.ref a) H fun J H1 => rComp k js g tt te σ J H1 Q := by
  refine i_itL h (comp_dat (K := K) (walk_list (xs := ns.map V.str)) ns (by simp) t f hf (by simpa using hz) (fun H' e => e.seq h) (fun i z v H1 R R' hz hv e hR hR' => ?_) hd)
  rw [List.getElem?_map, hz] at hv
  cases hv
  exact hs i z H1 R R' hz e hR hR'
theorem comp_ps {ps : List (Str × Str)} {g : TG} {tt : TT} {te : TE} {k : Nat} {js : List Nat} (h : Is K H (psD ps) x) (t : Str × Str → Bool) (f : Str × Str → PyData) (hf : ∀ a, frz (f a) = true) (hz : ps.length ≤ 1000000)
    (hs : ∀ (i : Nat) a v H1 (R : VK) (R' : Hp → Prop), ps[i]? = some a → Is K H1 (prD a) v → Same H H1 → (t a = true → ∀ y H2, Same H1 H2 → Is K H2 (f a) y → R y H2) → (t a = false → ∀ H2, Same H1 H2 → R' H2) →
      g v (List.replicate k none ++ pick σ js) H1 fun σ2 H2 => tt σ2 H2 fun b H3 => if b = true then te σ2 H3 R else R' H3)
    (hd : ∀ p ys H', H p = none → Same H H' → H' p = some (.lst ys) → IsL K H' ((ps.filter t).map f) ys → Q (.ref p) H') : rAnyIt K x H fun J H1 => rComp k js g tt te σ J H1 Q := by
  obtain ⟨a, xs, rfl, hS, hL⟩ := Is.tup h
  have hl : ps.length = xs.length := by rw [← IsL.length hL, List.length_map]
  refine i_itT hS (comp_dat (K := K) (walk_tup (xs := xs)) ps hl t f hf (by omega) (fun H' e => e.seqT hS) (fun i z v H1 R R' hz hv e hR hR' => ?_) hd)
  obtain ⟨d, e1, e2⟩ := IsL.get (IsL.mono e _ _ hL) hv
  rw [List.getElem?_map, hz] at e1
  cases e1
  exact hs i z v H1 R R' hz e2 e hR hR'
theorem i_tupNm {ns : List Str} {a : Addr} {ys : List V} (h : H a = some (.lst ys)) (g : IsL K H (ns.map PyData.str) ys) (k : ∀ v H', Same H H' → Is K H' (nmD ns) v → Q v H') : rTupleA K [.ref a] H Q := by
  have e := IsL.str_eq g
  subst e
  exact i_tupleL (SqL.of h) fun p H' hp e h' => k _ H' e (is_nm (SqT.of h'))
theorem i_tupPs {ps : List (Str × Str)} {a : Addr} {ys : List V} (h : H a = some (.lst ys)) (g : IsL K H (ps.map prD) ys) (k : ∀ v H', Same H H' → Is K H' (psD ps) v → Q v H') : rTupleA K [.ref a] H Q :=
  i_tupleL (SqL.of h) fun p H' hp e h' => k _ H' e (Is.of_tup (SqT.of h') (IsL.mono e _ _ g))
end
end L2
set_option Elab.async false
set_option linter.all false
set_option maxRecDepth 100000
set_option maxHeartbeats 4000000
namespace L2
open PySem PySem.Spec PyProof.Rows
open AutoSeq1 (wpAny_loadPart')
section
variable {prog : Program} {w : World} {A : Around} {E : Value → Shared → Prop} {s : Shared}
theorem nx_item {it t : Addr} {i : Nat} {items : Array Value} {x : Value} {Q : Value → Shared → Prop} (hit : s.heap.IsTupleIter it t i) (ht : s.heap.IsTuple t items) (hx : items[i]? = some x)
    (hQ : ∀ h', h'.IsTupleIter it t (i + 1) → Heap.SameBut it s.heap h' → Q x { s with heap := h' }) : wpAny (model prog w) A (Builtin.SmallTypes.nextOf (.ref it)) Q E s := by
  obtain ⟨o, o1, o2, o3⟩ := id hit
  obtain ⟨u, u1, _, n, u2⟩ := ht
  unfold Builtin.SmallTypes.nextOf
  refine wpAny_bind (wpAny_callSpecial?_slot (name := Str.ofString "__next__") hit.typeIs F.slot_tuple_iterator_next (wpAny_call_entry F.slot_tuple_iterator_next hit.typeIs F.entry_tuple_iterator_next ?_ (F.args_tuple_iterator_next_1 _)))
  refine wpAny_bind (m := field (.ref it) 0) (wpAny_field o1 o3 (x := .ref t) rfl ?_)
  rw [if_neg (show ¬ ((Value.ref t == Value.none) = true) by intro h; cases h)]
  refine wpAny_bind (m := field (.ref it) 1) (wpAny_field o1 o3 (x := .int i 0) rfl ?_)
  refine wpAny_bind (m := seqItems? (.ref t)) (wpAny_seqItems u1 u2 ?_)
  simp only [Int.toNat_natCast, hx]
  refine wpAny_bind (wpAny_setField o1 o3 (by simp) (wpAny_pure ⟨x, rfl, wpAny_pure (hQ _ ⟨_, Heap.get?_update_self _ o1 (Obj.isFreed_of_fields (Obj.data_mapFields o3 _)), (Obj.cls_mapFields ..).trans o2, ?_⟩ (Heap.SameBut.update ..))⟩))
  rw [Obj.data_mapFields o3]
  simp [rawInt]
theorem nx_end {it t : Addr} {i : Nat} {items : Array Value} {Q : Value → Shared → Prop} (hh : A.handled = none) (hit : s.heap.IsTupleIter it t i) (ht : s.heap.IsTuple t items) (hx : items[i]? = none)
    (hE : ∀ h' e, Heap.ExtBut it s.heap h' → (∃ o, h'.get? e = some o ∧ o.cls = .type "StopIteration") → E (.ref e) { s with heap := h' }) : wpAny (model prog w) A (Builtin.SmallTypes.nextOf (.ref it)) Q E s := by
  obtain ⟨o, o1, o2, o3⟩ := id hit
  obtain ⟨u, u1, _, n, u2⟩ := ht
  unfold Builtin.SmallTypes.nextOf
  refine wpAny_bind (wpAny_callSpecial?_slot (name := Str.ofString "__next__") hit.typeIs F.slot_tuple_iterator_next (wpAny_call_entry F.slot_tuple_iterator_next hit.typeIs F.entry_tuple_iterator_next ?_ (F.args_tuple_iterator_next_1 _)))
  refine wpAny_bind (m := field (.ref it) 0) (wpAny_field o1 o3 (x := .ref t) rfl ?_)
  rw [if_neg (show ¬ ((Value.ref t == Value.none) = true) by intro h; cases h)]
  refine wpAny_bind (m := field (.ref it) 1) (wpAny_field o1 o3 (x := .int i 0) rfl ?_)
  refine wpAny_bind (m := seqItems? (.ref t)) (wpAny_seqItems u1 u2 ?_)
  simp only [Int.toNat_natCast, hx]
  refine wpAny_bind (wpAny_rule (wpAny_bind (wpAny_setField o1 o3 (by simp) ?_)))
  refine wpAny_bind (m := newExc (.type "StopIteration") []) ?_
  simp only [newExc, newTuple]
  refine wpAny_bind (wpAny_newObj_type ?_ (by size_fits))
  refine wpAny_bind (m := firstArgMember _ _) (wpAny_of_eq (a := Value.none) (by first | rfl | (simp only [firstArgMember]; rfl)) (wpAny_newObj_type ?_ (by size_fits)))
  simp only [raiseNew]
  refine wpAny_bind (wpAny_handled ?_)
  first | rw [show A.in1.handled = none from hh] | rw [hh]
  refine wpAny_bind (wpAny_pure (wpAny_throw (hE _ _ (((Heap.SameBut.update ..).extBut.push _).push _) ⟨_, Heap.get?_push_size _ rfl, rfl⟩)))
theorem drawsT (hh : A.handled = none) (it t : Addr) (hne : t ≠ it) (items : Array Value) : Draws prog w A it [it, t] items.size (fun i v => items[i]? = some v) (fun i h => h.IsTupleIter it t i ∧ h.IsTuple t items) where
  live := fun _ _ q => let ⟨o, ho, _⟩ := q.1; ⟨o, ho⟩
  frame := fun _ _ _ q hk => ⟨q.1.at fun o e => hk it (by simp) o e, let ⟨o, ho, r⟩ := q.2; ⟨o, hk t (by simp) o ho, r⟩⟩
  item := fun i s Q E hi q hQ => nx_item q.1 q.2 (x := items[i]) (by simp [hi]) fun h' a b => hQ _ h' s.toks (by simp [hi]) ⟨a, q.2.extBut b.extBut hne⟩ b
  done := fun s Q E q hE => nx_end hh q.1 q.2 (by simp) hE
end
noncomputable def Ite (K : PySem.W.Frag) (a : Addr) : It :=
  ⟨fun i H => ∃ xs x, SqT K H a xs ∧ xs[i]? = some x, fun i H v H' => ∃ t x, H t = none ∧ H' = upd H t (.tup [.int i, x]) ∧ v = .ref t ∧ ∀ xs, SqT K H a xs → xs[i]? = some x, fun i H => ∃ xs, SqT K H a xs ∧ xs.length = i⟩
section
variable {X : Cx} {K : PySem.W.Frag}
noncomputable def rEnum (K : PySem.W.Frag) (vs : List V) (H : Hp) (R : It → Hp → Prop) : Prop := ∃ a xs, vs = [.ref a] ∧ SqT K H a xs ∧ R (Ite K a) H
noncomputable def iEnum (K : PySem.W.Frag) (ta : TA) : TI := fun σ H R => ta σ H fun vs H1 => rEnum K vs H1 R
end
section
variable {K : PySem.W.Frag} {σ : St} {H : Hp}
end
end L2
set_option Elab.async false
set_option linter.all false
set_option maxRecDepth 100000
set_option maxHeartbeats 4000000
namespace L2
open PySem PySem.Spec PyProof.Rows
section
variable {X : Cx} {K : PySem.W.Frag}
section
variable {H : Hp} {Q : VK} {lo hi : Option Int}
theorem i_addT {a b : Addr} {xs ys : List V} (h1 : SqT K H a xs) (h2 : SqT K H b ys) (h : xs.length + ys.length ≤ sizeLine) (k : ∀ p H', Same H H' → SqT K H' p (xs ++ ys) → Q (.ref p) H') : rAddA K (.ref a) (.ref b) H Q := by
  by_cases hx : xs = []
  · subst hx
    exact .inr (.inr (.inr (.inr ⟨a, b, ys, rfl, rfl, h1, h2, k b H (Same.refl _) h2⟩)))
  · refine .inr (.inr (.inr (.inl ⟨a, b, xs, ys, rfl, rfl, h1, h2, hx, h, fun e => ?_, fun _ p hp => k p _ (Same.upd hp) (SqT.of upd_same)⟩)))
    subst e
    exact k a H (Same.refl _) (by rw [List.append_nil]; exact h1)
theorem i_slT {a : Addr} {xs : List V} (h : SqT K H a xs) (k : ∀ p H', Same H H' → SqT K H' p (cutV xs lo hi) → Q (.ref p) H') : rSlA K (.ref a) lo hi H Q := by
  by_cases hw : HT.sIx xs.length 0 lo = 0 ∧ HT.sIx xs.length xs.length hi = xs.length
  · refine .inr (.inr (.inr ⟨a, xs, rfl, h, hw, k a H (Same.refl _) ?_⟩))
    have e : cutV xs lo hi = xs := by
      unfold cutV
      rw [hw.1, hw.2, List.drop_zero, Nat.sub_zero, List.take_length]
    rw [e]
    exact h
  · exact .inr (.inl ⟨a, xs, rfl, h, hw, fun p hp => k p _ (Same.upd hp) (SqT.of upd_same)⟩)
end
end
end L2
set_option Elab.async false
set_option linter.all false
set_option maxRecDepth 100000
set_option maxHeartbeats 4000000
namespace L2
open PySem PySem.Spec PyProof.Rows
structure Trl (ps : List (Str × Str)) (x : Str) (js : List Nat) (y : Str) (os : List Str) : Prop where
  len : os.length = js.length
  hd : (os ++ [y])[0]? = some x
  ed : ∀ (i j : Nat), js[i]? = some j → ∃ a b, (os ++ [y])[i]? = some a ∧ (os ++ [y])[i + 1]? = some b ∧ ps[j]? = some (a, b)
  nd : (os ++ [y]).Nodup
structure WyI (ps : List (Str × Str)) (x : Str) (ks ws : List Str) : Prop where
  nd : ks.Nodup
  has : x ∈ ks
  way : ∀ y ∈ ks, y = x ∨ Way ps x y
  line : ∀ z ∈ ws, z ∈ ks
  shut : ∀ z ∈ ks, z ∉ ws → ∀ y, (z, y) ∈ ps → y ∈ ks
  few : ws.length ≤ ks.length
structure WyJ (ps : List (Str × Str)) (x here : Str) (ks ws gs ms : List Str) (i : Nat) : Prop where
  nd : gs.Nodup
  way : ∀ y ∈ gs, y = x ∨ Way ps x y
  line : ∀ z ∈ ms, z ∈ gs
  keep : ∀ z ∈ ks, z ∈ gs
  keepL : ∀ z ∈ ws, z ∈ ms
  new : ∀ z ∈ gs, z ∈ ks ∨ z ∈ ms
  seen : ∀ j < i, ∀ y, ps[j]? = some (here, y) → y ∈ gs
  len : gs.length + ws.length = ks.length + ms.length
section
variable {K : PySem.W.Frag} {σ : St} {H : Hp} {Q : VK} {td ty : TE}
noncomputable def rDGet1 (ty : TE) (σ : St) (x : V) (H1 : Hp) (Q : VK) : Prop := ∃ a, x = .ref a ∧ IsD H1 a ∧ ty σ H1 fun y H2 => ∃ o, DGet H2 a y o ∧ Q (o.getD .non) H2
theorem i_chain {r r' : R2} {ta tb tc : TE} (k : ta σ H fun x H1 => tb σ H1 fun y H2 => r x y H2 fun z H3 => ∃ k, z = .bl k ∧ (if k = true then tc σ H3 fun w' H4 => r' y w' H4 Q else Q (.bl false) H3)) : tChain r r' ta tb tc σ H Q := k
theorem i_andV {ta tb : TE} (k : ta σ H fun x H1 => ∃ c, x = .bl c ∧ if c = true then tb σ H1 Q else Q (.bl false) H1) : tAndV ta tb σ H Q := k
theorem i_orV {ta tb : TE} (k : ta σ H fun x H1 => ∃ c, x = .bl c ∧ if c = true then Q (.bl true) H1 else tb σ H1 Q) : tOrV ta tb σ H Q := k
theorem i_notV {ta : TE} (k : ta σ H fun x H1 => ∃ c, x = .bl c ∧ Q (.bl (!c)) H1) : tNotV ta σ H Q := k
theorem i_ninB {a : Addr} {bs : List Bool} (h : SqL K H a (bs.map V.bl)) (k : Q (.bl (!bs.any id)) H) : rInA K true (.bl true) (.ref a) H Q := .inl ⟨a, _, rfl, .inl h, rfl, by
    rw [List.all_eq_true]
    intro v h
    obtain ⟨n, _, rfl⟩ := List.mem_map.mp h
    rfl, by
    have e : inV (.bl true) (bs.map V.bl) = bs.any id := by
      clear h k
      unfold inV
      induction bs with
      | nil => rfl
      | cons b bs ih =>
        rw [List.map_cons, List.any_cons, List.any_cons, ih]
        cases b <;> rfl
    rw [e]
    exact k⟩
end
end L2
set_option Elab.async false
set_option linter.all false
set_option maxRecDepth 100000
set_option maxHeartbeats 4000000
namespace L2
open PySem PySem.Spec PyProof.Rows
theorem Same.rd {H H' : Hp} (e : Same H H') {a : Addr} {u : HO} (h : Rd H a u) : Rd H' a u := by
  rcases h with h | ⟨o, h⟩
  · exact .inl (e _ _ h)
  · exact .inr ⟨o, e _ _ h⟩
noncomputable def Keep (as : List Addr) (H H' : Hp) : Prop := (∀ b o, b ∉ as → H b = some o → H' b = some o) ∧ ∀ a ∈ as, ∀ u, Rd H a u → Rd H' a u
theorem Keep.refl (as : List Addr) (H : Hp) : Keep as H H := ⟨fun _ _ _ h => h, fun _ _ _ h => h⟩
theorem Keep.trans {as : List Addr} {H H1 H2 : Hp} (a : Keep as H H1) (b : Keep as H1 H2) : Keep as H H2 := ⟨fun c o n h => b.1 c o n (a.1 c o n h), fun c hc u h => b.2 c hc u (a.2 c hc u h)⟩
theorem Same.keep {H H' : Hp} (e : Same H H') (as : List Addr) : Keep as H H' := ⟨fun b o _ h => e b o h, fun a _ u h => e.rd h⟩
theorem Keep.freeze {as : List Addr} {H : Hp} {a : Addr} {u : HO} {o : Obj} (ha : a ∈ as) (h : H a = some u) (hu : ∀ o' u', u ≠ .frz o' u') : Keep as H (upd H a (.frz o u)) := by
  refine ⟨fun b q hb e => ?_, fun b hb w e => ?_⟩
  · have hne : b ≠ a := fun z => by subst z; exact hb ha
    rw [upd_ne hne]
    exact e
  · by_cases hba : b = a
    · subst hba
      rcases e with e | ⟨o', e⟩
      · rw [h] at e
        cases e
        exact .inr ⟨o, upd_same⟩
      · rw [h] at e
        cases e
        exact absurd rfl (hu _ _)
    · rcases e with e | ⟨o', e⟩
      · exact .inl (by rw [upd_ne hba]; exact e)
      · exact .inr ⟨o', by rw [upd_ne hba]; exact e⟩
theorem Keep.rd {as : List Addr} {H H' : Hp} (k : Keep as H H') {a : Addr} {u : HO} (h : Rd H a u) : Rd H' a u := by
  by_cases ha : a ∈ as
  · exact k.2 a ha u h
  · rcases h with h | ⟨o, h⟩
    · exact .inl (k.1 _ _ ha h)
    · exact .inr ⟨o, k.1 _ _ ha h⟩
theorem Keep.fz {as : List Addr} {H H' : Hp} (k : Keep as H H') : Fz H H' := fun a xs h => k.rd h
theorem Same.then {as : List Addr} {H H1 H2 : Hp} (e : Same H H1) (ha : ∀ a ∈ as, H a = none) (k : Keep as H1 H2) : Same H H2 := fun b o h => k.1 b o (fun hb => by rw [ha b hb] at h; cases h) (e b o h)
theorem Keep.lst {as : List Addr} {H H1 H2 : Hp} {p : Addr} (k : Keep as H H1) (e : ExtBut p H1 H2) (hp : H p = none) (hpa : p ∉ as) : Keep as H H2 := by
  refine ⟨fun b o hb h => e b o (fun z => ?_) (k.1 b o hb h), fun a ha u h => ?_⟩
  · subst z
    rw [hp] at h
    cases h
  · have hap : a ≠ p := fun z => hpa (z ▸ ha)
    rcases k.2 a ha u h with g | ⟨o, g⟩
    · exact .inl (e _ _ hap g)
    · exact .inr ⟨o, e _ _ hap g⟩
structure TabR (H : Hp) (r : Addr) (ns : List Str) (as : List Addr) (R : Str → Str → Prop) : Prop where
  len : as.length = ns.length
  top : Rd H r (.dK (tabK ns as))
  row : ∀ (i : Nat) (z : Str) (a : Addr), ns[i]? = some z → as[i]? = some a → ∃ ks : List Str, Rd H a (.dK (rowK ks)) ∧ ks.Nodup ∧ (∀ y ∈ ks, y ∈ ns) ∧ ∀ y, y ∈ ks ↔ R z y
theorem Tab.toR {H : Hp} {r : Addr} {ns : List Str} {as : List Addr} {R : Str → Str → Prop} (h : Tab H r ns as R) : TabR H r ns as R :=
  ⟨h.len, .inl h.top, fun i z a hz ha => let ⟨ks, h1, h2⟩ := h.row i z a hz ha; ⟨ks, .inl h1, h2⟩⟩
theorem TabR.keep {bs : List Addr} {H H' : Hp} {r : Addr} {ns : List Str} {as : List Addr} {R : Str → Str → Prop} (h : TabR H r ns as R) (k : Keep bs H H') : TabR H' r ns as R :=
  ⟨h.len, k.rd h.top, fun i z a hz ha => let ⟨ks, h1, h2⟩ := h.row i z a hz ha; ⟨ks, k.rd h1, h2⟩⟩
theorem TabR.same {H H' : Hp} {r : Addr} {ns : List Str} {as : List Addr} {R : Str → Str → Prop} (h : TabR H r ns as R) (e : Same H H') : TabR H' r ns as R := h.keep (e.keep [])
theorem TabR.at {H : Hp} {r : Addr} {ns : List Str} {as : List Addr} {R : Str → Str → Prop} (h : TabR H r ns as R) {x : Str} (hx : x ∈ ns) : ∃ (i : Nat) (a : Addr), ns[i]? = some x ∧ as[i]? = some a := by
  obtain ⟨i, hi, e⟩ := List.getElem_of_mem hx
  have hi' : i < as.length := by rw [h.len]; exact hi
  exact ⟨i, as[i], by rw [List.getElem?_eq_getElem hi, e], List.getElem?_eq_getElem hi'⟩
structure TabL (K : PySem.W.Frag) (H : Hp) (r : Addr) (ns : List Str) (as : List Addr) (R : Str → Str → Prop) : Prop where
  len : as.length = ns.length
  top : H r = some (.dK (tabK ns as))
  row : ∀ (i : Nat) (z : Str) (a : Addr), ns[i]? = some z → as[i]? = some a → ∃ ks : List Str, H a = some (.lst (ks.map V.str)) ∧ ks.Nodup ∧ ∀ y, y ∈ ks ↔ R z y
section
variable {K : PySem.W.Frag} {σ : St} {H : Hp} {Q : VK} {r : Addr} {ns : List Str} {as : List Addr} {R : Str → Str → Prop}
theorem i_ixDR {a : Addr} {kvs : List (Key × V)} {z : Str} {v : V} (h : Rd H a (.dK kvs)) (e : valV kvs (Sum.inr z : Key) = some v) (k : Q v H) : rIxA K (.ref a) (.str z) H Q := .inr ⟨a, v, rfl, .inl ⟨kvs, Sum.inr z, h, rfl, e.symm⟩, k⟩
theorem i_tabR {x : Str} {i : Nat} {a : Addr} (h : TabR H r ns as R) (hn : ns.Nodup) (hx : ns[i]? = some x) (ha : as[i]? = some a) (k : Q (.ref a) H) : rIxA K (.ref r) (.str x) H Q := i_ixDR h.top (valV_tab hn hx ha) k
theorem i_inRowR {a : Addr} {ks : List Str} {y : Str} (h : Rd H a (.dK (rowK ks))) (k : Q (.bl (decide (y ∈ ks))) H) : rInA K false (.str y) (.ref a) H Q := by
  refine .inr (.inr (.inl ⟨a, valV (rowK ks) (Sum.inr y : Key), rfl, .inl ⟨_, Sum.inr y, h, rfl, rfl⟩, ?_⟩))
  rw [valV_row]
  by_cases e : y ∈ ks
  · simpa [e] using k
  · simpa [e] using k
theorem i_itRow {as : List Addr} {a : Addr} {kvs : List (Key × V)} {R : It → Hp → Prop} (h : Rd H a (.dK kvs)) (ha : a ∈ as) (k : ∀ o H', Keep as H H' → H' a = some (.frz o (.dK kvs)) → R (Itd a o kvs) H') : rAnyIt K (.ref a) H R := by
  rcases h with h | ⟨o, h⟩
  · exact i_itD h fun o => k o _ (Keep.freeze ha h fun _ _ z => by cases z) upd_same
  · exact i_itF h (k o H (Keep.refl _ _) h)
end
noncomputable def clR (ns : List Str) (ps : List (Str × Str)) (x : Str) : List (Str × Str) := (ns.filter fun y => wayB ps x y).map fun y => (x, y)
noncomputable def clP (ns : List Str) (ps : List (Str × Str)) : List (Str × Str) := ns.flatMap (clR ns ps)
noncomputable def thB (ns : List Str) (ps : List (Str × Str)) (p : Str × Str) : Bool := ns.any fun z => wayB ps p.1 z && wayB ps z p.2
noncomputable def baP (ns : List Str) (ps : List (Str × Str)) : List (Str × Str) := (clP ns ps).filter fun p => !thB ns ps p
noncomputable def unB (ps : List (Str × Str)) (x y : Str) : Bool := !wayB ps x y && !wayB ps y x
noncomputable def unR (ns : List Str) (ps : List (Str × Str)) (i : Nat) : List (Str × Str) := ((ns.drop (i + 1)).filter fun y => unB ps (ns.getD i "") y).map fun y => (ns.getD i "", y)
noncomputable def unK (ns : List Str) (ps : List (Str × Str)) (k : Nat) : List (Str × Str) := (List.range k).flatMap (unR ns ps)
noncomputable def unP (ns : List Str) (ps : List (Str × Str)) : List (Str × Str) := unK ns ps ns.length
theorem mem_clR {ns : List Str} {ps : List (Str × Str)} {x : Str} {p : Str × Str} : p ∈ clR ns ps x ↔ p.1 = x ∧ p.2 ∈ ns ∧ Way ps x p.2 := by
  unfold clR
  rw [List.mem_map]
  constructor
  · rintro ⟨y, hy, rfl⟩
    rw [List.mem_filter, wayB_iff] at hy
    exact ⟨rfl, hy⟩
  · rintro ⟨h1, h2⟩
    refine ⟨p.2, ?_, by rw [← h1]⟩
    rw [List.mem_filter, wayB_iff]
    exact h2
theorem mem_clP {ns : List Str} {ps : List (Str × Str)} {p : Str × Str} : p ∈ clP ns ps ↔ p.1 ∈ ns ∧ p.2 ∈ ns ∧ Way ps p.1 p.2 := by
  unfold clP
  rw [List.mem_flatMap]
  constructor
  · rintro ⟨x, hx, hp⟩
    obtain ⟨rfl, h⟩ := mem_clR.mp hp
    exact ⟨hx, h⟩
  · rintro ⟨h1, h⟩
    exact ⟨p.1, h1, mem_clR.mpr ⟨rfl, h⟩⟩
theorem len_clR (ns : List Str) (ps : List (Str × Str)) (x : Str) : (clR ns ps x).length ≤ ns.length := by
  unfold clR
  rw [List.length_map]
  exact List.length_filter_le _ _
theorem len_flat {α β : Type} (f : α → List β) (n : Nat) (h : ∀ a, (f a).length ≤ n) : ∀ l : List α, (l.flatMap f).length ≤ l.length * n
  | [] => by simp
  | a :: l => by
    rw [List.flatMap_cons, List.length_append, List.length_cons, Nat.add_mul]
    have := len_flat f n h l
    have := h a
    omega
theorem len_clP (ns : List Str) (ps : List (Str × Str)) : (clP ns ps).length ≤ ns.length * ns.length := len_flat _ _ (len_clR ns ps) ns
theorem row_any {ns ks : List Str} {ps : List (Str × Str)} {p : Str × Str} (h1 : ∀ y ∈ ks, y ∈ ns) (h2 : ∀ y, y ∈ ks ↔ Way ps p.1 y) : ((ks.map fun z => wayB ps z p.2).any id) = thB ns ps p := by
  unfold thB
  rw [Bool.eq_iff_iff, List.any_eq_true, List.any_eq_true]
  constructor
  · rintro ⟨b, hb, e⟩
    obtain ⟨z, hz, rfl⟩ := List.mem_map.mp hb
    exact ⟨z, h1 z hz, by rw [Bool.and_eq_true]; exact ⟨wayB_iff.mpr ((h2 z).mp hz), e⟩⟩
  · rintro ⟨z, hz, e⟩
    rw [Bool.and_eq_true] at e
    exact ⟨_, List.mem_map.mpr ⟨z, (h2 z).mpr (wayB_iff.mp e.1), rfl⟩, e.2⟩
section
variable {K : PySem.W.Frag} {H : Hp} {σ : St}
theorem comp_keep {α : Type} {J : It} {xs : List V} {G : Hp → Prop} {g : TG} {tt : TT} {te : TE} {Q : VK} {k : Nat} {js : List Nat} (hw : WalkOf J xs G) (bs : List Addr) (hb : ∀ a ∈ bs, H a ≠ none) (as : List α) (hl : as.length = xs.length) (t : α → Bool) (f : α → PyData) (hf : ∀ a, frz (f a) = true) (hz : xs.length ≤ 1000000) (hG : ∀ H', Keep bs H H' → G H')
    (hs : ∀ (i : Nat) a v H1 (R : VK) (R' : Hp → Prop), as[i]? = some a → xs[i]? = some v → Keep bs H H1 → (t a = true → ∀ y H2, Keep bs H1 H2 → Is K H2 (f a) y → R y H2) → (t a = false → ∀ H2, Keep bs H1 H2 → R' H2) →
      g v (List.replicate k none ++ pick σ js) H1 fun σ2 H2 => tt σ2 H2 fun b H3 => if b = true then te σ2 H3 R else R' H3)
    (hd : ∀ p ys H', H p = none → Keep bs H H' → H' p = some (.lst ys) → IsL K H' ((as.filter t).map f) ys → Q (.ref p) H') : rComp k js g tt te σ J H Q := by
  have hpb : ∀ p, H p = none → p ∉ bs := fun p hp hm => hb p hm hp
  refine comp_by hw (fun p i acc H1 => Keep bs H H1 ∧ IsL K H1 (((as.take i).filter t).map f) acc) (fun p H' hp e h => ⟨e.keep bs, by simp only [List.take_zero, List.filter_nil, List.map_nil]; exact .nil⟩) (fun p i acc H1 h => hG H1 h.1) (fun p i x acc H1 hp hx hi hl1 ha ⟨e, hacc⟩ => ?_) fun p acc H1 hp ha hl1 ⟨e, hacc⟩ => ?_
  · have hi' : i < as.length := by omega
    obtain ⟨a, hai⟩ : ∃ a, as[i]? = some a := ⟨as[i], List.getElem?_eq_getElem hi'⟩
    have ht : as.take (i + 1) = as.take i ++ [a] := by rw [List.take_add_one, hai]; rfl
    refine hs i a x H1 _ _ hai hx e (fun h y H2 e2 hy => ?_) fun h H2 e2 => ?_
    · have h2 := e2.1 _ _ (hpb p hp) ha
      refine push_i hz hi hl1 h2 fun H' e' h' => ⟨(e.trans e2).lst e' hp (hpb p hp), ?_⟩
      rw [ht, List.filter_append, List.map_append]
      have fz := e'.fzL h2
      refine IsL.append (IsL.fz (e2.fz.trans fz) _ _ (frzL_map f hf _) hacc) ?_
      simp only [List.filter_cons, h, if_true, List.filter_nil, List.map_cons, List.map_nil]
      exact .one (Is.fz fz _ _ (hf a) hy)
    · refine cn_skip hi hl1 (e2.1 _ _ (hpb p hp) ha) ⟨e.trans e2, ?_⟩
      rw [ht, List.filter_append, List.map_append]
      simp only [List.filter_cons, h, Bool.false_eq_true, if_false, List.filter_nil, List.map_nil, List.append_nil]
      exact IsL.fz e2.fz _ _ (frzL_map f hf _) hacc
  · refine hd p acc H1 hp e ha ?_
    rw [← hl, List.take_length] at hacc
    exact hacc
theorem comp_psK {ps : List (Str × Str)} {g : TG} {tt : TT} {te : TE} {Q : VK} {k : Nat} {js : List Nat} {x : V} (h : Is K H (psD ps) x) (bs : List Addr) (hb : ∀ a ∈ bs, H a ≠ none) (t : Str × Str → Bool) (f : Str × Str → PyData) (hf : ∀ a, frz (f a) = true) (hz : ps.length ≤ 1000000)
    (hs : ∀ (i : Nat) a v H1 (R : VK) (R' : Hp → Prop), ps[i]? = some a → Is K H1 (prD a) v → Keep bs H H1 → (t a = true → ∀ y H2, Keep bs H1 H2 → Is K H2 (f a) y → R y H2) → (t a = false → ∀ H2, Keep bs H1 H2 → R' H2) →
      g v (List.replicate k none ++ pick σ js) H1 fun σ2 H2 => tt σ2 H2 fun b H3 => if b = true then te σ2 H3 R else R' H3)
    (hd : ∀ p ys H', H p = none → Keep bs H H' → H' p = some (.lst ys) → IsL K H' ((ps.filter t).map f) ys → Q (.ref p) H') : rAnyIt K x H fun J H1 => rComp k js g tt te σ J H1 Q := by
  obtain ⟨a, xs, rfl, hS, hL⟩ := Is.tup h
  have hl : ps.length = xs.length := by rw [← IsL.length hL, List.length_map]
  refine i_itT hS (comp_keep (K := K) (walk_tup (xs := xs)) bs hb ps hl t f hf (by omega) (fun H' e => e.fz.seq hS) (fun i z v H1 R R' hz hv e hR hR' => ?_) hd)
  obtain ⟨d, e1, e2⟩ := IsL.get (IsL.fz e.fz _ _ (frzL_prs ps) hL) hv
  rw [List.getElem?_map, hz] at e1
  cases e1
  exact hs i z v H1 R R' hz e2 e hR hR'
theorem Tab.some {H : Hp} {r : Addr} {ns : List Str} {as : List Addr} {R : Str → Str → Prop} (h : Tab H r ns as R) : ∀ a ∈ as, H a ≠ none := fun a ha e => by
  obtain ⟨i, hi, hq⟩ := List.getElem_of_mem ha
  have hi' : i < ns.length := by rw [← h.len]; exact hi
  obtain ⟨ks, h1, _⟩ := h.row i ns[i] a (List.getElem?_eq_getElem hi') (by rw [List.getElem?_eq_getElem hi, hq])
  rw [e] at h1
  cases h1
end
end L2
set_option Elab.async false
set_option linter.all false
set_option maxRecDepth 100000
set_option maxHeartbeats 4000000
namespace L2
open PySem PySem.Spec PyProof.Rows
end L2
set_option Elab.async false
set_option linter.all false
set_option maxRecDepth 100000
set_option maxHeartbeats 4000000
namespace L2
open PySem PySem.Spec PyProof.Rows
noncomputable def IsRevT (h : Heap) (a l : Addr) (i : Int) : Prop := ∃ o, h.get? a = some o ∧ o.cls = .type "reversed" ∧ o.data = .fields #[.ref l, rawInt i]
section
variable {prog : Program} {w : World} {A : Around} {E : Value → Shared → Prop} {s : Shared}
end
noncomputable def Itv (K : PySem.W.Frag) (a : Addr) (n : Nat) : It :=
  ⟨fun i H => i < n ∧ ∃ xs, SqT K H a xs ∧ xs.length = n, fun i H v H' => H' = H ∧ ∀ xs, SqT K H a xs → xs[n - 1 - i]? = some v, fun i H => n ≤ i⟩
section
variable {X : Cx} {K : PySem.W.Frag}
noncomputable def rRev (K : PySem.W.Frag) (vs : List V) (H : Hp) (R : It → Hp → Prop) : Prop := ∃ a xs, vs = [.ref a] ∧ SqT K H a xs ∧ R (Itv K a xs.length) H
noncomputable def iRev (K : PySem.W.Frag) (ta : TA) : TI := fun σ H R => ta σ H fun vs H1 => rRev K vs H1 R
end
section
variable {K : PySem.W.Frag} {σ : St} {H : Hp}
end
end L2
set_option Elab.async false
set_option linter.all false
set_option maxRecDepth 100000
set_option maxHeartbeats 4000000
namespace L2
open PySem PySem.Spec PyProof.Rows
noncomputable def layF (ps : List (Str × Str)) (l : List Str) : List Str := l.filter fun x => !l.any fun y => wayB ps y x
noncomputable def resF (ps : List (Str × Str)) (l : List Str) : List Str := l.filter fun x => l.any fun y => wayB ps y x
inductive Lays (ps : List (Str × Str)) : List Str → List (List Str) → Prop
  | nil : Lays ps [] []
  | cons {l : List Str} {Ls : List (List Str)} : l ≠ [] → Lays ps (resF ps l) Ls → Lays ps l (layF ps l :: Ls)
noncomputable def Chn (ps : List (Str × Str)) (cs : List Str) : Prop := ∀ (k : Nat) (x y : Str), cs[k]? = some x → cs[k + 1]? = some y → Way ps x y
section
variable {K : PySem.W.Frag} {H : Hp} {Q : VK}
end
theorem eqv_nm_nil (ns : List Str) : PyData.eqv (nmD ns) (.tuple []) = ns.isEmpty := by
  cases ns <;> simp [nmD, PyData.eqv, PyData.eqvAll]
theorem IsL.bl_eq {α : Type} {K : PySem.W.Frag} {H : Hp} {f : α → Bool} : ∀ {as : List α} {vs : List V}, IsL K H (as.map fun a => PyData.bool (f a)) vs → vs = (as.map f).map V.bl
  | [], vs, h => by simp only [List.map_nil, IsL] at h; exact h
  | n :: ns, vs, h => by
    simp only [List.map_cons, IsL, Is] at h
    obtain ⟨v, r, rfl, rfl, e3⟩ := h
    rw [IsL.bl_eq e3]
    rfl
theorem comp_bls {α : Type} {K : PySem.W.Frag} {H : Hp} {σ : St} {J : It} {xs : List V} {G : Hp → Prop} {g : TG} {te : TE} {Q : VK} {k : Nat} {js : List Nat} (hw : WalkOf J xs G) (as : List α) (hl : as.length = xs.length) (f : α → Bool) (hz : xs.length ≤ 1000000) (hG : ∀ H', Same H H' → G H')
    (hs : ∀ (i : Nat) a v H1 (R : VK), as[i]? = some a → xs[i]? = some v → Same H H1 → (∀ H2, Same H1 H2 → R (.bl (f a)) H2) → g v (List.replicate k none ++ pick σ js) H1 fun σ2 H2 => te σ2 H2 R)
    (hd : ∀ p H', H p = none → Same H H' → SqL K H' p ((as.map f).map V.bl) → Q (.ref p) H') : rComp k js g tTrue te σ J H Q := by
  refine comp_dat (K := K) hw as hl (fun _ => true) (fun a => PyData.bool (f a)) (fun _ => rfl) hz hG (fun i a v H1 R R' ha hv e hR hR' => ?_) (fun p ys H' hp e h hL => ?_)
  · exact hs i a v H1 R ha hv e fun H2 e2 => hR rfl _ H2 e2 is_bl
  · rw [filter_true] at hL
    have := IsL.bl_eq hL
    subst this
    exact hd p H' hp e (SqL.of h)
end L2
set_option Elab.async false
set_option linter.all false
set_option maxRecDepth 100000
set_option maxHeartbeats 4000000
namespace L2
open PySem PySem.Spec PyProof.Rows
section
variable {P : Program} {w : World} {κ : Type} [DecidableEq κ] {knd : KeyKind P w κ} {A : Around} {E : Value → Shared → Prop} {s : Shared}
end
section
variable {X : Cx} {pins : List (Addr × Obj)} {σ : St} {H : Hp} {s : Shared} {A : Around}
end
end L2
set_option Elab.async false
set_option linter.all false
set_option maxRecDepth 100000
set_option maxHeartbeats 4000000
namespace L2
open PySem PySem.Spec PyProof.Rows
section
variable {prog : Program} {w : World} {A : Around} {E : Value → Shared → Prop} {s : Shared}
end
section
variable {X : Cx} {K : PySem.W.Frag}
end
end L2
set_option Elab.async false
set_option linter.all false
set_option maxRecDepth 100000
set_option maxHeartbeats 4000000
namespace L2
open PySem PySem.Spec PyProof.Rows
theorem Way.mem {ns : List Str} {ps : List (Str × Str)} (hm : ∀ p ∈ ps, p.1 ∈ ns ∧ p.2 ∈ ns) {x y : Str} (h : Way ps x y) : x ∈ ns ∧ y ∈ ns := by
  obtain ⟨p, hp, e⟩ := List.mem_map.mp h.left
  obtain ⟨q, hq, e'⟩ := List.mem_map.mp h.right
  exact ⟨e ▸ (hm p hp).1, e' ▸ (hm q hq).2⟩
theorem cl_more (ps : List (Str × Str)) (a : Str) (m : List Str) : ∀ t : List Str, (t.flatMap (clR (a :: m) ps)).length = (t.flatMap (clR m ps)).length + (t.filter fun x => wayB ps x a).length
  | [] => by simp
  | x :: t => by
    rw [List.flatMap_cons, List.flatMap_cons, List.length_append, List.length_append, cl_more ps a m t, List.filter_cons]
    have e : (clR (a :: m) ps x).length = (clR m ps x).length + (if wayB ps x a = true then 1 else 0) := by
      unfold clR
      rw [List.length_map, List.length_map, List.filter_cons]
      split
      · rw [List.length_cons]
      · rfl
    rw [e]
    split
    · rw [List.length_cons]; omega
    · omega
theorem three_way {ps : List (Str × Str)} (irr : ∀ x, ¬ Way ps x x) (a : Str) : ∀ t : List Str, (t.filter fun y => wayB ps a y).length + (t.filter fun y => wayB ps y a).length + (t.filter fun y => unB ps a y).length = t.length
  | [] => rfl
  | y :: t => by
    have ih := three_way irr a t
    rw [List.filter_cons, List.filter_cons, List.filter_cons, List.length_cons]
    unfold unB at ih ⊢
    cases h1 : wayB ps a y <;> cases h2 : wayB ps y a
    · simp; omega
    · simp; omega
    · simp; omega
    · exact absurd ((wayB_iff.mp h1).trans (wayB_iff.mp h2)) (irr a)
theorem unP_cons (ps : List (Str × Str)) (a : Str) (t : List Str) : (unP (a :: t) ps).length = (t.filter fun y => unB ps a y).length + (unP t ps).length := by
  have e : ∀ i, unR (a :: t) ps (i + 1) = unR t ps i := fun i => by
    unfold unR
    rw [List.getD_cons_succ, List.drop_succ_cons]
  unfold unP unK
  rw [List.length_cons, List.range_succ_eq_map, List.flatMap_cons, List.length_append, List.flatMap_map]
  have e0 : (unR (a :: t) ps 0).length = (t.filter fun y => unB ps a y).length := by
    unfold unR
    rw [List.length_map]
    rfl
  rw [e0]
  have e1 : (fun i => unR (a :: t) ps (Nat.succ i)) = unR t ps := funext e
  rw [show ((List.range t.length).flatMap fun i => unR (a :: t) ps i.succ) = (List.range t.length).flatMap (unR t ps) from by rw [e1]]
theorem cl_count {ps : List (Str × Str)} (irr : ∀ x, ¬ Way ps x x) : ∀ l : List Str, 2 * (((l.flatMap (clR l ps)).length : Int) + ((unP l ps).length : Int)) = (l.length : Int) * ((l.length : Int) - 1)
  | [] => by rfl
  | a :: t => by
    have ih := cl_count irr t
    have h3 := three_way irr a t
    rw [List.flatMap_cons, List.length_append, cl_more, unP_cons]
    have e : (clR (a :: t) ps a).length = (t.filter fun y => wayB ps a y).length := by
      unfold clR
      rw [List.length_map, List.filter_cons, wayB_false (irr a)]
      rfl
    rw [e, List.length_cons]
    have e2 : (((t.length + 1 : Nat) : Int)) * ((((t.length + 1 : Nat) : Int)) - 1) = (t.length : Int) * ((t.length : Int) - 1) + 2 * (t.length : Int) := by
      rw [Int.natCast_add, show ((1 : Nat) : Int) = 1 from rfl, Int.add_sub_cancel, Int.add_mul, Int.mul_sub]
      omega
    rw [e2, ← ih]
    omega
theorem pairs_count {ns : List Str} {ps : List (Str × Str)} (irr : ∀ x, ¬ Way ps x x) : 2 * (((clP ns ps).length : Int) + ((unP ns ps).length : Int)) = (ns.length : Int) * ((ns.length : Int) - 1) := cl_count irr ns
end L2
set_option Elab.async false
set_option linter.all false
set_option maxRecDepth 100000
set_option maxHeartbeats 4000000
namespace L2
open PySem PySem.Spec PyProof.Rows
noncomputable def inS (ns : List Str) : Key → Bool
  | .inr z => decide (z ∈ ns)
  | .inl _ => false
theorem inS_more (ns : List Str) (z : Str) (k : Key) : inS (ns ++ [z]) k = (inS ns k || decide (k = Sum.inr z)) := by
  cases k with
  | inl i => simp [inS]
  | inr y =>
    simp only [inS, List.mem_append, List.mem_singleton, Bool.decide_or]
    congr 1
    simp
theorem addAll_more (ms : List Str) (z : Str) : (addAll [] (ms ++ [z])).length = if inS ms (Sum.inr z) = true then (addAll [] ms).length else (addAll [] ms).length + 1 := by
  unfold addAll
  rw [List.foldl_append]
  show (addK (addAll [] ms) z).length = _
  unfold addK
  have e : (z ∈ addAll [] ms) ↔ z ∈ ms := by rw [mem_addAll]; simp
  by_cases h : z ∈ ms
  · rw [if_pos (e.mpr h), if_pos (by simpa [inS] using h)]
    rfl
  · rw [if_neg (fun q => h (e.mp q)), if_neg (by simpa [inS] using h), List.length_append, List.length_singleton]
    rfl
theorem addAll_le : ∀ ms : List Str, (addAll [] ms).length ≤ ms.length := fun ms => by
  have g := nodup_le (ys := ms) (nodup_addAll (ms := ms) (ks := []) (by simp)) fun z hz => by
    rcases mem_addAll.mp hz with h | h
    · cases h
    · exact h
  exact g
section
variable {P : Program} {w : World} {A : Around} {R : Result → Shared → Prop} {it : Addr} {fp wr : List Addr} {G : Array GenState → Array GenState → Prop} {n : Nat} {PV : Nat → Value → Prop} {St : Nat → Shared → Prop}
theorem key_str (z : Str) (t : Tok) : (mixKind P w).is (Sum.inr z) (.str z t) = true := by
  show keyIs (Sum.inr z) (.str z t) = true
  simp [keyIs, Value.isStrOf]
theorem set_loop (W : WalksS P w A.in1 it fp wr G n PV St) (D : Addr) (hD : D ∉ fp) (ns : List Str) (hval : ∀ i v, PV i v → ∃ z t, ns[i]? = some z ∧ v = .str z t) (hb : n + 1 < scanBound) (hn : ns.length = n) :
    ∀ (k i : Nat) (s : Shared), n - i = k → i ≤ n → St i s → s.heap.SetOf (mixKind P w) D (inS (ns.take i)) (addAll [] (ns.take i)).length →
      (∀ s', Moved (D :: wr) G s s' → s'.heap.SetOf (mixKind P w) D (inS ns) (addAll [] ns).length → R (.ok (.ret .none)) s') →
      codeAny (model P w) A (.builtin "set.update.loop" ⟨[.ref D, .ref it], []⟩) R s := by
  have hDw : D ∉ wr := fun h => hD (W.sub _ h)
  have sub : ∀ b ∈ wr, b ∈ D :: wr := fun b h => .tail _ h
  have stays : ∀ {s s' : Shared} {f : Key → Bool} {m : Nat}, Moved wr G s s' → s.heap.SetOf (mixKind P w) D f m → s'.heap.SetOf (mixKind P w) D f m := fun hm ⟨o, es, ep, t, ho, r⟩ => ⟨o, es, ep, t, hm.heap D _ hDw ho, r⟩
  intro k
  induction k with
  | zero =>
    intro i s hk hi st hS hR
    obtain rfl : i = n := by omega
    rw [List.take_of_length_le (by omega)] at hS
    refine codeAny_builtin F.entry_set_update_loop ?_
    rw [Around.under_plainId F.plain_set_update_loop]
    refine wpAny_bind (m := pyNext (.ref it)) (W.done s _ _ st fun s' hm => ?_)
    show wpAny _ _ (ret Value.none) _ _ _
    exact wpAny_pure (hR s' (hm.mono sub) (stays hm hS))
  | succ k ih =>
    intro i s hk hi st hS hR
    have hlt : i < n := by omega
    refine codeAny_builtin F.entry_set_update_loop ?_
    rw [Around.under_plainId F.plain_set_update_loop]
    refine wpAny_bind (m := pyNext (.ref it)) (W.item i s _ _ hlt st fun v s' hv st' hm => ?_)
    obtain ⟨z, t, hz, rfl⟩ := hval i v hv
    have ht : ns.take (i + 1) = ns.take i ++ [z] := by rw [List.take_add_one, hz]; rfl
    refine wpAny_bind (m := holding _ (setAdd D (.str z t))) (wpAny_holding ?_)
    unfold setAdd
    refine wpAny_holding (wpAny_bind ((mixKind P w).pyHash (key_str z t) ?_))
    have hle := addAll_le (ns.take i)
    rw [List.length_take] at hle
    refine wpAny_setAddHashed_of (s := { s' with toks := s'.toks + 1 }) (key_str z t) rfl (show s'.heap.SetOf _ _ _ _ from stays hm hS) (by omega) fun h' hsb hS2 => ?_
    have hS3 : h'.SetOf (mixKind P w) D (inS (ns.take (i + 1))) (addAll [] (ns.take (i + 1))).length := by
      rw [ht, addAll_more, show inS (ns.take i ++ [z]) = fun k' => inS (ns.take i) k' || decide (k' = Sum.inr z) from funext (inS_more _ _)]
      exact hS2
    refine wpAny_pure ⟨plainId_quiet F.plain_set_update_loop _, ih (i + 1) _ (by omega) hlt (W.frame _ s' _ _ st' (Nat.le_succ _) fun b hb o e => ?_) hS3 fun s2 hm2 hS4 => ?_⟩
    · have hbD : b ≠ D := fun q => hD (q ▸ hb)
      exact (hsb.2 b hbD).trans e
    · refine hR s2 (Moved.trans W.gtrans ((hm.mono sub).then_heap (Nat.le_succ _) fun b o hb e => ?_) hm2) hS4
      have hbD : b ≠ D := fun q => hb (by rw [q]; exact List.mem_cons_self)
      exact (hsb.2 b hbD).trans e
end
theorem sub_tup_set : isSubtype (.type "tuple") (.type "set") = pure false := by rw [isSubtype_type]; kernel_rfl
theorem sub_tup_fset : isSubtype (.type "tuple") (.type "frozenset") = pure false := by rw [isSubtype_type]; kernel_rfl
section
variable {prog : Program} {w : World} {A : Around} {E : Value → Shared → Prop} {s : Shared}
noncomputable def freshS (led : Bool) : Obj := { cls := .type "set", dict := none, data := .set #[] 0 (.fresh 0 0 led) }
noncomputable def SetTo (prog : Program) (w : World) (s : Shared) (ns : List Str) (h' : Heap) : Prop := h'.SetOf (mixKind prog w) s.heap.objs.size (inS ns) (addAll [] ns).length ∧ ∀ b o, b < s.heap.objs.size → s.heap.get? b = some o → h'.get? b = some o
set_option maxHeartbeats 3200000 in
theorem call_setT {t : Addr} {its : List Value} {ns : List Str} {Q : Value → Shared → Prop} (hh : A.handled = none) (ht : s.heap.IsTuple t its.toArray) (hv : Vals (ns.map V.str) its) (hb : ns.length + 1 < scanBound)
    (h : ∀ (h' : Heap) (k : Nat), SetTo prog w s ns h' → Q (.ref s.heap.objs.size) { s with heap := h', toks := k }) : wpAny (model prog w) A (call (.type "set") [.ref t]) Q E s := by
  have hlen : its.length = ns.length := by rw [← hv.length, List.length_map]
  obtain ⟨c, tl, m1⟩ := F.called_set.mro
  have m2 := F.called_set.made
  have m3 := F.called_set.sub
  have m4 := F.called_set.notType
  have m5 := F.called_set.canCreate
  have m6 := F.typeCall_set_1 (.ref t)
  refine wpAny_call (codeAny_of_tree (show wpAny _ _ (callAny (.type "set") _) _ _ _ from ?_))
  refine wpAny_pure ⟨Code.quiet_builtin _ (by decide +kernel), codeAny_builtin F.entry_type_call ?_⟩
  rw [Around.under_plain (weight_type_call_type "set" [Value.ref t] []) rfl]
  repeat (any_goals (first | assumption | wp_step))
  refine codeAny_mono (code_set_new_1 (Value.ref t) (E := E) (Q₁ := fun x s₁ => ∃ led : Bool, x = .ref s.heap.objs.size ∧ s₁ = { s with heap := s.heap.push (freshS led) }) fun led => ⟨led, rfl, rfl⟩) fun r s₁ hr => ?_
  cases r with
  | error e => exact hr
  | ok fl =>
    cases fl with
    | ret x =>
      obtain ⟨led, rfl, rfl⟩ := hr
      have hN : (s.heap.push (freshS led)).get? s.heap.objs.size = some (freshS led) := Heap.get?_push_size _ rfl
      have hT : Shared.TypeIs { s with heap := s.heap.push (freshS led) } (.ref s.heap.objs.size) "set" := ⟨_, hN, rfl⟩
      have n1 := F.called_set.init.lookup
      have n2 := F.called_set.init.bind (.ref s.heap.objs.size)
      repeat (any_goals (first | assumption | wp_step))
      refine codeAny_mono (codeAny_call_builtin (R := wants (fun r s₂ => r = .none ∧ ∃ h' k, s₂ = { s with heap := h', toks := k } ∧ SetTo prog w s ns h') E) F.called_set.init.plain F.entry_set_init (check_set_init_1 hT ?_)) fun r₂ s₂ hr₂ => ?_
      · obtain ⟨⟨oc, od, odt, osl⟩, g1, g2, nl, g3⟩ := id ht
        simp only at g2 g3
        subst g2 g3
        have g4 : (s.heap.push (freshS led)).get? t = some { cls := .type "tuple", dict := od, data := .seq its.toArray nl, slots := osl } := Heap.get?_push_of_some _ g1
        have q1 := sub_tup_set
        have q2 := sub_tup_fset
        have q3 : (Value.type "tuple" == Value.type "dict") = false := by decide
        have ht1 : (s.heap.push (freshS led)).IsTuple t its.toArray := ⟨_, g4, rfl, nl, rfl⟩
        unfold Builtin.«set.__init__» noKeywords Builtin.Frozenset.updateFrom
        generalize hPI : pyIter = PI
        wp_walk
        subst hPI
        refine wpAny_pyIter_tuple ht1 (wpAny_bind (wpAny_runValue ?_))
        have htl : t < s.heap.objs.size := Heap.lt_size g1
        have hz : (s.heap.push (freshS led)).objs.size = s.heap.objs.size + 1 := Heap.size_push ..
        refine set_loop ((Walks.tuple (by simp [hh]) _ t (by rw [hz]; exact Nat.ne_of_lt (Nat.lt_succ_of_lt htl)) its.toArray).toS) s.heap.objs.size (by rw [hz]; simp only [List.mem_cons, List.not_mem_nil, or_false, not_or]; exact ⟨Nat.ne_of_lt (Nat.lt_succ_self _), Nat.ne_of_gt htl⟩) ns (fun i v hv' => ?_) (by rw [List.size_toArray]; omega) (by rw [List.size_toArray]; omega) _ 0 _ rfl (Nat.zero_le _) ⟨⟨_, Heap.get?_push_size _ rfl, rfl, rfl⟩, ht1.push _⟩ ?_ ?_
        · have hv2 : its[i]? = some v := by rw [← List.getElem?_toArray]; exact hv'
          have hi : i < ns.length := by
            have := (List.getElem?_eq_some_iff.mp hv2).1
            omega
          obtain ⟨u, hu, ru⟩ := hv.get (i := i) (x := .str ns[i]) (by rw [List.getElem?_map, List.getElem?_eq_getElem hi]; rfl)
          rw [hv2] at hu
          cases hu
          obtain ⟨k, rfl⟩ := ru
          exact ⟨_, k, List.getElem?_eq_getElem hi, rfl⟩
        · have e : inS (ns.take 0) = fun _ => false := funext fun k => by cases k <;> simp [inS]
          rw [e]
          exact ⟨freshS led, #[], 0, .fresh 0 0 led, Heap.get?_push_of_some _ hN, ⟨rfl, rfl, rfl⟩, rfl, (fun e he => by simp at he), (fun k => by simp), by simp [scanBound], rfl, rfl⟩
        · intro s' hm hS'
          obtain ⟨h', g', d', k', os'⟩ := s'
          have eg : g' = s.gens := hm.gens
          have ed : d' = s.drawn := hm.drawn
          have eo : os' = s.os := hm.os
          subst eg ed eo
          refine wpAny_pure ?_
          show wpAny _ _ (ret Value.none) _ _ _
          refine wpAny_pure ⟨rfl, h', k', rfl, hS', fun b o hb e => hm.heap b o ?_ (Heap.get?_push_of_some _ (Heap.get?_push_of_some _ e))⟩
          rw [hz]
          simp only [List.mem_cons, List.not_mem_nil, or_false, not_or]
          exact ⟨Nat.ne_of_lt hb, Nat.ne_of_lt (Nat.lt_succ_of_lt hb)⟩
      · cases r₂ with
        | error e => exact hr₂
        | ok fl₂ =>
          cases fl₂ with
          | ret r =>
            obtain ⟨rfl, h', k, rfl, hS⟩ := hr₂
            repeat (any_goals (first | assumption | wp_step))
            exact h _ _ hS
          | _ => exact hr₂.elim
    | _ => exact hr.elim
end
end L2
set_option Elab.async false
set_option linter.all false
set_option maxRecDepth 100000
set_option maxHeartbeats 4000000
namespace L2
open PySem PySem.Spec PyProof.Rows
section
variable {X : Cx} {K : PySem.W.Frag}
noncomputable def rLenSet (K : PySem.W.Frag) : List V → Hp → VK → Prop := fun vs H Q => ∃ a ns, vs = [.ref a] ∧ SqT K H a (ns.map V.str) ∧ ns.length ≤ 1000 ∧ Q (.int ((addAll [] ns).length : Nat)) H
theorem pe_lenset {e : Expr} {ta : TA} {p p2 pos pos2 : Pos} (hc : X.A.handled = none) (hg : Gl X "len") (hm : X.mg "len" = none) (hg2 : Gl X "set") (hm2 : X.mg "set" = none) (ha : PA X [e] ta) (hK : X.K = K := by with_unfolding_all rfl)
    (hs : starEach [e] X.env = [(false, eval e X.env)] := by with_unfolding_all rfl) (hs2 : starEach [.Call (.Name "set" p2) [e] [] pos2] X.env = [(false, eval (.Call (.Name "set" p2) [e] [] pos2) X.env)] := by with_unfolding_all rfl) :
    PE X (.Call (.Name "len" p) [.Call (.Name "set" p2) [e] [] pos2] [] pos) (tCB (rLenSet K) ta) := by
  subst hK
  intro pins s σ H Q I h
  refine wpAny_Call_Name_kw (ld_blt I hg hm PyProof.Rows.Boot.«len» ?_ (by decide) (by decide))
  refine PyProof.Rows.callWith_builtin1 ?_ hs2 rfl
  rw [hs2]
  show wpAny _ _ (spliced ((false, eval (.Call (.Name "set" p2) [e] [] pos2) X.env) :: backTo pos [])) _ _ s
  refine Calls.spliced_cons ?_
  refine wpAny_Call_Name_kw (ld_blt I hg2 hm2 PyProof.Rows.Boot.«set» ?_ (by decide) (by decide))
  refine PyProof.Rows.callWith_type1 (thn (ha pos2 pins s σ H _ I h) fun us s1 ⟨vs, H1, I1, r1, q1⟩ => ?_) hs rfl
  obtain ⟨a, ns, rfl, hq, hz, q⟩ := q1
  obtain ⟨u, rfl, ru⟩ := Vals.one r1
  cases ru
  obtain ⟨its, rv, ht, hz2⟩ := I1.tuple hq
  refine call_setT hc ht rv (by unfold scanBound; omega) fun h' k hS => ?_
  obtain ⟨hS1, hS2⟩ := hS
  have I2 : Inv X pins σ H1 { s1 with heap := h', toks := k } := I1.kept (t' := k) fun b o e => hS2 b o (Heap.lt_size e) e
  refine Calls.spliced_nil ?_
  obtain ⟨o, es, ep, t, ho, hex, hd, _, _, hb, hf, hn⟩ := hS1
  refine call_len_set ho hex hd hf (by unfold scanBound at hb; omega) ?_
  exact ⟨.int _, H1, I2.tok _, ⟨_, by rw [hn]⟩, q⟩
theorem i_lenset {a : Addr} {ns : List Str} {H : Hp} {Q : VK} (h : SqT K H a (ns.map V.str)) (hz : ns.length ≤ 1000) (k : Q (.int ((addAll [] ns).length : Nat)) H) : rLenSet K [.ref a] H Q := ⟨a, ns, rfl, h, hz, k⟩
end
end L2
set_option Elab.async false
set_option linter.all false
set_option maxRecDepth 100000
set_option maxHeartbeats 4000000
namespace L2
open PySem PySem.Spec PyProof.Rows
theorem nm_len {z : Str} (h : isNm z = true) : z.length ≤ 8 := (nm_ok h).2
theorem addAll_nd {ns : List Str} (h : ns.Nodup) : (addAll [] ns).length = ns.length := Nat.le_antisymm (addAll_le ns) (nodup_le h fun z hz => mem_addAll.mpr (.inr hz))
section
variable {K : PySem.W.Frag} {H : Hp} {Q : VK}
end
end L2
set_option Elab.async false
set_option linter.all false
set_option maxRecDepth 100000
set_option maxHeartbeats 4000000
namespace L2
open PySem PySem.Spec PyProof.Rows
section
variable {X : Cx} {K : PySem.W.Frag}
end
section
variable {prog : Program} {w : World} {A : Around} {E : Value → Shared → Prop} {s : Shared}
end
section
variable {X : Cx} {K : PySem.W.Frag}
noncomputable def tBMT (K : PySem.W.Frag) (r : V → List V → Hp → VK → Prop) (to : TE) (t : TA) : TE := fun σ H Q => to σ H fun x H1 => (∃ a xs, x = .ref a ∧ SqT K H1 a xs) ∧ t σ H1 fun vs H2 => r x vs H2 Q
end
end L2
set_option Elab.async false
set_option linter.all false
set_option maxRecDepth 100000
set_option maxHeartbeats 4000000
namespace L2
open PySem PySem.Spec PyProof.Rows
section
variable {prog : Program} {w : World} {A : Around} {E : Value → Shared → Prop} {s : Shared}
end
section
variable {X : Cx} {K : PySem.W.Frag}
end
end L2
set_option linter.all false
namespace L2
section
variable {α : Type} [DecidableEq α]
noncomputable def binM : List α → (α → Bool) → Nat
  | [], _ => 0
  | x :: xs, p => (p x).toNat + 2 * binM xs p
noncomputable def bitOf : List α → α → Nat
  | [], _ => 0
  | y :: ys, x => if x = y then 1 else 2 * bitOf ys x
noncomputable def frF (b : α → α → Bool) (L : List α) : List α := L.filter fun x => !(L.any fun y => b y x)
noncomputable def lessF (L : List α) (x : α) : List α := L.filter fun y => !decide (y = x)
noncomputable def ext (b : α → α → Bool) : Nat → List α → List (List α)
  | 0, _ => [[]]
  | n + 1, L => (frF b L).flatMap fun x => (ext b n (lessF L x)).map (x :: ·)
noncomputable def cnt (b : α → α → Bool) (L : List α) : Nat := (ext b L.length L).length
end
end L2
set_option Elab.async false
set_option linter.all false
set_option maxRecDepth 100000
set_option maxHeartbeats 4000000
namespace L2
open PySem PySem.Spec PyProof.Rows
noncomputable def rAt (f : Str) (C : Addr) : V → Hp → VK → Prop := fun x H Q => ∃ a dx fs v, x = .ref a ∧ H a = some (.ins C dx fs) ∧ fs.lookup f = some v ∧ Q v H
noncomputable def tAt (f : Str) (C : Addr) (ta : TE) : TE := fun σ H Q => ta σ H fun x H1 => rAt f C x H1 Q
noncomputable def rSt (f : Str) (C : Addr) (y : V) : V → Hp → (Hp → Prop) → Prop := fun x H R => ∃ a dx fs, x = .ref a ∧ H a = some (.ins C dx fs) ∧ fs.length < 1000 ∧ R (upd H a (.ins C dx (putF f y fs)))
noncomputable def sSt (f : Str) (C : Addr) (ta tv : TE) : TS := fun D σ H => tv σ H fun y H1 => ta σ H1 fun x H2 => rSt f C y x H2 fun H3 => D.nx σ H3
noncomputable def rMe (m : Str) (C : Addr) (sp : Sp) (t : TA) (σ : St) : V → Hp → VK → Prop := fun x H Q => ∃ a dx fs, x = .ref a ∧ H a = some (.ins C dx fs) ∧ fs.lookup m = none ∧ t σ H fun vs H2 => sp (x :: (vs ++ [])) H2 Q E0
noncomputable def tMe (m : Str) (C : Addr) (sp : Sp) (ta : TE) (t : TA) : TE := fun σ H Q => ta σ H fun x H1 => rMe m C sp t σ x H1 Q
noncomputable def rMk (C : Addr) (sp : Sp) : List V → Hp → VK → Prop := fun vs H1 Q => ∀ x dx, H1 x = none → H1 dx = none → dx ≠ x →
  sp (.ref x :: (vs ++ [])) (upd (upd H1 dx (.own x)) x (.ins C dx [])) (fun v H2 => v = .non ∧ Q (.ref x) H2) E0
noncomputable def tMk (C : Addr) (sp : Sp) (t : TA) : TE := fun σ H Q => t σ H fun vs H1 => rMk C sp vs H1 Q
noncomputable def tTru (ta : TE) : TT := fun σ H Q => ta σ H fun x H1 => ∃ i : Int, x = .int i ∧ Q (i != 0) H1
section
variable {X : Cx} {K : PySem.W.Frag} {k : Nat} {C : Addr} {f x m : Str} {ps : List Str} {sp : Sp} {e o value : Expr} {es : List Expr} {ta tv : TE} {t : TA} {p pos pos' apos : Pos}
end
section
variable {K : PySem.W.Frag} {C : Addr} {f m : Str} {sp : Sp} {ta tv : TE} {t : TA} {σ : St} {H : Hp} {Q : VK} {D : Ends}
end
section
variable {X : Cx} {K : PySem.W.Frag}
end
section
variable {X : Cx}
end
section
variable {α : Type} [DecidableEq α]
end
end L2
set_option Elab.async false
set_option linter.all false
set_option maxRecDepth 100000
set_option maxHeartbeats 4000000
namespace L2
open PySem PySem.Spec PyProof.Rows
noncomputable def bitK (ns : List Str) : List (Key × V) := ns.map fun x => ((Sum.inr x : Key), V.int ((bitOf ns x : Nat) : Int))
noncomputable def ahK (ns : List Str) (ps : List (Str × Str)) : List (Key × V) := ns.map fun x => ((Sum.inr x : Key), V.int ((binM ns (fun y => wayB ps y x) : Nat) : Int))
noncomputable def Knw (ns : List Str) (ps : List (Str × Str)) (kvs : List (Key × V)) : Prop := (kvs.map (·.1)).Nodup ∧
  (∀ kv ∈ kvs, ∃ q : Str → Bool, kv.1 = Sum.inl ((binM ns q : Nat) : Int) ∧ kv.2 = V.int ((cnt (wayB ps) (ns.filter q) : Nat) : Int)) ∧ valV kvs (Sum.inl 0 : Key) = some (.int 1)
structure WaysAt (K : PySem.W.Frag) (C : Addr) (H : Hp) (p dx : Addr) (nv : V) (bd ad kd : Addr) (ns : List Str) (ps : List (Str × Str)) (kvs : List (Key × V)) : Prop where
  ob : H p = some (.ins C dx [("names", nv), ("bits", .ref bd), ("ahead", .ref ad), ("full", .int ((binM ns (fun _ => true) : Nat) : Int)), ("known", .ref kd)])
  nm : Is K H (nmD ns) nv
  bt : H bd = some (.dK (bitK ns))
  ah : H ad = some (.dK (ahK ns ps))
  kn : H kd = some (.dK kvs)
  nb : bd ≠ kd
  na : ad ≠ kd
  ok : Knw ns ps kvs
section
variable {K : PySem.W.Frag} {C : Addr} {H H' : Hp} {p dx : Addr} {nv : V} {bd ad kd : Addr} {ns : List Str} {ps : List (Str × Str)} {kvs kvs' : List (Key × V)}
end
end L2
namespace L2
open PySem PySem.Spec PyProof.Rows
section
variable {α : Type} [DecidableEq α]
end
end L2
namespace L2
end L2
namespace L2
open PySem PySem.Spec PyProof.Rows
end L2
set_option linter.all false
namespace L2
section
variable {α : Type} [DecidableEq α]
end
end L2
namespace L2
open PySem PySem.Spec PyProof.Rows
end L2
namespace L2
open PySem PySem.Spec PyProof.Rows
section
variable {K : PySem.W.Frag} {σ : St} {H : Hp} {Q : VK} {td ty tx : TE}
noncomputable def rDGet2 (ty tx : TE) (σ : St) : V → Hp → VK → Prop := fun x H1 Q => ∃ a, x = .ref a ∧ IsD H1 a ∧ ty σ H1 fun y H2 => tx σ H2 fun z H3 => ∃ o, DGet H3 a y o ∧ Q (o.getD z) H3
end
section
variable {K : PySem.W.Frag} {C : Addr} {H H' : Hp} {p dx : Addr} {nv : V} {bd ad kd : Addr} {ns : List Str} {ps : List (Str × Str)} {kvs : List (Key × V)}
end
end L2
namespace L2
open PySem PySem.Spec PyProof.Rows
section
variable {K : PySem.W.Frag} {σ : St} {H : Hp} {Q : VK}
end
end L2
set_option Elab.async false
set_option linter.all false
set_option maxRecDepth 100000
set_option maxHeartbeats 4000000
namespace L2
open PySem PySem.Spec PyProof.Rows
theorem meets_upd_self {prog : Program} {w : World} {κ : Type} [DecidableEq κ] (knd : KeyKind prog w κ) (d : Addr) :
    MeetsIn prog w (Builtin.«dict.update» ⟨[.ref d, .ref d], []⟩) (fun _ R s => (∃ kvs, s.heap.DictOf knd d kvs) ∧ R (.ok (.ret .none)) s) :=
  .of_wp fun A R s hh => by
    obtain ⟨⟨kvs, hd⟩, h⟩ := hh
    unfold Builtin.«dict.update» Builtin.Dict.selfAndRest
    refine wpAny_bind (wpAny_bind (wpAny_notOrdered_dict hd.typeIs ?_))
    show wpAny _ _ (pure (d, [Value.ref d])) _ _ s
    refine wpAny_pure ?_
    show wpAny _ _ (Builtin.Dict.updateFrom "dict.update" d (.ref d) [] .none) _ _ s
    unfold Builtin.Dict.updateFrom Builtin.Dict.merge Builtin.Dict.readDirectly
    refine wpAny_bind (wpAny_typeOf hd.typeIs ?_)
    rw [if_neg (by decide)]
    refine wpAny_bind (wpAny_bind (wpAny_bind (wpAny_isInstance hd.typeIs isSubtype_dict_dict ?_)))
    simp only [Bool.not_true, Bool.false_eq_true, if_false]
    refine wpAny_bind (wpAny_specialOf hd.typeIs F.slot_dict_iter.lookup (wpAny_pure ?_))
    simp only [beq_self_eq_true, if_true]
    refine wpAny_bind (wpAny_pure ?_)
    unfold Builtin.Dict.mergeDict
    rw [if_pos (by simp)]
    refine wpAny_bind (wpAny_rule (wpAny_pure ?_))
    show wpAny _ _ (Builtin.Dict.addKeywords d [] >>= _) _ _ _
    exact wpAny_bind (wpAny_pure (wpAny_pure ⟨.none, rfl, h⟩))
noncomputable def rUpdateS : V → List V → Hp → VK → Prop := fun x vs H Q => ∃ d kvs, x = .ref d ∧ vs = [.ref d] ∧ H d = some (.dK kvs) ∧ Q .non H
noncomputable def rUpdateA : V → List V → Hp → VK → Prop := fun x vs H Q => rUpdate x vs H Q ∨ rUpdateS x vs H Q
section
variable {X : Cx} {K : PySem.W.Frag}
theorem mt_updateS : MtM X "dict.update" rUpdateS := by
  intro pins s σ H x vs v us Q I rx rv h
  obtain ⟨d, kvs, rfl, rfl, hD, q⟩ := h
  cases rx
  obtain ⟨u, rfl, ru⟩ := rv.one
  cases ru
  obtain ⟨z1, hd1, vs1, rel1, dd1⟩ := dk_of I.hok hD
  refine call_meetsIn F.slot_dict_update dd1.typeIs F.entry_dict_update (F.args_dict_update_2 _ _) (meets_upd_self (mixKind X.prog X.w) d) ⟨⟨vs1, dd1⟩, ?_⟩
  exact ⟨.non, H, I.tok s.toks, rfl, q⟩
theorem mt_updateA : MtM X "dict.update" rUpdateA := by
  intro pins s σ H x vs v us Q I rx rv h
  rcases h with h | h
  · exact mt_update pins s σ H x vs v us Q I rx rv h
  · exact mt_updateS pins s σ H x vs v us Q I rx rv h
end
theorem i_updA {d o : Addr} {ks ms : List Str} {H : Hp} {Q : VK} (hd : H d = some (.dK (rowK ks))) (ho : H o = some (.dK (rowK ms))) (hne : d ≠ o) (hz : ks.length + ms.length ≤ 1000000) (k : ∀ H', ExtBut d H H' → H' d = some (.dK (rowK (addAll ks ms))) → Q .non H') : rUpdateA (.ref d) [.ref o] H Q := .inl (i_upd hd ho hne hz k)
theorem i_updS {d : Addr} {kvs : List (Key × V)} {H : Hp} {Q : VK} (hd : H d = some (.dK kvs)) (k : Q .non H) : rUpdateA (.ref d) [.ref d] H Q := .inr ⟨d, kvs, rfl, rfl, hd, k⟩
structure HalfC (ns : List Str) (ps : List (Str × Str)) : Prop where
  nd : ns.Nodup
  mem : ∀ p ∈ ps, p.1 ∈ ns ∧ p.2 ∈ ns
  few : ns.length ≤ 100
  le : ps.length ≤ 1100
theorem HalfW.c {ns : List Str} {ps : List (Str × Str)} (h : HalfW ns ps) : HalfC ns ps := ⟨h.nd, h.mem, h.few, Nat.le_trans h.le (by decide)⟩
instance {ns : List Str} {ps : List (Str × Str)} : Coe (HalfW ns ps) (HalfC ns ps) := ⟨HalfW.c⟩
section
variable {α : Type} [DecidableEq α]
end
end L2
namespace L2
open PySem PySem.Spec PyProof.Rows
section
variable {prog : Program} {w : World} {A : Around} {E : Value → Shared → Prop} {I : Addr} {fp wr : List Addr} {n : Nat} {P : Nat → Value → Prop} {St : Nat → Heap → Prop}
end
end L2
set_option linter.all false
set_option maxHeartbeats 4000000
namespace L2
open PySem PySem.Spec PyProof.Rows
section
variable {α : Type} [DecidableEq α]
end
end L2
set_option Elab.async false
set_option linter.all false
set_option maxRecDepth 100000
set_option maxHeartbeats 4000000
namespace L2
open PySem PySem.Spec PyProof.Rows
section
variable {prog : Program} {w : World} {A : Around} {E : Value → Shared → Prop} {s : Shared}
structure RawAt (h : Heap) (d : Addr) (es : Array DictEntry) (ep : Nat) : Prop where
  at_ : ∃ o, h.get? d = some o ∧ o.cls = .type "dict" ∧ o.data = .dict es ep
end
noncomputable def ItT (a : Addr) (o : Obj) (kvs : List (List Key × V)) (bs : List Addr) : It :=
  ⟨fun i H => H a = some (.frz o (.dT kvs)) ∧ i < bs.length, fun i H x H' => H' = H ∧ ∃ b, bs[i]? = some b ∧ x = .ref b, fun i H => H a = some (.frz o (.dT kvs)) ∧ bs.length ≤ i⟩
noncomputable def KeysAt (H : Hp) (kvs : List (List Key × V)) (bs : List Addr) : Prop := bs.length = kvs.length ∧ ∀ (i : Nat) kv, kvs[i]? = some kv → ∃ b, bs[i]? = some b ∧ H b = some (.tup (kv.1.map kV))
noncomputable def rItT (x : V) (H : Hp) (R : It → Hp → Prop) : Prop := ∃ a kvs, x = .ref a ∧ H a = some (.dT kvs) ∧ ∀ o bs, KeysAt H kvs bs → R (ItT a o kvs bs) (upd H a (.frz o (.dT kvs)))
noncomputable def iDT (tl : TE) : TI := fun σ H R => tl σ H fun x H1 => rItT x H1 R
end L2
namespace L2
open PySem PySem.Spec PyProof.Rows
end L2
namespace L2
open PySem PySem.Spec PyProof.Rows
noncomputable def keyT (ns : List Str) (q : Str → Bool) : List Key := (ns.filter fun x => !q x).map Sum.inr
section
variable {κ : Type} [DecidableEq κ]
end
end L2
set_option linter.all false
set_option maxHeartbeats 4000000
set_option maxRecDepth 100000
namespace L2
open PySem PySem.Spec PyProof.Rows
section
variable {α β : Type} [DecidableEq α] [DecidableEq β]
end
end L2
set_option linter.all false
set_option maxHeartbeats 4000000
set_option maxRecDepth 100000
namespace L2
open PySem PySem.Spec PyProof.Rows
noncomputable def nm40 (s z a : Nat) : List (List Nat) := (List.range 10).map fun k => cutN s (s + a) ++ sgnN (7 * k % 26) ++ cutN s (s + z - a - 1)
noncomputable def nm41 (s : Nat) : List (List Nat) := (List.range 8).map (fun k => cutN s (s + 1 + k)) ++ [sgnN (s + 9), sgnN (s + 11)]
noncomputable def nm42 (s : Nat) : List (List Nat) := (List.range 10).map fun k => cutN (s + 2 * k) (s + 2 * k + 1 + 5 * k % 8)
noncomputable def nm43 : List Str := ["ahead", "names", "a", "ab", "name", "row", "ask", "last", "first", "aheadahe"]
theorem nd41 : ∀ s < 26, (nm41 s).Nodup := by decide +kernel
theorem nd42 : ∀ s < 26, (nm42 s).Nodup := by decide +kernel
theorem nd40' : ((List.range 10).map fun k => sgnN (7 * k % 26)).Nodup := by decide +kernel
theorem ok_nm43 : Names nm43 := ⟨by decide +kernel, by decide +kernel⟩
theorem nd40 (s z a : Nat) : (nm40 s z a).Nodup := by
  refine nodup_map_on List.nodup_range fun k hk j hj e => ?_
  have e1 : sgnN (7 * k % 26) = sgnN (7 * j % 26) := List.append_cancel_left (List.append_cancel_right e)
  exact inj_of_nodup_map (f := fun k => sgnN (7 * k % 26)) nd40' k hk j hj e1
theorem ok_nm40 {s z a : Nat} (hs : s < 26) (ha : a < z) (hz : z ≤ 8) : Names ((nm40 s z a).map txt) := by
  refine ⟨nodup_txt (nd40 s z a), fun y hy => ?_⟩
  obtain ⟨l, hl, rfl⟩ := List.mem_map.mp hy
  obtain ⟨k, hk, rfl⟩ := List.mem_map.mp hl
  have hm : 7 * k % 26 < 26 := Nat.mod_lt _ (by decide)
  have e1 := cutN_len (a := s) (b := s + a) (by omega) (by omega)
  have e2 := sgnN_len (i := 7 * k % 26) (by omega)
  have e3 := cutN_len (a := s) (b := s + z - a - 1) (by omega) (by omega)
  refine txt_name (by simp only [List.length_append]; omega) (by simp only [List.length_append]; omega) fun c hc => ?_
  rcases List.mem_append.mp hc with hc | hc
  · rcases List.mem_append.mp hc with hc | hc
    · exact cutN_small c hc
    · exact sgnN_small c hc
  · exact cutN_small c hc
theorem ok_nm41 {s : Nat} (hs : s < 26) : Names ((nm41 s).map txt) := by
  refine ⟨nodup_txt (nd41 s hs), fun z hz => ?_⟩
  obtain ⟨l, hl, rfl⟩ := List.mem_map.mp hz
  rcases List.mem_append.mp hl with h | h
  · obtain ⟨k, hk, rfl⟩ := List.mem_map.mp h
    have hk := List.mem_range.mp hk
    have e := cutN_len (a := s) (b := s + 1 + k) (by omega) (by omega)
    exact txt_name (by omega) (by omega) cutN_small
  · simp only [List.mem_cons, List.not_mem_nil, or_false] at h
    rcases h with rfl | rfl
    · have e := sgnN_len (i := s + 9) (by omega)
      exact txt_name (by omega) (by omega) sgnN_small
    · have e := sgnN_len (i := s + 11) (by omega)
      exact txt_name (by omega) (by omega) sgnN_small
theorem ok_nm42 {s : Nat} (hs : s < 26) : Names ((nm42 s).map txt) := by
  refine ⟨nodup_txt (nd42 s hs), fun z hz => ?_⟩
  obtain ⟨l, hl, rfl⟩ := List.mem_map.mp hz
  obtain ⟨k, hk, rfl⟩ := List.mem_map.mp hl
  have hk := List.mem_range.mp hk
  have hm : 5 * k % 8 < 8 := Nat.mod_lt _ (by decide)
  have e := cutN_len (a := s + 2 * k) (b := s + 2 * k + 1 + 5 * k % 8) (by omega) (by omega)
  exact txt_name (by omega) (by omega) cutN_small
theorem half_of9 {ns ls : List Str} {ps : List (Str × Str)} (h : Names ns) (hl : ns.length ≤ 10) (p : ls.Perm ns) (u : Up ls ps) (hp : ps.length ≤ 60) : Half ns ps := ⟨h, hl, hp, ls, p, u⟩
theorem perm_strs9 {ns : List Str} {ys : List V} (h : ys.Perm (ns.map V.str)) : ∃ ls : List Str, ys = ls.map V.str ∧ ls.Perm ns := by
  refine ⟨ys.map fun v => match v with | .str z => z | _ => "", ?_, ?_⟩
  · rw [List.map_map]
    have : ∀ v ∈ ys, (V.str ∘ fun v => match v with | .str z => z | _ => "") v = v := fun v hv => by
      obtain ⟨z, _, rfl⟩ := List.mem_map.mp (h.mem_iff.mp hv)
      rfl
    rw [List.map_congr_left this]
    simp
  · have := h.map fun v => match v with | .str z => z | _ => ("" : Str)
    rw [List.map_map] at this
    have e : ns.map ((fun v => match v with | .str z => z | _ => ("" : Str)) ∘ V.str) = ns := by
      rw [show ((fun v => match v with | .str z => z | _ => ("" : Str)) ∘ V.str) = id from rfl, List.map_id]
    rw [e] at this
    exact this
structure Ovr (H : Hp) (r : Addr) (ns : List Str) (as : List Addr) (ov : Str → List Str) : Prop where
  len : as.length = ns.length
  top : H r = some (.dK (tabK ns as))
  row : ∀ (i : Nat) (z : Str) (a : Addr), ns[i]? = some z → as[i]? = some a → H a = some (.lst ((ov z).map V.str))
noncomputable def ovP (ov : Str → List Str) (x : Str) (fr : List Str) : Str → List Str := fun z => if z = x then ov z ++ fr else ov z
structure OvOk (ns : List Str) (ps : List (Str × Str)) (ov : Str → List Str) : Prop where
  nd : ∀ z ∈ ns, (ov z).Nodup
  way : ∀ z ∈ ns, ∀ y ∈ ov z, Way ps z y
noncomputable def frsh (ov : Str → List Str) (p : Str × Str) : List Str := (p.2 :: ov p.2).filter fun z => !decide (z ∈ ov p.1)
end L2
set_option Elab.async false
set_option linter.all false
set_option maxRecDepth 100000
set_option maxHeartbeats 4000000
namespace L2
open PySem PySem.Spec PyProof.Rows
section
variable {α : Type} [DecidableEq α]
end
section
variable {X : Cx}
end
end L2
set_option Elab.async false
set_option linter.all false
set_option maxRecDepth 100000
set_option maxHeartbeats 4000000
namespace L2
open PySem PySem.Spec PyProof.Rows
noncomputable def ItE (K : PySem.W.Frag) (a : Addr) : It :=
  ⟨fun i H => ∃ xs x, SqL K H a xs ∧ xs[i]? = some x, fun i H v H' => ∃ t x, H t = none ∧ H' = upd H t (.tup [.int i, x]) ∧ v = .ref t ∧ ∀ xs, SqL K H a xs → xs[i]? = some x, fun i H => ∃ xs, SqL K H a xs ∧ xs.length = i⟩
section
variable {X : Cx} {K : PySem.W.Frag}
noncomputable def rEnumL (K : PySem.W.Frag) (vs : List V) (H : Hp) (R : It → Hp → Prop) : Prop := ∃ a xs, vs = [.ref a] ∧ SqL K H a xs ∧ R (ItE K a) H
noncomputable def iEnumL (K : PySem.W.Frag) (ta : TA) : TI := fun σ H R => ta σ H fun vs H1 => rEnumL K vs H1 R
end
section
variable {K : PySem.W.Frag} {σ : St} {H : Hp}
end
end L2
set_option Elab.async false
set_option linter.all false
set_option maxRecDepth 100000
set_option maxHeartbeats 4000000
namespace L2
open PySem PySem.W PyProof.Rows
section
variable {n : Nat} {r : Nat → Nat}
noncomputable def PmA (n : Nat) (p : Array Nat) : Prop := p.Perm (List.range n).toArray
end
section
variable {prog : Program} {w : World} {A : Around} {E : Value → Shared → Prop} {z : Shared}
noncomputable def PrT (h : Heap) (v : Value) (p : Str × Str) : Prop := ∃ a o n t u, v = .ref a ∧ h.get? a = some o ∧ o.cls = .type "tuple" ∧ o.data = .seq #[.str p.1 t, .str p.2 u] n
end
section
variable {prog : Program} {w : World} {A : Around} {E : Value → Shared → Prop} {z : Shared}
end
section
variable {X : Cx} {K : PySem.W.Frag}
end
end L2
set_option Elab.async false
set_option linter.all false
set_option maxRecDepth 100000
set_option maxHeartbeats 4000000
namespace L2
open PySem PySem.Spec PyProof.Rows
theorem Half.cl_few {ns : List Str} {ps : List (Str × Str)} (h : Half ns ps) : (clP ns ps).length + (unP ns ps).length ≤ 45 := by
  have h1 := pairs_count (ns := ns) (ps := ps) fun x => h.irrefl
  have h2 := h.few
  have h3 : (ns.length : Int) * ((ns.length : Int) - 1) ≤ 10 * 9 := by
    have a : (ns.length : Int) ≤ 10 := by omega
    rcases Nat.eq_zero_or_pos ns.length with e | e
    · rw [e]; decide
    · exact Int.mul_le_mul a (by omega) (by omega) (by omega)
  omega
noncomputable def fxB (n : Str) (z : Str) : Str := if z = n then z ++ "x" else z
theorem eqv_strsL (xs ys : List Str) : PyData.eqvAll (xs.map PyData.str) (ys.map PyData.str) = decide (xs = ys) := by
  induction xs generalizing ys with
  | nil => cases ys <;> simp [PyData.eqvAll]
  | cons x xs ih =>
    cases ys with
    | nil => simp [PyData.eqvAll]
    | cons y ys =>
      simp only [List.map_cons, PyData.eqvAll, ih, PyData.eqv]
      by_cases c : x = y
      · subst c; simp
      · simp [c]
theorem eqv_lsts (xs ys : List Str) : PyData.eqv (.list (xs.map PyData.str)) (.list (ys.map PyData.str)) = decide (xs = ys) := by simp only [PyData.eqv, eqv_strsL]
end L2
set_option Elab.async false
set_option linter.all false
set_option maxRecDepth 100000
set_option maxHeartbeats 4000000
namespace L2
open PySem PySem.Spec PyProof.Rows
section
variable {κ : Type} [DecidableEq κ] {P : Program} {w : World} {kd : KeyKind P w κ} {A : Around} {E : Value → Shared → Prop} {z : Shared}
end
section
variable {X : Cx} {K : PySem.W.Frag}
end
end L2
set_option Elab.async false
set_option linter.all false
set_option maxRecDepth 100000
set_option maxHeartbeats 4000000
namespace L2
open PySem PySem.Spec PyProof.Rows
theorem zip_no_getattr : typeLookup (.type "zip") "__getattr__" = pure none := by rw [typeLookup_type, builtinLookup_eq_fast]; kernel_rfl
theorem zip_no_keys : typeLookup (.type "zip") "keys" = pure none := by rw [typeLookup_type, builtinLookup_eq_fast]; kernel_rfl
theorem zip_getattr_entry : entryFor table "zip.__getattribute__" = some Builtin.«object.__getattribute__» :=
  (entryFor_alias (id' := "object.__getattribute__") (by kernel_rfl) (by decide +kernel) (by decide +kernel) (by kernel_rfl))
theorem zip_getattr_miss (c : Addr) (fs : Array Value) (tk0 : Tok) :
    Meets (Builtin.«object.__getattribute__» ⟨[.ref c, .str "keys" tk0], []⟩) (fun A R s => s.heap.get? c = some { cls := .type "zip", dict := none, data := .fields fs, slots := #[] } ∧ raisesAttr (.ref c) "keys" A R s) :=
  Meets.of_wp fun prog w A R s both => by
    obtain ⟨hp, g, d, tk, os⟩ := s
    obtain ⟨hx, hs⟩ := both
    have hT : (⟨hp, g, d, tk, os⟩ : Shared).TypeIs (.ref c) "zip" := ⟨_, hx, rfl⟩
    have miss := zip_no_keys
    unfold Builtin.«object.__getattribute__»
    repeat (any_goals (first | assumption | wp_step))
    exact (wpAny_raiseAttrError hs.1 hs.2 (attrMsg_fits (by decide +kernel) (by rw [sizeLine_eq]; decide +kernel)))
section
variable {P : Program} {w : World} {A : Around} {E : Value → Shared → Prop} {z : Shared}
theorem zip_keys_miss {c : Addr} {fs : Array Value} {Q : Option Value → Shared → Prop} (hx : z.heap.get? c = some { cls := .type "zip", dict := none, data := .fields fs, slots := #[] }) (calm : A.handled = none)
    (go : ∀ g tk, (∀ b o, z.heap.get? b = some o → g.get? b = some o) → Q none { z with heap := g, toks := tk }) : wpAny (model P w) A (getAttr? (.ref c) "keys") Q E z := by
  obtain ⟨hp, g, d, tk, os⟩ := z
  have hT : ∀ tk', (⟨hp, g, d, tk', os⟩ : Shared).TypeIs (.ref c) "zip" := fun _ => ⟨_, hx, rfl⟩
  have f1 := sub_AttributeError
  have g3 := (F.slot_zip_getattribute).lookup
  have g4 := (F.slot_zip_getattribute).bind (.ref c)
  have g5 := zip_no_getattr
  unfold getAttr? getAttrBy? getAttrBy
  repeat (any_goals (first | assumption | exact hT _ | ((with_reducible show wpAny _ _ (call (Value.builtin "zip.__getattribute__") _ _) _ _ _); refine (call_meets F.slot_zip_getattribute (hT _) zip_getattr_entry (F.args_zip_getattribute_2 _ _) (zip_getattr_miss c fs _) ⟨hx, calm, fun h' tk' e hx' => ?_⟩)) | wp_step))
  obtain ⟨t', u', he⟩ := hx'.there
  show wpAny _ _ (getattributeRaised _ _ _ _ _ _ _) _ _ _
  unfold getattributeRaised
  repeat (any_goals (first | assumption | wp_step))
  exact go _ _ hx'.keeps
end
end L2
set_option Elab.async false
set_option linter.all false
set_option maxRecDepth 100000
set_option maxHeartbeats 4000000
namespace L2
open PySem PySem.Spec PyProof.Rows
noncomputable def ZipAt (h : Heap) (c TI TO : Addr) (f0 : Value) (f1 : Bool) : Prop := h.get? c = some { cls := .type "zip", dict := none, data := .fields #[f0, .bool f1, .bool false, .ref TI, .ref TO], slots := #[] }
section
variable {P : Program} {w : World} {A : Around} {E : Value → Shared → Prop} {z : Shared}
theorem not_free {c TI TO T : Addr} {f1 : Bool} {o : Obj} {Q : Bool → Shared → Prop} (hc : ZipAt z.heap c TI TO (rawInt T) f1) (hT : z.heap.get? T = some o)
    (go : ∀ g0, ZipAt g0 c TI TO (rawInt T) true → (∀ b ob, b ≠ c → z.heap.get? b = some ob → g0.get? b = some ob) → g0.objs.size = z.heap.objs.size → Q false { z with heap := g0 }) : wpAny (model P w) A (Builtin.SmallTypes.ownedTupleIsFree (.ref c)) Q E z := by
  unfold Builtin.SmallTypes.ownedTupleIsFree
  refine (wpAny_bind (wpAny_field hc rfl (x := rawInt T) rfl ?_))
  show wpAny _ _ (loadIfAlive T >>= _) _ _ _
  refine (wpAny_bind (PySem.W.kdx_alive hT ?_))
  rw [if_neg (show ¬ ((some o).isNone = true) from fun q => by cases q)]
  refine (wpAny_bind (wpAny_field hc rfl (x := .bool f1) rfl ?_))
  cases f1 with
  | true =>
    rw [if_neg (by decide)]
    exact wpAny_pure (go _ hc (fun _ _ _ q => q) rfl)
  | false =>
    rw [if_pos (by decide)]
    exact wpAny_bind (wpAny_setField_rec hc (by simp) fun g0 hc0 sb0 => wpAny_pure (go g0 hc0 (fun b ob hb q => sb0.extBut b ob hb q) sb0.1))
theorem zip_more {c TI TO i1 i2 T : Addr} {fp1 fp2 : List Addr} {n i : Nat} {P1 P2 : Nat → Value → Prop} {S1 S2 : Nat → Heap → Prop} {f1 : Bool} {o : Obj} {Q : Value → Shared → Prop}
    (D1 : Draws P w A i1 fp1 n P1 S1) (D2 : Draws P w A i2 fp2 n P2 S2) (hi : i < n) (hc : ZipAt z.heap c TI TO (rawInt T) f1) (hTI : IsPair z.heap TI (.ref i1) (.ref i2)) (hT : z.heap.get? T = some o)
    (h1 : S1 i z.heap) (h2 : S2 i z.heap) (c1 : c ∉ fp1) (c2 : c ∉ fp2) (x1 : i1 ∉ fp2) (x2 : i2 ∉ fp1) (y1 : i1 ≠ c) (y2 : i2 ≠ c)
    (go : ∀ g tk (u : Addr) x y, P1 i x → P2 i y → ZipAt g c TI TO (rawInt T) true → IsTup g u #[x, y] → S1 (i + 1) g → S2 (i + 1) g → z.heap.objs.size ≤ u → (∀ b ob, b ≠ c → b ≠ i1 → b ≠ i2 → z.heap.get? b = some ob → g.get? b = some ob) → Q (.ref u) { z with heap := g, toks := tk }) :
    wpAny (model P w) A (Builtin.«zip.__next__» ⟨[.ref c], []⟩) (fun fin s' => ∃ v, fin = .done (.ret v) ∧ Q v s') E z := by
  show wpAny _ _ (field (.ref c) 2 >>= _) _ _ _
  refine (wpAny_bind (wpAny_field hc rfl (x := .bool false) rfl ?_))
  show wpAny _ _ (field (.ref c) 3 >>= _) _ _ _
  refine (wpAny_bind (wpAny_field hc rfl (x := .ref TI) rfl ?_))
  refine (wpAny_bind (wpAny_seqItems hTI rfl ?_))
  show wpAny _ _ (Builtin.SmallTypes.ownedTupleIsFree (.ref c) >>= _) _ _ _
  refine (wpAny_bind (not_free hc hT fun g0 hc0 k0 z0 => ?_))
  simp only [Bool.false_eq_true, if_false]
  rw [← Array.forIn_toList]
  simp only [List.forIn_cons, List.forIn_nil]
  refine (wpAny_bind (wpAny_bind (wpAny_bind (wpAny_holding ?_))))
  show wpAny _ _ (Builtin.SmallTypes.nextOf (.ref i1) >>= _) _ _ _
  have h1' : S1 i g0 := D1.frame i _ _ h1 fun b hb ob q => k0 b ob (fun e => c1 (e ▸ hb)) q
  have h2' : S2 i g0 := D2.frame i _ _ h2 fun b hb ob q => k0 b ob (fun e => c2 (e ▸ hb)) q
  refine (wpAny_bind (D1.item i _ _ _ hi h1' fun x g1 tk1 hx hS1 sb1 => wpAny_pure ?_))
  refine (wpAny_pure ?_)
  refine (wpAny_bind (wpAny_bind (wpAny_holding ?_)))
  show wpAny _ _ (Builtin.SmallTypes.nextOf (.ref i2) >>= _) _ _ _
  have h2'' : S2 i g1 := D2.frame i _ _ h2' fun b hb ob q => sb1.extBut b ob (fun e => x1 (e ▸ hb)) q
  refine (wpAny_bind (D2.item i _ _ _ hi h2'' fun y g2 tk2 hy hS2 sb2 => wpAny_pure (wpAny_pure (wpAny_pure ?_))))
  refine (wpAny_bind (wpAny_newTuple (wpAny_pure ⟨_, rfl, ?_⟩) (hsz := by show (2 : Nat) ≤ _; rw [sizeLine_eq]; decide)))
  have hS1' : S1 (i + 1) g2 := D1.frame _ _ _ hS1 fun b hb ob q => sb2.extBut b ob (fun e => x2 (e ▸ hb)) q
  have kp : ∀ b ob, b ≠ c → b ≠ i1 → b ≠ i2 → z.heap.get? b = some ob → g2.get? b = some ob := fun b ob b1 b2 b3 q => sb2.extBut b ob b3 (sb1.extBut b ob b2 (k0 b ob b1 q))
  have hsz : g2.objs.size = z.heap.objs.size := (sb2.1.trans sb1.1).trans z0
  refine go (g2.push { cls := .type "tuple", data := .seq #[x, y] }) tk2 g2.objs.size x y hx hy ?_ ⟨_, Heap.get?_push_size _ rfl, rfl, _, rfl⟩ ?_ ?_ (by rw [hsz]; exact Nat.le_refl _) fun b ob b1 b2 b3 q => Heap.get?_push_of_some _ (kp b ob b1 b2 b3 q)
  · exact Heap.get?_push_of_some _ (sb2.extBut _ _ (Ne.symm y2) (sb1.extBut _ _ (Ne.symm y1) hc0))
  · exact D1.frame _ _ _ hS1' fun b _ ob q => Heap.get?_push_of_some _ q
  · exact D2.frame _ _ _ hS2 fun b _ ob q => Heap.get?_push_of_some _ q
theorem zip_over {c TI TO i1 i2 T : Addr} {fp1 : List Addr} {n : Nat} {P1 : Nat → Value → Prop} {S1 : Nat → Heap → Prop} {f1 : Bool} {o : Obj} {Q : PySem.Fin → Shared → Prop}
    (D1 : Draws P w A i1 fp1 n P1 S1) (hc : ZipAt z.heap c TI TO (rawInt T) f1) (hTI : IsPair z.heap TI (.ref i1) (.ref i2)) (hT : z.heap.get? T = some o) (h1 : S1 n z.heap) (c1 : c ∉ fp1)
    (stop : ∀ g e, (∀ b ob, b ≠ c → b ≠ i1 → z.heap.get? b = some ob → g.get? b = some ob) → (∃ ob, g.get? e = some ob ∧ ob.cls = .type "StopIteration") → E (.ref e) { z with heap := g }) :
    wpAny (model P w) A (Builtin.«zip.__next__» ⟨[.ref c], []⟩) Q E z := by
  show wpAny _ _ (field (.ref c) 2 >>= _) _ _ _
  refine (wpAny_bind (wpAny_field hc rfl (x := .bool false) rfl ?_))
  show wpAny _ _ (field (.ref c) 3 >>= _) _ _ _
  refine (wpAny_bind (wpAny_field hc rfl (x := .ref TI) rfl ?_))
  refine (wpAny_bind (wpAny_seqItems hTI rfl ?_))
  show wpAny _ _ (Builtin.SmallTypes.ownedTupleIsFree (.ref c) >>= _) _ _ _
  refine (wpAny_bind (not_free hc hT fun g0 hc0 k0 z0 => ?_))
  simp only [Bool.false_eq_true, if_false]
  rw [← Array.forIn_toList]
  simp only [List.forIn_cons, List.forIn_nil]
  refine (wpAny_bind (wpAny_bind (wpAny_bind (wpAny_holding ?_))))
  show wpAny _ _ (Builtin.SmallTypes.nextOf (.ref i1) >>= _) _ _ _
  have h1' : S1 n g0 := D1.frame n _ _ h1 fun b hb ob q => k0 b ob (fun e => c1 (e ▸ hb)) q
  exact wpAny_bind (D1.done _ _ _ h1' fun g e sb he => stop g e (fun b ob b1 b2 q => sb b ob b2 (k0 b ob b1 q)) he)
theorem zip_first {c TI TO i1 i2 : Addr} {fp1 fp2 : List Addr} {n i : Nat} {P1 P2 : Nat → Value → Prop} {S1 S2 : Nat → Heap → Prop} {u0 v0 : Value} {Q : Value → Shared → Prop}
    (D1 : Draws P w A i1 fp1 n P1 S1) (D2 : Draws P w A i2 fp2 n P2 S2) (hi : i < n) (hc : ZipAt z.heap c TI TO .none false) (hTI : IsPair z.heap TI (.ref i1) (.ref i2)) (hTO : IsPair z.heap TO u0 v0)
    (h1 : S1 i z.heap) (h2 : S2 i z.heap) (c1 : c ∉ fp1) (c2 : c ∉ fp2) (o1 : TO ∉ fp1) (o2 : TO ∉ fp2) (x1 : i1 ∉ fp2) (x2 : i2 ∉ fp1) (y1 : i1 ≠ c) (y2 : i2 ≠ c) (oc : TO ≠ c) (oi1 : TO ≠ i1) (oi2 : TO ≠ i2)
    (go : ∀ g tk (u : Addr) x y, P1 i x → P2 i y → ZipAt g c TI TO (rawInt u) false → IsPair g TO x y → IsTup g u #[x, y] → S1 (i + 1) g → S2 (i + 1) g → z.heap.objs.size ≤ u → (∀ b ob, b ≠ c → b ≠ i1 → b ≠ i2 → b ≠ TO → z.heap.get? b = some ob → g.get? b = some ob) → Q (.ref u) { z with heap := g, toks := tk }) :
    wpAny (model P w) A (Builtin.«zip.__next__» ⟨[.ref c], []⟩) (fun fin s' => ∃ v, fin = .done (.ret v) ∧ Q v s') E z := by
  show wpAny _ _ (field (.ref c) 2 >>= _) _ _ _
  refine (wpAny_bind (wpAny_field hc rfl (x := .bool false) rfl ?_))
  show wpAny _ _ (field (.ref c) 3 >>= _) _ _ _
  refine (wpAny_bind (wpAny_field hc rfl (x := .ref TI) rfl ?_))
  refine (wpAny_bind (wpAny_seqItems hTI rfl ?_))
  show wpAny _ _ (Builtin.SmallTypes.ownedTupleIsFree (.ref c) >>= _) _ _ _
  refine (wpAny_bind ?_)
  unfold Builtin.SmallTypes.ownedTupleIsFree
  refine (wpAny_bind (wpAny_field hc rfl (x := .none) rfl (wpAny_pure ?_)))
  simp only [if_true]
  refine (wpAny_bind (wpAny_rule ?_))
  refine (wpAny_bind (wpAny_field hc rfl (x := .ref TO) rfl ?_))
  refine (wpAny_bind (wpAny_setField_rec hc (by simp) fun g0 hc0 sb0 => ?_))
  refine (wpAny_bind ?_)
  simp only [List.zipIdx_cons, List.zipIdx_nil, List.forIn_cons, List.forIn_nil]
  have h1' : S1 i g0 := D1.frame i _ _ h1 fun b hb ob q => sb0.extBut b ob (fun e => c1 (e ▸ hb)) q
  have h2' : S2 i g0 := D2.frame i _ _ h2 fun b hb ob q => sb0.extBut b ob (fun e => c2 (e ▸ hb)) q
  have hTO0 : IsPair g0 TO u0 v0 := sb0.extBut _ _ oc hTO
  refine (wpAny_bind (wpAny_bind (wpAny_onRaise ?_)))
  show wpAny _ _ (Builtin.SmallTypes.nextOf (.ref i1) >>= _) _ _ _
  refine (wpAny_bind (D1.item i _ _ _ hi h1' fun x g1 tk1 hx hS1 sb1 => wpAny_pure ?_))
  have hTO1 : IsPair g1 TO u0 v0 := sb1.extBut _ _ oi1 hTO0
  refine (wpAny_bind (wpAny_seqItems hTO1 rfl ?_))
  refine (wpAny_bind (wpAny_updateSeq_pair hTO1 fun g2 hTO2 sb2 => ?_))
  refine (wpAny_bind (wpAny_letGo (wpAny_pure ?_)))
  have h2'' : S2 i g2 := D2.frame i _ _ h2' fun b hb ob q => sb2.extBut b ob (fun e => o2 (e ▸ hb)) (sb1.extBut b ob (fun e => x1 (e ▸ hb)) q)
  have hS1' : S1 (i + 1) g2 := D1.frame _ _ _ hS1 fun b hb ob q => sb2.extBut b ob (fun e => o1 (e ▸ hb)) q
  refine (wpAny_bind (wpAny_bind (wpAny_onRaise ?_)))
  show wpAny _ _ (Builtin.SmallTypes.nextOf (.ref i2) >>= _) _ _ _
  refine (wpAny_bind (D2.item i _ _ _ hi h2'' fun y g3 tk3 hy hS2 sb3 => wpAny_pure ?_))
  have hTO3 : IsPair g3 TO x v0 := sb3.extBut _ _ oi2 hTO2
  refine (wpAny_bind (wpAny_seqItems hTO3 rfl ?_))
  refine (wpAny_bind (wpAny_updateSeq_pair hTO3 fun g4 hTO4 sb4 => ?_))
  refine (wpAny_bind (wpAny_letGo (wpAny_pure (wpAny_pure ?_))))
  have hTO4' : IsPair g4 TO x y := hTO4
  refine (wpAny_bind (wpAny_seqItems hTO4' rfl ?_))
  refine (wpAny_bind (wpAny_newTuple ?_))
  have hsz : g4.objs.size = z.heap.objs.size := by rw [sb4.1, sb3.1, sb2.1, sb1.1, sb0.1]
  have hc4 : ZipAt g4 c TI TO .ellipsis false := sb4.extBut _ _ (Ne.symm oc) (sb3.extBut _ _ (Ne.symm y2) (sb2.extBut _ _ (Ne.symm oc) (sb1.extBut _ _ (Ne.symm y1) hc0)))
  have hlt : c < g4.objs.size := Heap.lt_size hc4
  show wpAny _ _ (Builtin.SmallTypes.ownedTupleHandOut (.ref c) (.ref g4.objs.size) >>= _) _ _ _
  refine (wpAny_bind ?_)
  unfold Builtin.SmallTypes.ownedTupleHandOut
  have hc5 : ZipAt (g4.push { cls := .type "tuple", data := .seq #[x, y] }) c TI TO .ellipsis false := Heap.get?_push_of_some _ hc4
  refine (wpAny_bind (wpAny_setField_rec hc5 (by simp) fun g6 hc6 sb6 => ?_))
  refine (wpAny_setField_rec hc6 (by simp) fun g7 hc7 sb7 => ?_)
  have up : ∀ b ob, b ≠ c → g4.get? b = some ob → g7.get? b = some ob := fun b ob b1 q => sb7.extBut b ob b1 (sb6.extBut b ob b1 (Heap.get?_push_of_some _ q))
  refine (wpAny_pure ⟨_, rfl, ?_⟩)
  have hS2' : S2 (i + 1) g4 := D2.frame _ _ _ hS2 fun b hb ob q => sb4.extBut b ob (fun e => o2 (e ▸ hb)) q
  have hS1'' : S1 (i + 1) g4 := D1.frame _ _ _ hS1' fun b hb ob q => sb4.extBut b ob (fun e => o1 (e ▸ hb)) (sb3.extBut b ob (fun e => x2 (e ▸ hb)) q)
  refine go g7 tk3 g4.objs.size x y hx hy hc7 (up _ _ oc hTO4') ⟨_, sb7.extBut _ _ (Nat.ne_of_gt hlt) (sb6.extBut _ _ (Nat.ne_of_gt hlt) (Heap.get?_push_size _ rfl)), rfl, _, rfl⟩ ?_ ?_ (by rw [hsz]; exact Nat.le_refl _) ?_
  · exact D1.frame _ _ _ hS1'' fun b hb ob q => up b ob (fun e => c1 (e ▸ hb)) q
  · exact D2.frame _ _ _ hS2' fun b hb ob q => up b ob (fun e => c2 (e ▸ hb)) q
  · exact fun b ob b1 b2 b3 b4 q => up b ob b1 (sb4.extBut b ob b4 (sb3.extBut b ob b3 (sb2.extBut b ob b4 (sb1.extBut b ob b2 (sb0.extBut b ob b1 q)))))
theorem zip_none {c TI TO i1 i2 : Addr} {fp1 : List Addr} {n : Nat} {P1 : Nat → Value → Prop} {S1 : Nat → Heap → Prop} {Q : PySem.Fin → Shared → Prop}
    (D1 : Draws P w A i1 fp1 n P1 S1) (hc : ZipAt z.heap c TI TO .none false) (hTI : IsPair z.heap TI (.ref i1) (.ref i2)) (h1 : S1 n z.heap) (c1 : c ∉ fp1) (y1 : i1 ≠ c)
    (stop : ∀ g e, (∀ b ob, b ≠ c → b ≠ i1 → z.heap.get? b = some ob → g.get? b = some ob) → (∃ ob, g.get? e = some ob ∧ ob.cls = .type "StopIteration") → E (.ref e) { z with heap := g }) :
    wpAny (model P w) A (Builtin.«zip.__next__» ⟨[.ref c], []⟩) Q E z := by
  show wpAny _ _ (field (.ref c) 2 >>= _) _ _ _
  refine (wpAny_bind (wpAny_field hc rfl (x := .bool false) rfl ?_))
  show wpAny _ _ (field (.ref c) 3 >>= _) _ _ _
  refine (wpAny_bind (wpAny_field hc rfl (x := .ref TI) rfl ?_))
  refine (wpAny_bind (wpAny_seqItems hTI rfl ?_))
  show wpAny _ _ (Builtin.SmallTypes.ownedTupleIsFree (.ref c) >>= _) _ _ _
  refine (wpAny_bind ?_)
  unfold Builtin.SmallTypes.ownedTupleIsFree
  refine (wpAny_bind (wpAny_field hc rfl (x := .none) rfl (wpAny_pure ?_)))
  simp only [if_true]
  refine (wpAny_bind (wpAny_rule ?_))
  refine (wpAny_bind (wpAny_field hc rfl (x := .ref TO) rfl ?_))
  refine (wpAny_bind (wpAny_setField_rec hc (by simp) fun g0 hc0 sb0 => ?_))
  refine (wpAny_bind ?_)
  simp only [List.zipIdx_cons, List.zipIdx_nil, List.forIn_cons, List.forIn_nil]
  have h1' : S1 n g0 := D1.frame n _ _ h1 fun b hb ob q => sb0.extBut b ob (fun e => c1 (e ▸ hb)) q
  refine (wpAny_bind (wpAny_bind (wpAny_onRaise ?_)))
  show wpAny _ _ (Builtin.SmallTypes.nextOf (.ref i1) >>= _) _ _ _
  refine (wpAny_bind (D1.done _ _ _ h1' fun g1 e sb1 he => ?_))
  obtain ⟨oe, hoe, hce⟩ := he
  have hc1 : ZipAt g1 c TI TO .ellipsis false := sb1 _ _ (Ne.symm y1) hc0
  have hez : e ≠ c := fun q => by subst q; rw [show g1.get? _ = _ from hc1] at hoe; cases hoe; simp at hce
  refine (wpAny_setField_rec hc1 (by simp) fun g2 _ sb2 => stop g2 e (fun b ob b1 b2 q => sb2.extBut b ob b1 (sb1 b ob b2 (sb0.extBut b ob b1 q))) ⟨oe, sb2.extBut _ _ hez hoe, hce⟩)
end
end L2
set_option Elab.async false
set_option linter.all false
set_option maxRecDepth 100000
set_option maxHeartbeats 4000000
namespace L2
open PySem PySem.Spec PyProof.Rows
structure ZipOff (c TO i1 i2 D : Addr) (fp1 fp2 : List Addr) : Prop where
  c1 : c ∉ fp1
  c2 : c ∉ fp2
  o1 : TO ∉ fp1
  o2 : TO ∉ fp2
  x1 : i1 ∉ fp2
  x2 : i2 ∉ fp1
  y1 : i1 ≠ c
  y2 : i2 ≠ c
  oc : TO ≠ c
  oi1 : TO ≠ i1
  oi2 : TO ≠ i2
  d1 : D ∉ fp1
  d2 : D ∉ fp2
  dc : D ≠ c
  di1 : D ≠ i1
  di2 : D ≠ i2
  dTO : D ≠ TO
noncomputable def ZipSt (c TI TO i1 i2 D : Addr) (S1 S2 : Nat → Heap → Prop) (i : Nat) (h : Heap) : Prop :=
  IsPair h TI (.ref i1) (.ref i2) ∧ (∃ u v, IsPair h TO u v) ∧ S1 i h ∧ S2 i h ∧ TI ≠ c ∧ TI ≠ TO ∧ TI ≠ i1 ∧ TI ≠ i2 ∧ TI ≠ D ∧
    (ZipAt h c TI TO .none false ∨ ∃ T f o, ZipAt h c TI TO (rawInt (T : Addr)) f ∧ h.get? T = some o ∧ T ≠ c ∧ T ≠ i1 ∧ T ≠ i2 ∧ T ≠ D ∧ T ≠ TO)
section
variable {P : Program} {w : World} {A : Around} {E : Value → Shared → Prop} {z : Shared} {c TI TO i1 i2 D : Addr} {fp1 fp2 : List Addr} {n : Nat} {P1 P2 : Nat → Value → Prop} {S1 S2 : Nat → Heap → Prop}
theorem zip_type (h : ZipSt c TI TO i1 i2 D S1 S2 n z.heap) : z.TypeIs (.ref c) "zip" := by
  obtain ⟨_, _, _, _, _, _, _, _, _, h | ⟨T, f, o, h, _⟩⟩ := h
  · exact ⟨_, h, rfl⟩
  · exact ⟨_, h, rfl⟩
theorem zip_item {i : Nat} {Q : Option Value → Shared → Prop} (O : ZipOff c TO i1 i2 D fp1 fp2) (D1 : Draws P w A.in1 i1 fp1 n P1 S1) (D2 : Draws P w A.in1 i2 fp2 n P2 S2) (hi : i < n) (hD : ∃ o, z.heap.get? D = some o) (hs : ZipSt c TI TO i1 i2 D S1 S2 i z.heap)
    (go : ∀ g tk (u : Addr) x y, P1 i x → P2 i y → ZipSt c TI TO i1 i2 D S1 S2 (i + 1) g → IsTup g u #[x, y] → z.heap.objs.size ≤ u → (∀ b ob, b ≠ c → b ≠ i1 → b ≠ i2 → b ≠ TO → z.heap.get? b = some ob → g.get? b = some ob) → Q (some (.ref u)) { z with heap := g, toks := tk }) :
    wpAny (model P w) A (pyNext (.ref c)) Q E z := by
  have hT := zip_type hs
  obtain ⟨hTI, ⟨u0, v0, hTO⟩, h1, h2, t1, t2, t3, t4, t5, hz⟩ := hs
  have lt1 : ∀ {b ob} {u : Addr}, z.heap.get? b = some ob → z.heap.objs.size ≤ u → u ≠ b := fun q hu e => by subst e; exact absurd (Heap.lt_size q) (Nat.not_lt.mpr hu)
  obtain ⟨oi1, hoi1⟩ := D1.live _ _ h1
  obtain ⟨oi2, hoi2⟩ := D2.live _ _ h2
  obtain ⟨od, hod⟩ := hD
  unfold pyNext
  rcases hz with hc | ⟨T, f, o, hc, hTT, a1, a2, a3, a4, a5⟩
  · refine (wpAny_bind (wpAny_attempt (wpAny_callSpecial?_slot (name := Str.ofString "__next__") hT F.slot_zip_next (wpAny_call_entry F.slot_zip_next hT F.entry_zip_next
      (zip_first D1 D2 hi hc hTI hTO h1 h2 O.c1 O.c2 O.o1 O.o2 O.x1 O.x2 O.y1 O.y2 O.oc O.oi1 O.oi2 fun g tk u x y px py gz gTO gu g1 g2 hu kp => ?_) (F.args_zip_next_1 _)))))
    obtain ⟨ou, hou, ru⟩ := id gu
    exact (wpAny_pure (go g tk u x y px py ⟨kp _ _ t1 t3 t4 t2 hTI, ⟨_, _, gTO⟩, g1, g2, t1, t2, t3, t4, t5, .inr ⟨u, _, ou, gz, hou, lt1 hc hu, lt1 hoi1 hu, lt1 hoi2 hu, lt1 hod hu, lt1 hTO hu⟩⟩ gu hu kp))
  · refine (wpAny_bind (wpAny_attempt (wpAny_callSpecial?_slot (name := Str.ofString "__next__") hT F.slot_zip_next (wpAny_call_entry F.slot_zip_next hT F.entry_zip_next
      (zip_more D1 D2 hi hc hTI hTT h1 h2 O.c1 O.c2 O.x1 O.x2 O.y1 O.y2 fun g tk u x y px py gz gu g1 g2 hu kp => ?_) (F.args_zip_next_1 _)))))
    exact (wpAny_pure (go g tk u x y px py ⟨kp _ _ t1 t3 t4 hTI, ⟨_, _, kp _ _ O.oc O.oi1 O.oi2 hTO⟩, g1, g2, t1, t2, t3, t4, t5, .inr ⟨T, _, o, gz, kp _ _ a1 a2 a3 hTT, a1, a2, a3, a4, a5⟩⟩ gu hu fun b ob b1 b2 b3 _ q => kp b ob b1 b2 b3 q))
theorem zip_end {Q : Option Value → Shared → Prop} (O : ZipOff c TO i1 i2 D fp1 fp2) (D1 : Draws P w A.in1 i1 fp1 n P1 S1) (hs : ZipSt c TI TO i1 i2 D S1 S2 n z.heap)
    (go : ∀ g, (∀ b ob, b ≠ c → b ≠ i1 → z.heap.get? b = some ob → g.get? b = some ob) → Q none { z with heap := g }) :
    wpAny (model P w) A (pyNext (.ref c)) Q E z := by
  have hT := zip_type hs
  obtain ⟨hTI, ⟨u0, v0, hTO⟩, h1, h2, t1, t2, t3, t4, t5, hz⟩ := hs
  unfold pyNext
  rcases hz with hc | ⟨T, f, o, hc, hTT, a1, a2, a3, a4, a5⟩
  · refine (wpAny_bind (wpAny_attempt (wpAny_callSpecial?_slot (name := Str.ofString "__next__") hT F.slot_zip_next (wpAny_call_entry F.slot_zip_next hT F.entry_zip_next
      (zip_none D1 hc hTI h1 O.c1 O.y1 fun g e kp he => ?_) (F.args_zip_next_1 _)))))
    obtain ⟨ob, hob, hcl⟩ := he
    exact (wpAny_bind (wpAny_isInstance (T := "StopIteration") (b := true) ⟨ob, hob, hcl⟩ isSubtype_stop (wpAny_pure (go g kp))))
  · refine (wpAny_bind (wpAny_attempt (wpAny_callSpecial?_slot (name := Str.ofString "__next__") hT F.slot_zip_next (wpAny_call_entry F.slot_zip_next hT F.entry_zip_next
      (zip_over D1 hc hTI hTT h1 O.c1 fun g e kp he => ?_) (F.args_zip_next_1 _)))))
    obtain ⟨ob, hob, hcl⟩ := he
    exact (wpAny_bind (wpAny_isInstance (T := "StopIteration") (b := true) ⟨ob, hob, hcl⟩ isSubtype_stop (wpAny_pure (go g kp))))
end
section
variable {P : Program} {w : World} {κ : Type} [DecidableEq κ] {kd : KeyKind P w κ} {A : Around} {E : Value → Shared → Prop} {c TI TO i1 i2 D : Addr} {fp1 fp2 : List Addr} {n : Nat} {P1 P2 : Nat → Value → Prop} {S1 S2 : Nat → Heap → Prop}
theorem zip_loop (O : ZipOff c TO i1 i2 D fp1 fp2) (D1 : Draws P w A.in1.in1 i1 fp1 n P1 S1) (D2 : Draws P w A.in1.in1 i2 fp2 n P2 S2) (al : List (κ × Value)) (hl : al.length = n) (hz : n ≤ 1000000)
    (ha : ∀ (i : Nat) (kv : κ × Value), al[i]? = some kv → ∀ x y, P1 i x → P2 i y → kd.is kv.1 x = true ∧ y = kv.2) :
    ∀ (j i : Nat) (s : Shared) (R : Result → Shared → Prop), n - i = j → i ≤ n → ZipSt c TI TO i1 i2 D S1 S2 i s.heap → s.heap.DictOf kd D (merged [] (al.take i)) →
      (∀ g tk, g.DictOf kd D (merged [] al) → (∀ b o, b ≠ D → b ≠ c → b ≠ i1 → b ≠ i2 → b ≠ TO → s.heap.get? b = some o → g.get? b = some o) → R (.ok (.ret .none)) { s with heap := g, toks := tk }) →
      codeAny (model P w) A (.builtin "dict.update.loop" ⟨[.ref D, .ref c, .int i 0, .none], []⟩) R s := by
  intro j
  induction j with
  | zero =>
    intro i s R hj hi hS hD go
    have hin : i = n := by omega
    subst hin
    refine (codeAny_builtin entry_dloop ?_)
    rw [Around.under_plainId plain_dloop _]
    show wpAny _ A.in1 (pyNext (.ref c) >>= _) _ _ s
    refine (wpAny_bind (zip_end O D1 hS fun g kp => ?_))
    show wpAny _ A.in1 (Builtin.Dict.addKeywords D [] >>= _) _ _ _
    refine (wpAny_bind (wpAny_pure (wpAny_pure (go g s.toks ?_ fun b o h1 h2 h3 h4 h5 q => kp b o h2 h3 q))))
    rw [← hl, List.take_length] at hD
    obtain ⟨o, es, ep, ho, r⟩ := hD
    exact ⟨o, es, ep, kp D o O.dc O.di1 ho, r⟩
  | succ j ih =>
    intro i s R hj hi hS hD go
    have hlt : i < n := by omega
    obtain ⟨kv, hkv⟩ : ∃ kv, al[i]? = some kv := ⟨al[i]'(by omega), List.getElem?_eq_getElem _⟩
    refine (codeAny_builtin entry_dloop ?_)
    rw [Around.under_plainId plain_dloop _]
    show wpAny _ A.in1 (pyNext (.ref c) >>= _) _ _ s
    obtain ⟨o, es, ep, ho, r⟩ := id hD
    refine (wpAny_bind (zip_item O D1 D2 hlt ⟨o, ho⟩ hS fun g tk u x y px py gS gu hu kp => ?_))
    obtain ⟨hk, rfl⟩ := ha i kv hkv x y px py
    have hD' : g.DictOf kd D (merged [] (al.take i)) := ⟨o, es, ep, kp D o O.dc O.di1 O.di2 O.dTO ho, r⟩
    show wpAny _ A.in1 (holding [Value.ref u] _ >>= _) _ _ _
    refine (wpAny_bind (wpAny_holding ?_))
    refine (wpAny_bind (wpAny_tryCatch (pair_items gu ?_)))
    show wpAny _ A.in1 (holding [x, kv.2] (dictSet D x kv.2)) _ _ _
    refine (wpAny_holding (wpAny_dictSet_pairs hk hD' (fun g' hD'' sb => ?_) ?_))
    · refine (wpAny_pure ⟨plainId_quiet plain_dloop _, ?_⟩)
      have hkeep : ∀ b ob, b ≠ D → b ≠ c → b ≠ i1 → b ≠ i2 → b ≠ TO → s.heap.get? b = some ob → g'.get? b = some ob := fun b ob h1 h2 h3 h4 h5 q => (sb.2 b h1).trans (kp b ob h2 h3 h4 h5 q)
      refine ih (i + 1) _ R (by omega) hlt ?_ ?_ fun g3 tk3 hD3 hk3 => go g3 tk3 hD3 fun b ob h1 h2 h3 h4 h5 q => hk3 b ob h1 h2 h3 h4 h5 (hkeep b ob h1 h2 h3 h4 h5 q)
      · obtain ⟨q1, ⟨p, q, q2⟩, q3, q4, t1, t2, t3, t4, t5, q5⟩ := gS
        have tr : ∀ b ob, b ≠ D → g.get? b = some ob → g'.get? b = some ob := fun b ob h1 q => (sb.2 b h1).trans q
        refine ⟨tr _ _ t5 q1, ⟨p, q, tr _ _ (Ne.symm O.dTO) q2⟩, D1.frame _ _ _ q3 fun b hb ob q => tr b ob (fun e => O.d1 (e ▸ hb)) q, D2.frame _ _ _ q4 fun b hb ob q => tr b ob (fun e => O.d2 (e ▸ hb)) q, t1, t2, t3, t4, t5, ?_⟩
        rcases q5 with q5 | ⟨T, f, ob, q5, q6, a1, a2, a3, a4, a5⟩
        · exact .inl (tr _ _ (Ne.symm O.dc) q5)
        · exact .inr ⟨T, f, ob, tr _ _ (Ne.symm O.dc) q5, tr _ _ a4 q6, a1, a2, a3, a4, a5⟩
      · have e : merged [] (al.take (i + 1)) = stored (merged [] (al.take i)) kv.1 kv.2 := by
          rw [List.take_add_one, hkv]
          unfold merged
          rw [List.foldl_append]
          rfl
        rw [e]
        exact hD''
    · refine Nat.le_trans (merged_length_le _ _) (line_of ?_)
      rw [List.length_take]
      simp
      omega
theorem dict_of_zip {z : Shared} {Q : Value → Shared → Prop} (calm : A.handled = none) (O : ZipOff c TO i1 i2 z.heap.objs.size fp1 fp2) (D1 : Draws P w A.in1.in1.in1 i1 fp1 n P1 S1) (D2 : Draws P w A.in1.in1.in1 i2 fp2 n P2 S2)
    (al : List (κ × Value)) (hl : al.length = n) (hz : n ≤ 1000000) (ha : ∀ (i : Nat) (kv : κ × Value), al[i]? = some kv → ∀ x y, P1 i x → P2 i y → kd.is kv.1 x = true ∧ y = kv.2)
    (hc : ZipAt z.heap c TI TO .none false) (hTI : IsPair z.heap TI (.ref i1) (.ref i2)) (hTO : IsPair z.heap TO .none .none) (h1 : S1 0 z.heap) (h2 : S2 0 z.heap) (t1 : TI ≠ c) (t2 : TI ≠ TO) (t3 : TI ≠ i1) (t4 : TI ≠ i2)
    (go : ∀ g tk, g.DictOf kd z.heap.objs.size (merged [] al) → (∀ b o, b ≠ c → b ≠ i1 → b ≠ i2 → b ≠ TO → z.heap.get? b = some o → g.get? b = some o) → Q (.ref z.heap.objs.size) { z with heap := g, toks := tk }) :
    wpAny (model P w) A (call (.type "dict") [.ref c]) Q E z := by
  refine callType_codes (Q₁ := fun new s₁ => new = .ref z.heap.objs.size ∧ s₁ = { z with heap := z.heap.push { cls := .type "dict", data := .dict #[] } }) F.kt_called_dict (F.kt_typeCall_dict_1 _) F.entry_dict_init (kt_code_dict_new _ ⟨rfl, rfl⟩) ?_
  rintro new s₁ ⟨rfl, rfl⟩
  have hnew : (z.heap.push { cls := .type "dict", data := .dict #[] }).DictOf kd z.heap.objs.size [] := Heap.DictOf.new z.heap
  have hc' : ZipAt (z.heap.push { cls := .type "dict", data := .dict #[] }) c TI TO .none false := Heap.get?_push_of_some _ hc
  refine ⟨hnew.typeIs, F.args_dict_init_2 _ _, ?_⟩
  unfold Builtin.«dict.__init__»
  refine (wpAny_bind ?_)
  unfold Builtin.Dict.selfAndRest
  refine (wpAny_bind (wpAny_notOrdered_dict hnew.typeIs ?_))
  show wpAny _ _ (pure (z.heap.objs.size, [Value.ref c])) _ _ _
  refine (wpAny_pure ?_)
  show wpAny _ _ (Builtin.Dict.updateFrom "dict.__init__" z.heap.objs.size (.ref c) [] .none) _ _ _
  unfold Builtin.Dict.updateFrom
  refine (wpAny_bind (wpAny_typeOf (T := "zip") ⟨_, hc', rfl⟩ ?_))
  rw [if_pos (by decide)]
  refine (wpAny_bind (zip_keys_miss hc' (by simpa using calm) fun g1 tk1 hk1 => ?_))
  rw [if_pos (show (none : Option Value).isNone = true from rfl)]
  have kp : ∀ b o, z.heap.get? b = some o → g1.get? b = some o := fun b o q => hk1 _ _ (Heap.get?_push_of_some _ q)
  have hD1 : g1.DictOf kd z.heap.objs.size [] := by
    obtain ⟨o, es, ep, ho, r⟩ := hnew
    exact ⟨o, es, ep, hk1 _ _ ho, r⟩
  refine (wpAny_bind (wpAny_rule ?_))
  refine (wpAny_bind (wpAny_pyIter_zip (TI := TI) (TO := TO) (f0 := .none) (kp _ _ hc) ?_))
  refine (wpAny_pure ⟨plainId_quiet plain_dloop _, ?_⟩)
  refine zip_loop (kd := kd) (A := A.in1) O D1 D2 al hl hz ha n 0 _ _ (Nat.sub_zero _) (Nat.zero_le _) ⟨kp _ _ hTI, ⟨_, _, kp _ _ hTO⟩, D1.frame _ _ _ h1 fun b _ o q => kp b o q, D2.frame _ _ _ h2 fun b _ o q => kp b o q, t1, t2, t3, t4, Nat.ne_of_lt (Heap.lt_size hTI), .inl (kp _ _ hc)⟩ hD1 fun g tk hD hk => ⟨rfl, go g tk hD fun b o b1 b2 b3 b4 q => hk b o (Nat.ne_of_lt (Heap.lt_size q)) b1 b2 b3 b4 (kp b o q)⟩
end
end L2
set_option Elab.async false
set_option linter.all false
set_option maxRecDepth 100000
set_option maxHeartbeats 4000000
namespace L2
open PySem PySem.Spec PyProof.Rows
noncomputable abbrev tiO (l : Addr) : Obj := { cls := .type "tuple_iterator", data := .fields #[.ref l, .int 0 0] }
noncomputable abbrev liO (l : Addr) : Obj := { cls := .type "list_iterator", data := .fields #[.ref l, .int 0 0] }
noncomputable abbrev zp1 (h : Heap) (p q : Obj) : Heap := (h.push p).push q
noncomputable abbrev zp2 (h : Heap) (p q : Obj) : Heap := (zp1 h p q).push { cls := .type "tuple", data := .seq #[.ref h.objs.size, .ref (h.push p).objs.size] }
noncomputable abbrev zp3 (h : Heap) (p q : Obj) : Heap := (zp2 h p q).push { cls := .type "tuple", data := .seq #[.none, .none] }
noncomputable abbrev zp4 (h : Heap) (p q : Obj) : Heap := (zp3 h p q).push { cls := .type "zip", data := .fields #[.none, .bool false, .bool false, .ref (zp1 h p q).objs.size, .ref (zp2 h p q).objs.size] }
theorem meets_zipTL (a b : Addr) (xs ys : Array Value) :
    Meets (Builtin.«zip.__new__» ⟨[.type "zip", .ref a, .ref b], []⟩) (fun _ R s => s.heap.IsTuple a xs ∧ s.heap.IsList b ys ∧ R (.ok (.ret (.ref (zp3 s.heap (tiO a) (liO b)).objs.size))) { s with heap := zp4 s.heap (tiO a) (liO b) }) :=
  .of_wp fun prog w A R s both => by
    obtain ⟨hp, g, d, tk, os⟩ := s
    obtain ⟨ha, hb, go⟩ := both
    have hsub := sub_zip
    have hA : Heap.IsTuple (Shared.heap ⟨hp, g, d, tk, os⟩) a xs := ha
    have hB : Heap.IsList (Shared.heap ⟨hp.push (tiO a), g, d, tk, os⟩) b ys := Heap.IsList.push hb _
    wp_walk using wpAny_pyIter_tuple hA, wpAny_pyIter_list hB
    exact ⟨_, rfl, go⟩
theorem meets_zipTT (a b : Addr) (xs ys : Array Value) :
    Meets (Builtin.«zip.__new__» ⟨[.type "zip", .ref a, .ref b], []⟩) (fun _ R s => s.heap.IsTuple a xs ∧ s.heap.IsTuple b ys ∧ R (.ok (.ret (.ref (zp3 s.heap (tiO a) (tiO b)).objs.size))) { s with heap := zp4 s.heap (tiO a) (tiO b) }) :=
  .of_wp fun prog w A R s both => by
    obtain ⟨hp, g, d, tk, os⟩ := s
    obtain ⟨ha, hb, go⟩ := both
    have hsub := sub_zip
    have hA : Heap.IsTuple (Shared.heap ⟨hp, g, d, tk, os⟩) a xs := ha
    have hB : Heap.IsTuple (Shared.heap ⟨hp.push (tiO a), g, d, tk, os⟩) b ys := let ⟨o, h1, h2⟩ := hb; ⟨o, Heap.get?_push_of_some _ h1, h2⟩
    wp_walk using wpAny_pyIter_tuple hA, wpAny_pyIter_tuple hB
    exact ⟨_, rfl, go⟩
section
variable {P : Program} {w : World} {A : Around} {E : Value → Shared → Prop} {z : Shared}
theorem zp_facts {h : Heap} {p q : Obj} {Q : Value → Shared → Prop} {s : Shared} (hs : s.heap = h)
    (go : ∀ g, ZipAt g (h.objs.size + 4) (h.objs.size + 2) (h.objs.size + 3) .none false → IsPair g (h.objs.size + 2) (.ref h.objs.size) (.ref (h.objs.size + 1)) → IsPair g (h.objs.size + 3) .none .none →
      g.get? h.objs.size = some p → g.get? (h.objs.size + 1) = some q → g.objs.size = h.objs.size + 5 → (∀ b o, h.get? b = some o → g.get? b = some o) → Q (.ref (h.objs.size + 4)) { s with heap := g }) (hp : p.isFreed = false) (hq : q.isFreed = false) :
    Q (.ref (zp3 h p q).objs.size) { s with heap := zp4 h p q } := by
  have z1 : (h.push p).objs.size = h.objs.size + 1 := Heap.size_push ..
  have z2 : (zp1 h p q).objs.size = h.objs.size + 2 := by rw [Heap.size_push, z1]
  have z3 : (zp2 h p q).objs.size = h.objs.size + 3 := by rw [Heap.size_push, z2]
  have z4 : (zp3 h p q).objs.size = h.objs.size + 4 := by rw [Heap.size_push, z3]
  have z5 : (zp4 h p q).objs.size = h.objs.size + 5 := by rw [Heap.size_push, z4]
  have g5 : (zp4 h p q).get? (zp3 h p q).objs.size = some _ := Heap.get?_push_size _ rfl
  have g4 : (zp4 h p q).get? (zp2 h p q).objs.size = some _ := Heap.get?_push_of_some _ (Heap.get?_push_size _ rfl)
  have g3 : (zp4 h p q).get? (zp1 h p q).objs.size = some _ := Heap.get?_push_of_some _ (Heap.get?_push_of_some _ (Heap.get?_push_size _ rfl))
  have g2 : (zp4 h p q).get? (h.push p).objs.size = some q := Heap.get?_push_of_some _ (Heap.get?_push_of_some _ (Heap.get?_push_of_some _ (Heap.get?_push_size _ hq)))
  have g1 : (zp4 h p q).get? h.objs.size = some p := Heap.get?_push_of_some _ (Heap.get?_push_of_some _ (Heap.get?_push_of_some _ (Heap.get?_push_of_some _ (Heap.get?_push_size _ hp))))
  rw [z2, z3, z4] at g5
  rw [z1, z2] at g3
  rw [z3] at g4
  rw [z1] at g2
  rw [z4]
  exact go _ g5 g3 g4 g1 g2 z5 fun b o k => Heap.get?_push_of_some _ (Heap.get?_push_of_some _ (Heap.get?_push_of_some _ (Heap.get?_push_of_some _ (Heap.get?_push_of_some _ k))))
theorem call_zipTL {a b : Addr} {xs ys : Array Value} {Q : Value → Shared → Prop} (ha : z.heap.IsTuple a xs) (hb : z.heap.IsList b ys)
    (go : ∀ g, ZipAt g (z.heap.objs.size + 4) (z.heap.objs.size + 2) (z.heap.objs.size + 3) .none false → IsPair g (z.heap.objs.size + 2) (.ref z.heap.objs.size) (.ref (z.heap.objs.size + 1)) → IsPair g (z.heap.objs.size + 3) .none .none →
      g.get? z.heap.objs.size = some (tiO a) → g.get? (z.heap.objs.size + 1) = some (liO b) → g.objs.size = z.heap.objs.size + 5 → (∀ b o, z.heap.get? b = some o → g.get? b = some o) → Q (.ref (z.heap.objs.size + 4)) { z with heap := g }) :
    wpAny (model P w) A (call (.type "zip") [.ref a, .ref b]) Q E z := by
  refine callType_new F.called_zip (by decide) (F.typeCall_zip_2 _ _) (F.newCall_zip_2 _ _) (fun obj => F.args_object_init_3 obj _ _) F.entry_zip_new (meets_zipTL a b xs ys) ⟨ha, hb, ?_⟩
  refine zp_facts (Q := fun v s' => s'.TypeIs v "zip" ∧ Q v s') rfl (fun g g5 g3 g4 g1 g2 z5 kp => ⟨⟨_, g5, rfl⟩, go g g5 g3 g4 g1 g2 z5 kp⟩) rfl rfl
theorem call_zipTT {a b : Addr} {xs ys : Array Value} {Q : Value → Shared → Prop} (ha : z.heap.IsTuple a xs) (hb : z.heap.IsTuple b ys)
    (go : ∀ g, ZipAt g (z.heap.objs.size + 4) (z.heap.objs.size + 2) (z.heap.objs.size + 3) .none false → IsPair g (z.heap.objs.size + 2) (.ref z.heap.objs.size) (.ref (z.heap.objs.size + 1)) → IsPair g (z.heap.objs.size + 3) .none .none →
      g.get? z.heap.objs.size = some (tiO a) → g.get? (z.heap.objs.size + 1) = some (tiO b) → g.objs.size = z.heap.objs.size + 5 → (∀ b o, z.heap.get? b = some o → g.get? b = some o) → Q (.ref (z.heap.objs.size + 4)) { z with heap := g }) :
    wpAny (model P w) A (call (.type "zip") [.ref a, .ref b]) Q E z := by
  refine callType_new F.called_zip (by decide) (F.typeCall_zip_2 _ _) (F.newCall_zip_2 _ _) (fun obj => F.args_object_init_3 obj _ _) F.entry_zip_new (meets_zipTT a b xs ys) ⟨ha, hb, ?_⟩
  refine zp_facts (Q := fun v s' => s'.TypeIs v "zip" ∧ Q v s') rfl (fun g g5 g3 g4 g1 g2 z5 kp => ⟨⟨_, g5, rfl⟩, go g g5 g3 g4 g1 g2 z5 kp⟩) rfl rfl
end
end L2
set_option Elab.async false
set_option linter.all false
set_option maxRecDepth 100000
set_option maxHeartbeats 4000000
namespace L2
open PySem PySem.Spec PyProof.Rows
noncomputable def zipK (ns : List Str) (ys : List V) : List (Key × V) := (ns.zip ys).map fun p => (Sum.inr p.1, p.2)
section
variable {X : Cx} {K : PySem.W.Frag}
noncomputable def rDictZ (K : PySem.W.Frag) : List V → Hp → VK → Prop := fun xs H Q => ∃ (a b : Addr) (ns : List Str) (ys : List V), xs = [.ref a, .ref b] ∧ SqT K H a (ns.map V.str) ∧ (SqL K H b ys ∨ SqT K H b ys) ∧ ys.length = ns.length ∧ ns.length ≤ 1000000 ∧
  ∀ p, H p = none → Q (.ref p) (upd H p (.dK (mergeK [] (zipK ns ys))))
theorem zip_al : ∀ {ns : List Str} {ys : List V} {ks vs : List Value}, Vals (ns.map V.str) ks → Vals ys vs → ys.length = ns.length →
    ∃ al : List (Key × Value), al.length = ns.length ∧ KV (zipK ns ys) al ∧ ∀ (i : Nat) (kv : Key × Value), al[i]? = some kv → ∀ x y, ks[i]? = some x → vs[i]? = some y → keyIs kv.1 x = true ∧ y = kv.2
  | [], [], _, _, _, _, _ => ⟨[], rfl, .nil, fun i kv h => by simp at h⟩
  | [], _ :: _, _, _, _, _, h => by simp at h
  | _ :: _, [], _, _, _, _, h => by simp at h
  | n :: ns, y :: ys, ks, vs, hk, hv, h => by
    cases hk with
    | cons r1 hk =>
      cases hv with
      | @cons _ v0 _ _ r2 hv =>
        obtain ⟨al, a1, a2, a3⟩ := zip_al hk hv (by simpa using h)
        obtain ⟨t, rfl⟩ := r1
        refine ⟨(Sum.inr n, v0) :: al, by simp [a1], .cons ⟨rfl, r2⟩ a2, fun i kv hi x y hx hy => ?_⟩
        cases i with
        | zero =>
          simp at hi hx hy
          subst hi hx hy
          exact ⟨keyIs_str n t, rfl⟩
        | succ i => exact a3 i kv (by simpa using hi) x y (by simpa using hx) (by simpa using hy)
theorem off_new (m a b : Nat) (ha : a < m) (hb : b < m) : @ZipOff (m + 4) (m + 3) m (m + 1) (m + 5) [m, a] [m + 1, b] := by
  constructor <;> first
    | exact Nat.ne_of_lt (show (_ : Nat) < _ by omega)
    | exact Nat.ne_of_gt (show (_ : Nat) < _ by omega)
    | (intro q; rcases List.mem_cons.mp q with q | q <;> first
        | (exact absurd q (Nat.ne_of_lt (show (_ : Nat) < _ by omega)))
        | (exact absurd q (Nat.ne_of_gt (show (_ : Nat) < _ by omega)))
        | (exact absurd (List.mem_singleton.mp q) (Nat.ne_of_lt (show (_ : Nat) < _ by omega)))
        | (exact absurd (List.mem_singleton.mp q) (Nat.ne_of_gt (show (_ : Nat) < _ by omega))))
theorem dict_zip_any {pins : List (Addr × Obj)} {σ : St} {H : Hp} {s : Shared} {Q : VK} (calm : X.A.handled = none) (I : Inv X pins σ H s) {a b : Addr} {ns : List Str} {ys : List V} {g : Heap} {ks vs : List Value} {o2 : Obj} {S2 : Nat → Heap → Prop}
    (ha : IsTup s.heap a ks.toArray) (hb : b < s.heap.objs.size) (hk : Vals (ns.map V.str) ks) (hv : Vals ys vs) (hl : ys.length = ns.length) (hz : ns.length ≤ 1000000)
    (D2 : Draws X.prog X.w X.A.in1.in1.in1 (s.heap.objs.size + 1) [s.heap.objs.size + 1, b] vs.toArray.size (fun i v => vs.toArray[i]? = some v) S2) (h2 : S2 0 g)
    (g5 : ZipAt g (s.heap.objs.size + 4) (s.heap.objs.size + 2) (s.heap.objs.size + 3) .none false) (g3 : IsPair g (s.heap.objs.size + 2) (.ref s.heap.objs.size) (.ref (s.heap.objs.size + 1))) (g4 : IsPair g (s.heap.objs.size + 3) .none .none)
    (g1 : g.get? s.heap.objs.size = some (tiO a)) (g2 : g.get? (s.heap.objs.size + 1) = some o2) (z5 : g.objs.size = s.heap.objs.size + 5) (kp : ∀ b o, s.heap.get? b = some o → g.get? b = some o)
    (q : ∀ p, H p = none → Q (.ref p) (upd H p (.dK (mergeK [] (zipK ns ys))))) :
    wpAny (model X.prog X.w) X.A (call (.type "dict") [.ref (s.heap.objs.size + 4)]) (EP X pins σ Q) X.xe { s with heap := g } := by
  have hal : a < s.heap.objs.size := let ⟨o, ho, _⟩ := ha; Heap.lt_size ho
  have lk := hk.length
  have lv := hv.length
  rw [List.length_map] at lk
  obtain ⟨al, a1, a2, a3⟩ := zip_al hk hv hl
  have D1 := drawsT (prog := X.prog) (w := X.w) (A := X.A.in1.in1.in1) (by simpa using calm) s.heap.objs.size a (Nat.ne_of_lt hal) ks.toArray
  have n1 : ks.toArray.size = ns.length := by simp; omega
  have n2 : vs.toArray.size = ns.length := by simp; omega
  rw [n1] at D1
  rw [n2] at D2
  have O : ZipOff (s.heap.objs.size + 4) (s.heap.objs.size + 3) s.heap.objs.size (s.heap.objs.size + 1) g.objs.size [s.heap.objs.size, a] [s.heap.objs.size + 1, b] := by
    rw [z5]
    exact off_new _ a b hal hb
  refine dict_of_zip (z := { s with heap := g }) (kd := mixKind X.prog X.w) calm O D1 D2 al a1 hz (fun i kv hi x y hx hy => a3 i kv hi x y (by simpa using hx) (by simpa using hy)) g5 g3 g4 ⟨⟨_, g1, rfl, rfl⟩, ha.keeps kp⟩ h2 (Nat.ne_of_lt (show (_ : Nat) < _ by omega)) (Nat.ne_of_lt (show (_ : Nat) < _ by omega)) (Nat.ne_of_gt (show (_ : Nat) < _ by omega)) (Nat.ne_of_gt (show (_ : Nat) < _ by omega)) fun g' tk hD hk' => ?_
  have keep : ∀ b o, s.heap.get? b = some o → g'.get? b = some o := fun b o e => by
    have lt : LT.lt (α := Nat) b s.heap.objs.size := Heap.lt_size e
    exact hk' b o (Nat.ne_of_lt (show LT.lt (α := Nat) _ _ by omega)) (Nat.ne_of_lt (show LT.lt (α := Nat) _ _ by omega)) (Nat.ne_of_lt (show LT.lt (α := Nat) _ _ by omega)) (Nat.ne_of_lt (show LT.lt (α := Nat) _ _ by omega)) (kp b o e)
  refine ⟨.ref g.objs.size, _, I.laid (t' := tk) keep (by rw [z5]; omega) (dk_new ?_ ?_ (KV.merge a2 .nil) hD), rfl, q _ (I.hok.fresh (by rw [z5]; omega))⟩
  · have := length_mergeK (zipK ns ys) []
    have e : (zipK ns ys).length ≤ ns.length := by unfold zipK; rw [List.length_map, List.length_zip]; omega
    exact line_of (by simp at this; omega)
  · have := I.big
    exact beq_eq_false_iff_ne.mpr (Nat.ne_of_gt (show LT.lt (α := Nat) _ _ by rw [z5]; exact Nat.lt_of_lt_of_le this (Nat.le_add_right _ _)))
theorem pe_dictZip {ea eb : Expr} {ta : TA} {p p2 pos pos2 : Pos} (calm : X.A.handled = none) (hg : Gl X "dict") (hm : X.mg "dict" = none) (hg2 : Gl X "zip") (hm2 : X.mg "zip" = none) (ha : PA X [ea, eb] ta) (hK : X.K = K := by with_unfolding_all rfl)
    (hs : starEach [.Call (.Name "zip" p2) [ea, eb] [] pos2] X.env = [(false, eval (.Call (.Name "zip" p2) [ea, eb] [] pos2) X.env)] := by with_unfolding_all rfl)
    (hs2 : starEach [ea, eb] X.env = (false, eval ea X.env) :: starEach [eb] X.env := by with_unfolding_all rfl) (hpl : (backTo pos2 (starEach [eb] X.env)).any (·.1) = false := by with_unfolding_all rfl) :
    PE X (.Call (.Name "dict" p) [.Call (.Name "zip" p2) [ea, eb] [] pos2] [] pos) (tCB (rDictZ K) ta) := by
  subst hK
  intro pins s σ H Q I h
  refine wpAny_Call_Name_kw (ld_blt I hg hm PyProof.Rows.Boot.«dict» (PyProof.Rows.callWith_type1 ?_ hs rfl))
  rw [hs]
  show wpAny _ _ (spliced [(false, eval (.Call (.Name "zip" p2) [ea, eb] [] pos2) X.env)]) _ _ s
  refine Calls.spliced_cons ?_
  refine wpAny_Call_Name_kw (ld_blt I hg2 hm2 PyProof.Rows.Boot.«zip» (PyProof.Rows.callWith_type1 (thn (ha pos2 pins s σ H _ I h) fun us s1 ⟨vs, H1, I1, r1, q1⟩ => ?_) hs2 hpl))
  obtain ⟨a, b, ns, ys, rfl, hA, hB, hl, hz, q⟩ := q1
  obtain ⟨u1, u2, rfl, ra, rb⟩ := Vals.two r1
  cases ra
  cases rb
  obtain ⟨ks, rk, hta, _⟩ := I1.tuple hA
  rcases hB with hB | hB
  · obtain ⟨vs, rv, htb, _⟩ := I1.list hB
    have hlb := htb.isList
    have hbl : b < s1.heap.objs.size := let ⟨_, q, _⟩ := hlb; Heap.lt_size q
    refine call_zipTL hta hlb fun g g5 g3 g4 g1 g2 z5 kp => Calls.spliced_nil ?_
    have D2 := Draws.list (prog := X.prog) (w := X.w) (A := X.A.in1.in1.in1) (by simpa using calm) (s1.heap.objs.size + 1) b (Nat.ne_of_lt (Nat.lt_succ_of_lt hbl)) vs.toArray
    exact dict_zip_any calm I1 hta hbl rk rv hl hz D2 ⟨⟨_, g2, rfl, rfl⟩, hlb.at fun o e => kp b o e⟩ g5 g3 g4 g1 g2 z5 kp q
  · obtain ⟨vs, rv, htb, _⟩ := I1.tuple hB
    have hbl : b < s1.heap.objs.size := let ⟨_, q, _⟩ := htb; Heap.lt_size q
    refine call_zipTT hta htb fun g g5 g3 g4 g1 g2 z5 kp => Calls.spliced_nil ?_
    have D2 := drawsT (prog := X.prog) (w := X.w) (A := X.A.in1.in1.in1) (by simpa using calm) (s1.heap.objs.size + 1) b (Nat.ne_of_lt (Nat.lt_succ_of_lt hbl)) vs.toArray
    exact dict_zip_any calm I1 hta hbl rk rv hl hz D2 ⟨⟨_, g2, rfl, rfl⟩, htb.keeps kp⟩ g5 g3 g4 g1 g2 z5 kp q
end
section
variable {K : PySem.W.Frag} {H : Hp} {Q : VK}
theorem zipK_keys : ∀ {ns : List Str} {ys : List V}, ys.length = ns.length → (zipK ns ys).map (·.1) = ns.map fun n => (Sum.inr n : Key)
  | [], [], _ => rfl
  | [], _ :: _, h => by simp at h
  | _ :: _, [], h => by simp at h
  | n :: ns, y :: ys, h => by
    have ih := zipK_keys (ns := ns) (ys := ys) (by simpa using h)
    unfold zipK at ih ⊢
    rw [List.zip_cons_cons, List.map_cons, List.map_cons, ih]
    rfl
theorem i_dictZip {a b : Addr} {ns : List Str} {ys : List V} (hA : SqT K H a (ns.map V.str)) (hB : SqL K H b ys ∨ SqT K H b ys) (hl : ys.length = ns.length) (hn : ns.Nodup) (hz : ns.length ≤ 1000000)
    (k : ∀ p H', H p = none → Same H H' → H' p = some (.dK (zipK ns ys)) → Q (.ref p) H') : rDictZ K [.ref a, .ref b] H Q := by
  refine ⟨a, b, ns, ys, rfl, hA, hB, hl, hz, fun p hp => ?_⟩
  have e : mergeK [] (zipK ns ys) = zipK ns ys := by
    rw [merge_new _ [] (by rw [zipK_keys hl]; exact nodup_map_on hn fun x _ y _ e => by injection e) (fun _ _ _ h => by cases h)]
    rfl
  rw [e]
  exact k p _ hp (Same.upd hp) upd_same
theorem valV_zip : ∀ {ns : List Str} {ys : List V} {i : Nat} {n : Str} {y : V}, ns.Nodup → ns[i]? = some n → ys[i]? = some y → valV (zipK ns ys) (Sum.inr n : Key) = some y
  | [], _, i, _, _, _, h, _ => by simp at h
  | _ :: _, [], i, _, _, _, _, h => by simp at h
  | m :: ns, x :: ys, 0, n, y, hn, h, g => by
    simp at h g
    subst h g
    unfold zipK
    simp [valV]
  | m :: ns, x :: ys, i + 1, n, y, hn, h, g => by
    have h' : ns[i]? = some n := by simpa using h
    have ne : ¬ (Sum.inr m : Key) = Sum.inr n := fun e => by
      have e2 : m = n := by injection e
      exact (List.nodup_cons.mp hn).1 (e2 ▸ List.mem_of_getElem? h')
    show valV ((Sum.inr m, x) :: zipK ns ys) _ = _
    rw [valV_neg ne]
    exact valV_zip (List.nodup_cons.mp hn).2 h' (by simpa using g)
end
end L2
set_option Elab.async false
set_option linter.all false
set_option maxRecDepth 100000
set_option maxHeartbeats 4000000
namespace L2
open PySem PySem.Spec PyProof.Rows
section
variable {K : PySem.W.Frag} {H : Hp} {Q : VK}
end
end L2
set_option Elab.async false
set_option linter.all false
set_option maxRecDepth 100000
set_option maxHeartbeats 4000000
namespace L2
open PySem PySem.Spec PyProof.Rows
noncomputable def btw (ns ns' : List Str) : List (Str × Str) := ns.flatMap fun z => ns'.map fun y => (z, y)
theorem mem_btw {ns ns' : List Str} {p : Str × Str} : p ∈ btw ns ns' ↔ p.1 ∈ ns ∧ p.2 ∈ ns' := by
  unfold btw
  rw [List.mem_flatMap]
  constructor
  · rintro ⟨z, hz, hp⟩
    obtain ⟨y, hy, rfl⟩ := List.mem_map.mp hp
    exact ⟨hz, hy⟩
  · rintro ⟨h1, h2⟩
    exact ⟨p.1, h1, List.mem_map.mpr ⟨p.2, h2, rfl⟩⟩
theorem len_btw (ns ns' : List Str) : (btw ns ns').length = ns.length * ns'.length := by
  unfold btw
  induction ns with
  | nil => simp
  | cons z ns ih => rw [List.flatMap_cons, List.length_append, ih, List.length_map, List.length_cons, Nat.add_mul]; omega
section
variable {ns ns' : List Str} {ps ps' bs : List (Str × Str)}
theorem way_join (h : HalfW ns ps) (h' : HalfW ns' ps') (hd : ∀ z ∈ ns, z ∉ ns') (hb : ∀ p ∈ bs, p.1 ∈ ns ∧ p.2 ∈ ns') (hb2 : bs = [] ∨ ∀ x ∈ ns, ∀ y ∈ ns', (x, y) ∈ bs) {x y : Str} :
    Way (ps ++ ps' ++ bs) x y ↔ Way ps x y ∨ Way ps' x y ∨ (bs ≠ [] ∧ x ∈ ns ∧ y ∈ ns') := by
  have nb : ∀ {p}, p ∈ bs → bs ≠ [] := fun hp e => by rw [e] at hp; cases hp
  constructor
  · intro g
    induction g with
    | @one x y m =>
      rcases List.mem_append.mp m with m | m
      · rcases List.mem_append.mp m with m | m
        · exact .inl (.one m)
        · exact .inr (.inl (.one m))
      · exact .inr (.inr ⟨nb m, hb _ m⟩)
    | @cons x z y m _ ih =>
      rcases List.mem_append.mp m with m | m
      · rcases List.mem_append.mp m with m | m
        · have hz := (h.mem _ m).2
          rcases ih with g | g | ⟨e, g1, g2⟩
          · exact .inl (.cons m g)
          · exact absurd (Way.mem h'.mem g).1 (hd z hz)
          · exact .inr (.inr ⟨e, (h.mem _ m).1, g2⟩)
        · have hz := (h'.mem _ m).2
          rcases ih with g | g | ⟨e, g1, g2⟩
          · exact absurd hz (hd z (Way.mem h.mem g).1)
          · exact .inr (.inl (.cons m g))
          · exact absurd hz (hd z g1)
      · have hz := hb _ m
        rcases ih with g | g | ⟨e, g1, g2⟩
        · exact absurd hz.2 (hd z (Way.mem h.mem g).1)
        · exact .inr (.inr ⟨nb m, hz.1, (Way.mem h'.mem g).2⟩)
        · exact absurd hz.2 (hd z g1)
  · rintro (g | g | ⟨e, g1, g2⟩)
    · exact g.mono fun p hp => List.mem_append_left _ (List.mem_append_left _ hp)
    · exact g.mono fun p hp => List.mem_append_left _ (List.mem_append_right _ hp)
    · rcases hb2 with q | q
      · exact absurd q e
      · exact .one (List.mem_append_right _ (q x g1 y g2))
theorem half_join (h : HalfW ns ps) (h' : HalfW ns' ps') (hd : ∀ z ∈ ns, z ∉ ns') (hb : ∀ p ∈ bs, p.1 ∈ ns ∧ p.2 ∈ ns') (hb2 : bs = [] ∨ ∀ x ∈ ns, ∀ y ∈ ns', (x, y) ∈ bs) (h10 : ns.length + ns'.length ≤ 10) (hl : ps.length + ps'.length + bs.length ≤ 1000) :
    HalfW (ns ++ ns') (ps ++ ps' ++ bs) := by
  refine ⟨List.nodup_append.mpr ⟨h.nd, h'.nd, fun a ha b hb e => hd a ha (e ▸ hb)⟩, fun p hp => ?_, fun x g => ?_, by rw [List.length_append]; omega, by rw [List.length_append, List.length_append]; omega⟩
  · rcases List.mem_append.mp hp with m | m
    · rcases List.mem_append.mp m with m | m
      · exact ⟨List.mem_append_left _ (h.mem p m).1, List.mem_append_left _ (h.mem p m).2⟩
      · exact ⟨List.mem_append_right _ (h'.mem p m).1, List.mem_append_right _ (h'.mem p m).2⟩
    · exact ⟨List.mem_append_left _ (hb p m).1, List.mem_append_right _ (hb p m).2⟩
  · rcases (way_join h h' hd hb hb2).mp g with g | g | ⟨_, g1, g2⟩
    · exact h.irr x g
    · exact h'.irr x g
    · exact hd x g1 g2
end
end L2
namespace L2
open PySem PySem.Spec PyProof.Rows
theorem Half.map {ns : List Str} {ps : List (Str × Str)} (h : Half ns ps) {f : Str → Str} (hN : Names (ns.map f)) : Half (ns.map f) (ps.map fun p => (f p.1, f p.2)) := by
  obtain ⟨ls, h1, h2⟩ := h.line
  refine ⟨hN, by rw [List.length_map]; exact h.few, by rw [List.length_map]; exact h.le, ls.map f, h1.map _, fun p hp => ?_⟩
  obtain ⟨q, hq, rfl⟩ := List.mem_map.mp hp
  obtain ⟨i, j, hij, hi, hj⟩ := h2 q hq
  exact ⟨i, j, hij, by rw [List.getElem?_map, hi]; rfl, by rw [List.getElem?_map, hj]; rfl⟩
noncomputable def toF (ns sh : List Str) (z : Str) : Str := sh.getD (ns.idxOf z) ""
theorem toF_get {ns sh : List Str} (hl : sh.length = ns.length) {z : Str} (hz : z ∈ ns) : ns[ns.idxOf z]? = some z ∧ sh[ns.idxOf z]? = some (toF ns sh z) := by
  have h1 := List.idxOf_lt_length_iff.mpr hz
  refine ⟨by rw [List.getElem?_eq_getElem h1, List.getElem_idxOf], ?_⟩
  unfold toF
  rw [List.getD_eq_getElem?_getD, List.getElem?_eq_getElem (by omega)]
  rfl
theorem toF_map {ns sh : List Str} (hn : ns.Nodup) (hl : sh.length = ns.length) : ns.map (toF ns sh) = sh := by
  apply List.ext_getElem (by simp [hl])
  intro i h1 h2
  rw [List.getElem_map]
  unfold toF
  rw [List.length_map] at h1
  rw [List.Nodup.idxOf_getElem hn i h1, List.getD_eq_getElem?_getD, List.getElem?_eq_getElem h2]
  rfl
theorem valV_toF {ns sh : List Str} (hn : ns.Nodup) (hl : sh.length = ns.length) {z : Str} (hz : z ∈ ns) : valV (zipK ns (sh.map V.str)) (Sum.inr z : Key) = some (.str (toF ns sh z)) := by
  obtain ⟨h1, h2⟩ := toF_get hl hz
  exact valV_zip hn h1 (by rw [List.getElem?_map, h2]; rfl)
end L2
set_option Elab.async false
set_option linter.all false
set_option maxRecDepth 100000
set_option maxHeartbeats 4000000
namespace L2
open PySem PySem.Spec PyProof.Rows
section
variable {ns : List Str} {ps : List (Str × Str)}
noncomputable def onL (ns row : List Str) : List Str := ns.filter fun z => decide (z ∈ row)
noncomputable def onP (ns : List Str) (ps : List (Str × Str)) (row : List Str) : List (Str × Str) := (clP ns ps).filter fun p => decide (p.1 ∈ onL ns row) && decide (p.2 ∈ onL ns row)
theorem mem_onP {row : List Str} {p : Str × Str} : p ∈ onP ns ps row ↔ p.1 ∈ onL ns row ∧ p.2 ∈ onL ns row ∧ Way ps p.1 p.2 := by
  unfold onP
  rw [List.mem_filter, mem_clP, Bool.and_eq_true, decide_eq_true_iff, decide_eq_true_iff]
  constructor
  · rintro ⟨⟨_, _, c⟩, a, b⟩
    exact ⟨a, b, c⟩
  · rintro ⟨a, b, c⟩
    exact ⟨⟨(List.mem_filter.mp a).1, (List.mem_filter.mp b).1, c⟩, a, b⟩
theorem way_onP {row : List Str} {x y : Str} : Way (onP ns ps row) x y ↔ x ∈ onL ns row ∧ y ∈ onL ns row ∧ Way ps x y := by
  constructor
  · intro g
    induction g with
    | one m => exact mem_onP.mp m
    | cons m _ ih =>
      obtain ⟨a, b, c⟩ := mem_onP.mp m
      exact ⟨a, ih.2.1, c.trans ih.2.2⟩
  · rintro ⟨a, b, c⟩
    exact .one (mem_onP.mpr ⟨a, b, c⟩)
theorem half_on (h : Half ns ps) (row : List Str) : HalfW (onL ns row) (onP ns ps row) := by
  have hc := h.cl_few
  refine ⟨h.names.1.filter _, fun p hp => let ⟨a, b, _⟩ := mem_onP.mp hp; ⟨a, b⟩, fun x g => h.irrefl (way_onP.mp g).2.2, Nat.le_trans (List.length_filter_le _ _) (Nat.le_trans h.few (by decide)), ?_⟩
  have : (onP ns ps row).length ≤ (clP ns ps).length := List.length_filter_le _ _
  omega
noncomputable def ff (f : Str → Str) (p : Str × Str) : Str × Str := (f p.1, f p.2)
theorem half_call (h : Half ns ps) {row : List Str} (hN : Names row) (hl : row.length = ns.length) : Half row (ps.map (ff (toF ns row))) := by
  have := h.map (f := toF ns row) (by rw [toF_map h.names.1 hl]; exact hN)
  rwa [toF_map h.names.1 hl] at this
end
end L2
set_option Elab.async false
set_option linter.all false
set_option maxRecDepth 100000
set_option maxHeartbeats 4000000
namespace L2
open PySem PySem.Spec PyProof.Rows
section
variable {P : Program} {w : World} {A : Around} {E : Value → Shared → Prop} {z : Shared}
end
section
variable {X : Cx} {K : PySem.W.Frag}
end
end L2
set_option Elab.async false
set_option linter.all false
set_option maxRecDepth 100000
set_option maxHeartbeats 4000000
namespace L2
open PySem PySem.Spec PyProof.Rows
section
variable {α : Type} [DecidableEq α] {b : α → α → Bool} {L : List α}
end
end L2
set_option Elab.async false
set_option linter.all false
set_option maxRecDepth 100000
set_option maxHeartbeats 4000000
namespace L2
open PySem PySem.Spec PyProof.Rows
end L2
set_option Elab.async false
set_option linter.all false
set_option maxRecDepth 100000
set_option maxHeartbeats 4000000
namespace L2
open PySem PySem.Spec PyProof.Rows
noncomputable def LvA (H : Hp) (ms : List Str) (la : Addr) (es : List (Str → Bool)) : Prop := ∃ bs : List Addr, H la = some (.lst (bs.map V.ref)) ∧ bs.length = es.length ∧ ∀ (i : Nat) e, es[i]? = some e → ∃ b, bs[i]? = some b ∧ H b = some (.tup ((keyT ms e).map kV))
end L2
set_option Elab.async false
set_option linter.all false
set_option maxRecDepth 100000
set_option maxHeartbeats 4000000
namespace L2
open PySem PySem.Spec PyProof.Rows
end L2
set_option Elab.async false
set_option linter.all false
set_option maxRecDepth 100000
set_option maxHeartbeats 4000000
namespace L2
open PySem PySem.Spec PyProof.Rows
noncomputable def xB : List Value := [.type "ValueError", .type "Exception", .type "BaseException", .type "object"]
noncomputable def xcIn (K : PySem.W.Frag) (C : Addr) : Bool := match K.lookup C with
  | some ⟨.type "type", _, .cls cd, sl⟩ => (match cd.mro, sl.toList with
    | .ref D :: bm, [_, _, _, _, some (.builtin n), _] => D == C && n == "ValueError.__new__" && !cd.hasDel && cd.hasDict && PySem.W.tailIn K xB bm
    | _, _ => false)
  | _ => false
theorem xc_obj {K : PySem.W.Frag} {C : Addr} (q : xcIn K C = true) : ∃ (nm qn : Str) (N : Addr) (bs bm : List Value) (sn : List Str) (sub : List Value) (ab : Bool) (col : Option Bool) (dd : Option Addr) (k0 k1 k2 k3 k5 : Option Value),
    K.lookup C = some (excClassObj nm qn C N bs bm true sn sub ab col dd k0 k1 k2 k3 k5 "ValueError.__new__") ∧ PySem.W.tailIn K xB bm = true := by
  unfold xcIn at q
  split at q
  · rename_i dd cd sl ho
    split at q
    · rename_i D bm k0 k1 k2 k3 n k5 hm hs
      simp only [Bool.and_eq_true, beq_iff_eq, Bool.not_eq_true'] at q
      obtain ⟨⟨⟨⟨e1, e2⟩, hdel⟩, hdc⟩, ht⟩ := q
      subst e1 e2
      obtain ⟨nm, bs, mro, ns, qn, hd, sn, sub, ab, col, del⟩ := cd
      dsimp only at hm hdel hdc
      subst hm hdel hdc
      have e3 : sl = #[k0, k1, k2, k3, some (.builtin "ValueError.__new__"), k5] := by
        obtain ⟨l⟩ := sl
        simp only at hs
        rw [hs]
      subst e3
      exact ⟨nm, qn, ns, bs, bm, sn, sub, ab, col, dd, k0, k1, k2, k3, k5, ho, ht⟩
    · cases q
  · cases q
theorem xc_refuse (self : Value) {h : Heap} {l : List Value} (T : OwnTail h xB l) : refuseLoop self "__setattr__" l = pure () := by
  induction T with
  | base => exact PySem.F.store_ValueError.passes self
  | own _ _ _ _ ih => rw [refuseLoop_ref]; exact ih
theorem xc_bex {h : Heap} {l : List Value} (T : OwnTail h xB l) : l.contains (.type "BaseException") = true := T.hasType (by decide +kernel)
noncomputable abbrev tupO (rest : List Value) : Obj := { cls := .type "tuple", data := .seq rest.toArray }
noncomputable abbrev excO (C t : Addr) : Obj := { cls := .ref C, data := .fields #[.ref t, .none, .none, .none, .bool false, .none] }
section
variable {prog : Program} {w : World} {A : Around} {E : Value → Shared → Prop} {h : Heap} {g : Array GenState} {d : Drawn} {t : Nat} {os : OsState} {K : PySem.W.Frag} {C fI : Addr} {rest : List Value}
theorem xc_tcall {Q : Fin → Shared → Prop} (X : K.In h) (q : xcIn K C = true) (hi : PySem.W.findIn K (.ref C) "__init__" = some (some (.ref fI))) (ht : PySem.W.typeIn K (.ref fI) = some (.type "function")) (hr : rest.length ≤ sizeLine)
    (hq : wpAny (model prog w) A (call (.ref fI) (.ref (h.objs.size + 1) :: rest)) (fun r s' => r = .none ∧ Q (.done (.ret (.ref (h.objs.size + 1)))) s') E ⟨(h.push (tupO rest)).push (excO C h.objs.size), g, d, t, os⟩) :
    wpAny (model prog w) A (Builtin.«type.__call__» ⟨.ref C :: rest, []⟩) Q E ⟨h, g, d, t, os⟩ := by
  obtain ⟨nm, qn, N, bs, bm, sn, sub, ab, col, dd, k0, k1, k2, k3, k5, hl, htl⟩ := xc_obj q
  have F := PySem.F.excBase_ValueError
  have T : OwnTail h xB bm := PySem.W.tail_of_in X htl
  have hC := X _ _ hl
  repeat (first | (with_reducible refine wpAny_loadPart_at hC ?_) | (with_reducible refine wpAny_madeBy_exc hC ?_) | wp_step)
  refine codeAny_call_builtin_code (Code.quiet_builtin _ F.quiet) (wpAny_check_new_subT F T hC (codeAny_exc_new_subT F T hC ?_ hr))
  show wpAny _ _ _ _ _ _
  have X1 : K.In ((h.push (tupO rest)).push (excO C h.objs.size)) := X.keeps fun b o e => Heap.get?_push_of_some _ (Heap.get?_push_of_some _ e)
  have hC1 := X1 _ _ hl
  have hg1 : ((h.push (tupO rest)).push (excO C h.objs.size)).get? (h.objs.size + 1) = some (excO C h.objs.size) := by heap_get
  have hcC : (Value.ref C :: bm).contains (.ref C) = true := by simp
  unfold isInstance
  repeat (first | (with_reducible refine wpAny_loadPart_at hg1 ?_) | (with_reducible refine wpAny_isSubtype_exc hC1 ?_; rw [hcC]) | wp_step)
  show wpAny _ _ (typeLookup (.ref C) _) _ _ _
  refine (PySem.W.looks_findIn (M := model prog w) X1 hi).at ?_
  refine wpAny_holding (wpAny_bind ((PySem.W.bind_fn X1 _ ht).at ?_))
  refine wpAny_bind (wpAny_mono hq (fun r s' hr' => ?_) fun _ _ x => x)
  obtain ⟨rfl, hQ⟩ := hr'
  wp_walk
  exact hQ
theorem xc_make {Q : Value → Shared → Prop} (X : K.In h) (q : xcIn K C = true) (hi : PySem.W.findIn K (.ref C) "__init__" = some (some (.ref fI))) (ht : PySem.W.typeIn K (.ref fI) = some (.type "function")) (hr : rest.length ≤ sizeLine)
    (hq : wpAny (model prog w) (A.under (.builtin "type.__call__" ⟨.ref C :: rest, []⟩)) (call (.ref fI) (.ref (h.objs.size + 1) :: rest)) (fun r s' => r = .none ∧ Q (.ref (h.objs.size + 1)) s') E ⟨(h.push (tupO rest)).push (excO C h.objs.size), g, d, t, os⟩) :
    wpAny (model prog w) A (call (.ref C) rest) Q E ⟨h, g, d, t, os⟩ := by
  obtain ⟨nm, qn, N, bs, bm, sn, sub, ab, col, dd, k0, k1, k2, k3, k5, hl, htl⟩ := xc_obj q
  have hC := X _ _ hl
  have f1 := tc_lookup
  have f2 := tc_bind (.ref C)
  have tt : (⟨h, g, d, t, os⟩ : Shared).TypeIs (.ref C) "type" := ⟨_, hC, rfl⟩
  refine wpAny_call (codeAny_of_tree ?_)
  show wpAny _ _ (callAny (.ref C) _) _ _ _
  repeat (any_goals (first | assumption | (with_reducible refine wpAny_loadPart_at hC ?_) | wp_step))
  refine ⟨rfl, codeAny_call_builtin_at (Code.quiet_builtin _ (by decide +kernel)) entry_typeCall (wpAny_check_type_call_sub hC (xc_tcall X q hi ht hr ?_))⟩
  exact hq
end
end L2
set_option Elab.async false
set_option linter.all false
set_option maxRecDepth 100000
set_option maxHeartbeats 4000000
namespace L2
open PySem PySem.Spec PyProof.Rows Builtin Builtin.ObjectAttr
structure XC (K : PySem.W.Frag) (C : Addr) : Prop where
  ex : xcIn K C = true
  sa : PySem.W.findIn K (.ref C) "__setattr__" = some (some (.builtin "object.__setattr__"))
  ga : PySem.W.findIn K (.ref C) "__getattribute__" = some (some (.builtin "BaseException.__getattribute__"))
  gt : PySem.W.findIn K (.ref C) "__getattr__" = some none
  cl : PySem.W.findIn K (.ref C) "__class__" = some (some (.builtin "object.__class__"))
  cg : PySem.W.specialIn K (.builtin "object.__class__") "__get__" = some (some (.builtin "getset_descriptor.__get__"))
  ct : PySem.W.takesIn K (.builtin "object.__class__") = some true
section
variable {prog : Program} {w : World} {A : Around} {E : Value → Shared → Prop} {s : Shared} {K : PySem.W.Frag} {C x : Addr} {name : Str} {v : Value}
theorem XC.cls (c : XC K C) : ∃ cd, PySem.W.clsIn K C = some cd ∧ cd.hasDict = true ∧ ∃ bm, cd.mro = .ref C :: bm ∧ PySem.W.tailIn K xB bm = true := by
  obtain ⟨nm, qn, N, bs, bm, sn, sub, ab, col, dd, k0, k1, k2, k3, k5, hl, htl⟩ := xc_obj c.ex
  exact ⟨_, by unfold PySem.W.clsIn; rw [hl], rfl, bm, rfl, htl⟩
theorem XC.mro (c : XC K C) {h : Heap} (X : K.In h) {T : String} (hT : xB.contains (.type T) = true) : PySem.W.mroIn K C (.type T) = some true := by
  obtain ⟨cd, hc, _, bm, hm, ht⟩ := c.cls
  unfold PySem.W.mroIn
  rw [hc, Option.bind_some, hm, if_neg (by simp)]
  rw [List.contains_cons, (PySem.W.tail_of_in X ht).hasType hT, Bool.or_true]
theorem xc_osa {R : Result → Shared → Prop} {ox : Obj} {od : Option Obj} {tk : Tok} (c : XC K C) (X : K.In s.heap) (I : PySem.W.InstAt s.heap x ox C od) (ht : PySem.W.findIn K (.ref C) name = some none)
    (h : ∀ b, wpAny (model prog w) A.in1 (storeInOwnDict (.ref x) (.ref C) (.str name tk) name v b)
      (fun fin s' => match fin with | .done f => R (.ok f) s' | .again c' => c'.quiet = true ∧ codeAny (model prog w) A c' R s') (fun e s' => R (.error e) s') s) :
    codeAny (model prog w) A (.call (.builtin "object.__setattr__") ⟨[.ref x, .str name tk, v], []⟩) R s := by
  have SF := PySem.F.store_object
  obtain ⟨cd, hc, hd, bm, hmr, htl⟩ := c.cls
  have T := PySem.W.tail_of_in X htl
  have sub : PySem.W.Looks (model prog w) s.heap (isInstance (.ref x) (.type "object")) true := I.type.andThen (PySem.W.looks_mroIn X (c.mro X (by decide +kernel)))
  refine codeAny_call_builtin SF.slot.plain SF.entry (@PySem.W.check_slot (model prog w) _ _ s "object.__setattr__" "object" "__setattr__" (.ref x) [.str name tk, v] [] _ SF.kind SF.split sub (SF.args (.ref x) (.str name tk) v) ?_)
  have hm : PySem.W.Looks (model prog w) s.heap (mroOf (.ref C)) cd.mro := (PySem.W.looks_clsIn X hc).andThen .now
  have l3 : PySem.W.Looks (model prog w) s.heap (storeTaker? none) none := .now
  rw [PySem.W.osa_eq, refuse_eq]
  refine wpAny_bind (wpAny_bind (I.type.here (wpAny_bind (hm.here ?_))))
  rw [hmr, refuseLoop_ref, xc_refuse _ T]
  refine wpAny_pure (wpAny_bind (I.type.here (wpAny_bind ((PySem.W.looks_findIn X ht).here (wpAny_bind (l3.here ?_))))))
  exact h _
theorem xc_set0 {Q : Unit → Shared → Prop} {vs : Array Value} {sl : Array (Option Value)} (c : XC K C) (X : K.In s.heap) (hx : s.heap.get? x = some ⟨.ref C, none, .fields vs, sl⟩) (ht : PySem.W.findIn K (.ref C) name = some none)
    (hq : ∀ h', h'.Ns1 s.heap.objs.size (fun y => if y = name then some v else none) → h'.get? x = some ⟨.ref C, some s.heap.objs.size, .fields vs, sl⟩ → (∀ b o, b ≠ x → s.heap.get? b = some o → h'.get? b = some o) → Q () { s with heap := h', toks := s.toks + 2 }) :
    wpAny (model prog w) A (setAttr (.ref x) name v) Q E s := by
  have J : PySem.W.InstAt s.heap x ⟨.ref C, none, .fields vs, sl⟩ C none := ⟨hx, rfl, rfl, True.intro⟩
  obtain ⟨cd, hc, hd, bm, hmr, htl⟩ := c.cls
  refine PySem.W.set_plain X J c.sa (xc_osa (s := { s with toks := s.toks + 1 }) c X J ht fun b => ?_)
  refine wpAny_bind (wpAny_pure (wpAny_bind (wpAny_bind (wpAny_loadPart hx (wpAny_bind (PySem.W.Looks.here (s := { s with toks := s.toks + 1 }) (PySem.W.looks_clsIn X hc) ?_))))))
  rw [hd]
  have hx1 : (s.heap.push { cls := .type "dict", data := .dict #[] }).get? x = some ⟨.ref C, none, .fields vs, sl⟩ := Heap.get?_push_of_some _ hx
  have hxs : x ≠ s.heap.objs.size := Nat.ne_of_lt (Heap.lt_size hx)
  refine wpAny_bind (wpAny_alloc' ?_)
  refine wpAny_bind (wpAny_update' hx1 ?_)
  refine wpAny_pure ?_
  have hgd : ((s.heap.push { cls := .type "dict", data := .dict #[] }).update x fun o => { o with dict := some s.heap.objs.size }).get? s.heap.objs.size = some { cls := .type "dict", data := .dict #[] } :=
    (Heap.get?_update_ne _ _ _ _ hxs.symm).trans (Heap.get?_push_at rfl rfl)
  have hnd : ((s.heap.push { cls := .type "dict", data := .dict #[] }).update x fun o => { o with dict := some s.heap.objs.size }).Ns s.heap.objs.size (fun _ => none) :=
    ⟨_, #[], _, hgd, rfl, fun e he => absurd he (by simp), fun _ => rfl⟩
  show wpAny _ _ (storeInDict s.heap.objs.size (.str name _) name v) _ _ _
  unfold storeInDict newKeyGuard
  refine wpAny_bind (wpAny_pure (wpAny_bind (wpAny_nsSet1 (Heap.Ns1.of_empty hnd) fun h' hn' hs => ?_)))
  obtain ⟨oD, esD, epD, hoD, hdD, hcD⟩ := hn'.count (Within.cons name v Within.nil)
  refine wpAny_bind (wpAny_lookBehind hoD (by rw [hdD]; exact pastItsLine_dict (Nat.le_trans hcD (by rw [List.length_cons, List.length_nil, sizeLine_eq]; omega))) ?_)
  refine wpAny_pure (hq h' hn' ((hs.2 x hxs).trans (Heap.get?_update_self _ hx1 rfl)) fun b o hb hbo => ?_)
  exact (hs.2 b (Nat.ne_of_lt (Heap.lt_size hbo))).trans ((Heap.get?_update_ne _ _ _ _ hb).trans (Heap.get?_push_of_some _ hbo))
theorem xc_set1 {Q : Unit → Shared → Prop} {dx : Addr} {mA : Str → Option Value} {ns : List Str} {vs : Array Value} {sl : Array (Option Value)} (c : XC K C) (X : K.In s.heap) (hx : s.heap.get? x = some ⟨.ref C, some dx, .fields vs, sl⟩) (hn : s.heap.Ns1 dx mA)
    (hw : Within mA ns) (hz : ns.length ≤ sizeLine) (ht : PySem.W.findIn K (.ref C) name = some none)
    (hq : ∀ h', h'.Ns1 dx (fun y => if y = name then some v else mA y) → Heap.SameBut dx s.heap h' → Q () { s with heap := h', toks := s.toks + 2 }) :
    wpAny (model prog w) A (setAttr (.ref x) name v) Q E s := by
  obtain ⟨od, _, _, hod, _⟩ := id hn
  have J : PySem.W.InstAt s.heap x ⟨.ref C, some dx, .fields vs, sl⟩ C (some od) := ⟨hx, rfl, rfl, hod⟩
  obtain ⟨cd, hc, hd, bm, hmr, htl⟩ := c.cls
  refine PySem.W.set_plain X J c.sa (xc_osa (s := { s with toks := s.toks + 1 }) c X J ht fun b => ?_)
  refine wpAny_bind (wpAny_pure (wpAny_bind (wpAny_bind (wpAny_loadPart hx (wpAny_bind (PySem.W.Looks.here (s := { s with toks := s.toks + 1 }) (PySem.W.looks_clsIn X hc) ?_))))))
  rw [hd]
  refine wpAny_pure (a := some dx) (wpAny_bind (wpAny_pure (wpAny_bind ?_)))
  refine wpAny_nsSet1 (s := { s with toks := s.toks + 1 }) hn fun h' hn2 hs2 => ?_
  obtain ⟨oD, esD, epD, hoD, hdD, hcD⟩ := hn2.count (Within.cons name v hw)
  refine wpAny_bind (wpAny_lookBehind hoD (by rw [hdD]; exact pastItsLine_dict (Nat.le_trans hcD (by rw [List.length_cons]; omega))) ?_)
  exact wpAny_pure (hq _ hn2 hs2)
theorem xc_check {M : Model} {ox : Obj} {od : Option Obj} {nameV : Value} {Q : Unit → Shared → Prop} (c : XC K C) (X : K.In s.heap) (I : PySem.W.InstAt s.heap x ox C od) (hq : Q () s) :
    wpAny M A (checkBuiltinCall "BaseException.__getattribute__" ⟨[.ref x, nameV], []⟩) Q E s := by
  have sub : PySem.W.Looks M s.heap (isInstance (.ref x) (.type "BaseException")) true := I.type.andThen (PySem.W.looks_mroIn X (c.mro X (by decide +kernel)))
  exact @PySem.W.check_slot M _ _ s "BaseException.__getattribute__" "BaseException" "__getattribute__" (.ref x) [nameV] [] _ (by decide +kernel) (by decide +kernel) sub (PySem.F.args_bexc_ga (.ref x) nameV) hq
theorem xc_by {fill expr : Bool} {tk : Tok} {Q : Value → Shared → Prop} {ox : Obj} {od : Option Obj} (c : XC K C) (X : K.In s.heap) (I : PySem.W.InstAt s.heap x ox C od)
    (h : wpAny (model prog w) A.in1 (Builtin.«object.__getattribute__» ⟨[.ref x, .str name tk], []⟩)
      (fun fin s' => match fin with | .done (.ret v) => wpAny (model prog w) A (handedOut v) Q E s' | _ => False) (fun _ _ => False) s) : wpAny (model prog w) A (getAttrBy (.ref x) (.str name tk) fill expr) Q E s := by
  obtain ⟨hh, g, d, t, os⟩ := s
  have l0 := I.type (M := model prog w)
  have l1 := PySem.W.looks_findIn (M := model prog w) X c.ga
  have l2 := PySem.W.looks_findIn (M := model prog w) X c.gt
  have f3 := PySem.F.excAttr_ValueError.ga.bind (.ref x)
  have e2 : (Value.builtin "BaseException.__getattribute__" == Value.builtin "object.__getattribute__") = false := by decide +kernel
  unfold getAttrBy
  refine wpAny_holding (wpAny_bind (l0.at (wpAny_bind (l1.at ?_))))
  show wpAny _ _ (if (onTheHeap (Value.ref C) && Value.builtin "BaseException.__getattribute__" == Value.builtin "object.__getattribute__") = true then _ else _) _ _ _
  rw [e2, Bool.and_false, if_neg (by decide)]
  unfold getAttrByItsOwn hookBefore
  rw [if_pos (show onTheHeap (Value.ref C) = true from rfl)]
  refine wpAny_bind (l2.at (wpAny_bind (wpAny_attempt (wpAny_holding ?_))))
  unfold callGetattribute
  rw [if_neg (by cases expr <;> decide)]
  unfold boundAndCalled
  rw [f3]
  refine wpAny_bind (wpAny_pure (wpAny_call (codeAny_call_builtin PySem.F.excAttr_ValueError.ga.plain PySem.F.entry_bexc_ga (xc_check (s := ⟨hh, g, d, t, os⟩) c X I ?_))))
  refine wpAny_mono h (fun fin s' z => ?_) fun _ _ z => z.elim
  rcases fin with (_ | _ | _ | _) | _ <;> first | exact z | exact z.elim
theorem xc_get {expr : Bool} {Q : Value → Shared → Prop} {ox od : Obj} (c : XC K C) (X : K.In s.heap) (I : PySem.W.InstAt s.heap x ox C (some od)) (ht : PySem.W.findIn K (.ref C) name = some none) (hl : PySem.W.lookIn name od = some (some v))
    (hv : PySem.W.handedIn v = true) (h : Q v { s with toks := s.toks + 1 }) : wpAny (model prog w) A (getAttr (.ref x) name expr) Q E s := by
  obtain ⟨hh, g, d, t, os⟩ := s
  obtain ⟨cd, hc, hd, bm, hmr, htl⟩ := c.cls
  have l0 := I.type (M := model prog w)
  have hf : PySem.W.findObj K C (some od) name = some (.value v) := by
    unfold PySem.W.findObj PySem.W.ownOf
    simp only [hc, ht, hd, hl, Option.bind_some, if_true]
  have l3 := PySem.W.looks_find (M := model prog w) X I hf
  unfold getAttr
  refine wpAny_bind (wpAny_mkText (xc_by (s := ⟨hh, g, d, t + 1, os⟩) c X I ?_))
  refine wpAny_bind (wpAny_pure (wpAny_bind (wpAny_pure (wpAny_bind (l0.at (wpAny_bind (l3.at ?_)))))))
  refine wpAny_pure ?_
  show wpAny _ _ (handedOut v) _ _ _
  rw [PySem.W.handedOut_of hv]; exact wpAny_pure h
theorem xc_class {Q : Option Value → Shared → Prop} {ox : Obj} {od : Option Obj} (c : XC K C) (X : K.In s.heap) (I : PySem.W.InstAt s.heap x ox C od) (h : Q (some (.ref C)) { s with toks := s.toks + 1 }) :
    wpAny (model prog w) A (getAttr? (.ref x) "__class__") Q E s := by
  obtain ⟨hh, g, d, t, os⟩ := s
  obtain ⟨cd, hc, hd, bm, hmr, htl⟩ := c.cls
  have l0 := I.type (M := model prog w)
  have hf : PySem.W.findObj K C od "__class__" = some (.bind (.builtin "getset_descriptor.__get__") (.builtin "object.__class__")) := by
    unfold PySem.W.findObj
    simp only [hc, c.cl, c.cg, c.ct, Option.bind_some]
  have l3 := PySem.W.looks_find (M := model prog w) X I hf
  unfold getAttr? getAttrBy?
  refine wpAny_bind (wpAny_mkText (wpAny_bind (wpAny_attempt ?_)))
  refine xc_by (s := ⟨hh, g, d, t + 1, os⟩) c X I ?_
  refine wpAny_bind (wpAny_pure (wpAny_bind (wpAny_pure (wpAny_bind (l0.at (wpAny_bind (l3.at ?_)))))))
  show wpAny _ _ (holding [Value.builtin "object.__class__"] (call (.builtin "getset_descriptor.__get__") [.builtin "object.__class__", .ref x, .ref C]) >>= ret) _ _ _
  refine wpAny_bind (wpAny_holding (wpAny_call (PySem.W.class_get (s := ⟨hh, g, d, t + 1, os⟩) (ox := ox) (od := od) X I (c.mro X (by decide +kernel)) ?_)))
  refine wpAny_pure ?_
  show wpAny _ _ (handedOut (.ref C)) _ _ _
  rw [PySem.W.handedOut_of rfl]
  exact wpAny_pure (wpAny_pure h)
theorem xc_kit {od : Option Obj} {ox : Obj} (c : XC K C) : PySem.W.KitX K (.ref x) (.ref C) (fun h => PySem.W.InstAt h x ox C od) where
  ty := fun _ _ _ I => I.type
  it := fun _ _ X _ => by
    obtain ⟨nm, qn, N, bs, bm, sn, sub, ab, col, dd, k0, k1, k2, k3, k5, hl, htl⟩ := xc_obj c.ex
    intro A' Q' E' s' k q
    unfold isType loadHead
    exact wpAny_bind (wpAny_loadPart (k _ _ (X _ _ hl)) (wpAny_pure q))
  ne := fun h tp dd its n sl X htp => by
    obtain ⟨nm, qn, N, bs, bm, sn, sub, ab, col, dd, k0, k1, k2, k3, k5, hl, htl⟩ := xc_obj c.ex
    refine Bool.eq_false_iff.mpr fun q => ?_
    have e : C = tp := Value.ref.inj (beq_iff_eq.mp q)
    subst e
    have z := congrArg Obj.cls (Option.some.inj ((X _ _ hl).symm.trans htp))
    exact absurd (Value.type.inj z) (by decide)
  ca := fun X I k => xc_class c X I k
end
end L2
set_option Elab.async false
set_option linter.all false
set_option maxRecDepth 100000
set_option maxHeartbeats 4000000
namespace L2
open PySem PySem.Spec PyProof.Rows
noncomputable def exG (n : Bool) (a C : Addr) (od : Option Addr) : HO := .ext fun h => ∃ vs sl, h.get? a = some ⟨.ref C, od, .fields vs, sl⟩ ∧ (n = true → vs[1]? = some .none)
noncomputable abbrev exO (a C : Addr) (od : Option Addr) : HO := exG true a C od
noncomputable def xdO (dx : Addr) (fs : List (Str × V)) : HO := .ext fun h => ∃ mA, h.Ns1 dx mA ∧ ∀ f, RelO (fs.lookup f) (mA f)
section
variable {P : Program} {w : World} {H : Hp} {h : Heap} {a C dx : Addr} {od : Option Addr} {fs : List (Str × V)}
theorem exG_ok {n : Bool} : ObjOk P w H h a (exG n a C od) ↔ ∃ vs sl, h.get? a = some ⟨.ref C, od, .fields vs, sl⟩ ∧ (n = true → vs[1]? = some .none) :=
  ⟨fun x => x.1, fun ⟨vs, sl, e, z⟩ => ⟨⟨vs, sl, e, z⟩, ⟨_, e⟩, fun h1 h2 ⟨vs, sl, e, z⟩ k => ⟨vs, sl, k _ e, z⟩⟩⟩
theorem exO_ok : ObjOk P w H h a (exO a C od) ↔ ∃ vs sl, h.get? a = some ⟨.ref C, od, .fields vs, sl⟩ ∧ (true = true → vs[1]? = some .none) := exG_ok
theorem xdO_ok : ObjOk P w H h dx (xdO dx fs) ↔ ∃ mA, h.Ns1 dx mA ∧ ∀ f, RelO (fs.lookup f) (mA f) :=
  ⟨fun x => x.1, fun ⟨mA, n, r⟩ => ⟨⟨mA, n, r⟩, (let ⟨o, _, _, e, _⟩ := n; ⟨o, e⟩), fun h1 h2 ⟨mA, n, r⟩ k => ⟨mA, (let ⟨o, es, ep, e, z⟩ := n; ⟨o, es, ep, k _ e, z⟩), r⟩⟩⟩
end
noncomputable def xcMro (K : PySem.W.Frag) (C B : Addr) : Bool := (PySem.W.clsIn K C).any fun cd => cd.mro == .ref C :: .ref B :: xB
section
variable {K : PySem.W.Frag} {C B D : Addr}
theorem XC.ty (c : XC K C) : PySem.W.typeIn K (.ref C) = some (.type "type") := by
  obtain ⟨nm, qn, N, bs, bm, sn, sub, ab, col, dd, k0, k1, k2, k3, k5, hl, htl⟩ := xc_obj c.ex
  show Option.map (fun x => x.cls) (List.lookup C K) = _
  rw [hl]
  rfl
theorem xc_kitR (c : XC K C) (hm : xcMro K C B = true) (d : XC K D) : PySem.W.kitOne K (.ref C) (.ref D) = some (C == D || D == B) := by
  unfold PySem.W.kitOne
  by_cases e : C = D
  · subst e; simp
  · have e1 : (Value.ref C == Value.ref D) = false := beq_eq_false_iff_ne.mpr fun q => e (Value.ref.inj q)
    have e2 : (C == D) = false := beq_eq_false_iff_ne.mpr e
    rw [if_neg (by rw [e1]; decide), e2, Bool.false_or]
    unfold PySem.W.kitCls
    obtain ⟨cd, hc, _⟩ := d.cls
    dsimp only
    rw [if_pos (by rw [hc, d.ty]; rfl)]
    show PySem.W.mroIn K C (.ref D) = _
    obtain ⟨cd, hc, hx⟩ := PySem.W.any_some hm
    unfold PySem.W.mroIn
    rw [hc, Option.bind_some, beq_iff_eq.mp hx, if_neg (by simp)]
    rw [List.contains_cons, List.contains_cons, show xB.contains (Value.ref D) = false from rfl, Bool.or_false]
    congr 1
    rw [show (Value.ref D == Value.ref C) = false from beq_eq_false_iff_ne.mpr fun q => e (Value.ref.inj q).symm, Bool.false_or]
    by_cases eb : D = B
    · subst eb; simp
    · rw [show (D == B) = false from beq_eq_false_iff_ne.mpr eb, beq_eq_false_iff_ne.mpr fun q => eb (Value.ref.inj q)]
end
section
variable {X : Cx} {pins : List (Addr × Obj)} {σ : St} {H : Hp} {s : Shared} {a C dx : Addr} {fs : List (Str × V)} {f : Str} {v : V} {A : Around} {E : Value → Shared → Prop}
theorem getx_ok {n' b : Bool} {Q : Value → Shared → Prop} (I : Inv X pins σ H s) (e : H a = some (exG n' a C (some dx))) (ed : H dx = some (xdO dx fs)) (c : XC X.K C) (n : NoAttr X.K C f) (l : fs.lookup f = some v)
    (h : ∀ u s', Inv X pins σ H s' → RelV v u → Q u s') : wpAny (model X.prog X.w) A (getAttr (.ref a) f b) Q E s := by
  obtain ⟨vs, sl, e1, _⟩ := exG_ok.mp (I.hok a _ e)
  obtain ⟨mA, hn, r⟩ := xdO_ok.mp (I.hok dx _ ed)
  obtain ⟨u, hu, ru⟩ := RelO.some_of (v := v) (o := mA f) (by rw [← l]; exact r f)
  obtain ⟨od, hod, hl⟩ := lookIn_ns hn
  exact xc_get c I.kIn ⟨e1, rfl, rfl, hod⟩ n (by rw [hl, hu]) (handed_of ru) (h u _ (I.tok _) ru)
theorem within_xd {mA : Str → Option Value} (r : ∀ f, RelO (fs.lookup f) (mA f)) : PySem.Within mA (fs.map (·.1)) := fun g hg => by
  cases q : fs.lookup g with
  | none => exact absurd (RelO.none_of (by rw [← q]; exact r g)) hg
  | some v => exact List.mem_map.mpr ⟨(g, v), PySem.mem_of_lookup q, rfl⟩
theorem setx0_ok {y : V} {u : Value} {Q : Unit → Shared → Prop} (I : Inv X pins σ H s) (e : H a = some (exO a C none)) (c : XC X.K C) (n : NoAttr X.K C f) (ry : RelV y u)
    (h : ∀ dx s', H dx = none → dx ≠ a → Inv X pins σ (upd (upd H dx (xdO dx [(f, y)])) a (exO a C (some dx))) s' → Q () s') : wpAny (model X.prog X.w) A (setAttr (.ref a) f u) Q E s := by
  obtain ⟨vs, sl, e1, e1n⟩ := exO_ok.mp (I.hok a _ e)
  refine xc_set0 c I.kIn e1 n fun h' hn he hk => ?_
  have hf : H s.heap.objs.size = none := I.hok.fresh (Nat.le_refl _)
  have hne : s.heap.objs.size ≠ a := Nat.ne_of_gt (Heap.lt_size e1)
  have na : ∀ b, H b = none → b ≠ a := fun b q z => by rw [z, e] at q; cases q
  have nd : ∀ b u, H b = some u → b ≠ s.heap.objs.size := fun b u q z => by rw [z, hf] at q; cases q
  have nb : ∀ b o, s.heap.get? b = some o → b ≠ s.heap.objs.size := fun b o q => Nat.ne_of_lt (Heap.lt_size q)
  have hu : ∀ b o, H b = some o → b ≠ a → upd (upd H s.heap.objs.size (xdO s.heap.objs.size [(f, y)])) a (exO a C (some s.heap.objs.size)) b = some o := fun b o q z => by rw [upd_ne z, upd_ne (nd b o q)]; exact q
  refine h _ _ hf hne (I.un ⟨fun b o q z _ _ => hk b o (na b z) q, fun b o q z _ _ => ⟨o.slots, hk b o (na b z) q⟩, fun b o q z _ => by rw [upd_ne (na b z), upd_ne (nb b o q)]; exact z, fun b o q _ => ?_,
    fun b xs q => hu b _ q fun z => ?_, fun b o u q => hu b _ q fun z => ?_, fun b ps q => ⟨#[], ?_⟩⟩ fun b o q => ?_)
  · by_cases z : b = a
    · subst z; exact ⟨_, he⟩
    · exact ⟨o, hk b o z q⟩
  · rw [z, e] at q; cases q
  · rw [z, e] at q; cases q
  · rw [Array.append_empty]
    exact hu b _ q fun z => by rw [z, e] at q; cases q
  · by_cases z : b = a
    · subst z
      rw [upd_same] at q; cases q
      exact exO_ok.mpr ⟨_, _, he, e1n⟩
    · rw [upd_ne z] at q
      by_cases z2 : b = s.heap.objs.size
      · subst z2
        rw [upd_same] at q; cases q
        refine xdO_ok.mpr ⟨_, hn, fun g => ?_⟩
        show RelO (List.lookup g [(f, y)]) (if g = f then some u else none)
        by_cases q : g = f
        · have hb : (g == f) = true := beq_iff_eq.mpr q
          simp only [List.lookup, hb, if_pos q]; exact ry
        · have hb : (g == f) = false := beq_eq_false_iff_ne.mpr q
          simp only [List.lookup, hb, if_neg q]; exact True.intro
      · rw [upd_ne z2] at q
        refine (I.hok b o q).stay (fun c v hc r => hk c v (fun z3 => ?_) r) (fun c r => hu c _ r fun z3 => ?_) fun c xs r => hu c _ r fun z3 => ?_
        · subst z3
          rcases hc with hc | hc
          · exact z hc.symm
          · rw [e] at hc; cases hc
        · rw [z3, e] at r; cases r
        · rw [z3, e] at r; cases r
theorem setx1_ok {y : V} {u : Value} {Q : Unit → Shared → Prop} (I : Inv X pins σ H s) (e : H a = some (exO a C (some dx))) (ed : H dx = some (xdO dx fs)) (c : XC X.K C) (n : NoAttr X.K C f) (hl : fs.length < 1000) (ry : RelV y u)
    (h : ∀ s', Inv X pins σ (upd H dx (xdO dx (putF f y fs))) s' → Q () s') : wpAny (model X.prog X.w) A (setAttr (.ref a) f u) Q E s := by
  obtain ⟨vs, sl, e1, e1n⟩ := exO_ok.mp (I.hok a _ e)
  obtain ⟨mA, hn, r⟩ := xdO_ok.mp (I.hok dx _ ed)
  refine xc_set1 c I.kIn e1 hn (within_xd r) (by rw [List.length_map, sizeLine_eq]; omega) n fun h' hn' hs => h _ ?_
  have hd : ∃ o, h'.get? dx = some o := let ⟨o, _, _, e', _⟩ := hn'; ⟨o, e'⟩
  refine I.write (x := dx) (e := dx) (by rw [ed]; exact True.intro) (.inl rfl) (fun b q hb z => (hs.2 b hb).trans z) hd (xdO_ok.mpr ⟨_, hn', fun g => ?_⟩)
  rw [lookup_putF]
  by_cases q : g = f
  · rw [if_pos q]
    show RelO (some y) (if g = f then some u else mA g)
    rw [if_pos q]; exact ry
  · rw [if_neg q]
    show RelO _ (if g = f then some u else mA g)
    rw [if_neg q]; exact r g
end
noncomputable def rFldX (K : PySem.W.Frag) (f : Str) : V → Hp → VK → Prop := fun x H1 Q => ∃ n a C dx fs v, x = .ref a ∧ H1 a = some (exG n a C (some dx)) ∧ H1 dx = some (xdO dx fs) ∧ XC K C ∧ NoAttr K C f ∧ fs.lookup f = some v ∧ Q v H1
noncomputable def tFldX (K : PySem.W.Frag) (ta : TE) (f : Str) : TE := fun σ H Q => ta σ H fun x H1 => rFldX K f x H1 Q
noncomputable def rStX (K : PySem.W.Frag) (f : Str) (y : V) : V → Hp → (Hp → Prop) → Prop := fun x H2 R => ∃ a C, x = .ref a ∧ XC K C ∧ NoAttr K C f ∧
  ((H2 a = some (exO a C none) ∧ ∀ dx, H2 dx = none → dx ≠ a → R (upd (upd H2 dx (xdO dx [(f, y)])) a (exO a C (some dx)))) ∨
    ∃ dx fs, H2 a = some (exO a C (some dx)) ∧ H2 dx = some (xdO dx fs) ∧ fs.length < 1000 ∧ R (upd H2 dx (xdO dx (putF f y fs))))
noncomputable def sFldX (K : PySem.W.Frag) (ta tv : TE) (f : Str) : TS := fun D σ H => tv σ H fun y H1 => ta σ H1 fun x H2 => rStX K f y x H2 fun H3 => D.nx σ H3
section
variable {X : Cx} {o e value : Expr} {f : Str} {pos pos' tpos : Pos} {ta tv : TE}
theorem pe_fldX (he : PE X e ta) (hb : attributeBase e f X.env (eval e X.env) = eval e X.env) : PE X (.Attribute e f pos) (tFldX X.K ta f) := by
  intro pins s σ H Q I h
  refine attr_of hb (thn (he pins s σ H _ I h) fun u s1 ⟨x, H1, I1, rx, n', a, C, dx, fs, v, ex, ea, ed, c, n, l, q⟩ => ?_)
  subst ex
  obtain rfl : u = Value.ref a := rx
  exact getx_ok I1 ea ed c n l fun u' s2 I2 ru => ⟨v, H1, I2, ru, q⟩
theorem ps_fldX (ha : PE X o ta) (hv : PE X value tv) (hs : swapsWith value (some (.Attribute o f pos')) pos.line X.env = pure false) : PS X (.Assign [.Attribute o f pos'] value pos) (sFldX X.K ta tv f) := by
  intro pins s σ H D I h
  refine plainObj_wpAny_Assign_Attribute (thn (hv pins s σ H _ I h) fun u s1 ⟨y, H1, I1, ry, q⟩ => thn (ha pins s1 σ H1 _ I1 q) fun ov s2 ⟨x, H2, I2, rx, a, C, ex, c, n, q2⟩ => ?_) hs
  subst ex
  obtain rfl : ov = Value.ref a := rx
  rcases q2 with ⟨ea, q2⟩ | ⟨dx, fs, ea, ed, l, q2⟩
  · exact setx0_ok I2 ea c n ry fun dx s3 h1 h2 I3 => ⟨σ, _, I3, q2 dx h1 h2⟩
  · exact setx1_ok I2 ea ed c n l ry fun s3 I3 => ⟨σ, _, I3, q2⟩
end
end L2
set_option Elab.async false
set_option linter.all false
set_option maxRecDepth 100000
set_option maxHeartbeats 4000000
namespace L2
open PySem PySem.Spec PyProof.Rows
noncomputable def ExB (n : Bool) (H : Hp) (a C : Addr) (fs : List (Str × V)) : Prop := (fs = [] ∧ H a = some (exG n a C none)) ∨ ∃ dx, dx ≠ a ∧ H a = some (exG n a C (some dx)) ∧ H dx = some (xdO dx fs)
noncomputable abbrev ExA (H : Hp) (a C : Addr) (fs : List (Str × V)) : Prop := ExB true H a C fs
theorem ExB.inst {n : Bool} {P : Program} {w : World} {H : Hp} {h : Heap} {a C : Addr} {fs : List (Str × V)} (e : ExB n H a C fs) (x : HOk P w H h) : ∃ ox od, PySem.W.InstAt h a ox C od := by
  rcases e with ⟨_, e⟩ | ⟨dx, _, e, d⟩
  · obtain ⟨vs, sl, q, _⟩ := exG_ok.mp (x a _ e)
    exact ⟨_, none, q, rfl, rfl, True.intro⟩
  · obtain ⟨vs, sl, q, _⟩ := exG_ok.mp (x a _ e)
    obtain ⟨mA, hn, _⟩ := xdO_ok.mp (x dx _ d)
    obtain ⟨o, _, _, ho, _⟩ := hn
    exact ⟨_, some o, q, rfl, rfl, ho⟩
theorem ExB.same {n : Bool} {H H' : Hp} {a C : Addr} {fs : List (Str × V)} (e : ExB n H a C fs) (s : ∀ b o, H b = some o → H' b = some o) : ExB n H' a C fs := by
  rcases e with ⟨e1, e⟩ | ⟨dx, ne, e, d⟩
  · exact .inl ⟨e1, s _ _ e⟩
  · exact .inr ⟨dx, ne, s _ _ e, s _ _ d⟩
noncomputable def rIsX (K : PySem.W.Frag) : List V → Hp → VK → Prop := fun xs H Q => ∃ n a C fs b, ExB n H a C fs ∧ XC K C ∧
  ((∃ c, xs = [.ref a, .ref c] ∧ PySem.W.kitOne K (.ref C) (.ref c) = some b) ∨ (∃ c, xs = [.ref a, .ty c] ∧ PySem.W.kitOne K (.ref C) (.type c) = some b) ∨
    ∃ (p : Addr) (cs : List Addr), xs = [.ref a, .ref p] ∧ H p = some (.tup (cs.map V.ref)) ∧ PySem.W.kitAny K (.ref C) (cs.map Value.ref) = some b) ∧ Q (.bl b) H
theorem vals_refs : ∀ {cs : List Addr} {us : List Value}, Vals (cs.map V.ref) us → us = cs.map Value.ref
  | [], us, r => by cases us with | nil => rfl | cons _ _ => cases r
  | c :: cs, us, r => by
    cases us with
    | nil => cases r
    | cons u us =>
      cases r with
      | cons r1 r2 => rw [List.map_cons, vals_refs r2, show u = Value.ref c from r1]
theorem call_isX {X : Cx} : CallR X (.builtin "isinstance") (rIsX X.K) := by
  intro pins s σ H xs us Q I r h
  obtain ⟨n, a, C, fs, b, ea, c, hc, q⟩ := h
  obtain ⟨ox, od, J⟩ := ea.inst I.hok
  rcases hc with ⟨c', rfl, e⟩ | ⟨c', rfl, e⟩ | ⟨p, cs, rfl, hp, e⟩
  · obtain ⟨u, w', rfl, r1, r2⟩ := vals2 r
    cases r1; cases r2
    exact PySem.W.kia_one (xc_kit c) I.kIn J e (fun z => nomatch z) fun tk => ⟨.bl _, H, I.tok _, rfl, q⟩
  · obtain ⟨u, w', rfl, r1, r2⟩ := vals2 r
    cases r1; cases r2
    exact PySem.W.kia_one (xc_kit c) I.kIn J e (fun z => nomatch z) fun tk => ⟨.bl _, H, I.tok _, rfl, q⟩
  · obtain ⟨u, w', rfl, r1, r2⟩ := vals2 r
    cases r1; cases r2
    obtain ⟨_, its, ri, ob, g1, g2, ⟨n, g3⟩, g4⟩ := (show ObjOk X.prog X.w H s.heap p (.tup (cs.map V.ref)) from I.hok p _ hp)
    obtain rfl := vals_refs ri
    obtain ⟨oc, odd, oda, osl⟩ := ob
    dsimp only at g2 g3 g4
    subst g2 g3 g4
    exact PySem.W.kia_tup (xc_kit c) I.kIn J g1 e (fun z => nomatch z) fun tk => ⟨.bl _, H, I.tok _, rfl, q⟩
theorem call_isXK {X : Cx} {K : PySem.W.Frag} (hK : X.K = K := by with_unfolding_all rfl) : CallR X (.builtin "isinstance") (rIsX K) := hK ▸ call_isX
noncomputable def Mkx (P : Program) (w : World) (K : PySem.W.Frag) (mg : Str → Option Value) (base : Heap) (k : Nat) (C : Addr) (x : Str) (ps : List Str) (sp : Sp) : Prop :=
  ∃ f fd, FnOk P w K mg base CX0 k f fd ps sp ∧ XC K C ∧ PySem.W.findIn K (.ref C) "__init__" = some (some (.ref f)) ∧ PySem.W.isFn K (.ref f) = true ∧ PySem.W.keepIn K (.ref C) = true ∧ mg x = some (.ref C) ∧ Binds K fd ps []
noncomputable def xc0In (K : PySem.W.Frag) (C : Addr) : Bool := match K.lookup C with
  | some ⟨_, _, .cls cd, _⟩ => PySem.W.nsOkIn K cd.ns && PySem.W.nsIn K cd.ns "__init__" == some none
  | _ => false
structure Mkx0 (K : PySem.W.Frag) (mg : Str → Option Value) (C : Addr) (x : Str) : Prop where
  xc : XC K C
  no : xc0In K C = true
  kp : PySem.W.keepIn K (.ref C) = true
  gl : mg x = some (.ref C)
noncomputable def rMkX (C : Addr) (sp : Sp) (vs : List V) (H1 : Hp) (Q : VK) : Prop := vs.length ≤ 8 ∧ ∀ x, H1 x = none → sp (.ref x :: vs) (upd H1 x (exO x C none)) (fun v H2 => v = .non ∧ Q (.ref x) H2) E0
noncomputable def tMkX (C : Addr) (sp : Sp) (t : TA) : TE := fun σ H Q => t σ H fun vs H1 => rMkX C sp vs H1 Q
noncomputable def rMkX0 (C : Addr) (vs : List V) (H1 : Hp) (Q : VK) : Prop := vs.length ≤ 8 ∧ ∀ x, H1 x = none → Q (.ref x) (upd H1 x (exO x C none))
noncomputable def tMkX0 (C : Addr) (t : TA) : TE := fun σ H Q => t σ H fun vs H1 => rMkX0 C vs H1 Q
theorem hp_none {P : Program} {w : World} {H : Hp} {h : Heap} {a : Addr} (x : HOk P w H h) (n : h.get? a = none) : H a = none := by
  cases q : H a with
  | none => rfl
  | some o =>
    have t : ∀ o, ObjOk P w H h a o → ∃ u, h.get? a = some u := fun o z => by
      cases o with
      | lst xs => obtain ⟨_, _, _, _, e⟩ := z; exact ⟨_, e⟩
      | tup xs => obtain ⟨_, _, _, _, e, _⟩ := z; exact ⟨_, e⟩
      | dK kvs => obtain ⟨_, _, _, _, o, _, _, e, _⟩ := z; exact ⟨_, e⟩
      | dT kvs => obtain ⟨_, _, _, _, o, _, _, e, _⟩ := z; exact ⟨_, e⟩
      | set S n => obtain ⟨o, _, _, _, e, _⟩ := z; exact ⟨_, e⟩
      | ins C dx fs => obtain ⟨_, _, _, e, _⟩ := z; exact ⟨_, e⟩
      | own y => obtain ⟨_, e⟩ := z; exact ⟨_, e⟩
      | xd fs => obtain ⟨_, ⟨_, _, _, e, _⟩, _⟩ := z; exact ⟨_, e⟩
      | rng lo hi => obtain ⟨_, _, _, e⟩ := z; exact ⟨_, e⟩
      | frz ob u => obtain ⟨e, _⟩ := z; exact ⟨_, e⟩
      | tbl ps => exact ⟨_, z⟩
      | met f y => exact ⟨_, z⟩
      | ext φ => obtain ⟨_, e, _⟩ := z; exact e
    obtain ⟨u, e⟩ := t o (x a o q)
    rw [n] at e; cases e
section
variable {X : Cx} {k : Nat} {f C : Addr} {fd : FuncData} {ps : List Str} {sp : Sp} {x : Str} {p pos : Pos} {e : Expr} {es : List Expr} {t : TA} {pins : List (Addr × Obj)} {σ : St} {H : Hp} {s : Shared} {Q : VK} {us : List Value} {vs : List V}
theorem run_mkx (M : Mkx X.prog X.w X.K X.mg X.base k C x ps sp) (hr : Room (k + 1) X.A) (I : Inv X pins σ H s) (r : Vals vs us) (hz : vs.length ≤ 8)
    (h : ∀ x, H x = none → sp (.ref x :: vs) (upd H x (exO x C none)) (fun v H2 => v = .non ∧ Q (.ref x) H2) E0) :
    wpAny (model X.prog X.w) X.A (call (.ref C) us) (EP X pins σ Q) X.xe s := by
  obtain ⟨f, fd, F, c, hi, hf, hk, hm, hb⟩ := M
  have hq := h (s.heap.objs.size + 1) (I.hok.fresh (Nat.le_succ _))
  have r2 : Vals (V.ref (s.heap.objs.size + 1) :: vs) (Value.ref (s.heap.objs.size + 1) :: us) := .cons rfl r
  have hl : ((Value.ref (s.heap.objs.size + 1) :: us) ++ []).length = ps.length := by
    have e := r2.length
    rw [F.len _ _ _ _ hq] at e
    rw [List.append_nil]
    exact e.symm
  have hg1 : ((s.heap.push (tupO us)).push (excO C s.heap.objs.size)).get? (s.heap.objs.size + 1) = some (excO C s.heap.objs.size) := by heap_get
  have I2 : Inv X pins σ (upd H (s.heap.objs.size + 1) (exO (s.heap.objs.size + 1) C none)) { s with heap := (s.heap.push (tupO us)).push (excO C s.heap.objs.size) } :=
    I.laid (a := s.heap.objs.size + 1) (t' := s.toks) (fun b u q => Heap.get?_push_of_some _ (Heap.get?_push_of_some _ q)) (Nat.le_succ _) (exO_ok.mpr ⟨_, _, hg1, fun _ => rfl⟩)
  obtain ⟨hh, g, d, tk, os⟩ := s
  refine xc_make I.kIn c.ex hi (beq_iff_eq.mp hf) (by rw [← r.length, sizeLine_eq]; omega) (wpAny_call (codeAny_mono (F.run _ X.stack _ _ ⟨Value.ref (hh.objs.size + 1) :: us, []⟩ (Value.ref (hh.objs.size + 1) :: us) _ _ E0 (hr.make C us [])
    (I2.env0.make C us []) (by have := hb _ (Value.ref (hh.objs.size + 1) :: us) I2.kIn hl; rw [List.append_nil] at this; exact this) r2 hq) fun r s' hq' => ?_))
  cases r with
  | error e => exact False.elim hq'
  | ok fl =>
    cases fl with
    | ret u =>
      obtain ⟨v, H', I3, rv, ev, q3⟩ := I2.after hq'
      subst ev
      exact ⟨rv, ⟨V.ref (hh.objs.size + 1), H', I3, rfl, q3⟩⟩
    | next => exact False.elim hq'
    | brk => exact False.elim hq'
    | cont => exact False.elim hq'
theorem pe_xmk (M : Mkx X.prog X.w X.K X.mg X.base k C x ps sp) (hr : Room (k + 1) X.A) (hg : Gl X x) (ha : PA X (e :: es) t) (hdb : (x == ("__debug__" : Str)) = false := by decide)
    (he : starEach (e :: es) X.env = (false, eval e X.env) :: starEach es X.env := by with_unfolding_all rfl) (hpl : (backTo pos (starEach es X.env)).any (·.1) = false := by with_unfolding_all rfl) :
    PE X (.Call (.Name x p) (e :: es) [] pos) (tMkX C sp t) := by
  intro pins s σ H Q I h
  have M' := M
  obtain ⟨f, fd, F, c, hi, hf, hk, hm, hb⟩ := M'
  refine wpAny_Call_Name_kw (ld_glob I hg hm ?_ hdb)
  refine PySem.W.callWith_K (h₀ := X.base) I.ok.mod.kin hk (thn (ha pos pins s σ H _ I h) fun us s1 ⟨vs, H1, I1, r, z, q⟩ => ⟨I1.kIn, ?_⟩) he hpl
  exact run_mkx M hr I1 r z q
end
end L2
set_option Elab.async false
set_option linter.all false
set_option maxRecDepth 100000
set_option maxHeartbeats 4000000
namespace L2
open PySem PySem.Spec PyProof.Rows
noncomputable def spX (C : Addr) (fs : List Str) : Sp := fun vs H Q _ => ∃ a ws, vs = .ref a :: ws ∧ ws.length = fs.length ∧ H a = some (exO a C none) ∧
  ∀ dx H', H dx = none → dx ≠ a → (∀ b, b ≠ a → b ≠ dx → H' b = H b) → H' a = some (exO a C (some dx)) → H' dx = some (xdO dx (fs.zip ws)) → Q .non H'
section
variable {X : Cx} {K : PySem.W.Frag} {o e value : Expr} {f : Str} {pos pos' : Pos} {ta tv : TE}
theorem pe_fldXK (he : PE X e ta) (hb : attributeBase e f X.env (eval e X.env) = eval e X.env) (hK : X.K = K := by with_unfolding_all rfl) : PE X (.Attribute e f pos) (tFldX K ta f) := hK ▸ pe_fldX he hb
theorem ps_fldXK (ha : PE X o ta) (hv : PE X value tv) (hs : swapsWith value (some (.Attribute o f pos')) pos.line X.env = pure false) (hK : X.K = K := by with_unfolding_all rfl) : PS X (.Assign [.Attribute o f pos'] value pos) (sFldX K ta tv f) :=
  hK ▸ ps_fldX ha hv hs
end
section
variable {K : PySem.W.Frag} {σ : St} {H : Hp} {Q : VK} {D : Ends} {f : Str} {ta tv : TE} {t : TA} {sp : Sp} {C a dx B G : Addr} {fs : List (Str × V)} {v y : V} {R : Hp → Prop} {vs : List V}
theorem i_tFldX (k : ta σ H fun x H1 => rFldX K f x H1 Q) : tFldX K ta f σ H Q := k
theorem i_fldX {n' : Bool} (h : ExB n' H a C fs) (c : XC K C) (n : NoAttr K C f) (l : fs.lookup f = some v) (k : Q v H) : rFldX K f (.ref a) H Q := by
  rcases h with ⟨rfl, _⟩ | ⟨dx, _, h1, h2⟩
  · cases l
  · exact ⟨n', a, C, dx, fs, v, rfl, h1, h2, c, n, l, k⟩
theorem i_sFldX (k : tv σ H fun y H1 => ta σ H1 fun x H2 => rStX K f y x H2 fun H3 => D.nx σ H3) : sFldX K ta tv f D σ H := k
theorem i_stX0 (h : H a = some (exO a C none)) (c : XC K C) (n : NoAttr K C f) (k : ∀ dx H', H dx = none → dx ≠ a → (∀ b, b ≠ a → b ≠ dx → H' b = H b) → H' a = some (exO a C (some dx)) → H' dx = some (xdO dx [(f, y)]) → R H') : rStX K f y (.ref a) H R :=
  ⟨a, C, rfl, c, n, .inl ⟨h, fun dx h1 h2 => k dx _ h1 h2 (fun b hb hd => by rw [upd_ne hb, upd_ne hd]) upd_same (by rw [upd_ne h2, upd_same])⟩⟩
theorem i_tMkX (k : t σ H fun vs H1 => rMkX C sp vs H1 Q) : tMkX C sp t σ H Q := k
theorem i_mkX {gs : List Str} (hl : vs.length = gs.length) (hz : gs.length ≤ 8) (k : ∀ x H', H x = none → Same H H' → ExA H' x C (gs.zip vs) → Q (.ref x) H') : rMkX C (spX C gs) vs H Q := by
  refine ⟨by omega, fun x hx => ⟨x, vs, rfl, hl, upd_same, fun dx H' h1 h2 h3 h4 h5 => ⟨rfl, k x H' hx (fun b u q => ?_) (.inr ⟨dx, h2, h4, h5⟩)⟩⟩⟩
  have b1 : b ≠ x := ne_of_none q hx
  rw [upd_ne h2] at h1
  rw [h3 b b1 (ne_of_none q h1), upd_ne b1]
  exact q
theorem i_isX {n' b : Bool} (h : ExB n' H a C fs) (c : XC K C) (e : PySem.W.kitOne K (.ref C) (.ref G) = some b) (k : Q (.bl b) H) : rIsX K [.ref a, .ref G] H Q := ⟨n', a, C, fs, b, h, c, .inl ⟨G, rfl, e⟩, k⟩
theorem i_isXT {n' b : Bool} {T : String} (h : ExB n' H a C fs) (c : XC K C) (e : PySem.W.kitOne K (.ref C) (.type T) = some b) (k : Q (.bl b) H) : rIsX K [.ref a, .ty T] H Q := ⟨n', a, C, fs, b, h, c, .inr (.inl ⟨T, rfl, e⟩), k⟩
end
theorem xc_kitM {K : PySem.W.Frag} {C B : Addr} (hm : xcMro K C B = true) : PySem.W.kitOne K (.ref C) (.type "ValueError") = some true := by
  obtain ⟨cd, hc, hx⟩ := PySem.W.any_some hm
  unfold PySem.W.kitOne
  rw [if_neg (by rw [beq_eq_false_iff_ne.mpr (by intro q; cases q)]; decide)]
  unfold PySem.W.kitCls
  dsimp only
  rw [if_pos (by decide +kernel)]
  show PySem.W.mroIn K C _ = _
  unfold PySem.W.mroIn
  rw [hc, Option.bind_some, beq_iff_eq.mp hx, if_neg (by simp), List.contains_cons, List.contains_cons, show xB.contains (Value.type "ValueError") = true by decide +kernel, Bool.or_true, Bool.or_true]
end L2
set_option Elab.async false
set_option linter.all false
set_option maxRecDepth 100000
set_option maxHeartbeats 4000000
namespace L2
open PySem PySem.Spec PyProof.Rows
structure Lft (fs : List Addr) (a : Addr) (oe : Obj) (old : List Addr) (h h' : Heap) : Prop where
  keep : ∀ b o, b ∉ fs → b ≠ a → b ∉ old → h.get? b = some o → h'.get? b = some o
  slot : ∀ b o, b ∈ fs → h.get? b = some o → ∃ sl, h'.get? b = some { o with slots := sl }
  there : ∀ b o, h.get? b = some o → ∃ o', h'.get? b = some o'
  tr : ∃ oe' vs T oT ts, h'.get? a = some oe' ∧ oe'.cls = oe.cls ∧ oe'.dict = oe.dict ∧ oe'.slots = oe.slots ∧ oe'.data = .fields vs ∧ vs[1]? = some (.ref T) ∧ T ≠ a ∧ h.get? T = none ∧ h'.get? T = some oT ∧ oT.data = .fields ts ∧ ts[3]? = some .none
section
variable {M : Model} {A : Around} {E : Value → Shared → Prop} {s : Shared} {base : Heap} {env : Env} {outer : List Env} {L a : Addr} {oe : Obj} {vs : Array Value} {Q : Unit → Shared → Prop}
theorem mapF_dict (o : Obj) (g : Array Value → Array Value) : (o.mapFields g).dict = o.dict ∧ (o.mapFields g).slots = o.slots ∧ (o.mapFields g).cls = o.cls := by
  obtain ⟨c, d, dt, sl⟩ := o
  cases dt <;> exact ⟨rfl, rfl, rfl⟩
theorem lv_entry {head : Value} {hadNext : Bool} (hfr : A.frames = some (env :: outer)) (hl : s.heap.FunFrames base (env :: outer)) (hf : env.frame = some L) (he : s.heap.get? a = some oe) (hd : oe.data = .fields vs) (hsz : 1 < vs.size)
    (h : ∀ h', Lft (frs (env :: outer)) a oe [] s.heap h' → Q () { s with heap := h' }) :
    wpAny M A (do let x ← frameOf env; let pl ← entryPlaceOf L hadNext; let b ← EntryCells.newEntry head x .none (rawInt L) .none pl; setField (.ref a) 1 b) (fun _ s' => wpAny M A (setFlight (.ref a) none) Q E s') E s := by
  have ha : a ∉ frs (env :: outer) := fun hm => by
    obtain ⟨_, o, ho, hnf⟩ := hl.mem hm
    rw [he] at ho; cases ho; exact hnf vs hd
  refine wpAny_bind (wpAny_frameOf_fun hfr hl hf fun h1 k1 => ?_)
  refine wpAny_bind (wpAny_entryPlaceOf fun pl hpl => ?_)
  unfold EntryCells.newEntry newFields
  refine wpAny_bind (wpAny_newObj_type ?_ (hpl.sizeOk5 _ _ _ _ _))
  generalize hob : (Obj.mk (Value.type "traceback") none (Data.fields ([head, Value.ref L, Value.none, rawInt L, Value.none] ++ (if pl.isEmpty then List.replicate 6 Value.none else pl)).toArray) #[] : Obj) = ob
  have obd : ob.data = .fields ([head, Value.ref L, Value.none, rawInt L, Value.none] ++ (if pl.isEmpty then List.replicate 6 Value.none else pl)).toArray := by rw [← hob]
  have hob2 : ob.isFreed = false := Obj.isFreed_of_fields obd
  have he1 : h1.get? a = some oe := (k1.2.1 a ha).trans he
  have he2 := Heap.get?_push_of_some (h := h1) ob he1
  refine wpAny_setField he2 hd hsz ?_
  have hTe : h1.objs.size ≠ a := Nat.ne_of_gt (Heap.lt_size he1)
  have d3 := Obj.data_mapFields hd (·.setIfInBounds 1 (Value.ref h1.objs.size))
  have he3 := Heap.get?_update_self (Obj.mapFields (·.setIfInBounds 1 (Value.ref h1.objs.size))) he2 (Obj.isFreed_of_fields d3)
  have hT3 := (Heap.get?_update_other (h1.push ob) (Obj.mapFields (·.setIfInBounds 1 (Value.ref h1.objs.size))) (Ne.symm hTe)).trans (Heap.get?_push_size h1 hob2)
  unfold setFlight
  refine wpAny_bind (wpAny_field he3 d3 (x := .ref h1.objs.size) (by simp [hsz]) ?_)
  rw [if_pos (show (Value.ref h1.objs.size != Value.none) = true from by simp)]
  refine wpAny_setField hT3 obd (by simp only [List.size_toArray, List.length_append, List.length_cons, List.length_nil] <;> omega) (h _ ?_)
  have kp : ∀ b o, b ≠ a → h1.get? b = some o → (((h1.push ob).update a (Obj.mapFields (·.setIfInBounds 1 (Value.ref h1.objs.size)))).update h1.objs.size (Obj.mapFields (·.setIfInBounds 3 ((none : Option Addr).elim Value.none fun f => rawInt f)))).get? b = some o := fun b o hbe hb => by
    rw [Heap.get?_update_other _ _ (Nat.ne_of_gt (Heap.lt_size hb)), Heap.get?_update_other _ _ (Ne.symm hbe)]
    exact Heap.get?_push_of_some _ hb
  have hea := (Heap.get?_update_other _ (Obj.mapFields (·.setIfInBounds 3 ((none : Option Addr).elim Value.none fun f => rawInt f))) hTe).trans he3
  refine ⟨fun b o hb hba _ q => kp b o hba ((k1.2.1 b hb).trans q), fun b o hb q => ?_, fun b o q => ?_, ?_⟩
  · obtain ⟨sl, z⟩ := k1.2.2 b o q
    exact ⟨sl, kp b _ (fun w => ha (w ▸ hb)) z⟩
  · by_cases w : b = a
    · subst w; exact ⟨_, hea⟩
    · obtain ⟨sl, z⟩ := k1.2.2 b o q
      exact ⟨_, kp b _ w z⟩
  · obtain ⟨m1, m2, m3⟩ := mapF_dict oe (·.setIfInBounds 1 (Value.ref h1.objs.size))
    refine ⟨_, _, h1.objs.size, _, _, hea, m3, m1, m2, d3, by simp [hsz], hTe, Heap.get?_none_of_le (by rw [k1.1]; exact Nat.le_refl _), Heap.get?_update_self _ hT3 (Obj.isFreed_of_fields (Obj.data_mapFields obd _)), Obj.data_mapFields obd _, ?_⟩
    rcases hpl with rfl | ⟨_, _, _, _, _, _, _, rfl⟩ <;> simp
theorem lv_first (hfr : A.frames = some (env :: outer)) (hl : s.heap.FunFrames base (env :: outer)) (hf : env.frame = some L) (he : s.heap.get? a = some oe) (hd : oe.data = .fields vs) (h1 : vs[1]? = some .none)
    (h : ∀ h', Lft (frs (env :: outer)) a oe [] s.heap h' → Q () { s with heap := h' }) : wpAny M A (leaving env (.ref a)) Q E s := by
  unfold leaving noteFrame
  simp only [hf]
  refine wpAny_bind (wpAny_bind (wpAny_field he hd h1 ?_))
  rw [if_neg (by decide)]
  exact lv_entry hfr hl hf he hd (Array.getElem?_eq_some_iff.mp h1).1 h
theorem lv_nextS {T : Addr} {oT : Obj} {ts : Array Value} (hfr : A.frames = some (env :: outer)) (hl : s.heap.FunFrames base (env :: outer)) (hf : env.frame = some L) (he : s.heap.get? a = some oe) (hd : oe.data = .fields vs) (h1 : vs[1]? = some (.ref T))
    (hTe : T ≠ a) (hT : s.heap.get? T = some oT) (hdT : oT.data = .fields ts) (h3 : ts[3]? = some .none)
    (h : ∀ h', Lft (frs (env :: outer)) a oe [T] s.heap h' → Q () { s with heap := h' }) : wpAny M A (noteFrame (.ref a) env) (fun _ s' => wpAny M A (setFlight (.ref a) none) Q E s') E s := by
  unfold noteFrame
  simp only [hf]
  refine wpAny_bind (wpAny_field he hd h1 ?_)
  rw [if_pos (show (Value.ref T != Value.none) = true from by simp)]
  refine wpAny_bind (wpAny_field hT hdT h3 ?_)
  rw [if_neg (show ¬ ((Value.none == rawInt L) = true) from by simp [rawInt])]
  refine wpAny_bind (wpAny_setField hT hdT (Array.getElem?_eq_some_iff.mp h3).1 ?_)
  have ot : ∀ b, b ≠ T → (s.heap.update T (Obj.mapFields (·.setIfInBounds 3 Value.none))).get? b = s.heap.get? b := fun b hb => Heap.get?_update_other _ _ (Ne.symm hb)
  have tt := Heap.get?_update_self (Obj.mapFields (·.setIfInBounds 3 Value.none)) hT (Obj.isFreed_of_fields (Obj.data_mapFields hdT _))
  have nT : ∀ b o, s.heap.get? b = some o → (∀ us, o.data ≠ .fields us) → b ≠ T := fun b o hb hnf q => by
    rw [q, hT] at hb; cases hb; exact hnf ts hdT
  have fT : T ∉ frs (env :: outer) := fun hm => by
    obtain ⟨_, o, ho, hnf⟩ := hl.mem hm
    exact nT T o ho hnf rfl
  refine lv_entry (hl := hl.of_keeps fun b o hb hnf => ⟨o, (ot b (nT b o hb hnf)).trans hb, rfl⟩) hfr hf ((ot a (Ne.symm hTe)).trans he) hd (Array.getElem?_eq_some_iff.mp h1).1 fun h' l => h h' ?_
  obtain ⟨x1, x2, x3, oe', us, T', oT', ts', q1, q2, q3, q4, q5, q6, q7, q8, q9⟩ := l
  refine ⟨fun b o hb hba hbt q => x1 b o hb hba (by simp) ((ot b fun z => hbt (by simp [z])).trans q), fun b o hb q => x2 b o hb ((ot b fun z => fT (z ▸ hb)).trans q), fun b o q => ?_, oe', us, T', oT', ts', q1, q2, q3, q4, q5, q6, q7, ?_, q9⟩
  · by_cases z : b = T
    · subst z; exact x3 _ _ tt
    · exact x3 b o ((ot b z).trans q)
  · by_cases z : T' = T
    · rw [z, tt] at q8; cases q8
    · rw [← ot T' z]; exact q8
theorem lv_next {T : Addr} {oT : Obj} {ts : Array Value} (hfr : A.frames = some (env :: outer)) (hl : s.heap.FunFrames base (env :: outer)) (hf : env.frame = some L) (he : s.heap.get? a = some oe) (hd : oe.data = .fields vs) (h1 : vs[1]? = some (.ref T))
    (hTe : T ≠ a) (hT : s.heap.get? T = some oT) (hdT : oT.data = .fields ts) (h3 : ts[3]? = some .none)
    (h : ∀ h', Lft (frs (env :: outer)) a oe [T] s.heap h' → Q () { s with heap := h' }) : wpAny M A (leaving env (.ref a)) Q E s := by
  unfold leaving
  exact wpAny_bind (lv_nextS hfr hl hf he hd h1 hTe hT hdT h3 h)
end
end L2
set_option Elab.async false
set_option linter.all false
set_option maxRecDepth 100000
set_option maxHeartbeats 4000000
namespace L2
open PySem PySem.Spec PyProof.Rows
noncomputable def Tra (a : Addr) (H' : Hp) (h0 h : Heap) : Prop := ∃ oe vs T oT ts, h.get? a = some oe ∧ oe.data = .fields vs ∧ vs[1]? = some (.ref T) ∧ T ≠ a ∧ h.get? T = some oT ∧ oT.data = .fields ts ∧ ts[3]? = some .none ∧ H' T = none ∧ h0.get? T = none
noncomputable def CX1 (P : Program) (w : World) : CXT := fun outer H s E e s' => ∃ a C od H', e = .ref a ∧ s'.os = s.os ∧ AllBare s'.gens ∧ Un (frs outer) [] H H' s.heap s'.heap ∧ HOk P w H' s'.heap ∧ H' a = some (exG false a C od) ∧ s.heap.get? a = none ∧ Tra a H' s.heap s'.heap ∧ E (.ref a) none H'
section
variable {P : Program} {w : World} {fs : List Addr} {a C : Addr} {od : Option Addr} {oe : Obj} {old : List Addr} {h h' : Heap} {H : Hp} {n : Bool}
theorem Lft.hok (l : Lft fs a oe old h h') (ok : HOk P w H h) (he : h.get? a = some oe) (ha : H a = some (exG n a C od)) (hfs : ∀ b ∈ fs, H b = none) (hold : ∀ b ∈ old, H b = none) : HOk P w (upd H a (exG false a C od)) h' := fun b u q => by
  have hu : ∀ c z, H c = some z → c ≠ a → upd H a (exG false a C od) c = some z := fun c z r ne => by rw [upd_ne ne]; exact r
  by_cases hb : b = a
  · subst hb
    rw [upd_same] at q; cases q
    obtain ⟨vs, sl, e1, _⟩ := exG_ok.mp (ok b _ ha)
    rw [he] at e1; cases e1
    obtain ⟨oe', us, T, oT, ts, q1, q2, q3, q4, q5, _⟩ := l.tr
    obtain ⟨c, d, dt, s4⟩ := oe'
    dsimp only at q2 q3 q4 q5
    subst q2 q3 q4 q5
    exact exG_ok.mpr ⟨us, _, q1, fun z => Bool.noConfusion z⟩
  · rw [upd_ne hb] at q
    refine (ok b u q).stay (fun c v hc r => ?_) (fun c r => hu c _ r fun z => ?_) fun c xs r => hu c _ r fun z => ?_
    · have hcn : ∃ z, H c = some z := by
        rcases hc with hc | hc
        · exact ⟨u, hc ▸ q⟩
        · exact ⟨_, hc⟩
      obtain ⟨z, hz⟩ := hcn
      refine l.keep c v (fun m => by rw [hfs c m] at hz; cases hz) (fun e => ?_) (fun m => by rw [hold c m] at hz; cases hz) r
      subst e
      rcases hc with hc | hc
      · exact hb hc.symm
      · rw [ha] at hc; cases hc
    · rw [z, ha] at r; cases r
    · rw [z, ha] at r; cases r
end
section
variable {P : Program} {w : World} {K : PySem.W.Frag} {mg : Str → Option Value} {base : Heap} {N : List Str} {qual : Str} {scope : Scope} {f : Addr} {cd : Value} {A : Around} {outer : List Env} {s₀ : Shared} {H₀ : Hp} {E : XK}
theorem fun_un {h h' : Heap} : ∀ {l : List Env}, h.FunFrames base l → (∀ b ∈ frs l, ∀ o, h.get? b = some o → ∃ sl, h'.get? b = some { o with slots := sl }) → h'.FunFrames base l
  | [], _, _ => True.intro
  | env :: r, hl, k => by
    obtain ⟨hk, ⟨L, o, hf, hn, ho, hd⟩, hr⟩ := hl
    have e : frs (env :: r) = L :: frs r := by unfold frs; rw [List.filterMap_cons, hf]
    obtain ⟨sl, z⟩ := k L (by rw [e]; exact List.mem_cons_self) o ho
    exact ⟨hk, ⟨L, _, hf, hn, z, hd⟩, fun_un hr fun b hb => k b (by rw [e]; exact List.mem_cons_of_mem _ hb)⟩
theorem lv_cx {CX : CXT} {pins : List (Addr × Obj)} {σ : St} {H1 H2 : Hp} {s1 s2 : Shared} {h3 : Heap} {a C : Addr} {od : Option Addr} {oe : Obj} {old : List Addr} {n : Bool} (I : Inv (cxOf CX P w K mg base N qual scope f cd A outer s₀ H₀ E) pins σ H1 s1)
    (os : s2.os = s1.os) (bare : AllBare s2.gens) (un : Un (frs (envOfC qual scope s₀.heap.objs.size f cd :: outer)) [] H1 H2 s1.heap s2.heap) (ok : HOk P w H2 s2.heap) (ha : H2 a = some (exG n a C od)) (he : s2.heap.get? a = some oe) (hn : s₀.heap.get? a = none) (hold : ∀ b ∈ old, H2 b = none ∧ s₀.heap.get? b = none)
    (l : Lft (frs (envOfC qual scope s₀.heap.objs.size f cd :: outer)) a oe old s2.heap h3) (q : E (.ref a) none (upd H2 a (exG false a C od))) :
    CX1 P w outer H₀ s₀ E (.ref a) { s2 with heap := h3 } := by
  have stk : ∀ b ∈ frs (envOfC qual scope s₀.heap.objs.size f cd :: outer), b = s₀.heap.objs.size ∨ b ∈ frs outer := fun b hb => by
    rcases List.mem_cons.mp (I.stkSub b hb) with z | z
    · exact .inl z
    · exact .inr z
  have fr2 : ∀ b ∈ frs (envOfC qual scope s₀.heap.objs.size f cd :: outer), H2 b = none := fun b hb => by
    obtain ⟨_, o, ho, _⟩ := I.stack.mem hb
    exact un.free b o ho (I.stkFree b hb) (by simp)
  obtain ⟨oe', us, T, oT, ts, q1, q2, q3, q4, q5, q6, q7, q8, q9, q10, q11⟩ := l.tr
  have nl : ∀ b o, s₀.heap.get? b = some o → b ≠ s₀.heap.objs.size := fun b o z => Nat.ne_of_lt (Heap.lt_size z)
  have na : ∀ b o, s₀.heap.get? b = some o → b ≠ a := fun b o z e => by rw [e, hn] at z; cases z
  have no : ∀ b o, s₀.heap.get? b = some o → b ∉ old := fun b o z e => by rw [(hold b e).2] at z; cases z
  have tn : H2 T = none := hp_none ok q8
  have t0 : s₀.heap.get? T = none := by
    cases z : s₀.heap.get? T with
    | none => rfl
    | some o =>
      obtain ⟨o1, z1⟩ := I.base.there T o z (by intro m; cases m)
      obtain ⟨o2, z2⟩ := un.there T o1 z1 (by simp)
      rw [q8] at z2; cases z2
  have hu : ∀ c z, H2 c = some z → z ≠ exG n a C od → upd H2 a (exG false a C od) c = some z := fun c z r ne => by rw [upd_ne fun e => ne (by rw [e, ha] at r; exact (Option.some.inj r).symm)]; exact r
  refine ⟨a, C, od, upd H2 a (exG false a C od), rfl, os.trans I.os, bare, ⟨fun b o z nz hb _ => ?_, fun b o z nz hb _ => ?_, fun b o z nz _ => ?_, fun b o z _ => ?_, fun b xs z => ?_, fun b o u z => ?_, fun b ps z => ?_⟩, l.hok ok he ha fr2 (fun b m => (hold b m).1), upd_same, hn, ⟨oe', us, T, oT, ts, q1, q5, q6, q7, q9, q10, q11, by rw [upd_ne q7]; exact tn, t0⟩, q⟩
  · have z1 := I.base.keep b o z nz hb (by intro m; cases m)
    have n1 := I.base.free b o z nz (by intro m; cases m)
    have hb2 : b ∉ frs (envOfC qual scope s₀.heap.objs.size f cd :: outer) := fun m => (stk b m).elim (nl b o z) hb
    exact l.keep b o hb2 (na b o z) (no b o z) (un.keep b o z1 n1 hb2 (by simp))
  · obtain ⟨sl, z1⟩ := I.base.slot b o z nz hb (by intro m; cases m)
    have n1 := I.base.free b o z nz (by intro m; cases m)
    obtain ⟨sl2, z2⟩ := un.any z1 n1 (by simp)
    by_cases m : b ∈ frs (envOfC qual scope s₀.heap.objs.size f cd :: outer)
    · obtain ⟨sl3, z3⟩ := l.slot b _ m z2
      exact ⟨sl3, z3⟩
    · exact ⟨sl2, l.keep b _ m (na b o z) (no b o z) z2⟩
  · obtain ⟨o1, z1⟩ := I.base.there b o z (by intro m; cases m)
    have n1 := I.base.free b o z nz (by intro m; cases m)
    show upd H2 a _ b = none
    rw [upd_ne (na b o z)]
    exact un.free b o1 z1 n1 (by simp)
  · obtain ⟨o1, z1⟩ := I.base.there b o z (by intro m; cases m)
    obtain ⟨o2, z2⟩ := un.there b o1 z1 (by simp)
    exact l.there b o2 z2
  · exact hu b _ (un.tups b xs (I.base.tups b xs z)) (fun e => nomatch e)
  · exact hu b _ (un.frzs b o u (I.base.frzs b o u z)) (fun e => nomatch e)
  · obtain ⟨m1, z1⟩ := I.base.tbls b ps z
    obtain ⟨m2, z2⟩ := un.tbls b _ z1
    exact ⟨m1 ++ m2, by rw [← Array.append_assoc]; exact hu b _ z2 (fun e => nomatch e)⟩
theorem pass1 (hfr : scope.kind ≠ .module) (hE : ∀ a H C od, H a = some (exG false a C od) → E (.ref a) none H → E (.ref a) none (upd H a (exG false a C od))) : Passes (CX1 P w) (cxOf (CX1 P w) P w K mg base N qual scope f cd A outer s₀ H₀ E) E := by
  intro pins σ H1 s1 e s' I hq
  obtain ⟨a, C, od, H2, rfl, os, bare, un, ok, ha, hn, ⟨oe, vs, T, oT, ts, t1, t2, t3, t4, t5, t6, t7, t8, t9⟩, q⟩ := hq
  have hn0 : s₀.heap.get? a = none := by
    cases z : s₀.heap.get? a with
    | none => rfl
    | some o =>
      obtain ⟨o1, z1⟩ := I.base.there a o z (by intro m; cases m)
      rw [hn] at z1; cases z1
  have hT0 : s₀.heap.get? T = none := by
    cases z : s₀.heap.get? T with
    | none => rfl
    | some o =>
      obtain ⟨o1, z1⟩ := I.base.there T o z (by intro m; cases m)
      rw [t9] at z1; cases z1
  have fun2 : s'.heap.FunFrames base (envOfC qual scope s₀.heap.objs.size f cd :: outer) := fun_un I.stack fun b hb o ho => un.any ho (I.stkFree b hb) (by simp)
  refine lv_next (base := base) (L := s₀.heap.objs.size) (I.ok.frames) fun2 rfl t1 t2 t3 t4 t5 t6 t7 fun h3 l => ?_
  exact lv_cx I os bare un ok ha t1 hn0 (fun b hb => by simp at hb; subst hb; exact ⟨t8, hT0⟩) l (hE a H2 C od ha q)
theorem upd_self {H : Hp} {a : Addr} {o : HO} (h : H a = some o) : upd H a o = H := by
  funext b
  unfold upd
  split
  · rename_i e; rw [e, h]
  · rfl
theorem pass1' : Passes (CX1 P w) (cxOf (CX1 P w) P w K mg base N qual scope f cd A outer s₀ H₀ E) E := by
  intro pins σ H1 s1 e s' I hq
  exact pass1 (by have := I.ok.kind; show scope.kind ≠ _; rw [show scope.kind = .function from this]; decide) (fun a H C od h q => by rw [upd_self h]; exact q) pins σ H1 s1 e s' I hq
noncomputable def rRaise (K : PySem.W.Frag) (H0 : Hp) (E : XK) (x : V) (H1 : Hp) : Prop := ∃ a C od, x = .ref a ∧ H1 a = some (exO a C od) ∧ XC K C ∧ H0 a = none ∧ E (.ref a) none (upd H1 a (exG false a C od))
noncomputable def sRaise (K : PySem.W.Frag) (H0 : Hp) (E : XK) (t : TE) : TS := fun D σ H => t σ H fun x H1 => rRaise K H0 E x H1
theorem ps_raise {ex : Expr} {t : TE} {pos : Pos} {X : Cx} (hX : X = cxOf (CX1 P w) P w K mg base N qual scope f cd A outer s₀ H₀ E) (he : PE X ex t) : PS X (.Raise (some ex) none pos) (sRaise K H₀ E t) := by
  subst hX
  intro pins s σ H D I h
  rw [arm_exec_Raise]
  refine wpAny_bind (wpAny_standAt ?_)
  unfold raiseStmt
  simp only [evalOpt, Option.map]
  refine wpAny_bind (wpAny_bind (thn (he pins s σ H _ I h) fun v s1 ⟨x, H1, I1, rx, a, C, od, ex', ha, hc, h0, q⟩ => wpAny_bind (wpAny_standAt (wpAny_pure ?_))))
  subst ex'
  obtain rfl : v = Value.ref a := rx
  obtain ⟨vs, sl, hx, hv⟩ := exO_ok.mp (I1.hok a _ ha)
  have hv := hv rfl
  obtain ⟨nm, qn, N', bs, bm, sn, sub, ab, col, dd, k0, k1, k2, k3, k5, hl, htl⟩ := xc_obj hc.ex
  have hC := I1.kIn _ _ hl
  have hcB : (Value.ref C :: bm).contains (.type "BaseException") = true := by rw [List.contains_cons, xc_bex (PySem.W.tail_of_in I1.kIn htl), Bool.or_true]
  have fin : (cxOf (CX1 P w) P w K mg base N qual scope f cd A outer s₀ H₀ E).xe (.ref a) s1 := by
    refine lv_first (base := base) (L := s₀.heap.objs.size) I1.ok.frames I1.stack rfl hx rfl hv fun h3 l => ?_
    have hn0 : s₀.heap.get? a = none := by
      cases z : s₀.heap.get? a with
      | none => rfl
      | some o =>
        have := I1.base.free a o z h0 (by intro m; cases m)
        rw [ha] at this; cases this
    exact lv_cx I1 rfl I1.bare Un.refl I1.hok ha hx hn0 (by simp) l q
  obtain ⟨hh, g, d, tk, os⟩ := s1
  repeat (first | (with_reducible refine wpAny_loadPart_at hx ?_) | (with_reducible refine wpAny_loadPart_at hC ?_) | (with_reducible refine wpAny_isSubtype_exc hC ?_; rw [hcB]) | (with_reducible refine wpAny_field hx rfl hv ?_) | wp_step)
  exact wpAny_raiseNew_none (I1.ok.hd rfl) fin
end
end L2
set_option Elab.async false
set_option linter.all false
set_option maxRecDepth 100000
set_option maxHeartbeats 4000000
namespace L2
open PySem PySem.Spec PyProof.Rows
section
variable {X : Cx} {pins : List (Addr × Obj)} {σ : St} {H : Hp} {s : Shared}
theorem gone_ok {M : Model} {A : Around} {E : Value → Shared → Prop} {i : Nat} {x : Str} {pos : Pos} {Q : Unit → Shared → Prop} (I : Inv X pins σ H s) (hN : X.N.Nodup) (hi : X.N[i]? = some x) (hk : X.env.scope.names.lookup x = some .local)
    (h : ∀ s', Inv X pins (σ.set i none) H s' → Q () s') : wpAny M A (do bindName X.env x .none; unbindBehindTheSuite X.env x pos) Q E s := by
  refine wpAny_bind (wpAny_bindName (store_ok (v := .non) (u := .none) I hN hi (.inl hk) rfl (fun s1 I1 => ?_) (.inr hk)))
  unfold unbindBehindTheSuite
  refine wpAny_onRaise ?_
  obtain ⟨m, hn, hl⟩ := id I1.loc
  have hcls : (X.env.scope.kind == .class || (X.env.scope.kind == .module && X.env.locals != X.env.globals)) = false := by rw [I1.ok.kind]; rfl
  have hiσ : i < σ.length := by rw [I.len]; exact (List.getElem?_eq_some_iff.mp hi).1
  obtain ⟨u, ru, lu⟩ := hl i x .non hi (List.getElem?_set_self hiσ) (.inl hk)
  have hmx : m x = some u := by
    rcases lu with ⟨_, z⟩ | ⟨z, _⟩
    · exact z
    · have z' : X.env.scope.names.lookup x = some .cell ∨ X.env.scope.names.lookup x = some .free := z
      rw [hk] at z'
      rcases z' with z' | z' <;> cases z'
  refine wpAny_unbindName_local hk hn hmx hcls fun h' w hn' hs => h _ ?_
  obtain ⟨oL, _, _, hoL, _⟩ := id hn
  have cne := I1.cne
  refine ⟨I1.ok, I1.os, I1.bare, ⟨fun b o e n hb hx => ?_, fun b o e n hb hx => ?_, I1.base.free, fun b o e hx => ?_, I1.base.tups, I1.base.frzs, I1.base.tbls⟩, ⟨_, hn', fun j y v' e1 e2 e3 => ?_⟩, fun y c e => ?_, I1.free, I1.freeC, fun p hp => ?_, fun b ob e => ?_, by simpa using I.len⟩
  · exact (hs.2 b (Nat.ne_of_lt (Nat.lt_of_lt_of_le (Heap.lt_size e) I1.ok.above))).trans (I1.base.keep b o e n hb hx)
  · obtain ⟨sl, e1⟩ := I1.base.slot b o e n hb hx
    exact ⟨sl, (hs.2 b (Nat.ne_of_lt (Nat.lt_of_lt_of_le (Heap.lt_size e) I1.ok.above))).trans e1⟩
  · obtain ⟨o', e1⟩ := I1.base.there b o e hx
    exact ⟨o', (hs.2 b (Nat.ne_of_lt (Nat.lt_of_lt_of_le (Heap.lt_size e) I1.ok.above))).trans e1⟩
  · by_cases hj : j = i
    · subst hj
      rw [List.getElem?_set_self hiσ] at e2
      cases e2
    · rw [List.getElem?_set_ne (Ne.symm hj)] at e2
      obtain ⟨u', r', q⟩ := hl j y v' e1 (by rw [List.getElem?_set_ne (Ne.symm hj)]; exact e2) e3
      refine ⟨u', r', ?_⟩
      rcases q with ⟨k, e⟩ | ⟨k, c, e, z⟩
      · refine .inl ⟨k, ?_⟩
        have ne : y ≠ x := fun e => hj (nodup_ix hN e1 (e ▸ hi))
        simp [ne, e]
      · exact .inr ⟨k, c, e, z.sameBut hs (cne y c e)⟩
  · obtain ⟨w', z⟩ := I1.cell y c e
    exact ⟨w', z.sameBut hs (cne y c e)⟩
  · obtain ⟨e, n, ne, nf, d⟩ := I1.pin p hp
    exact ⟨(hs.2 p.1 ne).trans e, n, ne, nf, d⟩
  · refine (I1.hok b ob e).stay (fun c w' hc q => (hs.2 c ?_).trans q) (fun _ q => q) fun _ _ q => q
    rintro rfl
    rcases hc with hc | hc
    · rw [← hc] at e; rw [I1.free] at e; cases e
    · rw [I1.free] at hc; cases hc
noncomputable abbrev Cx.tri (X : Cx) (pins : List (Addr × Obj)) (E : Value → Shared → Prop) : Cx := { X with xe := E, pn := X.pn ++ pins }
noncomputable abbrev Cx.hnd (X : Cx) (a : Addr) (E : Value → Shared → Prop) : Cx := { X with A := X.A.mark (some (.ref a)), calm := false, xe := E }
theorem Inv.tri (I : Inv X pins σ H s) (E : Value → Shared → Prop) : Inv (X.tri pins E) [] σ H s :=
  ⟨⟨I.ok.mod, I.ok.kind, I.ok.glob, I.ok.blt, I.ok.above, I.ok.inj, I.ok.has, I.ok.cab, I.ok.hd, I.ok.frames, I.ok.stk, I.ok.exf, I.ok.bs, I.ok.bsz, I.ok.noex, I.ok.exfs, I.ok.funs, I.ok.frf⟩, I.os, I.bare, I.base, I.loc, I.cell, I.free, I.freeC, fun p hp => I.pin p (by simpa using hp), I.hok, I.len⟩
theorem Inv.untri {E : Value → Shared → Prop} {more : List (Addr × Obj)} (I : Inv (X.tri pins E) more σ H s) : Inv X pins σ H s :=
  ⟨⟨I.ok.mod, I.ok.kind, I.ok.glob, I.ok.blt, I.ok.above, I.ok.inj, I.ok.has, I.ok.cab, I.ok.hd, I.ok.frames, I.ok.stk, I.ok.exf, I.ok.bs, I.ok.bsz, I.ok.noex, I.ok.exfs, I.ok.funs, I.ok.frf⟩, I.os, I.bare, I.base, I.loc, I.cell, I.free, I.freeC, fun p hp => I.pin p (List.mem_append_left _ hp), I.hok, I.len⟩
theorem Inv.hnd (I : Inv X pins σ H s) (a : Addr) (E : Value → Shared → Prop) : Inv (X.hnd a E) pins σ H s :=
  ⟨⟨I.ok.mod, I.ok.kind, I.ok.glob, I.ok.blt, I.ok.above, I.ok.inj, I.ok.has, I.ok.cab, fun z => Bool.noConfusion z, I.ok.frames, I.ok.stk, I.ok.exf, I.ok.bs, I.ok.bsz, I.ok.noex, I.ok.exfs, I.ok.funs, I.ok.frf⟩, I.os, I.bare, I.base, I.loc, I.cell, I.free, I.freeC, I.pin, I.hok, I.len⟩
theorem Inv.unhnd {a : Addr} {E : Value → Shared → Prop} (hd : X.calm = true → X.A.handled = none) (I : Inv (X.hnd a E) pins σ H s) : Inv X pins σ H s :=
  ⟨⟨I.ok.mod, I.ok.kind, I.ok.glob, I.ok.blt, I.ok.above, I.ok.inj, I.ok.has, I.ok.cab, hd, I.ok.frames, I.ok.stk, I.ok.exf, I.ok.bs, I.ok.bsz, I.ok.noex, I.ok.exfs, I.ok.funs, I.ok.frf⟩, I.os, I.bare, I.base, I.loc, I.cell, I.free, I.freeC, I.pin, I.hok, I.len⟩
end
section
variable {M : Model} {A : Around} {E : Value → Shared → Prop} {s : Shared} {K : PySem.W.Frag} {C B a : Addr} {oe : Obj} {Q : Bool → Shared → Prop}
theorem xc_match (X : K.In s.heap) (c : XC K C) (b : XC K B) (hm : PySem.W.mroIn K C (.ref B) = some true) (he : s.heap.get? a = some oe) (hc : oe.cls = .ref C) (hq : Q true s) : wpAny M A (excMatches (.ref a) (.ref B)) Q E s := by
  obtain ⟨nm, qn, N, bs, bm, sn, sub, ab, col, dd, k0, k1, k2, k3, k5, hl, htl⟩ := xc_obj b.ex
  have hB := X _ _ hl
  have hcB : (Value.ref B :: bm).contains (.type "BaseException") = true := by rw [List.contains_cons, xc_bex (PySem.W.tail_of_in X htl), Bool.or_true]
  have f := tc_notTuple
  have l1 : PySem.W.Looks M s.heap (isSubtype (.ref C) (.ref B)) true := PySem.W.looks_mroIn X hm
  obtain ⟨h, g, d, t, os⟩ := s
  unfold excMatches
  repeat (first | (with_reducible refine wpAny_loadPart_at he ?_; rw [hc]) | (with_reducible refine wpAny_loadPart_at hB ?_) | (with_reducible refine wpAny_isSubtype_exc hB ?_; rw [hcB]) | (with_reducible refine l1.at ?_) | wp_step)
  exact hq
end
end L2
set_option Elab.async false
set_option linter.all false
set_option maxRecDepth 100000
set_option maxHeartbeats 4000000
namespace L2
open PySem PySem.Spec PyProof.Rows
noncomputable def tryE (G : Addr → Hp → Prop) : XK := fun v _ H' => ∃ a, v = .ref a ∧ G a H'
noncomputable def sTry (K : PySem.W.Frag) (len i : Nat) (B : Addr) (G : Addr → Hp → Prop) (tb th : TS) : TS := fun D σ H => tb D σ H ∧ ∀ (a : Addr) (H' : Hp) (σ' : St), σ'.length = len → G a H' →
  (∃ C od, H' a = some (exG false a C od) ∧ XC K C ∧ PySem.W.mroIn K C (.ref B) = some true) ∧
    th { nx := fun σ2 H2 => D.nx (σ2.set i none) H2, rt := D.rt, bk := fun σ2 H2 => D.bk (σ2.set i none) H2, ct := fun σ2 H2 => D.ct (σ2.set i none) H2 } (σ'.set i (some (.ref a))) H'
section
variable {X : Cx} {pins : List (Addr × Obj)}
theorem SP.untri {E : Value → Shared → Prop} {D : Ends} {f : Flow} {s' : Shared} (h : SP (X.tri pins E) [] D f s') : SP X pins D f s' := by
  cases f with
  | next => obtain ⟨σ', H', I, q⟩ := h; exact ⟨σ', H', I.untri, q⟩
  | brk => obtain ⟨σ', H', I, q⟩ := h; exact ⟨σ', H', I.untri, q⟩
  | cont => obtain ⟨σ', H', I, q⟩ := h; exact ⟨σ', H', I.untri, q⟩
  | ret u => obtain ⟨v, σ', H', I, r, q⟩ := h; exact ⟨v, σ', H', I.untri, r, q⟩
theorem setF_id {ts : Array Value} (h : ts[3]? = some .none) : ts.setIfInBounds 3 .none = ts := by
  obtain ⟨h1, h2⟩ := Array.getElem?_eq_some_iff.mp h
  refine Array.ext (by simp) fun j j1 j2 => ?_
  rw [Array.getElem_setIfInBounds]
  split
  · rename_i e; subst e; exact h2.symm
  · rfl
theorem ps_try {body suite : List Stmt} {b0 : Stmt} {tb th : TS} {n bx : Str} {i : Nat} {B : Addr} {p1 p2 pos : Pos} (G : Addr → Hp → Prop) (hN : X.N.Nodup) (hi : X.N[i]? = some n) (hk : X.env.scope.names.lookup n = some .local) (hg : Gl X bx) (hm : X.mg bx = some (.ref B)) (hB : XC X.K B)
    (hst : X.stack = X.env :: X.outer) (hf : X.env.frame = some X.env.locals) (hex : X.ex = [])
    (hb : ∀ ps xe, Passes (CX1 X.prog X.w) (X.tri ps xe) (tryE G) → PSs (X.tri ps xe) body tb) (hs : ∀ a xe, PSs (X.hnd a xe) (b0 :: suite) th) (hd : (bx == ("__debug__" : Str)) = false := by decide) :
    PS X (.Try body [.ExceptHandler (some (.Name bx p1)) (some n) (b0 :: suite) p2] [] [] pos) (sTry X.K X.N.length i B G tb th) := by
  intro pins s σ H D I h
  refine wpAny_Try_except ?_
  refine wpAny_mono (hb pins _ ?_ [] s σ H D (I.tri _) h.1) (fun f s1 hs1 => ?_) fun e s1 he => he
  · intro pins2 σ2 H2 s2 e s3 I2 hq
    obtain ⟨a, C', od', H3, rfl, os, bare, un, ok, ha', hn, ⟨oe, vs, T, oT, ts, t1, t2, t3, t4, t5, t6, t7, t8, t9⟩, a', ea, q⟩ := hq
    cases ea
    have J2 : Inv X pins σ2 H2 s2 := I2.untri
    obtain ⟨⟨C, od, ha, hc, hmro⟩, q3⟩ := h.2 a H3 σ2 (by rw [J2.len]) q
    have un' : Un (frs X.stack) [] H2 H3 s2.heap s3.heap := un
    have fun3 : s3.heap.FunFrames X.base (X.env :: X.outer) := by
      have := fun_un (h' := s3.heap) J2.stack fun b hb o ho => un'.any ho (J2.stkFree b hb) (by simp)
      rwa [hst] at this
    have fr3 : ∀ b ∈ frs X.stack, H3 b = none := fun b hb => by
      obtain ⟨_, o, ho, _⟩ := J2.stack.mem hb
      exact un'.free b o ho (J2.stkFree b hb) (by simp)
    refine lv_nextS (base := X.base) (L := X.env.locals) (by have := J2.ok.frames; rwa [hst] at this) fun3 hf t1 t2 t3 t4 t5 t6 t7 fun h4 l => ?_
    rw [← hst] at l
    have ok4 : HOk X.prog X.w H3 h4 := by
      have := l.hok ok t1 ha fr3 (fun b hb => by simp at hb; subst hb; exact t8)
      rwa [upd_self ha] at this
    have un4 : Un (frs X.stack) [] H2 H3 s2.heap h4 := by
      have na : ∀ b o, s2.heap.get? b = some o → b ≠ a := fun b o z e => by rw [e, hn] at z; cases z
      have nT : ∀ b o, s2.heap.get? b = some o → b ∉ [T] := fun b o z e => by simp at e; rw [e, t9] at z; cases z
      refine ⟨fun b o z nz hb hx => l.keep b o hb (na b o z) (nT b o z) (un'.keep b o z nz hb hx), fun b o z nz hb hx => ?_, un'.free, fun b o z hx => ?_, un'.tups, un'.frzs, un'.tbls⟩
      · obtain ⟨sl, z1⟩ := un'.slot b o z nz hb hx
        obtain ⟨sl2, z2⟩ := l.slot b _ hb z1
        exact ⟨sl2, z2⟩
      · obtain ⟨o1, z1⟩ := un'.there b o z hx
        exact l.there b o1 z1
    have I4 : Inv X pins σ2 H3 { s3 with heap := h4 } := J2.call' (s' := { s3 with heap := h4 }) (ch := []) os un4 ok4 bare (fun b z => absurd z (by simp))
    obtain ⟨us, sl4, he4, _⟩ := exG_ok.mp (ok4 a _ ha)
    obtain ⟨oe', vs', T', oT', ts', q1, q2, q3', q4, q5, q6, q7, q8, q9, q10, q11⟩ := l.tr
    have hd4 : X.calm = true → X.A.handled = none := I.ok.hd
    refine wpAny_handleBy_cons (codeAny_handlers_test ?_) (by intro q; cases q)
    refine ld_glob (X := X.hnd a fun _ _ => False) (I4.hnd a _) hg hm ?_ hd
    refine xc_match (s := { s3 with heap := h4 }) I4.kIn hc hB hmro he4 rfl ?_
    refine codeAny_handlers_suite_as ?_
    have hz : 3 < ts'.size := (Array.getElem?_eq_some_iff.mp q11).1
    refine wpAny_setFlight_none q1 q5 q6 q9 q10 hz ?_
    have same : ∀ b u, h4.get? b = some u → (h4.update T' (Obj.mapFields (·.setIfInBounds 3 .none))).get? b = some u := fun b u z => by
      by_cases e : b = T'
      · subst e
        rw [q9] at z; cases z
        rw [Heap.get?_update_self _ q9 (Obj.isFreed_of_fields (Obj.data_mapFields q10 _))]
        obtain ⟨c1, d1, dt1, s1'⟩ := oT'
        dsimp only at q10
        subst q10
        refine congrArg some ?_
        show Obj.mk c1 d1 (Data.fields (ts'.setIfInBounds 3 .none)) s1' = _
        rw [setF_id q11]
      · rw [Heap.get?_update_other _ _ (Ne.symm e)]; exact z
    have I5 : Inv X pins σ2 H3 { s3 with heap := h4.update T' (Obj.mapFields (·.setIfInBounds 3 .none)) } := I4.kept (t' := s3.toks) same
    refine store_ok (X := X) (v := .ref a) I5 hN hi (.inl hk) rfl (fun s6 I6 => ?_) (.inr hk)
    refine thn (hs a _ pins s6 _ H3 _ (I6.hnd a _) q3) fun f s7 h7 => ?_
    cases f with
    | next => obtain ⟨σ7, H7, I7, q7'⟩ := h7; exact gone_ok (I7.unhnd hd4) hN hi hk fun s8 I8 => ⟨_, _, I8, q7'⟩
    | brk => obtain ⟨σ7, H7, I7, q7'⟩ := h7; exact gone_ok (I7.unhnd hd4) hN hi hk fun s8 I8 => ⟨_, _, I8, q7'⟩
    | cont => obtain ⟨σ7, H7, I7, q7'⟩ := h7; exact gone_ok (I7.unhnd hd4) hN hi hk fun s8 I8 => ⟨_, _, I8, q7'⟩
    | ret u => obtain ⟨v, σ7, H7, I7, r7, q7'⟩ := h7; exact gone_ok (I7.unhnd hd4) hN hi hk fun s8 I8 => ⟨v, _, _, I8, r7, q7'⟩
  · have hs1 := hs1.untri
    cases f with
    | next => exact wpAny_pure hs1
    | brk => exact hs1
    | cont => exact hs1
    | ret u => exact hs1
end
end L2
set_option Elab.async false
set_option linter.all false
set_option maxRecDepth 100000
set_option maxHeartbeats 4000000
namespace L2
open PySem PySem.Spec PyProof.Rows
noncomputable def Fnd1 (P : Program) (w : World) (K : PySem.W.Frag) (mg : Str → Option Value) (base : Heap) (k : Nat) (x : Str) (ps : List Str) (sp : Sp) : Prop :=
  ∃ f fd, FnOk P w K mg base (CX1 P w) k f fd ps sp ∧ mg x = some (.ref f) ∧ PySem.W.keepIn K (.ref f) = true ∧ Binds K fd ps []
section
variable {X : Cx} {k : Nat} {x : Str} {ps : List Str} {sp : Sp} {e : Expr} {es : List Expr} {t : TA} {p pos : Pos} {E : XK}
theorem pe_fn1 (F : Fnd1 X.prog X.w X.K X.mg X.base k x ps sp) (hr : Room k X.A) (hg : Gl X x) (hx : Passes (CX1 X.prog X.w) X E) (ha : PA X (e :: es) t) (hdb : (x == ("__debug__" : Str)) = false := by decide)
    (he : starEach (e :: es) X.env = (false, eval e X.env) :: starEach es X.env := by with_unfolding_all rfl) (hpl : (backTo pos (starEach es X.env)).any (·.1) = false := by with_unfolding_all rfl) : PE X (.Call (.Name x p) (e :: es) [] pos) (tCall sp [] E t) := by
  obtain ⟨f, fd, h1, h2, h3, h4⟩ := F
  exact pe_call h1 hr hg h2 h3 h4 .nil hx ha hdb he hpl
end
section
variable {P : Program} {w : World} {K : PySem.W.Frag} {mg : Str → Option Value} {base : Heap}
theorem Fun.ok1 {x qual : Str} {st : Stmt} {f : Addr} {fd : FuncData} {N ps : List Str} {k : Nat} {sp : Sp} (F : Fun K x qual st f fd) (S : FnScope N ps (defScope st)) (len : ∀ vs H Q E, sp vs H Q E → vs.length = ps.length)
    (hbody : ∀ (cdv : Value) (A : Around) (outer : List Env) (s : Shared) (H : Hp) (vs : List V) (Q : VK) (E : XK), Room k (A.deeper (envOfC qual (defScope st) s.heap.objs.size f cdv)) → sp vs H Q E →
      ∃ t, PSs (cxOf (CX1 P w) P w K mg base N qual (defScope st) f cdv A outer s H E) (defBody st) t ∧ t { nx := fun _ H' => Q .non H', rt := Q } (start N vs) H) : FnOk P w K mg base (CX1 P w) (k + 1) f fd ps sp := by
  obtain ⟨oc, od, kV, doc, pm, an, cdv, ct, osl, rfl, lk, hcd⟩ := F.ex
  exact fn_of lk hcd S len fun A outer s H vs Q E hr hsp => hbody cdv A outer s H vs Q E hr hsp
end
section
variable {K : PySem.W.Frag} {σ : St} {H H0 : Hp} {D : Ends} {t : TE} {C a : Addr} {fs : List (Str × V)} {E : XK}
theorem i_sRaise (k : t σ H fun x H1 => rRaise K H0 E x H1) : sRaise K H0 E t D σ H := k
theorem i_raise (h : ExA H a C fs) (c : XC K C) (h0 : H0 a = none) (k : ∀ H2, (∀ b o, b ≠ a → H b = some o → H2 b = some o) → ExB false H2 a C fs → E (.ref a) none H2) : rRaise K H0 E (.ref a) H := by
  have kp : ∀ od b o, b ≠ a → H b = some o → upd H a (exG false a C od) b = some o := fun od b o hb q => by rw [upd_ne hb]; exact q
  rcases h with ⟨e1, h⟩ | ⟨dx, ne, h, g⟩
  · exact ⟨a, C, none, rfl, h, c, h0, k _ (kp _) (.inl ⟨e1, upd_same⟩)⟩
  · exact ⟨a, C, some dx, rfl, h, c, h0, k _ (kp _) (.inr ⟨dx, ne, upd_same, kp _ _ _ ne g⟩)⟩
end
end L2
set_option Elab.async false
set_option linter.all false
set_option maxRecDepth 100000
set_option maxHeartbeats 4000000
namespace L2
section
open Lean
def mWay (s : String) : MacroM (TSyntax `tactic) :=
  if s == "as" then `(tactic| assumption) else if s == "ar" then `(tactic| with_reducible assumption) else `(tactic| walk_at $(quote s))
def mFirst (ts : Array (TSyntax `tactic)) : MacroM (TSyntax `tactic) := do
  let ts ← ts.mapM fun t => `(Lean.Parser.Tactic.tacticSeq| $t:tactic)
  `(tactic| first $[| $ts]*)
def mId (s : String) : Ident := mkIdent ((s.splitOn ".").foldl Name.mkStr Name.anonymous)
def mIs (s : String) : MacroM Ident := do return mkIdent (← Macro.addMacroScope (.mkSimple s))
def mCases : List String → TSyntax `tactic → MacroM (TSyntax `tactic)
  | [], t => pure t
  | s :: r, t => do
    match s.splitOn "=" with
    | [x, y] => let w ← mWay y; let i ← mIs x; mCases r (← `(tactic| ($t:tactic; (case $i:ident => $w:tactic))))
    | _ => mCases r t
def mRow (s : String) : MacroM (TSyntax `tactic) := do
  match s.splitOn ": " with
  | [h, c] =>
    match h.splitOn " " with
    | f :: as =>
      let xs ← as.toArray.mapM fun a => do if a == "_" then `(?_) else `(?$(← mIs a))
      let u := Syntax.mkApp (mId f) xs
      let t ← if as.contains "_" then `(tactic| with_reducible refine' $u) else `(tactic| refine' $u)
      mCases (c.splitOn " ") t
    | _ => Macro.throwUnsupported
  | _ => do
    if s == "as" then `(tactic| assumption)
    else if s == "no" then `(tactic| fail "no")
    else `(tactic| exact $(mId s))
def mRows (s : String) : MacroM (TSyntax `tactic) := do mFirst (← (s.splitOn " | ").toArray.mapM mRow)
def mAlts (s : String) : MacroM (TSyntax `tactic) := do
  let a ← mFirst (← (s.splitOn " ").toArray.mapM fun n => `(tactic| refine $(mId n) ?_))
  `(tactic| with_reducible $a:tactic)
def mAltG (s : String) : MacroM (TSyntax `tactic) := do
  let a ← mFirst (← (s.splitOn " ").toArray.mapM fun n => `(tactic| refine $(mId n) fun N hN => ?_))
  `(tactic| with_reducible $a:tactic)
end
section
open PySem
theorem same_refl {H : Hp} : Same H H := Same.refl _
theorem fz_refl {H : Hp} : Fz H H := Fz.refl _
noncomputable def Cut (N M : St → Hp → Prop) : Prop := ∀ σ H, M σ H → N σ H
section
variable {t u : TS} {te td ty tv : TE} {g : TG} {D : Ends} {σ : St} {H : Hp}
theorem i_seqG (k : ∀ N : St → Hp → Prop, Cut N (u D) → t { D with nx := N } σ H) : tSeq t u D σ H := k (u D) fun _ _ h => h
theorem i_seqAG (k : ∀ N : St → Hp → Prop, Cut N (u D) → tAsg te g { D with nx := N } σ H) : tSeq (tAsg te g) u D σ H := k (u D) fun _ _ h => h
theorem i_nxS {i : Nat} {rt : VK} {bk ct : St → Hp → Prop} (k : D.nx (σ.set i none) H) : Ends.nx { nx := fun σ2 H2 => D.nx (σ2.set i none) H2, rt := rt, bk := bk, ct := ct } σ H := k
theorem i_cutN {N M : St → Hp → Prop} (h : Cut N M) (k : M σ H) : N σ H := h _ _ k
end
theorem len_n0 {α : Type} {P : List α → Prop} {us : List α} (hl : us.length = 0) (h : P []) : P us := by
  rw [List.length_eq_zero_iff.mp hl]; exact h
theorem len_n1 {α : Type} {P : List α → Prop} {us : List α} (hl : us.length = 1) (h : ∀ a0 : α, P [a0]) : P us := by
  cases us with
  | nil => cases hl
  | cons a r => exact len_n0 (P := fun r => P (a :: r)) (Nat.succ.inj hl) (h a)
theorem len_n2 {α : Type} {P : List α → Prop} {us : List α} (hl : us.length = 2) (h : ∀ a0 a1 : α, P [a0, a1]) : P us := by
  cases us with
  | nil => cases hl
  | cons a r => exact len_n1 (P := fun r => P (a :: r)) (Nat.succ.inj hl) (h a)
theorem len_n3 {α : Type} {P : List α → Prop} {us : List α} (hl : us.length = 3) (h : ∀ a0 a1 a2 : α, P [a0, a1, a2]) : P us := by
  cases us with
  | nil => cases hl
  | cons a r => exact len_n2 (P := fun r => P (a :: r)) (Nat.succ.inj hl) (h a)
theorem len_n4 {α : Type} {P : List α → Prop} {us : List α} (hl : us.length = 4) (h : ∀ a0 a1 a2 a3 : α, P [a0, a1, a2, a3]) : P us := by
  cases us with
  | nil => cases hl
  | cons a r => exact len_n3 (P := fun r => P (a :: r)) (Nat.succ.inj hl) (h a)
theorem len_n5 {α : Type} {P : List α → Prop} {us : List α} (hl : us.length = 5) (h : ∀ a0 a1 a2 a3 a4 : α, P [a0, a1, a2, a3, a4]) : P us := by
  cases us with
  | nil => cases hl
  | cons a r => exact len_n4 (P := fun r => P (a :: r)) (Nat.succ.inj hl) (h a)
theorem len_n6 {α : Type} {P : List α → Prop} {us : List α} (hl : us.length = 6) (h : ∀ a0 a1 a2 a3 a4 a5 : α, P [a0, a1, a2, a3, a4, a5]) : P us := by
  cases us with
  | nil => cases hl
  | cons a r => exact len_n5 (P := fun r => P (a :: r)) (Nat.succ.inj hl) (h a)
end
end L2
set_option Elab.async false
set_option linter.all false
set_option maxRecDepth 100000
set_option maxHeartbeats 4000000
namespace L2
open PySem PySem.Spec PyProof.Rows
structure NamesS (ns : List Str) : Prop where
  nm : Names ns
  st : ("strange" : Str) ∉ ns
  zz : ("zz" : Str) ∉ ns
theorem NamesS.perm {ns ms : List Str} (h : NamesS ns) (p : ms.Perm ns) : NamesS ms := ⟨h.nm.perm p, fun q => h.st (p.mem_iff.mp q), fun q => h.zz (p.mem_iff.mp q)⟩
theorem NamesS.sublist {ns ms : List Str} (h : NamesS ns) (p : ms.Sublist ns) : NamesS ms := ⟨h.nm.sublist p, fun q => h.st (p.subset q), fun q => h.zz (p.subset q)⟩
noncomputable def zzN : List Nat := [122, 122]
noncomputable def stN : List Nat := [115, 116, 114, 97, 110, 103, 101]
theorem zz_txt : ("zz" : Str) = txt zzN := by decide +kernel
theorem st_txt : ("strange" : Str) = txt stN := by decide +kernel
theorem namesS_of {ls : List (List Nat)} (h : Names (ls.map txt)) (h1 : stN ∉ ls) (h2 : zzN ∉ ls) : NamesS (ls.map txt) := by
  refine ⟨h, fun q => ?_, fun q => ?_⟩
  · rw [st_txt] at q
    obtain ⟨l, hl, e⟩ := List.mem_map.mp q
    exact h1 (txt_inj e ▸ hl)
  · rw [zz_txt] at q
    obtain ⟨l, hl, e⟩ := List.mem_map.mp q
    exact h2 (txt_inj e ▸ hl)
theorem len40 {s z a : Nat} (hs : s < 26) (ha : a < z) (hz : z ≤ 8) {l : List Nat} (hl : l ∈ nm40 s z a) : l.length = z := by
  obtain ⟨k, hk, rfl⟩ := List.mem_map.mp hl
  have hm : 7 * k % 26 < 26 := Nat.mod_lt _ (by decide)
  have e1 := cutN_len (a := s) (b := s + a) (by omega) (by omega)
  have e2 := sgnN_len (i := 7 * k % 26) (by omega)
  have e3 := cutN_len (a := s) (b := s + z - a - 1) (by omega) (by omega)
  simp only [List.length_append]
  omega
theorem zz40 : ∀ s < 26, ∀ a < 2, zzN ∉ nm40 s 2 a := by decide +kernel
theorem st40 : ∀ s < 26, ∀ a < 7, stN ∉ nm40 s 7 a := by decide +kernel
theorem st41 : ∀ s < 26, stN ∉ nm41 s ∧ zzN ∉ nm41 s := by decide +kernel
theorem st42 : ∀ s < 26, stN ∉ nm42 s ∧ zzN ∉ nm42 s := by decide +kernel
theorem ok_nm40S {s z a : Nat} (hs : s < 26) (ha : a < z) (hz : z ≤ 8) : NamesS ((nm40 s z a).map txt) := by
  refine namesS_of (ok_nm40 hs ha hz) (fun q => ?_) fun q => ?_
  · obtain rfl : 7 = z := len40 hs ha hz q
    exact st40 s hs a ha q
  · obtain rfl : 2 = z := len40 hs ha hz q
    exact zz40 s hs a ha q
theorem ok_nm41S {s : Nat} (hs : s < 26) : NamesS ((nm41 s).map txt) := namesS_of (ok_nm41 hs) (st41 s hs).1 (st41 s hs).2
theorem ok_nm42S {s : Nat} (hs : s < 26) : NamesS ((nm42 s).map txt) := namesS_of (ok_nm42 hs) (st42 s hs).1 (st42 s hs).2
theorem ok_nm43S : NamesS nm43 := ⟨ok_nm43, by decide +kernel, by decide +kernel⟩
section
variable {K : PySem.W.Frag} {x qual : Str} {st : Stmt} {f : Addr} {fd : FuncData}
theorem binds1 {p0 : Str} (F : Fun K x qual st f fd) (h : ∀ (kV doc pm : Value) (an : Option Addr) (cdv ct : Value) (u0 : Value), bindArgs (PySem.W.fnOf x qual (defArgs st) (defBody st) (defScope st) .none kV doc pm an cdv ct) ⟨[u0], []⟩ = pure (([p0] : List Str).zip [u0])) : Binds K fd [p0] [] :=
  F.binds fun kV doc pm an cdv ct us hl => len_n1 (P := fun us => bindArgs (PySem.W.fnOf x qual (defArgs st) (defBody st) (defScope st) .none kV doc pm an cdv ct) ⟨us, []⟩ = pure (([p0] : List Str).zip us)) hl (h kV doc pm an cdv ct)
theorem binds2 {p0 p1 : Str} (F : Fun K x qual st f fd) (h : ∀ (kV doc pm : Value) (an : Option Addr) (cdv ct : Value) (u0 u1 : Value), bindArgs (PySem.W.fnOf x qual (defArgs st) (defBody st) (defScope st) .none kV doc pm an cdv ct) ⟨[u0, u1], []⟩ = pure (([p0, p1] : List Str).zip [u0, u1])) : Binds K fd [p0, p1] [] :=
  F.binds fun kV doc pm an cdv ct us hl => len_n2 (P := fun us => bindArgs (PySem.W.fnOf x qual (defArgs st) (defBody st) (defScope st) .none kV doc pm an cdv ct) ⟨us, []⟩ = pure (([p0, p1] : List Str).zip us)) hl (h kV doc pm an cdv ct)
theorem binds3 {p0 p1 p2 : Str} (F : Fun K x qual st f fd) (h : ∀ (kV doc pm : Value) (an : Option Addr) (cdv ct : Value) (u0 u1 u2 : Value), bindArgs (PySem.W.fnOf x qual (defArgs st) (defBody st) (defScope st) .none kV doc pm an cdv ct) ⟨[u0, u1, u2], []⟩ = pure (([p0, p1, p2] : List Str).zip [u0, u1, u2])) : Binds K fd [p0, p1, p2] [] :=
  F.binds fun kV doc pm an cdv ct us hl => len_n3 (P := fun us => bindArgs (PySem.W.fnOf x qual (defArgs st) (defBody st) (defScope st) .none kV doc pm an cdv ct) ⟨us, []⟩ = pure (([p0, p1, p2] : List Str).zip us)) hl (h kV doc pm an cdv ct)
theorem binds5 {p0 p1 p2 p3 p4 : Str} (F : Fun K x qual st f fd) (h : ∀ (kV doc pm : Value) (an : Option Addr) (cdv ct : Value) (u0 u1 u2 u3 u4 : Value), bindArgs (PySem.W.fnOf x qual (defArgs st) (defBody st) (defScope st) .none kV doc pm an cdv ct) ⟨[u0, u1, u2, u3, u4], []⟩ = pure (([p0, p1, p2, p3, p4] : List Str).zip [u0, u1, u2, u3, u4])) : Binds K fd [p0, p1, p2, p3, p4] [] :=
  F.binds fun kV doc pm an cdv ct us hl => len_n5 (P := fun us => bindArgs (PySem.W.fnOf x qual (defArgs st) (defBody st) (defScope st) .none kV doc pm an cdv ct) ⟨us, []⟩ = pure (([p0, p1, p2, p3, p4] : List Str).zip us)) hl (h kV doc pm an cdv ct)
end
end L2
set_option Elab.async false
set_option linter.all false
set_option maxRecDepth 100000
set_option maxHeartbeats 4000000
namespace L2
open PySem PySem.Spec PyProof.Rows
noncomputable def rNeL0 (K : PySem.W.Frag) : R2 := fun x y H Q => ∃ a b xs, x = .ref a ∧ y = .ref b ∧ SqL K H a xs ∧ SqL K H b [] ∧ Q (.bl (!xs.isEmpty)) H
theorem op_neL0 {X : Cx} {K : PySem.W.Frag} (hq : QA X.A) (hK : X.K = K := by with_unfolding_all rfl) : OpR X (compareOp .NotEq) (rNeL0 K) := by
  subst hK
  intro pins s σ H x y v u Q I rx ry h
  obtain ⟨a, b, xs, rfl, rfl, ha, hb, q⟩ := h
  cases rx
  cases ry
  obtain ⟨its, rv, la, _⟩ := I.list ha
  obtain ⟨its2, rv2, lb, _⟩ := I.list hb
  cases rv2
  have hu : X.A.units < cLine := by have := hq.un; omega
  have la' : s.heap.IsList a its.toArray := let ⟨o, n, e1, e2, e3, e4⟩ := la; ⟨o, e1, e2, _, e4⟩
  have lb' : s.heap.IsList b ([] : List Value).toArray := let ⟨o, n, e1, e2, e3, e4⟩ := lb; ⟨o, e1, e2, _, e4⟩
  cases xs with
  | nil =>
    cases rv
    have r := SeqAt.RcNeAt.lists (A := X.A) (s := s) (e := fun _ => true) la' lb' rfl hu (fun j h1 => absurd h1 (by simp))
    exact r _ _ _ _ ⟨.bl _, H, I, rfl, q⟩
  | cons x r =>
    cases rv with
    | cons r1 r2 =>
      have r := SeqAt.RcNeAt.lists_lengths (A := X.A) (s := s) la' lb' (by simp) hu
      exact r _ _ _ _ ⟨.bl _, H, I, rfl, q⟩
theorem i_neL0 {K : PySem.W.Frag} {H : Hp} {Q : VK} {a b : Addr} {xs : List V} (h : SqL K H a xs) (h' : SqL K H b []) (k : Q (.bl (!xs.isEmpty)) H) : rNeL0 K (.ref a) (.ref b) H Q := ⟨a, b, xs, rfl, rfl, h, h', k⟩
theorem qa_mark {A : Around} {x : Option Value} (h : QA A) : QA (A.mark x) := ⟨h.un, h.gd⟩
end L2
set_option Elab.async false
set_option linter.all false
set_option maxRecDepth 100000
set_option maxHeartbeats 4000000
namespace K41
open PySem L2 PySem.Spec PyProof.Rows
noncomputable def top (i : Nat) : Stmt := PySem.Challenge.pw_halforder_k41_joins_refused.main.body.getD i (.Pass ⟨0, 0, 0, 0⟩)
noncomputable abbrev s_refuse_strangers : Stmt := top 8
theorem sc_refuse_strangers : FnScope ["half", "asked", "name"] ["half", "asked"] (defScope s_refuse_strangers) := ⟨rfl, rfl, rfl, by decide +kernel, rfl, by decide +kernel, by decide +kernel⟩
noncomputable abbrev s_behind_each : Stmt := top 9
theorem sc_behind_each : FnScope ["half", "names", "reach", "saying", "middle", "name"] ["half"] (defScope s_behind_each) := ⟨rfl, rfl, rfl, by decide +kernel, rfl, by decide +kernel, by decide +kernel⟩
noncomputable abbrev s_closed : Stmt := top 10
theorem sc_closed : FnScope ["half", "reach", "pairs", "one"] ["half"] (defScope s_closed) := ⟨rfl, rfl, rfl, by decide +kernel, rfl, by decide +kernel, by decide +kernel⟩
noncomputable abbrev s_has_third_between : Stmt := top 11
theorem sc_has_third_between : FnScope ["reach", "pair"] ["reach", "pair"] (defScope s_has_third_between) := ⟨rfl, rfl, rfl, by decide +kernel, rfl, by decide +kernel, by decide +kernel⟩
noncomputable abbrev s_bare : Stmt := top 12
theorem sc_bare : FnScope ["half", "reach"] ["half"] (defScope s_bare) := ⟨rfl, rfl, rfl, by decide +kernel, rfl, by decide +kernel, by decide +kernel⟩
noncomputable abbrev s_is_name : Stmt := top 16
theorem sc_is_name : FnScope ["thing"] ["thing"] (defScope s_is_name) := ⟨rfl, rfl, rfl, by decide +kernel, rfl, by decide +kernel, by decide +kernel⟩
noncomputable abbrev s_are_unlike_names : Stmt := top 17
theorem sc_are_unlike_names : FnScope ["thing"] ["thing"] (defScope s_are_unlike_names) := ⟨rfl, rfl, rfl, by decide +kernel, rfl, by decide +kernel, by decide +kernel⟩
noncomputable abbrev s_thinned : Stmt := top 20
theorem sc_thinned : FnScope ["names", "sayings"] ["names", "sayings"] (defScope s_thinned) := ⟨rfl, rfl, rfl, by decide +kernel, rfl, by decide +kernel, by decide +kernel⟩
noncomputable abbrev s_joined_names : Stmt := top 21
theorem sc_joined_names : FnScope ["one", "other"] ["one", "other"] (defScope s_joined_names) := ⟨rfl, rfl, rfl, by decide +kernel, rfl, by decide +kernel, by decide +kernel⟩
noncomputable abbrev s_above : Stmt := top 22
theorem sc_above : FnScope ["one", "other", "names", "between", "name"] ["one", "other"] (defScope s_above) := ⟨rfl, rfl, rfl, by decide +kernel, rfl, by decide +kernel, by decide +kernel⟩
noncomputable abbrev s_beside : Stmt := top 23
theorem sc_beside : FnScope ["one", "other"] ["one", "other"] (defScope s_beside) := ⟨rfl, rfl, rfl, by decide +kernel, rfl, by decide +kernel, by decide +kernel⟩
noncomputable abbrev s_only : Stmt := top 24
theorem sc_only : FnScope ["half", "names", "left"] ["half", "names"] (defScope s_only) := ⟨rfl, rfl, rfl, by decide +kernel, rfl, by decide +kernel, by decide +kernel⟩
noncomputable abbrev s_without : Stmt := top 25
theorem sc_without : FnScope ["half", "name"] ["half", "name"] (defScope s_without) := ⟨rfl, rfl, rfl, by decide +kernel, rfl, by decide +kernel, by decide +kernel⟩
noncomputable abbrev s_called : Stmt := top 26
theorem sc_called : FnScope ["half", "names", "new"] ["half", "names"] (defScope s_called) := ⟨rfl, rfl, rfl, by decide +kernel, rfl, by decide +kernel, by decide +kernel⟩
noncomputable abbrev s__law_feed : Stmt := top 28
theorem sc__law_feed : FnScope ["_law_script"] ["_law_script"] (defScope s__law_feed) := ⟨rfl, rfl, rfl, by decide +kernel, rfl, by decide +kernel, by decide +kernel⟩
noncomputable abbrev s__law_draw : Stmt := top 29
theorem sc__law_draw : FnScope ["_law_feed_here", "_law_many", "_law_found", "_law_cell", "_law_mixed"] ["_law_feed_here", "_law_many"] (defScope s__law_draw) := ⟨rfl, rfl, rfl, by decide +kernel, rfl, by decide +kernel, by decide +kernel⟩
noncomputable abbrev s__law_shuffled : Stmt := top 30
theorem sc__law_shuffled : FnScope ["_law_feed_here", "_law_some", "_law_left", "_law_found", "_law_k"] ["_law_feed_here", "_law_some"] (defScope s__law_shuffled) := ⟨rfl, rfl, rfl, by decide +kernel, rfl, by decide +kernel, by decide +kernel⟩
noncomputable abbrev s__law_names : Stmt := top 31
theorem sc__law_names : FnScope ["_law_feed_here", "_law_letters", "_law_way", "_law_start", "_law_size", "_law_at", "_law_some", "_law_head", "_law_tail"] ["_law_feed_here"] (defScope s__law_names) := ⟨rfl, rfl, rfl, by decide +kernel, rfl, by decide +kernel, by decide +kernel⟩
noncomputable abbrev s__law_is_laid : Stmt := top 32
theorem sc__law_is_laid : FnScope ["_law_feed_here", "_law_way", "_law_j", "_law_k", "_law_many"] ["_law_feed_here", "_law_way", "_law_j", "_law_k", "_law_many"] (defScope s__law_is_laid) := ⟨rfl, rfl, rfl, by decide +kernel, rfl, by decide +kernel, by decide +kernel⟩
noncomputable abbrev s__law_half : Stmt := top 33
theorem sc__law_half : FnScope ["_law_feed_here", "_law_many", "_law_names_here", "_law_line", "_law_way", "_law_sayings", "_law_k", "_law_j", "_law_pair"] ["_law_feed_here", "_law_many"] (defScope s__law_half) := ⟨rfl, rfl, rfl, by decide +kernel, rfl, by decide +kernel, by decide +kernel⟩
noncomputable abbrev s__law_told : Stmt := top 34
theorem sc__law_told : FnScope ["_law_word", "_law_one", "_law_thing", "_law_found", "e", "_law_others"] ["_law_word", "_law_one", "_law_thing"] (defScope s__law_told) := ⟨rfl, rfl, rfl, by decide +kernel, rfl, by decide +kernel, by decide +kernel⟩
noncomputable abbrev s__law_joined_right : Stmt := top 35
theorem sc__law_joined_right : FnScope ["_law_feed_here", "_law_one", "_law_other", "_law_many", "_law_due"] ["_law_feed_here"] (defScope s__law_joined_right) := ⟨rfl, rfl, rfl, by decide +kernel, rfl, by decide +kernel, by decide +kernel⟩
noncomputable abbrev s__law_is_right : Stmt := top 36
theorem sc__law_is_right : FnScope ["_law_thing", "_law_many", "_law_letters"] ["_law_thing", "_law_many"] (defScope s__law_is_right) := ⟨rfl, rfl, rfl, by decide +kernel, rfl, by decide +kernel, by decide +kernel⟩
noncomputable abbrev s__law_calls : Stmt := top 37
theorem sc__law_calls : FnScope ["_law_feed_here", "_law_half_here", "_law_names_here", "_law_many", "_law_at", "_law_some", "_law_odd", "_law_row"] ["_law_feed_here", "_law_half_here"] (defScope s__law_calls) := ⟨rfl, rfl, rfl, by decide +kernel, rfl, by decide +kernel, by decide +kernel⟩
noncomputable abbrev s__law_names_right : Stmt := top 38
theorem sc__law_names_right : FnScope ["_law_feed_here", "_law_half_here", "_law_strange", "_law_row", "_law_k", "_law_first"] ["_law_feed_here", "_law_half_here"] (defScope s__law_names_right) := ⟨rfl, rfl, rfl, by decide +kernel, rfl, by decide +kernel, by decide +kernel⟩
noncomputable abbrev s_law : Stmt := top 39
theorem sc_law : FnScope ["_law_script", "_law_feed_here", "_law_turn", "_law_half_here", "_law_thing", "_law_due"] ["_law_script"] (defScope s_law) := ⟨rfl, rfl, rfl, by decide +kernel, rfl, by decide +kernel, by decide +kernel⟩
noncomputable abbrev s_NoName_init : Stmt := inClass (top 3) 0
theorem sc_NoName_init : FnScope ["self", "name"] ["self", "name"] (defScope s_NoName_init) := ⟨rfl, rfl, rfl, by decide +kernel, rfl, by decide +kernel, by decide +kernel⟩
noncomputable abbrev s_NoJoin_init : Stmt := inClass (top 5) 0
theorem sc_NoJoin_init : FnScope ["self", "word"] ["self", "word"] (defScope s_NoJoin_init) := ⟨rfl, rfl, rfl, by decide +kernel, rfl, by decide +kernel, by decide +kernel⟩
structure TopF (mg : Str → Option Value) : Prop where
  g_MOST_NAMES : ∃ u, mg "MOST_NAMES" = some u ∧ RelV (.int 10) u
  g_MOST_SIGNS : ∃ u, mg "MOST_SIGNS" = some u ∧ RelV (.int 8) u
  g_SMALL_LETTERS : ∃ u, mg "SMALL_LETTERS" = some u ∧ RelV (.str "abcdefghijklmnopqrstuvwxyz") u
  b_ValueError : mg "ValueError" = none
  b_all : mg "all" = none
  b_any : mg "any" = none
  b_dict : mg "dict" = none
  b_isinstance : mg "isinstance" = none
  b_len : mg "len" = none
  b_list : mg "list" = none
  b_range : mg "range" = none
  b_set : mg "set" = none
  b_str : mg "str" = none
  b_tuple : mg "tuple" = none
  b_zip : mg "zip" = none
structure Xls_HalfError (K : PySem.W.Frag) (mg : Str → Option Value) (C B : Addr) : Prop where
  xc : XC K C
  gl : mg "HalfError" = some (.ref C)
  mk0 : Mkx0 K mg C "HalfError"
structure Xls_NoHalf (K : PySem.W.Frag) (mg : Str → Option Value) (C B : Addr) : Prop where
  xc : XC K C
  gl : mg "NoHalf" = some (.ref C)
  mr : xcMro K C B = true
  n_word : NoAttr K C "word"
  n_number : NoAttr K C "number"
structure Xls_NoName (K : PySem.W.Frag) (mg : Str → Option Value) (C B : Addr) : Prop where
  xc : XC K C
  gl : mg "NoName" = some (.ref C)
  mr : xcMro K C B = true
  n_name : NoAttr K C "name"
structure Xls_NoOrder (K : PySem.W.Frag) (mg : Str → Option Value) (C B : Addr) : Prop where
  xc : XC K C
  gl : mg "NoOrder" = some (.ref C)
  mr : xcMro K C B = true
  mk0 : Mkx0 K mg C "NoOrder"
structure Xls_NoJoin (K : PySem.W.Frag) (mg : Str → Option Value) (C B : Addr) : Prop where
  xc : XC K C
  gl : mg "NoJoin" = some (.ref C)
  mr : xcMro K C B = true
  n_word : NoAttr K C "word"
structure Xls_Clash (K : PySem.W.Frag) (mg : Str → Option Value) (C B : Addr) : Prop where
  xc : XC K C
  gl : mg "Clash" = some (.ref C)
  mr : xcMro K C B = true
  n_way : NoAttr K C "way"
section
variable {P : Program} {w : World} {K : PySem.W.Frag} {mg : Str → Option Value} {base : Heap}
local macro_rules | `(tactic| walk_at "lk") => L2.mRows "as | Same.lk e h: e=as h=lk | ExtBut.lk e h n: e=as n=ne h=lk | no"
local macro_rules | `(tactic| walk_at "ne") => L2.mRows "as | Ne.symm q: q=as | ne_of_none h g: g=as h=lk | ne_none2 h g: g=as h=lk | ne_of h g z: h=as g=as z=nc | no"
local macro_rules | `(tactic| walk_at "nc") => `(tactic| (intro z; cases z))
local macro_rules | `(tactic| walk_at "fr") => L2.mRows "ExtBut.refl | ExtBut.trans a b: b=as a=fr | ExtBut.same a b: b=as a=fr | ExtBut.off a q b: b=as q=as a=fr | no"
local macro_rules | `(tactic| walk_at "sm") => L2.mRows "same_refl | Same.trans a b: b=as a=sm | Same.off a q b: b=as q=as a=sm | no"
local macro_rules | `(tactic| walk_at "fd") => L2.mRows "as | Feed.same h e: e=as h=fd | Feed.off h e q f: e=as q=as f=as h=fd | no"
local macro_rules | `(tactic| walk_at "fz1") => L2.mRows "Same.fz b: b=as | ExtBut.fzL b l: b=as l=lk | ExtBut.fzD b l: b=as l=lk | Feed.fz f b: b=as f=fd | no"
local macro_rules | `(tactic| walk_at "fz") => L2.mRows "fz_refl | Fz.trans a x: x=fz1 a=fz | no"
local macro_rules | `(tactic| walk_at "sd") => `(tactic| first | omega | (show (0 : Int) < _; omega) | (unfold CDiv; omega) | (unfold CMul; omega) | (unfold CPow; omega) | (unfold CPow; decide) | (refine ⟨?_, ?_⟩ <;> omega) | decide)
local macro_rules | `(tactic| walk_at "sz") => `(tactic| first | decide | exact line_of (by omega) | (rw [sizeLine_eq]; omega))
local macro_rules | `(tactic| walk_at "kv") => `(tactic| rfl)
local macro_rules | `(tactic| walk_at "rq1") => do
  let a ← L2.mAlts "i_asg i_gname i_ret i_drop i_if i_op i_un i_call i_cb i_cons i_nil i_c i_put i_tTest i_tB i_not i_and i_or i_tup i_lst i_next i_sl i_noPart i_part i_int i_for i_rng1 i_rng2 i_comp i_itS i_iany i_ienum i_ienumL i_irev i_chain i_andV i_orV i_notV i_dget1 i_tAt i_sSt i_tMe i_tMk i_tTru i_dget2 i_iDT i_bmT i_rU i_rI0 i_addI i_bl i_bm i_bm0 i_reprKB i_isN i_isNotN i_isB i_isNotB i_true i_tyS i_find i_intB i_inS i_pair i_pair0 iteR iteNR iteNbb itebb iteT iteF iteNT iteNF"
  let b ← L2.mRows "i_var w _: w=kv | i_rI w _: w=sd | i_mulBI w _: w=sd | i_tyLm w _: w=lk | i_ixD w v _: w=lk v=kv | i_eqS w _: w=kv | i_neS w _: w=kv | i_slS w _: w=sz | i_addS w _: w=sz | i_lenS w _: w=sz | i_lenL w _: w=lk | i_lenT w _: w=lk | i_cutN w _: w=ar"
  let c ← L2.mAltG "i_seqAG i_seqDG i_seqPG"
  `(tactic| first | $c:tactic | $a:tactic | $b:tactic)
local macro_rules | `(tactic| walk_at "rd1") => `(tactic| first | with_reducible refine i_seqG fun N hN => ?_ | walk_at "rq1")
local macro_rules | `(tactic| walk_at "rq") => `(tactic| repeat (walk_at "rq1"))
local macro_rules | `(tactic| walk_at "rd") => `(tactic| repeat (walk_at "rd1"))
noncomputable def feedKvs (l : Addr) (a t u : Int) : List (Key × V) := [(Sum.inr "script", .ref l), (Sum.inr "at", .int a), (Sum.inr "left", .int t), (Sum.inr "turn", .int u)]
noncomputable def Feed (H : Hp) (d l : Addr) : Prop := ∃ (a t u : Int) (ns : List Int), H d = some (.dK (feedKvs l a t u)) ∧ H l = some (.lst (ns.map V.int)) ∧ 0 ≤ ns.length ∧ ns.length ≤ 64
noncomputable def sp__law_feed (K : PySem.W.Frag) : Sp := fun vs H Q _ => ∃ (a : Addr) (ns : List Int), vs = [.ref a] ∧ SqL K H a (ns.map V.int) ∧ ns.length ≤ 63 ∧ ∀ d l H', H d = none → H l = none → Same H H' → Feed H' d l → Q (.ref d) H'
noncomputable def sp__law_draw (K : PySem.W.Frag) : Sp := fun vs H Q _ => ∃ d l n, vs = [.ref d, .int n] ∧ Feed H d l ∧ 0 < n ∧ n < 1073741824 ∧ ∀ r H', 0 ≤ r → r < n → ExtBut d H H' → Feed H' d l → Q (.int r) H'
theorem fd_script {l : Addr} {a t u : Int} : valV (feedKvs l a t u) (Sum.inr "script" : Key) = some (.ref l) := by rfl
theorem fd_at {l : Addr} {a t u : Int} : valV (feedKvs l a t u) (Sum.inr "at" : Key) = some (.int a) := by rfl
theorem fd_left {l : Addr} {a t u : Int} : valV (feedKvs l a t u) (Sum.inr "left" : Key) = some (.int t) := by rfl
theorem fd_turn {l : Addr} {a t u : Int} : valV (feedKvs l a t u) (Sum.inr "turn" : Key) = some (.int u) := by rfl
local macro_rules | `(tactic| walk_at "kv") => `(tactic| first | exact fd_script | exact fd_at | exact fd_left | exact fd_turn | rfl)
theorem put_turn {l : Addr} {a t u x : Int} : putK (feedKvs l a t u) (Sum.inr "turn" : Key) (.int x) = feedKvs l a t x := by rfl
theorem put_at {l : Addr} {a t u x : Int} : putK (feedKvs l a t u) (Sum.inr "at" : Key) (.int x) = feedKvs l x t u := by rfl
theorem put_left {l : Addr} {a t u x : Int} : putK (feedKvs l a t u) (Sum.inr "left" : Key) (.int x) = feedKvs l a x u := by rfl
theorem Feed.same {H H' : Hp} {d l : Addr} (h : Feed H d l) (e : Same H H') : Feed H' d l := let ⟨a, t, u, ns, h1, h2, h3, h4⟩ := h; ⟨a, t, u, ns, e _ _ h1, e _ _ h2, h3, h4⟩
theorem Feed.put {H H' : Hp} {d l p : Addr} (h : Feed H d l) (e : ExtBut p H H') (hd : d ≠ p) (hl : l ≠ p) : Feed H' d l := let ⟨a, t, u, ns, h1, h2, h3, h4⟩ := h; ⟨a, t, u, ns, e _ _ hd h1, e _ _ hl h2, h3, h4⟩
theorem Feed.nd {H : Hp} {d l p : Addr} (h : Feed H d l) (hp : H p = none) : d ≠ p := let ⟨_, _, _, _, h1, _⟩ := h; ne_of_none h1 hp
theorem Feed.nl {H : Hp} {d l p : Addr} (h : Feed H d l) (hp : H p = none) : l ≠ p := let ⟨_, _, _, _, _, h2, _⟩ := h; ne_of_none h2 hp
theorem Feed.lst {H : Hp} {d l b : Addr} {xs : List V} (h : Feed H d l) (hb : H b = some (.lst xs)) : b ≠ d := let ⟨_, _, _, _, h1, _⟩ := h; ne_of hb h1 (by intro z; cases z)
theorem Feed.tup {H : Hp} {d l b : Addr} {xs : List V} (h : Feed H d l) (hb : H b = some (.tup xs)) : b ≠ d := let ⟨_, _, _, _, h1, _⟩ := h; ne_of hb h1 (by intro z; cases z)
theorem Feed.free {H H' : Hp} {d l p : Addr} (h : Feed H' d l) (e : ExtBut d H H') (hp : H' p = none) : H p = none := by
  cases hq : H p with
  | none => rfl
  | some o =>
    obtain ⟨_, _, _, _, h1, _⟩ := h
    have n : p ≠ d := fun q => by subst q; rw [hp] at h1; cases h1
    rw [e p o n hq] at hp
    cases hp
theorem Feed.fz {H H' : Hp} {d l : Addr} (h : Feed H d l) (e : ExtBut d H H') : Fz H H' := let ⟨_, _, _, _, h1, _⟩ := h; e.fzD h1
theorem Feed.off {H H1 H2 : Hp} {d l q : Addr} (h : Feed H1 d l) (e : ExtBut q H1 H2) (hq : H q = none) (hF : Feed H d l) : Feed H2 d l := h.put e (hF.nd hq) (hF.nl hq)
theorem ok__law_draw {f : Addr} {fd : FuncData} (F : Fun K "_law_draw" "_law_draw" s__law_draw f fd) (T : TopF mg) : FnOk P w K mg base CX0 1 f fd ["_law_feed_here", "_law_many"] (sp__law_draw K) := by
  refine F.ok sc__law_draw (fun vs H Q E h => ?_) (fun cdv A outer s H vs Q E hr h => ?_)
  · obtain ⟨d, l, n, rfl, _⟩ := h
    rfl
  · obtain ⟨d, l, n, rfl, ⟨a, t, u, ns, hd, hl, h0, h64⟩, hn, hn2, k⟩ := h
    have hu := hu_of hr
    have hq := qa_of hr
    have hld : l ≠ d := ne_of hl hd (by intro z; cases z)
    with_reducible refine ⟨_, (pss_cons (ps_dput hu (pv 0) pe_str (pe_op (op_addK (K := K)) (pe_ix (ix_anyK (K := K) hu) (pv 0) pe_str (by with_unfolding_all exact fun _ _ => rfl)) pe_int) (by with_unfolding_all rfl))
      (pss_cons (ps_if (pt_cmpR op_gt (pe_ix (ix_anyK (K := K) hu) (pv 0) pe_str (by with_unfolding_all exact fun _ _ => rfl)) pe_int (nomark _)) (pss_cons (ps_set (i := 2) sc__law_draw.nd (by with_unfolding_all rfl) (by with_unfolding_all exact Or.inl rfl) (pe_op op_mod (pe_ix (ix_anyK (K := K) hu) (pv 0) pe_str (by with_unfolding_all exact fun _ _ => rfl)) (pv 1)))
      (pss_cons (ps_dput hu (pv 0) pe_str (pe_op op_fdivA (pe_ix (ix_anyK (K := K) hu) (pv 0) pe_str (by with_unfolding_all exact fun _ _ => rfl)) (pv 1)) (by with_unfolding_all rfl))
      (pss_one (ps_ret (pv 2))))) pss_nil)
      (pss_cons (ps_set (i := 3) sc__law_draw.nd (by with_unfolding_all rfl) (by with_unfolding_all exact Or.inl rfl) pe_int)
      (pss_cons (ps_if (pt_cmpR (op_neK (K := K) hq) (pe_ix (ix_anyK (K := K) hu) (pv 0) pe_str (by with_unfolding_all exact fun _ _ => rfl)) (pe_lst pa_nil) (nomark _)) (pss_one (ps_set (i := 3) sc__law_draw.nd (by with_unfolding_all rfl) (by with_unfolding_all exact Or.inl rfl) (pe_ix (ix_anyK (K := K) hu) (pe_ix (ix_anyK (K := K) hu) (pv 0) pe_str (by with_unfolding_all exact fun _ _ => rfl)) (pe_op op_mod (pe_ix (ix_anyK (K := K) hu) (pv 0) pe_str (by with_unfolding_all exact fun _ _ => rfl)) (pe_callB (call_lenK (K := K)) (by with_unfolding_all rfl) T.b_len PyProof.Rows.Boot.«len» (pa_cons (pe_ix (ix_anyK (K := K) hu) (pv 0) pe_str (by with_unfolding_all exact fun _ _ => rfl)) pa_nil))) (by with_unfolding_all exact fun _ _ => rfl)))) pss_nil)
      (pss_cons (ps_dput hu (pv 0) pe_str (pe_op (op_addK (K := K)) (pe_ix (ix_anyK (K := K) hu) (pv 0) pe_str (by with_unfolding_all exact fun _ _ => rfl)) pe_int) (by with_unfolding_all rfl))
      (pss_cons (ps_if (PW.pt (pw_and (pt_cmpR op_ge (pv 3) (pe_op op_pow pe_int pe_int) (nomark _)) (pw_and1 (pt_cmpR op_le (pe_ix (ix_anyK (K := K) hu) (pv 0) pe_str (by with_unfolding_all exact fun _ _ => rfl)) (pe_callB (call_lenK (K := K)) (by with_unfolding_all rfl) T.b_len PyProof.Rows.Boot.«len» (pa_cons (pe_ix (ix_anyK (K := K) hu) (pv 0) pe_str (by with_unfolding_all exact fun _ _ => rfl)) pa_nil)) (nomark _))))) (pss_cons (ps_dput hu (pv 0) pe_str (pe_op op_fdivA (pv 3) (pv 1)) (by with_unfolding_all rfl))
      (pss_one (ps_ret (pe_op op_mod (pv 3) (pv 1))))) pss_nil)
      (pss_cons (ps_set (i := 4) sc__law_draw.nd (by with_unfolding_all rfl) (by with_unfolding_all exact Or.inl rfl) (pe_op op_mod (pe_op op_mulB (pe_op (op_addK (K := K)) (pe_op op_mod (pv 3) pe_int) (pe_op op_mulB pe_int (pe_ix (ix_anyK (K := K) hu) (pv 0) pe_str (by with_unfolding_all exact fun _ _ => rfl)))) pe_int) pe_int))
      (pss_cons (ps_set (i := 4) sc__law_draw.nd (by with_unfolding_all rfl) (by with_unfolding_all exact Or.inl rfl) (pe_op op_mod (pe_op op_mulB (pe_op (op_addK (K := K)) (pe_op op_fdivA (pv 4) pe_int) (pe_op op_mulB pe_int (pe_ix (ix_anyK (K := K) hu) (pv 0) pe_str (by with_unfolding_all exact fun _ _ => rfl)))) pe_int) pe_int))
      (pss_one (ps_ret (pe_op op_mod (pe_op op_fdivA (pv 4) pe_int) (pv 1)))))))))))), ?_⟩
    walk_at "rd"
    refine i_dput hd (by show 4 < 1000; decide) fun H1 e1 hd1 => ?_
    rw [put_turn] at hd1
    have hl1 : H1 l = some (.lst (ns.map V.int)) := e1 _ _ hld hl
    walk_at "rd"
    refine iteD (fun ht => ?_) (fun ht => ?_)
    · walk_at "rd"
      refine i_dput hd1 (by show 4 < 1000; decide) fun H2 e2 hd2 => ?_
      rw [put_left] at hd2
      have hl2 : H2 l = some (.lst (ns.map V.int)) := e2 _ _ hld hl1
      walk_at "rd"
      exact k _ H2 (Int.emod_nonneg _ (by omega)) (Int.emod_lt_of_pos _ hn) (e1.trans e2) ⟨_, _, _, ns, hd2, hl2, h0, h64⟩
    · walk_at "rq"
      with_reducible refine i_cut (fun σ' H' => ∃ c : Int, σ' = [some (.ref d), some (.int n), none, some (.int c), none] ∧ Same H1 H') (fun N hN => ?_) (fun σ1 H2 hM => ?_)
      · walk_at "rq"
        refine i_newL (by decide) fun y H2 hy2 e2 h2 => ?_
        refine i_neD (is_listI (e2.seq (SqL.of hl1))) (is_listI (ns := []) (SqL.of h2)) (PySem.W.ke_shaped_ints ns) (PySem.W.ke_shaped_ints []) ?_
        walk_at "rq"
        refine iteNB (fun hc => ?_) (fun hc => ?_)
        · have hpos : 0 < ns.length := by
            cases ns with
            | nil => simp [PyData.eqv, PyData.eqvAll] at hc
            | cons => simp
          have hl2 := e2 _ _ hl1
          have hd2 := e2 _ _ hd1
          walk_at "rq"
          have hlen : (0 : Int) < ((ns.map V.int).length : Nat) := by rw [List.length_map]; omega
          refine i_rI hlen ?_
          have hm0 : 0 ≤ a % (((ns.map V.int).length : Nat) : Int) := Int.emod_nonneg _ (by omega)
          have hm1 := Int.emod_lt_of_pos a hlen
          obtain ⟨c, hc⟩ : ∃ c, (ns.map V.int)[(a % (((ns.map V.int).length : Nat) : Int)).toNat]? = some (V.int c) := by
            refine ⟨ns[(a % (((ns.map V.int).length : Nat) : Int)).toNat]'(by rw [List.length_map] at *; omega), ?_⟩
            rw [List.getElem?_map, List.getElem?_eq_getElem]
            rfl
          refine i_ixL hl2 (by
            have := atI_nat hc
            rwa [Int.toNat_of_nonneg hm0] at this) ?_
          walk_at "rq"
          exact hN _ _ ⟨c, rfl, e2⟩
        · walk_at "rq"
          exact hN _ _ ⟨0, rfl, e2⟩
      · obtain ⟨c, rfl, e2⟩ := hM
        have hd2 := e2 _ _ hd1
        have hl2 := e2 _ _ hl1
        have e12 : ExtBut d H H2 := e1.same e2
        walk_at "rd"
        refine i_dput hd2 (by show 4 < 1000; decide) fun H3 e3 hd3 => ?_
        rw [put_at] at hd3
        have hl3 : H3 l = some (.lst (ns.map V.int)) := e3 _ _ hld hl2
        have fin : ∀ r : Int, 0 ≤ r → r < n → Q (.int r) H3 := fun r h1 h2 => k r H3 h1 h2 (e12.trans e3) ⟨_, _, _, ns, hd3, hl3, h0, h64⟩
        have take : ∀ r x : Int, 0 ≤ r → r < n → ∀ H4, ExtBut d H3 H4 → H4 d = some (.dK (feedKvs l (a + 1) x (u + 1))) → Q (.int r) H4 := fun r x h1 h2 H4 e4 h4 => k r H4 h1 h2 ((e12.trans e3).trans e4) ⟨_, _, _, ns, h4, e4 _ _ hld hl3, h0, h64⟩
        walk_at "rd"
        refine iteD (fun hc => ?_) (fun hc => ?_)
        · walk_at "rd"
          refine iteD (fun hc2 => ?_) (fun hc2 => ?_)
          · walk_at "rd"
            refine i_dput hd3 (by show 4 < 1000; decide) fun H4 e4 hd4 => ?_
            rw [put_left] at hd4
            walk_at "rd"
            exact take _ _ (Int.emod_nonneg _ (by omega)) (Int.emod_lt_of_pos _ hn) H4 e4 hd4
          · walk_at "rd"
            exact fin _ (Int.emod_nonneg _ (by omega)) (Int.emod_lt_of_pos _ hn)
        · walk_at "rd"
          exact fin _ (Int.emod_nonneg _ (by omega)) (Int.emod_lt_of_pos _ hn)
theorem ok__law_feed {f : Addr} {fd : FuncData} (F : Fun K "_law_feed" "_law_feed" s__law_feed f fd) (T : TopF mg) : FnOk P w K mg base CX0 1 f fd ["_law_script"] (sp__law_feed K) := by
  refine F.ok sc__law_feed (fun vs H Q E h => ?_) (fun cdv A outer s H vs Q E hr h => ?_)
  · obtain ⟨a, ns, rfl, _⟩ := h
    rfl
  · obtain ⟨a, ns, rfl, hS, h63, k⟩ := h
    have hu := hu_of hr
    have hq := qa_of hr
    with_reducible refine ⟨_, (pss_one (ps_ret (pe_disp (pps_cons pe_str (pe_callTy (call_listK (K := K)) (by with_unfolding_all rfl) T.b_list PyProof.Rows.Boot.«list» (pa_cons (pe_slice (sl_K (K := K)) (pv 0) po_none (po_some pe_int)) pa_nil)) (pps_cons pe_str pe_int (pps_cons pe_str pe_int (pps_cons pe_str pe_int pps_nil)))) (by with_unfolding_all rfl) (by with_unfolding_all rfl) (by decide) (by decide)))), ?_⟩
    walk_at "rd"
    refine i_disp fun p H1 hp e1 hp1 => ?_
    walk_at "rd"
    have hS1 := e1.seq hS
    refine i_slL hS1 fun q H2 hq2 e2 hq2' => ?_
    rw [cut_upto (by decide), ← List.map_take] at hq2'
    walk_at "rd"
    refine i_listL (SqL.of hq2') fun v H3 hv3 e3 hv3' => ?_
    walk_at "rd"
    refine i_pairs [(Sum.inr "script", .ref v), (Sum.inr "at", .int 0), (Sum.inr "left", .int 0), (Sum.inr "turn", .int 0)] (by walk_at "lk") (by rfl) (by show 4 ≤ 15; decide) fun H4 e4 h4 => ?_
    have en : H4 p = some (.dK (feedKvs v 0 0 0)) := h4
    refine k p v H4 hp (e1.free (e2.free hv3)) (fun b o hb => e4 b o (ne_of_none hb hp) (e3 _ _ (e2 _ _ (e1 _ _ hb)))) ⟨0, 0, 0, _, en, e4 _ _ (Ne.symm (ne_of_none (e2 _ _ hp1) hv3)) hv3', Nat.zero_le _, ?_⟩
    rw [List.length_take]
    omega
noncomputable def sp__law_shuffled (K : PySem.W.Frag) : Sp := fun vs H Q _ => ∃ d l a xs, vs = [.ref d, .ref a] ∧ Feed H d l ∧ (SqL K H a xs ∨ SqT K H a xs) ∧ xs.length ≤ 1000 ∧ ∀ p ys H', H p = none → ExtBut d H H' → Feed H' d l → H' p = some (.lst ys) → ys.Perm xs → Q (.ref p) H'
theorem ok__law_shuffled {f : Addr} {fd : FuncData} (F : Fun K "_law_shuffled" "_law_shuffled" s__law_shuffled f fd) (T : TopF mg) (c__law_draw : Fnd P w K mg base 1 "_law_draw" ["_law_feed_here", "_law_many"] (sp__law_draw K)) : FnOk P w K mg base CX0 2 f fd ["_law_feed_here", "_law_some"] (sp__law_shuffled K) := by
  refine F.ok sc__law_shuffled (fun vs H Q E h => ?_) (fun cdv A outer s H vs Q E hr h => ?_)
  · obtain ⟨d, l, a, xs, rfl, _⟩ := h
    rfl
  · obtain ⟨d, l, a, xs, rfl, hF, hS, hx, k⟩ := h
    have hu := hu_of hr
    have hq := qa_of hr
    with_reducible refine ⟨_, (pss_cons (ps_set (i := 2) sc__law_shuffled.nd (by with_unfolding_all rfl) (by with_unfolding_all exact Or.inl rfl) (pe_callTy (call_listK (K := K)) (by with_unfolding_all rfl) T.b_list PyProof.Rows.Boot.«list» (pa_cons (pv 1) pa_nil)))
      (pss_cons (ps_set (i := 3) sc__law_shuffled.nd (by with_unfolding_all rfl) (by with_unfolding_all exact Or.inl rfl) (pe_lst pa_nil))
      (pss_cons (ps_for PassesOwn.never (by with_unfolding_all rfl) (pi_range1 (by with_unfolding_all rfl) T.b_range (pa_cons (pe_callB (call_lenK (K := K)) (by with_unfolding_all rfl) T.b_len PyProof.Rows.Boot.«len» (pa_cons (pv 2) pa_nil)) pa_nil)) (pg_name (i := 4) sc__law_shuffled.nd (by with_unfolding_all rfl) (by with_unfolding_all exact Or.inl rfl))
      (pss_one (ps_expr (pe_bmK (K := K) PySem.F.plainAttrs_list PySem.F.slot_list_append PySem.F.type_list_append (mm mt_append) (pv 3) (pa_cons (pe_bmK (K := K) PySem.F.plainAttrs_list PySem.F.slot_list_pop PySem.F.type_list_pop (mm mt_popAt) (pv 2) (pa_cons (pe_fn c__law_draw (hr.mono (by decide)) (by with_unfolding_all rfl) (pa_cons (pv 0) (pa_cons (pe_callB (call_lenK (K := K)) (by with_unfolding_all rfl) T.b_len PyProof.Rows.Boot.«len» (pa_cons (pv 2) pa_nil)) pa_nil))) pa_nil)) pa_nil)))))
      (pss_one (ps_ret (pv 3)))))), ?_⟩
    walk_at "rd"
    refine i_listA hS fun q H1 hq1 e1 h1 => ?_
    walk_at "rd"
    refine i_newL (by decide) fun p H2 hp2 e2 h2 => ?_
    walk_at "rd"
    refine i_rngv (by omega) ?_
    have hp0 : H p = none := e1.free hp2
    have hpq : p ≠ q := fun z => by subst z; rw [h1] at hp2; cases hp2
    refine for_by walk_range (fun i σ H3 => ∃ us vs x4, σ = [some (.ref d), some (.ref a), some (.ref q), some (.ref p), x4] ∧ ExtBut d H H3 ∧ Feed H3 d l ∧ H3 q = some (.lst us) ∧ H3 p = some (.lst vs) ∧ (vs ++ us).Perm xs ∧ us.length + i = xs.length ∧ vs.length = i)
      ⟨xs, [], none, rfl, by walk_at "fr", by walk_at "fd", by walk_at "lk", h2, by simp, rfl, rfl⟩ (fun _ _ _ _ => trivial) (fun i x σ H3 hx3 hi hP => ?_) (fun σ H3 hP => ?_)
    · obtain ⟨us, vs, x4, rfl, e3, hF3, h3q, h3p, hperm, hlen, hvl⟩ := hP
      obtain ⟨rfl, hi2⟩ := rng_get hx3
      have hi3 : i < xs.length := by simpa using hi2
      walk_at "rd"
      refine ⟨d, l, _, rfl, hF3, by omega, by omega, fun r H4 hr0 hr1 e4 hF4 => ?_⟩
      have h4q : H4 q = some (.lst us) := e4 _ _ (hF3.lst h3q) h3q
      have h4p : H4 p = some (.lst vs) := e4 _ _ (hF3.lst h3p) h3p
      have hr2 : r.toNat < us.length := by omega
      walk_at "rd"
      refine i_popAtR h4q hr0 (List.getElem?_eq_getElem hr2) (fun H5 e5 h5q => ?_) (by omega)
      have h5p : H5 p = some (.lst vs) := e5 _ _ hpq h4p
      walk_at "rd"
      refine i_appR h5p (by omega) fun H6 e6 h6p => ?_
      walk_at "rd"
      refine ⟨us.eraseIdx r.toNat, vs ++ [us[r.toNat]], _, rfl, by walk_at "fr", (hF4.put e5 (hF.nd hq1) (hF.nl hq1)).put e6 (hF.nd hp0) (hF.nl hp0), e6 _ _ (Ne.symm hpq) h5q, h6p, ?_, ?_, by simp [hvl]⟩
      · exact (perm_pop (List.getElem?_eq_getElem hr2) vs).trans hperm
      · rw [List.length_eraseIdx, if_pos hr2]
        omega
    · obtain ⟨us, vs, x4, rfl, e3, hF3, h3q, h3p, hperm, hlen, hvl⟩ := hP
      walk_at "rd"
      have hu0 : us = [] := by
        rw [List.length_map, List.length_range] at hlen
        exact List.length_eq_zero_iff.mp (by omega)
      subst hu0
      rw [List.append_nil] at hperm
      exact k p vs H3 hp0 e3 hF3 h3p hperm
noncomputable def sp__law_names (K : PySem.W.Frag) : Sp := fun vs H Q _ => ∃ d l, vs = [.ref d] ∧ Feed H d l ∧ ∀ p ns H', H p = none → ExtBut d H H' → Feed H' d l → H' p = some (.lst (ns.map V.str)) → NamesS ns → ns.length = 10 → Q (.ref p) H'
noncomputable def MN (H : Hp) (d l : Addr) (way st sz at' : Int) : L2.St → Hp → Prop := fun σ' H' => ∃ p ns x7 x8, σ' = [some (V.ref d), some (.str LL), some (.int way), some (.int st), some (.int (1 + sz)), some (.int at'), some (.ref p), x7, x8] ∧ ExtBut d H H' ∧ Feed H' d l ∧ H' p = some (.lst (ns.map V.str)) ∧ NamesS ns ∧ ns.length = 10
theorem ok__law_names {f : Addr} {fd : FuncData} (F : Fun K "_law_names" "_law_names" s__law_names f fd) (T : TopF mg) (c__law_draw : Fnd P w K mg base 1 "_law_draw" ["_law_feed_here", "_law_many"] (sp__law_draw K)) (c__law_shuffled : Fnd P w K mg base 2 "_law_shuffled" ["_law_feed_here", "_law_some"] (sp__law_shuffled K)) : FnOk P w K mg base CX0 3 f fd ["_law_feed_here"] (sp__law_names K) := by
  refine F.ok sc__law_names (fun vs H Q E h => ?_) (fun cdv A outer s H vs Q E hr h => ?_)
  · obtain ⟨d, l, rfl, _⟩ := h
    rfl
  · obtain ⟨d, l, rfl, hF, k⟩ := h
    have hu := hu_of hr
    have hq := qa_of hr
    with_reducible refine ⟨_, (pss_cons (ps_set (i := 1) sc__law_names.nd (by with_unfolding_all rfl) (by with_unfolding_all exact Or.inr rfl) (pe_op op_mulB pe_str pe_int))
      (pss_cons (ps_set (i := 2) sc__law_names.nd (by with_unfolding_all rfl) (by with_unfolding_all exact Or.inl rfl) (pe_fn c__law_draw (hr.mono (by decide)) (by with_unfolding_all rfl) (pa_cons (pv 0) (pa_cons pe_int pa_nil))))
      (pss_cons (ps_set (i := 3) sc__law_names.nd (by with_unfolding_all rfl) (by with_unfolding_all exact Or.inr rfl) (pe_fn c__law_draw (hr.mono (by decide)) (by with_unfolding_all rfl) (pa_cons (pv 0) (pa_cons pe_int pa_nil))))
      (pss_cons (ps_set (i := 4) sc__law_names.nd (by with_unfolding_all rfl) (by with_unfolding_all exact Or.inl rfl) (pe_op (op_addK (K := K)) pe_int (pe_fn c__law_draw (hr.mono (by decide)) (by with_unfolding_all rfl) (pa_cons (pv 0) (pa_cons pe_int pa_nil)))))
      (pss_cons (ps_set (i := 5) sc__law_names.nd (by with_unfolding_all rfl) (by with_unfolding_all exact Or.inl rfl) (pe_fn c__law_draw (hr.mono (by decide)) (by with_unfolding_all rfl) (pa_cons (pv 0) (pa_cons (pv 4) pa_nil))))
      (pss_cons (ps_set (i := 6) sc__law_names.nd (by with_unfolding_all rfl) (by with_unfolding_all exact Or.inl rfl) (pe_lst (pa_cons pe_str (pa_cons pe_str (pa_cons pe_str (pa_cons pe_str (pa_cons pe_str (pa_cons pe_str (pa_cons pe_str (pa_cons pe_str (pa_cons pe_str (pa_cons pe_str pa_nil))))))))))))
      (pss_cons (ps_if (pt_cmpR (op_eqK (K := K) hq) (pv 2) pe_int (nomark _)) (pss_cons (ps_set (i := 7) sc__law_names.nd (by with_unfolding_all rfl) (by with_unfolding_all exact Or.inr rfl) (pe_slice (sl_K (K := K)) (pv 1) (po_some (pv 3)) (po_some (pe_op (op_addK (K := K)) (pv 3) (pv 5)))))
      (pss_cons (ps_set (i := 8) sc__law_names.nd (by with_unfolding_all rfl) (by with_unfolding_all exact Or.inr rfl) (pe_slice (sl_K (K := K)) (pv 1) (po_some (pv 3)) (po_some (pe_op op_sub (pe_op op_sub (pe_op (op_addK (K := K)) (pv 3) (pv 4)) (pv 5)) pe_int))))
      (pss_one (ps_setcomp (i := 6) ["_law_k"] ["_law_head", "_law_letters", "_law_tail"] [7, 1, 8] (by with_unfolding_all rfl) (by with_unfolding_all rfl) (by with_unfolding_all rfl) sc__law_names.nd (by with_unfolding_all rfl) (by with_unfolding_all rfl) (pi_range1 (by with_unfolding_all rfl) T.b_range (pa_cons pe_int pa_nil)) (fun _ _ _ _ => (pg_name (i := 0) (by with_unfolding_all (show (["_law_k", "_law_head", "_law_letters", "_law_tail"] : List Str).Nodup; decide +kernel)) (by with_unfolding_all rfl) (by with_unfolding_all exact Or.inl rfl))) (gk_name (by decide)) (fun _ _ _ _ => pif_nil) (fun _ _ _ _ => (pe_op (op_addK (K := K)) (pe_op (op_addK (K := K)) (pv 1) (pe_ix (ix_anyK (K := K) hu) (pv 2) (pe_op op_mod (pe_op op_mulB pe_int (pv 0)) pe_int) (by with_unfolding_all exact fun _ _ => rfl))) (pv 3))))))) pss_nil)
      (pss_cons (ps_if (pt_cmpR (op_eqK (K := K) hq) (pv 2) pe_int (nomark _)) (pss_one (ps_set (i := 6) sc__law_names.nd (by with_unfolding_all rfl) (by with_unfolding_all exact Or.inl rfl) (pe_op (op_addK (K := K)) (pe_comp ["_law_k"] ["_law_letters", "_law_start"] [1, 3] (by with_unfolding_all rfl) (by with_unfolding_all rfl) (by with_unfolding_all rfl) (pi_range1 (by with_unfolding_all rfl) T.b_range (pa_cons pe_int pa_nil)) (fun _ _ _ _ => (pg_name (i := 0) (by with_unfolding_all (show (["_law_k", "_law_letters", "_law_start"] : List Str).Nodup; decide +kernel)) (by with_unfolding_all rfl) (by with_unfolding_all exact Or.inl rfl))) (gk_name (by decide)) (fun _ _ _ _ => pif_nil) (fun _ _ _ _ => (pe_slice (sl_K (K := K)) (pv 1) (po_some (pv 2)) (po_some (pe_op (op_addK (K := K)) (pe_op (op_addK (K := K)) (pv 2) pe_int) (pv 0)))))) (pe_lst (pa_cons (pe_ix (ix_anyK (K := K) hu) (pv 1) (pe_op (op_addK (K := K)) (pv 3) pe_int) (by with_unfolding_all exact fun _ _ => rfl)) (pa_cons (pe_ix (ix_anyK (K := K) hu) (pv 1) (pe_op (op_addK (K := K)) (pv 3) pe_int) (by with_unfolding_all exact fun _ _ => rfl)) pa_nil)))))) pss_nil)
      (pss_cons (ps_if (pt_cmpR (op_eqK (K := K) hq) (pv 2) pe_int (nomark _)) (pss_one (ps_setcomp (i := 6) ["_law_k"] ["_law_letters", "_law_start"] [1, 3] (by with_unfolding_all rfl) (by with_unfolding_all rfl) (by with_unfolding_all rfl) sc__law_names.nd (by with_unfolding_all rfl) (by with_unfolding_all rfl) (pi_range1 (by with_unfolding_all rfl) T.b_range (pa_cons pe_int pa_nil)) (fun _ _ _ _ => (pg_name (i := 0) (by with_unfolding_all (show (["_law_k", "_law_letters", "_law_start"] : List Str).Nodup; decide +kernel)) (by with_unfolding_all rfl) (by with_unfolding_all exact Or.inl rfl))) (gk_name (by decide)) (fun _ _ _ _ => pif_nil) (fun _ _ _ _ => (pe_slice (sl_K (K := K)) (pv 1) (po_some (pe_op (op_addK (K := K)) (pv 2) (pe_op op_mulB pe_int (pv 0)))) (po_some (pe_op (op_addK (K := K)) (pe_op (op_addK (K := K)) (pe_op (op_addK (K := K)) (pv 2) (pe_op op_mulB pe_int (pv 0))) pe_int) (pe_op op_mod (pe_op op_mulB pe_int (pv 0)) pe_int))))))) pss_nil)
      (pss_one (ps_ret (pe_fn c__law_shuffled (hr.mono (by decide)) (by with_unfolding_all rfl) (pa_cons (pv 0) (pa_cons (pv 6) pa_nil)))))))))))))), ?_⟩
    walk_at "rd"
    refine i_mulBS (by decide) ?_
    rw [LL_rep]
    walk_at "rd"
    refine ⟨d, l, _, rfl, hF, by omega, by omega, fun way H1 hw0 hw1 e1 hF1 => ?_⟩
    walk_at "rd"
    refine ⟨d, l, _, rfl, hF1, by omega, by omega, fun st H2 hs0 hs1 e2 hF2 => ?_⟩
    walk_at "rd"
    refine ⟨d, l, _, rfl, hF2, by omega, by omega, fun sz H3 hz0 hz1 e3 hF3 => ?_⟩
    walk_at "rd"
    refine ⟨d, l, _, rfl, hF3, by omega, by omega, fun at' H4 ha0 ha1 e4 hF4 => ?_⟩
    walk_at "rd"
    refine i_newL (by decide) fun p5 H5 hp5 e5 h5 => ?_
    walk_at "rq"
    have fr4 : ExtBut d H H4 := by walk_at "fr"
    have hF5 : Feed H5 d l := by walk_at "fd"
    with_reducible refine i_cut (MN H d l way st sz at') (fun N hN => ?_) (fun σ1 H6 hM => ?_)
    · walk_at "rq"
      refine iteD (fun hw => ?_) (fun hw => ?_)
      · walk_at "rq"
        refine i_rngv (by omega) ?_
        have c1 := LL_cut (i := st) (j := st + at') hs0 (by omega) (by omega)
        have c2 := LL_cut (i := st) (j := st + (1 + sz) - at' - 1) (by omega) (by omega) (by omega)
        rw [c1, c2]
        refine comp_map walk_range (fI fun k => .str (txt (cutN st.toNat (st + at').toNat) ++ txt (sgnN (7 * k % 26).toNat) ++ txt (cutN st.toNat (st + (1 + sz) - at' - 1).toNat))) (by simp) (fun _ _ => trivial) (fun i x H8 R hx e8 hR => ?_) (fun p8 H8 hp8 e8 h8 => ?_)
        · obtain ⟨rfl, hi⟩ := rng_get hx
          have hm0 := Int.emod_nonneg (7 * (0 + (i : Int))) (show (26 : Int) ≠ 0 by decide)
          have hm1 := Int.emod_lt_of_pos (7 * (0 + (i : Int))) (show (0 : Int) < 26 by decide)
          obtain ⟨c, hc, ec⟩ := LL_at (i := 7 * (0 + (i : Int)) % 26) (by omega) (by omega)
          walk_at "rq"
          refine i_ixS LL_line hc ?_
          rw [ec]
          have l1 : (txt (cutN st.toNat (st + at').toNat)).length ≤ 52 := by show (cutN _ _).toArray.size ≤ _; unfold cutN; simp [LLn_len]; omega
          have l2 : (txt (cutN st.toNat (st + (1 + sz) - at' - 1).toNat)).length ≤ 52 := by show (cutN _ _).toArray.size ≤ _; unfold cutN; simp [LLn_len]; omega
          have l3 : (txt (sgnN (7 * (0 + (i : Int)) % 26).toNat)).length ≤ 52 := by show (sgnN _).toArray.size ≤ _; unfold sgnN; simp [LLn_len]; omega
          refine i_addS (line_of (by omega)) ?_
          have l4 : (txt (cutN st.toNat (st + at').toNat) ++ txt (sgnN (7 * (0 + (i : Int)) % 26).toNat)).length ≤ 104 := by rw [Str.length_append]; omega
          walk_at "rq"
          exact hR
        · rw [map_rng (G := fun k => txt (cutN st.toNat (st.toNat + at'.toNat) ++ sgnN (7 * k % 26) ++ cutN st.toNat (st.toNat + (1 + sz).toNat - at'.toNat - 1))) (fun k hk => by
            have q1 : (st + at').toNat = st.toNat + at'.toNat := by omega
            have q2 : (7 * (0 + (k : Int)) % 26).toNat = 7 * k % 26 := by omega
            have q4 : (st + (1 + sz) - at' - 1).toNat = st.toNat + (1 + sz).toNat - at'.toNat - 1 := by omega
            rw [q1, q2, q4, txt_app, txt_app])] at h8
          walk_at "rq"
          refine hN _ _ ⟨p8, (nm40 st.toNat (1 + sz).toNat at'.toNat).map txt, _, _, rfl, by walk_at "fr", by walk_at "fd", ?_, ok_nm40S (by omega) (by omega) (by omega), by simp [nm40]⟩
          rw [h8]
          simp [nm40, Function.comp_def]
      · walk_at "rq"
        refine hN _ _ ⟨p5, nm43, none, none, rfl, by walk_at "fr", hF5, h5, ok_nm43S, rfl⟩
    · obtain ⟨p, ns, x7, x8, rfl, e6, hF6, h6, hN6, hl6⟩ := hM
      with_reducible refine i_cut (MN H d l way st sz at') (fun N hN => ?_) (fun σ1 H7 hM => ?_)
      · walk_at "rq"
        refine iteD (fun hw => ?_) (fun hw => ?_)
        · walk_at "rq"
          refine i_rngv (by omega) ?_
          refine comp_map walk_range (fI fun k => .str (Txt.slice LL (some st) (some (st + 1 + k)))) (by simp) (fun _ _ => trivial) (fun i x H6 R hx e6 hR => ?_) (fun p6 H7 hp6 e7 h7 => ?_)
          · obtain ⟨rfl, hi⟩ := rng_get hx
            walk_at "rq"
            exact hR
          · rw [map_rng (G := fun k => txt (cutN st.toNat (st.toNat + 1 + k))) (fun k hk => by
              have e := LL_cut (i := st) (j := st + 1 + (0 + (k : Int))) hs0 (by omega) (by have : ((8 : Int)).toNat = 8 := rfl; omega)
              have e2 : (st + 1 + (0 + (k : Int))).toNat = st.toNat + 1 + k := by omega
              rw [e2] at e
              rw [e])] at h7
            obtain ⟨c9, hc9, e9⟩ := LL_at (i := st + 9) (by omega) (by omega)
            obtain ⟨c11, hc11, e11⟩ := LL_at (i := st + 11) (by omega) (by omega)
            walk_at "rq"
            refine i_ixS LL_line hc9 ?_
            walk_at "rq"
            refine i_ixS LL_line hc11 ?_
            walk_at "rq"
            refine i_newL (line_of (by simp)) fun p8 H8 hp8 e8 h8 => ?_
            refine i_addL (by walk_at "lk") h8 (by simp [sizeLine_eq]) fun p9 H9 hp9 e9' h9 => ?_
            walk_at "rq"
            refine hN _ _ ⟨p9, (nm41 st.toNat).map txt, _, _, rfl, by walk_at "fr", by walk_at "fd", ?_, ok_nm41S (by omega), by simp [nm41]⟩
            rw [h9, e9, e11]
            have q9 : (st + 9).toNat = st.toNat + 9 := by omega
            have q10 : (st + 11).toNat = st.toNat + 11 := by omega
            rw [q9, q10]
            simp [nm41, Function.comp_def]
        · walk_at "rq"
          exact hN _ _ ⟨p, ns, x7, x8, rfl, e6, hF6, h6, hN6, hl6⟩
      · obtain ⟨p', ns', x7', x8', rfl, e7, hF7, h7, hN7, hl7⟩ := hM
        with_reducible refine i_cut (MN H d l way st sz at') (fun N hN => ?_) (fun σ1 H8 hM => ?_)
        · walk_at "rq"
          refine iteD (fun hw => ?_) (fun hw => ?_)
          · walk_at "rq"
            refine i_rngv (by omega) ?_
            refine comp_map walk_range (fI fun k => .str (Txt.slice LL (some (st + 2 * k)) (some (st + 2 * k + 1 + 5 * k % 8)))) (by simp) (fun _ _ => trivial) (fun i x H8 R hx e8 hR => ?_) (fun p8 H8 hp8 e8 h8 => ?_)
            · obtain ⟨rfl, hi⟩ := rng_get hx
              walk_at "rq"
              exact hR
            · rw [map_rng (G := fun k => txt (cutN (st.toNat + 2 * k) (st.toNat + 2 * k + 1 + 5 * k % 8))) (fun k hk => by
                have h10 : ((10 : Int)).toNat = 10 := rfl
                have e := LL_cut (i := st + 2 * (0 + (k : Int))) (j := st + 2 * (0 + (k : Int)) + 1 + 5 * (0 + (k : Int)) % 8) (by omega) (by omega) (by omega)
                have q1 : (st + 2 * (0 + (k : Int))).toNat = st.toNat + 2 * k := by omega
                have q2 : (st + 2 * (0 + (k : Int)) + 1 + 5 * (0 + (k : Int)) % 8).toNat = st.toNat + 2 * k + 1 + 5 * k % 8 := by omega
                rw [q1, q2] at e
                rw [e])] at h8
              walk_at "rq"
              refine hN _ _ ⟨p8, (nm42 st.toNat).map txt, _, _, rfl, by walk_at "fr", by walk_at "fd", ?_, ok_nm42S (by omega), by simp [nm42]⟩
              rw [h8]
              simp [nm42, Function.comp_def]
          · walk_at "rq"
            exact hN _ _ ⟨p', ns', x7', x8', rfl, e7, hF7, h7, hN7, hl7⟩
        · obtain ⟨p2, ms, y7, y8, rfl, e8, hF8, h8, hN8, hl8⟩ := hM
          walk_at "rd"
          refine ⟨d, l, p2, _, rfl, hF8, .inl (SqL.of h8), by rw [List.length_map]; omega, fun p9 ys9 H9 hp9 e9 hF9 h9 hperm => ?_⟩
          obtain ⟨ls, rfl, hpm⟩ := perm_strs9 hperm
          exact k p9 ls H9 (hF8.free e8 hp9) (e8.trans e9) hF9 h9 (hN8.perm hpm) (by rw [hpm.length_eq, hl8])
noncomputable def sp__law_is_laid (K : PySem.W.Frag) : Sp := fun vs H Q _ => ∃ d l way j k m, vs = [.ref d, .int way, .int j, .int k, .int m] ∧ Feed H d l ∧ 0 ≤ way ∧ way < 7 ∧ 0 < k ∧ k ≤ 100 ∧ ∀ b H', ExtBut d H H' → Feed H' d l → Q (.bl b) H'
noncomputable def sp__law_half (K : PySem.W.Frag) : Sp := fun vs H Q _ => ∃ d l n, vs = [.ref d, .int n] ∧ Feed H d l ∧ 0 ≤ n ∧ n ≤ 10 ∧ ∀ v ns ps H', ExtBut d H H' → Feed H' d l → Is K H' (hfD ns ps) v → Half ns ps → ns.length = n.toNat → NamesS ns → Q v H'
theorem isL_ins4 {K : PySem.W.Frag} {H : Hp} {ps : List (Str × Str)} {xs : List V} {p : Str × Str} {v : V} (n : Nat) (h : IsL K H (ps.map prD) xs) (hv : Is K H (prD p) v) : IsL K H ((ps.take n ++ p :: ps.drop n).map prD) (insL xs n v) := by
  rw [List.map_append, List.map_cons, List.map_take, List.map_drop]
  exact (IsL.take n h).append (.cons hv (IsL.drop n h))
theorem len_prs4 {K : PySem.W.Frag} {H : Hp} {ps : List (Str × Str)} {xs : List V} (h : IsL K H (ps.map prD) xs) : xs.length = ps.length := by rw [← IsL.length h, List.length_map]
theorem up_ins {ls : List Str} {ps : List (Str × Str)} {p : Str × Str} (n : Nat) (h : Up ls ps) (hp : Up ls [p]) : Up ls (ps.take n ++ p :: ps.drop n) := by
  intro z hz
  rcases List.mem_append.mp hz with hz | hz
  · exact h z (List.mem_of_mem_take hz)
  · rcases List.mem_cons.mp hz with rfl | hz
    · exact hp _ (by simp)
    · exact h z (List.mem_of_mem_drop hz)
theorem ok__law_is_laid {f : Addr} {fd : FuncData} (F : Fun K "_law_is_laid" "_law_is_laid" s__law_is_laid f fd) (T : TopF mg) (c__law_draw : Fnd P w K mg base 1 "_law_draw" ["_law_feed_here", "_law_many"] (sp__law_draw K)) : FnOk P w K mg base CX0 2 f fd ["_law_feed_here", "_law_way", "_law_j", "_law_k", "_law_many"] (sp__law_is_laid K) := by
  refine F.ok sc__law_is_laid (fun vs H Q E h => ?_) (fun cdv A outer s H vs Q E hr h => ?_)
  · obtain ⟨d, l, way, j, kk, m, rfl, _⟩ := h
    rfl
  · obtain ⟨d, l, way, j, kk, m, rfl, hF, hw0, hw1, hk0, hk1, k⟩ := h
    have hu := hu_of hr
    have hq := qa_of hr
    with_reducible refine ⟨_, (pss_cons (ps_if (PW.pt (pw_or (pt_cmpR (op_eqK (K := K) hq) (pv 1) pe_int (nomark _)) (pw_or1 (pt_cmpR (op_eqK (K := K) hq) (pv 1) pe_int (nomark _))))) (pss_one (ps_ret (pe_cmpR (op_eqK (K := K) hq) (pe_fn c__law_draw (hr.mono (by decide)) (by with_unfolding_all rfl) (pa_cons (pv 0) (pa_cons (pe_op op_mulB pe_int (pv 1)) pa_nil))) pe_int (nomark _)))) pss_nil)
      (pss_cons (ps_if (pt_cmpR (op_eqK (K := K) hq) (pv 1) pe_int (nomark _)) (pss_one (ps_ret (pe_cmpR op_gt (pe_fn c__law_draw (hr.mono (by decide)) (by with_unfolding_all rfl) (pa_cons (pv 0) (pa_cons pe_int pa_nil))) pe_int (nomark _)))) pss_nil)
      (pss_cons (ps_if (pt_cmpR (op_eqK (K := K) hq) (pv 1) pe_int (nomark _)) (pss_one (ps_ret (pe_cmpR (op_eqK (K := K) hq) (pe_op op_sub (pv 3) (pv 2)) (pe_op (op_addK (K := K)) pe_int (pe_op op_mod (pv 4) pe_int)) (nomark _)))) pss_nil)
      (pss_cons (ps_if (pt_cmpR (op_eqK (K := K) hq) (pv 1) pe_int (nomark _)) (pss_one (ps_ret (pe_chain op_lt op_le (pv 2) (pe_op op_fdivA (pv 4) pe_int) (pv 3)))) pss_nil)
      (pss_one (ps_ret (pe_and (pe_cmpR (op_eqK (K := K) hq) (pv 1) pe_int (nomark _)) (pe_one (pe_cmpR (op_eqK (K := K) hq) (pv 2) (pe_fn c__law_draw (hr.mono (by decide)) (by with_unfolding_all rfl) (pa_cons (pv 0) (pa_cons (pv 3) pa_nil))) (nomark _)))))))))), ?_⟩
    walk_at "rd"
    refine iteD (fun hw => ?_) (fun hw => ?_)
    · have hw' : way = 1 := by cases hw; rfl
      walk_at "rd"
      refine ⟨d, l, _, rfl, hF, by omega, by omega, fun u H1 hu0 hu1 e1 hF1 => ?_⟩
      walk_at "rd"
      exact k _ H1 e1 hF1
    · walk_at "rd"
      refine iteD (fun hw2 => ?_) (fun hw2 => ?_)
      · have hw' : way = 2 := by cases hw2; rfl
        walk_at "rd"
        refine ⟨d, l, _, rfl, hF, by omega, by omega, fun u H1 hu0 hu1 e1 hF1 => ?_⟩
        walk_at "rd"
        exact k _ H1 e1 hF1
      · walk_at "rd"
        refine iteD (fun hw3 => ?_) (fun hw3 => ?_)
        · walk_at "rd"
          refine ⟨d, l, _, rfl, hF, by omega, by omega, fun u H1 hu0 hu1 e1 hF1 => ?_⟩
          walk_at "rd"
          exact k _ H1 e1 hF1
        · walk_at "rd"
          refine iteD (fun hw4 => ?_) (fun hw4 => ?_)
          · walk_at "rd"
            exact k _ H .refl hF
          · walk_at "rd"
            refine iteD (fun hw5 => ?_) (fun hw5 => ?_)
            · walk_at "rd"
              refine iteD (fun h1 => ?_) (fun h1 => ?_)
              · walk_at "rd"
                exact k _ H .refl hF
              · exact k _ H .refl hF
            · walk_at "rd"
              refine iteD (fun h1 => ?_) (fun h1 => ?_)
              · walk_at "rd"
                refine ⟨d, l, _, rfl, hF, by omega, by omega, fun u H1 hu0 hu1 e1 hF1 => ?_⟩
                walk_at "rd"
                exact k _ H1 e1 hF1
              · exact k _ H .refl hF
theorem ok__law_half {f : Addr} {fd : FuncData} (F : Fun K "_law_half" "_law_half" s__law_half f fd) (T : TopF mg) (c__law_draw : Fnd P w K mg base 1 "_law_draw" ["_law_feed_here", "_law_many"] (sp__law_draw K)) (c__law_shuffled : Fnd P w K mg base 2 "_law_shuffled" ["_law_feed_here", "_law_some"] (sp__law_shuffled K)) (c__law_names : Fnd P w K mg base 3 "_law_names" ["_law_feed_here"] (sp__law_names K)) (c__law_is_laid : Fnd P w K mg base 2 "_law_is_laid" ["_law_feed_here", "_law_way", "_law_j", "_law_k", "_law_many"] (sp__law_is_laid K)) : FnOk P w K mg base CX0 4 f fd ["_law_feed_here", "_law_many"] (sp__law_half K) := by
  refine F.ok sc__law_half (fun vs H Q E h => ?_) (fun cdv A outer s H vs Q E hr h => ?_)
  · obtain ⟨d, l, n, rfl, _⟩ := h
    rfl
  · obtain ⟨d, l, n, rfl, hF, h0, h10, k⟩ := h
    have hu := hu_of hr
    have hq := qa_of hr
    with_reducible refine ⟨_, (pss_cons (ps_set (i := 2) sc__law_half.nd (by with_unfolding_all rfl) (by with_unfolding_all exact Or.inl rfl) (pe_slice (sl_K (K := K)) (pe_fn c__law_names (hr.mono (by decide)) (by with_unfolding_all rfl) (pa_cons (pv 0) pa_nil)) po_none (po_some (pv 1))))
      (pss_cons (ps_set (i := 3) sc__law_half.nd (by with_unfolding_all rfl) (by with_unfolding_all exact Or.inl rfl) (pe_fn c__law_shuffled (hr.mono (by decide)) (by with_unfolding_all rfl) (pa_cons (pv 0) (pa_cons (pv 2) pa_nil))))
      (pss_cons (ps_set (i := 4) sc__law_half.nd (by with_unfolding_all rfl) (by with_unfolding_all exact Or.inl rfl) (pe_fn c__law_draw (hr.mono (by decide)) (by with_unfolding_all rfl) (pa_cons (pv 0) (pa_cons pe_int pa_nil))))
      (pss_cons (ps_set (i := 5) sc__law_half.nd (by with_unfolding_all rfl) (by with_unfolding_all exact Or.inl rfl) (pe_lst pa_nil))
      (pss_cons (ps_for PassesOwn.never (by with_unfolding_all rfl) (pi_range2 (by with_unfolding_all rfl) T.b_range (pa_cons pe_int (pa_cons (pv 1) pa_nil))) (pg_name (i := 6) sc__law_half.nd (by with_unfolding_all rfl) (by with_unfolding_all exact Or.inl rfl))
      (pss_one (ps_for PassesOwn.never (by with_unfolding_all rfl) (pi_range1 (by with_unfolding_all rfl) T.b_range (pa_cons (pv 6) pa_nil)) (pg_name (i := 7) sc__law_half.nd (by with_unfolding_all rfl) (by with_unfolding_all exact Or.inl rfl))
      (pss_one (ps_if (pt_val (pe_fn c__law_is_laid (hr.mono (by decide)) (by with_unfolding_all rfl) (pa_cons (pv 0) (pa_cons (pv 4) (pa_cons (pv 7) (pa_cons (pv 6) (pa_cons (pv 1) pa_nil))))))) (pss_one (ps_expr (pe_bmK (K := K) PySem.F.plainAttrs_list PySem.F.slot_list_insert PySem.F.type_list_insert (mm mt_insert) (pv 5) (pa_cons (pe_fn c__law_draw (hr.mono (by decide)) (by with_unfolding_all rfl) (pa_cons (pv 0) (pa_cons (pe_op (op_addK (K := K)) (pe_callB (call_lenK (K := K)) (by with_unfolding_all rfl) T.b_len PyProof.Rows.Boot.«len» (pa_cons (pv 5) pa_nil)) pe_int) pa_nil))) (pa_cons (pe_tup (pa_cons (pe_ix (ix_anyK (K := K) hu) (pv 3) (pv 7) (by with_unfolding_all exact fun _ _ => rfl)) (pa_cons (pe_ix (ix_anyK (K := K) hu) (pv 3) (pv 6) (by with_unfolding_all exact fun _ _ => rfl)) pa_nil))) pa_nil))))) pss_nil)))))
      (pss_cons (ps_for PassesOwn.never (by with_unfolding_all rfl) (pi_anyK (K := K) hu (pe_slice (sl_K (K := K)) (pv 5) po_none (po_some pe_int))) (pg_name (i := 8) sc__law_half.nd (by with_unfolding_all rfl) (by with_unfolding_all exact Or.inl rfl))
      (pss_one (ps_if (pt_cmpR (op_eqK (K := K) hq) (pe_fn c__law_draw (hr.mono (by decide)) (by with_unfolding_all rfl) (pa_cons (pv 0) (pa_cons pe_int pa_nil))) pe_int (nomark _)) (pss_one (ps_set (i := 5) sc__law_half.nd (by with_unfolding_all rfl) (by with_unfolding_all exact Or.inl rfl) (pe_op (op_addK (K := K)) (pv 5) (pe_lst (pa_cons (pv 8) pa_nil))))) pss_nil)))
      (pss_one (ps_ret (pe_tup (pa_cons (pe_callTy (call_tupleK (K := K)) (by with_unfolding_all rfl) T.b_tuple PyProof.Rows.Boot.«tuple» (pa_cons (pv 2) pa_nil)) (pa_cons (pe_callTy (call_tupleK (K := K)) (by with_unfolding_all rfl) T.b_tuple PyProof.Rows.Boot.«tuple» (pa_cons (pe_slice (sl_K (K := K)) (pv 5) po_none (po_some pe_int)) pa_nil)) pa_nil))))))))))), ?_⟩
    walk_at "rd"
    refine ⟨d, l, rfl, hF, fun p1 n1 H1 hp1 e1 hF1 h1 hN1 hl1 => ?_⟩
    walk_at "rd"
    refine i_slL (SqL.of h1) fun p2 H2 hp2 e2 h2 => ?_
    rw [cut_upto h0, ← List.map_take] at h2
    have hS2 : NamesS (n1.take n.toNat) := hN1.sublist (List.take_sublist _ _)
    have hN2 := hS2.nm
    have hl2 : (n1.take n.toNat).length = n.toNat := by rw [List.length_take]; omega
    generalize n1.take n.toNat = ns at h2 hN2 hl2 hS2
    have hF2 := hF1.same e2
    walk_at "rd"
    refine ⟨d, l, p2, _, rfl, hF2, .inl (SqL.of h2), by rw [List.length_map]; omega, fun p3 ys3 H3 hp3 e3 hF3 h3 hperm => ?_⟩
    obtain ⟨ls, rfl, hpm⟩ := perm_strs9 hperm
    have hll := hpm.length_eq
    have h3n : H3 p2 = some (.lst (ns.map V.str)) := e3 _ _ (hF2.lst h2) h2
    walk_at "rd"
    refine ⟨d, l, _, rfl, hF3, by omega, by omega, fun way H4 hw0 hw1 e4 hF4 => ?_⟩
    have h4n := e4 _ _ (hF3.lst h3n) h3n
    have h4l := e4 _ _ (hF3.lst h3) h3
    walk_at "rd"
    refine i_newL (by decide) fun p5 H5 hp5 e5 h5 => ?_
    have fr4 : ExtBut d H H4 := by walk_at "fr"
    have hp50 : H p5 = none := hF4.free fr4 hp5
    have hF5 := hF4.same e5
    have h5n := e5 _ _ h4n
    have h5l := e5 _ _ h4l
    have n5 : p2 ≠ p5 := ne_of_none h4n hp5
    have l5 : p3 ≠ p5 := ne_of_none h4l hp5
    have hp5d : p5 ≠ d := hF5.lst h5
    have hp2d : p2 ≠ d := hF5.lst h5n
    have hp3d : p3 ≠ d := hF5.lst h5l
    walk_at "rd"
    refine i_rngw (by omega) ?_
    refine for_by walk_range (fun i σ H6 => ∃ xs qs x6 x7 x8, σ = [some (.ref d), some (.int n), some (.ref p2), some (.ref p3), some (.int way), some (.ref p5), x6, x7, x8] ∧ ExtBut d H H6 ∧ Feed H6 d l ∧ H6 p2 = some (.lst (ns.map V.str)) ∧ H6 p3 = some (.lst (ls.map V.str)) ∧ H6 p5 = some (.lst xs) ∧ IsL K H6 (qs.map prD) xs ∧ Up ls qs ∧ qs.length ≤ i * 10)
      ⟨[], [], _, _, _, rfl, by walk_at "fr", hF5, h5n, h5l, h5, .nil, .nil, by decide⟩ (fun _ _ _ _ => trivial) (fun i x σ H6 hx hi hP => ?_) (fun σ H6 hP => ?_)
    · obtain ⟨xs, qs, x6, x7, x8, rfl, e6, hF6, h6n, h6l, h6, hI6, hU6, hq6⟩ := hP
      obtain ⟨rfl, hi2⟩ := rng_get hx
      walk_at "rd"
      refine i_rngv (by omega) ?_
      refine for_by walk_range (fun j σ H7 => ∃ ys rs x7 x8, σ = [some (.ref d), some (.int n), some (.ref p2), some (.ref p3), some (.int way), some (.ref p5), some (.int (1 + (i : Int))), x7, x8] ∧ ExtBut d H H7 ∧ Feed H7 d l ∧ H7 p2 = some (.lst (ns.map V.str)) ∧ H7 p3 = some (.lst (ls.map V.str)) ∧ H7 p5 = some (.lst ys) ∧ IsL K H7 (rs.map prD) ys ∧ Up ls rs ∧ rs.length ≤ i * 10 + j)
        ⟨xs, qs, _, _, rfl, e6, hF6, h6n, h6l, h6, hI6, hU6, by omega⟩ (fun _ _ _ _ => trivial) (fun j x σ H7 hx7 hj hP => ?_) (fun σ H7 hP => ?_)
      · obtain ⟨ys, rs, x7, x8, rfl, e7, hF7, h7n, h7l, h7, hI7, hU7, hq7⟩ := hP
        obtain ⟨rfl, hj2⟩ := rng_get hx7
        have hyl := len_prs4 hI7
        walk_at "rd"
        refine ⟨d, l, way, _, _, n, rfl, hF7, hw0, hw1, by omega, by omega, fun b H8 e8 hF8 => ?_⟩
        have h8n := e8 _ _ hp2d h7n
        have h8l := e8 _ _ hp3d h7l
        have h8 := e8 _ _ hp5d h7
        have hI8 := IsL.fz (hF7.fz e8) _ _ (frzL_prs rs) hI7
        walk_at "rd"
        refine iteB (fun hb => ?_) (fun hb => ?_)
        · walk_at "rd"
          refine ⟨d, l, _, rfl, hF8, by omega, by omega, fun u H9 hu0 hu1 e9 hF9 => ?_⟩
          have h9n := e9 _ _ hp2d h8n
          have h9l := e9 _ _ hp3d h8l
          have h9 := e9 _ _ hp5d h8
          obtain ⟨z1, hz1, hz1', _⟩ := str_at? (ls := ls) (i := 0 + (j : Int)) (by omega) (by omega)
          obtain ⟨z2, hz2, hz2', _⟩ := str_at? (ls := ls) (i := 1 + (i : Int)) (by omega) (by omega)
          walk_at "rd"
          refine i_ixL h9l hz1' ?_
          walk_at "rd"
          refine i_ixL h9l hz2' ?_
          walk_at "rd"
          refine i_newT (line_of (by simp)) fun t10 H10 ht10 e10 h10 => ?_
          walk_at "rd"
          refine i_ins (e10 _ _ h9) hu0 (by omega) (by omega) fun H11 e11 h11 => ?_
          have fz9 := hF8.fz e9
          have fz11 : Fz H10 H11 := e11.fzL (e10 _ _ h9)
          have hUp : Up ls [(z1, z2)] := fun p hp => by
            have : p = (z1, z2) := by simpa using hp
            rw [this]
            exact ⟨(0 + (j : Int)).toNat, (1 + (i : Int)).toNat, by omega, hz1, hz2⟩
          walk_at "rd"
          refine ⟨_, _, _, _, rfl, by walk_at "fr", by walk_at "fd", e11 _ _ n5 (e10 _ _ h9n), e11 _ _ l5 (e10 _ _ h9l), h11, isL_ins4 u.toNat (IsL.fz ((fz9.trans e10.fz).trans fz11) _ _ (frzL_prs rs) hI8) ((is_pr (SqT.of h10)).pr_fz fz11), up_ins _ hU7 hUp, ?_⟩
          rw [List.length_append, List.length_cons, List.length_take, List.length_drop]
          omega
        · walk_at "rd"
          exact ⟨ys, rs, _, _, rfl, e7.trans e8, hF8, h8n, h8l, h8, hI8, hU7, by omega⟩
      · obtain ⟨ys, rs, x7, x8, rfl, e7, hF7, h7n, h7l, h7, hI7, hU7, hq7⟩ := hP
        rw [List.length_map, List.length_range] at hq7
        exact ⟨ys, rs, _, _, _, rfl, e7, hF7, h7n, h7l, h7, hI7, hU7, by omega⟩
    · obtain ⟨xs, qs, x6, x7, x8, rfl, e6, hF6, h6n, h6l, h6, hI6, hU6, hq6⟩ := hP
      rw [List.length_map, List.length_range] at hq6
      have hxl := len_prs4 hI6
      walk_at "rd"
      refine i_slL (SqL.of h6) fun p7 H7 hp7 e7 h7 => ?_
      rw [cut_upto (by decide)] at h7
      have hI7 : IsL K H7 ((qs.take 5).map prD) (xs.take 5) := by rw [List.map_take]; exact IsL.take 5 (IsL.mono e7 _ _ hI6)
      have hp7d : p7 ≠ d := (hF6.same e7).lst h7
      refine i_itL (SqL.of h7) ?_
      refine for_by (walk_list (xs := xs.take 5)) (fun i σ H8 => ∃ p8 ys rs x6 x7 x8, σ = [some (.ref d), some (.int n), some (.ref p2), some (.ref p3), some (.int way), some (.ref p8), x6, x7, x8] ∧ ExtBut d H H8 ∧ Feed H8 d l ∧ Fz H7 H8 ∧ H8 p2 = some (.lst (ns.map V.str)) ∧ H8 p7 = some (.lst (xs.take 5)) ∧ H8 p8 = some (.lst ys) ∧ IsL K H8 (rs.map prD) ys ∧ Up ls rs ∧ rs.length ≤ 100 + i)
        ⟨p5, xs, qs, _, _, _, rfl, by walk_at "fr", hF6.same e7, .refl _, e7 _ _ h6n, h7, e7 _ _ h6, IsL.mono e7 _ _ hI6, hU6, by omega⟩ (fun i σ' H' hP => ?_) (fun i x σ H8 hx8 hi hP => ?_) (fun σ H8 hP => ?_)
      · obtain ⟨_, _, _, _, _, _, _, _, _, _, _, h, _⟩ := hP
        exact SqL.of h
      · obtain ⟨p8, ys, rs, x6, x7, x8, rfl, e8, hF8, fz8, h8n, h87, h8, hI8, hU8, hq8⟩ := hP
        obtain ⟨dp, hdp, hip⟩ := IsL.get hI7 hx8
        rw [List.getElem?_map] at hdp
        have hyl := len_prs4 hI8
        have hi5 : i < 5 := by rw [List.length_take] at hi; omega
        cases hpr : (qs.take 5)[i]? with
        | none => rw [hpr] at hdp; cases hdp
        | some pr =>
          rw [hpr] at hdp
          cases hdp
          have hUp : Up ls [pr] := hU6.sub fun z hz => by
            have : z = pr := by simpa using hz
            subst this
            exact List.mem_of_mem_take (List.mem_of_getElem? hpr)
          walk_at "rd"
          refine ⟨d, l, _, rfl, hF8, by omega, by omega, fun u H9 hu0 hu1 e9 hF9 => ?_⟩
          have h9n := e9 _ _ hp2d h8n
          have h97 := e9 _ _ hp7d h87
          have h9 := e9 _ _ (hF8.lst h8) h8
          have fz9 := hF8.fz e9
          walk_at "rd"
          refine iteD (fun hu' => ?_) (fun hu' => ?_)
          · walk_at "rd"
            refine i_newL (line_of (by simp)) fun q10 H10 hq10 e10 h10 => ?_
            refine i_addL (e10 _ _ h9) h10 (line_of (by simp; omega)) fun q11 H11 hq11 e11 h11 => ?_
            walk_at "rd"
            have e911 : Same H9 H11 := e10.trans e11
            refine ⟨q11, _, rs ++ [pr], _, _, _, rfl, by walk_at "fr", hF9.same e911, (fz8.trans fz9).trans e911.fz, e911 _ _ h9n, e911 _ _ h97, h11, ?_, ?_, by rw [List.length_append, List.length_singleton]; omega⟩
            · rw [List.map_append]
              exact IsL.append (IsL.fz (fz9.trans e911.fz) _ _ (frzL_prs rs) hI8) (.one (Is.fz ((fz8.trans fz9).trans e911.fz) _ _ (frz_pr pr) hip))
            · intro z hz
              rcases List.mem_append.mp hz with hz | hz
              · exact hU8 z hz
              · exact hUp z hz
          · walk_at "rd"
            exact ⟨p8, ys, rs, _, _, _, rfl, e8.trans e9, hF9, fz8.trans fz9, h9n, h97, h9, IsL.fz fz9 _ _ (frzL_prs rs) hI8, hU8, by omega⟩
      · obtain ⟨p8, ys, rs, x6, x7, x8, rfl, e8, hF8, fz8, h8n, h87, h8, hI8, hU8, hq8⟩ := hP
        have hyl := len_prs4 hI8
        walk_at "rd"
        refine i_tupleL (SqL.of h8n) fun t9 H9 ht9 e9 h9 => ?_
        walk_at "rd"
        refine i_slL (SqL.of (e9 _ _ h8)) fun q10 H10 hq10 e10 h10 => ?_
        rw [cut_upto (by decide)] at h10
        walk_at "rd"
        refine i_tupleL (SqL.of h10) fun t11 H11 ht11 e11 h11 => ?_
        walk_at "rd"
        refine i_newT (line_of (by simp)) fun t12 H12 ht12 e12 h12 => ?_
        have e912 : Same H9 H12 := (e10.trans e11).trans e12
        have hI12 : IsL K H12 ((rs.take 60).map prD) (ys.take 60) := by rw [List.map_take]; exact IsL.take 60 (IsL.mono (e9.trans e912) _ _ hI8)
        refine k (.ref t12) ns (rs.take 60) H12 (by walk_at "fr") (by walk_at "fd") (is_hf (SqT.of h12) ((is_nm (SqT.of h9)).nm_fz e912.fz) (Is.of_tup (SqT.of (e12 _ _ h11)) hI12)) (half_of9 hN2 (by omega) hpm (hU8.sub fun z hz => List.mem_of_mem_take hz) (by rw [List.length_take]; omega)) hl2 hS2
local macro_rules | `(tactic| walk_at "rq1") => `(tactic| with_reducible first | refine i_tMkX ?_ | refine i_tMkX0 ?_ | refine i_tFldX ?_ | refine i_sFldX ?_)
theorem len1 {ws : List V} {a : Str} (h : ws.length = [a].length) : ∃ v, ws = [v] := by
  match ws, h with
  | [v], _ => exact ⟨v, rfl⟩
theorem ok_NoJoin_init {f : Addr} {fd : FuncData} (F : Fun K "__init__" "NoJoin.__init__" s_NoJoin_init f fd) (T : TopF mg) {C_HalfError : Addr} {C_NoJoin : Addr} (x_HalfError : Xls_HalfError K mg C_HalfError C_HalfError) (x_NoJoin : Xls_NoJoin K mg C_NoJoin C_HalfError) : FnOk P w K mg base CX0 1 f fd ["self", "word"] (spX C_NoJoin ["word"]) := by
  refine F.ok sc_NoJoin_init (fun vs H Q E h => ?_) (fun cdv A outer s H vs Q E hr h => ?_)
  · obtain ⟨a, ws, rfl, hl, _⟩ := h
    obtain ⟨v, rfl⟩ := len1 hl
    rfl
  · obtain ⟨a, ws, rfl, hl, ha, k⟩ := h
    obtain ⟨v, rfl⟩ := len1 hl
    with_reducible refine ⟨_, (pss_one (ps_fldXK (K := K) (pv 0) (pv 1) (by with_unfolding_all rfl))), ?_⟩
    walk_at "rd"
    refine i_stX0 ha x_NoJoin.xc x_NoJoin.n_word fun dx H1 h1 h2 h3 h4 h5 => ?_
    walk_at "rd"
    exact k dx H1 h1 h2 h3 h4 h5
theorem ok_NoName_init {f : Addr} {fd : FuncData} (F : Fun K "__init__" "NoName.__init__" s_NoName_init f fd) (T : TopF mg) {C_HalfError : Addr} {C_NoName : Addr} (x_HalfError : Xls_HalfError K mg C_HalfError C_HalfError) (x_NoName : Xls_NoName K mg C_NoName C_HalfError) : FnOk P w K mg base CX0 1 f fd ["self", "name"] (spX C_NoName ["name"]) := by
  refine F.ok sc_NoName_init (fun vs H Q E h => ?_) (fun cdv A outer s H vs Q E hr h => ?_)
  · obtain ⟨a, ws, rfl, hl, _⟩ := h
    obtain ⟨v, rfl⟩ := len1 hl
    rfl
  · obtain ⟨a, ws, rfl, hl, ha, k⟩ := h
    obtain ⟨v, rfl⟩ := len1 hl
    with_reducible refine ⟨_, (pss_one (ps_fldXK (K := K) (pv 0) (pv 1) (by with_unfolding_all rfl))), ?_⟩
    walk_at "rd"
    refine i_stX0 ha x_NoName.xc x_NoName.n_name fun dx H1 h1 h2 h3 h4 h5 => ?_
    walk_at "rd"
    exact k dx H1 h1 h2 h3 h4 h5
noncomputable def sp_behind_each (K : PySem.W.Frag) : Sp := fun vs H Q _ => ∃ v ns ps, vs = [v] ∧ Is K H (hfD ns ps) v ∧ HalfC ns ps ∧ ∀ r as H', H r = none → (∀ a ∈ as, H a = none) → Same H H' → Tab H' r ns as (Way ps) → Q (.ref r) H'
theorem ok_behind_each {f : Addr} {fd : FuncData} (F : Fun K "behind_each" "behind_each" s_behind_each f fd) (T : TopF mg) : FnOk P w K mg base CX0 1 f fd ["half"] (sp_behind_each K) := by
  refine F.ok sc_behind_each (fun vs H Q E h => ?_) (fun cdv A outer s H vs Q E hr h => ?_)
  · obtain ⟨v, ns, ps, rfl, _⟩ := h
    rfl
  · obtain ⟨v, ns, ps, rfl, hI, hW, k⟩ := h
    have hu := hu_of hr
    have hq := qa_of hr
    have hn := hW.nd
    have hfew := hW.few
    with_reducible refine ⟨_, (pss_cons (ps_set (i := 1) sc_behind_each.nd (by with_unfolding_all rfl) (by with_unfolding_all exact Or.inl rfl) (pe_ix (ix_anyK (K := K) hu) (pv 0) pe_int (by with_unfolding_all exact fun _ _ => rfl)))
      (pss_cons (ps_set (i := 2) sc_behind_each.nd (by with_unfolding_all rfl) (by with_unfolding_all exact Or.inl rfl) (pe_callTy (call_dictK (K := K) hr.hd) (by with_unfolding_all rfl) T.b_dict PyProof.Rows.Boot.«dict» (pa_cons (pe_comp ["name"] [] [] (by with_unfolding_all rfl) (by with_unfolding_all rfl) (by with_unfolding_all rfl) (pi_anyK (K := K) hu (pv 1)) (fun _ _ _ _ => (pg_name (i := 0) (by with_unfolding_all (show (["name"] : List Str).Nodup; decide +kernel)) (by with_unfolding_all rfl) (by with_unfolding_all exact Or.inl rfl))) (gk_name (by decide)) (fun _ _ _ _ => pif_nil) (fun _ _ _ _ => (pe_tup (pa_cons (pv 0) (pa_cons pe_dnewK pa_nil))))) pa_nil)))
      (pss_cons (ps_for PassesOwn.never (by with_unfolding_all rfl) (pi_anyK (K := K) hu (pe_ix (ix_anyK (K := K) hu) (pv 0) pe_int (by with_unfolding_all exact fun _ _ => rfl))) (pg_name (i := 3) sc_behind_each.nd (by with_unfolding_all rfl) (by with_unfolding_all exact Or.inl rfl))
      (pss_one (ps_dput hu (pe_ix (ix_anyK (K := K) hu) (pv 2) (pe_ix (ix_anyK (K := K) hu) (pv 3) pe_int (by with_unfolding_all exact fun _ _ => rfl)) (by with_unfolding_all exact fun _ _ => rfl)) (pe_ix (ix_anyK (K := K) hu) (pv 3) pe_int (by with_unfolding_all exact fun _ _ => rfl)) pe_bl (by with_unfolding_all rfl))))
      (pss_cons (ps_for PassesOwn.never (by with_unfolding_all rfl) (pi_anyK (K := K) hu (pv 1)) (pg_name (i := 4) sc_behind_each.nd (by with_unfolding_all rfl) (by with_unfolding_all exact Or.inl rfl))
      (pss_one (ps_for PassesOwn.never (by with_unfolding_all rfl) (pi_anyK (K := K) hu (pv 1)) (pg_name (i := 5) sc_behind_each.nd (by with_unfolding_all rfl) (by with_unfolding_all exact Or.inl rfl))
      (pss_one (ps_if (pt_cmpR (op_inK (K := K) hq) (pv 4) (pe_ix (ix_anyK (K := K) hu) (pv 2) (pv 5) (by with_unfolding_all exact fun _ _ => rfl)) (by with_unfolding_all rfl)) (pss_one (ps_expr (pe_bmK (K := K) PySem.F.plainAttrs_dict PySem.F.slot_dict_update PySem.F.type_dict_update (mm mt_updateA) (pe_ix (ix_anyK (K := K) hu) (pv 2) (pv 5) (by with_unfolding_all exact fun _ _ => rfl)) (pa_cons (pe_ix (ix_anyK (K := K) hu) (pv 2) (pv 4) (by with_unfolding_all exact fun _ _ => rfl)) pa_nil)))) pss_nil)))))
      (pss_one (ps_ret (pv 2))))))), ?_⟩
    walk_at "rd"
    refine i_ixH0 hI fun nv hN => ?_
    walk_at "rd"
    obtain ⟨na, rfl, hS⟩ := hN.nm
    refine i_itT hS ?_
    refine comp_by (walk_tup (xs := ns.map V.str)) (fun p i acc H1 => Same H H1 ∧ ∃ as : List Addr, as.length = i ∧ as.Nodup ∧ (∀ a ∈ as, H1 a = some (.dK []) ∧ H a = none) ∧ PrsK K H1 (tabK (ns.take i) as) acc) (fun p H' hp e h => ⟨e, [], rfl, by simp, fun _ h => (by cases h), by rfl⟩) (fun p i acc H1 hP => hP.1.seqT hS) (fun p i x acc H1 hp hx hi hl ha hP => ?_) fun p acc H1 hp ha hl hP => ?_
    · obtain ⟨e1, as, hal, had, haf, hpr⟩ := hP
      rw [List.getElem?_map] at hx
      cases hz : ns[i]? with
      | none => rw [hz] at hx; cases hx
      | some z =>
        rw [hz] at hx
        cases hx
        have hin : i < ns.length := (List.getElem?_eq_some_iff.mp hz).1
        walk_at "rd"
        refine i_newD fun b H2 hb2 e2 h2 => ?_
        walk_at "rd"
        refine i_newT (line_of (by simp)) fun t H3 ht3 e3 h3 => ?_
        have h3p : H3 p = some (.lst acc) := e3 _ _ (e2 _ _ ha)
        refine push_i (by rw [List.length_map]; omega) hi hl h3p fun H4 e4 h4 => ?_
        have hbp : b ≠ p := Ne.symm (ne_of_none ha hb2)
        refine ⟨by walk_at "sm", as ++ [b], by simp [hal], ?_, fun a ha' => ?_, ?_⟩
        · rw [List.nodup_append]
          refine ⟨had, by simp, fun a ha1 c hc e => ?_⟩
          have : c = b := by simpa using hc
          subst this
          subst e
          have := (haf _ ha1).1
          rw [hb2] at this
          cases this
        · rcases List.mem_append.mp ha' with ha' | ha'
          · obtain ⟨q1, q2⟩ := haf a ha'
            exact ⟨e4 _ _ (ne_of q1 ha (by intro z; cases z)) (e3 _ _ (e2 _ _ q1)), q2⟩
          · have : a = b := by simpa using ha'
            subst this
            exact ⟨e4 _ _ hbp (e3 _ _ h2), e1.free hb2⟩
        · have ht : ns.take (i + 1) = ns.take i ++ [z] := by rw [List.take_add_one, hz]; rfl
          have hlen : (ns.take i).length = as.length := by rw [List.length_take, hal]; omega
          rw [ht, tab_snoc hlen]
          have fz4 := e4.fzL h3p
          exact PrsK.snoc (kv := (Sum.inr z, V.ref b)) (fz4.seq (SqT.of h3)) (PrsK.fz ((e2.fz.trans e3.fz).trans fz4) hpr)
    · obtain ⟨e1, as, hal, had, haf, hpr⟩ := hP
      rw [List.length_map] at hal
      rw [List.length_map, List.take_length] at hpr
      walk_at "rd"
      refine i_dict ha hpr (by unfold tabK; rw [List.length_map, List.length_zip]; omega) fun r H2 hr2 e2 h2 => ?_
      rw [merge_new _ _ (keys_tab hn) (fun _ _ _ h => by cases h), List.nil_append] at h2
      have hr0 : H r = none := e1.free hr2
      have hra : r ∉ as := fun hm => by
        have := (haf r hm).1
        rw [hr2] at this
        cases this
      have hT0 : Tab H2 r ns as (fun z y => (z, y) ∈ ps.take 0) := ⟨hal, had, hra, h2, fun i z a hz ha' => ⟨[], e2 _ _ (haf a (List.mem_of_getElem? ha')).1, by simp, fun _ h => (by cases h), fun y => by simp⟩⟩
      walk_at "rd"
      refine i_ixH1 (hI.hf_fz (by walk_at "fz")) fun pv hP2 => ?_
      refine for_ps hP2 (fun i σ H3 => ∃ x3, σ = [some v, some (.ref na), some (.ref r), x3, none, none] ∧ Same H H3 ∧ Fz H2 H3 ∧ Tab H3 r ns as (fun z y => (z, y) ∈ ps.take i))
        ⟨none, rfl, by walk_at "sm", .refl _, hT0⟩ (fun i σ' H' hP => hP.choose_spec.2.2.1) (fun i pr w σ' H3 hpr hIp hP => ?_) (fun σ' H3 hP => ?_)
      · obtain ⟨x3, rfl, e3, fz3, hT⟩ := hP
        have hpm := hW.mem pr (List.mem_of_getElem? hpr)
        obtain ⟨j, a, hj, haj⟩ := hT.at hpm.1
        obtain ⟨ks, hk1, hk2, hk3, hk4⟩ := hT.row j _ a hj haj
        have hkl : ks.length ≤ ns.length := nodup_le hk2 hk3
        walk_at "rd"
        refine i_ixP0 hIp ?_
        refine i_tab hT hn hj haj ?_
        walk_at "rd"
        refine i_ixP1 hIp ?_
        refine i_dput hk1 (by rw [len_row]; omega) fun H4 e4 h4 => ?_
        rw [put_row] at h4
        walk_at "rd"
        have ha0 : H a = none := (haf a (List.mem_of_getElem? haj)).2
        refine ⟨_, rfl, by walk_at "sm", fz3.trans (e4.fzD hk1), hT.put e4 hn hj haj h4 (nodup_addK hk2) (fun y hy => ?_) (fun y => ?_) (fun z hz hzx y => ?_)⟩
        · rcases mem_addK.mp hy with hy | rfl
          · exact hk3 y hy
          · exact hpm.2
        · rw [mem_addK, hk4, List.take_add_one, hpr, List.mem_append]
          constructor
          · rintro (h | rfl)
            · exact .inl h
            · exact .inr (by simp)
          · rintro (h | h)
            · exact .inl h
            · right
              have : (pr.1, y) = pr := by simpa using h
              rw [← this]
        · rw [List.take_add_one, hpr, List.mem_append]
          constructor
          · exact .inl
          · rintro (h | h)
            · exact h
            · have : (z, y) = pr := by simpa using h
              exact absurd (by rw [← this]) hzx
      · obtain ⟨x3, rfl, e3, fz3, hT⟩ := hP
        rw [List.take_length] at hT
        have hW0 : War ns ps [] (fun z y => (z, y) ∈ ps) := ⟨fun z y h => .one h, fun z y h => h, fun m hm => by cases hm⟩
        walk_at "rd"
        have hN3 : Is K H3 (nmD ns) (.ref na) := hN.nm_fz e3.fz
        refine for_nm hN3 (fun i σ H4 => ∃ x4 x5 R, σ = [some v, some (.ref na), some (.ref r), x3, x4, x5] ∧ Same H H4 ∧ Fz H3 H4 ∧ Tab H4 r ns as R ∧ War ns ps (ns.take i) R)
          ⟨_, _, _, rfl, e3, .refl _, hT, hW0⟩ (fun i σ' H' hP => ?_) (fun i mid σ' H4 hmid hP => ?_) (fun σ' H4 hP => ?_)
        · obtain ⟨_, _, _, _, _, fz, _⟩ := hP
          exact fz
        · obtain ⟨x4, x5, R, rfl, e4, fz4, hT4, hR⟩ := hP
          obtain ⟨jm, am, hjm, ham⟩ := hT4.at (List.mem_of_getElem? hmid)
          have hN4 : Is K H4 (nmD ns) (.ref na) := hN3.nm_fz fz4
          walk_at "rd"
          refine for_nm hN4 (fun j σ H5 => ∃ x5, σ = [some v, some (.ref na), some (.ref r), x3, some (.str mid), x5] ∧ Same H H5 ∧ Fz H4 H5 ∧ Tab H5 r ns as (warR R mid (ns.take j)))
            ⟨_, rfl, e4, .refl _, hT4.congr fun z _ y => ⟨.inl, fun h => h.elim (fun q => q) fun q => absurd q.1 (by simp)⟩⟩ (fun i σ' H' hP => hP.choose_spec.2.2.1) (fun j nm σ' H5 hnm hP => ?_) (fun σ' H5 hP => ?_)
          · obtain ⟨x5', rfl, e5, fz5, hT5⟩ := hP
            obtain ⟨jn, an, hjn, han⟩ := hT5.at (List.mem_of_getElem? hnm)
            obtain ⟨ks, hk1, hk2, hk3, hk4⟩ := hT5.row jn nm an hjn han
            obtain ⟨ms, hm1, hm2, hm3, hm4⟩ := hT5.row jm mid am hjm ham
            have hkl : ks.length ≤ ns.length := nodup_le hk2 hk3
            have hml : ms.length ≤ ns.length := nodup_le hm2 hm3
            have htj : ns.take (j + 1) = ns.take j ++ [nm] := by rw [List.take_add_one, hnm]; rfl
            have hin : mid ∈ ks ↔ R nm mid := (hk4 mid).trans ⟨fun h => h.elim (fun q => q) fun q => q.2.1, .inl⟩
            have hmid2 : ∀ y, y ∈ ms ↔ R mid y := fun y => (hm4 y).trans ⟨fun h => h.elim (fun q => q) fun q => q.2.2, .inl⟩
            have hother : ∀ z ∈ ns, z ≠ nm → ∀ y, warR R mid (ns.take j) z y ↔ warR R mid (ns.take (j + 1)) z y := fun z _ hz y => by
              unfold warR
              rw [htj, List.mem_append, List.mem_singleton]
              simp [hz]
            walk_at "rd"
            refine i_tab hT5 hn hjn han ?_
            refine i_inRow hk1 ?_
            walk_at "rd"
            refine iteD (fun hc => ?_) (fun hc => ?_)
            · have hRn := hin.mp hc
              by_cases hne : nm = mid
              · subst hne
                have hji : jn = jm := by
                  obtain ⟨p1, p2⟩ := List.getElem?_eq_some_iff.mp hjn
                  obtain ⟨q1, q2⟩ := List.getElem?_eq_some_iff.mp hjm
                  exact (List.getElem_inj hn).mp (p2.trans q2.symm)
                subst hji
                rw [han] at ham
                cases ham
                walk_at "rd"
                refine i_tab hT5 hn hjn han ?_
                refine i_tyD hk1 ?_
                walk_at "rd"
                refine i_tab hT5 hn hjn han ?_
                walk_at "rd"
                refine i_updS hk1 ?_
                walk_at "rd"
                refine ⟨_, rfl, e5, fz5, hT5.congr fun z hz y => ?_⟩
                by_cases hzn : z = nm
                · subst hzn
                  unfold warR
                  constructor
                  · exact fun h => .inl (h.elim (fun q => q) fun q => q.2.2)
                  · exact fun h => .inl (h.elim (fun q => q) fun q => q.2.2)
                · exact hother z hz hzn y
              have hane : an ≠ am := fun q => by
                subst q
                obtain ⟨p1, p2⟩ := List.getElem?_eq_some_iff.mp han
                obtain ⟨q1, q2⟩ := List.getElem?_eq_some_iff.mp ham
                have := (List.getElem_inj hT5.nd).mp (p2.trans q2.symm)
                subst this
                rw [hjn] at hjm
                exact hne (Option.some.inj hjm)
              walk_at "rd"
              refine i_tab hT5 hn hjn han ?_
              refine i_tyD hk1 ?_
              walk_at "rd"
              refine i_tab hT5 hn hjm ham ?_
              walk_at "rd"
              refine i_updA hk1 hm1 hane (by omega) fun H6 e6 h6 => ?_
              walk_at "rd"
              have ha0 : H an = none := (haf an (List.mem_of_getElem? han)).2
              refine ⟨_, rfl, by walk_at "sm", fz5.trans (e6.fzD hk1), hT5.put e6 hn hjn han h6 (nodup_addAll hk2) (fun y hy => ?_) (fun y => ?_) hother⟩
              · rcases mem_addAll.mp hy with hy | hy
                · exact hk3 y hy
                · exact hm3 y hy
              · rw [mem_addAll, hk4, hmid2]
                unfold warR
                rw [htj, List.mem_append, List.mem_singleton]
                constructor
                · rintro ((h | h) | h)
                  · exact .inl h
                  · exact .inr ⟨.inl h.1, h.2⟩
                  · exact .inr ⟨.inr rfl, hRn, h⟩
                · rintro (h | h)
                  · exact .inl (.inl h)
                  · exact .inr h.2.2
            · have hRn : ¬ R nm mid := fun q => hc (hin.mpr q)
              walk_at "rd"
              refine ⟨_, rfl, e5, fz5, hT5.congr fun z hz y => ?_⟩
              by_cases hzn : z = nm
              · subst hzn
                unfold warR
                constructor
                · exact fun h => .inl (h.elim (fun q => q) fun q => absurd q.2.1 hRn)
                · exact fun h => .inl (h.elim (fun q => q) fun q => absurd q.2.1 hRn)
              · exact hother z hz hzn y
          · obtain ⟨x5', rfl, e5, fz5, hT5⟩ := hP
            rw [List.take_length] at hT5
            refine ⟨_, _, _, rfl, e5, fz4.trans fz5, hT5.congr (R' := fun z y => R z y ∨ (R z mid ∧ R mid y)) fun z hz y => ?_, ?_⟩
            · unfold warR
              simp [hz]
            · have htj : ns.take (i + 1) = ns.take i ++ [mid] := by rw [List.take_add_one, hmid]; rfl
              rw [htj]
              exact hR.step
        · obtain ⟨x4, x5, R, rfl, e4, fz4, hT4, hR⟩ := hP
          rw [List.take_length] at hR
          walk_at "rd"
          exact k r as H4 hr0 (fun a ha' => (haf a ha').2) e4 (hT4.congr fun z _ y => hR.done hW.mem z y)
noncomputable def sp_closed (K : PySem.W.Frag) : Sp := fun vs H Q _ => ∃ v ns ps, vs = [v] ∧ Is K H (hfD ns ps) v ∧ HalfW ns ps ∧ ∀ u H', Same H H' → Is K H' (psD (clP ns ps)) u → Q u H'
noncomputable def sp_has_third_between (K : PySem.W.Frag) : Sp := fun vs H Q _ => ∃ r v ns ps as p, vs = [.ref r, v] ∧ TabR H r ns as (Way ps) ∧ ns.Nodup ∧ ns.length ≤ 100 ∧ (∀ q ∈ ps, q.1 ∈ ns ∧ q.2 ∈ ns) ∧ Is K H (prD p) v ∧ p.1 ∈ ns ∧ ∀ H', Keep as H H' → Q (.bl (thB ns ps p)) H'
theorem ok_closed {f : Addr} {fd : FuncData} (F : Fun K "closed" "closed" s_closed f fd) (T : TopF mg) (c_behind_each : Fnd P w K mg base 1 "behind_each" ["half"] (sp_behind_each K)) : FnOk P w K mg base CX0 2 f fd ["half"] (sp_closed K) := by
  refine F.ok sc_closed (fun vs H Q E h => ?_) (fun cdv A outer s H vs Q E hr h => ?_)
  · obtain ⟨v, ns, ps, rfl, _⟩ := h
    rfl
  · obtain ⟨v, ns, ps, rfl, hI, hW, k⟩ := h
    have hu := hu_of hr
    have hq := qa_of hr
    have hfew := hW.few
    with_reducible refine ⟨_, (pss_cons (ps_set (i := 1) sc_closed.nd (by with_unfolding_all rfl) (by with_unfolding_all exact Or.inr rfl) (pe_fn c_behind_each (hr.mono (by decide)) (by with_unfolding_all rfl) (pa_cons (pv 0) pa_nil)))
      (pss_cons (ps_set (i := 2) sc_closed.nd (by with_unfolding_all rfl) (by with_unfolding_all exact Or.inl rfl) (pe_lst pa_nil))
      (pss_cons (ps_for PassesOwn.never (by with_unfolding_all rfl) (pi_anyK (K := K) hu (pe_ix (ix_anyK (K := K) hu) (pv 0) pe_int (by with_unfolding_all exact fun _ _ => rfl))) (pg_name (i := 3) sc_closed.nd (by with_unfolding_all rfl) (by with_unfolding_all exact Or.inr rfl))
      (pss_one (ps_expr (pe_bmK (K := K) PySem.F.plainAttrs_list PySem.F.slot_list_extend PySem.F.type_list_extend (mm mt_extend) (pv 2) (pa_cons (pe_comp ["other"] ["one", "reach"] [3, 1] (by with_unfolding_all rfl) (by with_unfolding_all rfl) (by with_unfolding_all rfl) (pi_anyK (K := K) hu (pe_ix (ix_anyK (K := K) hu) (pv 0) pe_int (by with_unfolding_all exact fun _ _ => rfl))) (fun _ _ _ _ => (pg_name (i := 0) (by with_unfolding_all (show (["other", "one", "reach"] : List Str).Nodup; decide +kernel)) (by with_unfolding_all rfl) (by with_unfolding_all exact Or.inl rfl))) (gk_name (by decide)) (fun _ _ _ _ => (pif_one (pt_cmpR (op_inK (K := K) hq) (pv 0) (pe_ix (ix_anyK (K := K) hu) (pv 2) (pv 1) (by with_unfolding_all exact fun _ _ => rfl)) (by with_unfolding_all rfl)))) (fun _ _ _ _ => (pe_tup (pa_cons (pv 1) (pa_cons (pv 0) pa_nil))))) pa_nil)))))
      (pss_one (ps_ret (pe_callTy (call_tupleK (K := K)) (by with_unfolding_all rfl) T.b_tuple PyProof.Rows.Boot.«tuple» (pa_cons (pv 2) pa_nil))))))), ?_⟩
    walk_at "rd"
    refine ⟨v, ns, ps, rfl, hI, hW, fun r as H1 hr1 ha1 e1 hT => ?_⟩
    walk_at "rd"
    refine i_newL (line_of (by simp)) fun p H2 hp2 e2 h2 => ?_
    walk_at "rd"
    refine i_ixH0 (hI.hf_fz (by walk_at "fz")) fun nv hN => ?_
    refine for_nm hN (fun i σ H3 => ∃ x3, σ = [some v, some (.ref r), some (.ref p), x3] ∧ Same H1 H3 ∧ Fz H2 H3 ∧ ∃ ys, H3 p = some (.lst ys) ∧ IsL K H3 (((ns.take i).flatMap (clR ns ps)).map prD) ys ∧ ys.length ≤ i * 100)
      ⟨none, rfl, e2, .refl _, [], h2, by simp only [List.take_zero, List.flatMap_nil, List.map_nil]; exact .nil, by simp⟩ (fun i σ' H' hP => ?_) (fun i z σ' H3 hz hP => ?_) (fun σ' H3 hP => ?_)
    · obtain ⟨_, _, _, fz, _⟩ := hP
      exact fz
    · obtain ⟨x3, rfl, e3, fz3, ys, h3, hL, hly⟩ := hP
      have hI3 : Is K H3 (hfD ns ps) v := hI.hf_fz (e1.fz.trans e3.fz)
      have hzm := List.mem_of_getElem? hz
      have hin : i < ns.length := (List.getElem?_eq_some_iff.mp hz).1
      walk_at "rd"
      refine i_ixH0 hI3 fun nv3 hN3 => ?_
      refine comp_nm hN3 (fun y => wayB ps z y) (fun y => prD (z, y)) (fun _ => frz_pr _) (by omega) (fun j y H4 R R' hy e4 hR hR' => ?_) (fun q zs H4 hq4 e4 h4 hL4 => ?_)
      · have hT4 := hT.same (e3.trans e4)
        obtain ⟨a0, b0, ha0, hb0⟩ := hT4.at hzm
        obtain ⟨ks, hk1, hk2, hk3, hk4⟩ := hT4.row a0 z b0 ha0 hb0
        walk_at "rd"
        refine i_tab hT4 hW.nd ha0 hb0 ?_
        refine i_inRow hk1 ?_
        rw [wayB_dec (hk4 y)]
        walk_at "rd"
        refine iteB (fun hc => ?_) (fun hc => ?_)
        · walk_at "rd"
          refine i_newT (line_of (by simp)) fun t H5 ht5 e5 h5 => ?_
          exact hR hc _ _ e5 (is_pr (SqT.of h5))
        · exact hR' hc _ (Same.refl _)
      · walk_at "rd"
        have h4p := e4 _ _ h3
        have hlz : zs.length ≤ ns.length := by
          rw [← IsL.length hL4, List.length_map]
          exact List.length_filter_le _ _
        refine i_extR h4p h4 (by omega) fun H5 e5 h5 => ?_
        walk_at "rd"
        have fz5 : Fz H4 H5 := e5.fzL h4p
        refine ⟨_, rfl, ?_, (fz3.trans e4.fz).trans fz5, _, h5, ?_, ?_⟩
        · refine Same.off (q := p) (H1 := H4) (e3.trans e4) ?_ e5
          exact hp2
        · have ht : ns.take (i + 1) = ns.take i ++ [z] := by rw [List.take_add_one, hz]; rfl
          rw [ht, List.flatMap_append, List.map_append]
          refine IsL.append (IsL.fz (e4.fz.trans fz5) _ _ (frzL_prs _) hL) ?_
          have e : ([z].flatMap (clR ns ps)).map prD = (ns.filter fun y => wayB ps z y).map fun y => prD (z, y) := by
            simp [clR, Function.comp_def]
          rw [e]
          exact IsL.fz fz5 _ _ (frzL_map _ (fun _ => frz_pr _) _) hL4
        · rw [List.length_append]
          omega
    · obtain ⟨x3, rfl, e3, fz3, ys, h3, hL, hly⟩ := hP
      rw [List.take_length] at hL
      walk_at "rd"
      exact i_tupPs h3 hL fun u H4 e4 hu4 => k u H4 ((e1.trans e3).trans e4) hu4
theorem ok_has_third_between {f : Addr} {fd : FuncData} (F : Fun K "has_third_between" "has_third_between" s_has_third_between f fd) (T : TopF mg) : FnOk P w K mg base CX0 1 f fd ["reach", "pair"] (sp_has_third_between K) := by
  refine F.ok sc_has_third_between (fun vs H Q E h => ?_) (fun cdv A outer s H vs Q E hr h => ?_)
  · obtain ⟨r, v, ns, ps, as, p, rfl, _⟩ := h
    rfl
  · obtain ⟨r, v, ns, ps, as, p, rfl, hT, hn, hfew, hmem, hI, hp1, k⟩ := h
    have hu := hu_of hr
    have hq := qa_of hr
    obtain ⟨i, a, hi, hai⟩ := hT.at hp1
    obtain ⟨ks, hk1, hk2, hk3, hk4⟩ := hT.row i p.1 a hi hai
    have hkl : ks.length ≤ ns.length := nodup_le hk2 hk3
    with_reducible refine ⟨_, (pss_one (ps_ret (pe_callB (call_anyK (K := K) (by with_unfolding_all rfl)) (by with_unfolding_all rfl) T.b_any PyProof.Rows.Boot.«any» (pa_cons (pe_comp ["third"] ["pair", "reach"] [1, 0] (by with_unfolding_all rfl) (by with_unfolding_all rfl) (by with_unfolding_all rfl) (pi_anyK (K := K) hu (pe_ix (ix_anyK (K := K) hu) (pv 0) (pe_ix (ix_anyK (K := K) hu) (pv 1) pe_int (by with_unfolding_all exact fun _ _ => rfl)) (by with_unfolding_all exact fun _ _ => rfl))) (fun _ _ _ _ => (pg_name (i := 0) (by with_unfolding_all (show (["third", "pair", "reach"] : List Str).Nodup; decide +kernel)) (by with_unfolding_all rfl) (by with_unfolding_all exact Or.inl rfl))) (gk_name (by decide)) (fun _ _ _ _ => pif_nil) (fun _ _ _ _ => (pe_cmpR (op_inK (K := K) hq) (pe_ix (ix_anyK (K := K) hu) (pv 1) pe_int (by with_unfolding_all exact fun _ _ => rfl)) (pe_ix (ix_anyK (K := K) hu) (pv 2) (pv 0) (by with_unfolding_all exact fun _ _ => rfl)) (by with_unfolding_all rfl)))) pa_nil)))), ?_⟩
    walk_at "rd"
    refine i_ixP0 hI ?_
    refine i_tabR hT hn hi hai ?_
    refine i_itRow hk1 (List.mem_of_getElem? hai) fun o H1 k1 h1 => ?_
    have hI1 := hI.pr_fz k1.fz
    have hT1 := hT.keep k1
    refine comp_map walk_dict (fun x => match x with | .str z => .bl (wayB ps z p.2) | w => w) (by rw [List.length_map, len_row]; omega) (fun H' e => e _ _ h1) (fun j x H2 R hx e2 hR => ?_) (fun q H2 hq2 e2 h2 => ?_)
    · obtain ⟨z, hz, rfl⟩ : ∃ z, z ∈ ks ∧ x = .str z := by
        unfold rowK at hx
        rw [List.map_map, List.getElem?_map] at hx
        cases hz : ks[j]? with
        | none => rw [hz] at hx; cases hx
        | some z =>
          rw [hz] at hx
          cases hx
          exact ⟨z, List.mem_of_getElem? hz, rfl⟩
      have hT2 := hT1.same e2
      obtain ⟨i2, a2, hi2, ha2⟩ := hT2.at (hk3 z hz)
      obtain ⟨ms, hm1, hm2, hm3, hm4⟩ := hT2.row i2 z a2 hi2 ha2
      walk_at "rd"
      refine i_ixP1 (hI1.pr_fz e2.fz) ?_
      walk_at "rd"
      refine i_tabR hT2 hn hi2 ha2 ?_
      refine i_inRowR hm1 ?_
      rw [wayB_dec (hm4 p.2)]
      exact hR
    · walk_at "rd"
      have e : ((rowK ks).map fun kv => kV kv.1).map (fun x => match x with | .str z => .bl (wayB ps z p.2) | w => w) = (ks.map fun z => wayB ps z p.2).map V.bl := by
        unfold rowK
        rw [List.map_map, List.map_map, List.map_map]
        rfl
      rw [e] at h2
      refine i_any (SqL.of h2) ?_
      rw [row_any hk3 hk4]
      exact k H2 (k1.trans (e2.keep as))
noncomputable def sp_bare (K : PySem.W.Frag) : Sp := fun vs H Q _ => ∃ v ns ps, vs = [v] ∧ Is K H (hfD ns ps) v ∧ HalfW ns ps ∧ ∀ u H', Same H H' → Is K H' (psD (baP ns ps)) u → Q u H'
noncomputable def sp_are_untold (K : PySem.W.Frag) : Sp := fun vs H Q _ => ∃ r x y ns ps as, vs = [.ref r, .str x, .str y] ∧ TabR H r ns as (Way ps) ∧ ns.Nodup ∧ x ∈ ns ∧ y ∈ ns ∧ Q (.bl (unB ps x y)) H
noncomputable def sp_untold_of (K : PySem.W.Frag) : Sp := fun vs H Q _ => ∃ r ns ps as, vs = [.ref r] ∧ Tab H r ns as (Way ps) ∧ ns.Nodup ∧ ns.length ≤ 100 ∧ ∀ u H', Same H H' → Is K H' (psD (unP ns ps)) u → Q u H'
noncomputable def sp_untold (K : PySem.W.Frag) : Sp := fun vs H Q _ => ∃ v ns ps, vs = [v] ∧ Is K H (hfD ns ps) v ∧ HalfW ns ps ∧ ∀ u H', Same H H' → Is K H' (psD (unP ns ps)) u → Q u H'
noncomputable def sp_is_row (K : PySem.W.Frag) : Sp := fun vs H Q _ => ∃ v ns ps, vs = [v] ∧ Is K H (hfD ns ps) v ∧ HalfW ns ps ∧ ∀ H', Same H H' → Q (.bl (unP ns ps).isEmpty) H'
theorem ok_bare {f : Addr} {fd : FuncData} (F : Fun K "bare" "bare" s_bare f fd) (T : TopF mg) (c_behind_each : Fnd P w K mg base 1 "behind_each" ["half"] (sp_behind_each K)) (c_closed : Fnd P w K mg base 2 "closed" ["half"] (sp_closed K)) (c_has_third_between : Fnd P w K mg base 1 "has_third_between" ["reach", "pair"] (sp_has_third_between K)) : FnOk P w K mg base CX0 3 f fd ["half"] (sp_bare K) := by
  refine F.ok sc_bare (fun vs H Q E h => ?_) (fun cdv A outer s H vs Q E hr h => ?_)
  · obtain ⟨v, ns, ps, rfl, _⟩ := h
    rfl
  · obtain ⟨v, ns, ps, rfl, hI, hW, k⟩ := h
    have hu := hu_of hr
    have hq := qa_of hr
    have hfew := hW.few
    have hlen : (clP ns ps).length ≤ 10000 := Nat.le_trans (len_clP ns ps) (Nat.mul_le_mul hfew hfew)
    with_reducible refine ⟨_, (pss_cons (ps_set (i := 1) sc_bare.nd (by with_unfolding_all rfl) (by with_unfolding_all exact Or.inr rfl) (pe_fn c_behind_each (hr.mono (by decide)) (by with_unfolding_all rfl) (pa_cons (pv 0) pa_nil)))
      (pss_one (ps_ret (pe_callTy (call_tupleK (K := K)) (by with_unfolding_all rfl) T.b_tuple PyProof.Rows.Boot.«tuple» (pa_cons (pe_comp ["pair"] ["reach"] [1] (by with_unfolding_all rfl) (by with_unfolding_all rfl) (by with_unfolding_all rfl) (pi_anyK (K := K) hu (pe_fn c_closed (hr.mono (by decide)) (by with_unfolding_all rfl) (pa_cons (pv 0) pa_nil))) (fun _ _ _ _ => (pg_name (i := 0) (by with_unfolding_all (show (["pair", "reach"] : List Str).Nodup; decide +kernel)) (by with_unfolding_all rfl) (by with_unfolding_all exact Or.inl rfl))) (gk_name (by decide)) (fun _ _ _ _ => (pif_one (pt_not (pt_val (pe_fn c_has_third_between (hr.mono (by decide)) (by with_unfolding_all rfl) (pa_cons (pv 1) (pa_cons (pv 0) pa_nil))))))) (fun _ _ _ _ => (pv 0))) pa_nil))))), ?_⟩
    walk_at "rd"
    refine ⟨v, ns, ps, rfl, hI, hW, fun r as H1 hr1 ha1 e1 hT => ?_⟩
    walk_at "rd"
    refine ⟨v, ns, ps, rfl, hI.hf_fz e1.fz, hW, fun u H2 e2 hU => ?_⟩
    have hT2 := hT.same e2
    refine comp_psK hU as hT2.some (fun p => !thB ns ps p) prD frz_pr (by omega) (fun i p w H3 R R' hp hIp k3 hR hR' => ?_) (fun q ys H3 hq3 k3 h3 hL3 => ?_)
    · walk_at "rd"
      refine ⟨r, w, ns, ps, as, p, rfl, hT2.toR.keep k3, hW.nd, hfew, hW.mem, hIp, (mem_clP.mp (List.mem_of_getElem? hp)).1, fun H4 k4 => ?_⟩
      walk_at "rd"
      refine iteNB (fun hc => ?_) (fun hc => ?_)
      · walk_at "rd"
        exact hR (by rw [hc]; rfl) _ _ k4 (hIp.pr_fz k4.fz)
      · exact hR' (by rw [hc]; rfl) _ k4
    · walk_at "rd"
      exact i_tupPs h3 hL3 fun u H4 e4 hu4 => k u H4 (((e1.trans e2).then ha1 k3).trans e4) hu4
noncomputable def sp_refuse_strangers (K : PySem.W.Frag) : Sp := fun vs H Q _ => ∃ v u ns ps xs, vs = [v, u] ∧ Is K H (hfD ns ps) v ∧ Is K H (nmD xs) u ∧ (∀ x ∈ xs, x ∈ ns) ∧ Q .non H
noncomputable def sp_is_ahead (K : PySem.W.Frag) : Sp := fun vs H Q _ => ∃ v x y ns ps, vs = [v, .str x, .str y] ∧ Is K H (hfD ns ps) v ∧ HalfW ns ps ∧ x ∈ ns ∧ y ∈ ns ∧ ∀ H', Same H H' → Q (.bl (wayB ps x y)) H'
noncomputable def sp_ahead_of (K : PySem.W.Frag) : Sp := fun vs H Q _ => ∃ v x ns ps, vs = [v, .str x] ∧ Is K H (hfD ns ps) v ∧ HalfW ns ps ∧ x ∈ ns ∧ ∀ u H', Same H H' → Is K H' (nmD (ns.filter fun z => wayB ps z x)) u → Q u H'
noncomputable def sp_behind (K : PySem.W.Frag) : Sp := fun vs H Q _ => ∃ v x ns ps, vs = [v, .str x] ∧ Is K H (hfD ns ps) v ∧ HalfW ns ps ∧ x ∈ ns ∧ ∀ u H', Same H H' → Is K H' (nmD (ns.filter fun z => wayB ps x z)) u → Q u H'
noncomputable def sp_thinned (K : PySem.W.Frag) : Sp := fun vs H Q _ => ∃ nv pv ns ps, vs = [nv, pv] ∧ Is K H (nmD ns) nv ∧ Is K H (psD ps) pv ∧ HalfW ns ps ∧ ∀ u H', Same H H' → Is K H' (hfD ns (baP ns ps)) u → Q u H'
noncomputable def sp_said (K : PySem.W.Frag) : Sp := fun vs H Q _ => ∃ v x y ns ps, vs = [v, .str x, .str y] ∧ Is K H (hfD ns ps) v ∧ HalfW ns ps ∧ ps.length ≤ 90 ∧ x ∈ ns ∧ y ∈ ns ∧ x ≠ y ∧ ¬ Way ps y x ∧ ∀ u H', Same H H' → Is K H' (hfD ns (baP ns (ps ++ [(x, y)]))) u → Q u H'
theorem ok_thinned {f : Addr} {fd : FuncData} (F : Fun K "thinned" "thinned" s_thinned f fd) (T : TopF mg) (c_bare : Fnd P w K mg base 3 "bare" ["half"] (sp_bare K)) : FnOk P w K mg base CX0 4 f fd ["names", "sayings"] (sp_thinned K) := by
  refine F.ok sc_thinned (fun vs H Q E h => ?_) (fun cdv A outer s H vs Q E hr h => ?_)
  · obtain ⟨nv, sv, ns, ps, rfl, _⟩ := h
    rfl
  · obtain ⟨nv, sv, ns, ps, rfl, hN, hP, hW, k⟩ := h
    have hu := hu_of hr
    have hq := qa_of hr
    with_reducible refine ⟨_, (pss_one (ps_ret (pe_tup (pa_cons (pv 0) (pa_cons (pe_fn c_bare (hr.mono (by decide)) (by with_unfolding_all rfl) (pa_cons (pe_tup (pa_cons (pv 0) (pa_cons (pv 1) pa_nil))) pa_nil)) pa_nil))))), ?_⟩
    walk_at "rd"
    refine i_newT (line_of (by simp)) fun t1 H1 ht1 e1 h1 => ?_
    walk_at "rd"
    refine ⟨.ref t1, ns, ps, rfl, is_hf (SqT.of h1) (hN.nm_fz e1.fz) (hP.ps_fz e1.fz), hW, fun u2 H2 e2 hU2 => ?_⟩
    walk_at "rd"
    refine i_newT (line_of (by simp)) fun t3 H3 ht3 e3 h3 => ?_
    exact k _ H3 ((e1.trans e2).trans e3) (is_hf (SqT.of h3) (hN.nm_fz ((e1.trans e2).trans e3).fz) (hU2.ps_fz e3.fz))
noncomputable def az : Str := "abcdefghijklmnopqrstuvwxyz"
noncomputable def small (c : Nat) : Bool := !(Builtin.Str.occurrences az ⟨#[c]⟩ 0 az.length 1).isEmpty
noncomputable def isName (x : Str) : Bool := decide (1 ≤ x.length) && decide (x.length ≤ 8) && x.cps.toList.all small
noncomputable def NoStr (K : PySem.W.Frag) (H : Hp) (v : V) : Prop := (∃ t, TyOf K H v t ∧ PySem.W.kitOne K t (.type "str") = some false) ∨ ∃ a ys, v = .ref a ∧ SqT K H a ys
theorem isi_no {K : PySem.W.Frag} {H : Hp} {v : V} {Q : VK} (h : NoStr K H v) (k : Q (.bl false) H) : rIsinst K [v, .ty "str"] H Q := by
  rcases h with ⟨t, h1, h2⟩ | ⟨a, ys, rfl, hS⟩
  · exact i_isi h1 h2 k
  · exact i_isiT hS (b := false) (by rfl) k
noncomputable def sp_is_name (K : PySem.W.Frag) : Sp := fun vs H Q _ => ∃ v, vs = [v] ∧ ((∃ x, v = .str x ∧ x.length ≤ 1000000 ∧ ∀ H', Same H H' → Q (.bl (isName x)) H') ∨ (NoStr K H v ∧ Q (.bl false) H))
noncomputable def sp__law_is_name (K : PySem.W.Frag) : Sp := sp_is_name K
theorem ok_is_name {f : Addr} {fd : FuncData} (F : Fun K "is_name" "is_name" s_is_name f fd) (T : TopF mg) : FnOk P w K mg base CX0 1 f fd ["thing"] (sp_is_name K) := by
  refine F.ok sc_is_name (fun vs H Q E h => ?_) (fun cdv A outer s H vs Q E hr h => ?_)
  · obtain ⟨v, rfl, _⟩ := h
    rfl
  · obtain ⟨v, rfl, h⟩ := h
    have hu := hu_of hr
    have hq := qa_of hr
    with_reducible refine ⟨_, (pss_cons (ps_if (pt_not (pt_val (pe_callB (call_isinstK (K := K)) (by with_unfolding_all rfl) T.b_isinstance PyProof.Rows.Boot.«isinstance» (pa_cons (pv 0) (pa_cons (pe_bltn (v := .ty "str") (by with_unfolding_all rfl) T.b_str PyProof.Rows.Boot.«str» (by with_unfolding_all rfl)) pa_nil))))) (pss_one (ps_ret pe_bl)) pss_nil)
      (pss_cons (ps_if (PW.pt (pw_or (pt_cmpR op_lt (pe_callB (call_lenK (K := K)) (by with_unfolding_all rfl) T.b_len PyProof.Rows.Boot.«len» (pa_cons (pv 0) pa_nil)) pe_int (nomark _)) (pw_or1 (pt_cmpR op_gt (pe_callB (call_lenK (K := K)) (by with_unfolding_all rfl) T.b_len PyProof.Rows.Boot.«len» (pa_cons (pv 0) pa_nil)) (pe_gl (by with_unfolding_all rfl) T.g_MOST_SIGNS) (nomark _))))) (pss_one (ps_ret pe_bl)) pss_nil)
      (pss_one (ps_ret (pe_callB (call_allK (K := K) (by with_unfolding_all rfl)) (by with_unfolding_all rfl) T.b_all PyProof.Rows.Boot.«all» (pa_cons (pe_comp ["sign"] [] [] (by with_unfolding_all rfl) (by with_unfolding_all rfl) (by with_unfolding_all rfl) (pi_anyK (K := K) hu (pv 0)) (fun _ _ _ _ => (pg_name (i := 0) (by with_unfolding_all (show (["sign"] : List Str).Nodup; decide +kernel)) (by with_unfolding_all rfl) (by with_unfolding_all exact Or.inl rfl))) (gk_name (by decide)) (fun _ _ _ _ => pif_nil) (fun _ _ _ _ => (pe_cmpR (op_inK (K := K) hq) (pv 0) (pe_gl (by with_unfolding_all rfl) T.g_SMALL_LETTERS) (by with_unfolding_all rfl)))) pa_nil)))))), ?_⟩
    walk_at "rd"
    rcases h with ⟨x, rfl, hx, k⟩ | ⟨hno, k⟩
    · refine i_isi (TyOf.str x) (b := true) (by rfl) ?_
      walk_at "rd"
      refine iteD (fun h1 => ?_) (fun h1 => ?_)
      · walk_at "rd"
        have e : isName x = false := by
          unfold isName
          rw [decide_eq_false (by omega : ¬ 1 ≤ x.length)]
          rfl
        have := k H (Same.refl H)
        rw [e] at this
        exact this
      · walk_at "rd"
        refine iteD (fun h2 => ?_) (fun h2 => ?_)
        · walk_at "rd"
          have e : isName x = false := by
            unfold isName
            rw [decide_eq_false (by omega : ¬ x.length ≤ 8), Bool.and_false]
            rfl
          have := k H (Same.refl H)
          rw [e] at this
          exact this
        · walk_at "rd"
          refine comp_map (walk_str x) (fun v => .bl (match v with | .str z => !(Builtin.Str.occurrences az z 0 az.length 1).isEmpty | _ => false)) (by rw [List.length_map, Array.length_toList]; exact hx) (fun _ _ => trivial) (fun i v H1 R hv e hR => ?_) fun p H' hp e h => ?_
          · obtain ⟨c, rfl, _⟩ := sign_of hv
            walk_at "rd"
            exact hR
          · walk_at "rd"
            have e1 : (x.cps.toList.map fun c => V.str ⟨#[c]⟩).map (fun v => V.bl (match v with | .str z => !(Builtin.Str.occurrences az z 0 az.length 1).isEmpty | _ => false)) = (x.cps.toList.map small).map V.bl := by
              rw [List.map_map, List.map_map]
              rfl
            rw [e1] at h
            refine i_all (SqL.of h) ?_
            have e2 : isName x = (x.cps.toList.map small).all id := by
              unfold isName
              rw [decide_eq_true (by omega : 1 ≤ x.length), decide_eq_true (by omega : x.length ≤ 8), List.all_map]
              rfl
            have := k H' e
            rw [e2] at this
            exact this
    · refine isi_no hno ?_
      walk_at "rd"
      exact k
theorem small_of : ∀ c < 123, 97 ≤ c → small c = true := by decide +kernel
theorem az_low : ∀ c ∈ az.cps.toList, 97 ≤ c ∧ c < 123 := by decide +kernel
theorem small_iff {c : Nat} : small c = smallN c := by
  unfold smallN
  cases h : small c with
  | true =>
    have h' : small c = decide (c ∈ az.cps.toList) := PySem.StrLaws.found_one az c
    rw [h] at h'
    have := az_low c (of_decide_eq_true h'.symm)
    rw [decide_eq_true this.1, decide_eq_true (show c ≤ 122 by omega)]
    rfl
  | false =>
    by_cases h1 : 97 ≤ c
    · by_cases h2 : c ≤ 122
      · rw [small_of c (by omega) h1] at h; cases h
      · rw [decide_eq_false h2, Bool.and_false]
    · rw [decide_eq_false h1, Bool.false_and]
theorem isName_nm (z : Str) : isName z = isNm z := by
  unfold isName isNm
  rw [show (small : Nat → Bool) = smallN from funext fun c => small_iff]
noncomputable def Good (K : PySem.W.Frag) (H : Hp) (v : V) : Prop := (∃ z, v = .str z ∧ z.length ≤ 1000000) ∨ NoStr K H v
theorem tyOf_mono {K : PySem.W.Frag} {H H' : Hp} {v : V} {t : Value} (h : TyOf K H v t) (e : Same H H') : TyOf K H' v t := by
  cases h with
  | non => exact .non
  | bl x => exact .bl x
  | int i => exact .int i
  | str x => exact .str x
  | flt x => exact .flt x
  | lst e1 => exact .lst (e _ _ e1)
  | frz e1 => exact .frz (e _ _ e1)
  | tup e1 => exact .tup (e _ _ e1)
  | dK e1 => exact .dK (e _ _ e1)
  | dT e1 => exact .dT (e _ _ e1)
  | ins e1 cl ha hn htk hm => exact .ins (e _ _ e1) cl ha hn htk hm
theorem good_mono {K : PySem.W.Frag} {H H' : Hp} {v : V} (h : Good K H v) (e : Same H H') : Good K H' v := by
  rcases h with h | ⟨t, h1, h2⟩ | ⟨a, ys, h1, h2⟩
  · exact .inl h
  · exact .inr (.inl ⟨t, tyOf_mono h1 e, h2⟩)
  · exact .inr (.inr ⟨a, ys, h1, e.seqT h2⟩)
noncomputable def ans : V → Bool
  | .str z => isName z
  | _ => false
noncomputable def isT : V → Bool
  | .str _ => true
  | _ => false
theorem noStr_no {K : PySem.W.Frag} {H : Hp} {v : V} (g : NoStr K H v) : ans v = false ∧ isT v = false := by
  rcases g with ⟨t, h1, h2⟩ | ⟨a, ys, rfl, _⟩
  · cases h1 with
    | str x =>
      rw [show PySem.W.kitOne K (.type "str") (.type "str") = some true by rfl] at h2
      cases h2
    | _ => exact ⟨rfl, rfl⟩
  · exact ⟨rfl, rfl⟩
theorem both {K : PySem.W.Frag} {H : Hp} {v : V} {Q : VK} (g : Good K H v) (k : ∀ H', Same H H' → Q (.bl (ans v)) H') : sp_is_name K ([v] ++ []) H Q E0 := by
  rcases g with ⟨z, rfl, hz⟩ | g
  · exact ⟨_, rfl, .inl ⟨z, rfl, hz, fun H' e => k H' e⟩⟩
  · refine ⟨_, rfl, .inr ⟨g, ?_⟩⟩
    have := k H (Same.refl H)
    rw [(noStr_no g).1] at this
    exact this
theorem isStr_of {K : PySem.W.Frag} {H : Hp} {v : V} {Q : VK} (g : Good K H v) (k : Q (.bl (isT v)) H) : rIsinst K [v, .ty "str"] H Q := by
  rcases g with ⟨z, rfl, hz⟩ | g
  · exact i_isi (.str z) (b := true) (by rfl) k
  · rw [(noStr_no g).2] at k
    exact isi_no g k
inductive Tg where
  | row (xs : List V)
  | odd
noncomputable def NoTup (K : PySem.W.Frag) (H : Hp) (v : V) : Prop := ∃ t, TyOf K H v t ∧ PySem.W.kitOne K t (.type "tuple") = some false
noncomputable def ThT (K : PySem.W.Frag) (H : Hp) (v : V) : Tg → Prop
  | .row xs => ∃ a, v = .ref a ∧ SqT K H a xs ∧ xs.length ≤ 30 ∧ ∀ x ∈ xs, Good K H x
  | .odd => NoTup K H v
theorem tht_mono {K : PySem.W.Frag} {H H' : Hp} {v : V} {g : Tg} (h : ThT K H v g) (e : Same H H') : ThT K H' v g := by
  cases g with
  | row xs => obtain ⟨a, e1, e2, e3, e4⟩ := h; exact ⟨a, e1, e.seqT e2, e3, fun x hx => good_mono (e4 x hx) e⟩
  | odd => obtain ⟨t, h1, h2⟩ := h; exact ⟨t, tyOf_mono h1 e, h2⟩
noncomputable def unl : Tg → Bool
  | .row xs => xs.all ans && decide xs.Nodup
  | .odd => false
noncomputable def lenT : Tg → Nat
  | .row xs => xs.length
  | .odd => 0
theorem all_ans {xs : List V} (h : xs.all ans = true) : ∃ row : List Str, xs = row.map V.str ∧ ∀ z ∈ row, isNm z = true := by
  induction xs with
  | nil => exact ⟨[], rfl, by simp⟩
  | cons x r ih =>
    rw [List.all_cons, Bool.and_eq_true] at h
    obtain ⟨row, e, hr⟩ := ih h.2
    cases x with
    | str z =>
      refine ⟨z :: row, by rw [e]; rfl, fun y hy => ?_⟩
      rcases List.mem_cons.mp hy with rfl | hy
      · rw [← isName_nm]; exact h.1
      · exact hr y hy
    | _ => exact absurd h.1 (by simp [ans])
theorem nodup_strs {row : List Str} : (row.map V.str).Nodup ↔ row.Nodup := by
  rw [List.Nodup, List.pairwise_map]
  exact ⟨fun h => h.imp fun g e => g (by rw [e]), fun h => h.imp fun g e => g (V.str.inj e)⟩
theorem addAll_few : ∀ (ms ks : List Str), (addAll ks ms).length ≤ ks.length + ms.length
  | [], ks => by simp [addAll]
  | m :: r, ks => by
    have h := addAll_few r (addK ks m)
    have h2 : (addK ks m).length ≤ ks.length + 1 := by unfold addK; split <;> simp
    show (addAll (addK ks m) r).length ≤ _
    rw [List.length_cons]
    omega
theorem addAll_back : ∀ (ms ks : List Str), (addAll ks ms).length = ks.length + ms.length → ms.Nodup ∧ ∀ m ∈ ms, m ∉ ks
  | [], ks, _ => ⟨List.nodup_nil, fun _ h => by cases h⟩
  | m :: r, ks, h => by
    have h' : (addAll (addK ks m) r).length = ks.length + (r.length + 1) := h
    have hf := addAll_few r (addK ks m)
    have hm : m ∉ ks := fun hm => by
      have : addK ks m = ks := by unfold addK; rw [if_pos (by simpa using hm)]
      rw [this] at hf h'
      omega
    have e : addK ks m = ks ++ [m] := by unfold addK; rw [if_neg (by simpa using hm)]
    rw [e] at h'
    obtain ⟨h1, h2⟩ := addAll_back r (ks ++ [m]) (by rw [h', List.length_append, List.length_singleton]; omega)
    refine ⟨List.nodup_cons.mpr ⟨fun q => h2 m q (by simp), h1⟩, fun y hy => ?_⟩
    rcases List.mem_cons.mp hy with rfl | hy
    · exact hm
    · exact fun q => h2 y hy (by simp [q])
theorem addAll_iff {ns : List Str} : decide (((addAll [] ns).length : Int) = (ns.length : Int)) = decide (ns.map V.str).Nodup := by
  rw [decide_eq_decide, nodup_strs]
  constructor
  · intro h
    exact (addAll_back ns [] (by simp; omega)).1
  · intro h
    rw [addAll_nd h]
noncomputable def sp_are_unlike_names (K : PySem.W.Frag) : Sp := fun vs H Q _ => ∃ v g, vs = [v] ∧ ThT K H v g ∧ ∀ H', Same H H' → Q (.bl (unl g)) H'
theorem ok_are_unlike_names {f : Addr} {fd : FuncData} (F : Fun K "are_unlike_names" "are_unlike_names" s_are_unlike_names f fd) (T : TopF mg) (c_is_name : Fnd P w K mg base 1 "is_name" ["thing"] (sp_is_name K)) : FnOk P w K mg base CX0 2 f fd ["thing"] (sp_are_unlike_names K) := by
  refine F.ok sc_are_unlike_names (fun vs H Q E h => ?_) (fun cdv A outer s H vs Q E hr h => ?_)
  · obtain ⟨v, g, rfl, _⟩ := h
    rfl
  · obtain ⟨v, g, rfl, hT, k⟩ := h
    have hu := hu_of hr
    have hq := qa_of hr
    with_reducible refine ⟨_, (pss_cons (ps_if (pt_not (pt_val (pe_callB (call_isinstK (K := K)) (by with_unfolding_all rfl) T.b_isinstance PyProof.Rows.Boot.«isinstance» (pa_cons (pv 0) (pa_cons (pe_bltn (v := .ty "tuple") (by with_unfolding_all rfl) T.b_tuple PyProof.Rows.Boot.«tuple» (by with_unfolding_all rfl)) pa_nil))))) (pss_one (ps_ret pe_bl)) pss_nil)
      (pss_cons (ps_if (pt_not (pt_val (pe_callB (call_allK (K := K) (by with_unfolding_all rfl)) (by with_unfolding_all rfl) T.b_all PyProof.Rows.Boot.«all» (pa_cons (pe_comp ["name"] [] [] (by with_unfolding_all rfl) (by with_unfolding_all rfl) (by with_unfolding_all rfl) (pi_anyK (K := K) hu (pv 0)) (fun _ _ _ _ => (pg_name (i := 0) (by with_unfolding_all (show (["name"] : List Str).Nodup; decide +kernel)) (by with_unfolding_all rfl) (by with_unfolding_all exact Or.inl rfl))) (gk_name (by decide)) (fun _ _ _ _ => pif_nil) (fun _ _ _ _ => (pe_fn c_is_name (hr.mono (by decide)) (by with_unfolding_all rfl) (pa_cons (pv 0) pa_nil)))) pa_nil)))) (pss_one (ps_ret pe_bl)) pss_nil)
      (pss_one (ps_ret (pe_cmpR (op_eqK (K := K) hq) (pe_lenset (K := K) hr.hd (by with_unfolding_all rfl) T.b_len (by with_unfolding_all rfl) T.b_set (pa_cons (pv 0) pa_nil)) (pe_callB (call_lenK (K := K)) (by with_unfolding_all rfl) T.b_len PyProof.Rows.Boot.«len» (pa_cons (pv 0) pa_nil)) (nomark _)))))), ?_⟩
    walk_at "rd"
    cases g with
    | odd =>
      obtain ⟨t, h1, h2⟩ := hT
      refine i_isi h1 h2 ?_
      walk_at "rd"
      exact k H (.refl _)
    | row xs =>
      obtain ⟨a, rfl, hS, h30, hG⟩ := hT
      refine i_isiT hS (b := true) (by first | rfl | kernel_rfl) ?_
      walk_at "rd"
      refine i_itT hS ?_
      refine comp_bls (K := K) (walk_tup (xs := xs)) xs rfl ans (by omega) (fun H' e => e.seqT hS) (fun m z xv H1 R hz' hxv e1 hR => ?_) (fun q H1 hq1 e1 h1 => ?_)
      · rw [hz'] at hxv
        cases hxv
        walk_at "rd"
        exact both (good_mono (hG z (List.mem_of_getElem? hz')) e1) fun H2 e2 => hR H2 e2
      · walk_at "rd"
        refine i_all h1 ?_
        have ha : (xs.map ans).all id = xs.all ans := by rw [List.all_map]; rfl
        rw [ha]
        cases hc : xs.all ans with
        | false =>
          walk_at "rd"
          have : Q (.bl (xs.all ans && decide xs.Nodup)) H1 := k H1 e1
          rw [hc] at this
          exact this
        | true =>
          obtain ⟨row, rfl, hr'⟩ := all_ans hc
          have hl : row.length ≤ 30 := by simpa using h30
          walk_at "rd"
          refine i_lenset (e1.seqT hS) (by omega) ?_
          walk_at "rd"
          refine i_lenN (is_nm (e1.seqT hS)) ?_
          walk_at "rd"
          have : Q (.bl ((row.map V.str).all ans && decide (row.map V.str).Nodup)) H1 := k H1 e1
          rw [hc, Bool.true_and] at this
          have e : decide (V.int ((addAll [] row).length : Int) = V.int (row.length : Int)) = decide (row.map V.str).Nodup := by
            rw [← addAll_iff]
            exact decide_eq_decide.mpr ⟨fun h => V.int.inj h, fun h => by rw [h]⟩
          rw [e]
          exact this
local macro_rules | `(tactic| walk_at "rq1") => L2.mAlts "i_sRaise"
noncomputable def Refz (H : Hp) (C : Addr) (x : Str) (E : XK) : Prop := ∀ a H', Same H H' → ExB false H' a C [("name", .str x)] → E (.ref a) none H'
theorem Refz.mono {H H' : Hp} {C : Addr} {x : Str} {E : XK} (h : Refz H C x E) (e : Same H H') : Refz H' C x E := fun a H2 e2 hE => h a H2 (e.trans e2) hE
noncomputable def RefJ (H : Hp) (C : Addr) (x : Str) (E : XK) : Prop := ∀ a H', Same H H' → ExB false H' a C [("word", .str x)] → E (.ref a) none H'
theorem RefJ.mono {H H' : Hp} {C : Addr} {x : Str} {E : XK} (h : RefJ H C x E) (e : Same H H') : RefJ H' C x E := fun a H2 e2 hE => h a H2 (e.trans e2) hE
noncomputable def FstS (ns xs : List Str) (z : Str) : Prop := ∃ as bs, xs = as ++ z :: bs ∧ (∀ y ∈ as, y ∈ ns) ∧ z ∉ ns
noncomputable def spx_refuse_strangers (C : Addr) (K : PySem.W.Frag) : Sp := fun vs H Q E => ∃ v u ns ps xs, vs = [v, u] ∧ Is K H (hfD ns ps) v ∧ Is K H (nmD xs) u ∧ ((∃ z, FstS ns xs z ∧ Refz H C z E) ∨ ((∀ z ∈ xs, z ∈ ns) ∧ Q .non H))
theorem okx_refuse_strangers {f : Addr} {fd : FuncData} (F : Fun K "refuse_strangers" "refuse_strangers" s_refuse_strangers f fd) (T : TopF mg) {C_HalfError : Addr} {C_NoName : Addr} (x_HalfError : Xls_HalfError K mg C_HalfError C_HalfError) (x_NoName : Xls_NoName K mg C_NoName C_HalfError) (c_NoName_init : Mkx P w K mg base 1 C_NoName "NoName" ["self", "name"] (spX C_NoName ["name"])) : FnOk P w K mg base (CX1 P w) 3 f fd ["half", "asked"] (spx_refuse_strangers C_NoName K) := by
  refine F.ok1 sc_refuse_strangers (fun vs H Q E h => ?_) (fun cdv A outer s H vs Q E hr h => ?_)
  · obtain ⟨v, u, ns, ps, xs, rfl, _⟩ := h
    rfl
  · obtain ⟨v, u, ns, ps, xs, rfl, hI, hU, hk⟩ := h
    have hu := hu_of hr
    have hq := qa_of hr
    with_reducible refine ⟨_, (pss_one (ps_for PassesOwn.leaving (by with_unfolding_all rfl) (pi_anyK (K := K) hu (pv 1)) (pg_name (i := 2) sc_refuse_strangers.nd (by with_unfolding_all rfl) (by with_unfolding_all exact Or.inl rfl))
      (pss_one (ps_if (pt_cmpR (op_notInK (K := K) hq) (pv 2) (pe_ix (ix_anyK (K := K) hu) (pv 0) pe_int (by with_unfolding_all exact fun _ _ => rfl)) (by with_unfolding_all rfl)) (pss_one (ps_raise (by with_unfolding_all rfl) (pe_xmk c_NoName_init (hr.mono (by decide)) (by with_unfolding_all rfl) (pa_cons (pv 2) pa_nil)))) pss_nil)))), ?_⟩
    walk_at "rd"
    refine for_nm hU (fun i σ H1 => ∃ x2, σ = [some v, some u, x2] ∧ H1 = H ∧ ∀ y ∈ xs.take i, y ∈ ns) ⟨_, rfl, rfl, by simp⟩ (fun i σ' H' hP => ?_) (fun i z σ' H1 hz hP => ?_) (fun σ' H1 hP => ?_)
    · obtain ⟨_, _, rfl, _⟩ := hP
      exact .refl _
    · obtain ⟨x2, rfl, rfl, hi⟩ := hP
      walk_at "rd"
      refine i_ixH0 hI fun nv hN => ?_
      refine i_ninN hN ?_
      walk_at "rd"
      refine iteND (fun hc => ?_) (fun hc => ?_)
      · rcases hk with ⟨x, ⟨as, bs, rfl, ha, hx⟩, k⟩ | ⟨hall, _⟩
        · have e : z = x := by
            rcases Nat.lt_trichotomy i as.length with lt | e | gt
            · exact absurd (ha z (List.mem_of_getElem? (by rwa [List.getElem?_append_left lt] at hz))) hc
            · rw [e, List.getElem?_append_right (Nat.le_refl _), Nat.sub_self] at hz
              exact (Option.some.inj hz).symm
            · exact absurd (hi x (List.mem_take_iff_getElem.mpr ⟨as.length, by simp; omega, by simp⟩)) hx
          subst e
          walk_at "rd"
          refine i_mkX (by rfl) (by decide) fun a H2 ha2 e2 hE => ?_
          walk_at "rd"
          exact i_raise hE x_NoName.xc ha2 fun H3 kp hE3 => k a H3 (fun b o q => kp b o (ne_of_none q ha2) (e2 _ _ q)) hE3
        · exact absurd (hall z (List.mem_of_getElem? hz)) hc
      · walk_at "rd"
        refine ⟨_, rfl, rfl, fun y hy => ?_⟩
        rw [List.take_add_one, hz] at hy
        rcases List.mem_append.mp hy with h | h
        · exact hi y h
        · have : y = z := by simpa using h
          exact this ▸ hc
    · obtain ⟨x2, rfl, rfl, hi⟩ := hP
      rw [List.take_length] at hi
      rcases hk with ⟨x, ⟨as, bs, rfl, ha, hx⟩, k⟩ | ⟨hall, k⟩
      · exact absurd (hi x (by simp)) hx
      · exact k
noncomputable def spx_joined_names (C : Addr) (K : PySem.W.Frag) : Sp := fun vs H Q E => ∃ v u ns ps ns' ps', vs = [v, u] ∧ Is K H (hfD ns ps) v ∧ Is K H (hfD ns' ps') u ∧ ns.length ≤ 10 ∧ (∀ z ∈ ns, z ∈ ns' → RefJ H C "names" E) ∧ ((∀ z ∈ ns, z ∉ ns') → 10 < ns.length + ns'.length → RefJ H C "many" E) ∧
  ((∀ z ∈ ns, z ∉ ns') → ns.length + ns'.length ≤ 10 → ∀ w H', Same H H' → Is K H' (nmD (ns ++ ns')) w → Q w H')
noncomputable def spx_two (C : Addr) (K : PySem.W.Frag) : Sp := fun vs H Q E => ∃ v u ns ps ns' ps', vs = [v, u] ∧ Is K H (hfD ns ps) v ∧ HalfW ns ps ∧ Is K H (hfD ns' ps') u ∧ HalfW ns' ps' ∧ ns.length ≤ 10 ∧ ps.length ≤ 60 ∧ ps'.length ≤ 60 ∧ (∀ z ∈ ns, z ∈ ns' → RefJ H C "names" E) ∧ ((∀ z ∈ ns, z ∉ ns') → 10 < ns.length + ns'.length → RefJ H C "many" E) ∧
  ((∀ z ∈ ns, z ∉ ns') → ns.length + ns'.length ≤ 10 → ∀ w qs H', Same H H' → Is K H' (hfD (ns ++ ns') qs) w → Q w H')
noncomputable abbrev spx_above := spx_two
noncomputable abbrev spx_beside := spx_two
theorem okx_joined_names {f : Addr} {fd : FuncData} (F : Fun K "joined_names" "joined_names" s_joined_names f fd) (T : TopF mg) {C_HalfError : Addr} {C_NoName : Addr} {C_NoJoin : Addr} (x_HalfError : Xls_HalfError K mg C_HalfError C_HalfError) (x_NoName : Xls_NoName K mg C_NoName C_HalfError) (x_NoJoin : Xls_NoJoin K mg C_NoJoin C_HalfError) (c_NoJoin_init : Mkx P w K mg base 1 C_NoJoin "NoJoin" ["self", "word"] (spX C_NoJoin ["word"])) : FnOk P w K mg base (CX1 P w) 3 f fd ["one", "other"] (spx_joined_names C_NoJoin K) := by
  refine F.ok1 sc_joined_names (fun vs H Q E h => ?_) (fun cdv A outer s H vs Q E hr h => ?_)
  · obtain ⟨v, u, ns, ps, ns', ps', rfl, _⟩ := h
    rfl
  · obtain ⟨v, u, ns, ps, ns', ps', rfl, hI, hI', h10, kn, km, k⟩ := h
    have hu := hu_of hr
    have hq := qa_of hr
    with_reducible refine ⟨_, (pss_cons (ps_if (pt_val (pe_callB (call_anyK (K := K) (by with_unfolding_all rfl)) (by with_unfolding_all rfl) T.b_any PyProof.Rows.Boot.«any» (pa_cons (pe_comp ["name"] ["other"] [1] (by with_unfolding_all rfl) (by with_unfolding_all rfl) (by with_unfolding_all rfl) (pi_anyK (K := K) hu (pe_ix (ix_anyK (K := K) hu) (pv 0) pe_int (by with_unfolding_all exact fun _ _ => rfl))) (fun _ _ _ _ => (pg_name (i := 0) (by with_unfolding_all (show (["name", "other"] : List Str).Nodup; decide +kernel)) (by with_unfolding_all rfl) (by with_unfolding_all exact Or.inl rfl))) (gk_name (by decide)) (fun _ _ _ _ => pif_nil) (fun _ _ _ _ => (pe_cmpR (op_inK (K := K) hq) (pv 0) (pe_ix (ix_anyK (K := K) hu) (pv 1) pe_int (by with_unfolding_all exact fun _ _ => rfl)) (by with_unfolding_all rfl)))) pa_nil))) (pss_one (ps_raise (by with_unfolding_all rfl) (pe_xmk c_NoJoin_init (hr.mono (by decide)) (by with_unfolding_all rfl) (pa_cons pe_str pa_nil)))) pss_nil)
      (pss_cons (ps_if (pt_cmpR op_gt (pe_op (op_addK (K := K)) (pe_callB (call_lenK (K := K)) (by with_unfolding_all rfl) T.b_len PyProof.Rows.Boot.«len» (pa_cons (pe_ix (ix_anyK (K := K) hu) (pv 0) pe_int (by with_unfolding_all exact fun _ _ => rfl)) pa_nil)) (pe_callB (call_lenK (K := K)) (by with_unfolding_all rfl) T.b_len PyProof.Rows.Boot.«len» (pa_cons (pe_ix (ix_anyK (K := K) hu) (pv 1) pe_int (by with_unfolding_all exact fun _ _ => rfl)) pa_nil))) (pe_gl (by with_unfolding_all rfl) T.g_MOST_NAMES) (nomark _)) (pss_one (ps_raise (by with_unfolding_all rfl) (pe_xmk c_NoJoin_init (hr.mono (by decide)) (by with_unfolding_all rfl) (pa_cons pe_str pa_nil)))) pss_nil)
      (pss_one (ps_ret (pe_op (op_addK (K := K)) (pe_ix (ix_anyK (K := K) hu) (pv 0) pe_int (by with_unfolding_all exact fun _ _ => rfl)) (pe_ix (ix_anyK (K := K) hu) (pv 1) pe_int (by with_unfolding_all exact fun _ _ => rfl))))))), ?_⟩
    walk_at "rd"
    refine i_ixH0 hI fun nv hN => ?_
    refine comp_nm hN (fun _ => true) (fun y => .bool (decide (y ∈ ns'))) (fun _ => by simp only [frz]) (by omega) (fun i y H1 R R' hy e1 hR hR' => ?_) (fun p ys H1 hp1 e1 h1 hL1 => ?_)
    · walk_at "rd"
      refine i_ixH0 (hI'.hf_fz e1.fz) fun nv' hN' => ?_
      walk_at "rd"
      refine i_inN hN' ?_
      exact hR rfl _ _ (.refl _) is_bl
    · have hft : ns.filter (fun _ => true) = ns := by simp
      rw [hft] at hL1
      have e := IsL.bl_eq hL1
      subst e
      walk_at "rd"
      refine i_any (SqL.of h1) ?_
      cases hc : (ns.map fun y => decide (y ∈ ns')).any id with
      | true =>
        obtain ⟨b, hb, hb'⟩ := List.any_eq_true.mp hc
        obtain ⟨y, hy, rfl⟩ := List.mem_map.mp hb
        have kn := (kn y hy (of_decide_eq_true hb')).mono e1
        walk_at "rd"
        refine i_mkX (by rfl) (by decide) fun a H2 ha2 e2 hE => ?_
        walk_at "rd"
        exact i_raise hE x_NoJoin.xc (e1.free ha2) fun H3 kp hE3 => kn a H3 (fun b o q => kp b o (ne_of_none q ha2) (e2 _ _ q)) hE3
      | false =>
        have hd : ∀ z ∈ ns, z ∉ ns' := fun z hz hz' => by
          have := List.any_eq_false.mp hc _ (List.mem_map.mpr ⟨z, hz, rfl⟩)
          exact this (decide_eq_true hz')
        walk_at "rd"
        refine i_ixH0 (hI.hf_fz e1.fz) fun nv1 hN1 => ?_
        walk_at "rd"
        refine i_lenN hN1 ?_
        walk_at "rd"
        refine i_ixH0 (hI'.hf_fz e1.fz) fun nv2 hN2 => ?_
        walk_at "rd"
        refine i_lenN hN2 ?_
        walk_at "rd"
        refine iteD (fun hc => ?_) (fun hc => ?_)
        · have km := (km hd (by omega)).mono e1
          walk_at "rd"
          refine i_mkX (by rfl) (by decide) fun a H2 ha2 e2 hE => ?_
          walk_at "rd"
          exact i_raise hE x_NoJoin.xc (e1.free ha2) fun H3 kp hE3 => km a H3 (fun b o q => kp b o (ne_of_none q ha2) (e2 _ _ q)) hE3
        · have k := k hd (by omega)
          walk_at "rd"
          refine i_ixH0 (hI.hf_fz e1.fz) fun nv3 hN3 => ?_
          obtain ⟨n3, rfl, hS3⟩ := hN3.nm
          walk_at "rd"
          refine i_ixH0 (hI'.hf_fz e1.fz) fun nv4 hN4 => ?_
          obtain ⟨n4, rfl, hS4⟩ := hN4.nm
          refine i_addT hS3 hS4 (line_of (by rw [List.length_map, List.length_map]; omega)) fun p5 H5 e5 h5 => ?_
          exact k _ H5 (e1.trans e5) (is_nm (by rw [List.map_append]; exact h5))
theorem okx_above {f : Addr} {fd : FuncData} (F : Fun K "above" "above" s_above f fd) (T : TopF mg) {C_HalfError : Addr} {C_NoName : Addr} {C_NoJoin : Addr} (x_HalfError : Xls_HalfError K mg C_HalfError C_HalfError) (x_NoName : Xls_NoName K mg C_NoName C_HalfError) (x_NoJoin : Xls_NoJoin K mg C_NoJoin C_HalfError) (c_thinned : Fnd P w K mg base 4 "thinned" ["names", "sayings"] (sp_thinned K)) (d_joined_names : Fnd1 P w K mg base 3 "joined_names" ["one", "other"] (spx_joined_names C_NoJoin K)) : FnOk P w K mg base (CX1 P w) 5 f fd ["one", "other"] (spx_above C_NoJoin K) := by
  refine F.ok1 sc_above (fun vs H Q E h => ?_) (fun cdv A outer s H vs Q E hr h => ?_)
  · obtain ⟨v, u, ns, ps, ns', ps', rfl, _⟩ := h
    rfl
  · obtain ⟨v, u, ns, ps, ns', ps', rfl, hI, hW, hI', hW', h10', hl, hl', kn, km, k⟩ := h
    have hu := hu_of hr
    have hq := qa_of hr
    with_reducible refine ⟨_, (pss_cons (ps_set (i := 2) sc_above.nd (by with_unfolding_all rfl) (by with_unfolding_all exact Or.inl rfl) (pe_fn1 d_joined_names (hr.mono (by decide)) (by with_unfolding_all rfl) pass1' (pa_cons (pv 0) (pa_cons (pv 1) pa_nil))))
      (pss_cons (ps_set (i := 3) sc_above.nd (by with_unfolding_all rfl) (by with_unfolding_all exact Or.inl rfl) (pe_lst pa_nil))
      (pss_cons (ps_for PassesOwn.leaving (by with_unfolding_all rfl) (pi_anyK (K := K) hu (pe_ix (ix_anyK (K := K) hu) (pv 0) pe_int (by with_unfolding_all exact fun _ _ => rfl))) (pg_name (i := 4) sc_above.nd (by with_unfolding_all rfl) (by with_unfolding_all exact Or.inr rfl))
      (pss_one (ps_expr (pe_bmK (K := K) PySem.F.plainAttrs_list PySem.F.slot_list_extend PySem.F.type_list_extend (mm mt_extend) (pv 3) (pa_cons (pe_comp ["under"] ["name"] [4] (by with_unfolding_all rfl) (by with_unfolding_all rfl) (by with_unfolding_all rfl) (pi_anyK (K := K) hu (pe_ix (ix_anyK (K := K) hu) (pv 1) pe_int (by with_unfolding_all exact fun _ _ => rfl))) (fun _ _ _ _ => (pg_name (i := 0) (by with_unfolding_all (show (["under", "name"] : List Str).Nodup; decide +kernel)) (by with_unfolding_all rfl) (by with_unfolding_all exact Or.inl rfl))) (gk_name (by decide)) (fun _ _ _ _ => pif_nil) (fun _ _ _ _ => (pe_tup (pa_cons (pv 1) (pa_cons (pv 0) pa_nil))))) pa_nil)))))
      (pss_one (ps_ret (pe_fn c_thinned (hr.mono (by decide)) (by with_unfolding_all rfl) (pa_cons (pv 2) (pa_cons (pe_op (op_addK (K := K)) (pe_op (op_addK (K := K)) (pe_ix (ix_anyK (K := K) hu) (pv 0) pe_int (by with_unfolding_all exact fun _ _ => rfl)) (pe_ix (ix_anyK (K := K) hu) (pv 1) pe_int (by with_unfolding_all exact fun _ _ => rfl))) (pe_callTy (call_tupleK (K := K)) (by with_unfolding_all rfl) T.b_tuple PyProof.Rows.Boot.«tuple» (pa_cons (pv 3) pa_nil))) pa_nil)))))))), ?_⟩
    walk_at "rd"
    refine ⟨v, u, ns, ps, ns', ps', rfl, hI, hI', h10', kn, km, fun hd h10 nw H1 e1 hNw => ?_⟩
    have k := k hd h10
    walk_at "rd"
    refine i_newL (line_of (by simp)) fun p H2 hp2 e2 h2 => ?_
    walk_at "rd"
    refine i_ixH0 (hI.hf_fz (e1.trans e2).fz) fun nv hN => ?_
    refine for_nm hN (fun i σ H3 => ∃ x4, σ = [some v, some u, some nw, some (.ref p), x4] ∧ Same H1 H3 ∧ Fz H2 H3 ∧ ∃ ys, H3 p = some (.lst ys) ∧ IsL K H3 ((btw (ns.take i) ns').map prD) ys)
      ⟨none, rfl, e2, .refl _, [], h2, .nil⟩ (fun i σ' H' hP => ?_) (fun i z σ' H3 hz hP => ?_) (fun σ' H3 hP => ?_)
    · obtain ⟨_, _, _, fz, _⟩ := hP
      exact fz
    · obtain ⟨x4, rfl, e3, fz3, ys, h3, hL⟩ := hP
      have hin : i < ns.length := (List.getElem?_eq_some_iff.mp hz).1
      have hyl : ys.length ≤ 100 := by
        rw [← IsL.length hL, List.length_map, len_btw]
        exact Nat.le_trans (Nat.mul_le_mul (show (ns.take i).length ≤ 10 by rw [List.length_take]; omega) (show ns'.length ≤ 10 by omega)) (by decide)
      walk_at "rd"
      refine i_ixH0 (hI'.hf_fz (e1.fz.trans e3.fz)) fun nv' hN' => ?_
      refine comp_nm hN' (fun _ => true) (fun y => prD (z, y)) (fun _ => frz_pr _) (by omega) (fun j y H4 R R' hy e4 hR hR' => ?_) (fun q zs H4 hq4 e4 h4 hL4 => ?_)
      · walk_at "rd"
        refine i_newT (line_of (by simp)) fun t H5 ht5 e5 h5 => ?_
        exact hR rfl _ _ e5 (is_pr (SqT.of h5))
      · walk_at "rd"
        have hft : ns'.filter (fun _ => true) = ns' := by simp
        rw [hft] at hL4
        have h4p := e4 _ _ h3
        have hlz : zs.length = ns'.length := by rw [← IsL.length hL4, List.length_map]
        refine i_extR h4p h4 (by omega) fun H5 e5 h5 => ?_
        walk_at "rd"
        have fz5 : Fz H4 H5 := e5.fzL h4p
        refine ⟨_, rfl, Same.off (q := p) (H1 := H4) (e3.trans e4) hp2 e5, (fz3.trans e4.fz).trans fz5, _, h5, ?_⟩
        have ht : ns.take (i + 1) = ns.take i ++ [z] := by rw [List.take_add_one, hz]; rfl
        rw [ht]
        unfold btw
        rw [List.flatMap_append, List.map_append]
        refine IsL.append (IsL.fz (e4.fz.trans fz5) _ _ (frzL_prs _) hL) ?_
        have e : ([z].flatMap fun z => ns'.map fun y => (z, y)).map prD = ns'.map fun y => prD (z, y) := by
          simp [Function.comp_def]
        rw [e]
        exact IsL.fz fz5 _ _ (frzL_map _ (fun _ => frz_pr _) _) hL4
    · obtain ⟨x4, rfl, e3, fz3, ys, h3, hL⟩ := hP
      rw [List.take_length] at hL
      have e13 := e1.trans e3
      have hbl : (btw ns ns').length ≤ 100 := by
        rw [len_btw]
        exact Nat.le_trans (Nat.mul_le_mul (show ns.length ≤ 10 by omega) (show ns'.length ≤ 10 by omega)) (by decide)
      have hyl : ys.length = (btw ns ns').length := by rw [← IsL.length hL, List.length_map]
      walk_at "rd"
      refine i_ixH1 (hI.hf_fz e13.fz) fun pv hP1 => ?_
      obtain ⟨pa, xs, rfl, hS1, hL1⟩ := Is.tup hP1
      walk_at "rd"
      refine i_ixH1 (hI'.hf_fz e13.fz) fun pv' hP2 => ?_
      obtain ⟨pa', xs', rfl, hS2, hL2⟩ := Is.tup hP2
      have l1 : xs.length = ps.length := by rw [← IsL.length hL1, List.length_map]
      have l2 : xs'.length = ps'.length := by rw [← IsL.length hL2, List.length_map]
      refine i_addT hS1 hS2 (line_of (by omega)) fun p4 H4 e4 h4 => ?_
      walk_at "rd"
      refine i_tupleL (SqL.of (e4 _ _ h3)) fun t5 H5 ht5 e5 h5 => ?_
      refine i_addT (e5.seqT h4) (SqT.of h5) (line_of (by rw [List.length_append]; omega)) fun p6 H6 e6 h6 => ?_
      have e36 := (e4.trans e5).trans e6
      have hP6 : Is K H6 (psD (ps ++ ps' ++ btw ns ns')) (.ref p6) := by
        refine Is.of_tup h6 ?_
        rw [List.map_append, List.map_append]
        exact IsL.append (IsL.append (IsL.mono e36 _ _ hL1) (IsL.mono e36 _ _ hL2)) (IsL.mono e36 _ _ hL)
      have hWj := half_join hW hW' hd (bs := btw ns ns') (fun p hp => mem_btw.mp hp) (.inr fun x hx y hy => mem_btw.mpr ⟨hx, hy⟩) h10 (by omega)
      walk_at "rd"
      exact ⟨nw, .ref p6, ns ++ ns', _, rfl, hNw.nm_fz (e3.trans e36).fz, hP6, hWj, fun w H7 e7 hw => k w _ H7 ((e13.trans e36).trans e7) hw⟩
theorem okx_beside {f : Addr} {fd : FuncData} (F : Fun K "beside" "beside" s_beside f fd) (T : TopF mg) {C_HalfError : Addr} {C_NoName : Addr} {C_NoJoin : Addr} (x_HalfError : Xls_HalfError K mg C_HalfError C_HalfError) (x_NoName : Xls_NoName K mg C_NoName C_HalfError) (x_NoJoin : Xls_NoJoin K mg C_NoJoin C_HalfError) (c_thinned : Fnd P w K mg base 4 "thinned" ["names", "sayings"] (sp_thinned K)) (d_joined_names : Fnd1 P w K mg base 3 "joined_names" ["one", "other"] (spx_joined_names C_NoJoin K)) : FnOk P w K mg base (CX1 P w) 5 f fd ["one", "other"] (spx_beside C_NoJoin K) := by
  refine F.ok1 sc_beside (fun vs H Q E h => ?_) (fun cdv A outer s H vs Q E hr h => ?_)
  · obtain ⟨v, u, ns, ps, ns', ps', rfl, _⟩ := h
    rfl
  · obtain ⟨v, u, ns, ps, ns', ps', rfl, hI, hW, hI', hW', h10', hl, hl', kn, km, k⟩ := h
    have hu := hu_of hr
    have hq := qa_of hr
    with_reducible refine ⟨_, (pss_one (ps_ret (pe_fn c_thinned (hr.mono (by decide)) (by with_unfolding_all rfl) (pa_cons (pe_fn1 d_joined_names (hr.mono (by decide)) (by with_unfolding_all rfl) pass1' (pa_cons (pv 0) (pa_cons (pv 1) pa_nil))) (pa_cons (pe_op (op_addK (K := K)) (pe_ix (ix_anyK (K := K) hu) (pv 0) pe_int (by with_unfolding_all exact fun _ _ => rfl)) (pe_ix (ix_anyK (K := K) hu) (pv 1) pe_int (by with_unfolding_all exact fun _ _ => rfl))) pa_nil))))), ?_⟩
    walk_at "rd"
    refine ⟨v, u, ns, ps, ns', ps', rfl, hI, hI', h10', kn, km, fun hd h10 nw H1 e1 hNw => ?_⟩
    have k := k hd h10
    walk_at "rd"
    refine i_ixH1 (hI.hf_fz e1.fz) fun pv hP1 => ?_
    obtain ⟨pa, xs, rfl, hS1, hL1⟩ := Is.tup hP1
    walk_at "rd"
    refine i_ixH1 (hI'.hf_fz e1.fz) fun pv' hP2 => ?_
    obtain ⟨pa', xs', rfl, hS2, hL2⟩ := Is.tup hP2
    have l1 : xs.length = ps.length := by rw [← IsL.length hL1, List.length_map]
    have l2 : xs'.length = ps'.length := by rw [← IsL.length hL2, List.length_map]
    refine i_addT hS1 hS2 (line_of (by omega)) fun p4 H4 e4 h4 => ?_
    have hP4 : Is K H4 (psD (ps ++ ps' ++ [])) (.ref p4) := by
      rw [List.append_nil]
      refine Is.of_tup h4 ?_
      rw [List.map_append]
      exact IsL.append (IsL.mono e4 _ _ hL1) (IsL.mono e4 _ _ hL2)
    have hWj := half_join hW hW' hd (bs := []) (fun p hp => by cases hp) (.inl rfl) h10 (by simp; omega)
    walk_at "rd"
    exact ⟨nw, .ref p4, ns ++ ns', _, rfl, hNw.nm_fz e4.fz, hP4, hWj, fun w H5 e5 hw => k w _ H5 ((e1.trans e4).trans e5) hw⟩
noncomputable def spx_only (C : Addr) (K : PySem.W.Frag) : Sp := fun vs H Q E => ∃ v w ns ps row, vs = [v, w] ∧ Is K H (hfD ns ps) v ∧ Half ns ps ∧ Is K H (nmD row) w ∧ ((∃ z, FstS ns row z ∧ Refz H C z E) ∨ ((∀ z ∈ row, z ∈ ns) ∧ ∀ u qs H', Same H H' → Is K H' (hfD (onL ns row) qs) u → Q u H'))
theorem okx_only {f : Addr} {fd : FuncData} (F : Fun K "only" "only" s_only f fd) (T : TopF mg) {C_HalfError : Addr} {C_NoName : Addr} (x_HalfError : Xls_HalfError K mg C_HalfError C_HalfError) (x_NoName : Xls_NoName K mg C_NoName C_HalfError) (c_closed : Fnd P w K mg base 2 "closed" ["half"] (sp_closed K)) (c_thinned : Fnd P w K mg base 4 "thinned" ["names", "sayings"] (sp_thinned K)) (d_refuse_strangers : Fnd1 P w K mg base 3 "refuse_strangers" ["half", "asked"] (spx_refuse_strangers C_NoName K)) : FnOk P w K mg base (CX1 P w) 5 f fd ["half", "names"] (spx_only C_NoName K) := by
  refine F.ok1 sc_only (fun vs H Q E h => ?_) (fun cdv A outer s H vs Q E hr h => ?_)
  · obtain ⟨v, w, ns, ps, row, rfl, _⟩ := h
    rfl
  · obtain ⟨v, w, ns, ps, row, rfl, hI, hH, hR0, hk⟩ := h
    have hu := hu_of hr
    have hq := qa_of hr
    have hfew := hH.few
    have hcf := hH.cl_few
    with_reducible refine ⟨_, (pss_cons (ps_expr (pe_fn1 d_refuse_strangers (hr.mono (by decide)) (by with_unfolding_all rfl) pass1' (pa_cons (pv 0) (pa_cons (pv 1) pa_nil))))
      (pss_cons (ps_set (i := 2) sc_only.nd (by with_unfolding_all rfl) (by with_unfolding_all exact Or.inr rfl) (pe_callTy (call_tupleK (K := K)) (by with_unfolding_all rfl) T.b_tuple PyProof.Rows.Boot.«tuple» (pa_cons (pe_comp ["name"] ["names"] [1] (by with_unfolding_all rfl) (by with_unfolding_all rfl) (by with_unfolding_all rfl) (pi_anyK (K := K) hu (pe_ix (ix_anyK (K := K) hu) (pv 0) pe_int (by with_unfolding_all exact fun _ _ => rfl))) (fun _ _ _ _ => (pg_name (i := 0) (by with_unfolding_all (show (["name", "names"] : List Str).Nodup; decide +kernel)) (by with_unfolding_all rfl) (by with_unfolding_all exact Or.inl rfl))) (gk_name (by decide)) (fun _ _ _ _ => (pif_one (pt_cmpR (op_inK (K := K) hq) (pv 0) (pv 1) (by with_unfolding_all rfl)))) (fun _ _ _ _ => (pv 0))) pa_nil)))
      (pss_one (ps_ret (pe_fn c_thinned (hr.mono (by decide)) (by with_unfolding_all rfl) (pa_cons (pv 2) (pa_cons (pe_callTy (call_tupleK (K := K)) (by with_unfolding_all rfl) T.b_tuple PyProof.Rows.Boot.«tuple» (pa_cons (pe_comp ["pair"] ["left"] [2] (by with_unfolding_all rfl) (by with_unfolding_all rfl) (by with_unfolding_all rfl) (pi_anyK (K := K) hu (pe_fn c_closed (hr.mono (by decide)) (by with_unfolding_all rfl) (pa_cons (pv 0) pa_nil))) (fun _ _ _ _ => (pg_name (i := 0) (by with_unfolding_all (show (["pair", "left"] : List Str).Nodup; decide +kernel)) (by with_unfolding_all rfl) (by with_unfolding_all exact Or.inl rfl))) (gk_name (by decide)) (fun _ _ _ _ => (pif_one (PW.pt (pw_and (pt_cmpR (op_inK (K := K) hq) (pe_ix (ix_anyK (K := K) hu) (pv 0) pe_int (by with_unfolding_all exact fun _ _ => rfl)) (pv 1) (by with_unfolding_all rfl)) (pw_and1 (pt_cmpR (op_inK (K := K) hq) (pe_ix (ix_anyK (K := K) hu) (pv 0) pe_int (by with_unfolding_all exact fun _ _ => rfl)) (pv 1) (by with_unfolding_all rfl))))))) (fun _ _ _ _ => (pv 0))) pa_nil)) pa_nil))))))), ?_⟩
    walk_at "rd"
    rcases hk with ⟨z, hz, k⟩ | ⟨hsub, k⟩
    · exact ⟨v, w, ns, ps, row, rfl, hI, hR0, .inl ⟨z, hz, k⟩⟩
    refine ⟨v, w, ns, ps, row, rfl, hI, hR0, .inr ⟨hsub, ?_⟩⟩
    walk_at "rd"
    refine i_ixH0 hI fun nv hN => ?_
    refine comp_nm hN (fun z => decide (z ∈ row)) PyData.str (fun _ => by simp only [frz]) (by omega) (fun i z H1 R R' hz e1 hR hR' => ?_) (fun q ys H1 hq1 e1 h1 hL1 => ?_)
    · walk_at "rd"
      refine i_inN (hR0.nm_fz e1.fz) ?_
      walk_at "rd"
      refine iteD (fun hc => ?_) (fun hc => ?_)
      · walk_at "rd"
        exact hR (decide_eq_true hc) _ _ (.refl _) is_str
      · exact hR' (decide_eq_false hc) _ (.refl _)
    · walk_at "rd"
      refine i_tupNm (ns := onL ns row) h1 hL1 fun u2 H2 e2 hI2 => ?_
      have e02 := e1.trans e2
      walk_at "rd"
      refine ⟨v, ns, ps, rfl, hI.hf_fz e02.fz, hH.w, fun u3 H3 e3 hI3 => ?_⟩
      refine comp_ps hI3 (fun p => decide (p.1 ∈ onL ns row) && decide (p.2 ∈ onL ns row)) prD (fun _ => frz_pr _) (by omega) (fun i p w H4 R R' hp hIw e4 hR hR' => ?_) (fun q4 ys4 H4 hq4 e4 h4 hL4 => ?_)
      · have hI4 := hI2.nm_fz (e3.trans e4).fz
        walk_at "rd"
        refine i_ixP0 hIw ?_
        walk_at "rd"
        refine i_inN hI4 ?_
        walk_at "rd"
        refine iteD (fun hc => ?_) (fun hc => ?_)
        · walk_at "rd"
          refine i_ixP1 hIw ?_
          walk_at "rd"
          refine i_inN hI4 ?_
          walk_at "rd"
          refine iteD (fun hc2 => ?_) (fun hc2 => ?_)
          · walk_at "rd"
            exact hR (by rw [decide_eq_true hc, decide_eq_true hc2]; rfl) _ _ (.refl _) hIw
          · exact hR' (by rw [decide_eq_true hc, decide_eq_false hc2]; rfl) _ (.refl _)
        · walk_at "rd"
          exact hR' (by rw [decide_eq_false hc]; rfl) _ (.refl _)
      · walk_at "rd"
        refine i_tupPs (ps := onP ns ps row) h4 hL4 fun u5 H5 e5 hI5 => ?_
        walk_at "rd"
        exact ⟨u2, u5, onL ns row, onP ns ps row, rfl, hI2.nm_fz ((e3.trans e4).trans e5).fz, hI5, half_on hH row, fun w H6 e6 hw => k w _ H6 ((((e02.trans e3).trans e4).trans e5).trans e6) hw⟩
noncomputable def spx_without (C : Addr) (K : PySem.W.Frag) : Sp := fun vs H Q E => ∃ v x ns ps, vs = [v, .str x] ∧ Is K H (hfD ns ps) v ∧ Half ns ps ∧ ((x ∉ ns ∧ Refz H C x E) ∨ (x ∈ ns ∧ ∀ u qs H', Same H H' → Is K H' (hfD (onL ns (ns.filter fun y => !decide (y = x))) qs) u → Q u H'))
theorem okx_without {f : Addr} {fd : FuncData} (F : Fun K "without" "without" s_without f fd) (T : TopF mg) {C_HalfError : Addr} {C_NoName : Addr} (x_HalfError : Xls_HalfError K mg C_HalfError C_HalfError) (x_NoName : Xls_NoName K mg C_NoName C_HalfError) (d_refuse_strangers : Fnd1 P w K mg base 3 "refuse_strangers" ["half", "asked"] (spx_refuse_strangers C_NoName K)) (d_only : Fnd1 P w K mg base 5 "only" ["half", "names"] (spx_only C_NoName K)) : FnOk P w K mg base (CX1 P w) 6 f fd ["half", "name"] (spx_without C_NoName K) := by
  refine F.ok1 sc_without (fun vs H Q E h => ?_) (fun cdv A outer s H vs Q E hr h => ?_)
  · obtain ⟨v, x, ns, ps, rfl, _⟩ := h
    rfl
  · obtain ⟨v, x, ns, ps, rfl, hI, hH, hk⟩ := h
    have hu := hu_of hr
    have hq := qa_of hr
    have hfew := hH.few
    with_reducible refine ⟨_, (pss_cons (ps_expr (pe_fn1 d_refuse_strangers (hr.mono (by decide)) (by with_unfolding_all rfl) pass1' (pa_cons (pv 0) (pa_cons (pe_tup (pa_cons (pv 1) pa_nil)) pa_nil))))
      (pss_one (ps_ret (pe_fn1 d_only (hr.mono (by decide)) (by with_unfolding_all rfl) pass1' (pa_cons (pv 0) (pa_cons (pe_callTy (call_tupleK (K := K)) (by with_unfolding_all rfl) T.b_tuple PyProof.Rows.Boot.«tuple» (pa_cons (pe_comp ["other"] ["name"] [1] (by with_unfolding_all rfl) (by with_unfolding_all rfl) (by with_unfolding_all rfl) (pi_anyK (K := K) hu (pe_ix (ix_anyK (K := K) hu) (pv 0) pe_int (by with_unfolding_all exact fun _ _ => rfl))) (fun _ _ _ _ => (pg_name (i := 0) (by with_unfolding_all (show (["other", "name"] : List Str).Nodup; decide +kernel)) (by with_unfolding_all rfl) (by with_unfolding_all exact Or.inl rfl))) (gk_name (by decide)) (fun _ _ _ _ => (pif_one (pt_cmpR (op_neK (K := K) hq) (pv 0) (pv 1) (nomark _)))) (fun _ _ _ _ => (pv 0))) pa_nil)) pa_nil)))))), ?_⟩
    walk_at "rd"
    refine i_newT (line_of (by simp)) fun t1 H1 ht1 e1 h1 => ?_
    walk_at "rd"
    rcases hk with ⟨hx, k⟩ | ⟨hx, k⟩
    · exact ⟨v, .ref t1, ns, ps, [x], rfl, hI.hf_fz e1.fz, is_nm (SqT.of h1), .inl ⟨x, ⟨[], [], rfl, by simp, hx⟩, k.mono e1⟩⟩
    refine ⟨v, .ref t1, ns, ps, [x], rfl, hI.hf_fz e1.fz, is_nm (SqT.of h1), .inr ⟨fun z hz => by rw [List.mem_singleton.mp hz]; exact hx, ?_⟩⟩
    walk_at "rd"
    refine i_ixH0 (hI.hf_fz e1.fz) fun nv hN => ?_
    refine comp_nm hN (fun y => !decide (y = x)) PyData.str (fun _ => by simp only [frz]) (by omega) (fun i z H2 R R' hz e2 hR hR' => ?_) (fun q ys H2 hq2 e2 h2 hL2 => ?_)
    · walk_at "rd"
      refine iteND (fun hc => ?_) (fun hc => ?_)
      · walk_at "rd"
        exact hR (by rw [decide_eq_false fun e => hc (by rw [e])]; rfl) _ _ (.refl _) is_str
      · have hc' : z = x := by injection hc
        exact hR' (by rw [decide_eq_true hc']; rfl) _ (.refl _)
    · walk_at "rd"
      refine i_tupNm (ns := ns.filter fun y => !decide (y = x)) h2 hL2 fun u3 H3 e3 hI3 => ?_
      walk_at "rd"
      exact ⟨v, u3, ns, ps, _, rfl, hI.hf_fz ((e1.trans e2).trans e3).fz, hH, hI3, .inr ⟨fun z hz => (List.mem_filter.mp hz).1, fun u qs H4 e4 hu4 => k u qs H4 (((e1.trans e2).trans e3).trans e4) hu4⟩⟩
noncomputable def spx_called (C : Addr) (K : PySem.W.Frag) : Sp := fun vs H Q E => ∃ v w ns ps g, vs = [v, w] ∧ Is K H (hfD ns ps) v ∧ Half ns ps ∧ ThT K H w g ∧ ((unl g = false ∨ lenT g ≠ ns.length) → RefJ H C "names" E) ∧
  (unl g = true → lenT g = ns.length → ∀ u row qs H', row.length = ns.length → Same H H' → Is K H' (hfD row qs) u → Q u H')
theorem okx_called {f : Addr} {fd : FuncData} (F : Fun K "called" "called" s_called f fd) (T : TopF mg) {C_HalfError : Addr} {C_NoName : Addr} {C_NoJoin : Addr} (x_HalfError : Xls_HalfError K mg C_HalfError C_HalfError) (x_NoName : Xls_NoName K mg C_NoName C_HalfError) (x_NoJoin : Xls_NoJoin K mg C_NoJoin C_HalfError) (c_are_unlike_names : Fnd P w K mg base 2 "are_unlike_names" ["thing"] (sp_are_unlike_names K)) (c_thinned : Fnd P w K mg base 4 "thinned" ["names", "sayings"] (sp_thinned K)) (c_NoJoin_init : Mkx P w K mg base 1 C_NoJoin "NoJoin" ["self", "word"] (spX C_NoJoin ["word"])) : FnOk P w K mg base (CX1 P w) 5 f fd ["half", "names"] (spx_called C_NoJoin K) := by
  refine F.ok1 sc_called (fun vs H Q E h => ?_) (fun cdv A outer s H vs Q E hr h => ?_)
  · obtain ⟨v, w, ns, ps, g, rfl, _⟩ := h
    rfl
  · obtain ⟨v, w, ns, ps, g, rfl, hI, hH, hT, kn, k⟩ := h
    have hu := hu_of hr
    have hq := qa_of hr
    have hfew := hH.few
    have hle := hH.le
    have hnd := hH.names.1
    with_reducible refine ⟨_, (pss_cons (ps_if (PW.pt (pw_or (pt_not (pt_val (pe_fn c_are_unlike_names (hr.mono (by decide)) (by with_unfolding_all rfl) (pa_cons (pv 1) pa_nil)))) (pw_or1 (pt_cmpR (op_neK (K := K) hq) (pe_callB (call_lenK (K := K)) (by with_unfolding_all rfl) T.b_len PyProof.Rows.Boot.«len» (pa_cons (pv 1) pa_nil)) (pe_callB (call_lenK (K := K)) (by with_unfolding_all rfl) T.b_len PyProof.Rows.Boot.«len» (pa_cons (pe_ix (ix_anyK (K := K) hu) (pv 0) pe_int (by with_unfolding_all exact fun _ _ => rfl)) pa_nil)) (nomark _))))) (pss_one (ps_raise (by with_unfolding_all rfl) (pe_xmk c_NoJoin_init (hr.mono (by decide)) (by with_unfolding_all rfl) (pa_cons pe_str pa_nil)))) pss_nil)
      (pss_cons (ps_set (i := 2) sc_called.nd (by with_unfolding_all rfl) (by with_unfolding_all exact Or.inr rfl) (pe_dictZip (K := K) hr.hd (by with_unfolding_all rfl) T.b_dict (by with_unfolding_all rfl) T.b_zip (pa_cons (pe_ix (ix_anyK (K := K) hu) (pv 0) pe_int (by with_unfolding_all exact fun _ _ => rfl)) (pa_cons (pv 1) pa_nil))))
      (pss_one (ps_ret (pe_fn c_thinned (hr.mono (by decide)) (by with_unfolding_all rfl) (pa_cons (pv 1) (pa_cons (pe_callTy (call_tupleK (K := K)) (by with_unfolding_all rfl) T.b_tuple PyProof.Rows.Boot.«tuple» (pa_cons (pe_comp ["saying"] ["new"] [2] (by with_unfolding_all rfl) (by with_unfolding_all rfl) (by with_unfolding_all rfl) (pi_anyK (K := K) hu (pe_ix (ix_anyK (K := K) hu) (pv 0) pe_int (by with_unfolding_all exact fun _ _ => rfl))) (fun _ _ _ _ => (pg_name (i := 0) (by with_unfolding_all (show (["saying", "new"] : List Str).Nodup; decide +kernel)) (by with_unfolding_all rfl) (by with_unfolding_all exact Or.inl rfl))) (gk_name (by decide)) (fun _ _ _ _ => pif_nil) (fun _ _ _ _ => (pe_tup (pa_cons (pe_ix (ix_anyK (K := K) hu) (pv 1) (pe_ix (ix_anyK (K := K) hu) (pv 0) pe_int (by with_unfolding_all exact fun _ _ => rfl)) (by with_unfolding_all exact fun _ _ => rfl)) (pa_cons (pe_ix (ix_anyK (K := K) hu) (pv 1) (pe_ix (ix_anyK (K := K) hu) (pv 0) pe_int (by with_unfolding_all exact fun _ _ => rfl)) (by with_unfolding_all exact fun _ _ => rfl)) pa_nil))))) pa_nil)) pa_nil))))))), ?_⟩
    walk_at "rd"
    refine ⟨w, g, rfl, hT, fun H1 e1 => ?_⟩
    have bad : ∀ H5, Same H1 H5 → RefJ H C_NoJoin "names" E → ∀ a H2, H5 a = none → Same H5 H2 → ExA H2 a C_NoJoin [("word", .str "names")] → rRaise K H E (.ref a) H2 := fun H5 e5 kn a H2 ha2 e2 hE =>
      i_raise hE x_NoJoin.xc ((e1.trans e5).free ha2) fun H3 kp hE3 => kn a H3 (fun b o q => kp b o (ne_of_none ((e1.trans e5) _ _ q) ha2) (e2 _ _ ((e1.trans e5) _ _ q))) hE3
    cases hg : unl g with
    | false =>
      walk_at "rd"
      refine i_mkX (by rfl) (by decide) fun a H2 ha2 e2 hE => ?_
      walk_at "rd"
      exact bad H1 (.refl _) (kn (.inl hg)) a H2 ha2 e2 hE
    | true =>
      have k := k hg
      cases g with
      | odd => cases hg
      | row xs =>
        obtain ⟨wa, rfl, hSw, h30, hGd⟩ := hT
        have hg2 : (xs.all ans && decide xs.Nodup) = true := hg
        rw [Bool.and_eq_true] at hg2
        obtain ⟨row, rfl, hrn⟩ := all_ans hg2.1
        have hrd : row.Nodup := nodup_strs.mp (of_decide_eq_true hg2.2)
        have hN : Names row := ⟨hrd, hrn⟩
        have hR0 : Is K H (nmD row) (.ref wa) := is_nm hSw
        have hlt : lenT (.row (row.map V.str)) = row.length := List.length_map _
        walk_at "rd"
        refine i_lenN (hR0.nm_fz e1.fz) ?_
        walk_at "rd"
        refine i_ixH0 (hI.hf_fz e1.fz) fun nv1 hN1 => ?_
        walk_at "rd"
        refine i_lenN hN1 ?_
        walk_at "rd"
        refine iteND (fun hc => ?_) (fun hc => ?_)
        · walk_at "rd"
          refine i_mkX (by rfl) (by decide) fun a H2 ha2 e2 hE => ?_
          walk_at "rd"
          exact bad H1 (.refl _) (kn (.inr (by rw [hlt]; exact fun e => hc (by rw [e])))) a H2 ha2 e2 hE
        have hl : row.length = ns.length := by have := V.int.inj hc; omega
        have k := k (by rw [hlt]; exact hl)
        walk_at "rd"
        refine i_ixH0 (hI.hf_fz e1.fz) fun nv2 hN2 => ?_
        obtain ⟨n2, rfl, hS2⟩ := hN2.nm
        walk_at "rd"
        refine i_dictZip hS2 (.inr (e1.seqT hSw)) (by rw [List.length_map]; exact hl) hnd (by omega) fun c H3 hc3 e3 h3 => ?_
        have e13 := e1.trans e3
        walk_at "rd"
        refine i_ixH1 (hI.hf_fz e13.fz) fun sv hP => ?_
        refine comp_ps hP (fun _ => true) (fun p => prD (ff (toF ns row) p)) (fun _ => frz_pr _) (by omega) (fun j p w H4 R R' hp hIw e4 hR hR' => ?_) (fun q4 y4 H4 hq4 e4 h4 hL4 => ?_)
        · have hpm := hH.mem (List.mem_of_getElem? hp)
          have h4c := e4 _ _ h3
          walk_at "rd"
          refine i_ixP0 hIw ?_
          refine i_ixD h4c (valV_toF hnd hl hpm.1) ?_
          walk_at "rd"
          refine i_ixP1 hIw ?_
          refine i_ixD h4c (valV_toF hnd hl hpm.2) ?_
          walk_at "rd"
          refine i_newT (line_of (by simp)) fun t5 H5 ht5 e5 h5 => ?_
          exact hR rfl _ _ e5 (is_pr (SqT.of h5))
        · have hft : ps.filter (fun _ => true) = ps := by simp
          rw [hft] at hL4
          have hL4' : IsL K H4 ((ps.map (ff (toF ns row))).map prD) y4 := by rw [List.map_map]; exact hL4
          walk_at "rd"
          refine i_tupPs h4 hL4' fun u5 H5 e5 hI5 => ?_
          walk_at "rd"
          exact ⟨.ref wa, u5, row, _, rfl, hR0.nm_fz ((e13.trans e4).trans e5).fz, hI5, (half_call hH hN hl).w, fun w H6 e6 hw => k w row _ H6 hl (((e13.trans e4).trans e5).trans e6) hw⟩
local macro_rules | `(tactic| walk_at "rq1") => L2.mAlts "i_nxS"
theorem mro_up {K : PySem.W.Frag} {C B : Addr} (hm : xcMro K C B = true) : PySem.W.mroIn K C (.ref B) = some true := by
  obtain ⟨cd, hc, hx⟩ := PySem.W.any_some hm
  unfold PySem.W.mroIn
  rw [hc, Option.bind_some, beq_iff_eq.mp hx, if_neg (by simp), List.contains_cons, List.contains_cons, beq_self_eq_true, Bool.true_or, Bool.or_true]
theorem kit_not {K : PySem.W.Frag} {C D B : Addr} (c : XC K C) (hm : xcMro K C B = true) (d : XC K D) (h1 : C ≠ D) (h2 : D ≠ B) : PySem.W.kitOne K (.ref C) (.ref D) = some false := by
  rw [xc_kitR c hm d, beq_eq_false_iff_ne.mpr h1, beq_eq_false_iff_ne.mpr h2]
  rfl
theorem kit_own {K : PySem.W.Frag} {C B : Addr} (c : XC K C) (hm : xcMro K C B = true) : PySem.W.kitOne K (.ref C) (.ref C) = some true := by
  rw [xc_kitR c hm c, beq_self_eq_true, Bool.true_or]
theorem exb_at {H : Hp} {a C : Addr} {f : Str × V} {fs : List (Str × V)} (h : ExB false H a C (f :: fs)) : ∃ dx, H a = some (exG false a C (some dx)) := by
  rcases h with ⟨e, _⟩ | ⟨dx, _, h1, _⟩
  · cases e
  · exact ⟨dx, h1⟩
noncomputable def GetI (H : Hp) (n : Nat) (Q : VK) : Prop := ∀ H', Same H H' → Q (.int (n : Int)) H'
noncomputable def GetL (H : Hp) (a b : Str) (Q : VK) : Prop := ∀ q H', H q = none → Same H H' → H' q = some (.lst [.str a, .str b]) → Q (.ref q) H'
theorem len_onL {ns : List Str} {x : Str} (hn : ns.Nodup) (hx : x ∈ ns) : (onL ns (ns.filter fun y => !decide (y = x))).length = ns.length - 1 := by
  have e : onL ns (ns.filter fun y => !decide (y = x)) = ns.filter fun y => !decide (y = x) := by
    unfold onL
    refine List.filter_congr fun z hz => ?_
    rw [Bool.eq_iff_iff]
    simp [hz]
  rw [e]
  have h1 : ns.filter (fun y => !decide (y = x)) = ns.erase x := by
    rw [hn.erase_eq_filter]
    refine List.filter_congr fun z hz => ?_
    rw [Bool.eq_iff_iff]
    simp
  rw [h1, List.length_erase_of_mem hx]
noncomputable def ToldC (K : PySem.W.Frag) (H : Hp) (w : Str) (v u : V) (Q : VK) : Prop :=
  ((w = "above" ∨ w = "beside") ∧ ∃ ns ps ns' ps', Is K H (hfD ns ps) v ∧ Half ns ps ∧ Is K H (hfD ns' ps') u ∧ Half ns' ps' ∧ (∀ z ∈ ns, z ∈ ns' → GetL H "join" "names" Q) ∧ ((∀ z ∈ ns, z ∉ ns') → 10 < ns.length + ns'.length → GetL H "join" "many" Q) ∧ ((∀ z ∈ ns, z ∉ ns') → ns.length + ns'.length ≤ 10 → GetI H (ns.length + ns'.length) Q)) ∨
  (w = "called" ∧ ∃ ns ps g, Is K H (hfD ns ps) v ∧ Half ns ps ∧ ThT K H u g ∧ ((unl g = false ∨ lenT g ≠ ns.length) → GetL H "join" "names" Q) ∧ (unl g = true → lenT g = ns.length → GetI H ns.length Q)) ∨
  (w = "only" ∧ ∃ ns ps row z, Is K H (hfD ns ps) v ∧ Half ns ps ∧ Is K H (nmD row) u ∧ FstS ns row z ∧ GetL H "name" z Q) ∨
  (w = "without" ∧ ∃ ns ps x, Is K H (hfD ns ps) v ∧ Half ns ps ∧ u = .str x ∧ ((x ∉ ns ∧ GetL H "name" x Q) ∨ (x ∈ ns ∧ GetI H (ns.length - 1) Q)))
noncomputable def sp__law_told (K : PySem.W.Frag) : Sp := fun vs H Q _ => ∃ w v u, vs = [.str w, v, u] ∧ ToldC K H w v u Q
noncomputable def GT (H : Hp) (CJ CN : Addr) (Q : VK) (a : Addr) (H' : Hp) : Prop := Same H H' ∧ ((∃ w2, ExB false H' a CJ [("word", .str w2)] ∧ GetL H "join" w2 Q) ∨ ∃ z, ExB false H' a CN [("name", .str z)] ∧ GetL H "name" z Q)
theorem lit_ne {a b : Str} {A B : Prop} (h : a ≠ b) (k : B) : if decide (V.str a = V.str b) = true then A else B := by
  rw [if_neg (by rw [decide_eq_false fun e => h (V.str.inj e)]; exact Bool.false_ne_true)]
  exact k
theorem i_ninB4 {K : PySem.W.Frag} {H : Hp} {Q : VK} {a : Addr} (h : SqL K H a ([false, false, false, false].map V.bl)) (k : Q (.bl true) H) : rInA K true (.bl true) (.ref a) H Q := i_ninB h k
theorem ok__law_told {f : Addr} {fd : FuncData} (F : Fun K "_law_told" "_law_told" s__law_told f fd) (T : TopF mg) {C_HalfError : Addr} {C_NoHalf : Addr} {C_NoName : Addr} {C_NoOrder : Addr} {C_NoJoin : Addr} {C_Clash : Addr} (x_HalfError : Xls_HalfError K mg C_HalfError C_HalfError) (x_NoHalf : Xls_NoHalf K mg C_NoHalf C_HalfError) (x_NoName : Xls_NoName K mg C_NoName C_HalfError) (x_NoOrder : Xls_NoOrder K mg C_NoOrder C_HalfError) (x_NoJoin : Xls_NoJoin K mg C_NoJoin C_HalfError) (x_Clash : Xls_Clash K mg C_Clash C_HalfError) (ndX : ([C_HalfError, C_Clash, C_NoHalf, C_NoJoin, C_NoName, C_NoOrder] : List Addr).Nodup) (d_above : Fnd1 P w K mg base 5 "above" ["one", "other"] (spx_above C_NoJoin K)) (d_beside : Fnd1 P w K mg base 5 "beside" ["one", "other"] (spx_beside C_NoJoin K)) (d_only : Fnd1 P w K mg base 5 "only" ["half", "names"] (spx_only C_NoName K)) (d_without : Fnd1 P w K mg base 6 "without" ["half", "name"] (spx_without C_NoName K)) (d_called : Fnd1 P w K mg base 5 "called" ["half", "names"] (spx_called C_NoJoin K)) : FnOk P w K mg base CX0 7 f fd ["_law_word", "_law_one", "_law_thing"] (sp__law_told K) := by
  refine F.ok sc__law_told (fun vs H Q E h => ?_) (fun cdv A outer s H vs Q E hr h => ?_)
  · obtain ⟨w, v, u, rfl, _⟩ := h
    rfl
  · obtain ⟨w, v, u, rfl, hk⟩ := h
    have hu := hu_of hr
    have hq := qa_of hr
    have n1 : C_NoName ≠ C_NoHalf := fun e => by subst e; simp at ndX
    have n2 : C_NoName ≠ C_NoOrder := fun e => by subst e; simp at ndX
    have n3 : C_NoName ≠ C_Clash := fun e => by subst e; simp at ndX
    have n4 : C_NoName ≠ C_NoJoin := fun e => by subst e; simp at ndX
    have m1 : C_NoJoin ≠ C_NoHalf := fun e => by subst e; simp at ndX
    have m2 : C_NoJoin ≠ C_NoOrder := fun e => by subst e; simp at ndX
    have m3 : C_NoJoin ≠ C_Clash := fun e => by subst e; simp at ndX
    have b1 : C_NoHalf ≠ C_HalfError := fun e => by subst e; simp at ndX
    have b2 : C_NoOrder ≠ C_HalfError := fun e => by subst e; simp at ndX
    have b3 : C_Clash ≠ C_HalfError := fun e => by subst e; simp at ndX
    have b4 : C_NoName ≠ C_HalfError := fun e => by subst e; simp at ndX
    have b5 : C_NoJoin ≠ C_HalfError := fun e => by subst e; simp at ndX
    clear ndX
    obtain ⟨xG, hG⟩ : ∃ G : Addr → Hp → Prop, G = GT H C_NoJoin C_NoName Q := ⟨_, rfl⟩
    have rj : ∀ w2, GetL H "join" w2 Q → RefJ H C_NoJoin w2 (tryE xG) := fun w2 g a H' e hE => ⟨a, rfl, by rw [hG]; exact ⟨e, .inl ⟨w2, hE, g⟩⟩⟩
    have rn : ∀ z, GetL H "name" z Q → Refz H C_NoName z (tryE xG) := fun z g a H' e hE => ⟨a, rfl, by rw [hG]; exact ⟨e, .inr ⟨z, hE, g⟩⟩⟩
    with_reducible refine ⟨_, (pss_cons (ps_set (i := 3) sc__law_told.nd (by with_unfolding_all rfl) (by with_unfolding_all exact Or.inl rfl) pe_non)
      (pss_cons (ps_try (i := 4) xG sc__law_told.nd (by with_unfolding_all rfl) (by with_unfolding_all rfl) (by with_unfolding_all rfl) x_HalfError.gl x_HalfError.xc (by with_unfolding_all rfl) (by with_unfolding_all rfl) (by with_unfolding_all rfl) (fun _ _ hps => (pss_one (ps_if (pt_cmpR (op_eqK (K := K) hq) (pv 0) pe_str (nomark _)) (pss_one (ps_set (i := 3) sc__law_told.nd (by with_unfolding_all rfl) (by with_unfolding_all exact Or.inl rfl) (pe_callB (call_lenK (K := K)) (by with_unfolding_all rfl) T.b_len PyProof.Rows.Boot.«len» (pa_cons (pe_ix (ix_anyK (K := K) hu) (pe_fn1 d_above (hr.mono (by decide)) (by with_unfolding_all rfl) hps (pa_cons (pv 1) (pa_cons (pv 2) pa_nil))) pe_int (by with_unfolding_all exact fun _ _ => rfl)) pa_nil)))) (pss_one (ps_if (pt_cmpR (op_eqK (K := K) hq) (pv 0) pe_str (nomark _)) (pss_one (ps_set (i := 3) sc__law_told.nd (by with_unfolding_all rfl) (by with_unfolding_all exact Or.inl rfl) (pe_callB (call_lenK (K := K)) (by with_unfolding_all rfl) T.b_len PyProof.Rows.Boot.«len» (pa_cons (pe_ix (ix_anyK (K := K) hu) (pe_fn1 d_beside (hr.mono (by decide)) (by with_unfolding_all rfl) hps (pa_cons (pv 1) (pa_cons (pv 2) pa_nil))) pe_int (by with_unfolding_all exact fun _ _ => rfl)) pa_nil)))) (pss_one (ps_if (pt_cmpR (op_eqK (K := K) hq) (pv 0) pe_str (nomark _)) (pss_one (ps_set (i := 3) sc__law_told.nd (by with_unfolding_all rfl) (by with_unfolding_all exact Or.inl rfl) (pe_callB (call_lenK (K := K)) (by with_unfolding_all rfl) T.b_len PyProof.Rows.Boot.«len» (pa_cons (pe_ix (ix_anyK (K := K) hu) (pe_fn1 d_called (hr.mono (by decide)) (by with_unfolding_all rfl) hps (pa_cons (pv 1) (pa_cons (pv 2) pa_nil))) pe_int (by with_unfolding_all exact fun _ _ => rfl)) pa_nil)))) (pss_one (ps_if (pt_cmpR (op_eqK (K := K) hq) (pv 0) pe_str (nomark _)) (pss_one (ps_set (i := 3) sc__law_told.nd (by with_unfolding_all rfl) (by with_unfolding_all exact Or.inl rfl) (pe_callB (call_lenK (K := K)) (by with_unfolding_all rfl) T.b_len PyProof.Rows.Boot.«len» (pa_cons (pe_ix (ix_anyK (K := K) hu) (pe_fn1 d_only (hr.mono (by decide)) (by with_unfolding_all rfl) hps (pa_cons (pv 1) (pa_cons (pv 2) pa_nil))) pe_int (by with_unfolding_all exact fun _ _ => rfl)) pa_nil)))) (pss_one (ps_set (i := 3) sc__law_told.nd (by with_unfolding_all rfl) (by with_unfolding_all exact Or.inl rfl) (pe_callB (call_lenK (K := K)) (by with_unfolding_all rfl) T.b_len PyProof.Rows.Boot.«len» (pa_cons (pe_ix (ix_anyK (K := K) hu) (pe_fn1 d_without (hr.mono (by decide)) (by with_unfolding_all rfl) hps (pa_cons (pv 1) (pa_cons (pv 2) pa_nil))) pe_int (by with_unfolding_all exact fun _ _ => rfl)) pa_nil)))))))))))))
      (fun _ _ => (pss_cons (ps_set (i := 5) sc__law_told.nd (by with_unfolding_all rfl) (by with_unfolding_all exact Or.inl rfl) (pe_lst (pa_cons (pe_callB (call_isXK (K := K)) (by with_unfolding_all rfl) T.b_isinstance PyProof.Rows.Boot.«isinstance» (pa_cons (pv 4) (pa_cons (pe_gl (v := .ref C_NoHalf) (by with_unfolding_all rfl) ⟨_, x_NoHalf.gl, (by with_unfolding_all rfl)⟩) pa_nil))) (pa_cons (pe_callB (call_isXK (K := K)) (by with_unfolding_all rfl) T.b_isinstance PyProof.Rows.Boot.«isinstance» (pa_cons (pv 4) (pa_cons (pe_gl (v := .ref C_NoOrder) (by with_unfolding_all rfl) ⟨_, x_NoOrder.gl, (by with_unfolding_all rfl)⟩) pa_nil))) (pa_cons (pe_callB (call_isXK (K := K)) (by with_unfolding_all rfl) T.b_isinstance PyProof.Rows.Boot.«isinstance» (pa_cons (pv 4) (pa_cons (pe_gl (v := .ref C_Clash) (by with_unfolding_all rfl) ⟨_, x_Clash.gl, (by with_unfolding_all rfl)⟩) pa_nil))) (pa_cons (pe_not (pe_callB (call_isXK (K := K)) (by with_unfolding_all rfl) T.b_isinstance PyProof.Rows.Boot.«isinstance» (pa_cons (pv 4) (pa_cons (pe_bltn (v := .ty "ValueError") (by with_unfolding_all rfl) T.b_ValueError PyProof.Rows.Boot.«ValueError» (by with_unfolding_all rfl)) pa_nil)))) pa_nil))))))
      (pss_cons (ps_set (i := 3) sc__law_told.nd (by with_unfolding_all rfl) (by with_unfolding_all exact Or.inl rfl) (pv 5))
      (pss_one (ps_if (PW.pt (pw_and (pt_cmpR (op_notInK (K := K) (qa_mark hq)) pe_bl (pv 5) (by with_unfolding_all rfl)) (pw_and (pt_val (pe_callB (call_isXK (K := K)) (by with_unfolding_all rfl) T.b_isinstance PyProof.Rows.Boot.«isinstance» (pa_cons (pv 4) (pa_cons (pe_gl (v := .ref C_NoJoin) (by with_unfolding_all rfl) ⟨_, x_NoJoin.gl, (by with_unfolding_all rfl)⟩) pa_nil)))) (pw_and1 (pt_not (pt_val (pe_callB (call_isXK (K := K)) (by with_unfolding_all rfl) T.b_isinstance PyProof.Rows.Boot.«isinstance» (pa_cons (pv 4) (pa_cons (pe_gl (v := .ref C_NoName) (by with_unfolding_all rfl) ⟨_, x_NoName.gl, (by with_unfolding_all rfl)⟩) pa_nil))))))))) (pss_one (ps_set (i := 3) sc__law_told.nd (by with_unfolding_all rfl) (by with_unfolding_all exact Or.inl rfl) (pe_lst (pa_cons pe_str (pa_cons (pe_fldXK (K := K) (pv 4) (by with_unfolding_all rfl)) pa_nil))))) (pss_one (ps_if (PW.pt (pw_and (pt_cmpR (op_notInK (K := K) (qa_mark hq)) pe_bl (pv 5) (by with_unfolding_all rfl)) (pw_and (pt_val (pe_callB (call_isXK (K := K)) (by with_unfolding_all rfl) T.b_isinstance PyProof.Rows.Boot.«isinstance» (pa_cons (pv 4) (pa_cons (pe_gl (v := .ref C_NoName) (by with_unfolding_all rfl) ⟨_, x_NoName.gl, (by with_unfolding_all rfl)⟩) pa_nil)))) (pw_and1 (pt_not (pt_val (pe_callB (call_isXK (K := K)) (by with_unfolding_all rfl) T.b_isinstance PyProof.Rows.Boot.«isinstance» (pa_cons (pv 4) (pa_cons (pe_gl (v := .ref C_NoJoin) (by with_unfolding_all rfl) ⟨_, x_NoJoin.gl, (by with_unfolding_all rfl)⟩) pa_nil))))))))) (pss_one (ps_set (i := 3) sc__law_told.nd (by with_unfolding_all rfl) (by with_unfolding_all exact Or.inl rfl) (pe_lst (pa_cons pe_str (pa_cons (pe_fldXK (K := K) (pv 4) (by with_unfolding_all rfl)) pa_nil))))) pss_nil))))))))
      (pss_one (ps_ret (pv 3))))), ?_⟩
    walk_at "rd"
    refine ⟨?_, fun a H' σ' hl hg => ?_⟩
    · have fin : ∀ {ns : List Str} {qs : List (Str × Str)} {w' : V} {H1 : Hp}, Same H H1 → Is K H1 (hfD ns qs) w' → GetI H ns.length Q → Q (.int (ns.length : Int)) H1 := fun e _ g => g _ e
      rcases hk with ⟨hw, ns, ps, ns', ps', hI, hH, hI', hH', k1, k2, k3⟩ | ⟨rfl, ns, ps, g, hI, hH, hT, k1, k2⟩ | ⟨rfl, ns, ps, row, z, hI, hH, hR, hz, k1⟩ | ⟨rfl, ns, ps, x, hI, hH, rfl, k1⟩
      · have hle := hH.le
        have hle' := hH'.le
        rcases hw with rfl | rfl
        · walk_at "rd"
          refine ⟨v, u, ns, ps, ns', ps', rfl, hI, hH.w, hI', hH'.w, hH.few, hle, hle', fun z hz hz' => rj _ (k1 z hz hz'), fun hd h => rj _ (k2 hd h), fun hd h w' qs H1 e1 hw' => ?_⟩
          have k3 := k3 hd h
          walk_at "rd"
          refine i_ixH0 hw' fun nv hN => ?_
          walk_at "rd"
          refine i_lenN hN ?_
          walk_at "rd"
          rw [List.length_append]
          exact k3 H1 e1
        · walk_at "rd"
          refine lit_ne (by decide +kernel) ?_
          walk_at "rd"
          refine ⟨v, u, ns, ps, ns', ps', rfl, hI, hH.w, hI', hH'.w, hH.few, hle, hle', fun z hz hz' => rj _ (k1 z hz hz'), fun hd h => rj _ (k2 hd h), fun hd h w' qs H1 e1 hw' => ?_⟩
          have k3 := k3 hd h
          walk_at "rd"
          refine i_ixH0 hw' fun nv hN => ?_
          walk_at "rd"
          refine i_lenN hN ?_
          walk_at "rd"
          rw [List.length_append]
          exact k3 H1 e1
      · walk_at "rd"
        refine lit_ne (by decide +kernel) ?_
        walk_at "rd"
        refine lit_ne (by decide +kernel) ?_
        walk_at "rd"
        refine ⟨v, u, ns, ps, g, rfl, hI, hH, hT, fun h => rj _ (k1 h), fun h1 h2 w' row qs H1 hl e1 hw' => ?_⟩
        have k2 := k2 h1 h2
        walk_at "rd"
        refine i_ixH0 hw' fun nv hN => ?_
        walk_at "rd"
        refine i_lenN hN ?_
        walk_at "rd"
        rw [hl]
        exact k2 H1 e1
      · walk_at "rd"
        refine lit_ne (by decide +kernel) ?_
        walk_at "rd"
        refine lit_ne (by decide +kernel) ?_
        walk_at "rd"
        refine lit_ne (by decide +kernel) ?_
        walk_at "rd"
        exact ⟨v, u, ns, ps, row, rfl, hI, hH, hR, .inl ⟨z, hz, rn _ k1⟩⟩
      · walk_at "rd"
        refine lit_ne (by decide +kernel) ?_
        walk_at "rd"
        refine lit_ne (by decide +kernel) ?_
        walk_at "rd"
        refine lit_ne (by decide +kernel) ?_
        walk_at "rd"
        refine lit_ne (by decide +kernel) ?_
        walk_at "rd"
        rcases k1 with ⟨hx, k1⟩ | ⟨hx, k1⟩
        · exact ⟨v, x, ns, ps, rfl, hI, hH, .inl ⟨hx, rn _ k1⟩⟩
        · refine ⟨v, x, ns, ps, rfl, hI, hH, .inr ⟨hx, fun w' qs H1 e1 hw' => ?_⟩⟩
          walk_at "rd"
          refine i_ixH0 hw' fun nv hN => ?_
          walk_at "rd"
          refine i_lenN hN ?_
          walk_at "rd"
          rw [len_onL hH.names.1 hx]
          exact k1 H1 e1
    · rw [hG] at hg
      obtain ⟨e1, hg⟩ := hg
      obtain ⟨y0, y1, y2, y3, y4, y5, rfl⟩ : ∃ a b c d e f, σ' = [a, b, c, d, e, f] := len_n6 (P := fun σ => ∃ a b c d e f, σ = [a, b, c, d, e, f]) hl fun a b c d e f => ⟨a, b, c, d, e, f, rfl⟩
      rcases hg with ⟨w2, hE, k⟩ | ⟨z, hE, k⟩
      · obtain ⟨dx, ha⟩ := exb_at hE
        refine ⟨⟨C_NoJoin, some dx, ha, x_NoJoin.xc, mro_up x_NoJoin.mr⟩, ?_⟩
        walk_at "rd"
        refine i_isX hE x_NoJoin.xc (kit_not x_NoJoin.xc x_NoJoin.mr x_NoHalf.xc m1 b1) ?_
        walk_at "rd"
        refine i_isX hE x_NoJoin.xc (kit_not x_NoJoin.xc x_NoJoin.mr x_NoOrder.xc m2 b2) ?_
        walk_at "rd"
        refine i_isX hE x_NoJoin.xc (kit_not x_NoJoin.xc x_NoJoin.mr x_Clash.xc m3 b3) ?_
        walk_at "rd"
        refine i_isXT hE x_NoJoin.xc (xc_kitM x_NoJoin.mr) ?_
        walk_at "rd"
        refine i_newL (line_of (by simp)) fun t H1 ht1 e2 h1 => ?_
        have hE1 := hE.same e2
        have h1 : H1 t = some (.lst ([false, false, false, false].map V.bl)) := h1
        walk_at "rd"
        refine i_ninB4 (SqL.of h1) ?_
        walk_at "rd"
        refine i_isX hE1 x_NoJoin.xc (kit_own x_NoJoin.xc x_NoJoin.mr) ?_
        walk_at "rd"
        refine i_isX hE1 x_NoJoin.xc (kit_not x_NoJoin.xc x_NoJoin.mr x_NoName.xc (Ne.symm n4) b4) ?_
        walk_at "rd"
        refine i_fldX hE1 x_NoJoin.xc x_NoJoin.n_word (show _ = some (V.str w2) from rfl) ?_
        walk_at "rd"
        refine i_newL (line_of (by simp)) fun t2 H2 ht2 e3 h2 => ?_
        walk_at "rd"
        exact k t2 H2 ((e1.trans e2).free ht2) ((e1.trans e2).trans e3) h2
      · obtain ⟨dx, ha⟩ := exb_at hE
        refine ⟨⟨C_NoName, some dx, ha, x_NoName.xc, mro_up x_NoName.mr⟩, ?_⟩
        walk_at "rd"
        refine i_isX hE x_NoName.xc (kit_not x_NoName.xc x_NoName.mr x_NoHalf.xc n1 b1) ?_
        walk_at "rd"
        refine i_isX hE x_NoName.xc (kit_not x_NoName.xc x_NoName.mr x_NoOrder.xc n2 b2) ?_
        walk_at "rd"
        refine i_isX hE x_NoName.xc (kit_not x_NoName.xc x_NoName.mr x_Clash.xc n3 b3) ?_
        walk_at "rd"
        refine i_isXT hE x_NoName.xc (xc_kitM x_NoName.mr) ?_
        walk_at "rd"
        refine i_newL (line_of (by simp)) fun t H1 ht1 e2 h1 => ?_
        have hE1 := hE.same e2
        have h1 : H1 t = some (.lst ([false, false, false, false].map V.bl)) := h1
        walk_at "rd"
        refine i_ninB4 (SqL.of h1) ?_
        walk_at "rd"
        refine i_isX hE1 x_NoName.xc (kit_not x_NoName.xc x_NoName.mr x_NoJoin.xc n4 b5) ?_
        walk_at "rd"
        refine i_ninB4 (SqL.of h1) ?_
        walk_at "rd"
        refine i_isX hE1 x_NoName.xc (kit_own x_NoName.xc x_NoName.mr) ?_
        walk_at "rd"
        refine i_isX hE1 x_NoName.xc (kit_not x_NoName.xc x_NoName.mr x_NoJoin.xc n4 b5) ?_
        walk_at "rd"
        refine i_fldX hE1 x_NoName.xc x_NoName.n_name (show _ = some (V.str z) from rfl) ?_
        walk_at "rd"
        refine i_newL (line_of (by simp)) fun t2 H2 ht2 e3 h2 => ?_
        walk_at "rd"
        exact k t2 H2 ((e1.trans e2).free ht2) ((e1.trans e2).trans e3) h2
noncomputable def DueJ (ns ns' : List Str) (D : PyData) : Prop := (∃ z ∈ ns, z ∈ ns' ∧ D = .list [.str "join", .str "names"]) ∨ ((∀ z ∈ ns, z ∉ ns') ∧ 10 < ns.length + ns'.length ∧ D = .list [.str "join", .str "many"]) ∨ ((∀ z ∈ ns, z ∉ ns') ∧ ns.length + ns'.length ≤ 10 ∧ D = .int ((ns.length + ns'.length : Nat) : Int))
noncomputable def ItD (H : Hp) (p : Addr) (D : PyData) (y : V) : Prop := (∃ n : Nat, D = .int (n : Int) ∧ y = .int (n : Int)) ∨ ∃ a b q, D = .list [.str a, .str b] ∧ y = .ref q ∧ q ≠ p ∧ H q = some (.lst [.str a, .str b])
theorem ItD.is {K : PySem.W.Frag} {H : Hp} {p : Addr} {D : PyData} {y : V} (h : ItD H p D y) : Is K H D y := by
  rcases h with ⟨n, rfl, rfl⟩ | ⟨a, b, q, rfl, rfl, _, h⟩
  · exact is_int
  · exact Is.of_lst (SqL.of h) (.cons is_str (.one is_str))
theorem ItD.same {H H' : Hp} {p : Addr} {D : PyData} {y : V} (h : ItD H p D y) (e : Same H H') : ItD H' p D y := by
  rcases h with ⟨n, h1, h2⟩ | ⟨a, b, q, h1, h2, h3, h⟩
  · exact .inl ⟨n, h1, h2⟩
  · exact .inr ⟨a, b, q, h1, h2, h3, e _ _ h⟩
theorem ItD.but {H H' : Hp} {p : Addr} {D : PyData} {y : V} (h : ItD H p D y) (e : ExtBut p H H') : ItD H' p D y := by
  rcases h with ⟨n, h1, h2⟩ | ⟨a, b, q, h1, h2, h3, h⟩
  · exact .inl ⟨n, h1, h2⟩
  · exact .inr ⟨a, b, q, h1, h2, h3, e _ _ h3 h⟩
theorem told_two {K : PySem.W.Frag} {H : Hp} {w : Str} {v u : V} {Q : VK} {ns ns' : List Str} {ps ps' : List (Str × Str)} {D : PyData} {p : Addr} {o : HO} (hw : w = "above" ∨ w = "beside") (hI : Is K H (hfD ns ps) v) (hH : Half ns ps) (hI' : Is K H (hfD ns' ps') u) (hH' : Half ns' ps') (hp : H p = some o) (hd : DueJ ns ns' D)
    (k : ∀ y H', Same H H' → ItD H' p D y → Q y H') : ToldC K H w v u Q := by
  refine .inl ⟨hw, ns, ps, ns', ps', hI, hH, hI', hH', ?_⟩
  have gl : ∀ a b, D = .list [.str a, .str b] → GetL H a b Q := fun a b e q H' hq e' h => k _ _ e' (.inr ⟨a, b, q, e, rfl, Ne.symm (ne_of_none hp hq), h⟩)
  rcases hd with ⟨z, hz, hz', e⟩ | ⟨hd, h10, e⟩ | ⟨hd, h10, e⟩
  · exact ⟨fun _ _ _ => gl _ _ e, fun hd => absurd hz' (hd z hz), fun hd => absurd hz' (hd z hz)⟩
  · exact ⟨fun z hz hz' => absurd hz' (hd z hz), fun _ _ => gl _ _ e, fun _ h => absurd h (by omega)⟩
  · exact ⟨fun z hz hz' => absurd hz' (hd z hz), fun _ h => absurd h (by omega), fun _ _ H' e' => k _ _ e' (.inl ⟨_, e, rfl⟩)⟩
theorem due_sh {ns ns' : List Str} {D : PyData} (h : DueJ ns ns' D) : SeqAt.shaped (.list [D, D]) = true ∧ PyData.eqv (.list [D, D]) (.list [D, D]) = true := by
  have r : SeqAt.shaped (.list [D, D]) = true → PyData.eqv (.list [D, D]) (.list [D, D]) = true := fun g => PySem.SeqAt.eqv_refl _ (Bool.and_eq_true_iff.mp g).1
  rcases h with ⟨_, _, _, rfl⟩ | ⟨_, _, rfl⟩ | ⟨_, _, rfl⟩
  · have g : SeqAt.shaped (.list [.list [.str "join", .str "names"], .list [.str "join", .str "names"]]) = true := by decide +kernel
    exact ⟨g, r g⟩
  · have g : SeqAt.shaped (.list [.list [.str "join", .str "many"], .list [.str "join", .str "many"]]) = true := by decide +kernel
    exact ⟨g, r g⟩
  · exact ⟨by rfl, r (by rfl)⟩
noncomputable def sp__law_joined_right (K : PySem.W.Frag) : Sp := fun vs H Q _ => ∃ d l, vs = [.ref d] ∧ Feed H d l ∧ ∀ H', ExtBut d H H' → Feed H' d l → Q (.bl true) H'
theorem ok__law_joined_right {f : Addr} {fd : FuncData} (F : Fun K "_law_joined_right" "_law_joined_right" s__law_joined_right f fd) (T : TopF mg) (c__law_draw : Fnd P w K mg base 1 "_law_draw" ["_law_feed_here", "_law_many"] (sp__law_draw K)) (c__law_half : Fnd P w K mg base 4 "_law_half" ["_law_feed_here", "_law_many"] (sp__law_half K)) (c__law_told : Fnd P w K mg base 7 "_law_told" ["_law_word", "_law_one", "_law_thing"] (sp__law_told K)) : FnOk P w K mg base CX0 8 f fd ["_law_feed_here"] (sp__law_joined_right K) := by
  refine F.ok sc__law_joined_right (fun vs H Q E h => ?_) (fun cdv A outer s H vs Q E hr h => ?_)
  · obtain ⟨d, l, rfl, _⟩ := h
    rfl
  · obtain ⟨d, l, rfl, hF, k⟩ := h
    have hu := hu_of hr
    have hq := qa_of hr
    with_reducible refine ⟨_, (pss_cons (ps_set (i := 1) sc__law_joined_right.nd (by with_unfolding_all rfl) (by with_unfolding_all exact Or.inr rfl) (pe_fn c__law_half (hr.mono (by decide)) (by with_unfolding_all rfl) (pa_cons (pv 0) (pa_cons (pe_fn c__law_draw (hr.mono (by decide)) (by with_unfolding_all rfl) (pa_cons (pv 0) (pa_cons pe_int pa_nil))) pa_nil))))
      (pss_cons (ps_set (i := 2) sc__law_joined_right.nd (by with_unfolding_all rfl) (by with_unfolding_all exact Or.inr rfl) (pe_fn c__law_half (hr.mono (by decide)) (by with_unfolding_all rfl) (pa_cons (pv 0) (pa_cons (pe_fn c__law_draw (hr.mono (by decide)) (by with_unfolding_all rfl) (pa_cons (pv 0) (pa_cons pe_int pa_nil))) pa_nil))))
      (pss_cons (ps_set (i := 3) sc__law_joined_right.nd (by with_unfolding_all rfl) (by with_unfolding_all exact Or.inl rfl) (pe_op (op_addK (K := K)) (pe_callB (call_lenK (K := K)) (by with_unfolding_all rfl) T.b_len PyProof.Rows.Boot.«len» (pa_cons (pe_ix (ix_anyK (K := K) hu) (pv 1) pe_int (by with_unfolding_all exact fun _ _ => rfl)) pa_nil)) (pe_callB (call_lenK (K := K)) (by with_unfolding_all rfl) T.b_len PyProof.Rows.Boot.«len» (pa_cons (pe_ix (ix_anyK (K := K) hu) (pv 2) pe_int (by with_unfolding_all exact fun _ _ => rfl)) pa_nil))))
      (pss_cons (ps_set (i := 4) sc__law_joined_right.nd (by with_unfolding_all rfl) (by with_unfolding_all exact Or.inl rfl) (pv 3))
      (pss_cons (ps_if (pt_cmpR (op_neL0 (K := K) hq) (pe_comp ["_law_name"] ["_law_other"] [2] (by with_unfolding_all rfl) (by with_unfolding_all rfl) (by with_unfolding_all rfl) (pi_anyK (K := K) hu (pe_ix (ix_anyK (K := K) hu) (pv 1) pe_int (by with_unfolding_all exact fun _ _ => rfl))) (fun _ _ _ _ => (pg_name (i := 0) (by with_unfolding_all (show (["_law_name", "_law_other"] : List Str).Nodup; decide +kernel)) (by with_unfolding_all rfl) (by with_unfolding_all exact Or.inl rfl))) (gk_name (by decide)) (fun _ _ _ _ => (pif_one (pt_cmpR (op_inK (K := K) hq) (pv 0) (pe_ix (ix_anyK (K := K) hu) (pv 1) pe_int (by with_unfolding_all exact fun _ _ => rfl)) (by with_unfolding_all rfl)))) (fun _ _ _ _ => (pv 0))) (pe_lst pa_nil) (nomark _)) (pss_one (ps_set (i := 4) sc__law_joined_right.nd (by with_unfolding_all rfl) (by with_unfolding_all exact Or.inl rfl) (pe_lst (pa_cons pe_str (pa_cons pe_str pa_nil))))) (pss_one (ps_if (pt_cmpR op_gt (pv 3) pe_int (nomark _)) (pss_one (ps_set (i := 4) sc__law_joined_right.nd (by with_unfolding_all rfl) (by with_unfolding_all exact Or.inl rfl) (pe_lst (pa_cons pe_str (pa_cons pe_str pa_nil))))) pss_nil)))
      (pss_one (ps_ret (pe_cmpR (op_eqK (K := K) hq) (pe_comp ["_law_word"] ["_law_one", "_law_other"] [1, 2] (by with_unfolding_all rfl) (by with_unfolding_all rfl) (by with_unfolding_all rfl) (pi_anyK (K := K) hu (pe_lst (pa_cons pe_str (pa_cons pe_str pa_nil)))) (fun _ _ _ _ => (pg_name (i := 0) (by with_unfolding_all (show (["_law_word", "_law_one", "_law_other"] : List Str).Nodup; decide +kernel)) (by with_unfolding_all rfl) (by with_unfolding_all exact Or.inl rfl))) (gk_name (by decide)) (fun _ _ _ _ => pif_nil) (fun _ _ _ _ => (pe_fn c__law_told (hr.mono (by decide)) (by with_unfolding_all rfl) (pa_cons (pv 0) (pa_cons (pv 1) (pa_cons (pv 2) pa_nil)))))) (pe_lst (pa_cons (pv 4) (pa_cons (pv 4) pa_nil))) (nomark _))))))))), ?_⟩
    walk_at "rd"
    refine ⟨d, l, 11, rfl, hF, by omega, by omega, fun n H1 hn0 hn1 e1 hF1 => ?_⟩
    walk_at "rd"
    refine ⟨d, l, n, rfl, hF1, by omega, by omega, fun v ns ps H2 e2 hF2 hI2 hH hlen hNS => ?_⟩
    walk_at "rd"
    refine ⟨d, l, 11, rfl, hF2, by omega, by omega, fun n' H3 hn0' hn1' e3 hF3 => ?_⟩
    walk_at "rd"
    refine ⟨d, l, n', rfl, hF3, by omega, by omega, fun v' ns' ps' H4 e4 hF4 hI4' hH' hlen' hNS' => ?_⟩
    have fr : ExtBut d H H4 := ((e1.trans e2).trans e3).trans e4
    have hI4 : Is K H4 (hfD ns ps) v := (hI2.hf_fz (hF2.fz e3)).hf_fz (hF3.fz e4)
    clear e1 e2 e3 e4 hI2
    have hfew := hH.few
    have hfew' := hH'.few
    walk_at "rd"
    refine i_ixH0 hI4 fun nv hN => ?_
    walk_at "rd"
    refine i_lenN hN ?_
    walk_at "rd"
    refine i_ixH0 hI4' fun nv' hN' => ?_
    walk_at "rd"
    refine i_lenN hN' ?_
    walk_at "rq"
    with_reducible refine i_cut (fun σ' H5 => ∃ dv D, σ' = [some (.ref d), some v, some v', some (.int ((ns.length : Int) + (ns'.length : Int))), some dv] ∧ Same H4 H5 ∧ DueJ ns ns' D ∧ ((∃ n : Nat, D = .int (n : Int) ∧ dv = .int (n : Int)) ∨ ∃ a b q, D = .list [.str a, .str b] ∧ dv = .ref q ∧ H5 q = some (.lst [.str a, .str b]))) (fun N hN => ?_) (fun σ1 H5 hM => ?_)
    · walk_at "rq"
      refine i_ixH0 hI4 fun nv2 hN2 => ?_
      refine comp_nm hN2 (fun y => decide (y ∈ ns')) PyData.str (fun _ => rfl) (by omega) (fun i y H5 R R' hy e5 hR hR' => ?_) (fun p ys H5 hp5 e5 h5 hL5 => ?_)
      · walk_at "rq"
        refine i_ixH0 (hI4'.hf_fz e5.fz) fun nv3 hN3 => ?_
        walk_at "rq"
        refine i_inN hN3 ?_
        walk_at "rq"
        refine iteD (fun hc => ?_) (fun hc => ?_)
        · walk_at "rq"
          exact hR (decide_eq_true hc) _ _ (.refl _) is_str
        · walk_at "rq"
          exact hR' (decide_eq_false hc) _ (.refl _)
      · obtain rfl := IsL.str_eq hL5
        walk_at "rq"
        refine i_newL (line_of (by simp)) fun q6 H6 hq6 e6 h6 => ?_
        refine i_neL0 (SqL.of (e6 _ _ h5)) (SqL.of h6) ?_
        cases hc : (ns.filter fun y => decide (y ∈ ns')) with
        | cons z r =>
          have hz : z ∈ ns.filter fun y => decide (y ∈ ns') := by rw [hc]; simp
          obtain ⟨hz1, hz2⟩ := List.mem_filter.mp hz
          rw [List.map_cons, List.isEmpty_cons]
          walk_at "rq"
          refine i_newL (line_of (by simp)) fun q7 H7 hq7 e7 h7 => ?_
          walk_at "rq"
          exact hN _ _ ⟨.ref q7, _, rfl, (e5.trans e6).trans e7, .inl ⟨z, hz1, of_decide_eq_true hz2, rfl⟩, .inr ⟨_, _, q7, rfl, rfl, h7⟩⟩
        | nil =>
          have hd : ∀ z ∈ ns, z ∉ ns' := fun z hz hz' => by
            have : z ∈ ns.filter fun y => decide (y ∈ ns') := List.mem_filter.mpr ⟨hz, decide_eq_true hz'⟩
            rw [hc] at this
            cases this
          rw [List.map_nil, List.isEmpty_nil]
          walk_at "rq"
          refine iteD (fun hc => ?_) (fun hc => ?_)
          · walk_at "rq"
            refine i_newL (line_of (by simp)) fun q7 H7 hq7 e7 h7 => ?_
            walk_at "rq"
            exact hN _ _ ⟨.ref q7, _, rfl, (e5.trans e6).trans e7, .inr (.inl ⟨hd, by omega, rfl⟩), .inr ⟨_, _, q7, rfl, rfl, h7⟩⟩
          · walk_at "rq"
            exact hN _ _ ⟨_, .int ((ns.length + ns'.length : Nat) : Int), rfl, e5.trans e6, .inr (.inr ⟨hd, by omega, rfl⟩), .inl ⟨_, rfl, by rw [Int.natCast_add]⟩⟩
    · obtain ⟨dv, D, rfl, e5, hD, hdv⟩ := hM
      obtain ⟨hsh, hev⟩ := due_sh hD
      walk_at "rd"
      refine i_newL (line_of (by simp)) fun q6 H6 hq6 e6 h6 => ?_
      have h6 : H6 q6 = some (.lst ((["above", "beside"] : List Str).map V.str)) := h6
      walk_at "rd"
      refine i_itL (SqL.of h6) ?_
      refine comp_by (walk_list (xs := (["above", "beside"] : List Str).map V.str)) (fun p i acc H7 => Same H6 H7 ∧ acc.length = i ∧ ∀ y ∈ acc, ItD H7 p D y) (fun p H' hp e h => ⟨e, rfl, fun _ h => by cases h⟩) (fun p i acc H7 hP => SqL.of (hP.1 _ _ h6)) (fun p i x acc H7 hp hx hi hl ha hP => ?_) fun p acc H7 hp ha hl hP => ?_
      · obtain ⟨e7, hal, hit⟩ := hP
        obtain ⟨w, hw, rfl⟩ : ∃ w : Str, (w = "above" ∨ w = "beside") ∧ x = .str w := by
          match i, hx with
          | 0, hx => cases hx; exact ⟨_, .inl rfl, rfl⟩
          | 1, hx => cases hx; exact ⟨_, .inr rfl, rfl⟩
          | i + 2, hx => simp at hx
        have e47 := (e5.trans e6).trans e7
        walk_at "rd"
        refine ⟨w, v, v', rfl, told_two hw (hI4.hf_fz e47.fz) hH (hI4'.hf_fz e47.fz) hH' ha hD fun y H8 e8 hy => ?_⟩
        have h8p := e8 _ _ ha
        refine push_i (by simp) hi hl h8p fun H9 e9 h9 => ⟨Same.off (q := p) (H1 := H8) (e7.trans e8) hp e9, by simp [hal], fun y' hy' => ?_⟩
        rcases List.mem_append.mp hy' with h | h
        · exact ((hit y' h).same e8).but e9
        · have : y' = y := by simpa using h
          exact this ▸ hy.but e9
      · obtain ⟨e7, hal, hit⟩ := hP
        have hal : acc.length = 2 := hal
        match acc, hal with
        | [y1, y2], _ =>
          have i1 := hit y1 (by simp)
          have i2 := hit y2 (by simp)
          walk_at "rd"
          refine i_newL (line_of (by simp)) fun q8 H8 hq8 e8 h8 => ?_
          have e58 := (e6.trans e7).trans e8
          have hdv8 : Is K H8 D dv := by
            rcases hdv with ⟨n, rfl, rfl⟩ | ⟨a, b, q, rfl, rfl, h⟩
            · exact is_int
            · exact Is.of_lst (SqL.of (e58 _ _ h)) (.cons is_str (.one is_str))
          refine i_eqD (Is.of_lst (ds := [D, D]) (SqL.of (e8 _ _ ha)) (.cons (i1.same e8).is (.one (i2.same e8).is))) (Is.of_lst (ds := [D, D]) (SqL.of h8) (.cons hdv8 (.one hdv8))) hsh hsh ?_
          rw [hev]
          exact k H8 (fr.same (e5.trans e58)) (hF4.same (e5.trans e58))
theorem i_lenSq {K : PySem.W.Frag} {H : Hp} {Q : VK} {a : Addr} {xs : List V} (h : SqT K H a xs) (k : Q (.int xs.length) H) : rLenA K [.ref a] H Q := .inl ⟨.ref a, _, rfl, .inr ⟨xs, h, rfl⟩, k⟩
theorem i_ninS {K : PySem.W.Frag} {H : Hp} {Q : VK} {a b : Str} (k : Q (.bl (!(!(Builtin.Str.occurrences b a 0 b.length 1).isEmpty))) H) : rInA K true (.str a) (.str b) H Q := .inr (.inl ⟨a, b, rfl, rfl, k⟩)
theorem ans_isT {x : V} (h : isT x = false) : ans x = false := by cases x <;> first | rfl | cases h
theorem strs_of {xs : List V} (h : ∀ x ∈ xs, isT x = true) : ∃ row : List Str, xs = row.map V.str := by
  induction xs with
  | nil => exact ⟨[], rfl⟩
  | cons x r ih =>
    obtain ⟨row, rfl⟩ := ih fun y hy => h y (List.mem_cons_of_mem _ hy)
    have := h x (by simp)
    cases x with
    | str z => exact ⟨z :: row, rfl⟩
    | _ => cases this
noncomputable def sp__law_is_right (K : PySem.W.Frag) : Sp := fun vs H Q _ => ∃ (v : V) (g : Tg) (n : Nat), vs = [v, .int (n : Int)] ∧ ThT K H v g ∧ ∀ H', Same H H' → Q (.bl (unl g && decide (lenT g = n))) H'
theorem ok__law_is_right {f : Addr} {fd : FuncData} (F : Fun K "_law_is_right" "_law_is_right" s__law_is_right f fd) (T : TopF mg) : FnOk P w K mg base CX0 1 f fd ["_law_thing", "_law_many"] (sp__law_is_right K) := by
  refine F.ok sc__law_is_right (fun vs H Q E h => ?_) (fun cdv A outer s H vs Q E hr h => ?_)
  · obtain ⟨v, g, n, rfl, _⟩ := h
    rfl
  · obtain ⟨v, g, n, rfl, hT, k⟩ := h
    have hu := hu_of hr
    have hq := qa_of hr
    with_reducible refine ⟨_, (pss_cons (ps_set (i := 2) sc__law_is_right.nd (by with_unfolding_all rfl) (by with_unfolding_all exact Or.inr rfl) pe_str)
      (pss_cons (ps_if (PW.pt (pw_or (pt_not (pt_val (pe_callB (call_isinstK (K := K)) (by with_unfolding_all rfl) T.b_isinstance PyProof.Rows.Boot.«isinstance» (pa_cons (pv 0) (pa_cons (pe_bltn (v := .ty "tuple") (by with_unfolding_all rfl) T.b_tuple PyProof.Rows.Boot.«tuple» (by with_unfolding_all rfl)) pa_nil))))) (pw_or (pt_cmpR (op_neK (K := K) hq) (pe_callB (call_lenK (K := K)) (by with_unfolding_all rfl) T.b_len PyProof.Rows.Boot.«len» (pa_cons (pv 0) pa_nil)) (pv 1) (nomark _)) (pw_or1 (pt_cmpR (op_neL0 (K := K) hq) (pe_comp ["_law_one"] [] [] (by with_unfolding_all rfl) (by with_unfolding_all rfl) (by with_unfolding_all rfl) (pi_anyK (K := K) hu (pv 0)) (fun _ _ _ _ => (pg_name (i := 0) (by with_unfolding_all (show (["_law_one"] : List Str).Nodup; decide +kernel)) (by with_unfolding_all rfl) (by with_unfolding_all exact Or.inl rfl))) (gk_name (by decide)) (fun _ _ _ _ => (pif_one (pt_not (pt_val (pe_callB (call_isinstK (K := K)) (by with_unfolding_all rfl) T.b_isinstance PyProof.Rows.Boot.«isinstance» (pa_cons (pv 0) (pa_cons (pe_bltn (v := .ty "str") (by with_unfolding_all rfl) T.b_str PyProof.Rows.Boot.«str» (by with_unfolding_all rfl)) pa_nil))))))) (fun _ _ _ _ => (pv 0))) (pe_lst pa_nil) (nomark _)))))) (pss_one (ps_ret pe_bl)) pss_nil)
      (pss_cons (ps_if (pt_cmpR (op_neL0 (K := K) hq) (pe_comp ["_law_one"] ["_law_letters"] [2] (by with_unfolding_all rfl) (by with_unfolding_all rfl) (by with_unfolding_all rfl) (pi_anyK (K := K) hu (pv 0)) (fun _ _ _ _ => (pg_name (i := 0) (by with_unfolding_all (show (["_law_one", "_law_letters"] : List Str).Nodup; decide +kernel)) (by with_unfolding_all rfl) (by with_unfolding_all exact Or.inl rfl))) (gk_name (by decide)) (fun _ _ _ _ => (pif_one (PW.pt (pw_or (pt_not (pt_chain op_le op_le pe_int (pe_callB (call_lenK (K := K)) (by with_unfolding_all rfl) T.b_len PyProof.Rows.Boot.«len» (pa_cons (pv 0) pa_nil)) pe_int)) (pw_or1 (pt_cmpR (op_neL0 (K := K) hq) (pe_comp ["_law_sign"] ["_law_letters"] [1] (by with_unfolding_all rfl) (by with_unfolding_all rfl) (by with_unfolding_all rfl) (pi_anyK (K := K) hu (pv 0)) (fun _ _ _ _ => (pg_name (i := 0) (by with_unfolding_all (show (["_law_sign", "_law_letters"] : List Str).Nodup; decide +kernel)) (by with_unfolding_all rfl) (by with_unfolding_all exact Or.inl rfl))) (gk_name (by decide)) (fun _ _ _ _ => (pif_one (pt_cmpR (op_notInK (K := K) hq) (pv 0) (pv 1) (by with_unfolding_all rfl)))) (fun _ _ _ _ => (pv 0))) (pe_lst pa_nil) (nomark _))))))) (fun _ _ _ _ => (pv 0))) (pe_lst pa_nil) (nomark _)) (pss_one (ps_ret pe_bl)) pss_nil)
      (pss_one (ps_ret (pe_cmpR (op_eqK (K := K) hq) (pe_lenset (K := K) hr.hd (by with_unfolding_all rfl) T.b_len (by with_unfolding_all rfl) T.b_set (pa_cons (pv 0) pa_nil)) (pv 1) (nomark _))))))), ?_⟩
    walk_at "rd"
    cases g with
    | odd =>
      obtain ⟨t, h1, h2⟩ := hT
      refine i_isi h1 h2 ?_
      walk_at "rd"
      exact k H (.refl _)
    | row xs =>
      obtain ⟨a, rfl, hS, h30, hG⟩ := hT
      have k : ∀ H', Same H H' → Q (.bl ((xs.all ans && decide xs.Nodup) && decide (xs.length = n))) H' := k
      refine i_isiT hS (b := true) (by first | rfl | kernel_rfl) ?_
      walk_at "rd"
      refine i_lenSq hS ?_
      walk_at "rd"
      refine iteND (fun hc => ?_) (fun hc => ?_)
      · walk_at "rd"
        have := k H (.refl _)
        rw [decide_eq_false (show ¬ xs.length = n from fun e => hc (by rw [e])), Bool.and_false] at this
        exact this
      have hn : xs.length = n := by have := V.int.inj hc; omega
      walk_at "rd"
      refine i_itT hS ?_
      refine comp_pure (walk_tup (xs := xs)) (fun x => !isT x) id (by omega) (fun H' e => e.seqT hS) (fun i x H1 R R' hx e1 hR hR' => ?_) (fun p1 H1 hp1 e1 h1 => ?_)
      · walk_at "rd"
        refine isStr_of (good_mono (hG x (List.mem_of_getElem? hx)) e1) ?_
        walk_at "rd"
        cases hb : isT x with
        | true =>
          walk_at "rd"
          exact hR' (by rw [hb]; rfl)
        | false =>
          walk_at "rd"
          exact hR (by rw [hb]; rfl)
      · rw [List.map_id] at h1
        walk_at "rd"
        refine i_newL (line_of (by simp)) fun q2 H2 hq2 e2 h2 => ?_
        refine i_neL0 (SqL.of (e2 _ _ h1)) (SqL.of h2) ?_
        cases hc1 : xs.filter fun x => !isT x with
        | cons z r =>
          have hz : z ∈ xs.filter fun x => !isT x := by rw [hc1]; simp
          obtain ⟨hz1, hz2⟩ := List.mem_filter.mp hz
          have hall : xs.all ans = false := List.all_eq_false.mpr ⟨z, hz1, by rw [ans_isT (by simpa using hz2)]; decide⟩
          rw [List.isEmpty_cons]
          walk_at "rd"
          have := k H2 (e1.trans e2)
          rw [hall, Bool.false_and, Bool.false_and] at this
          exact this
        | nil =>
          obtain ⟨row, rfl⟩ : ∃ row : List Str, xs = row.map V.str := by
            have h : ∀ x ∈ xs, isT x = true := fun x hx => by
              cases hb : isT x with
              | true => rfl
              | false =>
                have : x ∈ xs.filter fun x => !isT x := List.mem_filter.mpr ⟨hx, by rw [hb]; rfl⟩
                rw [hc1] at this
                cases this
            exact strs_of h
          have hl : row.length ≤ 30 := by simpa using h30
          have hzl : ∀ z ∈ row, z.length ≤ 1000000 := fun z hz => by
            rcases hG _ (List.mem_map.mpr ⟨z, hz, rfl⟩) with ⟨y, e, hy⟩ | g
            · cases e; exact hy
            · exact absurd (noStr_no g).2 (by simp [isT])
          have hI : Is K H (nmD row) (.ref a) := is_nm hS
          have e02 := e1.trans e2
          rw [List.isEmpty_nil]
          walk_at "rd"
          refine comp_nm (hI.nm_fz e02.fz) (fun z => !isName z) PyData.str (fun _ => rfl) (by omega) (fun i z H3 R R' hz e3 hR hR' => ?_) (fun p3 ys3 H3 hp3 e3 h3 hL3 => ?_)
          · have hz6 := hzl z (List.mem_of_getElem? hz)
            walk_at "rd"
            try refine i_lenS (line_of hz6) ?_
            walk_at "rd"
            refine iteD (fun hc1 => ?_) (fun hc1 => ?_)
            · walk_at "rd"
              try refine i_lenS (line_of hz6) ?_
              walk_at "rd"
              refine iteND (fun hc2 => ?_) (fun hc2 => ?_)
              · have en : isName z = false := by
                  unfold isName
                  rw [decide_eq_false (by omega : ¬ z.length ≤ 8), Bool.and_false]
                  rfl
                walk_at "rd"
                exact hR (by rw [en]; rfl) _ _ (.refl _) is_str
              · walk_at "rd"
                refine comp_pure (walk_str z) (fun v => match v with | .str y => !(!(Builtin.Str.occurrences az y 0 az.length 1).isEmpty) | _ => false) id (by rw [List.length_map, Array.length_toList]; exact hz6) (fun _ _ => trivial) (fun i v H4 R2 R2' hv e4 hR2 hR2' => ?_) fun p4 H4 hp4 e4 h4 => ?_
                · obtain ⟨c, rfl, _⟩ := sign_of hv
                  walk_at "rd"
                  refine i_ninS ?_
                  walk_at "rd"
                  refine ite2 (fun hb => ?_) (fun hb => ?_)
                  · walk_at "rd"
                    exact hR2 hb
                  · walk_at "rd"
                    exact hR2' (Bool.eq_false_iff.mpr hb)
                · walk_at "rd"
                  refine i_newL (line_of (by simp)) fun q5 H5 hq5 e5 h5 => ?_
                  refine i_neL0 (SqL.of (e5 _ _ h4)) (SqL.of h5) ?_
                  have en : (!(((z.cps.toList.map fun c => V.str ⟨#[c]⟩).filter fun v => match v with | .str y => !(!(Builtin.Str.occurrences az y 0 az.length 1).isEmpty) | _ => false).map id).isEmpty) = !isName z := by
                    have e2 : isName z = z.cps.toList.all small := by
                      unfold isName
                      rw [decide_eq_true (by omega : 1 ≤ z.length), decide_eq_true (by omega : z.length ≤ 8)]
                      rfl
                    rw [e2, List.map_id, List.filter_map, List.isEmpty_map]
                    refine congrArg Bool.not ?_
                    rw [Bool.eq_iff_iff, List.isEmpty_iff, List.filter_eq_nil_iff, List.all_eq_true]
                    constructor
                    · intro h c hc
                      have h' : ¬ (!(!(Builtin.Str.occurrences az ⟨#[c]⟩ 0 az.length 1).isEmpty)) = true := h c hc
                      show (!(Builtin.Str.occurrences az ⟨#[c]⟩ 0 az.length 1).isEmpty) = true
                      cases hb : (Builtin.Str.occurrences az ⟨#[c]⟩ 0 az.length 1).isEmpty with
                      | false => rfl
                      | true => rw [hb] at h'; exact absurd rfl h'
                    · intro h c hc
                      have : small c = true := h c hc
                      unfold small at this
                      revert this
                      cases hb : (Builtin.Str.occurrences az ⟨#[c]⟩ 0 az.length 1).isEmpty <;> simp [hb]
                  rw [en]
                  walk_at "rd"
                  refine ite2 (fun hb => ?_) (fun hb => ?_)
                  · walk_at "rd"
                    exact hR hb _ _ (e4.trans e5) is_str
                  · walk_at "rd"
                    exact hR' (Bool.eq_false_iff.mpr hb) _ (e4.trans e5)
            · have en : isName z = false := by
                unfold isName
                rw [decide_eq_false (by omega : ¬ 1 ≤ z.length)]
                rfl
              walk_at "rd"
              exact hR (by rw [en]; rfl) _ _ (.refl _) is_str
          · obtain rfl := IsL.str_eq hL3
            have e03 := e02.trans e3
            walk_at "rd"
            refine i_newL (line_of (by simp)) fun q4 H4 hq4 e4 h4 => ?_
            have e04 := e03.trans e4
            refine i_neL0 (SqL.of (e4 _ _ h3)) (SqL.of h4) ?_
            cases hc2 : row.filter fun z => !isName z with
            | cons z r =>
              have hz : z ∈ row.filter fun z => !isName z := by rw [hc2]; simp
              obtain ⟨hz1, hz2⟩ := List.mem_filter.mp hz
              have hall : (row.map V.str).all ans = false := List.all_eq_false.mpr ⟨.str z, List.mem_map.mpr ⟨z, hz1, rfl⟩, by
                have : ans (.str z) = false := by show isName z = false; simpa using hz2
                rw [this]; decide⟩
              rw [List.map_cons, List.isEmpty_cons]
              walk_at "rd"
              have := k H4 e04
              rw [hall, Bool.false_and, Bool.false_and] at this
              exact this
            | nil =>
              have hall : (row.map V.str).all ans = true := by
                rw [List.all_eq_true]
                intro x hx
                obtain ⟨z, hz, rfl⟩ := List.mem_map.mp hx
                cases hb : isName z with
                | true => exact hb
                | false =>
                  have : z ∈ row.filter fun z => !isName z := List.mem_filter.mpr ⟨hz, by rw [hb]; rfl⟩
                  rw [hc2] at this
                  cases this
              rw [List.map_nil, List.isEmpty_nil]
              walk_at "rd"
              refine i_lenset (e04.seqT hS) (by omega) ?_
              walk_at "rd"
              have := k H4 e04
              have hn' : row.length = n := by simpa using hn
              rw [hall, Bool.true_and, decide_eq_true (show (row.map V.str).length = n from hn), Bool.and_true] at this
              have e : decide (V.int ((addAll [] row).length : Int) = V.int (n : Int)) = decide (row.map V.str).Nodup := by
                rw [← addAll_iff, ← hn']
                exact decide_eq_decide.mpr ⟨fun h => V.int.inj h, fun h => by rw [h]⟩
              rw [e]
              exact this
theorem cut_mem {xs : List V} {lo hi : Option Int} {x : V} (h : x ∈ cutV xs lo hi) : x ∈ xs := List.mem_of_mem_drop (List.mem_of_mem_take h)
noncomputable def RowG (K : PySem.W.Frag) (H : Hp) (a : Addr) (n : Nat) : Prop := ∃ xs, SqT K H a xs ∧ xs.length ≤ n ∧ ∀ x ∈ xs, Good K H x
theorem RowG.same {K : PySem.W.Frag} {H H' : Hp} {a : Addr} {n : Nat} (h : RowG K H a n) (e : Same H H') : RowG K H' a n := let ⟨xs, h1, h2, h3⟩ := h; ⟨xs, e.seqT h1, h2, fun x hx => good_mono (h3 x hx) e⟩
theorem RowG.th {K : PySem.W.Frag} {H : Hp} {a : Addr} {n : Nat} (h : RowG K H a n) (hn : n ≤ 30) : ∃ g, ThT K H (.ref a) g := let ⟨xs, h1, h2, h3⟩ := h; ⟨.row xs, a, rfl, h1, by omega, h3⟩
theorem i_slG {K : PySem.W.Frag} {H : Hp} {Q : VK} {a : Addr} {n : Nat} {lo hi : Option Int} (h : RowG K H a n) (k : ∀ p H', Same H H' → RowG K H' p n → Q (.ref p) H') : rSlA K (.ref a) lo hi H Q := by
  obtain ⟨xs, h1, h2, h3⟩ := h
  refine i_slT h1 fun p H' e h => k p H' e ⟨_, h, Nat.le_trans (cutV_length xs lo hi) h2, fun x hx => good_mono (h3 x (cut_mem hx)) e⟩
theorem i_addG {K : PySem.W.Frag} {H : Hp} {Q : VK} {a b : Addr} {n m : Nat} (h : RowG K H a n) (h' : RowG K H b m) (hz : n + m ≤ 100) (k : ∀ p H', Same H H' → RowG K H' p (n + m) → Q (.ref p) H') : rAddA K (.ref a) (.ref b) H Q := by
  obtain ⟨xs, h1, h2, h3⟩ := h
  obtain ⟨ys, g1, g2, g3⟩ := h'
  refine i_addT h1 g1 (line_of (by omega)) fun p H' e h => k p H' e ⟨_, h, by rw [List.length_append]; omega, fun x hx => ?_⟩
  rcases List.mem_append.mp hx with hx | hx
  · exact good_mono (h3 x hx) e
  · exact good_mono (g3 x hx) e
theorem rowG_one {K : PySem.W.Frag} {H : Hp} {t : Addr} {x : V} (h : H t = some (.tup [x])) (g : Good K H x) : RowG K H t 1 := ⟨_, SqT.of h, by simp, fun y hy => by rw [List.mem_singleton.mp hy]; exact g⟩
theorem rowG_strs {K : PySem.W.Frag} {H : Hp} {t : Addr} {ns : List Str} {n : Nat} (h : SqT K H t (ns.map V.str)) (hn : ns.length ≤ n) (hz : ∀ z ∈ ns, isNm z = true) : RowG K H t n := ⟨_, h, by rw [List.length_map]; exact hn, fun y hy => by
  obtain ⟨z, hz', rfl⟩ := List.mem_map.mp hy
  exact .inl ⟨z, rfl, by have := nm_len (hz z hz'); omega⟩⟩
noncomputable def OddK (K : PySem.W.Frag) (H : Hp) (x : V) : Prop := Good K H x ∧ ∃ g, ThT K H x g
theorem OddK.same {K : PySem.W.Frag} {H H' : Hp} {x : V} (h : OddK K H x) (e : Same H H') : OddK K H' x := ⟨good_mono h.1 e, let ⟨g, hg⟩ := h.2; ⟨g, tht_mono hg e⟩⟩
theorem odd_str {K : PySem.W.Frag} {H : Hp} {z : Str} (h : z.length ≤ 1000000) : OddK K H (.str z) := ⟨.inl ⟨z, rfl, h⟩, .odd, _, .str z, by rfl⟩
noncomputable def sp__law_calls (K : PySem.W.Frag) : Sp := fun vs H Q _ => ∃ d l v ns ps, vs = [.ref d, v] ∧ Feed H d l ∧ Is K H (hfD ns ps) v ∧ Half ns ps ∧ ∀ q ys H', ExtBut d H H' → Feed H' d l → H' q = some (.lst ys) → (∀ y ∈ ys, ∃ g, ThT K H' y g) → Q (.ref q) H'
theorem ok__law_calls {f : Addr} {fd : FuncData} (F : Fun K "_law_calls" "_law_calls" s__law_calls f fd) (T : TopF mg) (c__law_draw : Fnd P w K mg base 1 "_law_draw" ["_law_feed_here", "_law_many"] (sp__law_draw K)) (c__law_names : Fnd P w K mg base 3 "_law_names" ["_law_feed_here"] (sp__law_names K)) : FnOk P w K mg base CX0 4 f fd ["_law_feed_here", "_law_half_here"] (sp__law_calls K) := by
  refine F.ok sc__law_calls (fun vs H Q E h => ?_) (fun cdv A outer s H vs Q E hr h => ?_)
  · obtain ⟨d, l, v, ns, ps, rfl, _⟩ := h
    rfl
  · obtain ⟨d, l, v, ns, ps, rfl, hF, hI, hH, k⟩ := h
    have hu := hu_of hr
    have hq := qa_of hr
    have hfew := hH.few
    with_reducible refine ⟨_, (pss_cons (ps_set (i := 2) sc__law_calls.nd (by with_unfolding_all rfl) (by with_unfolding_all exact Or.inl rfl) (pe_fn c__law_names (hr.mono (by decide)) (by with_unfolding_all rfl) (pa_cons (pv 0) pa_nil)))
      (pss_cons (ps_set (i := 3) sc__law_calls.nd (by with_unfolding_all rfl) (by with_unfolding_all exact Or.inl rfl) (pe_callB (call_lenK (K := K)) (by with_unfolding_all rfl) T.b_len PyProof.Rows.Boot.«len» (pa_cons (pe_ix (ix_anyK (K := K) hu) (pv 1) pe_int (by with_unfolding_all exact fun _ _ => rfl)) pa_nil)))
      (pss_cons (ps_set (i := 4) sc__law_calls.nd (by with_unfolding_all rfl) (by with_unfolding_all exact Or.inl rfl) (pe_fn c__law_draw (hr.mono (by decide)) (by with_unfolding_all rfl) (pa_cons (pv 0) (pa_cons (pe_op (op_addK (K := K)) (pv 3) pe_int) pa_nil))))
      (pss_cons (ps_set (i := 5) sc__law_calls.nd (by with_unfolding_all rfl) (by with_unfolding_all exact Or.inl rfl) (pe_lst (pa_cons pe_non (pa_cons pe_int (pa_cons pe_str (pa_cons pe_str (pa_cons pe_str (pa_cons pe_str (pa_cons (pe_tup (pa_cons pe_str pa_nil)) (pa_cons pe_str (pa_cons (pe_ix (ix_anyK (K := K) hu) (pv 2) pe_int (by with_unfolding_all exact fun _ _ => rfl)) (pa_cons (pe_ix (ix_anyK (K := K) hu) (pv 2) pe_int (by with_unfolding_all exact fun _ _ => rfl)) (pa_cons (pe_lst (pa_cons pe_str pa_nil)) (pa_cons pe_dnewK pa_nil))))))))))))))
      (pss_cons (ps_set (i := 6) sc__law_calls.nd (by with_unfolding_all rfl) (by with_unfolding_all exact Or.inl rfl) (pe_ix (ix_anyK (K := K) hu) (pv 5) (pe_fn c__law_draw (hr.mono (by decide)) (by with_unfolding_all rfl) (pa_cons (pv 0) (pa_cons pe_int pa_nil))) (by with_unfolding_all exact fun _ _ => rfl)))
      (pss_cons (ps_set (i := 7) sc__law_calls.nd (by with_unfolding_all rfl) (by with_unfolding_all exact Or.inl rfl) (pe_callTy (call_tupleK (K := K)) (by with_unfolding_all rfl) T.b_tuple PyProof.Rows.Boot.«tuple» (pa_cons (pe_slice (sl_K (K := K)) (pv 2) po_none (po_some (pv 3))) pa_nil)))
      (pss_cons (ps_set (i := 5) sc__law_calls.nd (by with_unfolding_all rfl) (by with_unfolding_all exact Or.inl rfl) (pe_lst (pa_cons (pv 7) (pa_cons (pe_op (op_addK (K := K)) (pe_slice (sl_K (K := K)) (pv 7) po_none (po_some (pv 4))) (pe_slice (sl_K (K := K)) (pv 7) (po_some (pe_op (op_addK (K := K)) (pv 4) pe_int)) po_none)) (pa_cons (pe_callTy (call_tupleK (K := K)) (by with_unfolding_all rfl) T.b_tuple PyProof.Rows.Boot.«tuple» (pa_cons (pe_slice (sl_K (K := K)) (pv 2) po_none (po_some (pe_op (op_addK (K := K)) (pv 3) pe_int))) pa_nil)) (pa_cons (pe_op (op_addK (K := K)) (pe_op (op_addK (K := K)) (pe_slice (sl_K (K := K)) (pv 7) po_none (po_some (pv 4))) (pe_tup (pa_cons (pv 6) pa_nil))) (pe_slice (sl_K (K := K)) (pv 7) (po_some (pe_op (op_addK (K := K)) (pv 4) pe_int)) po_none)) (pa_cons (pe_callTy (call_listK (K := K)) (by with_unfolding_all rfl) T.b_list PyProof.Rows.Boot.«list» (pa_cons (pv 7) pa_nil)) pa_nil)))))))
      (pss_one (ps_ret (pe_op (op_addK (K := K)) (pv 5) (pe_lst (pa_cons (pe_op (op_addK (K := K)) (pe_op (op_addK (K := K)) (pe_slice (sl_K (K := K)) (pv 7) po_none (po_some (pv 4))) (pe_slice (sl_K (K := K)) (pv 7) po_none (po_some pe_int))) (pe_slice (sl_K (K := K)) (pv 7) (po_some (pe_op (op_addK (K := K)) (pv 4) pe_int)) po_none)) (pa_cons (pe_op (op_addK (K := K)) (pe_op (op_addK (K := K)) (pe_slice (sl_K (K := K)) (pv 7) po_none (po_some (pv 4))) (pe_tup (pa_cons (pv 6) pa_nil))) (pe_slice (sl_K (K := K)) (pv 7) (po_some (pv 4)) po_none)) (pa_cons (pv 6) (pa_cons (pe_ix (ix_anyK (K := K) hu) (pv 1) pe_int (by with_unfolding_all exact fun _ _ => rfl)) (pa_cons (pv 1) pa_nil)))))))))))))))), ?_⟩
    walk_at "rd"
    refine ⟨d, l, rfl, hF, fun p nm H1 hp1 e1 hF1 h1 hNS hl10 => ?_⟩
    have hnm := hNS.nm.2
    walk_at "rd"
    refine i_ixH0 (hI.hf_fz (hF.fz e1)) fun nv hN => ?_
    walk_at "rd"
    refine i_lenN hN ?_
    walk_at "rd"
    refine ⟨d, l, _, rfl, hF1, by omega, by omega, fun at' H2 ha0 ha1 e2 hF2 => ?_⟩
    have h2 := e2 _ _ (hF1.lst h1) h1
    have hI2 := (hI.hf_fz (hF.fz e1)).hf_fz (hF1.fz e2)
    have fr2 : ExtBut d H H2 := e1.trans e2
    obtain ⟨n0, hn0⟩ : ∃ n0, nm[0]? = some n0 := ⟨_, List.getElem?_eq_getElem (by omega)⟩
    obtain ⟨n9, hn9⟩ : ∃ n9, nm[9]? = some n9 := ⟨_, List.getElem?_eq_getElem (by omega)⟩
    walk_at "rd"
    refine i_newT (line_of (by simp)) fun t1 H3 ht1 e3 h3 => ?_
    walk_at "rd"
    refine i_ixL (e3 _ _ h2) (atI_nat (j := 0) (v := .str n0) (by rw [List.getElem?_map, hn0]; rfl)) ?_
    walk_at "rd"
    refine i_ixL (e3 _ _ h2) (atI_nat (j := 9) (v := .str n9) (by rw [List.getElem?_map, hn9]; rfl)) ?_
    walk_at "rd"
    refine i_newL (line_of (by simp)) fun l1 H4 hl1 e4 h4 => ?_
    walk_at "rd"
    refine i_newD fun d1 H5 hd1 e5 h5 => ?_
    walk_at "rd"
    refine i_newL (line_of (by simp)) fun s1 H6 hs1 e6 h6 => ?_
    have e26 := ((e3.trans e4).trans e5).trans e6
    have hF6 := hF2.same e26
    have dne : d1 ≠ d := Ne.symm ((hF2.same (e3.trans e4)).nd hd1)
    walk_at "rd"
    refine ⟨d, l, _, rfl, hF6, by omega, by omega, fun r H7 hr0 hr1 e7 hF7 => ?_⟩
    have h7 := e7 _ _ (hF6.lst h6) h6
    have h7t := e7 _ _ (hF6.tup (e6 _ _ (e5 _ _ (e4 _ _ h3)))) (e6 _ _ (e5 _ _ (e4 _ _ h3)))
    have h7l := e7 _ _ (hF6.lst (e6 _ _ (e5 _ _ h4))) (e6 _ _ (e5 _ _ h4))
    have h7d := e7 _ _ dne (e6 _ _ h5)
    have h7p := e7 _ _ (hF6.lst (e26 _ _ h2)) (e26 _ _ h2)
    have hI7 := (hI2.hf_fz e26.fz).hf_fz (hF6.fz e7)
    have fr7 : ExtBut d H H7 := (fr2.same e26).trans e7
    have hall : ∀ x ∈ [V.non, .int 1, .str "", .str "abcdefghi", .str "A", .str "a b", .ref t1, .str "a1", .str n0, .str n9, .ref l1, .ref d1], OddK K H7 x := fun x hx => by
      have s1 := hnm n0 (List.mem_of_getElem? hn0)
      have s9 := hnm n9 (List.mem_of_getElem? hn9)
      have l0 := nm_len s1
      have l9 := nm_len s9
      simp only [List.mem_cons, List.not_mem_nil, or_false] at hx
      rcases hx with rfl | rfl | rfl | rfl | rfl | rfl | rfl | rfl | rfl | rfl | rfl | rfl
      · exact ⟨.inr (.inl ⟨_, .non, by rfl⟩), .odd, _, .non, by rfl⟩
      · exact ⟨.inr (.inl ⟨_, .int 1, by rfl⟩), .odd, _, .int 1, by rfl⟩
      · exact odd_str (by decide +kernel)
      · exact odd_str (by decide +kernel)
      · exact odd_str (by decide +kernel)
      · exact odd_str (by decide +kernel)
      · exact ⟨.inr (.inl ⟨_, .tup h7t, by rfl⟩), .row [.str "a"], t1, rfl, SqT.of h7t, by decide, fun y hy => by rw [List.mem_singleton.mp hy]; exact .inl ⟨_, rfl, by decide +kernel⟩⟩
      · exact odd_str (by decide +kernel)
      · exact odd_str (by omega)
      · exact odd_str (by omega)
      · exact ⟨.inr (.inl ⟨_, .lst h7l, by rfl⟩), .odd, _, .lst h7l, by rfl⟩
      · exact ⟨.inr (.inl ⟨_, .dK h7d, by rfl⟩), .odd, _, .dK h7d, by rfl⟩
    generalize hits : [V.non, .int 1, .str "", .str "abcdefghi", .str "A", .str "a b", .ref t1, .str "a1", .str n0, .str n9, .ref l1, .ref d1] = its at h7 hall
    have hil : its.length = 12 := by rw [← hits]; rfl
    have hg := List.getElem?_eq_getElem (show r.toNat < its.length by omega)
    have ho := hall _ (List.getElem_mem (show r.toNat < its.length by omega))
    generalize its[r.toNat]'(show r.toNat < its.length by omega) = odd at hg ho
    clear hall h7t h7l h7d h6 h5 h4 h3 hs1 hd1 hl1 ht1
    walk_at "rd"
    refine i_ixL h7 (show atI _ r = some odd from by have := atI_nat hg; rwa [Int.toNat_of_nonneg hr0] at this) ?_
    walk_at "rd"
    refine i_slL (SqL.of h7p) fun p8 H8 hp8 e8 h8 => ?_
    rw [cut_upto (by omega), ← List.map_take] at h8
    have hl8 : (nm.take (ns.length : Int).toNat).length ≤ 10 := by rw [List.length_take]; omega
    have hm8 : ∀ z ∈ nm.take (ns.length : Int).toNat, isNm z = true := fun z hz => hnm z (List.mem_of_mem_take hz)
    generalize nm.take (ns.length : Int).toNat = rw8 at h8 hl8 hm8
    walk_at "rd"
    refine i_tupleL (SqL.of h8) fun tr H9 ht9 e9 h9 => ?_
    have R9 : RowG K H9 tr 10 := rowG_strs (SqT.of h9) hl8 hm8
    have e79 := e8.trans e9
    walk_at "rd"
    refine i_slG R9 fun a1 H10 e10 R10 => ?_
    walk_at "rd"
    refine i_slG (R9.same e10) fun a2 H11 e11 R11 => ?_
    refine i_addG (R10.same e11) R11 (by decide) fun a3 H12 e12 R12 => ?_
    have e912 := (e10.trans e11).trans e12
    walk_at "rd"
    refine i_slL (SqL.of ((e79.trans e912) _ _ h7p)) fun p13 H13 hp13 e13 h13 => ?_
    rw [cut_upto (by omega), ← List.map_take] at h13
    walk_at "rd"
    refine i_tupleL (SqL.of h13) fun t14 H14 ht14 e14 h14 => ?_
    have R14 : RowG K H14 t14 11 := rowG_strs (SqT.of h14) (by rw [List.length_take]; omega) fun z hz => hnm z (List.mem_of_mem_take hz)
    have e914 := (e912.trans e13).trans e14
    walk_at "rd"
    refine i_slG (R9.same e914) fun a15 H15 e15 R15 => ?_
    walk_at "rd"
    refine i_newT (line_of (by simp)) fun t16 H16 ht16 e16 h16 => ?_
    have e716 := ((e79.trans e914).trans e15).trans e16
    have R16 := rowG_one h16 (ho.same e716).1
    refine i_addG (R15.same e16) R16 (by decide) fun a17 H17 e17 R17 => ?_
    walk_at "rd"
    refine i_slG (R9.same (((e914.trans e15).trans e16).trans e17)) fun a18 H18 e18 R18 => ?_
    refine i_addG (R17.same e18) R18 (by decide) fun a19 H19 e19 R19 => ?_
    have e919 := ((((e914.trans e15).trans e16).trans e17).trans e18).trans e19
    walk_at "rd"
    refine i_listA (.inr (e919.seqT (SqT.of h9))) fun l20 H20 hl20 e20 h20 => ?_
    walk_at "rd"
    refine i_newL (line_of (by simp)) fun s21 H21 hs21 e21 h21 => ?_
    have e921 := (e919.trans e20).trans e21
    walk_at "rd"
    refine i_slG (R9.same e921) fun a22 H22 e22 R22 => ?_
    walk_at "rd"
    refine i_slG (R9.same (e921.trans e22)) fun a23 H23 e23 R23 => ?_
    refine i_addG (R22.same e23) R23 (by decide) fun a24 H24 e24 R24 => ?_
    have e924 := ((e921.trans e22).trans e23).trans e24
    walk_at "rd"
    refine i_slG (R9.same e924) fun a25 H25 e25 R25 => ?_
    refine i_addG (R24.same e25) R25 (by decide) fun a26 H26 e26' R26 => ?_
    have e926 := (e924.trans e25).trans e26'
    walk_at "rd"
    refine i_slG (R9.same e926) fun a27 H27 e27 R27 => ?_
    walk_at "rd"
    refine i_newT (line_of (by simp)) fun t28 H28 ht28 e28 h28 => ?_
    have e728 := ((e79.trans e926).trans e27).trans e28
    have R28 := rowG_one h28 (ho.same e728).1
    refine i_addG (R27.same e28) R28 (by decide) fun a29 H29 e29 R29 => ?_
    have e929 := ((e926.trans e27).trans e28).trans e29
    walk_at "rd"
    refine i_slG (R9.same e929) fun a30 H30 e30 R30 => ?_
    refine i_addG (R29.same e30) R30 (by decide) fun a31 H31 e31 R31 => ?_
    have e931 := (e929.trans e30).trans e31
    walk_at "rd"
    refine i_ixH0 (hI7.hf_fz (e79.trans e931).fz) fun nv32 hN32 => ?_
    walk_at "rd"
    refine i_newL (line_of (by simp)) fun s32 H32 hs32 e32 h32 => ?_
    have e2132 : Same H21 H32 := (((((((((e22.trans e23).trans e24).trans e25).trans e26').trans e27).trans e28).trans e29).trans e30).trans e31).trans e32
    refine i_addL (e2132 _ _ h21) h32 (line_of (by simp)) fun s33 H33 hs33 e33 h33 => ?_
    have e3133 := e32.trans e33
    have e2133 := e2132.trans e33
    have e733 := (e79.trans e931).trans e3133
    refine k s33 _ H33 (fr7.same e733) (hF7.same e733) h33 fun y hy => ?_
    have e2033 := e21.trans e2133
    simp only [List.mem_append, List.mem_cons, List.not_mem_nil, or_false] at hy
    rcases hy with (rfl | rfl | rfl | rfl | rfl) | (rfl | rfl | rfl | rfl | rfl)
    · exact (R9.same (e931.trans e3133)).th (by decide)
    · exact (R12.same ((((((((e13.trans e14).trans e15).trans e16).trans e17).trans e18).trans e19).trans e20).trans e2033)).th (by decide)
    · exact (R14.same (((((((e15.trans e16).trans e17).trans e18).trans e19).trans e20).trans e2033))).th (by decide)
    · exact (R19.same (e20.trans e2033)).th (by decide)
    · exact ⟨.odd, _, .lst (e2033 _ _ h20), by rfl⟩
    · exact (R26.same ((((((e27.trans e28).trans e29).trans e30).trans e31).trans e3133))).th (by decide)
    · exact (R31.same e3133).th (by decide)
    · exact (ho.same e733).2
    · obtain ⟨na, rfl, hSn⟩ := (hN32.nm_fz e3133.fz).nm
      exact (rowG_strs hSn hfew hH.names.2).th (by decide)
    · obtain ⟨va, nv', sv', rfl, hSv, hNv, hPv⟩ := (hI7.hf_fz e733.fz).hf
      obtain ⟨na, rfl, hSn⟩ := hNv.nm
      obtain ⟨sa, sx, rfl, hSs, _⟩ := hPv.tup
      refine ⟨.row [.ref na, .ref sa], va, rfl, hSv, by simp, fun x hx => ?_⟩
      simp only [List.mem_cons, List.not_mem_nil, or_false] at hx
      rcases hx with rfl | rfl
      · exact .inr (.inr ⟨na, _, rfl, hSn⟩)
      · exact .inr (.inr ⟨sa, _, rfl, hSs⟩)
theorem i_tIf {t : TT} {ta tb : TE} {σ : L2.St} {H : Hp} {Q : VK} (k : t σ H fun c H1 => if c = true then ta σ H1 Q else tb σ H1 Q) : tIf t ta tb σ H Q := k
noncomputable def menuS : List Str := ["strange", "zz", "q", "names"]
theorem menuS_ok : ∀ z ∈ menuS, isNm z = true := by decide +kernel
theorem fst_of {ns rw : List Str} {f : Str} {r : List Str} (h : rw.filter (fun z => !decide (z ∈ ns)) = f :: r) : FstS ns rw f := by
  obtain ⟨as, bs, e, h1, h2, _⟩ := List.filter_eq_cons_iff.mp h
  refine ⟨as, bs, e, fun y hy => ?_, by simpa using h2⟩
  have := h1 y hy
  simpa using this
noncomputable def sp__law_names_right (K : PySem.W.Frag) : Sp := fun vs H Q _ => ∃ d l v ns ps, vs = [.ref d, v] ∧ Feed H d l ∧ Is K H (hfD ns ps) v ∧ Half ns ps ∧ NamesS ns ∧ ∀ H', ExtBut d H H' → Feed H' d l → Q (.bl true) H'
theorem ok__law_names_right {f : Addr} {fd : FuncData} (F : Fun K "_law_names_right" "_law_names_right" s__law_names_right f fd) (T : TopF mg) (c__law_draw : Fnd P w K mg base 1 "_law_draw" ["_law_feed_here", "_law_many"] (sp__law_draw K)) (c__law_told : Fnd P w K mg base 7 "_law_told" ["_law_word", "_law_one", "_law_thing"] (sp__law_told K)) : FnOk P w K mg base CX0 8 f fd ["_law_feed_here", "_law_half_here"] (sp__law_names_right K) := by
  refine F.ok sc__law_names_right (fun vs H Q E h => ?_) (fun cdv A outer s H vs Q E hr h => ?_)
  · obtain ⟨d, l, v, ns, ps, rfl, _⟩ := h
    rfl
  · obtain ⟨d, l, v, ns, ps, rfl, hF, hI, hH, hNS, k⟩ := h
    have hu := hu_of hr
    have hq := qa_of hr
    have hfew := hH.few
    with_reducible refine ⟨_, (pss_cons (ps_setcomp (i := 2) ["_law_name"] ["_law_half_here"] [1] (by with_unfolding_all rfl) (by with_unfolding_all rfl) (by with_unfolding_all rfl) sc__law_names_right.nd (by with_unfolding_all rfl) (by with_unfolding_all rfl) (pi_anyK (K := K) hu (pe_lst (pa_cons pe_str (pa_cons pe_str (pa_cons pe_str (pa_cons pe_str pa_nil)))))) (fun _ _ _ _ => (pg_name (i := 0) (by with_unfolding_all (show (["_law_name", "_law_half_here"] : List Str).Nodup; decide +kernel)) (by with_unfolding_all rfl) (by with_unfolding_all exact Or.inl rfl))) (gk_name (by decide)) (fun _ _ _ _ => (pif_one (pt_cmpR (op_notInK (K := K) hq) (pv 0) (pe_ix (ix_anyK (K := K) hu) (pv 1) pe_int (by with_unfolding_all exact fun _ _ => rfl)) (by with_unfolding_all rfl)))) (fun _ _ _ _ => (pv 0)))
      (pss_cons (ps_set (i := 3) sc__law_names_right.nd (by with_unfolding_all rfl) (by with_unfolding_all exact Or.inl rfl) (pe_callTy (call_listK (K := K)) (by with_unfolding_all rfl) T.b_list PyProof.Rows.Boot.«list» (pa_cons (pe_ix (ix_anyK (K := K) hu) (pv 1) pe_int (by with_unfolding_all exact fun _ _ => rfl)) pa_nil)))
      (pss_cons (ps_for PassesOwn.never (by with_unfolding_all rfl) (pi_range1 (by with_unfolding_all rfl) T.b_range (pa_cons (pe_op (op_addK (K := K)) pe_int (pe_fn c__law_draw (hr.mono (by decide)) (by with_unfolding_all rfl) (pa_cons (pv 0) (pa_cons pe_int pa_nil)))) pa_nil)) (pg_name (i := 4) sc__law_names_right.nd (by with_unfolding_all rfl) (by with_unfolding_all exact Or.inl rfl))
      (pss_one (ps_expr (pe_bmK (K := K) PySem.F.plainAttrs_list PySem.F.slot_list_insert PySem.F.type_list_insert (mm mt_insert) (pv 3) (pa_cons (pe_fn c__law_draw (hr.mono (by decide)) (by with_unfolding_all rfl) (pa_cons (pv 0) (pa_cons (pe_op (op_addK (K := K)) (pe_callB (call_lenK (K := K)) (by with_unfolding_all rfl) T.b_len PyProof.Rows.Boot.«len» (pa_cons (pv 3) pa_nil)) pe_int) pa_nil))) (pa_cons (pe_ix (ix_anyK (K := K) hu) (pv 2) (pe_fn c__law_draw (hr.mono (by decide)) (by with_unfolding_all rfl) (pa_cons (pv 0) (pa_cons (pe_callB (call_lenK (K := K)) (by with_unfolding_all rfl) T.b_len PyProof.Rows.Boot.«len» (pa_cons (pv 2) pa_nil)) pa_nil))) (by with_unfolding_all exact fun _ _ => rfl)) pa_nil))))))
      (pss_cons (ps_set (i := 5) sc__law_names_right.nd (by with_unfolding_all rfl) (by with_unfolding_all exact Or.inl rfl) (pe_ix (ix_anyK (K := K) hu) (pe_comp ["_law_name"] ["_law_half_here"] [1] (by with_unfolding_all rfl) (by with_unfolding_all rfl) (by with_unfolding_all rfl) (pi_anyK (K := K) hu (pv 3)) (fun _ _ _ _ => (pg_name (i := 0) (by with_unfolding_all (show (["_law_name", "_law_half_here"] : List Str).Nodup; decide +kernel)) (by with_unfolding_all rfl) (by with_unfolding_all exact Or.inl rfl))) (gk_name (by decide)) (fun _ _ _ _ => (pif_one (pt_cmpR (op_notInK (K := K) hq) (pv 0) (pe_ix (ix_anyK (K := K) hu) (pv 1) pe_int (by with_unfolding_all exact fun _ _ => rfl)) (by with_unfolding_all rfl)))) (fun _ _ _ _ => (pv 0))) pe_int (by with_unfolding_all exact fun _ _ => rfl)))
      (pss_cons (ps_if (PW.pt (pw_or (pt_cmpR (op_neK (K := K) hq) (pe_fn c__law_told (hr.mono (by decide)) (by with_unfolding_all rfl) (pa_cons pe_str (pa_cons (pv 1) (pa_cons (pe_callTy (call_tupleK (K := K)) (by with_unfolding_all rfl) T.b_tuple PyProof.Rows.Boot.«tuple» (pa_cons (pv 3) pa_nil)) pa_nil)))) (pe_lst (pa_cons pe_str (pa_cons (pv 5) pa_nil))) (nomark _)) (pw_or1 (pt_cmpR (op_neK (K := K) hq) (pe_fn c__law_told (hr.mono (by decide)) (by with_unfolding_all rfl) (pa_cons pe_str (pa_cons (pv 1) (pa_cons (pv 5) pa_nil)))) (pe_lst (pa_cons pe_str (pa_cons (pv 5) pa_nil))) (nomark _))))) (pss_one (ps_ret pe_bl)) pss_nil)
      (pss_one (ps_ret (pe_or (pe_cmpR (op_eqK (K := K) hq) (pe_ix (ix_anyK (K := K) hu) (pv 1) pe_int (by with_unfolding_all exact fun _ _ => rfl)) (pe_tup pa_nil) (nomark _)) (pe_one (pe_cmpR (op_eqK (K := K) hq) (pe_fn c__law_told (hr.mono (by decide)) (by with_unfolding_all rfl) (pa_cons pe_str (pa_cons (pv 1) (pa_cons (pe_ix (ix_anyK (K := K) hu) (pe_ix (ix_anyK (K := K) hu) (pv 1) pe_int (by with_unfolding_all exact fun _ _ => rfl)) pe_int (by with_unfolding_all exact fun _ _ => rfl)) pa_nil)))) (pe_op op_sub (pe_callB (call_lenK (K := K)) (by with_unfolding_all rfl) T.b_len PyProof.Rows.Boot.«len» (pa_cons (pe_ix (ix_anyK (K := K) hu) (pv 1) pe_int (by with_unfolding_all exact fun _ _ => rfl)) pa_nil)) pe_int) (nomark _))))))))))), ?_⟩
    walk_at "rd"
    refine i_newL (line_of (by simp)) fun q1 H1 hq1 e1 h1 => ?_
    have h1 : H1 q1 = some (.lst (menuS.map V.str)) := h1
    walk_at "rd"
    refine comp_lnm (SqL.of h1) (fun z => !decide (z ∈ ns)) PyData.str (fun _ => rfl) (by decide) (fun j z H2 R R' hz e2 hR hR' => ?_) (fun q2 ys2 H2 hq2 e2 h2 hL2 => ?_)
    · walk_at "rd"
      refine i_ixH0 (hI.hf_fz (e1.trans e2).fz) fun nv2 hN2 => ?_
      refine i_ninN hN2 ?_
      walk_at "rd"
      refine iteND (fun hc => ?_) (fun hc => ?_)
      · walk_at "rd"
        exact hR (by simp [hc]) _ H2 (Same.refl _) is_str
      · walk_at "rd"
        exact hR' (by simp [hc]) H2 (Same.refl _)
    obtain rfl := IsL.str_eq hL2
    have hS0 : ∀ z ∈ menuS.filter (fun z => !decide (z ∈ ns)), z ∉ ns ∧ isNm z = true := fun z hz => ⟨by simpa using (List.mem_filter.mp hz).2, menuS_ok z (List.mem_filter.mp hz).1⟩
    have hSl : 0 < (menuS.filter (fun z => !decide (z ∈ ns))).length := List.length_pos_of_mem (List.mem_filter.mpr ⟨(show ("strange" : Str) ∈ menuS by simp [menuS]), by simp [hNS.st]⟩)
    have hSm : (menuS.filter (fun z => !decide (z ∈ ns))).length ≤ 4 := List.length_filter_le _ _
    generalize menuS.filter (fun z => !decide (z ∈ ns)) = S at h2 hS0 hSl hSm hL2
    have e02 := e1.trans e2
    walk_at "rd"
    refine i_ixH0 (hI.hf_fz e02.fz) fun nv3 hN3 => ?_
    obtain ⟨na3, rfl, hS3⟩ := hN3.nm
    walk_at "rd"
    refine i_listA (.inr hS3) fun p H3 hp3 e3 h3 => ?_
    have e03 := e02.trans e3
    have hF3 := hF.same e03
    have hp0 : H p = none := e02.free hp3
    walk_at "rd"
    refine ⟨d, l, 2, rfl, hF3, by omega, by omega, fun m H4 hm0 hm1 e4 hF4 => ?_⟩
    have h4 := e4 _ _ (hF3.lst h3) h3
    have h42 := e4 _ _ (hF3.lst (e3 _ _ h2)) (e3 _ _ h2)
    have hpq : q2 ≠ p := ne_of_none h2 hp3
    have hI4 := (hI.hf_fz e03.fz).hf_fz (hF3.fz e4)
    have fr4 : ExtBut d H H4 := ExtBut.after e03 e4
    walk_at "rd"
    refine i_rngv (by omega) ?_
    refine for_by walk_range (fun j σ H5 => ∃ x4 rw, σ = [some (.ref d), some v, some (.ref q2), some (.ref p), x4, none] ∧ ExtBut d H H5 ∧ Feed H5 d l ∧ Fz H4 H5 ∧ H5 q2 = some (.lst (S.map V.str)) ∧ H5 p = some (.lst (rw.map V.str)) ∧ rw.length ≤ ns.length + j ∧ (∀ z ∈ rw, z ∈ ns ∨ z ∈ S) ∧ (0 < j → ∃ z ∈ rw, z ∈ S))
      ⟨_, ns, rfl, fr4, hF4, .refl _, h42, h4, Nat.le_refl _, fun z hz => .inl hz, fun h => absurd h (by decide)⟩ (fun _ _ _ _ => trivial) (fun j x σ H5 hx hj hP => ?_) (fun σ H5 hP => ?_)
    · obtain ⟨x4, rw, rfl, fr5, hF5, fz5, h5q, h5, hl5, hm5, hs5⟩ := hP
      obtain ⟨rfl, hj2⟩ := rng_get hx
      have hj3 : j < 2 := by have : j < (1 + m).toNat := by simpa using hj2
                             omega
      walk_at "rd"
      refine ⟨d, l, _, rfl, hF5, by rw [List.length_map]; omega, by rw [List.length_map]; omega, fun a H6 ha0 ha1 e6 hF6 => ?_⟩
      rw [List.length_map] at ha1
      have h6 := e6 _ _ (hF5.lst h5) h5
      have h6q := e6 _ _ (hF5.lst h5q) h5q
      walk_at "rd"
      refine ⟨d, l, _, rfl, hF6, by rw [List.length_map]; omega, by rw [List.length_map]; omega, fun b H7 hb0 hb1 e7 hF7 => ?_⟩
      rw [List.length_map] at hb1
      have h7 := e7 _ _ (hF6.lst h6) h6
      have h7q := e7 _ _ (hF6.lst h6q) h6q
      have hbl : b.toNat < S.length := by omega
      have hg := List.getElem?_eq_getElem hbl
      have hbm := List.getElem_mem hbl
      generalize S[b.toNat] = z at hg hbm
      walk_at "rd"
      refine i_ixL h7q (show atI _ b = some (V.str z) from by
        have := atI_nat (xs := S.map V.str) (j := b.toNat) (v := V.str z) (by rw [List.getElem?_map, hg]; rfl)
        rwa [Int.toNat_of_nonneg hb0] at this) ?_
      walk_at "rd"
      refine i_ins h7 ha0 (by rw [List.length_map]; omega) (by rw [List.length_map]; omega) fun H8 e8 h8 => ?_
      have ei : insL (rw.map V.str) a.toNat (.str z) = (rw.take a.toNat ++ z :: rw.drop a.toNat).map V.str := by
        unfold insL
        rw [List.map_append, List.map_cons, List.map_take, List.map_drop]
      rw [ei] at h8
      have fz8 : Fz H7 H8 := e8.fzL h7
      walk_at "rd"
      refine ⟨_, rw.take a.toNat ++ z :: rw.drop a.toNat, rfl, ExtBut.off (fr5.trans (e6.trans e7)) hp0 e8, hF7.put e8 (hF.nd hp0) (hF.nl hp0), ((fz5.trans (hF5.fz e6)).trans (hF6.fz e7)).trans fz8, e8 _ _ hpq h7q, h8, ?_, fun y hy => ?_, fun _ => ⟨z, by simp, hbm⟩⟩
      · rw [List.length_append, List.length_cons, List.length_take, List.length_drop]
        omega
      · rcases List.mem_append.mp hy with hy | hy
        · exact hm5 y (List.mem_of_mem_take hy)
        · rcases List.mem_cons.mp hy with rfl | hy
          · exact .inr hbm
          · exact hm5 y (List.mem_of_mem_drop hy)
    · obtain ⟨x4, rw, rfl, fr5, hF5, fz5, h5q, h5, hl5, hm5, hs5⟩ := hP
      have hcnt : ((List.range (1 + m).toNat).map fun (i : Nat) => V.int (0 + (i : Int))).length = (1 + m).toNat := by simp
      rw [hcnt] at hl5 hs5
      obtain ⟨z0, hz0, hz0S⟩ := hs5 (by omega)
      have hI5 := hI4.hf_fz fz5
      walk_at "rd"
      refine comp_lnm (SqL.of h5) (fun z => !decide (z ∈ ns)) PyData.str (fun _ => rfl) (by omega) (fun j z H6 R R' hz e6 hR hR' => ?_) (fun q6 ys6 H6 hq6 e6 h6 hL6 => ?_)
      · walk_at "rd"
        refine i_ixH0 (hI5.hf_fz e6.fz) fun nv6 hN6 => ?_
        refine i_ninN hN6 ?_
        walk_at "rd"
        refine iteND (fun hc => ?_) (fun hc => ?_)
        · walk_at "rd"
          exact hR (by simp [hc]) _ H6 (Same.refl _) is_str
        · walk_at "rd"
          exact hR' (by simp [hc]) H6 (Same.refl _)
      obtain rfl := IsL.str_eq hL6
      obtain ⟨f, r, hfr⟩ : ∃ f r, rw.filter (fun z => !decide (z ∈ ns)) = f :: r := by
        cases hc : rw.filter (fun z => !decide (z ∈ ns)) with
        | nil =>
          have : z0 ∈ rw.filter (fun z => !decide (z ∈ ns)) := List.mem_filter.mpr ⟨hz0, by simp [(hS0 z0 hz0S).1]⟩
          rw [hc] at this
          cases this
        | cons f r => exact ⟨f, r, rfl⟩
      have hfst := fst_of hfr
      have hff : f ∈ rw ∧ f ∉ ns := by
        have : f ∈ rw.filter (fun z => !decide (z ∈ ns)) := by rw [hfr]; simp
        exact ⟨(List.mem_filter.mp this).1, by simpa using (List.mem_filter.mp this).2⟩
      have hfn : isNm f = true := ((hm5 f hff.1).resolve_left hff.2 |> hS0 f).2
      rw [hfr] at h6
      have hsh : SeqAt.shaped (.list ((["name", f] : List Str).map PyData.str)) = true := fine_lst fun z hz => by
        rcases List.mem_cons.mp hz with rfl | hz
        · decide +kernel
        · rw [List.mem_singleton.mp hz]; exact (nm_ok hfn).1
      walk_at "rd"
      refine i_ixL h6 (atI_nat (j := 0) (v := .str f) rfl) ?_
      have h56 := e6 _ _ h5
      walk_at "rd"
      refine i_tupleL (SqL.of h56) fun t7 H7 ht7 e7 h7 => ?_
      have e57 := e6.trans e7
      walk_at "rd"
      refine ⟨_, v, .ref t7, rfl, .inr (.inr (.inl ⟨rfl, ns, ps, rw, f, hI5.hf_fz e57.fz, hH, is_nm (SqT.of h7), hfst, fun q8 H8 hq8 e8 h8 => ?_⟩))⟩
      have h8 : H8 q8 = some (.lst ((["name", f] : List Str).map V.str)) := h8
      walk_at "rd"
      refine i_newL (line_of (by simp)) fun q9 H9 hq9 e9 h9 => ?_
      have h9 : H9 q9 = some (.lst ((["name", f] : List Str).map V.str)) := h9
      refine i_neD (Is.of_lst (SqL.of (e9 _ _ h8)) (is_strs ["name", f])) (Is.of_lst (SqL.of h9) (is_strs ["name", f])) hsh hsh ?_
      rw [eqv_lsts, decide_eq_true rfl]
      have e59 := (e57.trans e8).trans e9
      walk_at "rd"
      refine ⟨_, v, .str f, rfl, .inr (.inr (.inr ⟨rfl, ns, ps, f, hI5.hf_fz e59.fz, hH, rfl, .inl ⟨hff.2, fun q10 H10 hq10 e10 h10 => ?_⟩⟩))⟩
      have h10 : H10 q10 = some (.lst ((["name", f] : List Str).map V.str)) := h10
      walk_at "rd"
      refine i_newL (line_of (by simp)) fun q11 H11 hq11 e11 h11 => ?_
      have h11 : H11 q11 = some (.lst ((["name", f] : List Str).map V.str)) := h11
      refine i_neD (Is.of_lst (SqL.of (e11 _ _ h10)) (is_strs ["name", f])) (Is.of_lst (SqL.of h11) (is_strs ["name", f])) hsh hsh ?_
      rw [eqv_lsts, decide_eq_true rfl]
      have e511 := (e59.trans e10).trans e11
      walk_at "rd"
      refine i_ixH0 (hI5.hf_fz e511.fz) fun nv12 hN12 => ?_
      walk_at "rd"
      refine i_newT (line_of (by simp)) fun t12 H12 ht12 e12 h12 => ?_
      have e512 := e511.trans e12
      refine i_eqD (hN12.nm_fz e12.fz) (Is.of_tup (ds := []) (SqT.of h12) .nil) (fine_nm hH.names.2 (by omega)).shaped (by rfl) ?_
      rw [eqv_nm_nil]
      walk_at "rd"
      cases hns : ns with
      | nil =>
        rw [List.isEmpty_nil]
        walk_at "rd"
        exact k H12 (fr5.same e512) (hF5.same e512)
      | cons n0 nr =>
        rw [← hns]
        rw [show ns.isEmpty = false by rw [hns]; rfl]
        walk_at "rd"
        refine i_ixH0 (hI5.hf_fz e512.fz) fun nv13 hN13 => ?_
        walk_at "rd"
        refine i_ixN hN13 (show atI ns 0 = some n0 from atI_nat (j := 0) (by rw [hns]; rfl)) ?_
        walk_at "rd"
        refine ⟨_, v, .str n0, rfl, .inr (.inr (.inr ⟨rfl, ns, ps, n0, hI5.hf_fz e512.fz, hH, rfl, .inr ⟨by rw [hns]; simp, fun H13 e13 => ?_⟩⟩))⟩
        walk_at "rd"
        refine i_ixH0 (hI5.hf_fz (e512.trans e13).fz) fun nv14 hN14 => ?_
        walk_at "rd"
        refine i_lenN hN14 ?_
        walk_at "rd"
        have hpos : 0 < ns.length := by rw [hns]; simp
        rw [show decide (V.int ((ns.length - 1 : Nat) : Int) = V.int ((ns.length : Int) - 1)) = true from decide_eq_true (by congr 1; omega)]
        exact k H13 (fr5.same (e512.trans e13)) (hF5.same (e512.trans e13))
noncomputable def spLaw (K : PySem.W.Frag) : Sp := fun vs H Q _ => ∃ (a : Addr) (ns : List Int), vs = [.ref a] ∧ SqL K H a (ns.map V.int) ∧ ns.length ≤ 63 ∧ ∀ H', Q (.bl true) H'
theorem ok_law {f : Addr} {fd : FuncData} (F : Fun K "law" "law" s_law f fd) (T : TopF mg) (c__law_feed : Fnd P w K mg base 1 "_law_feed" ["_law_script"] (sp__law_feed K)) (c__law_draw : Fnd P w K mg base 1 "_law_draw" ["_law_feed_here", "_law_many"] (sp__law_draw K)) (c__law_half : Fnd P w K mg base 4 "_law_half" ["_law_feed_here", "_law_many"] (sp__law_half K)) (c__law_told : Fnd P w K mg base 7 "_law_told" ["_law_word", "_law_one", "_law_thing"] (sp__law_told K)) (c__law_joined_right : Fnd P w K mg base 8 "_law_joined_right" ["_law_feed_here"] (sp__law_joined_right K)) (c__law_is_right : Fnd P w K mg base 1 "_law_is_right" ["_law_thing", "_law_many"] (sp__law_is_right K)) (c__law_calls : Fnd P w K mg base 4 "_law_calls" ["_law_feed_here", "_law_half_here"] (sp__law_calls K)) (c__law_names_right : Fnd P w K mg base 8 "_law_names_right" ["_law_feed_here", "_law_half_here"] (sp__law_names_right K)) : FnOk P w K mg base CX0 9 f fd ["_law_script"] (spLaw K) := by
  refine F.ok sc_law (fun vs H Q E h => ?_) (fun cdv A outer s H vs Q E hr h => ?_)
  · obtain ⟨a, ns, rfl, _⟩ := h
    rfl
  · obtain ⟨a, ns, rfl, hS, h63, k⟩ := h
    have hu := hu_of hr
    have hq := qa_of hr
    with_reducible refine ⟨_, (pss_cons (ps_set (i := 1) sc_law.nd (by with_unfolding_all rfl) (by with_unfolding_all exact Or.inl rfl) (pe_fn c__law_feed (hr.mono (by decide)) (by with_unfolding_all rfl) (pa_cons (pv 0) pa_nil)))
      (pss_cons (ps_for PassesOwn.never (by with_unfolding_all rfl) (pi_range1 (by with_unfolding_all rfl) T.b_range (pa_cons pe_int pa_nil)) (pg_name (i := 2) sc_law.nd (by with_unfolding_all rfl) (by with_unfolding_all exact Or.inl rfl))
      (pss_cons (ps_if (pt_not (pt_val (pe_fn c__law_joined_right (hr.mono (by decide)) (by with_unfolding_all rfl) (pa_cons (pv 1) pa_nil)))) (pss_one (ps_ret pe_bl)) pss_nil)
      (pss_cons (ps_set (i := 3) sc_law.nd (by with_unfolding_all rfl) (by with_unfolding_all exact Or.inl rfl) (pe_fn c__law_half (hr.mono (by decide)) (by with_unfolding_all rfl) (pa_cons (pv 1) (pa_cons (pe_fn c__law_draw (hr.mono (by decide)) (by with_unfolding_all rfl) (pa_cons (pv 1) (pa_cons pe_int pa_nil))) pa_nil))))
      (pss_cons (ps_for PassesOwn.never (by with_unfolding_all rfl) (pi_anyK (K := K) hu (pe_fn c__law_calls (hr.mono (by decide)) (by with_unfolding_all rfl) (pa_cons (pv 1) (pa_cons (pv 3) pa_nil)))) (pg_name (i := 4) sc_law.nd (by with_unfolding_all rfl) (by with_unfolding_all exact Or.inl rfl))
      (pss_cons (ps_set (i := 5) sc_law.nd (by with_unfolding_all rfl) (by with_unfolding_all exact Or.inl rfl) (pe_ifExp (pt_val (pe_fn c__law_is_right (hr.mono (by decide)) (by with_unfolding_all rfl) (pa_cons (pv 4) (pa_cons (pe_callB (call_lenK (K := K)) (by with_unfolding_all rfl) T.b_len PyProof.Rows.Boot.«len» (pa_cons (pe_ix (ix_anyK (K := K) hu) (pv 3) pe_int (by with_unfolding_all exact fun _ _ => rfl)) pa_nil)) pa_nil)))) (pe_callB (call_lenK (K := K)) (by with_unfolding_all rfl) T.b_len PyProof.Rows.Boot.«len» (pa_cons (pe_ix (ix_anyK (K := K) hu) (pv 3) pe_int (by with_unfolding_all exact fun _ _ => rfl)) pa_nil)) (pe_lst (pa_cons pe_str (pa_cons pe_str pa_nil)))))
      (pss_one (ps_if (pt_cmpR (op_neK (K := K) hq) (pe_fn c__law_told (hr.mono (by decide)) (by with_unfolding_all rfl) (pa_cons pe_str (pa_cons (pv 3) (pa_cons (pv 4) pa_nil)))) (pv 5) (nomark _)) (pss_one (ps_ret pe_bl)) pss_nil))))
      (pss_one (ps_if (pt_not (pt_val (pe_fn c__law_names_right (hr.mono (by decide)) (by with_unfolding_all rfl) (pa_cons (pv 1) (pa_cons (pv 3) pa_nil))))) (pss_one (ps_ret pe_bl)) pss_nil))))))
      (pss_one (ps_ret pe_bl)))), ?_⟩
    walk_at "rd"
    refine ⟨a, ns, rfl, hS, h63, fun d l H1 hd hl e1 hF => ?_⟩
    walk_at "rd"
    refine i_rngv (by omega) ?_
    refine for_by walk_range (fun i σ H2 => ∃ x2 x3 x4 x5, σ = [some (.ref a), some (.ref d), x2, x3, x4, x5] ∧ Feed H2 d l) ⟨_, _, _, _, rfl, hF⟩ (fun _ _ _ _ => trivial) (fun i x σ H2 hx hi hP => ?_) (fun σ H2 hP => ?_)
    · obtain ⟨x2, x3, x4, x5, rfl, hF2⟩ := hP
      walk_at "rd"
      refine ⟨d, l, rfl, hF2, fun H3 e3 hF3 => ?_⟩
      walk_at "rd"
      refine ⟨d, l, 11, rfl, hF3, by omega, by omega, fun n H4 hn0 hn1 e4 hF4 => ?_⟩
      walk_at "rd"
      refine ⟨d, l, n, rfl, hF4, by omega, by omega, fun v nm ps H5 e5 hF5 hI5 hH hlen hNS => ?_⟩
      walk_at "rd"
      refine ⟨d, l, v, nm, ps, rfl, hF5, hI5, hH, fun q ys H6 e6 hF6 h6 hT => ?_⟩
      have hI6 := hI5.hf_fz (hF5.fz e6)
      walk_at "rd"
      refine i_itL (SqL.of h6) ?_
      refine for_by (walk_list (xs := ys)) (fun j σ H7 => ∃ x4 x5, σ = [some (.ref a), some (.ref d), some x, some v, x4, x5] ∧ Same H6 H7) ⟨_, _, rfl, .refl _⟩ (fun j σ' H' hP => ?_) (fun j y σ' H7 hy hj hP => ?_) (fun σ' H7 hP => ?_)
      · obtain ⟨_, _, _, e⟩ := hP
        exact SqL.of (e _ _ h6)
      · obtain ⟨z4, z5, rfl, e7⟩ := hP
        obtain ⟨g, hg⟩ := hT y (List.mem_of_getElem? hy)
        walk_at "rd"
        refine i_tIf ?_
        walk_at "rd"
        refine i_ixH0 (hI6.hf_fz e7.fz) fun nv hN => ?_
        walk_at "rd"
        refine i_lenN hN ?_
        walk_at "rd"
        refine ⟨y, g, nm.length, rfl, tht_mono hg e7, fun H8 e8 => ?_⟩
        have e68 := e7.trans e8
        cases hb : unl g && decide (lenT g = nm.length) with
        | true =>
          rw [Bool.and_eq_true] at hb
          have hlg := of_decide_eq_true hb.2
          walk_at "rd"
          refine i_ixH0 (hI6.hf_fz e68.fz) fun nv8 hN8 => ?_
          walk_at "rd"
          refine i_lenN hN8 ?_
          walk_at "rd"
          refine ⟨_, v, y, rfl, .inr (.inl ⟨rfl, nm, ps, g, hI6.hf_fz e68.fz, hH, tht_mono hg e68, fun h => h.elim (fun h => by rw [hb.1] at h; cases h) (fun h => absurd hlg h), fun _ _ H9 e9 => ?_⟩)⟩
          walk_at "rd"
          exact ⟨_, _, rfl, e68.trans e9⟩
        | false =>
          have hbad : unl g = false ∨ lenT g ≠ nm.length := by
            rcases Bool.and_eq_false_iff.mp hb with h | h
            · exact .inl h
            · exact .inr (of_decide_eq_false h)
          walk_at "rd"
          refine i_newL (line_of (by simp)) fun q9 H9 hq9 e9 h9 => ?_
          have h9 : H9 q9 = some (.lst ((["join", "names"] : List Str).map V.str)) := h9
          have e69 := e68.trans e9
          walk_at "rd"
          refine ⟨_, v, y, rfl, .inr (.inl ⟨rfl, nm, ps, g, hI6.hf_fz e69.fz, hH, tht_mono hg e69, fun _ q10 H10 hq10 e10 h10 => ?_, fun h1 h2 => absurd hbad (by simp [h1, h2])⟩)⟩
          have h10 : H10 q10 = some (.lst ((["join", "names"] : List Str).map V.str)) := h10
          have hsh : SeqAt.shaped (.list ((["join", "names"] : List Str).map PyData.str)) = true := by decide +kernel
          walk_at "rd"
          refine i_neD (Is.of_lst (SqL.of h10) (is_strs ["join", "names"])) (Is.of_lst (SqL.of (e10 _ _ h9)) (is_strs ["join", "names"])) hsh hsh ?_
          rw [eqv_lsts, decide_eq_true rfl]
          walk_at "rd"
          exact ⟨_, _, rfl, e69.trans e10⟩
      · obtain ⟨z4, z5, rfl, e7⟩ := hP
        walk_at "rd"
        refine ⟨d, l, v, nm, ps, rfl, hF6.same e7, hI6.hf_fz e7.fz, hH, hNS, fun H8 e8 hF8 => ?_⟩
        walk_at "rd"
        exact ⟨_, _, _, _, rfl, hF8⟩
    · obtain ⟨x2, x3, x4, x5, rfl, hF2⟩ := hP
      walk_at "rd"
      exact k H2
end
theorem all_mk {l : PySem.W.OpenLaw} {w : World} {K : PySem.W.Frag} {h : Heap} {mg : Str → Option Value} {fa f0 f1 f2 f3 f4 f5 f6 f7 f8 f9 f10 f11 f12 f13 f14 f15 f16 f17 f18 f19 f20 f21 f22 f23 f24 f25 f26 f27 C_HalfError C_NoHalf C_NoName C_NoOrder C_NoJoin C_Clash : Addr} (X : K.In h) (G : h.Ns mainGlobals mg) (hfa : mg "law" = some (.ref fa))
    {od0 an0 od1 an1 od2 an2 od3 an3 od4 an4 od5 an5 od6 an6 od7 an7 od8 an8 od9 an9 od10 an10 od11 an11 od12 an12 od13 an13 od14 an14 od15 an15 od16 an16 od17 an17 od18 an18 od19 an19 od20 an20 od21 an21 od22 an22 od23 an23 od24 an24 od25 an25 od26 an26 od27 an27 : Option Addr} {sl0 sl1 sl2 sl3 sl4 sl5 sl6 sl7 sl8 sl9 sl10 sl11 sl12 sl13 sl14 sl15 sl16 sl17 sl18 sl19 sl20 sl21 sl22 sl23 sl24 sl25 sl26 sl27 : Array (Option Value)} {oc0 kV0 dc0 pm0 cd0 ct0 oc1 kV1 dc1 pm1 cd1 ct1 oc2 kV2 dc2 pm2 cd2 ct2 oc3 kV3 dc3 pm3 cd3 ct3 oc4 kV4 dc4 pm4 cd4 ct4 oc5 kV5 dc5 pm5 cd5 ct5 oc6 kV6 dc6 pm6 cd6 ct6 oc7 kV7 dc7 pm7 cd7 ct7 oc8 kV8 dc8 pm8 cd8 ct8 oc9 kV9 dc9 pm9 cd9 ct9 oc10 kV10 dc10 pm10 cd10 ct10 oc11 kV11 dc11 pm11 cd11 ct11 oc12 kV12 dc12 pm12 cd12 ct12 oc13 kV13 dc13 pm13 cd13 ct13 oc14 kV14 dc14 pm14 cd14 ct14 oc15 kV15 dc15 pm15 cd15 ct15 oc16 kV16 dc16 pm16 cd16 ct16 oc17 kV17 dc17 pm17 cd17 ct17 oc18 kV18 dc18 pm18 cd18 ct18 oc19 kV19 dc19 pm19 cd19 ct19 oc20 kV20 dc20 pm20 cd20 ct20 oc21 kV21 dc21 pm21 cd21 ct21 oc22 kV22 dc22 pm22 cd22 ct22 oc23 kV23 dc23 pm23 cd23 ct23 oc24 kV24 dc24 pm24 cd24 ct24 oc25 kV25 dc25 pm25 cd25 ct25 oc26 kV26 dc26 pm26 cd26 ct26 oc27 kV27 dc27 pm27 cd27 ct27 : Value}
    (cg : PySem.W.specialIn K (.builtin "object.__class__") "__get__" = some (some (.builtin "getset_descriptor.__get__"))) (ct : PySem.W.takesIn K (.builtin "object.__class__") = some true)
    (aX_HalfError : PySem.W.nsIn K mainGlobals "HalfError" = some (some (.ref C_HalfError)))
    (aX_NoHalf : PySem.W.nsIn K mainGlobals "NoHalf" = some (some (.ref C_NoHalf)))
    (aX_NoName : PySem.W.nsIn K mainGlobals "NoName" = some (some (.ref C_NoName)))
    (aX_NoOrder : PySem.W.nsIn K mainGlobals "NoOrder" = some (some (.ref C_NoOrder)))
    (aX_NoJoin : PySem.W.nsIn K mainGlobals "NoJoin" = some (some (.ref C_NoJoin)))
    (aX_Clash : PySem.W.nsIn K mainGlobals "Clash" = some (some (.ref C_Clash)))
    (ex_HalfError : xcIn K C_HalfError = true) (sX_HalfError : PySem.W.findIn K (.ref C_HalfError) "__setattr__" = some (some (.builtin "object.__setattr__"))) (gX_HalfError : PySem.W.findIn K (.ref C_HalfError) "__getattribute__" = some (some (.builtin "BaseException.__getattribute__"))) (tX_HalfError : PySem.W.findIn K (.ref C_HalfError) "__getattr__" = some none) (lX_HalfError : PySem.W.findIn K (.ref C_HalfError) "__class__" = some (some (.builtin "object.__class__")))
    (no_HalfError : xc0In K C_HalfError = true)
    (kX_HalfError : PySem.W.keepIn K (.ref C_HalfError) = true)
    (ex_NoHalf : xcIn K C_NoHalf = true) (sX_NoHalf : PySem.W.findIn K (.ref C_NoHalf) "__setattr__" = some (some (.builtin "object.__setattr__"))) (gX_NoHalf : PySem.W.findIn K (.ref C_NoHalf) "__getattribute__" = some (some (.builtin "BaseException.__getattribute__"))) (tX_NoHalf : PySem.W.findIn K (.ref C_NoHalf) "__getattr__" = some none) (lX_NoHalf : PySem.W.findIn K (.ref C_NoHalf) "__class__" = some (some (.builtin "object.__class__")))
    (mr_NoHalf : xcMro K C_NoHalf C_HalfError = true)
    (kX_NoHalf : PySem.W.keepIn K (.ref C_NoHalf) = true)
    (nX_NoHalf_word : PySem.W.findIn K (.ref C_NoHalf) "word" = some none)
    (nX_NoHalf_number : PySem.W.findIn K (.ref C_NoHalf) "number" = some none)
    (ex_NoName : xcIn K C_NoName = true) (sX_NoName : PySem.W.findIn K (.ref C_NoName) "__setattr__" = some (some (.builtin "object.__setattr__"))) (gX_NoName : PySem.W.findIn K (.ref C_NoName) "__getattribute__" = some (some (.builtin "BaseException.__getattribute__"))) (tX_NoName : PySem.W.findIn K (.ref C_NoName) "__getattr__" = some none) (lX_NoName : PySem.W.findIn K (.ref C_NoName) "__class__" = some (some (.builtin "object.__class__")))
    (mr_NoName : xcMro K C_NoName C_HalfError = true)
    (kX_NoName : PySem.W.keepIn K (.ref C_NoName) = true)
    (nX_NoName_name : PySem.W.findIn K (.ref C_NoName) "name" = some none)
    (ex_NoOrder : xcIn K C_NoOrder = true) (sX_NoOrder : PySem.W.findIn K (.ref C_NoOrder) "__setattr__" = some (some (.builtin "object.__setattr__"))) (gX_NoOrder : PySem.W.findIn K (.ref C_NoOrder) "__getattribute__" = some (some (.builtin "BaseException.__getattribute__"))) (tX_NoOrder : PySem.W.findIn K (.ref C_NoOrder) "__getattr__" = some none) (lX_NoOrder : PySem.W.findIn K (.ref C_NoOrder) "__class__" = some (some (.builtin "object.__class__")))
    (mr_NoOrder : xcMro K C_NoOrder C_HalfError = true)
    (no_NoOrder : xc0In K C_NoOrder = true)
    (kX_NoOrder : PySem.W.keepIn K (.ref C_NoOrder) = true)
    (ex_NoJoin : xcIn K C_NoJoin = true) (sX_NoJoin : PySem.W.findIn K (.ref C_NoJoin) "__setattr__" = some (some (.builtin "object.__setattr__"))) (gX_NoJoin : PySem.W.findIn K (.ref C_NoJoin) "__getattribute__" = some (some (.builtin "BaseException.__getattribute__"))) (tX_NoJoin : PySem.W.findIn K (.ref C_NoJoin) "__getattr__" = some none) (lX_NoJoin : PySem.W.findIn K (.ref C_NoJoin) "__class__" = some (some (.builtin "object.__class__")))
    (mr_NoJoin : xcMro K C_NoJoin C_HalfError = true)
    (kX_NoJoin : PySem.W.keepIn K (.ref C_NoJoin) = true)
    (nX_NoJoin_word : PySem.W.findIn K (.ref C_NoJoin) "word" = some none)
    (ex_Clash : xcIn K C_Clash = true) (sX_Clash : PySem.W.findIn K (.ref C_Clash) "__setattr__" = some (some (.builtin "object.__setattr__"))) (gX_Clash : PySem.W.findIn K (.ref C_Clash) "__getattribute__" = some (some (.builtin "BaseException.__getattribute__"))) (tX_Clash : PySem.W.findIn K (.ref C_Clash) "__getattr__" = some none) (lX_Clash : PySem.W.findIn K (.ref C_Clash) "__class__" = some (some (.builtin "object.__class__")))
    (mr_Clash : xcMro K C_Clash C_HalfError = true)
    (kX_Clash : PySem.W.keepIn K (.ref C_Clash) = true)
    (nX_Clash_way : PySem.W.findIn K (.ref C_Clash) "way" = some none)
    (ndX : ([C_HalfError, C_Clash, C_NoHalf, C_NoJoin, C_NoName, C_NoOrder] : List Addr).Nodup)
    (a0 : PySem.W.nsIn K mainGlobals "refuse_strangers" = some (some (.ref f0))) (l0 : K.lookup f0 = some ⟨oc0, od0, .func (PySem.W.fnOf "refuse_strangers" "refuse_strangers" (defArgs s_refuse_strangers) (defBody s_refuse_strangers) (defScope s_refuse_strangers) .none kV0 dc0 pm0 an0 cd0 ct0), sl0⟩) (c0 : PySem.W.codeIn K cd0 "refuse_strangers" = true) (k0 : PySem.W.keepIn K (.ref f0) = true)
    (a1 : PySem.W.nsIn K mainGlobals "behind_each" = some (some (.ref f1))) (l1 : K.lookup f1 = some ⟨oc1, od1, .func (PySem.W.fnOf "behind_each" "behind_each" (defArgs s_behind_each) (defBody s_behind_each) (defScope s_behind_each) .none kV1 dc1 pm1 an1 cd1 ct1), sl1⟩) (c1 : PySem.W.codeIn K cd1 "behind_each" = true) (k1 : PySem.W.keepIn K (.ref f1) = true)
    (a2 : PySem.W.nsIn K mainGlobals "closed" = some (some (.ref f2))) (l2 : K.lookup f2 = some ⟨oc2, od2, .func (PySem.W.fnOf "closed" "closed" (defArgs s_closed) (defBody s_closed) (defScope s_closed) .none kV2 dc2 pm2 an2 cd2 ct2), sl2⟩) (c2 : PySem.W.codeIn K cd2 "closed" = true) (k2 : PySem.W.keepIn K (.ref f2) = true)
    (a3 : PySem.W.nsIn K mainGlobals "has_third_between" = some (some (.ref f3))) (l3 : K.lookup f3 = some ⟨oc3, od3, .func (PySem.W.fnOf "has_third_between" "has_third_between" (defArgs s_has_third_between) (defBody s_has_third_between) (defScope s_has_third_between) .none kV3 dc3 pm3 an3 cd3 ct3), sl3⟩) (c3 : PySem.W.codeIn K cd3 "has_third_between" = true) (k3 : PySem.W.keepIn K (.ref f3) = true)
    (a4 : PySem.W.nsIn K mainGlobals "bare" = some (some (.ref f4))) (l4 : K.lookup f4 = some ⟨oc4, od4, .func (PySem.W.fnOf "bare" "bare" (defArgs s_bare) (defBody s_bare) (defScope s_bare) .none kV4 dc4 pm4 an4 cd4 ct4), sl4⟩) (c4 : PySem.W.codeIn K cd4 "bare" = true) (k4 : PySem.W.keepIn K (.ref f4) = true)
    (a5 : PySem.W.nsIn K mainGlobals "is_name" = some (some (.ref f5))) (l5 : K.lookup f5 = some ⟨oc5, od5, .func (PySem.W.fnOf "is_name" "is_name" (defArgs s_is_name) (defBody s_is_name) (defScope s_is_name) .none kV5 dc5 pm5 an5 cd5 ct5), sl5⟩) (c5 : PySem.W.codeIn K cd5 "is_name" = true) (k5 : PySem.W.keepIn K (.ref f5) = true)
    (a6 : PySem.W.nsIn K mainGlobals "are_unlike_names" = some (some (.ref f6))) (l6 : K.lookup f6 = some ⟨oc6, od6, .func (PySem.W.fnOf "are_unlike_names" "are_unlike_names" (defArgs s_are_unlike_names) (defBody s_are_unlike_names) (defScope s_are_unlike_names) .none kV6 dc6 pm6 an6 cd6 ct6), sl6⟩) (c6 : PySem.W.codeIn K cd6 "are_unlike_names" = true) (k6 : PySem.W.keepIn K (.ref f6) = true)
    (a7 : PySem.W.nsIn K mainGlobals "thinned" = some (some (.ref f7))) (l7 : K.lookup f7 = some ⟨oc7, od7, .func (PySem.W.fnOf "thinned" "thinned" (defArgs s_thinned) (defBody s_thinned) (defScope s_thinned) .none kV7 dc7 pm7 an7 cd7 ct7), sl7⟩) (c7 : PySem.W.codeIn K cd7 "thinned" = true) (k7 : PySem.W.keepIn K (.ref f7) = true)
    (a8 : PySem.W.nsIn K mainGlobals "joined_names" = some (some (.ref f8))) (l8 : K.lookup f8 = some ⟨oc8, od8, .func (PySem.W.fnOf "joined_names" "joined_names" (defArgs s_joined_names) (defBody s_joined_names) (defScope s_joined_names) .none kV8 dc8 pm8 an8 cd8 ct8), sl8⟩) (c8 : PySem.W.codeIn K cd8 "joined_names" = true) (k8 : PySem.W.keepIn K (.ref f8) = true)
    (a9 : PySem.W.nsIn K mainGlobals "above" = some (some (.ref f9))) (l9 : K.lookup f9 = some ⟨oc9, od9, .func (PySem.W.fnOf "above" "above" (defArgs s_above) (defBody s_above) (defScope s_above) .none kV9 dc9 pm9 an9 cd9 ct9), sl9⟩) (c9 : PySem.W.codeIn K cd9 "above" = true) (k9 : PySem.W.keepIn K (.ref f9) = true)
    (a10 : PySem.W.nsIn K mainGlobals "beside" = some (some (.ref f10))) (l10 : K.lookup f10 = some ⟨oc10, od10, .func (PySem.W.fnOf "beside" "beside" (defArgs s_beside) (defBody s_beside) (defScope s_beside) .none kV10 dc10 pm10 an10 cd10 ct10), sl10⟩) (c10 : PySem.W.codeIn K cd10 "beside" = true) (k10 : PySem.W.keepIn K (.ref f10) = true)
    (a11 : PySem.W.nsIn K mainGlobals "only" = some (some (.ref f11))) (l11 : K.lookup f11 = some ⟨oc11, od11, .func (PySem.W.fnOf "only" "only" (defArgs s_only) (defBody s_only) (defScope s_only) .none kV11 dc11 pm11 an11 cd11 ct11), sl11⟩) (c11 : PySem.W.codeIn K cd11 "only" = true) (k11 : PySem.W.keepIn K (.ref f11) = true)
    (a12 : PySem.W.nsIn K mainGlobals "without" = some (some (.ref f12))) (l12 : K.lookup f12 = some ⟨oc12, od12, .func (PySem.W.fnOf "without" "without" (defArgs s_without) (defBody s_without) (defScope s_without) .none kV12 dc12 pm12 an12 cd12 ct12), sl12⟩) (c12 : PySem.W.codeIn K cd12 "without" = true) (k12 : PySem.W.keepIn K (.ref f12) = true)
    (a13 : PySem.W.nsIn K mainGlobals "called" = some (some (.ref f13))) (l13 : K.lookup f13 = some ⟨oc13, od13, .func (PySem.W.fnOf "called" "called" (defArgs s_called) (defBody s_called) (defScope s_called) .none kV13 dc13 pm13 an13 cd13 ct13), sl13⟩) (c13 : PySem.W.codeIn K cd13 "called" = true) (k13 : PySem.W.keepIn K (.ref f13) = true)
    (a14 : PySem.W.nsIn K mainGlobals "_law_feed" = some (some (.ref f14))) (l14 : K.lookup f14 = some ⟨oc14, od14, .func (PySem.W.fnOf "_law_feed" "_law_feed" (defArgs s__law_feed) (defBody s__law_feed) (defScope s__law_feed) .none kV14 dc14 pm14 an14 cd14 ct14), sl14⟩) (c14 : PySem.W.codeIn K cd14 "_law_feed" = true) (k14 : PySem.W.keepIn K (.ref f14) = true)
    (a15 : PySem.W.nsIn K mainGlobals "_law_draw" = some (some (.ref f15))) (l15 : K.lookup f15 = some ⟨oc15, od15, .func (PySem.W.fnOf "_law_draw" "_law_draw" (defArgs s__law_draw) (defBody s__law_draw) (defScope s__law_draw) .none kV15 dc15 pm15 an15 cd15 ct15), sl15⟩) (c15 : PySem.W.codeIn K cd15 "_law_draw" = true) (k15 : PySem.W.keepIn K (.ref f15) = true)
    (a16 : PySem.W.nsIn K mainGlobals "_law_shuffled" = some (some (.ref f16))) (l16 : K.lookup f16 = some ⟨oc16, od16, .func (PySem.W.fnOf "_law_shuffled" "_law_shuffled" (defArgs s__law_shuffled) (defBody s__law_shuffled) (defScope s__law_shuffled) .none kV16 dc16 pm16 an16 cd16 ct16), sl16⟩) (c16 : PySem.W.codeIn K cd16 "_law_shuffled" = true) (k16 : PySem.W.keepIn K (.ref f16) = true)
    (a17 : PySem.W.nsIn K mainGlobals "_law_names" = some (some (.ref f17))) (l17 : K.lookup f17 = some ⟨oc17, od17, .func (PySem.W.fnOf "_law_names" "_law_names" (defArgs s__law_names) (defBody s__law_names) (defScope s__law_names) .none kV17 dc17 pm17 an17 cd17 ct17), sl17⟩) (c17 : PySem.W.codeIn K cd17 "_law_names" = true) (k17 : PySem.W.keepIn K (.ref f17) = true)
    (a18 : PySem.W.nsIn K mainGlobals "_law_is_laid" = some (some (.ref f18))) (l18 : K.lookup f18 = some ⟨oc18, od18, .func (PySem.W.fnOf "_law_is_laid" "_law_is_laid" (defArgs s__law_is_laid) (defBody s__law_is_laid) (defScope s__law_is_laid) .none kV18 dc18 pm18 an18 cd18 ct18), sl18⟩) (c18 : PySem.W.codeIn K cd18 "_law_is_laid" = true) (k18 : PySem.W.keepIn K (.ref f18) = true)
    (a19 : PySem.W.nsIn K mainGlobals "_law_half" = some (some (.ref f19))) (l19 : K.lookup f19 = some ⟨oc19, od19, .func (PySem.W.fnOf "_law_half" "_law_half" (defArgs s__law_half) (defBody s__law_half) (defScope s__law_half) .none kV19 dc19 pm19 an19 cd19 ct19), sl19⟩) (c19 : PySem.W.codeIn K cd19 "_law_half" = true) (k19 : PySem.W.keepIn K (.ref f19) = true)
    (a20 : PySem.W.nsIn K mainGlobals "_law_told" = some (some (.ref f20))) (l20 : K.lookup f20 = some ⟨oc20, od20, .func (PySem.W.fnOf "_law_told" "_law_told" (defArgs s__law_told) (defBody s__law_told) (defScope s__law_told) .none kV20 dc20 pm20 an20 cd20 ct20), sl20⟩) (c20 : PySem.W.codeIn K cd20 "_law_told" = true) (k20 : PySem.W.keepIn K (.ref f20) = true)
    (a21 : PySem.W.nsIn K mainGlobals "_law_joined_right" = some (some (.ref f21))) (l21 : K.lookup f21 = some ⟨oc21, od21, .func (PySem.W.fnOf "_law_joined_right" "_law_joined_right" (defArgs s__law_joined_right) (defBody s__law_joined_right) (defScope s__law_joined_right) .none kV21 dc21 pm21 an21 cd21 ct21), sl21⟩) (c21 : PySem.W.codeIn K cd21 "_law_joined_right" = true) (k21 : PySem.W.keepIn K (.ref f21) = true)
    (a22 : PySem.W.nsIn K mainGlobals "_law_is_right" = some (some (.ref f22))) (l22 : K.lookup f22 = some ⟨oc22, od22, .func (PySem.W.fnOf "_law_is_right" "_law_is_right" (defArgs s__law_is_right) (defBody s__law_is_right) (defScope s__law_is_right) .none kV22 dc22 pm22 an22 cd22 ct22), sl22⟩) (c22 : PySem.W.codeIn K cd22 "_law_is_right" = true) (k22 : PySem.W.keepIn K (.ref f22) = true)
    (a23 : PySem.W.nsIn K mainGlobals "_law_calls" = some (some (.ref f23))) (l23 : K.lookup f23 = some ⟨oc23, od23, .func (PySem.W.fnOf "_law_calls" "_law_calls" (defArgs s__law_calls) (defBody s__law_calls) (defScope s__law_calls) .none kV23 dc23 pm23 an23 cd23 ct23), sl23⟩) (c23 : PySem.W.codeIn K cd23 "_law_calls" = true) (k23 : PySem.W.keepIn K (.ref f23) = true)
    (a24 : PySem.W.nsIn K mainGlobals "_law_names_right" = some (some (.ref f24))) (l24 : K.lookup f24 = some ⟨oc24, od24, .func (PySem.W.fnOf "_law_names_right" "_law_names_right" (defArgs s__law_names_right) (defBody s__law_names_right) (defScope s__law_names_right) .none kV24 dc24 pm24 an24 cd24 ct24), sl24⟩) (c24 : PySem.W.codeIn K cd24 "_law_names_right" = true) (k24 : PySem.W.keepIn K (.ref f24) = true)
    (a25 : PySem.W.nsIn K mainGlobals "law" = some (some (.ref f25))) (l25 : K.lookup f25 = some ⟨oc25, od25, .func (PySem.W.fnOf "law" "law" (defArgs s_law) (defBody s_law) (defScope s_law) .none kV25 dc25 pm25 an25 cd25 ct25), sl25⟩) (c25 : PySem.W.codeIn K cd25 "law" = true) (k25 : PySem.W.keepIn K (.ref f25) = true)
    (a26 : PySem.W.findIn K (.ref C_NoName) "__init__" = some (some (.ref f26))) (i26 : PySem.W.isFn K (.ref f26) = true) (l26 : K.lookup f26 = some ⟨oc26, od26, .func (PySem.W.fnOf "__init__" "NoName.__init__" (defArgs s_NoName_init) (defBody s_NoName_init) (defScope s_NoName_init) .none kV26 dc26 pm26 an26 cd26 ct26), sl26⟩) (c26 : PySem.W.codeIn K cd26 "NoName.__init__" = true) (k26 : PySem.W.keepIn K (.ref f26) = true)
    (a27 : PySem.W.findIn K (.ref C_NoJoin) "__init__" = some (some (.ref f27))) (i27 : PySem.W.isFn K (.ref f27) = true) (l27 : K.lookup f27 = some ⟨oc27, od27, .func (PySem.W.fnOf "__init__" "NoJoin.__init__" (defArgs s_NoJoin_init) (defBody s_NoJoin_init) (defScope s_NoJoin_init) .none kV27 dc27 pm27 an27 cd27 ct27), sl27⟩) (c27 : PySem.W.codeIn K cd27 "NoJoin.__init__" = true) (k27 : PySem.W.keepIn K (.ref f27) = true)
    {t0 : Tok} (g0 : PySem.W.nsIn K mainGlobals "MOST_NAMES" = some (some (.int 10 t0)))
    {t1 : Tok} (g1 : PySem.W.nsIn K mainGlobals "MOST_SIGNS" = some (some (.int 8 t1)))
    {t2 : Tok} (g2 : PySem.W.nsIn K mainGlobals "SMALL_LETTERS" = some (some (.str "abcdefghijklmnopqrstuvwxyz" t2)))
    (z0 : PySem.W.nsIn K mainGlobals "ValueError" = some none)
    (z1 : PySem.W.nsIn K mainGlobals "all" = some none)
    (z2 : PySem.W.nsIn K mainGlobals "any" = some none)
    (z3 : PySem.W.nsIn K mainGlobals "dict" = some none)
    (z4 : PySem.W.nsIn K mainGlobals "isinstance" = some none)
    (z5 : PySem.W.nsIn K mainGlobals "len" = some none)
    (z6 : PySem.W.nsIn K mainGlobals "list" = some none)
    (z7 : PySem.W.nsIn K mainGlobals "range" = some none)
    (z8 : PySem.W.nsIn K mainGlobals "set" = some none)
    (z9 : PySem.W.nsIn K mainGlobals "str" = some none)
    (z10 : PySem.W.nsIn K mainGlobals "tuple" = some none)
    (z11 : PySem.W.nsIn K mainGlobals "zip" = some none)
    : ∃ fd : FuncData, (∀ (s : Shared) (v : Value), BindsTo s fd ⟨[v], []⟩ [("_law_script", v)]) ∧ ∀ base : Heap, K.In base → base.Ns mainGlobals mg → FnOk l.prog w K mg base CX0 9 fa fd ["_law_script"] (spLaw K) := by
  have e := hfa.symm.trans (PySem.W.mg_of X G a25)
  cases e
  have T : TopF mg := ⟨⟨_, PySem.W.mg_of X G g0, ⟨_, rfl⟩⟩, ⟨_, PySem.W.mg_of X G g1, ⟨_, rfl⟩⟩, ⟨_, PySem.W.mg_of X G g2, ⟨_, rfl⟩⟩, PySem.W.mg_none_of X G z0, PySem.W.mg_none_of X G z1, PySem.W.mg_none_of X G z2, PySem.W.mg_none_of X G z3, PySem.W.mg_none_of X G z4, PySem.W.mg_none_of X G z5, PySem.W.mg_none_of X G z6, PySem.W.mg_none_of X G z7, PySem.W.mg_none_of X G z8, PySem.W.mg_none_of X G z9, PySem.W.mg_none_of X G z10, PySem.W.mg_none_of X G z11⟩
  have F0 := fun_mk (st := s_refuse_strangers) l0 c0 k0
  have b0 : Binds K _ ["half", "asked"] [] := binds2 F0 fun _ _ _ _ _ _ _ _ => rfl
  have F1 := fun_mk (st := s_behind_each) l1 c1 k1
  have b1 : Binds K _ ["half"] [] := binds1 F1 fun _ _ _ _ _ _ _ => rfl
  have F2 := fun_mk (st := s_closed) l2 c2 k2
  have b2 : Binds K _ ["half"] [] := binds1 F2 fun _ _ _ _ _ _ _ => rfl
  have F3 := fun_mk (st := s_has_third_between) l3 c3 k3
  have b3 : Binds K _ ["reach", "pair"] [] := binds2 F3 fun _ _ _ _ _ _ _ _ => rfl
  have F4 := fun_mk (st := s_bare) l4 c4 k4
  have b4 : Binds K _ ["half"] [] := binds1 F4 fun _ _ _ _ _ _ _ => rfl
  have F5 := fun_mk (st := s_is_name) l5 c5 k5
  have b5 : Binds K _ ["thing"] [] := binds1 F5 fun _ _ _ _ _ _ _ => rfl
  have F6 := fun_mk (st := s_are_unlike_names) l6 c6 k6
  have b6 : Binds K _ ["thing"] [] := binds1 F6 fun _ _ _ _ _ _ _ => rfl
  have F7 := fun_mk (st := s_thinned) l7 c7 k7
  have b7 : Binds K _ ["names", "sayings"] [] := binds2 F7 fun _ _ _ _ _ _ _ _ => rfl
  have F8 := fun_mk (st := s_joined_names) l8 c8 k8
  have b8 : Binds K _ ["one", "other"] [] := binds2 F8 fun _ _ _ _ _ _ _ _ => rfl
  have F9 := fun_mk (st := s_above) l9 c9 k9
  have b9 : Binds K _ ["one", "other"] [] := binds2 F9 fun _ _ _ _ _ _ _ _ => rfl
  have F10 := fun_mk (st := s_beside) l10 c10 k10
  have b10 : Binds K _ ["one", "other"] [] := binds2 F10 fun _ _ _ _ _ _ _ _ => rfl
  have F11 := fun_mk (st := s_only) l11 c11 k11
  have b11 : Binds K _ ["half", "names"] [] := binds2 F11 fun _ _ _ _ _ _ _ _ => rfl
  have F12 := fun_mk (st := s_without) l12 c12 k12
  have b12 : Binds K _ ["half", "name"] [] := binds2 F12 fun _ _ _ _ _ _ _ _ => rfl
  have F13 := fun_mk (st := s_called) l13 c13 k13
  have b13 : Binds K _ ["half", "names"] [] := binds2 F13 fun _ _ _ _ _ _ _ _ => rfl
  have F14 := fun_mk (st := s__law_feed) l14 c14 k14
  have b14 : Binds K _ ["_law_script"] [] := binds1 F14 fun _ _ _ _ _ _ _ => rfl
  have F15 := fun_mk (st := s__law_draw) l15 c15 k15
  have b15 : Binds K _ ["_law_feed_here", "_law_many"] [] := binds2 F15 fun _ _ _ _ _ _ _ _ => rfl
  have F16 := fun_mk (st := s__law_shuffled) l16 c16 k16
  have b16 : Binds K _ ["_law_feed_here", "_law_some"] [] := binds2 F16 fun _ _ _ _ _ _ _ _ => rfl
  have F17 := fun_mk (st := s__law_names) l17 c17 k17
  have b17 : Binds K _ ["_law_feed_here"] [] := binds1 F17 fun _ _ _ _ _ _ _ => rfl
  have F18 := fun_mk (st := s__law_is_laid) l18 c18 k18
  have b18 : Binds K _ ["_law_feed_here", "_law_way", "_law_j", "_law_k", "_law_many"] [] := binds5 F18 fun _ _ _ _ _ _ _ _ _ _ _ => rfl
  have F19 := fun_mk (st := s__law_half) l19 c19 k19
  have b19 : Binds K _ ["_law_feed_here", "_law_many"] [] := binds2 F19 fun _ _ _ _ _ _ _ _ => rfl
  have F20 := fun_mk (st := s__law_told) l20 c20 k20
  have b20 : Binds K _ ["_law_word", "_law_one", "_law_thing"] [] := binds3 F20 fun _ _ _ _ _ _ _ _ _ => rfl
  have F21 := fun_mk (st := s__law_joined_right) l21 c21 k21
  have b21 : Binds K _ ["_law_feed_here"] [] := binds1 F21 fun _ _ _ _ _ _ _ => rfl
  have F22 := fun_mk (st := s__law_is_right) l22 c22 k22
  have b22 : Binds K _ ["_law_thing", "_law_many"] [] := binds2 F22 fun _ _ _ _ _ _ _ _ => rfl
  have F23 := fun_mk (st := s__law_calls) l23 c23 k23
  have b23 : Binds K _ ["_law_feed_here", "_law_half_here"] [] := binds2 F23 fun _ _ _ _ _ _ _ _ => rfl
  have F24 := fun_mk (st := s__law_names_right) l24 c24 k24
  have b24 : Binds K _ ["_law_feed_here", "_law_half_here"] [] := binds2 F24 fun _ _ _ _ _ _ _ _ => rfl
  have F25 := fun_mk (st := s_law) l25 c25 k25
  have F26 := fun_mk (st := s_NoName_init) l26 c26 k26
  have b26 : Binds K _ ["self", "name"] [] := binds2 F26 fun _ _ _ _ _ _ _ _ => rfl
  have F27 := fun_mk (st := s_NoJoin_init) l27 c27 k27
  have b27 : Binds K _ ["self", "word"] [] := binds2 F27 fun _ _ _ _ _ _ _ _ => rfl
  have x_HalfError : Xls_HalfError K mg C_HalfError C_HalfError := ⟨⟨ex_HalfError, sX_HalfError, gX_HalfError, tX_HalfError, lX_HalfError, cg, ct⟩, PySem.W.mg_of X G aX_HalfError, ⟨⟨ex_HalfError, sX_HalfError, gX_HalfError, tX_HalfError, lX_HalfError, cg, ct⟩, no_HalfError, kX_HalfError, PySem.W.mg_of X G aX_HalfError⟩⟩
  have x_NoHalf : Xls_NoHalf K mg C_NoHalf C_HalfError := ⟨⟨ex_NoHalf, sX_NoHalf, gX_NoHalf, tX_NoHalf, lX_NoHalf, cg, ct⟩, PySem.W.mg_of X G aX_NoHalf, mr_NoHalf, nX_NoHalf_word, nX_NoHalf_number⟩
  have x_NoName : Xls_NoName K mg C_NoName C_HalfError := ⟨⟨ex_NoName, sX_NoName, gX_NoName, tX_NoName, lX_NoName, cg, ct⟩, PySem.W.mg_of X G aX_NoName, mr_NoName, nX_NoName_name⟩
  have x_NoOrder : Xls_NoOrder K mg C_NoOrder C_HalfError := ⟨⟨ex_NoOrder, sX_NoOrder, gX_NoOrder, tX_NoOrder, lX_NoOrder, cg, ct⟩, PySem.W.mg_of X G aX_NoOrder, mr_NoOrder, ⟨⟨ex_NoOrder, sX_NoOrder, gX_NoOrder, tX_NoOrder, lX_NoOrder, cg, ct⟩, no_NoOrder, kX_NoOrder, PySem.W.mg_of X G aX_NoOrder⟩⟩
  have x_NoJoin : Xls_NoJoin K mg C_NoJoin C_HalfError := ⟨⟨ex_NoJoin, sX_NoJoin, gX_NoJoin, tX_NoJoin, lX_NoJoin, cg, ct⟩, PySem.W.mg_of X G aX_NoJoin, mr_NoJoin, nX_NoJoin_word⟩
  have x_Clash : Xls_Clash K mg C_Clash C_HalfError := ⟨⟨ex_Clash, sX_Clash, gX_Clash, tX_Clash, lX_Clash, cg, ct⟩, PySem.W.mg_of X G aX_Clash, mr_Clash, nX_Clash_way⟩
  refine ⟨PySem.W.fnOf "law" "law" (defArgs s_law) (defBody s_law) (defScope s_law) .none kV25 dc25 pm25 an25 cd25 ct25, fun s v => .of_eq rfl, fun base _ _ => ?_⟩
  have c_behind_each : Fnd l.prog w K mg base 1 "behind_each" ["half"] (sp_behind_each K) := ⟨_, _, ok_behind_each F1 T, PySem.W.mg_of X G a1, k1, b1⟩
  have c_has_third_between : Fnd l.prog w K mg base 1 "has_third_between" ["reach", "pair"] (sp_has_third_between K) := ⟨_, _, ok_has_third_between F3 T, PySem.W.mg_of X G a3, k3, b3⟩
  have c_is_name : Fnd l.prog w K mg base 1 "is_name" ["thing"] (sp_is_name K) := ⟨_, _, ok_is_name F5 T, PySem.W.mg_of X G a5, k5, b5⟩
  have c__law_feed : Fnd l.prog w K mg base 1 "_law_feed" ["_law_script"] (sp__law_feed K) := ⟨_, _, ok__law_feed F14 T, PySem.W.mg_of X G a14, k14, b14⟩
  have c__law_draw : Fnd l.prog w K mg base 1 "_law_draw" ["_law_feed_here", "_law_many"] (sp__law_draw K) := ⟨_, _, ok__law_draw F15 T, PySem.W.mg_of X G a15, k15, b15⟩
  have c__law_is_right : Fnd l.prog w K mg base 1 "_law_is_right" ["_law_thing", "_law_many"] (sp__law_is_right K) := ⟨_, _, ok__law_is_right F22 T, PySem.W.mg_of X G a22, k22, b22⟩
  have c_NoName_init : Mkx l.prog w K mg base 1 C_NoName "NoName" ["self", "name"] (spX C_NoName ["name"]) := ⟨_, _, ok_NoName_init F26 T x_HalfError x_NoName, x_NoName.xc, a26, i26, kX_NoName, PySem.W.mg_of X G aX_NoName, b26⟩
  have c_NoJoin_init : Mkx l.prog w K mg base 1 C_NoJoin "NoJoin" ["self", "word"] (spX C_NoJoin ["word"]) := ⟨_, _, ok_NoJoin_init F27 T x_HalfError x_NoJoin, x_NoJoin.xc, a27, i27, kX_NoJoin, PySem.W.mg_of X G aX_NoJoin, b27⟩
  have c_closed : Fnd l.prog w K mg base 2 "closed" ["half"] (sp_closed K) := ⟨_, _, ok_closed F2 T c_behind_each, PySem.W.mg_of X G a2, k2, b2⟩
  have c_are_unlike_names : Fnd l.prog w K mg base 2 "are_unlike_names" ["thing"] (sp_are_unlike_names K) := ⟨_, _, ok_are_unlike_names F6 T c_is_name, PySem.W.mg_of X G a6, k6, b6⟩
  have c__law_shuffled : Fnd l.prog w K mg base 2 "_law_shuffled" ["_law_feed_here", "_law_some"] (sp__law_shuffled K) := ⟨_, _, ok__law_shuffled F16 T c__law_draw, PySem.W.mg_of X G a16, k16, b16⟩
  have c__law_is_laid : Fnd l.prog w K mg base 2 "_law_is_laid" ["_law_feed_here", "_law_way", "_law_j", "_law_k", "_law_many"] (sp__law_is_laid K) := ⟨_, _, ok__law_is_laid F18 T c__law_draw, PySem.W.mg_of X G a18, k18, b18⟩
  have d_refuse_strangers : Fnd1 l.prog w K mg base 3 "refuse_strangers" ["half", "asked"] (spx_refuse_strangers C_NoName K) := ⟨_, _, okx_refuse_strangers F0 T x_HalfError x_NoName c_NoName_init, PySem.W.mg_of X G a0, k0, b0⟩
  have c_bare : Fnd l.prog w K mg base 3 "bare" ["half"] (sp_bare K) := ⟨_, _, ok_bare F4 T c_behind_each c_closed c_has_third_between, PySem.W.mg_of X G a4, k4, b4⟩
  have d_joined_names : Fnd1 l.prog w K mg base 3 "joined_names" ["one", "other"] (spx_joined_names C_NoJoin K) := ⟨_, _, okx_joined_names F8 T x_HalfError x_NoName x_NoJoin c_NoJoin_init, PySem.W.mg_of X G a8, k8, b8⟩
  have c__law_names : Fnd l.prog w K mg base 3 "_law_names" ["_law_feed_here"] (sp__law_names K) := ⟨_, _, ok__law_names F17 T c__law_draw c__law_shuffled, PySem.W.mg_of X G a17, k17, b17⟩
  have c_thinned : Fnd l.prog w K mg base 4 "thinned" ["names", "sayings"] (sp_thinned K) := ⟨_, _, ok_thinned F7 T c_bare, PySem.W.mg_of X G a7, k7, b7⟩
  have c__law_half : Fnd l.prog w K mg base 4 "_law_half" ["_law_feed_here", "_law_many"] (sp__law_half K) := ⟨_, _, ok__law_half F19 T c__law_draw c__law_shuffled c__law_names c__law_is_laid, PySem.W.mg_of X G a19, k19, b19⟩
  have c__law_calls : Fnd l.prog w K mg base 4 "_law_calls" ["_law_feed_here", "_law_half_here"] (sp__law_calls K) := ⟨_, _, ok__law_calls F23 T c__law_draw c__law_names, PySem.W.mg_of X G a23, k23, b23⟩
  have d_above : Fnd1 l.prog w K mg base 5 "above" ["one", "other"] (spx_above C_NoJoin K) := ⟨_, _, okx_above F9 T x_HalfError x_NoName x_NoJoin c_thinned d_joined_names, PySem.W.mg_of X G a9, k9, b9⟩
  have d_beside : Fnd1 l.prog w K mg base 5 "beside" ["one", "other"] (spx_beside C_NoJoin K) := ⟨_, _, okx_beside F10 T x_HalfError x_NoName x_NoJoin c_thinned d_joined_names, PySem.W.mg_of X G a10, k10, b10⟩
  have d_only : Fnd1 l.prog w K mg base 5 "only" ["half", "names"] (spx_only C_NoName K) := ⟨_, _, okx_only F11 T x_HalfError x_NoName c_closed c_thinned d_refuse_strangers, PySem.W.mg_of X G a11, k11, b11⟩
  have d_called : Fnd1 l.prog w K mg base 5 "called" ["half", "names"] (spx_called C_NoJoin K) := ⟨_, _, okx_called F13 T x_HalfError x_NoName x_NoJoin c_are_unlike_names c_thinned c_NoJoin_init, PySem.W.mg_of X G a13, k13, b13⟩
  have d_without : Fnd1 l.prog w K mg base 6 "without" ["half", "name"] (spx_without C_NoName K) := ⟨_, _, okx_without F12 T x_HalfError x_NoName d_refuse_strangers d_only, PySem.W.mg_of X G a12, k12, b12⟩
  have c__law_told : Fnd l.prog w K mg base 7 "_law_told" ["_law_word", "_law_one", "_law_thing"] (sp__law_told K) := ⟨_, _, ok__law_told F20 T x_HalfError x_NoHalf x_NoName x_NoOrder x_NoJoin x_Clash ndX d_above d_beside d_only d_without d_called, PySem.W.mg_of X G a20, k20, b20⟩
  have c__law_joined_right : Fnd l.prog w K mg base 8 "_law_joined_right" ["_law_feed_here"] (sp__law_joined_right K) := ⟨_, _, ok__law_joined_right F21 T c__law_draw c__law_half c__law_told, PySem.W.mg_of X G a21, k21, b21⟩
  have c__law_names_right : Fnd l.prog w K mg base 8 "_law_names_right" ["_law_feed_here", "_law_half_here"] (sp__law_names_right K) := ⟨_, _, ok__law_names_right F24 T c__law_draw c__law_told, PySem.W.mg_of X G a24, k24, b24⟩
  exact ok_law F25 T c__law_feed c__law_draw c__law_half c__law_told c__law_joined_right c__law_is_right c__law_calls c__law_names_right
theorem walk {l : PySem.W.OpenLaw} {q : Program} {loose : List Str} {XP : (Str → Option Value) → Heap → Prop} {YP : World → Heap → Prop} {d : DefRec} {K : Params → PySem.W.Frag} (hn : l.most = some 63) (hdf : d.params.defaults = [])
    (hY : ∀ (w : World) (h : Heap), YP w h → (K w.params).In h)
    (F : ∀ (w : World) (mg : Str → Option Value) (fa : Addr) (h : Heap), (K w.params).In h → h.Ns mainGlobals mg → mg d.name = some (.ref fa) →
      ∃ fd : FuncData, (∀ (s : Shared) (u : Value), BindsTo s fd ⟨[u], []⟩ [("_law_script", u)]) ∧ ∀ base : Heap, (K w.params).In base → base.Ns mainGlobals mg → FnOk l.prog w (K w.params) mg base CX0 9 fa fd ["_law_script"] (spLaw (K w.params))) :
    PySem.W.WalkO q loose XP YP l.row.toRowW d [] (fun f vs => PySem.call f vs) :=
  L2.walk_of (n := 63) (k := 9) (x := "_law_script") (CX := fun _ => CX0) (sp := fun w => spLaw (K w.params)) hn (by decide) hdf ⟨rfl, by decide, by decide, rfl⟩ hY F (fun _ _ a ns hl _ hS => ⟨a, ns, rfl, hS, hl, fun _ => rfl⟩) fun _ _ _ _ _ z => z
end K41
open PySem PySem.W PyProof.Rows
set_option maxRecDepth 100000 in
set_option maxHeartbeats 0 in
theorem PySem.Challenge.cw_halforder_k41_joins_refused_holds : PySem.Challenge.rw_halforder_k41_joins_refused.Holds := by
  w_on; o_law; k_head; (case hw => w_witness2)
  k_fill
  refine K41.walk (l := PySem.Challenge.rw_halforder_k41_joins_refused) rfl rfl (fun w h Y => PySem.W.kIn_of Y) ?F
  case F =>
    intro w mg fa h KX G hmg
    refine' K41.all_mk KX G hmg ?q_cg ?q_ct ?q_aX_HalfError ?q_aX_NoHalf ?q_aX_NoName ?q_aX_NoOrder ?q_aX_NoJoin ?q_aX_Clash ?q_ex_HalfError ?q_sX_HalfError ?q_gX_HalfError ?q_tX_HalfError ?q_lX_HalfError ?q_no_HalfError ?q_kX_HalfError ?q_ex_NoHalf ?q_sX_NoHalf ?q_gX_NoHalf ?q_tX_NoHalf ?q_lX_NoHalf ?q_mr_NoHalf ?q_kX_NoHalf ?q_nX_NoHalf_word ?q_nX_NoHalf_number ?q_ex_NoName ?q_sX_NoName ?q_gX_NoName ?q_tX_NoName ?q_lX_NoName ?q_mr_NoName ?q_kX_NoName ?q_nX_NoName_name ?q_ex_NoOrder ?q_sX_NoOrder ?q_gX_NoOrder ?q_tX_NoOrder ?q_lX_NoOrder ?q_mr_NoOrder ?q_no_NoOrder ?q_kX_NoOrder ?q_ex_NoJoin ?q_sX_NoJoin ?q_gX_NoJoin ?q_tX_NoJoin ?q_lX_NoJoin ?q_mr_NoJoin ?q_kX_NoJoin ?q_nX_NoJoin_word ?q_ex_Clash ?q_sX_Clash ?q_gX_Clash ?q_tX_Clash ?q_lX_Clash ?q_mr_Clash ?q_kX_Clash ?q_nX_Clash_way ?q_ndX ?q_a0 ?q_l0 ?q_c0 ?q_k0 ?q_a1 ?q_l1 ?q_c1 ?q_k1 ?q_a2 ?q_l2 ?q_c2 ?q_k2 ?q_a3 ?q_l3 ?q_c3 ?q_k3 ?q_a4 ?q_l4 ?q_c4 ?q_k4 ?q_a5 ?q_l5 ?q_c5 ?q_k5 ?q_a6 ?q_l6 ?q_c6 ?q_k6 ?q_a7 ?q_l7 ?q_c7 ?q_k7 ?q_a8 ?q_l8 ?q_c8 ?q_k8 ?q_a9 ?q_l9 ?q_c9 ?q_k9 ?q_a10 ?q_l10 ?q_c10 ?q_k10 ?q_a11 ?q_l11 ?q_c11 ?q_k11 ?q_a12 ?q_l12 ?q_c12 ?q_k12 ?q_a13 ?q_l13 ?q_c13 ?q_k13 ?q_a14 ?q_l14 ?q_c14 ?q_k14 ?q_a15 ?q_l15 ?q_c15 ?q_k15 ?q_a16 ?q_l16 ?q_c16 ?q_k16 ?q_a17 ?q_l17 ?q_c17 ?q_k17 ?q_a18 ?q_l18 ?q_c18 ?q_k18 ?q_a19 ?q_l19 ?q_c19 ?q_k19 ?q_a20 ?q_l20 ?q_c20 ?q_k20 ?q_a21 ?q_l21 ?q_c21 ?q_k21 ?q_a22 ?q_l22 ?q_c22 ?q_k22 ?q_a23 ?q_l23 ?q_c23 ?q_k23 ?q_a24 ?q_l24 ?q_c24 ?q_k24 ?q_a25 ?q_l25 ?q_c25 ?q_k25 ?q_a26 ?q_i26 ?q_l26 ?q_c26 ?q_k26 ?q_a27 ?q_i27 ?q_l27 ?q_c27 ?q_k27 ?q_g0 ?q_g1 ?q_g2 ?q_z0 ?q_z1 ?q_z2 ?q_z3 ?q_z4 ?q_z5 ?q_z6 ?q_z7 ?q_z8 ?q_z9 ?q_z10 ?q_z11
    (case q_cg => k_is)
    (case q_ct => k_is)
    (case q_aX_HalfError => k_is)
    (case q_aX_NoHalf => k_is)
    (case q_aX_NoName => k_is)
    (case q_aX_NoOrder => k_is)
    (case q_aX_NoJoin => k_is)
    (case q_aX_Clash => k_is)
    (case q_ex_HalfError => kernel_rfl)
    (case q_sX_HalfError => k_is)
    (case q_gX_HalfError => k_is)
    (case q_tX_HalfError => k_is)
    (case q_lX_HalfError => k_is)
    (case q_no_HalfError => kernel_rfl)
    (case q_kX_HalfError => k_is)
    (case q_ex_NoHalf => kernel_rfl)
    (case q_sX_NoHalf => k_is)
    (case q_gX_NoHalf => k_is)
    (case q_tX_NoHalf => k_is)
    (case q_lX_NoHalf => k_is)
    (case q_mr_NoHalf => kernel_rfl)
    (case q_kX_NoHalf => k_is)
    (case q_nX_NoHalf_word => k_is)
    (case q_nX_NoHalf_number => k_is)
    (case q_ex_NoName => kernel_rfl)
    (case q_sX_NoName => k_is)
    (case q_gX_NoName => k_is)
    (case q_tX_NoName => k_is)
    (case q_lX_NoName => k_is)
    (case q_mr_NoName => kernel_rfl)
    (case q_kX_NoName => k_is)
    (case q_nX_NoName_name => k_is)
    (case q_ex_NoOrder => kernel_rfl)
    (case q_sX_NoOrder => k_is)
    (case q_gX_NoOrder => k_is)
    (case q_tX_NoOrder => k_is)
    (case q_lX_NoOrder => k_is)
    (case q_mr_NoOrder => kernel_rfl)
    (case q_no_NoOrder => kernel_rfl)
    (case q_kX_NoOrder => k_is)
    (case q_ex_NoJoin => kernel_rfl)
    (case q_sX_NoJoin => k_is)
    (case q_gX_NoJoin => k_is)
    (case q_tX_NoJoin => k_is)
    (case q_lX_NoJoin => k_is)
    (case q_mr_NoJoin => kernel_rfl)
    (case q_kX_NoJoin => k_is)
    (case q_nX_NoJoin_word => k_is)
    (case q_ex_Clash => kernel_rfl)
    (case q_sX_Clash => k_is)
    (case q_gX_Clash => k_is)
    (case q_tX_Clash => k_is)
    (case q_lX_Clash => k_is)
    (case q_mr_Clash => kernel_rfl)
    (case q_kX_Clash => k_is)
    (case q_nX_Clash_way => k_is)
    (case q_ndX => decide)
    (case q_a0 => k_is)
    (case q_l0 => k_is)
    (case q_c0 => k_is)
    (case q_k0 => k_is)
    (case q_a1 => k_is)
    (case q_l1 => k_is)
    (case q_c1 => k_is)
    (case q_k1 => k_is)
    (case q_a2 => k_is)
    (case q_l2 => k_is)
    (case q_c2 => k_is)
    (case q_k2 => k_is)
    (case q_a3 => k_is)
    (case q_l3 => k_is)
    (case q_c3 => k_is)
    (case q_k3 => k_is)
    (case q_a4 => k_is)
    (case q_l4 => k_is)
    (case q_c4 => k_is)
    (case q_k4 => k_is)
    (case q_a5 => k_is)
    (case q_l5 => k_is)
    (case q_c5 => k_is)
    (case q_k5 => k_is)
    (case q_a6 => k_is)
    (case q_l6 => k_is)
    (case q_c6 => k_is)
    (case q_k6 => k_is)
    (case q_a7 => k_is)
    (case q_l7 => k_is)
    (case q_c7 => k_is)
    (case q_k7 => k_is)
    (case q_a8 => k_is)
    (case q_l8 => k_is)
    (case q_c8 => k_is)
    (case q_k8 => k_is)
    (case q_a9 => k_is)
    (case q_l9 => k_is)
    (case q_c9 => k_is)
    (case q_k9 => k_is)
    (case q_a10 => k_is)
    (case q_l10 => k_is)
    (case q_c10 => k_is)
    (case q_k10 => k_is)
    (case q_a11 => k_is)
    (case q_l11 => k_is)
    (case q_c11 => k_is)
    (case q_k11 => k_is)
    (case q_a12 => k_is)
    (case q_l12 => k_is)
    (case q_c12 => k_is)
    (case q_k12 => k_is)
    (case q_a13 => k_is)
    (case q_l13 => k_is)
    (case q_c13 => k_is)
    (case q_k13 => k_is)
    (case q_a14 => k_is)
    (case q_l14 => k_is)
    (case q_c14 => k_is)
    (case q_k14 => k_is)
    (case q_a15 => k_is)
    (case q_l15 => k_is)
    (case q_c15 => k_is)
    (case q_k15 => k_is)
    (case q_a16 => k_is)
    (case q_l16 => k_is)
    (case q_c16 => k_is)
    (case q_k16 => k_is)
    (case q_a17 => k_is)
    (case q_l17 => k_is)
    (case q_c17 => k_is)
    (case q_k17 => k_is)
    (case q_a18 => k_is)
    (case q_l18 => k_is)
    (case q_c18 => k_is)
    (case q_k18 => k_is)
    (case q_a19 => k_is)
    (case q_l19 => k_is)
    (case q_c19 => k_is)
    (case q_k19 => k_is)
    (case q_a20 => k_is)
    (case q_l20 => k_is)
    (case q_c20 => k_is)
    (case q_k20 => k_is)
    (case q_a21 => k_is)
    (case q_l21 => k_is)
    (case q_c21 => k_is)
    (case q_k21 => k_is)
    (case q_a22 => k_is)
    (case q_l22 => k_is)
    (case q_c22 => k_is)
    (case q_k22 => k_is)
    (case q_a23 => k_is)
    (case q_l23 => k_is)
    (case q_c23 => k_is)
    (case q_k23 => k_is)
    (case q_a24 => k_is)
    (case q_l24 => k_is)
    (case q_c24 => k_is)
    (case q_k24 => k_is)
    (case q_a25 => k_is)
    (case q_l25 => k_is)
    (case q_c25 => k_is)
    (case q_k25 => k_is)
    (case q_a26 => k_is)
    (case q_i26 => k_is)
    (case q_l26 => k_is)
    (case q_c26 => k_is)
    (case q_k26 => k_is)
    (case q_a27 => k_is)
    (case q_i27 => k_is)
    (case q_l27 => k_is)
    (case q_c27 => k_is)
    (case q_k27 => k_is)
    (case q_g0 => k_is)
    (case q_g1 => k_is)
    (case q_g2 => k_is)
    (case q_z0 => k_is)
    (case q_z1 => k_is)
    (case q_z2 => k_is)
    (case q_z3 => k_is)
    (case q_z4 => k_is)
    (case q_z5 => k_is)
    (case q_z6 => k_is)
    (case q_z7 => k_is)
    (case q_z8 => k_is)
    (case q_z9 => k_is)
    (case q_z10 => k_is)
    (case q_z11 => k_is)
